import PyProof.Rows.All
import Wide.All
import OpenK.AllK
import Wide.FinOn
import HandS.ForMost
import HandS.Wide
import HandS.IsInst
import HandS.TupAny
import HandS.Style
import HandS.Deep
import HandS.Conv
import HandS.Codes
import KE.KRevSl
import PySem.Challenge.RW_alldeeds_k02_names_and_forms
set_option Elab.async false
set_option linter.all false
set_option maxRecDepth 100000
namespace My
open PySem L2

/-! ### the text by places -/
def top (i : Nat) : Stmt := PySem.Challenge.pw_alldeeds_k02_names_and_forms.main.body.getD i (.Pass ⟨0, 0, 0, 0⟩)

/-! ### a def that may be called -/
structure Cal (P : Program) (w : World) (K : PySem.W.Frag) (mg : Str → Option Value) (base : Heap) (x : Str) (k : Nat) (ps : List Str) (sp : Sp) where
  f : Addr
  fd : FuncData
  ok : FnOk P w K mg base CX0 k f fd ps sp
  m : mg x = some (.ref f)
  kp : PySem.W.keepIn K (.ref f) = true
  b : Binds K fd ps []
section
variable {X : Cx} {k j : Nat} {ps : List Str} {sp : Sp} {x : Str} {p pos : Pos} {e : Expr} {es : List Expr} {t : TA}
theorem pe_callC (C : Cal X.prog X.w X.K X.mg X.base x k ps sp) (hr : Room j X.A) (ha : PA X (e :: es) t) (hk : k ≤ j := by omega) (hg : Gl X x := by rfl) (hdb : (x == ("__debug__" : Str)) = false := by decide)
    (he : starEach (e :: es) X.env = (false, eval e X.env) :: starEach es X.env := by rfl) (hpl : (backTo pos (starEach es X.env)).any (·.1) = false := by rfl) :
    PE X (.Call (.Name x p) (e :: es) [] pos) (tCall sp [] E0 t) := pe_call C.ok (hr.mono hk) hg C.m C.kp C.b .nil pass0 ha hdb he hpl
theorem pe_globE {v : V} (h : ∃ u, X.mg x = some u ∧ RelV v u) (hg : Gl X x := by rfl) (hd : (x == ("__debug__" : Str)) = false := by decide) : PE X (.Name x pos) (tC v) := by
  obtain ⟨u, hm, r⟩ := h
  exact pe_glob hg hm r hd
end

/-! ### heaps: all but the object at d is kept -/
def Keep (d : Addr) (H H' : Hp) : Prop := ∀ b o, b ≠ d → H b = some o → H' b = some o
def IsDk (H : Hp) (d : Addr) : Prop := ∃ kvs : List (Key × V), H d = some (.dK kvs)
theorem Keep.refl (d : Addr) (H : Hp) : Keep d H H := fun _ _ _ h => h
theorem Keep.trans {d : Addr} {H H1 H2 : Hp} (a : Keep d H H1) (b : Keep d H1 H2) : Keep d H H2 := fun c o n h => b c o n (a c o n h)
theorem Same.toKeep {d : Addr} {H H' : Hp} (s : Same H H') : Keep d H H' := fun c o _ h => s c o h
theorem same_new {H : Hp} {p : Addr} (h : H p = none) (o : HO) : Same H (upd H p o) := fun b u q => by rw [upd_ne (ne_of_none q h)]; exact q
theorem keep_put {d : Addr} {H : Hp} (o : HO) : Keep d H (upd H d o) := fun b u n q => by rw [upd_ne n]; exact q
theorem rd_keep {d : Addr} {H H' : Hp} {a : Addr} {o : HO} (hd : IsDk H d) (k : Keep d H H') (ho : ∀ kvs, o ≠ .dK kvs) (r : Rd H a o) : Rd H' a o := by
  obtain ⟨kvs, hd⟩ := hd
  have ne : a ≠ d := by
    rintro rfl
    rcases r with r | ⟨ob, r⟩
    · rw [hd] at r; exact ho _ (Option.some.inj r).symm
    · rw [hd] at r; cases r
  rcases r with r | ⟨ob, r⟩
  · exact .inl (k _ _ ne r)
  · exact .inr ⟨ob, k _ _ ne r⟩
variable {K : PySem.W.Frag}
theorem seqL_keep {d : Addr} {H H' : Hp} {a : Addr} {xs : List V} (hd : IsDk H d) (k : Keep d H H') (r : SqL K H a xs) : SqL K H' a xs := by
  rcases r with r | r
  · exact .inl (rd_keep hd k (fun _ z => by cases z) r)
  · exact .inr r
theorem seqT_keep {d : Addr} {H H' : Hp} {a : Addr} {xs : List V} (hd : IsDk H d) (k : Keep d H H') (r : SqT K H a xs) : SqT K H' a xs := by
  rcases r with r | r
  · exact .inl (rd_keep hd k (fun _ z => by cases z) r)
  · exact .inr r
mutual
theorem dp_keep {d : Addr} {H H' : Hp} (hd : IsDk H d) (k : Keep d H H') : ∀ (D : PyData) (v : V), Dp K H v D → Dp K H' v D
  | .none, _, h => by cases h; exact .non
  | .bool b, _, h => by cases h; exact .bl b
  | .int i, _, h => by cases h; exact .int i
  | .str x, _, h => by cases h; exact .str x
  | .list ds, _, h => by cases h with | lst hs ha => exact .lst (seqL_keep hd k hs) (dpAll_keep hd k ds _ ha)
  | .tuple ds, _, h => by cases h with | tup hs ha => exact .tup (seqT_keep hd k hs) (dpAll_keep hd k ds _ ha)
  | .dict _, _, h => by cases h
theorem dpAll_keep {d : Addr} {H H' : Hp} (hd : IsDk H d) (k : Keep d H H') : ∀ (Ds : List PyData) (vs : List V), DpAll K H vs Ds → DpAll K H' vs Ds
  | [], _, h => by cases h; exact .nil
  | D :: Ds, _, h => by cases h with | cons h1 h2 => exact .cons (dp_keep hd k D _ h1) (dpAll_keep hd k Ds _ h2)
end
/-- .. the same where nothing is changed -/
theorem rd_same {H H' : Hp} {a : Addr} {o : HO} (k : Same H H') (r : Rd H a o) : Rd H' a o := by
  rcases r with r | ⟨ob, r⟩
  · exact .inl (k _ _ r)
  · exact .inr ⟨ob, k _ _ r⟩
theorem seqT_same {H H' : Hp} {a : Addr} {xs : List V} (k : Same H H') (r : SqT K H a xs) : SqT K H' a xs := by
  rcases r with r | r
  · exact .inl (rd_same k r)
  · exact .inr r
mutual
theorem dp_same {H H' : Hp} (k : Same H H') : ∀ (D : PyData) (v : V), Dp K H v D → Dp K H' v D
  | .none, _, h => by cases h; exact .non
  | .bool b, _, h => by cases h; exact .bl b
  | .int i, _, h => by cases h; exact .int i
  | .str x, _, h => by cases h; exact .str x
  | .list ds, _, h => by cases h with | lst hs ha => exact .lst (k.seq hs) (dpAll_same k ds _ ha)
  | .tuple ds, _, h => by cases h with | tup hs ha => exact .tup (seqT_same k hs) (dpAll_same k ds _ ha)
  | .dict _, _, h => by cases h
theorem dpAll_same {H H' : Hp} (k : Same H H') : ∀ (Ds : List PyData) (vs : List V), DpAll K H vs Ds → DpAll K H' vs Ds
  | [], _, h => by cases h; exact .nil
  | D :: Ds, _, h => by cases h with | cons h1 h2 => exact .cons (dp_same k D _ h1) (dpAll_same k Ds _ h2)
end

/-! ### what isinstance says of data -/
def tagOf : PyData → String
  | .none => "NoneType" | .bool _ => "bool" | .int _ => "int" | .str _ => "str" | .list _ => "list" | .tuple _ => "tuple" | .dict _ => "dict"
theorem tyx_of {H : Hp} {v : V} {D : PyData} (h : Dp K H v D) : TyX K H v (.type (tagOf D)) := by
  cases h with
  | non => exact .base .non
  | bl b => exact .base (.bl b)
  | int i => exact .base (.int i)
  | str x => exact .base (.str x)
  | lst hs _ =>
    rcases hs with (hs | ⟨o, hs⟩) | ⟨o, its, n, lk, c, _⟩
    · exact .base (.lst hs)
    · exact .base (.frz hs)
    · exact .kList lk c
  | tup hs _ =>
    rcases hs with (hs | ⟨o, hs⟩) | ⟨o, its, n, lk, c, _⟩
    · exact .base (.tup hs)
    · exact .fTuple hs
    · exact .kTuple lk c
def isStrD : PyData → Bool | .str _ => true | _ => false
def isTupD : PyData → Bool | .tuple _ => true | _ => false
def isBoolD : PyData → Bool | .bool _ => true | _ => false
theorem kit_str (D : PyData) : PySem.W.kitOne K (.type (tagOf D)) (.type "str") = some (isStrD D) := by
  cases D <;> (refine kit_ty ?_; simp only [tagOf, isStrD]; decide +kernel)
theorem kit_tuple (D : PyData) : PySem.W.kitOne K (.type (tagOf D)) (.type "tuple") = some (isTupD D) := by
  cases D <;> (refine kit_ty ?_; simp only [tagOf, isTupD]; decide +kernel)
theorem kit_bool (D : PyData) : PySem.W.kitOne K (.type (tagOf D)) (.type "bool") = some (isBoolD D) := by
  cases D <;> (refine kit_ty ?_; simp only [tagOf, isBoolD]; decide +kernel)
theorem kit_dict_str : PySem.W.kitOne K (.type "dict") (.type "str") = some false := kit_ty (by decide +kernel)
theorem kit_dict_tuple : PySem.W.kitOne K (.type "dict") (.type "tuple") = some false := kit_ty (by decide +kernel)

/-! ### a comprehension over a text -/
theorem lc_str {x : Str} {g : TG} {tt : TT} {te : TE} {vs : List Nat} {σ : St} {H1 : Hp} {D : Addr} {Qd : Hp → Prop} (Pv : Nat → Hp → Prop) (h0 : Pv 0 (upd H1 D (.lst [])))
    (hs : ∀ i c H, x.cps.toList[i]? = some c → Pv i H → g (.str ⟨#[c]⟩) (wipe σ vs) H fun σ2 H2 => wipe σ2 vs = wipe σ vs ∧ tt σ2 H2 fun b H3 =>
      if b = true then te σ2 H3 fun y H4 => ∃ acc, H4 D = some (.lst acc) ∧ acc.length < sizeLine ∧ Pv (i + 1) (upd H4 D (.lst (acc ++ [y]))) else Pv (i + 1) H3) (hd : ∀ H, Pv x.cps.toList.length H → Qd H) :
    ∃ W : Nat → Nat → Hp → Prop, (∃ m, W 0 m (upd H1 D (.lst []))) ∧ ∀ i m H, W i m H →
      ((Its x).stop i H ∧ Qd H) ∨ ((Its x).go i H ∧ ∃ Nx : Hp → Prop, (∀ H', Nx H' → ∃ m', m' < m ∧ W (i + 1) m' H') ∧ ∀ x_1 H', (Its x).yld i H x_1 H' → g x_1 (wipe σ vs) H' fun σ2 H2 => wipe σ2 vs = wipe σ vs ∧ tt σ2 H2 fun b H3 =>
        if b = true then te σ2 H3 fun y H4 => ∃ acc, H4 D = some (.lst acc) ∧ acc.length < sizeLine ∧ Nx (upd H4 D (.lst (acc ++ [y]))) else Nx H3) := by
  refine ⟨fun i m H => m = x.cps.size - i ∧ i ≤ x.cps.size ∧ Pv i H, ⟨x.cps.size, by simp, Nat.zero_le _, h0⟩, ?_⟩
  rintro i m H ⟨rfl, hi, p⟩
  by_cases hlt : i < x.cps.size
  · refine .inr ⟨hlt, Pv (i + 1), fun H' p' => ⟨x.cps.size - (i + 1), by omega, rfl, hlt, p'⟩, fun v H' y => ?_⟩
    obtain ⟨e, c, hc, ev⟩ := y
    subst e ev
    exact hs i c _ (by rw [Array.getElem?_toList]; exact hc) p
  · have e : i = x.cps.size := by omega
    subst e
    exact .inl ⟨Nat.le_refl _, hd H p⟩
theorem same_fresh {H H' : Hp} {D : Addr} {o : HO} (k : Same H H') (n : H D = none) : Same H (upd H' D o) := fun b u q => by rw [upd_ne (ne_of_none q n)]; exact k _ _ q
theorem keep_fresh {d : Addr} {H H' : Hp} {D : Addr} {o : HO} (k : Keep d H H') (n : H D = none) : Keep d H (upd H' D o) := fun b u nd q => by rw [upd_ne (ne_of_none q n)]; exact k _ _ nd q
theorem take_next {α : Type} {xs : List α} {i : Nat} {c : α} (h : xs[i]? = some c) : xs.take (i + 1) = xs.take i ++ [c] := by
  rw [List.take_add_one, h]
  rfl

/-! ### names and forms -/
def zLetters : Str := Str.ofString "abcdefghijklmnopqrstuvwxyz"
def zDigits : Str := Str.ofString "0123456789"
def isL (c : Nat) : Bool := decide (c ∈ zLetters.cps.toList)
def isLD (c : Nat) : Bool := isL c || decide (c ∈ zDigits.cps.toList)
def isName (z : Str) : Bool := decide (1 ≤ z.length ∧ z.length ≤ 12) && ((z.cps.toList.head?.any isL) && z.cps.toList.all isLD)
def isNameD : PyData → Bool | .str z => isName z | _ => false
theorem inV_str (x : Str) : ∀ zs : List Str, inV (.str x) (zs.map V.str) = decide (x ∈ zs)
  | [] => by simp [inV]
  | z :: zs => by
    have ih := inV_str x zs
    unfold inV at ih ⊢
    rw [List.map_cons, List.any_cons, ih]
    by_cases e : z = x
    · subst e
      simp [eqV]
    · have e' : ¬ x = z := fun q => e q.symm
      simp [eqV, e, e']
def leafW : List Str := [Str.ofString "good", Str.ofString "counter"]
def halfW : List Str := [Str.ofString "both", Str.ofString "between", Str.ofString "offered", Str.ofString "chosen"]
def isForm : Nat → PyData → Bool
  | _, .tuple [.str x, n] => decide (x ∈ leafW) && isNameD n
  | 0, _ => false
  | k + 1, .tuple [.str x, a, b] => decide (x ∈ halfW) && (isForm k a && isForm k b)
  | _ + 1, _ => false
theorem isForm_tup2 (k : Nat) (a n : PyData) : isForm k (.tuple [a, n]) = (match a with | .str x => decide (x ∈ leafW) && isNameD n | _ => false) := by
  cases k <;> cases a <;> rfl
theorem isForm_tup3_0 (a b c : PyData) : isForm 0 (.tuple [a, b, c]) = false := by cases a <;> rfl
theorem isForm_tup3 (k : Nat) (a b c : PyData) : isForm (k + 1) (.tuple [a, b, c]) = (match a with | .str x => decide (x ∈ halfW) && (isForm k b && isForm k c) | _ => false) := by
  cases a <;> rfl
theorem isForm_tup_len (k : Nat) (ds : List PyData) (h2 : ds.length ≠ 2) (h3 : ds.length ≠ 3) : isForm k (.tuple ds) = false := by
  match ds, h2, h3 with
  | [], _, _ => cases k <;> rfl
  | [a], _, _ => cases k <;> cases a <;> rfl
  | [a, b], h, _ => exact absurd rfl h
  | [a, b, c], _, h => exact absurd rfl h
  | a :: b :: c :: d :: r, _, _ => cases k <;> cases a <;> rfl
theorem isForm_not_tup (k : Nat) (D : PyData) (h : isTupD D = false) : isForm k D = false := by
  cases D with
  | tuple ds => cases h
  | _ => cases k <;> rfl
def okStr (z : Str) : Bool := decide (z.length ≤ 1000) && z.cps.toList.all fun c => decide (c < 128)
mutual
def shortD : PyData → Bool
  | .str z => okStr z
  | .list xs => shortAll xs
  | .tuple xs => shortAll xs
  | .dict _ => false
  | _ => true
def shortAll : List PyData → Bool
  | [] => true
  | d :: ds => shortD d && shortAll ds
end
theorem shortAll_cons {d : PyData} {ds : List PyData} (h : shortAll (d :: ds) = true) : shortD d = true ∧ shortAll ds = true := by
  unfold shortAll at h
  exact Bool.and_eq_true_iff.mp h
theorem short_str {D : PyData} (h : shortD D = true) : ∀ z, D = .str z → z.length ≤ 1000 := by
  rintro z rfl
  unfold shortD okStr at h
  exact of_decide_eq_true (Bool.and_eq_true_iff.mp h).1
theorem strOk_of {z : Str} (h : okStr z = true) : PyData.strOk z = true := by
  unfold okStr at h
  unfold PyData.strOk
  have h2 := (Bool.and_eq_true_iff.mp h).2
  rw [List.all_eq_true] at h2
  rw [Array.all_eq_true']
  intro c hc
  have := of_decide_eq_true (h2 c (Array.mem_toList_iff.mpr hc))
  exact decide_eq_true (by omega)
mutual
theorem canLay_of : ∀ D : PyData, shortD D = true → D.canLay0 = true
  | .none, _ => by simp only [PyData.canLay0]
  | .bool _, _ => by simp only [PyData.canLay0]
  | .int _, _ => by simp only [PyData.canLay0]
  | .str x, h => by
    unfold shortD at h
    simp only [PyData.canLay0]
    exact strOk_of h
  | .list xs, h => by
    unfold shortD at h
    simp only [PyData.canLay0]
    exact canLayAll_of xs h
  | .tuple xs, h => by
    unfold shortD at h
    simp only [PyData.canLay0]
    exact canLayAll_of xs h
  | .dict _, h => by cases h
theorem canLayAll_of : ∀ xs : List PyData, shortAll xs = true → PyData.canLayAll0 xs = true
  | [], _ => by simp only [PyData.canLayAll0]
  | x :: xs, h => by
    have h' := shortAll_cons h
    simp only [PyData.canLayAll0, canLay_of x h'.1, canLayAll_of xs h'.2, Bool.and_self]
end
theorem shaped_of {D : PyData} (h : shortD D = true) (d : D.depth ≤ 64) : SeqAt.shaped D = true := by
  unfold SeqAt.shaped
  rw [canLay_of D h, decide_eq_true d]
  rfl
theorem depth_in {d : PyData} {ds : List PyData} (h : d ∈ ds) : d.depth + 1 ≤ (PyData.tuple ds).depth := by
  have key : ∀ ds : List PyData, d ∈ ds → d.depth ≤ PyData.depthAll ds := by
    intro ds
    induction ds with
    | nil => intro h; cases h
    | cons x xs ih =>
      intro h
      simp only [PyData.depthAll]
      rcases List.mem_cons.mp h with rfl | h
      · exact Nat.le_max_left _ _
      · exact Nat.le_trans (ih h) (Nat.le_max_right _ _)
  simp only [PyData.depth]
  have := key ds h
  omega
def memD (d : PyData) (zs : List Str) : Bool := match d with | .str x => decide (x ∈ zs) | _ => false
theorem any_eqv (d : PyData) : ∀ zs : List Str, ((zs.map PyData.str).any fun z => PyData.eqv z d) = memD d zs
  | [] => by cases d <;> rfl
  | z :: zs => by
    rw [List.map_cons, List.any_cons, any_eqv d zs]
    cases d with
    | str x =>
      unfold memD PyData.eqv
      by_cases e : z = x
      · subst e; simp
      · have e' : ¬ x = z := fun q => e q.symm
        simp [e, e']
    | _ => simp [memD, PyData.eqv]
theorem dpAll_strs {H : Hp} : ∀ zs : List Str, DpAll K H (zs.map V.str) (zs.map PyData.str)
  | [] => .nil
  | z :: zs => .cons (.str z) (dpAll_strs zs)
theorem dpAll_len {H : Hp} : ∀ {xs : List V} {ds : List PyData}, DpAll K H xs ds → xs.length = ds.length
  | _, _, .nil => rfl
  | _, _, .cons _ t => congrArg (· + 1) (dpAll_len t)
theorem inV_23 (n : Nat) : inV (.int n) [.int 2, .int 3] = (decide (n = 2) || decide (n = 3)) := by
  unfold inV
  simp only [List.any_cons, List.any_nil, Bool.or_false]
  have h2 : eqV (.int 2) (.int (n : Int)) = decide (n = 2) := by
    by_cases e : n = 2
    · subst e; rfl
    · rw [decide_eq_false e]
      show (if _ then _ else _) = _ <;> simp [eqV] <;> omega
  have h3 : eqV (.int 3) (.int (n : Int)) = decide (n = 3) := by
    by_cases e : n = 3
    · subst e; rfl
    · rw [decide_eq_false e]
      simp [eqV]
      omega
  rw [h2, h3]
end My

set_option Elab.async false
set_option linter.all false
set_option maxRecDepth 100000
namespace My
open PySem L2

structure Txt (K : PySem.W.Frag) (mg : Str → Option Value) where
  isinstance : mg "isinstance" = none
  len : mg "len" = none
  all : mg "all" = none
  str : mg "str" = none
  tuple : mg "tuple" = none
  int : mg "int" = none
  list : mg "list" = none
  abs : mg "abs" = none
  max : mg "max" = none
  min : mg "min" = none
  range : mg "range" = none
  bool : mg "bool" = none
  LETTERS : ∃ u, mg "LETTERS" = some u ∧ RelV (.str zLetters) u
  DIGITS : ∃ u, mg "DIGITS" = some u ∧ RelV (.str zDigits) u
  LONGEST_NAME : ∃ u, mg "LONGEST_NAME" = some u ∧ RelV (.int 12) u
  DEEPEST : ∃ u, mg "DEEPEST" = some u ∧ RelV (.int 12) u
  aLeaf : Addr
  LEAF_WORDS : ∃ u, mg "LEAF_WORDS" = some u ∧ RelV (.ref aLeaf) u
  sLeaf : ∀ H, SqT K H aLeaf (leafW.map V.str)
  aHalf : Addr
  HALVED_WORDS : ∃ u, mg "HALVED_WORDS" = some u ∧ RelV (.ref aHalf) u
  sHalf : ∀ H, SqT K H aHalf (halfW.map V.str)

/-- what is said of a name -/
def spName (K : PySem.W.Frag) : Sp := fun vs H Q _ => ∃ v, vs = [v] ∧
  ((∃ D, Dp K H v D ∧ (∀ z, D = .str z → z.length ≤ 1000) ∧ ∀ H', Same H H' → Q (.bl (isNameD D)) H') ∨ ((∃ (a : Addr) (kvs : List (Key × V)), v = .ref a ∧ H a = some (.dK kvs)) ∧ ∀ H', Same H H' → Q (.bl false) H'))

abbrev sfits_name : Stmt := top 7
abbrev Nfits_name : List Str := ["value", "sign"]
abbrev Pfits_name : List Str := ["value"]
theorem scfits_name : FnScope Nfits_name Pfits_name (defScope sfits_name) := ⟨rfl, rfl, rfl, by decide +kernel, rfl, by decide +kernel, by decide +kernel⟩
section
variable {P : Program} {w : World} {K : PySem.W.Frag} {mg : Str → Option Value} {base : Heap} {f : Addr} {fd : FuncData}

theorem ok_fits_name (T : Txt K mg) (F : Fun K "fits_name" "fits_name" sfits_name f fd) : FnOk P w K mg base CX0 2 f fd Pfits_name (spName K) := by
  refine F.ok scfits_name (fun vs H Q E h => ?_) (fun cdv A outer s H vs Q E hr h => ?_)
  · obtain ⟨v, rfl, _⟩ := h
    rfl
  obtain ⟨v, rfl, h⟩ := h
  refine ⟨_, (pss_cons (ps_if (PW.pt (pw_or (pt_not (pt_val (pe_callB call_isi rfl T.isinstance (by decide +kernel) (pa_cons (pv 0) (pa_cons (pe_bltn (v := .ty "str") rfl T.str (by decide +kernel) rfl) pa_nil))))) (pw_or1 (pt_not (pt_chain op_le op_le pe_int (pe_callB call_len rfl T.len (by decide +kernel) (pa_cons (pv 0) pa_nil)) (pe_globE T.LONGEST_NAME))))))
    (pss_one (ps_ret pe_bl))
    pss_nil)
  (pss_one (ps_ret (pe_and (pe_cmpR op_in_sign (pe_ix ix_seq (pv 0) pe_int (fun _ _ => rfl)) (pe_globE T.LETTERS) rfl) (pe_one (pe_callB (cr_all rfl) rfl T.all (by decide +kernel) (pa_cons (pe_lc (own := [("sign", 1)]) (g := (gName 1)) rfl scfits_name.nd (pi_str (pv 0)) (blkOk_by (own := [("sign", 1)]) (N := Nfits_name) (sc := defScope sfits_name) (by decide +kernel)) (fun _ _ _ _ _ => (pg_name (i := 1) scfits_name.nd rfl (Or.inl rfl))) (fun _ _ _ _ _ => pts_nil) (fun _ _ _ _ _ => (pe_or (pe_cmpR op_in_sign (pv 1) (pe_globE T.LETTERS) rfl) (pe_one (pe_cmpR op_in_sign (pv 1) (pe_globE T.DIGITS) rfl))))) pa_nil))))))), ?_⟩
  rcases h with ⟨D, hv, hz, q⟩ | ⟨⟨a, kvs, rfl, ha⟩, q⟩
  · refine ⟨_, rfl, _, _, _, _, _, rfl, .ty "str", tyx_of hv, kit_str D, _, rfl, ?_⟩
    by_cases hs : isStrD D = true
    · cases D with
      | str z =>
        cases hv
        have hz' : z.length ≤ 1000 := hz z rfl
        have hz2 : z.length ≤ sizeLine := Nat.le_of_lt (small1000 hz')
        refine iteF ⟨_, rfl, _, _, rfl, ⟨hz2, rfl⟩, 1, _, rfl, rfl, _, rfl, ?_⟩
        refine ite2 (fun c1 => ?_) (fun c1 => ?_)
        · refine ⟨_, _, rfl, rfl, _, rfl, ?_⟩
          by_cases c2 : (z.length : Int) ≤ 12
          · rw [decide_eq_true c2]
            have c1' : (1 : Int) ≤ z.length := of_decide_eq_true c1
            refine iteF ?_
            obtain ⟨c, hc⟩ : ∃ c, z.cps.toList[0]? = some c := ⟨_, List.getElem?_eq_getElem (by rw [Array.length_toList]; show 0 < z.length; omega)⟩
            refine ⟨_, rfl, .inr (.inr ⟨z, 0, c, rfl, rfl, hz2, atI_nat hc, c, zLetters, rfl, rfl, _, rfl, ?_⟩)⟩
            have hh : z.cps.toList.head? = some c := by rw [List.head?_eq_getElem?]; exact hc
            have en : isNameD (.str z) = (isL c && z.cps.toList.all isLD) := by
              show isName z = _
              unfold isName
              rw [hh, decide_eq_true (by omega : 1 ≤ z.length ∧ z.length ≤ 12)]
              rfl
            rw [en] at q
            refine ite2 (fun c3 => ?_) (fun c3 => ?_)
            · have c3' : isL c = true := c3
              rw [c3'] at q
              refine ⟨_, rfl, z, rfl, fun D nD => lc_str (x := z) (fun i H' => Same H H' ∧ H' D = some (.lst (((z.cps.toList.take i).map isLD).map V.bl))) ⟨same_new nD _, upd_same⟩ (fun i c H' hc ⟨k, e⟩ => ?_) (fun H' ⟨k, e⟩ => ?_)⟩
              · refine ⟨rfl, _, rfl, c, zLetters, rfl, rfl, _, rfl, ?_⟩
                have fin : ∀ b : Bool, b = isLD c → ∃ acc, H' D = some (HO.lst acc) ∧ acc.length < sizeLine ∧ Same H (upd H' D (.lst (acc ++ [.bl b]))) ∧
                    upd H' D (.lst (acc ++ [.bl b])) D = some (HO.lst (((z.cps.toList.take (i + 1)).map isLD).map V.bl)) := fun b eb => by
                  refine ⟨_, e, small1000 ?_, same_fresh k nD, ?_⟩
                  · rw [List.length_map, List.length_map, List.length_take]
                    have : z.cps.toList.length = z.length := Array.length_toList
                    omega
                  · rw [upd_same, take_next hc, List.map_append, List.map_append, eb]
                    rfl
                refine ite2 (fun c4 => ?_) (fun c4 => ?_)
                · refine fin true ?_
                  have : isL c = true := c4
                  unfold isLD
                  rw [this]
                  rfl
                · refine ⟨_, rfl, c, zDigits, rfl, rfl, ?_⟩
                  have : isL c = false := Bool.eq_false_iff.mpr c4
                  refine fin _ ?_
                  unfold isLD
                  rw [this]
                  rfl
              · rw [List.take_length] at e
                have g := q H' k
                refine ⟨D, z.cps.toList.map isLD, rfl, SqL.of e, ?_⟩
                have e2 : (z.cps.toList.map isLD).all id = z.cps.toList.all isLD := by rw [List.all_map]; rfl
                rw [e2]
                exact g
            · have c3' : isL c = false := Bool.eq_false_iff.mpr c3
              rw [c3'] at q
              exact q H (Same.refl H)
          · rw [decide_eq_false c2]
            refine iteT ?_
            have en : isNameD (.str z) = false := by
              show isName z = _
              unfold isName
              rw [decide_eq_false (by omega)]
              rfl
            rw [en] at q
            exact q H (Same.refl H)
        · have c1' : ¬ (1 : Int) ≤ z.length := fun c => c1 (decide_eq_true c)
          refine ⟨_, rfl, iteT ?_⟩
          have en : isNameD (.str z) = false := by
            show isName z = _
            unfold isName
            rw [decide_eq_false (by omega)]
            rfl
          rw [en] at q
          exact q H (Same.refl H)
      | _ => cases hs
    · have e : isNameD D = false := by cases D <;> first | rfl | exact absurd rfl hs
      rw [Bool.not_eq_true] at hs
      rw [hs]
      refine iteT (iteT ?_)
      have q' := q H (Same.refl H)
      rw [e] at q'
      exact q'
  · exact ⟨_, rfl, _, _, _, _, _, rfl, .ty "str", .base (.dK ha), kit_dict_str, _, rfl, iteT (iteT (q H (Same.refl H)))⟩
end
end My

set_option Elab.async false
set_option linter.all false
set_option maxRecDepth 100000
namespace My
open PySem L2
abbrev sfits_form : Stmt := top 8
abbrev Nfits_form : List Str := ["value", "room"]
abbrev Pfits_form : List Str := ["value", "room"]
theorem scfits_form : FnScope Nfits_form Pfits_form (defScope sfits_form) := ⟨rfl, rfl, rfl, by decide +kernel, rfl, by decide +kernel, by decide +kernel⟩

def spForm (K : PySem.W.Frag) (n : Nat) : Sp := fun vs H Q _ => ∃ (v : V) (k : Nat), vs = [v, .int k] ∧ k < n ∧
  ((∃ D, Dp K H v D ∧ shortD D = true ∧ ∀ H', Same H H' → Q (.bl (isForm k D)) H') ∨ ((∃ (a : Addr) (kvs : List (Key × V)), v = .ref a ∧ H a = some (.dK kvs)) ∧ ∀ H', Same H H' → Q (.bl false) H'))
section
variable {P : Program} {w : World} {K : PySem.W.Frag} {mg : Str → Option Value} {base : Heap} {f : Addr} {fd : FuncData}

theorem ok_fits_form {n : Nat} (T : Txt K mg) (F : Fun K "fits_form" "fits_form" sfits_form f fd) (Cfits_name : Cal P w K mg base "fits_name" 2 ["value"] (spName K)) (Cfits_form : Cal P w K mg base "fits_form" (2 + n) ["value", "room"] (spForm K n)) :
    FnOk P w K mg base CX0 (2 + n + 1) f fd Pfits_form (spForm K (n + 1)) := by
  refine F.ok scfits_form (fun vs H Q E h => ?_) (fun cdv A outer s H vs Q E hr h => ?_)
  · obtain ⟨v, k, rfl, _⟩ := h
    rfl
  obtain ⟨v, k, rfl, hk, h⟩ := h
  refine ⟨_, (pss_cons (ps_if (PW.pt (pw_or (pt_not (pt_val (pe_callB call_isi rfl T.isinstance (by decide +kernel) (pa_cons (pv 0) (pa_cons (pe_bltn (v := .ty "tuple") rfl T.tuple (by decide +kernel) rfl) pa_nil))))) (pw_or (pt_cmpR op_notIn_seq (pe_callB call_len rfl T.len (by decide +kernel) (pa_cons (pv 0) pa_nil)) (pe_tup (pa_cons pe_int (pa_cons pe_int pa_nil))) rfl) (pw_or1 (pt_not (pt_val (pe_callB call_isi rfl T.isinstance (by decide +kernel) (pa_cons (pe_ix ix_tup (pv 0) pe_int (fun _ _ => rfl)) (pa_cons (pe_bltn (v := .ty "str") rfl T.str (by decide +kernel) rfl) pa_nil)))))))))
    (pss_one (ps_ret pe_bl))
    pss_nil)
  (pss_cons (ps_if (pt_cmpR op_eq (pe_callB call_len rfl T.len (by decide +kernel) (pa_cons (pv 0) pa_nil)) pe_int (nomark _))
    (pss_one (ps_ret (pe_and (pe_cmpR op_in_seq (pe_ix ix_tup (pv 0) pe_int (fun _ _ => rfl)) (pe_globE T.LEAF_WORDS) rfl) (pe_one (pe_callC Cfits_name hr (pa_cons (pe_ix ix_tup (pv 0) pe_int (fun _ _ => rfl)) pa_nil))))))
    pss_nil)
  (pss_cons (ps_if (PW.pt (pw_or (pt_cmpR op_notIn_seq (pe_ix ix_tup (pv 0) pe_int (fun _ _ => rfl)) (pe_globE T.HALVED_WORDS) rfl) (pw_or1 (pt_cmpR op_eq (pv 1) pe_int (nomark _)))))
    (pss_one (ps_ret pe_bl))
    pss_nil)
  (pss_one (ps_ret (pe_and (pe_callC Cfits_form hr (pa_cons (pe_ix ix_tup (pv 0) pe_int (fun _ _ => rfl)) (pa_cons (pe_op op_sub (pv 1) pe_int) pa_nil))) (pe_one (pe_callC Cfits_form hr (pa_cons (pe_ix ix_tup (pv 0) pe_int (fun _ _ => rfl)) (pa_cons (pe_op op_sub (pv 1) pe_int) pa_nil)))))))))), ?_⟩
  rcases h with ⟨D, hv, hz, q⟩ | ⟨⟨a, kvs, rfl, ha⟩, q⟩
  · refine ⟨_, rfl, _, _, _, _, _, rfl, .ty "tuple", tyx_of hv, kit_tuple D, _, rfl, ?_⟩
    by_cases hs : isTupD D = true
    · cases D with
      | tuple ds =>
        cases hv with
        | @tup a xs _ hT hA =>
        have hl := dpAll_len hA
        refine iteF ⟨_, rfl, _, _, rfl, .inr ⟨xs, hT, rfl⟩, by show 2 ≤ sizeLine; decide, fun p np => ?_⟩
        have S1 : Same H (upd H p (.tup [.int 2, .int 3])) := same_new np _
        refine ⟨p, _, rfl, .inr (SqT.of upd_same), rfl, rfl, _, rfl, ?_⟩
        show (if (!inV (.int (xs.length : Nat)) [.int 2, .int 3]) = true then _ else _)
        rw [inV_23]
        match ds, xs, hA, hl with
        | [], [], hA, _ =>
          rw [isForm_tup_len _ _ (by simp) (by simp)] at q
          exact iteT (iteT (q _ S1))
        | [d], [x], hA, _ =>
          rw [isForm_tup_len _ _ (by simp) (by simp)] at q
          exact iteT (iteT (q _ S1))
        | [d, e], [x, y], hA, _ =>
          cases hA with | cons hx hA => cases hA with | cons hy _ =>
          have hzx := shortAll_cons (show shortAll [d, e] = true from by unfold shortD at hz; exact hz)
          have hzy := (shortAll_cons hzx.2).1
          refine ⟨_, rfl, a, _, _, x, rfl, rfl, seqT_same S1 hT, rfl, _, _, _, _, _, rfl, .ty "str", tyx_of (dp_same S1 _ _ hx), kit_str d, _, rfl, ?_⟩
          rw [isForm_tup2] at q
          by_cases hd : isStrD d = true
          · cases d with
            | str z =>
              cases hx
              refine iteF ⟨_, rfl, _, _, rfl, .inr ⟨_, seqT_same S1 hT, rfl⟩, rfl, _, rfl, ?_⟩
              refine iteT ⟨_, rfl, a, _, _, _, rfl, rfl, seqT_same S1 hT, rfl, T.aLeaf, _, rfl, .inr (T.sLeaf _), rfl, rfl, _, rfl, ?_⟩
              show (if inV (.str z) (leafW.map V.str) = true then _ else _)
              rw [inV_str]
              by_cases hm : z ∈ leafW
              · rw [decide_eq_true hm]
                refine iteT ⟨_, rfl, a, _, _, y, rfl, rfl, seqT_same S1 hT, rfl, y, rfl, .inl ⟨e, dp_same S1 _ _ hy, short_str hzy, fun H' S2 => ?_⟩⟩
                have g := q H' (S1.trans S2)
                simp only [decide_eq_true hm, Bool.true_and] at g
                exact g
              · rw [decide_eq_false hm]
                have g := q _ S1
                simp only [decide_eq_false hm, Bool.false_and] at g
                exact iteF g
            | _ => cases hd
          · rw [Bool.not_eq_true] at hd
            rw [hd]
            have g := q _ S1
            have g2 : Q (.bl false) (upd H p (.tup [.int 2, .int 3])) := by
              cases d <;> first | exact g | cases hd
            exact g2
        | [d, e, g], [x, y, z], hA, _ =>
          cases hA with | cons hx hA => cases hA with | cons hy hA => cases hA with | cons hw _ =>
          have hzx := shortAll_cons (show shortAll [d, e, g] = true from by unfold shortD at hz; exact hz)
          have hzy := shortAll_cons hzx.2
          have hzw := (shortAll_cons hzy.2).1
          refine ⟨_, rfl, a, _, _, x, rfl, rfl, seqT_same S1 hT, rfl, _, _, _, _, _, rfl, .ty "str", tyx_of (dp_same S1 _ _ hx), kit_str d, _, rfl, ?_⟩
          by_cases hd : isStrD d = true
          · cases d with
            | str t =>
              cases hx
              refine iteF ⟨_, rfl, _, _, rfl, .inr ⟨_, seqT_same S1 hT, rfl⟩, rfl, _, rfl, ?_⟩
              refine iteF ⟨_, rfl, a, _, _, _, rfl, rfl, seqT_same S1 hT, rfl, T.aHalf, _, rfl, .inr (T.sHalf _), rfl, rfl, _, rfl, ?_⟩
              show (if (!inV (.str t) (halfW.map V.str)) = true then _ else _)
              rw [inV_str]
              cases k with
              | zero =>
                rw [isForm_tup3_0] at q
                by_cases hm : t ∈ halfW
                · rw [decide_eq_true hm]
                  exact iteF ⟨_, rfl, rfl, _, rfl, iteT (q _ S1)⟩
                · rw [decide_eq_false hm]
                  exact iteT (iteT (q _ S1))
              | succ k =>
                rw [isForm_tup3] at q
                by_cases hm : t ∈ halfW
                · rw [decide_eq_true hm]
                  refine iteF ⟨_, rfl, rfl, _, rfl, ?_⟩
                  have ek : ¬ V.int ((k + 1 : Nat) : Int) = V.int 0 := fun z => by
                    have := V.int.inj z
                    omega
                  rw [decide_eq_false ek]
                  have e1 : ((k + 1 : Nat) : Int) - 1 = (k : Int) := by omega
                  refine iteF ⟨_, rfl, a, _, _, y, rfl, rfl, seqT_same S1 hT, rfl, _, rfl, _, _, rfl, rfl, ?_⟩
                  refine ⟨y, k, congrArg (fun i => [y, V.int i]) e1, by omega, .inl ⟨e, dp_same S1 _ _ hy, hzy.1, fun H2 S2 => ?_⟩⟩
                  have S3 := S1.trans S2
                  refine ⟨_, rfl, ?_⟩
                  by_cases hb : isForm k e = true
                  · rw [hb]
                    refine iteT ⟨_, rfl, a, _, _, z, rfl, rfl, seqT_same S3 hT, rfl, _, rfl, _, _, rfl, rfl, ?_⟩
                    refine ⟨z, k, congrArg (fun i => [z, V.int i]) e1, by omega, .inl ⟨g, dp_same S3 _ _ hw, hzw, fun H4 S4 => ?_⟩⟩
                    have g := q H4 (S3.trans S4)
                    simp only [decide_eq_true hm, Bool.true_and, hb] at g
                    exact g
                  · rw [Bool.not_eq_true] at hb
                    rw [hb]
                    have g := q H2 S3
                    simp only [hb, Bool.false_and, Bool.and_false] at g
                    exact iteF g
                · rw [decide_eq_false hm]
                  have g := q _ S1
                  simp only [decide_eq_false hm, Bool.false_and] at g
                  exact iteT (iteT g)
            | _ => cases hd
          · rw [Bool.not_eq_true] at hd
            rw [hd]
            have g := q _ S1
            have g2 : Q (.bl false) (upd H p (.tup [.int 2, .int 3])) := by
              cases k with
              | zero => rw [isForm_tup3_0] at g; exact g
              | succ k => rw [isForm_tup3] at g; cases d <;> first | exact g | cases hd
            exact g2
        | d :: e :: g :: i :: ds, x, hA, hl =>
          have e2 : x.length ≠ 2 := by rw [hl]; simp
          have e3 : x.length ≠ 3 := by rw [hl]; simp
          rw [decide_eq_false e2, decide_eq_false e3]
          have g := q _ S1
          rw [isForm_tup_len _ _ (by simp) (by simp)] at g
          exact iteT (iteT g)
      | _ => cases hs
    · rw [Bool.not_eq_true] at hs
      rw [hs]
      have q' := q H (Same.refl H)
      rw [isForm_not_tup k D hs] at q'
      exact iteT (iteT q')
  · exact ⟨_, rfl, _, _, _, _, _, rfl, .ty "tuple", .base (.dK ha), kit_dict_tuple, _, rfl, iteT (iteT (q H (Same.refl H)))⟩
end
end My

set_option Elab.async false
set_option linter.all false
set_option maxRecDepth 100000
namespace My
open PySem L2
abbrev s_law_is_name : Stmt := top 20
abbrev N_law_is_name : List Str := ["_law_value", "_law_sign"]
abbrev P_law_is_name : List Str := ["_law_value"]
theorem sc_law_is_name : FnScope N_law_is_name P_law_is_name (defScope s_law_is_name) := ⟨rfl, rfl, rfl, by decide +kernel, rfl, by decide +kernel, by decide +kernel⟩
abbrev s_law_is_form : Stmt := top 21
abbrev N_law_is_form : List Str := ["_law_value", "_law_tall"]
abbrev P_law_is_form : List Str := ["_law_value", "_law_tall"]
theorem sc_law_is_form : FnScope N_law_is_form P_law_is_form (defScope s_law_is_form) := ⟨rfl, rfl, rfl, by decide +kernel, rfl, by decide +kernel, by decide +kernel⟩
abbrev sis_name : Stmt := top 10
abbrev Nis_name : List Str := ["value"]
abbrev Pis_name : List Str := ["value"]
theorem scis_name : FnScope Nis_name Pis_name (defScope sis_name) := ⟨rfl, rfl, rfl, by decide +kernel, rfl, by decide +kernel, by decide +kernel⟩
abbrev sis_form : Stmt := top 11
abbrev Nis_form : List Str := ["value"]
abbrev Pis_form : List Str := ["value"]
theorem scis_form : FnScope Nis_form Pis_form (defScope sis_form) := ⟨rfl, rfl, rfl, by decide +kernel, rfl, by decide +kernel, by decide +kernel⟩
abbrev s_law_says : Stmt := top 25
abbrev N_law_says : List Str := ["_law_told", "_law_due"]
abbrev P_law_says : List Str := ["_law_told", "_law_due"]
theorem sc_law_says : FnScope N_law_says P_law_says (defScope s_law_says) := ⟨rfl, rfl, rfl, by decide +kernel, rfl, by decide +kernel, by decide +kernel⟩
def zBoth : Str := Str.ofString "abcdefghijklmnopqrstuvwxyz0123456789"
theorem isLD_both (c : Nat) : decide (c ∈ zBoth.cps.toList) = isLD c := by
  have e : zBoth.cps.toList = zLetters.cps.toList ++ zDigits.cps.toList := by decide +kernel
  unfold isLD isL
  rw [e, ← Bool.decide_or]
  exact decide_eq_decide.mpr List.mem_append
theorem head_some {z : Str} (h : 1 ≤ z.length) : ∃ c, z.cps.toList[0]? = some c := ⟨_, List.getElem?_eq_getElem (by rw [Array.length_toList]; show 0 < z.length; omega)⟩
theorem isName_eq {z : Str} {c : Nat} (h1 : 1 ≤ z.length) (h2 : z.length ≤ 12) (hc : z.cps.toList[0]? = some c) : isName z = (isL c && z.cps.toList.all isLD) := by
  have hh : z.cps.toList.head? = some c := by rw [List.head?_eq_getElem?]; exact hc
  unfold isName
  rw [hh, decide_eq_true ⟨h1, h2⟩]
  rfl
theorem isName_out {z : Str} (h : ¬ (1 ≤ z.length ∧ z.length ≤ 12)) : isName z = false := by
  unfold isName
  rw [decide_eq_false h]
  rfl
theorem isForm_m2 (k : Nat) (a n : PyData) : isForm k (.tuple [a, n]) = (memD a leafW && isNameD n) := by rw [isForm_tup2]; cases a <;> rfl
theorem isForm_m3 (k : Nat) (a b c : PyData) : isForm (k + 1) (.tuple [a, b, c]) = (memD a halfW && (isForm k b && isForm k c)) := by rw [isForm_tup3]; cases a <;> rfl
/-- what is said of a form, all of which may be compared -/
def spFormL (K : PySem.W.Frag) (n : Nat) : Sp := fun vs H Q _ => ∃ (v : V) (k : Nat) (D : PyData), vs = [v, .int k] ∧ k < n ∧ Dp K H v D ∧ shortD D = true ∧ D.depth ≤ 60 ∧ ∀ H', Same H H' → Q (.bl (isForm k D)) H'
def spIsForm (K : PySem.W.Frag) : Sp := fun vs H Q _ => ∃ (v : V), vs = [v] ∧
  ((∃ D, Dp K H v D ∧ shortD D = true ∧ ∀ H', Same H H' → Q (.bl (isForm 12 D)) H') ∨ ((∃ (a : Addr) (kvs : List (Key × V)), v = .ref a ∧ H a = some (.dK kvs)) ∧ ∀ H', Same H H' → Q (.bl false) H'))
def spSays : Sp := fun vs H Q _ => ∃ a b : Bool, vs = [.bl a, .bl b] ∧ Q (.bl (a == b)) H
section
variable {P : Program} {w : World} {K : PySem.W.Frag} {mg : Str → Option Value} {base : Heap} {f : Addr} {fd : FuncData}
theorem ok_law_is_name (T : Txt K mg) (F : Fun K "_law_is_name" "_law_is_name" s_law_is_name f fd) : FnOk P w K mg base CX0 2 f fd P_law_is_name (spName K) := by
  refine F.ok sc_law_is_name (fun vs H Q E h => ?_) (fun cdv A outer s H vs Q E hr h => ?_)
  · obtain ⟨v, rfl, _⟩ := h
    rfl
  obtain ⟨v, rfl, h⟩ := h
  refine ⟨_, (pss_cons (ps_if (PW.pt (pw_or (pt_not (pt_val (pe_callB call_isi rfl T.isinstance (by decide +kernel) (pa_cons (pv 0) (pa_cons (pe_bltn (v := .ty "str") rfl T.str (by decide +kernel) rfl) pa_nil))))) (pw_or (pt_not (pt_chain op_le op_le pe_int (pe_callB call_len rfl T.len (by decide +kernel) (pa_cons (pv 0) pa_nil)) pe_int)) (pw_or1 (pt_cmpR op_notIn_sign (pe_ix ix_str (pv 0) pe_int (fun _ _ => rfl)) pe_str rfl)))))
    (pss_one (ps_ret pe_bl))
    pss_nil)
  (pss_one (ps_ret (pe_callB (cr_all rfl) rfl T.all (by decide +kernel) (pa_cons (pe_lc (own := [("_law_sign", 1)]) (g := (gName 1)) rfl sc_law_is_name.nd (pi_str (pv 0)) (blkOk_by (own := [("_law_sign", 1)]) (N := N_law_is_name) (sc := defScope s_law_is_name) (by decide +kernel)) (fun _ _ _ _ _ => (pg_name (i := 1) sc_law_is_name.nd rfl (Or.inl rfl))) (fun _ _ _ _ _ => pts_nil) (fun _ _ _ _ _ => (pe_cmpR op_in_sign (pv 1) pe_str rfl))) pa_nil))))), ?_⟩
  rcases h with ⟨D, hv, hz, q⟩ | ⟨⟨a, kvs, rfl, ha⟩, q⟩
  · refine ⟨_, rfl, _, _, _, _, _, rfl, .ty "str", tyx_of hv, kit_str D, _, rfl, ?_⟩
    by_cases hs : isStrD D = true
    · cases D with
      | str z =>
        cases hv
        have hz' : z.length ≤ 1000 := hz z rfl
        have hz2 : z.length ≤ sizeLine := Nat.le_of_lt (small1000 hz')
        refine iteF ⟨_, rfl, _, _, rfl, ⟨hz2, rfl⟩, 1, _, rfl, rfl, _, rfl, ?_⟩
        refine ite2 (fun c1 => ?_) (fun c1 => ?_)
        · refine ⟨_, _, rfl, rfl, _, rfl, ?_⟩
          by_cases c2 : (z.length : Int) ≤ 12
          · rw [decide_eq_true c2]
            have c1' : (1 : Int) ≤ z.length := of_decide_eq_true c1
            obtain ⟨c, hc⟩ := head_some (z := z) (by omega)
            have en : isNameD (.str z) = (isL c && z.cps.toList.all isLD) := isName_eq (by omega) (by omega) hc
            rw [en] at q
            refine iteF ⟨_, rfl, z, 0, c, rfl, rfl, hz2, atI_nat hc, c, zLetters, rfl, rfl, _, rfl, ?_⟩
            show (if (!isL c) = true then _ else _)
            by_cases c3 : isL c = true
            · rw [c3] at q ⊢
              refine iteF ?_
              refine ⟨_, rfl, z, rfl, fun D nD => lc_str (x := z) (fun i H' => Same H H' ∧ H' D = some (.lst (((z.cps.toList.take i).map isLD).map V.bl))) ⟨same_new nD _, upd_same⟩ (fun i c H' hc ⟨k, e⟩ => ?_) (fun H' ⟨k, e⟩ => ?_)⟩
              · refine ⟨rfl, _, rfl, c, zBoth, rfl, rfl, ?_⟩
                refine ⟨_, e, small1000 ?_, same_fresh k nD, ?_⟩
                · rw [List.length_map, List.length_map, List.length_take]
                  have : z.cps.toList.length = z.length := Array.length_toList
                  omega
                · rw [upd_same, take_next hc, List.map_append, List.map_append, isLD_both]
                  rfl
              · rw [List.take_length] at e
                have g := q H' k
                refine ⟨D, z.cps.toList.map isLD, rfl, SqL.of e, ?_⟩
                have e2 : (z.cps.toList.map isLD).all id = z.cps.toList.all isLD := by rw [List.all_map]; rfl
                rw [e2]
                exact g
            · rw [Bool.not_eq_true] at c3
              rw [c3] at q ⊢
              exact iteT (q H (Same.refl H))
          · rw [decide_eq_false c2]
            rw [show isNameD (.str z) = false from isName_out (by omega)] at q
            exact q H (Same.refl H)
        · have c1' : ¬ (1 : Int) ≤ z.length := fun c => c1 (decide_eq_true c)
          rw [show isNameD (.str z) = false from isName_out (by omega)] at q
          exact ⟨_, rfl, q H (Same.refl H)⟩
      | _ => cases hs
    · have e : isNameD D = false := by cases D <;> first | rfl | exact absurd rfl hs
      rw [Bool.not_eq_true] at hs
      rw [hs]
      have q' := q H (Same.refl H)
      rw [e] at q'
      exact q'
  · exact ⟨_, rfl, _, _, _, _, _, rfl, .ty "str", .base (.dK ha), kit_dict_str, _, rfl, q H (Same.refl H)⟩
theorem okis_name (T : Txt K mg) (F : Fun K "is_name" "is_name" sis_name f fd) (Cfits_name : Cal P w K mg base "fits_name" 2 ["value"] (spName K)) : FnOk P w K mg base CX0 3 f fd Pis_name (spName K) := by
  refine F.ok scis_name (fun vs H Q E h => ?_) (fun cdv A outer s H vs Q E hr h => ?_)
  · obtain ⟨v, rfl, _⟩ := h
    rfl
  obtain ⟨v, rfl, h⟩ := h
  exact ⟨_, (pss_one (ps_ret (pe_callC Cfits_name hr (pa_cons (pv 0) pa_nil)))), _, rfl, v, rfl, h⟩
theorem okis_form (T : Txt K mg) (F : Fun K "is_form" "is_form" sis_form f fd) (Cfits_form : Cal P w K mg base "fits_form" 15 ["value", "room"] (spForm K 13)) : FnOk P w K mg base CX0 16 f fd Pis_form (spIsForm K) := by
  refine F.ok scis_form (fun vs H Q E h => ?_) (fun cdv A outer s H vs Q E hr h => ?_)
  · obtain ⟨v, rfl, _⟩ := h
    rfl
  obtain ⟨v, rfl, h⟩ := h
  exact ⟨_, (pss_one (ps_ret (pe_callC Cfits_form hr (pa_cons (pv 0) (pa_cons (pe_globE T.DEEPEST) pa_nil))))), _, rfl, v, 12, rfl, by omega, h⟩
theorem ok_law_says (T : Txt K mg) (F : Fun K "_law_says" "_law_says" s_law_says f fd) : FnOk P w K mg base CX0 1 f fd P_law_says spSays := by
  refine F.ok sc_law_says (fun vs H Q E h => ?_) (fun cdv A outer s H vs Q E hr h => ?_)
  · obtain ⟨a, b, rfl, _⟩ := h
    rfl
  obtain ⟨a, b, rfl, q⟩ := h
  refine ⟨_, (pss_one (ps_ret (pe_and (pe_callB call_isi rfl T.isinstance (by decide +kernel) (pa_cons (pv 0) (pa_cons (pe_bltn (v := .ty "bool") rfl T.bool (by decide +kernel) rfl) pa_nil))) (pe_one (pe_cmpR op_eq (pv 0) (pv 1) (nomark _)))))), ?_⟩
  refine ⟨_, rfl, _, _, _, _, true, rfl, .ty "bool", .base (.bl a), kit_ty (by decide +kernel), _, rfl, iteT ⟨_, rfl, _, rfl, rfl, ?_⟩⟩
  have e : (decide (V.bl a = V.bl b)) = (a == b) := by cases a <;> cases b <;> decide
  rw [e]
  exact q
theorem ok_law_is_form {n : Nat} (T : Txt K mg) (F : Fun K "_law_is_form" "_law_is_form" s_law_is_form f fd) (C_law_is_name : Cal P w K mg base "_law_is_name" 2 ["_law_value"] (spName K)) (C_law_is_form : Cal P w K mg base "_law_is_form" (2 + n) ["_law_value", "_law_tall"] (spFormL K n)) :
    FnOk P w K mg base CX0 (2 + n + 1) f fd P_law_is_form (spFormL K (n + 1)) := by
  refine F.ok sc_law_is_form (fun vs H Q E h => ?_) (fun cdv A outer s H vs Q E hr h => ?_)
  · obtain ⟨v, k, D, rfl, _⟩ := h
    rfl
  obtain ⟨v, k, D, rfl, hk, hv, hz, hd0, q⟩ := h
  have hu : A.units + 65 + 3 < cLine := by
    have := hr.un
    have e : (A.deeper (PyProof.Rows.envOfC (Str.ofString "_law_is_form") (defScope s_law_is_form) s.heap.objs.size f cdv)).units = A.units + 3 := rfl
    omega
  refine ⟨_, (pss_cons (ps_if (PW.pt (pw_or (pt_not (pt_val (pe_callB call_isi rfl T.isinstance (by decide +kernel) (pa_cons (pv 0) (pa_cons (pe_bltn (v := .ty "tuple") rfl T.tuple (by decide +kernel) rfl) pa_nil))))) (pw_or1 (pt_cmpR op_notIn_seq (pe_callB call_len rfl T.len (by decide +kernel) (pa_cons (pv 0) pa_nil)) (pe_lst (pa_cons pe_int (pa_cons pe_int pa_nil))) rfl))))
    (pss_one (ps_ret pe_bl))
    pss_nil)
  (pss_cons (ps_if (pt_cmpR op_eq (pe_callB call_len rfl T.len (by decide +kernel) (pa_cons (pv 0) pa_nil)) pe_int (nomark _))
    (pss_one (ps_ret (pe_and (pe_cmpR (op_inD (by show A.units + 3 + 65 < cLine; omega)) (pe_ix ix_tup (pv 0) pe_int (fun _ _ => rfl)) (pe_lst (pa_cons pe_str (pa_cons pe_str pa_nil))) rfl) (pe_one (pe_callC C_law_is_name hr (pa_cons (pe_ix ix_tup (pv 0) pe_int (fun _ _ => rfl)) pa_nil))))))
    pss_nil)
  (pss_cons (ps_if (PW.pt (pw_or (pt_cmpR op_eq (pv 1) pe_int (nomark _)) (pw_or1 (pt_cmpR (op_notInD (by show A.units + 3 + 65 < cLine; omega)) (pe_ix ix_tup (pv 0) pe_int (fun _ _ => rfl)) (pe_lst (pa_cons pe_str (pa_cons pe_str (pa_cons pe_str (pa_cons pe_str pa_nil))))) rfl))))
    (pss_one (ps_ret pe_bl))
    pss_nil)
  (pss_one (ps_ret (pe_and (pe_callC C_law_is_form hr (pa_cons (pe_ix ix_tup (pv 0) pe_int (fun _ _ => rfl)) (pa_cons (pe_op op_sub (pv 1) pe_int) pa_nil))) (pe_one (pe_callC C_law_is_form hr (pa_cons (pe_ix ix_tup (pv 0) pe_int (fun _ _ => rfl)) (pa_cons (pe_op op_sub (pv 1) pe_int) pa_nil)))))))))), ?_⟩
  refine ⟨_, rfl, _, _, _, _, _, rfl, .ty "tuple", tyx_of hv, kit_tuple D, _, rfl, ?_⟩
  by_cases hs : isTupD D = true
  · cases D with
    | tuple ds =>
      cases hv with
      | @tup a xs _ hT hA =>
      have hl := dpAll_len hA
      refine iteF ⟨_, rfl, _, _, rfl, .inr ⟨xs, hT, rfl⟩, by show 2 ≤ sizeLine; decide, fun p np => ?_⟩
      have S1 : Same H (upd H p (.lst [.int 2, .int 3])) := same_new np _
      refine ⟨p, _, rfl, .inl (SqL.of upd_same), rfl, rfl, _, rfl, ?_⟩
      show (if (!inV (.int (xs.length : Nat)) [.int 2, .int 3]) = true then _ else _)
      rw [inV_23]
      match ds, xs, hA, hl with
      | [], [], hA, _ =>
        rw [isForm_tup_len _ _ (by simp) (by simp)] at q
        exact iteT (q _ S1)
      | [d], [x], hA, _ =>
        rw [isForm_tup_len _ _ (by simp) (by simp)] at q
        exact iteT (q _ S1)
      | d :: e :: g :: i :: ds, x, hA, hl =>
        have e2 : x.length ≠ 2 := by rw [hl]; simp
        have e3 : x.length ≠ 3 := by rw [hl]; simp
        rw [decide_eq_false e2, decide_eq_false e3]
        have g := q _ S1
        rw [isForm_tup_len _ _ (by simp) (by simp)] at g
        exact iteT g
      | [d, e], [x, y], hA, _ =>
        cases hA with | cons hx hA => cases hA with | cons hy _ =>
        have hzx := shortAll_cons (show shortAll [d, e] = true from by unfold shortD at hz; exact hz)
        have hzy := (shortAll_cons hzx.2).1
        have dx := depth_in (d := d) (ds := [d, e]) (by simp)
        refine iteF ⟨_, rfl, _, _, rfl, .inr ⟨_, seqT_same S1 hT, rfl⟩, rfl, _, rfl, ?_⟩
        refine iteT ⟨_, rfl, a, _, _, x, rfl, rfl, seqT_same S1 hT, rfl, by show 2 ≤ sizeLine; decide, fun p2 np2 => ?_⟩
        have S2 := S1.trans (same_new np2 (.lst [.str (Str.ofString "good"), .str (Str.ofString "counter")]))
        refine ⟨d, leafW.map PyData.str, dp_same S2 _ _ hx, .lst (SqL.of upd_same) (dpAll_strs leafW), shaped_of hzx.1 (by omega), by decide +kernel, _, rfl, ?_⟩
        rw [any_eqv]
        rw [isForm_m2] at q
        by_cases hm : memD d leafW = true
        · rw [hm] at q ⊢
          exact iteT ⟨_, rfl, a, _, _, y, rfl, rfl, seqT_same S2 hT, rfl, y, rfl, .inl ⟨e, dp_same S2 _ _ hy, short_str hzy, fun H' S3 => q H' (S2.trans S3)⟩⟩
        · rw [Bool.not_eq_true] at hm
          rw [hm] at q ⊢
          exact iteF (q _ S2)
      | [d, e, g], [x, y, z], hA, _ =>
        cases hA with | cons hx hA => cases hA with | cons hy hA => cases hA with | cons hw _ =>
        have hzx := shortAll_cons (show shortAll [d, e, g] = true from by unfold shortD at hz; exact hz)
        have hzy := shortAll_cons hzx.2
        have hzw := (shortAll_cons hzy.2).1
        have dx := depth_in (d := d) (ds := [d, e, g]) (by simp)
        have dy := depth_in (d := e) (ds := [d, e, g]) (by simp)
        have dw := depth_in (d := g) (ds := [d, e, g]) (by simp)
        refine iteF ⟨_, rfl, _, _, rfl, .inr ⟨_, seqT_same S1 hT, rfl⟩, rfl, _, rfl, ?_⟩
        cases k with
        | zero =>
          rw [isForm_tup3_0] at q
          exact iteF ⟨_, rfl, rfl, _, rfl, iteT (q _ S1)⟩
        | succ k =>
          have ek : ¬ V.int ((k + 1 : Nat) : Int) = V.int 0 := fun z => by
            have := V.int.inj z
            omega
          have e1 : ((k + 1 : Nat) : Int) - 1 = (k : Int) := by omega
          refine iteF ⟨_, rfl, rfl, _, rfl, ?_⟩
          rw [decide_eq_false ek]
          refine iteF ⟨_, rfl, a, _, _, x, rfl, rfl, seqT_same S1 hT, rfl, by show 4 ≤ sizeLine; decide, fun p2 np2 => ?_⟩
          have S2 := S1.trans (same_new np2 (.lst [.str (Str.ofString "both"), .str (Str.ofString "between"), .str (Str.ofString "offered"), .str (Str.ofString "chosen")]))
          refine ⟨d, halfW.map PyData.str, dp_same S2 _ _ hx, .lst (SqL.of upd_same) (dpAll_strs halfW), shaped_of hzx.1 (by omega), by decide +kernel, _, rfl, ?_⟩
          rw [any_eqv]
          rw [isForm_m3] at q
          by_cases hm : memD d halfW = true
          · rw [hm] at q ⊢
            refine iteF ⟨_, rfl, a, _, _, y, rfl, rfl, seqT_same S2 hT, rfl, _, rfl, _, _, rfl, rfl, ?_⟩
            refine ⟨y, k, e, congrArg (fun i => [y, V.int i]) e1, by omega, dp_same S2 _ _ hy, hzy.1, by omega, fun H3 S3' => ?_⟩
            have S3 := S2.trans S3'
            refine ⟨_, rfl, ?_⟩
            by_cases hb : isForm k e = true
            · rw [hb] at q ⊢
              refine iteT ⟨_, rfl, a, _, _, z, rfl, rfl, seqT_same S3 hT, rfl, _, rfl, _, _, rfl, rfl, ?_⟩
              exact ⟨z, k, g, congrArg (fun i => [z, V.int i]) e1, by omega, dp_same S3 _ _ hw, hzw, by omega, fun H4 S4 => q H4 (S3.trans S4)⟩
            · rw [Bool.not_eq_true] at hb
              rw [hb] at q ⊢
              exact iteF (q _ S3)
          · rw [Bool.not_eq_true] at hm
            rw [hm] at q ⊢
            exact iteT (q _ S2)
    | _ => cases hs
  · rw [Bool.not_eq_true] at hs
    rw [hs]
    have q' := q H (Same.refl H)
    rw [isForm_not_tup k D hs] at q'
    exact q'
end
end My

set_option Elab.async false
set_option linter.all false
set_option maxRecDepth 100000
namespace My
open PySem L2
/-! ### the source of draws -/
def penK (L : Addr) (b l : Int) : List (Key × V) := [(.inr (Str.ofString "cells"), .ref L), (.inr (Str.ofString "begun"), .int b), (.inr (Str.ofString "left"), .int l)]
structure Pen (K : PySem.W.Frag) (H : Hp) (d L : Addr) (ns : List Int) (n : Nat) : Prop where
  ex : ∃ b l : Int, H d = some (.dK (penK L b l)) ∧ 0 ≤ b ∧ b ≤ n
  cells : SqL K H L (ns.map V.int)
  few : ns.length ≤ 63
section
variable {K : PySem.W.Frag} {H H' : Hp} {d L : Addr} {ns : List Int} {n m : Nat}
theorem Pen.isDk (p : Pen K H d L ns n) : IsDk H d := by
  obtain ⟨b, l, h, _⟩ := p.ex
  exact ⟨_, h⟩
theorem Pen.same (p : Pen K H d L ns n) (k : Same H H') : Pen K H' d L ns n := by
  obtain ⟨b, l, h, h0⟩ := p.ex
  exact ⟨⟨b, l, k _ _ h, h0⟩, k.seq p.cells, p.few⟩
theorem Pen.mono (p : Pen K H d L ns n) (h : n ≤ m) : Pen K H d L ns m := by
  obtain ⟨b, l, e, h0, h1⟩ := p.ex
  exact ⟨⟨b, l, e, h0, by omega⟩, p.cells, p.few⟩
/-- .. behind a change elsewhere: D is new since H -/
theorem Pen.fresh {D : Addr} {o : HO} {H0 : Hp} (p : Pen K H d L ns n) (k : Keep d H0 H) (c0 : SqL K H0 L (ns.map V.int)) (hd : IsDk H0 d) (nD : H0 D = none) : Pen K (upd H D o) d L ns n := by
  obtain ⟨b, l, h, h0⟩ := p.ex
  have ne : d ≠ D := by
    obtain ⟨kvs, e⟩ := hd
    exact ne_of_none e nD
  exact ⟨⟨b, l, by rw [upd_ne ne]; exact h, h0⟩, seqL_keep hd (keep_fresh k nD) c0, p.few⟩
theorem Pen.put {b l : Int} (p : Pen K H d L ns n) (h0 : 0 ≤ b) (h1 : b ≤ m) : Pen K (upd H d (.dK (penK L b l))) d L ns m :=
  ⟨⟨b, l, upd_same, h0, h1⟩, seqL_keep p.isDk (keep_put _) p.cells, p.few⟩
theorem get_cells {b l : Int} (h : H d = some (.dK (penK L b l))) : DGet H d (.str (Str.ofString "cells")) (some (.ref L)) := DGet.k (k := .inr (Str.ofString "cells")) h
theorem get_begun {b l : Int} (h : H d = some (.dK (penK L b l))) : DGet H d (.str (Str.ofString "begun")) (some (.int b)) := DGet.k (k := .inr (Str.ofString "begun")) h
theorem get_left {b l : Int} (h : H d = some (.dK (penK L b l))) : DGet H d (.str (Str.ofString "left")) (some (.int l)) := DGet.k (k := .inr (Str.ofString "left")) h
theorem put_begun {b l b' : Int} (h : H d = some (.dK (penK L b l))) : DPut H d (.str (Str.ofString "begun")) (.int b') (upd H d (.dK (penK L b' l))) := DPut.k (k := .inr (Str.ofString "begun")) h (by show 3 < sizeLine; decide)
theorem put_left {b l l' : Int} (h : H d = some (.dK (penK L b l))) : DPut H d (.str (Str.ofString "left")) (.int l') (upd H d (.dK (penK L b l'))) := DPut.k (k := .inr (Str.ofString "left")) h (by show 3 < sizeLine; decide)
theorem dpAll_ints : ∀ ns : List Int, DpAll K H (ns.map V.int) (ns.map PyData.int)
  | [] => .nil
  | n :: ns => .cons (.int n) (dpAll_ints ns)
theorem shaped_ints (ns : List Int) : SeqAt.shaped (.list (ns.map PyData.int)) = true := by
  have h1 : ∀ ns : List Int, PyData.canLayAll0 (ns.map PyData.int) = true := by
    intro ns
    induction ns with
    | nil => simp only [List.map_nil, PyData.canLayAll0]
    | cons n ns ih => simp only [List.map_cons, PyData.canLayAll0, PyData.canLay0, ih, Bool.and_self]
  have h2 : ∀ ns : List Int, PyData.depthAll (ns.map PyData.int) = 0 := by
    intro ns
    induction ns with
    | nil => simp only [List.map_nil, PyData.depthAll]
    | cons n ns ih => simp only [List.map_cons, PyData.depthAll, PyData.depth, ih, Nat.max_self]
  unfold SeqAt.shaped
  simp only [PyData.canLay0, PyData.depth, h1, h2]
  decide
theorem eqv_nil (ns : List Int) : PyData.eqv (.list (ns.map PyData.int)) (.list []) = ns.isEmpty := by
  cases ns <;> simp [PyData.eqv, PyData.eqvAll]
end
abbrev s_law_begin : Stmt := top 13
abbrev N_law_begin : List Str := ["_law_script"]
abbrev P_law_begin : List Str := ["_law_script"]
theorem sc_law_begin : FnScope N_law_begin P_law_begin (defScope s_law_begin) := ⟨rfl, rfl, rfl, by decide +kernel, rfl, by decide +kernel, by decide +kernel⟩
abbrev s_law_draw : Stmt := top 14
abbrev N_law_draw : List Str := ["_law_pen", "_law_span", "_law_digit", "_law_at", "_law_cell", "_law_n"]
abbrev P_law_draw : List Str := ["_law_pen", "_law_span"]
theorem sc_law_draw : FnScope N_law_draw P_law_draw (defScope s_law_draw) := ⟨rfl, rfl, rfl, by decide +kernel, rfl, by decide +kernel, by decide +kernel⟩
abbrev s_law_pick : Stmt := top 15
abbrev N_law_pick : List Str := ["_law_pen", "_law_some"]
abbrev P_law_pick : List Str := ["_law_pen", "_law_some"]
theorem sc_law_pick : FnScope N_law_pick P_law_pick (defScope s_law_pick) := ⟨rfl, rfl, rfl, by decide +kernel, rfl, by decide +kernel, by decide +kernel⟩
def spBegin (K : PySem.W.Frag) : Sp := fun vs H Q _ => ∃ (a : Addr) (ns : List Int), vs = [.ref a] ∧ SqL K H a (ns.map V.int) ∧ ns.length ≤ 63 ∧ ∀ d L H', Same H H' → Pen K H' d L ns 0 → Q (.ref d) H'
def spDraw (K : PySem.W.Frag) : Sp := fun vs H Q _ => ∃ (d L : Addr) (ns : List Int) (n : Nat) (m : Int), vs = [.ref d, .int m] ∧ Pen K H d L ns n ∧ n < 2 ^ 40 ∧ 0 < m ∧ m ≤ 2 ^ 20 ∧
  ∀ (r : Int) H', 0 ≤ r → r < m → Keep d H H' → Pen K H' d L ns (n + 1) → Q (.int r) H'
def spPick (K : PySem.W.Frag) : Sp := fun vs H Q _ => ∃ (d L : Addr) (ns : List Int) (n : Nat) (v : V), vs = [.ref d, v] ∧ Pen K H d L ns n ∧ n < 2 ^ 40 ∧
  ((∃ (a : Addr) (xs : List V), v = .ref a ∧ SqL K H a xs ∧ xs ≠ [] ∧ xs.length ≤ 1000 ∧ ∀ x H', x ∈ xs → Keep d H H' → Pen K H' d L ns (n + 1) → Q x H') ∨
   (∃ z : Str, v = .str z ∧ 1 ≤ z.length ∧ z.length ≤ 1000 ∧ ∀ c H', c ∈ z.cps.toList → Keep d H H' → Pen K H' d L ns (n + 1) → Q (.str ⟨#[c]⟩) H'))
section
variable {P : Program} {w : World} {K : PySem.W.Frag} {mg : Str → Option Value} {base : Heap} {f : Addr} {fd : FuncData}
theorem ok_law_begin (T : Txt K mg) (F : Fun K "_law_begin" "_law_begin" s_law_begin f fd) : FnOk P w K mg base CX0 1 f fd P_law_begin (spBegin K) := by
  refine F.ok sc_law_begin (fun vs H Q E h => ?_) (fun cdv A outer s H vs Q E hr h => ?_)
  · obtain ⟨a, ns, rfl, _⟩ := h
    rfl
  obtain ⟨a, ns, rfl, hS, h63, q⟩ := h
  refine ⟨_, (pss_one (ps_ret (pe_disp (pps_cons pe_str (pe_callTy call_list_of rfl T.list (by decide +kernel) (pa_cons (pe_slice sl_list (pv 0) po_none (po_some pe_int)) pa_nil)) (pps_cons pe_str pe_int (pps_cons pe_str pe_int pps_nil))) (by rfl) (by rfl) (fun z => by cases z) (by decide)))), ?_⟩
  refine fun d nd => ⟨_, rfl, _, rfl, a, _, rfl, (same_new nd _).seq hS, fun p1 n1 => ⟨p1, _, rfl, .inl (SqL.of upd_same), fun p2 n2 => ⟨?_, penK p2 0 0, rfl, by show 3 ≤ 15; decide, ?_⟩⟩⟩
  · have e1 : upd (upd H d (.dK [])) p1 (.lst (cutV (ns.map V.int) none (some 63))) d = some (.dK []) := same_new n1 _ _ _ upd_same
    exact same_new n2 _ _ _ e1
  · have e1 : upd (upd H d (.dK [])) p1 (.lst (cutV (ns.map V.int) none (some 63))) d = some (.dK []) := same_new n1 _ _ _ upd_same
    have ne : p2 ≠ d := fun z => (ne_of_none e1 n2) z.symm
    have c : cutV (ns.map V.int) none (some 63) = ns.map V.int := by
      have el : (ns.map V.int).length = ns.length := List.length_map _
      show (ns.map V.int).take (min 63 (ns.map V.int).length - 0) = _
      rw [Nat.min_eq_right (by omega), Nat.sub_zero, List.take_length]
    refine q d p2 _ ?_ ⟨⟨0, 0, upd_same, by omega, by omega⟩, ?_, h63⟩
    · exact fun b o hb => by
        have nb : b ≠ d := ne_of_none hb nd
        rw [upd_ne nb]
        exact same_new n2 _ _ _ (same_new n1 _ _ _ (same_new nd _ _ _ hb))
    · refine SqL.of ?_
      rw [upd_ne ne, upd_same, c]
theorem ok_law_draw (T : Txt K mg) (F : Fun K "_law_draw" "_law_draw" s_law_draw f fd) : FnOk P w K mg base CX0 1 f fd P_law_draw (spDraw K) := by
  refine F.ok sc_law_draw (fun vs H Q E h => ?_) (fun cdv A outer s H vs Q E hr h => ?_)
  · obtain ⟨d, L, ns, n, m, rfl, _⟩ := h
    rfl
  obtain ⟨d, L, ns, n, m, rfl, p, hn, hm, hm2, q⟩ := h
  refine ⟨_, (pss_cons (ps_if (pt_cmpR op_gt (pe_dget (hu_of hr) (pv 0) pe_str (fun _ _ => rfl)) pe_int (nomark _))
    (pss_cons (ps_set (i := 2) sc_law_draw.nd rfl (Or.inl rfl) (pe_op op_mod (pe_callTy call_int1 rfl T.int (by decide +kernel) (pa_cons (pe_dget (hu_of hr) (pv 0) pe_str (fun _ _ => rfl)) pa_nil)) (pv 1)))
    (pss_cons (ps_dput (hu_of hr) (pv 0) pe_str (pe_op op_fdivW (pe_dget (hu_of hr) (pv 0) pe_str (fun _ _ => rfl)) (pv 1)) rfl)
    (pss_one (ps_ret (pv 2)))))
    pss_nil)
  (pss_cons (ps_set (i := 3) sc_law_draw.nd rfl (Or.inl rfl) (pe_dget (hu_of hr) (pv 0) pe_str (fun _ _ => rfl)))
  (pss_cons (ps_dput (hu_of hr) (pv 0) pe_str (pe_op op_add (pv 3) pe_int) rfl)
  (pss_cons (ps_set (i := 4) sc_law_draw.nd rfl (Or.inl rfl) (pe_op op_add (pe_op op_mul pe_int (pv 3)) pe_int))
  (pss_cons (ps_if (pt_cmpR (op_neD hr.units) (pe_dget (hu_of hr) (pv 0) pe_str (fun _ _ => rfl)) (pe_lst pa_nil) (nomark _))
    (pss_one (ps_set (i := 4) sc_law_draw.nd rfl (Or.inl rfl) (pe_ix ix_list (pe_dget (hu_of hr) (pv 0) pe_str (fun _ _ => rfl)) (pe_op op_mod (pe_callTy call_int1 rfl T.int (by decide +kernel) (pa_cons (pv 3) pa_nil)) (pe_callB call_len rfl T.len (by decide +kernel) (pa_cons (pe_dget (hu_of hr) (pv 0) pe_str (fun _ _ => rfl)) pa_nil))) (fun _ _ => rfl))))
    pss_nil)
  (pss_cons (ps_if (PW.pt (pw_and (pt_cmpR op_lt (pv 3) (pe_callB call_len rfl T.len (by decide +kernel) (pa_cons (pe_dget (hu_of hr) (pv 0) pe_str (fun _ _ => rfl)) pa_nil)) (nomark _)) (pw_and1 (pt_cmpR op_ge (pe_callB call_abs rfl T.abs (by decide +kernel) (pa_cons (pv 4) pa_nil)) (pe_op op_pow pe_int pe_int) (nomark _)))))
    (pss_cons (ps_dput (hu_of hr) (pv 0) pe_str (pe_op op_fdivW (pe_op op_sub (pe_callB call_abs rfl T.abs (by decide +kernel) (pa_cons (pv 4) pa_nil)) (pe_op op_pow pe_int pe_int)) (pv 1)) rfl)
    (pss_one (ps_ret (pe_op op_mod (pe_callTy call_int1 rfl T.int (by decide +kernel) (pa_cons (pe_op op_sub (pe_callB call_abs rfl T.abs (by decide +kernel) (pa_cons (pv 4) pa_nil)) (pe_op op_pow pe_int pe_int)) pa_nil)) (pv 1)))))
    pss_nil)
  (pss_cons (ps_set (i := 5) sc_law_draw.nd rfl (Or.inl rfl) (pe_op op_add (pe_op op_mul (pe_op op_mod (pe_callTy call_int1 rfl T.int (by decide +kernel) (pa_cons (pv 4) pa_nil)) pe_int) pe_int) (pe_op op_mul (pe_op op_mul pe_int (pv 3)) (pv 3))))
  (pss_cons (ps_set (i := 5) sc_law_draw.nd rfl (Or.inl rfl) (pe_op op_mod (pe_callTy call_int1 rfl T.int (by decide +kernel) (pa_cons (pe_op op_add (pe_op op_add (pv 5) (pe_op op_mul pe_int (pv 3))) pe_int) pa_nil)) pe_int))
  (pss_cons (ps_set (i := 5) sc_law_draw.nd rfl (Or.inl rfl) (pe_op op_mod (pe_callTy call_int1 rfl T.int (by decide +kernel) (pa_cons (pe_op op_add (pe_op op_add (pe_op op_add (pe_op op_mul (pv 5) (pv 5)) (pe_op op_mul pe_int (pv 5))) (pe_op op_mul pe_int (pv 3))) pe_int) pa_nil)) pe_int))
  (pss_cons (ps_set (i := 5) sc_law_draw.nd rfl (Or.inl rfl) (pe_op op_mod (pe_callTy call_int1 rfl T.int (by decide +kernel) (pa_cons (pe_op op_add (pe_op op_add (pe_op op_mul (pv 5) (pv 5)) (pe_op op_mul pe_int (pv 5))) (pv 3)) pa_nil)) pe_int))
  (pss_one (ps_ret (pe_op op_mod (pe_callTy call_int1 rfl T.int (by decide +kernel) (pa_cons (pe_op op_fdivW (pe_op op_mod (pe_callTy call_int1 rfl T.int (by decide +kernel) (pa_cons (pe_op op_mul (pv 5) (pe_op op_add (pv 5) pe_int)) pa_nil)) pe_int) pe_int) pa_nil)) (pv 1)))))))))))))), ?_⟩
  obtain ⟨b, l, hd, hb0, hbn⟩ := p.ex
  have hb : -(2 ^ 64) < b ∧ b < 2 ^ 64 := by omega
  have hdiv : L2.CDivW 0 m := wide_div hm (b := 21) (by omega) (by decide) (by decide)
  have kd : IsDk H d := p.isDk
  refine ⟨_, rfl, d, _, rfl, get_left hd, _, _, rfl, rfl, _, rfl, ?_⟩
  refine ite2 (fun c => ?_) (fun c => ?_)
  · refine ⟨_, rfl, d, _, rfl, get_left hd, .inl ⟨_, rfl, _, rfl, _, _, rfl, rfl, hm, ?_⟩⟩
    refine ⟨_, rfl, d, _, rfl, get_left hd, _, rfl, _, _, rfl, rfl, hdiv, _, rfl, d, _, rfl, put_left hd, _, rfl, ?_⟩
    exact q _ _ (Int.emod_nonneg _ (by omega)) (Int.emod_lt_of_pos _ hm) (keep_put _) (p.put hb0 (by omega))
  · refine ⟨_, rfl, d, _, rfl, get_begun hd, ?_⟩
    refine ⟨_, rfl, _, _, rfl, rfl, _, rfl, d, _, rfl, put_begun hd, ?_⟩
    have h1 : upd H d (.dK (penK L (b + 1) l)) d = some (.dK (penK L (b + 1) l)) := upd_same
    have p1 : Pen K (upd H d (.dK (penK L (b + 1) l))) d L ns (n + 1) := p.put (by omega) (by omega)
    have k1 : Keep d H (upd H d (.dK (penK L (b + 1) l))) := keep_put _
    generalize upd H d (.dK (penK L (b + 1) l)) = H1 at h1 p1 k1 ⊢
    refine ⟨_, rfl, _, _, rfl, rfl, .inl ⟨by decide, by decide⟩, _, _, rfl, rfl, ?_⟩
    refine ⟨_, rfl, d, _, rfl, get_cells h1, by show 0 ≤ sizeLine; decide, fun p0 np0 => ⟨.list (ns.map PyData.int), .list [], .lst ((same_new np0 _).seq p1.cells) (dpAll_ints ns), .lst (SqL.of upd_same) .nil, shaped_ints ns, by decide, _, rfl, ?_⟩⟩
    have h2 := same_new np0 (.lst []) _ _ h1
    have p2 := p1.same (same_new np0 (.lst []))
    have k2 : Keep d H (upd H1 p0 (.lst [])) := k1.trans (Same.toKeep (same_new np0 (.lst [])))
    generalize upd H1 p0 (.lst []) = H2 at h2 p2 k2 ⊢
    rw [eqv_nil]
    have hlen : ∀ x, (ns.map V.int).length = x → ns.length = x := fun x e => by rw [List.length_map] at e; exact e
    generalize hcv : (101 * b + 47 : Int) = c0
    refine ite2 (fun c1 => ?a) (fun c1 => ?b)
    case' a =>
      have hne : 0 < ns.length := by
        cases ns with
        | nil => cases c1
        | cons _ _ => exact Nat.succ_pos _
      have hpos : (0 : Int) < ((ns.map V.int).length : Nat) := by rw [List.length_map]; omega
      have hlt : (b % ((ns.map V.int).length : Nat)).toNat < ns.length := by
        have h3 := Int.emod_nonneg b (b := (((ns.map V.int).length : Nat) : Int)) (by omega)
        have h4 := Int.emod_lt_of_pos b hpos
        rw [List.length_map] at *
        omega
      have hat : atI (ns.map V.int) (b % ((ns.map V.int).length : Nat)) = some (V.int ns[(b % ((ns.map V.int).length : Nat)).toNat]) := by
        have h3 := Int.emod_nonneg b (b := (((ns.map V.int).length : Nat) : Int)) (by omega)
        have e := Int.toNat_of_nonneg h3
        have g := atI_nat (xs := ns.map V.int) (j := (b % ((ns.map V.int).length : Nat)).toNat) (v := V.int ns[(b % ((ns.map V.int).length : Nat)).toNat]) (by rw [List.getElem?_map, List.getElem?_eq_getElem hlt]; rfl)
        rw [e] at g
        exact g
      generalize ns[(b % ((ns.map V.int).length : Nat)).toNat] = c2 at hat
      refine ⟨_, rfl, d, _, rfl, get_cells h2, _, rfl, .inl ⟨_, rfl, _, rfl, d, _, rfl, get_cells h2, _, _, rfl, .inl ⟨_, p2.cells, rfl⟩, _, _, rfl, rfl, hpos, L, _, _, _, rfl, rfl, p2.cells, hat, ?_⟩⟩
    all_goals
      refine ⟨_, rfl, _, rfl, d, _, rfl, get_cells h2, _, _, rfl, .inl ⟨_, p2.cells, rfl⟩, _, _, rfl, rfl, _, rfl, ?_⟩
      refine ite2 (fun c4 => ?_) (fun c4 => ?_)
      refine ⟨_, rfl, _, rfl, _, _, rfl, rfl, ⟨by decide, by decide, by decide⟩, _, _, rfl, rfl, _, rfl, ?_⟩
      refine ite2 (fun c5 => ?_) (fun c5 => ?_)
      refine ⟨_, rfl, _, rfl, _, _, rfl, rfl, ⟨by decide, by decide, by decide⟩, _, _, rfl, rfl, _, rfl, _, _, rfl, rfl, hdiv, _, rfl, d, _, rfl, put_left h2, ?_⟩
      refine ⟨_, rfl, _, rfl, _, _, rfl, rfl, ⟨by decide, by decide, by decide⟩, _, _, rfl, rfl, .inl ⟨_, rfl, _, rfl, _, _, rfl, rfl, hm, ?_⟩⟩
      exact q _ _ (Int.emod_nonneg _ (by omega)) (Int.emod_lt_of_pos _ hm) (k2.trans (keep_put _)) (p2.put (by omega) (by omega))
      all_goals
        refine ⟨_, rfl, .inl ⟨_, rfl, _, _, rfl, rfl, (by show (0 : Int) < 2147483423; decide), _, _, rfl, rfl, .inr ⟨by decide, by decide⟩, _, rfl, _, _, rfl, rfl, .inl ⟨by decide, by decide⟩, _, rfl, _, _, rfl, rfl, .inr hb, _, _, rfl, rfl, ?_⟩⟩
        refine ⟨_, rfl, _, rfl, _, _, rfl, rfl, .inl ⟨by decide, by decide⟩, _, _, rfl, rfl, _, _, rfl, rfl, .inl ⟨_, rfl, _, _, rfl, rfl, (by show (0 : Int) < 2147483399; decide), ?_⟩⟩
        refine ⟨_, rfl, _, rfl, _, _, rfl, rfl, .inl ⟨by omega, by omega⟩, _, rfl, _, _, rfl, rfl, .inl ⟨by decide, by decide⟩, _, _, rfl, rfl, _, rfl, _, _, rfl, rfl, .inl ⟨by decide, by decide⟩, _, _, rfl, rfl, _, _, rfl, rfl, .inl ⟨_, rfl, _, _, rfl, rfl, (by show (0 : Int) < 2147483353; decide), ?_⟩⟩
        refine ⟨_, rfl, _, rfl, _, _, rfl, rfl, .inl ⟨by omega, by omega⟩, _, rfl, _, _, rfl, rfl, .inl ⟨by decide, by decide⟩, _, _, rfl, rfl, _, rfl, _, _, rfl, rfl, .inl ⟨_, rfl, _, _, rfl, rfl, (by show (0 : Int) < 2147483323; decide), ?_⟩⟩
        refine ⟨_, rfl, _, rfl, _, _, rfl, rfl, _, _, rfl, rfl, .inl ⟨by omega, by omega⟩, .inl ⟨_, rfl, _, _, rfl, rfl, (by show (0 : Int) < 2147483269; decide), _, _, rfl, rfl, ⟨by decide, by decide⟩, .inl ⟨_, rfl, _, rfl, _, _, rfl, rfl, hm, ?_⟩⟩⟩
        exact q _ _ (Int.emod_nonneg _ (by omega)) (Int.emod_lt_of_pos _ hm) k2 p2
end
end My

set_option Elab.async false
set_option linter.all false
set_option maxRecDepth 100000
namespace My
open PySem L2 SX
theorem atI_int {α : Type} {xs : List α} {r : Int} (h0 : 0 ≤ r) (h1 : r < (xs.length : Int)) : ∃ x, atI xs r = some x ∧ x ∈ xs := by
  have h : r.toNat < xs.length := by omega
  refine ⟨xs[r.toNat], ?_, List.getElem_mem h⟩
  have e := atI_nat (xs := xs) (j := r.toNat) (v := xs[r.toNat]) (List.getElem?_eq_getElem h)
  rw [Int.toNat_of_nonneg h0] at e
  exact e
theorem joinL_signs : ∀ cs : List Nat, TL.joinL [] (cs.map fun c => [c]) = cs
  | [] => rfl
  | [c] => rfl
  | c :: e :: r => by
    have ih := joinL_signs (e :: r)
    simp only [List.map_cons] at ih ⊢
    unfold TL.joinL
    rw [ih]
    rfl
theorem join_signs (cs : List Nat) : Txt.join (Str.ofString "") (cs.map fun c => (⟨#[c]⟩ : Str)) = S cs := by
  have e := join_S [] (cs.map fun c => [c])
  rw [joinL_signs, List.map_map] at e
  exact e
theorem sum_signs : ∀ cs : List Nat, ((cs.map fun c => (⟨#[c]⟩ : Str)).map (·.length)).sum = cs.length
  | [] => rfl
  | c :: cs => by
    have ih := sum_signs cs
    rw [List.map_cons, List.map_cons, List.sum_cons, ih, List.length_cons]
    show 1 + cs.length = cs.length + 1
    omega
theorem isName_cs {c : Nat} {cs : List Nat} (h : isL c = true) (hs : ∀ x ∈ cs, isLD x = true) (hl : cs.length ≤ 11) : isName (S (c :: cs)) = true := by
  have e := isName_eq (z := S (c :: cs)) (c := c) (by rw [S_len]; exact Nat.succ_pos _) (by rw [S_len, List.length_cons]; omega) rfl
  rw [e, h]
  show (true && (c :: cs).all isLD) = true
  rw [Bool.true_and, List.all_eq_true]
  intro x hx
  rcases List.mem_cons.mp hx with rfl | hx
  · unfold isLD
    rw [h]
    rfl
  · exact hs x hx
theorem isLD_asc {c : Nat} (h : isLD c = true) : c < 128 := by
  rw [← isLD_both] at h
  have h2 := of_decide_eq_true h
  have e : ∀ x ∈ zBoth.cps.toList, x < 128 := by decide +kernel
  exact e c h2
theorem okStr_of_name {z : Str} (h : isName z = true) : okStr z = true := by
  have h12 : 1 ≤ z.length ∧ z.length ≤ 12 := by
    by_cases c : 1 ≤ z.length ∧ z.length ≤ 12
    · exact c
    · rw [isName_out c] at h
      cases h
  obtain ⟨c, hc⟩ := head_some h12.1
  rw [isName_eq h12.1 h12.2 hc] at h
  have h2 := (Bool.and_eq_true_iff.mp h).2
  rw [List.all_eq_true] at h2
  unfold okStr
  rw [decide_eq_true (by omega), Bool.true_and, List.all_eq_true]
  intro x hx
  exact decide_eq_true (isLD_asc (h2 x hx))
theorem name_len {z : Str} (h : isName z = true) : 1 ≤ z.length ∧ z.length ≤ 12 := by
  by_cases c : 1 ≤ z.length ∧ z.length ≤ 12
  · exact c
  · rw [isName_out c] at h
    cases h
abbrev s_law_name : Stmt := top 17
abbrev N_law_name : List Str := ["_law_pen", "_law_letters", "_law_many", "_law_rest", "_law_k"]
abbrev P_law_name : List Str := ["_law_pen"]
theorem sc_law_name : FnScope N_law_name P_law_name (defScope s_law_name) := ⟨rfl, rfl, rfl, by decide +kernel, rfl, by decide +kernel, by decide +kernel⟩
abbrev s_law_names : Stmt := top 18
abbrev N_law_names : List Str := ["_law_pen", "_law_most", "_law_k"]
abbrev P_law_names : List Str := ["_law_pen", "_law_most"]
theorem sc_law_names : FnScope N_law_names P_law_names (defScope s_law_names) := ⟨rfl, rfl, rfl, by decide +kernel, rfl, by decide +kernel, by decide +kernel⟩
def spNameOf (K : PySem.W.Frag) : Sp := fun vs H Q _ => ∃ (d L : Addr) (ns : List Int) (n : Nat), vs = [.ref d] ∧ Pen K H d L ns n ∧ n < 2 ^ 39 ∧
  ∀ z H', isName z = true → Keep d H H' → Pen K H' d L ns (n + 13) → Q (.str z) H'
def spNames (K : PySem.W.Frag) : Sp := fun vs H Q _ => ∃ (d L : Addr) (ns : List Int) (n m : Nat), vs = [.ref d, .int m] ∧ Pen K H d L ns n ∧ n < 2 ^ 38 ∧ 0 < m ∧ m ≤ 100 ∧
  ∀ a zs H', (∀ z ∈ zs, isName z = true) → zs ≠ [] → zs.length ≤ 100 → SqL K H' a (zs.map V.str) → Keep d H H' → Pen K H' d L ns (n + 1 + 13 * m) → Q (.ref a) H'
section
variable {P : Program} {w : World} {K : PySem.W.Frag} {mg : Str → Option Value} {base : Heap} {f : Addr} {fd : FuncData}
theorem ok_law_pick (T : Txt K mg) (F : Fun K "_law_pick" "_law_pick" s_law_pick f fd) (C_law_draw : Cal P w K mg base "_law_draw" 1 ["_law_pen", "_law_span"] (spDraw K)) : FnOk P w K mg base CX0 2 f fd P_law_pick (spPick K) := by
  refine F.ok sc_law_pick (fun vs H Q E h => ?_) (fun cdv A outer s H vs Q E hr h => ?_)
  · obtain ⟨d, L, ns, n, v, rfl, _⟩ := h
    rfl
  obtain ⟨d, L, ns, n, v, rfl, p, hn, h⟩ := h
  refine ⟨_, (pss_one (ps_ret (pe_ix ix_seq (pv 1) (pe_callC C_law_draw hr (pa_cons (pv 0) (pa_cons (pe_callB call_len rfl T.len (by decide +kernel) (pa_cons (pv 1) pa_nil)) pa_nil))) (fun _ _ => rfl)))), ?_⟩
  rcases h with ⟨a, xs, rfl, hS, hne, hl, q⟩ | ⟨z, rfl, h1, h2, q⟩
  · have hpos : 0 < xs.length := by
      cases xs with
      | nil => exact absurd rfl hne
      | cons _ _ => exact Nat.succ_pos _
    refine ⟨_, rfl, _, rfl, _, rfl, _, _, rfl, .inl ⟨xs, hS, rfl⟩, d, L, ns, n, (xs.length : Int), rfl, p, hn, by omega, by omega, fun r H' r0 r1 k p' => ?_⟩
    obtain ⟨x, hx, hm⟩ := atI_int (xs := xs) r0 r1
    exact .inl ⟨a, xs, r, x, rfl, rfl, seqL_keep p.isDk k hS, hx, q x H' hm k p'⟩
  · have hz : z.length ≤ sizeLine := Nat.le_of_lt (small1000 h2)
    refine ⟨_, rfl, _, rfl, _, rfl, _, _, rfl, ⟨hz, rfl⟩, d, L, ns, n, (z.length : Int), rfl, p, hn, by omega, by omega, fun r H' r0 r1 k p' => ?_⟩
    have el : z.cps.toList.length = z.length := Array.length_toList
    obtain ⟨x, hx, hm⟩ := atI_int (xs := z.cps.toList) (r := r) r0 (by rw [el]; exact r1)
    exact .inr (.inr ⟨z, r, x, rfl, rfl, hz, hx, q x H' hm k p'⟩)
theorem ok_law_name (T : Txt K mg) (F : Fun K "_law_name" "_law_name" s_law_name f fd) (C_law_pick : Cal P w K mg base "_law_pick" 2 ["_law_pen", "_law_some"] (spPick K)) : FnOk P w K mg base CX0 3 f fd P_law_name (spNameOf K) := by
  refine F.ok sc_law_name (fun vs H Q E h => ?_) (fun cdv A outer s H vs Q E hr h => ?_)
  · obtain ⟨d, L, ns, n, rfl, _⟩ := h
    rfl
  obtain ⟨d, L, ns, n, rfl, p, hn, q⟩ := h
  refine ⟨_, (pss_cons (ps_set (i := 1) sc_law_name.nd rfl (Or.inr rfl) pe_str)
  (pss_cons (ps_set (i := 2) sc_law_name.nd rfl (Or.inl rfl) (pe_callC C_law_pick hr (pa_cons (pv 0) (pa_cons (pe_lst (pa_cons pe_int (pa_cons pe_int (pa_cons pe_int (pa_cons pe_int (pa_cons pe_int (pa_cons pe_int (pa_cons pe_int pa_nil)))))))) pa_nil))))
  (pss_cons (ps_setLc (i := 3) (own := [("_law_k", 4)]) (g := (gName 4)) rfl sc_law_name.nd rfl rfl (sw_true rfl rfl rfl (by decide +kernel)) (pi_range1 rfl T.range (pa_cons (pv 2) pa_nil)) (blkOk_by (own := [("_law_k", 4)]) (N := N_law_name) (sc := defScope s_law_name) (by decide +kernel)) (fun _ _ _ _ _ => (pg_name (i := 4) sc_law_name.nd rfl (Or.inl rfl))) (fun _ _ _ _ _ => pts_nil) (fun _ _ _ _ _ => (pe_callC C_law_pick hr (pa_cons (pv 0) (pa_cons (pe_op op_add_str (pv 1) pe_str) pa_nil)))))
  (pss_one (ps_ret (pe_join pe_str (pe_op op_cat (pe_lst (pa_cons (pe_callC C_law_pick hr (pa_cons (pv 0) (pa_cons (pv 1) pa_nil))) pa_nil)) (pv 3)))))))), ?_⟩
  refine ⟨_, rfl, by show 7 ≤ sizeLine; decide, fun p0 np0 => ?_⟩
  refine ⟨d, L, ns, n, _, rfl, p.same (same_new np0 _), by omega, .inl ⟨p0, _, rfl, SqL.of upd_same, by simp, by show 7 ≤ 1000; decide, fun x H1 hx k1 p1 => ?_⟩⟩
  have k1' : Keep d H H1 := (Same.toKeep (same_new np0 _)).trans k1
  obtain ⟨m, rfl, hm⟩ : ∃ m : Nat, x = V.int m ∧ m ≤ 11 := by
    simp only [List.mem_cons, List.not_mem_nil, or_false] at hx
    rcases hx with rfl | rfl | rfl | rfl | rfl | rfl | rfl <;>
      first | exact ⟨0, rfl, by decide⟩ | exact ⟨1, rfl, by decide⟩ | exact ⟨2, rfl, by decide⟩ | exact ⟨5, rfl, by decide⟩ | exact ⟨10, rfl, by decide⟩ | exact ⟨11, rfl, by decide⟩
  refine ⟨_, rfl, (m : Int), rfl, by omega, by omega, fun D nD => lc_range (lo := 0) (n := (m : Int).toNat)
    (fun i H' => Keep d H1 H' ∧ Pen K H' d L ns (n + 1 + i) ∧ ∃ cs : List Nat, cs.length = i ∧ (∀ c ∈ cs, isLD c = true) ∧ H' D = some (.lst (cs.map fun c => V.str ⟨#[c]⟩))) ?_ (fun i H2 hi ⟨k2, p2, cs, hcs, hld, e⟩ => ?_) (fun H2 ⟨k2, p2, cs, hcs, hld, e⟩ => ?_)⟩
  · exact ⟨Same.toKeep (same_new nD _), p1.fresh (Keep.refl _ _) p1.cells p1.isDk nD, [], rfl, by simp, upd_same⟩
  · refine ⟨rfl, _, rfl, _, rfl, _, _, rfl, rfl, by decide, ?_⟩
    refine ⟨d, L, ns, n + 1 + i, _, rfl, p2, by omega, .inr ⟨zBoth, rfl, by decide +kernel, by decide +kernel, fun c H3 hc k3 p3 => ?_⟩⟩
    have nDd : D ≠ d := by
      obtain ⟨kvs, ed⟩ := p1.isDk
      exact (ne_of_none ed nD).symm
    refine ⟨_, k3 D _ nDd e, small1000 (by rw [List.length_map]; omega), keep_fresh (k2.trans k3) nD, p3.fresh (k2.trans k3) p1.cells p1.isDk nD, cs ++ [c], by rw [List.length_append, hcs]; rfl, ?_, ?_⟩
    · intro x hx
      rcases List.mem_append.mp hx with hx | hx
      · exact hld x hx
      · rw [List.mem_singleton.mp hx, ← isLD_both]
        exact decide_eq_true hc
    · rw [upd_same, List.map_append]
      rfl
  · have em : (m : Int).toNat = m := Int.toNat_natCast m
    rw [em] at hcs p2
    refine ⟨⟨_, rfl⟩, _, rfl, _, rfl, d, L, ns, n + 1 + m, _, rfl, p2, by omega, .inr ⟨zLetters, rfl, by decide +kernel, by decide +kernel, fun c H3 hc k3 p3 => ⟨by show 1 ≤ sizeLine; decide, fun pA nA => ?_⟩⟩⟩
    have nDd : D ≠ d := by
      obtain ⟨kvs, ed⟩ := p1.isDk
      exact (ne_of_none ed nD).symm
    have e3 := same_new nA (.lst [.str ⟨#[c]⟩]) _ _ (k3 D _ nDd e)
    refine ⟨_, rfl, pA, D, _, _, rfl, rfl, upd_same, e3, Nat.le_of_lt (small1000 (by rw [List.length_map, List.length_singleton]; omega)), fun pB nB => ?_⟩
    have kF : Keep d H (upd (upd H3 pA (.lst [.str ⟨#[c]⟩])) pB (.lst ([V.str ⟨#[c]⟩] ++ cs.map fun c => V.str ⟨#[c]⟩))) :=
      ((k1'.trans k2).trans k3).trans ((Same.toKeep (same_new nA _)).trans (Same.toKeep (same_new nB _)))
    have pF := (p3.same (same_new nA (.lst [.str ⟨#[c]⟩]))).same (same_new nB (.lst ([V.str ⟨#[c]⟩] ++ cs.map fun c => V.str ⟨#[c]⟩)))
    refine ⟨_, pB, (c :: cs).map (fun c => (⟨#[c]⟩ : Str)), rfl, rfl, .inl (SqL.of ?_), ?_, ?_⟩
    · rw [upd_same, List.map_map]
      rfl
    · rw [sum_signs, List.length_map]
      show (c :: cs).length + (c :: cs).length * 0 ≤ 16777216
      rw [List.length_cons]
      omega
    · rw [join_signs]
      exact q _ _ (isName_cs (decide_eq_true hc) hld (by omega)) kF (pF.mono (by omega))
theorem ok_law_names (T : Txt K mg) (F : Fun K "_law_names" "_law_names" s_law_names f fd) (C_law_draw : Cal P w K mg base "_law_draw" 1 ["_law_pen", "_law_span"] (spDraw K)) (C_law_name : Cal P w K mg base "_law_name" 3 ["_law_pen"] (spNameOf K)) : FnOk P w K mg base CX0 4 f fd P_law_names (spNames K) := by
  refine F.ok sc_law_names (fun vs H Q E h => ?_) (fun cdv A outer s H vs Q E hr h => ?_)
  · obtain ⟨d, L, ns, n, m, rfl, _⟩ := h
    rfl
  obtain ⟨d, L, ns, n, m, rfl, p, hn, h0, hm, q⟩ := h
  refine ⟨_, (pss_one (ps_ret (pe_lc (own := [("_law_k", 2)]) (g := (gName 2)) rfl sc_law_names.nd (pi_range1 rfl T.range (pa_cons (pe_op op_add pe_int (pe_callC C_law_draw hr (pa_cons (pv 0) (pa_cons (pv 1) pa_nil)))) pa_nil)) (blkOk_by (own := [("_law_k", 2)]) (N := N_law_names) (sc := defScope s_law_names) (by decide +kernel)) (fun _ _ _ _ _ => (pg_name (i := 2) sc_law_names.nd rfl (Or.inl rfl))) (fun _ _ _ _ _ => pts_nil) (fun _ _ _ _ _ => (pe_callC C_law_name hr (pa_cons (pv 0) pa_nil)))))), ?_⟩
  refine ⟨_, rfl, _, rfl, d, L, ns, n, m, rfl, p, by omega, by omega, by omega, fun r H1 r0 r1 k1 p1 => ?_⟩
  refine ⟨_, _, rfl, rfl, 1 + r, rfl, by omega, by omega, fun D nD => lc_range (lo := 0) (n := (1 + r).toNat)
    (fun i H' => Keep d H1 H' ∧ Pen K H' d L ns (n + 1 + 13 * i) ∧ ∃ zs : List Str, zs.length = i ∧ (∀ z ∈ zs, isName z = true) ∧ H' D = some (.lst (zs.map V.str))) ?_ (fun i H2 hi ⟨k2, p2, zs, hcs, hld, e⟩ => ?_) (fun H2 ⟨k2, p2, zs, hcs, hld, e⟩ => ?_)⟩
  · exact ⟨Same.toKeep (same_new nD _), p1.fresh (Keep.refl _ _) p1.cells p1.isDk nD, [], rfl, by simp, upd_same⟩
  · refine ⟨rfl, _, rfl, d, L, ns, n + 1 + 13 * i, rfl, p2, by omega, fun z H3 hz k3 p3 => ?_⟩
    have nDd : D ≠ d := by
      obtain ⟨kvs, ed⟩ := p1.isDk
      exact (ne_of_none ed nD).symm
    refine ⟨_, k3 D _ nDd e, small1000 (by rw [List.length_map]; omega), keep_fresh (k2.trans k3) nD, (p3.fresh (k2.trans k3) p1.cells p1.isDk nD).mono (by omega), zs ++ [z], by rw [List.length_append, hcs]; rfl, ?_, ?_⟩
    · intro x hx
      rcases List.mem_append.mp hx with hx | hx
      · exact hld x hx
      · rw [List.mem_singleton.mp hx]
        exact hz
    · rw [upd_same, List.map_append]
      rfl
  · refine q D zs H2 hld ?_ (by omega) (SqL.of e) (k1.trans k2) (p2.mono (by omega))
    rintro rfl
    rw [List.length_nil] at hcs
    omega
end
end My

set_option Elab.async false
set_option linter.all false
set_option maxRecDepth 100000
namespace My
open PySem L2 SX
theorem memD_inv {d : PyData} {zs : List Str} (h : memD d zs = true) : ∃ x, d = .str x ∧ x ∈ zs := by
  cases d with
  | str x => exact ⟨x, rfl, of_decide_eq_true h⟩
  | _ => cases h
theorem isNameD_inv {d : PyData} (h : isNameD d = true) : ∃ x, d = .str x ∧ isName x = true := by
  cases d with
  | str x => exact ⟨x, rfl, h⟩
  | _ => cases h
theorem isForm_inv {k : Nat} {D : PyData} (h : isForm k D = true) :
    (∃ w n, D = .tuple [.str w, .str n] ∧ w ∈ leafW ∧ isName n = true) ∨ ∃ j w a b, k = j + 1 ∧ D = .tuple [.str w, a, b] ∧ w ∈ halfW ∧ isForm j a = true ∧ isForm j b = true := by
  by_cases ht : isTupD D = true
  · cases D with
    | tuple ds =>
      match ds with
      | [a, n] =>
        rw [isForm_m2, Bool.and_eq_true] at h
        obtain ⟨w, rfl, hw⟩ := memD_inv h.1
        obtain ⟨x, rfl, hx⟩ := isNameD_inv h.2
        exact .inl ⟨w, x, rfl, hw, hx⟩
      | [a, b, c] =>
        cases k with
        | zero => rw [isForm_tup3_0] at h; cases h
        | succ j =>
          rw [isForm_m3, Bool.and_eq_true, Bool.and_eq_true] at h
          obtain ⟨w, rfl, hw⟩ := memD_inv h.1
          exact .inr ⟨j, w, b, c, rfl, rfl, hw, h.2.1, h.2.2⟩
      | [] => rw [isForm_tup_len _ _ (by simp) (by simp)] at h; cases h
      | [_] => rw [isForm_tup_len _ _ (by simp) (by simp)] at h; cases h
      | _ :: _ :: _ :: _ :: _ => rw [isForm_tup_len _ _ (by simp) (by simp)] at h; cases h
    | _ => cases ht
  · rw [Bool.not_eq_true] at ht
    rw [isForm_not_tup k D ht] at h
    cases h
theorem isForm_leaf (k : Nat) {w n : Str} (hw : w ∈ leafW) (hn : isName n = true) : isForm k (.tuple [.str w, .str n]) = true := by
  rw [isForm_m2]
  show (decide (w ∈ leafW) && isName n) = true
  rw [decide_eq_true hw, hn]
  rfl
theorem isForm_node {k : Nat} {w : Str} {a b : PyData} (hw : w ∈ halfW) (ha : isForm k a = true) (hb : isForm k b = true) : isForm (k + 1) (.tuple [.str w, a, b]) = true := by
  rw [isForm_m3, ha, hb]
  show (decide (w ∈ halfW) && _) = true
  rw [decide_eq_true hw]
  rfl
theorem isForm_up : ∀ {k : Nat} {D : PyData}, isForm k D = true → isForm (k + 1) D = true := by
  intro k
  induction k with
  | zero =>
    intro D h
    rcases isForm_inv h with ⟨w, n, rfl, hw, hn⟩ | ⟨j, w, a, b, e, _⟩
    · exact isForm_leaf _ hw hn
    · cases e
  | succ k ih =>
    intro D h
    rcases isForm_inv h with ⟨w, n, rfl, hw, hn⟩ | ⟨j, w, a, b, e, rfl, hw, ha, hb⟩
    · exact isForm_leaf _ hw hn
    · obtain rfl : k = j := by omega
      exact isForm_node hw (ih ha) (ih hb)
theorem isForm_le {k m : Nat} {D : PyData} (h : isForm k D = true) (l : k ≤ m) : isForm m D = true := by
  induction l with
  | refl => exact h
  | step _ ih => exact isForm_up ih
theorem okStr_leaf : ∀ w ∈ leafW, okStr w = true := by decide +kernel
theorem okStr_half : ∀ w ∈ halfW, okStr w = true := by decide +kernel
theorem short_form : ∀ {k : Nat} {D : PyData}, isForm k D = true → shortD D = true := by
  intro k
  induction k with
  | zero =>
    intro D h
    rcases isForm_inv h with ⟨w, n, rfl, hw, hn⟩ | ⟨j, w, a, b, e, _⟩
    · simp only [shortD, shortAll, okStr_leaf w hw, okStr_of_name hn, Bool.and_self]
    · cases e
  | succ k ih =>
    intro D h
    rcases isForm_inv h with ⟨w, n, rfl, hw, hn⟩ | ⟨j, w, a, b, e, rfl, hw, ha, hb⟩
    · simp only [shortD, shortAll, okStr_leaf w hw, okStr_of_name hn, Bool.and_self]
    · obtain rfl : k = j := by omega
      have h1 := ih ha
      have h2 := ih hb
      unfold shortD
      simp only [shortAll, h1, h2, Bool.and_true]
      unfold shortD
      exact okStr_half w hw
theorem depth_form : ∀ {k : Nat} {D : PyData}, isForm k D = true → D.depth ≤ k + 1 := by
  intro k
  induction k with
  | zero =>
    intro D h
    rcases isForm_inv h with ⟨w, n, rfl, hw, hn⟩ | ⟨j, w, a, b, e, _⟩
    · simp [PyData.depth, PyData.depthAll]
    · cases e
  | succ k ih =>
    intro D h
    rcases isForm_inv h with ⟨w, n, rfl, hw, hn⟩ | ⟨j, w, a, b, e, rfl, hw, ha, hb⟩
    · simp [PyData.depth, PyData.depthAll]
    · obtain rfl : k = j := by omega
      have h1 := ih ha
      have h2 := ih hb
      simp only [PyData.depth, PyData.depthAll]
      omega
theorem arg_eq {x y : V} {G : V → Hp → Prop} {H : Hp} (e : x = y) (h : G y H) : G x H := by
  rw [e]
  exact h
/-- the least depth of a form -/
def Deep (j : Nat) (D : PyData) : Prop := isForm j D = true ∧ ∀ i, i < j → isForm i D = false
theorem deep_node {x y : Nat} {w : Str} {a b : PyData} (hw : w ∈ halfW) (ha : Deep x a) (hb : Deep y b) {m : Nat} (hm : m = x ∨ m = y) (hx : x ≤ m) (hy : y ≤ m) : Deep (m + 1) (.tuple [.str w, a, b]) := by
  refine ⟨isForm_node hw (isForm_le ha.1 hx) (isForm_le hb.1 hy), fun i hi => ?_⟩
  cases i with
  | zero => exact isForm_tup3_0 _ _ _
  | succ i =>
    rw [isForm_m3]
    rcases hm with rfl | rfl
    · rw [ha.2 i (by omega), Bool.false_and, Bool.and_false]
    · rw [hb.2 i (by omega), Bool.and_false, Bool.and_false]
theorem deep_leaf {w n : Str} (hw : w ∈ leafW) (hn : isName n = true) : Deep 0 (.tuple [.str w, .str n]) := ⟨isForm_leaf 0 hw hn, fun i hi => by omega⟩
abbrev s_law_depth : Stmt := top 16
abbrev N_law_depth : List Str := ["_law_form"]
abbrev P_law_depth : List Str := ["_law_form"]
theorem sc_law_depth : FnScope N_law_depth P_law_depth (defScope s_law_depth) := ⟨rfl, rfl, rfl, by decide +kernel, rfl, by decide +kernel, by decide +kernel⟩
abbrev s_law_shape : Stmt := top 19
abbrev N_law_shape : List Str := ["_law_pen", "_law_names_here", "_law_many", "_law_tall", "_law_room", "_law_low", "_law_high", "_law_way", "_law_left", "_law_word", "_law_one"]
abbrev P_law_shape : List Str := ["_law_pen", "_law_names_here", "_law_many", "_law_tall"]
theorem sc_law_shape : FnScope N_law_shape P_law_shape (defScope s_law_shape) := ⟨rfl, rfl, rfl, by decide +kernel, rfl, by decide +kernel, by decide +kernel⟩
abbrev s_law_deeper : Stmt := top 24
abbrev N_law_deeper : List Str := ["_law_form", "_law_tall", "_law_k"]
abbrev P_law_deeper : List Str := ["_law_form", "_law_tall"]
theorem sc_law_deeper : FnScope N_law_deeper P_law_deeper (defScope s_law_deeper) := ⟨rfl, rfl, rfl, by decide +kernel, rfl, by decide +kernel, by decide +kernel⟩
def spDepth (K : PySem.W.Frag) (k : Nat) : Sp := fun vs H Q _ => ∃ (v : V) (D : PyData) (k' : Nat), vs = [v] ∧ k' < k ∧ Dp K H v D ∧ isForm k' D = true ∧ ∀ (j : Nat) H', j ≤ k' → Deep j D → Same H H' → Q (.int j) H'
def spDeeper (K : PySem.W.Frag) : Sp := fun vs H Q _ => ∃ (v : V) (D : PyData) (t : Nat), vs = [v, .int t] ∧ 12 ≤ t ∧ t ≤ 2000 ∧ Dp K H v D ∧ isForm 12 D = true ∧ ∀ v' D' H', Dp K H' v' D' → Deep t D' ∨ (t = 12 ∧ isForm 12 D' = true) → Same H H' → Q v' H'
def spShape (K : PySem.W.Frag) (k : Nat) : Sp := fun vs H Q _ => ∃ (d L : Addr) (ns : List Int) (n : Nat) (a : Addr) (zs : List Str) (m t : Nat), vs = [.ref d, .ref a, .int m, .int t] ∧ t < k ∧ Pen K H d L ns n ∧ n + 5 * m < 2 ^ 39 ∧
  SqL K H a (zs.map V.str) ∧ zs ≠ [] ∧ zs.length ≤ 1000 ∧ (∀ z ∈ zs, isName z = true) ∧ 1 ≤ m ∧ m ≤ 1000 ∧ m ≤ 2 ^ t ∧ t ≤ 60 ∧
  ∀ v D H', Dp K H' v D → isForm t D = true → Keep d H H' → Pen K H' d L ns (n + (5 * m - 3)) → Q v H'
section
variable {P : Program} {w : World} {K : PySem.W.Frag} {mg : Str → Option Value} {base : Heap} {f : Addr} {fd : FuncData}
theorem ok_law_depth {k : Nat} (T : Txt K mg) (F : Fun K "_law_depth" "_law_depth" s_law_depth f fd) (C_law_depth : Cal P w K mg base "_law_depth" k ["_law_form"] (spDepth K k)) : FnOk P w K mg base CX0 (k + 1) f fd P_law_depth (spDepth K (k + 1)) := by
  refine F.ok sc_law_depth (fun vs H Q E h => ?_) (fun cdv A outer s H vs Q E hr h => ?_)
  · obtain ⟨v, D, k', rfl, _⟩ := h
    rfl
  obtain ⟨v, D, k', rfl, hk, hv, hD, q⟩ := h
  refine ⟨_, (pss_one (ps_ret (pe_ifExp (pt_cmpR op_eq (pe_callB call_len rfl T.len (by decide +kernel) (pa_cons (pv 0) pa_nil)) pe_int (nomark _)) pe_int (pe_op op_add pe_int (pe_callB (cr_max rfl) rfl T.max (by decide +kernel) (pa_cons (pe_lst (pa_cons (pe_callC C_law_depth hr (pa_cons (pe_ix ix_tup (pv 0) pe_int (fun _ _ => rfl)) pa_nil)) (pa_cons (pe_callC C_law_depth hr (pa_cons (pe_ix ix_tup (pv 0) pe_int (fun _ _ => rfl)) pa_nil)) pa_nil))) pa_nil)))))), ?_⟩
  rcases isForm_inv hD with ⟨x, n, rfl, hx, hn⟩ | ⟨j, x, a, b, rfl, rfl, hx, ha, hb⟩
  · cases hv with | @tup p xs _ hT hA => cases hA with | cons h1 hA => cases hA with | cons h2 hN =>
    cases hN
    refine ⟨_, rfl, _, _, rfl, .inr ⟨_, hT, rfl⟩, rfl, _, rfl, ?_⟩
    exact q 0 H (Nat.zero_le _) (deep_leaf hx hn) (Same.refl H)
  · cases hv with | @tup p xs _ hT hA => cases hA with | cons h1 hA => cases hA with | cons h2 hA => cases hA with | cons h3 hN =>
    cases hN
    refine ⟨_, rfl, _, _, rfl, .inr ⟨_, hT, rfl⟩, rfl, _, rfl, ?_⟩
    refine iteF ⟨_, rfl, p, _, _, _, rfl, rfl, hT, rfl, _, a, j, rfl, by omega, h2, ha, fun ja H1 la da S1 => ?_⟩
    refine ⟨_, rfl, p, _, _, _, rfl, rfl, seqT_same S1 hT, rfl, _, b, j, rfl, by omega, dp_same S1 _ _ h3, hb, fun jb H2 lb db S2 => ?_⟩
    refine ⟨by show 2 ≤ sizeLine; decide, fun p2 n2 => ⟨p2, [(ja : Int), (jb : Int)], rfl, SqL.of upd_same, by simp, fun m hm hle => ?_⟩⟩
    obtain ⟨M, rfl⟩ : ∃ M : Nat, m = (M : Int) := by
      simp only [List.mem_cons, List.not_mem_nil, or_false] at hm
      rcases hm with rfl | rfl
      · exact ⟨ja, rfl⟩
      · exact ⟨jb, rfl⟩
    have l1 := hle (ja : Int) (by simp)
    have l2 := hle (jb : Int) (by simp)
    have hM : M = ja ∨ M = jb := by
      simp only [List.mem_cons, List.not_mem_nil, or_false] at hm
      omega
    refine ⟨_, _, rfl, rfl, ?_⟩
    have e : (1 + (M : Int)) = ((M + 1 : Nat) : Int) := by omega
    show Q (.int (1 + (M : Int))) _
    rw [e]
    exact q (M + 1) _ (by omega) (deep_node hx da db hM (by omega) (by omega)) ((S1.trans S2).trans (same_new n2 _))
theorem ok_law_deeper (T : Txt K mg) (F : Fun K "_law_deeper" "_law_deeper" s_law_deeper f fd) (C_law_depth : Cal P w K mg base "_law_depth" 13 ["_law_form"] (spDepth K 13)) : FnOk P w K mg base CX0 14 f fd P_law_deeper (spDeeper K) := by
  refine F.ok sc_law_deeper (fun vs H Q E h => ?_) (fun cdv A outer s H vs Q E hr h => ?_)
  · obtain ⟨v, D, t, rfl, _⟩ := h
    rfl
  obtain ⟨v, D, t, rfl, h12, ht, hv, hD, q⟩ := h
  refine ⟨_, (pss_cons (ps_for PassesOwn.never rfl (pi_range1 rfl T.range (pa_cons (pe_op op_sub (pv 1) (pe_callC C_law_depth hr (pa_cons (pv 0) pa_nil))) pa_nil)) (pg_name (i := 2) sc_law_deeper.nd rfl (Or.inl rfl))
    (pss_one (ps_set (i := 0) sc_law_deeper.nd rfl (Or.inl rfl) (pe_ifExp (pt_cmpR op_eq (pe_op op_mod (pe_callTy call_int1 rfl T.int (by decide +kernel) (pa_cons (pv 2) pa_nil)) pe_int) pe_int (nomark _)) (pe_tup (pa_cons pe_str (pa_cons (pv 0) (pa_cons (pe_tup (pa_cons pe_str (pa_cons pe_str pa_nil))) pa_nil)))) (pe_tup (pa_cons pe_str (pa_cons (pe_tup (pa_cons pe_str (pa_cons pe_str pa_nil))) (pa_cons (pv 0) pa_nil))))))))
  (pss_one (ps_ret (pv 0)))), ?_⟩
  refine ⟨_, rfl, _, rfl, v, D, 12, rfl, by omega, hv, hD, fun j H1 hj dj S1 => ?_⟩
  refine ⟨_, _, rfl, rfl, (t : Int) - (j : Int), rfl, by omega, by omega, ?_⟩
  refine for_range (lo := 0) (n := ((t : Int) - (j : Int)).toNat) (fun i σ H' => Same H H' ∧ ∃ v' x D', σ = [some v', some (.int t), x] ∧ Dp K H' v' D' ∧ Deep (j + i) D') ⟨S1, v, none, D, rfl, dp_same S1 _ _ hv, dj⟩
    (fun i σ H2 hi ⟨S2, v', x, D', eσ, hv', dv⟩ => ?_) (fun σ H2 ⟨S2, v', x, D', eσ, hv', dv⟩ => ?_)
  · subst eσ
    refine ⟨_, rfl, .inl ⟨_, rfl, _, _, rfl, rfl, (by show (0 : Int) < 2; decide), rfl, _, rfl, ?_⟩⟩
    have hn : isName (Str.ofString "a") = true := by decide +kernel
    have hn2 : isName (Str.ofString "b") = true := by decide +kernel
    refine ite2 (fun c => ?_) (fun c => ?_)
    · refine ⟨_, rfl, by show 2 ≤ sizeLine; decide, fun p1 n1 => ⟨by show 3 ≤ sizeLine; decide, fun p2 n2 => ?_⟩⟩
      have S3 := same_new n1 (.tup [.str (Str.ofString "good"), .str (Str.ofString "a")])
      have S4 := S3.trans (same_new n2 (.tup [.str (Str.ofString "both"), v', .ref p1]))
      refine ⟨S2.trans S4, .ref p2, _, .tuple [.str (Str.ofString "both"), D', .tuple [.str (Str.ofString "good"), .str (Str.ofString "a")]], rfl, .tup (SqT.of upd_same) (.cons (.str _) (.cons (dp_same S4 _ _ hv') (.cons (.tup (SqT.of (same_new n2 _ _ _ upd_same)) (.cons (.str _) (.cons (.str _) .nil))) .nil))), ?_⟩
      exact deep_node (x := j + i) (y := 0) (m := j + i) (by decide +kernel) dv (deep_leaf (by decide +kernel) hn) (.inl rfl) (by omega) (by omega)
    · refine ⟨by show 2 ≤ sizeLine; decide, fun p1 n1 => ⟨_, rfl, by show 3 ≤ sizeLine; decide, fun p2 n2 => ?_⟩⟩
      have S3 := same_new n1 (.tup [.str (Str.ofString "counter"), .str (Str.ofString "b")])
      have S4 := S3.trans (same_new n2 (.tup [.str (Str.ofString "chosen"), .ref p1, v']))
      refine ⟨S2.trans S4, .ref p2, _, .tuple [.str (Str.ofString "chosen"), .tuple [.str (Str.ofString "counter"), .str (Str.ofString "b")], D'], rfl, .tup (SqT.of upd_same) (.cons (.str _) (.cons (.tup (SqT.of (same_new n2 _ _ _ upd_same)) (.cons (.str _) (.cons (.str _) .nil))) (.cons (dp_same S4 _ _ hv') .nil))), ?_⟩
      exact deep_node (x := 0) (y := j + i) (m := j + i) (by decide +kernel) (deep_leaf (by decide +kernel) hn2) dv (.inr rfl) (by omega) (by omega)
  · subst eσ
    have e : j + ((t : Int) - (j : Int)).toNat = t := by omega
    rw [e] at dv
    exact ⟨_, rfl, q v' D' H2 hv' (.inl dv) S2⟩
set_option maxHeartbeats 2000000 in
theorem ok_law_shape {k : Nat} (T : Txt K mg) (F : Fun K "_law_shape" "_law_shape" s_law_shape f fd) (C_law_draw : Cal P w K mg base "_law_draw" 1 ["_law_pen", "_law_span"] (spDraw K)) (C_law_pick : Cal P w K mg base "_law_pick" 2 ["_law_pen", "_law_some"] (spPick K))
    (C_law_shape : Cal P w K mg base "_law_shape" (2 + k) P_law_shape (spShape K k)) : FnOk P w K mg base CX0 (2 + k + 1) f fd P_law_shape (spShape K (k + 1)) := by
  refine F.ok sc_law_shape (fun vs H Q E h => ?_) (fun cdv A outer s H vs Q E hr h => ?_)
  · obtain ⟨d, L, ns, n, a, zs, m, t, rfl, _⟩ := h
    rfl
  obtain ⟨d, L, ns, n, a, zs, m, t, rfl, htk, p, hn, hS, hne, hzl, hzs, hm1, hm2, hm3, ht60, q⟩ := h
  refine ⟨_, (pss_cons (ps_if (pt_cmpR op_eq (pv 2) pe_int (nomark _))
    (pss_one (ps_ret (pe_tup (pa_cons (pe_callC C_law_pick hr (pa_cons (pv 0) (pa_cons (pe_lst (pa_cons pe_str (pa_cons pe_str pa_nil))) pa_nil))) (pa_cons (pe_callC C_law_pick hr (pa_cons (pv 0) (pa_cons (pv 1) pa_nil))) pa_nil)))))
    pss_nil)
  (pss_cons (ps_set (i := 4) sc_law_shape.nd rfl (Or.inl rfl) (pe_op op_shl pe_int (pe_op op_sub (pv 3) pe_int)))
  (pss_cons (ps_par (i := 5) (j := 6) (by rfl) sc_law_shape.nd rfl rfl (by decide) rfl rfl (pa_cons (pe_callB (call_max2 rfl) rfl T.max (by decide +kernel) (pa_cons pe_int (pa_cons (pe_op op_sub (pv 2) (pv 4)) pa_nil))) (pa_cons (pe_callB (call_min2 rfl) rfl T.min (by decide +kernel) (pa_cons (pe_op op_sub (pv 2) pe_int) (pa_cons (pv 4) pa_nil))) pa_nil)) (by rfl))
  (pss_cons (ps_set (i := 7) sc_law_shape.nd rfl (Or.inl rfl) (pe_callC C_law_draw hr (pa_cons (pv 0) (pa_cons pe_int pa_nil))))
  (pss_cons (ps_set (i := 8) sc_law_shape.nd rfl (Or.inl rfl) (pe_op op_add (pv 5) (pe_callC C_law_draw hr (pa_cons (pv 0) (pa_cons (pe_op op_add (pe_op op_sub (pv 6) (pv 5)) pe_int) pa_nil)))))
  (pss_cons (ps_if (pt_cmpR op_lt (pv 7) pe_int (nomark _))
    (pss_one (ps_set (i := 8) sc_law_shape.nd rfl (Or.inl rfl) (pe_ifExp (pt_cmpR op_eq (pv 7) pe_int (nomark _)) (pv 5) (pv 6))))
    pss_nil)
  (pss_cons (ps_set (i := 9) sc_law_shape.nd rfl (Or.inl rfl) (pe_callC C_law_pick hr (pa_cons (pv 0) (pa_cons (pe_lst (pa_cons pe_str (pa_cons pe_str (pa_cons pe_str (pa_cons pe_str pa_nil))))) pa_nil))))
  (pss_cons (ps_set (i := 10) sc_law_shape.nd rfl (Or.inl rfl) (pe_callC C_law_shape hr (pa_cons (pv 0) (pa_cons (pv 1) (pa_cons (pv 8) (pa_cons (pe_op op_sub (pv 3) pe_int) pa_nil))))))
  (pss_one (ps_ret (pe_tup (pa_cons (pv 9) (pa_cons (pv 10) (pa_cons (pe_callC C_law_shape hr (pa_cons (pv 0) (pa_cons (pv 1) (pa_cons (pe_op op_sub (pv 2) (pv 8)) (pa_cons (pe_op op_sub (pv 3) pe_int) pa_nil))))) pa_nil)))))))))))))), ?_⟩
  refine ⟨_, rfl, rfl, _, rfl, ?_⟩
  refine ite2 (fun c => ?_) (fun c => ?_)
  · have hm : m = 1 := by
      have := V.int.inj (of_decide_eq_true c)
      omega
    subst hm
    refine ⟨_, rfl, by show 2 ≤ sizeLine; decide, fun p0 np0 => ?_⟩
    refine ⟨d, L, ns, n, _, rfl, p.same (same_new np0 _), by omega, .inl ⟨p0, _, rfl, SqL.of upd_same, by simp, by show 2 ≤ 1000; decide, fun x H1 hx k1 p1 => ?_⟩⟩
    have k1' : Keep d H H1 := (Same.toKeep (same_new np0 _)).trans k1
    refine ⟨_, rfl, _, rfl, d, L, ns, n + 1, _, rfl, p1, by omega, .inl ⟨a, _, rfl, seqL_keep p.isDk k1' hS, by simp [hne], by rw [List.length_map]; exact hzl, fun y H2 hy k2 p2 => ⟨by show 2 ≤ sizeLine; decide, fun p3 n3 => ?_⟩⟩⟩
    obtain ⟨w', rfl, hw⟩ : ∃ w', x = .str w' ∧ w' ∈ leafW := by
      have : x ∈ leafW.map V.str := hx
      obtain ⟨w', hw, e⟩ := List.mem_map.mp this
      exact ⟨w', e.symm, hw⟩
    obtain ⟨z, hz, rfl⟩ := List.mem_map.mp hy
    exact q (.ref p3) (.tuple [.str w', .str z]) _ (.tup (SqT.of upd_same) (.cons (.str _) (.cons (.str _) .nil))) (isForm_leaf _ hw (hzs z hz)) ((k1'.trans k2).trans (Same.toKeep (same_new n3 _))) ((p2.same (same_new n3 _)).mono (by omega))
  · have hm : m ≠ 1 := fun e => c (by subst e; rfl)
    obtain ⟨t', rfl⟩ : ∃ t', t = t' + 1 := by
      cases t with
      | zero => simp at hm3; omega
      | succ t' => exact ⟨t', rfl⟩
    have hpow : (2 : Nat) ^ (t' + 1) = 2 * 2 ^ t' := by rw [Nat.pow_succ]; omega
    generalize hR : (2 : Nat) ^ t' = R at hpow
    rw [hpow] at hm3
    have hR1 : 1 ≤ R := by rw [← hR]; exact Nat.one_le_two_pow
    refine ⟨_, rfl, _, _, rfl, rfl, _, _, rfl, rfl, ⟨by omega, by omega, by decide⟩, ?_⟩
    have eR : (1 : Int) * 2 ^ (((t' + 1 : Nat) : Int) - 1).toNat = (R : Int) := by
      have : (((t' + 1 : Nat) : Int) - 1).toNat = t' := by omega
      rw [this, ← hR, Int.one_mul]
      norm_cast
    dsimp only
    rw [eR]
    refine ⟨_, rfl, _, rfl, _, _, rfl, rfl, _, _, rfl, _, rfl, _, _, rfl, rfl, _, rfl, _, _, rfl, _, _, rfl, ?_⟩
    have hE1 : 1 ≤ (if (m : Int) - (R : Int) > 1 then (m : Int) - (R : Int) else 1) ∧ (m : Int) - R ≤ (if (m : Int) - (R : Int) > 1 then (m : Int) - (R : Int) else 1) ∧
        ((if (m : Int) - (R : Int) > 1 then (m : Int) - (R : Int) else 1) = 1 ∨ (if (m : Int) - (R : Int) > 1 then (m : Int) - (R : Int) else 1) = (m : Int) - R) := by
      split <;> omega
    have hE2 : (if (R : Int) < (m : Int) - 1 then (R : Int) else (m : Int) - 1) ≤ (m : Int) - 1 ∧ (if (R : Int) < (m : Int) - 1 then (R : Int) else (m : Int) - 1) ≤ R ∧
        ((if (R : Int) < (m : Int) - 1 then (R : Int) else (m : Int) - 1) = (m : Int) - 1 ∨ (if (R : Int) < (m : Int) - 1 then (R : Int) else (m : Int) - 1) = R) := by
      split <;> omega
    generalize hE1e : (if (m : Int) - (R : Int) > 1 then (m : Int) - (R : Int) else 1) = E1 at hE1 ⊢
    generalize hE2e : (if (R : Int) < (m : Int) - 1 then (R : Int) else (m : Int) - 1) = E2 at hE2 ⊢
    have pick3 : ∀ x : Int, E1 ≤ x → x ≤ E2 → ∃ lf : Nat, x = (lf : Int) ∧ 1 ≤ lf ∧ lf ≤ R ∧ 1 ≤ m - lf ∧ m - lf ≤ R ∧ lf ≤ m := fun x h1 h2 =>
      ⟨x.toNat, by omega, by omega, by omega, by omega, by omega, by omega⟩
    refine ⟨_, rfl, d, L, ns, n, 5, rfl, p, by omega, by decide, by decide, fun way H1 w0 w5 k1 p1 => ?_⟩
    refine ⟨_, rfl, _, rfl, _, rfl, _, rfl, _, _, rfl, rfl, _, _, rfl, rfl, d, L, ns, n + 1, E2 - E1 + 1, rfl, p1, by omega, by omega, by omega, fun r H2 r0 r1 k2 p2 => ?_⟩
    refine ⟨_, _, rfl, rfl, ?_⟩
    refine ⟨_, rfl, _, _, rfl, rfl, _, rfl, ?_⟩
    have k12 := k1.trans k2
    have e1 : ((t' + 1 : Nat) : Int) - 1 = (t' : Int) := by omega
    refine ite2 (fun c2 => ?_) (fun c2 => ?_)
    refine ⟨_, rfl, rfl, _, rfl, ?_⟩
    refine ite2 (fun c3 => ?_) (fun c3 => ?_)
    case' refine_1 =>
      obtain ⟨lf, rfl, l1, l2, l3, l4, l5⟩ := pick3 E1 (by omega) (by omega)
      refine ⟨_, rfl, ?_⟩
    case' refine_2 =>
      obtain ⟨lf, rfl, l1, l2, l3, l4, l5⟩ := pick3 E2 (by omega) (by omega)
      refine ⟨_, rfl, ?_⟩
    case' refine_2.refine_2.refine_2 =>
      obtain ⟨lf, elf, l1, l2, l3, l4, l5⟩ := pick3 (E1 + r) (by omega) (by omega)
      dsimp only
      rw [elf]
    all_goals
      refine ⟨_, rfl, by show 4 ≤ sizeLine; decide, fun p4 n4 => ?_⟩
      refine ⟨d, L, ns, n + 2, _, rfl, p2.same (same_new n4 _), by omega, .inl ⟨p4, _, rfl, SqL.of upd_same, by simp, by show 4 ≤ 1000; decide, fun x H3 hx k3 p3 => ?_⟩⟩
      have k3' := (k12.trans (Same.toKeep (same_new n4 _))).trans k3
      obtain ⟨w', rfl, hw⟩ : ∃ w', x = .str w' ∧ w' ∈ halfW := by
        have : x ∈ halfW.map V.str := hx
        obtain ⟨w', hw, e⟩ := List.mem_map.mp this
        exact ⟨w', e.symm, hw⟩
      refine ⟨_, rfl, _, rfl, _, rfl, _, rfl, _, _, rfl, rfl, d, L, ns, n + 3, a, zs, lf, t', congrArg (fun i => [V.ref d, V.ref a, V.int (lf : Int), V.int i]) e1, by omega, p3, by omega, seqL_keep p.isDk k3' hS, hne, hzl, hzs, l1, by omega, by omega, by omega, fun v1 D1 H4 hd1 hf1 k4 p4' => ?_⟩
      have k4' := k3'.trans k4
      have e2 : (m : Int) - (lf : Int) = ((m - lf : Nat) : Int) := by omega
      refine ⟨_, rfl, _, rfl, _, rfl, _, rfl, _, rfl, _, rfl, _, _, rfl, rfl, _, rfl, _, _, rfl, rfl, d, L, ns, n + 3 + (5 * lf - 3), a, zs, m - lf, t', ?_, by omega, p4', by omega, seqL_keep p.isDk k4' hS, hne, hzl, hzs, l3, by omega, by omega, by omega, fun v2 D2 H5 hd2 hf2 k5 p5 => ⟨by show 3 ≤ sizeLine; decide, fun p6 n6 => ?_⟩⟩
      · show [V.ref d, V.ref a, V.int ((m : Int) - (lf : Int)), V.int (((t' + 1 : Nat) : Int) - 1)] = _
        rw [e1, e2]
      · have S6 := same_new n6 (.tup [.str w', v1, v2])
        exact q (.ref p6) (.tuple [.str w', D1, D2]) _ (.tup (SqT.of upd_same) (.cons (.str _) (.cons (dp_same S6 _ _ (dp_keep p4'.isDk k5 _ _ hd1))  (.cons (dp_same S6 _ _ hd2) .nil)))) (isForm_node hw hf1 hf2) ((k4'.trans k5).trans (Same.toKeep S6)) ((p5.same S6).mono (by omega))
end
end My

set_option Elab.async false
set_option linter.all false
set_option maxRecDepth 100000
namespace My
open PySem PySem.Spec PyProof.Rows L2 SX HT
/-! ### t[::-1] -/
section
variable {prog : Program} {w : World} {A : Around} {E : Value → Shared → Prop} {s : Shared}
theorem back_applied {sl : Addr} {vk : Value} {n : Nat} {Q : Int × Int × Nat → Shared → Prop} (hs : s.heap.IsSliceOf sl .none .none vk) (pk : IsPart vk (some (-1)))
    (h : Q ((n : Int) - 1, -1, n) s) : wpAny (model prog w) A (Builtin.Slice.sliceApplied (.ref sl) (pure (n : Int))) Q E s := by
  obtain ⟨o, ho, hc, hd⟩ := id hs
  unfold Builtin.Slice.sliceApplied Builtin.Slice.sliceFields
  refine wpAny_bind (wpAny_bind (wpAny_field ho hd (x := .none) rfl (wpAny_bind (wpAny_field ho hd (x := .none) rfl (wpAny_bind (wpAny_field ho hd (x := vk) rfl (wpAny_pure ?_)))))))
  refine wpAny_bind (slicePart_ pk ?_)
  show wpAny _ _ (if ((-1 : Int) == 0) = true then _ else _) _ _ s
  rw [if_neg (by decide)]
  refine wpAny_bind (slicePart_none (wpAny_bind (slicePart_none (wpAny_bind (wpAny_pure ?_)))))
  have e : Builtin.Slice.sliceAdjust none none (-1) (n : Int) = ((n : Int) - 1, -1) := rfl
  show wpAny _ _ (match Builtin.Slice.sliceAdjust none none (-1) (n : Int) with | (lo, hi) => pure (lo, (-1 : Int), Builtin.Slice.slicePlaces lo hi (-1))) _ _ s
  rw [e]
  have e2 : Builtin.Slice.slicePlaces ((n : Int) - 1) (-1) (-1) = n := by
    unfold Builtin.Slice.slicePlaces
    rw [if_neg (by decide)]
    by_cases hn : n = 0
    · subst hn; rfl
    · rw [if_pos (by omega)]
      have : ((n : Int) - 1 - -1 - 1) / (- -1) + 1 = (n : Int) := by
        show ((n : Int) - 1 - -1 - 1) / 1 + 1 = (n : Int)
        rw [Int.ediv_one]
        omega
      rw [this, Int.toNat_natCast]
  show wpAny _ _ (pure ((n : Int) - 1, (-1 : Int), Builtin.Slice.slicePlaces ((n : Int) - 1) (-1) (-1))) _ _ s
  rw [e2]
  exact wpAny_pure h
theorem back_picked (xs : Array Value) : ((List.range xs.size).filterMap fun (k : Nat) => xs[(((xs.size : Int) - 1) + (k : Int) * (-1)).toNat]?).toArray = xs.toList.reverse.toArray := by
  have e : (List.range xs.size).filterMap (fun (k : Nat) => xs[(((xs.size : Int) - 1) + (k : Int) * (-1)).toNat]?) = ((List.range xs.size).map fun k => xs.size - 1 - k).filterMap (xs[·]?) := by
    rw [List.filterMap_map]
    congr 1
    funext k
    have : (((xs.size : Int) - 1) + (k : Int) * (-1)).toNat = xs.size - 1 - k := by omega
    rw [this]
    rfl
  rw [e, PySem.W.krv_range, List.filterMap_reverse, PySem.W.krv_all]
theorem back_item {t sl : Addr} {items : Array Value} {vk : Value} {Q : Value → Shared → Prop} (ht : IsTup s.heap t items) (hs : s.heap.IsSliceOf sl .none .none vk) (pk : IsPart vk (some (-1)))
    (h : Q (.ref s.heap.objs.size) { s with heap := s.heap.push { cls := .type "tuple", data := .seq items.toList.reverse.toArray } }) (hz : items.size ≤ sizeLine) : wpAny (model prog w) A (getItem (.ref t) (.ref sl)) Q E s := by
  have hsz : sizeOk (.seq items.toList.reverse.toArray) := by
    show items.toList.reverse.toArray.size ≤ sizeLine
    rw [List.size_toArray, List.length_reverse, Array.length_toList]
    exact hz
  obtain ⟨o, ho, hc, hd⟩ := id hs
  have hT : s.TypeIs (.ref sl) "slice" := ⟨o, ho, hc⟩
  unfold getItem
  try with_reducible refine wpAny_holding ?_
  first | refine wpAny_bind (wpAny_pure ?_) | skip
  refine wpAny_bind (wpAny_sequenceKey ht.typeIs (by decide) (wpAny_bind (wpAny_callSpecial?_slot (name := Str.ofString "__getitem__") ht.typeIs slot_tuple_getitem (wpAny_call_entry slot_tuple_getitem ht.typeIs entry_tuple_getitem ?_ (args_tuple_getitem _ _)))))
  show wpAny _ _ (Builtin.Tuple.tupleItemsOf (.ref t) >>= _) _ _ s
  refine wpAny_bind (tupleItemsOf_ ht (wpAny_bind (wpAny_typeOf hT ?_)))
  rw [if_pos (by decide)]
  refine wpAny_bind (back_applied hs pk ?_)
  have hno : ¬ ((((items.size : Int) - 1) == 0 && (-1 : Int) == 1 && items.size == items.size) = true) := by
    rw [Bool.and_eq_true, Bool.and_eq_true]
    rintro ⟨⟨_, q⟩, _⟩
    exact absurd q (by decide)
  show wpAny _ _ (if (((items.size : Int) - 1) == 0 && (-1 : Int) == 1 && items.size == items.size) = true then _ else _) _ _ s
  rw [if_neg hno, back_picked]
  first
    | exact wpAny_bind (m := Builtin.Tuple.tupleExact _) (wpAny_newObj_type (wpAny_pure ⟨_, rfl, wpAny_pure h⟩) hsz)
    | exact wpAny_bind (m := Builtin.Tuple.tupleExact _) (wpAny_newObj_type (wpAny_bind (wpAny_pure (wpAny_pure ⟨_, rfl, wpAny_pure h⟩))) hsz)
    | exact wpAny_bind (wpAny_bind (m := Builtin.Tuple.tupleExact _) (wpAny_newObj_type (wpAny_pure (wpAny_pure ⟨_, rfl, wpAny_pure h⟩)) hsz))
    | exact wpAny_bind (wpAny_bind (m := Builtin.Tuple.tupleExact _) (wpAny_newObj_type (wpAny_pure ⟨_, rfl, wpAny_pure h⟩) hsz))
end
section
variable {X : Cx}
def tRevT (K : PySem.W.Frag) (te : TE) : TE := fun σ H Q => te σ H fun x H1 => ∃ a xs, x = .ref a ∧ SqT K H1 a xs ∧ ∀ p, H1 p = none → Q (.ref p) (upd H1 p (.tup xs.reverse))
theorem pe_revT {e : Expr} {te : TE} {k : Nat} {p1 p2 p3 pos : Pos} (he : PE X e te) : PE X (.Subscript e (.Slice none none (some (.UnaryOp .USub (.Constant (.int 1) k p1) p2)) p3) pos) (tRevT X.K te) := by
  refine ⟨fun pins s σ H Q I h => Subscript_ (thn (he.run pins s σ H _ I h) fun v s1 ⟨x, H1, I1, r1, a, xs, ex, hx, q⟩ => ?_)⟩
  subst ex
  cases r1
  have hst : PO X (some (.UnaryOp .USub (.Constant (.int 1) k p1) p2)) (tPart (tUn (rU fun i => .int (-i)) (tC (.int 1)))) := po_some (pe_un un_neg pe_int)
  refine wpAny_Slice (thn (po_none.run pins s1 σ H1 (fun o H2 => o = none ∧ H2 = H1) I1 ⟨rfl, rfl⟩) fun vl s2 ⟨l, H2, I2, pl, el, e2⟩ => ?_)
  subst el e2
  refine thn (po_none.run pins s2 σ H2 (fun o H3 => o = none ∧ H3 = H2) I2 ⟨rfl, rfl⟩) fun vu s3 ⟨u, H3, I3, pu, eu, e3⟩ => ?_
  subst eu e3
  refine thn (hst.run pins s3 σ H3 (fun o H4 => o = some (-1) ∧ H4 = H3) I3 ⟨1, rfl, -1, rfl, rfl, rfl⟩) fun vs s4 ⟨o, H4, I4, ps, eo, e4⟩ => ?_
  subst eo e4
  cases pl
  cases pu
  have I5 : Inv X pins σ H4 { s4 with heap := s4.heap.push { cls := .type "slice", data := .fields #[.none, .none, vs] } } := I4.kept (t' := s4.toks) fun b ob q => Heap.get?_push_of_some _ q
  obtain ⟨its, r, ht, hz⟩ := I5.tuple hx
  have hlen := r.length
  show wpAny (model X.prog X.w) X.A (subscriptTail e (.Slice none none (some (.UnaryOp .USub (.Constant (.int 1) k p1) p2)) p3) (.ref a) (.ref s4.heap.objs.size)) (EP X pins σ Q) X.xe { s4 with heap := s4.heap.push { cls := .type "slice", data := .fields #[.none, .none, vs] } }
  refine tail_any (ops := [.ref a, .ref s4.heap.objs.size]) ht.typeIs (slot_tuple_getitem.lookup) ?_ (by with_unfolding_all rfl)
  refine back_item ht (Heap.IsSliceOf.new _ .none .none vs) ps ?_ (by rw [List.size_toArray]; omega)
  refine ⟨.ref _, _, I5.laid (t' := s4.toks) (o := .tup xs.reverse) (fun b ob q => Heap.get?_push_of_some _ q) (Nat.le_refl _) ?_, rfl, q _ (I5.hok.fresh (Nat.le_refl _))⟩
  exact ⟨by rw [List.length_reverse]; exact hz, its.reverse, r.reverse, _, Heap.get?_push_size _ rfl, rfl, _, rfl⟩
end
/-! ### texts that are short and of plain signs -/
theorem okS {z : Str} : okStr z = true ↔ z.length ≤ 1000 ∧ ∀ c ∈ z.cps.toList, c < 128 := by
  unfold okStr
  rw [Bool.and_eq_true, List.all_eq_true]
  constructor
  · exact fun h => ⟨of_decide_eq_true h.1, fun c hc => of_decide_eq_true (h.2 c hc)⟩
  · exact fun h => ⟨decide_eq_true h.1, fun c hc => decide_eq_true (h.2 c hc)⟩
theorem tl_len (z : Str) : z.cps.toList.length = z.length := Array.length_toList
theorem cut_tl (z : Str) (lo hi : Option Int) : (cutS z lo hi).cps.toList = (z.cps.toList.drop (HT.sIx z.length 0 lo)).take (HT.sIx z.length z.length hi - HT.sIx z.length 0 lo) := rfl
theorem cut_len (z : Str) (lo hi : Option Int) : (cutS z lo hi).length ≤ z.length := by
  rw [← tl_len, cut_tl, List.length_take, List.length_drop, tl_len]
  omega
theorem cut_asc {z : Str} (lo hi : Option Int) (h : ∀ c ∈ z.cps.toList, c < 128) : ∀ c ∈ (cutS z lo hi).cps.toList, c < 128 := fun c hc => by
  rw [cut_tl] at hc
  exact h c (List.mem_of_mem_drop (List.mem_of_mem_take hc))
theorem cat_tl (a b : Str) : (a ++ b).cps.toList = a.cps.toList ++ b.cps.toList := TL.tl_append a b
theorem cat_len (a b : Str) : (a ++ b).length = a.length + b.length := by
  rw [← tl_len, cat_tl, List.length_append, tl_len, tl_len]
theorem cat_asc {a b : Str} (ha : ∀ c ∈ a.cps.toList, c < 128) (hb : ∀ c ∈ b.cps.toList, c < 128) : ∀ c ∈ (a ++ b).cps.toList, c < 128 := fun c hc => by
  rw [cat_tl] at hc
  rcases List.mem_append.mp hc with hc | hc
  · exact ha c hc
  · exact hb c hc
theorem one_asc {c : Nat} (h : c < 128) : ∀ x ∈ (⟨#[c]⟩ : Str).cps.toList, x < 128 := fun x hx => by
  rw [List.mem_singleton.mp hx]
  exact h
theorem upper_ok {z : Str} (h : ∀ c ∈ z.cps.toList, c < 128) : (Txt.upper z).length = z.length ∧ ∀ c ∈ (Txt.upper z).cps.toList, c < 128 := by
  have e := upper_S (a := z.cps.toList) (by rw [List.all_eq_true]; exact fun c hc => decide_eq_true (h c hc))
  rw [S_tl] at e
  rw [e]
  refine ⟨by rw [S_len, List.length_map, tl_len], fun c hc => ?_⟩
  obtain ⟨x, hx, rfl⟩ := List.mem_map.mp (show c ∈ z.cps.toList.map up1 from hc)
  have := h x hx
  unfold up1
  split <;> omega
end My

set_option Elab.async false
set_option linter.all false
set_option maxRecDepth 100000
namespace My
open PySem L2 SX
abbrev s_law_bent_name : Stmt := top 22
abbrev N_law_bent_name : List Str := ["_law_pen", "_law_name_here", "_law_at", "_law_sign", "_law_way"]
abbrev P_law_bent_name : List Str := ["_law_pen", "_law_name_here"]
theorem sc_law_bent_name : FnScope N_law_bent_name P_law_bent_name (defScope s_law_bent_name) := ⟨rfl, rfl, rfl, by decide +kernel, rfl, by decide +kernel, by decide +kernel⟩
def spBentName (K : PySem.W.Frag) : Sp := fun vs H Q _ => ∃ (d L : Addr) (ns : List Int) (n : Nat) (z : Str), vs = [.ref d, .str z] ∧ Pen K H d L ns n ∧ n < 2 ^ 39 ∧ isName z = true ∧
  ∀ v D H', Dp K H' v D → shortD D = true → D.depth ≤ 1 → Keep d H H' → Pen K H' d L ns (n + 4) → Q v H'
def zSigns : Str := Str.ofString "AZ_-~ .,()*|&+09az\n\t"
theorem signs_asc : ∀ c ∈ zSigns.cps.toList, c < 128 := by decide +kernel
theorem add_fit {a b : Str} (ha : a.length ≤ 400) (hb : b.length ≤ 400) : a.length + b.length ≤ sizeLine := Nat.le_of_lt (small1000 (by omega))
section
variable {P : Program} {w : World} {K : PySem.W.Frag} {mg : Str → Option Value} {base : Heap} {f : Addr} {fd : FuncData}
theorem ok_law_bent_name (T : Txt K mg) (F : Fun K "_law_bent_name" "_law_bent_name" s_law_bent_name f fd) (C_law_draw : Cal P w K mg base "_law_draw" 1 ["_law_pen", "_law_span"] (spDraw K)) (C_law_pick : Cal P w K mg base "_law_pick" 2 ["_law_pen", "_law_some"] (spPick K)) :
    FnOk P w K mg base CX0 3 f fd P_law_bent_name (spBentName K) := by
  refine F.ok sc_law_bent_name (fun vs H Q E h => ?_) (fun cdv A outer s H vs Q E hr h => ?_)
  · obtain ⟨d, L, ns, n, z, rfl, _⟩ := h
    rfl
  obtain ⟨d, L, ns, n, z, rfl, p, hn, hname, q⟩ := h
  refine ⟨_, (pss_cons (ps_par (i := 2) (j := 3) (by rfl) sc_law_bent_name.nd rfl rfl (by decide) rfl rfl (pa_cons (pe_callC C_law_draw hr (pa_cons (pv 0) (pa_cons (pe_callB call_len rfl T.len (by decide +kernel) (pa_cons (pv 1) pa_nil)) pa_nil))) (pa_cons (pe_callC C_law_pick hr (pa_cons (pv 0) (pa_cons pe_str pa_nil))) pa_nil)) (by rfl))
  (pss_cons (ps_set (i := 4) sc_law_bent_name.nd rfl (Or.inl rfl) (pe_callC C_law_draw hr (pa_cons (pv 0) (pa_cons pe_int pa_nil))))
  (pss_cons (ps_if (pt_cmpR op_lt (pv 4) pe_int (nomark _))
    (pss_one (ps_ret (pe_op op_add_str (pe_op op_add_str (pe_slice sl_str (pv 1) po_none (po_some (pv 2))) (pv 3)) (pe_slice sl_str (pv 1) (po_some (pe_op op_add (pv 2) pe_int)) po_none))))
    pss_nil)
  (pss_cons (ps_if (pt_cmpR op_lt (pv 4) pe_int (nomark _))
    (pss_one (ps_ret (pe_op op_add_str (pe_op op_add_str (pe_slice sl_str (pv 1) po_none (po_some (pv 2))) (pv 3)) (pe_slice sl_str (pv 1) (po_some (pv 2)) po_none))))
    pss_nil)
  (pss_cons (ps_if (pt_cmpR op_lt (pv 4) pe_int (nomark _))
    (pss_one (ps_ret (pe_slice sl_str (pe_op op_add_str (pv 1) pe_str) po_none (po_some (pe_op op_add pe_int (pe_callC C_law_draw hr (pa_cons (pv 0) (pa_cons pe_int pa_nil))))))))
    pss_nil)
  (pss_one (ps_ret (pe_ix ix_list (pe_lst (pa_cons (pe_op op_add_str (pe_slice sl_str (pv 1) po_none (po_some (pv 2))) (pe_slice sl_str (pv 1) (po_some (pe_op op_add (pv 2) pe_int)) po_none)) (pa_cons (pe_op op_add_str (pv 1) (pv 3)) (pa_cons (pe_upper (pv 1)) (pa_cons (pe_lst (pa_cons (pv 1) pa_nil)) (pa_cons pe_int pa_nil)))))) (pe_op op_sub (pv 4) pe_int) (fun _ _ => rfl))))))))), ?_⟩
  have hl12 := name_len hname
  have hz : z.length ≤ sizeLine := Nat.le_of_lt (small1000 (by omega))
  have hasc := (okS.mp (okStr_of_name hname)).2
  have hcl : ∀ lo hi, (cutS z lo hi).length ≤ 12 := fun lo hi => Nat.le_trans (cut_len z lo hi) hl12.2
  refine ⟨_, rfl, _, rfl, _, _, rfl, ⟨hz, rfl⟩, d, L, ns, n, _, rfl, p, by omega, by omega, by omega, fun at_ H1 a0 a1 k1 p1 => ?_⟩
  refine ⟨_, rfl, d, L, ns, n + 1, _, rfl, p1, by omega, .inr ⟨zSigns, rfl, by decide +kernel, by decide +kernel, fun c H2 hc k2 p2 => ⟨_, _, rfl, ?_⟩⟩⟩
  have hc1 := one_asc (signs_asc c hc)
  have l1 : (⟨#[c]⟩ : Str).length = 1 := rfl
  refine ⟨_, rfl, d, L, ns, n + 2, 12, rfl, p2, by omega, by decide, by decide, fun way H3 w0 w1 k3 p3 => ?_⟩
  have kk := (k1.trans k2).trans k3
  refine ⟨_, rfl, _, _, rfl, rfl, _, rfl, ?_⟩
  have fin : ∀ (t : Str) H', t.length ≤ 400 → (∀ c ∈ t.cps.toList, c < 128) → Keep d H H' → Pen K H' d L ns (n + 4) → Q (.str t) H' := fun t H' hl ha hk hp =>
    q (.str t) (.str t) H' (.str t) (by unfold shortD; exact okS.mpr ⟨by omega, ha⟩) (by simp [PyData.depth]) hk hp
  refine ite2 (fun c1 => ?_) (fun c1 => ?_)
  · refine ⟨_, rfl, _, rfl, _, rfl, z, rfl, hz, _, rfl, _, _, rfl, rfl, add_fit (by have := hcl none (some at_); omega) (by omega), _, rfl, _, rfl, _, _, rfl, rfl, _, rfl, z, rfl, hz, _, _, rfl, rfl, add_fit (by rw [cat_len]; have := hcl none (some at_); omega) (by have := hcl (some (at_ + 1)) none; omega), ?_⟩
    refine fin _ _ ?_ (cat_asc (cat_asc (cut_asc _ _ hasc) hc1) (cut_asc _ _ hasc)) kk (p3.mono (by omega))
    rw [cat_len, cat_len]
    have h1 := hcl none (some at_)
    have h2 := hcl (some (at_ + 1)) none
    omega
  refine ⟨_, rfl, _, _, rfl, rfl, _, rfl, ?_⟩
  refine ite2 (fun c2 => ?_) (fun c2 => ?_)
  · refine ⟨_, rfl, _, rfl, _, rfl, z, rfl, hz, _, rfl, _, _, rfl, rfl, add_fit (by have := hcl none (some at_); omega) (by omega), _, rfl, _, rfl, _, rfl, z, rfl, hz, _, _, rfl, rfl, add_fit (by rw [cat_len]; have := hcl none (some at_); omega) (by have := hcl (some at_) none; omega), ?_⟩
    refine fin _ _ ?_ (cat_asc (cat_asc (cut_asc _ _ hasc) hc1) (cut_asc _ _ hasc)) kk (p3.mono (by omega))
    rw [cat_len, cat_len]
    have h1 := hcl none (some at_)
    have h2 := hcl (some at_) none
    omega
  refine ⟨_, rfl, _, _, rfl, rfl, _, rfl, ?_⟩
  refine ite2 (fun c3 => ?_) (fun c3 => ?_)
  · have hm : (Str.ofString "a1b2c3d4e5f6").length ≤ 100 := by decide +kernel
    have hm2 : ∀ c ∈ (Str.ofString "a1b2c3d4e5f6").cps.toList, c < 128 := by decide +kernel
    refine ⟨_, rfl, _, _, rfl, rfl, add_fit (by omega) (by omega), _, rfl, d, L, ns, n + 3, 2, rfl, p3, by omega, by decide, by decide, fun r H4 r0 r1 k4 p4 => ?_⟩
    refine ⟨_, _, rfl, rfl, _, rfl, _, rfl, by rw [cat_len]; exact Nat.le_of_lt (small1000 (by omega)), ?_⟩
    refine fin _ _ ?_ (cut_asc _ _ (cat_asc hasc hm2)) (kk.trans k4) (p4.mono (by omega))
    refine Nat.le_trans (cut_len _ _ _) ?_
    rw [cat_len]
    omega
  · have c3' : ¬ way < 7 := fun z => c3 (decide_eq_true z)
    refine ⟨_, rfl, _, rfl, _, rfl, z, rfl, hz, _, rfl, _, rfl, _, _, rfl, rfl, _, rfl, z, rfl, hz, _, _, rfl, rfl, add_fit (by have := hcl none (some at_); omega) (by have := hcl (some (at_ + 1)) none; omega), ?_⟩
    refine ⟨_, rfl, _, rfl, _, _, rfl, rfl, add_fit (by omega) (by omega), _, rfl, ⟨_, rfl⟩, _, rfl, rfl, by omega, _, rfl, by show 1 ≤ sizeLine; decide, fun p5 n5 => ⟨by show 5 ≤ sizeLine; decide, fun p6 n6 => ?_⟩⟩
    have kf : Keep d H (upd (upd H3 p5 (.lst [.str z])) p6 (.lst [.str (cutS z none (some at_) ++ cutS z (some (at_ + 1)) none), .str (z ++ ⟨#[c]⟩), .str (Txt.upper z), .ref p5, .int 5])) := kk.trans ((Same.toKeep (same_new n5 _)).trans (Same.toKeep (same_new n6 _)))
    have pf := (((p3.same (same_new n5 (.lst [.str z]))).same (same_new n6 (.lst [.str (cutS z none (some at_) ++ cutS z (some (at_ + 1)) none), .str (z ++ ⟨#[c]⟩), .str (Txt.upper z), .ref p5, .int 5]))).mono (show n + 2 + 1 ≤ n + 4 by omega))
    have e5 := same_new n6 (.lst [.str (cutS z none (some at_) ++ cutS z (some (at_ + 1)) none), .str (z ++ ⟨#[c]⟩), .str (Txt.upper z), .ref p5, .int 5]) _ _ (upd_same (H := H3) (a := p5) (o := .lst [.str z]))
    have hup := upper_ok hasc
    have hway : way = 7 ∨ way = 8 ∨ way = 9 ∨ way = 10 ∨ way = 11 := by omega
    rcases hway with rfl | rfl | rfl | rfl | rfl
    · refine ⟨_, rfl, _, _, rfl, rfl, p6, _, _, _, rfl, rfl, SqL.of upd_same, rfl, ?_⟩
      refine fin _ _ ?_ (cat_asc (cut_asc _ _ hasc) (cut_asc _ _ hasc)) kf pf
      rw [cat_len]
      have h1 := hcl none (some at_)
      have h2 := hcl (some (at_ + 1)) none
      omega
    · refine ⟨_, rfl, _, _, rfl, rfl, p6, _, _, _, rfl, rfl, SqL.of upd_same, rfl, ?_⟩
      refine fin _ _ ?_ (cat_asc hasc hc1) kf pf
      rw [cat_len]
      omega
    · refine ⟨_, rfl, _, _, rfl, rfl, p6, _, _, _, rfl, rfl, SqL.of upd_same, rfl, ?_⟩
      exact fin _ _ (by omega) hup.2 kf pf
    · refine ⟨_, rfl, _, _, rfl, rfl, p6, _, _, _, rfl, rfl, SqL.of upd_same, rfl, ?_⟩
      refine q (.ref p5) (.list [.str z]) _ (.lst (SqL.of e5) (.cons (.str z) .nil)) ?_ (by simp [PyData.depth, PyData.depthAll]) kf pf
      simp only [shortD, shortAll, okStr_of_name hname, Bool.and_self]
    · refine ⟨_, rfl, _, _, rfl, rfl, p6, _, _, _, rfl, rfl, SqL.of upd_same, rfl, ?_⟩
      exact q (.int 5) (.int 5) _ (.int 5) (by simp only [shortD]) (by simp [PyData.depth]) kf pf
end
end My

set_option Elab.async false
set_option linter.all false
set_option maxRecDepth 100000
namespace My
open PySem PySem.Spec PyProof.Rows L2 SX
/-! ### the same rules, the heap behind them left open -/
/-- a new object -/
def New (o : HO) (Q : VK) (H : Hp) : Prop := ∀ p H', Same H H' → H' p = some o → Q (.ref p) H'
/-- a tuple, new or not -/
def NewT (K : PySem.W.Frag) (xs : List V) (Q : VK) (H : Hp) : Prop := ∀ p H', Same H H' → SqT K H' p xs → Q (.ref p) H'
theorem New.go {o : HO} {Q : VK} {H : Hp} (h : New o Q H) : ∀ p, H p = none → Q (.ref p) (upd H p o) := fun p np => h p _ (same_new np o) upd_same
theorem NewT.go {K : PySem.W.Frag} {xs : List V} {Q : VK} {H : Hp} (h : NewT K xs Q H) : ∀ p, H p = none → Q (.ref p) (upd H p (.tup xs)) := fun p np => h p _ (same_new np _) (SqT.of upd_same)
theorem le1k {n : Nat} (h : Nat.ble n 1000 = true := by rfl) : n ≤ 1000 := Nat.le_of_ble_eq_true h
theorem fit1000 {n : Nat} (h : n ≤ 1000) : n ≤ sizeLine := Nat.le_of_lt (small1000 h)
def nTup (K : PySem.W.Frag) (t : TA) : TE := fun σ H Q => t σ H fun xs H1 => xs.length ≤ 1000 ∧ NewT K xs Q H1
def nLst (t : TA) : TE := fun σ H Q => t σ H fun xs H1 => xs.length ≤ 1000 ∧ New (.lst xs) Q H1
def nCatT (K : PySem.W.Frag) : R2 := fun x y H Q => ∃ a b xs ys, x = .ref a ∧ y = .ref b ∧ SqT K H a xs ∧ SqT K H b ys ∧ xs.length + ys.length ≤ 1000 ∧ NewT K (xs ++ ys) Q H
def nCatL : R2 := fun x y H Q => ∃ l b xs zs, x = .ref l ∧ y = .ref b ∧ H l = some (.lst xs) ∧ H b = some (.lst zs) ∧ xs.length + zs.length ≤ 1000 ∧ New (.lst (xs ++ zs)) Q H
def nSlT (K : PySem.W.Frag) : V → Option Int → Option Int → Hp → VK → Prop := fun x lo hi H Q => ∃ a xs, x = .ref a ∧ SqT K H a xs ∧ NewT K (cutV xs lo hi) Q H
def nListOf (K : PySem.W.Frag) : List V → Hp → VK → Prop := fun xs H Q => ∃ p ys, xs = [.ref p] ∧ (SqL K H p ys ∨ SqT K H p ys) ∧ New (.lst ys) Q H
section
variable {X : Cx} {es : List Expr} {t : TA} {pos : Pos}
theorem pe_tupN {x1} (h : PA X es t) : PE X (.Tuple es x1 pos) (nTup X.K t) := by
  refine ⟨fun pins s σ H Q I hq => wpAny_Tuple_spliced (thn (h.run pos pins s σ H _ I hq) fun us s1 ⟨xs, H1, I1, r, z, q⟩ => ⟨by rw [← r.length]; exact fit1000 z, ?_⟩)⟩
  have hf := I1.hok.fresh (Nat.le_refl s1.heap.objs.size)
  exact ⟨.ref s1.heap.objs.size, upd H1 s1.heap.objs.size (.tup xs), I1.laid (t' := s1.toks) (fun b u e => Heap.get?_push_of_some _ e) (Nat.le_refl _) ⟨fit1000 z, us, r, ⟨_, Heap.get?_push_size _ rfl, rfl, _, rfl⟩⟩, rfl, q.go _ hf⟩
theorem pe_lstN (h : PA X es t) : PE X (.List es pos) (nLst t) := by
  refine ⟨fun pins s σ H Q I hq => wpAny_List_spliced (thn (h.run pos pins s σ H _ I hq) fun us s1 ⟨xs, H1, I1, r, z, q⟩ => ⟨by rw [← r.length]; exact fit1000 z, ?_⟩)⟩
  have hf := I1.hok.fresh (Nat.le_refl s1.heap.objs.size)
  exact ⟨.ref s1.heap.objs.size, upd H1 s1.heap.objs.size (.lst xs), I1.laid (t' := s1.toks) (fun b u e => Heap.get?_push_of_some _ e) (Nat.le_refl _) ⟨fit1000 z, us, 0, r, Heap.get?_push_size _ rfl⟩, rfl, q.go _ hf⟩
theorem op_catTN : OpR X (binaryOp .Add) (nCatT X.K) := by
  intro pins s σ H x y v u Q I rx ry ⟨a, b, xs, ys, ex, ey, hx, hy, hl, q⟩
  refine op_catA pins s σ H x y v u Q I rx ry ⟨a, b, xs, ys, ex, ey, hx, hy, fit1000 hl, fun e => ?_, fun _ e => ?_, fun _ _ => q.go⟩
  · subst e
    exact q b H (Same.refl H) hy
  · subst e
    exact q a H (Same.refl H) (by rw [List.append_nil]; exact hx)
theorem op_catLN : OpR X (binaryOp .Add) nCatL := by
  intro pins s σ H x y v u Q I rx ry ⟨l, b, xs, zs, ex, ey, hx, hy, hl, q⟩
  exact op_cat pins s σ H x y v u Q I rx ry ⟨l, b, xs, zs, ex, ey, hx, hy, fit1000 hl, q.go⟩
theorem sl_tupN : SlR X (nSlT X.K) := by
  intro pins s σ H x v vl vu lo hi sl Q I rx hs pl pu ⟨a, xs, ex, hx, q⟩
  refine sl_tupA pins s σ H x v vl vu lo hi sl Q I rx hs pl pu ⟨a, xs, ex, hx, fun ⟨e1, e2⟩ => ?_, fun _ => q.go⟩
  refine q a H (Same.refl H) ?_
  have e : cutV xs lo hi = xs := by
    unfold cutV
    rw [e1, e2, List.drop_zero, Nat.sub_zero, List.take_length]
  rw [e]
  exact hx
theorem call_listN : CallR X (.type "list") (nListOf X.K) := by
  intro pins s σ H xs us Q I r ⟨p, ys, ex, hy, q⟩
  exact call_list_of pins s σ H xs us Q I r ⟨p, ys, ex, hy, q.go⟩
end
abbrev s_law_bent : Stmt := top 23
abbrev N_law_bent : List Str := ["_law_pen", "_law_form", "_law_at", "_law_rest", "_law_odd"]
abbrev P_law_bent : List Str := ["_law_pen", "_law_form"]
theorem sc_law_bent : FnScope N_law_bent P_law_bent (defScope s_law_bent) := ⟨rfl, rfl, rfl, by decide +kernel, rfl, by decide +kernel, by decide +kernel⟩
def spBent (K : PySem.W.Frag) (k : Nat) : Sp := fun vs H Q _ => ∃ (d L : Addr) (ns : List Int) (n : Nat) (v : V) (D : PyData) (k' : Nat), vs = [.ref d, v] ∧ k' < k ∧ k' ≤ 40 ∧ Pen K H d L ns n ∧ n + 3 * k' < 2 ^ 38 ∧ Dp K H v D ∧ isForm k' D = true ∧
  ∀ v' D' H', Dp K H' v' D' → shortD D' = true → D'.depth ≤ k' + 4 → Keep d H H' → Pen K H' d L ns (n + (2 * k' + 5)) → Q v' H'
theorem okStr_s : ∀ w ∈ leafW ++ halfW, okStr (w ++ Str.ofString "s") = true := by decide +kernel
theorem word_len : ∀ w ∈ leafW ++ halfW, w.length ≤ 100 := by decide +kernel
section
variable {P : Program} {w : World} {K : PySem.W.Frag} {mg : Str → Option Value} {base : Heap} {f : Addr} {fd : FuncData}
set_option maxHeartbeats 4000000 in
theorem ok_law_bent {k : Nat} (T : Txt K mg) (F : Fun K "_law_bent" "_law_bent" s_law_bent f fd) (C_law_draw : Cal P w K mg base "_law_draw" 1 ["_law_pen", "_law_span"] (spDraw K)) (C_law_pick : Cal P w K mg base "_law_pick" 2 ["_law_pen", "_law_some"] (spPick K))
    (C_law_bent_name : Cal P w K mg base "_law_bent_name" 3 P_law_bent_name (spBentName K)) (C_law_bent : Cal P w K mg base "_law_bent" (3 + k) P_law_bent (spBent K k)) : FnOk P w K mg base CX0 (3 + k + 1) f fd P_law_bent (spBent K (k + 1)) := by
  refine F.ok sc_law_bent (fun vs H Q E h => ?_) (fun cdv A outer s H vs Q E hr h => ?_)
  · obtain ⟨d, L, ns, n, v, D, k', rfl, _⟩ := h
    rfl
  obtain ⟨d, L, ns, n, v, D, k', rfl, hk, hk40, p, hn, hv, hD, q⟩ := h
  refine ⟨_, (pss_cons (ps_if (PW.pt (pw_and (pt_cmpR op_eq (pe_callB call_len rfl T.len (by decide +kernel) (pa_cons (pv 1) pa_nil)) pe_int (nomark _)) (pw_and1 (pt_cmpR op_gt (pe_callC C_law_draw hr (pa_cons (pv 0) (pa_cons pe_int pa_nil))) pe_int (nomark _)))))
    (pss_cons (ps_set (i := 2) sc_law_bent.nd rfl (Or.inl rfl) (pe_op op_add pe_int (pe_callC C_law_draw hr (pa_cons (pv 0) (pa_cons pe_int pa_nil)))))
    (pss_one (ps_ret (pe_op op_catTN (pe_op op_catTN (pe_slice sl_tupN (pv 1) po_none (po_some (pv 2))) (pe_tupN (pa_cons (pe_callC C_law_bent hr (pa_cons (pv 0) (pa_cons (pe_ix ix_tup (pv 1) (pv 2) (fun _ _ => rfl)) pa_nil))) pa_nil))) (pe_slice sl_tupN (pv 1) (po_some (pe_op op_add (pv 2) pe_int)) po_none)))))
    pss_nil)
  (pss_cons (ps_if (PW.pt (pw_and (pt_cmpR op_eq (pe_callB call_len rfl T.len (by decide +kernel) (pa_cons (pv 1) pa_nil)) pe_int (nomark _)) (pw_and1 (pt_cmpR op_eq (pe_callC C_law_draw hr (pa_cons (pv 0) (pa_cons pe_int pa_nil))) pe_int (nomark _)))))
    (pss_one (ps_ret (pe_tupN (pa_cons (pe_ix ix_tup (pv 1) pe_int (fun _ _ => rfl)) (pa_cons (pe_callC C_law_bent_name hr (pa_cons (pv 0) (pa_cons (pe_ix ix_tup (pv 1) pe_int (fun _ _ => rfl)) pa_nil))) pa_nil)))))
    pss_nil)
  (pss_cons (ps_set (i := 3) sc_law_bent.nd rfl (Or.inl rfl) (pe_slice sl_tupN (pv 1) (po_some pe_int) po_none))
  (pss_cons (ps_set (i := 4) sc_law_bent.nd rfl (Or.inl rfl) (pe_lstN (pa_cons (pe_callTy call_listN rfl T.list (by decide +kernel) (pa_cons (pv 1) pa_nil)) (pa_cons (pe_op op_catTN (pv 1) (pe_tupN (pa_cons (pe_ix ix_tup (pv 1) (pe_un un_neg pe_int) (fun _ _ => rfl)) pa_nil))) (pa_cons (pe_slice sl_tupN (pv 1) po_none (po_some (pe_un un_neg pe_int))) (pa_cons (pe_op op_catTN (pe_tupN (pa_cons (pe_op op_add_str (pe_ix ix_tup (pv 1) pe_int (fun _ _ => rfl)) pe_str) pa_nil)) (pv 3)) (pa_cons (pe_op op_catTN (pe_tupN (pa_cons pe_int pa_nil)) (pv 3)) (pa_cons (pe_ix ix_tup (pv 1) pe_int (fun _ _ => rfl)) (pa_cons pe_non (pa_cons pe_bl (pa_cons (pe_tupN pa_nil) pa_nil)))))))))))
  (pss_cons (ps_set (i := 4) sc_law_bent.nd rfl (Or.inl rfl) (pe_op op_catLN (pv 4) (pe_lstN (pa_cons (pe_op op_catTN (pe_tupN (pa_cons pe_str pa_nil)) (pv 3)) (pa_cons (pe_op op_catTN (pe_tupN (pa_cons pe_str pa_nil)) (pv 3)) (pa_cons (pe_revT (pv 1)) (pa_cons (pe_op op_catTN (pe_tupN (pa_cons (pe_ix ix_tup (pv 1) pe_int (fun _ _ => rfl)) (pa_cons (pe_lstN (pa_cons (pe_ix ix_tup (pv 1) pe_int (fun _ _ => rfl)) pa_nil)) pa_nil))) (pe_slice sl_tupN (pv 1) (po_some pe_int) po_none)) (pa_cons (pe_tupN (pa_cons (pv 1) pa_nil)) pa_nil))))))))
  (pss_one (ps_ret (pe_callC C_law_pick hr (pa_cons (pv 0) (pa_cons (pv 4) pa_nil)))))))))), ?_⟩
  have kd := p.isDk
  have hshort := short_form hD
  have hdep := depth_form hD
  -- what is left when the form itself is changed, for both sorts of forms
  rcases isForm_inv hD with ⟨wd, nm, rfl, hw, hnm⟩ | ⟨j, wd, a, b, rfl, rfl, hw, ha, hb⟩
  · cases hv with | @tup t xs _ hT hA => cases hA with | @cons x0 xs1 _ _ h0 hA => cases hA with | @cons x1 xs2 _ _ h1 hN =>
    cases hN
    cases h0
    cases h1
    refine ⟨_, rfl, _, _, rfl, .inr ⟨_, hT, rfl⟩, rfl, _, rfl, ?_⟩
    refine iteF ⟨_, rfl, _, _, rfl, .inr ⟨_, hT, rfl⟩, rfl, _, rfl, ?_⟩
    refine iteT ⟨_, rfl, d, L, ns, n, 2, rfl, p, by omega, by decide, by decide, fun r H1 r0 r1 k1 p1 => ⟨rfl, _, rfl, ?_⟩⟩
    refine ite2 (fun c1 => ?_) (fun c1 => ?_)
    · refine ⟨_, rfl, t, _, _, _, rfl, rfl, seqT_keep kd k1 hT, rfl, _, rfl, _, rfl, t, _, _, _, rfl, rfl, seqT_keep kd k1 hT, rfl, d, L, ns, n + 1, nm, rfl, p1, by omega, hnm, fun v' D' H2 hd' hs' hdp' k2 p2 => ⟨by show 2 ≤ 1000; decide, fun c3 H3 S3 g3 => ?_⟩⟩
      refine q (.ref c3) (.tuple [.str wd, D']) H3 (.tup g3 (.cons (.str _) (.cons (dp_same S3 _ _ hd') .nil))) ?_ ?_ ((k1.trans k2).trans (Same.toKeep S3)) ((p2.same S3).mono (by omega))
      · simp only [shortD, shortAll, okStr_leaf wd hw, hs', Bool.and_self]
      · simp only [PyData.depth, PyData.depthAll]
        omega
    · have okw := okStr_leaf wd hw
      have oks := okStr_s wd (List.mem_append_left _ hw)
      have okb : okStr (Str.ofString "both") = true := by decide +kernel
      have okc : okStr (Str.ofString "counter") = true := by decide +kernel
      have sa : okStr nm = true := okStr_of_name hnm
      have hwl := word_len wd (List.mem_append_left _ hw)
      have hT1 := seqT_keep kd k1 hT
      have W0 : Same H1 H1 := Same.refl H1
      refine ⟨_, rfl, _, rfl, t, _, rfl, (seqT_same W0 hT1), fun cR hp1 S1 g1 => ?_⟩
      have W1 := W0.trans S1
      refine ⟨_, rfl, t, _, rfl, .inr (seqT_same W1 hT1), fun l1 hp2 S2 g2 => ?_⟩
      have W2 := W1.trans S2
      refine ⟨_, rfl, _, rfl, _, rfl, t, _, _, _, rfl, rfl, (seqT_same W2 hT1), rfl, le1k, fun c2 hp3 S3 g3 => ?_⟩
      have W3 := W2.trans S3
      refine ⟨t, c2, _, _, rfl, rfl, (seqT_same W3 hT1), g3, le1k, fun c3 hp4 S4 g4 => ?_⟩
      have W4 := W3.trans S4
      refine ⟨_, rfl, _, rfl, _, rfl, t, _, rfl, (seqT_same W4 hT1), fun c4 hp5 S5 g5 => ?_⟩
      have W5 := W4.trans S5
      refine ⟨_, rfl, t, _, _, _, rfl, rfl, (seqT_same W5 hT1), rfl, _, _, rfl, rfl, add_fit (by omega) (by decide +kernel), le1k, fun c5 hp6 S6 g6 => ?_⟩
      have W6 := W5.trans S6
      refine ⟨_, rfl, c5, cR, _, _, rfl, rfl, g6, (seqT_same (((((S2).trans S3).trans S4).trans S5).trans S6) g1), le1k, fun c6 hp7 S7 g7 => ?_⟩
      have W7 := W6.trans S7
      refine ⟨le1k, fun c7 hp8 S8 g8 => ?_⟩
      have W8 := W7.trans S8
      refine ⟨_, rfl, c7, cR, _, _, rfl, rfl, g8, (seqT_same (((((((S2).trans S3).trans S4).trans S5).trans S6).trans S7).trans S8) g1), le1k, fun c8 hp9 S9 g9 => ?_⟩
      have W9 := W8.trans S9
      refine ⟨_, rfl, t, _, _, _, rfl, rfl, (seqT_same W9 hT1), rfl, le1k, fun c9 hp10 S10 g10 => ?_⟩
      have W10 := W9.trans S10
      refine ⟨le1k, fun l2 hp11 S11 g11 => ?_⟩
      have W11 := W10.trans S11
      refine ⟨_, rfl, le1k, fun c11 hp12 S12 g12 => ?_⟩
      have W12 := W11.trans S12
      refine ⟨_, rfl, c11, cR, _, _, rfl, rfl, g12, (seqT_same (((((((((((S2).trans S3).trans S4).trans S5).trans S6).trans S7).trans S8).trans S9).trans S10).trans S11).trans S12) g1), le1k, fun c12 hp13 S13 g13 => ?_⟩
      have W13 := W12.trans S13
      refine ⟨le1k, fun c13 hp14 S14 g14 => ?_⟩
      have W14 := W13.trans S14
      refine ⟨_, rfl, c13, cR, _, _, rfl, rfl, g14, (seqT_same (((((((((((((S2).trans S3).trans S4).trans S5).trans S6).trans S7).trans S8).trans S9).trans S10).trans S11).trans S12).trans S13).trans S14) g1), le1k, fun c14 hp15 S15 g15 => ?_⟩
      have W15 := W14.trans S15
      refine ⟨_, rfl, t, _, rfl, (seqT_same W15 hT1), fun c15 n15 => ?_⟩
      obtain ⟨hp16, e16, S16, g16⟩ : ∃ h, upd hp15 c15 (.tup ([.str wd, .str nm] : List V).reverse) = h ∧ Same hp15 h ∧ SqT K h c15 ([.str wd, .str nm] : List V).reverse := ⟨_, rfl, same_new n15 _, SqT.of upd_same⟩
      rw [e16]
      have W16 := W15.trans S16
      refine ⟨_, rfl, t, _, _, _, rfl, rfl, (seqT_same W16 hT1), rfl, _, rfl, t, _, _, _, rfl, rfl, (seqT_same W16 hT1), rfl, le1k, fun l16 hp17 S17 g17 => ?_⟩
      have W17 := W16.trans S17
      refine ⟨le1k, fun c17 hp18 S18 g18 => ?_⟩
      have W18 := W17.trans S18
      refine ⟨_, rfl, _, rfl, t, _, rfl, (seqT_same W18 hT1), fun c18 hp19 S19 g19 => ?_⟩
      have W19 := W18.trans S19
      refine ⟨c17, c18, _, _, rfl, rfl, (seqT_same (S19) g18), g19, le1k, fun c19 hp20 S20 g20 => ?_⟩
      have W20 := W19.trans S20
      refine ⟨_, rfl, le1k, fun c20 hp21 S21 g21 => ?_⟩
      have W21 := W20.trans S21
      refine ⟨le1k, fun l21 hp22 S22 g22 => ?_⟩
      have W22 := W21.trans S22
      refine ⟨l2, l21, _, _, rfl, rfl, (((((((((((S12).trans S13).trans S14).trans S15).trans S16).trans S17).trans S18).trans S19).trans S20).trans S21).trans S22) _ _ g11, g22, le1k, fun l22 hp23 S23 g23 => ?_⟩
      have W23 := W22.trans S23
      have pV := p1.same W23
      refine ⟨_, rfl, _, rfl, d, L, ns, n + 1, _, rfl, pV, by omega, .inl ⟨l22, _, rfl, SqL.of g23, by simp, le1k, fun x HW hx kW pW => ?_⟩⟩
      have kF := (k1.trans (Same.toKeep W23)).trans kW
      have kdV := pV.isDk
      have two : ∀ i : Nat, i = i := fun _ => rfl
      have fin : ∀ D' : PyData, Dp K HW x D' → shortD D' = true → D'.depth ≤ k' + 4 → Q x HW := fun D' e1 e2 e3 => q x D' HW e1 e2 e3 kF (pW.mono (by omega))
      simp only [List.cons_append, List.nil_append, List.mem_cons, List.not_mem_nil, or_false] at hx
      rcases hx with rfl | rfl | rfl | rfl | rfl | rfl | rfl | rfl | rfl | rfl | rfl | rfl | rfl | rfl
      · refine fin (.list [.str wd, .str nm]) (.lst (seqL_keep kdV kW (SqL.of ((((((((((((((((((((((S3).trans S4).trans S5).trans S6).trans S7).trans S8).trans S9).trans S10).trans S11).trans S12).trans S13).trans S14).trans S15).trans S16).trans S17).trans S18).trans S19).trans S20).trans S21).trans S22).trans S23) _ _ g2))) (.cons (.str _) (.cons (.str nm) .nil))) ?_ ?_
        · first | exact sa | simp only [shortD, shortAll, okw, oks, okb, okc, sa, Bool.and_self]
        · first | omega | (simp only [PyData.depth, PyData.depthAll]; omega)
      · refine fin (.tuple [.str wd, .str nm, .str nm]) (.tup (seqT_keep kdV kW (seqT_same (((((((((((((((((((S5).trans S6).trans S7).trans S8).trans S9).trans S10).trans S11).trans S12).trans S13).trans S14).trans S15).trans S16).trans S17).trans S18).trans S19).trans S20).trans S21).trans S22).trans S23) g4)) (.cons (.str _) (.cons (.str nm) (.cons (.str nm) .nil)))) ?_ ?_
        · first | exact sa | simp only [shortD, shortAll, okw, oks, okb, okc, sa, Bool.and_self]
        · first | omega | (simp only [PyData.depth, PyData.depthAll]; omega)
      · refine fin (.tuple [.str wd]) (.tup (seqT_keep kdV kW (seqT_same ((((((((((((((((((S6).trans S7).trans S8).trans S9).trans S10).trans S11).trans S12).trans S13).trans S14).trans S15).trans S16).trans S17).trans S18).trans S19).trans S20).trans S21).trans S22).trans S23) g5)) (.cons (.str _) .nil)) ?_ ?_
        · first | exact sa | simp only [shortD, shortAll, okw, oks, okb, okc, sa, Bool.and_self]
        · first | omega | (simp only [PyData.depth, PyData.depthAll]; omega)
      · refine fin (.tuple [.str (wd ++ Str.ofString "s"), .str nm]) (.tup (seqT_keep kdV kW (seqT_same ((((((((((((((((S8).trans S9).trans S10).trans S11).trans S12).trans S13).trans S14).trans S15).trans S16).trans S17).trans S18).trans S19).trans S20).trans S21).trans S22).trans S23) g7)) (.cons (.str _) (.cons (.str nm) .nil))) ?_ ?_
        · first | exact sa | simp only [shortD, shortAll, okw, oks, okb, okc, sa, Bool.and_self]
        · first | omega | (simp only [PyData.depth, PyData.depthAll]; omega)
      · refine fin (.tuple [.int 1, .str nm]) (.tup (seqT_keep kdV kW (seqT_same ((((((((((((((S10).trans S11).trans S12).trans S13).trans S14).trans S15).trans S16).trans S17).trans S18).trans S19).trans S20).trans S21).trans S22).trans S23) g9)) (.cons (.int _) (.cons (.str nm) .nil))) ?_ ?_
        · first | exact sa | simp only [shortD, shortAll, okw, oks, okb, okc, sa, Bool.and_self]
        · first | omega | (simp only [PyData.depth, PyData.depthAll]; omega)
      · refine fin (.str nm) (.str nm) ?_ ?_
        · first | exact sa | simp only [shortD, shortAll, okw, oks, okb, okc, sa, Bool.and_self]
        · first | omega | (simp only [PyData.depth, PyData.depthAll]; omega)
      · refine fin (.none) .non ?_ ?_
        · first | exact sa | simp only [shortD, shortAll, okw, oks, okb, okc, sa, Bool.and_self]
        · first | omega | (simp only [PyData.depth, PyData.depthAll]; omega)
      · refine fin (.bool true) (.bl true) ?_ ?_
        · first | exact sa | simp only [shortD, shortAll, okw, oks, okb, okc, sa, Bool.and_self]
        · first | omega | (simp only [PyData.depth, PyData.depthAll]; omega)
      · refine fin (.tuple []) (.tup (seqT_keep kdV kW (seqT_same (((((((((((((S11).trans S12).trans S13).trans S14).trans S15).trans S16).trans S17).trans S18).trans S19).trans S20).trans S21).trans S22).trans S23) g10)) .nil) ?_ ?_
        · first | exact sa | simp only [shortD, shortAll, okw, oks, okb, okc, sa, Bool.and_self]
        · first | omega | (simp only [PyData.depth, PyData.depthAll]; omega)
      · refine fin (.tuple [.str (Str.ofString "both"), .str nm]) (.tup (seqT_keep kdV kW (seqT_same ((((((((((S14).trans S15).trans S16).trans S17).trans S18).trans S19).trans S20).trans S21).trans S22).trans S23) g13)) (.cons (.str _) (.cons (.str nm) .nil))) ?_ ?_
        · first | exact sa | simp only [shortD, shortAll, okw, oks, okb, okc, sa, Bool.and_self]
        · first | omega | (simp only [PyData.depth, PyData.depthAll]; omega)
      · refine fin (.tuple [.str (Str.ofString "counter"), .str nm]) (.tup (seqT_keep kdV kW (seqT_same ((((((((S16).trans S17).trans S18).trans S19).trans S20).trans S21).trans S22).trans S23) g15)) (.cons (.str _) (.cons (.str nm) .nil))) ?_ ?_
        · first | exact sa | simp only [shortD, shortAll, okw, oks, okb, okc, sa, Bool.and_self]
        · first | omega | (simp only [PyData.depth, PyData.depthAll]; omega)
      · refine fin (.tuple [.str nm, .str wd]) (.tup (seqT_keep kdV kW (seqT_same (((((((S17).trans S18).trans S19).trans S20).trans S21).trans S22).trans S23) g16)) (.cons (.str _) (.cons (.str _) .nil))) ?_ ?_
        · first | exact sa | simp only [shortD, shortAll, okw, oks, okb, okc, sa, Bool.and_self]
        · first | omega | (simp only [PyData.depth, PyData.depthAll]; omega)
      · refine fin (.tuple [.str wd, .list [.str nm]]) (.tup (seqT_keep kdV kW (seqT_same (((S21).trans S22).trans S23) g20)) (.cons (.str _) (.cons (.lst (seqL_keep kdV kW (SqL.of (((((((S18).trans S19).trans S20).trans S21).trans S22).trans S23) _ _ g17))) (.cons (.str nm) .nil)) .nil))) ?_ ?_
        · first | exact sa | simp only [shortD, shortAll, okw, oks, okb, okc, sa, Bool.and_self]
        · first | omega | (simp only [PyData.depth, PyData.depthAll]; omega)
      · refine fin (.tuple [.tuple [.str wd, .str nm]]) (.tup (seqT_keep kdV kW (seqT_same ((S22).trans S23) g21)) (.cons (.tup (seqT_keep kd kF hT) (.cons (.str _) (.cons (.str nm) .nil))) .nil)) ?_ ?_
        · first | exact sa | simp only [shortD, shortAll, okw, oks, okb, okc, sa, Bool.and_self]
        · first | omega | (simp only [PyData.depth, PyData.depthAll]; omega)
  · cases hv with | @tup t xs _ hT hA => cases hA with | @cons x0 xs1 _ _ h0 hA => cases hA with | @cons x1 xs2 _ _ h1 hA => cases hA with | @cons x2 xs3 _ _ h2 hN =>
    cases hN
    cases h0
    refine ⟨_, rfl, _, _, rfl, .inr ⟨_, hT, rfl⟩, rfl, _, rfl, ?_⟩
    refine iteT ⟨_, rfl, d, L, ns, n, 4, rfl, p, by omega, by decide, by decide, fun r H1 r0 r1 k1 p1 => ⟨_, _, rfl, rfl, _, rfl, ?_⟩⟩
    refine ite2 (fun c1 => ?_) (fun c1 => ?_)
    · refine ⟨_, rfl, d, L, ns, n + 1, 2, rfl, p1, by omega, by decide, by decide, fun r2 H2 r20 r21 k2 p2 => ⟨_, _, rfl, rfl, ?_⟩⟩
      have kk := k1.trans k2
      have hr2 : r2 = 0 ∨ r2 = 1 := by omega
      rcases hr2 with rfl | rfl
      · refine ⟨_, rfl, _, rfl, _, rfl, t, _, rfl, seqT_keep kd kk hT, fun c1 H3 S3 g3 => ?_⟩
        refine ⟨_, rfl, _, rfl, _, rfl, t, _, _, x1, rfl, rfl, seqT_same S3 (seqT_keep kd kk hT), rfl, d, L, ns, n + 2, x1, a, j, rfl, by omega, by omega, p2.same S3, by omega, dp_same S3 _ _ (dp_keep kd kk _ _ h1), ha, fun v' D' H4 hd' hs' hdp' k4 p4 => ⟨by show 1 ≤ 1000; decide, fun c2 H5 S5 g5 => ?_⟩⟩
        refine ⟨c1, c2, _, _, rfl, rfl, seqT_same S5 (seqT_keep (p2.same S3).isDk k4 g3), g5, le1k, fun c3 H6 S6 g6 => ?_⟩
        have kx := ((kk.trans (Same.toKeep S3)).trans k4).trans (Same.toKeep (S5.trans S6))
        refine ⟨_, rfl, _, rfl, _, _, rfl, rfl, _, rfl, t, _, rfl, seqT_keep kd kx hT, fun c4 H7 S7 g7 => ?_⟩
        refine ⟨c3, c4, _, _, rfl, rfl, seqT_same S7 g6, g7, le1k, fun c5 H8 S8 g8 => ?_⟩
        refine q (.ref c5) (.tuple [.str wd, D', b]) H8 (.tup (show SqT K H8 c5 [.str wd, v', x2] from g8) (.cons (.str _) (.cons (dp_same (S5.trans (S6.trans (S7.trans S8))) _ _ hd') (.cons (dp_keep kd (kx.trans (Same.toKeep (S7.trans S8))) _ _ h2) .nil)))) ?_ ?_ (kx.trans (Same.toKeep (S7.trans S8))) ((p4.same (S5.trans (S6.trans (S7.trans S8)))).mono (by omega))
        · simp only [shortD, shortAll, okStr_half wd hw, hs', short_form hb, Bool.and_self]
        · have hdb := depth_form hb
          simp only [PyData.depth, PyData.depthAll]
          omega
      · refine ⟨_, rfl, _, rfl, _, rfl, t, _, rfl, seqT_keep kd kk hT, fun c1 H3 S3 g3 => ?_⟩
        refine ⟨_, rfl, _, rfl, _, rfl, t, _, _, x2, rfl, rfl, seqT_same S3 (seqT_keep kd kk hT), rfl, d, L, ns, n + 2, x2, b, j, rfl, by omega, by omega, p2.same S3, by omega, dp_same S3 _ _ (dp_keep kd kk _ _ h2), hb, fun v' D' H4 hd' hs' hdp' k4 p4 => ⟨by show 1 ≤ 1000; decide, fun c2 H5 S5 g5 => ?_⟩⟩
        refine ⟨c1, c2, _, _, rfl, rfl, seqT_same S5 (seqT_keep (p2.same S3).isDk k4 g3), g5, le1k, fun c3 H6 S6 g6 => ?_⟩
        have kx := ((kk.trans (Same.toKeep S3)).trans k4).trans (Same.toKeep (S5.trans S6))
        refine ⟨_, rfl, _, rfl, _, _, rfl, rfl, _, rfl, t, _, rfl, seqT_keep kd kx hT, fun c4 H7 S7 g7 => ?_⟩
        refine ⟨c3, c4, _, _, rfl, rfl, seqT_same S7 g6, g7, le1k, fun c5 H8 S8 g8 => ?_⟩
        refine q (.ref c5) (.tuple [.str wd, a, D']) H8 (.tup (show SqT K H8 c5 [.str wd, x1, v'] from g8) (.cons (.str _) (.cons (dp_keep kd (kx.trans (Same.toKeep (S7.trans S8))) _ _ h1) (.cons (dp_same (S5.trans (S6.trans (S7.trans S8))) _ _ hd') .nil)))) ?_ ?_ (kx.trans (Same.toKeep (S7.trans S8))) ((p4.same (S5.trans (S6.trans (S7.trans S8)))).mono (by omega))
        · simp only [shortD, shortAll, okStr_half wd hw, hs', short_form ha, Bool.and_self]
        · have hda := depth_form ha
          simp only [PyData.depth, PyData.depthAll]
          omega
    · refine ⟨_, rfl, _, _, rfl, .inr ⟨_, seqT_keep kd k1 hT, rfl⟩, rfl, _, rfl, ?_⟩
      have okw := okStr_half wd hw
      have oks := okStr_s wd (List.mem_append_right _ hw)
      have okb : okStr (Str.ofString "both") = true := by decide +kernel
      have okc : okStr (Str.ofString "counter") = true := by decide +kernel
      have sa := short_form ha
      have sb := short_form hb
      have hda := depth_form ha
      have hdb := depth_form hb
      have hwl := word_len wd (List.mem_append_right _ hw)
      have hT1 := seqT_keep kd k1 hT
      have W0 : Same H1 H1 := Same.refl H1
      refine ⟨_, rfl, _, rfl, t, _, rfl, (seqT_same W0 hT1), fun cR hp1 S1 g1 => ?_⟩
      have W1 := W0.trans S1
      refine ⟨_, rfl, t, _, rfl, .inr (seqT_same W1 hT1), fun l1 hp2 S2 g2 => ?_⟩
      have W2 := W1.trans S2
      refine ⟨_, rfl, _, rfl, _, rfl, t, _, _, _, rfl, rfl, (seqT_same W2 hT1), rfl, le1k, fun c2 hp3 S3 g3 => ?_⟩
      have W3 := W2.trans S3
      refine ⟨t, c2, _, _, rfl, rfl, (seqT_same W3 hT1), g3, le1k, fun c3 hp4 S4 g4 => ?_⟩
      have W4 := W3.trans S4
      refine ⟨_, rfl, _, rfl, _, rfl, t, _, rfl, (seqT_same W4 hT1), fun c4 hp5 S5 g5 => ?_⟩
      have W5 := W4.trans S5
      refine ⟨_, rfl, t, _, _, _, rfl, rfl, (seqT_same W5 hT1), rfl, _, _, rfl, rfl, add_fit (by omega) (by decide +kernel), le1k, fun c5 hp6 S6 g6 => ?_⟩
      have W6 := W5.trans S6
      refine ⟨_, rfl, c5, cR, _, _, rfl, rfl, g6, (seqT_same (((((S2).trans S3).trans S4).trans S5).trans S6) g1), le1k, fun c6 hp7 S7 g7 => ?_⟩
      have W7 := W6.trans S7
      refine ⟨le1k, fun c7 hp8 S8 g8 => ?_⟩
      have W8 := W7.trans S8
      refine ⟨_, rfl, c7, cR, _, _, rfl, rfl, g8, (seqT_same (((((((S2).trans S3).trans S4).trans S5).trans S6).trans S7).trans S8) g1), le1k, fun c8 hp9 S9 g9 => ?_⟩
      have W9 := W8.trans S9
      refine ⟨_, rfl, t, _, _, _, rfl, rfl, (seqT_same W9 hT1), rfl, le1k, fun c9 hp10 S10 g10 => ?_⟩
      have W10 := W9.trans S10
      refine ⟨le1k, fun l2 hp11 S11 g11 => ?_⟩
      have W11 := W10.trans S11
      refine ⟨_, rfl, le1k, fun c11 hp12 S12 g12 => ?_⟩
      have W12 := W11.trans S12
      refine ⟨_, rfl, c11, cR, _, _, rfl, rfl, g12, (seqT_same (((((((((((S2).trans S3).trans S4).trans S5).trans S6).trans S7).trans S8).trans S9).trans S10).trans S11).trans S12) g1), le1k, fun c12 hp13 S13 g13 => ?_⟩
      have W13 := W12.trans S13
      refine ⟨le1k, fun c13 hp14 S14 g14 => ?_⟩
      have W14 := W13.trans S14
      refine ⟨_, rfl, c13, cR, _, _, rfl, rfl, g14, (seqT_same (((((((((((((S2).trans S3).trans S4).trans S5).trans S6).trans S7).trans S8).trans S9).trans S10).trans S11).trans S12).trans S13).trans S14) g1), le1k, fun c14 hp15 S15 g15 => ?_⟩
      have W15 := W14.trans S15
      refine ⟨_, rfl, t, _, rfl, (seqT_same W15 hT1), fun c15 n15 => ?_⟩
      obtain ⟨hp16, e16, S16, g16⟩ : ∃ h, upd hp15 c15 (.tup ([.str wd, x1, x2] : List V).reverse) = h ∧ Same hp15 h ∧ SqT K h c15 ([.str wd, x1, x2] : List V).reverse := ⟨_, rfl, same_new n15 _, SqT.of upd_same⟩
      rw [e16]
      have W16 := W15.trans S16
      refine ⟨_, rfl, t, _, _, _, rfl, rfl, (seqT_same W16 hT1), rfl, _, rfl, t, _, _, _, rfl, rfl, (seqT_same W16 hT1), rfl, le1k, fun l16 hp17 S17 g17 => ?_⟩
      have W17 := W16.trans S17
      refine ⟨le1k, fun c17 hp18 S18 g18 => ?_⟩
      have W18 := W17.trans S18
      refine ⟨_, rfl, _, rfl, t, _, rfl, (seqT_same W18 hT1), fun c18 hp19 S19 g19 => ?_⟩
      have W19 := W18.trans S19
      refine ⟨c17, c18, _, _, rfl, rfl, (seqT_same (S19) g18), g19, le1k, fun c19 hp20 S20 g20 => ?_⟩
      have W20 := W19.trans S20
      refine ⟨_, rfl, le1k, fun c20 hp21 S21 g21 => ?_⟩
      have W21 := W20.trans S21
      refine ⟨le1k, fun l21 hp22 S22 g22 => ?_⟩
      have W22 := W21.trans S22
      refine ⟨l2, l21, _, _, rfl, rfl, (((((((((((S12).trans S13).trans S14).trans S15).trans S16).trans S17).trans S18).trans S19).trans S20).trans S21).trans S22) _ _ g11, g22, le1k, fun l22 hp23 S23 g23 => ?_⟩
      have W23 := W22.trans S23
      have pV := p1.same W23
      refine ⟨_, rfl, _, rfl, d, L, ns, n + 1, _, rfl, pV, by omega, .inl ⟨l22, _, rfl, SqL.of g23, by simp, le1k, fun x HW hx kW pW => ?_⟩⟩
      have kF := (k1.trans (Same.toKeep W23)).trans kW
      have kdV := pV.isDk
      have two : ∀ i : Nat, i = i := fun _ => rfl
      have fin : ∀ D' : PyData, Dp K HW x D' → shortD D' = true → D'.depth ≤ j + 1 + 4 → Q x HW := fun D' e1 e2 e3 => q x D' HW e1 e2 e3 kF (pW.mono (by omega))
      simp only [List.cons_append, List.nil_append, List.mem_cons, List.not_mem_nil, or_false] at hx
      rcases hx with rfl | rfl | rfl | rfl | rfl | rfl | rfl | rfl | rfl | rfl | rfl | rfl | rfl | rfl
      · refine fin (.list [.str wd, a, b]) (.lst (seqL_keep kdV kW (SqL.of ((((((((((((((((((((((S3).trans S4).trans S5).trans S6).trans S7).trans S8).trans S9).trans S10).trans S11).trans S12).trans S13).trans S14).trans S15).trans S16).trans S17).trans S18).trans S19).trans S20).trans S21).trans S22).trans S23) _ _ g2))) (.cons (.str _) (.cons (dp_keep kd kF _ _ h1) (.cons (dp_keep kd kF _ _ h2) .nil)))) ?_ ?_
        · first | exact sa | simp only [shortD, shortAll, okw, oks, okb, okc, sa, sb, Bool.and_self]
        · first | omega | (simp only [PyData.depth, PyData.depthAll]; omega)
      · refine fin (.tuple [.str wd, a, b, b]) (.tup (seqT_keep kdV kW (seqT_same (((((((((((((((((((S5).trans S6).trans S7).trans S8).trans S9).trans S10).trans S11).trans S12).trans S13).trans S14).trans S15).trans S16).trans S17).trans S18).trans S19).trans S20).trans S21).trans S22).trans S23) g4)) (.cons (.str _) (.cons (dp_keep kd kF _ _ h1) (.cons (dp_keep kd kF _ _ h2) (.cons (dp_keep kd kF _ _ h2) .nil))))) ?_ ?_
        · first | exact sa | simp only [shortD, shortAll, okw, oks, okb, okc, sa, sb, Bool.and_self]
        · first | omega | (simp only [PyData.depth, PyData.depthAll]; omega)
      · refine fin (.tuple [.str wd, a]) (.tup (seqT_keep kdV kW (seqT_same ((((((((((((((((((S6).trans S7).trans S8).trans S9).trans S10).trans S11).trans S12).trans S13).trans S14).trans S15).trans S16).trans S17).trans S18).trans S19).trans S20).trans S21).trans S22).trans S23) g5)) (.cons (.str _) (.cons (dp_keep kd kF _ _ h1) .nil))) ?_ ?_
        · first | exact sa | simp only [shortD, shortAll, okw, oks, okb, okc, sa, sb, Bool.and_self]
        · first | omega | (simp only [PyData.depth, PyData.depthAll]; omega)
      · refine fin (.tuple [.str (wd ++ Str.ofString "s"), a, b]) (.tup (seqT_keep kdV kW (seqT_same ((((((((((((((((S8).trans S9).trans S10).trans S11).trans S12).trans S13).trans S14).trans S15).trans S16).trans S17).trans S18).trans S19).trans S20).trans S21).trans S22).trans S23) g7)) (.cons (.str _) (.cons (dp_keep kd kF _ _ h1) (.cons (dp_keep kd kF _ _ h2) .nil)))) ?_ ?_
        · first | exact sa | simp only [shortD, shortAll, okw, oks, okb, okc, sa, sb, Bool.and_self]
        · first | omega | (simp only [PyData.depth, PyData.depthAll]; omega)
      · refine fin (.tuple [.int 1, a, b]) (.tup (seqT_keep kdV kW (seqT_same ((((((((((((((S10).trans S11).trans S12).trans S13).trans S14).trans S15).trans S16).trans S17).trans S18).trans S19).trans S20).trans S21).trans S22).trans S23) g9)) (.cons (.int _) (.cons (dp_keep kd kF _ _ h1) (.cons (dp_keep kd kF _ _ h2) .nil)))) ?_ ?_
        · first | exact sa | simp only [shortD, shortAll, okw, oks, okb, okc, sa, sb, Bool.and_self]
        · first | omega | (simp only [PyData.depth, PyData.depthAll]; omega)
      · refine fin (a) (dp_keep kd kF _ _ h1) ?_ ?_
        · first | exact sa | simp only [shortD, shortAll, okw, oks, okb, okc, sa, sb, Bool.and_self]
        · first | omega | (simp only [PyData.depth, PyData.depthAll]; omega)
      · refine fin (.none) .non ?_ ?_
        · first | exact sa | simp only [shortD, shortAll, okw, oks, okb, okc, sa, sb, Bool.and_self]
        · first | omega | (simp only [PyData.depth, PyData.depthAll]; omega)
      · refine fin (.bool true) (.bl true) ?_ ?_
        · first | exact sa | simp only [shortD, shortAll, okw, oks, okb, okc, sa, sb, Bool.and_self]
        · first | omega | (simp only [PyData.depth, PyData.depthAll]; omega)
      · refine fin (.tuple []) (.tup (seqT_keep kdV kW (seqT_same (((((((((((((S11).trans S12).trans S13).trans S14).trans S15).trans S16).trans S17).trans S18).trans S19).trans S20).trans S21).trans S22).trans S23) g10)) .nil) ?_ ?_
        · first | exact sa | simp only [shortD, shortAll, okw, oks, okb, okc, sa, sb, Bool.and_self]
        · first | omega | (simp only [PyData.depth, PyData.depthAll]; omega)
      · refine fin (.tuple [.str (Str.ofString "both"), a, b]) (.tup (seqT_keep kdV kW (seqT_same ((((((((((S14).trans S15).trans S16).trans S17).trans S18).trans S19).trans S20).trans S21).trans S22).trans S23) g13)) (.cons (.str _) (.cons (dp_keep kd kF _ _ h1) (.cons (dp_keep kd kF _ _ h2) .nil)))) ?_ ?_
        · first | exact sa | simp only [shortD, shortAll, okw, oks, okb, okc, sa, sb, Bool.and_self]
        · first | omega | (simp only [PyData.depth, PyData.depthAll]; omega)
      · refine fin (.tuple [.str (Str.ofString "counter"), a, b]) (.tup (seqT_keep kdV kW (seqT_same ((((((((S16).trans S17).trans S18).trans S19).trans S20).trans S21).trans S22).trans S23) g15)) (.cons (.str _) (.cons (dp_keep kd kF _ _ h1) (.cons (dp_keep kd kF _ _ h2) .nil)))) ?_ ?_
        · first | exact sa | simp only [shortD, shortAll, okw, oks, okb, okc, sa, sb, Bool.and_self]
        · first | omega | (simp only [PyData.depth, PyData.depthAll]; omega)
      · refine fin (.tuple [b, a, .str wd]) (.tup (seqT_keep kdV kW (seqT_same (((((((S17).trans S18).trans S19).trans S20).trans S21).trans S22).trans S23) g16)) (.cons (dp_keep kd kF _ _ h2) (.cons (dp_keep kd kF _ _ h1) (.cons (.str _) .nil)))) ?_ ?_
        · first | exact sa | simp only [shortD, shortAll, okw, oks, okb, okc, sa, sb, Bool.and_self]
        · first | omega | (simp only [PyData.depth, PyData.depthAll]; omega)
      · refine fin (.tuple [.str wd, .list [a], b]) (.tup (seqT_keep kdV kW (seqT_same (((S21).trans S22).trans S23) g20)) (.cons (.str _) (.cons (.lst (seqL_keep kdV kW (SqL.of (((((((S18).trans S19).trans S20).trans S21).trans S22).trans S23) _ _ g17))) (.cons (dp_keep kd kF _ _ h1) .nil)) (.cons (dp_keep kd kF _ _ h2) .nil)))) ?_ ?_
        · first | exact sa | simp only [shortD, shortAll, okw, oks, okb, okc, sa, sb, Bool.and_self]
        · first | omega | (simp only [PyData.depth, PyData.depthAll]; omega)
      · refine fin (.tuple [.tuple [.str wd, a, b]]) (.tup (seqT_keep kdV kW (seqT_same ((S22).trans S23) g21)) (.cons (.tup (seqT_keep kd kF hT) (.cons (.str _) (.cons (dp_keep kd kF _ _ h1) (.cons (dp_keep kd kF _ _ h2) .nil)))) .nil)) ?_ ?_
        · first | exact sa | simp only [shortD, shortAll, okw, oks, okb, okc, sa, sb, Bool.and_self]
        · first | omega | (simp only [PyData.depth, PyData.depthAll]; omega)
end
end My

set_option Elab.async false
set_option linter.all false
set_option maxRecDepth 100000
namespace My
open PySem PySem.Spec PyProof.Rows L2 SX
section
variable {X : Cx}
def rMulS : R2 := fun x y H Q => ∃ (z : Str) (n : Int), x = .str z ∧ y = .int n ∧ z.length ≤ 1000 ∧ 0 ≤ n ∧ n ≤ 1000 ∧ Q (.str (Txt.mul z n)) H
theorem op_mul_str : OpR X (binaryOp .Mult) rMulS := by
  intro pins s σ H x y v u Q I rx ry ⟨z, n, ex, ey, hz, h0, hn, q⟩
  subst ex ey
  obtain ⟨t, rfl⟩ := rx
  obtain ⟨t2, rfl⟩ := ry
  exact PySem.SB.mul (mulOk_of 1000 1000 hz (by omega) (by omega) (by decide) (by decide)) fun t' k => ⟨.str (Txt.mul z n), H, I.tok _, ⟨_, rfl⟩, q⟩
end
theorem fold_size (a : Array Nat) : ∀ (k : Nat) (b : Array Nat), ((List.replicate k a).foldl (· ++ ·) b).size = b.size + k * a.size
  | 0, b => by simp
  | k + 1, b => by
    rw [List.replicate_succ, List.foldl_cons, fold_size a k (b ++ a), Array.size_append, Nat.succ_mul]
    omega
theorem mul_len13 {z : Str} (h : 1 ≤ z.length) : (Txt.mul z 13).length = 13 * z.length := by
  unfold Txt.mul
  rw [if_neg (by decide), if_neg]
  · show ((List.replicate (13 : Int).toNat z.cps).foldl (· ++ ·) #[]).size = _
    rw [fold_size]
    show 0 + 13 * z.cps.size = 13 * z.cps.size
    omega
  · intro hc
    rw [Bool.or_eq_true] at hc
    rcases hc with hc | hc
    · exact absurd hc (by decide)
    · have := eq_of_beq hc
      omega
theorem isName_bad {z : Str} {c : Nat} (hc : c ∈ z.cps.toList) (h : isLD c = false) : isName z = false := by
  by_cases c12 : 1 ≤ z.length ∧ z.length ≤ 12
  · obtain ⟨c0, hc0⟩ := head_some c12.1
    rw [isName_eq c12.1 c12.2 hc0]
    have : z.cps.toList.all isLD = false := by
      rw [← Bool.not_eq_true, List.all_eq_true]
      intro q
      rw [q c hc] at h
      cases h
    rw [this, Bool.and_false]
  · exact isName_out c12
theorem all_true (n : Nat) : (List.replicate n true).all id = true := by
  rw [List.all_eq_true]
  intro x hx
  rw [(List.mem_replicate.mp hx).2]
  rfl
theorem same_new2 {H : Hp} {p : Addr} (h : H p = none) (o u : HO) : Same H (upd (upd H p o) p u) := fun b w q => by
  rw [upd_upd]
  exact same_new h u b w q
/-- what is no name -/
def BadN (K : PySem.W.Frag) (H : Hp) (v : V) : Prop := (∃ D, Dp K H v D ∧ (∀ z, D = .str z → z.length ≤ 1000) ∧ isNameD D = false) ∨ ∃ (a : Addr) (kvs : List (Key × V)), v = .ref a ∧ H a = some (.dK kvs)
theorem BadN.same {K : PySem.W.Frag} {H H' : Hp} {v : V} (h : BadN K H v) (S : Same H H') : BadN K H' v := by
  rcases h with ⟨D, hd, hs, hb⟩ | ⟨a, kvs, e, h⟩
  · exact .inl ⟨D, dp_same S _ _ hd, hs, hb⟩
  · exact .inr ⟨a, kvs, e, S _ _ h⟩
theorem BadN.go {K : PySem.W.Frag} {H : Hp} {v : V} {Q : VK} {E : XK} (h : BadN K H v) (q : ∀ H', Same H H' → Q (.bl false) H') : spName K [v] H Q E := by
  rcases h with ⟨D, hd, hs, hb⟩ | h
  · refine ⟨v, rfl, .inl ⟨D, hd, hs, fun H' S => ?_⟩⟩
    rw [hb]
    exact q H' S
  · exact ⟨v, rfl, .inr ⟨h, q⟩⟩
abbrev s_law_names_known : Stmt := top 26
abbrev N_law_names_known : List Str := ["_law_pen", "_law_name_here", "_law_odd", "_law_others", "_law_other"]
abbrev P_law_names_known : List Str := ["_law_pen"]
theorem sc_law_names_known : FnScope N_law_names_known P_law_names_known (defScope s_law_names_known) := ⟨rfl, rfl, rfl, by decide +kernel, rfl, by decide +kernel, by decide +kernel⟩
def spKnown (K : PySem.W.Frag) (c : Nat) : Sp := fun vs H Q _ => ∃ (d L : Addr) (ns : List Int) (n : Nat), vs = [.ref d] ∧ Pen K H d L ns n ∧ n < 2 ^ 37 ∧
  ∀ H', Keep d H H' → Pen K H' d L ns (n + c) → Q (.bl true) H'
section
variable {P : Program} {w : World} {K : PySem.W.Frag} {mg : Str → Option Value} {base : Heap} {f : Addr} {fd : FuncData}
set_option maxHeartbeats 1000000 in
theorem ok_law_names_known (T : Txt K mg) (F : Fun K "_law_names_known" "_law_names_known" s_law_names_known f fd) (C_law_name : Cal P w K mg base "_law_name" 3 ["_law_pen"] (spNameOf K)) (C_law_bent_name : Cal P w K mg base "_law_bent_name" 3 P_law_bent_name (spBentName K))
    (Cis_name : Cal P w K mg base "is_name" 3 ["value"] (spName K)) (C_law_is_name : Cal P w K mg base "_law_is_name" 2 ["_law_value"] (spName K)) (C_law_says : Cal P w K mg base "_law_says" 1 P_law_says spSays) :
    FnOk P w K mg base CX0 4 f fd P_law_names_known (spKnown K 17) := by
  refine F.ok sc_law_names_known (fun vs H Q E h => ?_) (fun cdv A outer s H vs Q E hr h => ?_)
  · obtain ⟨d, L, ns, n, rfl, _⟩ := h
    rfl
  obtain ⟨d, L, ns, n, rfl, p, hn, q⟩ := h
  refine ⟨_, (pss_cons (ps_set (i := 1) sc_law_names_known.nd rfl (Or.inl rfl) (pe_callC C_law_name hr (pa_cons (pv 0) pa_nil)))
  (pss_cons (ps_set (i := 2) sc_law_names_known.nd rfl (Or.inl rfl) (pe_callC C_law_bent_name hr (pa_cons (pv 0) (pa_cons (pv 1) pa_nil))))
  (pss_cons (ps_if (PW.pt (pw_or (pt_not (pt_val (pe_callC C_law_says hr (pa_cons (pe_callC Cis_name hr (pa_cons (pv 1) pa_nil)) (pa_cons pe_bl pa_nil))))) (pw_or1 (pt_not (pt_val (pe_callC C_law_says hr (pa_cons (pe_callC Cis_name hr (pa_cons (pv 2) pa_nil)) (pa_cons (pe_callC C_law_is_name hr (pa_cons (pv 2) pa_nil)) pa_nil))))))))
    (pss_one (ps_ret pe_bl))
    pss_nil)
  (pss_cons (ps_set (i := 3) sc_law_names_known.nd rfl (Or.inl rfl) (pe_lstN (pa_cons pe_non (pa_cons pe_bl (pa_cons pe_int (pa_cons (pe_tupN pa_nil) (pa_cons (pe_tupN (pa_cons (pv 1) pa_nil)) (pa_cons (pe_lstN (pa_cons (pv 1) pa_nil)) (pa_cons (pe_disp (pps_cons (pv 1) pe_int pps_nil) (by rfl) (by rfl) (fun z => by cases z) (by decide)) (pa_cons pe_str (pa_cons (pe_op op_mul_str (pv 1) pe_int) (pa_cons (pe_op op_add_str (pe_slice sl_str (pv 1) po_none (po_some pe_int)) pe_str) pa_nil))))))))))))
  (pss_one (ps_ret (pe_callB (cr_all rfl) rfl T.all (by decide +kernel) (pa_cons (pe_lc (own := [("_law_other", 4)]) (g := (gName 4)) rfl sc_law_names_known.nd (pi_list (pv 3)) (blkOk_by (own := [("_law_other", 4)]) (N := N_law_names_known) (sc := defScope s_law_names_known) (by decide +kernel)) (fun _ _ _ _ _ => (pg_name (i := 4) sc_law_names_known.nd rfl (Or.inl rfl))) (fun _ _ _ _ _ => pts_nil) (fun _ _ _ _ _ => (pe_callC C_law_says hr (pa_cons (pe_callC Cis_name hr (pa_cons (pv 4) pa_nil)) (pa_cons pe_bl pa_nil))))) pa_nil)))))))), ?_⟩
  refine ⟨_, rfl, d, L, ns, n, rfl, p, by omega, fun z H1 hz k1 p1 => ?_⟩
  refine ⟨_, rfl, _, rfl, d, L, ns, n + 13, z, rfl, p1, by omega, hz, fun v D H2 hv hs hdp k2 p2 => ?_⟩
  have h12 := name_len hz
  have hasc := okS.mp (okStr_of_name hz)
  refine ⟨_, rfl, .str z, rfl, .inl ⟨.str z, .str z, fun z' e => by cases e; omega, fun H3 S3 => ?_⟩⟩
  refine ⟨isName z, true, rfl, _, rfl, ?_⟩
  rw [hz]
  refine iteF ⟨_, rfl, v, rfl, .inl ⟨D, dp_same S3 _ _ hv, short_str hs, fun H4 S4 => ?_⟩⟩
  refine ⟨_, rfl, v, rfl, .inl ⟨D, dp_same (S3.trans S4) _ _ hv, short_str hs, fun H5 S5 => ?_⟩⟩
  refine ⟨isNameD D, isNameD D, rfl, _, rfl, ?_⟩
  rw [beq_self_eq_true]
  have S25 := S3.trans (S4.trans S5)
  refine iteF ⟨le1k, fun c6 H6 S6 g6 => ⟨_, rfl, le1k, fun c7 H7 S7 g7 => ⟨_, rfl, le1k, fun c8 H8 S8 g8 => ?_⟩⟩⟩
  refine fun p9 n9 => ⟨_, rfl, upd_same, [(.inr z, .int 1)], rfl, by show 1 ≤ 15; decide, ?_⟩
  obtain ⟨H9, e9, S9, g9⟩ : ∃ h, upd (upd H8 p9 (.dK [])) p9 (.dK (mergeK [] [(.inr z, .int 1)])) = h ∧ Same H8 h ∧ h p9 = some (.dK (mergeK [] [(.inr z, .int 1)])) := ⟨_, rfl, same_new2 n9 _ _, upd_same⟩
  rw [e9]
  have hcl : (cutS z none (some 11)).length ≤ 12 := Nat.le_trans (cut_len z none (some 11)) h12.2
  refine ⟨_, rfl, z, 13, rfl, rfl, by omega, by decide, by decide, _, rfl, _, rfl, z, rfl, Nat.le_of_lt (small1000 (by omega)), _, _, rfl, rfl, add_fit (by omega) (by decide +kernel), le1k, fun l10 H10 S10 g10 => ?_⟩
  have hall : ∀ x ∈ [V.non, .bl true, .int 1, .ref c6, .ref c7, .ref c8, .ref p9, .str (Str.ofString ""), .str (Txt.mul z 13), .str (cutS z none (some 11) ++ Str.ofString "_")], BadN K H10 x := by
    intro x hx
    simp only [List.mem_cons, List.not_mem_nil, or_false] at hx
    rcases hx with rfl | rfl | rfl | rfl | rfl | rfl | rfl | rfl | rfl | rfl
    · exact .inl ⟨.none, .non, fun z e => (by cases e), rfl⟩
    · exact .inl ⟨.bool true, .bl true, fun z e => (by cases e), rfl⟩
    · exact .inl ⟨.int 1, .int 1, fun z e => (by cases e), rfl⟩
    · exact .inl ⟨.tuple [], .tup (seqT_same (((S7.trans S8).trans S9).trans S10) g6) .nil, fun z e => (by cases e), rfl⟩
    · exact .inl ⟨.tuple [.str z], .tup (seqT_same ((S8.trans S9).trans S10) g7) (.cons (.str z) .nil), fun z e => (by cases e), rfl⟩
    · exact .inl ⟨.list [.str z], .lst (SqL.of ((S9.trans S10) _ _ g8)) (.cons (.str z) .nil), fun z e => (by cases e), rfl⟩
    · exact .inr ⟨p9, _, rfl, S10 _ _ g9⟩
    · exact .inl ⟨.str _, .str _, fun z e => by cases e; decide +kernel, by decide +kernel⟩
    · refine .inl ⟨.str _, .str _, fun z' e => ?_, isName_out ?_⟩
      · cases e
        rw [mul_len13 h12.1]
        omega
      · rw [mul_len13 h12.1]
        omega
    · refine .inl ⟨.str _, .str _, fun z' e => ?_, isName_bad (c := 95) ?_ (by decide +kernel)⟩
      · cases e
        rw [cat_len]
        have : (Str.ofString "_").length = 1 := by decide +kernel
        omega
      · rw [cat_tl]
        exact List.mem_append_right _ (by decide +kernel)
  refine ⟨_, rfl, l10, rfl, ⟨_, SqL.of g10⟩, fun Dd nD => lc_list (K := K) (a := l10) (xs := _) (fun i H' => Same H10 H' ∧ H' Dd = some (.lst ((List.replicate i true).map V.bl))) ⟨same_new nD _, upd_same⟩ (fun i H' _ ⟨S, _⟩ => SqL.of (S _ _ g10)) (fun i x H' hx ⟨S, e⟩ => ?_) (fun H' ⟨S, e⟩ => ?_)⟩
  · have hm := List.mem_of_getElem? hx
    refine ⟨rfl, _, rfl, ?_⟩
    dsimp only [tNil]
    refine BadN.go ((hall x hm).same S) fun H12 S12 => ⟨false, false, rfl, ?_⟩
    have hi : i < 10 := (List.getElem?_eq_some_iff.mp hx).1
    refine ⟨_, S12 _ _ e, small1000 (by rw [List.length_map, List.length_replicate]; omega), same_fresh (S.trans S12) nD, ?_⟩
    rw [upd_same, List.replicate_succ', List.map_append]
    rfl
  · refine ⟨Dd, List.replicate 10 true, rfl, SqL.of e, ?_⟩
    rw [all_true]
    have Sx := ((((S6.trans S7).trans S8).trans S9).trans S10).trans S
    exact q H' ((k1.trans k2).trans (Same.toKeep (S25.trans Sx))) ((p2.same (S25.trans Sx)).mono (by omega))
end
end My

set_option Elab.async false
set_option linter.all false
set_option maxRecDepth 100000
namespace My
open PySem PySem.Spec PyProof.Rows L2 SX
/-- what is no form -/
def BadF (K : PySem.W.Frag) (H : Hp) (v : V) : Prop := (∃ D, Dp K H v D ∧ shortD D = true ∧ isForm 12 D = false) ∨ ∃ (a : Addr) (kvs : List (Key × V)), v = .ref a ∧ H a = some (.dK kvs)
theorem BadF.same {K : PySem.W.Frag} {H H' : Hp} {v : V} (h : BadF K H v) (S : Same H H') : BadF K H' v := by
  rcases h with ⟨D, hd, hs, hb⟩ | ⟨a, kvs, e, h⟩
  · exact .inl ⟨D, dp_same S _ _ hd, hs, hb⟩
  · exact .inr ⟨a, kvs, e, S _ _ h⟩
theorem BadF.go {K : PySem.W.Frag} {H : Hp} {v : V} {Q : VK} {E : XK} (h : BadF K H v) (q : ∀ H', Same H H' → Q (.bl false) H') : spIsForm K [v] H Q E := by
  rcases h with ⟨D, hd, hs, hb⟩ | h
  · refine ⟨v, rfl, .inl ⟨D, hd, hs, fun H' S => ?_⟩⟩
    rw [hb]
    exact q H' S
  · exact ⟨v, rfl, .inr ⟨h, q⟩⟩
abbrev s_law_forms_known : Stmt := top 27
abbrev N_law_forms_known : List Str := ["_law_pen", "_law_form", "_law_odd", "_law_tall", "_law_twice", "_law_other"]
abbrev P_law_forms_known : List Str := ["_law_pen"]
theorem sc_law_forms_known : FnScope N_law_forms_known P_law_forms_known (defScope s_law_forms_known) := ⟨rfl, rfl, rfl, by decide +kernel, rfl, by decide +kernel, by decide +kernel⟩
section
variable {P : Program} {w : World} {K : PySem.W.Frag} {mg : Str → Option Value} {base : Heap} {f : Addr} {fd : FuncData}
set_option maxHeartbeats 4000000 in
theorem ok_law_forms_known (T : Txt K mg) (F : Fun K "_law_forms_known" "_law_forms_known" s_law_forms_known f fd) (C_law_draw : Cal P w K mg base "_law_draw" 1 P_law_draw (spDraw K)) (C_law_pick : Cal P w K mg base "_law_pick" 2 P_law_pick (spPick K))
    (C_law_names : Cal P w K mg base "_law_names" 4 P_law_names (spNames K)) (C_law_shape : Cal P w K mg base "_law_shape" 15 P_law_shape (spShape K 13)) (C_law_bent : Cal P w K mg base "_law_bent" 16 P_law_bent (spBent K 13))
    (Cis_form : Cal P w K mg base "is_form" 16 Pis_form (spIsForm K)) (C_law_is_form : Cal P w K mg base "_law_is_form" 15 P_law_is_form (spFormL K 13)) (C_law_deeper : Cal P w K mg base "_law_deeper" 14 P_law_deeper (spDeeper K)) (C_law_says : Cal P w K mg base "_law_says" 1 P_law_says spSays) :
    FnOk P w K mg base CX0 17 f fd P_law_forms_known (spKnown K 400) := by
  refine F.ok sc_law_forms_known (fun vs H Q E h => ?_) (fun cdv A outer s H vs Q E hr h => ?_)
  · obtain ⟨d, L, ns, n, rfl, _⟩ := h
    rfl
  obtain ⟨d, L, ns, n, rfl, p, hn, q⟩ := h
  refine ⟨_, (pss_cons (ps_set (i := 1) sc_law_forms_known.nd rfl (Or.inl rfl) (pe_callC C_law_shape hr (pa_cons (pv 0) (pa_cons (pe_callC C_law_names hr (pa_cons (pv 0) (pa_cons pe_int pa_nil))) (pa_cons (pe_op op_add pe_int (pe_callC C_law_draw hr (pa_cons (pv 0) (pa_cons pe_int pa_nil)))) (pa_cons (pe_callC C_law_pick hr (pa_cons (pv 0) (pa_cons (pe_lstN (pa_cons pe_int (pa_cons pe_int pa_nil))) pa_nil))) pa_nil))))))
  (pss_cons (ps_set (i := 2) sc_law_forms_known.nd rfl (Or.inl rfl) (pe_callC C_law_bent hr (pa_cons (pv 0) (pa_cons (pv 1) pa_nil))))
  (pss_cons (ps_if (PW.pt (pw_or (pt_not (pt_val (pe_callC C_law_says hr (pa_cons (pe_callC Cis_form hr (pa_cons (pv 1) pa_nil)) (pa_cons pe_bl pa_nil))))) (pw_or1 (pt_not (pt_val (pe_callC C_law_says hr (pa_cons (pe_callC Cis_form hr (pa_cons (pv 2) pa_nil)) (pa_cons (pe_callC C_law_is_form hr (pa_cons (pv 2) (pa_cons pe_int pa_nil))) pa_nil))))))))
    (pss_one (ps_ret pe_bl))
    pss_nil)
  (pss_cons (ps_if (pt_not (pt_val (pe_callC C_law_says hr (pa_cons (pe_callC Cis_form hr (pa_cons (pe_callC C_law_deeper hr (pa_cons (pv 1) (pa_cons pe_int pa_nil))) pa_nil)) (pa_cons pe_bl pa_nil)))))
    (pss_one (ps_ret pe_bl))
    pss_nil)
  (pss_cons (ps_for PassesOwn.never rfl (pi_list (pe_lstN (pa_cons pe_int (pa_cons (pe_op op_add pe_int (pe_callC C_law_draw hr (pa_cons (pv 0) (pa_cons pe_int pa_nil)))) (pa_cons pe_int pa_nil))))) (pg_name (i := 3) sc_law_forms_known.nd rfl (Or.inl rfl))
    (pss_one (ps_if (pt_not (pt_val (pe_callC C_law_says hr (pa_cons (pe_callC Cis_form hr (pa_cons (pe_callC C_law_deeper hr (pa_cons (pv 1) (pa_cons (pv 3) pa_nil))) pa_nil)) (pa_cons pe_bl pa_nil)))))
      (pss_one (ps_ret pe_bl))
      pss_nil)))
  (pss_cons (ps_set (i := 4) sc_law_forms_known.nd rfl (Or.inl rfl) (pe_tupN (pa_cons pe_str (pa_cons (pv 2) (pa_cons (pe_callC C_law_bent hr (pa_cons (pv 0) (pa_cons (pv 1) pa_nil))) pa_nil)))))
  (pss_cons (ps_if (pt_not (pt_val (pe_callC C_law_says hr (pa_cons (pe_callC Cis_form hr (pa_cons (pv 4) pa_nil)) (pa_cons (pe_callC C_law_is_form hr (pa_cons (pv 4) (pa_cons pe_int pa_nil))) pa_nil)))))
    (pss_one (ps_ret pe_bl))
    pss_nil)
  (pss_one (ps_ret (pe_callB (cr_all rfl) rfl T.all (by decide +kernel) (pa_cons (pe_lc (own := [("_law_other", 5)]) (g := (gName 5)) rfl sc_law_forms_known.nd (pi_list (pe_lstN (pa_cons pe_non (pa_cons pe_bl (pa_cons pe_int (pa_cons pe_str (pa_cons (pe_lstN pa_nil) (pa_cons (pe_tupN pa_nil) (pa_cons (pe_lstN (pa_cons (pv 1) pa_nil)) (pa_cons pe_dnewK (pa_cons (pe_callTy call_listN rfl T.list (by decide +kernel) (pa_cons (pv 1) pa_nil)) pa_nil))))))))))) (blkOk_by (own := [("_law_other", 5)]) (N := N_law_forms_known) (sc := defScope s_law_forms_known) (by decide +kernel)) (fun _ _ _ _ _ => (pg_name (i := 5) sc_law_forms_known.nd rfl (Or.inl rfl))) (fun _ _ _ _ _ => pts_nil) (fun _ _ _ _ _ => (pe_callC C_law_says hr (pa_cons (pe_callC Cis_form hr (pa_cons (pv 5) pa_nil)) (pa_cons pe_bl pa_nil))))) pa_nil))))))))))), ?_⟩
  have kd := p.isDk
  refine ⟨_, rfl, _, rfl, d, L, ns, n, 4, rfl, p, by omega, by decide, by decide, fun a zs H1 hzs hne hzl hS k1 p1 => ?_⟩
  refine ⟨_, rfl, d, L, ns, n + 1 + 13 * 4, 40, rfl, p1, by omega, by decide, by decide, fun r H2 r0 r1 k2 p2 => ⟨_, _, rfl, rfl, ?_⟩⟩
  refine ⟨_, rfl, le1k, fun l3 H3 S3 g3 => ?_⟩
  refine ⟨d, L, ns, n + 54, _, rfl, p2.same S3, by omega, .inl ⟨l3, _, rfl, SqL.of g3, by simp, le1k, fun x H4 hx k4 p4 => ?_⟩⟩
  have k14 := ((k1.trans k2).trans (Same.toKeep S3)).trans k4
  obtain ⟨t, rfl, ht6, ht12⟩ : ∃ t : Nat, x = V.int t ∧ 6 ≤ t ∧ t ≤ 12 := by
    simp only [List.mem_cons, List.not_mem_nil, or_false] at hx
    rcases hx with rfl | rfl
    · exact ⟨6, rfl, by decide, by decide⟩
    · exact ⟨12, rfl, by decide, by decide⟩
  obtain ⟨m, hm, hm1, hm40⟩ : ∃ m : Nat, 1 + r = (m : Int) ∧ 1 ≤ m ∧ m ≤ 40 := ⟨(1 + r).toNat, by omega, by omega, by omega⟩
  have hpow : m ≤ 2 ^ t := Nat.le_trans (by omega : m ≤ 2 ^ 6) (Nat.pow_le_pow_right (by decide) ht6)
  refine ⟨d, L, ns, n + 55, a, zs, m, t, congrArg (fun i => [V.ref d, V.ref a, V.int i, V.int (t : Int)]) hm, by omega, p4, by omega, seqL_keep p1.isDk ((k2.trans (Same.toKeep S3)).trans k4) hS, hne, by omega, hzs, hm1, by omega, hpow, by omega, fun v D H5 hv hF k5 p5 => ?_⟩
  have hF12 := isForm_le hF ht12
  have k15 := k14.trans k5
  refine ⟨_, rfl, _, rfl, d, L, ns, n + 55 + (5 * m - 3), v, D, 12, rfl, by omega, by omega, p5, by omega, hv, hF12, fun vo Do H6 hvo hso hdo k6 p6 => ?_⟩
  have k16 := k15.trans k6
  have hv6 := dp_keep p5.isDk k6 _ _ hv
  refine ⟨_, rfl, v, rfl, .inl ⟨D, hv6, short_form hF12, fun H7 S7 => ⟨isForm 12 D, true, rfl, _, rfl, ?_⟩⟩⟩
  rw [hF12]
  refine iteF ⟨_, rfl, vo, rfl, .inl ⟨Do, dp_same S7 _ _ hvo, hso, fun H8 S8 => ?_⟩⟩
  refine ⟨_, rfl, vo, 12, Do, rfl, by omega, dp_same (S7.trans S8) _ _ hvo, hso, by omega, fun H9 S9 => ⟨isForm 12 Do, isForm 12 Do, rfl, _, rfl, ?_⟩⟩
  rw [beq_self_eq_true]
  have S69 := S7.trans (S8.trans S9)
  refine iteF ⟨_, rfl, v, D, 12, rfl, by omega, by omega, dp_same S69 _ _ hv6, hF12, fun v2 D2 H10 hv2 hD2 S10 => ?_⟩
  have hF2 : isForm 12 D2 = true := by
    rcases hD2 with h | ⟨_, h⟩
    · exact h.1
    · exact h
  refine ⟨v2, rfl, .inl ⟨D2, hv2, short_form hF2, fun H11 S11 => ⟨isForm 12 D2, true, rfl, _, rfl, ?_⟩⟩⟩
  rw [hF2]
  have S611 := S69.trans (S10.trans S11)
  refine iteF ⟨_, rfl, d, L, ns, n + 55 + (5 * m - 3) + (2 * 12 + 5), 287, rfl, p6.same S611, by omega, by decide, by decide, fun r2 H12 r20 r21 k12 p12 => ⟨_, _, rfl, rfl, le1k, fun l13 H13 S13 g13 => ?_⟩⟩
  have hv13 := dp_same S13 _ _ (dp_keep (p6.same S611).isDk k12 _ _ (dp_same S611 _ _ hv6))
  have hvo13 := dp_same S13 _ _ (dp_keep (p6.same S611).isDk k12 _ _ (dp_same S611 _ _ hvo))
  have p13 := p12.same S13
  have k113 := ((k16.trans (Same.toKeep S611)).trans k12).trans (Same.toKeep S13)
  refine ⟨l13, rfl, ⟨_, SqL.of g13⟩, for_list (K := K) (a := l13) (xs := [.int 13, .int (14 + r2), .int 1200]) (fun i σ H' => Same H13 H' ∧ ∃ y, σ = [some (.ref d), some v, some vo, y, none, none]) ⟨Same.refl _, none, rfl⟩ (fun i σ H' _ ⟨S, _⟩ => SqL.of (S _ _ g13)) (fun i x σ H' hx ⟨S, y, eσ⟩ => ?_) (fun σ H' ⟨S, y, eσ⟩ => ?_)⟩
  · subst eσ
    obtain ⟨tt, rfl, ht1, ht2⟩ : ∃ tt : Nat, x = V.int tt ∧ 13 ≤ tt ∧ tt ≤ 1200 := by
      have hm := List.mem_of_getElem? hx
      simp only [List.mem_cons, List.not_mem_nil, or_false] at hm
      rcases hm with rfl | rfl | rfl
      · exact ⟨13, rfl, by decide, by decide⟩
      · exact ⟨(14 + r2).toNat, congrArg V.int (by omega), by omega, by omega⟩
      · exact ⟨1200, rfl, by decide, by decide⟩
    refine ⟨_, rfl, _, rfl, v, D, tt, rfl, by omega, by omega, dp_same S _ _ hv13, hF12, fun v3 D3 Hd hv3 hD3 Sd => ?_⟩
    have hd3 : Deep tt D3 := by
      rcases hD3 with h | ⟨h, _⟩
      · exact h
      · omega
    refine ⟨v3, rfl, .inl ⟨D3, hv3, short_form hd3.1, fun He Se => ⟨isForm 12 D3, false, rfl, _, rfl, ?_⟩⟩⟩
    rw [hd3.2 12 (by omega)]
    exact ⟨S.trans (Sd.trans Se), _, rfl⟩
  · subst eσ
    refine ⟨_, rfl, _, rfl, _, rfl, d, L, ns, n + 55 + (5 * m - 3) + (2 * 12 + 5) + 1, v, D, 12, rfl, by omega, by omega, p13.same S, by omega, dp_same S _ _ hv13, hF12, fun vb Db Hb hvb hsb hdb kb pb => ⟨le1k, fun c14 Hc Sc gc => ?_⟩⟩
    have kd13 := (p13.same S).isDk
    have hvb' := dp_same Sc _ _ hvb
    have hvo' := dp_same Sc _ _ (dp_keep kd13 kb _ _ (dp_same S _ _ hvo13))
    have hv' := dp_same Sc _ _ (dp_keep kd13 kb _ _ (dp_same S _ _ hv13))
    have pc := pb.same Sc
    have kc := ((k113.trans (Same.toKeep S)).trans kb).trans (Same.toKeep Sc)
    have hdt : Dp K Hc (.ref c14) (.tuple [.str (Str.ofString "between"), Do, Db]) := .tup gc (.cons (.str _) (.cons hvo' (.cons hvb' .nil)))
    have hst : shortD (.tuple [.str (Str.ofString "between"), Do, Db]) = true := by
      have : okStr (Str.ofString "between") = true := by decide +kernel
      simp only [shortD, shortAll, this, hso, hsb, Bool.and_self]
    have hdpt : (PyData.tuple [.str (Str.ofString "between"), Do, Db]).depth ≤ 60 := by
      simp only [PyData.depth, PyData.depthAll]
      omega
    refine ⟨_, rfl, .ref c14, rfl, .inl ⟨_, hdt, hst, fun He Se => ?_⟩⟩
    refine ⟨_, rfl, .ref c14, 12, _, rfl, by omega, dp_same Se _ _ hdt, hst, hdpt, fun Hf Sf => ⟨_, _, rfl, _, rfl, ?_⟩⟩
    rw [beq_self_eq_true]
    have Sef := Se.trans Sf
    obtain ⟨tp, xs, ds, rfl, hT, rfl, hA⟩ : ∃ (tp : Addr) (xs : List V) (ds : List PyData), v = .ref tp ∧ SqT K Hf tp xs ∧ D = .tuple ds ∧ DpAll K Hf xs ds := by
      have hx := dp_same Sef _ _ hv'
      have ht : ∃ ds, D = .tuple ds := by
        rcases isForm_inv hF12 with ⟨w', nm, e, _⟩ | ⟨j, w', a', b', _, e, _⟩
        · exact ⟨_, e⟩
        · exact ⟨_, e⟩
      obtain ⟨ds, rfl⟩ := ht
      cases hx with
      | tup h1 h2 => exact ⟨_, _, ds, rfl, h1, rfl, h2⟩
    have hsd : shortAll ds = true := by
      have := short_form hF12
      unfold shortD at this
      exact this
    refine iteF ⟨le1k, fun l15 H15 S15 g15 => ⟨le1k, fun c16 H16 S16 g16 => ⟨_, rfl, le1k, fun l17 H17 S17 g17 => fun p18 n18 => ?_⟩⟩⟩
    obtain ⟨H18, e18, S18, g18⟩ : ∃ h, upd H17 p18 (.dK []) = h ∧ Same H17 h ∧ h p18 = some (.dK []) := ⟨_, rfl, same_new n18 _, upd_same⟩
    rw [e18]
    have S14 := (S15.trans S16).trans (S17.trans S18)
    refine ⟨_, rfl, tp, xs, rfl, .inr (seqT_same S14 hT), fun l19 H19 S19 g19 => ⟨le1k, fun l20 H20 S20 g20 => ?_⟩⟩
    have hall : ∀ x ∈ [V.non, .bl true, .int 0, .str (Str.ofString "a"), .ref l15, .ref c16, .ref l17, .ref p18, .ref l19], BadF K H20 x := by
      intro x hx
      simp only [List.mem_cons, List.not_mem_nil, or_false] at hx
      rcases hx with rfl | rfl | rfl | rfl | rfl | rfl | rfl | rfl | rfl
      · exact .inl ⟨.none, .non, by simp only [shortD], isForm_not_tup _ _ rfl⟩
      · exact .inl ⟨.bool true, .bl true, by simp only [shortD], isForm_not_tup _ _ rfl⟩
      · exact .inl ⟨.int 0, .int 0, by simp only [shortD], isForm_not_tup _ _ rfl⟩
      · exact .inl ⟨.str _, .str _, by unfold shortD; decide +kernel, isForm_not_tup _ _ rfl⟩
      · exact .inl ⟨.list [], .lst (SqL.of ((((S16.trans S17).trans S18).trans (S19.trans S20)) _ _ g15)) .nil, by simp only [shortD, shortAll], isForm_not_tup _ _ rfl⟩
      · exact .inl ⟨.tuple [], .tup (seqT_same ((S17.trans S18).trans (S19.trans S20)) g16) .nil, by simp only [shortD, shortAll], isForm_tup_len _ _ (by simp) (by simp)⟩
      · refine .inl ⟨.list [.tuple ds], .lst (SqL.of ((S18.trans (S19.trans S20)) _ _ g17)) (.cons (dp_same (S14.trans (S19.trans S20)) _ _ (.tup hT hA)) .nil), ?_, isForm_not_tup _ _ rfl⟩
        simp only [shortD, shortAll, hsd, Bool.and_self]
      · exact .inr ⟨p18, _, rfl, (S19.trans S20) _ _ g18⟩
      · refine .inl ⟨.list ds, .lst (SqL.of (S20 _ _ g19)) (dpAll_same ((S14.trans S19).trans S20) _ _ hA), ?_, isForm_not_tup _ _ rfl⟩
        simp only [shortD, hsd]
    refine ⟨l20, rfl, ⟨_, SqL.of g20⟩, fun Dd nD => lc_list (K := K) (a := l20) (xs := _) (fun i H' => Same H20 H' ∧ H' Dd = some (.lst ((List.replicate i true).map V.bl))) ⟨same_new nD _, upd_same⟩ (fun i H' _ ⟨S, _⟩ => SqL.of (S _ _ g20)) (fun i x H' hx ⟨S, e⟩ => ?_) (fun H' ⟨S, e⟩ => ?_)⟩
    · have hm := List.mem_of_getElem? hx
      refine ⟨rfl, _, rfl, ?_⟩
      dsimp only [tNil]
      refine BadF.go ((hall x hm).same S) fun H12 S12 => ⟨false, false, rfl, ?_⟩
      have hi : i < 9 := (List.getElem?_eq_some_iff.mp hx).1
      refine ⟨_, S12 _ _ e, small1000 (by rw [List.length_map, List.length_replicate]; omega), same_fresh (S.trans S12) nD, ?_⟩
      rw [upd_same, List.replicate_succ', List.map_append]
      rfl
    · refine ⟨Dd, List.replicate 9 true, rfl, SqL.of e, ?_⟩
      rw [all_true]
      have Sx := Sef.trans (((S14.trans S19).trans S20).trans S)
      exact q H' (kc.trans (Same.toKeep Sx)) ((pc.same Sx).mono (by omega))
end
end My

set_option Elab.async false
set_option linter.all false
set_option maxRecDepth 100000
namespace My
open PySem L2
abbrev slaw : Stmt := top 28
abbrev Nlaw : List Str := ["_law_script", "_law_pen", "_law_k"]
abbrev Plaw : List Str := ["_law_script"]
theorem sclaw : FnScope Nlaw Plaw (defScope slaw) := ⟨rfl, rfl, rfl, by decide +kernel, rfl, by decide +kernel, by decide +kernel⟩
def spLaw (K : PySem.W.Frag) : Sp := fun vs H Q _ => ∃ (a : Addr) (ns : List Int), vs = [.ref a] ∧ SqL K H a (ns.map V.int) ∧ ns.length ≤ 63 ∧ ∀ H', Q (.bl true) H'
section
variable {P : Program} {w : World} {K : PySem.W.Frag} {mg : Str → Option Value} {base : Heap} {f : Addr} {fd : FuncData}
theorem ok_law (T : Txt K mg) (F : Fun K "law" "law" slaw f fd) (C_law_begin : Cal P w K mg base "_law_begin" 1 P_law_begin (spBegin K)) (C_law_names_known : Cal P w K mg base "_law_names_known" 4 P_law_names_known (spKnown K 17)) (C_law_forms_known : Cal P w K mg base "_law_forms_known" 17 P_law_forms_known (spKnown K 400)) :
    FnOk P w K mg base CX0 18 f fd Plaw (spLaw K) := by
  refine F.ok sclaw (fun vs H Q E h => ?_) (fun cdv A outer s H vs Q E hr h => ?_)
  · obtain ⟨a, ns, rfl, _⟩ := h
    rfl
  obtain ⟨a, ns, rfl, hS, h63, q⟩ := h
  refine ⟨_, (pss_cons (ps_set (i := 1) sclaw.nd rfl (Or.inr rfl) (pe_callC C_law_begin hr (pa_cons (pv 0) pa_nil)))
  (pss_one (ps_ret (pe_callB (cr_all rfl) rfl T.all (by decide +kernel) (pa_cons (pe_lc (own := [("_law_k", 2)]) (g := (gName 2)) rfl sclaw.nd (pi_range1 rfl T.range (pa_cons pe_int pa_nil)) (blkOk_by (own := [("_law_k", 2)]) (N := Nlaw) (sc := defScope slaw) (by decide +kernel)) (fun _ _ _ _ _ => (pg_name (i := 2) sclaw.nd rfl (Or.inl rfl))) (fun _ _ _ _ _ => pts_nil) (fun _ _ _ _ _ => (pe_and (pe_callC C_law_names_known hr (pa_cons (pv 1) pa_nil)) (pe_one (pe_callC C_law_forms_known hr (pa_cons (pv 1) pa_nil)))))) pa_nil))))), ?_⟩
  refine ⟨_, rfl, a, ns, rfl, hS, h63, fun d L H1 S1 p1 => ?_⟩
  refine ⟨2, rfl, by decide, by decide, fun D nD => lc_range (lo := 0) (n := 2) (fun i H' => Keep d H1 H' ∧ Pen K H' d L ns (i * 417) ∧ H' D = some (.lst ((List.replicate i true).map V.bl))) ⟨Same.toKeep (same_new nD _), (p1.fresh (Keep.refl _ _) p1.cells p1.isDk nD).mono (by omega), upd_same⟩ (fun i H2 hi ⟨k2, p2, e⟩ => ?_) (fun H2 ⟨k2, p2, e⟩ => ?_)⟩
  · have nDd : D ≠ d := by
      obtain ⟨kvs, ed⟩ := p1.isDk
      exact (ne_of_none ed nD).symm
    refine ⟨rfl, _, rfl, d, L, ns, i * 417, rfl, p2, by omega, fun H3 k3 p3 => ⟨_, rfl, iteT ⟨_, rfl, d, L, ns, i * 417 + 17, rfl, p3, by omega, fun H4 k4 p4 => ?_⟩⟩⟩
    have kk := (k2.trans k3).trans k4
    refine ⟨_, k4 D _ nDd (k3 D _ nDd e), small1000 (by rw [List.length_map, List.length_replicate]; omega), keep_fresh kk nD, (p4.fresh kk p1.cells p1.isDk nD).mono (by omega), ?_⟩
    rw [upd_same, List.replicate_succ', List.map_append]
    rfl
  · refine ⟨D, List.replicate 2 true, rfl, SqL.of e, ?_⟩
    rw [all_true]
    exact q H2
end
section
variable {P : Program} {w : World} {K : PySem.W.Frag} {mg : Str → Option Value} {base : Heap} {f : Addr} {fd : FuncData}
theorem vac {k : Nat} {ps : List Str} {sp : Sp} (no : ∀ vs H Q E, ¬ sp vs H Q E) : FnOk P w K mg base CX0 k f fd ps sp :=
  ⟨fun vs H Q E h => absurd h (no vs H Q E), fun A outer s H args us vs Q E _ _ _ _ h => absurd h (no vs H Q E)⟩
theorem all_fits_form (T : Txt K mg) (F : Fun K "fits_form" "fits_form" sfits_form f fd) (b : Binds K fd Pfits_form []) (m : mg "fits_form" = some (.ref f)) (C : Cal P w K mg base "fits_name" 2 ["value"] (spName K)) : ∀ n : Nat, FnOk P w K mg base CX0 (2 + n) f fd Pfits_form (spForm K n)
  | 0 => vac fun vs H Q E ⟨_, k, _, h, _⟩ => Nat.not_lt_zero k h
  | n + 1 => ok_fits_form T F C ⟨f, fd, all_fits_form T F b m C n, m, F.kp, b⟩
theorem all_law_is_form (T : Txt K mg) (F : Fun K "_law_is_form" "_law_is_form" s_law_is_form f fd) (b : Binds K fd P_law_is_form []) (m : mg "_law_is_form" = some (.ref f)) (C : Cal P w K mg base "_law_is_name" 2 ["_law_value"] (spName K)) : ∀ n : Nat, FnOk P w K mg base CX0 (2 + n) f fd P_law_is_form (spFormL K n)
  | 0 => vac fun vs H Q E ⟨_, k, _, _, h, _⟩ => Nat.not_lt_zero k h
  | n + 1 => ok_law_is_form T F C ⟨f, fd, all_law_is_form T F b m C n, m, F.kp, b⟩
theorem all_law_depth (T : Txt K mg) (F : Fun K "_law_depth" "_law_depth" s_law_depth f fd) (b : Binds K fd P_law_depth []) (m : mg "_law_depth" = some (.ref f)) : ∀ n : Nat, FnOk P w K mg base CX0 n f fd P_law_depth (spDepth K n)
  | 0 => vac fun vs H Q E ⟨_, _, k, _, h, _⟩ => Nat.not_lt_zero k h
  | n + 1 => ok_law_depth T F ⟨f, fd, all_law_depth T F b m n, m, F.kp, b⟩
theorem all_law_shape (T : Txt K mg) (F : Fun K "_law_shape" "_law_shape" s_law_shape f fd) (b : Binds K fd P_law_shape []) (m : mg "_law_shape" = some (.ref f)) (C1 : Cal P w K mg base "_law_draw" 1 P_law_draw (spDraw K)) (C2 : Cal P w K mg base "_law_pick" 2 P_law_pick (spPick K)) : ∀ n : Nat, FnOk P w K mg base CX0 (2 + n) f fd P_law_shape (spShape K n)
  | 0 => vac fun vs H Q E ⟨_, _, _, _, _, _, _, t, _, h, _⟩ => Nat.not_lt_zero t h
  | n + 1 => ok_law_shape T F C1 C2 ⟨f, fd, all_law_shape T F b m C1 C2 n, m, F.kp, b⟩
theorem all_law_bent (T : Txt K mg) (F : Fun K "_law_bent" "_law_bent" s_law_bent f fd) (b : Binds K fd P_law_bent []) (m : mg "_law_bent" = some (.ref f)) (C1 : Cal P w K mg base "_law_draw" 1 P_law_draw (spDraw K)) (C2 : Cal P w K mg base "_law_pick" 2 P_law_pick (spPick K)) (C3 : Cal P w K mg base "_law_bent_name" 3 P_law_bent_name (spBentName K)) : ∀ n : Nat, FnOk P w K mg base CX0 (3 + n) f fd P_law_bent (spBent K n)
  | 0 => vac fun vs H Q E ⟨_, _, _, _, _, _, k, _, h, _⟩ => Nat.not_lt_zero k h
  | n + 1 => ok_law_bent T F C1 C2 C3 ⟨f, fd, all_law_bent T F b m C1 C2 C3 n, m, F.kp, b⟩
end
theorem all_mk {l : PySem.W.OpenLaw} {w : World} {K : PySem.W.Frag} {h : Heap} {mg : Str → Option Value} {fa f1 f2 f3 f4 f5 f6 f7 f8 f9 f10 f11 f12 f13 f14 f15 f16 f17 f18 f19 f20 aL aH : Addr} (X : K.In h) (G : h.Ns mainGlobals mg) (hfa : mg "law" = some (.ref fa))
    {od1 an1 od2 an2 od3 an3 od4 an4 od5 an5 od6 an6 od7 an7 od8 an8 od9 an9 od10 an10 od11 an11 od12 an12 od13 an13 od14 an14 od15 an15 od16 an16 od17 an17 od18 an18 od19 an19 od20 an20 odL odH : Option Addr} {sl1 sl2 sl3 sl4 sl5 sl6 sl7 sl8 sl9 sl10 sl11 sl12 sl13 sl14 sl15 sl16 sl17 sl18 sl19 sl20 slL slH : Array (Option Value)} {oc1 kV1 dc1 pm1 cd1 ct1 oc2 kV2 dc2 pm2 cd2 ct2 oc3 kV3 dc3 pm3 cd3 ct3 oc4 kV4 dc4 pm4 cd4 ct4 oc5 kV5 dc5 pm5 cd5 ct5 oc6 kV6 dc6 pm6 cd6 ct6 oc7 kV7 dc7 pm7 cd7 ct7 oc8 kV8 dc8 pm8 cd8 ct8 oc9 kV9 dc9 pm9 cd9 ct9 oc10 kV10 dc10 pm10 cd10 ct10 oc11 kV11 dc11 pm11 cd11 ct11 oc12 kV12 dc12 pm12 cd12 ct12 oc13 kV13 dc13 pm13 cd13 ct13 oc14 kV14 dc14 pm14 cd14 ct14 oc15 kV15 dc15 pm15 cd15 ct15 oc16 kV16 dc16 pm16 cd16 ct16 oc17 kV17 dc17 pm17 cd17 ct17 oc18 kV18 dc18 pm18 cd18 ct18 oc19 kV19 dc19 pm19 cd19 ct19 oc20 kV20 dc20 pm20 cd20 ct20 : Value} {tl td tn tp u1 u2 u3 u4 u5 u6 : Tok} {nL nH : Nat}
    (a1 : PySem.W.nsIn K mainGlobals "fits_name" = some (some (.ref f1))) (l1 : K.lookup f1 = some ⟨oc1, od1, .func (PySem.W.fnOf "fits_name" "fits_name" (defArgs sfits_name) (defBody sfits_name) (defScope sfits_name) .none kV1 dc1 pm1 an1 cd1 ct1), sl1⟩) (c1 : PySem.W.codeIn K cd1 "fits_name" = true) (k1 : PySem.W.keepIn K (.ref f1) = true)
    (a2 : PySem.W.nsIn K mainGlobals "fits_form" = some (some (.ref f2))) (l2 : K.lookup f2 = some ⟨oc2, od2, .func (PySem.W.fnOf "fits_form" "fits_form" (defArgs sfits_form) (defBody sfits_form) (defScope sfits_form) .none kV2 dc2 pm2 an2 cd2 ct2), sl2⟩) (c2 : PySem.W.codeIn K cd2 "fits_form" = true) (k2 : PySem.W.keepIn K (.ref f2) = true)
    (a3 : PySem.W.nsIn K mainGlobals "is_name" = some (some (.ref f3))) (l3 : K.lookup f3 = some ⟨oc3, od3, .func (PySem.W.fnOf "is_name" "is_name" (defArgs sis_name) (defBody sis_name) (defScope sis_name) .none kV3 dc3 pm3 an3 cd3 ct3), sl3⟩) (c3 : PySem.W.codeIn K cd3 "is_name" = true) (k3 : PySem.W.keepIn K (.ref f3) = true)
    (a4 : PySem.W.nsIn K mainGlobals "is_form" = some (some (.ref f4))) (l4 : K.lookup f4 = some ⟨oc4, od4, .func (PySem.W.fnOf "is_form" "is_form" (defArgs sis_form) (defBody sis_form) (defScope sis_form) .none kV4 dc4 pm4 an4 cd4 ct4), sl4⟩) (c4 : PySem.W.codeIn K cd4 "is_form" = true) (k4 : PySem.W.keepIn K (.ref f4) = true)
    (a5 : PySem.W.nsIn K mainGlobals "_law_begin" = some (some (.ref f5))) (l5 : K.lookup f5 = some ⟨oc5, od5, .func (PySem.W.fnOf "_law_begin" "_law_begin" (defArgs s_law_begin) (defBody s_law_begin) (defScope s_law_begin) .none kV5 dc5 pm5 an5 cd5 ct5), sl5⟩) (c5 : PySem.W.codeIn K cd5 "_law_begin" = true) (k5 : PySem.W.keepIn K (.ref f5) = true)
    (a6 : PySem.W.nsIn K mainGlobals "_law_draw" = some (some (.ref f6))) (l6 : K.lookup f6 = some ⟨oc6, od6, .func (PySem.W.fnOf "_law_draw" "_law_draw" (defArgs s_law_draw) (defBody s_law_draw) (defScope s_law_draw) .none kV6 dc6 pm6 an6 cd6 ct6), sl6⟩) (c6 : PySem.W.codeIn K cd6 "_law_draw" = true) (k6 : PySem.W.keepIn K (.ref f6) = true)
    (a7 : PySem.W.nsIn K mainGlobals "_law_pick" = some (some (.ref f7))) (l7 : K.lookup f7 = some ⟨oc7, od7, .func (PySem.W.fnOf "_law_pick" "_law_pick" (defArgs s_law_pick) (defBody s_law_pick) (defScope s_law_pick) .none kV7 dc7 pm7 an7 cd7 ct7), sl7⟩) (c7 : PySem.W.codeIn K cd7 "_law_pick" = true) (k7 : PySem.W.keepIn K (.ref f7) = true)
    (a8 : PySem.W.nsIn K mainGlobals "_law_depth" = some (some (.ref f8))) (l8 : K.lookup f8 = some ⟨oc8, od8, .func (PySem.W.fnOf "_law_depth" "_law_depth" (defArgs s_law_depth) (defBody s_law_depth) (defScope s_law_depth) .none kV8 dc8 pm8 an8 cd8 ct8), sl8⟩) (c8 : PySem.W.codeIn K cd8 "_law_depth" = true) (k8 : PySem.W.keepIn K (.ref f8) = true)
    (a9 : PySem.W.nsIn K mainGlobals "_law_name" = some (some (.ref f9))) (l9 : K.lookup f9 = some ⟨oc9, od9, .func (PySem.W.fnOf "_law_name" "_law_name" (defArgs s_law_name) (defBody s_law_name) (defScope s_law_name) .none kV9 dc9 pm9 an9 cd9 ct9), sl9⟩) (c9 : PySem.W.codeIn K cd9 "_law_name" = true) (k9 : PySem.W.keepIn K (.ref f9) = true)
    (a10 : PySem.W.nsIn K mainGlobals "_law_names" = some (some (.ref f10))) (l10 : K.lookup f10 = some ⟨oc10, od10, .func (PySem.W.fnOf "_law_names" "_law_names" (defArgs s_law_names) (defBody s_law_names) (defScope s_law_names) .none kV10 dc10 pm10 an10 cd10 ct10), sl10⟩) (c10 : PySem.W.codeIn K cd10 "_law_names" = true) (k10 : PySem.W.keepIn K (.ref f10) = true)
    (a11 : PySem.W.nsIn K mainGlobals "_law_shape" = some (some (.ref f11))) (l11 : K.lookup f11 = some ⟨oc11, od11, .func (PySem.W.fnOf "_law_shape" "_law_shape" (defArgs s_law_shape) (defBody s_law_shape) (defScope s_law_shape) .none kV11 dc11 pm11 an11 cd11 ct11), sl11⟩) (c11 : PySem.W.codeIn K cd11 "_law_shape" = true) (k11 : PySem.W.keepIn K (.ref f11) = true)
    (a12 : PySem.W.nsIn K mainGlobals "_law_is_name" = some (some (.ref f12))) (l12 : K.lookup f12 = some ⟨oc12, od12, .func (PySem.W.fnOf "_law_is_name" "_law_is_name" (defArgs s_law_is_name) (defBody s_law_is_name) (defScope s_law_is_name) .none kV12 dc12 pm12 an12 cd12 ct12), sl12⟩) (c12 : PySem.W.codeIn K cd12 "_law_is_name" = true) (k12 : PySem.W.keepIn K (.ref f12) = true)
    (a13 : PySem.W.nsIn K mainGlobals "_law_is_form" = some (some (.ref f13))) (l13 : K.lookup f13 = some ⟨oc13, od13, .func (PySem.W.fnOf "_law_is_form" "_law_is_form" (defArgs s_law_is_form) (defBody s_law_is_form) (defScope s_law_is_form) .none kV13 dc13 pm13 an13 cd13 ct13), sl13⟩) (c13 : PySem.W.codeIn K cd13 "_law_is_form" = true) (k13 : PySem.W.keepIn K (.ref f13) = true)
    (a14 : PySem.W.nsIn K mainGlobals "_law_bent_name" = some (some (.ref f14))) (l14 : K.lookup f14 = some ⟨oc14, od14, .func (PySem.W.fnOf "_law_bent_name" "_law_bent_name" (defArgs s_law_bent_name) (defBody s_law_bent_name) (defScope s_law_bent_name) .none kV14 dc14 pm14 an14 cd14 ct14), sl14⟩) (c14 : PySem.W.codeIn K cd14 "_law_bent_name" = true) (k14 : PySem.W.keepIn K (.ref f14) = true)
    (a15 : PySem.W.nsIn K mainGlobals "_law_bent" = some (some (.ref f15))) (l15 : K.lookup f15 = some ⟨oc15, od15, .func (PySem.W.fnOf "_law_bent" "_law_bent" (defArgs s_law_bent) (defBody s_law_bent) (defScope s_law_bent) .none kV15 dc15 pm15 an15 cd15 ct15), sl15⟩) (c15 : PySem.W.codeIn K cd15 "_law_bent" = true) (k15 : PySem.W.keepIn K (.ref f15) = true)
    (a16 : PySem.W.nsIn K mainGlobals "_law_deeper" = some (some (.ref f16))) (l16 : K.lookup f16 = some ⟨oc16, od16, .func (PySem.W.fnOf "_law_deeper" "_law_deeper" (defArgs s_law_deeper) (defBody s_law_deeper) (defScope s_law_deeper) .none kV16 dc16 pm16 an16 cd16 ct16), sl16⟩) (c16 : PySem.W.codeIn K cd16 "_law_deeper" = true) (k16 : PySem.W.keepIn K (.ref f16) = true)
    (a17 : PySem.W.nsIn K mainGlobals "_law_says" = some (some (.ref f17))) (l17 : K.lookup f17 = some ⟨oc17, od17, .func (PySem.W.fnOf "_law_says" "_law_says" (defArgs s_law_says) (defBody s_law_says) (defScope s_law_says) .none kV17 dc17 pm17 an17 cd17 ct17), sl17⟩) (c17 : PySem.W.codeIn K cd17 "_law_says" = true) (k17 : PySem.W.keepIn K (.ref f17) = true)
    (a18 : PySem.W.nsIn K mainGlobals "_law_names_known" = some (some (.ref f18))) (l18 : K.lookup f18 = some ⟨oc18, od18, .func (PySem.W.fnOf "_law_names_known" "_law_names_known" (defArgs s_law_names_known) (defBody s_law_names_known) (defScope s_law_names_known) .none kV18 dc18 pm18 an18 cd18 ct18), sl18⟩) (c18 : PySem.W.codeIn K cd18 "_law_names_known" = true) (k18 : PySem.W.keepIn K (.ref f18) = true)
    (a19 : PySem.W.nsIn K mainGlobals "_law_forms_known" = some (some (.ref f19))) (l19 : K.lookup f19 = some ⟨oc19, od19, .func (PySem.W.fnOf "_law_forms_known" "_law_forms_known" (defArgs s_law_forms_known) (defBody s_law_forms_known) (defScope s_law_forms_known) .none kV19 dc19 pm19 an19 cd19 ct19), sl19⟩) (c19 : PySem.W.codeIn K cd19 "_law_forms_known" = true) (k19 : PySem.W.keepIn K (.ref f19) = true)
    (a20 : PySem.W.nsIn K mainGlobals "law" = some (some (.ref f20))) (l20 : K.lookup f20 = some ⟨oc20, od20, .func (PySem.W.fnOf "law" "law" (defArgs slaw) (defBody slaw) (defScope slaw) .none kV20 dc20 pm20 an20 cd20 ct20), sl20⟩) (c20 : PySem.W.codeIn K cd20 "law" = true) (k20 : PySem.W.keepIn K (.ref f20) = true)
    (z1 : PySem.W.nsIn K mainGlobals "isinstance" = some none)
    (z2 : PySem.W.nsIn K mainGlobals "len" = some none)
    (z3 : PySem.W.nsIn K mainGlobals "all" = some none)
    (z4 : PySem.W.nsIn K mainGlobals "str" = some none)
    (z5 : PySem.W.nsIn K mainGlobals "tuple" = some none)
    (z6 : PySem.W.nsIn K mainGlobals "int" = some none)
    (z7 : PySem.W.nsIn K mainGlobals "list" = some none)
    (z8 : PySem.W.nsIn K mainGlobals "abs" = some none)
    (z9 : PySem.W.nsIn K mainGlobals "max" = some none)
    (z10 : PySem.W.nsIn K mainGlobals "min" = some none)
    (z11 : PySem.W.nsIn K mainGlobals "range" = some none)
    (z12 : PySem.W.nsIn K mainGlobals "bool" = some none)
    (y1 : PySem.W.nsIn K mainGlobals "LETTERS" = some (some (.str zLetters tl))) (y2 : PySem.W.nsIn K mainGlobals "DIGITS" = some (some (.str zDigits td))) (y3 : PySem.W.nsIn K mainGlobals "LONGEST_NAME" = some (some (.int 12 tn))) (y4 : PySem.W.nsIn K mainGlobals "DEEPEST" = some (some (.int 12 tp)))
    (y5 : PySem.W.nsIn K mainGlobals "LEAF_WORDS" = some (some (.ref aL))) (y6 : K.lookup aL = some ⟨.type "tuple", odL, .seq #[.str (Str.ofString "good") u1, .str (Str.ofString "counter") u2] nL, slL⟩) (y7 : PySem.W.nsIn K mainGlobals "HALVED_WORDS" = some (some (.ref aH))) (y8 : K.lookup aH = some ⟨.type "tuple", odH, .seq #[.str (Str.ofString "both") u3, .str (Str.ofString "between") u4, .str (Str.ofString "offered") u5, .str (Str.ofString "chosen") u6] nH, slH⟩) :
    ∃ fd : FuncData, (∀ (s : Shared) (v : Value), BindsTo s fd ⟨[v], []⟩ [("_law_script", v)]) ∧ ∀ base : Heap, K.In base → base.Ns mainGlobals mg → FnOk l.prog w K mg base CX0 18 fa fd ["_law_script"] (spLaw K) := by
  have e := hfa.symm.trans (PySem.W.mg_of X G a20)
  cases e
  have T : Txt K mg := {
    isinstance := PySem.W.mg_none_of X G z1, len := PySem.W.mg_none_of X G z2, all := PySem.W.mg_none_of X G z3, str := PySem.W.mg_none_of X G z4, tuple := PySem.W.mg_none_of X G z5, int := PySem.W.mg_none_of X G z6
    list := PySem.W.mg_none_of X G z7, abs := PySem.W.mg_none_of X G z8, max := PySem.W.mg_none_of X G z9, min := PySem.W.mg_none_of X G z10, range := PySem.W.mg_none_of X G z11, bool := PySem.W.mg_none_of X G z12
    LETTERS := ⟨_, PySem.W.mg_of X G y1, ⟨_, rfl⟩⟩, DIGITS := ⟨_, PySem.W.mg_of X G y2, ⟨_, rfl⟩⟩, LONGEST_NAME := ⟨_, PySem.W.mg_of X G y3, ⟨_, rfl⟩⟩, DEEPEST := ⟨_, PySem.W.mg_of X G y4, ⟨_, rfl⟩⟩
    aLeaf := aL, LEAF_WORDS := ⟨_, PySem.W.mg_of X G y5, rfl⟩, sLeaf := fun H => .inr ⟨_, _, _, y6, rfl, rfl, (by show 2 ≤ sizeLine; decide), .cons ⟨_, rfl⟩ (.cons ⟨_, rfl⟩ .nil)⟩
    aHalf := aH, HALVED_WORDS := ⟨_, PySem.W.mg_of X G y7, rfl⟩, sHalf := fun H => .inr ⟨_, _, _, y8, rfl, rfl, (by show 4 ≤ sizeLine; decide), .cons ⟨_, rfl⟩ (.cons ⟨_, rfl⟩ (.cons ⟨_, rfl⟩ (.cons ⟨_, rfl⟩ .nil)))⟩ }
  have F1 := fun_mk (st := sfits_name) l1 c1 k1
  have b1 := F1.binds (ps := Pfits_name) fun _ _ _ _ _ _ us hl => match us, hl with | [_], _ => rfl
  have m1 := PySem.W.mg_of X G a1
  have F2 := fun_mk (st := sfits_form) l2 c2 k2
  have b2 := F2.binds (ps := Pfits_form) fun _ _ _ _ _ _ us hl => match us, hl with | [_, _], _ => rfl
  have m2 := PySem.W.mg_of X G a2
  have F3 := fun_mk (st := sis_name) l3 c3 k3
  have b3 := F3.binds (ps := Pis_name) fun _ _ _ _ _ _ us hl => match us, hl with | [_], _ => rfl
  have m3 := PySem.W.mg_of X G a3
  have F4 := fun_mk (st := sis_form) l4 c4 k4
  have b4 := F4.binds (ps := Pis_form) fun _ _ _ _ _ _ us hl => match us, hl with | [_], _ => rfl
  have m4 := PySem.W.mg_of X G a4
  have F5 := fun_mk (st := s_law_begin) l5 c5 k5
  have b5 := F5.binds (ps := P_law_begin) fun _ _ _ _ _ _ us hl => match us, hl with | [_], _ => rfl
  have m5 := PySem.W.mg_of X G a5
  have F6 := fun_mk (st := s_law_draw) l6 c6 k6
  have b6 := F6.binds (ps := P_law_draw) fun _ _ _ _ _ _ us hl => match us, hl with | [_, _], _ => rfl
  have m6 := PySem.W.mg_of X G a6
  have F7 := fun_mk (st := s_law_pick) l7 c7 k7
  have b7 := F7.binds (ps := P_law_pick) fun _ _ _ _ _ _ us hl => match us, hl with | [_, _], _ => rfl
  have m7 := PySem.W.mg_of X G a7
  have F8 := fun_mk (st := s_law_depth) l8 c8 k8
  have b8 := F8.binds (ps := P_law_depth) fun _ _ _ _ _ _ us hl => match us, hl with | [_], _ => rfl
  have m8 := PySem.W.mg_of X G a8
  have F9 := fun_mk (st := s_law_name) l9 c9 k9
  have b9 := F9.binds (ps := P_law_name) fun _ _ _ _ _ _ us hl => match us, hl with | [_], _ => rfl
  have m9 := PySem.W.mg_of X G a9
  have F10 := fun_mk (st := s_law_names) l10 c10 k10
  have b10 := F10.binds (ps := P_law_names) fun _ _ _ _ _ _ us hl => match us, hl with | [_, _], _ => rfl
  have m10 := PySem.W.mg_of X G a10
  have F11 := fun_mk (st := s_law_shape) l11 c11 k11
  have b11 := F11.binds (ps := P_law_shape) fun _ _ _ _ _ _ us hl => match us, hl with | [_, _, _, _], _ => rfl
  have m11 := PySem.W.mg_of X G a11
  have F12 := fun_mk (st := s_law_is_name) l12 c12 k12
  have b12 := F12.binds (ps := P_law_is_name) fun _ _ _ _ _ _ us hl => match us, hl with | [_], _ => rfl
  have m12 := PySem.W.mg_of X G a12
  have F13 := fun_mk (st := s_law_is_form) l13 c13 k13
  have b13 := F13.binds (ps := P_law_is_form) fun _ _ _ _ _ _ us hl => match us, hl with | [_, _], _ => rfl
  have m13 := PySem.W.mg_of X G a13
  have F14 := fun_mk (st := s_law_bent_name) l14 c14 k14
  have b14 := F14.binds (ps := P_law_bent_name) fun _ _ _ _ _ _ us hl => match us, hl with | [_, _], _ => rfl
  have m14 := PySem.W.mg_of X G a14
  have F15 := fun_mk (st := s_law_bent) l15 c15 k15
  have b15 := F15.binds (ps := P_law_bent) fun _ _ _ _ _ _ us hl => match us, hl with | [_, _], _ => rfl
  have m15 := PySem.W.mg_of X G a15
  have F16 := fun_mk (st := s_law_deeper) l16 c16 k16
  have b16 := F16.binds (ps := P_law_deeper) fun _ _ _ _ _ _ us hl => match us, hl with | [_, _], _ => rfl
  have m16 := PySem.W.mg_of X G a16
  have F17 := fun_mk (st := s_law_says) l17 c17 k17
  have b17 := F17.binds (ps := P_law_says) fun _ _ _ _ _ _ us hl => match us, hl with | [_, _], _ => rfl
  have m17 := PySem.W.mg_of X G a17
  have F18 := fun_mk (st := s_law_names_known) l18 c18 k18
  have b18 := F18.binds (ps := P_law_names_known) fun _ _ _ _ _ _ us hl => match us, hl with | [_], _ => rfl
  have m18 := PySem.W.mg_of X G a18
  have F19 := fun_mk (st := s_law_forms_known) l19 c19 k19
  have b19 := F19.binds (ps := P_law_forms_known) fun _ _ _ _ _ _ us hl => match us, hl with | [_], _ => rfl
  have m19 := PySem.W.mg_of X G a19
  have F20 := fun_mk (st := slaw) l20 c20 k20
  refine ⟨PySem.W.fnOf "law" "law" (defArgs slaw) (defBody slaw) (defScope slaw) .none kV20 dc20 pm20 an20 cd20 ct20, fun s v => .of_eq rfl, fun base _ _ => ?_⟩
  have Cfits_name : Cal l.prog w K mg base "fits_name" 2 Pfits_name (spName K) := ⟨_, _, ok_fits_name T F1, m1, k1, b1⟩
  have Cfits_form : Cal l.prog w K mg base "fits_form" 15 Pfits_form (spForm K 13) := ⟨_, _, all_fits_form T F2 b2 m2 Cfits_name 13, m2, k2, b2⟩
  have Cis_name : Cal l.prog w K mg base "is_name" 3 Pis_name (spName K) := ⟨_, _, okis_name T F3 Cfits_name, m3, k3, b3⟩
  have Cis_form : Cal l.prog w K mg base "is_form" 16 Pis_form (spIsForm K) := ⟨_, _, okis_form T F4 Cfits_form, m4, k4, b4⟩
  have C_law_begin : Cal l.prog w K mg base "_law_begin" 1 P_law_begin (spBegin K) := ⟨_, _, ok_law_begin T F5, m5, k5, b5⟩
  have C_law_draw : Cal l.prog w K mg base "_law_draw" 1 P_law_draw (spDraw K) := ⟨_, _, ok_law_draw T F6, m6, k6, b6⟩
  have C_law_pick : Cal l.prog w K mg base "_law_pick" 2 P_law_pick (spPick K) := ⟨_, _, ok_law_pick T F7 C_law_draw, m7, k7, b7⟩
  have C_law_depth : Cal l.prog w K mg base "_law_depth" 13 P_law_depth (spDepth K 13) := ⟨_, _, all_law_depth T F8 b8 m8 13, m8, k8, b8⟩
  have C_law_name : Cal l.prog w K mg base "_law_name" 3 P_law_name (spNameOf K) := ⟨_, _, ok_law_name T F9 C_law_pick, m9, k9, b9⟩
  have C_law_names : Cal l.prog w K mg base "_law_names" 4 P_law_names (spNames K) := ⟨_, _, ok_law_names T F10 C_law_draw C_law_name, m10, k10, b10⟩
  have C_law_shape : Cal l.prog w K mg base "_law_shape" 15 P_law_shape (spShape K 13) := ⟨_, _, all_law_shape T F11 b11 m11 C_law_draw C_law_pick 13, m11, k11, b11⟩
  have C_law_is_name : Cal l.prog w K mg base "_law_is_name" 2 P_law_is_name (spName K) := ⟨_, _, ok_law_is_name T F12, m12, k12, b12⟩
  have C_law_is_form : Cal l.prog w K mg base "_law_is_form" 15 P_law_is_form (spFormL K 13) := ⟨_, _, all_law_is_form T F13 b13 m13 C_law_is_name 13, m13, k13, b13⟩
  have C_law_bent_name : Cal l.prog w K mg base "_law_bent_name" 3 P_law_bent_name (spBentName K) := ⟨_, _, ok_law_bent_name T F14 C_law_draw C_law_pick, m14, k14, b14⟩
  have C_law_bent : Cal l.prog w K mg base "_law_bent" 16 P_law_bent (spBent K 13) := ⟨_, _, all_law_bent T F15 b15 m15 C_law_draw C_law_pick C_law_bent_name 13, m15, k15, b15⟩
  have C_law_deeper : Cal l.prog w K mg base "_law_deeper" 14 P_law_deeper (spDeeper K) := ⟨_, _, ok_law_deeper T F16 C_law_depth, m16, k16, b16⟩
  have C_law_says : Cal l.prog w K mg base "_law_says" 1 P_law_says spSays := ⟨_, _, ok_law_says T F17, m17, k17, b17⟩
  have C_law_names_known : Cal l.prog w K mg base "_law_names_known" 4 P_law_names_known (spKnown K 17) := ⟨_, _, ok_law_names_known T F18 C_law_name C_law_bent_name Cis_name C_law_is_name C_law_says, m18, k18, b18⟩
  have C_law_forms_known : Cal l.prog w K mg base "_law_forms_known" 17 P_law_forms_known (spKnown K 400) := ⟨_, _, ok_law_forms_known T F19 C_law_draw C_law_pick C_law_names C_law_shape C_law_bent Cis_form C_law_is_form C_law_deeper C_law_says, m19, k19, b19⟩
  exact ok_law T F20 C_law_begin C_law_names_known C_law_forms_known
theorem walk {l : PySem.W.OpenLaw} {q : Program} {loose : List Str} {XP : (Str → Option Value) → Heap → Prop} {YP : World → Heap → Prop} {d : DefRec} {K : Params → PySem.W.Frag} (hn : l.most = some 63) (hdf : d.params.defaults = [])
    (hY : ∀ (w : World) (h : Heap), YP w h → (K w.params).In h)
    (F : ∀ (w : World) (mg : Str → Option Value) (fa : Addr) (h : Heap), (K w.params).In h → h.Ns mainGlobals mg → mg d.name = some (.ref fa) →
      ∃ fd : FuncData, (∀ (s : Shared) (u : Value), BindsTo s fd ⟨[u], []⟩ [("_law_script", u)]) ∧ ∀ base : Heap, (K w.params).In base → base.Ns mainGlobals mg → FnOk l.prog w (K w.params) mg base CX0 18 fa fd ["_law_script"] (spLaw (K w.params))) :
    PySem.W.WalkO q loose XP YP l.row.toRowW d [] (fun f vs => PySem.call f vs) :=
  L2.walk_of (n := 63) (k := 18) (x := "_law_script") (CX := fun _ => CX0) (sp := fun w => spLaw (K w.params)) hn (by decide) hdf ⟨rfl, by decide, by decide⟩ hY F (fun _ _ a ns hl _ hS => ⟨a, ns, rfl, hS, hl, fun _ => rfl⟩) fun _ _ _ _ _ z => z
end My
open PySem PySem.W PyProof.Rows
set_option maxRecDepth 100000 in
set_option maxHeartbeats 0 in
theorem PySem.Challenge.cw_alldeeds_k02_names_and_forms_holds : PySem.Challenge.rw_alldeeds_k02_names_and_forms.Holds := by
  w_on; o_law; k_head; (case hw => w_witness2)
  k_fill
  refine My.walk (l := PySem.Challenge.rw_alldeeds_k02_names_and_forms) rfl rfl (fun w h Y => PySem.W.kIn_of Y) ?F
  case F =>
    intro w mg fa h KX G hmg
    refine' My.all_mk KX G hmg ?a1 ?l1 ?c1 ?k1 ?a2 ?l2 ?c2 ?k2 ?a3 ?l3 ?c3 ?k3 ?a4 ?l4 ?c4 ?k4 ?a5 ?l5 ?c5 ?k5 ?a6 ?l6 ?c6 ?k6 ?a7 ?l7 ?c7 ?k7 ?a8 ?l8 ?c8 ?k8 ?a9 ?l9 ?c9 ?k9 ?a10 ?l10 ?c10 ?k10 ?a11 ?l11 ?c11 ?k11 ?a12 ?l12 ?c12 ?k12 ?a13 ?l13 ?c13 ?k13 ?a14 ?l14 ?c14 ?k14 ?a15 ?l15 ?c15 ?k15 ?a16 ?l16 ?c16 ?k16 ?a17 ?l17 ?c17 ?k17 ?a18 ?l18 ?c18 ?k18 ?a19 ?l19 ?c19 ?k19 ?a20 ?l20 ?c20 ?k20 ?z1 ?z2 ?z3 ?z4 ?z5 ?z6 ?z7 ?z8 ?z9 ?z10 ?z11 ?z12 ?y1 ?y2 ?y3 ?y4 ?y5 ?y6 ?y7 ?y8
    (case a1 => k_is); (case l1 => k_is); (case c1 => k_is); (case k1 => k_is)
    (case a2 => k_is); (case l2 => k_is); (case c2 => k_is); (case k2 => k_is)
    (case a3 => k_is); (case l3 => k_is); (case c3 => k_is); (case k3 => k_is)
    (case a4 => k_is); (case l4 => k_is); (case c4 => k_is); (case k4 => k_is)
    (case a5 => k_is); (case l5 => k_is); (case c5 => k_is); (case k5 => k_is)
    (case a6 => k_is); (case l6 => k_is); (case c6 => k_is); (case k6 => k_is)
    (case a7 => k_is); (case l7 => k_is); (case c7 => k_is); (case k7 => k_is)
    (case a8 => k_is); (case l8 => k_is); (case c8 => k_is); (case k8 => k_is)
    (case a9 => k_is); (case l9 => k_is); (case c9 => k_is); (case k9 => k_is)
    (case a10 => k_is); (case l10 => k_is); (case c10 => k_is); (case k10 => k_is)
    (case a11 => k_is); (case l11 => k_is); (case c11 => k_is); (case k11 => k_is)
    (case a12 => k_is); (case l12 => k_is); (case c12 => k_is); (case k12 => k_is)
    (case a13 => k_is); (case l13 => k_is); (case c13 => k_is); (case k13 => k_is)
    (case a14 => k_is); (case l14 => k_is); (case c14 => k_is); (case k14 => k_is)
    (case a15 => k_is); (case l15 => k_is); (case c15 => k_is); (case k15 => k_is)
    (case a16 => k_is); (case l16 => k_is); (case c16 => k_is); (case k16 => k_is)
    (case a17 => k_is); (case l17 => k_is); (case c17 => k_is); (case k17 => k_is)
    (case a18 => k_is); (case l18 => k_is); (case c18 => k_is); (case k18 => k_is)
    (case a19 => k_is); (case l19 => k_is); (case c19 => k_is); (case k19 => k_is)
    (case a20 => k_is); (case l20 => k_is); (case c20 => k_is); (case k20 => k_is)
    (case z1 => k_is)
    (case z2 => k_is)
    (case z3 => k_is)
    (case z4 => k_is)
    (case z5 => k_is)
    (case z6 => k_is)
    (case z7 => k_is)
    (case z8 => k_is)
    (case z9 => k_is)
    (case z10 => k_is)
    (case z11 => k_is)
    (case z12 => k_is)
    (case y1 => k_is); (case y2 => k_is); (case y3 => k_is); (case y4 => k_is); (case y5 => k_is); (case y6 => k_is); (case y7 => k_is); (case y8 => k_is)

