import PyProof.Rows.All
import Wide.All
import OpenK.AllK
import Wide.FinOn
import HandS.Base
import HandS.Call
import HandS.List
import HandS.Comp
import HandS.Ends
import HandS.Iter
import HandS.Text
import HandS.Words
import HandS.WordsList
import HandS.IsInst
import HandS.Style
import HandS.Walk
import HandS.FStr
import HandS.Small
import HandS.NoneIn
import HandS.Replace
import PySem.Challenge.RW_partwares_k03_pence_texts_spoilt
set_option Elab.async false
set_option linter.all false
set_option maxRecDepth 100000
namespace Pw
open PySem PySem.Spec PyProof.Rows L2
/-! ### a def of the text by its promise, its address left aside -/
structure CF (P : Program) (w : World) (K : PySem.W.Frag) (mg : Str → Option Value) (base : Heap) (k : Nat) (x : Str) (ps : List Str) (sp : Sp) : Prop where
  ex : ∃ (f : Addr) (fd : FuncData), FnOk P w K mg base CX0 k f fd ps sp ∧ mg x = some (.ref f) ∧ PySem.W.keepIn K (.ref f) = true ∧ Binds K fd ps []
theorem pe_cf {X : Cx} {k : Nat} {x : Str} {ps : List Str} {sp : Sp} {e : Expr} {es : List Expr} {t : TA} {p pos : Pos} (C : CF X.prog X.w X.K X.mg X.base k x ps sp) (hr : Room k X.A) (hg : Gl X x) (ha : PA X (e :: es) t)
    (hdb : (x == ("__debug__" : Str)) = false := by decide) (he : starEach (e :: es) X.env = (false, eval e X.env) :: starEach es X.env := by rfl) (hpl : (backTo pos (starEach es X.env)).any (·.1) = false := by rfl) :
    PE X (.Call (.Name x p) (e :: es) [] pos) (tCall sp [] E0 t) := by
  obtain ⟨f, fd, F, g, kp, b⟩ := C.ex
  exact pe_call F hr hg g kp b .nil pass0 ha hdb he hpl
/-! ### the rules with their written part named (within a comprehension it must not hang on the block) -/
section
variable (K : PySem.W.Frag) {X : Cx}
theorem kk_isi (h : X.K = K := by rfl) : CallR X (.builtin "isinstance") (rIsi K) := h ▸ call_isi
theorem kk_isiT (h : X.K = K := by rfl) : CallR X (.builtin "isinstance") (rIsiT K) := h ▸ call_isiT
theorem kk_len (h : X.K = K := by rfl) : CallR X (.builtin "len") (fun xs H Q => ∃ p ys, xs = [.ref p] ∧ (SqL K H p ys ∨ SqT K H p ys) ∧ Q (.int ys.length) H) := h ▸ call_len_seq
theorem kk_list (h : X.K = K := by rfl) : CallR X (.type "list") (fun xs H Q => ∃ p ys, xs = [.ref p] ∧ (SqL K H p ys ∨ SqT K H p ys) ∧ ∀ l, H l = none → Q (.ref l) (upd H l (.lst ys))) := h ▸ call_list_of
theorem kk_tuple (h : X.K = K := by rfl) : CallR X (.type "tuple") (fun xs H Q => ∃ p ys, xs = [.ref p] ∧ ((SqL K H p ys ∧ ∀ l, H l = none → Q (.ref l) (upd H l (.tup ys))) ∨ (SqT K H p ys ∧ Q (.ref p) H))) := h ▸ call_tuple_of
theorem kk_sum (hc : X.calm = true) (h : X.K = K := by rfl) : CallR X (.builtin "sum") (rSum K) := h ▸ cr_sum hc
theorem kk_max (hc : X.calm = true) (h : X.K = K := by rfl) : CallR X (.builtin "max") (rMax K) := h ▸ cr_max hc
theorem kk_min (hc : X.calm = true) (h : X.K = K := by rfl) : CallR X (.builtin "min") (rMin K) := h ▸ cr_min hc
theorem kk_any (hc : X.calm = true) (h : X.K = K := by rfl) : CallR X (.builtin "any") (rAny K) := h ▸ cr_any hc
theorem kk_all (hc : X.calm = true) (h : X.K = K := by rfl) : CallR X (.builtin "all") (rAll K) := h ▸ cr_all hc
theorem kk_sorted (h : X.K = K := by rfl) : CallR X (.builtin "sorted") (rSorted K) := h ▸ cr_sorted
theorem kk_ixl (h : X.K = K := by rfl) : IxR X (rIxL K) := h ▸ ix_list
theorem kk_ixt (h : X.K = K := by rfl) : IxR X (rIxT K) := h ▸ ix_tup
theorem kk_sll (h : X.K = K := by rfl) : SlR X (rSlL K) := h ▸ sl_list
theorem kk_slt (h : X.K = K := by rfl) : SlR X (rSlT K) := h ▸ sl_tup
theorem kk_in (h : X.K = K := by rfl) : OpR X (compareOp .In) (rIn K false) := h ▸ op_in_seq
theorem kk_nin (h : X.K = K := by rfl) : OpR X (compareOp .NotIn) (rIn K true) := h ▸ op_notIn_seq
theorem kk_catT (h : X.K = K := by rfl) : OpR X (binaryOp .Add) (rCatT K) := h ▸ op_catT
theorem kk_eqD (hu : X.A.units + 64 < cLine) (h : X.K = K := by rfl) : OpR X (compareOp .Eq) (rEqD K) := h ▸ op_eqD hu
theorem kk_neD (hu : X.A.units + 64 < cLine) (h : X.K = K := by rfl) : OpR X (compareOp .NotEq) (rNeD K) := h ▸ op_neD hu
theorem kk_revL {e : Expr} {te : TE} {k : Nat} {p1 p2 p3 pos : Pos} (he : PE X e te) (h : X.K = K := by rfl) : PE X (.Subscript e (.Slice none none (some (.UnaryOp .USub (.Constant (.int 1) k p1) p2)) p3) pos) (tRevL K te) := h ▸ pe_revL he
end
/-! ### heaps: all as it was, but one place -/
def But (b : Addr) (H H' : Hp) : Prop := ∀ c o, c ≠ b → H c = some o → H' c = some o
theorem But.refl (b : Addr) (H : Hp) : But b H H := fun _ _ _ h => h
theorem But.trans {b : Addr} {H H1 H2 : Hp} (x : But b H H1) (y : But b H1 H2) : But b H H2 := fun c o n h => y c o n (x c o n h)
theorem But.of {b : Addr} {H H1 : Hp} (x : Same H H1) : But b H H1 := fun c o _ h => x c o h
theorem But.upd {b : Addr} {H : Hp} {o : HO} : But b H (L2.upd H b o) := fun c u n h => by
  rw [upd_ne n]
  exact h
theorem But.new {b p : Addr} {H : Hp} {o : HO} (h : H p = none) : But b H (L2.upd H p o) := fun c u _ e => by
  rw [upd_ne (ne_of_none e h)]
  exact e
theorem same_new {H : Hp} {p : Addr} {o : HO} (h : H p = none) : Same H (upd H p o) := fun b x e => by
  rw [upd_ne (ne_of_none e h)]
  exact e
theorem But.seq {K : PySem.W.Frag} {b a : Addr} {H H' : Hp} {xs : List V} (e : But b H H') (n : a ≠ b) (h : SqL K H a xs) : SqL K H' a xs := by
  rcases h with (h | ⟨o, h⟩) | h
  · exact .inl (.inl (e _ _ n h))
  · exact .inl (.inr ⟨o, e _ _ n h⟩)
  · exact .inr h
/-! ### the law's box of three numbers -/
def Box (H : Hp) (b : Addr) (n : Int) : Prop := ∃ x y z : Int, H b = some (.lst [.int x, .int y, .int z]) ∧ 0 ≤ x ∧ 0 ≤ y ∧ y ≤ 3000000000 ∧ 0 ≤ z ∧ z ≤ n
theorem Box.mono {H : Hp} {b : Addr} {n m : Int} (h : Box H b n) (l : n ≤ m) : Box H b m := by
  obtain ⟨x, y, z, h0, h1, h2, h3, h4, h5⟩ := h
  exact ⟨x, y, z, h0, h1, h2, h3, h4, by omega⟩
theorem Box.same {H H' : Hp} {b : Addr} {n : Int} (e : Same H H') (h : Box H b n) : Box H' b n := by
  obtain ⟨x, y, z, h0, h1⟩ := h
  exact ⟨x, y, z, e _ _ h0, h1⟩
theorem Box.new {H : Hp} {b p : Addr} {o : HO} {n : Int} (h : Box H b n) (e : H p = none) : Box (upd H p o) b n := h.same (same_new e)
theorem Box.ne {H : Hp} {b p : Addr} {n : Int} (h : Box H b n) (e : H p = none) : p ≠ b := fun z => by
  obtain ⟨_, _, _, h0, _⟩ := h
  rw [z, h0] at e
  cases e
section
variable {K : PySem.W.Frag}
theorem at_int {ns : List Int} {k : Int} (h0 : 0 ≤ k) (h1 : k < ns.length) : ∃ c, atI (ns.map V.int) k = some (.int c) := by
  obtain ⟨j, rfl⟩ := Int.eq_ofNat_of_zero_le h0
  have hj : j < ns.length := by omega
  refine ⟨ns[j], atI_nat ?_⟩
  rw [List.getElem?_map, List.getElem?_eq_getElem hj]
  rfl
def partsL (p m : Int) : List Int := List.replicate (p % m).toNat (p / m + 1) ++ List.replicate (m - p % m).toNat (p / m)
theorem rep1 {α : Type} (k : Nat) (x : α) : (List.replicate k [x]).flatten = List.replicate k x := by
  induction k with
  | zero => rfl
  | succ n ih => rw [List.replicate_succ, List.flatten_cons, ih]; rfl
theorem size_small {n : Nat} (h : n ≤ 1000) : n ≤ sizeLine := Nat.le_of_lt (small1000 h)
theorem iteN {c A B : Prop} [Decidable c] (hc : ¬ c) (h : B) : if decide c = true then A else B := by
  rw [decide_eq_false hc]
  exact iteF h
theorem iteY {c A B : Prop} [Decidable c] (hc : c) (h : A) : if decide c = true then A else B := by
  rw [decide_eq_true hc]
  exact iteT h
theorem same_but {b : Addr} {H0 H1 H2 : Hp} (s : Same H0 H1) (n : H0 b = none) (t : But b H1 H2) : Same H0 H2 := fun c o h => t c o (fun e => by rw [e, n] at h; cases h) (s c o h)
theorem dpAll_ints {H : Hp} : ∀ ns : List Int, DpAll K H (ns.map V.int) (ns.map PyData.int)
  | [] => .nil
  | n :: r => .cons (.int n) (dpAll_ints r)
theorem dp_ints {H : Hp} {a : Addr} {ns : List Int} (h : SqL K H a (ns.map V.int)) : Dp K H (.ref a) (.list (ns.map PyData.int)) := .lst h (dpAll_ints ns)
theorem lay_ints : ∀ ns : List Int, PyData.canLayAll0 (ns.map PyData.int) = true
  | [] => by simp [PyData.canLayAll0]
  | n :: r => by simp [PyData.canLayAll0, PyData.canLay0, lay_ints r]
theorem depth_ints : ∀ ns : List Int, PyData.depthAll (ns.map PyData.int) ≤ 1
  | [] => by simp [PyData.depthAll]
  | n :: r => by
    have h := depth_ints r
    simp only [List.map_cons, PyData.depthAll, PyData.depth]
    omega
theorem sh_ints (ns : List Int) : SeqAt.shaped (.list (ns.map PyData.int)) = true := by
  have h1 := depth_ints ns
  have h2 : PyData.depth (.list (ns.map PyData.int)) ≤ 64 := by
    simp only [PyData.depth]
    omega
  show (PyData.canLay0 (.list (ns.map PyData.int)) && decide (PyData.depth (.list (ns.map PyData.int)) ≤ 64)) = true
  rw [Bool.and_eq_true]
  exact ⟨by simp only [PyData.canLay0]; exact lay_ints ns, decide_eq_true h2⟩
theorem eqv_same (ns : List Int) : PyData.eqv (.list (ns.map PyData.int)) (.list (ns.map PyData.int)) = true := SeqAt.eqv_refl _ (SeqAt.canLay_of_shaped (sh_ints ns))

theorem sum_rep (k : Nat) (x : Int) : (List.replicate k x).sum = k * x := by
  induction k with
  | zero => simp
  | succ n ih =>
    rw [List.replicate_succ, List.sum_cons, ih, Int.natCast_add, Int.add_mul]
    omega
theorem parts_len {p m : Int} (hm : 1 ≤ m) : ((partsL p m).length : Int) = m := by
  have hr0 := Int.emod_nonneg p (show m ≠ 0 by omega)
  have hr1 := Int.emod_lt_of_pos p (show 0 < m by omega)
  unfold partsL
  rw [List.length_append, List.length_replicate, List.length_replicate]
  omega
theorem parts_sum {p m : Int} (hm : 1 ≤ m) : (partsL p m).sum = p := by
  have hr0 := Int.emod_nonneg p (show m ≠ 0 by omega)
  have hr1 := Int.emod_lt_of_pos p (show 0 < m by omega)
  have e := Int.mul_ediv_add_emod p m
  unfold partsL
  rw [List.sum_append, sum_rep, sum_rep, Int.toNat_of_nonneg hr0, Int.toNat_of_nonneg (by omega), Int.sub_mul, Int.mul_add]
  omega
theorem parts_mem {p m x : Int} (h : x ∈ partsL p m) : x = p / m + 1 ∨ x = p / m := by
  unfold partsL at h
  rcases List.mem_append.mp h with h | h
  · exact .inl (List.eq_of_mem_replicate h)
  · exact .inr (List.eq_of_mem_replicate h)
theorem parts_fall (p m : Int) : (partsL p m).Pairwise (fun a b => b ≤ a) := by
  unfold partsL
  refine List.pairwise_append.mpr ⟨List.pairwise_replicate.mpr (.inr (Int.le_refl _)), List.pairwise_replicate.mpr (.inr (Int.le_refl _)), fun a ha b hb => ?_⟩
  rw [List.eq_of_mem_replicate ha, List.eq_of_mem_replicate hb]
  omega
theorem parts_sorted {p m : Int} {ns : List Int} (h : ns.Perm (partsL p m)) (hs : ns.Pairwise (· ≤ ·)) : ns.reverse = partsL p m := by
  refine List.Perm.eq_of_pairwise (le := fun a b => b ≤ a) (fun x y _ _ h1 h2 => Int.le_antisymm h2 h1) ?_ (parts_fall p m) ((List.reverse_perm ns).trans h)
  exact List.pairwise_reverse.mpr hs
theorem ends_of {ns : List Int} (h : 0 < ns.length) : ∃ x y, x ∈ ns ∧ y ∈ ns ∧ atI (ns.map V.int) 0 = some (.int x) ∧ atI (ns.map V.int) (-1) = some (.int y) := by
  cases ns with
  | nil => cases h
  | cons x r =>
    refine ⟨x, (x :: r).getLast (List.cons_ne_nil _ _), List.mem_cons_self, List.getLast_mem _, atI_nat (j := 0) rfl, ?_⟩
    have hz : ((x :: r).map V.int) = ((x :: r).dropLast.map V.int) ++ [.int ((x :: r).getLast (List.cons_ne_nil _ _))] := by
      rw [← List.map_singleton, ← List.map_append, List.dropLast_concat_getLast]
    rw [hz]
    exact atI_last _ _
theorem all_true (n : Nat) : (List.replicate n true).all id = true := by
  induction n with
  | zero => rfl
  | succ k ih => rw [List.replicate_succ, List.all_cons, ih]; rfl
theorem pick6 {r x : Int} (h0 : 0 ≤ r) (h1 : r < 6) (x0 : 0 ≤ x) (x1 : x ≤ 100) : ∃ c : Int, atI [V.int 0, .int 1, .int 50, .int 99, .int 100, .int x] r = some (.int c) ∧ 0 ≤ c ∧ c ≤ 100 := by
  have h : r = 0 ∨ r = 1 ∨ r = 2 ∨ r = 3 ∨ r = 4 ∨ r = 5 := by omega
  rcases h with rfl | rfl | rfl | rfl | rfl | rfl
  · exact ⟨0, rfl, by decide, by decide⟩
  · exact ⟨1, rfl, by decide, by decide⟩
  · exact ⟨50, rfl, by decide, by decide⟩
  · exact ⟨99, rfl, by decide, by decide⟩
  · exact ⟨100, rfl, by decide, by decide⟩
  · exact ⟨x, rfl, x0, x1⟩
end
end Pw
namespace Pw
open PySem PySem.Spec PyProof.Rows L2
/-! ### texts and data -/
theorem op_mul_str {X : Cx} : OpR X (binaryOp .Mult) (fun x y H Q => ∃ (z : Str) (k : Int), x = .str z ∧ y = .int k ∧ MulOk z k ∧ Q (.str (Txt.mul z k)) H) := by
  intro pins s σ H x y v u Q I rx ry h
  obtain ⟨z, k, rfl, rfl, ok, q⟩ := h
  obtain ⟨t, rfl⟩ := rx
  obtain ⟨t', rfl⟩ := ry
  exact SB.mul ok fun t' tk => ⟨.str _, H, I.tok _, ⟨_, rfl⟩, q⟩
theorem len_app (x y : Str) : (x ++ y).length = x.length + y.length := by
  rw [TL.len_tl, TL.tl_append, List.length_append, ← TL.len_tl, ← TL.len_tl]
def tyD : PyData → String
  | .none => "NoneType"
  | .bool _ => "bool"
  | .int _ => "int"
  | .str _ => "str"
  | .list _ => "list"
  | .tuple _ => "tuple"
  | .dict _ => "dict"
theorem ty_of_dp {K : PySem.W.Frag} {H : Hp} {x : V} {d : PyData} (h : Dp K H x d) : TyX K H x (.type (tyD d)) := by
  cases h with
  | non => exact .base .non
  | bl b => exact .base (.bl b)
  | int i => exact .base (.int i)
  | str z => exact .base (.str z)
  | lst a _ =>
    rcases a with (a | ⟨o, a⟩) | ⟨o, its, n, a, c, _⟩
    · exact .base (.lst a)
    · exact .base (.frz a)
    · exact .kList a c
  | tup a _ =>
    rcases a with (a | ⟨o, a⟩) | ⟨o, its, n, a, c, _⟩
    · exact .base (.tup a)
    · exact .fTuple a
    · exact .kTuple a c
theorem seqT_same {K : PySem.W.Frag} {H H' : Hp} {a : Addr} {xs : List V} (e : Same H H') (h : SqT K H a xs) : SqT K H' a xs := by
  rcases h with (h | ⟨o, h⟩) | h
  · exact .inl (.inl (e _ _ h))
  · exact .inl (.inr ⟨o, e _ _ h⟩)
  · exact .inr h
mutual
theorem dp_same {K : PySem.W.Frag} {H H' : Hp} (e : Same H H') : ∀ {x : V} {d : PyData}, Dp K H x d → Dp K H' x d
  | _, _, .non => .non
  | _, _, .bl b => .bl b
  | _, _, .int i => .int i
  | _, _, .str z => .str z
  | _, _, .lst a b => .lst (e.seq a) (dpAll_same e b)
  | _, _, .tup a b => .tup (seqT_same e a) (dpAll_same e b)
theorem dpAll_same {K : PySem.W.Frag} {H H' : Hp} (e : Same H H') : ∀ {xs : List V} {ds : List PyData}, DpAll K H xs ds → DpAll K H' xs ds
  | _, _, .nil => .nil
  | _, _, .cons a b => .cons (dp_same e a) (dpAll_same e b)
end
/-- the heap without the place b -/
def wo (b : Addr) (H : Hp) : Hp := fun c => if c = b then none else H c
theorem wo_sub (b : Addr) (H : Hp) : Same (wo b H) H := fun c o h => by
  unfold wo at h
  split at h
  · cases h
  · exact h
theorem wo_but {b : Addr} {H H' : Hp} (t : But b H H') : Same (wo b H) (wo b H') := fun c o h => by
  unfold wo at h ⊢
  split at h
  · cases h
  · rename_i n
    rw [if_neg n]
    exact t c o n h
theorem wo_same {b : Addr} {H H' : Hp} (t : Same H H') : Same (wo b H) (wo b H') := wo_but (But.of t)
theorem wo_at {b c : Addr} {H : Hp} {o : HO} (n : c ≠ b) (h : H c = some o) : wo b H c = some o := by
  unfold wo
  rw [if_neg n]
  exact h
def Asc (s : Str) : Prop := ∀ c ∈ TL.tl s, c < 128
theorem Asc.app {x y : Str} (hx : Asc x) (hy : Asc y) : Asc (x ++ y) := fun c hc => by
  rw [TL.tl_append] at hc
  rcases List.mem_append.mp hc with h | h
  · exact hx c h
  · exact hy c h
theorem Asc.cut {x : Str} {lo hi : Option Int} (hx : Asc x) : Asc (cutS x lo hi) := fun c hc => hx c (List.mem_of_mem_drop (List.mem_of_mem_take hc))
theorem Asc.one {c : Nat} (h : c < 128) : Asc ⟨#[c]⟩ := fun d hd => by
  rw [List.mem_singleton.mp (show d ∈ [c] from hd)]
  exact h
/-! ### {x:02d} -/
def two (i : Int) : Str := if decide (i < 10) = true then (⟨#[48]⟩ : Str) ++ Str.ofString (toString i) else Str.ofString (toString i)
def tFmt02 (te : TE) : TE := fun σ H Q => te σ H fun x H1 => ∃ i : Int, x = .int i ∧ 0 ≤ i ∧ i < 100 ∧ Q (.str (two i)) H1
theorem pe_fmt02 {X : Cx} {e : Expr} {te : TE} {k : Nat} {p1 p2 pos : Pos} (zD : PySem.W.nsIn X.K cStatics "sys.int_max_str_digits" = some none) (he : PE X e te) :
    PE X (.FormattedValue e (-1) (some (.JoinedStr [.Constant (.str (Str.ofString "02d")) k p1] p2)) pos) (tFmt02 te) := by
  constructor
  intro pins s σ H Q I h
  refine wpAny_FormattedValue_spec (thn (he.run pins s σ H _ I h) ?_)
  rintro v s1 ⟨x, H1, I1, r1, i, rfl, h0, h1, q⟩
  obtain ⟨t, rfl⟩ := r1
  refine thn ((pe_fs1 (pe_str (X := X))).run pins s1 σ H1 (fun y H2 => y = .str (Str.ofString "02d") ∧ H2 = H1) I1 ⟨rfl, rfl⟩) ?_
  rintro r s2 ⟨y, H2, I2, r2, rfl, rfl⟩
  obtain ⟨t2, rfl⟩ := r2
  refine ⟨_, t2, rfl, ?_⟩
  have nd : s2.heap.NoDigits := by
    obtain ⟨mc, n1, _⟩ := I2.nolimit
    exact ⟨mc, n1, PySem.W.ns_none_of I2.kIn n1 zD⟩
  refine PyProof.Rows.formatField_int_specOf nd (PyProof.Rows.lt_digitLimit_of_lt (by omega)) (by decide +kernel) (fun W hW f => ?_) (by decide)
  have hW2 : W = 2 := hW.trans (by decide +kernel)
  rw [f.pad2 (by decide +kernel) hW2 h0 h1]
  exact ⟨.str (two i), H2, I2.tok _, ⟨_, rfl⟩, q⟩
/-! ### text[::-1]: some text that is no longer -/
def tRevS (te : TE) : TE := fun σ H Q => te σ H fun x H1 => ∃ z : Str, x = .str z ∧ z.length ≤ sizeLine ∧ ∀ r : Str, r.length ≤ z.length → (∀ c ∈ TL.tl r, c ∈ TL.tl z) → Q (.str r) H1
theorem sliceBy_mem (z : Str) (l u : Option (Int × Tok)) (st : Int × Tok) : ∀ c ∈ TL.tl (Txt.sliceBy z l u st), c ∈ TL.tl z := fun c hc => by
  unfold Txt.sliceBy at hc
  split at hc
  · exact hc
  · obtain ⟨i, _, hi⟩ := List.mem_filterMap.mp (show c ∈ List.filterMap (z.cps[·]?) (slicePicked z l u (some st)) from hc)
    exact Array.mem_toList_iff.mpr (Array.mem_of_getElem? hi)
theorem pe_revS {X : Cx} {e : Expr} {te : TE} {k : Nat} {p1 p2 p3 pos : Pos} (he : PE X e te) : PE X (.Subscript e (.Slice none none (some (.UnaryOp .USub (.Constant (.int 1) k p1) p2)) p3) pos) (tRevS te) := by
  constructor
  intro pins s σ H Q I h
  refine Subscript_ (thn (he.run pins s σ H _ I h) ?_)
  rintro v s1 ⟨x, H1, I1, r1, z, rfl, hz, q⟩
  obtain ⟨t, rfl⟩ := r1
  have step : PO X (some (.UnaryOp .USub (.Constant (.int 1) k p1) p2)) (tPart (tUn (rU fun i => .int (-i)) (tC (.int 1)))) := po_some (pe_un un_neg pe_int)
  refine wpAny_Slice (thn (po_none.run pins s1 σ H1 (fun o G => o = none ∧ G = H1) I1 ⟨rfl, rfl⟩) ?_)
  rintro vl s2 ⟨l, H2, I2, pl, rfl, rfl⟩
  refine thn (po_none.run pins s2 σ H2 (fun o G => o = none ∧ G = H2) I2 ⟨rfl, rfl⟩) ?_
  rintro vu s3 ⟨u, H3, I3, pu, rfl, rfl⟩
  refine thn (step.run pins s3 σ H3 (fun o G => o = some (-1) ∧ G = H3) I3 ⟨1, rfl, -1, rfl, rfl, rfl⟩) ?_
  rintro vs s4 ⟨o, H4, I4, ps, rfl, rfl⟩
  obtain ⟨l0, rfl, el⟩ := IsPart.raw pl
  obtain ⟨u0, rfl, eu⟩ := IsPart.raw pu
  obtain ⟨st, rfl, es⟩ := IsPart.raw ps
  have I5 : Inv X pins σ H4 { s4 with heap := s4.heap.push { cls := .type "slice", data := .fields #[partValue l0, partValue u0, partValue st] } } := I4.kept (t' := s4.toks) (fun b ob z => Heap.get?_push_of_some _ z)
  cases st with
  | none => cases es
  | some st =>
    have e1 : st.1 = -1 := Option.some.inj es
    refine PyProof.Rows.tail_any (ops := [.ref s4.heap.objs.size, .str z t]) (typeIs_str _ _ _) F.slot_str_getitem.lookup (wpAny_getItem_str_slice (l := l0) (u := u0) (st := some st) ⟨_, Heap.get?_push_size _ rfl, rfl, rfl⟩ ?_ (post_val_or_str ⟨Nat.le_trans (Txt.sliceBy_le z l0 u0 st (by rw [e1]; decide)) hz, fun t' c => ?_⟩)) (by with_unfolding_all rfl)
    · rw [show ((some st).map (·.1)).getD 1 = st.1 from rfl, e1]
      decide
    · exact ⟨.str _, H4, I5.tok _, ⟨_, rfl⟩, q _ (Txt.sliceBy_le z l0 u0 st (by rw [e1]; decide)) (sliceBy_mem z l0 u0 st)⟩
def topS (i : Nat) : Stmt := PySem.Challenge.pw_partwares_k03_pence_texts_spoilt.main.body.getD i (.Pass ⟨0, 0, 0, 0⟩)
section
variable {P : Program} {w : World} {K : PySem.W.Frag} {mg : Str → Option Value} {base : Heap}
/-! ### _law_take -/
abbrev s__law_take : Stmt := topS 10
abbrev N__law_take : List Str := ["_law_box_here", "_law_many", "_law_found", "_law_once"]
theorem sc__law_take : FnScope N__law_take ["_law_box_here", "_law_many"] (defScope s__law_take) := ⟨rfl, rfl, rfl, by decide +kernel, rfl, by decide +kernel, by decide +kernel⟩
def sp__law_take (K : PySem.W.Frag) : Sp := fun vs H Q _ => ∃ (b : Addr) (m n : Int), vs = [.ref b, .int m] ∧ Box H b n ∧ 0 < m ∧ m < 1073741824 ∧ n < 1000000000 ∧ ∀ (r : Int) H', 0 ≤ r → r < m → Box H' b (n + 1) → But b H H' → Q (.int r) H'
theorem ok__law_take {f : Addr} {fd : FuncData} (F : Fun K "_law_take" "_law_take" s__law_take f fd) (g : mg "_law_take" = some (.ref f)) (bd : Binds K fd ["_law_box_here", "_law_many"] []) : CF P w K mg base 1 "_law_take" ["_law_box_here", "_law_many"] (sp__law_take K) := by
  refine ⟨f, fd, F.ok sc__law_take (fun vs H Q E h => ?_) (fun cdv A outer s H vs Q E hr h => ?_), g, F.kp, bd⟩
  · first | (obtain ⟨_, rfl, _⟩ := h; rfl) | (obtain ⟨_, _, rfl, _⟩ := h; rfl) | (obtain ⟨_, _, _, rfl, _⟩ := h; rfl) | (obtain ⟨_, _, _, _, rfl, _⟩ := h; rfl) | (obtain ⟨_, _, _, _, _, rfl, _⟩ := h; rfl) | (obtain ⟨_, _, _, _, _, _, rfl, _⟩ := h; rfl) | (obtain ⟨_, _, _, _, _, _, _, rfl, _⟩ := h; rfl)
  · have hu64 := hr.units
    obtain ⟨b, m, n, rfl, ⟨x, y, z, hb, hx, hy, hy2, hz, hz2⟩, hm, hm2, hn, q⟩ := h
    refine ⟨_, (pss_cons (ps_if (pt_cmpR op_gt (pe_ix (kk_ixl K) (pv 0) pe_int (fun _ _ => rfl)) pe_int (nomark _))
         (pss_cons (ps_set (i := 2) sc__law_take.nd rfl (.inl rfl) (pe_op op_mod (pe_ix (kk_ixl K) (pv 0) pe_int (fun _ _ => rfl)) (pv 1)))
          (pss_cons (ps_asg (pe_op op_fdiv (pe_ix (kk_ixl K) (pv 0) pe_int (fun _ _ => rfl)) (pv 1)) (pg_sub (pv 0) pe_int set_list))
          (pss_one (ps_ret (pv 2)))))
         pss_nil)
      (pss_cons (ps_asg (pe_op op_add (pe_ix (kk_ixl K) (pv 0) pe_int (fun _ _ => rfl)) pe_int) (pg_sub (pv 0) pe_int set_list))
      (pss_cons (ps_set (i := 3) sc__law_take.nd rfl (.inl rfl) (pe_op op_mod (pe_op op_pow (pe_op op_add (pe_ix (kk_ixl K) (pv 0) pe_int (fun _ _ => rfl)) (pe_op op_mul pe_int (pe_ix (kk_ixl K) (pv 0) pe_int (fun _ _ => rfl)))) pe_int) pe_int))
      (pss_one (ps_ret (pe_op op_mod (pe_op op_fdiv (pe_op op_mod (pe_op op_add (pe_op op_mul (pv 3) (pe_op op_add (pe_op op_mod (pv 3) pe_int) pe_int)) (pe_op op_mul (pe_ix (kk_ixl K) (pv 0) pe_int (fun _ _ => rfl)) pe_int)) pe_int) pe_int) (pv 1))))))), ?_⟩
    refine ⟨_, rfl, b, _, _, _, rfl, rfl, SqL.of hb, rfl, _, _, rfl, rfl, _, rfl, ite2 (fun e => ?_) (fun e => ?_)⟩
    · refine ⟨_, rfl, b, _, _, _, rfl, rfl, SqL.of hb, rfl, _, rfl, _, _, rfl, rfl, hm, ?_⟩
      refine ⟨_, rfl, b, _, _, _, rfl, rfl, SqL.of hb, rfl, _, rfl, _, _, rfl, rfl, ⟨hm, hm2⟩, _, rfl, b, _, _, _, rfl, rfl, hb, rfl, ?_⟩
      refine ⟨_, rfl, q _ _ (Int.emod_nonneg _ (by omega)) (Int.emod_lt_of_pos _ hm) ⟨x / m, y, z, upd_same, Int.ediv_nonneg hx (by omega), hy, hy2, hz, by omega⟩ But.upd⟩
    · refine ⟨_, rfl, b, _, _, _, rfl, rfl, SqL.of hb, rfl, _, _, rfl, rfl, _, rfl, b, _, _, _, rfl, rfl, hb, rfl, ?_⟩
      have h1 : (upd H b (.lst [.int x, .int y, .int (z + 1)])) b = some (.lst [.int x, .int y, .int (z + 1)]) := upd_same
      refine ⟨_, rfl, b, _, _, _, rfl, rfl, SqL.of h1, rfl, _, rfl, b, _, _, _, rfl, rfl, SqL.of h1, rfl, _, _, rfl, rfl, .inl ⟨by decide, by decide⟩, _, _, rfl, rfl, _, _, rfl, rfl, ⟨by decide, by decide, ?_⟩, _, _, rfl, rfl, (by show (0 : Int) < 2147483647; decide), ?_⟩
      · show (y + 39373 * (z + 1)).natAbs < 2 ^ 64
        omega
      · have o0 : 0 ≤ (y + 39373 * (z + 1)) ^ (5 : Int).toNat % 2147483647 := Int.emod_nonneg _ (by decide)
        have o1 : (y + 39373 * (z + 1)) ^ (5 : Int).toNat % 2147483647 < 2147483647 := Int.emod_lt_of_pos _ (by decide)
        refine ⟨_, rfl, _, rfl, _, _, rfl, rfl, (by show (0 : Int) < 40009; decide), _, _, rfl, rfl, _, _, rfl, rfl, .inl ⟨?_, ?_⟩, _, rfl, b, _, _, _, rfl, rfl, SqL.of h1, rfl, _, _, rfl, rfl, .inl ⟨?_, ?_⟩, _, _, rfl, rfl, _, _, rfl, rfl, (by show (0 : Int) < 2147483629; decide), _, _, rfl, rfl, ⟨by decide, by decide⟩, _, rfl, _, _, rfl, rfl, hm, ?_⟩
        · omega
        · omega
        · omega
        · omega
        · exact q _ _ (Int.emod_nonneg _ (by omega)) (Int.emod_lt_of_pos _ hm) ⟨x, y, z + 1, h1, hx, hy, hy2, by omega, by omega⟩ But.upd
/-! ### _law_box -/
abbrev s__law_box : Stmt := topS 9
abbrev N__law_box : List Str := ["_law_script", "_law_k", "_law_cell"]
theorem sc__law_box : FnScope N__law_box ["_law_script", "_law_k"] (defScope s__law_box) := ⟨rfl, rfl, rfl, by decide +kernel, rfl, by decide +kernel, by decide +kernel⟩
def sp__law_box (K : PySem.W.Frag) : Sp := fun vs H Q _ => ∃ (a : Addr) (k : Int) (ns : List Int), vs = [.ref a, .int k] ∧ SqL K H a (ns.map V.int) ∧ 0 ≤ k ∧ k ≤ 63 ∧ ∀ H' b, H b = none → Same H H' → Box H' b 0 → Q (.ref b) H'
theorem ok__law_box {f : Addr} {fd : FuncData} (F : Fun K "_law_box" "_law_box" s__law_box f fd) (g : mg "_law_box" = some (.ref f)) (bd : Binds K fd ["_law_script", "_law_k"] []) (m_len : mg "len" = none) (m_abs : mg "abs" = none) (m_int : mg "int" = none) : CF P w K mg base 1 "_law_box" ["_law_script", "_law_k"] (sp__law_box K) := by
  refine ⟨f, fd, F.ok sc__law_box (fun vs H Q E h => ?_) (fun cdv A outer s H vs Q E hr h => ?_), g, F.kp, bd⟩
  · first | (obtain ⟨_, rfl, _⟩ := h; rfl) | (obtain ⟨_, _, rfl, _⟩ := h; rfl) | (obtain ⟨_, _, _, rfl, _⟩ := h; rfl) | (obtain ⟨_, _, _, _, rfl, _⟩ := h; rfl) | (obtain ⟨_, _, _, _, _, rfl, _⟩ := h; rfl) | (obtain ⟨_, _, _, _, _, _, rfl, _⟩ := h; rfl) | (obtain ⟨_, _, _, _, _, _, _, rfl, _⟩ := h; rfl)
  · have hu64 := hr.units
    obtain ⟨a, k, ns, rfl, hS, hk0, hk, q⟩ := h
    refine ⟨_, (pss_cons (ps_set (i := 2) sc__law_box.nd rfl (.inl rfl) pe_int)
      (pss_cons (ps_if (pt_cmpR op_lt (pv 1) (pe_callB (kk_len K) (by rfl) m_len PySem.boot_len (pa_cons (pv 0) pa_nil)) (nomark _))
         (pss_one (ps_set (i := 2) sc__law_box.nd rfl (.inl rfl) (pe_ix (kk_ixl K) (pv 0) (pv 1) (fun _ _ => rfl))))
         pss_nil)
      (pss_one (ps_ret (pe_lst (pa_cons (pe_op op_mul (pe_callB call_abs (by rfl) m_abs (by decide +kernel) (pa_cons (pv 2) pa_nil)) (pe_callTy call_int1 (by rfl) m_int (by decide +kernel) (pa_cons (pe_cmpR op_ge (pe_callB call_abs (by rfl) m_abs (by decide +kernel) (pa_cons (pv 2) pa_nil)) (pe_op op_pow pe_int pe_int) (nomark _)) pa_nil))) (pa_cons (pe_op op_add (pe_op op_add (pe_op op_mod (pv 2) pe_int) (pe_op op_mul pe_int (pv 1))) pe_int) (pa_cons pe_int pa_nil)))))))), ?_⟩
    refine ⟨_, rfl, _, rfl, a, _, rfl, .inl hS, _, _, rfl, rfl, _, rfl, ite2 (fun e => ?_) (fun e => ?_)⟩
    · have e1 := of_decide_eq_true e
      rw [List.length_map] at e1
      obtain ⟨c, hc⟩ := at_int hk0 e1
      refine ⟨_, rfl, _, rfl, a, _, _, _, rfl, rfl, hS, hc, ?_⟩
      refine ⟨_, rfl, _, rfl, _, rfl, _, rfl, _, _, rfl, rfl, ⟨by decide, by decide, by decide⟩, _, _, rfl, rfl, .inr ⟨_, rfl, _, _, rfl, rfl, .inr ⟨?_, ?_⟩, _, rfl, _, _, rfl, rfl, (by show (0 : Int) < 2147483629; decide), _, rfl, _, _, rfl, rfl, .inl ⟨by decide, by decide⟩, _, _, rfl, rfl, _, _, rfl, rfl, (by show 3 ≤ sizeLine; decide), fun p hp => ?_⟩⟩
      · split <;> omega
      · split <;> omega
      · refine q _ p hp (same_new hp) ⟨_, _, _, upd_same, ?_, ?_, ?_, by omega, by omega⟩
        · refine Int.mul_nonneg ?_ ?_ <;> split <;> omega
        · have := Int.emod_nonneg c (show (2147483629 : Int) ≠ 0 by decide)
          omega
        · have := Int.emod_lt_of_pos c (show (0 : Int) < 2147483629 by decide)
          omega
    · refine ⟨_, rfl, _, rfl, _, rfl, _, rfl, _, _, rfl, rfl, ⟨by decide, by decide, by decide⟩, _, _, rfl, rfl, .inr ⟨_, rfl, _, _, rfl, rfl, .inr ⟨?_, ?_⟩, _, rfl, _, _, rfl, rfl, (by show (0 : Int) < 2147483629; decide), _, rfl, _, _, rfl, rfl, .inl ⟨by decide, by decide⟩, _, _, rfl, rfl, _, _, rfl, rfl, (by show 3 ≤ sizeLine; decide), fun p hp => ?_⟩⟩
      · split <;> omega
      · split <;> omega
      · refine q _ p hp (same_new hp) ⟨_, _, _, upd_same, ?_, ?_, ?_, by omega, by omega⟩
        · refine Int.mul_nonneg ?_ ?_ <;> split <;> omega
        · omega
        · omega
/-! ### pence as texts -/
def madeOf (t sg : Str) : Bool := !decide (V.str t = V.str (Str.ofString "")) && (TL.tl t).all fun c => decide (c ∈ TL.tl sg)
def ptL (n : Nat) : List Nat := TL.numL (n / 60) ++ [47, 48 + n % 60 / 10, 48 + n % 60 % 10]
def ptS (n : Nat) : Str := ⟨(ptL n).toArray⟩
theorem log_small {i : Int} (h : i.natAbs < 2 ^ 64) : i.natAbs.log2 < 1920 := by
  by_cases h0 : i.natAbs = 0
  · rw [h0]
    decide
  · exact Nat.lt_of_lt_of_le ((Nat.log2_lt h0).mpr h) (by decide)
theorem tl_two {i : Int} (h0 : 0 ≤ i) (h1 : i < 100) : TL.tl (two i) = [48 + i.toNat / 10, 48 + i.toNat % 10] := by
  obtain ⟨n, rfl⟩ := Int.eq_ofNat_of_zero_le h0
  unfold two
  rw [Int.toNat_natCast]
  by_cases h : n < 10
  · rw [if_pos (decide_eq_true (by omega)), TL.tl_append, TL.tl_num, TL.numL_lt h]
    show [48, 48 + n] = _
    rw [show n / 10 = 0 by omega, show n % 10 = n by omega]
  · rw [if_neg (by rw [decide_eq_true_eq]; omega), TL.tl_num, TL.numL_step (by omega), TL.numL_lt (by omega)]
    rfl
theorem pcpt_made (n : Nat) : (Str.empty ++ Str.ofString (toString ((n : Int) / 60)) ++ Str.ofString "/" ++ two ((n : Int) % 60)) = ptS n := by
  have e1 : ((n : Int) / 60) = ((n / 60 : Nat) : Int) := by omega
  have e2 : ((n : Int) % 60) = ((n % 60 : Nat) : Int) := by omega
  refine TL.ext_tl ?_
  rw [TL.tl_append, TL.tl_append, TL.tl_append, tl_two (by omega) (by omega), e1, e2, TL.tl_num, Int.toNat_natCast]
  show [] ++ TL.numL (n / 60) ++ [47] ++ [48 + n % 60 / 10, 48 + n % 60 % 10] = ptL n
  unfold ptL
  simp
theorem pcpt_len {n : Nat} (h : n ≤ 1000000000) : (ptS n).length ≤ 30 := by
  rw [TL.len_tl]
  show (ptL n).length ≤ 30
  unfold ptL
  have h1 := TL.numL_len (n := n / 60) (k := 10) (by decide) (by omega)
  rw [List.length_append]
  show _ + 3 ≤ 30
  omega
theorem fst_cut : ∀ {a a' b b' : List Nat}, 47 ∉ a → 47 ∉ a' → a ++ 47 :: b = a' ++ 47 :: b' → a = a' ∧ b = b'
  | [], [], b, b', _, _, h => ⟨rfl, (List.cons.inj h).2⟩
  | [], c :: a', b, b', _, h2, h => by
    have e := (List.cons.inj h).1
    exact absurd (e ▸ List.mem_cons_self) h2
  | c :: a, [], b, b', h1, _, h => by
    have e := (List.cons.inj h).1
    exact absurd (e ▸ List.mem_cons_self) h1
  | c :: a, d :: a', b, b', h1, h2, h => by
    obtain ⟨e, r⟩ := List.cons.inj h
    obtain ⟨e2, e3⟩ := fst_cut (fun z => h1 (List.mem_cons_of_mem _ z)) (fun z => h2 (List.mem_cons_of_mem _ z)) r
    exact ⟨by rw [e, e2], e3⟩
theorem pcpt_cut {n : Nat} {a b : List Nat} (h : 47 ∉ a) (e : a ++ 47 :: b = ptL n) : a = TL.numL (n / 60) ∧ b = [48 + n % 60 / 10, 48 + n % 60 % 10] := by
  unfold ptL at e
  exact fst_cut h (TL.numL_free (by omega)) e
theorem pcpt_val {n : Nat} {a b : List Nat} (h : 47 ∉ a) (e : a ++ 47 :: b = ptL n) : NumText.digitsVal a * 60 + NumText.digitsVal b = n := by
  obtain ⟨e1, e2⟩ := pcpt_cut h e
  rw [e1, e2, TL.numL_val]
  show n / 60 * 60 + ((0 * 10 + (48 + n % 60 / 10 - 48)) * 10 + (48 + n % 60 % 10 - 48)) = n
  omega
theorem pcpt_inj {m n : Nat} (h : ptS m = ptS n) : m = n := by
  have e : ptL m = ptL n := congrArg TL.tl h
  have e2 := pcpt_val (n := n) (a := TL.numL (m / 60)) (b := [48 + m % 60 / 10, 48 + m % 60 % 10]) (TL.numL_free (by omega)) e
  have e3 := pcpt_val (n := m) (a := TL.numL (m / 60)) (b := [48 + m % 60 / 10, 48 + m % 60 % 10]) (TL.numL_free (by omega)) rfl
  omega
abbrev figs : Str := Str.ofString "0123456789"
theorem figs_mem (c : Nat) : c ∈ TL.tl figs ↔ 48 ≤ c ∧ c ≤ 57 := by
  have e : TL.tl figs = [48, 49, 50, 51, 52, 53, 54, 55, 56, 57] := by decide +kernel
  rw [e]
  simp only [List.mem_cons, List.not_mem_nil, or_false]
  omega
theorem emp_iff (t : Str) : V.str t = V.str (Str.ofString "") ↔ TL.tl t = [] :=
  ⟨fun h => by cases h; rfl, fun h => congrArg V.str (TL.ext_tl (y := Str.ofString "") (h.trans rfl))⟩
theorem made_figs {t : Str} : madeOf t figs = true ↔ TL.tl t ≠ [] ∧ NumText.AllDigits (TL.tl t) := by
  unfold madeOf
  rw [Bool.and_eq_true, Bool.not_eq_true', decide_eq_false_iff_not, emp_iff, List.all_eq_true]
  constructor
  · rintro ⟨h1, h2⟩
    exact ⟨h1, fun c hc => (figs_mem c).mp (of_decide_eq_true (h2 c hc))⟩
  · rintro ⟨h1, h2⟩
    exact ⟨h1, fun c hc => decide_eq_true ((figs_mem c).mpr (h2 c hc))⟩
theorem int_digits {t : Str} (h0 : TL.tl t ≠ []) (hd : NumText.AllDigits (TL.tl t)) (hz : t.length ≤ 640) : PySem.intText? t = some ((NumText.digitsVal (TL.tl t) : Nat) : Int) := PySem.intText_digits hd h0 (by omega)
/-! ### is_made_of -/
abbrev s_is_made_of : Stmt := topS 5
abbrev N_is_made_of : List Str := ["text", "signs", "sign"]
theorem sc_is_made_of : FnScope N_is_made_of ["text", "signs"] (defScope s_is_made_of) := ⟨rfl, rfl, rfl, by decide +kernel, rfl, by decide +kernel, by decide +kernel⟩
def sp_is_made_of (K : PySem.W.Frag) : Sp := fun vs H Q _ => ∃ (t sg : Str), vs = [.str t, .str sg] ∧ t.length ≤ 100000 ∧ ∀ H', Same H H' → Q (.bl (madeOf t sg)) H'
theorem ok_is_made_of {f : Addr} {fd : FuncData} (F : Fun K "is_made_of" "is_made_of" s_is_made_of f fd) (g : mg "is_made_of" = some (.ref f)) (bd : Binds K fd ["text", "signs"] []) (m_all : mg "all" = none) : CF P w K mg base 1 "is_made_of" ["text", "signs"] (sp_is_made_of K) := by
  refine ⟨f, fd, F.ok sc_is_made_of (fun vs H Q E h => ?_) (fun cdv A outer s H vs Q E hr h => ?_), g, F.kp, bd⟩
  · first | (obtain ⟨_, rfl, _⟩ := h; rfl) | (obtain ⟨_, _, rfl, _⟩ := h; rfl) | (obtain ⟨_, _, _, rfl, _⟩ := h; rfl) | (obtain ⟨_, _, _, _, rfl, _⟩ := h; rfl) | (obtain ⟨_, _, _, _, _, rfl, _⟩ := h; rfl) | (obtain ⟨_, _, _, _, _, _, rfl, _⟩ := h; rfl) | (obtain ⟨_, _, _, _, _, _, _, rfl, _⟩ := h; rfl)
  · have hu64 := hr.units
    obtain ⟨t, sg, rfl, hz, q⟩ := h
    refine ⟨_, (pss_one (ps_ret (pe_and (pe_cmpR op_ne (pv 0) pe_str (nomark _)) (pe_one (pe_callB (kk_all K rfl) (by rfl) m_all (by decide +kernel) (pa_cons (pe_lc (own := [("sign", 2)]) (g := (gName 2)) (tt := tYes) rfl sc_is_made_of.nd (pi_str (pv 0)) (blkOk_by (own := [("sign", 2)]) (N := N_is_made_of) (sc := defScope s_is_made_of) (by decide +kernel)) (fun _ _ _ _ _ => pg_name (i := 2) sc_is_made_of.nd rfl (Or.inl rfl)) (fun _ _ _ _ _ => pts_nil) (fun _ _ _ _ _ => (pe_cmpR op_in_sign (pv 2) (pv 1) (by rfl)))) pa_nil)))))), ?_⟩
    refine ⟨_, rfl, rfl, _, rfl, ?_⟩
    by_cases ht : V.str t = V.str (Str.ofString "")
    · have e : madeOf t sg = false := by
        unfold madeOf
        rw [decide_eq_true ht]
        rfl
      rw [e] at q
      rw [decide_eq_true ht]
      exact iteF (q H (Same.refl H))
    · rw [decide_eq_false ht]
      refine iteT ⟨_, rfl, t, rfl, fun D hD => lc_it walk_str (fun i H' => Same H H' ∧ H' D = some (.lst ((((TL.tl t).take i).map fun c => decide (c ∈ TL.tl sg)).map V.bl))) ⟨same_new hD, upd_same⟩ (fun _ _ _ _ => trivial) (fun i x H1 H2 hi h hy => ?_) (fun H' h => ?_)⟩
      · obtain ⟨rfl, c, hc, rfl⟩ := hy
        have hc2 : (TL.tl t)[i]? = some c := by simpa using hc
        refine ⟨rfl, _, rfl, _, rfl, c, sg, rfl, rfl, _, h.2, ?_, ?_, ?_⟩
        · rw [List.length_map, List.length_map, List.length_take]
          have : (TL.tl t).length = t.length := (TL.len_tl t).symm
          exact Nat.lt_of_le_of_lt (Nat.min_le_right _ _) (Nat.lt_of_le_of_lt (by rw [this]; exact hz) (by decide))
        · exact fun b o e => by
            rw [upd_ne (ne_of_none e hD)]
            exact h.1 _ _ e
        · rw [upd_same, List.take_add_one, hc2, Option.toList_some, List.map_append, List.map_append]
          rfl
      · obtain ⟨s1, h1⟩ := h
        have hn : (TL.tl t).take t.cps.size = TL.tl t := List.take_of_length_le (by simp [TL.tl])
        rw [hn] at h1
        refine ⟨D, _, rfl, SqL.of h1, ?_⟩
        have e : madeOf t sg = ((TL.tl t).map fun c => decide (c ∈ TL.tl sg)).all id := by
          unfold madeOf
          rw [decide_eq_false ht, List.all_map]
          rfl
        rw [← e]
        exact q _ s1
/-! ### pence_text -/
abbrev s_pence_text : Stmt := topS 6
abbrev N_pence_text : List Str := ["pence", "crowns", "left"]
theorem sc_pence_text : FnScope N_pence_text ["pence"] (defScope s_pence_text) := ⟨rfl, rfl, rfl, by decide +kernel, rfl, by decide +kernel, by decide +kernel⟩
def sp_pence_text (K : PySem.W.Frag) : Sp := fun vs H Q _ => ∃ n : Nat, vs = [.int (n : Int)] ∧ n ≤ 1000000000 ∧ ∀ H', Same H H' → Q (.str (ptS n)) H'
theorem ok_pence_text {f : Addr} {fd : FuncData} (F : Fun K "pence_text" "pence_text" s_pence_text f fd) (g : mg "pence_text" = some (.ref f)) (bd : Binds K fd ["pence"] []) (zD : PySem.W.nsIn K cStatics "sys.int_max_str_digits" = some none) (m_divmod : mg "divmod" = none) {t_CROWN : Tok} (g_CROWN : mg "CROWN" = some (.int 60 t_CROWN)) : CF P w K mg base 1 "pence_text" ["pence"] (sp_pence_text K) := by
  refine ⟨f, fd, F.ok sc_pence_text (fun vs H Q E h => ?_) (fun cdv A outer s H vs Q E hr h => ?_), g, F.kp, bd⟩
  · first | (obtain ⟨_, rfl, _⟩ := h; rfl) | (obtain ⟨_, _, rfl, _⟩ := h; rfl) | (obtain ⟨_, _, _, rfl, _⟩ := h; rfl) | (obtain ⟨_, _, _, _, rfl, _⟩ := h; rfl) | (obtain ⟨_, _, _, _, _, rfl, _⟩ := h; rfl) | (obtain ⟨_, _, _, _, _, _, rfl, _⟩ := h; rfl) | (obtain ⟨_, _, _, _, _, _, _, rfl, _⟩ := h; rfl)
  · have hu64 := hr.units
    obtain ⟨n, rfl, hn, q⟩ := h
    refine ⟨_, (pss_cons (ps_asg (pe_callB call_divmod (by rfl) m_divmod (by decide +kernel) (pa_cons (pv 0) (pa_cons (pe_glob (v := .int 60) (by rfl) g_CROWN ⟨_, rfl⟩) pa_nil))) (pg_tup (by rfl) (pgs_cons (pg_name (i := 1) sc_pence_text.nd rfl (.inl rfl)) (pgs_cons (pg_name (i := 2) sc_pence_text.nd rfl (.inl rfl)) pgs_nil))))
      (pss_one (ps_ret (pe_joined (PJ.cons (pe_fmt (pv 1)) (PJ.cons pe_str (PJ.cons (pe_fmt02 zD (pv 2)) PJ.nil))))))), ?_⟩
    refine ⟨_, rfl, _, _, rfl, ⟨by decide, by decide⟩, fun t ht => ?_⟩
    refine ⟨t, _, rfl, .inl (.inl upd_same), rfl, _, _, rfl, _, _, rfl, rfl, ?_⟩
    have hz : ∀ x y : Str, x.length ≤ 100 → y.length ≤ 100 → (x ++ y).length ≤ sizeLine := fun x y h1 h2 => by
      rw [len_app]
      exact size_small (by omega)
    have l1 : (Str.ofString (toString ((n : Int) / 60))).length ≤ 20 := by
      have e1 : ((n : Int) / 60) = ((n / 60 : Nat) : Int) := by omega
      rw [e1, TL.len_tl, TL.tl_num]
      have := TL.numL_len (n := n / 60) (k := 10) (by decide) (by omega)
      omega
    have l2 : (two ((n : Int) % 60)).length = 2 := by
      rw [TL.len_tl, tl_two (by omega) (by omega)]
      rfl
    refine ⟨_, rfl, .inr ⟨_, rfl, log_small (by omega), _, rfl, hz _ _ (by decide) (by omega), _, rfl, hz _ _ (by rw [len_app]; show 0 + _ ≤ 100; omega) (by decide), _, rfl, _, rfl, by omega, by omega, _, rfl, hz _ _ (by rw [len_app, len_app]; show 0 + _ + 1 ≤ 100; omega) (by omega), ?_⟩⟩
    rw [pcpt_made]
    exact q _ (same_new ht)
/-! ### pence_in -/
abbrev s_pence_in : Stmt := topS 7
abbrev N_pence_in : List Str := ["text", "crowns", "stroke", "left", "pence"]
theorem sc_pence_in : FnScope N_pence_in ["text"] (defScope s_pence_in) := ⟨rfl, rfl, rfl, by decide +kernel, rfl, by decide +kernel, by decide +kernel⟩
def sp_pence_in (K : PySem.W.Frag) : Sp := fun vs H Q _ => ∃ t : Str, vs = [.str t] ∧ t.length ≤ 60 ∧ (∀ (n : Nat) H', n ≤ 1000000000 → t = ptS n → Same H H' → Q (.int (n : Int)) H') ∧ (∀ H', (∀ n : Nat, n ≤ 1000000000 → t ≠ ptS n) → Same H H' → Q .non H')
theorem first_47 : ∀ l : List Nat, 47 ∈ l → ∃ a b, l = a ++ 47 :: b ∧ 47 ∉ a
  | [], h => by cases h
  | c :: r, h => by
    by_cases e : c = 47
    · exact ⟨[], r, by rw [e]; rfl, fun z => (nomatch z)⟩
    · obtain ⟨a, b, e1, e2⟩ := first_47 r (by
        rcases List.mem_cons.mp h with z | z
        · exact absurd z.symm e
        · exact z)
      refine ⟨c :: a, b, by rw [e1]; rfl, fun z => ?_⟩
      rcases List.mem_cons.mp z with z | z
      · exact e z.symm
      · exact e2 z
theorem par_47 (l : List Nat) : (47 ∉ l ∧ TL.par [47] [] l = none) ∨ ∃ a b, 47 ∉ a ∧ l = a ++ 47 :: b ∧ TL.par [47] [] l = some (a, b) := by
  by_cases h : 47 ∈ l
  · obtain ⟨a, b, e, ha⟩ := first_47 l h
    exact .inr ⟨a, b, ha, e, by rw [e]; exact TL.par_part1 (S := []) ha⟩
  · exact .inl ⟨h, TL.par_none1 h⟩
theorem ok_pence_in {f : Addr} {fd : FuncData} (F : Fun K "pence_in" "pence_in" s_pence_in f fd) (g : mg "pence_in" = some (.ref f)) (bd : Binds K fd ["text"] []) (m_len : mg "len" = none) (m_int : mg "int" = none) {t_LONGEST_SUM : Tok} (g_LONGEST_SUM : mg "LONGEST_SUM" = some (.int 60 t_LONGEST_SUM)) {t_FIGURES : Tok} (g_FIGURES : mg "FIGURES" = some (.str (Str.ofString "0123456789") t_FIGURES)) {t_CROWN : Tok} (g_CROWN : mg "CROWN" = some (.int 60 t_CROWN)) {t_MOST_PENCE : Tok} (g_MOST_PENCE : mg "MOST_PENCE" = some (.int 1000000000 t_MOST_PENCE)) (C_is_made_of : CF P w K mg base 1 "is_made_of" ["text", "signs"] (sp_is_made_of K)) (C_pence_text : CF P w K mg base 1 "pence_text" ["pence"] (sp_pence_text K)) : CF P w K mg base 2 "pence_in" ["text"] (sp_pence_in K) := by
  refine ⟨f, fd, F.ok sc_pence_in (fun vs H Q E h => ?_) (fun cdv A outer s H vs Q E hr h => ?_), g, F.kp, bd⟩
  · first | (obtain ⟨_, rfl, _⟩ := h; rfl) | (obtain ⟨_, _, rfl, _⟩ := h; rfl) | (obtain ⟨_, _, _, rfl, _⟩ := h; rfl) | (obtain ⟨_, _, _, _, rfl, _⟩ := h; rfl) | (obtain ⟨_, _, _, _, _, rfl, _⟩ := h; rfl) | (obtain ⟨_, _, _, _, _, _, rfl, _⟩ := h; rfl) | (obtain ⟨_, _, _, _, _, _, _, rfl, _⟩ := h; rfl)
  · have hu64 := hr.units
    obtain ⟨t, rfl, hz, q1, q2⟩ := h
    refine ⟨_, (pss_cons (ps_if (pt_cmpR op_gt (pe_callB call_len_str (by rfl) m_len PySem.boot_len (pa_cons (pv 0) pa_nil)) (pe_glob (v := .int 60) (by rfl) g_LONGEST_SUM ⟨_, rfl⟩) (nomark _))
         (pss_one (ps_ret pe_non))
         pss_nil)
      (pss_cons (ps_asg (pe_partition (pv 0) pe_str) (pg_tup (by rfl) (pgs_cons (pg_name (i := 1) sc_pence_in.nd rfl (.inl rfl)) (pgs_cons (pg_name (i := 2) sc_pence_in.nd rfl (.inl rfl)) (pgs_cons (pg_name (i := 3) sc_pence_in.nd rfl (.inl rfl)) pgs_nil)))))
      (pss_cons (ps_if (PW.pt (pw_or (pt_not (pt_val (pe_cf C_is_made_of (hr.mono (by decide)) (by rfl) (pa_cons (pv 1) (pa_cons (pe_glob (v := .str (Str.ofString "0123456789")) (by rfl) g_FIGURES ⟨_, rfl⟩) pa_nil))))) (pw_or1 (pt_not (pt_val (pe_cf C_is_made_of (hr.mono (by decide)) (by rfl) (pa_cons (pv 3) (pa_cons (pe_glob (v := .str (Str.ofString "0123456789")) (by rfl) g_FIGURES ⟨_, rfl⟩) pa_nil))))))))
         (pss_one (ps_ret pe_non))
         pss_nil)
      (pss_cons (ps_set (i := 4) sc_pence_in.nd rfl (.inl rfl) (pe_op op_add (pe_op op_mul (pe_callTy call_int_str (by rfl) m_int (by decide +kernel) (pa_cons (pv 1) pa_nil)) (pe_glob (v := .int 60) (by rfl) g_CROWN ⟨_, rfl⟩)) (pe_callTy call_int_str (by rfl) m_int (by decide +kernel) (pa_cons (pv 3) pa_nil))))
      (pss_cons (ps_if (PW.pt (pw_or (pt_cmpR op_gt (pv 4) (pe_glob (v := .int 1000000000) (by rfl) g_MOST_PENCE ⟨_, rfl⟩) (nomark _)) (pw_or1 (pt_cmpR op_ne (pe_cf C_pence_text (hr.mono (by decide)) (by rfl) (pa_cons (pv 4) pa_nil)) (pv 0) (nomark _)))))
         (pss_one (ps_ret pe_non))
         pss_nil)
      (pss_one (ps_ret (pv 4)))))))), ?_⟩
    have fit : ∀ {m : Nat}, m ≤ 1000 → m ≤ sizeLine := size_small
    have htl : (TL.tl t).length ≤ 60 := by
      rw [← TL.len_tl]
      exact hz
    refine ⟨_, rfl, t, rfl, fit (by omega), _, _, rfl, rfl, _, rfl, iteN (by omega) ?_⟩
    refine ⟨_, rfl, ⟨_, rfl⟩, t, _, rfl, rfl, by decide, fit (by omega), fun p hp => ?_⟩
    refine ⟨p, _, rfl, .inl (.inl upd_same), rfl, _, _, rfl, _, _, rfl, _, _, rfl, rfl, ?_⟩
    have hpar := TL.partition_par t (Str.ofString "/") (by decide)
    have s0 := same_new (o := .tup [.str (Txt.partition t (Str.ofString "/")).1, .str (Txt.partition t (Str.ofString "/")).2.1, .str (Txt.partition t (Str.ofString "/")).2.2]) hp
    rcases par_47 (TL.tl t) with ⟨hno, hnone⟩ | ⟨a, b, ha, hl, hsome⟩
    · have hp1 : Txt.partition t (Str.ofString "/") = (t, Str.empty, Str.empty) := by
        rw [hpar, show TL.tl (Str.ofString "/") = [47] from by decide +kernel, hnone]
      have none_ : ∀ n : Nat, n ≤ 1000000000 → t ≠ ptS n := fun n _ e => hno (by
        rw [e]
        show 47 ∈ ptL n
        unfold ptL
        simp)
      have e1 : (Txt.partition t (Str.ofString "/")).1 = t := by rw [hp1]
      have e2 : (Txt.partition t (Str.ofString "/")).2.2 = Str.empty := by rw [hp1]
      refine ⟨_, rfl, _, _, rfl, by rw [e1]; omega, fun H1 s1 => ?_⟩
      refine ⟨_, rfl, ?_⟩
      rw [e1]
      cases hm : madeOf t figs with
      | false => exact iteT (iteT (q2 _ none_ (s0.trans s1)))
      | true =>
        refine iteF ⟨_, rfl, _, _, rfl, by rw [e2]; decide, fun H2 s2 => ?_⟩
        refine ⟨_, rfl, ?_⟩
        rw [e2, show madeOf Str.empty figs = false from by decide +kernel]
        exact iteT (q2 _ none_ ((s0.trans s1).trans s2))
    · have hp1 : Txt.partition t (Str.ofString "/") = (⟨a.toArray⟩, Str.ofString "/", ⟨b.toArray⟩) := by
        rw [hpar, show TL.tl (Str.ofString "/") = [47] from by decide +kernel, hsome]
      have e1 : (Txt.partition t (Str.ofString "/")).1 = ⟨a.toArray⟩ := by rw [hp1]
      have e2 : (Txt.partition t (Str.ofString "/")).2.2 = ⟨b.toArray⟩ := by rw [hp1]
      have la : (⟨a.toArray⟩ : Str).length = a.length := TL.len_tl _
      have lb : (⟨b.toArray⟩ : Str).length = b.length := TL.len_tl _
      have hab : a.length + b.length + 1 ≤ 60 := by
        rw [hl, List.length_append, List.length_cons] at htl
        omega
      have back : ∀ n : Nat, t = ptS n → a ++ 47 :: b = ptL n := fun n e => by
        rw [← hl, e]
        rfl
      have digA : ∀ n : Nat, t = ptS n → madeOf ⟨a.toArray⟩ figs = true := fun n e => by
        rw [made_figs]
        obtain ⟨z1, z2⟩ := pcpt_cut ha (back n e)
        show a ≠ [] ∧ NumText.AllDigits a
        rw [z1]
        exact ⟨TL.numL_ne _, TL.numL_digits _⟩
      have digB : ∀ n : Nat, t = ptS n → madeOf ⟨b.toArray⟩ figs = true := fun n e => by
        rw [made_figs]
        obtain ⟨z1, z2⟩ := pcpt_cut ha (back n e)
        show b ≠ [] ∧ NumText.AllDigits b
        rw [z2]
        refine ⟨by simp, fun c hc => ?_⟩
        simp only [List.mem_cons, List.not_mem_nil, or_false] at hc
        omega
      refine ⟨_, rfl, _, _, rfl, by rw [e1, la]; omega, fun H1 s1 => ?_⟩
      refine ⟨_, rfl, ?_⟩
      rw [e1]
      cases hmA : madeOf ⟨a.toArray⟩ figs with
      | false =>
        exact iteT (iteT (q2 _ (fun n _ e => by rw [digA n e] at hmA; cases hmA) (s0.trans s1)))
      | true =>
        refine iteF ⟨_, rfl, _, _, rfl, by rw [e2, lb]; omega, fun H2 s2 => ?_⟩
        refine ⟨_, rfl, ?_⟩
        rw [e2]
        cases hmB : madeOf ⟨b.toArray⟩ figs with
        | false =>
          exact iteT (q2 _ (fun n _ e => by rw [digB n e] at hmB; cases hmB) ((s0.trans s1).trans s2))
        | true =>
          obtain ⟨a0, aD⟩ := made_figs.mp hmA
          obtain ⟨b0, bD⟩ := made_figs.mp hmB
          refine iteF ⟨_, rfl, _, _, rfl, int_digits a0 aD (by rw [la]; omega), by rw [la]; omega, _, _, rfl, rfl, .inr ⟨by decide, by decide⟩, _, rfl, _, _, rfl, int_digits b0 bD (by rw [lb]; omega), by rw [lb]; omega, _, _, rfl, rfl, ?_⟩
          have val : ∀ n : Nat, t = ptS n → NumText.digitsVal a * 60 + NumText.digitsVal b = n := fun n e => pcpt_val ha (back n e)
          have sAll := (s0.trans s1).trans s2
          have hA : NumText.digitsVal (TL.tl ⟨a.toArray⟩) = NumText.digitsVal a := rfl
          have hB : NumText.digitsVal (TL.tl ⟨b.toArray⟩) = NumText.digitsVal b := rfl
          rw [hA, hB]
          generalize NumText.digitsVal a = va at *
          generalize NumText.digitsVal b = vb at *
          refine ⟨_, rfl, _, _, rfl, rfl, _, rfl, ite2 (fun e => ?_) (fun e => ?_)⟩
          · have e' := of_decide_eq_true e
            refine iteT (q2 _ (fun n hn z => ?_) sAll)
            have := val n z
            omega
          · have e' : ¬ ((1000000000 : Int) < (va : Int) * 60 + (vb : Int)) := fun z => e (decide_eq_true z)
            refine ⟨_, rfl, va * 60 + vb, by rw [Int.natCast_add, Int.natCast_mul]; rfl, by omega, fun H3 s3 => ?_⟩
            refine ⟨_, rfl, rfl, _, rfl, ?_⟩
            by_cases ht : V.str (ptS (va * 60 + vb)) = V.str t
            · rw [decide_eq_true ht]
              refine iteF ⟨_, rfl, ?_⟩
              have := q1 (va * 60 + vb) H3 (by omega) (V.str.inj ht).symm (sAll.trans s3)
              rw [Int.natCast_add, Int.natCast_mul] at this
              exact this
            · rw [decide_eq_false ht]
              refine iteT (q2 _ (fun n hn z => ?_) (sAll.trans s3))
              have := val n z
              subst this
              exact ht (congrArg V.str z.symm)
/-! ### numbers by their signs -/
def numOk (a : List Nat) (m : Int) : Prop := 0 < (a.length : Int) ∧ (a.length : Int) ≤ m ∧ ∀ c ∈ a, 48 ≤ c ∧ c ≤ 57
instance (a : List Nat) (m : Int) : Decidable (numOk a m) := by
  unfold numOk
  exact inferInstance
def numV (a : List Nat) (m : Int) : V := if numOk a m then .int (NumText.digitsVal a : Nat) else .non
def badSign (c : Nat) : Bool := !(decide (48 ≤ c) && decide (c ≤ 57))
theorem lt_sign (c d : Nat) : decide ((⟨#[c]⟩ : Str).cps.toList < (⟨#[d]⟩ : Str).cps.toList) = decide (c < d) := by
  refine decide_eq_decide.mpr ?_
  show ([c] < [d]) ↔ c < d
  constructor
  · intro h
    cases h with
    | rel h => exact h
    | cons h => cases h
  · intro h
    exact List.Lex.rel h
theorem occ_fig {c : Nat} (h : 48 ≤ c ∧ c ≤ 57) : Builtin.Str.occurrences (Str.ofString "0123456789") ⟨#[c]⟩ 0 (Str.ofString "0123456789").length 1 = (c - 48) :: [] := by
  have e : c = 48 ∨ c = 49 ∨ c = 50 ∨ c = 51 ∨ c = 52 ∨ c = 53 ∨ c = 54 ∨ c = 55 ∨ c = 56 ∨ c = 57 := by omega
  rcases e with rfl | rfl | rfl | rfl | rfl | rfl | rfl | rfl | rfl | rfl <;> decide +kernel
theorem dv_snoc (l : List Nat) (c : Nat) : NumText.digitsVal (l ++ [c]) = NumText.digitsVal l * 10 + (c - 48) := by
  unfold NumText.digitsVal
  rw [List.foldl_append]
  rfl
theorem dpAll_signs {K : PySem.W.Frag} {H : Hp} : ∀ cs : List Nat, DpAll K H (cs.map fun c => V.str ⟨#[c]⟩) (cs.map fun c => PyData.str ⟨#[c]⟩)
  | [] => .nil
  | c :: r => .cons (.str _) (dpAll_signs r)
theorem lay_signs : ∀ cs : List Nat, (∀ c ∈ cs, c < 128) → PyData.canLayAll0 (cs.map fun c => PyData.str ⟨#[c]⟩) = true
  | [], _ => by simp [PyData.canLayAll0]
  | c :: r, h => by
    have h1 : PyData.strOk ⟨#[c]⟩ = true := by
      have := h c List.mem_cons_self
      simp [PyData.strOk]
      omega
    simp [PyData.canLayAll0, PyData.canLay0, h1, lay_signs r fun d hd => h d (List.mem_cons_of_mem _ hd)]
theorem depth_signs : ∀ cs : List Nat, PyData.depthAll (cs.map fun c => PyData.str ⟨#[c]⟩) ≤ 1
  | [] => by simp [PyData.depthAll]
  | c :: r => by
    have h := depth_signs r
    simp only [List.map_cons, PyData.depthAll, PyData.depth]
    omega
/-! ### _law_number -/
abbrev s__law_number : Stmt := topS 11
abbrev N__law_number : List Str := ["_law_word", "_law_most", "_law_sign", "_law_number_here"]
theorem sc__law_number : FnScope N__law_number ["_law_word", "_law_most"] (defScope s__law_number) := ⟨rfl, rfl, rfl, by decide +kernel, rfl, by decide +kernel, by decide +kernel⟩
def sp__law_number (K : PySem.W.Frag) : Sp := fun vs H Q _ => ∃ (w : Str) (m : Int), vs = [.str w, .int m] ∧ w.length ≤ 100 ∧ Asc w ∧ ∀ H', Same H H' → Q (numV (TL.tl w) m) H'
theorem ok__law_number {f : Addr} {fd : FuncData} (F : Fun K "_law_number" "_law_number" s__law_number f fd) (g : mg "_law_number" = some (.ref f)) (bd : Binds K fd ["_law_word", "_law_most"] []) (m_len : mg "len" = none) : CF P w K mg base 1 "_law_number" ["_law_word", "_law_most"] (sp__law_number K) := by
  refine ⟨f, fd, F.ok sc__law_number (fun vs H Q E h => ?_) (fun cdv A outer s H vs Q E hr h => ?_), g, F.kp, bd⟩
  · first | (obtain ⟨_, rfl, _⟩ := h; rfl) | (obtain ⟨_, _, rfl, _⟩ := h; rfl) | (obtain ⟨_, _, _, rfl, _⟩ := h; rfl) | (obtain ⟨_, _, _, _, rfl, _⟩ := h; rfl) | (obtain ⟨_, _, _, _, _, rfl, _⟩ := h; rfl) | (obtain ⟨_, _, _, _, _, _, rfl, _⟩ := h; rfl) | (obtain ⟨_, _, _, _, _, _, _, rfl, _⟩ := h; rfl)
  · have hu64 := hr.units
    obtain ⟨w', m, rfl, hz, asc, q⟩ := h
    refine ⟨_, (pss_cons (ps_if (PW.pt (pw_or (pt_not (pt_chain op_lt op_le pe_int (pe_callB call_len_str (by rfl) m_len PySem.boot_len (pa_cons (pv 0) pa_nil)) (pv 1))) (pw_or1 (pt_cmpR (kk_neD K hu64) (pe_lc (own := [("_law_sign", 2)]) (g := (gName 2)) rfl sc__law_number.nd (pi_str (pv 0)) (blkOk_by (own := [("_law_sign", 2)]) (N := N__law_number) (sc := defScope s__law_number) (by decide +kernel)) (fun _ _ _ _ _ => pg_name (i := 2) sc__law_number.nd rfl (Or.inl rfl)) (fun _ _ _ _ _ => (pts_one (pt_not (pt_chain op_le_str op_le_str pe_str (pv 2) pe_str)))) (fun _ _ _ _ _ => (pv 2))) (pe_lst pa_nil) (nomark _)))))
         (pss_one (ps_ret pe_non))
         pss_nil)
      (pss_cons (ps_set (i := 3) sc__law_number.nd rfl (.inl rfl) pe_int)
      (pss_cons (ps_for PassesOwn.never rfl (pi_str (pv 0)) (pg_name (i := 2) sc__law_number.nd rfl (.inl rfl))
         (pss_one (ps_set (i := 3) sc__law_number.nd rfl (.inl rfl) (pe_op op_add (pe_op op_mul pe_int (pv 3)) (pe_m1 PySem.F.slot_str_index PySem.F.type_str_index mt_sindex pe_str (pv 2))))))
      (pss_one (ps_ret (pv 3)))))), ?_⟩
    have hl : w'.length = (TL.tl w').length := TL.len_tl w'
    have hsz : w'.length ≤ sizeLine := size_small (by omega)
    refine ⟨_, rfl, w', rfl, hsz, _, _, rfl, rfl, _, rfl, ?_⟩
    rw [hl]
    by_cases h0 : (0 : Int) < ((TL.tl w').length : Int)
    case neg =>
      rw [decide_eq_false h0]
      have e : numV (TL.tl w') m = .non := if_neg fun z => h0 z.1
      rw [e] at q
      exact iteF ⟨_, rfl, iteT (iteT (q H (Same.refl H)))⟩
    rw [decide_eq_true h0]
    refine iteT ⟨_, rfl, _, _, rfl, rfl, _, rfl, ?_⟩
    by_cases h1 : ((TL.tl w').length : Int) ≤ m
    case neg =>
      rw [decide_eq_false h1]
      have e : numV (TL.tl w') m = .non := if_neg fun z => h1 z.2.1
      rw [e] at q
      exact iteT (iteT (q H (Same.refl H)))
    rw [decide_eq_true h1]
    refine iteF ⟨_, rfl, w', rfl, fun D hD => lc_it walk_str (fun i H' => Same H H' ∧ H' D = some (.lst ((((TL.tl w').take i).filter badSign).map fun c => V.str ⟨#[c]⟩))) ⟨same_new hD, upd_same⟩ (fun _ _ _ _ => trivial) (fun i x H1 H2 hi h hy => ?_) (fun H' h => ?_)⟩
    · obtain ⟨rfl, c, hc, rfl⟩ := hy
      have hc2 : (TL.tl w')[i]? = some c := by simpa using hc
      have hi2 : i < (TL.tl w').length := (List.getElem?_eq_some_iff.mp hc2).1
      refine ⟨rfl, _, rfl, _, _, rfl, rfl, _, rfl, ?_⟩
      have e48 : (!decide ((⟨#[c]⟩ : Str).cps.toList < (Str.ofString "0").cps.toList)) = decide (48 ≤ c) := by
        rw [show (Str.ofString "0") = (⟨#[48]⟩ : Str) from by decide +kernel, lt_sign, ← decide_not]
        exact decide_eq_decide.mpr (by omega)
      have e57 : (!decide ((Str.ofString "9").cps.toList < (⟨#[c]⟩ : Str).cps.toList)) = decide (c ≤ 57) := by
        rw [show (Str.ofString "9") = (⟨#[57]⟩ : Str) from by decide +kernel, lt_sign, ← decide_not]
        exact decide_eq_decide.mpr (by omega)
      have keep : badSign c = true → ∃ acc, H2 D = some (.lst acc) ∧ acc.length < sizeLine ∧ Same H (upd H2 D (.lst (acc ++ [.str ⟨#[c]⟩]))) ∧ (upd H2 D (.lst (acc ++ [.str ⟨#[c]⟩]))) D = some (.lst ((((TL.tl w').take (i + 1)).filter badSign).map fun c => V.str ⟨#[c]⟩)) := fun hb => by
        refine ⟨_, h.2, ?_, ?_, ?_⟩
        · rw [List.length_map]
          exact small1000 (Nat.le_trans (List.length_filter_le _ _) (by rw [List.length_take]; omega))
        · exact fun b o e => by
            rw [upd_ne (ne_of_none e hD)]
            exact h.1 _ _ e
        · rw [upd_same, List.take_add_one, hc2, Option.toList_some, List.filter_append, List.map_append, List.filter_cons_of_pos hb]
          rfl
      have drop : badSign c = false → Same H H2 ∧ H2 D = some (.lst ((((TL.tl w').take (i + 1)).filter badSign).map fun c => V.str ⟨#[c]⟩)) := fun hb => by
        refine ⟨h.1, ?_⟩
        rw [List.take_add_one, hc2, Option.toList_some, List.filter_append, List.filter_cons_of_neg (by rw [hb]; decide)]
        simpa using h.2
      rw [e48]
      by_cases k1 : 48 ≤ c
      · rw [decide_eq_true k1]
        refine iteT ⟨_, _, rfl, rfl, _, rfl, ?_⟩
        rw [e57]
        by_cases k2 : c ≤ 57
        · rw [decide_eq_true k2]
          exact iteF (drop (by unfold badSign; rw [decide_eq_true k1, decide_eq_true k2]; rfl))
        · rw [decide_eq_false k2]
          exact iteT ⟨_, rfl, keep (by unfold badSign; rw [decide_eq_false k2, Bool.and_false]; rfl)⟩
      · rw [decide_eq_false k1]
        exact iteF ⟨_, rfl, iteT ⟨_, rfl, keep (by unfold badSign; rw [decide_eq_false k1]; rfl)⟩⟩
    · obtain ⟨s1, h2⟩ := h
      have hn : (TL.tl w').take w'.cps.size = TL.tl w' := List.take_of_length_le (by simp [TL.tl])
      rw [hn] at h2
      refine ⟨Nat.zero_le _, fun p hp => ?_⟩
      have s2 := s1.trans (same_new (o := .lst []) hp)
      have hDp := (same_new (o := .lst []) hp) _ _ h2
      have sh : SeqAt.shaped (.list (((TL.tl w').filter badSign).map fun c => PyData.str ⟨#[c]⟩)) = true := by
        have d1 := depth_signs ((TL.tl w').filter badSign)
        have d2 : PyData.depth (.list (((TL.tl w').filter badSign).map fun c => PyData.str ⟨#[c]⟩)) ≤ 64 := by
          simp only [PyData.depth]
          omega
        show (PyData.canLay0 (.list (((TL.tl w').filter badSign).map fun c => PyData.str ⟨#[c]⟩)) && decide (PyData.depth (.list (((TL.tl w').filter badSign).map fun c => PyData.str ⟨#[c]⟩)) ≤ 64)) = true
        rw [Bool.and_eq_true]
        exact ⟨by simp only [PyData.canLay0]; exact lay_signs _ (fun c hc => asc c (List.mem_filter.mp hc).1), decide_eq_true d2⟩
      refine ⟨_, _, .lst (SqL.of hDp) (dpAll_signs _), .lst (SqL.of upd_same) .nil, sh, by decide +kernel, _, rfl, ?_⟩
      cases hbad : (TL.tl w').filter badSign with
      | cons c r =>
        have e : numV (TL.tl w') m = .non := if_neg fun z => by
          have hm : c ∈ (TL.tl w').filter badSign := by rw [hbad]; exact List.mem_cons_self
          obtain ⟨m1, m2⟩ := List.mem_filter.mp hm
          have := z.2.2 c m1
          unfold badSign at m2
          rw [decide_eq_true this.1, decide_eq_true this.2] at m2
          cases m2
        rw [e] at q
        show if (!PyData.eqv (.list (PyData.str ⟨#[c]⟩ :: r.map fun c => PyData.str ⟨#[c]⟩)) (.list [])) = true then _ else _
        simp only [PyData.eqv, PyData.eqvAll]
        exact iteT (q _ s2)
      | nil =>
        show if (!PyData.eqv (.list []) (.list [])) = true then _ else _
        simp only [PyData.eqv, PyData.eqvAll]
        have dig : ∀ c ∈ TL.tl w', 48 ≤ c ∧ c ≤ 57 := fun c hc => by
          have : badSign c = false := by
            cases hb : badSign c with
            | false => rfl
            | true =>
              have : c ∈ (TL.tl w').filter badSign := List.mem_filter.mpr ⟨hc, hb⟩
              rw [hbad] at this
              cases this
          unfold badSign at this
          rw [Bool.not_eq_false', Bool.and_eq_true] at this
          exact ⟨of_decide_eq_true this.1, of_decide_eq_true this.2⟩
        have e : numV (TL.tl w') m = .int (NumText.digitsVal (TL.tl w') : Nat) := if_pos ⟨h0, h1, dig⟩
        rw [e] at q
        refine iteF ⟨_, rfl, w', rfl, for_it walk_str (fun i σ H' => ∃ s2', σ = [some (.str w'), some (.int m), s2', some (.int ((NumText.digitsVal ((TL.tl w').take i) : Nat) : Int))] ∧ Same H H') ⟨_, rfl, s2⟩ (fun _ _ _ _ _ => trivial) (fun i x σ H1 H2 hi h hy => ?_) (fun σ H' h => ?_)⟩
        · obtain ⟨rfl, c, hc, rfl⟩ := hy
          obtain ⟨s2', rfl, sm⟩ := h
          have hc2 : (TL.tl w')[i]? = some c := by simpa using hc
          have hd := dig c (List.mem_of_getElem? hc2)
          refine ⟨_, rfl, _, _, rfl, rfl, .inl ⟨by decide, by decide⟩, ⟨_, rfl⟩, _, rfl, _, _, c - 48, [], rfl, rfl, occ_fig hd, _, _, rfl, rfl, some (.str ⟨#[c]⟩), ?_, sm⟩
          rw [List.take_add_one, hc2, Option.toList_some, dv_snoc]
          have ev : (10 : Int) * ((NumText.digitsVal ((TL.tl w').take i) : Nat) : Int) + ((c - 48 : Nat) : Int) = ((NumText.digitsVal ((TL.tl w').take i) * 10 + (c - 48) : Nat) : Int) := by
            rw [Int.natCast_add, Int.natCast_mul, Int.mul_comm]
            rfl
          rw [← ev]
          rfl
        · obtain ⟨s2', rfl, sm⟩ := h
          rw [hn]
          exact ⟨_, rfl, q _ sm⟩
/-! ### words parted by strokes -/
theorem join_grow (S y : List Nat) : ∀ (ws : List (List Nat)) (x : List Nat), TL.joinL S (ws ++ [x]) ++ y = TL.joinL S (ws ++ [x ++ y])
  | [], x => rfl
  | [w], x => by
    show w ++ (S ++ x) ++ y = w ++ (S ++ (x ++ y))
    simp
  | w :: v :: r, x => by
    show w ++ (S ++ TL.joinL S ((v :: r) ++ [x])) ++ y = w ++ (S ++ TL.joinL S ((v :: r) ++ [x ++ y]))
    rw [← join_grow S y (v :: r) x]
    simp
theorem join_new (S : List Nat) : ∀ (ws : List (List Nat)) (x : List Nat), TL.joinL S (ws ++ [x]) ++ S = TL.joinL S ((ws ++ [x]) ++ [[]])
  | [], x => by
    show x ++ S = x ++ (S ++ [])
    simp
  | [w], x => by
    show w ++ (S ++ x) ++ S = w ++ (S ++ (x ++ (S ++ [])))
    simp
  | w :: v :: r, x => by
    show w ++ (S ++ TL.joinL S ((v :: r) ++ [x])) ++ S = w ++ (S ++ TL.joinL S (((v :: r) ++ [x]) ++ [[]]))
    rw [← join_new S (v :: r) x]
    simp
def wordsV (ws : List (List Nat)) : List V := ws.map fun w => V.str ⟨w.toArray⟩
structure Parted (l : List Nat) (ws : List (List Nat)) : Prop where
  some_ : ws ≠ []
  join : TL.joinL [47] ws = l
  free : ∀ w ∈ ws, 47 ∉ w
  fits : ∀ w ∈ ws, w.length ≤ l.length
  sub : ∀ w ∈ ws, ∀ c ∈ w, c ∈ l
theorem Parted.spl {l : List Nat} {ws : List (List Nat)} (h : Parted l ws) : ws = TL.spl [47] 0 [] l := by
  rw [← h.join]
  exact (TL.spl_join (S := []) h.some_ h.free).symm
theorem Parted.stroke {l : List Nat} {ws : List (List Nat)} (h : Parted l ws) : Parted (l ++ [47]) (ws ++ [[]]) := by
  obtain ⟨ys, y, rfl⟩ : ∃ ys y, ws = ys ++ [y] := ⟨ws.dropLast, ws.getLast h.some_, (List.dropLast_concat_getLast h.some_).symm⟩
  refine ⟨by simp, ?_, fun w hw => ?_, fun w hw => ?_, fun w hw c hc => ?_⟩
  · rw [← join_new, h.join]
  · rcases List.mem_append.mp hw with z | z
    · exact h.free w z
    · rw [List.mem_singleton.mp z]
      exact fun q => (nomatch q)
  · rcases List.mem_append.mp hw with z | z
    · have := h.fits w z
      rw [List.length_append]
      omega
    · rw [List.mem_singleton.mp z]
      exact Nat.zero_le _
  · rcases List.mem_append.mp hw with z | z
    · exact List.mem_append_left _ (h.sub w z c hc)
    · rw [List.mem_singleton.mp z] at hc
      cases hc
theorem Parted.sign {l : List Nat} {ys : List (List Nat)} {y : List Nat} {c : Nat} (h : Parted l (ys ++ [y])) (hc : c ≠ 47) : Parted (l ++ [c]) (ys ++ [y ++ [c]]) := by
  refine ⟨by simp, ?_, fun w hw => ?_, fun w hw => ?_, fun w hw d hd => ?_⟩
  · rw [← join_grow, h.join]
  · rcases List.mem_append.mp hw with z | z
    · exact h.free w (List.mem_append_left _ z)
    · rw [List.mem_singleton.mp z]
      intro q
      rcases List.mem_append.mp q with q | q
      · exact h.free y (List.mem_append_right _ List.mem_cons_self) q
      · exact hc (List.mem_singleton.mp q).symm
  · rcases List.mem_append.mp hw with z | z
    · have := h.fits w (List.mem_append_left _ z)
      rw [List.length_append]
      omega
    · rw [List.mem_singleton.mp z]
      have := h.fits y (List.mem_append_right _ List.mem_cons_self)
      rw [List.length_append, List.length_append]
      show _ + 1 ≤ _ + 1
      omega
  · rcases List.mem_append.mp hw with z | z
    · exact List.mem_append_left _ (h.sub w (List.mem_append_left _ z) d hd)
    · rw [List.mem_singleton.mp z] at hd
      rcases List.mem_append.mp hd with q | q
      · exact List.mem_append_left _ (h.sub y (List.mem_append_right _ List.mem_cons_self) d q)
      · exact List.mem_append_right _ q
theorem pt_words {n : Nat} {ws : List (List Nat)} (h : Parted (ptL n) ws) : ws = [TL.numL (n / 60), [48 + n % 60 / 10, 48 + n % 60 % 10]] := by
  rw [h.spl]
  unfold ptL
  have e : TL.numL (n / 60) ++ [47, 48 + n % 60 / 10, 48 + n % 60 % 10] = TL.numL (n / 60) ++ (47 :: [] ++ [48 + n % 60 / 10, 48 + n % 60 % 10]) := rfl
  rw [e, TL.spl_part1 (TL.numL_free (by omega)), TL.spl_last1 (by simp only [List.mem_cons, List.not_mem_nil, or_false]; omega)]
  rfl
/-- figures without a nought ahead are the number's own -/
theorem dv_pos : ∀ (r : List Nat) (acc : Nat), 0 < acc → 0 < r.foldl (fun acc c => acc * 10 + (c - 48)) acc
  | [], acc, h => h
  | c :: r, acc, h => dv_pos r _ (by show 0 < acc * 10 + (c - 48); omega)
theorem canon : ∀ (k : Nat) (a : List Nat), a.length = k → a ≠ [] → NumText.AllDigits a → (a.length = 1 ∨ a.head? ≠ some 48) → TL.numL (NumText.digitsVal a) = a
  | 0, a, hk, h0, _, _ => absurd (List.length_eq_zero_iff.mp hk) h0
  | k + 1, a, hk, h0, hd, hh => by
    obtain ⟨b, d, rfl⟩ : ∃ b d, a = b ++ [d] := ⟨a.dropLast, a.getLast h0, (List.dropLast_concat_getLast h0).symm⟩
    have dd := hd d (List.mem_append_right _ List.mem_cons_self)
    rw [dv_snoc]
    cases b with
    | nil =>
      show TL.numL (0 * 10 + (d - 48)) = [d]
      rw [TL.numL_lt (by omega)]
      congr 1
      omega
    | cons c r =>
      have hc : c ≠ 48 := fun z => by
        rcases hh with h | h
        · simp at h
        · exact h (by rw [z]; rfl)
      have cd := hd c List.mem_cons_self
      have ih := canon k (c :: r) (by simp at hk ⊢; omega) (by simp) (fun x hx => hd x (List.mem_append_left _ hx)) (.inr fun z => hc (Option.some.inj z))
      have pos : 0 < NumText.digitsVal (c :: r) := by
        unfold NumText.digitsVal
        rw [List.foldl_cons]
        exact dv_pos r _ (by omega)
      rw [TL.numL_step (by omega), show (NumText.digitsVal (c :: r) * 10 + (d - 48)) / 10 = NumText.digitsVal (c :: r) by omega, ih, show (NumText.digitsVal (c :: r) * 10 + (d - 48)) % 10 = d - 48 by omega, show 48 + (d - 48) = d by omega]
theorem two_val {b : List Nat} (hl : b.length = 2) (hd : ∀ c ∈ b, 48 ≤ c ∧ c ≤ 57) : b = [48 + NumText.digitsVal b / 10, 48 + NumText.digitsVal b % 10] ∧ NumText.digitsVal b < 100 := by
  match b, hl with
  | [x, y], _ =>
    have hx := hd x List.mem_cons_self
    have hy := hd y (List.mem_cons_of_mem _ List.mem_cons_self)
    have e : NumText.digitsVal [x, y] = (x - 48) * 10 + (y - 48) := by
      show ((0 * 10 + (x - 48)) * 10 + (y - 48)) = _
      omega
    rw [e]
    refine ⟨?_, by omega⟩
    congr 1
    · omega
    · congr 1
      omega
theorem two_mem_digits {n : Nat} : ∀ c ∈ [48 + n % 60 / 10, 48 + n % 60 % 10], 48 ≤ c ∧ c ≤ 57 := fun c hc => by
  simp only [List.mem_cons, List.not_mem_nil, or_false] at hc
  omega
theorem numL_head_pos : ∀ m : Nat, 1 ≤ m → (TL.numL m).head? ≠ some 48 := fun m => by
  induction m using Nat.strongRecOn with
  | _ m ih =>
    intro h1
    by_cases h : m < 10
    · rw [TL.numL_lt h]
      intro z
      have := Option.some.inj z
      omega
    · have ih2 := ih (m / 10) (by omega) (by omega)
      rw [TL.numL_step (by omega)]
      cases hq : TL.numL (m / 10) with
      | nil => exact absurd hq (TL.numL_ne _)
      | cons c r =>
        rw [hq] at ih2
        exact ih2
theorem numL_head (m : Nat) : (TL.numL m).length = 1 ∨ (TL.numL m).head? ≠ some 48 := by
  by_cases h : m < 10
  · left
    rw [TL.numL_lt h]
    rfl
  · exact .inr (numL_head_pos m (by omega))
theorem ixN_last {n : Nat} (h : 0 < n) : ixN n (-1) = some (n - 1) := by
  unfold ixN
  rw [if_neg (by decide), if_pos (by omega)]
  congr 1
  omega
theorem set_last {α : Type} (ys : List α) (x y : α) : (ys ++ [x]).set ys.length y = ys ++ [y] := by
  rw [List.set_append_right _ _ (Nat.le_refl _), Nat.sub_self]
  rfl
/-! ### _law_due -/
abbrev s__law_due : Stmt := topS 12
abbrev N__law_due : List Str := ["_law_text", "_law_words", "_law_sign", "_law_crowns", "_law_left"]
theorem sc__law_due : FnScope N__law_due ["_law_text"] (defScope s__law_due) := ⟨rfl, rfl, rfl, by decide +kernel, rfl, by decide +kernel, by decide +kernel⟩
def sp__law_due (K : PySem.W.Frag) : Sp := fun vs H Q _ => ∃ t : Str, vs = [.str t] ∧ t.length ≤ 60 ∧ Asc t ∧ (∀ (n : Nat) H', n ≤ 1000000000 → t = ptS n → Same H H' → Q (.int (n : Int)) H') ∧ (∀ H', (∀ n : Nat, n ≤ 1000000000 → t ≠ ptS n) → Same H H' → Q .non H')
theorem ok__law_due {f : Addr} {fd : FuncData} (F : Fun K "_law_due" "_law_due" s__law_due f fd) (g : mg "_law_due" = some (.ref f)) (bd : Binds K fd ["_law_text"] []) (m_len : mg "len" = none) (C__law_number : CF P w K mg base 1 "_law_number" ["_law_word", "_law_most"] (sp__law_number K)) : CF P w K mg base 2 "_law_due" ["_law_text"] (sp__law_due K) := by
  refine ⟨f, fd, F.ok sc__law_due (fun vs H Q E h => ?_) (fun cdv A outer s H vs Q E hr h => ?_), g, F.kp, bd⟩
  · first | (obtain ⟨_, rfl, _⟩ := h; rfl) | (obtain ⟨_, _, rfl, _⟩ := h; rfl) | (obtain ⟨_, _, _, rfl, _⟩ := h; rfl) | (obtain ⟨_, _, _, _, rfl, _⟩ := h; rfl) | (obtain ⟨_, _, _, _, _, rfl, _⟩ := h; rfl) | (obtain ⟨_, _, _, _, _, _, rfl, _⟩ := h; rfl) | (obtain ⟨_, _, _, _, _, _, _, rfl, _⟩ := h; rfl)
  · have hu64 := hr.units
    obtain ⟨t, rfl, hz, asc, q1, q2⟩ := h
    refine ⟨_, (pss_cons (ps_set (i := 1) sc__law_due.nd rfl (.inl rfl) (pe_lst (pa_cons pe_str pa_nil)))
      (pss_cons (ps_for PassesOwn.never rfl (pi_str (pv 0)) (pg_name (i := 2) sc__law_due.nd rfl (.inl rfl))
         (pss_one (ps_if (pt_cmpR op_eq (pv 2) pe_str (nomark _))
             (pss_one (ps_expr (pe_bm PySem.F.plainAttrs_list PySem.F.slot_list_append PySem.F.type_list_append mt_append (pv 1) (pa_cons pe_str pa_nil))))
             (pss_one (ps_asg (pe_op op_add_str (pe_ix (kk_ixl K) (pv 1) (pe_un un_neg pe_int) (fun _ _ => rfl)) (pv 2)) (pg_sub (pv 1) (pe_un un_neg pe_int) set_list))))))
      (pss_cons (ps_if (PW.pt (pw_or (pt_cmpR op_ne (pe_callB (kk_len K) (by rfl) m_len PySem.boot_len (pa_cons (pv 1) pa_nil)) pe_int (nomark _)) (pw_or1 (pt_cmpR op_ne (pe_callB call_len_str (by rfl) m_len PySem.boot_len (pa_cons (pe_ix (kk_ixl K) (pv 1) pe_int (fun _ _ => rfl)) pa_nil)) pe_int (nomark _)))))
         (pss_one (ps_ret pe_non))
         pss_nil)
      (pss_cons (ps_par (i := 3) (j := 4) (by rfl) sc__law_due.nd rfl rfl (by decide) rfl rfl (pa_cons (pe_cf C__law_number (hr.mono (by decide)) (by rfl) (pa_cons (pe_ix (kk_ixl K) (pv 1) pe_int (fun _ _ => rfl)) (pa_cons pe_int pa_nil))) (pa_cons (pe_cf C__law_number (hr.mono (by decide)) (by rfl) (pa_cons (pe_ix (kk_ixl K) (pv 1) pe_int (fun _ _ => rfl)) (pa_cons pe_int pa_nil))) pa_nil)) (by rfl))
      (pss_cons (ps_if (PW.pt (pw_or (pt_cmpR op_isN (pv 3) pe_non (nomark _)) (pw_or (pt_cmpR op_isN (pv 4) pe_non (nomark _)) (pw_or (pt_cmpR op_gt (pv 4) pe_int (nomark _)) (pw_or1 (PW.pt (pw_and (pt_cmpR op_eq (pe_ix ix_str (pe_ix (kk_ixl K) (pv 1) pe_int (fun _ _ => rfl)) pe_int (fun _ _ => rfl)) pe_str (nomark _)) (pw_and1 (pt_cmpR op_gt (pe_callB call_len_str (by rfl) m_len PySem.boot_len (pa_cons (pe_ix (kk_ixl K) (pv 1) pe_int (fun _ _ => rfl)) pa_nil)) pe_int (nomark _))))))))))
         (pss_one (ps_ret pe_non))
         pss_nil)
      (pss_one (ps_ret (pe_ifExp (pt_cmpR op_le (pe_op op_add (pe_op op_mul pe_int (pv 3)) (pv 4)) (pe_op op_pow pe_int pe_int) (nomark _)) (pe_op op_add (pe_op op_mul pe_int (pv 3)) (pv 4)) pe_non)))))))), ?_⟩
    have hl : t.length = (TL.tl t).length := TL.len_tl t
    have fit : ∀ {m : Nat}, m ≤ 1000 → m ≤ sizeLine := size_small
    refine ⟨(by show 1 ≤ sizeLine; decide), fun L hL => ?_⟩
    refine ⟨_, rfl, t, rfl, for_it walk_str (fun i σ H' => ∃ s2 s3 s4 ws, σ = [some (.str t), some (.ref L), s2, s3, s4] ∧ Same H H' ∧ H' L = some (.lst (wordsV ws)) ∧ ws.length ≤ i + 1 ∧ Parted ((TL.tl t).take i) ws)
      ⟨_, _, _, [[]], rfl, same_new hL, upd_same, Nat.le_refl _, ⟨by simp, rfl, fun w hw => by rw [List.mem_singleton.mp hw]; exact fun z => (nomatch z), fun w hw => by rw [List.mem_singleton.mp hw]; exact Nat.zero_le _, fun w hw c hc => by rw [List.mem_singleton.mp hw] at hc; cases hc⟩⟩ (fun _ _ _ _ _ => trivial) (fun i x σ H1 H2 hi h hy => ?_) (fun σ H' h => ?_)⟩
    · obtain ⟨rfl, c, hc, rfl⟩ := hy
      obtain ⟨s2, s3, s4, ws, rfl, sm, hw, hwl, pw⟩ := h
      have hc2 : (TL.tl t)[i]? = some c := by simpa using hc
      have hi2 : i < (TL.tl t).length := (List.getElem?_eq_some_iff.mp hc2).1
      have ht1 : (TL.tl t).take (i + 1) = (TL.tl t).take i ++ [c] := by
        rw [List.take_add_one, hc2]
        rfl
      refine ⟨_, rfl, rfl, _, rfl, ite2 (fun e => ?_) (fun e => ?_)⟩
      · have ec : c = 47 := by
          have := V.str.inj (of_decide_eq_true e)
          have h2 := congrArg TL.tl this
          have h3 : [c] = [47] := h2.trans (by decide +kernel)
          exact (List.cons.inj h3).1
        subst ec
        refine ⟨_, rfl, .inl ⟨rfl, _, SqL.of hw⟩, L, _, _, rfl, rfl, hw, ?_, some (.str ⟨#[47]⟩), s3, s4, ws ++ [[]], rfl, ?_, ?_, ?_, ?_⟩
        · unfold wordsV
          rw [List.length_map]
          exact small1000 (by omega)
        · exact fun b o e => by
            rw [upd_ne (ne_of_none e hL)]
            exact sm _ _ e
        · rw [upd_same]
          unfold wordsV
          rw [List.map_append]
          rfl
        · rw [List.length_append]
          show ws.length + 1 ≤ _
          omega
        · rw [ht1]
          exact pw.stroke
      · have ec : c ≠ 47 := fun z => e (decide_eq_true (by
          rw [z]
          exact congrArg V.str (by decide +kernel)))
        obtain ⟨ys, y, rfl⟩ : ∃ ys y, ws = ys ++ [y] := ⟨ws.dropLast, ws.getLast pw.some_, (List.dropLast_concat_getLast pw.some_).symm⟩
        have ew : wordsV (ys ++ [y]) = wordsV ys ++ [.str ⟨y.toArray⟩] := by
          unfold wordsV
          rw [List.map_append]
          rfl
        have lw : (wordsV ys).length = ys.length := by
          unfold wordsV
          exact List.length_map _
        have hy := pw.fits y (List.mem_append_right _ List.mem_cons_self)
        rw [List.length_take] at hy
        have ly : (⟨y.toArray⟩ : Str).length = y.length := TL.len_tl _
        rw [ew] at hw
        refine ⟨_, rfl, 1, rfl, L, _, _, _, rfl, rfl, SqL.of hw, atI_last _ _, _, rfl, _, _, rfl, rfl, fit (by rw [ly]; show y.length + 1 ≤ 1000; omega), _, rfl, 1, rfl, L, _, _, _, rfl, rfl, hw, ixN_last (by rw [List.length_append]; show 0 < _ + 1; omega), some (.str ⟨#[c]⟩), s3, s4, ys ++ [y ++ [c]], rfl, ?_, ?_, ?_, ?_⟩
        · exact fun b o e => by
            rw [upd_ne (ne_of_none e hL)]
            exact sm _ _ e
        · rw [upd_same, show (wordsV ys ++ [V.str ⟨y.toArray⟩]).length - 1 = (wordsV ys).length from by rw [List.length_append]; rfl, set_last]
          have e2 : (⟨y.toArray⟩ : Str) ++ ⟨#[c]⟩ = ⟨(y ++ [c]).toArray⟩ := TL.ext_tl (by rw [TL.tl_append])
          rw [e2]
          unfold wordsV
          rw [List.map_append]
          rfl
        · rw [List.length_append] at hwl ⊢
          have h1 : ys.length + 1 ≤ i + 1 := hwl
          show ys.length + 1 ≤ i + 1 + 1
          omega
        · rw [ht1]
          exact pw.sign ec
    · obtain ⟨s2, s3, s4, ws, rfl, sm, hw, hwl, pw⟩ := h
      have hn : (TL.tl t).take t.cps.size = TL.tl t := List.take_of_length_le (by simp [TL.tl])
      rw [hn] at pw
      have lw : (wordsV ws).length = ws.length := by
        unfold wordsV
        exact List.length_map _
      have good : ∀ n : Nat, t = ptS n → ws = [TL.numL (n / 60), [48 + n % 60 / 10, 48 + n % 60 % 10]] := fun n e => by
        rw [e] at pw
        exact pt_words pw
      refine ⟨_, rfl, L, _, rfl, .inl (SqL.of hw), rfl, _, rfl, ?_⟩
      by_cases hw2 : V.int ((wordsV ws).length : Int) = V.int 2
      case neg =>
        rw [decide_eq_false hw2]
        refine iteT (iteT (q2 _ (fun n _ e => hw2 ?_) sm))
        rw [lw, good n e]
        rfl
      rw [decide_eq_true hw2]
      have hwn : ws.length = 2 := by
        have := V.int.inj hw2
        omega
      obtain ⟨a, b, rfl⟩ : ∃ a b, ws = [a, b] := by
        match ws, hwn with
        | [a, b], _ => exact ⟨a, b, rfl⟩
      have la : (⟨a.toArray⟩ : Str).length = a.length := TL.len_tl _
      have lb : (⟨b.toArray⟩ : Str).length = b.length := TL.len_tl _
      have fa := pw.fits a List.mem_cons_self
      have fb := pw.fits b (List.mem_cons_of_mem _ List.mem_cons_self)
      have asA : Asc ⟨a.toArray⟩ := fun c hc => asc c (pw.sub a List.mem_cons_self c hc)
      have asB : Asc ⟨b.toArray⟩ := fun c hc => asc c (pw.sub b (List.mem_cons_of_mem _ List.mem_cons_self) c hc)
      have gA : ∀ n : Nat, t = ptS n → a = TL.numL (n / 60) := fun n e => (List.cons.inj (good n e)).1
      have gB : ∀ n : Nat, t = ptS n → b = [48 + n % 60 / 10, 48 + n % 60 % 10] := fun n e => (List.cons.inj (List.cons.inj (good n e)).2).1
      refine iteF ⟨_, rfl, L, _, _, _, rfl, rfl, SqL.of hw, rfl, _, rfl, fit (by rw [lb]; omega), rfl, _, rfl, ?_⟩
      by_cases hb2 : V.int ((⟨b.toArray⟩ : Str).length : Int) = V.int 2
      case neg =>
        rw [decide_eq_false hb2]
        refine iteT (q2 _ (fun n _ e => hb2 ?_) sm)
        rw [lb, gB n e]
        rfl
      rw [decide_eq_true hb2]
      have hbn : b.length = 2 := by
        have := V.int.inj hb2
        omega
      refine iteF ⟨_, rfl, L, _, _, _, rfl, rfl, SqL.of hw, rfl, _, 10, rfl, by rw [la]; omega, asA, fun H1 s1 => ?_⟩
      have hw1 := s1 _ _ hw
      refine ⟨_, rfl, L, _, _, _, rfl, rfl, SqL.of hw1, rfl, _, 2, rfl, by rw [lb]; omega, asB, fun H2 s2 => ?_⟩
      have hw2' := s2 _ _ hw1
      have smA := (sm.trans s1).trans s2
      refine ⟨_, _, rfl, ?_⟩
      have eA : TL.tl (⟨a.toArray⟩ : Str) = a := rfl
      have eB : TL.tl (⟨b.toArray⟩ : Str) = b := rfl
      rw [eA, eB]
      by_cases okA : numOk a 10
      case neg =>
        have ev : numV a 10 = .non := if_neg okA
        rw [ev]
        refine ⟨_, rfl, rfl, _, rfl, iteT (iteT (q2 _ (fun n hn e => okA ?_) smA))⟩
        rw [gA n e]
        have l1 := TL.numL_len (n := n / 60) (k := 10) (by decide) (by omega)
        have l2 : 0 < (TL.numL (n / 60)).length := List.length_pos_iff.mpr (TL.numL_ne _)
        exact ⟨by omega, by omega, TL.numL_digits _⟩
      have evA : numV a 10 = .int (NumText.digitsVal a : Nat) := if_pos okA
      rw [evA]
      refine ⟨_, rfl, rfl, _, rfl, iteF ?_⟩
      by_cases okB : numOk b 2
      case neg =>
        have ev : numV b 2 = .non := if_neg okB
        rw [ev]
        refine ⟨_, rfl, rfl, _, rfl, iteT (iteT (q2 _ (fun n hn e => okB ?_) smA))⟩
        rw [gB n e]
        exact ⟨by show (0 : Int) < 2; decide, by show (2 : Int) ≤ 2; decide, two_mem_digits⟩
      have evB : numV b 2 = .int (NumText.digitsVal b : Nat) := if_pos okB
      rw [evB]
      refine ⟨_, rfl, rfl, _, rfl, iteF ?_⟩
      have valB : ∀ n : Nat, t = ptS n → NumText.digitsVal b = n % 60 := fun n e => by
        rw [gB n e]
        show (0 * 10 + (48 + n % 60 / 10 - 48)) * 10 + (48 + n % 60 % 10 - 48) = n % 60
        omega
      have valA : ∀ n : Nat, t = ptS n → NumText.digitsVal a = n / 60 := fun n e => by
        rw [gA n e, TL.numL_val]
      refine ⟨_, rfl, _, _, rfl, rfl, _, rfl, ite2 (fun z => ?_) (fun z => ?_)⟩
      · have z' := of_decide_eq_true z
        refine iteT (q2 _ (fun n hn e => ?_) smA)
        have := valB n e
        omega
      have z59 : ¬ ((59 : Int) < ((NumText.digitsVal b : Nat) : Int)) := fun q => z (decide_eq_true q)
      obtain ⟨c0, r0, rfl⟩ : ∃ c r, a = c :: r := by
        cases a with
        | nil => exact absurd okA.1 (by decide)
        | cons c r => exact ⟨c, r, rfl⟩
      -- what is told where no nought stands ahead
      have fin : ((c0 :: r0).length = 1 ∨ (c0 :: r0).head? ≠ some 48) → t = ptS (60 * NumText.digitsVal (c0 :: r0) + NumText.digitsVal b) := fun hh => by
        have hcan := canon _ (c0 :: r0) rfl (by simp) okA.2.2 hh
        obtain ⟨t1, t2⟩ := two_val hbn okB.2.2
        refine TL.ext_tl ?_
        show TL.tl t = ptL _
        rw [← pw.join]
        show (c0 :: r0) ++ (47 :: b) = ptL _
        unfold ptL
        rw [show (60 * NumText.digitsVal (c0 :: r0) + NumText.digitsVal b) / 60 = NumText.digitsVal (c0 :: r0) by omega, show (60 * NumText.digitsVal (c0 :: r0) + NumText.digitsVal b) % 60 = NumText.digitsVal b by omega, hcan]
        congr 1
        congr 1
      have told : ∀ v : V, ((c0 :: r0).length = 1 ∨ (c0 :: r0).head? ≠ some 48) → v = .int ((60 * NumText.digitsVal (c0 :: r0) + NumText.digitsVal b : Nat) : Int) → 60 * NumText.digitsVal (c0 :: r0) + NumText.digitsVal b ≤ 1000000000 → Q v H2 := fun v hh ev hle => by
        rw [ev]
        exact q1 _ _ hle (fin hh) smA
      have untold : ¬ (60 * NumText.digitsVal (c0 :: r0) + NumText.digitsVal b ≤ 1000000000) → Q .non H2 := fun hle => q2 _ (fun n hn e => hle (by
        have h1 := valA n e
        have h2 := valB n e
        omega)) smA
      refine ⟨_, rfl, L, _, _, _, rfl, rfl, SqL.of hw2', rfl, _, _, c0, rfl, rfl, fit (by rw [la]; omega), atI_nat (j := 0) rfl, rfl, _, rfl, ?_⟩
      have e48 : (V.str ⟨#[c0]⟩ = V.str (Str.ofString "0")) ↔ c0 = 48 := by
        constructor
        · intro h
          have h2 : [c0] = [48] := (congrArg TL.tl (V.str.inj h)).trans (by decide +kernel)
          exact (List.cons.inj h2).1
        · intro h
          rw [h]
          exact congrArg V.str (by decide +kernel)
      by_cases h48 : c0 = 48
      · rw [decide_eq_true (e48.mpr h48)]
        refine iteT ⟨_, rfl, L, _, _, _, rfl, rfl, SqL.of hw2', rfl, _, rfl, fit (by rw [la]; omega), _, _, rfl, rfl, _, rfl, ite2 (fun z => ?_) (fun z => ?_)⟩
        · have z' := of_decide_eq_true z
          rw [la] at z'
          refine q2 _ (fun n hn e => ?_) smA
          have hg := gA n e
          rcases numL_head (n / 60) with h | h
          · rw [← hg] at h
            omega
          · rw [← hg, h48] at h
            exact h rfl
        · have z' : ¬ ((1 : Int) < ((⟨(c0 :: r0).toArray⟩ : Str).length : Int)) := fun q => z (decide_eq_true q)
          rw [la] at z'
          have hh : (c0 :: r0).length = 1 := by
            rw [List.length_cons] at z' ⊢
            omega
          have hh : (c0 :: r0).length = 1 ∨ (c0 :: r0).head? ≠ some 48 := .inl hh
          exact ⟨_, rfl, _, _, rfl, rfl, .inl ⟨by decide, by decide⟩, _, rfl, _, _, rfl, rfl, _, _, rfl, rfl, ⟨by decide, by decide, by decide⟩, _, _, rfl, rfl, _, rfl, ite2 (fun z => ⟨_, rfl, _, _, rfl, rfl, .inl ⟨by decide, by decide⟩, _, rfl, _, _, rfl, rfl, told _ hh (by rw [Int.natCast_add, Int.natCast_mul]; rfl) (by
          have z' : (60 : Int) * ((NumText.digitsVal (c0 :: r0) : Nat) : Int) + ((NumText.digitsVal b : Nat) : Int) ≤ 1000000000 := of_decide_eq_true z
          omega)⟩) (fun z => untold (fun hle => z (decide_eq_true (by
          show (60 : Int) * ((NumText.digitsVal (c0 :: r0) : Nat) : Int) + ((NumText.digitsVal b : Nat) : Int) ≤ 1000000000
          omega))))⟩
      · rw [decide_eq_false (fun q => h48 (e48.mp q))]
        have hh : (c0 :: r0).length = 1 ∨ (c0 :: r0).head? ≠ some 48 := .inr fun q => h48 (Option.some.inj q)
        refine iteF (iteF ?_)
        exact ⟨_, rfl, _, _, rfl, rfl, .inl ⟨by decide, by decide⟩, _, rfl, _, _, rfl, rfl, _, _, rfl, rfl, ⟨by decide, by decide, by decide⟩, _, _, rfl, rfl, _, rfl, ite2 (fun z => ⟨_, rfl, _, _, rfl, rfl, .inl ⟨by decide, by decide⟩, _, rfl, _, _, rfl, rfl, told _ hh (by rw [Int.natCast_add, Int.natCast_mul]; rfl) (by
          have z' : (60 : Int) * ((NumText.digitsVal (c0 :: r0) : Nat) : Int) + ((NumText.digitsVal b : Nat) : Int) ≤ 1000000000 := of_decide_eq_true z
          omega)⟩) (fun z => untold (fun hle => z (decide_eq_true (by
          show (60 : Int) * ((NumText.digitsVal (c0 :: r0) : Nat) : Int) + ((NumText.digitsVal b : Nat) : Int) ≤ 1000000000
          omega))))⟩
theorem cut_len_le (x : Str) (k : Nat) : (cutS x none (some (k : Int))).length ≤ k := by
  rw [TL.len_tl]
  show ((x.cps.toList.drop (HT.sIx x.length 0 none)).take (HT.sIx x.length x.length (some (k : Int)) - HT.sIx x.length 0 none)).length ≤ k
  rw [List.length_take, HT.sIx_nat, HT.sIx_none]
  omega
def sg3 : Str := Str.ofString "0123456789// -+,_.eaO\n\t"
theorem sg3_at {r : Int} (h0 : 0 ≤ r) (h1 : r < (sg3.length : Int)) : ∃ c, atI sg3.cps.toList r = some c ∧ c < 128 := by
  obtain ⟨j, rfl⟩ := Int.eq_ofNat_of_zero_le h0
  have hj : j < sg3.cps.toList.length := by
    have : sg3.cps.toList.length = sg3.length := (TL.len_tl sg3).symm
    omega
  exact ⟨sg3.cps.toList[j], atI_nat (List.getElem?_eq_getElem hj), (by unfold Asc; decide +kernel : Asc sg3) _ (List.getElem_mem hj)⟩
theorem at_map {α β : Type} {f : α → β} {xs : List α} {r : Int} (h0 : 0 ≤ r) (h1 : r < (xs.length : Int)) : ∃ x, x ∈ xs ∧ atI (xs.map f) r = some (f x) := by
  obtain ⟨j, rfl⟩ := Int.eq_ofNat_of_zero_le h0
  have hj : j < xs.length := by omega
  refine ⟨xs[j], List.getElem_mem hj, atI_nat ?_⟩
  rw [List.getElem?_map, List.getElem?_eq_getElem hj]
  rfl
/-! ### _law_spoilt -/
abbrev s__law_spoilt : Stmt := topS 13
abbrev N__law_spoilt : List Str := ["_law_box_here", "_law_text", "_law_signs", "_law_way", "_law_at", "_law_sign", "_law_some"]
theorem sc__law_spoilt : FnScope N__law_spoilt ["_law_box_here", "_law_text"] (defScope s__law_spoilt) := ⟨rfl, rfl, rfl, by decide +kernel, rfl, by decide +kernel, by decide +kernel⟩
def sp__law_spoilt (K : PySem.W.Frag) : Sp := fun vs H Q _ => ∃ (b : Addr) (n : Int) (s : Str), vs = [.ref b, .str s] ∧ Box H b n ∧ n < 1000000 ∧ Asc s ∧ s.length ≤ 60 ∧ ∀ (r : Str) H', Asc r → r.length ≤ 60 → Box H' b (n + 3) → But b H H' → Q (.str r) H'
theorem ok__law_spoilt {f : Addr} {fd : FuncData} (F : Fun K "_law_spoilt" "_law_spoilt" s__law_spoilt f fd) (g : mg "_law_spoilt" = some (.ref f)) (bd : Binds K fd ["_law_box_here", "_law_text"] []) (m_len : mg "len" = none) (C__law_take : CF P w K mg base 1 "_law_take" ["_law_box_here", "_law_many"] (sp__law_take K)) : CF P w K mg base 2 "_law_spoilt" ["_law_box_here", "_law_text"] (sp__law_spoilt K) := by
  refine ⟨f, fd, F.ok sc__law_spoilt (fun vs H Q E h => ?_) (fun cdv A outer s H vs Q E hr h => ?_), g, F.kp, bd⟩
  · first | (obtain ⟨_, rfl, _⟩ := h; rfl) | (obtain ⟨_, _, rfl, _⟩ := h; rfl) | (obtain ⟨_, _, _, rfl, _⟩ := h; rfl) | (obtain ⟨_, _, _, _, rfl, _⟩ := h; rfl) | (obtain ⟨_, _, _, _, _, rfl, _⟩ := h; rfl) | (obtain ⟨_, _, _, _, _, _, rfl, _⟩ := h; rfl) | (obtain ⟨_, _, _, _, _, _, _, rfl, _⟩ := h; rfl)
  · have hu64 := hr.units
    obtain ⟨b, n, s, rfl, hb, hn, ha, hz, q⟩ := h
    refine ⟨_, (pss_cons (ps_set (i := 2) sc__law_spoilt.nd rfl (.inl rfl) pe_str)
      (pss_cons (ps_par3 (i := 3) (j := 4) (l := 5) (by rfl) sc__law_spoilt.nd rfl rfl rfl (by decide) (by decide) (by decide) rfl rfl rfl (pa_cons (pe_cf C__law_take (hr.mono (by decide)) (by rfl) (pa_cons (pv 0) (pa_cons pe_int pa_nil))) (pa_cons (pe_cf C__law_take (hr.mono (by decide)) (by rfl) (pa_cons (pv 0) (pa_cons (pe_op op_add (pe_callB call_len_str (by rfl) m_len PySem.boot_len (pa_cons (pv 1) pa_nil)) pe_int) pa_nil))) (pa_cons (pe_ix ix_str (pv 2) (pe_cf C__law_take (hr.mono (by decide)) (by rfl) (pa_cons (pv 0) (pa_cons (pe_callB call_len_str (by rfl) m_len PySem.boot_len (pa_cons (pv 2) pa_nil)) pa_nil))) (fun _ _ => rfl)) pa_nil))) (by rfl))
      (pss_cons (ps_set (i := 6) sc__law_spoilt.nd rfl (.inl rfl) (pe_lst (pa_cons (pe_op op_add_str (pe_op op_add_str (pe_slice sl_str (pv 1) po_none (po_some (pv 4))) (pv 5)) (pe_slice sl_str (pv 1) (po_some (pv 4)) po_none)) (pa_cons (pe_op op_add_str (pe_op op_add_str (pe_slice sl_str (pv 1) po_none (po_some (pv 4))) (pv 5)) (pe_slice sl_str (pv 1) (po_some (pe_op op_add (pv 4) pe_int)) po_none)) (pa_cons (pe_op op_add_str (pe_slice sl_str (pv 1) po_none (po_some (pv 4))) (pe_slice sl_str (pv 1) (po_some (pe_op op_add (pv 4) pe_int)) po_none)) pa_nil)))))
      (pss_cons (ps_set (i := 6) sc__law_spoilt.nd rfl (.inl rfl) (pe_op op_cat (pv 6) (pe_lst (pa_cons (pe_op op_add_str (pe_op op_add_str (pe_slice sl_str (pv 1) po_none (po_some (pv 4))) (pe_slice sl_str (pv 1) (po_some (pv 4)) (po_some (pe_op op_add (pv 4) pe_int)))) (pe_slice sl_str (pv 1) (po_some (pv 4)) po_none)) (pa_cons (pe_op op_add_str (pe_op op_add_str (pe_slice sl_str (pv 1) po_none (po_some (pv 4))) (pe_revS (pe_slice sl_str (pv 1) (po_some (pv 4)) (po_some (pe_op op_add (pv 4) pe_int))))) (pe_slice sl_str (pv 1) (po_some (pe_op op_add (pv 4) pe_int)) po_none)) pa_nil)))))
      (pss_one (ps_ret (pe_slice sl_str (pe_ix (kk_ixl K) (pe_op op_cat (pv 6) (pe_lst (pa_cons (pe_revS (pv 1)) pa_nil))) (pv 3) (fun _ _ => rfl)) po_none (po_some pe_int)))))))), ?_⟩
    have fit : ∀ {m : Nat}, m ≤ 1000 → m ≤ sizeLine := size_small
    refine ⟨_, rfl, b, 6, n, rfl, hb, by decide, by decide, by omega, fun way H1 w0 w1 b1 t1 => ?_⟩
    refine ⟨_, rfl, _, rfl, s, rfl, fit (by omega), _, _, rfl, rfl, b, _, _, rfl, b1, by omega, by omega, by omega, fun at_ H2 a0 a1 b2 t2 => ?_⟩
    refine ⟨_, rfl, _, rfl, _, rfl, sg3, rfl, by decide +kernel, b, _, _, rfl, b2, by decide +kernel, by decide +kernel, by omega, fun r H3 r0 r1 b3 t3 => ?_⟩
    obtain ⟨c, hc, hc2⟩ := sg3_at r0 r1
    refine ⟨sg3, _, c, rfl, rfl, by decide +kernel, hc, _, _, _, rfl, ?_⟩
    have aS : Asc ⟨#[c]⟩ := .one hc2
    have lS : (⟨#[c]⟩ : Str).length = 1 := rfl
    generalize (⟨#[c]⟩ : Str) = xS at *
    have cl : ∀ lo hi, (cutS s lo hi).length ≤ 60 := fun lo hi => Nat.le_trans (cutS_length s lo hi) hz
    have ca : ∀ lo hi, Asc (cutS s lo hi) := fun lo hi => ha.cut
    have lA := cl none (some at_)
    have lB := cl (some at_) none
    have lC := cl (some (at_ + 1)) none
    have lD := cl (some at_) (some (at_ + 1))
    have lE := cl (some at_) (some (at_ + 2))
    have lF := cl (some (at_ + 2)) none
    refine ⟨_, rfl, _, rfl, _, rfl, s, rfl, fit (by omega), _, rfl, _, _, rfl, rfl, fit (by omega), _, rfl, _, rfl, _, rfl, s, rfl, fit (by omega), _, _, rfl, rfl, fit (by rw [len_app]; omega), ?_⟩
    refine ⟨_, rfl, _, rfl, _, rfl, s, rfl, fit (by omega), _, rfl, _, _, rfl, rfl, fit (by omega), _, rfl, _, rfl, _, _, rfl, rfl, _, rfl, s, rfl, fit (by omega), _, _, rfl, rfl, fit (by rw [len_app]; omega), ?_⟩
    refine ⟨_, rfl, _, rfl, _, rfl, s, rfl, fit (by omega), _, rfl, _, rfl, _, _, rfl, rfl, _, rfl, s, rfl, fit (by omega), _, _, rfl, rfl, fit (by omega), ?_⟩
    refine ⟨(by show 3 ≤ sizeLine; decide), fun l1 h1 => ?_⟩
    refine ⟨_, rfl, _, rfl, _, rfl, _, rfl, s, rfl, fit (by omega), _, rfl, _, rfl, _, rfl, _, rfl, _, _, rfl, rfl, _, rfl, s, rfl, fit (by omega), _, _, rfl, rfl, fit (by omega), _, rfl, _, rfl, _, rfl, s, rfl, fit (by omega), _, _, rfl, rfl, fit (by rw [len_app]; omega), ?_⟩
    refine ⟨_, rfl, _, rfl, _, rfl, s, rfl, fit (by omega), _, rfl, _, rfl, _, rfl, _, rfl, _, _, rfl, rfl, _, rfl, s, rfl, fit (by omega), _, rfl, fit (by omega), fun rv lrv mrv => ?_⟩
    have arv : Asc rv := fun d hd => ca _ _ d (mrv d hd)
    refine ⟨_, _, rfl, rfl, fit (by omega), _, rfl, _, rfl, _, _, rfl, rfl, _, rfl, s, rfl, fit (by omega), _, _, rfl, rfl, fit (by rw [len_app]; omega), (by show 2 ≤ sizeLine; decide), fun l2 h2 => ?_⟩
    refine ⟨l1, l2, _, _, rfl, rfl, (same_new h2) _ _ upd_same, upd_same, (by show 5 ≤ sizeLine; decide), fun l3 h3 => ?_⟩
    refine ⟨_, rfl, _, rfl, s, rfl, fit (by omega), fun rw2 lrw mrw => ⟨(by show 1 ≤ sizeLine; decide), fun l4 h4 => ⟨l3, l4, _, _, rfl, rfl, (same_new h4) _ _ upd_same, upd_same, (by show 6 ≤ sizeLine; decide), fun l5 h5 => ?_⟩⟩⟩
    have arw : Asc rw2 := fun d hd => ha d (mrw d hd)
    obtain ⟨z, hz1, hz2⟩ := at_map (f := V.str) (xs := [cutS s none (some at_) ++ xS ++ cutS s (some at_) none, cutS s none (some at_) ++ xS ++ cutS s (some (at_ + 1)) none, cutS s none (some at_) ++ cutS s (some (at_ + 1)) none, cutS s none (some at_) ++ cutS s (some at_) (some (at_ + 1)) ++ cutS s (some at_) none, cutS s none (some at_) ++ rv ++ cutS s (some (at_ + 2)) none, rw2]) w0 (by simpa using w1)
    have both : Asc z ∧ z.length ≤ 400 := by
      simp only [List.mem_cons, List.not_mem_nil, or_false] at hz1
      rcases hz1 with rfl | rfl | rfl | rfl | rfl | rfl
      · exact ⟨((ca _ _).app aS).app (ca _ _), by rw [len_app, len_app]; omega⟩
      · exact ⟨((ca _ _).app aS).app (ca _ _), by rw [len_app, len_app]; omega⟩
      · exact ⟨(ca _ _).app (ca _ _), by rw [len_app]; omega⟩
      · exact ⟨((ca _ _).app (ca _ _)).app (ca _ _), by rw [len_app, len_app]; omega⟩
      · exact ⟨((ca _ _).app arv).app (ca _ _), by rw [len_app, len_app]; omega⟩
      · exact ⟨arw, by omega⟩
    refine ⟨_, rfl, l5, _, _, _, rfl, rfl, SqL.of upd_same, hz2, _, rfl, z, rfl, fit (by omega), ?_⟩
    exact q _ _ both.1.cut (cut_len_le z 60) (((((b3.new h1).new h2).new h3).new h4).new h5 |>.mono (by omega)) (((((((t1.trans t2).trans t3).trans (But.new h1)).trans (But.new h2)).trans (But.new h3)).trans (But.new h4)).trans (But.new h5))
/-! ### the known texts -/
def kn1 : List Str := [Str.ofString "", Str.ofString "/", Str.ofString "0/00", Str.ofString "0/0", Str.ofString "0/000", Str.ofString "00/00", Str.ofString "0/60", Str.ofString "0/59", Str.ofString "1/7", Str.ofString "1/07", Str.ofString "01/07", Str.ofString "1//07", Str.ofString "1/07/", Str.ofString "/07"]
def kn2 : List Str := [Str.ofString "-1/07", Str.ofString "+1/07", Str.ofString " 1/07", Str.ofString "1/07 ", Str.ofString "1/07\n", Str.ofString "1 /07", Str.ofString "1/0 7", Str.ofString "1_0/07", Str.ofString "107", Str.ofString "1/ 7", Str.ofString "1/-7"]
def kn3 : List Str := [Str.ofString "16666666/40", Str.ofString "16666666/41", Str.ofString "16666667/00", ((Txt.mul (Str.ofString "9") 57) ++ Str.ofString "/00"), (Str.ofString "0/" ++ (Txt.mul (Str.ofString "9") 58)), Str.ofString "1/0x", Str.ofString "a/bc"]
def kn4 : List Str := [Str.ofString "16666666/39", Str.ofString "9999999999/00", Str.ofString "10000000000/00", Str.ofString "0000000000/07", Str.ofString "1e3/07", Str.ofString "1/1e", Str.ofString "\t1/07"]

def okStr (s : Str) : Bool := decide (s.length ≤ 60) && s.cps.toList.all fun c => decide (c < 128)
def Strs (xs : List V) : Prop := ∀ x ∈ xs, ∃ s : Str, x = .str s ∧ s.length ≤ 60 ∧ Asc s
theorem strs_of {zs : List Str} (h : zs.all okStr = true) : Strs (zs.map V.str) := fun x hx => by
  obtain ⟨s, hs, rfl⟩ := List.mem_map.mp hx
  have h2 := List.all_eq_true.mp h s hs
  unfold okStr at h2
  rw [Bool.and_eq_true] at h2
  exact ⟨s, rfl, of_decide_eq_true h2.1, fun c hc => of_decide_eq_true (List.all_eq_true.mp h2.2 c hc)⟩
theorem Strs.app {xs ys : List V} (h1 : Strs xs) (h2 : Strs ys) : Strs (xs ++ ys) := fun x hx => by
  rcases List.mem_append.mp hx with h | h
  · exact h1 x h
  · exact h2 x h
open Classical in
noncomputable def penceV (t : Str) : V := if h : ∃ n : Nat, n ≤ 1000000000 ∧ t = ptS n then .int ((Classical.choose h : Nat) : Int) else .non
theorem penceV_some {t : Str} {n : Nat} (hn : n ≤ 1000000000) (e : t = ptS n) : penceV t = .int (n : Int) := by
  unfold penceV
  have h : ∃ n : Nat, n ≤ 1000000000 ∧ t = ptS n := ⟨n, hn, e⟩
  rw [dif_pos h]
  have h2 := Classical.choose_spec h
  rw [pcpt_inj (h2.2.symm.trans e)]
theorem penceV_none {t : Str} (h : ∀ n : Nat, n ≤ 1000000000 → t ≠ ptS n) : penceV t = .non := by
  unfold penceV
  rw [dif_neg]
  rintro ⟨n, h1, h2⟩
  exact h n h1 h2
theorem penceV_kind (t : Str) : penceV t = .non ∨ ∃ n : Nat, penceV t = .int (n : Int) := by
  unfold penceV
  split
  · exact .inr ⟨_, rfl⟩
  · exact .inl rfl
theorem numL3 {r : Nat} (h : r < 60) : TL.numL (r + 100) = [49, 48 + r / 10, 48 + r % 10] := by
  rw [TL.numL_step (by omega), TL.numL_step (by omega), TL.numL_lt (by omega)]
  show [48 + (r + 100) / 10 / 10] ++ [48 + (r + 100) / 10 % 10] ++ [48 + (r + 100) % 10] = _
  rw [show (r + 100) / 10 / 10 = 1 by omega, show (r + 100) / 10 % 10 = r / 10 by omega, show (r + 100) % 10 = r % 10 by omega]
  rfl
theorem text_made (n : Nat) : Str.ofString (toString ((n : Int) / 60)) ++ Str.ofString "/" ++ cutS (Str.ofString (toString ((n : Int) % 60 + 100))) (some 1) none = ptS n := by
  have e1 : ((n : Int) / 60) = ((n / 60 : Nat) : Int) := by omega
  have e2 : ((n : Int) % 60 + 100) = ((n % 60 + 100 : Nat) : Int) := by omega
  refine TL.ext_tl ?_
  have e3 : TL.tl (cutS (Str.ofString (toString ((n : Int) % 60 + 100))) (some 1) none) = [48 + n % 60 / 10, 48 + n % 60 % 10] := by
    rw [e2]
    have hl : (Str.ofString (toString (((n % 60 + 100 : Nat)) : Int))).length = 3 := by
      rw [TL.len_tl, TL.tl_num, numL3 (by omega)]
      rfl
    show (((TL.tl (Str.ofString (toString (((n % 60 + 100 : Nat)) : Int)))).drop (HT.sIx _ 0 (some ((1 : Nat) : Int)))).take (HT.sIx _ _ none - HT.sIx _ 0 (some ((1 : Nat) : Int)))) = _
    rw [HT.sIx_nat, HT.sIx_none, hl, TL.tl_num, numL3 (by omega)]
    rfl
  rw [TL.tl_append, TL.tl_append, e3, e1, TL.tl_num]
  show TL.numL (n / 60) ++ [47] ++ [48 + n % 60 / 10, 48 + n % 60 % 10] = ptL n
  unfold ptL
  simp
/-! ### law -/
abbrev s_law : Stmt := topS 14
abbrev N_law : List Str := ["_law_script", "_law_known", "_law_k", "_law_box_here", "_law_pence", "_law_text", "_law_some", "_law_turn", "_law_other", "_law_one", "_law_found", "_law_due_here"]
theorem sc_law : FnScope N_law ["_law_script"] (defScope s_law) := ⟨rfl, rfl, rfl, by decide +kernel, rfl, by decide +kernel, by decide +kernel⟩
def sp_law (K : PySem.W.Frag) : Sp := fun vs H Q _ => ∃ (a : Addr) (ns : List Int), vs = [.ref a] ∧ SqL K H a (ns.map V.int) ∧ ns.length ≤ 63 ∧ ∀ H', Q (.bl true) H'
theorem mulOk_9 {k : Int} (h0 : 0 ≤ k) (hk : k ≤ 100) : MulOk (Str.ofString "9") k := by
  refine ⟨by rw [Bool.or_eq_false_iff]; exact ⟨decide_eq_false (by omega), decide_eq_false (by omega)⟩, fun h1 _ => ?_, fun _ _ => ?_⟩
  · have h3 : ((Str.ofString "9").length : Int) ≤ 9223372036854775807 / k := Int.le_ediv_of_mul_le (by omega) (by show (1 : Int) * k ≤ _; omega)
    show ¬ (((Str.ofString "9").length : Int) > 9223372036854775807 / k)
    omega
  · show decide ((Str.ofString "9").length * k.toNat > sizeLine) = false
    refine decide_eq_false ?_
    show ¬ (1 * k.toNat > sizeLine)
    have : 10000 ≤ sizeLine := by decide
    omega
theorem pick100 {r : Int} (h0 : 0 ≤ r) (h1 : r < 3) : ∃ m : Int, atI [V.int 100, .int (10 ^ (5 : Int).toNat), .int (10 ^ (9 : Int).toNat + 1)] r = some (.int m) ∧ 0 < m ∧ m ≤ 1000000001 := by
  have h : r = 0 ∨ r = 1 ∨ r = 2 := by omega
  rcases h with rfl | rfl | rfl
  · exact ⟨100, rfl, by decide, by decide⟩
  · exact ⟨10 ^ (5 : Int).toNat, rfl, by decide, by decide⟩
  · exact ⟨10 ^ (9 : Int).toNat + 1, rfl, by decide, by decide⟩
theorem ok_law {f : Addr} {fd : FuncData} (F : Fun K "law" "law" s_law f fd) (m_range : mg "range" = none) (m_min : mg "min" = none) (m_len : mg "len" = none) (m_list : mg "list" = none) (m_str : mg "str" = none) (m_isinstance : mg "isinstance" = none) (m_bool : mg "bool" = none) (C__law_box : CF P w K mg base 1 "_law_box" ["_law_script", "_law_k"] (sp__law_box K)) (C__law_take : CF P w K mg base 1 "_law_take" ["_law_box_here", "_law_many"] (sp__law_take K)) (C__law_spoilt : CF P w K mg base 2 "_law_spoilt" ["_law_box_here", "_law_text"] (sp__law_spoilt K)) (C__law_due : CF P w K mg base 2 "_law_due" ["_law_text"] (sp__law_due K)) (C_pence_in : CF P w K mg base 2 "pence_in" ["text"] (sp_pence_in K)) : FnOk P w K mg base CX0 3 f fd ["_law_script"] (sp_law K) := by
  refine F.ok sc_law (fun vs H Q E h => ?_) (fun cdv A outer s H vs Q E hr h => ?_)
  · first | (obtain ⟨_, rfl, _⟩ := h; rfl) | (obtain ⟨_, _, rfl, _⟩ := h; rfl) | (obtain ⟨_, _, _, rfl, _⟩ := h; rfl) | (obtain ⟨_, _, _, _, rfl, _⟩ := h; rfl) | (obtain ⟨_, _, _, _, _, rfl, _⟩ := h; rfl) | (obtain ⟨_, _, _, _, _, _, rfl, _⟩ := h; rfl) | (obtain ⟨_, _, _, _, _, _, _, rfl, _⟩ := h; rfl)
  · have hu64 := hr.units
    obtain ⟨a, ns, rfl, hS, hlen, q⟩ := h
    refine ⟨_, (pss_cons (ps_set (i := 1) sc_law.nd rfl (.inl rfl) (pe_lst (pa_cons pe_str (pa_cons pe_str (pa_cons pe_str (pa_cons pe_str (pa_cons pe_str (pa_cons pe_str (pa_cons pe_str (pa_cons pe_str (pa_cons pe_str (pa_cons pe_str (pa_cons pe_str (pa_cons pe_str (pa_cons pe_str (pa_cons pe_str pa_nil))))))))))))))))
      (pss_cons (ps_set (i := 1) sc_law.nd rfl (.inl rfl) (pe_op op_cat (pv 1) (pe_lst (pa_cons pe_str (pa_cons pe_str (pa_cons pe_str (pa_cons pe_str (pa_cons pe_str (pa_cons pe_str (pa_cons pe_str (pa_cons pe_str (pa_cons pe_str (pa_cons pe_str (pa_cons pe_str pa_nil))))))))))))))
      (pss_cons (ps_set (i := 1) sc_law.nd rfl (.inl rfl) (pe_op op_cat (pv 1) (pe_lst (pa_cons pe_str (pa_cons pe_str (pa_cons pe_str (pa_cons (pe_op op_add_str (pe_op op_mul_str pe_str pe_int) pe_str) (pa_cons (pe_op op_add_str pe_str (pe_op op_mul_str pe_str pe_int)) (pa_cons pe_str (pa_cons pe_str pa_nil))))))))))
      (pss_cons (ps_set (i := 1) sc_law.nd rfl (.inl rfl) (pe_op op_cat (pv 1) (pe_lst (pa_cons pe_str (pa_cons pe_str (pa_cons pe_str (pa_cons pe_str (pa_cons pe_str (pa_cons pe_str (pa_cons pe_str pa_nil))))))))))
      (pss_cons (ps_for PassesOwn.never rfl (pi_range1 (by rfl) m_range (pa_cons (pe_op op_add pe_int (pe_callB (call_min2 rfl) (by rfl) m_min (by decide +kernel) (pa_cons pe_int (pa_cons (pe_callB (kk_len K) (by rfl) m_len PySem.boot_len (pa_cons (pv 0) pa_nil)) pa_nil)))) pa_nil)) (pg_name (i := 2) sc_law.nd rfl (.inl rfl))
         (pss_cons (ps_set (i := 3) sc_law.nd rfl (.inl rfl) (pe_cf C__law_box (hr.mono (by decide)) (by rfl) (pa_cons (pv 0) (pa_cons (pv 2) pa_nil))))
          (pss_cons (ps_set (i := 4) sc_law.nd rfl (.inl rfl) (pe_cf C__law_take (hr.mono (by decide)) (by rfl) (pa_cons (pv 3) (pa_cons (pe_ix (kk_ixl K) (pe_lst (pa_cons pe_int (pa_cons (pe_op op_pow pe_int pe_int) (pa_cons (pe_op op_add (pe_op op_pow pe_int pe_int) pe_int) pa_nil)))) (pe_cf C__law_take (hr.mono (by decide)) (by rfl) (pa_cons (pv 3) (pa_cons pe_int pa_nil))) (fun _ _ => rfl)) pa_nil))))
          (pss_cons (ps_par (i := 5) (j := 6) (by rfl) sc_law.nd rfl rfl (by decide) rfl rfl (pa_cons (pe_op op_add_str (pe_op op_add_str (pe_callTy call_str_int (by rfl) m_str (by decide +kernel) (pa_cons (pe_op op_fdiv (pv 4) pe_int) pa_nil)) pe_str) (pe_slice sl_str (pe_callTy call_str_int (by rfl) m_str (by decide +kernel) (pa_cons (pe_op op_add (pe_op op_mod (pv 4) pe_int) pe_int) pa_nil)) (po_some pe_int) po_none)) (pa_cons (pe_callTy (kk_list K) (by rfl) m_list (by decide +kernel) (pa_cons (pv 1) pa_nil)) pa_nil)) (by rfl))
          (pss_cons (ps_for PassesOwn.never rfl (pi_range1 (by rfl) m_range (pa_cons pe_int pa_nil)) (pg_name (i := 7) sc_law.nd rfl (.inl rfl))
             (pss_cons (ps_set (i := 8) sc_law.nd rfl (.inl rfl) (pe_cf C__law_spoilt (hr.mono (by decide)) (by rfl) (pa_cons (pv 3) (pa_cons (pv 5) pa_nil))))
              (pss_one (ps_expr (pe_bm PySem.F.plainAttrs_list PySem.F.slot_list_append PySem.F.type_list_append mt_append (pv 6) (pa_cons (pe_ifExp (pt_cmpR op_eq (pe_cf C__law_take (hr.mono (by decide)) (by rfl) (pa_cons (pv 3) (pa_cons pe_int pa_nil))) pe_int (nomark _)) (pe_cf C__law_spoilt (hr.mono (by decide)) (by rfl) (pa_cons (pv 3) (pa_cons (pv 8) pa_nil))) (pv 8)) pa_nil))))))
          (pss_cons (ps_for PassesOwn.never rfl (pi_list (pe_op op_cat (pv 6) (pe_lst (pa_cons (pv 5) pa_nil)))) (pg_name (i := 9) sc_law.nd rfl (.inl rfl))
             (pss_cons (ps_par (i := 10) (j := 11) (by rfl) sc_law.nd rfl rfl (by decide) rfl rfl (pa_cons (pe_cf C_pence_in (hr.mono (by decide)) (by rfl) (pa_cons (pv 9) pa_nil)) (pa_cons (pe_cf C__law_due (hr.mono (by decide)) (by rfl) (pa_cons (pv 9) pa_nil)) pa_nil)) (by rfl))
              (pss_one (ps_if (PW.pt (pw_or (pt_cmpR op_ne (pv 10) (pv 11) (nomark _)) (pw_or (pt_val (pe_callB (kk_isi K) (by rfl) m_isinstance (by decide +kernel) (pa_cons (pv 10) (pa_cons (pe_bltn (v := .ty "bool") (by rfl) m_bool (by decide +kernel) rfl) pa_nil)))) (pw_or1 (pt_cmpR op_ne (pe_cmpR op_isN (pv 10) pe_non (nomark _)) (pe_cmpR op_isN (pv 11) pe_non (nomark _)) (nomark _))))))
                 (pss_one (ps_ret pe_bl))
                 pss_nil))))
          (pss_one (ps_if (pt_cmpR op_ne (pe_cf C_pence_in (hr.mono (by decide)) (by rfl) (pa_cons (pv 5) pa_nil)) (pv 4) (nomark _))
             (pss_one (ps_ret pe_bl))
             pss_nil))))))))
      (pss_one (ps_ret pe_bl))))))), ?_⟩
    have fit : ∀ {m : Nat}, m ≤ 1000 → m ≤ sizeLine := size_small
    refine ⟨(by show 14 ≤ sizeLine; decide), fun k1 n1 => ?_⟩
    refine ⟨_, rfl, (by show 11 ≤ sizeLine; decide), fun k2 n2 => ⟨k1, k2, kn1.map V.str, kn2.map V.str, rfl, rfl, (same_new n2) _ _ upd_same, upd_same, (by show 25 ≤ sizeLine; decide), fun k3 n3 => ?_⟩⟩
    refine ⟨_, rfl, _, _, rfl, rfl, mulOk_9 (by decide) (by decide), _, _, rfl, rfl, by decide +kernel, _, _, rfl, rfl, mulOk_9 (by decide) (by decide), _, _, rfl, rfl, by decide +kernel, (by show 7 ≤ sizeLine; decide), fun k4 n4 => ⟨k3, k4, kn1.map V.str ++ kn2.map V.str, kn3.map V.str, rfl, rfl, (same_new n4) _ _ upd_same, upd_same, (by show 32 ≤ sizeLine; decide), fun k5 n5 => ?_⟩⟩
    refine ⟨_, rfl, (by show 7 ≤ sizeLine; decide), fun k6 n6 => ⟨k5, k6, kn1.map V.str ++ kn2.map V.str ++ kn3.map V.str, kn4.map V.str, rfl, rfl, (same_new n6) _ _ upd_same, upd_same, (by show 39 ≤ sizeLine; decide), fun kn nn => ?_⟩⟩
    have sK : Same H _ := (((((same_new (o := .lst (kn1.map V.str)) n1).trans (same_new (o := .lst (kn2.map V.str)) n2)).trans (same_new (o := .lst (kn1.map V.str ++ kn2.map V.str)) n3)).trans (same_new (o := .lst (kn3.map V.str)) n4)).trans (same_new (o := .lst (kn1.map V.str ++ kn2.map V.str ++ kn3.map V.str)) n5)).trans (same_new (o := .lst (kn4.map V.str)) n6)
    have sK2 := sK.trans (same_new (o := .lst (kn1.map V.str ++ kn2.map V.str ++ kn3.map V.str ++ kn4.map V.str)) nn)
    have kS : Strs (kn1.map V.str ++ kn2.map V.str ++ kn3.map V.str ++ kn4.map V.str) := (((strs_of (by decide +kernel)).app (strs_of (by decide +kernel))).app (strs_of (by decide +kernel))).app (strs_of (by decide +kernel))
    have kL : (kn1.map V.str ++ kn2.map V.str ++ kn3.map V.str ++ kn4.map V.str).length = 39 := by decide +kernel
    have eKn := upd_same (H := upd (upd (upd (upd (upd (upd H k1 (.lst (kn1.map V.str))) k2 (.lst (kn2.map V.str))) k3 (.lst (kn1.map V.str ++ kn2.map V.str))) k4 (.lst (kn3.map V.str))) k5 (.lst (kn1.map V.str ++ kn2.map V.str ++ kn3.map V.str))) k6 (.lst (kn4.map V.str))) (a := kn) (o := .lst (kn1.map V.str ++ kn2.map V.str ++ kn3.map V.str ++ kn4.map V.str))
    obtain ⟨kxs, hkxs⟩ : ∃ kxs, kxs = kn1.map V.str ++ kn2.map V.str ++ kn3.map V.str ++ kn4.map V.str := ⟨_, rfl⟩
    rw [← hkxs] at kS kL eKn
    refine ⟨_, rfl, a, _, rfl, .inl (sK2.seq hS), _, _, rfl, _, _, rfl, rfl, _, rfl, ?_, ?_, for_range (fun i σ H' => ∃ s2 s3 s4 s5 s6 s7 s8 s9 s10 s11, σ = [some (.ref a), some (.ref kn), s2, s3, s4, s5, s6, s7, s8, s9, s10, s11] ∧ Same H H' ∧ H' kn = some (.lst kxs)) ⟨_, _, _, _, _, _, _, _, _, _, rfl, sK2, (by rw [hkxs]; exact upd_same)⟩ (fun i σ G hi h => ?_) (fun σ H' _ => q _)⟩
    · split <;> omega
    · split <;> omega
    clear eKn sK2 sK
    obtain ⟨s2, s3, s4, s5, s6, s7, s8, s9, s10, s11, rfl, sHG, eKn⟩ := h
    have sm := Same.refl G
    have hi2 : i < 8 := by
      have h1 : (1 + if (((ns.map V.int).length : Nat) : Int) < 6 then (((ns.map V.int).length : Nat) : Int) else 6) ≤ 7 := by split <;> omega
      omega
    refine ⟨_, rfl, _, rfl, a, _, ns, rfl, sHG.seq hS, by omega, by omega, fun H1 b nb sb hb => ?_⟩
    have nbG : G b = none := sm.free nb
    -- the pence
    refine ⟨_, rfl, _, _, rfl, rfl, ⟨by decide, by decide, by decide⟩, _, _, rfl, rfl, ⟨by decide, by decide, by decide⟩, _, _, rfl, rfl, (by show 3 ≤ sizeLine; decide), fun l hl => ?_⟩
    refine ⟨_, rfl, b, 3, 0, rfl, hb.new hl, by decide, by decide, by decide, fun r H2 r0 r1 b2 t2 => ?_⟩
    obtain ⟨m, hm, m0, m1⟩ := pick100 r0 r1
    refine ⟨l, _, _, _, rfl, rfl, SqL.of (t2 _ _ (hb.ne hl) upd_same), hm, b, m, _, rfl, b2, m0, by omega, by omega, fun p H3 p0 p1 b3 t3 => ?_⟩
    obtain ⟨n, rfl⟩ := Int.eq_ofNat_of_zero_le p0
    have hn : n ≤ 1000000000 := by omega
    have sm3 : Same G H3 := same_but (same_but (same_but (sm.trans sb) nbG (But.new hl)) nbG t2) nbG t3
    -- its text, the list
    have l1 : (Str.ofString (toString ((n : Int) / 60))).length ≤ 20 := by
      have e1 : ((n : Int) / 60) = ((n / 60 : Nat) : Int) := by omega
      rw [e1, TL.len_tl, TL.tl_num]
      have := TL.numL_len (n := n / 60) (k := 10) (by decide) (by omega)
      omega
    have l2 : (Str.ofString (toString ((n : Int) % 60 + 100))).length ≤ 20 := by
      have e2 : ((n : Int) % 60 + 100) = ((n % 60 + 100 : Nat) : Int) := by omega
      rw [e2, TL.len_tl, TL.tl_num]
      have := TL.numL_len (n := n % 60 + 100) (k := 10) (by decide) (by omega)
      omega
    have l3 := cutS_length (Str.ofString (toString ((n : Int) % 60 + 100))) (some 1) none
    refine ⟨_, rfl, _, _, rfl, rfl, ⟨by decide, by decide⟩, _, rfl, log_small (by omega), _, _, rfl, rfl, fit (by show _ + 1 ≤ 1000; omega), _, rfl, _, _, rfl, rfl, (by show (0 : Int) < 60; decide), _, _, rfl, rfl, _, rfl, log_small (by omega), _, rfl, _, rfl, fit (by omega), _, _, rfl, rfl, fit (by rw [len_app]; show _ + 1 + _ ≤ 1000; omega), ?_⟩
    refine ⟨_, rfl, kn, _, rfl, .inl (sm3.seq (SqL.of eKn)), fun L hL => ⟨_, _, rfl, ?_⟩⟩
    have et := text_made n
    have aT : Asc (ptS n) := fun c hc => by
      have hc2 : c ∈ ptL n := hc
      unfold ptL at hc2
      rcases List.mem_append.mp hc2 with z | z
      · have := TL.numL_digits _ c z
        omega
      · simp only [List.mem_cons, List.not_mem_nil, or_false] at z
        omega
    have lT := pcpt_len hn
    have nL : L ≠ b := b3.ne hL
    have nLG : G L = none := sm3.free hL
    have sm4 := sm3.trans (same_new (o := .lst kxs) hL)
    have b4 := b3.new (o := .lst kxs) hL
    refine ⟨_, rfl, by decide, by decide, for_range (fun j σ H' => ∃ s7 s8 s9 s10 s11 xs, σ = [some (.ref a), some (.ref kn), some (.int (0 + i)), some (.ref b), some (.int (n : Int)), some (.str (ptS n)), some (.ref L), s7, s8, s9, s10, s11] ∧ Same G H' ∧ Box H' b (2 + 7 * j) ∧ H' L = some (.lst xs) ∧ xs.length = 39 + j ∧ Strs xs)
      ⟨_, _, _, _, _, kxs, by rw [← et]; rfl, sm4, b4.mono (by omega), upd_same, kL, kS⟩ (fun j σ H' hj h => ?_) (fun σ H' h => ?_)⟩
    · obtain ⟨s7, s8, s9, s10, s11, xs, rfl, smj, bj, hxs, hln, hst⟩ := h
      have hj2 : j < 20 := hj
      refine ⟨_, rfl, _, rfl, b, _, ptS n, rfl, bj, by omega, aT, by omega, fun z H5 az lz b5 t5 => ?_⟩
      have fin : ∀ (z' : Str) (H6 : Hp), Asc z' → z'.length ≤ 60 → Box H6 b (2 + 7 * j + 7) → But b H5 H6 → ∃ xs', (upd H6 L (.lst (xs ++ [.str z']))) L = some (.lst xs') ∧ Same G (upd H6 L (.lst (xs ++ [.str z']))) ∧ Box (upd H6 L (.lst (xs ++ [.str z']))) b (2 + 7 * ((j + 1 : Nat) : Int)) ∧ xs'.length = 39 + (j + 1) ∧ Strs xs' := by
        intro z' H6 az' lz' b6 t6
        refine ⟨xs ++ [.str z'], upd_same, ?_, ?_, ?_, hst.app fun x hx => by rw [List.mem_singleton.mp hx]; exact ⟨z', rfl, lz', az'⟩⟩
        · exact fun c o e => by
            rw [upd_ne (ne_of_none e nLG)]
            exact (same_but (same_but smj nbG t5) nbG t6) _ _ e
        · obtain ⟨x', y', w', k0, kk⟩ := b6
          exact ⟨x', y', w', by rw [upd_ne nL.symm]; exact k0, by omega⟩
        · rw [List.length_append, hln]
          show 39 + j + 1 = _
          omega
      have hx5 := t5 _ _ nL hxs
      refine ⟨_, rfl, .inl ⟨rfl, _, SqL.of hx5⟩, _, rfl, b, 3, _, rfl, b5, by decide, by decide, by omega, fun r H6 r0' r1' b6 t6 => ?_⟩
      refine ⟨rfl, _, rfl, ite2 (fun e => ?_) (fun e => ?_)⟩
      · refine ⟨_, rfl, _, rfl, b, _, z, rfl, b6, by omega, az, lz, fun z' H7 az' lz' b7 t7 => ?_⟩
        refine ⟨L, _, _, rfl, rfl, t7 _ _ nL (t6 _ _ nL hx5), ?_, ?_⟩
        · rw [hln]
          exact small1000 (by omega)
        · obtain ⟨xs', h1, h2, h3, h4, h5⟩ := fin z' H7 az' lz' (b7.mono (by omega)) (t6.trans t7)
          exact ⟨_, _, _, _, _, xs', rfl, h2, h3, h1, h4, h5⟩
      · refine ⟨_, rfl, L, _, _, rfl, rfl, t6 _ _ nL hx5, ?_, ?_⟩
        · rw [hln]
          exact small1000 (by omega)
        · obtain ⟨xs', h1, h2, h3, h4, h5⟩ := fin z H6 az lz (b6.mono (by omega)) t6
          exact ⟨_, _, _, _, _, xs', rfl, h2, h3, h1, h4, h5⟩
    · obtain ⟨s7, s8, s9, s10, s11, xs, rfl, smj, bj, hxs, hln, hst⟩ := h
      refine ⟨_, rfl, _, rfl, (by show 1 ≤ sizeLine; decide), fun o1 no1 => ⟨L, o1, _, _, rfl, rfl, (same_new no1) _ _ hxs, upd_same, fit (by rw [hln]; show 39 + 20 + 1 ≤ 1000; decide), fun o2 no2 => ?_⟩⟩
      have smO := (smj.trans (same_new (o := .lst [.str (ptS n)]) no1)).trans (same_new (o := .lst (xs ++ [.str (ptS n)])) no2)
      have hst2 : Strs (xs ++ [.str (ptS n)]) := hst.app fun x hx => by rw [List.mem_singleton.mp hx]; exact ⟨_, rfl, by omega, aT⟩
      have eo2 := upd_same (H := upd H' o1 (.lst [.str (ptS n)])) (a := o2) (o := .lst (xs ++ [.str (ptS n)]))
      generalize upd (upd H' o1 (.lst [.str (ptS n)])) o2 (.lst (xs ++ [.str (ptS n)])) = G2 at *
      refine ⟨o2, rfl, ⟨_, SqL.of eo2⟩, for_list (K := K) (a := o2) (xs := xs ++ [.str (ptS n)]) (fun i' σ H' => ∃ s9 s10 s11, σ = [some (.ref a), some (.ref kn), some (.int (0 + i)), some (.ref b), some (.int (n : Int)), some (.str (ptS n)), some (.ref L), s7, s8, s9, s10, s11] ∧ Same G2 H') ⟨_, _, _, rfl, Same.refl G2⟩ (fun i' σ H' _ h => by obtain ⟨_, _, _, _, h⟩ := h; exact h.seq (SqL.of eo2)) (fun i' x σ H' hx h => ?_) (fun σ H' h => ?_)⟩
      · obtain ⟨s9, s10, s11, rfl, sg⟩ := h
        obtain ⟨z, rfl, lz, az⟩ := hst2 x (List.mem_of_getElem? hx)
        -- both tell the same
        refine ⟨_, rfl, z, rfl, lz, fun m H6 hm em s6 => ?_, fun H6 hno s6 => ?_⟩
        · refine ⟨_, rfl, z, rfl, lz, az, fun m' H7 hm' em' s7' => ?_, fun H7 hno s7' => absurd em (hno m hm)⟩
          have emm : m' = m := pcpt_inj (em'.symm.trans em)
          subst emm
          refine ⟨_, _, rfl, _, rfl, _, rfl, rfl, _, rfl, iteNS rfl ?_⟩
          refine ⟨_, rfl, _, _, _, _, false, rfl, .ty _, .base (.int _), kit_ty (by decide +kernel), _, rfl, iteF ?_⟩
          refine ⟨_, rfl, rfl, _, rfl, rfl, rfl, _, rfl, iteNS rfl ?_⟩
          exact ⟨_, _, _, rfl, (sg.trans s6).trans s7'⟩
        · refine ⟨_, rfl, z, rfl, lz, az, fun m' H7 hm' em' s7' => absurd em' (hno m' hm'), fun H7 _ s7' => ?_⟩
          refine ⟨_, _, rfl, _, rfl, _, rfl, rfl, _, rfl, iteNS rfl ?_⟩
          refine ⟨_, rfl, _, _, _, _, false, rfl, .ty _, .base .non, kit_ty (by decide +kernel), _, rfl, iteF ?_⟩
          refine ⟨_, rfl, rfl, _, rfl, rfl, rfl, _, rfl, iteNS rfl ?_⟩
          exact ⟨_, _, _, rfl, (sg.trans s6).trans s7'⟩
      · obtain ⟨s9, s10, s11, rfl, sg⟩ := h
        refine ⟨_, rfl, ptS n, rfl, by omega, fun m H6 hm em s6 => ?_, fun H6 hno s6 => absurd rfl (hno n hn)⟩
        have emm : n = m := pcpt_inj em
        subst emm
        refine ⟨_, rfl, rfl, _, rfl, iteNS rfl ?_⟩
        have sE := (smO.trans sg).trans s6
        exact ⟨_, _, _, _, _, _, _, _, _, _, rfl, sHG.trans sE, sE _ _ eKn⟩
end
theorem all_mk {l : PySem.W.OpenLaw} {w : World} {K : PySem.W.Frag} {h : Heap} {mg : Str → Option Value} {fa f0 f1 f2 f3 f4 f5 f6 f7 f8 : Addr} (X : K.In h) (G : h.Ns mainGlobals mg) (hfa : mg "law" = some (.ref fa))
    {od0 an0 od1 an1 od2 an2 od3 an3 od4 an4 od5 an5 od6 an6 od7 an7 od8 an8 : Option Addr} {sl0 sl1 sl2 sl3 sl4 sl5 sl6 sl7 sl8 : Array (Option Value)} {oc0 kV0 dc0 pm0 cd0 ct0 oc1 kV1 dc1 pm1 cd1 ct1 oc2 kV2 dc2 pm2 cd2 ct2 oc3 kV3 dc3 pm3 cd3 ct3 oc4 kV4 dc4 pm4 cd4 ct4 oc5 kV5 dc5 pm5 cd5 ct5 oc6 kV6 dc6 pm6 cd6 ct6 oc7 kV7 dc7 pm7 cd7 ct7 oc8 kV8 dc8 pm8 cd8 ct8 : Value}
    (a0 : PySem.W.nsIn K mainGlobals "_law_take" = some (some (.ref f0))) (l0 : K.lookup f0 = some ⟨oc0, od0, .func (PySem.W.fnOf "_law_take" "_law_take" (defArgs s__law_take) (defBody s__law_take) (defScope s__law_take) .none kV0 dc0 pm0 an0 cd0 ct0), sl0⟩) (c0 : PySem.W.codeIn K cd0 "_law_take" = true) (k0 : PySem.W.keepIn K (.ref f0) = true)
    (a1 : PySem.W.nsIn K mainGlobals "_law_box" = some (some (.ref f1))) (l1 : K.lookup f1 = some ⟨oc1, od1, .func (PySem.W.fnOf "_law_box" "_law_box" (defArgs s__law_box) (defBody s__law_box) (defScope s__law_box) .none kV1 dc1 pm1 an1 cd1 ct1), sl1⟩) (c1 : PySem.W.codeIn K cd1 "_law_box" = true) (k1 : PySem.W.keepIn K (.ref f1) = true)
    (a2 : PySem.W.nsIn K mainGlobals "is_made_of" = some (some (.ref f2))) (l2 : K.lookup f2 = some ⟨oc2, od2, .func (PySem.W.fnOf "is_made_of" "is_made_of" (defArgs s_is_made_of) (defBody s_is_made_of) (defScope s_is_made_of) .none kV2 dc2 pm2 an2 cd2 ct2), sl2⟩) (c2 : PySem.W.codeIn K cd2 "is_made_of" = true) (k2 : PySem.W.keepIn K (.ref f2) = true)
    (a3 : PySem.W.nsIn K mainGlobals "pence_text" = some (some (.ref f3))) (l3 : K.lookup f3 = some ⟨oc3, od3, .func (PySem.W.fnOf "pence_text" "pence_text" (defArgs s_pence_text) (defBody s_pence_text) (defScope s_pence_text) .none kV3 dc3 pm3 an3 cd3 ct3), sl3⟩) (c3 : PySem.W.codeIn K cd3 "pence_text" = true) (k3 : PySem.W.keepIn K (.ref f3) = true)
    (a4 : PySem.W.nsIn K mainGlobals "pence_in" = some (some (.ref f4))) (l4 : K.lookup f4 = some ⟨oc4, od4, .func (PySem.W.fnOf "pence_in" "pence_in" (defArgs s_pence_in) (defBody s_pence_in) (defScope s_pence_in) .none kV4 dc4 pm4 an4 cd4 ct4), sl4⟩) (c4 : PySem.W.codeIn K cd4 "pence_in" = true) (k4 : PySem.W.keepIn K (.ref f4) = true)
    (a5 : PySem.W.nsIn K mainGlobals "_law_number" = some (some (.ref f5))) (l5 : K.lookup f5 = some ⟨oc5, od5, .func (PySem.W.fnOf "_law_number" "_law_number" (defArgs s__law_number) (defBody s__law_number) (defScope s__law_number) .none kV5 dc5 pm5 an5 cd5 ct5), sl5⟩) (c5 : PySem.W.codeIn K cd5 "_law_number" = true) (k5 : PySem.W.keepIn K (.ref f5) = true)
    (a6 : PySem.W.nsIn K mainGlobals "_law_due" = some (some (.ref f6))) (l6 : K.lookup f6 = some ⟨oc6, od6, .func (PySem.W.fnOf "_law_due" "_law_due" (defArgs s__law_due) (defBody s__law_due) (defScope s__law_due) .none kV6 dc6 pm6 an6 cd6 ct6), sl6⟩) (c6 : PySem.W.codeIn K cd6 "_law_due" = true) (k6 : PySem.W.keepIn K (.ref f6) = true)
    (a7 : PySem.W.nsIn K mainGlobals "_law_spoilt" = some (some (.ref f7))) (l7 : K.lookup f7 = some ⟨oc7, od7, .func (PySem.W.fnOf "_law_spoilt" "_law_spoilt" (defArgs s__law_spoilt) (defBody s__law_spoilt) (defScope s__law_spoilt) .none kV7 dc7 pm7 an7 cd7 ct7), sl7⟩) (c7 : PySem.W.codeIn K cd7 "_law_spoilt" = true) (k7 : PySem.W.keepIn K (.ref f7) = true)
    (a8 : PySem.W.nsIn K mainGlobals "law" = some (some (.ref f8))) (l8 : K.lookup f8 = some ⟨oc8, od8, .func (PySem.W.fnOf "law" "law" (defArgs s_law) (defBody s_law) (defScope s_law) .none kV8 dc8 pm8 an8 cd8 ct8), sl8⟩) (c8 : PySem.W.codeIn K cd8 "law" = true) (k8 : PySem.W.keepIn K (.ref f8) = true)
    (z_len : PySem.W.nsIn K mainGlobals "len" = some none) (z_abs : PySem.W.nsIn K mainGlobals "abs" = some none) (z_int : PySem.W.nsIn K mainGlobals "int" = some none) (z_all : PySem.W.nsIn K mainGlobals "all" = some none) (z_divmod : PySem.W.nsIn K mainGlobals "divmod" = some none) (z_range : PySem.W.nsIn K mainGlobals "range" = some none) (z_min : PySem.W.nsIn K mainGlobals "min" = some none) (z_list : PySem.W.nsIn K mainGlobals "list" = some none) (z_str : PySem.W.nsIn K mainGlobals "str" = some none) (z_isinstance : PySem.W.nsIn K mainGlobals "isinstance" = some none) (z_bool : PySem.W.nsIn K mainGlobals "bool" = some none)
    {t_CROWN : Tok} (y_CROWN : PySem.W.nsIn K mainGlobals "CROWN" = some (some (.int 60 t_CROWN)))
    {t_LONGEST_SUM : Tok} (y_LONGEST_SUM : PySem.W.nsIn K mainGlobals "LONGEST_SUM" = some (some (.int 60 t_LONGEST_SUM)))
    {t_FIGURES : Tok} (y_FIGURES : PySem.W.nsIn K mainGlobals "FIGURES" = some (some (.str (Str.ofString "0123456789") t_FIGURES)))
    {t_MOST_PENCE : Tok} (y_MOST_PENCE : PySem.W.nsIn K mainGlobals "MOST_PENCE" = some (some (.int 1000000000 t_MOST_PENCE)))
    (zD : PySem.W.nsIn K cStatics "sys.int_max_str_digits" = some none) :
    ∃ fd : FuncData, (∀ (s : Shared) (v : Value), BindsTo s fd ⟨[v], []⟩ [("_law_script", v)]) ∧ ∀ base : Heap, K.In base → base.Ns mainGlobals mg → FnOk l.prog w K mg base CX0 3 fa fd ["_law_script"] (sp_law K) := by
  have e := hfa.symm.trans (PySem.W.mg_of X G a8)
  cases e
  have F0 := fun_mk (st := s__law_take) l0 c0 k0
  have b0 := F0.binds (ps := ["_law_box_here", "_law_many"]) fun _ _ _ _ _ _ us hl => match us, hl with | [_, _], _ => rfl
  have g0 := PySem.W.mg_of X G a0
  have F1 := fun_mk (st := s__law_box) l1 c1 k1
  have b1 := F1.binds (ps := ["_law_script", "_law_k"]) fun _ _ _ _ _ _ us hl => match us, hl with | [_, _], _ => rfl
  have g1 := PySem.W.mg_of X G a1
  have F2 := fun_mk (st := s_is_made_of) l2 c2 k2
  have b2 := F2.binds (ps := ["text", "signs"]) fun _ _ _ _ _ _ us hl => match us, hl with | [_, _], _ => rfl
  have g2 := PySem.W.mg_of X G a2
  have F3 := fun_mk (st := s_pence_text) l3 c3 k3
  have b3 := F3.binds (ps := ["pence"]) fun _ _ _ _ _ _ us hl => match us, hl with | [_], _ => rfl
  have g3 := PySem.W.mg_of X G a3
  have F4 := fun_mk (st := s_pence_in) l4 c4 k4
  have b4 := F4.binds (ps := ["text"]) fun _ _ _ _ _ _ us hl => match us, hl with | [_], _ => rfl
  have g4 := PySem.W.mg_of X G a4
  have F5 := fun_mk (st := s__law_number) l5 c5 k5
  have b5 := F5.binds (ps := ["_law_word", "_law_most"]) fun _ _ _ _ _ _ us hl => match us, hl with | [_, _], _ => rfl
  have g5 := PySem.W.mg_of X G a5
  have F6 := fun_mk (st := s__law_due) l6 c6 k6
  have b6 := F6.binds (ps := ["_law_text"]) fun _ _ _ _ _ _ us hl => match us, hl with | [_], _ => rfl
  have g6 := PySem.W.mg_of X G a6
  have F7 := fun_mk (st := s__law_spoilt) l7 c7 k7
  have b7 := F7.binds (ps := ["_law_box_here", "_law_text"]) fun _ _ _ _ _ _ us hl => match us, hl with | [_, _], _ => rfl
  have g7 := PySem.W.mg_of X G a7
  have F8 := fun_mk (st := s_law) l8 c8 k8
  have m_len := PySem.W.mg_none_of X G z_len
  have m_abs := PySem.W.mg_none_of X G z_abs
  have m_int := PySem.W.mg_none_of X G z_int
  have m_all := PySem.W.mg_none_of X G z_all
  have m_divmod := PySem.W.mg_none_of X G z_divmod
  have m_range := PySem.W.mg_none_of X G z_range
  have m_min := PySem.W.mg_none_of X G z_min
  have m_list := PySem.W.mg_none_of X G z_list
  have m_str := PySem.W.mg_none_of X G z_str
  have m_isinstance := PySem.W.mg_none_of X G z_isinstance
  have m_bool := PySem.W.mg_none_of X G z_bool
  have g_CROWN := PySem.W.mg_of X G y_CROWN
  have g_LONGEST_SUM := PySem.W.mg_of X G y_LONGEST_SUM
  have g_FIGURES := PySem.W.mg_of X G y_FIGURES
  have g_MOST_PENCE := PySem.W.mg_of X G y_MOST_PENCE
  refine ⟨PySem.W.fnOf "law" "law" (defArgs s_law) (defBody s_law) (defScope s_law) .none kV8 dc8 pm8 an8 cd8 ct8, fun s v => .of_eq rfl, fun base _ _ => ?_⟩
  have C__law_take := ok__law_take (P := l.prog) (w := w) (base := base) F0 g0 b0
  have C__law_box := ok__law_box (P := l.prog) (w := w) (base := base) F1 g1 b1 m_len m_abs m_int
  have C_is_made_of := ok_is_made_of (P := l.prog) (w := w) (base := base) F2 g2 b2 m_all
  have C_pence_text := ok_pence_text (P := l.prog) (w := w) (base := base) F3 g3 b3 zD m_divmod g_CROWN
  have C_pence_in := ok_pence_in (P := l.prog) (w := w) (base := base) F4 g4 b4 m_len m_int g_LONGEST_SUM g_FIGURES g_CROWN g_MOST_PENCE C_is_made_of C_pence_text
  have C__law_number := ok__law_number (P := l.prog) (w := w) (base := base) F5 g5 b5 m_len
  have C__law_due := ok__law_due (P := l.prog) (w := w) (base := base) F6 g6 b6 m_len C__law_number
  have C__law_spoilt := ok__law_spoilt (P := l.prog) (w := w) (base := base) F7 g7 b7 m_len C__law_take
  exact ok_law F8 m_range m_min m_len m_list m_str m_isinstance m_bool C__law_box C__law_take C__law_spoilt C__law_due C_pence_in
end Pw
open PySem PySem.W PyProof.Rows
set_option maxHeartbeats 0 in
theorem PySem.Challenge.cw_partwares_k03_pence_texts_spoilt_holds : PySem.Challenge.rw_partwares_k03_pence_texts_spoilt.Holds := by
  w_on; o_law; k_head; (case hw => w_witness2)
  k_fill
  refine L2.walk_of (l := PySem.Challenge.rw_partwares_k03_pence_texts_spoilt) (n := 63) (k := 3) (x := "_law_script") (CX := fun _ => L2.CX0) (sp := fun w => Pw.sp_law _) rfl (by decide) rfl ⟨rfl, by decide, by decide⟩ (fun w h Y => PySem.W.kIn_of Y) ?F (fun _ _ a ns hl _ hS => ⟨a, ns, rfl, hS, hl, fun _ => rfl⟩) (fun _ _ _ _ _ h => h)
  case F =>
    intro w mg fa h KX G hmg
    refine' Pw.all_mk KX G hmg ?a0 ?l0 ?c0 ?k0 ?a1 ?l1 ?c1 ?k1 ?a2 ?l2 ?c2 ?k2 ?a3 ?l3 ?c3 ?k3 ?a4 ?l4 ?c4 ?k4 ?a5 ?l5 ?c5 ?k5 ?a6 ?l6 ?c6 ?k6 ?a7 ?l7 ?c7 ?k7 ?a8 ?l8 ?c8 ?k8 ?z_len ?z_abs ?z_int ?z_all ?z_divmod ?z_range ?z_min ?z_list ?z_str ?z_isinstance ?z_bool ?y_CROWN ?y_LONGEST_SUM ?y_FIGURES ?y_MOST_PENCE ?zD
    (case a0 => k_is); (case l0 => k_is); (case c0 => k_is); (case k0 => k_is); (case a1 => k_is); (case l1 => k_is); (case c1 => k_is); (case k1 => k_is); (case a2 => k_is); (case l2 => k_is); (case c2 => k_is); (case k2 => k_is); (case a3 => k_is); (case l3 => k_is); (case c3 => k_is); (case k3 => k_is); (case a4 => k_is); (case l4 => k_is); (case c4 => k_is); (case k4 => k_is); (case a5 => k_is); (case l5 => k_is); (case c5 => k_is); (case k5 => k_is); (case a6 => k_is); (case l6 => k_is); (case c6 => k_is); (case k6 => k_is); (case a7 => k_is); (case l7 => k_is); (case c7 => k_is); (case k7 => k_is); (case a8 => k_is); (case l8 => k_is); (case c8 => k_is); (case k8 => k_is); (case z_len => k_is); (case z_abs => k_is); (case z_int => k_is); (case z_all => k_is); (case z_divmod => k_is); (case z_range => k_is); (case z_min => k_is); (case z_list => k_is); (case z_str => k_is); (case z_isinstance => k_is); (case z_bool => k_is); (case y_CROWN => k_is); (case y_LONGEST_SUM => k_is); (case y_FIGURES => k_is); (case y_MOST_PENCE => k_is); (case zD => k_is)
