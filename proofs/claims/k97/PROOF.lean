import PyProof.Rows.All
import Wide.All
import OpenK.AllK
import Wide.FinOn
import HandS.Base
import HandS.Call
import HandS.List
import HandS.Comp
import HandS.Ends
import HandS.Iter
import HandS.Text
import HandS.Words
import HandS.WordsList
import HandS.IsInst
import HandS.Style
import HandS.Walk
import HandS.Defaults
import HandS.TupMul
import HandS.Zip
import HandS.MakeKw
import HandS.Exc
import HandS.ExcOwn
import HandS.ExcIs
import HandS.ExcField
import HandS.TryOnly
import HandS.TryMany
import HandS.RaiseMore
import HandS.ExcValue
import HandS.WordsExc
import HandS.Codes
import HandS.Nested
import HandS.ExcInit
import KE.KSuper
import KE.KExcSuper
import KE.KExcIs
import KE.RegKSuper
import HandS.Conv
import PySem.Challenge.RW_partwares_k97_errors_made_by_hand
set_option Elab.async false
set_option linter.all false
set_option maxRecDepth 100000
namespace Pw
open PySem PySem.Spec PyProof.Rows L2
/-! ### a def of the text by its promise, its address left aside -/
structure CF (P : Program) (w : World) (K : PySem.W.Frag) (mg : Str → Option Value) (base : Heap) (k : Nat) (x : Str) (ps : List Str) (sp : Sp) : Prop where
  ex : ∃ (f : Addr) (fd : FuncData), FnOk P w K mg base CX0 k f fd ps sp ∧ mg x = some (.ref f) ∧ PySem.W.keepIn K (.ref f) = true ∧ Binds K fd ps []
theorem pe_cf {X : Cx} {k : Nat} {x : Str} {ps : List Str} {sp : Sp} {e : Expr} {es : List Expr} {t : TA} {p pos : Pos} (C : CF X.prog X.w X.K X.mg X.base k x ps sp) (hr : Room k X.A) (hg : Gl X x) (ha : PA X (e :: es) t)
    (hdb : (x == ("__debug__" : Str)) = false := by decide) (he : starEach (e :: es) X.env = (false, eval e X.env) :: starEach es X.env := by rfl) (hpl : (backTo pos (starEach es X.env)).any (·.1) = false := by rfl) :
    PE X (.Call (.Name x p) (e :: es) [] pos) (tCall sp [] E0 t) := by
  obtain ⟨f, fd, F, g, kp, b⟩ := C.ex
  exact pe_call F hr hg g kp b .nil pass0 ha hdb he hpl
theorem pe_cf0 {X : Cx} {k : Nat} {x : Str} {sp : Sp} {p pos : Pos} (C : CF X.prog X.w X.K X.mg X.base k x [] sp) (hr : Room k X.A) (hg : Gl X x) (hdb : (x == ("__debug__" : Str)) = false := by decide) : PE X (.Call (.Name x p) [] [] pos) (tCall sp [] E0 tNil) := by
  obtain ⟨f, fd, F, g, kp, b⟩ := C.ex
  exact pe_call0 F hr hg g kp b .nil pass0 hdb
/-! ### the rules with their written part named (within a comprehension it must not hang on the block) -/
section
variable (K : PySem.W.Frag) {X : Cx}
theorem kk_isi (h : X.K = K := by rfl) : CallR X (.builtin "isinstance") (rIsi K) := h ▸ call_isi
theorem kk_isiT (h : X.K = K := by rfl) : CallR X (.builtin "isinstance") (rIsiT K) := h ▸ call_isiT
theorem kk_len (h : X.K = K := by rfl) : CallR X (.builtin "len") (fun xs H Q => ∃ p ys, xs = [.ref p] ∧ (SqL K H p ys ∨ SqT K H p ys) ∧ Q (.int ys.length) H) := h ▸ call_len_seq
theorem kk_list (h : X.K = K := by rfl) : CallR X (.type "list") (fun xs H Q => ∃ p ys, xs = [.ref p] ∧ (SqL K H p ys ∨ SqT K H p ys) ∧ ∀ l, H l = none → Q (.ref l) (upd H l (.lst ys))) := h ▸ call_list_of
theorem kk_tuple (h : X.K = K := by rfl) : CallR X (.type "tuple") (fun xs H Q => ∃ p ys, xs = [.ref p] ∧ ((SqL K H p ys ∧ ∀ l, H l = none → Q (.ref l) (upd H l (.tup ys))) ∨ (SqT K H p ys ∧ Q (.ref p) H))) := h ▸ call_tuple_of
theorem kk_sum (hc : X.calm = true) (h : X.K = K := by rfl) : CallR X (.builtin "sum") (rSum K) := h ▸ cr_sum hc
theorem kk_max (hc : X.calm = true) (h : X.K = K := by rfl) : CallR X (.builtin "max") (rMax K) := h ▸ cr_max hc
theorem kk_min (hc : X.calm = true) (h : X.K = K := by rfl) : CallR X (.builtin "min") (rMin K) := h ▸ cr_min hc
theorem kk_any (hc : X.calm = true) (h : X.K = K := by rfl) : CallR X (.builtin "any") (rAny K) := h ▸ cr_any hc
theorem kk_all (hc : X.calm = true) (h : X.K = K := by rfl) : CallR X (.builtin "all") (rAll K) := h ▸ cr_all hc
theorem kk_sorted (h : X.K = K := by rfl) : CallR X (.builtin "sorted") (rSorted K) := h ▸ cr_sorted
theorem kk_ixl (h : X.K = K := by rfl) : IxR X (rIxL K) := h ▸ ix_list
theorem kk_ixt (h : X.K = K := by rfl) : IxR X (rIxT K) := h ▸ ix_tup
theorem kk_sll (h : X.K = K := by rfl) : SlR X (rSlL K) := h ▸ sl_list
theorem kk_slt (h : X.K = K := by rfl) : SlR X (rSlT K) := h ▸ sl_tup
theorem kk_in (h : X.K = K := by rfl) : OpR X (compareOp .In) (rIn K false) := h ▸ op_in_seq
theorem kk_nin (h : X.K = K := by rfl) : OpR X (compareOp .NotIn) (rIn K true) := h ▸ op_notIn_seq
theorem kk_catT (h : X.K = K := by rfl) : OpR X (binaryOp .Add) (rCatT K) := h ▸ op_catT
theorem kk_eqD (hu : X.A.units + 64 < cLine) (h : X.K = K := by rfl) : OpR X (compareOp .Eq) (rEqD K) := h ▸ op_eqD hu
theorem kk_neD (hu : X.A.units + 64 < cLine) (h : X.K = K := by rfl) : OpR X (compareOp .NotEq) (rNeD K) := h ▸ op_neD hu
theorem kk_revL {e : Expr} {te : TE} {k : Nat} {p1 p2 p3 pos : Pos} (he : PE X e te) (h : X.K = K := by rfl) : PE X (.Subscript e (.Slice none none (some (.UnaryOp .USub (.Constant (.int 1) k p1) p2)) p3) pos) (tRevL K te) := h ▸ pe_revL he
end
/-! ### heaps: all as it was, but one place -/
def But (b : Addr) (H H' : Hp) : Prop := ∀ c o, c ≠ b → H c = some o → H' c = some o
theorem But.refl (b : Addr) (H : Hp) : But b H H := fun _ _ _ h => h
theorem But.trans {b : Addr} {H H1 H2 : Hp} (x : But b H H1) (y : But b H1 H2) : But b H H2 := fun c o n h => y c o n (x c o n h)
theorem But.of {b : Addr} {H H1 : Hp} (x : Same H H1) : But b H H1 := fun c o _ h => x c o h
theorem But.upd {b : Addr} {H : Hp} {o : HO} : But b H (L2.upd H b o) := fun c u n h => by
  rw [upd_ne n]
  exact h
theorem But.new {b p : Addr} {H : Hp} {o : HO} (h : H p = none) : But b H (L2.upd H p o) := fun c u _ e => by
  rw [upd_ne (ne_of_none e h)]
  exact e
theorem same_new {H : Hp} {p : Addr} {o : HO} (h : H p = none) : Same H (upd H p o) := fun b x e => by
  rw [upd_ne (ne_of_none e h)]
  exact e
theorem But.seq {K : PySem.W.Frag} {b a : Addr} {H H' : Hp} {xs : List V} (e : But b H H') (n : a ≠ b) (h : SqL K H a xs) : SqL K H' a xs := by
  rcases h with (h | ⟨o, h⟩) | h
  · exact .inl (.inl (e _ _ n h))
  · exact .inl (.inr ⟨o, e _ _ n h⟩)
  · exact .inr h
/-! ### the law's box of three numbers -/
def Box (H : Hp) (b : Addr) (n : Int) : Prop := ∃ x y z : Int, H b = some (.lst [.int x, .int y, .int z]) ∧ 0 ≤ x ∧ 0 ≤ y ∧ y ≤ 3000000000 ∧ 0 ≤ z ∧ z ≤ n
theorem Box.mono {H : Hp} {b : Addr} {n m : Int} (h : Box H b n) (l : n ≤ m) : Box H b m := by
  obtain ⟨x, y, z, h0, h1, h2, h3, h4, h5⟩ := h
  exact ⟨x, y, z, h0, h1, h2, h3, h4, by omega⟩
theorem Box.same {H H' : Hp} {b : Addr} {n : Int} (e : Same H H') (h : Box H b n) : Box H' b n := by
  obtain ⟨x, y, z, h0, h1⟩ := h
  exact ⟨x, y, z, e _ _ h0, h1⟩
theorem Box.new {H : Hp} {b p : Addr} {o : HO} {n : Int} (h : Box H b n) (e : H p = none) : Box (upd H p o) b n := h.same (same_new e)
theorem Box.ne {H : Hp} {b p : Addr} {n : Int} (h : Box H b n) (e : H p = none) : p ≠ b := fun z => by
  obtain ⟨_, _, _, h0, _⟩ := h
  rw [z, h0] at e
  cases e
section
variable {K : PySem.W.Frag}
theorem at_int {ns : List Int} {k : Int} (h0 : 0 ≤ k) (h1 : k < ns.length) : ∃ c, atI (ns.map V.int) k = some (.int c) := by
  obtain ⟨j, rfl⟩ := Int.eq_ofNat_of_zero_le h0
  have hj : j < ns.length := by omega
  refine ⟨ns[j], atI_nat ?_⟩
  rw [List.getElem?_map, List.getElem?_eq_getElem hj]
  rfl
def partsL (p m : Int) : List Int := List.replicate (p % m).toNat (p / m + 1) ++ List.replicate (m - p % m).toNat (p / m)
theorem rep1 {α : Type} (k : Nat) (x : α) : (List.replicate k [x]).flatten = List.replicate k x := by
  induction k with
  | zero => rfl
  | succ n ih => rw [List.replicate_succ, List.flatten_cons, ih]; rfl
theorem size_small {n : Nat} (h : n ≤ 1000) : n ≤ sizeLine := Nat.le_of_lt (small1000 h)
theorem iteN {c A B : Prop} [Decidable c] (hc : ¬ c) (h : B) : if decide c = true then A else B := by
  rw [decide_eq_false hc]
  exact iteF h
theorem iteY {c A B : Prop} [Decidable c] (hc : c) (h : A) : if decide c = true then A else B := by
  rw [decide_eq_true hc]
  exact iteT h
theorem same_but {b : Addr} {H0 H1 H2 : Hp} (s : Same H0 H1) (n : H0 b = none) (t : But b H1 H2) : Same H0 H2 := fun c o h => t c o (fun e => by rw [e, n] at h; cases h) (s c o h)
theorem dpAll_ints {H : Hp} : ∀ ns : List Int, DpAll K H (ns.map V.int) (ns.map PyData.int)
  | [] => .nil
  | n :: r => .cons (.int n) (dpAll_ints r)
theorem dp_ints {H : Hp} {a : Addr} {ns : List Int} (h : SqL K H a (ns.map V.int)) : Dp K H (.ref a) (.list (ns.map PyData.int)) := .lst h (dpAll_ints ns)
theorem lay_ints : ∀ ns : List Int, PyData.canLayAll0 (ns.map PyData.int) = true
  | [] => by simp [PyData.canLayAll0]
  | n :: r => by simp [PyData.canLayAll0, PyData.canLay0, lay_ints r]
theorem depth_ints : ∀ ns : List Int, PyData.depthAll (ns.map PyData.int) ≤ 1
  | [] => by simp [PyData.depthAll]
  | n :: r => by
    have h := depth_ints r
    simp only [List.map_cons, PyData.depthAll, PyData.depth]
    omega
theorem sh_ints (ns : List Int) : SeqAt.shaped (.list (ns.map PyData.int)) = true := by
  have h1 := depth_ints ns
  have h2 : PyData.depth (.list (ns.map PyData.int)) ≤ 64 := by
    simp only [PyData.depth]
    omega
  show (PyData.canLay0 (.list (ns.map PyData.int)) && decide (PyData.depth (.list (ns.map PyData.int)) ≤ 64)) = true
  rw [Bool.and_eq_true]
  exact ⟨by simp only [PyData.canLay0]; exact lay_ints ns, decide_eq_true h2⟩
theorem eqv_same (ns : List Int) : PyData.eqv (.list (ns.map PyData.int)) (.list (ns.map PyData.int)) = true := SeqAt.eqv_refl _ (SeqAt.canLay_of_shaped (sh_ints ns))

theorem sum_rep (k : Nat) (x : Int) : (List.replicate k x).sum = k * x := by
  induction k with
  | zero => simp
  | succ n ih =>
    rw [List.replicate_succ, List.sum_cons, ih, Int.natCast_add, Int.add_mul]
    omega
theorem parts_len {p m : Int} (hm : 1 ≤ m) : ((partsL p m).length : Int) = m := by
  have hr0 := Int.emod_nonneg p (show m ≠ 0 by omega)
  have hr1 := Int.emod_lt_of_pos p (show 0 < m by omega)
  unfold partsL
  rw [List.length_append, List.length_replicate, List.length_replicate]
  omega
theorem parts_sum {p m : Int} (hm : 1 ≤ m) : (partsL p m).sum = p := by
  have hr0 := Int.emod_nonneg p (show m ≠ 0 by omega)
  have hr1 := Int.emod_lt_of_pos p (show 0 < m by omega)
  have e := Int.mul_ediv_add_emod p m
  unfold partsL
  rw [List.sum_append, sum_rep, sum_rep, Int.toNat_of_nonneg hr0, Int.toNat_of_nonneg (by omega), Int.sub_mul, Int.mul_add]
  omega
theorem parts_mem {p m x : Int} (h : x ∈ partsL p m) : x = p / m + 1 ∨ x = p / m := by
  unfold partsL at h
  rcases List.mem_append.mp h with h | h
  · exact .inl (List.eq_of_mem_replicate h)
  · exact .inr (List.eq_of_mem_replicate h)
theorem parts_fall (p m : Int) : (partsL p m).Pairwise (fun a b => b ≤ a) := by
  unfold partsL
  refine List.pairwise_append.mpr ⟨List.pairwise_replicate.mpr (.inr (Int.le_refl _)), List.pairwise_replicate.mpr (.inr (Int.le_refl _)), fun a ha b hb => ?_⟩
  rw [List.eq_of_mem_replicate ha, List.eq_of_mem_replicate hb]
  omega
theorem parts_sorted {p m : Int} {ns : List Int} (h : ns.Perm (partsL p m)) (hs : ns.Pairwise (· ≤ ·)) : ns.reverse = partsL p m := by
  refine List.Perm.eq_of_pairwise (le := fun a b => b ≤ a) (fun x y _ _ h1 h2 => Int.le_antisymm h2 h1) ?_ (parts_fall p m) ((List.reverse_perm ns).trans h)
  exact List.pairwise_reverse.mpr hs
theorem ends_of {ns : List Int} (h : 0 < ns.length) : ∃ x y, x ∈ ns ∧ y ∈ ns ∧ atI (ns.map V.int) 0 = some (.int x) ∧ atI (ns.map V.int) (-1) = some (.int y) := by
  cases ns with
  | nil => cases h
  | cons x r =>
    refine ⟨x, (x :: r).getLast (List.cons_ne_nil _ _), List.mem_cons_self, List.getLast_mem _, atI_nat (j := 0) rfl, ?_⟩
    have hz : ((x :: r).map V.int) = ((x :: r).dropLast.map V.int) ++ [.int ((x :: r).getLast (List.cons_ne_nil _ _))] := by
      rw [← List.map_singleton, ← List.map_append, List.dropLast_concat_getLast]
    rw [hz]
    exact atI_last _ _
theorem all_true (n : Nat) : (List.replicate n true).all id = true := by
  induction n with
  | zero => rfl
  | succ k ih => rw [List.replicate_succ, List.all_cons, ih]; rfl
theorem pick6 {r x : Int} (h0 : 0 ≤ r) (h1 : r < 6) (x0 : 0 ≤ x) (x1 : x ≤ 100) : ∃ c : Int, atI [V.int 0, .int 1, .int 50, .int 99, .int 100, .int x] r = some (.int c) ∧ 0 ≤ c ∧ c ≤ 100 := by
  have h : r = 0 ∨ r = 1 ∨ r = 2 ∨ r = 3 ∨ r = 4 ∨ r = 5 := by omega
  rcases h with rfl | rfl | rfl | rfl | rfl | rfl
  · exact ⟨0, rfl, by decide, by decide⟩
  · exact ⟨1, rfl, by decide, by decide⟩
  · exact ⟨50, rfl, by decide, by decide⟩
  · exact ⟨99, rfl, by decide, by decide⟩
  · exact ⟨100, rfl, by decide, by decide⟩
  · exact ⟨x, rfl, x0, x1⟩
end
end Pw
namespace Pw
open PySem PySem.Spec PyProof.Rows L2
/-! ### texts and data -/
theorem op_mul_str {X : Cx} : OpR X (binaryOp .Mult) (fun x y H Q => ∃ (z : Str) (k : Int), x = .str z ∧ y = .int k ∧ MulOk z k ∧ Q (.str (Txt.mul z k)) H) := by
  intro pins s σ H x y v u Q I rx ry h
  obtain ⟨z, k, rfl, rfl, ok, q⟩ := h
  obtain ⟨t, rfl⟩ := rx
  obtain ⟨t', rfl⟩ := ry
  exact SB.mul ok fun t' tk => ⟨.str _, H, I.tok _, ⟨_, rfl⟩, q⟩
theorem len_app (x y : Str) : (x ++ y).length = x.length + y.length := by
  rw [TL.len_tl, TL.tl_append, List.length_append, ← TL.len_tl, ← TL.len_tl]
def tyD : PyData → String
  | .none => "NoneType"
  | .bool _ => "bool"
  | .int _ => "int"
  | .str _ => "str"
  | .list _ => "list"
  | .tuple _ => "tuple"
  | .dict _ => "dict"
theorem ty_of_dp {K : PySem.W.Frag} {H : Hp} {x : V} {d : PyData} (h : Dp K H x d) : TyX K H x (.type (tyD d)) := by
  cases h with
  | non => exact .base .non
  | bl b => exact .base (.bl b)
  | int i => exact .base (.int i)
  | str z => exact .base (.str z)
  | lst a _ =>
    rcases a with (a | ⟨o, a⟩) | ⟨o, its, n, a, c, _⟩
    · exact .base (.lst a)
    · exact .base (.frz a)
    · exact .kList a c
  | tup a _ =>
    rcases a with (a | ⟨o, a⟩) | ⟨o, its, n, a, c, _⟩
    · exact .base (.tup a)
    · exact .fTuple a
    · exact .kTuple a c
theorem seqT_same {K : PySem.W.Frag} {H H' : Hp} {a : Addr} {xs : List V} (e : Same H H') (h : SqT K H a xs) : SqT K H' a xs := by
  rcases h with (h | ⟨o, h⟩) | h
  · exact .inl (.inl (e _ _ h))
  · exact .inl (.inr ⟨o, e _ _ h⟩)
  · exact .inr h
mutual
theorem dp_same {K : PySem.W.Frag} {H H' : Hp} (e : Same H H') : ∀ {x : V} {d : PyData}, Dp K H x d → Dp K H' x d
  | _, _, .non => .non
  | _, _, .bl b => .bl b
  | _, _, .int i => .int i
  | _, _, .str z => .str z
  | _, _, .lst a b => .lst (e.seq a) (dpAll_same e b)
  | _, _, .tup a b => .tup (seqT_same e a) (dpAll_same e b)
theorem dpAll_same {K : PySem.W.Frag} {H H' : Hp} (e : Same H H') : ∀ {xs : List V} {ds : List PyData}, DpAll K H xs ds → DpAll K H' xs ds
  | _, _, .nil => .nil
  | _, _, .cons a b => .cons (dp_same e a) (dpAll_same e b)
end
/-- the heap without the place b -/
def wo (b : Addr) (H : Hp) : Hp := fun c => if c = b then none else H c
theorem wo_sub (b : Addr) (H : Hp) : Same (wo b H) H := fun c o h => by
  unfold wo at h
  split at h
  · cases h
  · exact h
theorem wo_but {b : Addr} {H H' : Hp} (t : But b H H') : Same (wo b H) (wo b H') := fun c o h => by
  unfold wo at h ⊢
  split at h
  · cases h
  · rename_i n
    rw [if_neg n]
    exact t c o n h
theorem wo_same {b : Addr} {H H' : Hp} (t : Same H H') : Same (wo b H) (wo b H') := wo_but (But.of t)
theorem wo_at {b c : Addr} {H : Hp} {o : HO} (n : c ≠ b) (h : H c = some o) : wo b H c = some o := by
  unfold wo
  rw [if_neg n]
  exact h
def Asc (s : Str) : Prop := ∀ c ∈ TL.tl s, c < 128
theorem Asc.app {x y : Str} (hx : Asc x) (hy : Asc y) : Asc (x ++ y) := fun c hc => by
  rw [TL.tl_append] at hc
  rcases List.mem_append.mp hc with h | h
  · exact hx c h
  · exact hy c h
theorem Asc.cut {x : Str} {lo hi : Option Int} (hx : Asc x) : Asc (cutS x lo hi) := fun c hc => hx c (List.mem_of_mem_drop (List.mem_of_mem_take hc))
theorem Asc.one {c : Nat} (h : c < 128) : Asc ⟨#[c]⟩ := fun d hd => by
  rw [List.mem_singleton.mp (show d ∈ [c] from hd)]
  exact h
/-! ### kinds of data -/
def isT (T t : String) : Bool := decide (t = T) || (decide (T = "int") && decide (t = "bool"))
abbrev isK (T : String) (d : PyData) : Bool := isT T (tyD d)
theorem kit_t : ∀ t ∈ ["NoneType", "bool", "int", "str", "list", "tuple", "dict"], ∀ T ∈ ["int", "bool", "str", "list", "tuple"], kitB t T = some (isT T t) := by decide +kernel
theorem ty_mem (d : PyData) : tyD d ∈ ["NoneType", "bool", "int", "str", "list", "tuple", "dict"] := by
  cases d <;> simp [tyD]
theorem kit_d {K : PySem.W.Frag} {T : String} (hT : T ∈ ["int", "bool", "str", "list", "tuple"]) (d : PyData) : PySem.W.kitOne K (.type (tyD d)) (.type T) = some (isK T d) := kit_ty (kit_t _ (ty_mem d) T hT)
theorem sh_int (i : Int) : SeqAt.shaped (.int i) = true := by
  show (PyData.canLay0 (.int i) && decide (PyData.depth (.int i) ≤ 64)) = true
  simp [PyData.canLay0, PyData.depth]
theorem tuple_mul1 (l : Addr) (items : Array Value) (n : Nat) (dd : Option Addr) (sl : Array (Option Value)) (u : Tok) (hne : items.isEmpty = false) :
    Meets (Builtin.«tuple.__mul__» ⟨[.ref l, .int 1 u], []⟩) (fun _ R s => s.heap.get? l = some { cls := .type "tuple", dict := dd, data := .seq items n, slots := sl } ∧ R (.ok (.ret (Value.ref l))) s) :=
  .of_wp fun prog w A R s h => by
    obtain ⟨hp, g, d, tk, os⟩ := s
    obtain ⟨hl, h⟩ := h
    have f1 := AutoSeq1.idx_int
    wp_walk using wpAny_loadPart' hl
    exact ⟨_, rfl, h⟩
theorem op_rep1 {X : Cx} : OpR X (binaryOp .Mult) (fun x y H Q => ∃ (l : Addr) (xs : List V), x = .ref l ∧ y = .int 1 ∧ SqT X.K H l xs ∧ xs ≠ [] ∧ Q (.ref l) H) := by
  intro pins s σ H x y v u Q I rx ry h
  obtain ⟨l, xs, rfl, rfl, hT, hne, q⟩ := h
  cases rx
  obtain ⟨t, rfl⟩ := ry
  obtain ⟨its, r, ⟨⟨cls, dd, data, sl⟩, ho, hc, n, hd⟩, hs⟩ := I.tuple hT
  simp only at hc hd
  subst hc hd
  have hi : its.toArray.isEmpty = false := by
    cases its with
    | nil => exact absurd (List.eq_nil_of_length_eq_zero (r.length.trans rfl)) hne
    | cons a b => rfl
  refine wpAny_binaryOp_repeat_ref (T := "tuple") (U := "int") (by decide) ⟨_, ho, rfl⟩ (fun s' => typeIs_int s' 1 t) noFill_tuple_mul F.fills_int_mul F.slot_int_rmul repeat_tuple F.slot_int_index.lookup
    (call_meets F.slot_int_rmul (typeIs_int s 1 t) F.entry_int_rmul (F.args_int_rmul_2 _ _) (int_rmul_tuple 1 t l its.toArray n dd sl)
      ⟨ho, rfl, ⟨_, ho, rfl⟩, call_meets F.slot_tuple_mul ⟨_, ho, rfl⟩ F.entry_tuple_mul (F.args_tuple_mul_2 _ _) (tuple_mul1 l its.toArray n dd sl t hi) ⟨ho, ?_⟩⟩)
  exact ⟨.ref l, H, I, rfl, q⟩
def rRepA (K : PySem.W.Frag) : R2 := fun x y H Q => rRepT K x y H Q ∨ ∃ (l : Addr) (xs : List V), x = .ref l ∧ y = .int 1 ∧ SqT K H l xs ∧ xs ≠ [] ∧ Q (.ref l) H
theorem kk_repA (K : PySem.W.Frag) {X : Cx} (h : X.K = K := by rfl) : OpR X (binaryOp .Mult) (rRepA K) := h ▸ OpR.or op_repT op_rep1
/-! ### classes: a method, the making of an instance, by their promises -/
structure CMt (P : Program) (w : World) (K : PySem.W.Frag) (mg : Str → Option Value) (base : Heap) (C : Addr) (k : Nat) (m : Str) (ps : List Str) (dvs : List V) (sp : Sp) : Prop where
  ex : ∃ (f : Addr) (fd : FuncData) (ds : List Value), FnOk P w K mg base CX0 k f fd ps sp ∧ Meth K C m f ∧ Vals dvs ds ∧ Binds K fd ps ds
structure CMk (P : Program) (w : World) (K : PySem.W.Frag) (mg : Str → Option Value) (base : Heap) (C : Addr) (k : Nat) (x : Str) (ps : List Str) (dvs : List V) (sp : Sp) : Prop where
  ex : ∃ (f : Addr) (fd : FuncData) (ds : List Value), FnOk P w K mg base CX0 k f fd ps sp ∧ Mk K C f ∧ mg x = some (.ref C) ∧ Vals dvs ds ∧ Binds K fd ps ds
section
variable {X : Cx} {k : Nat} {C : Addr} {x m : Str} {ps : List Str} {dvs : List V} {sp : Sp} {p pos apos : Pos} {e o : Expr} {es : List Expr} {ta : TE} {t : TA}
theorem pe_mt {pl : Sem Bool} (M : CMt X.prog X.w X.K X.mg X.base C k m ps dvs sp) (c : Cls X.K C) (hr : Room k X.A) (he : PE X o ta) (ha : PA X (e :: es) t)
    (hst : starEach (e :: es) X.env = (false, eval e X.env) :: starEach es X.env := by rfl) (hpl : (backTo pos (starEach es X.env)).any (·.1) = false := by rfl)
    (ht : eval (.Call (.Attribute o m apos) (e :: es) [] pos) X.env = (do
      let ov ← eval o X.env
      standAt apos.atName
      let (f, first) ← holding [ov] (getMethod ov m pl)
      callWith pos f first (backTo pos (starEach (e :: es) X.env)) (backToKw pos (keywordEach [] X.env))) := by rfl) :
    PE X (.Call (.Attribute o m apos) (e :: es) [] pos) (tMeth C m sp dvs E0 ta t) := by
  obtain ⟨f, fd, ds, F, me, vd, b⟩ := M.ex
  exact pe_meth (pl := pl) he c me F hr b vd pass0 ha hst hpl ht
theorem pe_mt0 {pl : Sem Bool} (M : CMt X.prog X.w X.K X.mg X.base C k m ps dvs sp) (c : Cls X.K C) (hr : Room k X.A) (he : PE X o ta)
    (ht : eval (.Call (.Attribute o m apos) [] [] pos) X.env = (do
      let ov ← eval o X.env
      standAt apos.atName
      let (f, first) ← holding [ov] (getMethod ov m pl)
      callWith pos f first (backTo pos (starEach [] X.env)) (backToKw pos (keywordEach [] X.env))) := by rfl) :
    PE X (.Call (.Attribute o m apos) [] [] pos) (tMeth C m sp dvs E0 ta tNil) := by
  obtain ⟨f, fd, ds, F, me, vd, b⟩ := M.ex
  exact pe_meth0 (pl := pl) he c me F hr b vd pass0 ht
theorem pe_mkc (M : CMk X.prog X.w X.K X.mg X.base C k x ps dvs sp) (hr : Room (k + 1) X.A) (hg : Gl X x) (ha : PA X (e :: es) t)
    (hdb : (x == ("__debug__" : Str)) = false := by decide) (he : starEach (e :: es) X.env = (false, eval e X.env) :: starEach es X.env := by rfl) (hpl : (backTo pos (starEach es X.env)).any (·.1) = false := by rfl) :
    PE X (.Call (.Name x p) (e :: es) [] pos) (tMake C sp dvs E0 t) := by
  obtain ⟨f, fd, ds, F, mk, g, vd, b⟩ := M.ex
  exact pe_make mk F hr hg g b vd pass0 ha hdb he hpl
end
/-! ### o.m(e, .., k = v) -/
structure CMtK (P : Program) (w : World) (K : PySem.W.Frag) (mg : Str → Option Value) (base : Heap) (C : Addr) (k : Nat) (m : Str) (ps : List Str) (n : Nat) (ks : List Str) (gV : List V → List V → List V) (sp : Sp) : Prop where
  ex : ∃ (f : Addr) (fd : FuncData) (g : List Value → List Value → List Value), FnOk P w K mg base CX0 k f fd ps sp ∧ Meth K C m f ∧ KBn K fd ps n ks g gV
def tMethK (C : Addr) (m : Str) (n j : Nat) (sp : Sp) (gV : List V → List V → List V) (ta : TE) (t tk : TA) : TE := fun σ H Q => ta σ H fun x H1 => ∃ (a dx : Addr) (fs : List (Str × V)), x = .ref a ∧ H1 a = some (.ins C dx fs) ∧ fs.lookup m = none ∧
  t σ H1 fun vs H2 => tk σ H2 fun zs H3 => (x :: vs).length = n ∧ zs.length = j ∧ sp (gV (x :: vs) zs) H3 Q E0
theorem pe_mtK {X : Cx} {k n : Nat} {C : Addr} {m : Str} {ps ks : List Str} {sp : Sp} {gV : List V → List V → List V} {pos apos : Pos} {e o : Expr} {es : List Expr} {kws : List Keyword} {ta : TE} {t tk : TA} {pl : Sem Bool}
    (M : CMtK X.prog X.w X.K X.mg X.base C k m ps n ks gV sp) (c : Cls X.K C) (hr : Room k X.A) (he : PE X o ta) (ha : PA X (e :: es) t) (hkw : PK X kws tk)
    (hall : (backToKw pos (keywordEach kws X.env)).all (·.1.isSome) = true := by rfl) (hks : (backToKw pos (keywordEach kws X.env)).filterMap (·.1) = ks := by rfl)
    (hst : starEach (e :: es) X.env = (false, eval e X.env) :: starEach es X.env := by rfl)
    (hpl : ((backTo pos (starEach (e :: es) X.env)).any (·.1) || (backToKw pos (keywordEach kws X.env)).any (·.1.isNone)) = false := by rfl)
    (ht : eval (.Call (.Attribute o m apos) (e :: es) kws pos) X.env = (do
      let ov ← eval o X.env
      standAt apos.atName
      let (f, first) ← holding [ov] (getMethod ov m pl)
      callWith pos f first (backTo pos (starEach (e :: es) X.env)) (backToKw pos (keywordEach kws X.env))) := by rfl) :
    PE X (.Call (.Attribute o m apos) (e :: es) kws pos) (tMethK C m n ks.length sp gV ta t tk) := by
  obtain ⟨f, fd, g, F, me, b⟩ := M.ex
  constructor
  intro pins s σ H Q I h
  refine PySem.W.methodCall_KW (pl := pl) (thn (he.run pins s σ H _ I h) ?_) ht
  rintro u s1 ⟨x, H1, I1, rx, a, dx, fs, rfl, ea, l, q⟩
  cases (show u = Value.ref a from rx)
  refine getmeth_ok I1 ea c me l ?_
  refine PySem.W.callWith_KW (first := [.ref a]) (h₀ := X.base) I.ok.mod.kin me.kp hall (thn (ha.run pos pins s1 σ H1 _ I1 q) ?_) hpl hst
  rintro us s2 ⟨vs, H2, I2, r, q2⟩
  refine thn (hkw.run pos pins s2 σ H2 _ I2 q2) ?_
  rintro ws s3 ⟨zs, H3, I3, rz, l1, l2, q3⟩
  refine ⟨I3.kIn, ?_⟩
  rw [hks]
  exact run_fnN (us := .ref a :: us) (vs := .ref a :: vs) F hr b pass0 I3 (.cons rfl r) rz l1 l2 q3
theorem okD {P : Program} {w : World} {K : PySem.W.Frag} {mg : Str → Option Value} {base : Heap} {x qual : Str} {params : Arguments} {body : List Stmt} {scope : Scope} {dvs : List V} {kws : List (Str × V)} {f : Addr} {fd : FuncData} {N ps : List Str} {k : Nat} {sp : Sp}
    (F : FunD K x qual params body scope dvs kws f fd) (S : FnScope N ps scope) (len : ∀ vs H Q E, sp vs H Q E → vs.length = ps.length)
    (walk : ∀ (cdv : Value) (A : Around) (outer : List Env) (s : Shared) (H : Hp) (vs : List V) (Q : VK) (E : XK), Room k (A.deeper (envOfC qual scope s.heap.objs.size f cdv)) → sp vs H Q E →
      ∃ t, PSs (cxOf CX0 P w K mg base N qual scope f cdv A outer s H E).nox body t ∧ t { nx := fun _ H' => Q .non H', rt := Q } (start N vs) H) : FnOk P w K mg base CX0 (k + 1) f fd ps sp := by
  refine F.ok S len (fun cdv A outer s H vs Q E hr h => ?_)
  obtain ⟨t, ht, q⟩ := walk cdv A outer s H vs Q E hr h
  exact ⟨t, ht.nox, q⟩
/-! ### numbers in bounds, what is kept -/
def numIn : PyData → Int → Int → Bool
  | .int i, lo, hi => decide (lo ≤ i) && decide (i ≤ hi)
  | _, _, _ => false
def keptOk : PyData → PyData → Bool
  | .tuple ds, e => PyData.eqv (.int (ds.length : Int)) e && ds.all fun d => numIn d 0 100
  | d, _ => numIn d 0 100
def firstWrong (ws : List (Str × Bool)) : V := match ws.find? (fun p => !p.2) with
  | some p => .str p.1
  | none => .non
theorem firstWrong_at {ws : List (Str × Bool)} {i : Nat} {w : Str} (h : ∀ p ∈ ws.take i, p.2 = true) (hi : ws[i]? = some (w, false)) : firstWrong ws = .str w := by
  have hs : ws = ws.take i ++ (w, false) :: ws.drop (i + 1) := by
    obtain ⟨hl, he⟩ := List.getElem?_eq_some_iff.mp hi
    rw [← he, List.getElem_cons_drop, List.take_append_drop]
  unfold firstWrong
  rw [hs, List.find?_append, List.find?_eq_none.mpr (fun p hp => by rw [h p hp]; decide)]
  rfl
theorem firstWrong_none {ws : List (Str × Bool)} (h : ∀ p ∈ ws, p.2 = true) : firstWrong ws = .non := by
  unfold firstWrong
  rw [List.find?_eq_none.mpr (fun p hp => by rw [h p hp]; decide)]
theorem dpAll_len {K : PySem.W.Frag} {H : Hp} : ∀ {xs : List V} {ds : List PyData}, DpAll K H xs ds → xs.length = ds.length
  | _, _, .nil => rfl
  | _, _, .cons _ b => by rw [List.length_cons, List.length_cons, dpAll_len b]
theorem dpAll_get {K : PySem.W.Frag} {H : Hp} : ∀ {xs : List V} {ds : List PyData} {i : Nat} {x : V}, DpAll K H xs ds → xs[i]? = some x → ∃ d, ds[i]? = some d ∧ Dp K H x d
  | _, _, 0, _, .cons a _, h => ⟨_, rfl, by cases (Option.some.inj h); exact a⟩
  | _, _, i + 1, _, .cons _ b, h => dpAll_get (i := i) b h
  | _, _, _, _, .nil, h => by simp at h
/-! ### a block over an iterator of a known length; zip of two lists, of two tuples -/
theorem lc_gen {J : It} {n : Nat} {g : TG} {tt : TT} {te : TE} {vs : List Nat} {σ : L2.St} {H1 : Hp} {D : Addr} {Qd : Hp → Prop} (Pv : Nat → Hp → Prop) (first : Pv 0 (upd H1 D (.lst [])))
    (can : ∀ i H, Pv i H → (i < n → J.go i H) ∧ (i = n → J.stop i H))
    (turn : ∀ i H v H', i < n → Pv i H → J.yld i H v H' → g v (wipe σ vs) H' fun σ2 H2 => wipe σ2 vs = wipe σ vs ∧ tt σ2 H2 fun b H3 => if b = true then te σ2 H3 fun y H4 => ∃ acc, H4 D = some (.lst acc) ∧ acc.length < sizeLine ∧ Pv (i + 1) (upd H4 D (.lst (acc ++ [y]))) else Pv (i + 1) H3)
    (last : ∀ H, Pv n H → Qd H) :
    ∃ W : Nat → Nat → Hp → Prop, (∃ m, W 0 m (upd H1 D (.lst []))) ∧ ∀ i m H, W i m H → (J.stop i H ∧ Qd H) ∨ (J.go i H ∧ ∃ Nx : Hp → Prop, (∀ H', Nx H' → ∃ m', m' < m ∧ W (i + 1) m' H') ∧ ∀ x H', J.yld i H x H' → g x (wipe σ vs) H' fun σ2 H2 => wipe σ2 vs = wipe σ vs ∧ tt σ2 H2 fun b H3 => if b = true then te σ2 H3 fun y H4 => ∃ acc, H4 D = some (.lst acc) ∧ acc.length < sizeLine ∧ Nx (upd H4 D (.lst (acc ++ [y]))) else Nx H3) := by
  refine ⟨fun i m H => m + i = n ∧ Pv i H, ⟨n, by omega, first⟩, ?_⟩
  intro i m H hw
  obtain ⟨e, p⟩ := hw
  by_cases c : i < n
  · exact .inr ⟨(can i H p).1 c, Pv (i + 1), fun H' p' => ⟨n - (i + 1), by omega, by omega, p'⟩, fun v H' y => turn i H v H' c p y⟩
  · have z : i = n := by omega
    exact .inl ⟨(can i H p).2 z, last H (z ▸ p)⟩
section
variable {K : PySem.W.Frag} {a b : Addr} {xs ys : List V}
theorem canL {H : Hp} {i : Nat} (l : xs.length = ys.length) (x : SqL K H a xs) (y : SqL K H b ys) : (i < xs.length → (Itz K a b).go i H) ∧ (i = xs.length → (Itz K a b).stop i H) :=
  ⟨fun c => ⟨xs, ys, _, _, x, y, List.getElem?_eq_getElem c, List.getElem?_eq_getElem (l ▸ c)⟩, fun c => ⟨xs, ys, x, y, .inl (by omega)⟩⟩
theorem canT {H : Hp} {i : Nat} (l : xs.length = ys.length) (x : SqT K H a xs) (y : SqT K H b ys) : (i < xs.length → (RZ.ItzT K a b).go i H) ∧ (i = xs.length → (RZ.ItzT K a b).stop i H) :=
  ⟨fun c => ⟨xs, ys, _, _, x, y, List.getElem?_eq_getElem c, List.getElem?_eq_getElem (l ▸ c)⟩, fun c => ⟨xs, ys, x, y, .inl (by omega)⟩⟩
end
/-! ### data of short lists -/
mutual
def thin : PyData → Bool
  | .list xs => decide (xs.length ≤ 1000) && thinAll xs
  | .tuple xs => decide (xs.length ≤ 1000) && thinAll xs
  | _ => true
def thinAll : List PyData → Bool
  | [] => true
  | x :: r => thin x && thinAll r
end
theorem thin_at {d : PyData} : ∀ {ds : List PyData} {i : Nat}, thinAll ds = true → ds[i]? = some d → thin d = true
  | e :: r, 0, h, he => by
    cases he
    simp only [thinAll, Bool.and_eq_true] at h
    exact h.1
  | e :: r, i + 1, h, he => by
    simp only [thinAll, Bool.and_eq_true] at h
    exact thin_at (i := i) h.2 he
theorem depth_at {d : PyData} : ∀ {ds : List PyData} {i : Nat}, ds[i]? = some d → PyData.depth d ≤ PyData.depthAll ds
  | e :: r, 0, he => by
    cases he
    simp only [PyData.depthAll]
    omega
  | e :: r, i + 1, he => by
    have := depth_at (i := i) (ds := r) he
    simp only [PyData.depthAll]
    omega
theorem kitLT {K : PySem.W.Frag} (d : PyData) : PySem.W.kitAny K (.type (tyD d)) [.type "list", .type "tuple"] = some (isK "list" d || isK "tuple" d) := by
  unfold PySem.W.kitAny
  rw [kit_d (by decide)]
  cases isK "list" d with
  | true => rfl
  | false =>
    unfold PySem.W.kitAny
    rw [kit_d (by decide)]
    cases isK "tuple" d <;> rfl
theorem qY {c : Prop} [Decidable c] {Q : VK} {H : Hp} (hc : c) (q : Q (.bl true) H) : Q (.bl (decide c)) H := by
  rw [decide_eq_true hc]
  exact q
theorem rep_snoc (i : Nat) : (List.replicate i true).map V.bl ++ [V.bl true] = (List.replicate (i + 1) true).map V.bl := by
  rw [List.map_replicate, List.map_replicate, List.replicate_succ']
/-! ### a caught error that stays tracked behind its suite -/
def ErO (cls : Value) (d : Option Addr) (a : Addr) : HO := .ext fun h => ∃ (oe : Obj) (vs : Array Value), h.get? a = some oe ∧ Zc cls d oe ∧ oe.data = .fields vs
theorem erO_ok {P : Program} {w : World} {H : Hp} {h : Heap} {a : Addr} {cls : Value} {d : Option Addr} {oe : Obj} {vs : Array Value} (e : h.get? a = some oe) (z : Zc cls d oe) (f : oe.data = .fields vs) : ObjOk P w H h a (ErO cls d a) :=
  ⟨⟨oe, vs, e, z, f⟩, ⟨oe, e⟩, fun _ _ ⟨o, v, q, r⟩ k => ⟨o, v, k o q, r⟩⟩
section
variable {X : Cx} {pins : List (Addr × Obj)} {σ : L2.St} {H : Hp} {s : Shared}
/-- an object made since the entry, not tracked so far, is tracked from now on -/
theorem inv_track {a : Addr} {o : HO} (I : Inv X pins σ H s) (n0 : X.s_0.heap.get? a = none) (hn : H a = none) (nL : X.env.locals ≠ a) (nC : ∀ x c, X.env.cells.lookup x = some c → c ≠ a) (nP : ∀ p ∈ X.pn ++ pins, p.1 ≠ a) (new : ObjOk X.prog X.w (upd H a o) s.heap a o) : Inv X pins σ (upd H a o) s := by
  have ne0 : ∀ b ob, X.s_0.heap.get? b = some ob → b ≠ a := fun b ob e z => by
    rw [z, n0] at e
    cases e
  have neS : ∀ b u, H b = some u → b ≠ a := fun b u e z => by
    rw [z, hn] at e
    cases e
  constructor
  case ok => exact I.ok
  case os => exact I.os
  case bare => exact I.bare
  case base =>
    constructor
    case keep => exact I.base.keep
    case slot => exact I.base.slot
    case there => exact I.base.there
    case free =>
      intro b ob e n hx
      rw [upd_ne (ne0 b ob e)]
      exact I.base.free b ob e n hx
    case tups =>
      intro b xs e
      have q := I.base.tups b xs e
      rw [upd_ne (neS b _ q)]
      exact q
    case frzs =>
      intro b ob u e
      have q := I.base.frzs b ob u e
      rw [upd_ne (neS b _ q)]
      exact q
    case tbls =>
      intro b ps e
      obtain ⟨more, q⟩ := I.base.tbls b ps e
      exact ⟨more, by rw [upd_ne (neS b _ q)]; exact q⟩
  case loc => exact I.loc
  case cell => exact I.cell
  case free =>
    rw [upd_ne nL]
    exact I.free
  case freeC =>
    intro x c e
    rw [upd_ne (nC x c e)]
    exact I.freeC x c e
  case pin =>
    intro p hp
    obtain ⟨p1, p2, p3⟩ := I.pin p hp
    exact ⟨p1, by rw [upd_ne (nP p hp)]; exact p2, p3⟩
  case hok =>
    intro b u e
    by_cases hb : b = a
    · subst hb
      rw [upd_same] at e
      cases e
      exact new
    · rw [upd_ne hb] at e
      refine (I.hok b u e).stay (fun _ _ _ q => q) (fun c q => ?_) (fun c xs q => ?_)
      · rw [upd_ne (neS c _ q)]
        exact q
      · rw [upd_ne (neS c _ q)]
        exact q
  case len => exact I.len
end
/-- the wish of a clause whose suite goes on behind: the error stays known -/
def wKeep (K : PySem.W.Frag) (c : Value) (i : Nat) (ts : Addr → Value → Option Addr → TS) (D : Ends) : WX := fun cls d σ H =>
  PySem.W.exmOne K cls c = some true ∧ ∀ a, H a = none → ts a cls d { nx := fun τ G => D.nx (τ.set i none) (upd G a (ErO cls d a)), rt := fun _ _ => False, bk := fun _ _ => False, ct := fun _ _ => False } (σ.set i (some (.ref a))) H
section
variable {X : Cx} {x n : Str} {c : Value} {i : Nat} {body rest : List Stmt} {st0 : Stmt} {np p1 p2 : Pos} {tb : WX → TS} {ts : Addr → Value → Option Addr → TS}
theorem ps_try_keep (hs : X.stack = X.env :: X.outer) (hf : X.env.frame = some X.env.locals) (hx : X.ex = []) (hN : X.N.Nodup) (hi : X.N[i]? = some n) (hl : X.env.kindOf n = some .local) (hc : Names X x c)
    (hb : ∀ (W : WX) (pn : List (Addr × Obj)) (xe : Value → Shared → Prop), Takes (X.tr pn xe) W → PassesOwn (model X.prog X.w) X.A X.env xe → PSs (X.tr pn xe) body (tb W))
    (hsu : ∀ (a : Addr) (ob : Obj) (cls : Value) (d : Option Addr) (pn : List (Addr × Obj)), Zc cls d ob → (∃ vs, ob.data = .fields vs) → PSs (X.suite a ((a, ob) :: pn)) (st0 :: rest) (ts a cls d)) :
    PS X (.Try body [.ExceptHandler (some (.Name x np)) (some n) (st0 :: rest) p1] [] [] p2) (fun D σ H => tb (wKeep X.K c i ts D) D σ H) := by
  constructor
  intro pins s σ H D I h
  have fr : X.A.frames = some (X.env :: X.outer) := hs ▸ I.ok.frames
  refine wpAny_Try_except (wpAny_mono ((hb _ (X.pn ++ pins) _ (fun u s1 air => ?_) PassesOwn.looking).run [] s σ H D (I.toTry _) h) (fun fl s1 end1 => ?_) (fun _ _ z => z))
  · obtain ⟨a, B, s2, _, τ, G, cls, d, rfl, J0, ground, ups, sky, na, os, bare, yes, go⟩ := air
    have J : Inv X pins τ G s2 := J0.ofTry I.ok
    have sky1 : Sky B (X.env :: X.outer) a (Zc cls d) X.env.locals s1.heap := hs ▸ sky
    show wpAny (model X.prog X.w) X.A (noteFrame (.ref a) X.env) _ _ _
    refine Sky.land Zc.steady fr hf sky1 fun g1 fly1 up1 => ?_
    have J1 : Inv X pins τ G { s1 with heap := g1 } := J.landed ground fly1.1 (ups.trans up1) os bare
    obtain ⟨ob1, vs1, at1, z1, d1⟩ := fly1.there
    have nfr : a ∉ frs (X.env :: X.outer) := fun hm => by
      obtain ⟨_, o', e', nd⟩ := fly1.2.2.1.mem hm
      rw [at1] at e'
      cases e'
      exact nd _ d1
    have nL : X.env.locals ≠ a := fun z => nfr (by rw [← z]; exact List.mem_filterMap.mpr ⟨X.env, List.mem_cons_self, hf⟩)
    have nF : a ∉ X.fs := fun hm => by
      obtain ⟨e, he, q⟩ := List.mem_filterMap.mp hm
      exact nfr (List.mem_filterMap.mpr ⟨e, List.mem_cons_of_mem _ he, q⟩)
    have off : ∀ b, b ≠ X.env.locals → b ∉ X.fs → b ∉ frs X.stack := fun b h1 h2 hm => (List.mem_cons.mp (J.stkSub b hm)).elim h1 h2
    have nB : B.get? a = none := fly1.2.1
    have nI : s2.heap.get? a = none := by
      cases q : s2.heap.get? a with
      | none => rfl
      | some o =>
        have := ground a o q (off a nL.symm nF)
        rw [nB] at this
        cases this
    have n0 : X.s_0.heap.get? a = none := by
      cases q : X.s_0.heap.get? a with
      | none => rfl
      | some o =>
        obtain ⟨o', q'⟩ := J.base.there a o q (by rw [hx]; exact fun z => nomatch z)
        rw [nI] at q'
        cases q'
    have nP : ∀ p ∈ X.pn ++ pins, p.1 ≠ a := fun p hp z => by
      have := (J.pin p hp).1
      rw [z, nI] at this
      cases this
    have T1 := J1.suite at1 d1 na nL.symm nF
    refine wpAny_handleBy_cons (codeAny_handlers_test ?_) (fun q => nomatch q)
    have kind : PySem.W.Looks (model X.prog X.w) g1 (typeOf (.ref a)) cls := fun A' Q' E' s' k q => wpAny_typeOf_ref (k _ _ at1) (by rw [z1.1]; exact q)
    have hit := PySem.W.exm_one (M := model X.prog X.w) J1.kIn kind yes
    have named : ∀ {Q' : Value → Shared → Prop} {E' : Value → Shared → Prop}, Q' c { s1 with heap := g1 } → wpAny (model X.prog X.w) (X.A.mark (some (.ref a))) (eval (.Name x np) X.env) Q' E' { s1 with heap := g1 } := by
      intro Q' E' q
      obtain ⟨hg, hdb, hm | ⟨hm, hv, hnn⟩⟩ := hc
      · exact ld_glob (X := X.suite a ((a, ob1) :: (X.pn ++ pins))) T1 hg hm q hdb
      · exact ld_blt (X := X.suite a ((a, ob1) :: (X.pn ++ pins))) T1 hg hm hv q hnn hdb
    refine named (hit.here (codeAny_handlers_suite_as (HandSPX.lands_againZ fly1 fun g2 fly2 up2 => ?_)))
    have J2 : Inv X pins τ G { s1 with heap := g2 } := J.landed ground fly2.1 ((ups.trans up1).trans up2) os bare
    obtain ⟨ob2, vs2, at2, z2, d2⟩ := fly2.there
    refine store_ok (X := X.suite a ((a, ob2) :: (X.pn ++ pins))) (v := .ref a) (J2.suite at2 d2 na nL.symm nF) hN hi (.inl hl) rfl (fun s3 T3 => ?_) (.inr hl)
    refine wpAny_mono ((hsu a ob2 cls d (X.pn ++ pins) z2 ⟨_, d2⟩).run [] s3 _ G _ T3 (go a na)) (fun fl s4 end4 => ?_) (fun _ _ z => z.elim)
    cases fl with
    | next =>
      obtain ⟨τ4, G4, T4, q4⟩ := end4
      obtain ⟨at4, free4, _⟩ := T4.pin (a, ob2) (List.mem_append.mpr (.inl List.mem_cons_self))
      have nC : ∀ y c', X.env.cells.lookup y = some c' → c' ≠ a := fun y c' e z => by
        obtain ⟨v, o, ho, hd⟩ := T4.cell y c' e
        rw [z, at4] at ho
        cases ho
        rw [d2] at hd
        cases hd
      exact gone_ok (inv_track (o := ErO cls d a) (T4.unsuite I.ok) n0 free4 nL nC nP (erO_ok at4 z2 d2)) hN hi hl fun s5 J5 => ⟨_, _, J5, q4⟩
    | brk =>
      obtain ⟨_, _, _, z⟩ := end4
      exact z.elim
    | cont =>
      obtain ⟨_, _, _, z⟩ := end4
      exact z.elim
    | ret u =>
      obtain ⟨_, _, _, _, _, z⟩ := end4
      exact z.elim
  · cases fl with
    | next =>
      obtain ⟨τ, G, J, q⟩ := end1
      exact wpAny_execs_nil ⟨τ, G, J.ofTry I.ok, q⟩
    | brk =>
      obtain ⟨τ, G, J, q⟩ := end1
      exact ⟨τ, G, J.ofTry I.ok, q⟩
    | cont =>
      obtain ⟨τ, G, J, q⟩ := end1
      exact ⟨τ, G, J.ofTry I.ok, q⟩
    | ret u =>
      obtain ⟨v, τ, G, J, r, q⟩ := end1
      exact ⟨v, τ, G, J.ofTry I.ok, r, q⟩
end
/-! ### isinstance of such an error -/
section
variable {K : PySem.W.Frag}
theorem er_at {X : Cx} {pins : List (Addr × Obj)} {σ : L2.St} {H : Hp} {s : Shared} {a D : Addr} (I : Inv X pins σ H s) (h : H a = some (ErO (.ref D) none a)) : ∃ oe, PySem.W.InstAt s.heap a oe D none := by
  obtain ⟨⟨oe, vs, e, z, f⟩, _⟩ := I.hok a _ h
  refine ⟨oe, ?_⟩
  obtain ⟨oc, od, oda, osl⟩ := oe
  obtain ⟨z1, z2⟩ := z
  dsimp only at z1 z2 f
  subst z1 z2 f
  exact ⟨e, rfl, rfl, trivial⟩
def rIsEr (K : PySem.W.Frag) : List V → Hp → VK → Prop := fun xs H Q => ∃ (a D : Addr) (c : V) (cv : Value) (b : Bool), xs = [.ref a, c] ∧ ExcC K D ∧ H a = some (ErO (.ref D) none a) ∧ (∀ u, RelV c u → u = cv) ∧ PySem.W.kitOne K (.ref D) cv = some b ∧ Q (.bl b) H
theorem call_isEr {X : Cx} : CallR X (.builtin "isinstance") (rIsEr X.K) := by
  intro pins s σ H xs us Q I r h
  obtain ⟨a, D, c, cv, b, rfl, C, ha, hcv, e, q⟩ := h
  cases r with
  | cons rx rr =>
    cases rr with
    | cons rt rr =>
      cases rr
      cases rx
      have ec := hcv _ rt
      subst ec
      obtain ⟨oe, J⟩ := er_at I ha
      exact PySem.W.kia_one (PySem.W.handS_kitx_exc C.hg C.hk C.hs C.hd C.ha C.hn C.ht C.hm) I.kIn J e (fun z => nomatch z) fun tk => ⟨.bl b, H, I.kept (t' := tk) fun _ _ z => z, rfl, q⟩
def rIsErT (K : PySem.W.Frag) : List V → Hp → VK → Prop := fun xs H Q => ∃ (a D tp : Addr) (cs : List Addr) (b : Bool), xs = [.ref a, .ref tp] ∧ ExcC K D ∧ H a = some (ErO (.ref D) none a) ∧ SqT K H tp (cs.map V.ref) ∧ PySem.W.kitAny K (.ref D) (cs.map Value.ref) = some b ∧ Q (.bl b) H
theorem vals_refs : ∀ {cs : List Addr} {us : List Value}, Vals (cs.map V.ref) us → us = cs.map Value.ref
  | [], _, .nil => rfl
  | c :: r, _, .cons e h => by
    cases e
    rw [vals_refs h]
    rfl
theorem call_isErT {X : Cx} : CallR X (.builtin "isinstance") (rIsErT X.K) := by
  intro pins s σ H xs us Q I r h
  obtain ⟨a, D, tp, cs, b, rfl, C, ha, hT, e, q⟩ := h
  cases r with
  | cons rx rr =>
    cases rr with
    | cons rt rr =>
      cases rr
      cases rx
      cases rt
      obtain ⟨its, rv, ⟨⟨cls, dd, data, sl⟩, ho, hc, n, hd⟩, _⟩ := I.tuple hT
      simp only at hc hd
      subst hc hd
      have ev := vals_refs rv
      subst ev
      obtain ⟨oe, J⟩ := er_at I ha
      exact PySem.W.kia_tup (PySem.W.handS_kitx_exc C.hg C.hk C.hs C.hd C.ha C.hn C.ht C.hm) I.kIn J ho e (fun z => nomatch z) fun tk => ⟨.bl b, H, I.kept (t' := tk) fun _ _ z => z, rfl, q⟩
theorem kk_isEr (K : PySem.W.Frag) {X : Cx} (h : X.K = K := by rfl) : CallR X (.builtin "isinstance") (rIsEr K) := h ▸ call_isEr
theorem kk_isErT (K : PySem.W.Frag) {X : Cx} (h : X.K = K := by rfl) : CallR X (.builtin "isinstance") (rIsErT K) := h ▸ call_isErT
end
/-! ### methods that may raise -/
structure CMx (P : Program) (w : World) (K : PySem.W.Frag) (mg : Str → Option Value) (base : Heap) (C : Addr) (k : Nat) (m : Str) (ps : List Str) (sp : Sp) : Prop where
  ex : ∃ (f : Addr) (fd : FuncData), FnOk P w K mg base (L2.CX P w) k f fd ps sp ∧ Meth K C m f ∧ Binds K fd ps []
def tMethE (C : Addr) (m : Str) (sp : Sp) (E : L2.St → XK) (ta : TE) (t : TA) : TE := fun σ H Q => ta σ H fun x H1 => ∃ (a dx : Addr) (fs : List (Str × V)), x = .ref a ∧ H1 a = some (.ins C dx fs) ∧ fs.lookup m = none ∧ t σ H1 fun vs H2 => sp (x :: vs) H2 Q (E σ)
theorem pe_mtx {X : Cx} {k : Nat} {C : Addr} {m : Str} {ps : List Str} {sp : Sp} {W : WX} {pos apos : Pos} {e o : Expr} {es : List Expr} {ta : TE} {t : TA} {pl : Sem Bool}
    (M : CMx X.prog X.w X.K X.mg X.base C k m ps sp) (c : Cls X.K C) (hr : Room k X.A) (tk : Takes X W) (he : PE X o ta) (ha : PA X (e :: es) t)
    (hst : starEach (e :: es) X.env = (false, eval e X.env) :: starEach es X.env := by rfl) (hpl : (backTo pos (starEach es X.env)).any (·.1) = false := by rfl)
    (ht : eval (.Call (.Attribute o m apos) (e :: es) [] pos) X.env = (do
      let ov ← eval o X.env
      standAt apos.atName
      let (f, first) ← holding [ov] (getMethod ov m pl)
      callWith pos f first (backTo pos (starEach (e :: es) X.env)) (backToKw pos (keywordEach [] X.env))) := by rfl) :
    PE X (.Call (.Attribute o m apos) (e :: es) [] pos) (tMethE C m sp (WE W) ta t) := by
  obtain ⟨f, fd, F, me, b⟩ := M.ex
  constructor
  intro pins s σ H Q I h
  refine PySem.W.methodCall_KW (pl := pl) (thn (he.run pins s σ H _ I h) ?_) ht
  rintro u s1 ⟨x, H1, I1, rx, a, dx, fs, rfl, ea, l, q⟩
  cases (show u = Value.ref a from rx)
  refine getmeth_ok I1 ea c me l ?_
  refine PySem.W.callWith_K (first := [.ref a]) (h₀ := X.base) I.ok.mod.kin me.kp (thn (ha.run pos pins s1 σ H1 _ I1 q) ?_) hst hpl
  rintro us s2 ⟨vs, H2, I2, r, q2⟩
  exact ⟨I2.kIn, run_fnS (E := WE W) (us := .ref a :: us) (vs := .ref a :: vs) F hr b (passAt tk σ) I2 (.cons rfl r) q2⟩
/-! ### an error's own __init__ that hands a text to super().__init__ and keeps one field -/
def supBody (text fld : Str) (p0 p1 p2 p3 p4 p5 q1 q2 q3 q4 : Pos) (kk : Nat) : List Stmt :=
  [.Expr (.Call (.Attribute (.Call (.Name "super" p0) [] [] p1) "__init__" p2) [.Constant (.str text) kk p3] [] p4) p5,
   .Assign [.Attribute (.Name "self" q1) fld q2] (.Name fld q3) q4]
section
variable {CX : CXT} {P : Program} {w : World} {K : PySem.W.Frag} {mg : Str → Option Value} {base : Heap} {k : Nat} {f c cc C : Addr} {qual fld text file : Str} {params : Arguments} {scope : Scope} {dV kV doc pm ct oc ocl ccl : Value} {an od ocd cdd : Option Addr} {osl ocs ccs : Array (Option Value)} {p0 p1 p2 p3 p4 p5 q1 q2 q3 q4 : Pos} {kk : Nat} {ar : Arg} {vs : Array Value} {tf : Tok}
def spSup (C : Addr) (fld : Str) : Sp := fun vs H Q _ => ∃ (a : Addr) (y : V), vs = [.ref a, y] ∧ H a = some (exo a C none) ∧ ∀ dx, H dx = none → dx ≠ a → Q .non (upd (upd H dx (exd dx [(fld, y)])) a (exo a C (some dx)))
theorem cells_cc {s : Shared} {H : Hp} (hn : H cc = none) (hc : s.heap.IsCell cc (some (.ref C))) : NdefX.CellsAt [("__class__", cc)] ["__class__"] [none] s.heap H := by
  have one : ∀ (y : Str) (d : Addr), ([(("__class__" : Str), cc)] : List (Str × Addr)).lookup y = some d → y = "__class__" ∧ d = cc := fun y d e => by
    by_cases h : y = "__class__"
    · subst h
      rw [List.lookup_cons_self] at e
      exact ⟨rfl, (Option.some.inj e).symm⟩
    · rw [List.lookup_cons, beq_false_of_ne h] at e
      cases e
  refine ⟨rfl, fun y d e => ?_, fun x y d e1 e2 => ?_, fun i y e => ?_⟩
  · rw [(one y d e).2]
    exact ⟨hn, _, hc⟩
  · rw [(one x d e1).1, (one y d e2).1]
  · have hi : i < 1 := (List.getElem?_eq_some_iff.mp e).1
    have hi : i = 0 := by omega
    subst hi
    cases e
    exact ⟨cc, List.lookup_cons_self, fun v z => by cases z⟩
theorem sup_fn (lk : K.lookup f = some ⟨oc, od, .func (PySem.W.fnX "__init__" qual params (supBody text fld p0 p1 p2 p3 p4 p5 q1 q2 q3 q4 kk) scope [("__class__", cc)] dV kV doc pm an (.ref c) ct), osl⟩) (hcd : PySem.W.codeIn K (.ref c) qual = true)
    (S : NdefX.NScope ["self", fld, "__class__"] ["self", fld] ["__class__"] scope) (T : OexC K C) (hno : PySem.W.findIn K (.ref C) fld = some none)
    (hcell : K.lookup cc = some ⟨ocl, ocd, .cell (some (.ref C)), ocs⟩) (hcode : K.lookup c = some ⟨ccl, cdd, .fields vs, ccs⟩) (hvs : vs[2]? = some (.str file tf)) (hfile : ((P.main.file : Str) == file) = true)
    (hsup : mg "super" = none) (htop : (P.main.scope.names.lookup ("super" : Str)).isSome = false) (hks : scope.names.lookup ("super" : Str) = some .globalImplicit)
    (hpar : (params.posonlyargs ++ params.args).head? = some ar) (har : ar.arg = "self") (hop : PySem.W.nsIn K PySem.cStatics "thirdparty.any" = some none)
    (hev : ∀ env : Env, ∃ pl : Sem Bool, eval (.Call (.Attribute (.Call (.Name "super" p0) [] [] p1) "__init__" p2) [.Constant (.str text) kk p3] [] p4) env = (do
      let ov ← attributeBase (.Call (.Name "super" p0) [] [] p1) "__init__" env (eval (.Call (.Name "super" p0) [] [] p1) env)
      standAt p2.atName
      let (g, first) ← holding [ov] (getMethod ov "__init__" pl)
      callWith p4 g first (backTo p4 (starEach [.Constant (.str text) kk p3] env)) []))
    (hf1 : (fld == ("__debug__" : Str)) = false) (hf2 : (fld == ("__classdict__" : Str)) = false)
    (hsi : PySem.W.ks_superIn K C C "__init__" = some (some (.builtin "ValueError.__init__"))) :
    FnOk P w K mg base CX (k + 1) f (PySem.W.fnX "__init__" qual params (supBody text fld p0 p1 p2 p3 p4 p5 q1 q2 q3 q4 kk) scope [("__class__", cc)] dV kV doc pm an (.ref c) ct) ["self", fld] (spSup C fld) := by
  refine ⟨fun vs H Q E h => ?_, fun A outer s H args us vs' Q E hr e0 hb r hsp => ?_⟩
  · obtain ⟨a, y, rfl, _⟩ := h
    rfl
  obtain ⟨a, y, rfl, ha, q⟩ := hsp
  obtain ⟨u, rfl, ry⟩ : ∃ u, us = [.ref a, u] ∧ RelV y u := by
    cases r with
    | cons r1 r =>
      cases r with
      | cons r2 r =>
        cases r
        cases r1
        exact ⟨_, rfl, r2⟩
  have KX : K.In s.heap := e0.mod.kin.keeps fun b o e => (e0.bs b o e).1
  have lim : s.heap.NoLimit := e0.mod.nolimit.keeps fun b o e => (e0.bs b o e).1
  obtain ⟨F, hF⟩ : ∃ F : NdefX.NF, F = ⟨"__init__", qual, params, supBody text fld p0 p1 p2 p3 p4 p5 q1 q2 q3 q4 kk, scope, [("__class__", cc)], c⟩ := ⟨_, rfl⟩
  have CA : NdefX.CellsAt F.cl ["__class__"] [none] s.heap H := by
    rw [hF]
    exact cells_cc (e0.bs _ _ (e0.mod.kin _ _ hcell)).2 ⟨_, KX _ _ hcell, rfl⟩
  have S' : NdefX.NScope ["self", fld, "__class__"] ["self", fld] ["__class__"] F.scope := by rw [hF]; exact S
  refine PySem.ks_codeAny_call_defAt (body := supBody text fld p0 p1 p2 p3 p4 p5 q1 q2 q3 q4 kk) (binds := (["self", fld] : List Str).zip [.ref a, u]) hr.depth (KX _ _ lk) rfl lim (PySem.W.codeRec_of KX hcd) rfl hb S.nocell (fun x hx => S.par _ (List.of_mem_zip hx).1) (fun h₁ hns hk₁ => ?_) S.co S.gen S.kind
  have I := NdefX.inv_startN (CX := CX) (f := f) (E := E) (tk := s.toks + ((["self", fld] : List Str).zip [Value.ref a, u]).length) S' hr.hd e0 rfl r CA hns hk₁
  subst hF
  have KX1 : K.In h₁ := KX.keeps hk₁
  obtain ⟨nm, qn, N, bs, bm, sn, sub, ab, col, dd, k0, k1, k2, k3, k5, hC, hbm⟩ := T.cls
  have hcl : PySem.W.clsIn K C = some { name := nm, bases := bs, mro := .ref C :: bm, ns := N, qualname := qn, hasDict := true, slotNames := sn, subclasses := sub, abstract := ab, collection := col, hasDel := false } := by
    unfold PySem.W.clsIn
    rw [hC]
  obtain ⟨t1, hx1⟩ := exo_at I.hok ha
  have hint : interactive (callEnv (PySem.W.fnX "__init__" qual params (supBody text fld p0 p1 p2 p3 p4 p5 q1 q2 q3 q4 kk) scope [("__class__", cc)] dV kV doc pm an (.ref c) ct) s.heap.objs.size f) = false := by
    unfold interactive
    rw [show (callEnv (PySem.W.fnX "__init__" qual params (supBody text fld p0 p1 p2 p3 p4 p5 q1 q2 q3 q4 kk) scope [("__class__", cc)] dV kV doc pm an (.ref c) ct) s.heap.objs.size f).scope.kind = .function from S.kind]
    rfl
  obtain ⟨pl, hev⟩ := hev (callEnv (PySem.W.fnX "__init__" qual params (supBody text fld p0 p1 p2 p3 p4 p5 q1 q2 q3 q4 kk) scope [("__class__", cc)] dV kV doc pm an (.ref c) ct) s.heap.objs.size f)
  refine PySem.ks_wpAt_execs_cons (PySem.ks_wpAt_Expr_any (PySem.ks_wpAt_MethodCall (pl := pl) ?_ hev) hint)
  refine PySem.ks_wpAt_super_base hks (S.frk _ (List.mem_singleton_self _)) (by decide) rfl (KX1 _ _ lk) rfl hpar rfl (KX1 _ _ hcode) rfl hvs hfile htop ?_
  obtain ⟨mb, g1, g2⟩ := I.mod.blt
  refine PySem.W.ks_loadName_global S.kind hks (Calls.loadGlobal_builtin (I.mod.glob.keeps I.bk) hsup (g1.keeps I.bk) ((g2 "super" (by decide)).trans (by rfl)) ⟨rfl, ?_⟩)
  refine wpAny_loadName_free S.kind (S.frk _ (List.mem_singleton_self _)) List.lookup_cons_self ⟨_, KX1 _ _ hcell, rfl⟩ ?_
  have hself : scope.names.lookup ar.arg = some .local := by
    rw [har]
    exact S.par _ List.mem_cons_self
  have hmself : ((["self", fld] : List Str).zip [Value.ref a, u]).reverse.lookup ar.arg = some (.ref a) := by
    rw [har]
    have nd := S.nd
    have ne : (("self" : Str) == fld) = false := beq_false_of_ne (fun z => by
      rw [← z] at nd
      exact absurd nd (by decide))
    show List.lookup (Str.ofString "self") ([((fld : Str), u), (Str.ofString "self", Value.ref a)] : List (Str × Value)) = _
    rw [List.lookup_cons, ne, List.lookup_cons_self]
  refine wpAny_loadName_local S.kind hself hns hmself ?_
  refine PySem.ks_wpAny_isType_cls (KX1 _ _ hC) rfl ⟨rfl, ?_⟩
  have hsubC : PySem.W.mroIn K C (.ref C) = some true := by
    unfold PySem.W.mroIn
    rw [hcl]
    simp
  have hsubV : PySem.W.mroIn K C (.type "ValueError") = some true := by
    unfold PySem.W.mroIn
    rw [hcl]
    have : (Value.ref C :: bm).contains (.type "ValueError") = true := by
      rw [PySem.HandSPX.refsVE_contains "ValueError" (Value.ref C :: bm) hbm]
      decide +kernel
    simpa using this
  refine PySem.ks_wpAny_call_super (KX1 _ _ hC) rfl hx1 rfl (fun c z => nomatch z) (PySem.W.looks_mroIn KX1 hsubC) (fun h2 e2 k2 => ?_)
  have KX2 : K.In h2 := KX1.keeps k2
  have hx2 := k2 _ _ hx1
  have aC : a ≠ C := fun z => by
    have := (e0.bs _ _ (e0.mod.kin _ _ hC)).2
    rw [← z, ha] at this
    cases this
  have hal : PySem.W.alongIn K "__init__" bm = some (some (.builtin "ValueError.__init__")) := by
    unfold PySem.W.ks_superIn at hsi
    rw [hcl] at hsi
    simpa [List.dropWhile_cons] using hsi
  have hinst : PySem.W.InstAt h2 a { cls := .ref C, dict := none, data := .fields #[.ref t1, .none, .none, .none, .bool false, .none] } C none := ⟨hx2, rfl, rfl, trivial⟩
  refine PySem.W.kxs_getMethod PySem.W.kxs_ValueError e2 (PySem.W.looks_opaque KX2 hop) (l₀ := .ref C :: bm) (l := bm) ((PySem.W.looks_clsIn KX2 hcl).andThen .now) (by simp [List.dropWhile_cons]) KX2 hal (hinst.type.andThen (PySem.W.looks_mroIn KX2 hsubV)) aC (by decide) ?_
  have hu : (h2.push (PySem.W.kxs_mw "ValueError.__init__" a)).get? h2.objs.size = some (PySem.W.kxs_mw "ValueError.__init__" a) := Heap.get?_push_at rfl rfl
  have k3 : ∀ b o, h2.get? b = some o → (h2.push (PySem.W.kxs_mw "ValueError.__init__" a)).get? b = some o := fun b o e => Heap.get?_push_of_some _ e
  refine PySem.W.kxs_callWith (i := "ValueError.__init__") (x := a) (by rfl) (Calls.evalArgs_plain ?_)
  wp_walk
  have hx3 := k3 _ _ hx2
  have k13 : ∀ b o, h₁.get? b = some o → (h2.push (PySem.W.kxs_mw "ValueError.__init__" a)).get? b = some o := fun b o e => k3 b o (k2 b o e)
  have J := I.kept (t' := s.toks + ((["self", fld] : List Str).zip [Value.ref a, u]).length + 1 + 1) k13
  have hC3 := KX1.keeps k13 _ _ hC
  generalize h2.push (PySem.W.kxs_mw "ValueError.__init__" a) = h3 at *
  refine ⟨hu, wpAny_call (codeAny_of_tree ?_)⟩
  show wpAny _ (Around.in1 _) (callAny (.ref h2.objs.size) ⟨[.str text _], []⟩) _ _ _
  simp only [callAny]
  refine wpAny_bind (wpAny_load hu (?_ : _)); simp only [PySem.W.kxs_mw, show (Value.type "method-wrapper" == Value.type "method" || Value.type "method-wrapper" == Value.type "builtin_function_or_method" || Value.type "method-wrapper" == Value.type "method-wrapper") = true by decide, if_true]
  refine PySem.W.KFB.if_so (by decide) (wpAny_bind (PySem.W.check_bound_init F.excBase_ValueError.toExcCallFacts hC3 hx3 rfl (wpAny_bind (wpAny_pure (wpAny_pure ?_)))))
  refine ⟨plainId_quiet F.excBase_ValueError.init.plain _, codeAny_builtin F.excBase_ValueError.initEntry (PySem.W.exc_init_tree (cls := .ref C) (t0 := t1) (dv := none) (c2 := .none) (c3 := .none) (b4 := .bool false) hx3 (by show 1 ≤ sizeLine; decide) fun h4 k4 e4 _ => ?_)⟩
  have J4 := J.write (t' := s.toks + ((["self", fld] : List Str).zip [Value.ref a, u]).length + 1 + 1) (x := a) (e := a) (o := exo a C none) (by rw [ha]; exact True.intro) (.inl rfl) k4 ⟨_, e4⟩ (exo_ok e4)
  have eu : upd H a (exo a C none) = H := funext fun b => by
    by_cases hb : b = a
    · rw [hb, upd_same, ha]
    · rw [upd_ne hb]
  rw [eu] at J4
  have last : PSs (NdefX.ncx CX P w K mg base ["self", fld, "__class__"] ⟨"__init__", qual, params, supBody text fld p0 p1 p2 p3 p4 p5 q1 q2 q3 q4 kk, scope, [("__class__", cc)], c⟩ f A outer s H E) [.Assign [.Attribute (.Name "self" q1) fld q2] (.Name fld q3) q4] (tOst K fld (tVar 0) (tVar 1)) := by
    refine pss_one (ps_ost (pv 0 rfl (.inl (S.par _ List.mem_cons_self))) (pv 1 rfl (.inl (S.par _ (List.mem_cons_of_mem _ (List.mem_singleton_self _)))) hf1 hf2))
  refine wpAt_of_wpAny (wpAny_mono (last.run [] _ _ H { nx := fun _ H' => Q .non H', rt := Q } J4 ?_) (fun fl s' hs => ?_) fun e s' hs => hs)
  · exact ⟨_, rfl, _, rfl, a, C, rfl, T, hno, .inl ⟨ha, fun dx hdx ne => q dx hdx ne⟩⟩
  have fin : ∀ {σ' : L2.St} {H' : Hp} {v : V} {u : Value}, Inv (NdefX.ncx CX P w K mg base ["self", fld, "__class__"] ⟨"__init__", qual, params, supBody text fld p0 p1 p2 p3 p4 p5 q1 q2 q3 q4 kk, scope, [("__class__", cc)], c⟩ f A outer s H E) [] σ' H' s' → L2.RelV v u → Q v H' → CE outer P w H s Q u s' := fun {σ' H' v u} Z rv z => ⟨v, H', Z.os, Z.bare, Z.base, Z.hok, rv, z⟩
  cases fl with
  | next =>
    obtain ⟨σ', H', Z, z⟩ := hs
    exact fin (v := V.non) (u := Value.none) Z rfl z
  | ret v =>
    obtain ⟨v', σ', H', Z, rv, z⟩ := hs
    exact fin Z rv z
  | brk =>
    obtain ⟨_, _, _, z⟩ := hs
    exact False.elim z
  | cont =>
    obtain ⟨_, _, _, z⟩ := hs
    exact False.elim z
end
/-! ### defs and constructors that may raise -/
structure CFx (P : Program) (w : World) (K : PySem.W.Frag) (mg : Str → Option Value) (base : Heap) (k : Nat) (x : Str) (ps : List Str) (sp : Sp) : Prop where
  ex : ∃ (f : Addr) (fd : FuncData), FnOk P w K mg base (L2.CX P w) k f fd ps sp ∧ mg x = some (.ref f) ∧ PySem.W.keepIn K (.ref f) = true ∧ Binds K fd ps []
structure CMkx (P : Program) (w : World) (K : PySem.W.Frag) (mg : Str → Option Value) (base : Heap) (C : Addr) (k : Nat) (x : Str) (ps : List Str) (dvs : List V) (sp : Sp) : Prop where
  ex : ∃ (f : Addr) (fd : FuncData) (ds : List Value), FnOk P w K mg base (L2.CX P w) k f fd ps sp ∧ Mk K C f ∧ mg x = some (.ref C) ∧ Vals dvs ds ∧ Binds K fd ps ds
structure CMkk (P : Program) (w : World) (K : PySem.W.Frag) (mg : Str → Option Value) (base : Heap) (C : Addr) (k : Nat) (x : Str) (ps : List Str) (n : Nat) (ks : List Str) (gV : List V → List V → List V) (sp : Sp) : Prop where
  ex : ∃ (f : Addr) (fd : FuncData) (g : List Value → List Value → List Value), FnOk P w K mg base (L2.CX P w) k f fd ps sp ∧ Mk K C f ∧ mg x = some (.ref C) ∧ KBn K fd ps n ks g gV
/-- an error class with an own __init__ of one field -/
structure CEx (P : Program) (w : World) (K : PySem.W.Frag) (mg : Str → Option Value) (base : Heap) (C : Addr) (k : Nat) (x fld : Str) : Prop where
  ex : ∃ (f : Addr) (fd : FuncData), FnOk P w K mg base CX0 k f fd ["self", fld] (spSup C fld) ∧ OexC K C ∧ PySem.W.findIn K (.ref C) "__init__" = some (some (.ref f)) ∧ PySem.W.typeIn K (.ref f) = some (.type "function") ∧ Binds K fd ["self", fld] [] ∧ mg x = some (.ref C)
def tMakeE (C : Addr) (sp : Sp) (dvs : List V) (E : L2.St → XK) (t : TA) : TE := fun σ H Q => t σ H fun vs H1 => ∀ x dx, H1 x = none → H1 dx = none → dx ≠ x → sp (.ref x :: (vs ++ dvs)) (upd (upd H1 dx (.own x)) x (.ins C dx [])) (fun v H2 => v = .non ∧ Q (.ref x) H2) (E σ)
section
variable {X : Cx} {k : Nat} {C : Addr} {x fld : Str} {ps : List Str} {dvs : List V} {sp : Sp} {W : WX} {p pos : Pos} {e : Expr} {es : List Expr} {t : TA}
theorem pe_cfx (F : CFx X.prog X.w X.K X.mg X.base k x ps sp) (hr : Room k X.A) (tk : Takes X W) (hg : Gl X x) (ha : PA X (e :: es) t)
    (hdb : (x == ("__debug__" : Str)) = false := by decide) (he : starEach (e :: es) X.env = (false, eval e X.env) :: starEach es X.env := by rfl) (hpl : (backTo pos (starEach es X.env)).any (·.1) = false := by rfl) :
    PE X (.Call (.Name x p) (e :: es) [] pos) (tCallS sp (WE W) t) := by
  obtain ⟨f, fd, F1, g, kp, b⟩ := F.ex
  exact pe_callS F1 hr hg g kp b (fun σ => passAt tk σ) ha hdb he hpl
theorem never_at {σ : L2.St} : PassesAt (L2.CX X.prog X.w) X σ E0 := fun _ _ _ e s' I c => by
  obtain ⟨_, _, _, _, _, _, _, _, _, _, _, _, z⟩ := c
  exact z.elim
theorem pe_cfn (F : CFx X.prog X.w X.K X.mg X.base k x ps sp) (hr : Room k X.A) (hg : Gl X x) (ha : PA X (e :: es) t)
    (hdb : (x == ("__debug__" : Str)) = false := by decide) (he : starEach (e :: es) X.env = (false, eval e X.env) :: starEach es X.env := by rfl) (hpl : (backTo pos (starEach es X.env)).any (·.1) = false := by rfl) :
    PE X (.Call (.Name x p) (e :: es) [] pos) (tCallS sp (fun _ => E0) t) := by
  obtain ⟨f, fd, F1, g, kp, b⟩ := F.ex
  exact pe_callS F1 hr hg g kp b (fun σ => never_at) ha hdb he hpl
theorem run_mkx {CX : CXT} {f : Addr} {fd : FuncData} {ds : List Value} {E : XK} {pins : List (Addr × Obj)} {σ : L2.St} {H : Hp} {s : Shared} {Q : VK} {us : List Value} {vs : List V} (M : Mk X.K C f) (F : FnOk X.prog X.w X.K X.mg X.base CX k f fd ps sp) (hr : Room (k + 1) X.A) (hb : Binds X.K fd ps ds) (hd : Vals dvs ds) (hx : PassesAt CX X σ E) (I : Inv X pins σ H s) (r : Vals vs us)
    (h : ∀ x dx, H x = none → H dx = none → dx ≠ x → sp (.ref x :: (vs ++ dvs)) (upd (upd H dx (.own x)) x (.ins C dx [])) (fun v H2 => v = .non ∧ Q (.ref x) H2) E) : wpAny (model X.prog X.w) X.A (call (.ref C) us) (EP X pins σ Q) X.xe s := by
  have made := I.made (C := C)
  have big := h (s.heap.objs.size + 1) s.heap.objs.size (I.hok.fresh (Nat.le_add_right _ 1)) (I.hok.fresh (Nat.le_refl s.heap.objs.size)) (Nat.ne_of_lt (Nat.lt_add_one s.heap.objs.size))
  have rel : Vals (V.ref (s.heap.objs.size + 1) :: (vs ++ dvs)) (Value.ref (s.heap.objs.size + 1) :: (us ++ ds)) := .cons rfl (r.append hd)
  have many : (Value.ref (s.heap.objs.size + 1) :: us ++ ds).length = ps.length := (Paired.length rel).symm.trans (F.len _ _ _ _ big)
  have body := F.run _ X.stack _ _ ⟨Value.ref (s.heap.objs.size + 1) :: us, []⟩ (Value.ref (s.heap.objs.size + 1) :: (us ++ ds)) _ _ E (hr.make C us []) (made.env0.make C us []) (hb _ (Value.ref (s.heap.objs.size + 1) :: us) made.kIn many) rel big
  refine wpAny_call (make_map (f := f) I.kIn M.makes M.init (beq_iff_eq.mp M.fn) (codeAny_mono body fun res s' fin => ?_))
  match res, fin with
  | .error er, fin => exact hx pins _ _ er s' made fin
  | .ok (.ret u), fin =>
    obtain ⟨v, H', J, rv, ev, qq⟩ := made.after fin
    subst ev
    exact ⟨rv, ⟨V.ref (s.heap.objs.size + 1), H', J, rfl, qq⟩⟩
  | .ok .next, fin => exact fin.elim
  | .ok .brk, fin => exact fin.elim
  | .ok .cont, fin => exact fin.elim
theorem pe_mkx (M : CMkx X.prog X.w X.K X.mg X.base C k x ps dvs sp) (hr : Room (k + 1) X.A) (tk : Takes X W) (hg : Gl X x) (ha : PA X (e :: es) t)
    (hdb : (x == ("__debug__" : Str)) = false := by decide) (he : starEach (e :: es) X.env = (false, eval e X.env) :: starEach es X.env := by rfl) (hpl : (backTo pos (starEach es X.env)).any (·.1) = false := by rfl) :
    PE X (.Call (.Name x p) (e :: es) [] pos) (tMakeE C sp dvs (WE W) t) := by
  obtain ⟨f, fd, ds, F, mk, g, vd, b⟩ := M.ex
  constructor
  intro pins s σ H Q I h
  refine wpAny_Call_Name_kw (ld_glob I hg g (PySem.W.callWith_K (h₀ := X.base) I.ok.mod.kin mk.kp (thn (ha.run pos pins s σ H _ I h) fun us s1 ⟨vs, H1, I1, r, q⟩ => ⟨I1.kIn, run_mkx mk F hr b vd (passAt tk σ) I1 r q⟩) he hpl) hdb)
theorem never_all : Passes (L2.CX X.prog X.w) X E0 := fun _ _ _ _ e s' I c => by
  obtain ⟨_, _, _, _, _, _, _, _, _, _, _, _, z⟩ := c
  exact z.elim
theorem pe_mkn (M : CMkx X.prog X.w X.K X.mg X.base C k x ps dvs sp) (hr : Room (k + 1) X.A) (hg : Gl X x) (ha : PA X (e :: es) t)
    (hdb : (x == ("__debug__" : Str)) = false := by decide) (he : starEach (e :: es) X.env = (false, eval e X.env) :: starEach es X.env := by rfl) (hpl : (backTo pos (starEach es X.env)).any (·.1) = false := by rfl) :
    PE X (.Call (.Name x p) (e :: es) [] pos) (tMake C sp dvs E0 t) := by
  obtain ⟨f, fd, ds, F, mk, g, vd, b⟩ := M.ex
  exact pe_make mk F hr hg g b vd never_all ha hdb he hpl
theorem pe_mkk {n : Nat} {ks : List Str} {gV : List V → List V → List V} {kws : List Keyword} {tk : TA} (M : CMkk X.prog X.w X.K X.mg X.base C k x ps (n + 1) ks gV sp) (hr : Room (k + 1) X.A) (hg : Gl X x) (ha : PA X (e :: es) t) (hkw : PK X kws tk)
    (hall : (backToKw pos (keywordEach kws X.env)).all (·.1.isSome) = true := by rfl) (hks : (backToKw pos (keywordEach kws X.env)).filterMap (·.1) = ks := by rfl)
    (hdb : (x == ("__debug__" : Str)) = false := by decide) (he : starEach (e :: es) X.env = (false, eval e X.env) :: starEach es X.env := by rfl)
    (hpl : ((backTo pos (starEach (e :: es) X.env)).any (·.1) || (backToKw pos (keywordEach kws X.env)).any (·.1.isNone)) = false := by rfl) :
    PE X (.Call (.Name x p) (e :: es) kws pos) (tMakeN C n ks.length sp gV E0 t tk) := by
  obtain ⟨f, fd, gg, F, mk, g, b⟩ := M.ex
  exact pe_makeN mk F hr hg g b never_all ha hkw hall hks hdb he hpl
theorem pmk_cex (F : CEx X.prog X.w X.K X.mg X.base C k x fld) (hr : Room (k + 1) X.A) (hg : Gl X x) (ha : PA X (e :: es) t)
    (hdb : (x == ("__debug__" : Str)) = false := by decide) (he : starEach (e :: es) X.env = (false, eval e X.env) :: starEach es X.env := by rfl) (hpl : (backTo pos (starEach es X.env)).any (·.1) = false := by rfl) :
    PMk X (.Call (.Name x p) (e :: es) [] pos) (tMkO C (spSup C fld) [] t) := by
  obtain ⟨f, fd, F1, T, iC, tI, b, g⟩ := F.ex
  exact pmk_oex T iC tI F1 hr b .nil pass0 hg g ha hdb he hpl
end
/-! ### a kept error with its dict -/
section
variable {K : PySem.W.Frag}
theorem er_atD {X : Cx} {pins : List (Addr × Obj)} {σ : L2.St} {H : Hp} {s : Shared} {a D dx : Addr} {fs : List (Str × V)} (I : Inv X pins σ H s) (h : H a = some (ErO (.ref D) (some dx) a)) (hd : H dx = some (.xd fs)) : ∃ (oe od : Obj), PySem.W.InstAt s.heap a oe D (some od) ∧ ∀ (n : Str) (v : V), fs.lookup n = some v → ∃ u, RelV v u ∧ PySem.W.lookIn n od = some (some u) := by
  obtain ⟨⟨oe, vs, e, z, f⟩, _⟩ := I.hok a _ h
  obtain ⟨mA, hns, hr⟩ := (show ObjOk X.prog X.w H s.heap dx (.xd fs) from I.hok dx _ hd)
  obtain ⟨od, ho, hl⟩ := lookIn_ns hns
  refine ⟨oe, od, ⟨e, z.1, by unfold PySem.W.notCls; rw [f], by rw [z.2]; exact ho⟩, fun n v l => ?_⟩
  obtain ⟨u, hu, ru⟩ := RelO.some_of (v := v) (o := mA n) (by rw [← l]; exact hr n)
  exact ⟨u, ru, (hl n).trans (by rw [hu])⟩
def rIsErD (K : PySem.W.Frag) : List V → Hp → VK → Prop := fun xs H Q => ∃ (a D dx : Addr) (fs : List (Str × V)) (c : V) (cv : Value) (b : Bool), xs = [.ref a, c] ∧ ExcC K D ∧ H a = some (ErO (.ref D) (some dx) a) ∧ H dx = some (.xd fs) ∧ (∀ u, RelV c u → u = cv) ∧ PySem.W.kitOne K (.ref D) cv = some b ∧ Q (.bl b) H
theorem kk_isErD (K : PySem.W.Frag) {X : Cx} (hK : X.K = K := by rfl) : CallR X (.builtin "isinstance") (rIsErD K) := by
  subst hK
  intro pins s σ H xs us Q I r h
  obtain ⟨a, D, dx, fs, c, cv, b, rfl, C, ha, hdx, hcv, e, q⟩ := h
  cases r with
  | cons rx rr =>
    cases rr with
    | cons rt rr =>
      cases rr
      cases rx
      have ec := hcv _ rt
      subst ec
      obtain ⟨oe, od, J, _⟩ := er_atD I ha hdx
      have hcl : (PySem.W.clsIn X.K D).isSome = true := by
        have z := C.hd
        unfold PySem.W.hasDictIn at z
        cases hc : PySem.W.clsIn X.K D with
        | none => rw [hc] at z; cases z
        | some cd => rfl
      exact PySem.W.kia_one (PySem.W.kitx_exc hcl C.hg C.hk C.hs C.ha C.hn C.ht C.hm) I.kIn J e (fun z => nomatch z) fun tk => ⟨.bl b, H, I.kept (t' := tk) fun _ _ z => z, rfl, q⟩
def tErF (C : Addr) (n : Str) (te : TE) : TE := fun σ H Q => te σ H fun x H1 => ∃ (a dx : Addr) (fs : List (Str × V)) (v : V), x = .ref a ∧ H1 a = some (ErO (.ref C) (some dx) a) ∧ H1 dx = some (.xd fs) ∧ fs.lookup n = some v ∧ Q v H1
theorem pe_erF {X : Cx} {C : Addr} {e : Expr} {te : TE} {pos : Pos} {n : Str} (T : XfC X.K C) (hno : PySem.W.findIn X.K (.ref C) n = some none) (he : PE X e te) (hb : attributeBase e n X.env (eval e X.env) = eval e X.env := by rfl) : PE X (.Attribute e n pos) (tErF C n te) := by
  constructor
  intro pins s σ H Q I h
  refine attr_of hb (thn (he.run pins s σ H _ I h) fun u s1 hh => ?_)
  obtain ⟨x, H1, I1, rx, a, dx, fs, v, rfl, ha, hdx, l, q⟩ := hh
  cases (show u = Value.ref a from rx)
  obtain ⟨oe, od, J, look⟩ := er_atD I1 ha hdx
  obtain ⟨w, rw', hw⟩ := look n v l
  exact HandSPX.exc_get I1.kIn J T.ga T.gg T.exC (PySem.W.findObj_own T.hdC hno rfl hw) (handed_of rw') ⟨v, H1, I1.tok _, rw', q⟩
end
/-! ### an own error made as a value, by place or by its field's name -/
namespace EXV
open PySem.W PySem.Calls PyProof.Rows PySem.HandSPX
section
variable {M : Model} {A : Around} {E : Value → Shared → Prop} {h : Heap} {g : Array GenState} {d : Drawn} {t : Nat} {os : OsState}
variable {nm q : Str} {C N : Addr} {bs bm bmB : List Value} {hdct : Bool} {sn : List Str} {sub : List Value} {ab : Bool} {col : Option Bool} {dd : Option Addr} {k0 k1 k2 k3 k5 : Option Value} {B newId initId : String}
theorem check_new_kw (F : ExcBaseFacts B newId initId bmB) (hT : ∀ X : String, bm.contains (.type X) = bmB.contains (.type X)) {kn : Str} {kv : Value} {Q : Unit → Shared → Prop}
    (hC : h.get? C = some (excClassObj nm q C N bs bm hdct sn sub ab col dd k0 k1 k2 k3 k5 newId)) (hq : Q () ⟨h, g, d, t, os⟩) : wpAny M A (checkBuiltinCall newId ⟨[.ref C], [(kn, kv)]⟩) Q E ⟨h, g, d, t, os⟩ := by
  have hcont : (Value.ref C :: bm).contains (.type B) = true := by rw [List.contains_cons, hT, F.hasB, Bool.or_true]
  have hstar := F.noStar
  simp only [checkBuiltinCall, F.newKind, F.newSplit, F.newRow]
  repeat (first | refine wpAny_loadPart_at hC ?_ | (refine wpAny_isSubtype_exc hC ?_; rw [hcont]) | refine wpAny_staticBase_exc hC ?_ | refine wpAny_madeBy_exc hC ?_ | simp only [bne_self_eq_false, Bool.false_eq_true, if_false] | wp_step)
  exact hq
end
section
variable {prog : Program} {w : World} {A : Around} {E : Value → Shared → Prop} {R : Result → Shared → Prop} {h : Heap} {g : Array GenState} {d : Drawn} {t : Nat} {os : OsState}
variable {nm q : Str} {C N : Addr} {bs bm bmB : List Value} {hdct : Bool} {sn : List Str} {sub : List Value} {ab : Bool} {col : Option Bool} {dd : Option Addr} {k0 k1 k2 k3 k5 : Option Value} {B newId initId : String}
theorem new_kw (F : ExcBaseFacts B newId initId bmB) (hT : ∀ X : String, bm.contains (.type X) = bmB.contains (.type X)) {kn : Str} {kv : Value}
    (hC : h.get? C = some (excClassObj nm q C N bs bm hdct sn sub ab col dd k0 k1 k2 k3 k5 newId))
    (hq : R (.ok (.ret (.ref (h.objs.size + 1)))) ⟨(h.push { cls := .type "tuple", data := .seq #[] }).push
      { cls := .ref C, data := .fields #[.ref h.objs.size, .none, .none, .none, .bool false, .none] }, g, d, t, os⟩) :
    codeAny (model prog w) A (.builtin newId ⟨[.ref C], [(kn, kv)]⟩) R ⟨h, g, d, t, os⟩ := by
  have hends := F.ends
  have hcB : (Value.ref C :: bm).contains (.type B) = true := by rw [List.contains_cons, hT, F.hasB, Bool.or_true]
  have hcA : (Value.ref C :: bm).contains (.type "AttributeError") = false := by rw [List.contains_cons, hT, F.noAttr]; rfl
  have hcN : (Value.ref C :: bm).contains (.type "NameError") = false := by rw [List.contains_cons, hT, F.noName]; rfl
  refine codeAny_builtinAt F.entry ?_
  unfold Builtin.«BaseException.__new__»
  refine PySem.wpAt_bind ?_
  show PySem.wpAt _ _ _ (stack >>= _) _ _ _
  refine PySem.wpAt_bind (PySem.wpAt_stack fun p below => PySem.wpAt_of_wpAny ?_)
  wp_walk
  refine PySem.wpAt_of_wpAny ?_
  rw [F.owner]
  repeat (first | with_reducible refine wpAny_madeHere_exc F.canon hC ?_ | with_reducible refine wpAny_loadPart_at hC ?_ | (with_reducible refine wpAny_isSubtype_exc hC ?_; first | rw [hcB] | rw [hcA] | rw [hcN]) | wp_step)
  show R _ _
  rw [Heap.size_push]
  exact hq
theorem type_call_kw (F : ExcBaseFacts B newId initId bmB) (hT : ∀ X : String, bm.contains (.type X) = bmB.contains (.type X)) {kn : Str} {kv : Value} {fI : Addr} {Q : Fin → Shared → Prop}
    (hC : h.get? C = some (excClassObj nm q C N bs bm hdct sn sub ab col dd k0 k1 k2 k3 k5 newId))
    (hi : PySem.W.Looks (model prog w) h (typeLookup (.ref C) "__init__") (some (.ref fI))) (hb : ∀ self, PySem.W.Looks (model prog w) h (bindSpecial (.ref fI) self) (.ref fI, [self]))
    (hq : codeAny (model prog w) A (.call (.ref fI) ⟨[.ref (h.objs.size + 1)], [(kn, kv)]⟩)
      (fun r s' => match r with | .ok (.ret v) => v = .none ∧ Q (.done (.ret (.ref (h.objs.size + 1)))) s' | .ok _ => False | .error e => E e s')
      ⟨(h.push (PySem.W.kdv_tup [])).push (PySem.HandSPX.excO C h.objs.size), g, d, t, os⟩) :
    wpAny (model prog w) A (Builtin.«type.__call__» ⟨[.ref C], [(kn, kv)]⟩) Q E ⟨h, g, d, t, os⟩ := by
  repeat (first | with_reducible refine wpAny_loadPart_at hC ?_ | with_reducible refine wpAny_madeBy_exc hC ?_ | wp_step)
  refine codeAny_call_builtin_code (Code.quiet_builtin _ F.quiet) (check_new_kw F hT hC ?_)
  refine new_kw F hT hC ?_
  show wpAny _ _ _ _ _ _
  have k : ∀ b o, h.get? b = some o → ((h.push (PySem.W.kdv_tup [])).push (PySem.HandSPX.excO C h.objs.size)).get? b = some o := fun b o e => Heap.get?_push_of_some _ (Heap.get?_push_of_some _ e)
  have hC₁ := k _ _ hC
  have hget : ((h.push (PySem.W.kdv_tup [])).push (PySem.HandSPX.excO C h.objs.size)).get? (h.objs.size + 1) = some (PySem.HandSPX.excO C h.objs.size) := by heap_get
  have hcC : (Value.ref C :: bm).contains (.ref C) = true := by simp
  have i1 := hi.keeps k
  have b1 := (hb (.ref (h.objs.size + 1))).keeps k
  unfold isInstance
  repeat (first | with_reducible refine wpAny_loadPart_at hget ?_ | (with_reducible refine wpAny_isSubtype_exc hC₁ ?_; rw [hcC]) | wp_step)
  show wpAny _ _ (typeLookup (.ref C) _) _ _ _
  refine i1.at ?_
  refine wpAny_holding (wpAny_bind (b1.at ?_))
  refine wpAny_bind (wpAny_call (codeAny_mono hq fun r s' z => ?_))
  rcases r with e | (v | _ | _ | _) <;> first | exact z | exact z.elim | skip
  obtain ⟨rfl, z⟩ := z
  first
    | exact wpAny_pure (wpAny_pure z)
    | (wp_walk; exact z)
theorem check_tc_kw {M : Model} {kn : Str} {kv : Value} {Q : Unit → Shared → Prop} (hC : h.get? C = some (excClassObj nm q C N bs bm hdct sn sub ab col dd k0 k1 k2 k3 k5 newId))
    (hq : Q () ⟨h, g, d, t, os⟩) : wpAny M A (checkBuiltinCall "type.__call__" ⟨[.ref C], [(kn, kv)]⟩) Q E ⟨h, g, d, t, os⟩ := by
  have f3 := tc_sub
  have hT : (⟨h, g, d, t, os⟩ : Shared).TypeIs (.ref C) "type" := ⟨_, hC, rfl⟩
  simp only [checkBuiltinCall, tc_kind, tc_split]
  repeat (any_goals (first | assumption | with_reducible refine wpAny_loadPart_at hC ?_ | with_reducible refine wpAny_onRaise ?_ | with_reducible refine wpAny_map ?_ | wp_step))
theorem call_kw (F : ExcBaseFacts B newId initId bmB) (hT : ∀ X : String, bm.contains (.type X) = bmB.contains (.type X)) {kn : Str} {kv : Value} {fI : Addr}
    (hC : h.get? C = some (excClassObj nm q C N bs bm hdct sn sub ab col dd k0 k1 k2 k3 k5 newId))
    (hi : PySem.W.Looks (model prog w) h (typeLookup (.ref C) "__init__") (some (.ref fI))) (hb : ∀ self, PySem.W.Looks (model prog w) h (bindSpecial (.ref fI) self) (.ref fI, [self]))
    (hq : codeAny (model prog w) (A.under (.builtin "type.__call__" ⟨[.ref C], [(kn, kv)]⟩)) (.call (.ref fI) ⟨[.ref (h.objs.size + 1)], [(kn, kv)]⟩) (PySem.W.InitBack (h.objs.size + 1) R)
      ⟨(h.push (PySem.W.kdv_tup [])).push (PySem.HandSPX.excO C h.objs.size), g, d, t, os⟩) :
    codeAny (model prog w) A (.call (.ref C) ⟨[], [(kn, kv)]⟩) R ⟨h, g, d, t, os⟩ := by
  have f1 := tc_lookup
  have f2 := tc_bind (.ref C)
  have hTy : (⟨h, g, d, t, os⟩ : Shared).TypeIs (.ref C) "type" := ⟨_, hC, rfl⟩
  refine codeAny_of_tree ?_
  show wpAny _ _ (callAny (.ref C) _) _ _ _
  repeat (any_goals (first | assumption | with_reducible refine wpAny_loadPart_at hC ?_ | wp_step))
  refine ⟨rfl, ?_⟩
  refine codeAny_call_builtin_at (Code.quiet_builtin _ (by decide +kernel)) entry_typeCall (check_tc_kw hC (type_call_kw F hT hC hi hb ?_))
  refine codeAny_mono hq fun r s' z => ?_
  rcases r with e | (v | _ | _ | _) <;> exact z
end
end EXV
/-- an error class with an own __init__ of one field, made by place or by its field's name -/
structure CEv (P : Program) (w : World) (K : PySem.W.Frag) (mg : Str → Option Value) (base : Heap) (C : Addr) (k : Nat) (x fld : Str) : Prop where
  ex : ∃ (f : Addr) (fd : FuncData), FnOk P w K mg base CX0 k f fd ["self", fld] (spSup C fld) ∧ OexC K C ∧ PySem.W.findIn K (.ref C) "__init__" = some (some (.ref f)) ∧ PySem.W.typeIn K (.ref f) = some (.type "function") ∧ Binds K fd ["self", fld] [] ∧ mg x = some (.ref C) ∧ ∀ (s : Shared) (a u : Value), BindsTo s fd ⟨[a], [(fld, u)]⟩ [("self", a), (fld, u)]
theorem CEv.cex {P : Program} {w : World} {K : PySem.W.Frag} {mg : Str → Option Value} {base : Heap} {C : Addr} {k : Nat} {x fld : Str} (h : CEv P w K mg base C k x fld) : CEx P w K mg base C k x fld := by
  obtain ⟨f, fd, a, b, c, d, e, g, _⟩ := h.ex
  exact ⟨f, fd, a, b, c, d, e, g⟩
def tExV (C : Addr) (fld : Str) (t : TA) : TE := fun σ H Q => t σ H fun vs H1 => ∃ y, vs = [y] ∧ ∀ a dx, H1 a = none → H1 dx = none → dx ≠ a → Q (.ref a) (upd (upd (upd H1 a (exo a C none)) dx (exd dx [(fld, y)])) a (exo a C (some dx)))
section
variable {X : Cx} {k : Nat} {C : Addr} {x fld : Str} {p pos : Pos} {e : Expr} {es : List Expr} {t : TA}
theorem sp_exv {a : Addr} {y : V} {H1 : Hp} {Q : VK} {E : XK} (n : H1 a = none) (q : ∀ dx, H1 dx = none → dx ≠ a → Q (.ref a) (upd (upd (upd H1 a (exo a C none)) dx (exd dx [(fld, y)])) a (exo a C (some dx)))) : spSup C fld [.ref a, y] (upd H1 a (exo a C none)) (fun v H2 => v = .non ∧ Q (.ref a) H2) E := by
  refine ⟨a, y, rfl, upd_same, fun dx hd ne => ⟨rfl, q dx ?_ ne⟩⟩
  rw [upd_ne ne] at hd
  exact hd
theorem pe_exV (F : CEv X.prog X.w X.K X.mg X.base C k x fld) (hr : Room (k + 1) X.A) (hg : Gl X x) (ha : PA X (e :: es) t)
    (hdb : (x == ("__debug__" : Str)) = false := by decide) (he : starEach (e :: es) X.env = (false, eval e X.env) :: starEach es X.env := by rfl) (hpl : (backTo pos (starEach es X.env)).any (·.1) = false := by rfl) :
    PE X (.Call (.Name x p) (e :: es) [] pos) (tExV C fld t) := by
  obtain ⟨fI, fd, F1, T, iC, tI, hb, hm, _⟩ := F.ex
  obtain ⟨nm, q, N, bs, bm, sn, sub, ab, col, dd, k0, k1, k2, k3, k5, hC, hbm⟩ := T.cls
  refine ⟨fun pins s σ H Q I h => ?_⟩
  refine wpAny_Call_Name_kw (ld_glob I hg hm ?_ hdb)
  refine PySem.W.callWith_K (h₀ := X.base) I.ok.mod.kin T.kC (thn (ha.run pos pins s σ H _ I h) fun us s1 ⟨vs, H1, I1, r1, y, hv, q1⟩ => ⟨I1.kIn, ?_⟩) he hpl
  subst hv
  show wpAny _ _ (call (.ref C) us) _ _ _
  obtain ⟨hp, g, dr, tk, os⟩ := s1
  have hsz : hp.objs.size ≤ hp.objs.size + 1 := Nat.le_succ _
  have hn : H1 (hp.objs.size + 1) = none := I1.hok.fresh hsz
  have hq : spSup C fld [.ref (hp.objs.size + 1), y] (upd H1 (hp.objs.size + 1) (exo (hp.objs.size + 1) C none)) (fun v H2 => v = .non ∧ Q (.ref (hp.objs.size + 1)) H2) (fun _ _ _ => False) := sp_exv hn (fun dx hd ne => q1 _ dx hn hd ne)
  have kk : ∀ b o, hp.get? b = some o → ((hp.push (PySem.W.kdv_tup us)).push (PySem.HandSPX.excO C hp.objs.size)).get? b = some o := fun b o e => Heap.get?_push_of_some _ (Heap.get?_push_of_some _ e)
  have hget : ((hp.push (PySem.W.kdv_tup us)).push (PySem.HandSPX.excO C hp.objs.size)).get? (hp.objs.size + 1) = some (PySem.HandSPX.excO C hp.objs.size) := by heap_get
  have I2 : Inv X pins σ (upd H1 (hp.objs.size + 1) (exo (hp.objs.size + 1) C none)) ⟨(hp.push (PySem.W.kdv_tup us)).push (PySem.HandSPX.excO C hp.objs.size), g, dr, tk, os⟩ :=
    I1.laid (t' := tk) (a := hp.objs.size + 1) (o := exo (hp.objs.size + 1) C none) (h' := (hp.push (PySem.W.kdv_tup us)).push (PySem.HandSPX.excO C hp.objs.size)) kk hsz (exo_ok hget)
  have r2 : Vals [V.ref (hp.objs.size + 1), y] (Value.ref (hp.objs.size + 1) :: us) := .cons rfl r1
  have hl : (Value.ref (hp.objs.size + 1) :: us ++ []).length = (["self", fld] : List Str).length := by
    rw [List.append_nil]
    exact r2.length.symm
  have hus : us.length ≤ sizeLine := by
    rw [← Paired.length r1]
    show 1 ≤ sizeLine
    decide
  have bb := hb _ (Value.ref (hp.objs.size + 1) :: us) I2.kIn hl
  rw [List.append_nil] at bb
  refine wpAny_call (PySem.HandSPX.call_own PySem.F.excBase_ValueError (fun Y => PySem.HandSPX.refsVE_contains Y bm hbm) (I1.kIn _ _ hC) (PySem.W.looks_findIn I1.kIn iC) (fun self => PySem.W.bind_fn I1.kIn self tI) hus
    (codeAny_mono (F1.run _ X.stack _ _ ⟨Value.ref (hp.objs.size + 1) :: us, []⟩ (Value.ref (hp.objs.size + 1) :: us) _ _ (fun _ _ _ => False) (hr.make C us []) (I2.env0.make C us []) bb r2 hq) fun r s' hq' => ?_))
  match r, hq' with
  | .error er, fin => exact pass0 pins σ _ _ er s' I2 fin
  | .ok (.ret u), fin =>
    obtain ⟨v, H', J, rv, ev, qq⟩ := I2.after fin
    subst ev
    exact ⟨rv, ⟨V.ref (hp.objs.size + 1), H', J, rfl, qq⟩⟩
  | .ok .next, fin => exact fin.elim
  | .ok .brk, fin => exact fin.elim
  | .ok .cont, fin => exact fin.elim
def tExK (C : Addr) (fld : Str) (t : TA) : TE := tExV C fld t
theorem pe_exK {kws : List Keyword} {tk : TA} (F : CEv X.prog X.w X.K X.mg X.base C k x fld) (hr : Room (k + 1) X.A) (hg : Gl X x) (hkw : PK X kws tk)
    (hall : (backToKw pos (keywordEach kws X.env)).all (·.1.isSome) = true := by rfl) (hks : (backToKw pos (keywordEach kws X.env)).filterMap (·.1) = [fld] := by rfl)
    (hdb : (x == ("__debug__" : Str)) = false := by decide) (hpl : ((backTo pos (starEach [] X.env)).any (·.1) || (backToKw pos (keywordEach kws X.env)).any (·.1.isNone)) = false := by rfl) :
    PE X (.Call (.Name x p) [] kws pos) (tExK C fld tk) := by
  obtain ⟨fI, fd, F1, T, iC, tI, _, hm, hb⟩ := F.ex
  obtain ⟨nm, q, N, bs, bm, sn, sub, ab, col, dd, k0, k1, k2, k3, k5, hC, hbm⟩ := T.cls
  refine ⟨fun pins s σ H Q I h => ?_⟩
  refine wpAny_Call_Name_kw (ld_glob I hg hm ?_ hdb)
  refine PySem.W.callWith_KW0 (h₀ := X.base) I.ok.mod.kin T.kC hall (thn (hkw.run pos pins s σ H _ I h) fun us s1 ⟨vs, H1, I1, r1, y, hv, q1⟩ => ⟨I1.kIn, ?_⟩) hpl
  subst hv
  rw [hks]
  obtain ⟨u, rfl, ry⟩ : ∃ u, us = [u] ∧ RelV y u := by
    cases r1 with
    | cons r1 r =>
      cases r
      exact ⟨_, rfl, r1⟩
  show wpAny _ _ (call (.ref C) [] [(fld, u)]) _ _ _
  obtain ⟨hp, g, dr, tk, os⟩ := s1
  have hsz : hp.objs.size ≤ hp.objs.size + 1 := Nat.le_succ _
  have hn : H1 (hp.objs.size + 1) = none := I1.hok.fresh hsz
  have hq : spSup C fld [.ref (hp.objs.size + 1), y] (upd H1 (hp.objs.size + 1) (exo (hp.objs.size + 1) C none)) (fun v H2 => v = .non ∧ Q (.ref (hp.objs.size + 1)) H2) (fun _ _ _ => False) := sp_exv hn (fun dx hd ne => q1 _ dx hn hd ne)
  have kk : ∀ b o, hp.get? b = some o → ((hp.push (PySem.W.kdv_tup [])).push (PySem.HandSPX.excO C hp.objs.size)).get? b = some o := fun b o e => Heap.get?_push_of_some _ (Heap.get?_push_of_some _ e)
  have hget : ((hp.push (PySem.W.kdv_tup [])).push (PySem.HandSPX.excO C hp.objs.size)).get? (hp.objs.size + 1) = some (PySem.HandSPX.excO C hp.objs.size) := by heap_get
  have I2 : Inv X pins σ (upd H1 (hp.objs.size + 1) (exo (hp.objs.size + 1) C none)) ⟨(hp.push (PySem.W.kdv_tup [])).push (PySem.HandSPX.excO C hp.objs.size), g, dr, tk, os⟩ :=
    I1.laid (t' := tk) (a := hp.objs.size + 1) (o := exo (hp.objs.size + 1) C none) (h' := (hp.push (PySem.W.kdv_tup [])).push (PySem.HandSPX.excO C hp.objs.size)) kk hsz (exo_ok hget)
  have r2 : Vals [V.ref (hp.objs.size + 1), y] [Value.ref (hp.objs.size + 1), u] := .cons rfl (.cons ry .nil)
  refine wpAny_call (EXV.call_kw PySem.F.excBase_ValueError (fun Y => PySem.HandSPX.refsVE_contains Y bm hbm) (I1.kIn _ _ hC) (PySem.W.looks_findIn I1.kIn iC) (fun self => PySem.W.bind_fn I1.kIn self tI)
    (codeAny_mono (F1.run _ X.stack _ _ ⟨[Value.ref (hp.objs.size + 1)], [(fld, u)]⟩ [Value.ref (hp.objs.size + 1), u] _ _ (fun _ _ _ => False) (hr.make C [] [(fld, u)]) (I2.env0.make C [] [(fld, u)]) (hb _ _ _) r2 hq) fun r s' hq' => ?_))
  match r, hq' with
  | .error er, fin => exact pass0 pins σ _ _ er s' I2 fin
  | .ok (.ret u), fin =>
    obtain ⟨v, H', J, rv, ev, qq⟩ := I2.after fin
    subst ev
    exact ⟨rv, ⟨V.ref (hp.objs.size + 1), H', J, rfl, qq⟩⟩
  | .ok .next, fin => exact fin.elim
  | .ok .brk, fin => exact fin.elim
  | .ok .cont, fin => exact fin.elim
end
/-! ### what an error is and what it holds, however it came to be held -/
/-- an error of class D with the fields fs: made as a value or caught -/
inductive ErAt (H : Hp) (a D : Addr) : List (Str × V) → Prop where
  | own {dx : Addr} {fs : List (Str × V)} (h : H a = some (exo a D (some dx))) (hd : H dx = some (exd dx fs)) : ErAt H a D fs
  | bare (h : H a = some (ExO (.ref D) a)) : ErAt H a D []
  | cgt {dx : Addr} {fs : List (Str × V)} (h : H a = some (ErO (.ref D) (some dx) a)) (hd : H dx = some (.xd fs)) : ErAt H a D fs
  | cgt0 (h : H a = some (ErO (.ref D) none a)) : ErAt H a D []
theorem ErAt.same {H H' : Hp} {a D : Addr} {fs : List (Str × V)} (h : ErAt H a D fs) (s : Same H H') : ErAt H' a D fs := by
  cases h with
  | own h hd => exact .own (s _ _ h) (s _ _ hd)
  | bare h => exact .bare (s _ _ h)
  | cgt h hd => exact .cgt (s _ _ h) (s _ _ hd)
  | cgt0 h => exact .cgt0 (s _ _ h)
theorem ErAt.inst {X : Cx} {pins : List (Addr × Obj)} {σ : L2.St} {H : Hp} {s : Shared} {a D : Addr} {fs : List (Str × V)} (I : Inv X pins σ H s) (h : ErAt H a D fs) : ∃ (oe : Obj) (od : Option Obj), PySem.W.InstAt s.heap a oe D od ∧ ∀ (n : Str) (v : V), fs.lookup n = some v → ∃ o u, od = some o ∧ RelV v u ∧ PySem.W.lookIn n o = some (some u) := by
  cases h with
  | own h hd =>
    obtain ⟨t1, hx⟩ := exo_at I.hok h
    obtain ⟨⟨mA, hns, hr⟩, _⟩ := I.hok _ _ hd
    obtain ⟨od, ho, hl⟩ := lookIn_ns hns
    refine ⟨_, some od, ⟨hx, rfl, rfl, ho⟩, fun n v l => ?_⟩
    obtain ⟨u, hu, ru⟩ := RelO.some_of (v := v) (o := mA n) (by rw [← l]; exact hr n)
    exact ⟨od, u, rfl, ru, (hl n).trans (by rw [hu])⟩
  | bare h =>
    obtain ⟨⟨oe, vs, e, z, f, _⟩, _⟩ := I.hok a _ h
    exact ⟨oe, none, ⟨e, z.1, by unfold PySem.W.notCls; rw [f], by rw [z.2]; trivial⟩, fun n v l => by cases l⟩
  | cgt h hd =>
    obtain ⟨oe, od, J, look⟩ := er_atD I h hd
    refine ⟨oe, some od, J, fun n v l => ?_⟩
    obtain ⟨u, ru, hu⟩ := look n v l
    exact ⟨od, u, rfl, ru, hu⟩
  | cgt0 h =>
    obtain ⟨⟨oe, vs, e, z, f⟩, _⟩ := I.hok a _ h
    exact ⟨oe, none, ⟨e, z.1, by unfold PySem.W.notCls; rw [f], by rw [z.2]; trivial⟩, fun n v l => by cases l⟩
def rIsEa (K : PySem.W.Frag) : List V → Hp → VK → Prop := fun xs H Q => ∃ (a D : Addr) (fs : List (Str × V)) (c : V) (cv : Value) (b : Bool), xs = [.ref a, c] ∧ ExcC K D ∧ ErAt H a D fs ∧ (∀ u, RelV c u → u = cv) ∧ PySem.W.kitOne K (.ref D) cv = some b ∧ Q (.bl b) H
theorem kk_isEa (K : PySem.W.Frag) {X : Cx} (hK : X.K = K := by rfl) : CallR X (.builtin "isinstance") (rIsEa K) := by
  subst hK
  intro pins s σ H xs us Q I r h
  obtain ⟨a, D, fs, c, cv, b, rfl, C, ha, hcv, e, q⟩ := h
  cases r with
  | cons rx rr =>
    cases rr with
    | cons rt rr =>
      cases rr
      cases rx
      have ec := hcv _ rt
      subst ec
      obtain ⟨oe, od, J, _⟩ := ha.inst I
      have hcl : (PySem.W.clsIn X.K D).isSome = true := by
        have z := C.hd
        unfold PySem.W.hasDictIn at z
        cases hc : PySem.W.clsIn X.K D with
        | none => rw [hc] at z; cases z
        | some cd => rfl
      cases od with
      | some od => exact PySem.W.kia_one (PySem.W.kitx_exc hcl C.hg C.hk C.hs C.ha C.hn C.ht C.hm) I.kIn J e (fun z => nomatch z) fun tk => ⟨.bl b, H, I.kept (t' := tk) fun _ _ z => z, rfl, q⟩
      | none => exact PySem.W.kia_one (PySem.W.handS_kitx_exc C.hg C.hk C.hs C.hd C.ha C.hn C.ht C.hm) I.kIn J e (fun z => nomatch z) fun tk => ⟨.bl b, H, I.kept (t' := tk) fun _ _ z => z, rfl, q⟩
def tErG (C : Addr) (n : Str) (te : TE) : TE := fun σ H Q => te σ H fun x H1 => ∃ (a : Addr) (fs : List (Str × V)) (v : V), x = .ref a ∧ ErAt H1 a C fs ∧ fs.lookup n = some v ∧ Q v H1
theorem pe_erG {X : Cx} {C : Addr} {e : Expr} {te : TE} {pos : Pos} {n : Str} (T : XfC X.K C) (hno : PySem.W.findIn X.K (.ref C) n = some none) (he : PE X e te) (hb : attributeBase e n X.env (eval e X.env) = eval e X.env := by rfl) : PE X (.Attribute e n pos) (tErG C n te) := by
  constructor
  intro pins s σ H Q I h
  refine attr_of hb (thn (he.run pins s σ H _ I h) fun u s1 hh => ?_)
  obtain ⟨x, H1, I1, rx, a, fs, v, rfl, ha, l, q⟩ := hh
  cases (show u = Value.ref a from rx)
  obtain ⟨oe, od, J, look⟩ := ha.inst I1
  obtain ⟨o, w, rfl, rw', hw⟩ := look n v l
  exact HandSPX.exc_get I1.kIn J T.ga T.gg T.exC (PySem.W.findObj_own T.hdC hno rfl hw) (handed_of rw') ⟨v, H1, I1.tok _, rw', q⟩
def topS (i : Nat) : Stmt := PySem.Challenge.pw_partwares_k97_errors_made_by_hand.main.body.getD i (.Pass ⟨0, 0, 0, 0⟩)
section
variable {P : Program} {w : World} {K : PySem.W.Frag} {mg : Str → Option Value} {base : Heap}
structure C8 where
  w : Addr
  c0 : Addr
  c1 : Addr
  c2 : Addr
  c3 : Addr
  c4 : Addr
  c5 : Addr
  c6 : Addr
  c7 : Addr
def C8.c (C : C8) : Nat → Addr
  | 0 => C.c0
  | 1 => C.c1
  | 2 => C.c2
  | 3 => C.c3
  | 4 => C.c4
  | 5 => C.c5
  | 6 => C.c6
  | _ => C.c7
structure T8 (K : PySem.W.Frag) (mg : Str → Option Value) (C : C8) : Prop where
  gw : mg "WareError" = some (.ref C.w)
  g0 : mg "BadRule" = some (.ref C.c0)
  g1 : mg "BadClause" = some (.ref C.c1)
  g2 : mg "BadRow" = some (.ref C.c2)
  g3 : mg "NoDay" = some (.ref C.c3)
  g4 : mg "Idle" = some (.ref C.c4)
  g5 : mg "NoEntry" = some (.ref C.c5)
  g6 : mg "NoWare" = some (.ref C.c6)
  g7 : mg "NoHouse" = some (.ref C.c7)
  ec : ∀ i, i < 8 → ExcC K (C.c i)
  kit : ∀ i j, i < 8 → j < 8 → PySem.W.kitOne K (.ref (C.c i)) (.ref (C.c j)) = some (decide (i = j))
  kw : ∀ i, i < 8 → PySem.W.kitOne K (.ref (C.c i)) (.ref C.w) = some true
  kv : ∀ i, i < 8 → PySem.W.kitOne K (.ref (C.c i)) (.type "ValueError") = some true
  kl : ∀ i, i < 8 → PySem.W.kitOne K (.ref (C.c i)) (.type "LookupError") = some false
  exm : ∀ i j, i < 8 → j < 8 → PySem.W.exmOne K (.ref (C.c i)) (.ref (C.c j)) = some (decide (i = j))
  exw : ∀ i, i < 8 → PySem.W.exmOne K (.ref (C.c i)) (.ref C.w) = some true
  x3 : PySem.W.excIn K C.c3 [.type "ValueError", .type "Exception", .type "BaseException", .type "object"] "ValueError.__new__" = true
  p3 : PySem.W.keepIn K (.ref C.c3) = true
  sb3 : PySem.W.subIn K (.ref C.c3) (.type "BaseException") = some true
  ty3 : PySem.W.typeIn K (.ref C.c3) = some (.type "type")
  x4 : PySem.W.excIn K C.c4 [.type "ValueError", .type "Exception", .type "BaseException", .type "object"] "ValueError.__new__" = true
  p4 : PySem.W.keepIn K (.ref C.c4) = true
  sb4 : PySem.W.subIn K (.ref C.c4) (.type "BaseException") = some true
  ty4 : PySem.W.typeIn K (.ref C.c4) = some (.type "type")
  x5 : PySem.W.excIn K C.c5 [.type "ValueError", .type "Exception", .type "BaseException", .type "object"] "ValueError.__new__" = true
  p5 : PySem.W.keepIn K (.ref C.c5) = true
  sb5 : PySem.W.subIn K (.ref C.c5) (.type "BaseException") = some true
  ty5 : PySem.W.typeIn K (.ref C.c5) = some (.type "type")
  x6 : PySem.W.excIn K C.c6 [.type "ValueError", .type "Exception", .type "BaseException", .type "object"] "ValueError.__new__" = true
  p6 : PySem.W.keepIn K (.ref C.c6) = true
  sb6 : PySem.W.subIn K (.ref C.c6) (.type "BaseException") = some true
  ty6 : PySem.W.typeIn K (.ref C.c6) = some (.type "type")
  x7 : PySem.W.excIn K C.c7 [.type "ValueError", .type "Exception", .type "BaseException", .type "object"] "ValueError.__new__" = true
  p7 : PySem.W.keepIn K (.ref C.c7) = true
  sb7 : PySem.W.subIn K (.ref C.c7) (.type "BaseException") = some true
  ty7 : PySem.W.typeIn K (.ref C.c7) = some (.type "type")
  xf0 : XfC K C.c0
  nw0 : PySem.W.findIn K (.ref C.c0) "word" = some none
  xf1 : XfC K C.c1
  nw1 : PySem.W.findIn K (.ref C.c1) "place" = some none
  xf2 : XfC K C.c2
  nw2 : PySem.W.findIn K (.ref C.c2) "row" = some none
/-- the fields of the i-th -/
def fl8 (i : Nat) (n : Int) (s : Str) : List (Str × V) := match i with
  | 0 => [("word", .str s)]
  | 1 => [("place", .int n)]
  | 2 => [("row", .int n)]
  | _ => []
theorem lt8 {i : Nat} (h : i < 8) : i = 0 ∨ i = 1 ∨ i = 2 ∨ i = 3 ∨ i = 4 ∨ i = 5 ∨ i = 6 ∨ i = 7 := by omega
theorem kit_me {K : PySem.W.Frag} {t : Addr} : PySem.W.kitOne K (.ref t) (.ref t) = some true := by
  unfold PySem.W.kitOne
  rw [if_pos (beq_self_eq_true _)]
theorem kit_ref {K : PySem.W.Frag} {t C : Addr} {b : Bool} (ne : t ≠ C) (hc : PySem.W.isClsIn K C = true) (ht : PySem.W.typeIn K (.ref C) = some (.type "type")) (hs : PySem.W.subIn K (.ref t) (.ref C) = some b) : PySem.W.kitOne K (.ref t) (.ref C) = some b := by
  have h1 : (Value.ref t == Value.ref C) = false := beq_eq_false_iff_ne.mpr fun e => ne (Value.ref.inj e)
  have h2 : ((PySem.W.clsIn K C).isSome && PySem.W.typeIn K (.ref C) == some (.type "type")) = true := by
    rw [show (PySem.W.clsIn K C).isSome = true from hc, ht]
    rfl
  unfold PySem.W.kitOne
  rw [h1, if_neg (by decide)]
  unfold PySem.W.kitCls
  dsimp only
  rw [if_pos h2]
  exact hs
theorem kit_ve {K : PySem.W.Frag} {t : Addr} {b : Bool} (hs : PySem.W.subIn K (.ref t) (.type "ValueError") = some b) : PySem.W.kitOne K (.ref t) (.type "ValueError") = some b := by
  unfold PySem.W.kitOne
  rw [show (Value.ref t == Value.type "ValueError") = false from rfl, if_neg (by decide)]
  unfold PySem.W.kitCls
  dsimp only
  rw [if_pos (by decide +kernel)]
  exact hs
theorem kit_le {K : PySem.W.Frag} {t : Addr} {b : Bool} (hs : PySem.W.subIn K (.ref t) (.type "LookupError") = some b) : PySem.W.kitOne K (.ref t) (.type "LookupError") = some b := by
  unfold PySem.W.kitOne
  rw [show (Value.ref t == Value.type "LookupError") = false from rfl, if_neg (by decide)]
  unfold PySem.W.kitCls
  dsimp only
  rw [if_pos (by decide +kernel)]
  exact hs
/-! ### what is left to draw of -/
def Left (H : Hp) (b c : Addr) (n : Int) : Prop := ∃ (x z : Int) (ns : List Int), H b = some (.lst [.int x, .ref c, .int z]) ∧ H c = some (.lst (ns.map V.int)) ∧ 0 ≤ x ∧ 0 ≤ z ∧ z ≤ n ∧ 1 ≤ ns.length ∧ ns.length ≤ 63
section
variable {H H' : Hp} {b c p : Addr} {n m : Int} {o : HO}
theorem Left.mono (h : Left H b c n) (l : n ≤ m) : Left H b c m := by
  obtain ⟨x, z, ns, h0, h1, h2, h3, h4, h5⟩ := h
  exact ⟨x, z, ns, h0, h1, h2, h3, by omega, h5⟩
theorem Left.same (e : Same H H') (h : Left H b c n) : Left H' b c n := by
  obtain ⟨x, z, ns, h0, h1, h2⟩ := h
  exact ⟨x, z, ns, e _ _ h0, e _ _ h1, h2⟩
theorem Left.new (h : Left H b c n) (e : H p = none) : Left (upd H p o) b c n := h.same (same_new e)
theorem Left.ne (h : Left H b c n) (e : H p = none) : p ≠ b := fun z => by
  obtain ⟨_, _, _, h0, _⟩ := h
  rw [z, h0] at e
  cases e
theorem Left.ne2 (h : Left H b c n) (e : H p = none) : p ≠ c := fun z => by
  obtain ⟨_, _, _, _, h0, _⟩ := h
  rw [z, h0] at e
  cases e
theorem Left.upd (h : Left H b c n) (e1 : p ≠ b) (e2 : p ≠ c) : Left (upd H p o) b c n := by
  obtain ⟨x, z, ns, h0, h1, h2⟩ := h
  exact ⟨x, z, ns, by rw [upd_ne e1.symm]; exact h0, by rw [upd_ne e2.symm]; exact h1, h2⟩
theorem Left.net (h : Left H b c n) {xs : List V} (e : H p = some (.tup xs)) : p ≠ b := fun z => by
  obtain ⟨_, _, _, h0, _⟩ := h
  rw [z, h0] at e
  cases e
theorem left_cells {x z : Int} {ns : List Int} (h0 : H b = some (.lst [.int x, .ref c, .int z])) (h1 : H c = some (.lst (ns.map V.int))) : c ≠ b := fun e => by
  rw [e, h0] at h1
  have h2 := HO.lst.inj (Option.some.inj h1)
  match ns, h2 with
  | [], h2 => cases h2
  | [_], h2 => cases h2
  | _ :: _ :: _, h2 => cases (List.cons.inj (List.cons.inj h2).2).1
theorem But.seqT {K : PySem.W.Frag} {a : Addr} {xs : List V} (t : But b H H') (hb : Left H b c n) (h : SqT K H a xs) : SqT K H' a xs := by
  obtain ⟨_, _, _, hx, _⟩ := hb
  rcases h with (h | ⟨o, h⟩) | h
  · exact .inl (.inl (t _ _ (ne_of h hx (by intro z; cases z)) h))
  · exact .inl (.inr ⟨o, t _ _ (ne_of h hx (by intro z; cases z)) h⟩)
  · exact .inr h
end
theorem none_of {H H' : Hp} {p : Addr} (s : Same H H') (h : H' p = none) : H p = none := by
  cases e : H p with
  | none => rfl
  | some o =>
    rw [s _ _ e] at h
    cases h
theorem cut_to {xs : List V} {k : Nat} (h : xs.length ≤ k) : cutV xs none (some (k : Int)) = xs := by
  unfold cutV
  rw [HT.sIx_nat, HT.sIx_none, Nat.min_eq_right h]
  simp
theorem pick3v {r : Int} {x y z : V} (h0 : 0 ≤ r) (h1 : r < 3) : ∃ v, atI [x, y, z] r = some v ∧ (v = x ∨ v = y ∨ v = z) := by
  have h : r = 0 ∨ r = 1 ∨ r = 2 := by omega
  rcases h with rfl | rfl | rfl
  · exact ⟨x, rfl, .inl rfl⟩
  · exact ⟨y, rfl, .inr (.inl rfl)⟩
  · exact ⟨z, rfl, .inr (.inr rfl)⟩
theorem pick3i {r x y z lo hi : Int} (h0 : 0 ≤ r) (h1 : r < 3) (hx : lo ≤ x ∧ x ≤ hi) (hy : lo ≤ y ∧ y ≤ hi) (hz : lo ≤ z ∧ z ≤ hi) : ∃ v : Int, atI [V.int x, .int y, .int z] r = some (.int v) ∧ lo ≤ v ∧ v ≤ hi := by
  have h : r = 0 ∨ r = 1 ∨ r = 2 := by omega
  rcases h with rfl | rfl | rfl
  · exact ⟨x, rfl, hx⟩
  · exact ⟨y, rfl, hy⟩
  · exact ⟨z, rfl, hz⟩
theorem pick4i {r x y z u lo hi : Int} (h0 : 0 ≤ r) (h1 : r < 4) (hx : lo ≤ x ∧ x ≤ hi) (hy : lo ≤ y ∧ y ≤ hi) (hz : lo ≤ z ∧ z ≤ hi) (hu : lo ≤ u ∧ u ≤ hi) : ∃ v : Int, atI [V.int x, .int y, .int z, .int u] r = some (.int v) ∧ lo ≤ v ∧ v ≤ hi := by
  have h : r = 0 ∨ r = 1 ∨ r = 2 ∨ r = 3 := by omega
  rcases h with rfl | rfl | rfl | rfl
  · exact ⟨x, rfl, hx⟩
  · exact ⟨y, rfl, hy⟩
  · exact ⟨z, rfl, hz⟩
  · exact ⟨u, rfl, hu⟩
/-! ### _law_mix -/
abbrev s__law_mix : Stmt := topS 11
abbrev N__law_mix : List Str := ["_law_cell", "_law_k", "_law_m"]
theorem sc__law_mix : FnScope N__law_mix ["_law_cell", "_law_k"] (defScope s__law_mix) := ⟨rfl, rfl, rfl, by decide +kernel, rfl, by decide +kernel, by decide +kernel⟩
def sp__law_mix (K : PySem.W.Frag) : Sp := fun vs H Q _ => ∃ (x k : Int), vs = [.int x, .int k] ∧ 0 ≤ k ∧ k < 10000000000 ∧ ∀ r : Int, 0 ≤ r → r < 1999999973 → Q (.int r) H
theorem ok__law_mix {f : Addr} {fd : FuncData} (F : Fun K "_law_mix" "_law_mix" s__law_mix f fd) (g : mg "_law_mix" = some (.ref f)) (bd : Binds K fd ["_law_cell", "_law_k"] []) : CF P w K mg base 1 "_law_mix" ["_law_cell", "_law_k"] (sp__law_mix K) := by
  refine ⟨f, fd, F.ok sc__law_mix (fun vs H Q E h => ?_) (fun cdv A outer s H vs Q E hr h => ?_), g, F.kp, bd⟩
  · first | (obtain ⟨_, rfl, _⟩ := h; rfl) | (obtain ⟨_, _, rfl, _⟩ := h; rfl) | (obtain ⟨_, _, _, rfl, _⟩ := h; rfl) | (obtain ⟨_, _, _, _, rfl, _⟩ := h; rfl) | (obtain ⟨_, _, _, _, _, rfl, _⟩ := h; rfl) | (obtain ⟨_, _, _, _, _, _, rfl, _⟩ := h; rfl) | (obtain ⟨_, _, _, _, _, _, _, rfl, _⟩ := h; rfl) | (obtain ⟨_, _, _, _, _, _, _, _, rfl, _⟩ := h; rfl) | (obtain ⟨_, _, _, _, _, _, _, _, _, rfl, _⟩ := h; rfl) | (obtain ⟨_, _, _, _, _, _, _, _, _, _, rfl, _⟩ := h; rfl) | (obtain ⟨_, _, _, _, _, _, _, _, _, _, _, rfl, _⟩ := h; rfl) | (obtain ⟨_, _, _, _, _, _, _, _, _, _, _, _, rfl, _⟩ := h; rfl) | (obtain ⟨_, _, _, _, _, _, _, _, _, _, _, _, _, rfl, _⟩ := h; rfl) | (obtain ⟨_, _, _, _, _, _, _, _, _, _, _, _, _, _, rfl, _⟩ := h; rfl) | (obtain ⟨_, _, _, _, _, _, _, _, _, _, _, _, _, _, _, rfl, _⟩ := h; rfl)
  · have hu64 := hr.units
    obtain ⟨x, k, rfl, k0, k1, q⟩ := h
    refine ⟨_, (pss_cons (ps_set (i := 2) sc__law_mix.nd rfl (.inl rfl) (pe_op op_mod (pe_op op_mul (pe_op op_add (pe_op op_add (pe_op op_mod (pv 0) pe_int) (pe_op op_mul (pe_op op_mul (pv 1) (pv 1)) pe_int)) pe_int) pe_int) pe_int))
      (pss_one (ps_ret (pe_op op_mod (pe_op op_mul (pv 2) (pv 2)) pe_int)))), ?_⟩
    refine ⟨_, rfl, _, _, rfl, rfl, (by show (0 : Int) < 2147483629; decide), _, rfl, _, rfl, _, _, rfl, rfl, .inl ⟨by omega, by omega⟩, _, _, rfl, rfl, .inr ⟨by decide, by decide⟩, _, _, rfl, rfl, _, _, rfl, rfl, _, _, rfl, rfl, .inr ⟨by decide, by decide⟩, _, _, rfl, rfl, (by show (0 : Int) < 2147483647; decide), ?_⟩
    have o0 := Int.emod_nonneg ((x % 2147483629 + k * k * 7919 + 11) * 48271) (show (2147483647 : Int) ≠ 0 by decide)
    have o1 := Int.emod_lt_of_pos ((x % 2147483629 + k * k * 7919 + 11) * 48271) (show (0 : Int) < 2147483647 by decide)
    exact ⟨_, rfl, _, rfl, _, _, rfl, rfl, .inl ⟨by omega, by omega⟩, _, _, rfl, rfl, (by show (0 : Int) < 1999999973; decide), q _ (Int.emod_nonneg _ (by decide)) (Int.emod_lt_of_pos _ (by decide))⟩
/-! ### _law_pick -/
abbrev s__law_pick : Stmt := topS 15
abbrev N__law_pick : List Str := ["_law_left", "_law_many", "_law_digit", "_law_cells", "_law_cell"]
theorem sc__law_pick : FnScope N__law_pick ["_law_left", "_law_many"] (defScope s__law_pick) := ⟨rfl, rfl, rfl, by decide +kernel, rfl, by decide +kernel, by decide +kernel⟩
def sp__law_pick (K : PySem.W.Frag) : Sp := fun vs H Q _ => ∃ (b c : Addr) (m n : Int), vs = [.ref b, .int m] ∧ Left H b c n ∧ 0 < m ∧ m < 1073741824 ∧ n < 1000000000 ∧ ∀ (r : Int) H', 0 ≤ r → r < m → Left H' b c (n + 1) → But b H H' → Q (.int r) H'
theorem ok__law_pick {f : Addr} {fd : FuncData} (F : Fun K "_law_pick" "_law_pick" s__law_pick f fd) (g : mg "_law_pick" = some (.ref f)) (bd : Binds K fd ["_law_left", "_law_many"] []) (m_len : mg "len" = none) (C__law_mix : CF P w K mg base 1 "_law_mix" ["_law_cell", "_law_k"] (sp__law_mix K)) : CF P w K mg base 2 "_law_pick" ["_law_left", "_law_many"] (sp__law_pick K) := by
  refine ⟨f, fd, F.ok sc__law_pick (fun vs H Q E h => ?_) (fun cdv A outer s H vs Q E hr h => ?_), g, F.kp, bd⟩
  · first | (obtain ⟨_, rfl, _⟩ := h; rfl) | (obtain ⟨_, _, rfl, _⟩ := h; rfl) | (obtain ⟨_, _, _, rfl, _⟩ := h; rfl) | (obtain ⟨_, _, _, _, rfl, _⟩ := h; rfl) | (obtain ⟨_, _, _, _, _, rfl, _⟩ := h; rfl) | (obtain ⟨_, _, _, _, _, _, rfl, _⟩ := h; rfl) | (obtain ⟨_, _, _, _, _, _, _, rfl, _⟩ := h; rfl) | (obtain ⟨_, _, _, _, _, _, _, _, rfl, _⟩ := h; rfl) | (obtain ⟨_, _, _, _, _, _, _, _, _, rfl, _⟩ := h; rfl) | (obtain ⟨_, _, _, _, _, _, _, _, _, _, rfl, _⟩ := h; rfl) | (obtain ⟨_, _, _, _, _, _, _, _, _, _, _, rfl, _⟩ := h; rfl) | (obtain ⟨_, _, _, _, _, _, _, _, _, _, _, _, rfl, _⟩ := h; rfl) | (obtain ⟨_, _, _, _, _, _, _, _, _, _, _, _, _, rfl, _⟩ := h; rfl) | (obtain ⟨_, _, _, _, _, _, _, _, _, _, _, _, _, _, rfl, _⟩ := h; rfl) | (obtain ⟨_, _, _, _, _, _, _, _, _, _, _, _, _, _, _, rfl, _⟩ := h; rfl)
  · have hu64 := hr.units
    obtain ⟨b, c, m, n, rfl, ⟨x, z, ns, hb, hc, hx, hz, hz2, hl0, hl1⟩, hm, hm2, hn, q⟩ := h
    refine ⟨_, (pss_cons (ps_asg (pe_op op_add (pe_ix (kk_ixl K) (pv 0) pe_int (fun _ _ => rfl)) pe_int) (pg_sub (pv 0) pe_int set_list))
      (pss_cons (ps_if (pt_cmpR op_gt (pe_ix (kk_ixl K) (pv 0) pe_int (fun _ _ => rfl)) pe_int (nomark _))
         (pss_cons (ps_set (i := 2) sc__law_pick.nd rfl (.inl rfl) (pe_op op_mod (pe_ix (kk_ixl K) (pv 0) pe_int (fun _ _ => rfl)) (pv 1)))
          (pss_cons (ps_asg (pe_op op_fdiv (pe_ix (kk_ixl K) (pv 0) pe_int (fun _ _ => rfl)) (pv 1)) (pg_sub (pv 0) pe_int set_list))
          (pss_one (ps_ret (pv 2)))))
         pss_nil)
      (pss_cons (ps_set (i := 3) sc__law_pick.nd rfl (.inl rfl) (pe_ix (kk_ixl K) (pv 0) pe_int (fun _ _ => rfl)))
      (pss_cons (ps_set (i := 4) sc__law_pick.nd rfl (.inl rfl) (pe_op op_add (pe_ix (kk_ixl K) (pv 3) (pe_op op_mod (pe_ix (kk_ixl K) (pv 0) pe_int (fun _ _ => rfl)) (pe_callB (kk_len K) (by rfl) m_len PySem.boot_len (pa_cons (pv 3) pa_nil))) (fun _ _ => rfl)) (pe_op op_mul pe_int (pe_op op_fdiv (pe_ix (kk_ixl K) (pv 0) pe_int (fun _ _ => rfl)) (pe_callB (kk_len K) (by rfl) m_len PySem.boot_len (pa_cons (pv 3) pa_nil))))))
      (pss_one (ps_ret (pe_op op_mod (pe_op op_fdiv (pe_cf C__law_mix (hr.mono (by decide)) (by rfl) (pa_cons (pe_cf C__law_mix (hr.mono (by decide)) (by rfl) (pa_cons (pv 4) (pa_cons (pe_ix (kk_ixl K) (pv 0) pe_int (fun _ _ => rfl)) pa_nil))) (pa_cons (pe_op op_add (pe_ix (kk_ixl K) (pv 0) pe_int (fun _ _ => rfl)) pe_int) pa_nil))) pe_int) (pv 1)))))))), ?_⟩
    have ncb := left_cells hb hc
    have h1 : (upd H b (.lst [.int x, .ref c, .int (z + 1)])) b = some (.lst [.int x, .ref c, .int (z + 1)]) := upd_same
    have c1 : (upd H b (.lst [.int x, .ref c, .int (z + 1)])) c = some (.lst (ns.map V.int)) := by rw [upd_ne ncb]; exact hc
    refine ⟨_, rfl, b, _, _, _, rfl, rfl, SqL.of hb, rfl, _, _, rfl, rfl, _, rfl, b, _, _, _, rfl, rfl, hb, rfl, ?_⟩
    refine ⟨_, rfl, b, _, _, _, rfl, rfl, SqL.of h1, rfl, _, _, rfl, rfl, _, rfl, ite2 (fun e => ?_) (fun e => ?_)⟩
    · refine ⟨_, rfl, b, _, _, _, rfl, rfl, SqL.of h1, rfl, _, rfl, _, _, rfl, rfl, hm, ?_⟩
      refine ⟨_, rfl, b, _, _, _, rfl, rfl, SqL.of h1, rfl, _, rfl, _, _, rfl, rfl, ⟨hm, hm2⟩, _, rfl, b, _, _, _, rfl, rfl, h1, rfl, ?_⟩
      refine ⟨_, rfl, q _ _ (Int.emod_nonneg _ (by omega)) (Int.emod_lt_of_pos _ hm) ⟨x / m, z + 1, ns, upd_same, by rw [upd_ne ncb]; exact c1, Int.ediv_nonneg hx (by omega), by omega, by omega, hl0, hl1⟩ (But.upd.trans But.upd)⟩
    · have hlp : (0 : Int) < ((ns.map V.int).length : Int) := by rw [List.length_map]; omega
      have m0 := Int.emod_nonneg (z + 1) (show ((ns.map V.int).length : Int) ≠ 0 by omega)
      have m1 := Int.emod_lt_of_pos (z + 1) hlp
      have hlen : ((ns.map V.int).length : Int) = (ns.length : Int) := by rw [List.length_map]
      obtain ⟨d, hd⟩ := at_int (ns := ns) m0 (by rw [← hlen]; exact m1)
      refine ⟨_, rfl, b, _, _, _, rfl, rfl, SqL.of h1, rfl, ?_⟩
      refine ⟨_, rfl, _, rfl, b, _, _, _, rfl, rfl, SqL.of h1, rfl, _, rfl, c, _, rfl, .inl (SqL.of c1), _, _, rfl, rfl, hlp, c, _, _, _, rfl, rfl, SqL.of c1, hd, ?_⟩
      refine ⟨_, rfl, b, _, _, _, rfl, rfl, SqL.of h1, rfl, _, rfl, c, _, rfl, .inl (SqL.of c1), _, _, rfl, rfl, ⟨hlp, by omega⟩, _, _, rfl, rfl, .inl ⟨by decide, by decide⟩, _, _, rfl, rfl, ?_⟩
      refine ⟨_, rfl, _, rfl, b, _, _, _, rfl, rfl, SqL.of h1, rfl, _, z + 1, rfl, by omega, by omega, fun r1 r10 r11 => ?_⟩
      refine ⟨_, rfl, b, _, _, _, rfl, rfl, SqL.of h1, rfl, _, _, rfl, rfl, r1, z + 1 + 64, rfl, by omega, by omega, fun r2 r20 r21 => ?_⟩
      exact ⟨_, _, rfl, rfl, ⟨by decide, by decide⟩, _, rfl, _, _, rfl, rfl, hm, q _ _ (Int.emod_nonneg _ (by omega)) (Int.emod_lt_of_pos _ hm) ⟨x, z + 1, ns, h1, c1, hx, by omega, by omega, hl0, hl1⟩ But.upd⟩
/-! ### _law_drawn_from -/
abbrev s__law_drawn_from : Stmt := topS 14
abbrev N__law_drawn_from : List Str := ["_law_script", "_law_k", "_law_cell"]
theorem sc__law_drawn_from : FnScope N__law_drawn_from ["_law_script", "_law_k"] (defScope s__law_drawn_from) := ⟨rfl, rfl, rfl, by decide +kernel, rfl, by decide +kernel, by decide +kernel⟩
def sp__law_drawn_from (K : PySem.W.Frag) : Sp := fun vs H Q _ => ∃ (a : Addr) (k : Int) (ns : List Int), vs = [.ref a, .int k] ∧ SqL K H a (ns.map V.int) ∧ ns.length ≤ 63 ∧ 0 ≤ k ∧ k ≤ 63 ∧ ∀ H' b c, H b = none → H c = none → Same H H' → Left H' b c (1009 * k) → Q (.ref b) H'
theorem big_or (c : Int) : ∃ x : Int, atI [V.int 0, .int (if c < 0 then -c else c)] (if decide (10 ^ (18 : Int).toNat ≤ (if c < 0 then -c else c)) = true then 1 else 0) = some (.int x) ∧ 0 ≤ x := by
  by_cases h : 10 ^ (18 : Int).toNat ≤ (if c < 0 then -c else c)
  · rw [decide_eq_true h]
    refine ⟨_, rfl, ?_⟩
    split <;> omega
  · rw [decide_eq_false h]
    exact ⟨0, rfl, by decide⟩
theorem ok__law_drawn_from {f : Addr} {fd : FuncData} (F : Fun K "_law_drawn_from" "_law_drawn_from" s__law_drawn_from f fd) (g : mg "_law_drawn_from" = some (.ref f)) (bd : Binds K fd ["_law_script", "_law_k"] []) (m_len : mg "len" = none) (m_abs : mg "abs" = none) (m_int : mg "int" = none) : CF P w K mg base 1 "_law_drawn_from" ["_law_script", "_law_k"] (sp__law_drawn_from K) := by
  refine ⟨f, fd, F.ok sc__law_drawn_from (fun vs H Q E h => ?_) (fun cdv A outer s H vs Q E hr h => ?_), g, F.kp, bd⟩
  · first | (obtain ⟨_, rfl, _⟩ := h; rfl) | (obtain ⟨_, _, rfl, _⟩ := h; rfl) | (obtain ⟨_, _, _, rfl, _⟩ := h; rfl) | (obtain ⟨_, _, _, _, rfl, _⟩ := h; rfl) | (obtain ⟨_, _, _, _, _, rfl, _⟩ := h; rfl) | (obtain ⟨_, _, _, _, _, _, rfl, _⟩ := h; rfl) | (obtain ⟨_, _, _, _, _, _, _, rfl, _⟩ := h; rfl) | (obtain ⟨_, _, _, _, _, _, _, _, rfl, _⟩ := h; rfl) | (obtain ⟨_, _, _, _, _, _, _, _, _, rfl, _⟩ := h; rfl) | (obtain ⟨_, _, _, _, _, _, _, _, _, _, rfl, _⟩ := h; rfl) | (obtain ⟨_, _, _, _, _, _, _, _, _, _, _, rfl, _⟩ := h; rfl) | (obtain ⟨_, _, _, _, _, _, _, _, _, _, _, _, rfl, _⟩ := h; rfl) | (obtain ⟨_, _, _, _, _, _, _, _, _, _, _, _, _, rfl, _⟩ := h; rfl) | (obtain ⟨_, _, _, _, _, _, _, _, _, _, _, _, _, _, rfl, _⟩ := h; rfl) | (obtain ⟨_, _, _, _, _, _, _, _, _, _, _, _, _, _, _, rfl, _⟩ := h; rfl)
  · have hu64 := hr.units
    obtain ⟨a, k, ns, rfl, hS, hlen, hk0, hk, q⟩ := h
    refine ⟨_, (pss_cons (ps_set (i := 2) sc__law_drawn_from.nd rfl (.inl rfl) (pe_ifExp (pt_cmpR op_lt (pv 1) (pe_callB (kk_len K) (by rfl) m_len PySem.boot_len (pa_cons (pv 0) pa_nil)) (nomark _)) (pe_ix (kk_ixl K) (pv 0) (pv 1) (fun _ _ => rfl)) pe_int))
      (pss_one (ps_ret (pe_lst (pa_cons (pe_ix (kk_ixl K) (pe_lst (pa_cons pe_int (pa_cons (pe_callB call_abs (by rfl) m_abs (by decide +kernel) (pa_cons (pv 2) pa_nil)) pa_nil))) (pe_callTy call_int1 (by rfl) m_int (by decide +kernel) (pa_cons (pe_cmpR op_ge (pe_callB call_abs (by rfl) m_abs (by decide +kernel) (pa_cons (pv 2) pa_nil)) (pe_op op_pow pe_int pe_int) (nomark _)) pa_nil)) (fun _ _ => rfl)) (pa_cons (pe_ifExp (pt_cmpR op_gt (pe_callB (kk_len K) (by rfl) m_len PySem.boot_len (pa_cons (pv 0) pa_nil)) pe_int (nomark _)) (pe_slice (kk_sll K) (pv 0) po_none (po_some pe_int)) (pe_lst (pa_cons pe_int pa_nil))) (pa_cons (pe_op op_mul pe_int (pv 1)) pa_nil))))))), ?_⟩
    refine ⟨_, rfl, _, rfl, a, _, rfl, .inl hS, _, _, rfl, rfl, _, rfl, ite2 (fun e => ?c1) (fun e => ?c2)⟩
    case' c1 =>
      have e1 := of_decide_eq_true e
      rw [List.length_map] at e1
      obtain ⟨d, hd⟩ := at_int hk0 e1
      refine ⟨_, rfl, _, rfl, a, _, _, _, rfl, rfl, hS, hd, ?_⟩
    all_goals
      refine ⟨_, rfl, _, rfl, (by show 2 ≤ sizeLine; decide), fun p hp => ?_⟩
      refine ⟨_, rfl, _, rfl, _, _, rfl, rfl, ⟨by decide, by decide, by decide⟩, _, _, rfl, rfl, .inr ⟨_, rfl, p, _, _, _, rfl, rfl, SqL.of upd_same, (big_or _).choose_spec.1, ?_⟩⟩
      have s1 := fun o => same_new (o := o) hp
      refine ⟨_, rfl, a, _, rfl, .inl ((s1 _).seq hS), _, _, rfl, rfl, _, rfl, ite2 (fun e2 => ?_) (fun e2 => ?_)⟩
      · have e3 := of_decide_eq_true e2
        rw [List.length_map] at e3
        refine ⟨_, rfl, _, rfl, a, _, rfl, (s1 _).seq hS, fun c nc => ?_⟩
        refine ⟨_, rfl, _, _, rfl, rfl, .inl ⟨by decide, by decide⟩, (by show 3 ≤ sizeLine; decide), fun l nl => ?_⟩
        refine q _ l c (none_of ((s1 _).trans (same_new nc)) nl) (none_of (s1 _) nc) (((s1 _).trans (same_new nc)).trans (same_new nl)) ⟨_, _, ns, upd_same, ?_, (big_or _).choose_spec.2, by omega, by omega, by omega, hlen⟩
        rw [upd_ne (ne_of_none upd_same nl), upd_same]
        exact congrArg (fun z => some (HO.lst z)) (cut_to (k := 63) (by rw [List.length_map]; exact hlen))
      · refine ⟨(by show 1 ≤ sizeLine; decide), fun c nc => ?_⟩
        refine ⟨_, rfl, _, _, rfl, rfl, .inl ⟨by decide, by decide⟩, (by show 3 ≤ sizeLine; decide), fun l nl => ?_⟩
        refine q _ l c (none_of ((s1 _).trans (same_new nc)) nl) (none_of (s1 _) nc) (((s1 _).trans (same_new nc)).trans (same_new nl)) ⟨_, _, [7], upd_same, ?_, (big_or _).choose_spec.2, by omega, by omega, by decide, by decide⟩
        rw [upd_ne (ne_of_none upd_same nl), upd_same]
        rfl
/-! ### _law_same -/
abbrev s__law_same : Stmt := topS 12
abbrev N__law_same : List Str := ["_law_found", "_law_due", "_law_one", "_law_other"]
theorem sc__law_same : FnScope N__law_same ["_law_found", "_law_due"] (defScope s__law_same) := ⟨rfl, rfl, rfl, by decide +kernel, rfl, by decide +kernel, by decide +kernel⟩
def spr__law_same (K : PySem.W.Frag) : Nat → Sp
  | 0 => fun _ _ _ _ => False
  | n + 1 => fun vs H Q _ => ∃ (x y : V) (d : PyData), vs = [x, y] ∧ Dp K H x d ∧ Dp K H y d ∧ PyData.depth d ≤ n ∧ thin d = true ∧ ∀ H', Same H H' → Q (.bl true) H'
def sp__law_same (K : PySem.W.Frag) : Sp := spr__law_same K 5
theorem st__law_same (n : Nat) {f : Addr} {fd : FuncData} (F : Fun K "_law_same" "_law_same" s__law_same f fd) (g : mg "_law_same" = some (.ref f)) (bd : Binds K fd ["_law_found", "_law_due"] []) (m_isinstance : mg "isinstance" = none) (m_tuple : mg "tuple" = none) (m_list : mg "list" = none) (m_all : mg "all" = none) (m_zip : mg "zip" = none) (m_len : mg "len" = none) (m_str : mg "str" = none) (m_bool : mg "bool" = none) (m_int : mg "int" = none) (C__law_same : CF P w K mg base (1 + n) "_law_same" ["_law_found", "_law_due"] (spr__law_same K n)) : CF P w K mg base (1 + n + 1) "_law_same" ["_law_found", "_law_due"] (spr__law_same K (n + 1)) := by
  refine ⟨f, fd, F.ok sc__law_same (fun vs H Q E h => ?_) (fun cdv A outer s H vs Q E hr h => ?_), g, F.kp, bd⟩
  · first | (obtain ⟨_, rfl, _⟩ := h; rfl) | (obtain ⟨_, _, rfl, _⟩ := h; rfl) | (obtain ⟨_, _, _, rfl, _⟩ := h; rfl) | (obtain ⟨_, _, _, _, rfl, _⟩ := h; rfl) | (obtain ⟨_, _, _, _, _, rfl, _⟩ := h; rfl) | (obtain ⟨_, _, _, _, _, _, rfl, _⟩ := h; rfl) | (obtain ⟨_, _, _, _, _, _, _, rfl, _⟩ := h; rfl) | (obtain ⟨_, _, _, _, _, _, _, _, rfl, _⟩ := h; rfl) | (obtain ⟨_, _, _, _, _, _, _, _, _, rfl, _⟩ := h; rfl) | (obtain ⟨_, _, _, _, _, _, _, _, _, _, rfl, _⟩ := h; rfl) | (obtain ⟨_, _, _, _, _, _, _, _, _, _, _, rfl, _⟩ := h; rfl) | (obtain ⟨_, _, _, _, _, _, _, _, _, _, _, _, rfl, _⟩ := h; rfl) | (obtain ⟨_, _, _, _, _, _, _, _, _, _, _, _, _, rfl, _⟩ := h; rfl) | (obtain ⟨_, _, _, _, _, _, _, _, _, _, _, _, _, _, rfl, _⟩ := h; rfl) | (obtain ⟨_, _, _, _, _, _, _, _, _, _, _, _, _, _, _, rfl, _⟩ := h; rfl)
  · have hu64 := hr.units
    obtain ⟨x, y, d, rfl, hx, hy, hd, ht, q⟩ := h
    refine ⟨_, (pss_cons (ps_if (pt_val (pe_callB (kk_isiT K) (by rfl) m_isinstance (by decide +kernel) (pa_cons (pv 1) (pa_cons (pe_tup (pa_cons (pe_bltn (v := .ty "list") (by rfl) m_list (by decide +kernel) rfl) (pa_cons (pe_bltn (v := .ty "tuple") (by rfl) m_tuple (by decide +kernel) rfl) pa_nil))) pa_nil))))
         (pss_cons (ps_if (PW.pt (pw_or (pt_cmpR op_ne (pe_callB (kk_isi K) (by rfl) m_isinstance (by decide +kernel) (pa_cons (pv 0) (pa_cons (pe_bltn (v := .ty "list") (by rfl) m_list (by decide +kernel) rfl) pa_nil))) (pe_callB (kk_isi K) (by rfl) m_isinstance (by decide +kernel) (pa_cons (pv 1) (pa_cons (pe_bltn (v := .ty "list") (by rfl) m_list (by decide +kernel) rfl) pa_nil))) (nomark _)) (pw_or1 (pt_cmpR op_ne (pe_callB (kk_isi K) (by rfl) m_isinstance (by decide +kernel) (pa_cons (pv 0) (pa_cons (pe_bltn (v := .ty "tuple") (by rfl) m_tuple (by decide +kernel) rfl) pa_nil))) (pe_callB (kk_isi K) (by rfl) m_isinstance (by decide +kernel) (pa_cons (pv 1) (pa_cons (pe_bltn (v := .ty "tuple") (by rfl) m_tuple (by decide +kernel) rfl) pa_nil))) (nomark _)))))
             (pss_one (ps_ret pe_bl))
             pss_nil)
          (pss_one (ps_ret (pe_and (pe_cmpR op_eq (pe_callB (kk_len K) (by rfl) m_len PySem.boot_len (pa_cons (pv 0) pa_nil)) (pe_callB (kk_len K) (by rfl) m_len PySem.boot_len (pa_cons (pv 1) pa_nil)) (nomark _)) (pe_one (pe_callB (kk_all K rfl) (by rfl) m_all (by decide +kernel) (pa_cons (pe_lc (own := [("_law_one", 2), ("_law_other", 3)]) (g := (gTup K 2 (gCons (gName 2) (gCons (gName 3) gNil)))) (tt := tYes) rfl sc__law_same.nd (RZ.pi_zipA (by rfl) m_zip (pa_cons (pv 0) (pa_cons (pv 1) pa_nil))) (blkOk_by (own := [("_law_one", 2), ("_law_other", 3)]) (N := N__law_same) (sc := defScope s__law_same) (by decide +kernel)) (fun _ _ _ _ _ => (pg_tup (by rfl) (pgs_cons (pg_name (i := 2) sc__law_same.nd rfl (.inl rfl)) (pgs_cons (pg_name (i := 3) sc__law_same.nd rfl (.inl rfl)) pgs_nil)))) (fun _ _ _ _ _ => pts_nil) (fun _ _ _ _ _ => (pe_cf C__law_same hr (by rfl) (pa_cons (pv 2) (pa_cons (pv 3) pa_nil))))) pa_nil)))))))
         pss_nil)
      (pss_cons (ps_if (PW.pt (pw_or (pt_cmpR op_isN (pv 1) pe_non (nomark _)) (pw_or1 (pt_val (pe_callB (kk_isi K) (by rfl) m_isinstance (by decide +kernel) (pa_cons (pv 1) (pa_cons (pe_bltn (v := .ty "str") (by rfl) m_str (by decide +kernel) rfl) pa_nil)))))))
         (pss_one (ps_ret (pe_and (pe_cmpR op_eq (pv 0) (pv 1) (nomark _)) (pe_one (pe_cmpR op_eq (pe_callB (kk_isi K) (by rfl) m_isinstance (by decide +kernel) (pa_cons (pv 0) (pa_cons (pe_bltn (v := .ty "str") (by rfl) m_str (by decide +kernel) rfl) pa_nil))) (pe_callB (kk_isi K) (by rfl) m_isinstance (by decide +kernel) (pa_cons (pv 1) (pa_cons (pe_bltn (v := .ty "str") (by rfl) m_str (by decide +kernel) rfl) pa_nil))) (nomark _))))))
         pss_nil)
      (pss_cons (ps_if (pt_val (pe_callB (kk_isi K) (by rfl) m_isinstance (by decide +kernel) (pa_cons (pv 1) (pa_cons (pe_bltn (v := .ty "bool") (by rfl) m_bool (by decide +kernel) rfl) pa_nil))))
         (pss_one (ps_ret (pe_and (pe_callB (kk_isi K) (by rfl) m_isinstance (by decide +kernel) (pa_cons (pv 0) (pa_cons (pe_bltn (v := .ty "bool") (by rfl) m_bool (by decide +kernel) rfl) pa_nil))) (pe_one (pe_cmpR op_eq (pv 0) (pv 1) (nomark _))))))
         pss_nil)
      (pss_one (ps_ret (pe_and (pe_callB (kk_isi K) (by rfl) m_isinstance (by decide +kernel) (pa_cons (pv 0) (pa_cons (pe_bltn (v := .ty "int") (by rfl) m_int (by decide +kernel) rfl) pa_nil))) (pe_and (pe_not (pe_callB (kk_isi K) (by rfl) m_isinstance (by decide +kernel) (pa_cons (pv 0) (pa_cons (pe_bltn (v := .ty "bool") (by rfl) m_bool (by decide +kernel) rfl) pa_nil)))) (pe_one (pe_cmpR op_eq (pv 0) (pv 1) (nomark _)))))))))), ?_⟩
    refine ⟨_, rfl, (by show 2 ≤ sizeLine; decide), fun tp ntp => ⟨_, tp, _, _, _, _, rfl, upd_same, .cons (.ty _) (.cons (.ty _) .nil), ty_of_dp (dp_same (same_new ntp) hy), kitLT d, _, rfl, ?_⟩⟩
    have s1 := same_new (o := .tup [.ty "list", .ty "tuple"]) ntp
    have q1 := q _ s1
    have tx := ty_of_dp (dp_same s1 hx)
    have ty := ty_of_dp (dp_same s1 hy)
    cases hx with
    | non =>
      cases hy
      exact iteF ⟨_, rfl, rfl, _, rfl, iteT (iteT ⟨_, rfl, _, rfl, rfl, _, rfl, iteY rfl ⟨_, rfl, _, _, _, _, _, rfl, .ty _, tx, kit_d (T := "str") (by decide) _, _, rfl, _, _, _, _, _, rfl, .ty _, ty, kit_d (T := "str") (by decide) _, rfl, qY rfl q1⟩⟩)⟩
    | str z =>
      cases hy
      exact iteF ⟨_, rfl, rfl, _, rfl, iteF ⟨_, rfl, _, _, _, _, _, rfl, .ty _, ty, kit_d (T := "str") (by decide) _, _, rfl, iteT ⟨_, rfl, _, rfl, rfl, _, rfl, iteY rfl ⟨_, rfl, _, _, _, _, _, rfl, .ty _, tx, kit_d (T := "str") (by decide) _, _, rfl, _, _, _, _, _, rfl, .ty _, ty, kit_d (T := "str") (by decide) _, rfl, qY rfl q1⟩⟩⟩⟩
    | bl b =>
      cases hy
      exact iteF ⟨_, rfl, rfl, _, rfl, iteF ⟨_, rfl, _, _, _, _, _, rfl, .ty _, ty, kit_d (T := "str") (by decide) _, _, rfl, iteF ⟨_, rfl, _, _, _, _, _, rfl, .ty _, ty, kit_d (T := "bool") (by decide) _, _, rfl, iteT ⟨_, rfl, _, _, _, _, _, rfl, .ty _, tx, kit_d (T := "bool") (by decide) _, _, rfl, iteT ⟨_, rfl, _, rfl, rfl, qY rfl q1⟩⟩⟩⟩⟩
    | int i =>
      cases hy
      exact iteF ⟨_, rfl, rfl, _, rfl, iteF ⟨_, rfl, _, _, _, _, _, rfl, .ty _, ty, kit_d (T := "str") (by decide) _, _, rfl, iteF ⟨_, rfl, _, _, _, _, _, rfl, .ty _, ty, kit_d (T := "bool") (by decide) _, _, rfl, iteF ⟨_, rfl, _, _, _, _, _, rfl, .ty _, tx, kit_d (T := "int") (by decide) _, _, rfl, iteT ⟨_, rfl, _, _, _, _, _, rfl, .ty _, tx, kit_d (T := "bool") (by decide) _, _, rfl, _, rfl, iteT ⟨_, rfl, _, rfl, rfl, qY rfl q1⟩⟩⟩⟩⟩⟩
    | @lst a xs ds hS hA =>
      obtain ⟨m, rfl⟩ : ∃ m, n = m + 1 := ⟨n - 1, by simp only [PyData.depth] at hd; omega⟩
      cases hy with
      | @lst a2 ys _ hS2 hA2 =>
        have hlen : xs.length = ys.length := (dpAll_len hA).trans (dpAll_len hA2).symm
        simp only [thin, Bool.and_eq_true, decide_eq_true_eq] at ht
        obtain ⟨ht1, ht2⟩ := ht
        have hxl := dpAll_len hA
        refine iteT ⟨_, rfl, _, _, _, _, _, rfl, .ty _, tx, kit_d (T := "list") (by decide) _, _, rfl, _, _, _, _, _, rfl, .ty _, ty, kit_d (T := "list") (by decide) _, rfl, _, rfl, iteF ⟨_, rfl, _, _, _, _, _, rfl, .ty _, tx, kit_d (T := "tuple") (by decide) _, _, rfl, _, _, _, _, _, rfl, .ty _, ty, kit_d (T := "tuple") (by decide) _, rfl, _, rfl, iteF ?_⟩⟩
        refine ⟨_, rfl, a, _, rfl, .inl (s1.seq hS), _, rfl, a2, _, rfl, .inl (s1.seq hS2), rfl, _, rfl, iteY (by rw [hlen]) ?_⟩
        refine ⟨_, rfl, _, rfl, a, a2, _, _, rfl, .inl ⟨s1.seq hS, s1.seq hS2, fun D hD => lc_gen (n := xs.length) (fun i H' => Same (upd H tp (.tup [.ty "list", .ty "tuple"])) H' ∧ H' D = some (.lst ((List.replicate i true).map V.bl))) ⟨same_new hD, upd_same⟩ (fun i H' h => canL hlen ((s1.trans h.1).seq hS) ((s1.trans h.1).seq hS2)) (fun i H' v H'' hi h hyl => ?_) (fun H' h => ?_)⟩⟩
        · obtain ⟨T, x', y', rfl, hT, rfl, f1, f2⟩ := hyl
          obtain ⟨h1, h2⟩ := h
          have g1 := f1 xs ((s1.trans h1).seq hS)
          have g2 := f2 ys ((s1.trans h1).seq hS2)
          obtain ⟨d1, e1, p1⟩ := dpAll_get hA g1
          obtain ⟨d2, e2, p2⟩ := dpAll_get hA2 g2
          cases (Option.some.inj (e1.symm.trans e2))
          have sT := same_new (o := .tup [x', y']) hT
          have dd := depth_at e1
          simp only [PyData.depth] at hd
          refine ⟨T, _, rfl, SqT.of upd_same, rfl, _, _, rfl, _, _, rfl, rfl, rfl, _, rfl, _, rfl, x', y', d1, rfl, dp_same ((s1.trans h1).trans sT) p1, dp_same ((s1.trans h1).trans sT) p2, by omega, thin_at ht2 e1, fun H3 s3 => ?_⟩
          refine ⟨_, s3 _ _ (sT _ _ h2), ?_, ?_, ?_⟩
          · rw [List.length_map, List.length_replicate]
            exact small1000 (by omega)
          · exact fun c o e => by
              rw [upd_ne (ne_of_none e hD)]
              exact s3 _ _ (sT _ _ (h1 _ _ e))
          · rw [upd_same, rep_snoc]
        · obtain ⟨h1, h2⟩ := h
          refine ⟨D, _, rfl, SqL.of h2, ?_⟩
          rw [all_true]
          exact q _ (s1.trans h1)
    | @tup a xs ds hS hA =>
      obtain ⟨m, rfl⟩ : ∃ m, n = m + 1 := ⟨n - 1, by simp only [PyData.depth] at hd; omega⟩
      cases hy with
      | @tup a2 ys _ hS2 hA2 =>
        have hlen : xs.length = ys.length := (dpAll_len hA).trans (dpAll_len hA2).symm
        simp only [thin, Bool.and_eq_true, decide_eq_true_eq] at ht
        obtain ⟨ht1, ht2⟩ := ht
        have hxl := dpAll_len hA
        refine iteT ⟨_, rfl, _, _, _, _, _, rfl, .ty _, tx, kit_d (T := "list") (by decide) _, _, rfl, _, _, _, _, _, rfl, .ty _, ty, kit_d (T := "list") (by decide) _, rfl, _, rfl, iteF ⟨_, rfl, _, _, _, _, _, rfl, .ty _, tx, kit_d (T := "tuple") (by decide) _, _, rfl, _, _, _, _, _, rfl, .ty _, ty, kit_d (T := "tuple") (by decide) _, rfl, _, rfl, iteF ?_⟩⟩
        refine ⟨_, rfl, a, _, rfl, .inr (seqT_same s1 hS), _, rfl, a2, _, rfl, .inr (seqT_same s1 hS2), rfl, _, rfl, iteY (by rw [hlen]) ?_⟩
        refine ⟨_, rfl, _, rfl, a, a2, _, _, rfl, .inr ⟨seqT_same s1 hS, seqT_same s1 hS2, fun D hD => lc_gen (n := xs.length) (fun i H' => Same (upd H tp (.tup [.ty "list", .ty "tuple"])) H' ∧ H' D = some (.lst ((List.replicate i true).map V.bl))) ⟨same_new hD, upd_same⟩ (fun i H' h => canT hlen (seqT_same (s1.trans h.1) hS) (seqT_same (s1.trans h.1) hS2)) (fun i H' v H'' hi h hyl => ?_) (fun H' h => ?_)⟩⟩
        · obtain ⟨T, x', y', rfl, hT, rfl, f1, f2⟩ := hyl
          obtain ⟨h1, h2⟩ := h
          have g1 := f1 xs (seqT_same (s1.trans h1) hS)
          have g2 := f2 ys (seqT_same (s1.trans h1) hS2)
          obtain ⟨d1, e1, p1⟩ := dpAll_get hA g1
          obtain ⟨d2, e2, p2⟩ := dpAll_get hA2 g2
          cases (Option.some.inj (e1.symm.trans e2))
          have sT := same_new (o := .tup [x', y']) hT
          have dd := depth_at e1
          simp only [PyData.depth] at hd
          refine ⟨T, _, rfl, SqT.of upd_same, rfl, _, _, rfl, _, _, rfl, rfl, rfl, _, rfl, _, rfl, x', y', d1, rfl, dp_same ((s1.trans h1).trans sT) p1, dp_same ((s1.trans h1).trans sT) p2, by omega, thin_at ht2 e1, fun H3 s3 => ?_⟩
          refine ⟨_, s3 _ _ (sT _ _ h2), ?_, ?_, ?_⟩
          · rw [List.length_map, List.length_replicate]
            exact small1000 (by omega)
          · exact fun c o e => by
              rw [upd_ne (ne_of_none e hD)]
              exact s3 _ _ (sT _ _ (h1 _ _ e))
          · rw [upd_same, rep_snoc]
        · obtain ⟨h1, h2⟩ := h
          refine ⟨D, _, rfl, SqL.of h2, ?_⟩
          rw [all_true]
          exact q _ (s1.trans h1)
theorem ok__law_same {f : Addr} {fd : FuncData} (F : Fun K "_law_same" "_law_same" s__law_same f fd) (g : mg "_law_same" = some (.ref f)) (bd : Binds K fd ["_law_found", "_law_due"] []) (m_isinstance : mg "isinstance" = none) (m_tuple : mg "tuple" = none) (m_list : mg "list" = none) (m_all : mg "all" = none) (m_zip : mg "zip" = none) (m_len : mg "len" = none) (m_str : mg "str" = none) (m_bool : mg "bool" = none) (m_int : mg "int" = none) : CF P w K mg base (6) "_law_same" ["_law_found", "_law_due"] (sp__law_same K) := by
  have all : ∀ n, CF P w K mg base (1 + n) "_law_same" ["_law_found", "_law_due"] (spr__law_same K n) := fun n => by
    induction n with
    | zero => exact ⟨f, fd, F.ok (k := 0) sc__law_same (fun vs H Q E h => h.elim) (fun cdv A outer s H vs Q E hr h => h.elim), g, F.kp, bd⟩
    | succ n ih => exact st__law_same n F g bd m_isinstance m_tuple m_list m_all m_zip m_len m_str m_bool m_int ih
  exact all 5
/-! ### _law_refusal -/
abbrev s__law_refusal : Stmt := topS 16
abbrev N__law_refusal : List Str := ["_law_which", "_law_number", "_law_sign", "_law_by_name"]
theorem sc__law_refusal : FnScope N__law_refusal ["_law_which", "_law_number", "_law_sign", "_law_by_name"] (defScope s__law_refusal) := ⟨rfl, rfl, rfl, by decide +kernel, rfl, by decide +kernel, by decide +kernel⟩
theorem ifY {c : Bool} {A B : Prop} (e : c = true) (h : A) : if c = true then A else B := by
  rw [if_pos e]
  exact h
theorem ifN {c : Bool} {A B : Prop} (e : c = false) (h : B) : if c = true then A else B := by
  rw [e]
  exact iteF h
theorem eqT {a b : Int} (h : a = b) : decide (V.int a = V.int b) = true := decide_eq_true (by rw [h])
theorem eqF {a b : Int} (h : ¬ a = b) : decide (V.int a = V.int b) = false := decide_eq_false (fun z => h (V.int.inj z))
theorem exv_same {H : Hp} {a dx C : Addr} {fld : Str} {y : V} (na : H a = none) (nd : H dx = none) (ne : dx ≠ a) : Same H (upd (upd (upd H a (exo a C none)) dx (exd dx [(fld, y)])) a (exo a C (some dx))) := fun c o e => by
  rw [upd_ne (ne_of_none e na), upd_ne (ne_of_none e nd), upd_ne (ne_of_none e na)]
  exact e
theorem exv_own {H : Hp} {a dx C : Addr} {fld : Str} {y : V} (ne : dx ≠ a) : ErAt (upd (upd (upd H a (exo a C none)) dx (exd dx [(fld, y)])) a (exo a C (some dx))) a C [(fld, y)] := .own upd_same (by rw [upd_ne ne, upd_same])
theorem mk_nd {H : Hp} {a dx : Addr} {o : HO} (hd : upd H a o dx = none) (ne : dx ≠ a) : H dx = none := by
  rw [upd_ne ne] at hd
  exact hd
theorem mk_new {H : Hp} {a dx : Addr} {o o1 o2 : HO} {fs : List (Str × V)} (na : H a = none) (hd : upd H a o dx = none) (ne : dx ≠ a) : H dx = none ∧ Same H (upd (del (upd (upd (upd H a o) dx o1) a o2) a) dx (.xd fs)) := by
  have nd : H dx = none := by
    rw [upd_ne ne] at hd
    exact hd
  refine ⟨nd, fun c u e => ?_⟩
  have c1 := ne_of_none e na
  have c2 := ne_of_none e nd
  rw [upd_ne c2, del_ne c1, upd_ne c1, upd_ne c2, upd_ne c1]
  exact e
def sp__law_refusal (K : PySem.W.Frag) (C : C8) : Sp := fun vs H Q _ => ∃ (i : Nat) (n : Int) (s : Str) (b : Bool), vs = [.int i, .int n, .str s, .bl b] ∧ i < 8 ∧ ∀ H' a, H a = none → Same H H' → ErAt H' a (C.c i) (fl8 i n s) → Q (.ref a) H'
theorem ok__law_refusal {f : Addr} {fd : FuncData} (F : Fun K "_law_refusal" "_law_refusal" s__law_refusal f fd) (g : mg "_law_refusal" = some (.ref f)) (bd : Binds K fd ["_law_which", "_law_number", "_law_sign", "_law_by_name"] []) {CC : C8} (TE : T8 K mg CC) (X0 : CEv P w K mg base CC.c0 1 "BadRule" "word") (X1 : CEv P w K mg base CC.c1 1 "BadClause" "place") (X2 : CEv P w K mg base CC.c2 1 "BadRow" "row") : CF P w K mg base 3 "_law_refusal" ["_law_which", "_law_number", "_law_sign", "_law_by_name"] (sp__law_refusal K CC) := by
  refine ⟨f, fd, F.ok sc__law_refusal (fun vs H Q E h => ?_) (fun cdv A outer s H vs Q E hr h => ?_), g, F.kp, bd⟩
  · first | (obtain ⟨_, rfl, _⟩ := h; rfl) | (obtain ⟨_, _, rfl, _⟩ := h; rfl) | (obtain ⟨_, _, _, rfl, _⟩ := h; rfl) | (obtain ⟨_, _, _, _, rfl, _⟩ := h; rfl) | (obtain ⟨_, _, _, _, _, rfl, _⟩ := h; rfl) | (obtain ⟨_, _, _, _, _, _, rfl, _⟩ := h; rfl) | (obtain ⟨_, _, _, _, _, _, _, rfl, _⟩ := h; rfl) | (obtain ⟨_, _, _, _, _, _, _, _, rfl, _⟩ := h; rfl) | (obtain ⟨_, _, _, _, _, _, _, _, _, rfl, _⟩ := h; rfl) | (obtain ⟨_, _, _, _, _, _, _, _, _, _, rfl, _⟩ := h; rfl) | (obtain ⟨_, _, _, _, _, _, _, _, _, _, _, rfl, _⟩ := h; rfl) | (obtain ⟨_, _, _, _, _, _, _, _, _, _, _, _, rfl, _⟩ := h; rfl) | (obtain ⟨_, _, _, _, _, _, _, _, _, _, _, _, _, rfl, _⟩ := h; rfl) | (obtain ⟨_, _, _, _, _, _, _, _, _, _, _, _, _, _, rfl, _⟩ := h; rfl) | (obtain ⟨_, _, _, _, _, _, _, _, _, _, _, _, _, _, _, rfl, _⟩ := h; rfl)
  · have hu64 := hr.units
    obtain ⟨i, n, sg, b, rfl, hi, q⟩ := h
    refine ⟨_, (pss_cons (ps_if (PW.pt (pw_and (pt_val (pv 3)) (pw_and1 (pt_cmpR op_lt (pv 0) pe_int (nomark _)))))
         (pss_cons (ps_if (pt_cmpR op_eq (pv 0) pe_int (nomark _))
             (pss_one (ps_ret (pe_exK X0 (hr.mono (by decide)) (by rfl) (pk_cons (pv 2) pk_nil))))
             pss_nil)
          (pss_one (ps_ret (pe_ifExp (pt_cmpR op_eq (pv 0) pe_int (nomark _)) (pe_exK X1 (hr.mono (by decide)) (by rfl) (pk_cons (pv 1) pk_nil)) (pe_exK X2 (hr.mono (by decide)) (by rfl) (pk_cons (pv 1) pk_nil))))))
         pss_nil)
      (pss_cons (ps_if (pt_cmpR op_eq (pv 0) pe_int (nomark _))
         (pss_one (ps_ret (pe_exV X0 (hr.mono (by decide)) (by rfl) (pa_cons (pv 2) pa_nil))))
         pss_nil)
      (pss_cons (ps_if (pt_cmpR op_lt (pv 0) pe_int (nomark _))
         (pss_one (ps_ret (pe_ifExp (pt_cmpR op_eq (pv 0) pe_int (nomark _)) (pe_exV X1 (hr.mono (by decide)) (by rfl) (pa_cons (pv 1) pa_nil)) (pe_exV X2 (hr.mono (by decide)) (by rfl) (pa_cons (pv 1) pa_nil)))))
         pss_nil)
      (pss_cons (ps_if (pt_cmpR op_lt (pv 0) pe_int (nomark _))
         (pss_one (ps_ret (pe_ifExp (pt_cmpR op_eq (pv 0) pe_int (nomark _)) (pe_exc1 PySem.F.excBase_ValueError TE.x3 TE.g3 TE.p3 (by rfl) (pv 2)) (pe_exc1 PySem.F.excBase_ValueError TE.x4 TE.g4 TE.p4 (by rfl) (pv 2)))))
         pss_nil)
      (pss_cons (ps_if (pt_cmpR op_lt (pv 0) pe_int (nomark _))
         (pss_one (ps_ret (pe_ifExp (pt_cmpR op_eq (pv 0) pe_int (nomark _)) (pe_exc1 PySem.F.excBase_ValueError TE.x5 TE.g5 TE.p5 (by rfl) (pv 2)) (pe_exc1 PySem.F.excBase_ValueError TE.x6 TE.g6 TE.p6 (by rfl) (pv 2)))))
         pss_nil)
      (pss_one (ps_ret (pe_exc1 PySem.F.excBase_ValueError TE.x7 TE.g7 TE.p7 (by rfl) (pv 2))))))))), ?_⟩
    rcases lt8 hi with rfl | rfl | rfl | rfl | rfl | rfl | rfl | rfl
    · cases b
      · exact ⟨_, rfl, false, rfl, iteF (⟨_, rfl, rfl, _, rfl, ifY (eqT (by decide)) (⟨_, rfl, _, rfl, fun a dx na nd ne => q _ a na (exv_same na nd ne) (exv_own ne)⟩)⟩)⟩
      · exact ⟨_, rfl, true, rfl, iteT (⟨_, rfl, _, _, rfl, rfl, _, rfl, ifY (by decide) (⟨_, rfl, rfl, _, rfl, ifY (eqT (by decide)) (⟨_, rfl, _, rfl, fun a dx na nd ne => q _ a na (exv_same na nd ne) (exv_own ne)⟩)⟩)⟩)⟩
    · cases b
      · exact ⟨_, rfl, false, rfl, iteF (⟨_, rfl, rfl, _, rfl, ifN (eqF (by decide)) (⟨_, rfl, _, _, rfl, rfl, _, rfl, ifY (by decide) (⟨_, rfl, rfl, _, rfl, ifY (eqT (by decide)) (⟨_, rfl, _, rfl, fun a dx na nd ne => q _ a na (exv_same na nd ne) (exv_own ne)⟩)⟩)⟩)⟩)⟩
      · exact ⟨_, rfl, true, rfl, iteT (⟨_, rfl, _, _, rfl, rfl, _, rfl, ifY (by decide) (⟨_, rfl, rfl, _, rfl, ifN (eqF (by decide)) (⟨_, rfl, rfl, _, rfl, ifY (eqT (by decide)) (⟨_, rfl, _, rfl, fun a dx na nd ne => q _ a na (exv_same na nd ne) (exv_own ne)⟩)⟩)⟩)⟩)⟩
    · cases b
      · exact ⟨_, rfl, false, rfl, iteF (⟨_, rfl, rfl, _, rfl, ifN (eqF (by decide)) (⟨_, rfl, _, _, rfl, rfl, _, rfl, ifY (by decide) (⟨_, rfl, rfl, _, rfl, ifN (eqF (by decide)) (⟨_, rfl, _, rfl, fun a dx na nd ne => q _ a na (exv_same na nd ne) (exv_own ne)⟩)⟩)⟩)⟩)⟩
      · exact ⟨_, rfl, true, rfl, iteT (⟨_, rfl, _, _, rfl, rfl, _, rfl, ifY (by decide) (⟨_, rfl, rfl, _, rfl, ifN (eqF (by decide)) (⟨_, rfl, rfl, _, rfl, ifN (eqF (by decide)) (⟨_, rfl, _, rfl, fun a dx na nd ne => q _ a na (exv_same na nd ne) (exv_own ne)⟩)⟩)⟩)⟩)⟩
    · cases b
      · exact ⟨_, rfl, false, rfl, iteF (⟨_, rfl, rfl, _, rfl, ifN (eqF (by decide)) (⟨_, rfl, _, _, rfl, rfl, _, rfl, ifN (by decide) (⟨_, rfl, _, _, rfl, rfl, _, rfl, ifY (by decide) (⟨_, rfl, rfl, _, rfl, ifY (eqT (by decide)) (⟨_, rfl, fun a na => q _ a na (same_new na) (.bare upd_same)⟩)⟩)⟩)⟩)⟩)⟩
      · exact ⟨_, rfl, true, rfl, iteT (⟨_, rfl, _, _, rfl, rfl, _, rfl, ifN (by decide) (⟨_, rfl, rfl, _, rfl, ifN (eqF (by decide)) (⟨_, rfl, _, _, rfl, rfl, _, rfl, ifN (by decide) (⟨_, rfl, _, _, rfl, rfl, _, rfl, ifY (by decide) (⟨_, rfl, rfl, _, rfl, ifY (eqT (by decide)) (⟨_, rfl, fun a na => q _ a na (same_new na) (.bare upd_same)⟩)⟩)⟩)⟩)⟩)⟩)⟩
    · cases b
      · exact ⟨_, rfl, false, rfl, iteF (⟨_, rfl, rfl, _, rfl, ifN (eqF (by decide)) (⟨_, rfl, _, _, rfl, rfl, _, rfl, ifN (by decide) (⟨_, rfl, _, _, rfl, rfl, _, rfl, ifY (by decide) (⟨_, rfl, rfl, _, rfl, ifN (eqF (by decide)) (⟨_, rfl, fun a na => q _ a na (same_new na) (.bare upd_same)⟩)⟩)⟩)⟩)⟩)⟩
      · exact ⟨_, rfl, true, rfl, iteT (⟨_, rfl, _, _, rfl, rfl, _, rfl, ifN (by decide) (⟨_, rfl, rfl, _, rfl, ifN (eqF (by decide)) (⟨_, rfl, _, _, rfl, rfl, _, rfl, ifN (by decide) (⟨_, rfl, _, _, rfl, rfl, _, rfl, ifY (by decide) (⟨_, rfl, rfl, _, rfl, ifN (eqF (by decide)) (⟨_, rfl, fun a na => q _ a na (same_new na) (.bare upd_same)⟩)⟩)⟩)⟩)⟩)⟩)⟩
    · cases b
      · exact ⟨_, rfl, false, rfl, iteF (⟨_, rfl, rfl, _, rfl, ifN (eqF (by decide)) (⟨_, rfl, _, _, rfl, rfl, _, rfl, ifN (by decide) (⟨_, rfl, _, _, rfl, rfl, _, rfl, ifN (by decide) (⟨_, rfl, _, _, rfl, rfl, _, rfl, ifY (by decide) (⟨_, rfl, rfl, _, rfl, ifY (eqT (by decide)) (⟨_, rfl, fun a na => q _ a na (same_new na) (.bare upd_same)⟩)⟩)⟩)⟩)⟩)⟩)⟩
      · exact ⟨_, rfl, true, rfl, iteT (⟨_, rfl, _, _, rfl, rfl, _, rfl, ifN (by decide) (⟨_, rfl, rfl, _, rfl, ifN (eqF (by decide)) (⟨_, rfl, _, _, rfl, rfl, _, rfl, ifN (by decide) (⟨_, rfl, _, _, rfl, rfl, _, rfl, ifN (by decide) (⟨_, rfl, _, _, rfl, rfl, _, rfl, ifY (by decide) (⟨_, rfl, rfl, _, rfl, ifY (eqT (by decide)) (⟨_, rfl, fun a na => q _ a na (same_new na) (.bare upd_same)⟩)⟩)⟩)⟩)⟩)⟩)⟩)⟩
    · cases b
      · exact ⟨_, rfl, false, rfl, iteF (⟨_, rfl, rfl, _, rfl, ifN (eqF (by decide)) (⟨_, rfl, _, _, rfl, rfl, _, rfl, ifN (by decide) (⟨_, rfl, _, _, rfl, rfl, _, rfl, ifN (by decide) (⟨_, rfl, _, _, rfl, rfl, _, rfl, ifY (by decide) (⟨_, rfl, rfl, _, rfl, ifN (eqF (by decide)) (⟨_, rfl, fun a na => q _ a na (same_new na) (.bare upd_same)⟩)⟩)⟩)⟩)⟩)⟩)⟩
      · exact ⟨_, rfl, true, rfl, iteT (⟨_, rfl, _, _, rfl, rfl, _, rfl, ifN (by decide) (⟨_, rfl, rfl, _, rfl, ifN (eqF (by decide)) (⟨_, rfl, _, _, rfl, rfl, _, rfl, ifN (by decide) (⟨_, rfl, _, _, rfl, rfl, _, rfl, ifN (by decide) (⟨_, rfl, _, _, rfl, rfl, _, rfl, ifY (by decide) (⟨_, rfl, rfl, _, rfl, ifN (eqF (by decide)) (⟨_, rfl, fun a na => q _ a na (same_new na) (.bare upd_same)⟩)⟩)⟩)⟩)⟩)⟩)⟩)⟩
    · cases b
      · exact ⟨_, rfl, false, rfl, iteF (⟨_, rfl, rfl, _, rfl, ifN (eqF (by decide)) (⟨_, rfl, _, _, rfl, rfl, _, rfl, ifN (by decide) (⟨_, rfl, _, _, rfl, rfl, _, rfl, ifN (by decide) (⟨_, rfl, _, _, rfl, rfl, _, rfl, ifN (by decide) (⟨_, rfl, fun a na => q _ a na (same_new na) (.bare upd_same)⟩)⟩)⟩)⟩)⟩)⟩
      · exact ⟨_, rfl, true, rfl, iteT (⟨_, rfl, _, _, rfl, rfl, _, rfl, ifN (by decide) (⟨_, rfl, rfl, _, rfl, ifN (eqF (by decide)) (⟨_, rfl, _, _, rfl, rfl, _, rfl, ifN (by decide) (⟨_, rfl, _, _, rfl, rfl, _, rfl, ifN (by decide) (⟨_, rfl, _, _, rfl, rfl, _, rfl, ifN (by decide) (⟨_, rfl, fun a na => q _ a na (same_new na) (.bare upd_same)⟩)⟩)⟩)⟩)⟩)⟩)⟩
/-! ### _law_kinds -/
abbrev s__law_kinds : Stmt := topS 17
abbrev N__law_kinds : List Str := ["_law_error", "_law_some"]
theorem sc__law_kinds : FnScope N__law_kinds ["_law_error"] (defScope s__law_kinds) := ⟨rfl, rfl, rfl, by decide +kernel, rfl, by decide +kernel, by decide +kernel⟩
def sp__law_kinds (K : PySem.W.Frag) (C : C8) : Sp := fun vs H Q _ => ∃ (a : Addr) (i : Nat) (fs : List (Str × V)), vs = [.ref a] ∧ i < 8 ∧ ErAt H a (C.c i) fs ∧ ∀ H' l, H l = none → Same H H' → H' l = some (.lst ((List.range 8).map fun j => V.bl (decide (i = j)))) → Q (.ref l) H'
theorem ok__law_kinds {f : Addr} {fd : FuncData} (F : Fun K "_law_kinds" "_law_kinds" s__law_kinds f fd) (g : mg "_law_kinds" = some (.ref f)) (bd : Binds K fd ["_law_error"] []) {CC : C8} (TE : T8 K mg CC) (X0 : CEv P w K mg base CC.c0 1 "BadRule" "word") (X1 : CEv P w K mg base CC.c1 1 "BadClause" "place") (X2 : CEv P w K mg base CC.c2 1 "BadRow" "row") (m_isinstance : mg "isinstance" = none) : CF P w K mg base 1 "_law_kinds" ["_law_error"] (sp__law_kinds K CC) := by
  refine ⟨f, fd, F.ok sc__law_kinds (fun vs H Q E h => ?_) (fun cdv A outer s H vs Q E hr h => ?_), g, F.kp, bd⟩
  · first | (obtain ⟨_, rfl, _⟩ := h; rfl) | (obtain ⟨_, _, rfl, _⟩ := h; rfl) | (obtain ⟨_, _, _, rfl, _⟩ := h; rfl) | (obtain ⟨_, _, _, _, rfl, _⟩ := h; rfl) | (obtain ⟨_, _, _, _, _, rfl, _⟩ := h; rfl) | (obtain ⟨_, _, _, _, _, _, rfl, _⟩ := h; rfl) | (obtain ⟨_, _, _, _, _, _, _, rfl, _⟩ := h; rfl) | (obtain ⟨_, _, _, _, _, _, _, _, rfl, _⟩ := h; rfl) | (obtain ⟨_, _, _, _, _, _, _, _, _, rfl, _⟩ := h; rfl) | (obtain ⟨_, _, _, _, _, _, _, _, _, _, rfl, _⟩ := h; rfl) | (obtain ⟨_, _, _, _, _, _, _, _, _, _, _, rfl, _⟩ := h; rfl) | (obtain ⟨_, _, _, _, _, _, _, _, _, _, _, _, rfl, _⟩ := h; rfl) | (obtain ⟨_, _, _, _, _, _, _, _, _, _, _, _, _, rfl, _⟩ := h; rfl) | (obtain ⟨_, _, _, _, _, _, _, _, _, _, _, _, _, _, rfl, _⟩ := h; rfl) | (obtain ⟨_, _, _, _, _, _, _, _, _, _, _, _, _, _, _, rfl, _⟩ := h; rfl)
  · have hu64 := hr.units
    obtain ⟨a, i, fs, rfl, hi, hE, q⟩ := h
    refine ⟨_, (pss_cons (ps_set (i := 1) sc__law_kinds.nd rfl (.inl rfl) (pe_lst (pa_cons (pe_callB (kk_isEa K) (by rfl) m_isinstance (by decide +kernel) (pa_cons (pv 0) (pa_cons (pe_glob (v := .ref CC.c0) (by rfl) TE.g0 rfl) pa_nil))) (pa_cons (pe_callB (kk_isEa K) (by rfl) m_isinstance (by decide +kernel) (pa_cons (pv 0) (pa_cons (pe_glob (v := .ref CC.c1) (by rfl) TE.g1 rfl) pa_nil))) (pa_cons (pe_callB (kk_isEa K) (by rfl) m_isinstance (by decide +kernel) (pa_cons (pv 0) (pa_cons (pe_glob (v := .ref CC.c2) (by rfl) TE.g2 rfl) pa_nil))) pa_nil)))))
      (pss_cons (ps_set (i := 1) sc__law_kinds.nd rfl (.inl rfl) (pe_op op_cat (pv 1) (pe_lst (pa_cons (pe_callB (kk_isEa K) (by rfl) m_isinstance (by decide +kernel) (pa_cons (pv 0) (pa_cons (pe_glob (v := .ref CC.c3) (by rfl) TE.g3 rfl) pa_nil))) (pa_cons (pe_callB (kk_isEa K) (by rfl) m_isinstance (by decide +kernel) (pa_cons (pv 0) (pa_cons (pe_glob (v := .ref CC.c4) (by rfl) TE.g4 rfl) pa_nil))) (pa_cons (pe_callB (kk_isEa K) (by rfl) m_isinstance (by decide +kernel) (pa_cons (pv 0) (pa_cons (pe_glob (v := .ref CC.c5) (by rfl) TE.g5 rfl) pa_nil))) pa_nil))))))
      (pss_one (ps_ret (pe_op op_cat (pv 1) (pe_lst (pa_cons (pe_callB (kk_isEa K) (by rfl) m_isinstance (by decide +kernel) (pa_cons (pv 0) (pa_cons (pe_glob (v := .ref CC.c6) (by rfl) TE.g6 rfl) pa_nil))) (pa_cons (pe_callB (kk_isEa K) (by rfl) m_isinstance (by decide +kernel) (pa_cons (pv 0) (pa_cons (pe_glob (v := .ref CC.c7) (by rfl) TE.g7 rfl) pa_nil))) pa_nil)))))))), ?_⟩
    have kk := fun j (hj : j < 8) => TE.kit i j hi hj
    have one : ∀ {G : Hp} {σ : L2.St} {R : VK} {j : Nat}, σ[0]? = some (some (.ref a)) → Same H G → j < 8 → R (.bl (decide (i = j))) G → tCB (rIsEa K) (tCons (tVar 0) (tCons (tC (V.ref (CC.c j))) tNil)) σ G R := fun {G σ R j} h0 s hj r => ⟨_, h0, a, _, fs, _, _, _, rfl, TE.ec i hi, hE.same s, (fun u hu => hu), kk j hj, r⟩
    refine one (j := 0) rfl (Same.refl H) (by decide) (one (j := 1) rfl (Same.refl H) (by decide) (one (j := 2) rfl (Same.refl H) (by decide) ⟨(by show 3 ≤ sizeLine; decide), fun l1 n1 => ⟨_, rfl, ?_⟩⟩))
    have s1 := same_new (o := .lst [V.bl (decide (i = 0)), .bl (decide (i = 1)), .bl (decide (i = 2))]) n1
    have h1 := upd_same (H := H) (a := l1) (o := .lst [V.bl (decide (i = 0)), .bl (decide (i = 1)), .bl (decide (i = 2))])
    generalize upd H l1 (.lst [V.bl (decide (i = 0)), .bl (decide (i = 1)), .bl (decide (i = 2))]) = H1 at *
    refine one (j := 3) rfl s1 (by decide) (one (j := 4) rfl s1 (by decide) (one (j := 5) rfl s1 (by decide) ⟨(by show 3 ≤ sizeLine; decide), fun l2 n2 => ?_⟩))
    have s2 := same_new (o := .lst [V.bl (decide (i = 3)), .bl (decide (i = 4)), .bl (decide (i = 5))]) n2
    have h2 := upd_same (H := H1) (a := l2) (o := .lst [V.bl (decide (i = 3)), .bl (decide (i = 4)), .bl (decide (i = 5))])
    generalize upd H1 l2 (.lst [V.bl (decide (i = 3)), .bl (decide (i = 4)), .bl (decide (i = 5))]) = H2 at *
    refine ⟨l1, l2, _, _, rfl, rfl, s2 _ _ h1, h2, (by show 3 + 3 ≤ sizeLine; decide), fun l3 n3 => ⟨_, rfl, ?_⟩⟩
    have s3 := same_new (o := .lst ([V.bl (decide (i = 0)), .bl (decide (i = 1)), .bl (decide (i = 2))] ++ [V.bl (decide (i = 3)), .bl (decide (i = 4)), .bl (decide (i = 5))])) n3
    have h3 := upd_same (H := H2) (a := l3) (o := .lst ([V.bl (decide (i = 0)), .bl (decide (i = 1)), .bl (decide (i = 2))] ++ [V.bl (decide (i = 3)), .bl (decide (i = 4)), .bl (decide (i = 5))]))
    generalize upd H2 l3 (.lst ([V.bl (decide (i = 0)), .bl (decide (i = 1)), .bl (decide (i = 2))] ++ [V.bl (decide (i = 3)), .bl (decide (i = 4)), .bl (decide (i = 5))])) = H3 at *
    have s03 := (s1.trans s2).trans s3
    refine one (j := 6) rfl s03 (by decide) (one (j := 7) rfl s03 (by decide) ⟨(by show 2 ≤ sizeLine; decide), fun l4 n4 => ?_⟩)
    have s4 := same_new (o := .lst [V.bl (decide (i = 6)), .bl (decide (i = 7))]) n4
    refine ⟨l3, l4, _, _, rfl, rfl, s4 _ _ h3, upd_same, (by show 6 + 2 ≤ sizeLine; decide), fun l5 n5 => ?_⟩
    have s5 := same_new (o := .lst (([V.bl (decide (i = 0)), .bl (decide (i = 1)), .bl (decide (i = 2))] ++ [V.bl (decide (i = 3)), .bl (decide (i = 4)), .bl (decide (i = 5))]) ++ [V.bl (decide (i = 6)), .bl (decide (i = 7))])) n5
    exact q _ l5 (none_of (s03.trans s4) n5) ((s03.trans s4).trans s5) upd_same
/-! ### _law_thrown -/
abbrev s__law_thrown : Stmt := topS 18
abbrev N__law_thrown : List Str := ["_law_which", "_law_number", "_law_sign"]
theorem sc__law_thrown : FnScope N__law_thrown ["_law_which", "_law_number", "_law_sign"] (defScope s__law_thrown) := ⟨rfl, rfl, rfl, by decide +kernel, rfl, by decide +kernel, by decide +kernel⟩
def sp__law_thrown (K : PySem.W.Frag) (C : C8) : Sp := fun vs H Q E => ∃ (i : Nat) (n : Int) (s : Str), vs = [.int i, .int n, .str s] ∧ i < 8 ∧ ∀ H' d, Same H H' → ((i < 3 ∧ ∃ dx, d = some dx ∧ H dx = none ∧ H' dx = some (.xd (fl8 i n s))) ∨ (3 ≤ i ∧ d = none)) → E (.ref (C.c i)) d H'
theorem ok__law_thrown {f : Addr} {fd : FuncData} (F : Fun K "_law_thrown" "_law_thrown" s__law_thrown f fd) (g : mg "_law_thrown" = some (.ref f)) (bd : Binds K fd ["_law_which", "_law_number", "_law_sign"] []) {CC : C8} (TE : T8 K mg CC) (X0 : CEv P w K mg base CC.c0 1 "BadRule" "word") (X1 : CEv P w K mg base CC.c1 1 "BadClause" "place") (X2 : CEv P w K mg base CC.c2 1 "BadRow" "row") : CFx P w K mg base 3 "_law_thrown" ["_law_which", "_law_number", "_law_sign"] (sp__law_thrown K CC) := by
  refine ⟨f, fd, F.okX sc__law_thrown (fun vs H Q E h => ?_) (fun cdv A outer s H vs Q E hr h => ?_), g, F.kp, bd⟩
  · first | (obtain ⟨_, rfl, _⟩ := h; rfl) | (obtain ⟨_, _, rfl, _⟩ := h; rfl) | (obtain ⟨_, _, _, rfl, _⟩ := h; rfl) | (obtain ⟨_, _, _, _, rfl, _⟩ := h; rfl) | (obtain ⟨_, _, _, _, _, rfl, _⟩ := h; rfl) | (obtain ⟨_, _, _, _, _, _, rfl, _⟩ := h; rfl) | (obtain ⟨_, _, _, _, _, _, _, rfl, _⟩ := h; rfl) | (obtain ⟨_, _, _, _, _, _, _, _, rfl, _⟩ := h; rfl) | (obtain ⟨_, _, _, _, _, _, _, _, _, rfl, _⟩ := h; rfl) | (obtain ⟨_, _, _, _, _, _, _, _, _, _, rfl, _⟩ := h; rfl) | (obtain ⟨_, _, _, _, _, _, _, _, _, _, _, rfl, _⟩ := h; rfl) | (obtain ⟨_, _, _, _, _, _, _, _, _, _, _, _, rfl, _⟩ := h; rfl) | (obtain ⟨_, _, _, _, _, _, _, _, _, _, _, _, _, rfl, _⟩ := h; rfl) | (obtain ⟨_, _, _, _, _, _, _, _, _, _, _, _, _, _, rfl, _⟩ := h; rfl) | (obtain ⟨_, _, _, _, _, _, _, _, _, _, _, _, _, _, _, rfl, _⟩ := h; rfl)
  · have hu64 := hr.units
    obtain ⟨i, n, sg, rfl, hi, q⟩ := h
    refine ⟨_, (pss_cons (ps_if (pt_cmpR op_eq (pv 0) pe_int (nomark _))
         (pss_one (ps_raise rfl (takes_of rfl rfl rfl rfl) (pmk_cex X0.cex (hr.mono (by decide)) (by rfl) (pa_cons (pv 2) pa_nil))))
         pss_nil)
      (pss_cons (ps_if (pt_cmpR op_eq (pv 0) pe_int (nomark _))
         (pss_one (ps_raise rfl (takes_of rfl rfl rfl rfl) (pmk_cex X1.cex (hr.mono (by decide)) (by rfl) (pa_cons (pv 1) pa_nil))))
         pss_nil)
      (pss_cons (ps_if (pt_cmpR op_eq (pv 0) pe_int (nomark _))
         (pss_one (ps_raise rfl (takes_of rfl rfl rfl rfl) (pmk_cex X2.cex (hr.mono (by decide)) (by rfl) (pa_cons (pv 1) pa_nil))))
         pss_nil)
      (pss_cons (ps_if (pt_cmpR op_eq (pv 0) pe_int (nomark _))
         (pss_one (ps_raise rfl (takes_of rfl rfl rfl rfl) (SkE.pmk_own1 PySem.F.excBase_ValueError TE.x3 TE.g3 TE.p3 (raises_own TE.sb3 TE.ty3) (by rfl) (pv 2))))
         pss_nil)
      (pss_cons (ps_if (pt_cmpR op_eq (pv 0) pe_int (nomark _))
         (pss_one (ps_raise rfl (takes_of rfl rfl rfl rfl) (SkE.pmk_own1 PySem.F.excBase_ValueError TE.x4 TE.g4 TE.p4 (raises_own TE.sb4 TE.ty4) (by rfl) (pv 2))))
         pss_nil)
      (pss_cons (ps_if (pt_cmpR op_eq (pv 0) pe_int (nomark _))
         (pss_one (ps_raise rfl (takes_of rfl rfl rfl rfl) (SkE.pmk_own1 PySem.F.excBase_ValueError TE.x5 TE.g5 TE.p5 (raises_own TE.sb5 TE.ty5) (by rfl) (pv 2))))
         pss_nil)
      (pss_cons (ps_if (pt_cmpR op_eq (pv 0) pe_int (nomark _))
         (pss_one (ps_raise rfl (takes_of rfl rfl rfl rfl) (SkE.pmk_own1 PySem.F.excBase_ValueError TE.x6 TE.g6 TE.p6 (raises_own TE.sb6 TE.ty6) (by rfl) (pv 2))))
         pss_nil)
      (pss_one (ps_raise rfl (takes_of rfl rfl rfl rfl) (SkE.pmk_own1 PySem.F.excBase_ValueError TE.x7 TE.g7 TE.p7 (raises_own TE.sb7 TE.ty7) (by rfl) (pv 2))))))))))), ?_⟩
    rcases lt8 hi with rfl | rfl | rfl | rfl | rfl | rfl | rfl | rfl
    · exact ⟨_, rfl, rfl, _, rfl, ifY (eqT (by decide)) (⟨_, rfl, (by show 1 ≤ 1000; decide), fun a na => ⟨a, _, rfl, upd_same, fun dx hd ne => ⟨rfl, dx, fl8 0 n sg, upd_same, (by rw [upd_ne ne, upd_same]; rfl), (mk_nd hd ne), q _ _ (mk_new na hd ne).2 (.inl ⟨by decide, dx, rfl, (mk_nd hd ne), upd_same⟩)⟩⟩⟩)⟩
    · exact ⟨_, rfl, rfl, _, rfl, ifN (eqF (by decide)) (⟨_, rfl, rfl, _, rfl, ifY (eqT (by decide)) (⟨_, rfl, (by show 1 ≤ 1000; decide), fun a na => ⟨a, _, rfl, upd_same, fun dx hd ne => ⟨rfl, dx, fl8 1 n sg, upd_same, (by rw [upd_ne ne, upd_same]; rfl), (mk_nd hd ne), q _ _ (mk_new na hd ne).2 (.inl ⟨by decide, dx, rfl, (mk_nd hd ne), upd_same⟩)⟩⟩⟩)⟩)⟩
    · exact ⟨_, rfl, rfl, _, rfl, ifN (eqF (by decide)) (⟨_, rfl, rfl, _, rfl, ifN (eqF (by decide)) (⟨_, rfl, rfl, _, rfl, ifY (eqT (by decide)) (⟨_, rfl, (by show 1 ≤ 1000; decide), fun a na => ⟨a, _, rfl, upd_same, fun dx hd ne => ⟨rfl, dx, fl8 2 n sg, upd_same, (by rw [upd_ne ne, upd_same]; rfl), (mk_nd hd ne), q _ _ (mk_new na hd ne).2 (.inl ⟨by decide, dx, rfl, (mk_nd hd ne), upd_same⟩)⟩⟩⟩)⟩)⟩)⟩
    · exact ⟨_, rfl, rfl, _, rfl, ifN (eqF (by decide)) (⟨_, rfl, rfl, _, rfl, ifN (eqF (by decide)) (⟨_, rfl, rfl, _, rfl, ifN (eqF (by decide)) (⟨_, rfl, rfl, _, rfl, ifY (eqT (by decide)) (⟨_, rfl, q _ _ (Same.refl H) (.inr ⟨by decide, rfl⟩)⟩)⟩)⟩)⟩)⟩
    · exact ⟨_, rfl, rfl, _, rfl, ifN (eqF (by decide)) (⟨_, rfl, rfl, _, rfl, ifN (eqF (by decide)) (⟨_, rfl, rfl, _, rfl, ifN (eqF (by decide)) (⟨_, rfl, rfl, _, rfl, ifN (eqF (by decide)) (⟨_, rfl, rfl, _, rfl, ifY (eqT (by decide)) (⟨_, rfl, q _ _ (Same.refl H) (.inr ⟨by decide, rfl⟩)⟩)⟩)⟩)⟩)⟩)⟩
    · exact ⟨_, rfl, rfl, _, rfl, ifN (eqF (by decide)) (⟨_, rfl, rfl, _, rfl, ifN (eqF (by decide)) (⟨_, rfl, rfl, _, rfl, ifN (eqF (by decide)) (⟨_, rfl, rfl, _, rfl, ifN (eqF (by decide)) (⟨_, rfl, rfl, _, rfl, ifN (eqF (by decide)) (⟨_, rfl, rfl, _, rfl, ifY (eqT (by decide)) (⟨_, rfl, q _ _ (Same.refl H) (.inr ⟨by decide, rfl⟩)⟩)⟩)⟩)⟩)⟩)⟩)⟩
    · exact ⟨_, rfl, rfl, _, rfl, ifN (eqF (by decide)) (⟨_, rfl, rfl, _, rfl, ifN (eqF (by decide)) (⟨_, rfl, rfl, _, rfl, ifN (eqF (by decide)) (⟨_, rfl, rfl, _, rfl, ifN (eqF (by decide)) (⟨_, rfl, rfl, _, rfl, ifN (eqF (by decide)) (⟨_, rfl, rfl, _, rfl, ifN (eqF (by decide)) (⟨_, rfl, rfl, _, rfl, ifY (eqT (by decide)) (⟨_, rfl, q _ _ (Same.refl H) (.inr ⟨by decide, rfl⟩)⟩)⟩)⟩)⟩)⟩)⟩)⟩)⟩
    · exact ⟨_, rfl, rfl, _, rfl, ifN (eqF (by decide)) (⟨_, rfl, rfl, _, rfl, ifN (eqF (by decide)) (⟨_, rfl, rfl, _, rfl, ifN (eqF (by decide)) (⟨_, rfl, rfl, _, rfl, ifN (eqF (by decide)) (⟨_, rfl, rfl, _, rfl, ifN (eqF (by decide)) (⟨_, rfl, rfl, _, rfl, ifN (eqF (by decide)) (⟨_, rfl, rfl, _, rfl, ifN (eqF (by decide)) (⟨_, rfl, q _ _ (Same.refl H) (.inr ⟨by decide, rfl⟩)⟩)⟩)⟩)⟩)⟩)⟩)⟩)⟩
/-! ### _law_caught_rising -/
abbrev s__law_caught_rising : Stmt := topS 19
abbrev N__law_caught_rising : List Str := ["_law_which", "_law_number", "_law_sign", "_law_found"]
theorem sc__law_caught_rising : FnScope N__law_caught_rising ["_law_which", "_law_number", "_law_sign"] (defScope s__law_caught_rising) := ⟨rfl, rfl, rfl, by decide +kernel, rfl, by decide +kernel, by decide +kernel⟩
def sp__law_caught_rising (K : PySem.W.Frag) (C : C8) : Sp := fun vs H Q _ => ∃ (i : Nat) (n : Int) (s : Str), vs = [.int i, .int n, .str s] ∧ i < 8 ∧ ∀ H', Same H H' → Q (.int i) H'
theorem ok__law_caught_rising {f : Addr} {fd : FuncData} (F : Fun K "_law_caught_rising" "_law_caught_rising" s__law_caught_rising f fd) (g : mg "_law_caught_rising" = some (.ref f)) (bd : Binds K fd ["_law_which", "_law_number", "_law_sign"] []) {CC : C8} (TE : T8 K mg CC) (X0 : CEv P w K mg base CC.c0 1 "BadRule" "word") (X1 : CEv P w K mg base CC.c1 1 "BadClause" "place") (X2 : CEv P w K mg base CC.c2 1 "BadRow" "row") (C__law_thrown : CFx P w K mg base 3 "_law_thrown" ["_law_which", "_law_number", "_law_sign"] (sp__law_thrown K CC)) : CF P w K mg base 4 "_law_caught_rising" ["_law_which", "_law_number", "_law_sign"] (sp__law_caught_rising K CC) := by
  refine ⟨f, fd, F.ok sc__law_caught_rising (fun vs H Q E h => ?_) (fun cdv A outer s H vs Q E hr h => ?_), g, F.kp, bd⟩
  · first | (obtain ⟨_, rfl, _⟩ := h; rfl) | (obtain ⟨_, _, rfl, _⟩ := h; rfl) | (obtain ⟨_, _, _, rfl, _⟩ := h; rfl) | (obtain ⟨_, _, _, _, rfl, _⟩ := h; rfl) | (obtain ⟨_, _, _, _, _, rfl, _⟩ := h; rfl) | (obtain ⟨_, _, _, _, _, _, rfl, _⟩ := h; rfl) | (obtain ⟨_, _, _, _, _, _, _, rfl, _⟩ := h; rfl) | (obtain ⟨_, _, _, _, _, _, _, _, rfl, _⟩ := h; rfl) | (obtain ⟨_, _, _, _, _, _, _, _, _, rfl, _⟩ := h; rfl) | (obtain ⟨_, _, _, _, _, _, _, _, _, _, rfl, _⟩ := h; rfl) | (obtain ⟨_, _, _, _, _, _, _, _, _, _, _, rfl, _⟩ := h; rfl) | (obtain ⟨_, _, _, _, _, _, _, _, _, _, _, _, rfl, _⟩ := h; rfl) | (obtain ⟨_, _, _, _, _, _, _, _, _, _, _, _, _, rfl, _⟩ := h; rfl) | (obtain ⟨_, _, _, _, _, _, _, _, _, _, _, _, _, _, rfl, _⟩ := h; rfl) | (obtain ⟨_, _, _, _, _, _, _, _, _, _, _, _, _, _, _, rfl, _⟩ := h; rfl)
  · have hu64 := hr.units
    obtain ⟨i, n, sg, rfl, hi, q⟩ := h
    refine ⟨_, (pss_cons (ps_set (i := 3) sc__law_caught_rising.nd rfl (.inl rfl) pe_int)
      (pss_cons (ps_try_many rfl rfl takes_none5 (fun W pn xe tk _ =>
          (pss_one (ps_expr (pe_cfx C__law_thrown (hr.mono (by decide)) tk (by rfl) (pa_cons (pv 0) (pa_cons (pv 1) (pa_cons (pv 2) pa_nil)))))))
          (.cons ⟨rfl, by decide, .inl TE.g0⟩ (fun _ _ _ _ _ _ _ => (pss_one (ps_set (i := 3) sc__law_caught_rising.nd rfl (.inl rfl) pe_int)))
          (.cons ⟨rfl, by decide, .inl TE.g1⟩ (fun _ _ _ _ _ _ _ => (pss_one (ps_set (i := 3) sc__law_caught_rising.nd rfl (.inl rfl) pe_int)))
          (.cons ⟨rfl, by decide, .inl TE.g2⟩ (fun _ _ _ _ _ _ _ => (pss_one (ps_set (i := 3) sc__law_caught_rising.nd rfl (.inl rfl) pe_int)))
          (.cons ⟨rfl, by decide, .inl TE.g3⟩ (fun _ _ _ _ _ _ _ => (pss_one (ps_set (i := 3) sc__law_caught_rising.nd rfl (.inl rfl) pe_int)))
          (.cons ⟨rfl, by decide, .inl TE.g4⟩ (fun _ _ _ _ _ _ _ => (pss_one (ps_set (i := 3) sc__law_caught_rising.nd rfl (.inl rfl) pe_int)))
          (.cons ⟨rfl, by decide, .inl TE.g5⟩ (fun _ _ _ _ _ _ _ => (pss_one (ps_set (i := 3) sc__law_caught_rising.nd rfl (.inl rfl) pe_int)))
          (.cons ⟨rfl, by decide, .inl TE.g6⟩ (fun _ _ _ _ _ _ _ => (pss_one (ps_set (i := 3) sc__law_caught_rising.nd rfl (.inl rfl) pe_int)))
          (.cons ⟨rfl, by decide, .inl TE.g7⟩ (fun _ _ _ _ _ _ _ => (pss_one (ps_set (i := 3) sc__law_caught_rising.nd rfl (.inl rfl) pe_int)))
          (.cons ⟨rfl, by decide, .inl TE.gw⟩ (fun _ _ _ _ _ _ _ => (pss_one (ps_set (i := 3) sc__law_caught_rising.nd rfl (.inl rfl) pe_int)))
          .nil))))))))))
      (pss_one (ps_ret (pv 3))))), ?_⟩
    refine ⟨_, rfl, _, rfl, _, rfl, i, n, sg, rfl, hi, fun H' d s _ => ?_⟩
    refine ⟨_, TE.exm i 0 hi (by decide), fun e a na => ?_, fun e0 => ?_⟩
    · cases of_decide_eq_true e
      exact ⟨_, rfl, q _ s⟩
    refine ⟨_, TE.exm i 1 hi (by decide), fun e a na => ?_, fun e1 => ?_⟩
    · cases of_decide_eq_true e
      exact ⟨_, rfl, q _ s⟩
    refine ⟨_, TE.exm i 2 hi (by decide), fun e a na => ?_, fun e2 => ?_⟩
    · cases of_decide_eq_true e
      exact ⟨_, rfl, q _ s⟩
    refine ⟨_, TE.exm i 3 hi (by decide), fun e a na => ?_, fun e3 => ?_⟩
    · cases of_decide_eq_true e
      exact ⟨_, rfl, q _ s⟩
    refine ⟨_, TE.exm i 4 hi (by decide), fun e a na => ?_, fun e4 => ?_⟩
    · cases of_decide_eq_true e
      exact ⟨_, rfl, q _ s⟩
    refine ⟨_, TE.exm i 5 hi (by decide), fun e a na => ?_, fun e5 => ?_⟩
    · cases of_decide_eq_true e
      exact ⟨_, rfl, q _ s⟩
    refine ⟨_, TE.exm i 6 hi (by decide), fun e a na => ?_, fun e6 => ?_⟩
    · cases of_decide_eq_true e
      exact ⟨_, rfl, q _ s⟩
    refine ⟨_, TE.exm i 7 hi (by decide), fun e a na => ?_, fun e7 => ?_⟩
    · cases of_decide_eq_true e
      exact ⟨_, rfl, q _ s⟩
    have e0' := of_decide_eq_false e0
    have e1' := of_decide_eq_false e1
    have e2' := of_decide_eq_false e2
    have e3' := of_decide_eq_false e3
    have e4' := of_decide_eq_false e4
    have e5' := of_decide_eq_false e5
    have e6' := of_decide_eq_false e6
    have e7' := of_decide_eq_false e7
    omega
/-! ### _law_caught_falling -/
abbrev s__law_caught_falling : Stmt := topS 20
abbrev N__law_caught_falling : List Str := ["_law_which", "_law_number", "_law_sign", "_law_found"]
theorem sc__law_caught_falling : FnScope N__law_caught_falling ["_law_which", "_law_number", "_law_sign"] (defScope s__law_caught_falling) := ⟨rfl, rfl, rfl, by decide +kernel, rfl, by decide +kernel, by decide +kernel⟩
def sp__law_caught_falling (K : PySem.W.Frag) (C : C8) : Sp := fun vs H Q _ => ∃ (i : Nat) (n : Int) (s : Str), vs = [.int i, .int n, .str s] ∧ i < 8 ∧ ∀ H', Same H H' → Q (.int i) H'
theorem ok__law_caught_falling {f : Addr} {fd : FuncData} (F : Fun K "_law_caught_falling" "_law_caught_falling" s__law_caught_falling f fd) (g : mg "_law_caught_falling" = some (.ref f)) (bd : Binds K fd ["_law_which", "_law_number", "_law_sign"] []) {CC : C8} (TE : T8 K mg CC) (X0 : CEv P w K mg base CC.c0 1 "BadRule" "word") (X1 : CEv P w K mg base CC.c1 1 "BadClause" "place") (X2 : CEv P w K mg base CC.c2 1 "BadRow" "row") (C__law_thrown : CFx P w K mg base 3 "_law_thrown" ["_law_which", "_law_number", "_law_sign"] (sp__law_thrown K CC)) : CF P w K mg base 4 "_law_caught_falling" ["_law_which", "_law_number", "_law_sign"] (sp__law_caught_falling K CC) := by
  refine ⟨f, fd, F.ok sc__law_caught_falling (fun vs H Q E h => ?_) (fun cdv A outer s H vs Q E hr h => ?_), g, F.kp, bd⟩
  · first | (obtain ⟨_, rfl, _⟩ := h; rfl) | (obtain ⟨_, _, rfl, _⟩ := h; rfl) | (obtain ⟨_, _, _, rfl, _⟩ := h; rfl) | (obtain ⟨_, _, _, _, rfl, _⟩ := h; rfl) | (obtain ⟨_, _, _, _, _, rfl, _⟩ := h; rfl) | (obtain ⟨_, _, _, _, _, _, rfl, _⟩ := h; rfl) | (obtain ⟨_, _, _, _, _, _, _, rfl, _⟩ := h; rfl) | (obtain ⟨_, _, _, _, _, _, _, _, rfl, _⟩ := h; rfl) | (obtain ⟨_, _, _, _, _, _, _, _, _, rfl, _⟩ := h; rfl) | (obtain ⟨_, _, _, _, _, _, _, _, _, _, rfl, _⟩ := h; rfl) | (obtain ⟨_, _, _, _, _, _, _, _, _, _, _, rfl, _⟩ := h; rfl) | (obtain ⟨_, _, _, _, _, _, _, _, _, _, _, _, rfl, _⟩ := h; rfl) | (obtain ⟨_, _, _, _, _, _, _, _, _, _, _, _, _, rfl, _⟩ := h; rfl) | (obtain ⟨_, _, _, _, _, _, _, _, _, _, _, _, _, _, rfl, _⟩ := h; rfl) | (obtain ⟨_, _, _, _, _, _, _, _, _, _, _, _, _, _, _, rfl, _⟩ := h; rfl)
  · have hu64 := hr.units
    obtain ⟨i, n, sg, rfl, hi, q⟩ := h
    refine ⟨_, (pss_cons (ps_set (i := 3) sc__law_caught_falling.nd rfl (.inl rfl) pe_int)
      (pss_cons (ps_try_many rfl rfl takes_none5 (fun W pn xe tk _ =>
          (pss_one (ps_expr (pe_cfx C__law_thrown (hr.mono (by decide)) tk (by rfl) (pa_cons (pv 0) (pa_cons (pv 1) (pa_cons (pv 2) pa_nil)))))))
          (.cons ⟨rfl, by decide, .inl TE.g7⟩ (fun _ _ _ _ _ _ _ => (pss_one (ps_set (i := 3) sc__law_caught_falling.nd rfl (.inl rfl) pe_int)))
          (.cons ⟨rfl, by decide, .inl TE.g6⟩ (fun _ _ _ _ _ _ _ => (pss_one (ps_set (i := 3) sc__law_caught_falling.nd rfl (.inl rfl) pe_int)))
          (.cons ⟨rfl, by decide, .inl TE.g5⟩ (fun _ _ _ _ _ _ _ => (pss_one (ps_set (i := 3) sc__law_caught_falling.nd rfl (.inl rfl) pe_int)))
          (.cons ⟨rfl, by decide, .inl TE.g4⟩ (fun _ _ _ _ _ _ _ => (pss_one (ps_set (i := 3) sc__law_caught_falling.nd rfl (.inl rfl) pe_int)))
          (.cons ⟨rfl, by decide, .inl TE.g3⟩ (fun _ _ _ _ _ _ _ => (pss_one (ps_set (i := 3) sc__law_caught_falling.nd rfl (.inl rfl) pe_int)))
          (.cons ⟨rfl, by decide, .inl TE.g2⟩ (fun _ _ _ _ _ _ _ => (pss_one (ps_set (i := 3) sc__law_caught_falling.nd rfl (.inl rfl) pe_int)))
          (.cons ⟨rfl, by decide, .inl TE.g1⟩ (fun _ _ _ _ _ _ _ => (pss_one (ps_set (i := 3) sc__law_caught_falling.nd rfl (.inl rfl) pe_int)))
          (.cons ⟨rfl, by decide, .inl TE.g0⟩ (fun _ _ _ _ _ _ _ => (pss_one (ps_set (i := 3) sc__law_caught_falling.nd rfl (.inl rfl) pe_int)))
          (.cons ⟨rfl, by decide, .inl TE.gw⟩ (fun _ _ _ _ _ _ _ => (pss_one (ps_set (i := 3) sc__law_caught_falling.nd rfl (.inl rfl) pe_int)))
          .nil))))))))))
      (pss_one (ps_ret (pv 3))))), ?_⟩
    refine ⟨_, rfl, _, rfl, _, rfl, i, n, sg, rfl, hi, fun H' d s _ => ?_⟩
    refine ⟨_, TE.exm i 7 hi (by decide), fun e a na => ?_, fun e7 => ?_⟩
    · cases of_decide_eq_true e
      exact ⟨_, rfl, q _ s⟩
    refine ⟨_, TE.exm i 6 hi (by decide), fun e a na => ?_, fun e6 => ?_⟩
    · cases of_decide_eq_true e
      exact ⟨_, rfl, q _ s⟩
    refine ⟨_, TE.exm i 5 hi (by decide), fun e a na => ?_, fun e5 => ?_⟩
    · cases of_decide_eq_true e
      exact ⟨_, rfl, q _ s⟩
    refine ⟨_, TE.exm i 4 hi (by decide), fun e a na => ?_, fun e4 => ?_⟩
    · cases of_decide_eq_true e
      exact ⟨_, rfl, q _ s⟩
    refine ⟨_, TE.exm i 3 hi (by decide), fun e a na => ?_, fun e3 => ?_⟩
    · cases of_decide_eq_true e
      exact ⟨_, rfl, q _ s⟩
    refine ⟨_, TE.exm i 2 hi (by decide), fun e a na => ?_, fun e2 => ?_⟩
    · cases of_decide_eq_true e
      exact ⟨_, rfl, q _ s⟩
    refine ⟨_, TE.exm i 1 hi (by decide), fun e a na => ?_, fun e1 => ?_⟩
    · cases of_decide_eq_true e
      exact ⟨_, rfl, q _ s⟩
    refine ⟨_, TE.exm i 0 hi (by decide), fun e a na => ?_, fun e0 => ?_⟩
    · cases of_decide_eq_true e
      exact ⟨_, rfl, q _ s⟩
    have e0' := of_decide_eq_false e0
    have e1' := of_decide_eq_false e1
    have e2' := of_decide_eq_false e2
    have e3' := of_decide_eq_false e3
    have e4' := of_decide_eq_false e4
    have e5' := of_decide_eq_false e5
    have e6' := of_decide_eq_false e6
    have e7' := of_decide_eq_false e7
    omega
/-! ### _law_caught_by_parent -/
abbrev s__law_caught_by_parent : Stmt := topS 21
abbrev N__law_caught_by_parent : List Str := ["_law_which", "_law_number", "_law_sign", "_law_caught", "_law_error"]
theorem sc__law_caught_by_parent : FnScope N__law_caught_by_parent ["_law_which", "_law_number", "_law_sign"] (defScope s__law_caught_by_parent) := ⟨rfl, rfl, rfl, by decide +kernel, rfl, by decide +kernel, by decide +kernel⟩
def sp__law_caught_by_parent (K : PySem.W.Frag) (C : C8) : Sp := fun vs H Q _ => ∃ (i : Nat) (n : Int) (s : Str), vs = [.int i, .int n, .str s] ∧ i < 8 ∧ ∀ H', Same H H' → Q (.int i) H'
theorem kinds_flat (i : Nat) : ((List.range 8).map fun j => V.bl (decide (i = j))).all flatV = true := rfl
theorem kinds_at {i : Nat} (hi : i < 8) : ((List.range 8).map fun j => V.bl (decide (i = j)))[i]? = some (.bl true) := by
  rw [List.getElem?_map, List.getElem?_range hi]
  show some (V.bl (decide (i = i))) = _
  rw [decide_eq_true rfl]
theorem kinds_not {i m : Nat} {z : V} (h : m < i) (e : ((List.range 8).map fun j => V.bl (decide (i = j)))[m]? = some z) : eqV z (.bl true) = false := by
  rw [List.getElem?_map] at e
  cases h2 : (List.range 8)[m]? with
  | none => rw [h2] at e; cases e
  | some k =>
    rw [h2] at e
    obtain ⟨h3, h4⟩ := List.getElem?_eq_some_iff.mp h2
    rw [List.getElem_range] at h4
    subst h4
    cases (Option.some.inj e)
    show eqV (V.bl (decide (i = m))) (V.bl true) = false
    rw [decide_eq_false (by omega)]
    rfl
theorem ok__law_caught_by_parent {f : Addr} {fd : FuncData} (F : Fun K "_law_caught_by_parent" "_law_caught_by_parent" s__law_caught_by_parent f fd) (g : mg "_law_caught_by_parent" = some (.ref f)) (bd : Binds K fd ["_law_which", "_law_number", "_law_sign"] []) {CC : C8} (TE : T8 K mg CC) (X0 : CEv P w K mg base CC.c0 1 "BadRule" "word") (X1 : CEv P w K mg base CC.c1 1 "BadClause" "place") (X2 : CEv P w K mg base CC.c2 1 "BadRow" "row") (m_isinstance : mg "isinstance" = none) (m_ValueError : mg "ValueError" = none) (C__law_thrown : CFx P w K mg base 3 "_law_thrown" ["_law_which", "_law_number", "_law_sign"] (sp__law_thrown K CC)) (C__law_kinds : CF P w K mg base 1 "_law_kinds" ["_law_error"] (sp__law_kinds K CC)) : CF P w K mg base 4 "_law_caught_by_parent" ["_law_which", "_law_number", "_law_sign"] (sp__law_caught_by_parent K CC) := by
  refine ⟨f, fd, F.ok sc__law_caught_by_parent (fun vs H Q E h => ?_) (fun cdv A outer s H vs Q E hr h => ?_), g, F.kp, bd⟩
  · first | (obtain ⟨_, rfl, _⟩ := h; rfl) | (obtain ⟨_, _, rfl, _⟩ := h; rfl) | (obtain ⟨_, _, _, rfl, _⟩ := h; rfl) | (obtain ⟨_, _, _, _, rfl, _⟩ := h; rfl) | (obtain ⟨_, _, _, _, _, rfl, _⟩ := h; rfl) | (obtain ⟨_, _, _, _, _, _, rfl, _⟩ := h; rfl) | (obtain ⟨_, _, _, _, _, _, _, rfl, _⟩ := h; rfl) | (obtain ⟨_, _, _, _, _, _, _, _, rfl, _⟩ := h; rfl) | (obtain ⟨_, _, _, _, _, _, _, _, _, rfl, _⟩ := h; rfl) | (obtain ⟨_, _, _, _, _, _, _, _, _, _, rfl, _⟩ := h; rfl) | (obtain ⟨_, _, _, _, _, _, _, _, _, _, _, rfl, _⟩ := h; rfl) | (obtain ⟨_, _, _, _, _, _, _, _, _, _, _, _, rfl, _⟩ := h; rfl) | (obtain ⟨_, _, _, _, _, _, _, _, _, _, _, _, _, rfl, _⟩ := h; rfl) | (obtain ⟨_, _, _, _, _, _, _, _, _, _, _, _, _, _, rfl, _⟩ := h; rfl) | (obtain ⟨_, _, _, _, _, _, _, _, _, _, _, _, _, _, _, rfl, _⟩ := h; rfl)
  · have hu64 := hr.units
    obtain ⟨i, n, sg, rfl, hi, q⟩ := h
    refine ⟨_, (pss_cons (ps_set (i := 3) sc__law_caught_by_parent.nd rfl (.inl rfl) pe_non)
      (pss_cons (ps_try_keep (i := 4) rfl rfl rfl sc__law_caught_by_parent.nd rfl rfl ⟨rfl, by decide, .inl TE.gw⟩ (fun W pn xe tk _ =>
          (pss_one (ps_expr (pe_cfx C__law_thrown (hr.mono (by decide)) tk (by rfl) (pa_cons (pv 0) (pa_cons (pv 1) (pa_cons (pv 2) pa_nil)))))))
          (fun _ _ _ _ _ _ _ => (pss_one (ps_set (i := 3) sc__law_caught_by_parent.nd rfl (.inl rfl) (pv 4)))))
      (pss_one (ps_ret (pe_ifExp (pt_val (pe_callB (kk_isEa K) (by rfl) m_isinstance (by decide +kernel) (pa_cons (pv 3) (pa_cons (pe_bltn (v := .ty "ValueError") (by rfl) m_ValueError (by decide +kernel) rfl) pa_nil)))) (pe_bm PySem.F.plainAttrs_list PySem.F.slot_list_index PySem.F.type_list_index mt_index (pe_cf C__law_kinds (hr.mono (by decide)) (by rfl) (pa_cons (pv 3) pa_nil)) (pa_cons pe_bl pa_nil)) (pe_un un_neg pe_int)))))), ?_⟩
    refine ⟨_, rfl, _, rfl, _, rfl, i, n, sg, rfl, hi, fun H' d s hd => ⟨TE.exw i hi, fun a na => ⟨_, rfl, ?_⟩⟩⟩
    have nd : ∀ dx, d = some dx → H' dx = some (.xd (fl8 i n sg)) → dx ≠ a := fun dx _ e z => by
      rw [z, na] at e
      cases e
    have s1 := same_new (o := ErO (.ref (CC.c i)) d a) na
    have hE : ErAt (upd H' a (ErO (.ref (CC.c i)) d a)) a (CC.c i) (fl8 i n sg) := by
      rcases hd with ⟨h3, dx, rfl, h4, h5⟩ | ⟨h3, rfl⟩
      · exact .cgt upd_same (s1 _ _ h5)
      · have e : fl8 i n sg = [] := by
          rcases lt8 hi with rfl | rfl | rfl | rfl | rfl | rfl | rfl | rfl <;> first | rfl | omega
        rw [e]
        exact .cgt0 upd_same
    refine ⟨_, rfl, a, _, _, _, _, true, rfl, TE.ec i hi, hE, (fun u hu => hu), TE.kv i hi, _, rfl, iteT ⟨_, rfl, a, i, _, rfl, hi, hE, fun G1 l nl s2 hl => ⟨.inl ⟨rfl, _, SqL.of hl⟩, ?_⟩⟩⟩
    exact ⟨l, _, _, i, _, rfl, rfl, SqL.of hl, rfl, kinds_flat i, kinds_at hi, rfl, fun m z hm hz => kinds_not hm hz, q _ ((s.trans s1).trans s2)⟩
/-! ### _law_fields -/
abbrev s__law_fields : Stmt := topS 22
abbrev N__law_fields : List Str := ["_law_error", "_law_which"]
theorem sc__law_fields : FnScope N__law_fields ["_law_error", "_law_which"] (defScope s__law_fields) := ⟨rfl, rfl, rfl, by decide +kernel, rfl, by decide +kernel, by decide +kernel⟩
def sp__law_fields (K : PySem.W.Frag) (C : C8) : Sp := fun vs H Q _ => ∃ (a : Addr) (i : Nat) (n : Int) (s : Str), vs = [.ref a, .int i] ∧ i < 3 ∧ ErAt H a (C.c i) (fl8 i n s) ∧ Q (if i = 0 then .str s else .int n) H
theorem ok__law_fields {f : Addr} {fd : FuncData} (F : Fun K "_law_fields" "_law_fields" s__law_fields f fd) (g : mg "_law_fields" = some (.ref f)) (bd : Binds K fd ["_law_error", "_law_which"] []) {CC : C8} (TE : T8 K mg CC) (X0 : CEv P w K mg base CC.c0 1 "BadRule" "word") (X1 : CEv P w K mg base CC.c1 1 "BadClause" "place") (X2 : CEv P w K mg base CC.c2 1 "BadRow" "row") : CF P w K mg base 1 "_law_fields" ["_law_error", "_law_which"] (sp__law_fields K CC) := by
  refine ⟨f, fd, F.ok sc__law_fields (fun vs H Q E h => ?_) (fun cdv A outer s H vs Q E hr h => ?_), g, F.kp, bd⟩
  · first | (obtain ⟨_, rfl, _⟩ := h; rfl) | (obtain ⟨_, _, rfl, _⟩ := h; rfl) | (obtain ⟨_, _, _, rfl, _⟩ := h; rfl) | (obtain ⟨_, _, _, _, rfl, _⟩ := h; rfl) | (obtain ⟨_, _, _, _, _, rfl, _⟩ := h; rfl) | (obtain ⟨_, _, _, _, _, _, rfl, _⟩ := h; rfl) | (obtain ⟨_, _, _, _, _, _, _, rfl, _⟩ := h; rfl) | (obtain ⟨_, _, _, _, _, _, _, _, rfl, _⟩ := h; rfl) | (obtain ⟨_, _, _, _, _, _, _, _, _, rfl, _⟩ := h; rfl) | (obtain ⟨_, _, _, _, _, _, _, _, _, _, rfl, _⟩ := h; rfl) | (obtain ⟨_, _, _, _, _, _, _, _, _, _, _, rfl, _⟩ := h; rfl) | (obtain ⟨_, _, _, _, _, _, _, _, _, _, _, _, rfl, _⟩ := h; rfl) | (obtain ⟨_, _, _, _, _, _, _, _, _, _, _, _, _, rfl, _⟩ := h; rfl) | (obtain ⟨_, _, _, _, _, _, _, _, _, _, _, _, _, _, rfl, _⟩ := h; rfl) | (obtain ⟨_, _, _, _, _, _, _, _, _, _, _, _, _, _, _, rfl, _⟩ := h; rfl)
  · have hu64 := hr.units
    obtain ⟨a, i, n, sg, rfl, hi, hE, q⟩ := h
    refine ⟨_, (pss_cons (ps_if (pt_cmpR op_eq (pv 1) pe_int (nomark _))
         (pss_one (ps_ret (pe_erG TE.xf0 TE.nw0 (pv 0))))
         pss_nil)
      (pss_one (ps_ret (pe_ifExp (pt_cmpR op_eq (pv 1) pe_int (nomark _)) (pe_erG TE.xf1 TE.nw1 (pv 0)) (pe_erG TE.xf2 TE.nw2 (pv 0)))))), ?_⟩
    have h3 : i = 0 ∨ i = 1 ∨ i = 2 := by omega
    rcases h3 with rfl | rfl | rfl
    · exact ⟨_, rfl, rfl, _, rfl, ifY (eqT (by decide)) ⟨_, rfl, a, _, _, rfl, hE, rfl, q⟩⟩
    · exact ⟨_, rfl, rfl, _, rfl, ifN (eqF (by decide)) ⟨_, rfl, rfl, _, rfl, ifY (eqT (by decide)) ⟨_, rfl, a, _, _, rfl, hE, rfl, q⟩⟩⟩
    · exact ⟨_, rfl, rfl, _, rfl, ifN (eqF (by decide)) ⟨_, rfl, rfl, _, rfl, ifN (eqF (by decide)) ⟨_, rfl, a, _, _, rfl, hE, rfl, q⟩⟩⟩
/-! ### _law_shuffled -/
abbrev s__law_shuffled : Stmt := topS 13
abbrev N__law_shuffled : List Str := ["_law_left", "_law_things", "_law_rest", "_law_found"]
theorem sc__law_shuffled : FnScope N__law_shuffled ["_law_left", "_law_things"] (defScope s__law_shuffled) := ⟨rfl, rfl, rfl, by decide +kernel, rfl, by decide +kernel, by decide +kernel⟩
def sp__law_shuffled (K : PySem.W.Frag) : Sp := fun vs H Q _ => ∃ (b c t : Addr) (n : Int) (ns : List Int), vs = [.ref b, .ref t] ∧ Left H b c n ∧ n < 900000000 ∧ SqL K H t (ns.map V.int) ∧ ns.length ≤ 1000 ∧ (∀ x ∈ ns, 0 ≤ x ∧ x < 8) ∧ ∀ H' l (ms : List Int), H l = none → But b H H' → Left H' b c (n + ns.length) → H' l = some (.lst (ms.map V.int)) → ms.length ≤ ns.length → (∀ x ∈ ms, 0 ≤ x ∧ x < 8) → Q (.ref l) H'
theorem eqv_nil (ns : List Int) : PyData.eqv (.list (ns.map PyData.int)) (.list []) = decide (ns = []) := by
  cases ns with
  | nil => rw [decide_eq_true rfl]; exact eqv_same []
  | cons x r => rw [decide_eq_false (fun z => nomatch z)]; rfl
theorem erase_map : ∀ (rs : List Int) (j : Nat), (rs.map V.int).eraseIdx j = (rs.eraseIdx j).map V.int
  | [], _ => rfl
  | _ :: _, 0 => rfl
  | x :: r, j + 1 => by
    show V.int x :: (r.map V.int).eraseIdx j = V.int x :: (r.eraseIdx j).map V.int
    rw [erase_map r j]
theorem but_none {b p : Addr} {H H' : Hp} (t : But b H H') (h : H' p = none) (n : p ≠ b) : H p = none := by
  cases e : H p with
  | none => rfl
  | some o =>
    rw [t _ _ n e] at h
    cases h
theorem ok__law_shuffled {f : Addr} {fd : FuncData} (F : Fun K "_law_shuffled" "_law_shuffled" s__law_shuffled f fd) (g : mg "_law_shuffled" = some (.ref f)) (bd : Binds K fd ["_law_left", "_law_things"] []) (m_list : mg "list" = none) (m_len : mg "len" = none) (C__law_pick : CF P w K mg base 2 "_law_pick" ["_law_left", "_law_many"] (sp__law_pick K)) : CF P w K mg base 3 "_law_shuffled" ["_law_left", "_law_things"] (sp__law_shuffled K) := by
  refine ⟨f, fd, F.ok sc__law_shuffled (fun vs H Q E h => ?_) (fun cdv A outer s H vs Q E hr h => ?_), g, F.kp, bd⟩
  · first | (obtain ⟨_, rfl, _⟩ := h; rfl) | (obtain ⟨_, _, rfl, _⟩ := h; rfl) | (obtain ⟨_, _, _, rfl, _⟩ := h; rfl) | (obtain ⟨_, _, _, _, rfl, _⟩ := h; rfl) | (obtain ⟨_, _, _, _, _, rfl, _⟩ := h; rfl) | (obtain ⟨_, _, _, _, _, _, rfl, _⟩ := h; rfl) | (obtain ⟨_, _, _, _, _, _, _, rfl, _⟩ := h; rfl) | (obtain ⟨_, _, _, _, _, _, _, _, rfl, _⟩ := h; rfl) | (obtain ⟨_, _, _, _, _, _, _, _, _, rfl, _⟩ := h; rfl) | (obtain ⟨_, _, _, _, _, _, _, _, _, _, rfl, _⟩ := h; rfl) | (obtain ⟨_, _, _, _, _, _, _, _, _, _, _, rfl, _⟩ := h; rfl) | (obtain ⟨_, _, _, _, _, _, _, _, _, _, _, _, rfl, _⟩ := h; rfl) | (obtain ⟨_, _, _, _, _, _, _, _, _, _, _, _, _, rfl, _⟩ := h; rfl) | (obtain ⟨_, _, _, _, _, _, _, _, _, _, _, _, _, _, rfl, _⟩ := h; rfl) | (obtain ⟨_, _, _, _, _, _, _, _, _, _, _, _, _, _, _, rfl, _⟩ := h; rfl)
  · have hu64 := hr.units
    obtain ⟨b, c, t, n, ns, rfl, L0, hn, hT, hl, h8, q⟩ := h
    refine ⟨_, (pss_cons (ps_par (i := 2) (j := 3) (by rfl) sc__law_shuffled.nd rfl rfl (by decide) rfl rfl (pa_cons (pe_callTy (kk_list K) (by rfl) m_list (by decide +kernel) (pa_cons (pv 1) pa_nil)) (pa_cons (pe_lst pa_nil) pa_nil)) (by rfl))
      (pss_cons (ps_while PassesOwn.never (pt_cmpR (kk_neD K hu64) (pv 2) (pe_lst pa_nil) (nomark _))
         (pss_one (ps_expr (pe_bm PySem.F.plainAttrs_list PySem.F.slot_list_append PySem.F.type_list_append mt_append (pv 3) (pa_cons (pe_bm PySem.F.plainAttrs_list PySem.F.slot_list_pop PySem.F.type_list_pop mt_popAt (pv 2) (pa_cons (pe_cf C__law_pick (hr.mono (by decide)) (by rfl) (pa_cons (pv 0) (pa_cons (pe_callB (kk_len K) (by rfl) m_len PySem.boot_len (pa_cons (pv 2) pa_nil)) pa_nil))) pa_nil)) pa_nil)))))
      (pss_one (ps_ret (pv 3))))), ?_⟩
    refine ⟨_, rfl, t, _, rfl, .inl hT, fun r nr => ⟨(by show 0 ≤ sizeLine; decide), fun fo nf => ⟨_, _, rfl, ?_⟩⟩⟩
    have sr := same_new (o := .lst (ns.map V.int)) nr
    have sf := same_new (o := .lst []) nf
    have rf : fo ≠ r := fun z => by
      rw [z, upd_same] at nf
      cases nf
    refine ⟨fun m σ G => ∃ (rs fs : List Int), m = rs.length ∧ σ = [some (.ref b), some (.ref t), some (.ref r), some (.ref fo)] ∧ G r = some (.lst (rs.map V.int)) ∧ G fo = some (.lst (fs.map V.int)) ∧ Left G b c (n + fs.length) ∧ But b H G ∧ rs.length + fs.length = ns.length ∧ (∀ x ∈ rs, 0 ≤ x ∧ x < 8) ∧ (∀ x ∈ fs, 0 ≤ x ∧ x < 8), ⟨_, ns, [], rfl, rfl, sf _ _ upd_same, upd_same, ?_, ?_, ?_, h8, fun x hx => nomatch hx⟩, fun m σ G hW => ?_⟩
    · have L2' := (L0.new nr (o := .lst (ns.map V.int))).new nf (o := .lst [])
      exact L2'.mono (by simp)
    · exact (But.of sr).trans (But.of sf)
    · simp
    obtain ⟨rs, fs, rfl, rfl, hr1, hf1, L1, t1, hs, r8, f8⟩ := hW
    refine ⟨_, rfl, (by show 0 ≤ sizeLine; decide), fun e ne => ?_⟩
    have se := same_new (o := .lst []) ne
    have hr2 := se _ _ hr1
    have hf2 := se _ _ hf1
    refine ⟨.list (rs.map PyData.int), .list [], dp_ints (SqL.of hr2), dp_ints (ns := []) (SqL.of upd_same), sh_ints rs, sh_ints [], _, rfl, ?_⟩
    have L2' := L1.new ne (o := .lst [])
    have t2 := t1.trans (But.of (b := b) se)
    generalize upd G e (.lst []) = G2 at *
    rw [eqv_nil]
    by_cases hz : rs = []
    · rw [decide_eq_true hz]
      refine iteF ⟨_, rfl, q _ fo fs (none_of sr nf) t2 (L2'.mono (by rw [hz] at hs; simp at hs; omega)) hf2 (by omega) f8⟩
    · rw [decide_eq_false hz]
      have hp : 0 < rs.length := List.length_pos_iff.mpr hz
      refine iteT ⟨_, fun σ' H' h => h, _, rfl, .inl ⟨rfl, _, SqL.of hf2⟩, _, rfl, .inl ⟨rfl, _, SqL.of hr2⟩, _, rfl, _, rfl, r, _, rfl, .inl (SqL.of hr2), b, c, _, _, rfl, L2', ?_, ?_, by omega, fun k G3 k0 k1 L3 t3 => ?_⟩
      · show 0 < ((rs.map V.int).length : Int)
        rw [List.length_map]
        omega
      · show ((rs.map V.int).length : Int) < 1073741824
        rw [List.length_map]
        omega
      have rb := L0.ne nr
      have fb := (L0.new nr (o := .lst (ns.map V.int))).ne nf
      have rc := L0.ne2 nr
      have fc := (L0.new nr (o := .lst (ns.map V.int))).ne2 nf
      have hr3 := t3 _ _ rb hr2
      have hf3 := t3 _ _ fb hf2
      obtain ⟨j, rfl⟩ := Int.eq_ofNat_of_zero_le k0
      have hj : j < rs.length := by
        have : ((rs.map V.int).length : Int) = rs.length := by rw [List.length_map]
        omega
      refine ⟨r, _, _, j, .int rs[j], rfl, rfl, hr3, by omega, by omega, ?_, ?_, ?_⟩
      · have e0 : ¬ ((j : Int) < 0) := by omega
        unfold seqIndex?
        simp only [e0, if_false, List.length_map]
        rw [if_pos (by rw [Bool.and_eq_true]; exact ⟨decide_eq_true (by omega), decide_eq_true (by omega)⟩)]
        rfl
      · rw [List.getElem?_map, List.getElem?_eq_getElem hj]
        rfl
      rw [show (rs.map V.int).eraseIdx j = (rs.eraseIdx j).map V.int from erase_map rs j]
      have hlen := List.length_eraseIdx_of_lt hj
      refine ⟨fo, _, _, rfl, rfl, (by rw [upd_ne rf]; exact hf3), (by rw [List.length_map]; exact small1000 (by omega)), ?_⟩
      rw [show fs.map V.int ++ [V.int rs[j]] = (fs ++ [rs[j]]).map V.int from by rw [List.map_append]; rfl]
      refine ⟨_, ?_, rs.eraseIdx j, fs ++ [rs[j]], rfl, rfl, (by rw [upd_ne rf.symm, upd_same]), upd_same, ?_, ?_, ?_, ?_, ?_⟩
      · rw [hlen]; omega
      · have L4 := (L3.upd (o := .lst ((rs.eraseIdx j).map V.int)) rb rc).upd (o := .lst ((fs ++ [rs[j]]).map V.int)) fb fc
        exact L4.mono (by simp only [List.length_append, List.length_singleton]; omega)
      · intro d o nd h
        have e1 : d ≠ r := fun z => by rw [z, nr] at h; cases h
        have e2 : d ≠ fo := fun z => by rw [z, none_of sr nf] at h; cases h
        rw [upd_ne e2, upd_ne e1]
        exact (t2.trans t3) d o nd h
      · rw [hlen]; simp only [List.length_append, List.length_singleton]; omega
      · intro x hx
        exact r8 x (List.mem_of_mem_eraseIdx hx)
      · intro x hx
        rcases List.mem_append.mp hx with hx | hx
        · exact f8 x hx
        · cases List.mem_singleton.mp hx
          exact r8 _ (List.getElem_mem hj)
/-! ### law -/
abbrev s_law : Stmt := topS 23
abbrev N_law : List Str := ["_law_script", "_law_words", "_law_k", "_law_left", "_law_made", "_law_which", "_law_number", "_law_sign", "_law_error", "_law_one", "_law_due"]
theorem sc_law : FnScope N_law ["_law_script"] (defScope s_law) := ⟨rfl, rfl, rfl, by decide +kernel, rfl, by decide +kernel, by decide +kernel⟩
def sp_law (K : PySem.W.Frag) : Sp := fun vs H Q _ => ∃ (a : Addr) (ns : List Int), vs = [.ref a] ∧ SqL K H a (ns.map V.int) ∧ ns.length ≤ 63 ∧ ∀ H', Q (.bl true) H'
theorem at_str12 {ws : List Str} {k : Int} (h0 : 0 ≤ k) (h1 : k < ws.length) : ∃ s, atI (ws.map V.str) k = some (.str s) := by
  obtain ⟨j, rfl⟩ := Int.eq_ofNat_of_zero_le h0
  have hj : j < ws.length := by omega
  refine ⟨ws[j], atI_nat ?_⟩
  rw [List.getElem?_map, List.getElem?_eq_getElem hj]
  rfl
def kdD (i : Nat) : List PyData := (List.range 8).map fun j => PyData.bool (decide (i = j))
theorem kd_sh {i : Nat} (hi : i < 8) : SeqAt.shaped (.list (kdD i)) = true := by
  rcases lt8 hi with rfl | rfl | rfl | rfl | rfl | rfl | rfl | rfl <;> decide +kernel
theorem kd_dp {K : PySem.W.Frag} {H : Hp} {l : Addr} {i : Nat} (h : SqL K H l ((List.range 8).map fun j => V.bl (decide (i = j)))) : Dp K H (.ref l) (.list (kdD i)) :=
  .lst h (.cons (.bl _) (.cons (.bl _) (.cons (.bl _) (.cons (.bl _) (.cons (.bl _) (.cons (.bl _) (.cons (.bl _) (.cons (.bl _) .nil))))))))
/-- all but lists stay -/
def NL (H H' : Hp) : Prop := ∀ c o, (∀ xs, o ≠ .lst xs) → H c = some o → H' c = some o
theorem NL.of {H H' : Hp} (s : Same H H') : NL H H' := fun c o _ e => s c o e
theorem NL.but {H H' : Hp} {b : Addr} {xs : List V} (hb : H b = some (.lst xs)) (t : But b H H') : NL H H' := fun c o n e => t c o (fun z => by
  rw [z, hb] at e
  exact n xs (Option.some.inj e).symm) e
theorem ErAt.nl {H H' : Hp} {a D : Addr} {fs : List (Str × V)} (h : ErAt H a D fs) (s : NL H H') : ErAt H' a D fs := by
  cases h with
  | own h hd => exact .own (s _ _ (fun _ z => nomatch z) h) (s _ _ (fun _ z => nomatch z) hd)
  | bare h => exact .bare (s _ _ (fun _ z => nomatch z) h)
  | cgt h hd => exact .cgt (s _ _ (fun _ z => nomatch z) h) (s _ _ (fun _ z => nomatch z) hd)
  | cgt0 h => exact .cgt0 (s _ _ (fun _ z => nomatch z) h)
/-- one refusal made by hand, with what it was made of -/
def Mde (C : C8) (H : Hp) (p : Addr) : Prop := ∃ (e : Addr) (i : Nat) (n : Int) (s : Str), H p = some (.tup [.ref e, .int i, .int n, .str s]) ∧ i < 8 ∧ ErAt H e (C.c i) (fl8 i n s)
theorem Mde.nl {C : C8} {H H' : Hp} {p : Addr} (h : Mde C H p) (s : NL H H') : Mde C H' p := by
  obtain ⟨e, i, n, t, h1, h2, h3⟩ := h
  exact ⟨e, i, n, t, s _ _ (fun _ z => nomatch z) h1, h2, h3.nl s⟩
structure J97 (C : C8) (Hw : Hp) (b c md sh : Addr) (ms : List Int) (G : Hp) (N : Int) (ps : List Addr) : Prop where
  sm : Same Hw G
  lf : Left G b c N
  mds : G md = some (.lst (ps.map V.ref))
  shs : G sh = some (.lst (ms.map V.int))
  all : ∀ p ∈ ps, Mde C G p
section
variable {C : C8} {Hw G G' : Hp} {b c md sh : Addr} {ms : List Int} {N N' : Int} {ps : List Addr}
theorem J97.same (h : J97 C Hw b c md sh ms G N ps) (s : Same G G') : J97 C Hw b c md sh ms G' N ps := ⟨h.sm.trans s, h.lf.same s, s _ _ h.mds, s _ _ h.shs, fun p hp => (h.all p hp).nl (NL.of s)⟩
theorem J97.pick (h : J97 C Hw b c md sh ms G N ps) (nb : Hw b = none) (e1 : md ≠ b) (e2 : sh ≠ b) (t : But b G G') (l : Left G' b c N') : J97 C Hw b c md sh ms G' N' ps := by
  refine ⟨same_but h.sm nb t, l, t _ _ e1 h.mds, t _ _ e2 h.shs, fun p hp => ?_⟩
  obtain ⟨_, _, _, hb, _⟩ := h.lf
  exact (h.all p hp).nl (NL.but hb t)
theorem J97.app (h : J97 C Hw b c md sh ms G N ps) (nm : Hw md = none) (e1 : md ≠ b) (e2 : md ≠ c) (e3 : sh ≠ md) {p : Addr} (hp : Mde C G p) : J97 C Hw b c md sh ms (upd G md (.lst ((ps ++ [p]).map V.ref))) N (ps ++ [p]) := by
  have nl : NL G (upd G md (.lst ((ps ++ [p]).map V.ref))) := NL.but h.mds But.upd
  refine ⟨fun d o e => ?_, h.lf.upd e1 e2, upd_same, (by rw [upd_ne e3]; exact h.shs), fun x hx => ?_⟩
  · rw [upd_ne (ne_of_none e nm)]
    exact h.sm _ _ e
  · rcases List.mem_append.mp hx with hx | hx
    · exact (h.all x hx).nl nl
    · cases List.mem_singleton.mp hx
      exact hp.nl nl
end
theorem ok_law {f : Addr} {fd : FuncData} (F : Fun K "law" "law" s_law f fd) {CC : C8} (TE : T8 K mg CC) (X0 : CEv P w K mg base CC.c0 1 "BadRule" "word") (X1 : CEv P w K mg base CC.c1 1 "BadClause" "place") (X2 : CEv P w K mg base CC.c2 1 "BadRow" "row") (m_range : mg "range" = none) (m_min : mg "min" = none) (m_len : mg "len" = none) (m_list : mg "list" = none) (m_isinstance : mg "isinstance" = none) (m_LookupError : mg "LookupError" = none) (m_ValueError : mg "ValueError" = none) (C__law_drawn_from : CF P w K mg base 1 "_law_drawn_from" ["_law_script", "_law_k"] (sp__law_drawn_from K)) (C__law_shuffled : CF P w K mg base 3 "_law_shuffled" ["_law_left", "_law_things"] (sp__law_shuffled K)) (C__law_pick : CF P w K mg base 2 "_law_pick" ["_law_left", "_law_many"] (sp__law_pick K)) (C__law_refusal : CF P w K mg base 3 "_law_refusal" ["_law_which", "_law_number", "_law_sign", "_law_by_name"] (sp__law_refusal K CC)) (C__law_caught_falling : CF P w K mg base 4 "_law_caught_falling" ["_law_which", "_law_number", "_law_sign"] (sp__law_caught_falling K CC)) (C__law_caught_rising : CF P w K mg base 4 "_law_caught_rising" ["_law_which", "_law_number", "_law_sign"] (sp__law_caught_rising K CC)) (C__law_caught_by_parent : CF P w K mg base 4 "_law_caught_by_parent" ["_law_which", "_law_number", "_law_sign"] (sp__law_caught_by_parent K CC)) (C__law_kinds : CF P w K mg base 1 "_law_kinds" ["_law_error"] (sp__law_kinds K CC)) (C__law_same : CF P w K mg base 6 "_law_same" ["_law_found", "_law_due"] (sp__law_same K)) (C__law_fields : CF P w K mg base 1 "_law_fields" ["_law_error", "_law_which"] (sp__law_fields K CC)) : FnOk P w K mg base CX0 7 f fd ["_law_script"] (sp_law K) := by
  refine F.ok sc_law (fun vs H Q E h => ?_) (fun cdv A outer s H vs Q E hr h => ?_)
  · first | (obtain ⟨_, rfl, _⟩ := h; rfl) | (obtain ⟨_, _, rfl, _⟩ := h; rfl) | (obtain ⟨_, _, _, rfl, _⟩ := h; rfl) | (obtain ⟨_, _, _, _, rfl, _⟩ := h; rfl) | (obtain ⟨_, _, _, _, _, rfl, _⟩ := h; rfl) | (obtain ⟨_, _, _, _, _, _, rfl, _⟩ := h; rfl) | (obtain ⟨_, _, _, _, _, _, _, rfl, _⟩ := h; rfl) | (obtain ⟨_, _, _, _, _, _, _, _, rfl, _⟩ := h; rfl) | (obtain ⟨_, _, _, _, _, _, _, _, _, rfl, _⟩ := h; rfl) | (obtain ⟨_, _, _, _, _, _, _, _, _, _, rfl, _⟩ := h; rfl) | (obtain ⟨_, _, _, _, _, _, _, _, _, _, _, rfl, _⟩ := h; rfl) | (obtain ⟨_, _, _, _, _, _, _, _, _, _, _, _, rfl, _⟩ := h; rfl) | (obtain ⟨_, _, _, _, _, _, _, _, _, _, _, _, _, rfl, _⟩ := h; rfl) | (obtain ⟨_, _, _, _, _, _, _, _, _, _, _, _, _, _, rfl, _⟩ := h; rfl) | (obtain ⟨_, _, _, _, _, _, _, _, _, _, _, _, _, _, _, rfl, _⟩ := h; rfl)
  · have hu64 := hr.units
    obtain ⟨a, ns, rfl, hS, hlen, q⟩ := h
    refine ⟨_, (pss_cons (ps_set (i := 1) sc_law.nd rfl (.inl rfl) (pe_split pe_str pe_str))
      (pss_cons (ps_for PassesOwn.never rfl (pi_range1 (by rfl) m_range (pa_cons (pe_op op_add pe_int (pe_callB (call_min2 rfl) (by rfl) m_min (by decide +kernel) (pa_cons pe_int (pa_cons (pe_callB (kk_len K) (by rfl) m_len PySem.boot_len (pa_cons (pv 0) pa_nil)) pa_nil)))) pa_nil)) (pg_name (i := 2) sc_law.nd rfl (.inl rfl))
         (pss_cons (ps_set (i := 3) sc_law.nd rfl (.inl rfl) (pe_cf C__law_drawn_from (hr.mono (by decide)) (by rfl) (pa_cons (pv 0) (pa_cons (pv 2) pa_nil))))
          (pss_cons (ps_set (i := 4) sc_law.nd rfl (.inl rfl) (pe_lst pa_nil))
          (pss_cons (ps_for PassesOwn.never rfl (pi_list (pe_cf C__law_shuffled (hr.mono (by decide)) (by rfl) (pa_cons (pv 3) (pa_cons (pe_op op_cat (pe_listRg rfl (by rfl) m_list (prg_1 (by rfl) m_range pe_int)) (pe_listRg rfl (by rfl) m_list (prg_1 (by rfl) m_range pe_int))) pa_nil)))) (pg_name (i := 5) sc_law.nd rfl (.inr rfl))
             (pss_cons (ps_par (i := 6) (j := 7) (by rfl) sc_law.nd rfl rfl (by decide) rfl rfl (pa_cons (pe_ix (kk_ixl K) (pe_lst (pa_cons pe_int (pa_cons (pe_cf C__law_pick (hr.mono (by decide)) (by rfl) (pa_cons (pv 3) (pa_cons pe_int pa_nil))) (pa_cons (pe_cf C__law_pick (hr.mono (by decide)) (by rfl) (pa_cons (pv 3) (pa_cons pe_int pa_nil))) pa_nil)))) (pe_cf C__law_pick (hr.mono (by decide)) (by rfl) (pa_cons (pv 3) (pa_cons pe_int pa_nil))) (fun _ _ => rfl)) (pa_cons (pe_ix (kk_ixl K) (pv 1) (pe_cf C__law_pick (hr.mono (by decide)) (by rfl) (pa_cons (pv 3) (pa_cons pe_int pa_nil))) (fun _ _ => rfl)) pa_nil)) (by rfl))
              (pss_cons (ps_expr (pe_bm PySem.F.plainAttrs_list PySem.F.slot_list_append PySem.F.type_list_append mt_append (pv 4) (pa_cons (pe_tup (pa_cons (pe_cf C__law_refusal (hr.mono (by decide)) (by rfl) (pa_cons (pv 5) (pa_cons (pv 6) (pa_cons (pv 7) (pa_cons (pe_cmpR op_eq (pe_op op_mod (pe_callB (kk_len K) (by rfl) m_len PySem.boot_len (pa_cons (pv 4) pa_nil)) pe_int) pe_int (nomark _)) pa_nil))))) (pa_cons (pv 5) (pa_cons (pv 6) (pa_cons (pv 7) pa_nil))))) pa_nil)))
              (pss_cons (ps_if (pt_cmpR (kk_neD K hu64) (pe_lst (pa_cons (pe_cf C__law_caught_rising (hr.mono (by decide)) (by rfl) (pa_cons (pv 5) (pa_cons (pv 6) (pa_cons (pv 7) pa_nil)))) (pa_cons (pe_cf C__law_caught_falling (hr.mono (by decide)) (by rfl) (pa_cons (pv 5) (pa_cons (pv 6) (pa_cons (pv 7) pa_nil)))) pa_nil))) (pe_lst (pa_cons (pv 5) (pa_cons (pv 5) pa_nil))) (nomark _))
                 (pss_one (ps_ret pe_bl))
                 pss_nil)
              (pss_one (ps_if (pt_cmpR op_ne (pe_cf C__law_caught_by_parent (hr.mono (by decide)) (by rfl) (pa_cons (pv 5) (pa_cons (pv 6) (pa_cons (pv 7) pa_nil)))) (pv 5) (nomark _))
                 (pss_one (ps_ret pe_bl))
                 pss_nil))))))
          (pss_one (ps_for PassesOwn.never rfl (pi_list (pe_op op_cat (pv 4) (kk_revL K (pv 4)))) (pg_tup (by rfl) (pgs_cons (pg_name (i := 8) sc_law.nd rfl (.inl rfl)) (pgs_cons (pg_name (i := 5) sc_law.nd rfl (.inr rfl)) (pgs_cons (pg_name (i := 6) sc_law.nd rfl (.inl rfl)) (pgs_cons (pg_name (i := 7) sc_law.nd rfl (.inl rfl)) pgs_nil)))))
             (pss_cons (ps_if (PW.pt (pw_or (pt_not (pt_val (pe_callB (kk_isEa K) (by rfl) m_isinstance (by decide +kernel) (pa_cons (pv 8) (pa_cons (pe_glob (v := .ref CC.w) (by rfl) TE.gw rfl) pa_nil))))) (pw_or (pt_not (pt_val (pe_callB (kk_isEa K) (by rfl) m_isinstance (by decide +kernel) (pa_cons (pv 8) (pa_cons (pe_bltn (v := .ty "ValueError") (by rfl) m_ValueError (by decide +kernel) rfl) pa_nil))))) (pw_or1 (pt_val (pe_callB (kk_isEa K) (by rfl) m_isinstance (by decide +kernel) (pa_cons (pv 8) (pa_cons (pe_bltn (v := .ty "LookupError") (by rfl) m_LookupError (by decide +kernel) rfl) pa_nil))))))))
                 (pss_one (ps_ret pe_bl))
                 pss_nil)
              (pss_cons (ps_if (pt_cmpR (kk_neD K hu64) (pe_cf C__law_kinds (hr.mono (by decide)) (by rfl) (pa_cons (pv 8) pa_nil)) (pe_lc (own := [("_law_one", 9)]) (g := (gName 9)) (tt := tYes) rfl sc_law.nd (pi_range1 (by rfl) m_range (pa_cons pe_int pa_nil)) (blkOk_by (own := [("_law_one", 9)]) (N := N_law) (sc := defScope s_law) (by decide +kernel)) (fun _ _ _ _ _ => pg_name (i := 9) sc_law.nd rfl (Or.inl rfl)) (fun _ _ _ _ _ => pts_nil) (fun _ _ _ _ _ => (pe_cmpR op_eq (pv 9) (pv 5) (nomark _)))) (nomark _))
                 (pss_one (ps_ret pe_bl))
                 pss_nil)
              (pss_cons (ps_set (i := 10) sc_law.nd rfl (.inl rfl) (pe_ifExp (pt_cmpR op_eq (pv 5) pe_int (nomark _)) (pv 7) (pv 6)))
              (pss_one (ps_if (PW.pt (pw_and (pt_cmpR op_lt (pv 5) pe_int (nomark _)) (pw_and1 (pt_not (pt_val (pe_cf C__law_same (hr.mono (by decide)) (by rfl) (pa_cons (pe_cf C__law_fields (hr.mono (by decide)) (by rfl) (pa_cons (pv 8) (pa_cons (pv 5) pa_nil))) (pa_cons (pv 10) pa_nil))))))))
                 (pss_one (ps_ret pe_bl))
                 pss_nil)))))))))))
      (pss_one (ps_ret pe_bl)))), ?_⟩
    refine ⟨⟨_, rfl⟩, _, _, rfl, rfl, rfl, (by decide +kernel), fun wd nw => ?_⟩
    have sw := same_new (o := .lst ((Txt.split (Str.ofString "parts step grace last misses keep fine falls back word place row") (Str.ofString " ")).map V.str)) nw
    have hw := upd_same (H := H) (a := wd) (o := .lst ((Txt.split (Str.ofString "parts step grace last misses keep fine falls back word place row") (Str.ofString " ")).map V.str))
    have h12 : (Txt.split (Str.ofString "parts step grace last misses keep fine falls back word place row") (Str.ofString " ")).length = 12 := by decide +kernel
    generalize Txt.split (Str.ofString "parts step grace last misses keep fine falls back word place row") (Str.ofString " ") = ws at *
    generalize upd H wd (.lst (ws.map V.str)) = Hw at *
    have hS := sw.seq hS
    refine ⟨_, rfl, a, _, rfl, .inl hS, _, _, rfl, _, _, rfl, rfl, _, rfl, ?_, ?_, for_range (fun i σ H' => ∃ s2 s3 s4 s5 s6 s7 s8 s9 s10, σ = [some (.ref a), some (.ref wd), s2, s3, s4, s5, s6, s7, s8, s9, s10] ∧ Same Hw H') ⟨_, _, _, _, _, _, _, _, _, rfl, Same.refl Hw⟩ (fun i σ H' hi h => ?_) (fun σ H' h => ?_)⟩
    · split <;> omega
    · split <;> omega
    · obtain ⟨s2, s3, s4, s5, s6, s7, s8, s9, s10, rfl, sm⟩ := h
      have hi7 : i < 7 := by
        split at hi <;> omega
      refine ⟨_, rfl, _, rfl, a, _, ns, rfl, sm.seq hS, hlen, by omega, by omega, fun H1 b c nb nc sa L1 => ?_⟩
      refine ⟨(by show 0 ≤ sizeLine; decide), fun md nmd => ?_⟩
      have sd := same_new (o := .lst []) nmd
      refine ⟨_, rfl, _, rfl, RgOk.of_le (by decide) (by decide) (by decide) (by decide), fun q1 n1 => ⟨_, rfl, RgOk.of_le (by decide) (by decide) (by decide) (by decide), fun q2 n2 => ⟨q1, q2, _, _, rfl, rfl, same_new n2 _ _ upd_same, upd_same, ?_, fun q3 n3 => ?_⟩⟩⟩
      · show 8 + 8 ≤ sizeLine
        decide
      have mb := L1.ne nmd
      have mc := L1.ne2 nmd
      have hmd := upd_same (H := H1) (a := md) (o := .lst [])
      have L2' := ((L1.same sd).same (same_new (o := .lst (rgV 0 8)) n1)).same (same_new (o := .lst (rgV 0 8)) n2)
      have L3 := L2'.same (same_new (o := .lst (rgV 0 8 ++ rgV 0 8)) n3)
      have s3' := ((sd.trans (same_new (o := .lst (rgV 0 8)) n1)).trans (same_new (o := .lst (rgV 0 8)) n2)).trans (same_new (o := .lst (rgV 0 8 ++ rgV 0 8)) n3)
      have hm3 := ((same_new (o := .lst (rgV 0 8)) n1).trans (same_new (o := .lst (rgV 0 8)) n2)).trans (same_new (o := .lst (rgV 0 8 ++ rgV 0 8)) n3) _ _ hmd
      have hq3 := upd_same (H := upd (upd (upd H1 md (.lst [])) q1 (.lst (rgV 0 8))) q2 (.lst (rgV 0 8))) (a := q3) (o := .lst (rgV 0 8 ++ rgV 0 8))
      generalize upd (upd (upd (upd H1 md (.lst [])) q1 (.lst (rgV 0 8))) q2 (.lst (rgV 0 8))) q3 (.lst (rgV 0 8 ++ rgV 0 8)) = H3 at *
      rw [show rgV 0 8 ++ rgV 0 8 = ([0, 1, 2, 3, 4, 5, 6, 7, 0, 1, 2, 3, 4, 5, 6, 7] : List Int).map V.int from rfl] at hq3
      refine ⟨b, c, q3, _, _, rfl, L3, by omega, SqL.of hq3, by decide, by decide, fun H4 sh ms nsh t4 L4 hsh hml h8 => ?_⟩
      have shb := L3.ne nsh
      have shm : sh ≠ md := fun z => by
        rw [z, hm3] at nsh
        cases nsh
      have nbw : Hw b = none := none_of sm nb
      have nmw : Hw md = none := none_of (sm.trans sa) nmd
      have s14 : Same Hw H4 := same_but (sm.trans (sa.trans s3')) nbw t4
      have j0 : J97 CC Hw b c md sh ms H4 (1009 * (0 + (i : Int)) + 16 + 4 * ((0 : Nat) : Int)) [] := ⟨s14, L4.mono (by show (1009 * (0 + (i : Int)) + 16 : Int) ≤ _; omega), t4 _ _ mb hm3, hsh, fun p hp => nomatch hp⟩
      refine ⟨sh, rfl, ⟨_, SqL.of hsh⟩, for_list (K := K) (a := sh) (xs := ms.map V.int) (fun j σ G => ∃ (ps : List Addr) (s5 s6 s7 s8 s9 s10 : Option V), σ = [some (.ref a), some (.ref wd), some (.int (0 + i)), some (.ref b), some (.ref md), s5, s6, s7, s8, s9, s10] ∧ ps.length = j ∧ J97 CC Hw b c md sh ms G (1009 * (0 + (i : Int)) + 16 + 4 * j) ps) ⟨[], _, _, _, _, _, _, rfl, rfl, j0⟩ (fun j σ G hj h => SqL.of h.choose_spec.choose_spec.choose_spec.choose_spec.choose_spec.choose_spec.choose_spec.2.2.shs) (fun j x σ G hx h => ?_) (fun σ G h => ?_)⟩
      · obtain ⟨ps, s5, s6, s7, s8, s9, s10, rfl, hpl, j1⟩ := h
        obtain ⟨v, rfl, hv⟩ : ∃ v : Int, x = .int v ∧ v ∈ ms := by
          rw [List.getElem?_map] at hx
          cases e : ms[j]? with
          | none => rw [e] at hx; cases hx
          | some v =>
            rw [e] at hx
            exact ⟨v, (Option.some.inj hx).symm, List.mem_of_getElem? e⟩
        have hjl : j < ms.length := by
          obtain ⟨h1, _⟩ := List.getElem?_eq_some_iff.mp hx
          rw [List.length_map] at h1
          exact h1
        have hml : ms.length ≤ 16 := hml
        obtain ⟨v0, v8⟩ := h8 v hv
        obtain ⟨k, rfl⟩ := Int.eq_ofNat_of_zero_le v0
        have hk : k < 8 := by omega
        refine ⟨_, rfl, b, c, _, _, rfl, j1.lf, by decide, by decide, by omega, fun r1 G1 a0 a1 l1 t1 => ?_⟩
        have j2 := j1.pick nbw mb shb t1 l1
        refine ⟨_, rfl, b, c, _, _, rfl, j2.lf, by decide, by decide, by omega, fun r2 G2 b0 b1 l2 t2 => ?_⟩
        have j3 := j2.pick nbw mb shb t2 l2
        refine ⟨(by show 3 ≤ sizeLine; decide), fun p3 np3 => ?_⟩
        have j4 := j3.same (same_new (o := .lst [V.int 0, V.int r1, V.int r2]) np3)
        have hp3 := upd_same (H := G2) (a := p3) (o := .lst [V.int 0, V.int r1, V.int r2])
        have p3b := l2.ne np3
        generalize upd G2 p3 (.lst [V.int 0, V.int r1, V.int r2]) = G3 at *
        refine ⟨_, rfl, b, c, _, _, rfl, j4.lf, by decide, by decide, by omega, fun r3 G4 c0 c1 l4 t4' => ?_⟩
        have j5 := j4.pick nbw mb shb t4' l4
        obtain ⟨nu, hnu, _, _⟩ := pick3i (x := 0) (y := r1) (z := r2) (lo := 0) (hi := 200) c0 c1 ⟨by decide, by decide⟩ ⟨a0, by omega⟩ ⟨b0, by omega⟩
        refine ⟨p3, _, _, _, rfl, rfl, SqL.of (t4' _ _ p3b hp3), hnu, ?_⟩
        refine ⟨_, rfl, _, rfl, b, c, _, _, rfl, j5.lf, by decide, by decide, by omega, fun r4 G5 d0 d1 l5 t5 => ?_⟩
        have j6 := j5.pick nbw mb shb t5 l5
        obtain ⟨sg, hsg⟩ := at_str12 (ws := ws) d0 (by rw [h12]; exact d1)
        refine ⟨wd, _, _, _, rfl, rfl, SqL.of (j6.sm _ _ hw), hsg, _, _, rfl, ?_⟩
        refine ⟨_, rfl, .inl ⟨rfl, _, SqL.of j6.mds⟩, _, rfl, _, rfl, _, rfl, _, rfl, md, _, rfl, .inl (SqL.of j6.mds), _, _, rfl, rfl, (show (0 : Int) < 2 by decide), ?_⟩
        refine ⟨rfl, k, nu, sg, _, rfl, hk, fun G6 er ner s6' hE => ?_⟩
        refine ⟨_, rfl, _, rfl, _, rfl, (by show 4 ≤ sizeLine; decide), fun tp ntp => ?_⟩
        have j7 := (j6.same s6').same (same_new (o := .tup [.ref er, .int k, .int nu, .str sg]) ntp)
        have hM : Mde CC (upd G6 tp (.tup [.ref er, .int k, .int nu, .str sg])) tp := ⟨er, k, nu, sg, upd_same, hk, hE.same (same_new ntp)⟩
        have j8 := j7.app nmw mb mc shm hM
        refine ⟨md, _, _, rfl, rfl, j7.mds, ?_, ?_⟩
        · rw [List.length_map]
          exact small1000 (by omega)
        rw [show ps.map V.ref ++ [V.ref tp] = (ps ++ [tp]).map V.ref from by rw [List.map_append]; rfl]
        generalize upd (upd G6 tp (.tup [.ref er, .int k, .int nu, .str sg])) md (.lst ((ps ++ [tp]).map V.ref)) = G7 at *
        refine ⟨_, rfl, _, rfl, _, rfl, k, nu, sg, rfl, hk, fun G8 s8' => ?_⟩
        refine ⟨_, rfl, _, rfl, _, rfl, k, nu, sg, rfl, hk, fun G9 s9' => ⟨(by show 2 ≤ sizeLine; decide), fun u1 nu1 => ?_⟩⟩
        have s10' := same_new (o := .lst [V.int k, V.int k]) nu1
        refine ⟨_, rfl, _, rfl, (by show 2 ≤ sizeLine; decide), fun u2 nu2 => ?_⟩
        have s11 := same_new (o := .lst [V.int k, V.int k]) nu2
        refine ⟨.list (([(k : Int), k] : List Int).map PyData.int), .list (([(k : Int), k] : List Int).map PyData.int), dp_ints (SqL.of (s11 _ _ upd_same)), dp_ints (SqL.of upd_same), sh_ints _, sh_ints _, _, rfl, ?_⟩
        rw [eqv_same]
        refine iteF ⟨_, rfl, _, rfl, _, rfl, k, nu, sg, rfl, hk, fun G10 s12 => ?_⟩
        refine ⟨_, rfl, rfl, _, rfl, ?_⟩
        rw [show (!decide (V.int (k : Int) = V.int (k : Int))) = false from by rw [decide_eq_true rfl]; rfl]
        refine iteF ⟨ps ++ [tp], _, _, _, _, _, _, rfl, ?_, ?_⟩
        · rw [List.length_append, hpl]
          rfl
        · have j9 := j8.same ((((s8'.trans s9').trans s10').trans s11).trans s12)
          exact ⟨j9.sm, j9.lf.mono (by omega), j9.mds, j9.shs, j9.all⟩
      · obtain ⟨ps, s5, s6, s7, s8, s9, s10, rfl, hpl, j1⟩ := h
        have hml : ms.length ≤ 16 := hml
        have hpl : ps.length ≤ 16 := by
          rw [hpl, List.length_map]
          exact hml
        refine ⟨_, rfl, _, rfl, md, _, rfl, SqL.of j1.mds, fun r1 nr1 => ⟨md, r1, _, _, rfl, rfl, same_new nr1 _ _ j1.mds, upd_same, ?_, fun ct nct => ?_⟩⟩
        · simp only [List.length_reverse, List.length_map]
          exact Nat.le_of_lt (small1000 (by omega))
        have s1 := (same_new (o := .lst (ps.map V.ref).reverse) nr1).trans (same_new (o := .lst (ps.map V.ref ++ (ps.map V.ref).reverse)) nct)
        have hct := upd_same (H := upd G r1 (.lst (ps.map V.ref).reverse)) (a := ct) (o := .lst (ps.map V.ref ++ (ps.map V.ref).reverse))
        rw [show ps.map V.ref ++ (ps.map V.ref).reverse = (ps ++ ps.reverse).map V.ref from by rw [List.map_append, List.map_reverse]] at *
        generalize upd (upd G r1 (.lst (ps.map V.ref).reverse)) ct (.lst ((ps ++ ps.reverse).map V.ref)) = G2 at *
        have j2 := j1.same s1
        refine ⟨ct, rfl, ⟨_, SqL.of hct⟩, for_list (K := K) (a := ct) (xs := (ps ++ ps.reverse).map V.ref) (fun j σ F => ∃ (s5 s6 s7 s8 s9 s10 : Option V), σ = [some (.ref a), some (.ref wd), some (.int (0 + i)), some (.ref b), some (.ref md), s5, s6, s7, s8, s9, s10] ∧ Same G2 F) ⟨_, _, _, _, _, _, rfl, Same.refl G2⟩ (fun j σ F hj h => SqL.of (h.choose_spec.choose_spec.choose_spec.choose_spec.choose_spec.choose_spec.2 _ _ hct)) (fun j x σ F hx h => ?_) (fun σ F h => ?_)⟩
        · obtain ⟨s5, s6, s7, s8, s9, s10, rfl, sF⟩ := h
          obtain ⟨p, rfl, hp⟩ : ∃ p : Addr, x = .ref p ∧ p ∈ ps := by
            rw [List.getElem?_map] at hx
            cases e : (ps ++ ps.reverse)[j]? with
            | none => rw [e] at hx; cases hx
            | some v =>
              rw [e] at hx
              have hm := List.mem_of_getElem? e
              simp only [List.mem_append, List.mem_reverse, or_self] at hm
              exact ⟨v, (Option.some.inj hx).symm, hm⟩
          obtain ⟨er, k, nu, sg, htp, hk, hE⟩ := (j2.all p hp).nl (NL.of sF)
          refine ⟨p, _, rfl, SqT.of htp, rfl, _, _, rfl, _, _, rfl, _, _, rfl, _, _, rfl, rfl, ?_⟩
          refine ⟨_, rfl, er, _, _, _, _, true, rfl, TE.ec k hk, hE, (fun u hu => hu), TE.kw k hk, _, rfl, iteF ?_⟩
          refine ⟨_, rfl, er, _, _, _, _, true, rfl, TE.ec k hk, hE, (fun u hu => hu), TE.kv k hk, _, rfl, iteF ?_⟩
          refine ⟨_, rfl, er, _, _, _, _, false, rfl, TE.ec k hk, hE, (fun u hu => hu), TE.kl k hk, _, rfl, iteF ?_⟩
          refine ⟨_, rfl, er, k, _, rfl, hk, hE, fun F1 l nl sl hl => ?_⟩
          refine ⟨_, rfl, by decide, by decide, fun D hD => lc_range (lo := 0) (n := 8) (fun i' F' => Same F1 F' ∧ F' D = some (.lst ((List.range i').map fun j => V.bl (decide (k = j))))) ⟨same_new hD, upd_same⟩ (fun i' F' hi' h => ?_) (fun F2 h => ?_)⟩
          · refine ⟨rfl, _, rfl, _, rfl, rfl, _, h.2, ?_, ?_, ?_⟩
            · rw [List.length_map, List.length_range]
              exact small1000 (by omega)
            · exact fun c o e => by
                rw [upd_ne (ne_of_none e hD)]
                exact h.1 _ _ e
            · rw [upd_same, List.range_succ, List.map_append]
              have e : decide (V.int (0 + (i' : Int)) = V.int (k : Int)) = decide (k = i') := by
                by_cases z : k = i'
                · rw [decide_eq_true z, eqT (by omega)]
                · rw [decide_eq_false z, eqF (by omega)]
              rw [e]
              rfl
          obtain ⟨s12, hD2⟩ := h
          refine ⟨.list (kdD k), .list (kdD k), kd_dp (SqL.of (s12 _ _ hl)), kd_dp (SqL.of hD2), kd_sh hk, kd_sh hk, _, rfl, ?_⟩
          rw [SeqAt.eqv_refl _ (SeqAt.canLay_of_shaped (kd_sh hk))]
          have hE2 := (hE.same sl).same s12
          have sF2 := (sF.trans sl).trans s12
          refine iteF ⟨_, rfl, rfl, _, rfl, ?_⟩
          have fin : ∀ (s5 s6 s7 s8 s9 s10 : Option V) (F3 : Hp), Same F2 F3 → ∃ (t5 t6 t7 t8 t9 t10 : Option V), [some (V.ref a), some (V.ref wd), some (V.int (0 + (i : Int))), some (V.ref b), some (V.ref md), s5, s6, s7, s8, s9, s10] = [some (V.ref a), some (V.ref wd), some (V.int (0 + (i : Int))), some (V.ref b), some (V.ref md), t5, t6, t7, t8, t9, t10] ∧ Same G2 F3 := fun s5 s6 s7 s8 s9 s10 F3 s => ⟨_, _, _, _, _, _, rfl, sF2.trans s⟩
          by_cases k0 : k = 0
          · subst k0
            refine ifY (eqT (by decide)) ⟨_, rfl, ?_⟩
            refine ⟨_, rfl, _, _, rfl, rfl, _, rfl, ifY (by decide) ?_⟩
            refine ⟨_, rfl, _, rfl, er, 0, nu, sg, rfl, by decide, hE2, _, rfl, _, _, .str sg, rfl, .str _, .str _, ?_, ?_, fun F3 s13 => ⟨_, rfl, iteF (fin _ _ _ _ _ _ _ s13)⟩⟩
            · show PyData.depth (.str sg) ≤ 4
              simp [PyData.depth]
            · rfl
          · refine ifN (eqF (by omega)) ⟨_, rfl, ?_⟩
            by_cases k3 : k < 3
            · refine ⟨_, rfl, _, _, rfl, rfl, _, rfl, ifY (decide_eq_true (by show (k : Int) < 3; omega)) ?_⟩
              refine ⟨_, rfl, _, rfl, er, k, nu, sg, rfl, k3, hE2, ?_⟩
              rw [if_neg k0]
              refine ⟨_, rfl, _, _, .int nu, rfl, .int _, .int _, ?_, ?_, fun F3 s13 => ⟨_, rfl, iteF (fin _ _ _ _ _ _ _ s13)⟩⟩
              · show PyData.depth (.int nu) ≤ 4
                simp [PyData.depth]
              · rfl
            · exact ⟨_, rfl, _, _, rfl, rfl, _, rfl, ifN (decide_eq_false (by show ¬ ((k : Int) < 3); omega)) (fin _ _ _ _ _ _ _ (Same.refl _))⟩
        · obtain ⟨s5, s6, s7, s8, s9, s10, rfl, sF⟩ := h
          exact ⟨_, _, _, _, _, _, _, _, _, rfl, j2.sm.trans sF⟩
    · exact q _
end
abbrev s_B0 : Stmt := inClass (topS 2) 0
theorem sc_B0 : NdefX.NScope ["self", "word", "__class__"] ["self", "word"] ["__class__"] (defScope s_B0) := NdefX.nscope_by (by decide +kernel)
abbrev s_B1 : Stmt := inClass (topS 3) 0
theorem sc_B1 : NdefX.NScope ["self", "place", "__class__"] ["self", "place"] ["__class__"] (defScope s_B1) := NdefX.nscope_by (by decide +kernel)
abbrev s_B2 : Stmt := inClass (topS 4) 0
theorem sc_B2 : NdefX.NScope ["self", "row", "__class__"] ["self", "row"] ["__class__"] (defScope s_B2) := NdefX.nscope_by (by decide +kernel)
set_option maxHeartbeats 0 in
theorem all_mk {l : PySem.W.OpenLaw} {w : World} {K : PySem.W.Frag} {h : Heap} {mg : Str → Option Value} {fa f0 f1 f2 f3 f4 f5 f6 f7 f8 f9 f10 f11 f12 CW CE0 CE1 CE2 CE3 CE4 CE5 CE6 CE7 fB0 ccB0 cdB0 NB0 fB1 ccB1 cdB1 NB1 fB2 ccB2 cdB2 NB2 : Addr} (X : K.In h) (G : h.Ns mainGlobals mg) (hfa : mg "law" = some (.ref fa))
    {od0 an0 od1 an1 od2 an2 od3 an3 od4 an4 od5 an5 od6 an6 od7 an7 od8 an8 od9 an9 od10 an10 od11 an11 od12 an12 : Option Addr} {sl0 sl1 sl2 sl3 sl4 sl5 sl6 sl7 sl8 sl9 sl10 sl11 sl12 : Array (Option Value)} {oc0 kV0 dc0 pm0 cd0 ct0 oc1 kV1 dc1 pm1 cd1 ct1 oc2 kV2 dc2 pm2 cd2 ct2 oc3 kV3 dc3 pm3 cd3 ct3 oc4 kV4 dc4 pm4 cd4 ct4 oc5 kV5 dc5 pm5 cd5 ct5 oc6 kV6 dc6 pm6 cd6 ct6 oc7 kV7 dc7 pm7 cd7 ct7 oc8 kV8 dc8 pm8 cd8 ct8 oc9 kV9 dc9 pm9 cd9 ct9 oc10 kV10 dc10 pm10 cd10 ct10 oc11 kV11 dc11 pm11 cd11 ct11 oc12 kV12 dc12 pm12 cd12 ct12 : Value}
    (e_w : PySem.W.nsIn K mainGlobals "WareError" = some (some (.ref CW)))
    (e_0 : PySem.W.nsIn K mainGlobals "BadRule" = some (some (.ref CE0)))
    (e_1 : PySem.W.nsIn K mainGlobals "BadClause" = some (some (.ref CE1)))
    (e_2 : PySem.W.nsIn K mainGlobals "BadRow" = some (some (.ref CE2)))
    (e_3 : PySem.W.nsIn K mainGlobals "NoDay" = some (some (.ref CE3)))
    (e_4 : PySem.W.nsIn K mainGlobals "Idle" = some (some (.ref CE4)))
    (e_5 : PySem.W.nsIn K mainGlobals "NoEntry" = some (some (.ref CE5)))
    (e_6 : PySem.W.nsIn K mainGlobals "NoWare" = some (some (.ref CE6)))
    (e_7 : PySem.W.nsIn K mainGlobals "NoHouse" = some (some (.ref CE7)))
    (e_w_ty : PySem.W.typeIn K (.ref CW) = some (.type "type"))
    (e_w_ic : PySem.W.isClsIn K CW = true)
    (e_w_sb : PySem.W.subIn K (.ref CW) (.type "BaseException") = some true)
    (e_w_hd : PySem.W.hasDictIn K CW = true)
    (e_0_ty : PySem.W.typeIn K (.ref CE0) = some (.type "type"))
    (e_0_ic : PySem.W.isClsIn K CE0 = true)
    (e_0_hg : PySem.W.findIn K (.ref CE0) "__getattribute__" = some (some (.builtin "BaseException.__getattribute__")))
    (e_0_hk : PySem.W.findIn K (.ref CE0) "__getattr__" = some none)
    (e_0_sb : PySem.W.subIn K (.ref CE0) (.type "BaseException") = some true)
    (e_0_hd : PySem.W.hasDictIn K CE0 = true)
    (e_0_ha : PySem.W.findIn K (.ref CE0) "__class__" = some (some (.builtin "object.__class__")))
    (e_0_hm : PySem.W.mroIn K CE0 (.type "object") = some true)
    (e_0_ve : PySem.W.subIn K (.ref CE0) (.type "ValueError") = some true)
    (e_0_le : PySem.W.subIn K (.ref CE0) (.type "LookupError") = some false)
    (e_0_xw : PySem.W.subIn K (.ref CE0) (.ref CW) = some true)
    (e_0_kp : PySem.W.keepIn K (.ref CE0) = true)
    (e_0_s0 : PySem.W.subIn K (.ref CE0) (.ref CE0) = some true)
    (e_0_s1 : PySem.W.subIn K (.ref CE0) (.ref CE1) = some false)
    (e_0_n1 : CE0 ≠ CE1)
    (e_0_s2 : PySem.W.subIn K (.ref CE0) (.ref CE2) = some false)
    (e_0_n2 : CE0 ≠ CE2)
    (e_0_s3 : PySem.W.subIn K (.ref CE0) (.ref CE3) = some false)
    (e_0_n3 : CE0 ≠ CE3)
    (e_0_s4 : PySem.W.subIn K (.ref CE0) (.ref CE4) = some false)
    (e_0_n4 : CE0 ≠ CE4)
    (e_0_s5 : PySem.W.subIn K (.ref CE0) (.ref CE5) = some false)
    (e_0_n5 : CE0 ≠ CE5)
    (e_0_s6 : PySem.W.subIn K (.ref CE0) (.ref CE6) = some false)
    (e_0_n6 : CE0 ≠ CE6)
    (e_0_s7 : PySem.W.subIn K (.ref CE0) (.ref CE7) = some false)
    (e_0_n7 : CE0 ≠ CE7)
    (e_0_nw : CE0 ≠ CW)
    (e_1_ty : PySem.W.typeIn K (.ref CE1) = some (.type "type"))
    (e_1_ic : PySem.W.isClsIn K CE1 = true)
    (e_1_hg : PySem.W.findIn K (.ref CE1) "__getattribute__" = some (some (.builtin "BaseException.__getattribute__")))
    (e_1_hk : PySem.W.findIn K (.ref CE1) "__getattr__" = some none)
    (e_1_sb : PySem.W.subIn K (.ref CE1) (.type "BaseException") = some true)
    (e_1_hd : PySem.W.hasDictIn K CE1 = true)
    (e_1_ha : PySem.W.findIn K (.ref CE1) "__class__" = some (some (.builtin "object.__class__")))
    (e_1_hm : PySem.W.mroIn K CE1 (.type "object") = some true)
    (e_1_ve : PySem.W.subIn K (.ref CE1) (.type "ValueError") = some true)
    (e_1_le : PySem.W.subIn K (.ref CE1) (.type "LookupError") = some false)
    (e_1_xw : PySem.W.subIn K (.ref CE1) (.ref CW) = some true)
    (e_1_kp : PySem.W.keepIn K (.ref CE1) = true)
    (e_1_s0 : PySem.W.subIn K (.ref CE1) (.ref CE0) = some false)
    (e_1_n0 : CE1 ≠ CE0)
    (e_1_s1 : PySem.W.subIn K (.ref CE1) (.ref CE1) = some true)
    (e_1_s2 : PySem.W.subIn K (.ref CE1) (.ref CE2) = some false)
    (e_1_n2 : CE1 ≠ CE2)
    (e_1_s3 : PySem.W.subIn K (.ref CE1) (.ref CE3) = some false)
    (e_1_n3 : CE1 ≠ CE3)
    (e_1_s4 : PySem.W.subIn K (.ref CE1) (.ref CE4) = some false)
    (e_1_n4 : CE1 ≠ CE4)
    (e_1_s5 : PySem.W.subIn K (.ref CE1) (.ref CE5) = some false)
    (e_1_n5 : CE1 ≠ CE5)
    (e_1_s6 : PySem.W.subIn K (.ref CE1) (.ref CE6) = some false)
    (e_1_n6 : CE1 ≠ CE6)
    (e_1_s7 : PySem.W.subIn K (.ref CE1) (.ref CE7) = some false)
    (e_1_n7 : CE1 ≠ CE7)
    (e_1_nw : CE1 ≠ CW)
    (e_2_ty : PySem.W.typeIn K (.ref CE2) = some (.type "type"))
    (e_2_ic : PySem.W.isClsIn K CE2 = true)
    (e_2_hg : PySem.W.findIn K (.ref CE2) "__getattribute__" = some (some (.builtin "BaseException.__getattribute__")))
    (e_2_hk : PySem.W.findIn K (.ref CE2) "__getattr__" = some none)
    (e_2_sb : PySem.W.subIn K (.ref CE2) (.type "BaseException") = some true)
    (e_2_hd : PySem.W.hasDictIn K CE2 = true)
    (e_2_ha : PySem.W.findIn K (.ref CE2) "__class__" = some (some (.builtin "object.__class__")))
    (e_2_hm : PySem.W.mroIn K CE2 (.type "object") = some true)
    (e_2_ve : PySem.W.subIn K (.ref CE2) (.type "ValueError") = some true)
    (e_2_le : PySem.W.subIn K (.ref CE2) (.type "LookupError") = some false)
    (e_2_xw : PySem.W.subIn K (.ref CE2) (.ref CW) = some true)
    (e_2_kp : PySem.W.keepIn K (.ref CE2) = true)
    (e_2_s0 : PySem.W.subIn K (.ref CE2) (.ref CE0) = some false)
    (e_2_n0 : CE2 ≠ CE0)
    (e_2_s1 : PySem.W.subIn K (.ref CE2) (.ref CE1) = some false)
    (e_2_n1 : CE2 ≠ CE1)
    (e_2_s2 : PySem.W.subIn K (.ref CE2) (.ref CE2) = some true)
    (e_2_s3 : PySem.W.subIn K (.ref CE2) (.ref CE3) = some false)
    (e_2_n3 : CE2 ≠ CE3)
    (e_2_s4 : PySem.W.subIn K (.ref CE2) (.ref CE4) = some false)
    (e_2_n4 : CE2 ≠ CE4)
    (e_2_s5 : PySem.W.subIn K (.ref CE2) (.ref CE5) = some false)
    (e_2_n5 : CE2 ≠ CE5)
    (e_2_s6 : PySem.W.subIn K (.ref CE2) (.ref CE6) = some false)
    (e_2_n6 : CE2 ≠ CE6)
    (e_2_s7 : PySem.W.subIn K (.ref CE2) (.ref CE7) = some false)
    (e_2_n7 : CE2 ≠ CE7)
    (e_2_nw : CE2 ≠ CW)
    (e_3_ty : PySem.W.typeIn K (.ref CE3) = some (.type "type"))
    (e_3_ic : PySem.W.isClsIn K CE3 = true)
    (e_3_hg : PySem.W.findIn K (.ref CE3) "__getattribute__" = some (some (.builtin "BaseException.__getattribute__")))
    (e_3_hk : PySem.W.findIn K (.ref CE3) "__getattr__" = some none)
    (e_3_sb : PySem.W.subIn K (.ref CE3) (.type "BaseException") = some true)
    (e_3_hd : PySem.W.hasDictIn K CE3 = true)
    (e_3_ha : PySem.W.findIn K (.ref CE3) "__class__" = some (some (.builtin "object.__class__")))
    (e_3_hm : PySem.W.mroIn K CE3 (.type "object") = some true)
    (e_3_ve : PySem.W.subIn K (.ref CE3) (.type "ValueError") = some true)
    (e_3_le : PySem.W.subIn K (.ref CE3) (.type "LookupError") = some false)
    (e_3_xw : PySem.W.subIn K (.ref CE3) (.ref CW) = some true)
    (e_3_kp : PySem.W.keepIn K (.ref CE3) = true)
    (e_3_s0 : PySem.W.subIn K (.ref CE3) (.ref CE0) = some false)
    (e_3_n0 : CE3 ≠ CE0)
    (e_3_s1 : PySem.W.subIn K (.ref CE3) (.ref CE1) = some false)
    (e_3_n1 : CE3 ≠ CE1)
    (e_3_s2 : PySem.W.subIn K (.ref CE3) (.ref CE2) = some false)
    (e_3_n2 : CE3 ≠ CE2)
    (e_3_s3 : PySem.W.subIn K (.ref CE3) (.ref CE3) = some true)
    (e_3_s4 : PySem.W.subIn K (.ref CE3) (.ref CE4) = some false)
    (e_3_n4 : CE3 ≠ CE4)
    (e_3_s5 : PySem.W.subIn K (.ref CE3) (.ref CE5) = some false)
    (e_3_n5 : CE3 ≠ CE5)
    (e_3_s6 : PySem.W.subIn K (.ref CE3) (.ref CE6) = some false)
    (e_3_n6 : CE3 ≠ CE6)
    (e_3_s7 : PySem.W.subIn K (.ref CE3) (.ref CE7) = some false)
    (e_3_n7 : CE3 ≠ CE7)
    (e_3_nw : CE3 ≠ CW)
    (e_3_xc : PySem.W.excIn K CE3 [.type "ValueError", .type "Exception", .type "BaseException", .type "object"] "ValueError.__new__" = true)
    (e_4_ty : PySem.W.typeIn K (.ref CE4) = some (.type "type"))
    (e_4_ic : PySem.W.isClsIn K CE4 = true)
    (e_4_hg : PySem.W.findIn K (.ref CE4) "__getattribute__" = some (some (.builtin "BaseException.__getattribute__")))
    (e_4_hk : PySem.W.findIn K (.ref CE4) "__getattr__" = some none)
    (e_4_sb : PySem.W.subIn K (.ref CE4) (.type "BaseException") = some true)
    (e_4_hd : PySem.W.hasDictIn K CE4 = true)
    (e_4_ha : PySem.W.findIn K (.ref CE4) "__class__" = some (some (.builtin "object.__class__")))
    (e_4_hm : PySem.W.mroIn K CE4 (.type "object") = some true)
    (e_4_ve : PySem.W.subIn K (.ref CE4) (.type "ValueError") = some true)
    (e_4_le : PySem.W.subIn K (.ref CE4) (.type "LookupError") = some false)
    (e_4_xw : PySem.W.subIn K (.ref CE4) (.ref CW) = some true)
    (e_4_kp : PySem.W.keepIn K (.ref CE4) = true)
    (e_4_s0 : PySem.W.subIn K (.ref CE4) (.ref CE0) = some false)
    (e_4_n0 : CE4 ≠ CE0)
    (e_4_s1 : PySem.W.subIn K (.ref CE4) (.ref CE1) = some false)
    (e_4_n1 : CE4 ≠ CE1)
    (e_4_s2 : PySem.W.subIn K (.ref CE4) (.ref CE2) = some false)
    (e_4_n2 : CE4 ≠ CE2)
    (e_4_s3 : PySem.W.subIn K (.ref CE4) (.ref CE3) = some false)
    (e_4_n3 : CE4 ≠ CE3)
    (e_4_s4 : PySem.W.subIn K (.ref CE4) (.ref CE4) = some true)
    (e_4_s5 : PySem.W.subIn K (.ref CE4) (.ref CE5) = some false)
    (e_4_n5 : CE4 ≠ CE5)
    (e_4_s6 : PySem.W.subIn K (.ref CE4) (.ref CE6) = some false)
    (e_4_n6 : CE4 ≠ CE6)
    (e_4_s7 : PySem.W.subIn K (.ref CE4) (.ref CE7) = some false)
    (e_4_n7 : CE4 ≠ CE7)
    (e_4_nw : CE4 ≠ CW)
    (e_4_xc : PySem.W.excIn K CE4 [.type "ValueError", .type "Exception", .type "BaseException", .type "object"] "ValueError.__new__" = true)
    (e_5_ty : PySem.W.typeIn K (.ref CE5) = some (.type "type"))
    (e_5_ic : PySem.W.isClsIn K CE5 = true)
    (e_5_hg : PySem.W.findIn K (.ref CE5) "__getattribute__" = some (some (.builtin "BaseException.__getattribute__")))
    (e_5_hk : PySem.W.findIn K (.ref CE5) "__getattr__" = some none)
    (e_5_sb : PySem.W.subIn K (.ref CE5) (.type "BaseException") = some true)
    (e_5_hd : PySem.W.hasDictIn K CE5 = true)
    (e_5_ha : PySem.W.findIn K (.ref CE5) "__class__" = some (some (.builtin "object.__class__")))
    (e_5_hm : PySem.W.mroIn K CE5 (.type "object") = some true)
    (e_5_ve : PySem.W.subIn K (.ref CE5) (.type "ValueError") = some true)
    (e_5_le : PySem.W.subIn K (.ref CE5) (.type "LookupError") = some false)
    (e_5_xw : PySem.W.subIn K (.ref CE5) (.ref CW) = some true)
    (e_5_kp : PySem.W.keepIn K (.ref CE5) = true)
    (e_5_s0 : PySem.W.subIn K (.ref CE5) (.ref CE0) = some false)
    (e_5_n0 : CE5 ≠ CE0)
    (e_5_s1 : PySem.W.subIn K (.ref CE5) (.ref CE1) = some false)
    (e_5_n1 : CE5 ≠ CE1)
    (e_5_s2 : PySem.W.subIn K (.ref CE5) (.ref CE2) = some false)
    (e_5_n2 : CE5 ≠ CE2)
    (e_5_s3 : PySem.W.subIn K (.ref CE5) (.ref CE3) = some false)
    (e_5_n3 : CE5 ≠ CE3)
    (e_5_s4 : PySem.W.subIn K (.ref CE5) (.ref CE4) = some false)
    (e_5_n4 : CE5 ≠ CE4)
    (e_5_s5 : PySem.W.subIn K (.ref CE5) (.ref CE5) = some true)
    (e_5_s6 : PySem.W.subIn K (.ref CE5) (.ref CE6) = some false)
    (e_5_n6 : CE5 ≠ CE6)
    (e_5_s7 : PySem.W.subIn K (.ref CE5) (.ref CE7) = some false)
    (e_5_n7 : CE5 ≠ CE7)
    (e_5_nw : CE5 ≠ CW)
    (e_5_xc : PySem.W.excIn K CE5 [.type "ValueError", .type "Exception", .type "BaseException", .type "object"] "ValueError.__new__" = true)
    (e_6_ty : PySem.W.typeIn K (.ref CE6) = some (.type "type"))
    (e_6_ic : PySem.W.isClsIn K CE6 = true)
    (e_6_hg : PySem.W.findIn K (.ref CE6) "__getattribute__" = some (some (.builtin "BaseException.__getattribute__")))
    (e_6_hk : PySem.W.findIn K (.ref CE6) "__getattr__" = some none)
    (e_6_sb : PySem.W.subIn K (.ref CE6) (.type "BaseException") = some true)
    (e_6_hd : PySem.W.hasDictIn K CE6 = true)
    (e_6_ha : PySem.W.findIn K (.ref CE6) "__class__" = some (some (.builtin "object.__class__")))
    (e_6_hm : PySem.W.mroIn K CE6 (.type "object") = some true)
    (e_6_ve : PySem.W.subIn K (.ref CE6) (.type "ValueError") = some true)
    (e_6_le : PySem.W.subIn K (.ref CE6) (.type "LookupError") = some false)
    (e_6_xw : PySem.W.subIn K (.ref CE6) (.ref CW) = some true)
    (e_6_kp : PySem.W.keepIn K (.ref CE6) = true)
    (e_6_s0 : PySem.W.subIn K (.ref CE6) (.ref CE0) = some false)
    (e_6_n0 : CE6 ≠ CE0)
    (e_6_s1 : PySem.W.subIn K (.ref CE6) (.ref CE1) = some false)
    (e_6_n1 : CE6 ≠ CE1)
    (e_6_s2 : PySem.W.subIn K (.ref CE6) (.ref CE2) = some false)
    (e_6_n2 : CE6 ≠ CE2)
    (e_6_s3 : PySem.W.subIn K (.ref CE6) (.ref CE3) = some false)
    (e_6_n3 : CE6 ≠ CE3)
    (e_6_s4 : PySem.W.subIn K (.ref CE6) (.ref CE4) = some false)
    (e_6_n4 : CE6 ≠ CE4)
    (e_6_s5 : PySem.W.subIn K (.ref CE6) (.ref CE5) = some false)
    (e_6_n5 : CE6 ≠ CE5)
    (e_6_s6 : PySem.W.subIn K (.ref CE6) (.ref CE6) = some true)
    (e_6_s7 : PySem.W.subIn K (.ref CE6) (.ref CE7) = some false)
    (e_6_n7 : CE6 ≠ CE7)
    (e_6_nw : CE6 ≠ CW)
    (e_6_xc : PySem.W.excIn K CE6 [.type "ValueError", .type "Exception", .type "BaseException", .type "object"] "ValueError.__new__" = true)
    (e_7_ty : PySem.W.typeIn K (.ref CE7) = some (.type "type"))
    (e_7_ic : PySem.W.isClsIn K CE7 = true)
    (e_7_hg : PySem.W.findIn K (.ref CE7) "__getattribute__" = some (some (.builtin "BaseException.__getattribute__")))
    (e_7_hk : PySem.W.findIn K (.ref CE7) "__getattr__" = some none)
    (e_7_sb : PySem.W.subIn K (.ref CE7) (.type "BaseException") = some true)
    (e_7_hd : PySem.W.hasDictIn K CE7 = true)
    (e_7_ha : PySem.W.findIn K (.ref CE7) "__class__" = some (some (.builtin "object.__class__")))
    (e_7_hm : PySem.W.mroIn K CE7 (.type "object") = some true)
    (e_7_ve : PySem.W.subIn K (.ref CE7) (.type "ValueError") = some true)
    (e_7_le : PySem.W.subIn K (.ref CE7) (.type "LookupError") = some false)
    (e_7_xw : PySem.W.subIn K (.ref CE7) (.ref CW) = some true)
    (e_7_kp : PySem.W.keepIn K (.ref CE7) = true)
    (e_7_s0 : PySem.W.subIn K (.ref CE7) (.ref CE0) = some false)
    (e_7_n0 : CE7 ≠ CE0)
    (e_7_s1 : PySem.W.subIn K (.ref CE7) (.ref CE1) = some false)
    (e_7_n1 : CE7 ≠ CE1)
    (e_7_s2 : PySem.W.subIn K (.ref CE7) (.ref CE2) = some false)
    (e_7_n2 : CE7 ≠ CE2)
    (e_7_s3 : PySem.W.subIn K (.ref CE7) (.ref CE3) = some false)
    (e_7_n3 : CE7 ≠ CE3)
    (e_7_s4 : PySem.W.subIn K (.ref CE7) (.ref CE4) = some false)
    (e_7_n4 : CE7 ≠ CE4)
    (e_7_s5 : PySem.W.subIn K (.ref CE7) (.ref CE5) = some false)
    (e_7_n5 : CE7 ≠ CE5)
    (e_7_s6 : PySem.W.subIn K (.ref CE7) (.ref CE6) = some false)
    (e_7_n6 : CE7 ≠ CE6)
    (e_7_s7 : PySem.W.subIn K (.ref CE7) (.ref CE7) = some true)
    (e_7_nw : CE7 ≠ CW)
    (e_7_xc : PySem.W.excIn K CE7 [.type "ValueError", .type "Exception", .type "BaseException", .type "object"] "ValueError.__new__" = true)
    (e_hn : PySem.W.specialIn K (.builtin "object.__class__") "__get__" = some (some (.builtin "getset_descriptor.__get__")))
    (e_ht : PySem.W.takesIn K (.builtin "object.__class__") = some true)
    (hopB : PySem.W.nsIn K PySem.cStatics "thirdparty.any" = some none)
    (htopB : (l.prog.main.scope.names.lookup ("super" : Str)).isSome = false)
    (e_0_sa : PySem.W.findIn K (.ref CE0) "__setattr__" = some (some (.builtin "object.__setattr__")))
    (e_0_nwf : PySem.W.findIn K (.ref CE0) "word" = some none)
    (e_0_ini : PySem.W.findIn K (.ref CE0) "__init__" = some (some (.ref fB0)))
    (e_0_tf : PySem.W.typeIn K (.ref fB0) = some (.type "function"))
    {nmB0 qB0 : Str} {bsB0 bmB0 subB0 : List Value} {snB0 : List Str} {abB0 : Bool} {colB0 : Option Bool} {ddB0 : Option Addr} {k0B0 k1B0 k2B0 k3B0 k5B0 : Option Value}
    (xoB0 : K.lookup CE0 = some (excClassObj nmB0 qB0 CE0 NB0 bsB0 bmB0 true snB0 subB0 abB0 colB0 ddB0 k0B0 k1B0 k2B0 k3B0 k5B0 "ValueError.__new__"))
    (xrB0 : PySem.HandSPX.refsVE bmB0 = true)
    {ocB0 kVB0 dcB0 pmB0 ctB0 oclB0 cclB0 : Value} {odB0 anB0 ocdB0 cddB0 : Option Addr} {slB0 ocsB0 ccsB0 : Array (Option Value)} {vsB0 : Array Value} {fileB0 : Str} {tfB0 : Tok}
    (lB0 : K.lookup fB0 = some ⟨ocB0, odB0, .func (PySem.W.fnX "__init__" "BadRule.__init__" (defArgs s_B0) (defBody s_B0) (defScope s_B0) [("__class__", ccB0)] .none kVB0 dcB0 pmB0 anB0 (.ref cdB0) ctB0), slB0⟩)
    (cB0 : PySem.W.codeIn K (.ref cdB0) "BadRule.__init__" = true)
    (hcellB0 : K.lookup ccB0 = some ⟨oclB0, ocdB0, .cell (some (.ref CE0)), ocsB0⟩)
    (hcodeB0 : K.lookup cdB0 = some ⟨cclB0, cddB0, .fields vsB0, ccsB0⟩)
    (hvsB0 : vsB0[2]? = some (.str fileB0 tfB0))
    (hfileB0 : ((l.prog.main.file : Str) == fileB0) = true)
    (hsiB0 : PySem.W.ks_superIn K CE0 CE0 "__init__" = some (some (.builtin "ValueError.__init__")))
    (e_1_sa : PySem.W.findIn K (.ref CE1) "__setattr__" = some (some (.builtin "object.__setattr__")))
    (e_1_nwf : PySem.W.findIn K (.ref CE1) "place" = some none)
    (e_1_ini : PySem.W.findIn K (.ref CE1) "__init__" = some (some (.ref fB1)))
    (e_1_tf : PySem.W.typeIn K (.ref fB1) = some (.type "function"))
    {nmB1 qB1 : Str} {bsB1 bmB1 subB1 : List Value} {snB1 : List Str} {abB1 : Bool} {colB1 : Option Bool} {ddB1 : Option Addr} {k0B1 k1B1 k2B1 k3B1 k5B1 : Option Value}
    (xoB1 : K.lookup CE1 = some (excClassObj nmB1 qB1 CE1 NB1 bsB1 bmB1 true snB1 subB1 abB1 colB1 ddB1 k0B1 k1B1 k2B1 k3B1 k5B1 "ValueError.__new__"))
    (xrB1 : PySem.HandSPX.refsVE bmB1 = true)
    {ocB1 kVB1 dcB1 pmB1 ctB1 oclB1 cclB1 : Value} {odB1 anB1 ocdB1 cddB1 : Option Addr} {slB1 ocsB1 ccsB1 : Array (Option Value)} {vsB1 : Array Value} {fileB1 : Str} {tfB1 : Tok}
    (lB1 : K.lookup fB1 = some ⟨ocB1, odB1, .func (PySem.W.fnX "__init__" "BadClause.__init__" (defArgs s_B1) (defBody s_B1) (defScope s_B1) [("__class__", ccB1)] .none kVB1 dcB1 pmB1 anB1 (.ref cdB1) ctB1), slB1⟩)
    (cB1 : PySem.W.codeIn K (.ref cdB1) "BadClause.__init__" = true)
    (hcellB1 : K.lookup ccB1 = some ⟨oclB1, ocdB1, .cell (some (.ref CE1)), ocsB1⟩)
    (hcodeB1 : K.lookup cdB1 = some ⟨cclB1, cddB1, .fields vsB1, ccsB1⟩)
    (hvsB1 : vsB1[2]? = some (.str fileB1 tfB1))
    (hfileB1 : ((l.prog.main.file : Str) == fileB1) = true)
    (hsiB1 : PySem.W.ks_superIn K CE1 CE1 "__init__" = some (some (.builtin "ValueError.__init__")))
    (e_2_sa : PySem.W.findIn K (.ref CE2) "__setattr__" = some (some (.builtin "object.__setattr__")))
    (e_2_nwf : PySem.W.findIn K (.ref CE2) "row" = some none)
    (e_2_ini : PySem.W.findIn K (.ref CE2) "__init__" = some (some (.ref fB2)))
    (e_2_tf : PySem.W.typeIn K (.ref fB2) = some (.type "function"))
    {nmB2 qB2 : Str} {bsB2 bmB2 subB2 : List Value} {snB2 : List Str} {abB2 : Bool} {colB2 : Option Bool} {ddB2 : Option Addr} {k0B2 k1B2 k2B2 k3B2 k5B2 : Option Value}
    (xoB2 : K.lookup CE2 = some (excClassObj nmB2 qB2 CE2 NB2 bsB2 bmB2 true snB2 subB2 abB2 colB2 ddB2 k0B2 k1B2 k2B2 k3B2 k5B2 "ValueError.__new__"))
    (xrB2 : PySem.HandSPX.refsVE bmB2 = true)
    {ocB2 kVB2 dcB2 pmB2 ctB2 oclB2 cclB2 : Value} {odB2 anB2 ocdB2 cddB2 : Option Addr} {slB2 ocsB2 ccsB2 : Array (Option Value)} {vsB2 : Array Value} {fileB2 : Str} {tfB2 : Tok}
    (lB2 : K.lookup fB2 = some ⟨ocB2, odB2, .func (PySem.W.fnX "__init__" "BadRow.__init__" (defArgs s_B2) (defBody s_B2) (defScope s_B2) [("__class__", ccB2)] .none kVB2 dcB2 pmB2 anB2 (.ref cdB2) ctB2), slB2⟩)
    (cB2 : PySem.W.codeIn K (.ref cdB2) "BadRow.__init__" = true)
    (hcellB2 : K.lookup ccB2 = some ⟨oclB2, ocdB2, .cell (some (.ref CE2)), ocsB2⟩)
    (hcodeB2 : K.lookup cdB2 = some ⟨cclB2, cddB2, .fields vsB2, ccsB2⟩)
    (hvsB2 : vsB2[2]? = some (.str fileB2 tfB2))
    (hfileB2 : ((l.prog.main.file : Str) == fileB2) = true)
    (hsiB2 : PySem.W.ks_superIn K CE2 CE2 "__init__" = some (some (.builtin "ValueError.__init__")))
    (a0 : PySem.W.nsIn K mainGlobals "_law_mix" = some (some (.ref f0))) (l0 : K.lookup f0 = some ⟨oc0, od0, .func (PySem.W.fnOf "_law_mix" "_law_mix" (defArgs s__law_mix) (defBody s__law_mix) (defScope s__law_mix) .none kV0 dc0 pm0 an0 cd0 ct0), sl0⟩) (c0 : PySem.W.codeIn K cd0 "_law_mix" = true) (k0 : PySem.W.keepIn K (.ref f0) = true)
    (a1 : PySem.W.nsIn K mainGlobals "_law_pick" = some (some (.ref f1))) (l1 : K.lookup f1 = some ⟨oc1, od1, .func (PySem.W.fnOf "_law_pick" "_law_pick" (defArgs s__law_pick) (defBody s__law_pick) (defScope s__law_pick) .none kV1 dc1 pm1 an1 cd1 ct1), sl1⟩) (c1 : PySem.W.codeIn K cd1 "_law_pick" = true) (k1 : PySem.W.keepIn K (.ref f1) = true)
    (a2 : PySem.W.nsIn K mainGlobals "_law_drawn_from" = some (some (.ref f2))) (l2 : K.lookup f2 = some ⟨oc2, od2, .func (PySem.W.fnOf "_law_drawn_from" "_law_drawn_from" (defArgs s__law_drawn_from) (defBody s__law_drawn_from) (defScope s__law_drawn_from) .none kV2 dc2 pm2 an2 cd2 ct2), sl2⟩) (c2 : PySem.W.codeIn K cd2 "_law_drawn_from" = true) (k2 : PySem.W.keepIn K (.ref f2) = true)
    (a3 : PySem.W.nsIn K mainGlobals "_law_same" = some (some (.ref f3))) (l3 : K.lookup f3 = some ⟨oc3, od3, .func (PySem.W.fnOf "_law_same" "_law_same" (defArgs s__law_same) (defBody s__law_same) (defScope s__law_same) .none kV3 dc3 pm3 an3 cd3 ct3), sl3⟩) (c3 : PySem.W.codeIn K cd3 "_law_same" = true) (k3 : PySem.W.keepIn K (.ref f3) = true)
    (a4 : PySem.W.nsIn K mainGlobals "_law_refusal" = some (some (.ref f4))) (l4 : K.lookup f4 = some ⟨oc4, od4, .func (PySem.W.fnOf "_law_refusal" "_law_refusal" (defArgs s__law_refusal) (defBody s__law_refusal) (defScope s__law_refusal) .none kV4 dc4 pm4 an4 cd4 ct4), sl4⟩) (c4 : PySem.W.codeIn K cd4 "_law_refusal" = true) (k4 : PySem.W.keepIn K (.ref f4) = true)
    (a5 : PySem.W.nsIn K mainGlobals "_law_kinds" = some (some (.ref f5))) (l5 : K.lookup f5 = some ⟨oc5, od5, .func (PySem.W.fnOf "_law_kinds" "_law_kinds" (defArgs s__law_kinds) (defBody s__law_kinds) (defScope s__law_kinds) .none kV5 dc5 pm5 an5 cd5 ct5), sl5⟩) (c5 : PySem.W.codeIn K cd5 "_law_kinds" = true) (k5 : PySem.W.keepIn K (.ref f5) = true)
    (a6 : PySem.W.nsIn K mainGlobals "_law_thrown" = some (some (.ref f6))) (l6 : K.lookup f6 = some ⟨oc6, od6, .func (PySem.W.fnOf "_law_thrown" "_law_thrown" (defArgs s__law_thrown) (defBody s__law_thrown) (defScope s__law_thrown) .none kV6 dc6 pm6 an6 cd6 ct6), sl6⟩) (c6 : PySem.W.codeIn K cd6 "_law_thrown" = true) (k6 : PySem.W.keepIn K (.ref f6) = true)
    (a7 : PySem.W.nsIn K mainGlobals "_law_caught_rising" = some (some (.ref f7))) (l7 : K.lookup f7 = some ⟨oc7, od7, .func (PySem.W.fnOf "_law_caught_rising" "_law_caught_rising" (defArgs s__law_caught_rising) (defBody s__law_caught_rising) (defScope s__law_caught_rising) .none kV7 dc7 pm7 an7 cd7 ct7), sl7⟩) (c7 : PySem.W.codeIn K cd7 "_law_caught_rising" = true) (k7 : PySem.W.keepIn K (.ref f7) = true)
    (a8 : PySem.W.nsIn K mainGlobals "_law_caught_falling" = some (some (.ref f8))) (l8 : K.lookup f8 = some ⟨oc8, od8, .func (PySem.W.fnOf "_law_caught_falling" "_law_caught_falling" (defArgs s__law_caught_falling) (defBody s__law_caught_falling) (defScope s__law_caught_falling) .none kV8 dc8 pm8 an8 cd8 ct8), sl8⟩) (c8 : PySem.W.codeIn K cd8 "_law_caught_falling" = true) (k8 : PySem.W.keepIn K (.ref f8) = true)
    (a9 : PySem.W.nsIn K mainGlobals "_law_caught_by_parent" = some (some (.ref f9))) (l9 : K.lookup f9 = some ⟨oc9, od9, .func (PySem.W.fnOf "_law_caught_by_parent" "_law_caught_by_parent" (defArgs s__law_caught_by_parent) (defBody s__law_caught_by_parent) (defScope s__law_caught_by_parent) .none kV9 dc9 pm9 an9 cd9 ct9), sl9⟩) (c9 : PySem.W.codeIn K cd9 "_law_caught_by_parent" = true) (k9 : PySem.W.keepIn K (.ref f9) = true)
    (a10 : PySem.W.nsIn K mainGlobals "_law_fields" = some (some (.ref f10))) (l10 : K.lookup f10 = some ⟨oc10, od10, .func (PySem.W.fnOf "_law_fields" "_law_fields" (defArgs s__law_fields) (defBody s__law_fields) (defScope s__law_fields) .none kV10 dc10 pm10 an10 cd10 ct10), sl10⟩) (c10 : PySem.W.codeIn K cd10 "_law_fields" = true) (k10 : PySem.W.keepIn K (.ref f10) = true)
    (a11 : PySem.W.nsIn K mainGlobals "_law_shuffled" = some (some (.ref f11))) (l11 : K.lookup f11 = some ⟨oc11, od11, .func (PySem.W.fnOf "_law_shuffled" "_law_shuffled" (defArgs s__law_shuffled) (defBody s__law_shuffled) (defScope s__law_shuffled) .none kV11 dc11 pm11 an11 cd11 ct11), sl11⟩) (c11 : PySem.W.codeIn K cd11 "_law_shuffled" = true) (k11 : PySem.W.keepIn K (.ref f11) = true)
    (a12 : PySem.W.nsIn K mainGlobals "law" = some (some (.ref f12))) (l12 : K.lookup f12 = some ⟨oc12, od12, .func (PySem.W.fnOf "law" "law" (defArgs s_law) (defBody s_law) (defScope s_law) .none kV12 dc12 pm12 an12 cd12 ct12), sl12⟩) (c12 : PySem.W.codeIn K cd12 "law" = true) (k12 : PySem.W.keepIn K (.ref f12) = true)
    (z_len : PySem.W.nsIn K mainGlobals "len" = some none) (z_abs : PySem.W.nsIn K mainGlobals "abs" = some none) (z_int : PySem.W.nsIn K mainGlobals "int" = some none) (z_isinstance : PySem.W.nsIn K mainGlobals "isinstance" = some none) (z_tuple : PySem.W.nsIn K mainGlobals "tuple" = some none) (z_list : PySem.W.nsIn K mainGlobals "list" = some none) (z_all : PySem.W.nsIn K mainGlobals "all" = some none) (z_zip : PySem.W.nsIn K mainGlobals "zip" = some none) (z_str : PySem.W.nsIn K mainGlobals "str" = some none) (z_bool : PySem.W.nsIn K mainGlobals "bool" = some none) (z_ValueError : PySem.W.nsIn K mainGlobals "ValueError" = some none) (z_range : PySem.W.nsIn K mainGlobals "range" = some none) (z_min : PySem.W.nsIn K mainGlobals "min" = some none) (z_LookupError : PySem.W.nsIn K mainGlobals "LookupError" = some none) (z_super : PySem.W.nsIn K mainGlobals "super" = some none) :
    ∃ fd : FuncData, (∀ (s : Shared) (v : Value), BindsTo s fd ⟨[v], []⟩ [("_law_script", v)]) ∧ ∀ base : Heap, K.In base → base.Ns mainGlobals mg → FnOk l.prog w K mg base CX0 7 fa fd ["_law_script"] (sp_law K) := by
  have e := hfa.symm.trans (PySem.W.mg_of X G a12)
  cases e
  have q_ec : ∀ i, i < 8 → ExcC K (C8.c (⟨CW, CE0, CE1, CE2, CE3, CE4, CE5, CE6, CE7⟩ : C8) i) := fun i hi => by
    rcases lt8 hi with rfl | rfl | rfl | rfl | rfl | rfl | rfl | rfl
    · exact ⟨e_0_hg, e_0_hk, e_0_sb, e_0_hd, e_0_ha, e_hn, e_ht, e_0_hm⟩
    · exact ⟨e_1_hg, e_1_hk, e_1_sb, e_1_hd, e_1_ha, e_hn, e_ht, e_1_hm⟩
    · exact ⟨e_2_hg, e_2_hk, e_2_sb, e_2_hd, e_2_ha, e_hn, e_ht, e_2_hm⟩
    · exact ⟨e_3_hg, e_3_hk, e_3_sb, e_3_hd, e_3_ha, e_hn, e_ht, e_3_hm⟩
    · exact ⟨e_4_hg, e_4_hk, e_4_sb, e_4_hd, e_4_ha, e_hn, e_ht, e_4_hm⟩
    · exact ⟨e_5_hg, e_5_hk, e_5_sb, e_5_hd, e_5_ha, e_hn, e_ht, e_5_hm⟩
    · exact ⟨e_6_hg, e_6_hk, e_6_sb, e_6_hd, e_6_ha, e_hn, e_ht, e_6_hm⟩
    · exact ⟨e_7_hg, e_7_hk, e_7_sb, e_7_hd, e_7_ha, e_hn, e_ht, e_7_hm⟩

  have q_kit : ∀ i j, i < 8 → j < 8 → PySem.W.kitOne K (.ref (C8.c (⟨CW, CE0, CE1, CE2, CE3, CE4, CE5, CE6, CE7⟩ : C8) i)) (.ref (C8.c (⟨CW, CE0, CE1, CE2, CE3, CE4, CE5, CE6, CE7⟩ : C8) j)) = some (decide (i = j)) := fun i j hi hj => by
    rcases lt8 hi with rfl | rfl | rfl | rfl | rfl | rfl | rfl | rfl
    · rcases lt8 hj with rfl | rfl | rfl | rfl | rfl | rfl | rfl | rfl
      · exact kit_me
      · exact kit_ref e_0_n1 e_1_ic e_1_ty e_0_s1
      · exact kit_ref e_0_n2 e_2_ic e_2_ty e_0_s2
      · exact kit_ref e_0_n3 e_3_ic e_3_ty e_0_s3
      · exact kit_ref e_0_n4 e_4_ic e_4_ty e_0_s4
      · exact kit_ref e_0_n5 e_5_ic e_5_ty e_0_s5
      · exact kit_ref e_0_n6 e_6_ic e_6_ty e_0_s6
      · exact kit_ref e_0_n7 e_7_ic e_7_ty e_0_s7
    · rcases lt8 hj with rfl | rfl | rfl | rfl | rfl | rfl | rfl | rfl
      · exact kit_ref e_1_n0 e_0_ic e_0_ty e_1_s0
      · exact kit_me
      · exact kit_ref e_1_n2 e_2_ic e_2_ty e_1_s2
      · exact kit_ref e_1_n3 e_3_ic e_3_ty e_1_s3
      · exact kit_ref e_1_n4 e_4_ic e_4_ty e_1_s4
      · exact kit_ref e_1_n5 e_5_ic e_5_ty e_1_s5
      · exact kit_ref e_1_n6 e_6_ic e_6_ty e_1_s6
      · exact kit_ref e_1_n7 e_7_ic e_7_ty e_1_s7
    · rcases lt8 hj with rfl | rfl | rfl | rfl | rfl | rfl | rfl | rfl
      · exact kit_ref e_2_n0 e_0_ic e_0_ty e_2_s0
      · exact kit_ref e_2_n1 e_1_ic e_1_ty e_2_s1
      · exact kit_me
      · exact kit_ref e_2_n3 e_3_ic e_3_ty e_2_s3
      · exact kit_ref e_2_n4 e_4_ic e_4_ty e_2_s4
      · exact kit_ref e_2_n5 e_5_ic e_5_ty e_2_s5
      · exact kit_ref e_2_n6 e_6_ic e_6_ty e_2_s6
      · exact kit_ref e_2_n7 e_7_ic e_7_ty e_2_s7
    · rcases lt8 hj with rfl | rfl | rfl | rfl | rfl | rfl | rfl | rfl
      · exact kit_ref e_3_n0 e_0_ic e_0_ty e_3_s0
      · exact kit_ref e_3_n1 e_1_ic e_1_ty e_3_s1
      · exact kit_ref e_3_n2 e_2_ic e_2_ty e_3_s2
      · exact kit_me
      · exact kit_ref e_3_n4 e_4_ic e_4_ty e_3_s4
      · exact kit_ref e_3_n5 e_5_ic e_5_ty e_3_s5
      · exact kit_ref e_3_n6 e_6_ic e_6_ty e_3_s6
      · exact kit_ref e_3_n7 e_7_ic e_7_ty e_3_s7
    · rcases lt8 hj with rfl | rfl | rfl | rfl | rfl | rfl | rfl | rfl
      · exact kit_ref e_4_n0 e_0_ic e_0_ty e_4_s0
      · exact kit_ref e_4_n1 e_1_ic e_1_ty e_4_s1
      · exact kit_ref e_4_n2 e_2_ic e_2_ty e_4_s2
      · exact kit_ref e_4_n3 e_3_ic e_3_ty e_4_s3
      · exact kit_me
      · exact kit_ref e_4_n5 e_5_ic e_5_ty e_4_s5
      · exact kit_ref e_4_n6 e_6_ic e_6_ty e_4_s6
      · exact kit_ref e_4_n7 e_7_ic e_7_ty e_4_s7
    · rcases lt8 hj with rfl | rfl | rfl | rfl | rfl | rfl | rfl | rfl
      · exact kit_ref e_5_n0 e_0_ic e_0_ty e_5_s0
      · exact kit_ref e_5_n1 e_1_ic e_1_ty e_5_s1
      · exact kit_ref e_5_n2 e_2_ic e_2_ty e_5_s2
      · exact kit_ref e_5_n3 e_3_ic e_3_ty e_5_s3
      · exact kit_ref e_5_n4 e_4_ic e_4_ty e_5_s4
      · exact kit_me
      · exact kit_ref e_5_n6 e_6_ic e_6_ty e_5_s6
      · exact kit_ref e_5_n7 e_7_ic e_7_ty e_5_s7
    · rcases lt8 hj with rfl | rfl | rfl | rfl | rfl | rfl | rfl | rfl
      · exact kit_ref e_6_n0 e_0_ic e_0_ty e_6_s0
      · exact kit_ref e_6_n1 e_1_ic e_1_ty e_6_s1
      · exact kit_ref e_6_n2 e_2_ic e_2_ty e_6_s2
      · exact kit_ref e_6_n3 e_3_ic e_3_ty e_6_s3
      · exact kit_ref e_6_n4 e_4_ic e_4_ty e_6_s4
      · exact kit_ref e_6_n5 e_5_ic e_5_ty e_6_s5
      · exact kit_me
      · exact kit_ref e_6_n7 e_7_ic e_7_ty e_6_s7
    · rcases lt8 hj with rfl | rfl | rfl | rfl | rfl | rfl | rfl | rfl
      · exact kit_ref e_7_n0 e_0_ic e_0_ty e_7_s0
      · exact kit_ref e_7_n1 e_1_ic e_1_ty e_7_s1
      · exact kit_ref e_7_n2 e_2_ic e_2_ty e_7_s2
      · exact kit_ref e_7_n3 e_3_ic e_3_ty e_7_s3
      · exact kit_ref e_7_n4 e_4_ic e_4_ty e_7_s4
      · exact kit_ref e_7_n5 e_5_ic e_5_ty e_7_s5
      · exact kit_ref e_7_n6 e_6_ic e_6_ty e_7_s6
      · exact kit_me

  have q_kw : ∀ i, i < 8 → PySem.W.kitOne K (.ref (C8.c (⟨CW, CE0, CE1, CE2, CE3, CE4, CE5, CE6, CE7⟩ : C8) i)) (.ref CW) = some true := fun i hi => by
    rcases lt8 hi with rfl | rfl | rfl | rfl | rfl | rfl | rfl | rfl
    · exact kit_ref e_0_nw e_w_ic e_w_ty e_0_xw
    · exact kit_ref e_1_nw e_w_ic e_w_ty e_1_xw
    · exact kit_ref e_2_nw e_w_ic e_w_ty e_2_xw
    · exact kit_ref e_3_nw e_w_ic e_w_ty e_3_xw
    · exact kit_ref e_4_nw e_w_ic e_w_ty e_4_xw
    · exact kit_ref e_5_nw e_w_ic e_w_ty e_5_xw
    · exact kit_ref e_6_nw e_w_ic e_w_ty e_6_xw
    · exact kit_ref e_7_nw e_w_ic e_w_ty e_7_xw

  have q_kv : ∀ i, i < 8 → PySem.W.kitOne K (.ref (C8.c (⟨CW, CE0, CE1, CE2, CE3, CE4, CE5, CE6, CE7⟩ : C8) i)) (.type "ValueError") = some true := fun i hi => by
    rcases lt8 hi with rfl | rfl | rfl | rfl | rfl | rfl | rfl | rfl
    · exact kit_ve e_0_ve
    · exact kit_ve e_1_ve
    · exact kit_ve e_2_ve
    · exact kit_ve e_3_ve
    · exact kit_ve e_4_ve
    · exact kit_ve e_5_ve
    · exact kit_ve e_6_ve
    · exact kit_ve e_7_ve

  have q_kl : ∀ i, i < 8 → PySem.W.kitOne K (.ref (C8.c (⟨CW, CE0, CE1, CE2, CE3, CE4, CE5, CE6, CE7⟩ : C8) i)) (.type "LookupError") = some false := fun i hi => by
    rcases lt8 hi with rfl | rfl | rfl | rfl | rfl | rfl | rfl | rfl
    · exact kit_le e_0_le
    · exact kit_le e_1_le
    · exact kit_le e_2_le
    · exact kit_le e_3_le
    · exact kit_le e_4_le
    · exact kit_le e_5_le
    · exact kit_le e_6_le
    · exact kit_le e_7_le

  have q_exm : ∀ i j, i < 8 → j < 8 → PySem.W.exmOne K (.ref (C8.c (⟨CW, CE0, CE1, CE2, CE3, CE4, CE5, CE6, CE7⟩ : C8) i)) (.ref (C8.c (⟨CW, CE0, CE1, CE2, CE3, CE4, CE5, CE6, CE7⟩ : C8) j)) = some (decide (i = j)) := fun i j hi hj => by
    rcases lt8 hi with rfl | rfl | rfl | rfl | rfl | rfl | rfl | rfl
    · rcases lt8 hj with rfl | rfl | rfl | rfl | rfl | rfl | rfl | rfl
      · exact PySem.W.exm_ref e_0_sb e_0_hd e_0_ty e_0_s0
      · exact PySem.W.exm_ref e_1_sb e_1_hd e_1_ty e_0_s1
      · exact PySem.W.exm_ref e_2_sb e_2_hd e_2_ty e_0_s2
      · exact PySem.W.exm_ref e_3_sb e_3_hd e_3_ty e_0_s3
      · exact PySem.W.exm_ref e_4_sb e_4_hd e_4_ty e_0_s4
      · exact PySem.W.exm_ref e_5_sb e_5_hd e_5_ty e_0_s5
      · exact PySem.W.exm_ref e_6_sb e_6_hd e_6_ty e_0_s6
      · exact PySem.W.exm_ref e_7_sb e_7_hd e_7_ty e_0_s7
    · rcases lt8 hj with rfl | rfl | rfl | rfl | rfl | rfl | rfl | rfl
      · exact PySem.W.exm_ref e_0_sb e_0_hd e_0_ty e_1_s0
      · exact PySem.W.exm_ref e_1_sb e_1_hd e_1_ty e_1_s1
      · exact PySem.W.exm_ref e_2_sb e_2_hd e_2_ty e_1_s2
      · exact PySem.W.exm_ref e_3_sb e_3_hd e_3_ty e_1_s3
      · exact PySem.W.exm_ref e_4_sb e_4_hd e_4_ty e_1_s4
      · exact PySem.W.exm_ref e_5_sb e_5_hd e_5_ty e_1_s5
      · exact PySem.W.exm_ref e_6_sb e_6_hd e_6_ty e_1_s6
      · exact PySem.W.exm_ref e_7_sb e_7_hd e_7_ty e_1_s7
    · rcases lt8 hj with rfl | rfl | rfl | rfl | rfl | rfl | rfl | rfl
      · exact PySem.W.exm_ref e_0_sb e_0_hd e_0_ty e_2_s0
      · exact PySem.W.exm_ref e_1_sb e_1_hd e_1_ty e_2_s1
      · exact PySem.W.exm_ref e_2_sb e_2_hd e_2_ty e_2_s2
      · exact PySem.W.exm_ref e_3_sb e_3_hd e_3_ty e_2_s3
      · exact PySem.W.exm_ref e_4_sb e_4_hd e_4_ty e_2_s4
      · exact PySem.W.exm_ref e_5_sb e_5_hd e_5_ty e_2_s5
      · exact PySem.W.exm_ref e_6_sb e_6_hd e_6_ty e_2_s6
      · exact PySem.W.exm_ref e_7_sb e_7_hd e_7_ty e_2_s7
    · rcases lt8 hj with rfl | rfl | rfl | rfl | rfl | rfl | rfl | rfl
      · exact PySem.W.exm_ref e_0_sb e_0_hd e_0_ty e_3_s0
      · exact PySem.W.exm_ref e_1_sb e_1_hd e_1_ty e_3_s1
      · exact PySem.W.exm_ref e_2_sb e_2_hd e_2_ty e_3_s2
      · exact PySem.W.exm_ref e_3_sb e_3_hd e_3_ty e_3_s3
      · exact PySem.W.exm_ref e_4_sb e_4_hd e_4_ty e_3_s4
      · exact PySem.W.exm_ref e_5_sb e_5_hd e_5_ty e_3_s5
      · exact PySem.W.exm_ref e_6_sb e_6_hd e_6_ty e_3_s6
      · exact PySem.W.exm_ref e_7_sb e_7_hd e_7_ty e_3_s7
    · rcases lt8 hj with rfl | rfl | rfl | rfl | rfl | rfl | rfl | rfl
      · exact PySem.W.exm_ref e_0_sb e_0_hd e_0_ty e_4_s0
      · exact PySem.W.exm_ref e_1_sb e_1_hd e_1_ty e_4_s1
      · exact PySem.W.exm_ref e_2_sb e_2_hd e_2_ty e_4_s2
      · exact PySem.W.exm_ref e_3_sb e_3_hd e_3_ty e_4_s3
      · exact PySem.W.exm_ref e_4_sb e_4_hd e_4_ty e_4_s4
      · exact PySem.W.exm_ref e_5_sb e_5_hd e_5_ty e_4_s5
      · exact PySem.W.exm_ref e_6_sb e_6_hd e_6_ty e_4_s6
      · exact PySem.W.exm_ref e_7_sb e_7_hd e_7_ty e_4_s7
    · rcases lt8 hj with rfl | rfl | rfl | rfl | rfl | rfl | rfl | rfl
      · exact PySem.W.exm_ref e_0_sb e_0_hd e_0_ty e_5_s0
      · exact PySem.W.exm_ref e_1_sb e_1_hd e_1_ty e_5_s1
      · exact PySem.W.exm_ref e_2_sb e_2_hd e_2_ty e_5_s2
      · exact PySem.W.exm_ref e_3_sb e_3_hd e_3_ty e_5_s3
      · exact PySem.W.exm_ref e_4_sb e_4_hd e_4_ty e_5_s4
      · exact PySem.W.exm_ref e_5_sb e_5_hd e_5_ty e_5_s5
      · exact PySem.W.exm_ref e_6_sb e_6_hd e_6_ty e_5_s6
      · exact PySem.W.exm_ref e_7_sb e_7_hd e_7_ty e_5_s7
    · rcases lt8 hj with rfl | rfl | rfl | rfl | rfl | rfl | rfl | rfl
      · exact PySem.W.exm_ref e_0_sb e_0_hd e_0_ty e_6_s0
      · exact PySem.W.exm_ref e_1_sb e_1_hd e_1_ty e_6_s1
      · exact PySem.W.exm_ref e_2_sb e_2_hd e_2_ty e_6_s2
      · exact PySem.W.exm_ref e_3_sb e_3_hd e_3_ty e_6_s3
      · exact PySem.W.exm_ref e_4_sb e_4_hd e_4_ty e_6_s4
      · exact PySem.W.exm_ref e_5_sb e_5_hd e_5_ty e_6_s5
      · exact PySem.W.exm_ref e_6_sb e_6_hd e_6_ty e_6_s6
      · exact PySem.W.exm_ref e_7_sb e_7_hd e_7_ty e_6_s7
    · rcases lt8 hj with rfl | rfl | rfl | rfl | rfl | rfl | rfl | rfl
      · exact PySem.W.exm_ref e_0_sb e_0_hd e_0_ty e_7_s0
      · exact PySem.W.exm_ref e_1_sb e_1_hd e_1_ty e_7_s1
      · exact PySem.W.exm_ref e_2_sb e_2_hd e_2_ty e_7_s2
      · exact PySem.W.exm_ref e_3_sb e_3_hd e_3_ty e_7_s3
      · exact PySem.W.exm_ref e_4_sb e_4_hd e_4_ty e_7_s4
      · exact PySem.W.exm_ref e_5_sb e_5_hd e_5_ty e_7_s5
      · exact PySem.W.exm_ref e_6_sb e_6_hd e_6_ty e_7_s6
      · exact PySem.W.exm_ref e_7_sb e_7_hd e_7_ty e_7_s7

  have q_exw : ∀ i, i < 8 → PySem.W.exmOne K (.ref (C8.c (⟨CW, CE0, CE1, CE2, CE3, CE4, CE5, CE6, CE7⟩ : C8) i)) (.ref CW) = some true := fun i hi => by
    rcases lt8 hi with rfl | rfl | rfl | rfl | rfl | rfl | rfl | rfl
    · exact PySem.W.exm_ref e_w_sb e_w_hd e_w_ty e_0_xw
    · exact PySem.W.exm_ref e_w_sb e_w_hd e_w_ty e_1_xw
    · exact PySem.W.exm_ref e_w_sb e_w_hd e_w_ty e_2_xw
    · exact PySem.W.exm_ref e_w_sb e_w_hd e_w_ty e_3_xw
    · exact PySem.W.exm_ref e_w_sb e_w_hd e_w_ty e_4_xw
    · exact PySem.W.exm_ref e_w_sb e_w_hd e_w_ty e_5_xw
    · exact PySem.W.exm_ref e_w_sb e_w_hd e_w_ty e_6_xw
    · exact PySem.W.exm_ref e_w_sb e_w_hd e_w_ty e_7_xw

  have TE : T8 K mg (⟨CW, CE0, CE1, CE2, CE3, CE4, CE5, CE6, CE7⟩ : C8) := ⟨PySem.W.mg_of X G e_w, PySem.W.mg_of X G e_0, PySem.W.mg_of X G e_1, PySem.W.mg_of X G e_2, PySem.W.mg_of X G e_3, PySem.W.mg_of X G e_4, PySem.W.mg_of X G e_5, PySem.W.mg_of X G e_6, PySem.W.mg_of X G e_7, q_ec, q_kit, q_kw, q_kv, q_kl, q_exm, q_exw, e_3_xc, e_3_kp, e_3_sb, e_3_ty, e_4_xc, e_4_kp, e_4_sb, e_4_ty, e_5_xc, e_5_kp, e_5_sb, e_5_ty, e_6_xc, e_6_kp, e_6_sb, e_6_ty, e_7_xc, e_7_kp, e_7_sb, e_7_ty, ⟨e_0_hg, e_0_hk, e_0_sb, e_0_hd⟩, e_0_nwf, ⟨e_1_hg, e_1_hk, e_1_sb, e_1_hd⟩, e_1_nwf, ⟨e_2_hg, e_2_hk, e_2_sb, e_2_hd⟩, e_2_nwf⟩
  have OxB0 : OexC K CE0 := ⟨⟨_, _, _, _, _, _, _, _, _, _, _, _, _, _, _, xoB0, xrB0⟩, e_0_sa, e_0_sb, e_0_ty, e_0_kp⟩
  have OxB1 : OexC K CE1 := ⟨⟨_, _, _, _, _, _, _, _, _, _, _, _, _, _, _, xoB1, xrB1⟩, e_1_sa, e_1_sb, e_1_ty, e_1_kp⟩
  have OxB2 : OexC K CE2 := ⟨⟨_, _, _, _, _, _, _, _, _, _, _, _, _, _, _, xoB2, xrB2⟩, e_2_sa, e_2_sb, e_2_ty, e_2_kp⟩
  have F0 := fun_mk (st := s__law_mix) l0 c0 k0
  have b0 := F0.binds (ps := ["_law_cell", "_law_k"]) fun _ _ _ _ _ _ us hl => match us, hl with | [_, _], _ => rfl
  have g0 := PySem.W.mg_of X G a0
  have F1 := fun_mk (st := s__law_pick) l1 c1 k1
  have b1 := F1.binds (ps := ["_law_left", "_law_many"]) fun _ _ _ _ _ _ us hl => match us, hl with | [_, _], _ => rfl
  have g1 := PySem.W.mg_of X G a1
  have F2 := fun_mk (st := s__law_drawn_from) l2 c2 k2
  have b2 := F2.binds (ps := ["_law_script", "_law_k"]) fun _ _ _ _ _ _ us hl => match us, hl with | [_, _], _ => rfl
  have g2 := PySem.W.mg_of X G a2
  have F3 := fun_mk (st := s__law_same) l3 c3 k3
  have b3 := F3.binds (ps := ["_law_found", "_law_due"]) fun _ _ _ _ _ _ us hl => match us, hl with | [_, _], _ => rfl
  have g3 := PySem.W.mg_of X G a3
  have F4 := fun_mk (st := s__law_refusal) l4 c4 k4
  have b4 := F4.binds (ps := ["_law_which", "_law_number", "_law_sign", "_law_by_name"]) fun _ _ _ _ _ _ us hl => match us, hl with | [_, _, _, _], _ => rfl
  have g4 := PySem.W.mg_of X G a4
  have F5 := fun_mk (st := s__law_kinds) l5 c5 k5
  have b5 := F5.binds (ps := ["_law_error"]) fun _ _ _ _ _ _ us hl => match us, hl with | [_], _ => rfl
  have g5 := PySem.W.mg_of X G a5
  have F6 := fun_mk (st := s__law_thrown) l6 c6 k6
  have b6 := F6.binds (ps := ["_law_which", "_law_number", "_law_sign"]) fun _ _ _ _ _ _ us hl => match us, hl with | [_, _, _], _ => rfl
  have g6 := PySem.W.mg_of X G a6
  have F7 := fun_mk (st := s__law_caught_rising) l7 c7 k7
  have b7 := F7.binds (ps := ["_law_which", "_law_number", "_law_sign"]) fun _ _ _ _ _ _ us hl => match us, hl with | [_, _, _], _ => rfl
  have g7 := PySem.W.mg_of X G a7
  have F8 := fun_mk (st := s__law_caught_falling) l8 c8 k8
  have b8 := F8.binds (ps := ["_law_which", "_law_number", "_law_sign"]) fun _ _ _ _ _ _ us hl => match us, hl with | [_, _, _], _ => rfl
  have g8 := PySem.W.mg_of X G a8
  have F9 := fun_mk (st := s__law_caught_by_parent) l9 c9 k9
  have b9 := F9.binds (ps := ["_law_which", "_law_number", "_law_sign"]) fun _ _ _ _ _ _ us hl => match us, hl with | [_, _, _], _ => rfl
  have g9 := PySem.W.mg_of X G a9
  have F10 := fun_mk (st := s__law_fields) l10 c10 k10
  have b10 := F10.binds (ps := ["_law_error", "_law_which"]) fun _ _ _ _ _ _ us hl => match us, hl with | [_, _], _ => rfl
  have g10 := PySem.W.mg_of X G a10
  have F11 := fun_mk (st := s__law_shuffled) l11 c11 k11
  have b11 := F11.binds (ps := ["_law_left", "_law_things"]) fun _ _ _ _ _ _ us hl => match us, hl with | [_, _], _ => rfl
  have g11 := PySem.W.mg_of X G a11
  have F12 := fun_mk (st := s_law) l12 c12 k12
  have m_len := PySem.W.mg_none_of X G z_len
  have m_abs := PySem.W.mg_none_of X G z_abs
  have m_int := PySem.W.mg_none_of X G z_int
  have m_isinstance := PySem.W.mg_none_of X G z_isinstance
  have m_tuple := PySem.W.mg_none_of X G z_tuple
  have m_list := PySem.W.mg_none_of X G z_list
  have m_all := PySem.W.mg_none_of X G z_all
  have m_zip := PySem.W.mg_none_of X G z_zip
  have m_str := PySem.W.mg_none_of X G z_str
  have m_bool := PySem.W.mg_none_of X G z_bool
  have m_ValueError := PySem.W.mg_none_of X G z_ValueError
  have m_range := PySem.W.mg_none_of X G z_range
  have m_min := PySem.W.mg_none_of X G z_min
  have m_LookupError := PySem.W.mg_none_of X G z_LookupError
  have m_super := PySem.W.mg_none_of X G z_super
  refine ⟨PySem.W.fnOf "law" "law" (defArgs s_law) (defBody s_law) (defScope s_law) .none kV12 dc12 pm12 an12 cd12 ct12, fun s v => .of_eq rfl, fun base _ _ => ?_⟩
  have OB0 := sup_fn (P := l.prog) (w := w) (mg := mg) (base := base) (CX := CX0) (k := 0) (fld := "word") lB0 cB0 sc_B0 OxB0 e_0_nwf hcellB0 hcodeB0 hvsB0 hfileB0 m_super htopB (by rfl) rfl rfl hopB (fun env => ⟨_, rfl⟩) (by decide) (by decide) hsiB0
  have X0 : CEv l.prog w K mg base CE0 1 "BadRule" "word" := ⟨fB0, _, OB0, OxB0, e_0_ini, e_0_tf, Binds.all (fun us hl => match us, hl with | [_, _], _ => rfl), PySem.W.mg_of X G e_0, fun s a u => .of_eq rfl⟩
  have OB1 := sup_fn (P := l.prog) (w := w) (mg := mg) (base := base) (CX := CX0) (k := 0) (fld := "place") lB1 cB1 sc_B1 OxB1 e_1_nwf hcellB1 hcodeB1 hvsB1 hfileB1 m_super htopB (by rfl) rfl rfl hopB (fun env => ⟨_, rfl⟩) (by decide) (by decide) hsiB1
  have X1 : CEv l.prog w K mg base CE1 1 "BadClause" "place" := ⟨fB1, _, OB1, OxB1, e_1_ini, e_1_tf, Binds.all (fun us hl => match us, hl with | [_, _], _ => rfl), PySem.W.mg_of X G e_1, fun s a u => .of_eq rfl⟩
  have OB2 := sup_fn (P := l.prog) (w := w) (mg := mg) (base := base) (CX := CX0) (k := 0) (fld := "row") lB2 cB2 sc_B2 OxB2 e_2_nwf hcellB2 hcodeB2 hvsB2 hfileB2 m_super htopB (by rfl) rfl rfl hopB (fun env => ⟨_, rfl⟩) (by decide) (by decide) hsiB2
  have X2 : CEv l.prog w K mg base CE2 1 "BadRow" "row" := ⟨fB2, _, OB2, OxB2, e_2_ini, e_2_tf, Binds.all (fun us hl => match us, hl with | [_, _], _ => rfl), PySem.W.mg_of X G e_2, fun s a u => .of_eq rfl⟩
  have C__law_mix := ok__law_mix (P := l.prog) (w := w) (base := base) F0 g0 b0
  have C__law_pick := ok__law_pick (P := l.prog) (w := w) (base := base) F1 g1 b1 m_len C__law_mix
  have C__law_drawn_from := ok__law_drawn_from (P := l.prog) (w := w) (base := base) F2 g2 b2 m_len m_abs m_int
  have C__law_same := ok__law_same (P := l.prog) (w := w) (base := base) F3 g3 b3 m_isinstance m_tuple m_list m_all m_zip m_len m_str m_bool m_int
  have C__law_refusal := ok__law_refusal (P := l.prog) (w := w) (base := base) (CC := (⟨CW, CE0, CE1, CE2, CE3, CE4, CE5, CE6, CE7⟩ : C8)) F4 g4 b4 TE X0 X1 X2
  have C__law_kinds := ok__law_kinds (P := l.prog) (w := w) (base := base) (CC := (⟨CW, CE0, CE1, CE2, CE3, CE4, CE5, CE6, CE7⟩ : C8)) F5 g5 b5 TE X0 X1 X2 m_isinstance
  have C__law_thrown := ok__law_thrown (P := l.prog) (w := w) (base := base) (CC := (⟨CW, CE0, CE1, CE2, CE3, CE4, CE5, CE6, CE7⟩ : C8)) F6 g6 b6 TE X0 X1 X2
  have C__law_caught_rising := ok__law_caught_rising (P := l.prog) (w := w) (base := base) (CC := (⟨CW, CE0, CE1, CE2, CE3, CE4, CE5, CE6, CE7⟩ : C8)) F7 g7 b7 TE X0 X1 X2 C__law_thrown
  have C__law_caught_falling := ok__law_caught_falling (P := l.prog) (w := w) (base := base) (CC := (⟨CW, CE0, CE1, CE2, CE3, CE4, CE5, CE6, CE7⟩ : C8)) F8 g8 b8 TE X0 X1 X2 C__law_thrown
  have C__law_caught_by_parent := ok__law_caught_by_parent (P := l.prog) (w := w) (base := base) (CC := (⟨CW, CE0, CE1, CE2, CE3, CE4, CE5, CE6, CE7⟩ : C8)) F9 g9 b9 TE X0 X1 X2 m_isinstance m_ValueError C__law_thrown C__law_kinds
  have C__law_fields := ok__law_fields (P := l.prog) (w := w) (base := base) (CC := (⟨CW, CE0, CE1, CE2, CE3, CE4, CE5, CE6, CE7⟩ : C8)) F10 g10 b10 TE X0 X1 X2
  have C__law_shuffled := ok__law_shuffled (P := l.prog) (w := w) (base := base) F11 g11 b11 m_list m_len C__law_pick
  exact ok_law (CC := (⟨CW, CE0, CE1, CE2, CE3, CE4, CE5, CE6, CE7⟩ : C8)) F12 TE X0 X1 X2 m_range m_min m_len m_list m_isinstance m_LookupError m_ValueError C__law_drawn_from C__law_shuffled C__law_pick C__law_refusal C__law_caught_falling C__law_caught_rising C__law_caught_by_parent C__law_kinds C__law_same C__law_fields
end Pw
open PySem PySem.W PyProof.Rows
set_option maxHeartbeats 0 in
theorem PySem.Challenge.cw_partwares_k97_errors_made_by_hand_holds : PySem.Challenge.rw_partwares_k97_errors_made_by_hand.Holds := by
  w_on; o_law; k_head; (case hw => w_witness2)
  k_fill
  refine L2.walk_of (l := PySem.Challenge.rw_partwares_k97_errors_made_by_hand) (n := 63) (k := 7) (x := "_law_script") (CX := fun _ => L2.CX0) (sp := fun w => Pw.sp_law _) rfl (by decide) rfl ⟨rfl, by decide, by decide⟩ (fun w h Y => PySem.W.kIn_of Y) ?F (fun _ _ a ns hl _ hS => ⟨a, ns, rfl, hS, hl, fun _ => rfl⟩) (fun _ _ _ _ _ h => h)
  case F =>
    intro w mg fa h KX G hmg
    refine' Pw.all_mk KX G hmg ?e_w ?e_0 ?e_1 ?e_2 ?e_3 ?e_4 ?e_5 ?e_6 ?e_7 ?e_w_ty ?e_w_ic ?e_w_sb ?e_w_hd ?e_0_ty ?e_0_ic ?e_0_hg ?e_0_hk ?e_0_sb ?e_0_hd ?e_0_ha ?e_0_hm ?e_0_ve ?e_0_le ?e_0_xw ?e_0_kp ?e_0_s0 ?e_0_s1 ?e_0_n1 ?e_0_s2 ?e_0_n2 ?e_0_s3 ?e_0_n3 ?e_0_s4 ?e_0_n4 ?e_0_s5 ?e_0_n5 ?e_0_s6 ?e_0_n6 ?e_0_s7 ?e_0_n7 ?e_0_nw ?e_1_ty ?e_1_ic ?e_1_hg ?e_1_hk ?e_1_sb ?e_1_hd ?e_1_ha ?e_1_hm ?e_1_ve ?e_1_le ?e_1_xw ?e_1_kp ?e_1_s0 ?e_1_n0 ?e_1_s1 ?e_1_s2 ?e_1_n2 ?e_1_s3 ?e_1_n3 ?e_1_s4 ?e_1_n4 ?e_1_s5 ?e_1_n5 ?e_1_s6 ?e_1_n6 ?e_1_s7 ?e_1_n7 ?e_1_nw ?e_2_ty ?e_2_ic ?e_2_hg ?e_2_hk ?e_2_sb ?e_2_hd ?e_2_ha ?e_2_hm ?e_2_ve ?e_2_le ?e_2_xw ?e_2_kp ?e_2_s0 ?e_2_n0 ?e_2_s1 ?e_2_n1 ?e_2_s2 ?e_2_s3 ?e_2_n3 ?e_2_s4 ?e_2_n4 ?e_2_s5 ?e_2_n5 ?e_2_s6 ?e_2_n6 ?e_2_s7 ?e_2_n7 ?e_2_nw ?e_3_ty ?e_3_ic ?e_3_hg ?e_3_hk ?e_3_sb ?e_3_hd ?e_3_ha ?e_3_hm ?e_3_ve ?e_3_le ?e_3_xw ?e_3_kp ?e_3_s0 ?e_3_n0 ?e_3_s1 ?e_3_n1 ?e_3_s2 ?e_3_n2 ?e_3_s3 ?e_3_s4 ?e_3_n4 ?e_3_s5 ?e_3_n5 ?e_3_s6 ?e_3_n6 ?e_3_s7 ?e_3_n7 ?e_3_nw ?e_3_xc ?e_4_ty ?e_4_ic ?e_4_hg ?e_4_hk ?e_4_sb ?e_4_hd ?e_4_ha ?e_4_hm ?e_4_ve ?e_4_le ?e_4_xw ?e_4_kp ?e_4_s0 ?e_4_n0 ?e_4_s1 ?e_4_n1 ?e_4_s2 ?e_4_n2 ?e_4_s3 ?e_4_n3 ?e_4_s4 ?e_4_s5 ?e_4_n5 ?e_4_s6 ?e_4_n6 ?e_4_s7 ?e_4_n7 ?e_4_nw ?e_4_xc ?e_5_ty ?e_5_ic ?e_5_hg ?e_5_hk ?e_5_sb ?e_5_hd ?e_5_ha ?e_5_hm ?e_5_ve ?e_5_le ?e_5_xw ?e_5_kp ?e_5_s0 ?e_5_n0 ?e_5_s1 ?e_5_n1 ?e_5_s2 ?e_5_n2 ?e_5_s3 ?e_5_n3 ?e_5_s4 ?e_5_n4 ?e_5_s5 ?e_5_s6 ?e_5_n6 ?e_5_s7 ?e_5_n7 ?e_5_nw ?e_5_xc ?e_6_ty ?e_6_ic ?e_6_hg ?e_6_hk ?e_6_sb ?e_6_hd ?e_6_ha ?e_6_hm ?e_6_ve ?e_6_le ?e_6_xw ?e_6_kp ?e_6_s0 ?e_6_n0 ?e_6_s1 ?e_6_n1 ?e_6_s2 ?e_6_n2 ?e_6_s3 ?e_6_n3 ?e_6_s4 ?e_6_n4 ?e_6_s5 ?e_6_n5 ?e_6_s6 ?e_6_s7 ?e_6_n7 ?e_6_nw ?e_6_xc ?e_7_ty ?e_7_ic ?e_7_hg ?e_7_hk ?e_7_sb ?e_7_hd ?e_7_ha ?e_7_hm ?e_7_ve ?e_7_le ?e_7_xw ?e_7_kp ?e_7_s0 ?e_7_n0 ?e_7_s1 ?e_7_n1 ?e_7_s2 ?e_7_n2 ?e_7_s3 ?e_7_n3 ?e_7_s4 ?e_7_n4 ?e_7_s5 ?e_7_n5 ?e_7_s6 ?e_7_n6 ?e_7_s7 ?e_7_nw ?e_7_xc ?e_hn ?e_ht ?hopB ?htopB ?e_0_sa ?e_0_nwf ?e_0_ini ?e_0_tf ?xoB0 ?xrB0 ?lB0 ?cB0 ?hcellB0 ?hcodeB0 ?hvsB0 ?hfileB0 ?hsiB0 ?e_1_sa ?e_1_nwf ?e_1_ini ?e_1_tf ?xoB1 ?xrB1 ?lB1 ?cB1 ?hcellB1 ?hcodeB1 ?hvsB1 ?hfileB1 ?hsiB1 ?e_2_sa ?e_2_nwf ?e_2_ini ?e_2_tf ?xoB2 ?xrB2 ?lB2 ?cB2 ?hcellB2 ?hcodeB2 ?hvsB2 ?hfileB2 ?hsiB2 ?a0 ?l0 ?c0 ?k0 ?a1 ?l1 ?c1 ?k1 ?a2 ?l2 ?c2 ?k2 ?a3 ?l3 ?c3 ?k3 ?a4 ?l4 ?c4 ?k4 ?a5 ?l5 ?c5 ?k5 ?a6 ?l6 ?c6 ?k6 ?a7 ?l7 ?c7 ?k7 ?a8 ?l8 ?c8 ?k8 ?a9 ?l9 ?c9 ?k9 ?a10 ?l10 ?c10 ?k10 ?a11 ?l11 ?c11 ?k11 ?a12 ?l12 ?c12 ?k12 ?z_len ?z_abs ?z_int ?z_isinstance ?z_tuple ?z_list ?z_all ?z_zip ?z_str ?z_bool ?z_ValueError ?z_range ?z_min ?z_LookupError ?z_super
    (case e_w => k_is); (case e_0 => k_is); (case e_1 => k_is); (case e_2 => k_is); (case e_3 => k_is); (case e_4 => k_is); (case e_5 => k_is); (case e_6 => k_is); (case e_7 => k_is); (case e_w_ty => k_is); (case e_w_ic => k_is); (case e_w_sb => k_is); (case e_w_hd => k_is); (case e_0_ty => k_is); (case e_0_ic => k_is); (case e_0_hg => k_is); (case e_0_hk => k_is); (case e_0_sb => k_is); (case e_0_hd => k_is); (case e_0_ha => k_is); (case e_0_hm => k_is); (case e_0_ve => k_is); (case e_0_le => k_is); (case e_0_xw => k_is); (case e_0_kp => k_is); (case e_0_s0 => k_is); (case e_0_s1 => k_is); (case e_0_n1 => decide); (case e_0_s2 => k_is); (case e_0_n2 => decide); (case e_0_s3 => k_is); (case e_0_n3 => decide); (case e_0_s4 => k_is); (case e_0_n4 => decide); (case e_0_s5 => k_is); (case e_0_n5 => decide); (case e_0_s6 => k_is); (case e_0_n6 => decide); (case e_0_s7 => k_is); (case e_0_n7 => decide); (case e_0_nw => decide); (case e_1_ty => k_is); (case e_1_ic => k_is); (case e_1_hg => k_is); (case e_1_hk => k_is); (case e_1_sb => k_is); (case e_1_hd => k_is); (case e_1_ha => k_is); (case e_1_hm => k_is); (case e_1_ve => k_is); (case e_1_le => k_is); (case e_1_xw => k_is); (case e_1_kp => k_is); (case e_1_s0 => k_is); (case e_1_n0 => decide); (case e_1_s1 => k_is); (case e_1_s2 => k_is); (case e_1_n2 => decide); (case e_1_s3 => k_is); (case e_1_n3 => decide); (case e_1_s4 => k_is); (case e_1_n4 => decide); (case e_1_s5 => k_is); (case e_1_n5 => decide); (case e_1_s6 => k_is); (case e_1_n6 => decide); (case e_1_s7 => k_is); (case e_1_n7 => decide); (case e_1_nw => decide); (case e_2_ty => k_is); (case e_2_ic => k_is); (case e_2_hg => k_is); (case e_2_hk => k_is); (case e_2_sb => k_is); (case e_2_hd => k_is); (case e_2_ha => k_is); (case e_2_hm => k_is); (case e_2_ve => k_is); (case e_2_le => k_is); (case e_2_xw => k_is); (case e_2_kp => k_is); (case e_2_s0 => k_is); (case e_2_n0 => decide); (case e_2_s1 => k_is); (case e_2_n1 => decide); (case e_2_s2 => k_is); (case e_2_s3 => k_is); (case e_2_n3 => decide); (case e_2_s4 => k_is); (case e_2_n4 => decide); (case e_2_s5 => k_is); (case e_2_n5 => decide); (case e_2_s6 => k_is); (case e_2_n6 => decide); (case e_2_s7 => k_is); (case e_2_n7 => decide); (case e_2_nw => decide); (case e_3_ty => k_is); (case e_3_ic => k_is); (case e_3_hg => k_is); (case e_3_hk => k_is); (case e_3_sb => k_is); (case e_3_hd => k_is); (case e_3_ha => k_is); (case e_3_hm => k_is); (case e_3_ve => k_is); (case e_3_le => k_is); (case e_3_xw => k_is); (case e_3_kp => k_is); (case e_3_s0 => k_is); (case e_3_n0 => decide); (case e_3_s1 => k_is); (case e_3_n1 => decide); (case e_3_s2 => k_is); (case e_3_n2 => decide); (case e_3_s3 => k_is); (case e_3_s4 => k_is); (case e_3_n4 => decide); (case e_3_s5 => k_is); (case e_3_n5 => decide); (case e_3_s6 => k_is); (case e_3_n6 => decide); (case e_3_s7 => k_is); (case e_3_n7 => decide); (case e_3_nw => decide); (case e_3_xc => k_exc); (case e_4_ty => k_is); (case e_4_ic => k_is); (case e_4_hg => k_is); (case e_4_hk => k_is); (case e_4_sb => k_is); (case e_4_hd => k_is); (case e_4_ha => k_is); (case e_4_hm => k_is); (case e_4_ve => k_is); (case e_4_le => k_is); (case e_4_xw => k_is); (case e_4_kp => k_is); (case e_4_s0 => k_is); (case e_4_n0 => decide); (case e_4_s1 => k_is); (case e_4_n1 => decide); (case e_4_s2 => k_is); (case e_4_n2 => decide); (case e_4_s3 => k_is); (case e_4_n3 => decide); (case e_4_s4 => k_is); (case e_4_s5 => k_is); (case e_4_n5 => decide); (case e_4_s6 => k_is); (case e_4_n6 => decide); (case e_4_s7 => k_is); (case e_4_n7 => decide); (case e_4_nw => decide); (case e_4_xc => k_exc); (case e_5_ty => k_is); (case e_5_ic => k_is); (case e_5_hg => k_is); (case e_5_hk => k_is); (case e_5_sb => k_is); (case e_5_hd => k_is); (case e_5_ha => k_is); (case e_5_hm => k_is); (case e_5_ve => k_is); (case e_5_le => k_is); (case e_5_xw => k_is); (case e_5_kp => k_is); (case e_5_s0 => k_is); (case e_5_n0 => decide); (case e_5_s1 => k_is); (case e_5_n1 => decide); (case e_5_s2 => k_is); (case e_5_n2 => decide); (case e_5_s3 => k_is); (case e_5_n3 => decide); (case e_5_s4 => k_is); (case e_5_n4 => decide); (case e_5_s5 => k_is); (case e_5_s6 => k_is); (case e_5_n6 => decide); (case e_5_s7 => k_is); (case e_5_n7 => decide); (case e_5_nw => decide); (case e_5_xc => k_exc); (case e_6_ty => k_is); (case e_6_ic => k_is); (case e_6_hg => k_is); (case e_6_hk => k_is); (case e_6_sb => k_is); (case e_6_hd => k_is); (case e_6_ha => k_is); (case e_6_hm => k_is); (case e_6_ve => k_is); (case e_6_le => k_is); (case e_6_xw => k_is); (case e_6_kp => k_is); (case e_6_s0 => k_is); (case e_6_n0 => decide); (case e_6_s1 => k_is); (case e_6_n1 => decide); (case e_6_s2 => k_is); (case e_6_n2 => decide); (case e_6_s3 => k_is); (case e_6_n3 => decide); (case e_6_s4 => k_is); (case e_6_n4 => decide); (case e_6_s5 => k_is); (case e_6_n5 => decide); (case e_6_s6 => k_is); (case e_6_s7 => k_is); (case e_6_n7 => decide); (case e_6_nw => decide); (case e_6_xc => k_exc); (case e_7_ty => k_is); (case e_7_ic => k_is); (case e_7_hg => k_is); (case e_7_hk => k_is); (case e_7_sb => k_is); (case e_7_hd => k_is); (case e_7_ha => k_is); (case e_7_hm => k_is); (case e_7_ve => k_is); (case e_7_le => k_is); (case e_7_xw => k_is); (case e_7_kp => k_is); (case e_7_s0 => k_is); (case e_7_n0 => decide); (case e_7_s1 => k_is); (case e_7_n1 => decide); (case e_7_s2 => k_is); (case e_7_n2 => decide); (case e_7_s3 => k_is); (case e_7_n3 => decide); (case e_7_s4 => k_is); (case e_7_n4 => decide); (case e_7_s5 => k_is); (case e_7_n5 => decide); (case e_7_s6 => k_is); (case e_7_n6 => decide); (case e_7_s7 => k_is); (case e_7_nw => decide); (case e_7_xc => k_exc); (case e_hn => k_is); (case e_ht => k_is); (case hopB => k_is); (case htopB => (first | rfl | decide +kernel)); (case e_0_sa => k_is); (case e_0_nwf => k_is); (case e_0_ini => k_is); (case e_0_tf => k_is); (case xoB0 => k_is); (case xrB0 => decide +kernel); (case lB0 => k_is); (case cB0 => k_is); (case hcellB0 => k_is); (case hcodeB0 => k_is); (case hvsB0 => rfl); (case hfileB0 => (first | rfl | decide +kernel)); (case hsiB0 => ks_is); (case e_1_sa => k_is); (case e_1_nwf => k_is); (case e_1_ini => k_is); (case e_1_tf => k_is); (case xoB1 => k_is); (case xrB1 => decide +kernel); (case lB1 => k_is); (case cB1 => k_is); (case hcellB1 => k_is); (case hcodeB1 => k_is); (case hvsB1 => rfl); (case hfileB1 => (first | rfl | decide +kernel)); (case hsiB1 => ks_is); (case e_2_sa => k_is); (case e_2_nwf => k_is); (case e_2_ini => k_is); (case e_2_tf => k_is); (case xoB2 => k_is); (case xrB2 => decide +kernel); (case lB2 => k_is); (case cB2 => k_is); (case hcellB2 => k_is); (case hcodeB2 => k_is); (case hvsB2 => rfl); (case hfileB2 => (first | rfl | decide +kernel)); (case hsiB2 => ks_is); (case a0 => k_is); (case l0 => k_is); (case c0 => k_is); (case k0 => k_is); (case a1 => k_is); (case l1 => k_is); (case c1 => k_is); (case k1 => k_is); (case a2 => k_is); (case l2 => k_is); (case c2 => k_is); (case k2 => k_is); (case a3 => k_is); (case l3 => k_is); (case c3 => k_is); (case k3 => k_is); (case a4 => k_is); (case l4 => k_is); (case c4 => k_is); (case k4 => k_is); (case a5 => k_is); (case l5 => k_is); (case c5 => k_is); (case k5 => k_is); (case a6 => k_is); (case l6 => k_is); (case c6 => k_is); (case k6 => k_is); (case a7 => k_is); (case l7 => k_is); (case c7 => k_is); (case k7 => k_is); (case a8 => k_is); (case l8 => k_is); (case c8 => k_is); (case k8 => k_is); (case a9 => k_is); (case l9 => k_is); (case c9 => k_is); (case k9 => k_is); (case a10 => k_is); (case l10 => k_is); (case c10 => k_is); (case k10 => k_is); (case a11 => k_is); (case l11 => k_is); (case c11 => k_is); (case k11 => k_is); (case a12 => k_is); (case l12 => k_is); (case c12 => k_is); (case k12 => k_is); (case z_len => k_is); (case z_abs => k_is); (case z_int => k_is); (case z_isinstance => k_is); (case z_tuple => k_is); (case z_list => k_is); (case z_all => k_is); (case z_zip => k_is); (case z_str => k_is); (case z_bool => k_is); (case z_ValueError => k_is); (case z_range => k_is); (case z_min => k_is); (case z_LookupError => k_is); (case z_super => k_is)
