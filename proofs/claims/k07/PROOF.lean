import PyProof.Rows.All
import Wide.All
import OpenK.AllK
import Wide.FinOn
import HandS.Base
import HandS.Call
import HandS.List
import HandS.Comp
import HandS.Ends
import HandS.Iter
import HandS.Text
import HandS.Words
import HandS.WordsList
import HandS.IsInst
import HandS.Style
import HandS.Walk
import HandS.Defaults
import HandS.TupMul
import HandS.Zip
import HandS.MakeKw
import PySem.Challenge.RW_partwares_k07_what_is_kept
set_option Elab.async false
set_option linter.all false
set_option maxRecDepth 100000
namespace Pw
open PySem PySem.Spec PyProof.Rows L2
/-! ### a def of the text by its promise, its address left aside -/
structure CF (P : Program) (w : World) (K : PySem.W.Frag) (mg : Str → Option Value) (base : Heap) (k : Nat) (x : Str) (ps : List Str) (sp : Sp) : Prop where
  ex : ∃ (f : Addr) (fd : FuncData), FnOk P w K mg base CX0 k f fd ps sp ∧ mg x = some (.ref f) ∧ PySem.W.keepIn K (.ref f) = true ∧ Binds K fd ps []
theorem pe_cf {X : Cx} {k : Nat} {x : Str} {ps : List Str} {sp : Sp} {e : Expr} {es : List Expr} {t : TA} {p pos : Pos} (C : CF X.prog X.w X.K X.mg X.base k x ps sp) (hr : Room k X.A) (hg : Gl X x) (ha : PA X (e :: es) t)
    (hdb : (x == ("__debug__" : Str)) = false := by decide) (he : starEach (e :: es) X.env = (false, eval e X.env) :: starEach es X.env := by rfl) (hpl : (backTo pos (starEach es X.env)).any (·.1) = false := by rfl) :
    PE X (.Call (.Name x p) (e :: es) [] pos) (tCall sp [] E0 t) := by
  obtain ⟨f, fd, F, g, kp, b⟩ := C.ex
  exact pe_call F hr hg g kp b .nil pass0 ha hdb he hpl
/-! ### the rules with their written part named (within a comprehension it must not hang on the block) -/
section
variable (K : PySem.W.Frag) {X : Cx}
theorem kk_isi (h : X.K = K := by rfl) : CallR X (.builtin "isinstance") (rIsi K) := h ▸ call_isi
theorem kk_isiT (h : X.K = K := by rfl) : CallR X (.builtin "isinstance") (rIsiT K) := h ▸ call_isiT
theorem kk_len (h : X.K = K := by rfl) : CallR X (.builtin "len") (fun xs H Q => ∃ p ys, xs = [.ref p] ∧ (SqL K H p ys ∨ SqT K H p ys) ∧ Q (.int ys.length) H) := h ▸ call_len_seq
theorem kk_list (h : X.K = K := by rfl) : CallR X (.type "list") (fun xs H Q => ∃ p ys, xs = [.ref p] ∧ (SqL K H p ys ∨ SqT K H p ys) ∧ ∀ l, H l = none → Q (.ref l) (upd H l (.lst ys))) := h ▸ call_list_of
theorem kk_tuple (h : X.K = K := by rfl) : CallR X (.type "tuple") (fun xs H Q => ∃ p ys, xs = [.ref p] ∧ ((SqL K H p ys ∧ ∀ l, H l = none → Q (.ref l) (upd H l (.tup ys))) ∨ (SqT K H p ys ∧ Q (.ref p) H))) := h ▸ call_tuple_of
theorem kk_sum (hc : X.calm = true) (h : X.K = K := by rfl) : CallR X (.builtin "sum") (rSum K) := h ▸ cr_sum hc
theorem kk_max (hc : X.calm = true) (h : X.K = K := by rfl) : CallR X (.builtin "max") (rMax K) := h ▸ cr_max hc
theorem kk_min (hc : X.calm = true) (h : X.K = K := by rfl) : CallR X (.builtin "min") (rMin K) := h ▸ cr_min hc
theorem kk_any (hc : X.calm = true) (h : X.K = K := by rfl) : CallR X (.builtin "any") (rAny K) := h ▸ cr_any hc
theorem kk_all (hc : X.calm = true) (h : X.K = K := by rfl) : CallR X (.builtin "all") (rAll K) := h ▸ cr_all hc
theorem kk_sorted (h : X.K = K := by rfl) : CallR X (.builtin "sorted") (rSorted K) := h ▸ cr_sorted
theorem kk_ixl (h : X.K = K := by rfl) : IxR X (rIxL K) := h ▸ ix_list
theorem kk_ixt (h : X.K = K := by rfl) : IxR X (rIxT K) := h ▸ ix_tup
theorem kk_sll (h : X.K = K := by rfl) : SlR X (rSlL K) := h ▸ sl_list
theorem kk_slt (h : X.K = K := by rfl) : SlR X (rSlT K) := h ▸ sl_tup
theorem kk_in (h : X.K = K := by rfl) : OpR X (compareOp .In) (rIn K false) := h ▸ op_in_seq
theorem kk_nin (h : X.K = K := by rfl) : OpR X (compareOp .NotIn) (rIn K true) := h ▸ op_notIn_seq
theorem kk_catT (h : X.K = K := by rfl) : OpR X (binaryOp .Add) (rCatT K) := h ▸ op_catT
theorem kk_eqD (hu : X.A.units + 64 < cLine) (h : X.K = K := by rfl) : OpR X (compareOp .Eq) (rEqD K) := h ▸ op_eqD hu
theorem kk_neD (hu : X.A.units + 64 < cLine) (h : X.K = K := by rfl) : OpR X (compareOp .NotEq) (rNeD K) := h ▸ op_neD hu
theorem kk_revL {e : Expr} {te : TE} {k : Nat} {p1 p2 p3 pos : Pos} (he : PE X e te) (h : X.K = K := by rfl) : PE X (.Subscript e (.Slice none none (some (.UnaryOp .USub (.Constant (.int 1) k p1) p2)) p3) pos) (tRevL K te) := h ▸ pe_revL he
end
/-! ### heaps: all as it was, but one place -/
def But (b : Addr) (H H' : Hp) : Prop := ∀ c o, c ≠ b → H c = some o → H' c = some o
theorem But.refl (b : Addr) (H : Hp) : But b H H := fun _ _ _ h => h
theorem But.trans {b : Addr} {H H1 H2 : Hp} (x : But b H H1) (y : But b H1 H2) : But b H H2 := fun c o n h => y c o n (x c o n h)
theorem But.of {b : Addr} {H H1 : Hp} (x : Same H H1) : But b H H1 := fun c o _ h => x c o h
theorem But.upd {b : Addr} {H : Hp} {o : HO} : But b H (L2.upd H b o) := fun c u n h => by
  rw [upd_ne n]
  exact h
theorem But.new {b p : Addr} {H : Hp} {o : HO} (h : H p = none) : But b H (L2.upd H p o) := fun c u _ e => by
  rw [upd_ne (ne_of_none e h)]
  exact e
theorem same_new {H : Hp} {p : Addr} {o : HO} (h : H p = none) : Same H (upd H p o) := fun b x e => by
  rw [upd_ne (ne_of_none e h)]
  exact e
theorem But.seq {K : PySem.W.Frag} {b a : Addr} {H H' : Hp} {xs : List V} (e : But b H H') (n : a ≠ b) (h : SqL K H a xs) : SqL K H' a xs := by
  rcases h with (h | ⟨o, h⟩) | h
  · exact .inl (.inl (e _ _ n h))
  · exact .inl (.inr ⟨o, e _ _ n h⟩)
  · exact .inr h
/-! ### the law's box of three numbers -/
def Box (H : Hp) (b : Addr) (n : Int) : Prop := ∃ x y z : Int, H b = some (.lst [.int x, .int y, .int z]) ∧ 0 ≤ x ∧ 0 ≤ y ∧ y ≤ 3000000000 ∧ 0 ≤ z ∧ z ≤ n
theorem Box.mono {H : Hp} {b : Addr} {n m : Int} (h : Box H b n) (l : n ≤ m) : Box H b m := by
  obtain ⟨x, y, z, h0, h1, h2, h3, h4, h5⟩ := h
  exact ⟨x, y, z, h0, h1, h2, h3, h4, by omega⟩
theorem Box.same {H H' : Hp} {b : Addr} {n : Int} (e : Same H H') (h : Box H b n) : Box H' b n := by
  obtain ⟨x, y, z, h0, h1⟩ := h
  exact ⟨x, y, z, e _ _ h0, h1⟩
theorem Box.new {H : Hp} {b p : Addr} {o : HO} {n : Int} (h : Box H b n) (e : H p = none) : Box (upd H p o) b n := h.same (same_new e)
theorem Box.ne {H : Hp} {b p : Addr} {n : Int} (h : Box H b n) (e : H p = none) : p ≠ b := fun z => by
  obtain ⟨_, _, _, h0, _⟩ := h
  rw [z, h0] at e
  cases e
section
variable {K : PySem.W.Frag}
theorem at_int {ns : List Int} {k : Int} (h0 : 0 ≤ k) (h1 : k < ns.length) : ∃ c, atI (ns.map V.int) k = some (.int c) := by
  obtain ⟨j, rfl⟩ := Int.eq_ofNat_of_zero_le h0
  have hj : j < ns.length := by omega
  refine ⟨ns[j], atI_nat ?_⟩
  rw [List.getElem?_map, List.getElem?_eq_getElem hj]
  rfl
def partsL (p m : Int) : List Int := List.replicate (p % m).toNat (p / m + 1) ++ List.replicate (m - p % m).toNat (p / m)
theorem rep1 {α : Type} (k : Nat) (x : α) : (List.replicate k [x]).flatten = List.replicate k x := by
  induction k with
  | zero => rfl
  | succ n ih => rw [List.replicate_succ, List.flatten_cons, ih]; rfl
theorem size_small {n : Nat} (h : n ≤ 1000) : n ≤ sizeLine := Nat.le_of_lt (small1000 h)
theorem iteN {c A B : Prop} [Decidable c] (hc : ¬ c) (h : B) : if decide c = true then A else B := by
  rw [decide_eq_false hc]
  exact iteF h
theorem iteY {c A B : Prop} [Decidable c] (hc : c) (h : A) : if decide c = true then A else B := by
  rw [decide_eq_true hc]
  exact iteT h
theorem same_but {b : Addr} {H0 H1 H2 : Hp} (s : Same H0 H1) (n : H0 b = none) (t : But b H1 H2) : Same H0 H2 := fun c o h => t c o (fun e => by rw [e, n] at h; cases h) (s c o h)
theorem dpAll_ints {H : Hp} : ∀ ns : List Int, DpAll K H (ns.map V.int) (ns.map PyData.int)
  | [] => .nil
  | n :: r => .cons (.int n) (dpAll_ints r)
theorem dp_ints {H : Hp} {a : Addr} {ns : List Int} (h : SqL K H a (ns.map V.int)) : Dp K H (.ref a) (.list (ns.map PyData.int)) := .lst h (dpAll_ints ns)
theorem lay_ints : ∀ ns : List Int, PyData.canLayAll0 (ns.map PyData.int) = true
  | [] => by simp [PyData.canLayAll0]
  | n :: r => by simp [PyData.canLayAll0, PyData.canLay0, lay_ints r]
theorem depth_ints : ∀ ns : List Int, PyData.depthAll (ns.map PyData.int) ≤ 1
  | [] => by simp [PyData.depthAll]
  | n :: r => by
    have h := depth_ints r
    simp only [List.map_cons, PyData.depthAll, PyData.depth]
    omega
theorem sh_ints (ns : List Int) : SeqAt.shaped (.list (ns.map PyData.int)) = true := by
  have h1 := depth_ints ns
  have h2 : PyData.depth (.list (ns.map PyData.int)) ≤ 64 := by
    simp only [PyData.depth]
    omega
  show (PyData.canLay0 (.list (ns.map PyData.int)) && decide (PyData.depth (.list (ns.map PyData.int)) ≤ 64)) = true
  rw [Bool.and_eq_true]
  exact ⟨by simp only [PyData.canLay0]; exact lay_ints ns, decide_eq_true h2⟩
theorem eqv_same (ns : List Int) : PyData.eqv (.list (ns.map PyData.int)) (.list (ns.map PyData.int)) = true := SeqAt.eqv_refl _ (SeqAt.canLay_of_shaped (sh_ints ns))

theorem sum_rep (k : Nat) (x : Int) : (List.replicate k x).sum = k * x := by
  induction k with
  | zero => simp
  | succ n ih =>
    rw [List.replicate_succ, List.sum_cons, ih, Int.natCast_add, Int.add_mul]
    omega
theorem parts_len {p m : Int} (hm : 1 ≤ m) : ((partsL p m).length : Int) = m := by
  have hr0 := Int.emod_nonneg p (show m ≠ 0 by omega)
  have hr1 := Int.emod_lt_of_pos p (show 0 < m by omega)
  unfold partsL
  rw [List.length_append, List.length_replicate, List.length_replicate]
  omega
theorem parts_sum {p m : Int} (hm : 1 ≤ m) : (partsL p m).sum = p := by
  have hr0 := Int.emod_nonneg p (show m ≠ 0 by omega)
  have hr1 := Int.emod_lt_of_pos p (show 0 < m by omega)
  have e := Int.mul_ediv_add_emod p m
  unfold partsL
  rw [List.sum_append, sum_rep, sum_rep, Int.toNat_of_nonneg hr0, Int.toNat_of_nonneg (by omega), Int.sub_mul, Int.mul_add]
  omega
theorem parts_mem {p m x : Int} (h : x ∈ partsL p m) : x = p / m + 1 ∨ x = p / m := by
  unfold partsL at h
  rcases List.mem_append.mp h with h | h
  · exact .inl (List.eq_of_mem_replicate h)
  · exact .inr (List.eq_of_mem_replicate h)
theorem parts_fall (p m : Int) : (partsL p m).Pairwise (fun a b => b ≤ a) := by
  unfold partsL
  refine List.pairwise_append.mpr ⟨List.pairwise_replicate.mpr (.inr (Int.le_refl _)), List.pairwise_replicate.mpr (.inr (Int.le_refl _)), fun a ha b hb => ?_⟩
  rw [List.eq_of_mem_replicate ha, List.eq_of_mem_replicate hb]
  omega
theorem parts_sorted {p m : Int} {ns : List Int} (h : ns.Perm (partsL p m)) (hs : ns.Pairwise (· ≤ ·)) : ns.reverse = partsL p m := by
  refine List.Perm.eq_of_pairwise (le := fun a b => b ≤ a) (fun x y _ _ h1 h2 => Int.le_antisymm h2 h1) ?_ (parts_fall p m) ((List.reverse_perm ns).trans h)
  exact List.pairwise_reverse.mpr hs
theorem ends_of {ns : List Int} (h : 0 < ns.length) : ∃ x y, x ∈ ns ∧ y ∈ ns ∧ atI (ns.map V.int) 0 = some (.int x) ∧ atI (ns.map V.int) (-1) = some (.int y) := by
  cases ns with
  | nil => cases h
  | cons x r =>
    refine ⟨x, (x :: r).getLast (List.cons_ne_nil _ _), List.mem_cons_self, List.getLast_mem _, atI_nat (j := 0) rfl, ?_⟩
    have hz : ((x :: r).map V.int) = ((x :: r).dropLast.map V.int) ++ [.int ((x :: r).getLast (List.cons_ne_nil _ _))] := by
      rw [← List.map_singleton, ← List.map_append, List.dropLast_concat_getLast]
    rw [hz]
    exact atI_last _ _
theorem all_true (n : Nat) : (List.replicate n true).all id = true := by
  induction n with
  | zero => rfl
  | succ k ih => rw [List.replicate_succ, List.all_cons, ih]; rfl
theorem pick6 {r x : Int} (h0 : 0 ≤ r) (h1 : r < 6) (x0 : 0 ≤ x) (x1 : x ≤ 100) : ∃ c : Int, atI [V.int 0, .int 1, .int 50, .int 99, .int 100, .int x] r = some (.int c) ∧ 0 ≤ c ∧ c ≤ 100 := by
  have h : r = 0 ∨ r = 1 ∨ r = 2 ∨ r = 3 ∨ r = 4 ∨ r = 5 := by omega
  rcases h with rfl | rfl | rfl | rfl | rfl | rfl
  · exact ⟨0, rfl, by decide, by decide⟩
  · exact ⟨1, rfl, by decide, by decide⟩
  · exact ⟨50, rfl, by decide, by decide⟩
  · exact ⟨99, rfl, by decide, by decide⟩
  · exact ⟨100, rfl, by decide, by decide⟩
  · exact ⟨x, rfl, x0, x1⟩
end
end Pw
namespace Pw
open PySem PySem.Spec PyProof.Rows L2
/-! ### texts and data -/
theorem op_mul_str {X : Cx} : OpR X (binaryOp .Mult) (fun x y H Q => ∃ (z : Str) (k : Int), x = .str z ∧ y = .int k ∧ MulOk z k ∧ Q (.str (Txt.mul z k)) H) := by
  intro pins s σ H x y v u Q I rx ry h
  obtain ⟨z, k, rfl, rfl, ok, q⟩ := h
  obtain ⟨t, rfl⟩ := rx
  obtain ⟨t', rfl⟩ := ry
  exact SB.mul ok fun t' tk => ⟨.str _, H, I.tok _, ⟨_, rfl⟩, q⟩
theorem len_app (x y : Str) : (x ++ y).length = x.length + y.length := by
  rw [TL.len_tl, TL.tl_append, List.length_append, ← TL.len_tl, ← TL.len_tl]
def tyD : PyData → String
  | .none => "NoneType"
  | .bool _ => "bool"
  | .int _ => "int"
  | .str _ => "str"
  | .list _ => "list"
  | .tuple _ => "tuple"
  | .dict _ => "dict"
theorem ty_of_dp {K : PySem.W.Frag} {H : Hp} {x : V} {d : PyData} (h : Dp K H x d) : TyX K H x (.type (tyD d)) := by
  cases h with
  | non => exact .base .non
  | bl b => exact .base (.bl b)
  | int i => exact .base (.int i)
  | str z => exact .base (.str z)
  | lst a _ =>
    rcases a with (a | ⟨o, a⟩) | ⟨o, its, n, a, c, _⟩
    · exact .base (.lst a)
    · exact .base (.frz a)
    · exact .kList a c
  | tup a _ =>
    rcases a with (a | ⟨o, a⟩) | ⟨o, its, n, a, c, _⟩
    · exact .base (.tup a)
    · exact .fTuple a
    · exact .kTuple a c
theorem seqT_same {K : PySem.W.Frag} {H H' : Hp} {a : Addr} {xs : List V} (e : Same H H') (h : SqT K H a xs) : SqT K H' a xs := by
  rcases h with (h | ⟨o, h⟩) | h
  · exact .inl (.inl (e _ _ h))
  · exact .inl (.inr ⟨o, e _ _ h⟩)
  · exact .inr h
mutual
theorem dp_same {K : PySem.W.Frag} {H H' : Hp} (e : Same H H') : ∀ {x : V} {d : PyData}, Dp K H x d → Dp K H' x d
  | _, _, .non => .non
  | _, _, .bl b => .bl b
  | _, _, .int i => .int i
  | _, _, .str z => .str z
  | _, _, .lst a b => .lst (e.seq a) (dpAll_same e b)
  | _, _, .tup a b => .tup (seqT_same e a) (dpAll_same e b)
theorem dpAll_same {K : PySem.W.Frag} {H H' : Hp} (e : Same H H') : ∀ {xs : List V} {ds : List PyData}, DpAll K H xs ds → DpAll K H' xs ds
  | _, _, .nil => .nil
  | _, _, .cons a b => .cons (dp_same e a) (dpAll_same e b)
end
/-- the heap without the place b -/
def wo (b : Addr) (H : Hp) : Hp := fun c => if c = b then none else H c
theorem wo_sub (b : Addr) (H : Hp) : Same (wo b H) H := fun c o h => by
  unfold wo at h
  split at h
  · cases h
  · exact h
theorem wo_but {b : Addr} {H H' : Hp} (t : But b H H') : Same (wo b H) (wo b H') := fun c o h => by
  unfold wo at h ⊢
  split at h
  · cases h
  · rename_i n
    rw [if_neg n]
    exact t c o n h
theorem wo_same {b : Addr} {H H' : Hp} (t : Same H H') : Same (wo b H) (wo b H') := wo_but (But.of t)
theorem wo_at {b c : Addr} {H : Hp} {o : HO} (n : c ≠ b) (h : H c = some o) : wo b H c = some o := by
  unfold wo
  rw [if_neg n]
  exact h
def Asc (s : Str) : Prop := ∀ c ∈ TL.tl s, c < 128
theorem Asc.app {x y : Str} (hx : Asc x) (hy : Asc y) : Asc (x ++ y) := fun c hc => by
  rw [TL.tl_append] at hc
  rcases List.mem_append.mp hc with h | h
  · exact hx c h
  · exact hy c h
theorem Asc.cut {x : Str} {lo hi : Option Int} (hx : Asc x) : Asc (cutS x lo hi) := fun c hc => hx c (List.mem_of_mem_drop (List.mem_of_mem_take hc))
theorem Asc.one {c : Nat} (h : c < 128) : Asc ⟨#[c]⟩ := fun d hd => by
  rw [List.mem_singleton.mp (show d ∈ [c] from hd)]
  exact h
/-! ### kinds of data -/
def isT (T t : String) : Bool := decide (t = T) || (decide (T = "int") && decide (t = "bool"))
abbrev isK (T : String) (d : PyData) : Bool := isT T (tyD d)
theorem kit_t : ∀ t ∈ ["NoneType", "bool", "int", "str", "list", "tuple", "dict"], ∀ T ∈ ["int", "bool", "str", "list", "tuple"], kitB t T = some (isT T t) := by decide +kernel
theorem ty_mem (d : PyData) : tyD d ∈ ["NoneType", "bool", "int", "str", "list", "tuple", "dict"] := by
  cases d <;> simp [tyD]
theorem kit_d {K : PySem.W.Frag} {T : String} (hT : T ∈ ["int", "bool", "str", "list", "tuple"]) (d : PyData) : PySem.W.kitOne K (.type (tyD d)) (.type T) = some (isK T d) := kit_ty (kit_t _ (ty_mem d) T hT)
theorem sh_int (i : Int) : SeqAt.shaped (.int i) = true := by
  show (PyData.canLay0 (.int i) && decide (PyData.depth (.int i) ≤ 64)) = true
  simp [PyData.canLay0, PyData.depth]
theorem tuple_mul1 (l : Addr) (items : Array Value) (n : Nat) (dd : Option Addr) (sl : Array (Option Value)) (u : Tok) (hne : items.isEmpty = false) :
    Meets (Builtin.«tuple.__mul__» ⟨[.ref l, .int 1 u], []⟩) (fun _ R s => s.heap.get? l = some { cls := .type "tuple", dict := dd, data := .seq items n, slots := sl } ∧ R (.ok (.ret (Value.ref l))) s) :=
  .of_wp fun prog w A R s h => by
    obtain ⟨hp, g, d, tk, os⟩ := s
    obtain ⟨hl, h⟩ := h
    have f1 := AutoSeq1.idx_int
    wp_walk using wpAny_loadPart' hl
    exact ⟨_, rfl, h⟩
theorem op_rep1 {X : Cx} : OpR X (binaryOp .Mult) (fun x y H Q => ∃ (l : Addr) (xs : List V), x = .ref l ∧ y = .int 1 ∧ SqT X.K H l xs ∧ xs ≠ [] ∧ Q (.ref l) H) := by
  intro pins s σ H x y v u Q I rx ry h
  obtain ⟨l, xs, rfl, rfl, hT, hne, q⟩ := h
  cases rx
  obtain ⟨t, rfl⟩ := ry
  obtain ⟨its, r, ⟨⟨cls, dd, data, sl⟩, ho, hc, n, hd⟩, hs⟩ := I.tuple hT
  simp only at hc hd
  subst hc hd
  have hi : its.toArray.isEmpty = false := by
    cases its with
    | nil => exact absurd (List.eq_nil_of_length_eq_zero (r.length.trans rfl)) hne
    | cons a b => rfl
  refine wpAny_binaryOp_repeat_ref (T := "tuple") (U := "int") (by decide) ⟨_, ho, rfl⟩ (fun s' => typeIs_int s' 1 t) noFill_tuple_mul F.fills_int_mul F.slot_int_rmul repeat_tuple F.slot_int_index.lookup
    (call_meets F.slot_int_rmul (typeIs_int s 1 t) F.entry_int_rmul (F.args_int_rmul_2 _ _) (int_rmul_tuple 1 t l its.toArray n dd sl)
      ⟨ho, rfl, ⟨_, ho, rfl⟩, call_meets F.slot_tuple_mul ⟨_, ho, rfl⟩ F.entry_tuple_mul (F.args_tuple_mul_2 _ _) (tuple_mul1 l its.toArray n dd sl t hi) ⟨ho, ?_⟩⟩)
  exact ⟨.ref l, H, I, rfl, q⟩
def rRepA (K : PySem.W.Frag) : R2 := fun x y H Q => rRepT K x y H Q ∨ ∃ (l : Addr) (xs : List V), x = .ref l ∧ y = .int 1 ∧ SqT K H l xs ∧ xs ≠ [] ∧ Q (.ref l) H
theorem kk_repA (K : PySem.W.Frag) {X : Cx} (h : X.K = K := by rfl) : OpR X (binaryOp .Mult) (rRepA K) := h ▸ OpR.or op_repT op_rep1
/-! ### classes: a method, the making of an instance, by their promises -/
structure CMt (P : Program) (w : World) (K : PySem.W.Frag) (mg : Str → Option Value) (base : Heap) (C : Addr) (k : Nat) (m : Str) (ps : List Str) (dvs : List V) (sp : Sp) : Prop where
  ex : ∃ (f : Addr) (fd : FuncData) (ds : List Value), FnOk P w K mg base CX0 k f fd ps sp ∧ Meth K C m f ∧ Vals dvs ds ∧ Binds K fd ps ds
structure CMk (P : Program) (w : World) (K : PySem.W.Frag) (mg : Str → Option Value) (base : Heap) (C : Addr) (k : Nat) (x : Str) (ps : List Str) (dvs : List V) (sp : Sp) : Prop where
  ex : ∃ (f : Addr) (fd : FuncData) (ds : List Value), FnOk P w K mg base CX0 k f fd ps sp ∧ Mk K C f ∧ mg x = some (.ref C) ∧ Vals dvs ds ∧ Binds K fd ps ds
section
variable {X : Cx} {k : Nat} {C : Addr} {x m : Str} {ps : List Str} {dvs : List V} {sp : Sp} {p pos apos : Pos} {e o : Expr} {es : List Expr} {ta : TE} {t : TA}
theorem pe_mt {pl : Sem Bool} (M : CMt X.prog X.w X.K X.mg X.base C k m ps dvs sp) (c : Cls X.K C) (hr : Room k X.A) (he : PE X o ta) (ha : PA X (e :: es) t)
    (hst : starEach (e :: es) X.env = (false, eval e X.env) :: starEach es X.env := by rfl) (hpl : (backTo pos (starEach es X.env)).any (·.1) = false := by rfl)
    (ht : eval (.Call (.Attribute o m apos) (e :: es) [] pos) X.env = (do
      let ov ← eval o X.env
      standAt apos.atName
      let (f, first) ← holding [ov] (getMethod ov m pl)
      callWith pos f first (backTo pos (starEach (e :: es) X.env)) (backToKw pos (keywordEach [] X.env))) := by rfl) :
    PE X (.Call (.Attribute o m apos) (e :: es) [] pos) (tMeth C m sp dvs E0 ta t) := by
  obtain ⟨f, fd, ds, F, me, vd, b⟩ := M.ex
  exact pe_meth (pl := pl) he c me F hr b vd pass0 ha hst hpl ht
theorem pe_mt0 {pl : Sem Bool} (M : CMt X.prog X.w X.K X.mg X.base C k m ps dvs sp) (c : Cls X.K C) (hr : Room k X.A) (he : PE X o ta)
    (ht : eval (.Call (.Attribute o m apos) [] [] pos) X.env = (do
      let ov ← eval o X.env
      standAt apos.atName
      let (f, first) ← holding [ov] (getMethod ov m pl)
      callWith pos f first (backTo pos (starEach [] X.env)) (backToKw pos (keywordEach [] X.env))) := by rfl) :
    PE X (.Call (.Attribute o m apos) [] [] pos) (tMeth C m sp dvs E0 ta tNil) := by
  obtain ⟨f, fd, ds, F, me, vd, b⟩ := M.ex
  exact pe_meth0 (pl := pl) he c me F hr b vd pass0 ht
theorem pe_mkc (M : CMk X.prog X.w X.K X.mg X.base C k x ps dvs sp) (hr : Room (k + 1) X.A) (hg : Gl X x) (ha : PA X (e :: es) t)
    (hdb : (x == ("__debug__" : Str)) = false := by decide) (he : starEach (e :: es) X.env = (false, eval e X.env) :: starEach es X.env := by rfl) (hpl : (backTo pos (starEach es X.env)).any (·.1) = false := by rfl) :
    PE X (.Call (.Name x p) (e :: es) [] pos) (tMake C sp dvs E0 t) := by
  obtain ⟨f, fd, ds, F, mk, g, vd, b⟩ := M.ex
  exact pe_make mk F hr hg g b vd pass0 ha hdb he hpl
end
/-! ### o.m(e, .., k = v) -/
structure CMtK (P : Program) (w : World) (K : PySem.W.Frag) (mg : Str → Option Value) (base : Heap) (C : Addr) (k : Nat) (m : Str) (ps : List Str) (n : Nat) (ks : List Str) (gV : List V → List V → List V) (sp : Sp) : Prop where
  ex : ∃ (f : Addr) (fd : FuncData) (g : List Value → List Value → List Value), FnOk P w K mg base CX0 k f fd ps sp ∧ Meth K C m f ∧ KBn K fd ps n ks g gV
def tMethK (C : Addr) (m : Str) (n j : Nat) (sp : Sp) (gV : List V → List V → List V) (ta : TE) (t tk : TA) : TE := fun σ H Q => ta σ H fun x H1 => ∃ (a dx : Addr) (fs : List (Str × V)), x = .ref a ∧ H1 a = some (.ins C dx fs) ∧ fs.lookup m = none ∧
  t σ H1 fun vs H2 => tk σ H2 fun zs H3 => (x :: vs).length = n ∧ zs.length = j ∧ sp (gV (x :: vs) zs) H3 Q E0
theorem pe_mtK {X : Cx} {k n : Nat} {C : Addr} {m : Str} {ps ks : List Str} {sp : Sp} {gV : List V → List V → List V} {pos apos : Pos} {e o : Expr} {es : List Expr} {kws : List Keyword} {ta : TE} {t tk : TA} {pl : Sem Bool}
    (M : CMtK X.prog X.w X.K X.mg X.base C k m ps n ks gV sp) (c : Cls X.K C) (hr : Room k X.A) (he : PE X o ta) (ha : PA X (e :: es) t) (hkw : PK X kws tk)
    (hall : (backToKw pos (keywordEach kws X.env)).all (·.1.isSome) = true := by rfl) (hks : (backToKw pos (keywordEach kws X.env)).filterMap (·.1) = ks := by rfl)
    (hst : starEach (e :: es) X.env = (false, eval e X.env) :: starEach es X.env := by rfl)
    (hpl : ((backTo pos (starEach (e :: es) X.env)).any (·.1) || (backToKw pos (keywordEach kws X.env)).any (·.1.isNone)) = false := by rfl)
    (ht : eval (.Call (.Attribute o m apos) (e :: es) kws pos) X.env = (do
      let ov ← eval o X.env
      standAt apos.atName
      let (f, first) ← holding [ov] (getMethod ov m pl)
      callWith pos f first (backTo pos (starEach (e :: es) X.env)) (backToKw pos (keywordEach kws X.env))) := by rfl) :
    PE X (.Call (.Attribute o m apos) (e :: es) kws pos) (tMethK C m n ks.length sp gV ta t tk) := by
  obtain ⟨f, fd, g, F, me, b⟩ := M.ex
  constructor
  intro pins s σ H Q I h
  refine PySem.W.methodCall_KW (pl := pl) (thn (he.run pins s σ H _ I h) ?_) ht
  rintro u s1 ⟨x, H1, I1, rx, a, dx, fs, rfl, ea, l, q⟩
  cases (show u = Value.ref a from rx)
  refine getmeth_ok I1 ea c me l ?_
  refine PySem.W.callWith_KW (first := [.ref a]) (h₀ := X.base) I.ok.mod.kin me.kp hall (thn (ha.run pos pins s1 σ H1 _ I1 q) ?_) hpl hst
  rintro us s2 ⟨vs, H2, I2, r, q2⟩
  refine thn (hkw.run pos pins s2 σ H2 _ I2 q2) ?_
  rintro ws s3 ⟨zs, H3, I3, rz, l1, l2, q3⟩
  refine ⟨I3.kIn, ?_⟩
  rw [hks]
  exact run_fnN (us := .ref a :: us) (vs := .ref a :: vs) F hr b pass0 I3 (.cons rfl r) rz l1 l2 q3
theorem okD {P : Program} {w : World} {K : PySem.W.Frag} {mg : Str → Option Value} {base : Heap} {x qual : Str} {params : Arguments} {body : List Stmt} {scope : Scope} {dvs : List V} {kws : List (Str × V)} {f : Addr} {fd : FuncData} {N ps : List Str} {k : Nat} {sp : Sp}
    (F : FunD K x qual params body scope dvs kws f fd) (S : FnScope N ps scope) (len : ∀ vs H Q E, sp vs H Q E → vs.length = ps.length)
    (walk : ∀ (cdv : Value) (A : Around) (outer : List Env) (s : Shared) (H : Hp) (vs : List V) (Q : VK) (E : XK), Room k (A.deeper (envOfC qual scope s.heap.objs.size f cdv)) → sp vs H Q E →
      ∃ t, PSs (cxOf CX0 P w K mg base N qual scope f cdv A outer s H E).nox body t ∧ t { nx := fun _ H' => Q .non H', rt := Q } (start N vs) H) : FnOk P w K mg base CX0 (k + 1) f fd ps sp := by
  refine F.ok S len (fun cdv A outer s H vs Q E hr h => ?_)
  obtain ⟨t, ht, q⟩ := walk cdv A outer s H vs Q E hr h
  exact ⟨t, ht.nox, q⟩
/-! ### numbers in bounds, what is kept -/
def numIn : PyData → Int → Int → Bool
  | .int i, lo, hi => decide (lo ≤ i) && decide (i ≤ hi)
  | _, _, _ => false
def keptOk : PyData → PyData → Bool
  | .tuple ds, e => PyData.eqv (.int (ds.length : Int)) e && ds.all fun d => numIn d 0 100
  | d, _ => numIn d 0 100
def firstWrong (ws : List (Str × Bool)) : V := match ws.find? (fun p => !p.2) with
  | some p => .str p.1
  | none => .non
theorem firstWrong_at {ws : List (Str × Bool)} {i : Nat} {w : Str} (h : ∀ p ∈ ws.take i, p.2 = true) (hi : ws[i]? = some (w, false)) : firstWrong ws = .str w := by
  have hs : ws = ws.take i ++ (w, false) :: ws.drop (i + 1) := by
    obtain ⟨hl, he⟩ := List.getElem?_eq_some_iff.mp hi
    rw [← he, List.getElem_cons_drop, List.take_append_drop]
  unfold firstWrong
  rw [hs, List.find?_append, List.find?_eq_none.mpr (fun p hp => by rw [h p hp]; decide)]
  rfl
theorem firstWrong_none {ws : List (Str × Bool)} (h : ∀ p ∈ ws, p.2 = true) : firstWrong ws = .non := by
  unfold firstWrong
  rw [List.find?_eq_none.mpr (fun p hp => by rw [h p hp]; decide)]
theorem dpAll_len {K : PySem.W.Frag} {H : Hp} : ∀ {xs : List V} {ds : List PyData}, DpAll K H xs ds → xs.length = ds.length
  | _, _, .nil => rfl
  | _, _, .cons _ b => by rw [List.length_cons, List.length_cons, dpAll_len b]
theorem dpAll_get {K : PySem.W.Frag} {H : Hp} : ∀ {xs : List V} {ds : List PyData} {i : Nat} {x : V}, DpAll K H xs ds → xs[i]? = some x → ∃ d, ds[i]? = some d ∧ Dp K H x d
  | _, _, 0, _, .cons a _, h => ⟨_, rfl, by cases (Option.some.inj h); exact a⟩
  | _, _, i + 1, _, .cons _ b, h => dpAll_get (i := i) b h
  | _, _, _, _, .nil, h => by simp at h
/-! ### a block over an iterator of a known length; zip of two lists, of two tuples -/
theorem lc_gen {J : It} {n : Nat} {g : TG} {tt : TT} {te : TE} {vs : List Nat} {σ : L2.St} {H1 : Hp} {D : Addr} {Qd : Hp → Prop} (Pv : Nat → Hp → Prop) (first : Pv 0 (upd H1 D (.lst [])))
    (can : ∀ i H, Pv i H → (i < n → J.go i H) ∧ (i = n → J.stop i H))
    (turn : ∀ i H v H', i < n → Pv i H → J.yld i H v H' → g v (wipe σ vs) H' fun σ2 H2 => wipe σ2 vs = wipe σ vs ∧ tt σ2 H2 fun b H3 => if b = true then te σ2 H3 fun y H4 => ∃ acc, H4 D = some (.lst acc) ∧ acc.length < sizeLine ∧ Pv (i + 1) (upd H4 D (.lst (acc ++ [y]))) else Pv (i + 1) H3)
    (last : ∀ H, Pv n H → Qd H) :
    ∃ W : Nat → Nat → Hp → Prop, (∃ m, W 0 m (upd H1 D (.lst []))) ∧ ∀ i m H, W i m H → (J.stop i H ∧ Qd H) ∨ (J.go i H ∧ ∃ Nx : Hp → Prop, (∀ H', Nx H' → ∃ m', m' < m ∧ W (i + 1) m' H') ∧ ∀ x H', J.yld i H x H' → g x (wipe σ vs) H' fun σ2 H2 => wipe σ2 vs = wipe σ vs ∧ tt σ2 H2 fun b H3 => if b = true then te σ2 H3 fun y H4 => ∃ acc, H4 D = some (.lst acc) ∧ acc.length < sizeLine ∧ Nx (upd H4 D (.lst (acc ++ [y]))) else Nx H3) := by
  refine ⟨fun i m H => m + i = n ∧ Pv i H, ⟨n, by omega, first⟩, ?_⟩
  intro i m H hw
  obtain ⟨e, p⟩ := hw
  by_cases c : i < n
  · exact .inr ⟨(can i H p).1 c, Pv (i + 1), fun H' p' => ⟨n - (i + 1), by omega, by omega, p'⟩, fun v H' y => turn i H v H' c p y⟩
  · have z : i = n := by omega
    exact .inl ⟨(can i H p).2 z, last H (z ▸ p)⟩
section
variable {K : PySem.W.Frag} {a b : Addr} {xs ys : List V}
theorem canL {H : Hp} {i : Nat} (l : xs.length = ys.length) (x : SqL K H a xs) (y : SqL K H b ys) : (i < xs.length → (Itz K a b).go i H) ∧ (i = xs.length → (Itz K a b).stop i H) :=
  ⟨fun c => ⟨xs, ys, _, _, x, y, List.getElem?_eq_getElem c, List.getElem?_eq_getElem (l ▸ c)⟩, fun c => ⟨xs, ys, x, y, .inl (by omega)⟩⟩
theorem canT {H : Hp} {i : Nat} (l : xs.length = ys.length) (x : SqT K H a xs) (y : SqT K H b ys) : (i < xs.length → (RZ.ItzT K a b).go i H) ∧ (i = xs.length → (RZ.ItzT K a b).stop i H) :=
  ⟨fun c => ⟨xs, ys, _, _, x, y, List.getElem?_eq_getElem c, List.getElem?_eq_getElem (l ▸ c)⟩, fun c => ⟨xs, ys, x, y, .inl (by omega)⟩⟩
end
/-! ### data of short lists -/
mutual
def thin : PyData → Bool
  | .list xs => decide (xs.length ≤ 1000) && thinAll xs
  | .tuple xs => decide (xs.length ≤ 1000) && thinAll xs
  | _ => true
def thinAll : List PyData → Bool
  | [] => true
  | x :: r => thin x && thinAll r
end
theorem thin_at {d : PyData} : ∀ {ds : List PyData} {i : Nat}, thinAll ds = true → ds[i]? = some d → thin d = true
  | e :: r, 0, h, he => by
    cases he
    simp only [thinAll, Bool.and_eq_true] at h
    exact h.1
  | e :: r, i + 1, h, he => by
    simp only [thinAll, Bool.and_eq_true] at h
    exact thin_at (i := i) h.2 he
theorem depth_at {d : PyData} : ∀ {ds : List PyData} {i : Nat}, ds[i]? = some d → PyData.depth d ≤ PyData.depthAll ds
  | e :: r, 0, he => by
    cases he
    simp only [PyData.depthAll]
    omega
  | e :: r, i + 1, he => by
    have := depth_at (i := i) (ds := r) he
    simp only [PyData.depthAll]
    omega
theorem kitLT {K : PySem.W.Frag} (d : PyData) : PySem.W.kitAny K (.type (tyD d)) [.type "list", .type "tuple"] = some (isK "list" d || isK "tuple" d) := by
  unfold PySem.W.kitAny
  rw [kit_d (by decide)]
  cases isK "list" d with
  | true => rfl
  | false =>
    unfold PySem.W.kitAny
    rw [kit_d (by decide)]
    cases isK "tuple" d <;> rfl
theorem qY {c : Prop} [Decidable c] {Q : VK} {H : Hp} (hc : c) (q : Q (.bl true) H) : Q (.bl (decide c)) H := by
  rw [decide_eq_true hc]
  exact q
theorem rep_snoc (i : Nat) : (List.replicate i true).map V.bl ++ [V.bl true] = (List.replicate (i + 1) true).map V.bl := by
  rw [List.map_replicate, List.map_replicate, List.replicate_succ']
def topS (i : Nat) : Stmt := PySem.Challenge.pw_partwares_k07_what_is_kept.main.body.getD i (.Pass ⟨0, 0, 0, 0⟩)
section
variable {P : Program} {w : World} {K : PySem.W.Frag} {mg : Str → Option Value} {base : Heap}
/-! ### is_number_in -/
abbrev s_is_number_in : Stmt := topS 8
abbrev N_is_number_in : List Str := ["thing", "low", "high"]
theorem sc_is_number_in : FnScope N_is_number_in ["thing", "low", "high"] (defScope s_is_number_in) := ⟨rfl, rfl, rfl, by decide +kernel, rfl, by decide +kernel, by decide +kernel⟩
def sp_is_number_in (K : PySem.W.Frag) : Sp := fun vs H Q _ => ∃ (x : V) (d : PyData) (lo hi : Int), vs = [x, .int lo, .int hi] ∧ Dp K H x d ∧ Q (.bl (numIn d lo hi)) H
theorem ok_is_number_in {f : Addr} {fd : FuncData} (F : Fun K "is_number_in" "is_number_in" s_is_number_in f fd) (g : mg "is_number_in" = some (.ref f)) (bd : Binds K fd ["thing", "low", "high"] []) (m_isinstance : mg "isinstance" = none) (m_bool : mg "bool" = none) (m_int : mg "int" = none) : CF P w K mg base 1 "is_number_in" ["thing", "low", "high"] (sp_is_number_in K) := by
  refine ⟨f, fd, F.ok sc_is_number_in (fun vs H Q E h => ?_) (fun cdv A outer s H vs Q E hr h => ?_), g, F.kp, bd⟩
  · first | (obtain ⟨_, rfl, _⟩ := h; rfl) | (obtain ⟨_, _, rfl, _⟩ := h; rfl) | (obtain ⟨_, _, _, rfl, _⟩ := h; rfl) | (obtain ⟨_, _, _, _, rfl, _⟩ := h; rfl) | (obtain ⟨_, _, _, _, _, rfl, _⟩ := h; rfl) | (obtain ⟨_, _, _, _, _, _, rfl, _⟩ := h; rfl) | (obtain ⟨_, _, _, _, _, _, _, rfl, _⟩ := h; rfl)
  · have hu64 := hr.units
    obtain ⟨x, d, lo, hi, rfl, hd, q⟩ := h
    refine ⟨_, (pss_one (ps_ret (pe_and (pe_callB (kk_isi K) (by rfl) m_isinstance (by decide +kernel) (pa_cons (pv 0) (pa_cons (pe_bltn (v := .ty "int") (by rfl) m_int (by decide +kernel) rfl) pa_nil))) (pe_and (pe_not (pe_callB (kk_isi K) (by rfl) m_isinstance (by decide +kernel) (pa_cons (pv 0) (pa_cons (pe_bltn (v := .ty "bool") (by rfl) m_bool (by decide +kernel) rfl) pa_nil)))) (pe_one (pe_chain op_le op_le (pv 1) (pv 0) (pv 2))))))), ?_⟩
    have k1 := kit_d (K := K) (T := "int") (by decide) d
    have k2 := kit_d (K := K) (T := "bool") (by decide) d
    have ty := ty_of_dp hd
    refine ⟨_, rfl, _, _, _, _, _, rfl, .ty _, ty, k1, _, rfl, ?_⟩
    cases hd with
    | int i =>
      refine iteT ⟨_, rfl, _, _, _, _, _, rfl, .ty _, ty, k2, _, rfl, _, rfl, iteT ⟨_, rfl, _, rfl, _, _, rfl, rfl, _, rfl, ?_⟩⟩
      have e : numIn (.int i) lo hi = (decide (lo ≤ i) && decide (i ≤ hi)) := rfl
      rw [e] at q
      by_cases h1 : lo ≤ i
      · rw [decide_eq_true h1] at q ⊢
        exact iteT ⟨_, rfl, _, _, rfl, rfl, q⟩
      · rw [decide_eq_false h1] at q ⊢
        exact iteF q
    | bl b => exact iteT ⟨_, rfl, _, _, _, _, _, rfl, .ty _, ty, k2, _, rfl, _, rfl, iteF q⟩
    | non => exact iteF q
    | str z => exact iteF q
    | lst a b => exact iteF q
    | tup a b => exact iteF q
/-! ### may_be_kept -/
abbrev s_may_be_kept : Stmt := topS 12
abbrev N_may_be_kept : List Str := ["keep", "parts", "percent"]
theorem sc_may_be_kept : FnScope N_may_be_kept ["keep", "parts"] (defScope s_may_be_kept) := ⟨rfl, rfl, rfl, by decide +kernel, rfl, by decide +kernel, by decide +kernel⟩
def sp_may_be_kept (K : PySem.W.Frag) : Sp := fun vs H Q _ => ∃ (x y : V) (d e : PyData), vs = [x, y] ∧ Dp K H x d ∧ Dp K H y e ∧ SeqAt.shaped e = true ∧ (∀ ds, d = .tuple ds → ds.length ≤ 1000) ∧ ∀ H', Same H H' → Q (.bl (keptOk d e)) H'
theorem ok_may_be_kept {f : Addr} {fd : FuncData} (F : Fun K "may_be_kept" "may_be_kept" s_may_be_kept f fd) (g : mg "may_be_kept" = some (.ref f)) (bd : Binds K fd ["keep", "parts"] []) (m_isinstance : mg "isinstance" = none) (m_tuple : mg "tuple" = none) (m_all : mg "all" = none) (m_len : mg "len" = none) (C_is_number_in : CF P w K mg base 1 "is_number_in" ["thing", "low", "high"] (sp_is_number_in K)) : CF P w K mg base 2 "may_be_kept" ["keep", "parts"] (sp_may_be_kept K) := by
  refine ⟨f, fd, F.ok sc_may_be_kept (fun vs H Q E h => ?_) (fun cdv A outer s H vs Q E hr h => ?_), g, F.kp, bd⟩
  · first | (obtain ⟨_, rfl, _⟩ := h; rfl) | (obtain ⟨_, _, rfl, _⟩ := h; rfl) | (obtain ⟨_, _, _, rfl, _⟩ := h; rfl) | (obtain ⟨_, _, _, _, rfl, _⟩ := h; rfl) | (obtain ⟨_, _, _, _, _, rfl, _⟩ := h; rfl) | (obtain ⟨_, _, _, _, _, _, rfl, _⟩ := h; rfl) | (obtain ⟨_, _, _, _, _, _, _, rfl, _⟩ := h; rfl)
  · have hu64 := hr.units
    obtain ⟨x, y, d, e, rfl, hd, he, sh, hz, q⟩ := h
    refine ⟨_, (pss_cons (ps_if (pt_not (pt_val (pe_callB (kk_isi K) (by rfl) m_isinstance (by decide +kernel) (pa_cons (pv 0) (pa_cons (pe_bltn (v := .ty "tuple") (by rfl) m_tuple (by decide +kernel) rfl) pa_nil)))))
         (pss_one (ps_ret (pe_cf C_is_number_in (hr.mono (by decide)) (by rfl) (pa_cons (pv 0) (pa_cons pe_int (pa_cons pe_int pa_nil))))))
         pss_nil)
      (pss_one (ps_ret (pe_and (pe_cmpR (kk_eqD K hu64) (pe_callB (kk_len K) (by rfl) m_len PySem.boot_len (pa_cons (pv 0) pa_nil)) (pv 1) (nomark _)) (pe_one (pe_callB (kk_all K rfl) (by rfl) m_all (by decide +kernel) (pa_cons (pe_lc (own := [("percent", 2)]) (g := (gName 2)) (tt := tYes) rfl sc_may_be_kept.nd (pi_tup (pv 0)) (blkOk_by (own := [("percent", 2)]) (N := N_may_be_kept) (sc := defScope s_may_be_kept) (by decide +kernel)) (fun _ _ _ _ _ => pg_name (i := 2) sc_may_be_kept.nd rfl (Or.inl rfl)) (fun _ _ _ _ _ => pts_nil) (fun _ _ _ _ _ => (pe_cf C_is_number_in (hr.mono (by decide)) (by rfl) (pa_cons (pv 2) (pa_cons pe_int (pa_cons pe_int pa_nil)))))) pa_nil))))))), ?_⟩
    have k1 := kit_d (K := K) (T := "tuple") (by decide) d
    have ty := ty_of_dp hd
    refine ⟨_, rfl, _, _, _, _, _, rfl, .ty _, ty, k1, _, rfl, ?_⟩
    have other : isK "tuple" d = false → keptOk d e = numIn d 0 100 := fun h => by
      cases d with
      | tuple ds => cases h
      | _ => rfl
    cases hd with
    | @tup a xs ds hS hA =>
      refine iteF ?_
      have hlen := dpAll_len hA
      have hl := hz ds rfl
      refine ⟨_, rfl, a, _, rfl, .inr hS, _, rfl, _, _, .int _, he, sh_int _, sh, _, rfl, ?_⟩
      have e2 : keptOk (.tuple ds) e = (PyData.eqv (.int (xs.length : Int)) e && ds.all fun d => numIn d 0 100) := by
        rw [hlen]
        rfl
      rw [e2] at q
      cases hq : PyData.eqv (.int (xs.length : Int)) e with
      | false =>
        rw [hq] at q
        exact iteF (q H (Same.refl H))
      | true =>
        rw [hq] at q
        refine iteT ⟨_, rfl, a, rfl, ⟨_, hS⟩, fun D hD => lc_tup (K := K) (a := a) (xs := xs) (fun i H' => Same H H' ∧ H' D = some (.lst (((ds.take i).map fun d => numIn d 0 100).map V.bl))) ⟨same_new hD, upd_same⟩ (fun i H' _ h => seqT_same h.1 hS) (fun i x H' hx h => ?_) (fun H' h => ?_)⟩
        · obtain ⟨d, hd1, hd2⟩ := dpAll_get hA hx
          have hi : i < ds.length := (List.getElem?_eq_some_iff.mp hd1).1
          refine ⟨rfl, _, rfl, x, d, 0, 100, rfl, dp_same h.1 hd2, _, h.2, ?_, ?_, ?_⟩
          · rw [List.length_map, List.length_map, List.length_take]
            exact small1000 (by omega)
          · exact fun c o e => by
              rw [upd_ne (ne_of_none e hD)]
              exact h.1 _ _ e
          · rw [upd_same, List.take_add_one, hd1, Option.toList_some, List.map_append, List.map_append]
            rfl
        · obtain ⟨s1, h1⟩ := h
          rw [hlen, List.take_of_length_le (Nat.le_refl _)] at h1
          refine ⟨D, _, rfl, SqL.of h1, ?_⟩
          have e3 : (ds.map fun d => numIn d 0 100).all id = ds.all fun d => numIn d 0 100 := by
            rw [List.all_map]
            rfl
          rw [e3]
          exact q _ s1
    | non => exact iteT ⟨_, rfl, _, _, 0, 100, rfl, .non, by rw [← other rfl]; exact q H (Same.refl H)⟩
    | bl b => exact iteT ⟨_, rfl, _, _, 0, 100, rfl, .bl b, by rw [← other rfl]; exact q H (Same.refl H)⟩
    | int i => exact iteT ⟨_, rfl, _, _, 0, 100, rfl, .int i, by rw [← other rfl]; exact q H (Same.refl H)⟩
    | str z => exact iteT ⟨_, rfl, _, _, 0, 100, rfl, .str z, by rw [← other rfl]; exact q H (Same.refl H)⟩
    | lst a b => exact iteT ⟨_, rfl, _, _, 0, 100, rfl, .lst a b, by rw [← other rfl]; exact q H (Same.refl H)⟩
/-! ### wrong_figure -/
abbrev s_wrong_figure : Stmt := topS 11
abbrev N_wrong_figure : List Str := ["parts", "step", "grace", "last", "misses", "keep", "fine", "falls", "back", "checks", "word", "right"]
theorem sc_wrong_figure : FnScope N_wrong_figure ["parts", "step", "grace", "last", "misses", "keep", "fine", "falls", "back"] (defScope s_wrong_figure) := ⟨rfl, rfl, rfl, by decide +kernel, rfl, by decide +kernel, by decide +kernel⟩
def figChecks (d1 d2 d3 d4 d5 d6 d7 d8 d9 : PyData) : List (Str × Bool) :=
  [(Str.ofString "parts", numIn d1 1 6), (Str.ofString "step", numIn d2 1 14), (Str.ofString "grace", numIn d3 0 7), (Str.ofString "last", isK "bool" d4), (Str.ofString "misses", numIn d5 0 2), (Str.ofString "keep", keptOk d6 d1), (Str.ofString "fine", numIn d7 0 100), (Str.ofString "falls", numIn d8 0 30), (Str.ofString "back", numIn d9 0 30)]
def sp_wrong_figure (K : PySem.W.Frag) : Sp := fun vs H Q _ => ∃ (x1 x2 x3 x4 x5 x6 x7 x8 x9 : V) (d1 d2 d3 d4 d5 d6 d7 d8 d9 : PyData), vs = [x1, x2, x3, x4, x5, x6, x7, x8, x9] ∧ (Dp K H x1 d1 ∧ Dp K H x2 d2 ∧ Dp K H x3 d3 ∧ Dp K H x4 d4 ∧ Dp K H x5 d5 ∧ Dp K H x6 d6 ∧ Dp K H x7 d7 ∧ Dp K H x8 d8 ∧ Dp K H x9 d9) ∧ SeqAt.shaped d1 = true ∧ (∀ ds, d6 = .tuple ds → ds.length ≤ 1000) ∧ ∀ H', Same H H' → Q (firstWrong (figChecks d1 d2 d3 d4 d5 d6 d7 d8 d9)) H'
theorem at9_of {HH : Hp} {t1 t2 t3 t4 t5 t6 t7 t8 t9 : Addr} {p1 p2 p3 p4 p5 p6 p7 p8 p9 : Str × Bool} (c1 : HH t1 = some (.tup [.str p1.1, .bl p1.2])) (c2 : HH t2 = some (.tup [.str p2.1, .bl p2.2])) (c3 : HH t3 = some (.tup [.str p3.1, .bl p3.2])) (c4 : HH t4 = some (.tup [.str p4.1, .bl p4.2])) (c5 : HH t5 = some (.tup [.str p5.1, .bl p5.2])) (c6 : HH t6 = some (.tup [.str p6.1, .bl p6.2])) (c7 : HH t7 = some (.tup [.str p7.1, .bl p7.2])) (c8 : HH t8 = some (.tup [.str p8.1, .bl p8.2])) (c9 : HH t9 = some (.tup [.str p9.1, .bl p9.2])) : ∀ (j : Nat) (t : Addr) (p : Str × Bool), [t1, t2, t3, t4, t5, t6, t7, t8, t9][j]? = some t → [p1, p2, p3, p4, p5, p6, p7, p8, p9][j]? = some p → HH t = some (.tup [.str p.1, .bl p.2]) := fun j t p ht hp => by
  match j, ht, hp with
  | 0, ht, hp => cases ht; cases hp; exact c1
  | 1, ht, hp => cases ht; cases hp; exact c2
  | 2, ht, hp => cases ht; cases hp; exact c3
  | 3, ht, hp => cases ht; cases hp; exact c4
  | 4, ht, hp => cases ht; cases hp; exact c5
  | 5, ht, hp => cases ht; cases hp; exact c6
  | 6, ht, hp => cases ht; cases hp; exact c7
  | 7, ht, hp => cases ht; cases hp; exact c8
  | 8, ht, hp => cases ht; cases hp; exact c9
  | n + 9, ht, hp => cases ht
theorem pick9 {ts : List Addr} {ws : List (Str × Bool)} {H : Hp} {i : Nat} {x : V} (hl : ts.length = ws.length) (h : ∀ (j : Nat) (t : Addr) (p : Str × Bool), ts[j]? = some t → ws[j]? = some p → H t = some (.tup [.str p.1, .bl p.2])) (hx : (ts.map V.ref)[i]? = some x) : ∃ t p, x = .ref t ∧ ws[i]? = some p ∧ H t = some (.tup [.str p.1, .bl p.2]) := by
  rw [List.getElem?_map] at hx
  obtain ⟨t, ht, rfl⟩ := Option.map_eq_some_iff.mp hx
  have hi : i < ws.length := by
    rw [← hl]
    exact (List.getElem?_eq_some_iff.mp ht).1
  exact ⟨t, ws[i], rfl, List.getElem?_eq_getElem hi, h i t _ ht (List.getElem?_eq_getElem hi)⟩
theorem ok_wrong_figure {f : Addr} {fd : FuncData} (F : Fun K "wrong_figure" "wrong_figure" s_wrong_figure f fd) (g : mg "wrong_figure" = some (.ref f)) (bd : Binds K fd ["parts", "step", "grace", "last", "misses", "keep", "fine", "falls", "back"] []) (m_isinstance : mg "isinstance" = none) (m_bool : mg "bool" = none) (C_is_number_in : CF P w K mg base 1 "is_number_in" ["thing", "low", "high"] (sp_is_number_in K)) (C_may_be_kept : CF P w K mg base 2 "may_be_kept" ["keep", "parts"] (sp_may_be_kept K)) : CF P w K mg base 3 "wrong_figure" ["parts", "step", "grace", "last", "misses", "keep", "fine", "falls", "back"] (sp_wrong_figure K) := by
  refine ⟨f, fd, F.ok sc_wrong_figure (fun vs H Q E h => ?_) (fun cdv A outer s H vs Q E hr h => ?_), g, F.kp, bd⟩
  · first | (obtain ⟨_, rfl, _⟩ := h; rfl) | (obtain ⟨_, _, rfl, _⟩ := h; rfl) | (obtain ⟨_, _, _, rfl, _⟩ := h; rfl) | (obtain ⟨_, _, _, _, rfl, _⟩ := h; rfl) | (obtain ⟨_, _, _, _, _, rfl, _⟩ := h; rfl) | (obtain ⟨_, _, _, _, _, _, rfl, _⟩ := h; rfl) | (obtain ⟨_, _, _, _, _, _, _, rfl, _⟩ := h; rfl) | (obtain ⟨_, _, _, _, _, _, _, _, rfl, _⟩ := h; rfl) | (obtain ⟨_, _, _, _, _, _, _, _, _, rfl, _⟩ := h; rfl) | (obtain ⟨_, _, _, _, _, _, _, _, _, _, rfl, _⟩ := h; rfl) | (obtain ⟨_, _, _, _, _, _, _, _, _, _, _, rfl, _⟩ := h; rfl) | (obtain ⟨_, _, _, _, _, _, _, _, _, _, _, _, rfl, _⟩ := h; rfl) | (obtain ⟨_, _, _, _, _, _, _, _, _, _, _, _, _, rfl, _⟩ := h; rfl) | (obtain ⟨_, _, _, _, _, _, _, _, _, _, _, _, _, _, rfl, _⟩ := h; rfl) | (obtain ⟨_, _, _, _, _, _, _, _, _, _, _, _, _, _, _, rfl, _⟩ := h; rfl) | (obtain ⟨_, _, _, _, _, _, _, _, _, _, _, _, _, _, _, _, rfl, _⟩ := h; rfl) | (obtain ⟨_, _, _, _, _, _, _, _, _, _, _, _, _, _, _, _, _, rfl, _⟩ := h; rfl) | (obtain ⟨_, _, _, _, _, _, _, _, _, _, _, _, _, _, _, _, _, _, rfl, _⟩ := h; rfl) | (obtain ⟨_, _, _, _, _, _, _, _, _, _, _, _, _, _, _, _, _, _, _, rfl, _⟩ := h; rfl) | (obtain ⟨_, _, _, _, _, _, _, _, _, _, _, _, _, _, _, _, _, _, _, _, rfl, _⟩ := h; rfl) | (obtain ⟨_, _, _, _, _, _, _, _, _, _, _, _, _, _, _, _, _, _, _, _, _, rfl, _⟩ := h; rfl) | (obtain ⟨_, _, _, _, _, _, _, _, _, _, _, _, _, _, _, _, _, _, _, _, _, _, rfl, _⟩ := h; rfl) | (obtain ⟨_, _, _, _, _, _, _, _, _, _, _, _, _, _, _, _, _, _, _, _, _, _, _, rfl, _⟩ := h; rfl)
  · have hu64 := hr.units
    obtain ⟨x1, x2, x3, x4, x5, x6, x7, x8, x9, d1, d2, d3, d4, d5, d6, d7, d8, d9, rfl, ⟨h1, h2, h3, h4, h5, h6, h7, h8, h9⟩, sh, hz, q⟩ := h
    refine ⟨_, (pss_cons (ps_set (i := 9) sc_wrong_figure.nd rfl (.inl rfl) (pe_lst (pa_cons (pe_tup (pa_cons pe_str (pa_cons (pe_cf C_is_number_in (hr.mono (by decide)) (by rfl) (pa_cons (pv 0) (pa_cons pe_int (pa_cons pe_int pa_nil)))) pa_nil))) (pa_cons (pe_tup (pa_cons pe_str (pa_cons (pe_cf C_is_number_in (hr.mono (by decide)) (by rfl) (pa_cons (pv 1) (pa_cons pe_int (pa_cons pe_int pa_nil)))) pa_nil))) (pa_cons (pe_tup (pa_cons pe_str (pa_cons (pe_cf C_is_number_in (hr.mono (by decide)) (by rfl) (pa_cons (pv 2) (pa_cons pe_int (pa_cons pe_int pa_nil)))) pa_nil))) (pa_cons (pe_tup (pa_cons pe_str (pa_cons (pe_callB (kk_isi K) (by rfl) m_isinstance (by decide +kernel) (pa_cons (pv 3) (pa_cons (pe_bltn (v := .ty "bool") (by rfl) m_bool (by decide +kernel) rfl) pa_nil))) pa_nil))) (pa_cons (pe_tup (pa_cons pe_str (pa_cons (pe_cf C_is_number_in (hr.mono (by decide)) (by rfl) (pa_cons (pv 4) (pa_cons pe_int (pa_cons pe_int pa_nil)))) pa_nil))) (pa_cons (pe_tup (pa_cons pe_str (pa_cons (pe_cf C_may_be_kept (hr.mono (by decide)) (by rfl) (pa_cons (pv 5) (pa_cons (pv 0) pa_nil))) pa_nil))) (pa_cons (pe_tup (pa_cons pe_str (pa_cons (pe_cf C_is_number_in (hr.mono (by decide)) (by rfl) (pa_cons (pv 6) (pa_cons pe_int (pa_cons pe_int pa_nil)))) pa_nil))) (pa_cons (pe_tup (pa_cons pe_str (pa_cons (pe_cf C_is_number_in (hr.mono (by decide)) (by rfl) (pa_cons (pv 7) (pa_cons pe_int (pa_cons pe_int pa_nil)))) pa_nil))) (pa_cons (pe_tup (pa_cons pe_str (pa_cons (pe_cf C_is_number_in (hr.mono (by decide)) (by rfl) (pa_cons (pv 8) (pa_cons pe_int (pa_cons pe_int pa_nil)))) pa_nil))) pa_nil)))))))))))
      (pss_cons (ps_for PassesOwn.never rfl (pi_list (pv 9)) (pg_tup (by rfl) (pgs_cons (pg_name (i := 10) sc_wrong_figure.nd rfl (.inl rfl)) (pgs_cons (pg_name (i := 11) sc_wrong_figure.nd rfl (.inl rfl)) pgs_nil)))
         (pss_one (ps_if (pt_not (pt_val (pv 11)))
             (pss_one (ps_ret (pv 10)))
             pss_nil)))
      (pss_one (ps_ret pe_non)))), ?_⟩
    have k4 := kit_d (K := K) (T := "bool") (by decide) d4
    refine ⟨_, rfl, x1, d1, 1, 6, rfl, h1, (by show 2 ≤ sizeLine; decide), fun t1 n1 => ?_⟩
    have s1 := same_new (o := .tup [.str (Str.ofString "parts"), .bl (numIn d1 1 6)]) n1
    refine ⟨_, rfl, x2, d2, 1, 14, rfl, dp_same s1 h2, (by show 2 ≤ sizeLine; decide), fun t2 n2 => ?_⟩
    have s2 := s1.trans (same_new (o := .tup [.str (Str.ofString "step"), .bl (numIn d2 1 14)]) n2)
    refine ⟨_, rfl, x3, d3, 0, 7, rfl, dp_same s2 h3, (by show 2 ≤ sizeLine; decide), fun t3 n3 => ?_⟩
    have s3 := s2.trans (same_new (o := .tup [.str (Str.ofString "grace"), .bl (numIn d3 0 7)]) n3)
    refine ⟨_, rfl, _, _, _, _, _, rfl, .ty _, ty_of_dp (dp_same s3 h4), k4, (by show 2 ≤ sizeLine; decide), fun t4 n4 => ?_⟩
    have s4 := s3.trans (same_new (o := .tup [.str (Str.ofString "last"), .bl (isK "bool" d4)]) n4)
    refine ⟨_, rfl, x5, d5, 0, 2, rfl, dp_same s4 h5, (by show 2 ≤ sizeLine; decide), fun t5 n5 => ?_⟩
    have s5 := s4.trans (same_new (o := .tup [.str (Str.ofString "misses"), .bl (numIn d5 0 2)]) n5)
    refine ⟨_, rfl, _, rfl, x6, x1, d6, d1, rfl, dp_same s5 h6, dp_same s5 h1, sh, hz, fun G g => ⟨(by show 2 ≤ sizeLine; decide), fun t6 n6 => ?_⟩⟩
    have s6 := (s5.trans g).trans (same_new (o := .tup [.str (Str.ofString "keep"), .bl (keptOk d6 d1)]) n6)
    refine ⟨_, rfl, x7, d7, 0, 100, rfl, dp_same s6 h7, (by show 2 ≤ sizeLine; decide), fun t7 n7 => ?_⟩
    have s7 := s6.trans (same_new (o := .tup [.str (Str.ofString "fine"), .bl (numIn d7 0 100)]) n7)
    refine ⟨_, rfl, x8, d8, 0, 30, rfl, dp_same s7 h8, (by show 2 ≤ sizeLine; decide), fun t8 n8 => ?_⟩
    have s8 := s7.trans (same_new (o := .tup [.str (Str.ofString "falls"), .bl (numIn d8 0 30)]) n8)
    refine ⟨_, rfl, x9, d9, 0, 30, rfl, dp_same s8 h9, (by show 2 ≤ sizeLine; decide), fun t9 n9 => ?_⟩
    have s9 := s8.trans (same_new (o := .tup [.str (Str.ofString "back"), .bl (numIn d9 0 30)]) n9)
    refine ⟨(by show 9 ≤ sizeLine; decide), fun L nL => ?_⟩
    have sL := same_new (o := .lst [.ref t1, .ref t2, .ref t3, .ref t4, .ref t5, .ref t6, .ref t7, .ref t8, .ref t9]) nL
    have c9 := sL _ _ (upd_same (a := t9) (o := .tup [.str (Str.ofString "back"), .bl (numIn d9 0 30)]))
    have m9 := (same_new (o := .tup [.str (Str.ofString "back"), .bl (numIn d9 0 30)]) n9).trans sL
    have c8 := m9 _ _ (upd_same (a := t8) (o := .tup [.str (Str.ofString "falls"), .bl (numIn d8 0 30)]))
    have m8 := (same_new (o := .tup [.str (Str.ofString "falls"), .bl (numIn d8 0 30)]) n8).trans m9
    have c7 := m8 _ _ (upd_same (a := t7) (o := .tup [.str (Str.ofString "fine"), .bl (numIn d7 0 100)]))
    have m7 := (same_new (o := .tup [.str (Str.ofString "fine"), .bl (numIn d7 0 100)]) n7).trans m8
    have c6 := m7 _ _ (upd_same (a := t6) (o := .tup [.str (Str.ofString "keep"), .bl (keptOk d6 d1)]))
    have m6 := (g.trans (same_new (o := .tup [.str (Str.ofString "keep"), .bl (keptOk d6 d1)]) n6)).trans m7
    have c5 := m6 _ _ (upd_same (a := t5) (o := .tup [.str (Str.ofString "misses"), .bl (numIn d5 0 2)]))
    have m5 := (same_new (o := .tup [.str (Str.ofString "misses"), .bl (numIn d5 0 2)]) n5).trans m6
    have c4 := m5 _ _ (upd_same (a := t4) (o := .tup [.str (Str.ofString "last"), .bl (isK "bool" d4)]))
    have m4 := (same_new (o := .tup [.str (Str.ofString "last"), .bl (isK "bool" d4)]) n4).trans m5
    have c3 := m4 _ _ (upd_same (a := t3) (o := .tup [.str (Str.ofString "grace"), .bl (numIn d3 0 7)]))
    have m3 := (same_new (o := .tup [.str (Str.ofString "grace"), .bl (numIn d3 0 7)]) n3).trans m4
    have c2 := m3 _ _ (upd_same (a := t2) (o := .tup [.str (Str.ofString "step"), .bl (numIn d2 1 14)]))
    have m2 := (same_new (o := .tup [.str (Str.ofString "step"), .bl (numIn d2 1 14)]) n2).trans m3
    have c1 := m2 _ _ (upd_same (a := t1) (o := .tup [.str (Str.ofString "parts"), .bl (numIn d1 1 6)]))
    have at9 := at9_of (p1 := (Str.ofString "parts", numIn d1 1 6)) (p2 := (Str.ofString "step", numIn d2 1 14)) (p3 := (Str.ofString "grace", numIn d3 0 7)) (p4 := (Str.ofString "last", isK "bool" d4)) (p5 := (Str.ofString "misses", numIn d5 0 2)) (p6 := (Str.ofString "keep", keptOk d6 d1)) (p7 := (Str.ofString "fine", numIn d7 0 100)) (p8 := (Str.ofString "falls", numIn d8 0 30)) (p9 := (Str.ofString "back", numIn d9 0 30)) c1 c2 c3 c4 c5 c6 c7 c8 c9
    have sAll := s9.trans sL
    refine ⟨_, rfl, L, rfl, ⟨_, SqL.of upd_same⟩, for_list (K := K) (a := L) (xs := [t1, t2, t3, t4, t5, t6, t7, t8, t9].map V.ref) (fun i σ H' => ∃ s10 s11, σ = [some x1, some x2, some x3, some x4, some x5, some x6, some x7, some x8, some x9, some (.ref L), s10, s11] ∧ Same H H' ∧ H' L = some (.lst [.ref t1, .ref t2, .ref t3, .ref t4, .ref t5, .ref t6, .ref t7, .ref t8, .ref t9]) ∧ (∀ (j : Nat) (t : Addr) (p : Str × Bool), [t1, t2, t3, t4, t5, t6, t7, t8, t9][j]? = some t → (figChecks d1 d2 d3 d4 d5 d6 d7 d8 d9)[j]? = some p → H' t = some (.tup [.str p.1, .bl p.2])) ∧ ∀ p ∈ (figChecks d1 d2 d3 d4 d5 d6 d7 d8 d9).take i, p.2 = true) ⟨_, _, rfl, sAll, upd_same, at9, fun p hp => (nomatch hp)⟩ (fun i σ H' _ h => by obtain ⟨_, _, _, _, h, _⟩ := h; exact SqL.of h) (fun i x σ H' hx h => ?_) (fun σ H' h => ?_)⟩
    · obtain ⟨s10, s11, rfl, sm, eL, hat, hall⟩ := h
      obtain ⟨t, p, rfl, hp, ht⟩ := pick9 (ws := figChecks d1 d2 d3 d4 d5 d6 d7 d8 d9) rfl hat hx
      refine ⟨t, _, rfl, .inl (.inl ht), rfl, _, _, rfl, _, _, rfl, rfl, ?_⟩
      obtain ⟨w', b⟩ := p
      cases b with
      | false =>
        refine ⟨_, rfl, _, rfl, iteT ⟨_, rfl, ?_⟩⟩
        rw [← firstWrong_at hall hp]
        exact q _ sm
      | true =>
        refine ⟨_, rfl, _, rfl, iteF ⟨_, _, rfl, sm, eL, hat, fun p' hp' => ?_⟩⟩
        rw [List.take_add_one, hp] at hp'
        rcases List.mem_append.mp hp' with z | z
        · exact hall p' z
        · rw [List.mem_singleton.mp z]
    · obtain ⟨s10, s11, rfl, sm, _, _, hall⟩ := h
      have hf : firstWrong (figChecks d1 d2 d3 d4 d5 d6 d7 d8 d9) = .non := firstWrong_none fun p hp => hall p hp
      rw [hf] at q
      exact q _ sm
/-! ### a rule in the heap -/
structure TRule (K : PySem.W.Frag) (mg : Str → Option Value) (C : Addr) : Prop where
  cl : Cls K C
  n1 : NoAttr K C "parts"
  n2 : NoAttr K C "step"
  n3 : NoAttr K C "grace"
  n4 : NoAttr K C "last"
  n5 : NoAttr K C "misses"
  n6 : NoAttr K C "keep"
  n7 : NoAttr K C "fine"
  n8 : NoAttr K C "falls"
  n9 : NoAttr K C "back"
def ruleF (p s g : Int) (l : Bool) (m : Int) (kt : Addr) (fi fa ba : Int) : List (Str × V) := [("parts", .int p), ("step", .int s), ("grace", .int g), ("last", .bl l), ("misses", .int m), ("keep", .ref kt), ("fine", .int fi), ("falls", .int fa), ("back", .int ba)]
theorem putF_new {f : Str} {v : V} : ∀ {fs : List (Str × V)}, (∀ q ∈ fs, q.1 ≠ f) → putF f v fs = fs ++ [(f, v)]
  | [], _ => rfl
  | (g, x) :: r, h => by
    show (if g = f then (g, v) :: r else (g, x) :: putF f v r) = _
    rw [if_neg (h (g, x) List.mem_cons_self), putF_new fun q hq => h q (List.mem_cons_of_mem _ hq)]
    rfl
theorem unlike9 : (["parts", "step", "grace", "last", "misses", "keep", "fine", "falls", "back"] : List Str).Nodup := by decide +kernel
theorem putF_len (f : Str) (v : V) : ∀ fs : List (Str × V), (putF f v fs).length ≤ fs.length + 1
  | [] => Nat.le_refl _
  | (g, x) :: r => by
    show (if g = f then (g, v) :: r else (g, x) :: putF f v r).length ≤ _
    have := putF_len f v r
    split
    · simp
    · rw [List.length_cons, List.length_cons]
      omega
theorem put_lt {f : Str} {v : V} {fs : List (Str × V)} {n : Nat} (h : fs.length ≤ n) : (putF f v fs).length ≤ n + 1 := Nat.le_trans (putF_len f v fs) (by omega)
theorem ruleF_eq (p s g : Int) (l : Bool) (m : Int) (kt : Addr) (fi fa ba : Int) : putF "back" (.int ba) (putF "falls" (.int fa) (putF "fine" (.int fi) (putF "keep" (.ref kt) (putF "misses" (.int m) (putF "last" (.bl l) (putF "grace" (.int g) (putF "step" (.int s) (putF "parts" (.int p) [])))))))) = ruleF p s g l m kt fi fa ba := by
  have nd := unlike9
  simp only [List.nodup_cons, List.mem_cons, List.not_mem_nil, or_false, not_or] at nd
  obtain ⟨⟨a1, a2, a3, a4, a5, a6, a7, a8⟩, ⟨b1, b2, b3, b4, b5, b6, b7⟩, ⟨c1, c2, c3, c4, c5, c6⟩, ⟨d1, d2, d3, d4, d5⟩, ⟨e1, e2, e3, e4⟩, ⟨f1, f2, f3⟩, ⟨g1, g2⟩, h1, _⟩ := nd
  simp only [putF, if_neg a1, if_neg a2, if_neg a3, if_neg a4, if_neg a5, if_neg a6, if_neg a7, if_neg a8, if_neg b1, if_neg b2, if_neg b3, if_neg b4, if_neg b5, if_neg b6, if_neg b7, if_neg c1, if_neg c2, if_neg c3, if_neg c4, if_neg c5, if_neg c6, if_neg d1, if_neg d2, if_neg d3, if_neg d4, if_neg d5, if_neg e1, if_neg e2, if_neg e3, if_neg e4, if_neg f1, if_neg f2, if_neg f3, if_neg g1, if_neg g2, if_neg h1]
  rfl
/-- what is kept as it is handed in: one number, or a tuple of as many as parts -/
inductive Keep (K : PySem.W.Frag) (H : Hp) (p : Int) (ks : List Int) : V → PyData → Prop where
  | one (k : Int) (h0 : 0 ≤ k) (h1 : k ≤ 100) (e : ks = List.replicate p.toNat k) : Keep K H p ks (.int k) (.int k)
  | all (a : Addr) (h : SqT K H a (ks.map V.int)) (hl : (ks.length : Int) = p) (hb : ∀ k ∈ ks, 0 ≤ k ∧ k ≤ 100) : Keep K H p ks (.ref a) (.tuple (ks.map PyData.int))
structure Figs (p s g m fi fa ba : Int) : Prop where
  p0 : 1 ≤ p
  p1 : p ≤ 6
  s0 : 1 ≤ s
  s1 : s ≤ 14
  g0 : 0 ≤ g
  g1 : g ≤ 7
  m0 : 0 ≤ m
  m1 : m ≤ 2
  fi0 : 0 ≤ fi
  fi1 : fi ≤ 100
  fa0 : 0 ≤ fa
  fa1 : fa ≤ 30
  ba0 : 0 ≤ ba
  ba1 : ba ≤ 30
theorem dpAll_intsT {K : PySem.W.Frag} {H : Hp} {a : Addr} {ns : List Int} (h : SqT K H a (ns.map V.int)) : Dp K H (.ref a) (.tuple (ns.map PyData.int)) := .tup h (dpAll_ints ns)
theorem Keep.dp {K : PySem.W.Frag} {H : Hp} {p : Int} {ks : List Int} {v : V} {d : PyData} (h : Keep K H p ks v d) : Dp K H v d := by
  cases h with
  | one k _ _ _ => exact .int k
  | all a h _ _ => exact dpAll_intsT h
theorem Keep.ok {K : PySem.W.Frag} {H : Hp} {p : Int} {ks : List Int} {v : V} {d : PyData} (h : Keep K H p ks v d) : keptOk d (.int p) = true := by
  cases h with
  | one k h0 h1 _ =>
    show (decide (0 ≤ k) && decide (k ≤ 100)) = true
    rw [decide_eq_true h0, decide_eq_true h1]
    rfl
  | all a _ hl hb =>
    show (PyData.eqv (.int (((ks.map PyData.int).length : Nat) : Int)) (.int p) && (ks.map PyData.int).all fun d => numIn d 0 100) = true
    rw [Bool.and_eq_true]
    refine ⟨?_, ?_⟩
    · rw [List.length_map, hl]
      simp [PyData.eqv]
    · rw [List.all_map, List.all_eq_true]
      intro k hk
      show (decide (0 ≤ k) && decide (k ≤ 100)) = true
      rw [decide_eq_true (hb k hk).1, decide_eq_true (hb k hk).2]
      rfl
theorem right_all {p s g m fi fa ba : Int} {l : Bool} {d6 : PyData} (F : Figs p s g m fi fa ba) (h6 : keptOk d6 (.int p) = true) : firstWrong (figChecks (.int p) (.int s) (.int g) (.bool l) (.int m) d6 (.int fi) (.int fa) (.int ba)) = .non := by
  refine firstWrong_none fun q hq => ?_
  have two : ∀ {i lo hi : Int}, lo ≤ i → i ≤ hi → numIn (.int i) lo hi = true := fun {i lo hi} a b => by
    show (decide (lo ≤ i) && decide (i ≤ hi)) = true
    rw [decide_eq_true a, decide_eq_true b]
    rfl
  unfold figChecks at hq
  simp only [List.mem_cons, List.not_mem_nil, or_false] at hq
  rcases hq with rfl | rfl | rfl | rfl | rfl | rfl | rfl | rfl | rfl
  · exact two F.p0 F.p1
  · exact two F.s0 F.s1
  · exact two F.g0 F.g1
  · rfl
  · exact two F.m0 F.m1
  · exact h6
  · exact two F.fi0 F.fi1
  · exact two F.fa0 F.fa1
  · exact two F.ba0 F.ba1
/-! ### Rule___init__ -/
abbrev s_Rule___init__ : Stmt := inClass (topS 10) 0
abbrev N_Rule___init__ : List Str := ["self", "parts", "step", "grace", "last", "misses", "keep", "fine", "falls", "back", "word"]
theorem sc_Rule___init__ : FnScope N_Rule___init__ ["self", "parts", "step", "grace", "last", "misses", "keep", "fine", "falls", "back"] (defScope s_Rule___init__) := ⟨rfl, rfl, rfl, by decide +kernel, rfl, by decide +kernel, by decide +kernel⟩
def sp_Rule___init__ (K : PySem.W.Frag) (C : Addr) : Sp := fun vs H Q _ => ∃ (x dx : Addr) (p s g : Int) (l : Bool) (m : Int) (kv : V) (kd : PyData) (ks : List Int) (fi fa ba : Int), vs = [.ref x, .int p, .int s, .int g, .bl l, .int m, kv, .int fi, .int fa, .int ba] ∧ H x = some (.ins C dx []) ∧ Figs p s g m fi fa ba ∧ Keep K H p ks kv kd ∧
  ∀ H' kt, But x H H' → H' x = some (.ins C dx (ruleF p s g l m kt fi fa ba)) → SqT K H' kt (ks.map V.int) → Q .non H'
theorem ok_Rule___init__ {f : Addr} {fd : FuncData} {CR : Addr} (T_Rule : TRule K mg CR) (m_isinstance : mg "isinstance" = none) (m_tuple : mg "tuple" = none) (C_wrong_figure : CF P w K mg base 3 "wrong_figure" ["parts", "step", "grace", "last", "misses", "keep", "fine", "falls", "back"] (sp_wrong_figure K)) (F : FunD K "__init__" "Rule.__init__" (defArgs s_Rule___init__) (defBody s_Rule___init__) (defScope s_Rule___init__) [.int 0, .bl false, .int 0, .int 0, .int 0, .int 0, .int 0] [] f fd) : FnOk P w K mg base CX0 4 f fd ["self", "parts", "step", "grace", "last", "misses", "keep", "fine", "falls", "back"] (sp_Rule___init__ K CR) := by
  refine okD F sc_Rule___init__ (fun vs H Q E h => ?_) (fun cdv A outer s H vs Q E hr h => ?_)
  · first | (obtain ⟨_, rfl, _⟩ := h; rfl) | (obtain ⟨_, _, rfl, _⟩ := h; rfl) | (obtain ⟨_, _, _, rfl, _⟩ := h; rfl) | (obtain ⟨_, _, _, _, rfl, _⟩ := h; rfl) | (obtain ⟨_, _, _, _, _, rfl, _⟩ := h; rfl) | (obtain ⟨_, _, _, _, _, _, rfl, _⟩ := h; rfl) | (obtain ⟨_, _, _, _, _, _, _, rfl, _⟩ := h; rfl) | (obtain ⟨_, _, _, _, _, _, _, _, rfl, _⟩ := h; rfl) | (obtain ⟨_, _, _, _, _, _, _, _, _, rfl, _⟩ := h; rfl) | (obtain ⟨_, _, _, _, _, _, _, _, _, _, rfl, _⟩ := h; rfl) | (obtain ⟨_, _, _, _, _, _, _, _, _, _, _, rfl, _⟩ := h; rfl) | (obtain ⟨_, _, _, _, _, _, _, _, _, _, _, _, rfl, _⟩ := h; rfl) | (obtain ⟨_, _, _, _, _, _, _, _, _, _, _, _, _, rfl, _⟩ := h; rfl) | (obtain ⟨_, _, _, _, _, _, _, _, _, _, _, _, _, _, rfl, _⟩ := h; rfl) | (obtain ⟨_, _, _, _, _, _, _, _, _, _, _, _, _, _, _, rfl, _⟩ := h; rfl) | (obtain ⟨_, _, _, _, _, _, _, _, _, _, _, _, _, _, _, _, rfl, _⟩ := h; rfl) | (obtain ⟨_, _, _, _, _, _, _, _, _, _, _, _, _, _, _, _, _, rfl, _⟩ := h; rfl) | (obtain ⟨_, _, _, _, _, _, _, _, _, _, _, _, _, _, _, _, _, _, rfl, _⟩ := h; rfl) | (obtain ⟨_, _, _, _, _, _, _, _, _, _, _, _, _, _, _, _, _, _, _, rfl, _⟩ := h; rfl) | (obtain ⟨_, _, _, _, _, _, _, _, _, _, _, _, _, _, _, _, _, _, _, _, rfl, _⟩ := h; rfl) | (obtain ⟨_, _, _, _, _, _, _, _, _, _, _, _, _, _, _, _, _, _, _, _, _, rfl, _⟩ := h; rfl) | (obtain ⟨_, _, _, _, _, _, _, _, _, _, _, _, _, _, _, _, _, _, _, _, _, _, rfl, _⟩ := h; rfl) | (obtain ⟨_, _, _, _, _, _, _, _, _, _, _, _, _, _, _, _, _, _, _, _, _, _, _, rfl, _⟩ := h; rfl)
  · have hu64 := hr.units
    obtain ⟨x, dx, p, s', g, l, m, kv, kd, ks, fi, fa, ba, rfl, hx, F, hk, q⟩ := h
    refine ⟨_, (pss_cons (ps_set (i := 10) sc_Rule___init__.nd rfl (.inl rfl) (pe_cf C_wrong_figure (hr.mono (by decide)) (by rfl) (pa_cons (pv 1) (pa_cons (pv 2) (pa_cons (pv 3) (pa_cons (pv 4) (pa_cons (pv 5) (pa_cons (pv 6) (pa_cons (pv 7) (pa_cons (pv 8) (pa_cons (pv 9) pa_nil)))))))))))
      (pss_cons (ps_if (pt_cmpR op_notN (pv 10) pe_non (nomark _))
         (pss_one ps_never)
         pss_nil)
      (pss_cons (ps_fld (pv 0) (pv 1) rfl)
      (pss_cons (ps_fld (pv 0) (pv 2) rfl)
      (pss_cons (ps_fld (pv 0) (pv 3) rfl)
      (pss_cons (ps_fld (pv 0) (pv 4) rfl)
      (pss_cons (ps_fld (pv 0) (pv 5) rfl)
      (pss_cons (ps_fld (pv 0) (pe_ifExp (pt_val (pe_callB (kk_isi K) (by rfl) m_isinstance (by decide +kernel) (pa_cons (pv 6) (pa_cons (pe_bltn (v := .ty "tuple") (by rfl) m_tuple (by decide +kernel) rfl) pa_nil)))) (pv 6) (pe_op (kk_repA K) (pe_tup (pa_cons (pv 6) pa_nil)) (pv 1))) rfl)
      (pss_cons (ps_fld (pv 0) (pv 7) rfl)
      (pss_cons (ps_fld (pv 0) (pv 8) rfl)
      (pss_one (ps_fld (pv 0) (pv 9) rfl)))))))))))), ?_⟩
    have hz : ∀ ds, kd = .tuple ds → ds.length ≤ 1000 := fun ds e => by
      cases hk with
      | one k _ _ _ => cases e
      | all a h hl hb =>
        cases e
        rw [List.length_map]
        have := F.p1
        omega
    refine ⟨_, rfl, _, rfl, _, rfl, _, rfl, _, rfl, _, rfl, _, rfl, _, rfl, _, rfl, _, _, _, _, _, _, _, _, _, .int p, .int s', .int g, .bool l, .int m, kd, .int fi, .int fa, .int ba, rfl, ⟨.int _, .int _, .int _, .bl _, .int _, hk.dp, .int _, .int _, .int _⟩, sh_int _, hz, fun H1 s1 => ?_⟩
    rw [right_all F hk.ok]
    refine ⟨_, rfl, rfl, _, rfl, iteF ?_⟩
    refine ⟨_, rfl, _, rfl, x, CR, dx, _, rfl, s1 _ _ hx, T_Rule.cl, T_Rule.n1, by decide, ?_⟩
    refine ⟨_, rfl, _, rfl, x, CR, dx, _, rfl, upd_same, T_Rule.cl, T_Rule.n2, Nat.lt_of_le_of_lt (put_lt (Nat.le_refl 0)) (by decide), ?_⟩
    refine ⟨_, rfl, _, rfl, x, CR, dx, _, rfl, upd_same, T_Rule.cl, T_Rule.n3, Nat.lt_of_le_of_lt (put_lt (put_lt (Nat.le_refl 0))) (by decide), ?_⟩
    refine ⟨_, rfl, _, rfl, x, CR, dx, _, rfl, upd_same, T_Rule.cl, T_Rule.n4, Nat.lt_of_le_of_lt (put_lt (put_lt (put_lt (Nat.le_refl 0)))) (by decide), ?_⟩
    refine ⟨_, rfl, _, rfl, x, CR, dx, _, rfl, upd_same, T_Rule.cl, T_Rule.n5, Nat.lt_of_le_of_lt (put_lt (put_lt (put_lt (put_lt (Nat.le_refl 0))))) (by decide), ?_⟩
    have b5 : But x H (upd (upd (upd (upd (upd H1 x (.ins CR dx (putF "parts" (.int p) []))) x (.ins CR dx (putF "step" (.int s') (putF "parts" (.int p) [])))) x (.ins CR dx (putF "grace" (.int g) (putF "step" (.int s') (putF "parts" (.int p) []))))) x (.ins CR dx (putF "last" (.bl l) (putF "grace" (.int g) (putF "step" (.int s') (putF "parts" (.int p) [])))))) x (.ins CR dx (putF "misses" (.int m) (putF "last" (.bl l) (putF "grace" (.int g) (putF "step" (.int s') (putF "parts" (.int p) []))))))) := (((((But.of s1).trans But.upd).trans But.upd).trans But.upd).trans But.upd).trans But.upd
    have e5 := upd_same (H := (upd (upd (upd (upd H1 x (.ins CR dx (putF "parts" (.int p) []))) x (.ins CR dx (putF "step" (.int s') (putF "parts" (.int p) [])))) x (.ins CR dx (putF "grace" (.int g) (putF "step" (.int s') (putF "parts" (.int p) []))))) x (.ins CR dx (putF "last" (.bl l) (putF "grace" (.int g) (putF "step" (.int s') (putF "parts" (.int p) []))))))) (a := x) (o := .ins CR dx (putF "misses" (.int m) (putF "last" (.bl l) (putF "grace" (.int g) (putF "step" (.int s') (putF "parts" (.int p) []))))))
    cases hk with
    | all a hA hl hb =>
      have hax : ∀ {G : Hp}, But x H G → SqT K G a (ks.map V.int) := fun t => by
        rcases hA with (h | ⟨o, h⟩) | h
        · exact .inl (.inl (t _ _ (ne_of h hx (by intro z; cases z)) h))
        · exact .inl (.inr ⟨o, t _ _ (ne_of h hx (by intro z; cases z)) h⟩)
        · exact .inr h
      refine ⟨_, rfl, _, _, _, _, true, rfl, .ty _, ty_of_dp (dpAll_intsT (hax b5)), kit_ty (a := "tuple") (by decide +kernel), _, rfl, iteT ⟨_, rfl, ?_⟩⟩
      refine ⟨_, rfl, x, CR, dx, _, rfl, e5, T_Rule.cl, T_Rule.n6, Nat.lt_of_le_of_lt (put_lt (put_lt (put_lt (put_lt (put_lt (Nat.le_refl 0)))))) (by decide), ?_⟩
      refine ⟨_, rfl, _, rfl, x, CR, dx, _, rfl, upd_same, T_Rule.cl, T_Rule.n7, Nat.lt_of_le_of_lt (put_lt (put_lt (put_lt (put_lt (put_lt (put_lt (Nat.le_refl 0))))))) (by decide), ?_⟩
      refine ⟨_, rfl, _, rfl, x, CR, dx, _, rfl, upd_same, T_Rule.cl, T_Rule.n8, Nat.lt_of_le_of_lt (put_lt (put_lt (put_lt (put_lt (put_lt (put_lt (put_lt (Nat.le_refl 0)))))))) (by decide), ?_⟩
      refine ⟨_, rfl, _, rfl, x, CR, dx, _, rfl, upd_same, T_Rule.cl, T_Rule.n9, Nat.lt_of_le_of_lt (put_lt (put_lt (put_lt (put_lt (put_lt (put_lt (put_lt (put_lt (Nat.le_refl 0))))))))) (by decide), ?_⟩
      refine q _ a ((((b5.trans But.upd).trans But.upd).trans But.upd).trans But.upd) (by rw [upd_same, ruleF_eq]) (hax ((((b5.trans But.upd).trans But.upd).trans But.upd).trans But.upd))
    | one k h0 h1 ek =>
      refine ⟨_, rfl, _, _, _, _, false, rfl, .ty _, .base (.int k), kit_ty (by decide +kernel), _, rfl, iteF ⟨_, rfl, (by show 1 ≤ sizeLine; decide), fun t ht => ⟨_, rfl, ?_⟩⟩⟩
      have nt : t ≠ x := (ne_of_none e5 ht).symm
      by_cases hp1 : p = 1
      · subst hp1
        refine .inr ⟨t, [.int k], rfl, rfl, SqT.of upd_same, by simp, ?_⟩
        have ek2 : ks = [k] := ek
        refine ⟨_, rfl, x, CR, dx, _, rfl, (by rw [upd_ne nt.symm]; exact e5), T_Rule.cl, T_Rule.n6, Nat.lt_of_le_of_lt (put_lt (put_lt (put_lt (put_lt (put_lt (Nat.le_refl 0)))))) (by decide), ?_⟩
        refine ⟨_, rfl, _, rfl, x, CR, dx, _, rfl, upd_same, T_Rule.cl, T_Rule.n7, Nat.lt_of_le_of_lt (put_lt (put_lt (put_lt (put_lt (put_lt (put_lt (Nat.le_refl 0))))))) (by decide), ?_⟩
        refine ⟨_, rfl, _, rfl, x, CR, dx, _, rfl, upd_same, T_Rule.cl, T_Rule.n8, Nat.lt_of_le_of_lt (put_lt (put_lt (put_lt (put_lt (put_lt (put_lt (put_lt (Nat.le_refl 0)))))))) (by decide), ?_⟩
        refine ⟨_, rfl, _, rfl, x, CR, dx, _, rfl, upd_same, T_Rule.cl, T_Rule.n9, Nat.lt_of_le_of_lt (put_lt (put_lt (put_lt (put_lt (put_lt (put_lt (put_lt (put_lt (Nat.le_refl 0))))))))) (by decide), ?_⟩
        refine q _ t ((((b5.trans (But.new ht)).trans But.upd).trans But.upd).trans But.upd |>.trans But.upd) (by rw [upd_same, ruleF_eq]) (by rw [ek2]; exact SqT.of (by rw [upd_ne nt, upd_ne nt, upd_ne nt, upd_ne nt, upd_same]; rfl))
      · have hp2 : 2 ≤ p := by have := F.p0; omega
        have hp6 : p ≤ 1000 := by have := F.p1; omega
        refine .inl ⟨t, p, [.int k], rfl, rfl, SqT.of upd_same, by simp, hp2, hp6, (by show 1 ≤ 1000; decide), fun t2 ht2 => ?_⟩
        have e6 : (upd (upd (upd (upd (upd (upd H1 x (.ins CR dx (putF "parts" (.int p) []))) x (.ins CR dx (putF "step" (.int s') (putF "parts" (.int p) [])))) x (.ins CR dx (putF "grace" (.int g) (putF "step" (.int s') (putF "parts" (.int p) []))))) x (.ins CR dx (putF "last" (.bl l) (putF "grace" (.int g) (putF "step" (.int s') (putF "parts" (.int p) [])))))) x (.ins CR dx (putF "misses" (.int m) (putF "last" (.bl l) (putF "grace" (.int g) (putF "step" (.int s') (putF "parts" (.int p) []))))))) t (.tup [.int k])) x = _ := (upd_ne nt.symm).trans e5
        have nt2 : t2 ≠ x := (ne_of_none e6 ht2).symm
        refine ⟨_, rfl, x, CR, dx, _, rfl, (by rw [upd_ne nt2.symm]; exact e6), T_Rule.cl, T_Rule.n6, Nat.lt_of_le_of_lt (put_lt (put_lt (put_lt (put_lt (put_lt (Nat.le_refl 0)))))) (by decide), ?_⟩
        refine ⟨_, rfl, _, rfl, x, CR, dx, _, rfl, upd_same, T_Rule.cl, T_Rule.n7, Nat.lt_of_le_of_lt (put_lt (put_lt (put_lt (put_lt (put_lt (put_lt (Nat.le_refl 0))))))) (by decide), ?_⟩
        refine ⟨_, rfl, _, rfl, x, CR, dx, _, rfl, upd_same, T_Rule.cl, T_Rule.n8, Nat.lt_of_le_of_lt (put_lt (put_lt (put_lt (put_lt (put_lt (put_lt (put_lt (Nat.le_refl 0)))))))) (by decide), ?_⟩
        refine ⟨_, rfl, _, rfl, x, CR, dx, _, rfl, upd_same, T_Rule.cl, T_Rule.n9, Nat.lt_of_le_of_lt (put_lt (put_lt (put_lt (put_lt (put_lt (put_lt (put_lt (put_lt (Nat.le_refl 0))))))))) (by decide), ?_⟩
        refine q _ t2 ((((b5.trans (But.new ht)).trans (But.new ht2)).trans But.upd).trans But.upd |>.trans But.upd |>.trans But.upd) (by rw [upd_same, ruleF_eq]) (SqT.of (by rw [upd_ne nt2, upd_ne nt2, upd_ne nt2, upd_ne nt2, upd_same, ek, rep1, List.map_replicate]))
structure Fg where
  p : Int
  s : Int
  g : Int
  l : Bool
  m : Int
  ks : List Int
  fi : Int
  fa : Int
  ba : Int
structure Fg.Ok (f : Fg) : Prop where
  figs : Figs f.p f.s f.g f.m f.fi f.fa f.ba
  len : (f.ks.length : Int) = f.p
  bnd : ∀ k ∈ f.ks, 0 ≤ k ∧ k ≤ 100
def RuleAt (K : PySem.W.Frag) (H : Hp) (C r : Addr) (f : Fg) : Prop := ∃ dx kt, H r = some (.ins C dx (ruleF f.p f.s f.g f.l f.m kt f.fi f.fa f.ba)) ∧ SqT K H kt (f.ks.map V.int)
theorem RuleAt.same {K : PySem.W.Frag} {H H' : Hp} {C r : Addr} {f : Fg} (h : RuleAt K H C r f) (e : Same H H') : RuleAt K H' C r f := by
  obtain ⟨dx, kt, h1, h2⟩ := h
  exact ⟨dx, kt, e _ _ h1, seqT_same e h2⟩
section
variable {p s g : Int} {l : Bool} {m : Int} {kt : Addr} {fi fa ba : Int}
theorem lk_ne {x y : Str} {v : V} {r : List (Str × V)} (h : x ≠ y) : List.lookup x ((y, v) :: r) = List.lookup x r := by
  rw [List.lookup_cons, beq_false_of_ne h]
theorem lk_eq {x : Str} {v : V} {r : List (Str × V)} : List.lookup x ((x, v) :: r) = some v := by
  rw [List.lookup_cons, beq_self_eq_true]
theorem lk1 : (ruleF p s g l m kt fi fa ba).lookup ("parts" : Str) = some (V.int p) := lk_eq
theorem lk2 : (ruleF p s g l m kt fi fa ba).lookup ("step" : Str) = some (V.int s) := by
  unfold ruleF
  rw [lk_ne (by decide +kernel), lk_eq]
theorem lk3 : (ruleF p s g l m kt fi fa ba).lookup ("grace" : Str) = some (V.int g) := by
  unfold ruleF
  rw [lk_ne (by decide +kernel), lk_ne (by decide +kernel), lk_eq]
theorem lk4 : (ruleF p s g l m kt fi fa ba).lookup ("last" : Str) = some (V.bl l) := by
  unfold ruleF
  rw [lk_ne (by decide +kernel), lk_ne (by decide +kernel), lk_ne (by decide +kernel), lk_eq]
theorem lk5 : (ruleF p s g l m kt fi fa ba).lookup ("misses" : Str) = some (V.int m) := by
  unfold ruleF
  rw [lk_ne (by decide +kernel), lk_ne (by decide +kernel), lk_ne (by decide +kernel), lk_ne (by decide +kernel), lk_eq]
theorem lk6 : (ruleF p s g l m kt fi fa ba).lookup ("keep" : Str) = some (V.ref kt) := by
  unfold ruleF
  rw [lk_ne (by decide +kernel), lk_ne (by decide +kernel), lk_ne (by decide +kernel), lk_ne (by decide +kernel), lk_ne (by decide +kernel), lk_eq]
theorem lk7 : (ruleF p s g l m kt fi fa ba).lookup ("fine" : Str) = some (V.int fi) := by
  unfold ruleF
  rw [lk_ne (by decide +kernel), lk_ne (by decide +kernel), lk_ne (by decide +kernel), lk_ne (by decide +kernel), lk_ne (by decide +kernel), lk_ne (by decide +kernel), lk_eq]
theorem lk8 : (ruleF p s g l m kt fi fa ba).lookup ("falls" : Str) = some (V.int fa) := by
  unfold ruleF
  rw [lk_ne (by decide +kernel), lk_ne (by decide +kernel), lk_ne (by decide +kernel), lk_ne (by decide +kernel), lk_ne (by decide +kernel), lk_ne (by decide +kernel), lk_ne (by decide +kernel), lk_eq]
theorem lk9 : (ruleF p s g l m kt fi fa ba).lookup ("back" : Str) = some (V.int ba) := by
  unfold ruleF
  rw [lk_ne (by decide +kernel), lk_ne (by decide +kernel), lk_ne (by decide +kernel), lk_ne (by decide +kernel), lk_ne (by decide +kernel), lk_ne (by decide +kernel), lk_ne (by decide +kernel), lk_ne (by decide +kernel), lk_eq]
theorem lk0 {x : Str} (h : x ∉ (["parts", "step", "grace", "last", "misses", "keep", "fine", "falls", "back"] : List Str)) : (ruleF p s g l m kt fi fa ba).lookup x = none := by
  simp only [List.mem_cons, List.not_mem_nil, or_false, not_or] at h
  obtain ⟨h1, h2, h3, h4, h5, h6, h7, h8, h9⟩ := h
  unfold ruleF
  rw [lk_ne h1, lk_ne h2, lk_ne h3, lk_ne h4, lk_ne h5, lk_ne h6, lk_ne h7, lk_ne h8, lk_ne h9]
  rfl
end
def keptV (f : Fg) (k : Int) (gone : Bool) : Int := if gone then (if k + f.fi < 100 then k + f.fi else 100) else k
/-! ### Rule_keeps -/
abbrev s_Rule_keeps : Stmt := inClass (topS 10) 1
abbrev N_Rule_keeps : List Str := ["self", "paid", "gone", "percent"]
theorem sc_Rule_keeps : FnScope N_Rule_keeps ["self", "paid", "gone"] (defScope s_Rule_keeps) := ⟨rfl, rfl, rfl, by decide +kernel, rfl, by decide +kernel, by decide +kernel⟩
def sp_Rule_keeps (K : PySem.W.Frag) (C : Addr) : Sp := fun vs H Q _ => ∃ (r : Addr) (i : Int) (gone : Bool) (f : Fg) (k : Int), vs = [.ref r, .int i, .bl gone] ∧ RuleAt K H C r f ∧ f.Ok ∧ 0 ≤ i ∧ i < f.p ∧ f.ks[i.toNat]? = some k ∧ Q (.int (keptV f k gone)) H
theorem ok_Rule_keeps {f : Addr} {fd : FuncData} {CR : Addr} (T_Rule : TRule K mg CR) (m_max : mg "max" = none) (m_min : mg "min" = none) (F : FunD K "keeps" "Rule.keeps" (defArgs s_Rule_keeps) (defBody s_Rule_keeps) (defScope s_Rule_keeps) [.bl false] [] f fd) : FnOk P w K mg base CX0 1 f fd ["self", "paid", "gone"] (sp_Rule_keeps K CR) := by
  refine okD F sc_Rule_keeps (fun vs H Q E h => ?_) (fun cdv A outer s H vs Q E hr h => ?_)
  · first | (obtain ⟨_, rfl, _⟩ := h; rfl) | (obtain ⟨_, _, rfl, _⟩ := h; rfl) | (obtain ⟨_, _, _, rfl, _⟩ := h; rfl) | (obtain ⟨_, _, _, _, rfl, _⟩ := h; rfl) | (obtain ⟨_, _, _, _, _, rfl, _⟩ := h; rfl) | (obtain ⟨_, _, _, _, _, _, rfl, _⟩ := h; rfl) | (obtain ⟨_, _, _, _, _, _, _, rfl, _⟩ := h; rfl)
  · have hu64 := hr.units
    obtain ⟨r, i, gone, f', k, rfl, ⟨dx, kt, h1, h2⟩, ok, i0, i1, hk, q⟩ := h
    refine ⟨_, (pss_cons (ps_set (i := 3) sc_Rule_keeps.nd rfl (.inl rfl) (pe_ix (kk_ixt K) (pe_fld (pv 0) rfl) (pe_callB (call_max2 rfl) (by rfl) m_max (by decide +kernel) (pa_cons pe_int (pa_cons (pe_callB (call_min2 rfl) (by rfl) m_min (by decide +kernel) (pa_cons (pv 1) (pa_cons (pe_op op_sub (pe_fld (pv 0) rfl) pe_int) pa_nil))) pa_nil))) (fun _ _ => rfl)))
      (pss_cons (ps_if (pt_val (pv 2))
         (pss_one (ps_ret (pe_callB (call_min2 rfl) (by rfl) m_min (by decide +kernel) (pa_cons pe_int (pa_cons (pe_op op_add (pv 3) (pe_fld (pv 0) rfl)) pa_nil)))))
         pss_nil)
      (pss_one (ps_ret (pv 3))))), ?_⟩
    have hidx : (if (if f'.p - 1 < i then f'.p - 1 else i) > 0 then (if f'.p - 1 < i then f'.p - 1 else i) else 0) = i := by
      rw [if_neg (show ¬ (f'.p - 1 < i) by omega)]
      split <;> omega
    have hat : atI (f'.ks.map V.int) i = some (.int k) := by
      obtain ⟨j, rfl⟩ := Int.eq_ofNat_of_zero_le i0
      rw [Int.toNat_natCast] at hk
      refine atI_nat ?_
      rw [List.getElem?_map, hk]
      rfl
    refine ⟨_, rfl, r, CR, dx, _, _, rfl, h1, T_Rule.cl, T_Rule.n6, lk6, _, rfl, _, rfl, r, CR, dx, _, _, rfl, h1, T_Rule.cl, T_Rule.n1, lk1, _, _, rfl, rfl, _, _, rfl, _, _, rfl, kt, _, _, .int k, rfl, rfl, h2, by rw [hidx]; exact hat, ?_⟩
    cases gone with
    | false => exact ⟨_, rfl, _, rfl, iteF ⟨_, rfl, q⟩⟩
    | true => exact ⟨_, rfl, _, rfl, iteT ⟨_, rfl, _, rfl, r, CR, dx, _, _, rfl, h1, T_Rule.cl, T_Rule.n7, lk7, _, _, rfl, rfl, _, _, rfl, q⟩⟩
/-! ### Rule_figures -/
abbrev s_Rule_figures : Stmt := inClass (topS 10) 2
abbrev N_Rule_figures : List Str := ["self"]
theorem sc_Rule_figures : FnScope N_Rule_figures ["self"] (defScope s_Rule_figures) := ⟨rfl, rfl, rfl, by decide +kernel, rfl, by decide +kernel, by decide +kernel⟩
def sp_Rule_figures (K : PySem.W.Frag) (C : Addr) : Sp := fun vs H Q _ => ∃ (r : Addr) (f : Fg), vs = [.ref r] ∧ RuleAt K H C r f ∧ ∀ H' t kt, H t = none → Same H H' → H' t = some (.tup [.int f.p, .int f.s, .int f.g, .bl f.l, .int f.m, .ref kt, .int f.fi, .int f.fa, .int f.ba]) → SqT K H' kt (f.ks.map V.int) → Q (.ref t) H'
theorem ok_Rule_figures {f : Addr} {fd : FuncData} {CR : Addr} (T_Rule : TRule K mg CR) (F : FunD K "figures" "Rule.figures" (defArgs s_Rule_figures) (defBody s_Rule_figures) (defScope s_Rule_figures) [] [] f fd) : FnOk P w K mg base CX0 1 f fd ["self"] (sp_Rule_figures K CR) := by
  refine okD F sc_Rule_figures (fun vs H Q E h => ?_) (fun cdv A outer s H vs Q E hr h => ?_)
  · first | (obtain ⟨_, rfl, _⟩ := h; rfl) | (obtain ⟨_, _, rfl, _⟩ := h; rfl) | (obtain ⟨_, _, _, rfl, _⟩ := h; rfl) | (obtain ⟨_, _, _, _, rfl, _⟩ := h; rfl) | (obtain ⟨_, _, _, _, _, rfl, _⟩ := h; rfl) | (obtain ⟨_, _, _, _, _, _, rfl, _⟩ := h; rfl) | (obtain ⟨_, _, _, _, _, _, _, rfl, _⟩ := h; rfl)
  · have hu64 := hr.units
    obtain ⟨r, f', rfl, ⟨dx, kt, h1, h2⟩, q⟩ := h
    refine ⟨_, (pss_one (ps_ret (pe_tup (pa_cons (pe_fld (pv 0) rfl) (pa_cons (pe_fld (pv 0) rfl) (pa_cons (pe_fld (pv 0) rfl) (pa_cons (pe_fld (pv 0) rfl) (pa_cons (pe_fld (pv 0) rfl) (pa_cons (pe_fld (pv 0) rfl) (pa_cons (pe_fld (pv 0) rfl) (pa_cons (pe_fld (pv 0) rfl) (pa_cons (pe_fld (pv 0) rfl) pa_nil)))))))))))), ?_⟩
    refine ⟨_, rfl, r, CR, dx, _, _, rfl, h1, T_Rule.cl, T_Rule.n1, lk1, ?_⟩
    refine ⟨_, rfl, r, CR, dx, _, _, rfl, h1, T_Rule.cl, T_Rule.n2, lk2, ?_⟩
    refine ⟨_, rfl, r, CR, dx, _, _, rfl, h1, T_Rule.cl, T_Rule.n3, lk3, ?_⟩
    refine ⟨_, rfl, r, CR, dx, _, _, rfl, h1, T_Rule.cl, T_Rule.n4, lk4, ?_⟩
    refine ⟨_, rfl, r, CR, dx, _, _, rfl, h1, T_Rule.cl, T_Rule.n5, lk5, ?_⟩
    refine ⟨_, rfl, r, CR, dx, _, _, rfl, h1, T_Rule.cl, T_Rule.n6, lk6, ?_⟩
    refine ⟨_, rfl, r, CR, dx, _, _, rfl, h1, T_Rule.cl, T_Rule.n7, lk7, ?_⟩
    refine ⟨_, rfl, r, CR, dx, _, _, rfl, h1, T_Rule.cl, T_Rule.n8, lk8, ?_⟩
    refine ⟨_, rfl, r, CR, dx, _, _, rfl, h1, T_Rule.cl, T_Rule.n9, lk9, (by show 9 ≤ sizeLine; decide), fun t ht => ?_⟩
    exact q _ t kt ht (same_new ht) upd_same (seqT_same (same_new ht) h2)
/-! ### what is left to draw of -/
def Left (H : Hp) (b c : Addr) (n : Int) : Prop := ∃ (x z : Int) (ns : List Int), H b = some (.lst [.int x, .ref c, .int z]) ∧ H c = some (.lst (ns.map V.int)) ∧ 0 ≤ x ∧ 0 ≤ z ∧ z ≤ n ∧ 1 ≤ ns.length ∧ ns.length ≤ 63
section
variable {H H' : Hp} {b c p : Addr} {n m : Int} {o : HO}
theorem Left.mono (h : Left H b c n) (l : n ≤ m) : Left H b c m := by
  obtain ⟨x, z, ns, h0, h1, h2, h3, h4, h5⟩ := h
  exact ⟨x, z, ns, h0, h1, h2, h3, by omega, h5⟩
theorem Left.same (e : Same H H') (h : Left H b c n) : Left H' b c n := by
  obtain ⟨x, z, ns, h0, h1, h2⟩ := h
  exact ⟨x, z, ns, e _ _ h0, e _ _ h1, h2⟩
theorem Left.new (h : Left H b c n) (e : H p = none) : Left (upd H p o) b c n := h.same (same_new e)
theorem Left.ne (h : Left H b c n) (e : H p = none) : p ≠ b := fun z => by
  obtain ⟨_, _, _, h0, _⟩ := h
  rw [z, h0] at e
  cases e
theorem Left.ne2 (h : Left H b c n) (e : H p = none) : p ≠ c := fun z => by
  obtain ⟨_, _, _, _, h0, _⟩ := h
  rw [z, h0] at e
  cases e
theorem Left.upd (h : Left H b c n) (e1 : p ≠ b) (e2 : p ≠ c) : Left (upd H p o) b c n := by
  obtain ⟨x, z, ns, h0, h1, h2⟩ := h
  exact ⟨x, z, ns, by rw [upd_ne e1.symm]; exact h0, by rw [upd_ne e2.symm]; exact h1, h2⟩
theorem Left.net (h : Left H b c n) {xs : List V} (e : H p = some (.tup xs)) : p ≠ b := fun z => by
  obtain ⟨_, _, _, h0, _⟩ := h
  rw [z, h0] at e
  cases e
theorem left_cells {x z : Int} {ns : List Int} (h0 : H b = some (.lst [.int x, .ref c, .int z])) (h1 : H c = some (.lst (ns.map V.int))) : c ≠ b := fun e => by
  rw [e, h0] at h1
  have h2 := HO.lst.inj (Option.some.inj h1)
  match ns, h2 with
  | [], h2 => cases h2
  | [_], h2 => cases h2
  | _ :: _ :: _, h2 => cases (List.cons.inj (List.cons.inj h2).2).1
theorem But.seqT {K : PySem.W.Frag} {a : Addr} {xs : List V} (t : But b H H') (hb : Left H b c n) (h : SqT K H a xs) : SqT K H' a xs := by
  obtain ⟨_, _, _, hx, _⟩ := hb
  rcases h with (h | ⟨o, h⟩) | h
  · exact .inl (.inl (t _ _ (ne_of h hx (by intro z; cases z)) h))
  · exact .inl (.inr ⟨o, t _ _ (ne_of h hx (by intro z; cases z)) h⟩)
  · exact .inr h
end
theorem none_of {H H' : Hp} {p : Addr} (s : Same H H') (h : H' p = none) : H p = none := by
  cases e : H p with
  | none => rfl
  | some o =>
    rw [s _ _ e] at h
    cases h
theorem cut_to {xs : List V} {k : Nat} (h : xs.length ≤ k) : cutV xs none (some (k : Int)) = xs := by
  unfold cutV
  rw [HT.sIx_nat, HT.sIx_none, Nat.min_eq_right h]
  simp
theorem pick3v {r : Int} {x y z : V} (h0 : 0 ≤ r) (h1 : r < 3) : ∃ v, atI [x, y, z] r = some v ∧ (v = x ∨ v = y ∨ v = z) := by
  have h : r = 0 ∨ r = 1 ∨ r = 2 := by omega
  rcases h with rfl | rfl | rfl
  · exact ⟨x, rfl, .inl rfl⟩
  · exact ⟨y, rfl, .inr (.inl rfl)⟩
  · exact ⟨z, rfl, .inr (.inr rfl)⟩
theorem pick3i {r x y z lo hi : Int} (h0 : 0 ≤ r) (h1 : r < 3) (hx : lo ≤ x ∧ x ≤ hi) (hy : lo ≤ y ∧ y ≤ hi) (hz : lo ≤ z ∧ z ≤ hi) : ∃ v : Int, atI [V.int x, .int y, .int z] r = some (.int v) ∧ lo ≤ v ∧ v ≤ hi := by
  have h : r = 0 ∨ r = 1 ∨ r = 2 := by omega
  rcases h with rfl | rfl | rfl
  · exact ⟨x, rfl, hx⟩
  · exact ⟨y, rfl, hy⟩
  · exact ⟨z, rfl, hz⟩
theorem pick4i {r x y z u lo hi : Int} (h0 : 0 ≤ r) (h1 : r < 4) (hx : lo ≤ x ∧ x ≤ hi) (hy : lo ≤ y ∧ y ≤ hi) (hz : lo ≤ z ∧ z ≤ hi) (hu : lo ≤ u ∧ u ≤ hi) : ∃ v : Int, atI [V.int x, .int y, .int z, .int u] r = some (.int v) ∧ lo ≤ v ∧ v ≤ hi := by
  have h : r = 0 ∨ r = 1 ∨ r = 2 ∨ r = 3 := by omega
  rcases h with rfl | rfl | rfl | rfl
  · exact ⟨x, rfl, hx⟩
  · exact ⟨y, rfl, hy⟩
  · exact ⟨z, rfl, hz⟩
  · exact ⟨u, rfl, hu⟩
/-! ### _law_mix -/
abbrev s__law_mix : Stmt := topS 14
abbrev N__law_mix : List Str := ["_law_cell", "_law_k", "_law_m"]
theorem sc__law_mix : FnScope N__law_mix ["_law_cell", "_law_k"] (defScope s__law_mix) := ⟨rfl, rfl, rfl, by decide +kernel, rfl, by decide +kernel, by decide +kernel⟩
def sp__law_mix (K : PySem.W.Frag) : Sp := fun vs H Q _ => ∃ (x k : Int), vs = [.int x, .int k] ∧ 0 ≤ k ∧ k < 10000000000 ∧ ∀ r : Int, 0 ≤ r → r < 1999999973 → Q (.int r) H
theorem ok__law_mix {f : Addr} {fd : FuncData} (F : Fun K "_law_mix" "_law_mix" s__law_mix f fd) (g : mg "_law_mix" = some (.ref f)) (bd : Binds K fd ["_law_cell", "_law_k"] []) : CF P w K mg base 1 "_law_mix" ["_law_cell", "_law_k"] (sp__law_mix K) := by
  refine ⟨f, fd, F.ok sc__law_mix (fun vs H Q E h => ?_) (fun cdv A outer s H vs Q E hr h => ?_), g, F.kp, bd⟩
  · first | (obtain ⟨_, rfl, _⟩ := h; rfl) | (obtain ⟨_, _, rfl, _⟩ := h; rfl) | (obtain ⟨_, _, _, rfl, _⟩ := h; rfl) | (obtain ⟨_, _, _, _, rfl, _⟩ := h; rfl) | (obtain ⟨_, _, _, _, _, rfl, _⟩ := h; rfl) | (obtain ⟨_, _, _, _, _, _, rfl, _⟩ := h; rfl) | (obtain ⟨_, _, _, _, _, _, _, rfl, _⟩ := h; rfl)
  · have hu64 := hr.units
    obtain ⟨x, k, rfl, k0, k1, q⟩ := h
    refine ⟨_, (pss_cons (ps_set (i := 2) sc__law_mix.nd rfl (.inl rfl) (pe_op op_mod (pe_op op_mul (pe_op op_add (pe_op op_add (pe_op op_mod (pv 0) pe_int) (pe_op op_mul (pe_op op_mul (pv 1) (pv 1)) pe_int)) pe_int) pe_int) pe_int))
      (pss_one (ps_ret (pe_op op_mod (pe_op op_mul (pv 2) (pv 2)) pe_int)))), ?_⟩
    refine ⟨_, rfl, _, _, rfl, rfl, (by show (0 : Int) < 2147483629; decide), _, rfl, _, rfl, _, _, rfl, rfl, .inl ⟨by omega, by omega⟩, _, _, rfl, rfl, .inr ⟨by decide, by decide⟩, _, _, rfl, rfl, _, _, rfl, rfl, _, _, rfl, rfl, .inr ⟨by decide, by decide⟩, _, _, rfl, rfl, (by show (0 : Int) < 2147483647; decide), ?_⟩
    have o0 := Int.emod_nonneg ((x % 2147483629 + k * k * 7919 + 11) * 48271) (show (2147483647 : Int) ≠ 0 by decide)
    have o1 := Int.emod_lt_of_pos ((x % 2147483629 + k * k * 7919 + 11) * 48271) (show (0 : Int) < 2147483647 by decide)
    exact ⟨_, rfl, _, rfl, _, _, rfl, rfl, .inl ⟨by omega, by omega⟩, _, _, rfl, rfl, (by show (0 : Int) < 1999999973; decide), q _ (Int.emod_nonneg _ (by decide)) (Int.emod_lt_of_pos _ (by decide))⟩
/-! ### _law_pick -/
abbrev s__law_pick : Stmt := topS 17
abbrev N__law_pick : List Str := ["_law_left", "_law_many", "_law_digit", "_law_cells", "_law_cell"]
theorem sc__law_pick : FnScope N__law_pick ["_law_left", "_law_many"] (defScope s__law_pick) := ⟨rfl, rfl, rfl, by decide +kernel, rfl, by decide +kernel, by decide +kernel⟩
def sp__law_pick (K : PySem.W.Frag) : Sp := fun vs H Q _ => ∃ (b c : Addr) (m n : Int), vs = [.ref b, .int m] ∧ Left H b c n ∧ 0 < m ∧ m < 1073741824 ∧ n < 1000000000 ∧ ∀ (r : Int) H', 0 ≤ r → r < m → Left H' b c (n + 1) → But b H H' → Q (.int r) H'
theorem ok__law_pick {f : Addr} {fd : FuncData} (F : Fun K "_law_pick" "_law_pick" s__law_pick f fd) (g : mg "_law_pick" = some (.ref f)) (bd : Binds K fd ["_law_left", "_law_many"] []) (m_len : mg "len" = none) (C__law_mix : CF P w K mg base 1 "_law_mix" ["_law_cell", "_law_k"] (sp__law_mix K)) : CF P w K mg base 2 "_law_pick" ["_law_left", "_law_many"] (sp__law_pick K) := by
  refine ⟨f, fd, F.ok sc__law_pick (fun vs H Q E h => ?_) (fun cdv A outer s H vs Q E hr h => ?_), g, F.kp, bd⟩
  · first | (obtain ⟨_, rfl, _⟩ := h; rfl) | (obtain ⟨_, _, rfl, _⟩ := h; rfl) | (obtain ⟨_, _, _, rfl, _⟩ := h; rfl) | (obtain ⟨_, _, _, _, rfl, _⟩ := h; rfl) | (obtain ⟨_, _, _, _, _, rfl, _⟩ := h; rfl) | (obtain ⟨_, _, _, _, _, _, rfl, _⟩ := h; rfl) | (obtain ⟨_, _, _, _, _, _, _, rfl, _⟩ := h; rfl)
  · have hu64 := hr.units
    obtain ⟨b, c, m, n, rfl, ⟨x, z, ns, hb, hc, hx, hz, hz2, hl0, hl1⟩, hm, hm2, hn, q⟩ := h
    refine ⟨_, (pss_cons (ps_asg (pe_op op_add (pe_ix (kk_ixl K) (pv 0) pe_int (fun _ _ => rfl)) pe_int) (pg_sub (pv 0) pe_int set_list))
      (pss_cons (ps_if (pt_cmpR op_gt (pe_ix (kk_ixl K) (pv 0) pe_int (fun _ _ => rfl)) pe_int (nomark _))
         (pss_cons (ps_set (i := 2) sc__law_pick.nd rfl (.inl rfl) (pe_op op_mod (pe_ix (kk_ixl K) (pv 0) pe_int (fun _ _ => rfl)) (pv 1)))
          (pss_cons (ps_asg (pe_op op_fdiv (pe_ix (kk_ixl K) (pv 0) pe_int (fun _ _ => rfl)) (pv 1)) (pg_sub (pv 0) pe_int set_list))
          (pss_one (ps_ret (pv 2)))))
         pss_nil)
      (pss_cons (ps_set (i := 3) sc__law_pick.nd rfl (.inl rfl) (pe_ix (kk_ixl K) (pv 0) pe_int (fun _ _ => rfl)))
      (pss_cons (ps_set (i := 4) sc__law_pick.nd rfl (.inl rfl) (pe_op op_add (pe_ix (kk_ixl K) (pv 3) (pe_op op_mod (pe_ix (kk_ixl K) (pv 0) pe_int (fun _ _ => rfl)) (pe_callB (kk_len K) (by rfl) m_len PySem.boot_len (pa_cons (pv 3) pa_nil))) (fun _ _ => rfl)) (pe_op op_mul pe_int (pe_op op_fdiv (pe_ix (kk_ixl K) (pv 0) pe_int (fun _ _ => rfl)) (pe_callB (kk_len K) (by rfl) m_len PySem.boot_len (pa_cons (pv 3) pa_nil))))))
      (pss_one (ps_ret (pe_op op_mod (pe_op op_fdiv (pe_cf C__law_mix (hr.mono (by decide)) (by rfl) (pa_cons (pe_cf C__law_mix (hr.mono (by decide)) (by rfl) (pa_cons (pv 4) (pa_cons (pe_ix (kk_ixl K) (pv 0) pe_int (fun _ _ => rfl)) pa_nil))) (pa_cons (pe_op op_add (pe_ix (kk_ixl K) (pv 0) pe_int (fun _ _ => rfl)) pe_int) pa_nil))) pe_int) (pv 1)))))))), ?_⟩
    have ncb := left_cells hb hc
    have h1 : (upd H b (.lst [.int x, .ref c, .int (z + 1)])) b = some (.lst [.int x, .ref c, .int (z + 1)]) := upd_same
    have c1 : (upd H b (.lst [.int x, .ref c, .int (z + 1)])) c = some (.lst (ns.map V.int)) := by rw [upd_ne ncb]; exact hc
    refine ⟨_, rfl, b, _, _, _, rfl, rfl, SqL.of hb, rfl, _, _, rfl, rfl, _, rfl, b, _, _, _, rfl, rfl, hb, rfl, ?_⟩
    refine ⟨_, rfl, b, _, _, _, rfl, rfl, SqL.of h1, rfl, _, _, rfl, rfl, _, rfl, ite2 (fun e => ?_) (fun e => ?_)⟩
    · refine ⟨_, rfl, b, _, _, _, rfl, rfl, SqL.of h1, rfl, _, rfl, _, _, rfl, rfl, hm, ?_⟩
      refine ⟨_, rfl, b, _, _, _, rfl, rfl, SqL.of h1, rfl, _, rfl, _, _, rfl, rfl, ⟨hm, hm2⟩, _, rfl, b, _, _, _, rfl, rfl, h1, rfl, ?_⟩
      refine ⟨_, rfl, q _ _ (Int.emod_nonneg _ (by omega)) (Int.emod_lt_of_pos _ hm) ⟨x / m, z + 1, ns, upd_same, by rw [upd_ne ncb]; exact c1, Int.ediv_nonneg hx (by omega), by omega, by omega, hl0, hl1⟩ (But.upd.trans But.upd)⟩
    · have hlp : (0 : Int) < ((ns.map V.int).length : Int) := by rw [List.length_map]; omega
      have m0 := Int.emod_nonneg (z + 1) (show ((ns.map V.int).length : Int) ≠ 0 by omega)
      have m1 := Int.emod_lt_of_pos (z + 1) hlp
      have hlen : ((ns.map V.int).length : Int) = (ns.length : Int) := by rw [List.length_map]
      obtain ⟨d, hd⟩ := at_int (ns := ns) m0 (by rw [← hlen]; exact m1)
      refine ⟨_, rfl, b, _, _, _, rfl, rfl, SqL.of h1, rfl, ?_⟩
      refine ⟨_, rfl, _, rfl, b, _, _, _, rfl, rfl, SqL.of h1, rfl, _, rfl, c, _, rfl, .inl (SqL.of c1), _, _, rfl, rfl, hlp, c, _, _, _, rfl, rfl, SqL.of c1, hd, ?_⟩
      refine ⟨_, rfl, b, _, _, _, rfl, rfl, SqL.of h1, rfl, _, rfl, c, _, rfl, .inl (SqL.of c1), _, _, rfl, rfl, ⟨hlp, by omega⟩, _, _, rfl, rfl, .inl ⟨by decide, by decide⟩, _, _, rfl, rfl, ?_⟩
      refine ⟨_, rfl, _, rfl, b, _, _, _, rfl, rfl, SqL.of h1, rfl, _, z + 1, rfl, by omega, by omega, fun r1 r10 r11 => ?_⟩
      refine ⟨_, rfl, b, _, _, _, rfl, rfl, SqL.of h1, rfl, _, _, rfl, rfl, r1, z + 1 + 64, rfl, by omega, by omega, fun r2 r20 r21 => ?_⟩
      exact ⟨_, _, rfl, rfl, ⟨by decide, by decide⟩, _, rfl, _, _, rfl, rfl, hm, q _ _ (Int.emod_nonneg _ (by omega)) (Int.emod_lt_of_pos _ hm) ⟨x, z + 1, ns, h1, c1, hx, by omega, by omega, hl0, hl1⟩ But.upd⟩
/-! ### _law_drawn_from -/
abbrev s__law_drawn_from : Stmt := topS 16
abbrev N__law_drawn_from : List Str := ["_law_script", "_law_k", "_law_cell"]
theorem sc__law_drawn_from : FnScope N__law_drawn_from ["_law_script", "_law_k"] (defScope s__law_drawn_from) := ⟨rfl, rfl, rfl, by decide +kernel, rfl, by decide +kernel, by decide +kernel⟩
def sp__law_drawn_from (K : PySem.W.Frag) : Sp := fun vs H Q _ => ∃ (a : Addr) (k : Int) (ns : List Int), vs = [.ref a, .int k] ∧ SqL K H a (ns.map V.int) ∧ ns.length ≤ 63 ∧ 0 ≤ k ∧ k ≤ 63 ∧ ∀ H' b c, H b = none → H c = none → Same H H' → Left H' b c (1009 * k) → Q (.ref b) H'
theorem big_or (c : Int) : ∃ x : Int, atI [V.int 0, .int (if c < 0 then -c else c)] (if decide (10 ^ (18 : Int).toNat ≤ (if c < 0 then -c else c)) = true then 1 else 0) = some (.int x) ∧ 0 ≤ x := by
  by_cases h : 10 ^ (18 : Int).toNat ≤ (if c < 0 then -c else c)
  · rw [decide_eq_true h]
    refine ⟨_, rfl, ?_⟩
    split <;> omega
  · rw [decide_eq_false h]
    exact ⟨0, rfl, by decide⟩
theorem ok__law_drawn_from {f : Addr} {fd : FuncData} (F : Fun K "_law_drawn_from" "_law_drawn_from" s__law_drawn_from f fd) (g : mg "_law_drawn_from" = some (.ref f)) (bd : Binds K fd ["_law_script", "_law_k"] []) (m_len : mg "len" = none) (m_abs : mg "abs" = none) (m_int : mg "int" = none) : CF P w K mg base 1 "_law_drawn_from" ["_law_script", "_law_k"] (sp__law_drawn_from K) := by
  refine ⟨f, fd, F.ok sc__law_drawn_from (fun vs H Q E h => ?_) (fun cdv A outer s H vs Q E hr h => ?_), g, F.kp, bd⟩
  · first | (obtain ⟨_, rfl, _⟩ := h; rfl) | (obtain ⟨_, _, rfl, _⟩ := h; rfl) | (obtain ⟨_, _, _, rfl, _⟩ := h; rfl) | (obtain ⟨_, _, _, _, rfl, _⟩ := h; rfl) | (obtain ⟨_, _, _, _, _, rfl, _⟩ := h; rfl) | (obtain ⟨_, _, _, _, _, _, rfl, _⟩ := h; rfl) | (obtain ⟨_, _, _, _, _, _, _, rfl, _⟩ := h; rfl)
  · have hu64 := hr.units
    obtain ⟨a, k, ns, rfl, hS, hlen, hk0, hk, q⟩ := h
    refine ⟨_, (pss_cons (ps_set (i := 2) sc__law_drawn_from.nd rfl (.inl rfl) (pe_ifExp (pt_cmpR op_lt (pv 1) (pe_callB (kk_len K) (by rfl) m_len PySem.boot_len (pa_cons (pv 0) pa_nil)) (nomark _)) (pe_ix (kk_ixl K) (pv 0) (pv 1) (fun _ _ => rfl)) pe_int))
      (pss_one (ps_ret (pe_lst (pa_cons (pe_ix (kk_ixl K) (pe_lst (pa_cons pe_int (pa_cons (pe_callB call_abs (by rfl) m_abs (by decide +kernel) (pa_cons (pv 2) pa_nil)) pa_nil))) (pe_callTy call_int1 (by rfl) m_int (by decide +kernel) (pa_cons (pe_cmpR op_ge (pe_callB call_abs (by rfl) m_abs (by decide +kernel) (pa_cons (pv 2) pa_nil)) (pe_op op_pow pe_int pe_int) (nomark _)) pa_nil)) (fun _ _ => rfl)) (pa_cons (pe_ifExp (pt_cmpR op_gt (pe_callB (kk_len K) (by rfl) m_len PySem.boot_len (pa_cons (pv 0) pa_nil)) pe_int (nomark _)) (pe_slice (kk_sll K) (pv 0) po_none (po_some pe_int)) (pe_lst (pa_cons pe_int pa_nil))) (pa_cons (pe_op op_mul pe_int (pv 1)) pa_nil))))))), ?_⟩
    refine ⟨_, rfl, _, rfl, a, _, rfl, .inl hS, _, _, rfl, rfl, _, rfl, ite2 (fun e => ?c1) (fun e => ?c2)⟩
    case' c1 =>
      have e1 := of_decide_eq_true e
      rw [List.length_map] at e1
      obtain ⟨d, hd⟩ := at_int hk0 e1
      refine ⟨_, rfl, _, rfl, a, _, _, _, rfl, rfl, hS, hd, ?_⟩
    all_goals
      refine ⟨_, rfl, _, rfl, (by show 2 ≤ sizeLine; decide), fun p hp => ?_⟩
      refine ⟨_, rfl, _, rfl, _, _, rfl, rfl, ⟨by decide, by decide, by decide⟩, _, _, rfl, rfl, .inr ⟨_, rfl, p, _, _, _, rfl, rfl, SqL.of upd_same, (big_or _).choose_spec.1, ?_⟩⟩
      have s1 := fun o => same_new (o := o) hp
      refine ⟨_, rfl, a, _, rfl, .inl ((s1 _).seq hS), _, _, rfl, rfl, _, rfl, ite2 (fun e2 => ?_) (fun e2 => ?_)⟩
      · have e3 := of_decide_eq_true e2
        rw [List.length_map] at e3
        refine ⟨_, rfl, _, rfl, a, _, rfl, (s1 _).seq hS, fun c nc => ?_⟩
        refine ⟨_, rfl, _, _, rfl, rfl, .inl ⟨by decide, by decide⟩, (by show 3 ≤ sizeLine; decide), fun l nl => ?_⟩
        refine q _ l c (none_of ((s1 _).trans (same_new nc)) nl) (none_of (s1 _) nc) (((s1 _).trans (same_new nc)).trans (same_new nl)) ⟨_, _, ns, upd_same, ?_, (big_or _).choose_spec.2, by omega, by omega, by omega, hlen⟩
        rw [upd_ne (ne_of_none upd_same nl), upd_same]
        exact congrArg (fun z => some (HO.lst z)) (cut_to (k := 63) (by rw [List.length_map]; exact hlen))
      · refine ⟨(by show 1 ≤ sizeLine; decide), fun c nc => ?_⟩
        refine ⟨_, rfl, _, _, rfl, rfl, .inl ⟨by decide, by decide⟩, (by show 3 ≤ sizeLine; decide), fun l nl => ?_⟩
        refine q _ l c (none_of ((s1 _).trans (same_new nc)) nl) (none_of (s1 _) nc) (((s1 _).trans (same_new nc)).trans (same_new nl)) ⟨_, _, [7], upd_same, ?_, (big_or _).choose_spec.2, by omega, by omega, by decide, by decide⟩
        rw [upd_ne (ne_of_none upd_same nl), upd_same]
        rfl
/-! ### _law_keep -/
abbrev s__law_keep : Stmt := topS 18
abbrev N__law_keep : List Str := ["_law_left", "_law_many", "_law_some", "_law_turn"]
theorem sc__law_keep : FnScope N__law_keep ["_law_left", "_law_many"] (defScope s__law_keep) := ⟨rfl, rfl, rfl, by decide +kernel, rfl, by decide +kernel, by decide +kernel⟩
def sp__law_keep (K : PySem.W.Frag) : Sp := fun vs H Q _ => ∃ (b c : Addr) (m n : Int), vs = [.ref b, .int m] ∧ Left H b c n ∧ 1 ≤ m ∧ m ≤ 6 ∧ n < 999999000 ∧ ∀ H' v kd ks, Left H' b c (n + 20) → But b H H' → Keep K H' m ks v kd → Q v H'
theorem ok__law_keep {f : Addr} {fd : FuncData} (F : Fun K "_law_keep" "_law_keep" s__law_keep f fd) (g : mg "_law_keep" = some (.ref f)) (bd : Binds K fd ["_law_left", "_law_many"] []) (m_tuple : mg "tuple" = none) (m_range : mg "range" = none) (C__law_pick : CF P w K mg base 2 "_law_pick" ["_law_left", "_law_many"] (sp__law_pick K)) : CF P w K mg base 3 "_law_keep" ["_law_left", "_law_many"] (sp__law_keep K) := by
  refine ⟨f, fd, F.ok sc__law_keep (fun vs H Q E h => ?_) (fun cdv A outer s H vs Q E hr h => ?_), g, F.kp, bd⟩
  · first | (obtain ⟨_, rfl, _⟩ := h; rfl) | (obtain ⟨_, _, rfl, _⟩ := h; rfl) | (obtain ⟨_, _, _, rfl, _⟩ := h; rfl) | (obtain ⟨_, _, _, _, rfl, _⟩ := h; rfl) | (obtain ⟨_, _, _, _, _, rfl, _⟩ := h; rfl) | (obtain ⟨_, _, _, _, _, _, rfl, _⟩ := h; rfl) | (obtain ⟨_, _, _, _, _, _, _, rfl, _⟩ := h; rfl)
  · have hu64 := hr.units
    obtain ⟨b, c, m, n, rfl, hL, hm, hm6, hn, q⟩ := h
    refine ⟨_, (pss_cons (ps_set (i := 2) sc__law_keep.nd rfl (.inr rfl) (pe_lst (pa_cons pe_int (pa_cons pe_int (pa_cons (pe_cf C__law_pick (hr.mono (by decide)) (by rfl) (pa_cons (pv 0) (pa_cons pe_int pa_nil))) (pa_cons (pe_op op_mul pe_int (pe_cf C__law_pick (hr.mono (by decide)) (by rfl) (pa_cons (pv 0) (pa_cons pe_int pa_nil)))) pa_nil))))))
      (pss_cons (ps_if (pt_cmpR op_eq (pe_cf C__law_pick (hr.mono (by decide)) (by rfl) (pa_cons (pv 0) (pa_cons pe_int pa_nil))) pe_int (nomark _))
         (pss_one (ps_ret (pe_ix (kk_ixl K) (pv 2) (pe_cf C__law_pick (hr.mono (by decide)) (by rfl) (pa_cons (pv 0) (pa_cons pe_int pa_nil))) (fun _ _ => rfl))))
         pss_nil)
      (pss_cons (ps_if (pt_cmpR op_eq (pe_cf C__law_pick (hr.mono (by decide)) (by rfl) (pa_cons (pv 0) (pa_cons pe_int pa_nil))) pe_int (nomark _))
         (pss_one (ps_ret (pe_op (kk_repA K) (pe_tup (pa_cons (pe_ix (kk_ixl K) (pv 2) (pe_cf C__law_pick (hr.mono (by decide)) (by rfl) (pa_cons (pv 0) (pa_cons pe_int pa_nil))) (fun _ _ => rfl)) pa_nil)) (pv 1))))
         pss_nil)
      (pss_one (ps_ret (pe_callTy (kk_tuple K) (by rfl) m_tuple (by decide +kernel) (pa_cons (pe_lc (own := [("_law_turn", 3)]) (g := (gName 3)) (tt := tYes) rfl sc__law_keep.nd (pi_range1 (by rfl) m_range (pa_cons (pv 1) pa_nil)) (blkOk_by (own := [("_law_turn", 3)]) (N := N__law_keep) (sc := defScope s__law_keep) (by decide +kernel)) (fun _ _ _ _ _ => pg_name (i := 3) sc__law_keep.nd rfl (Or.inl rfl)) (fun _ _ _ _ _ => pts_nil) (fun _ _ _ _ _ => (pe_ix (kk_ixl K) (pe_lst (pa_cons pe_int (pa_cons pe_int (pa_cons (pe_cf C__law_pick (hr.mono (by decide)) (by rfl) (pa_cons (pv 0) (pa_cons pe_int pa_nil))) (pa_cons (pe_ix (kk_ixl K) (pv 2) pe_int (fun _ _ => rfl)) pa_nil))))) (pe_cf C__law_pick (hr.mono (by decide)) (by rfl) (pa_cons (pv 0) (pa_cons pe_int pa_nil))) (fun _ _ => rfl)))) pa_nil))))))), ?_⟩
    refine ⟨_, rfl, b, c, 101, n, rfl, hL, by decide, by decide, by omega, fun r1 H1 r10 r11 L1 t1 => ?_⟩
    refine ⟨_, rfl, b, c, 21, n + 1, rfl, L1, by decide, by decide, by omega, fun r2 H2 r20 r21 L2 t2 => ?_⟩
    refine ⟨_, _, rfl, rfl, .inl ⟨by decide, by decide⟩, (by show 4 ≤ sizeLine; decide), fun s hs => ?_⟩
    have L3 := L2.new (o := .lst [.int 0, .int 100, .int r1, .int (5 * r2)]) hs
    have t3 : But b H _ := (t1.trans t2).trans (But.new (o := .lst [.int 0, .int 100, .int r1, .int (5 * r2)]) hs)
    have nsb : s ≠ b := L2.ne hs
    have e3 := upd_same (H := H2) (a := s) (o := .lst [.int 0, .int 100, .int r1, .int (5 * r2)])
    have pk : ∀ {r : Int}, 0 ≤ r → r < 4 → ∃ v : Int, atI [V.int 0, .int 100, .int r1, .int (5 * r2)] r = some (.int v) ∧ 0 ≤ v ∧ v ≤ 100 := fun h0 h1 => pick4i h0 h1 (by omega) (by omega) (by omega) (by omega)
    refine ⟨_, rfl, b, c, 2, n + 1 + 1, rfl, L3, by decide, by decide, by omega, fun r3 H4 _ _ L4 t4 => ⟨rfl, _, rfl, ite2 (fun _ => ?_) (fun _ => ?_)⟩⟩
    · refine ⟨_, rfl, _, rfl, b, c, 4, n + 1 + 1 + 1, rfl, L4, by decide, by decide, by omega, fun r5 H5 r50 r51 L5 t5 => ?_⟩
      obtain ⟨v, hv, v0, v1⟩ := pk r50 r51
      exact ⟨s, _, _, _, rfl, rfl, SqL.of (t5 _ _ nsb (t4 _ _ nsb e3)), hv, q _ _ _ _ (L5.mono (by omega)) ((t3.trans t4).trans t5) (.one v v0 v1 rfl)⟩
    refine ⟨_, rfl, b, c, 4, n + 1 + 1 + 1, rfl, L4, by decide, by decide, by omega, fun r4 H5 _ _ L5 t5 => ⟨rfl, _, rfl, ite2 (fun _ => ?_) (fun _ => ?_)⟩⟩
    · refine ⟨_, rfl, _, rfl, b, c, 4, n + 1 + 1 + 1 + 1, rfl, L5, by decide, by decide, by omega, fun r5 H6 r50 r51 L6 t6 => ?_⟩
      obtain ⟨v, hv, v0, v1⟩ := pk r50 r51
      refine ⟨s, _, _, _, rfl, rfl, SqL.of (t6 _ _ nsb (t5 _ _ nsb (t4 _ _ nsb e3))), hv, (by show 1 ≤ sizeLine; decide), fun t ht => ⟨_, rfl, ?_⟩⟩
      have t7 : But b H (upd H6 t (.tup [.int v])) := (((t3.trans t4).trans t5).trans t6).trans (But.new ht)
      by_cases hp1 : m = 1
      · subst hp1
        refine .inr ⟨t, [.int v], rfl, rfl, SqT.of upd_same, by simp, ?_⟩
        exact q _ _ _ [v] ((L6.new ht).mono (by omega)) t7 (.all t (SqT.of upd_same) rfl fun k hk => by rw [List.mem_singleton.mp hk]; exact ⟨v0, v1⟩)
      · refine .inl ⟨t, m, [.int v], rfl, rfl, SqT.of upd_same, by simp, by omega, by omega, (by show 1 ≤ 1000; decide), fun t2 ht2 => ?_⟩
        refine q _ _ _ (List.replicate m.toNat v) (((L6.new ht).new ht2).mono (by omega)) (t7.trans (But.new ht2)) (.all t2 (SqT.of ?_) ?_ fun k hk => by rw [List.eq_of_mem_replicate hk]; exact ⟨v0, v1⟩)
        · rw [upd_same, rep1, List.map_replicate]
        · rw [List.length_replicate]
          omega
    · refine ⟨_, rfl, _, rfl, by omega, by omega, fun D hD => lc_range (lo := 0) (n := m.toNat) (fun i H' => But b H5 H' ∧ Left H' b c (n + 4 + 2 * i) ∧ ∃ ks : List Int, ks.length = i ∧ (∀ k ∈ ks, 0 ≤ k ∧ k ≤ 100) ∧ H' D = some (.lst (ks.map V.int))) ⟨But.new hD, (L5.mono (by omega)).new hD, [], rfl, fun _ h => (nomatch h), upd_same⟩ (fun i H' hi h => ?_) (fun H' h => ?_)⟩
      · obtain ⟨t6, L6, ks, hks, hkb, hDl⟩ := h
        have hDb : D ≠ b := L5.ne hD
        have hDc : D ≠ c := L5.ne2 hD
        refine ⟨rfl, _, rfl, b, c, 101, _, rfl, L6, by decide, by decide, by omega, fun r5 H7 r50 r51 L7 t7 => ?_⟩
        refine ⟨_, rfl, s, _, _, _, rfl, rfl, SqL.of (t7 _ _ nsb (t6 _ _ nsb (t5 _ _ nsb (t4 _ _ nsb e3)))), rfl, (by show 4 ≤ sizeLine; decide), fun l hl => ?_⟩
        refine ⟨_, rfl, b, c, 4, _, rfl, L7.new hl, by decide, by decide, by omega, fun r6 H8 r60 r61 L8 t8 => ?_⟩
        obtain ⟨v, hv, v0, v1⟩ := pick4i (lo := 0) (hi := 100) (x := 0) (y := 100) (z := r5) (u := 5 * r2) r60 r61 (by omega) (by omega) (by omega) (by omega)
        have hlb : l ≠ b := L7.ne hl
        have hD8 : H8 D = some (.lst (ks.map V.int)) := t8 _ _ hDb ((But.new (b := b) hl) _ _ hDb (t7 _ _ hDb hDl))
        refine ⟨l, _, _, _, rfl, rfl, SqL.of (t8 _ _ hlb upd_same), hv, _, hD8, ?_, ?_, ?_, ks ++ [v], ?_, ?_, ?_⟩
        · rw [List.length_map, hks]
          exact small1000 (by omega)
        · exact fun e o ne he => by
            rw [upd_ne (ne_of_none (show H5 e = some o from he) hD)]
            exact t8 _ _ ne ((But.new (b := b) hl) _ _ ne (t7 _ _ ne (t6 _ _ ne he)))
        · exact (L8.mono (by omega)).upd hDb hDc
        · rw [List.length_append, hks]
          rfl
        · intro k hk
          rcases List.mem_append.mp hk with z | z
          · exact hkb k z
          · rw [List.mem_singleton.mp z]
            exact ⟨v0, v1⟩
        · rw [upd_same, List.map_append]
          rfl
      · obtain ⟨t6, L6, ks, hks, hkb, hDl⟩ := h
        refine ⟨D, _, rfl, .inl ⟨SqL.of hDl, fun t ht => ?_⟩⟩
        exact q _ _ _ ks ((L6.new ht).mono (by omega)) ((((t3.trans t4).trans t5).trans t6).trans (But.new ht)) (.all t (SqT.of upd_same) (by omega) hkb)
def Drawn (K : PySem.W.Frag) (H : Hp) (t : Addr) (f : Fg) (kv : V) (kd : PyData) : Prop := SqT K H t [.int f.p, .int f.s, .int f.g, .bl f.l, .int f.m, kv, .int f.fi, .int f.fa, .int f.ba] ∧ Figs f.p f.s f.g f.m f.fi f.fa f.ba ∧ Keep K H f.p f.ks kv kd
theorem Keep.same {K : PySem.W.Frag} {H H' : Hp} {p : Int} {ks : List Int} {v : V} {d : PyData} (h : Keep K H p ks v d) (e : Same H H') : Keep K H' p ks v d := by
  cases h with
  | one k h0 h1 e => exact .one k h0 h1 e
  | all a h hl hb => exact .all a (seqT_same e h) hl hb
theorem Keep.but {K : PySem.W.Frag} {H H' : Hp} {b c : Addr} {n p : Int} {ks : List Int} {v : V} {d : PyData} (h : Keep K H p ks v d) (e : But b H H') (l : Left H b c n) : Keep K H' p ks v d := by
  cases h with
  | one k h0 h1 e => exact .one k h0 h1 e
  | all a h hl hb => exact .all a (e.seqT l h) hl hb
theorem Drawn.same {K : PySem.W.Frag} {H H' : Hp} {t : Addr} {f : Fg} {kv : V} {kd : PyData} (h : Drawn K H t f kv kd) (e : Same H H') : Drawn K H' t f kv kd := ⟨seqT_same e h.1, h.2.1, h.2.2.same e⟩
theorem Drawn.but {K : PySem.W.Frag} {H H' : Hp} {b c t : Addr} {n : Int} {f : Fg} {kv : V} {kd : PyData} (h : Drawn K H t f kv kd) (e : But b H H') (l : Left H b c n) : Drawn K H' t f kv kd := ⟨e.seqT l h.1, h.2.1, h.2.2.but e l⟩
theorem Drawn.ok {K : PySem.W.Frag} {H : Hp} {t : Addr} {f : Fg} {kv : V} {kd : PyData} (h : Drawn K H t f kv kd) : f.Ok := by
  obtain ⟨_, F, k⟩ := h
  refine ⟨F, ?_, ?_⟩
  · cases k with
    | one k h0 h1 e =>
      have := F.p0
      rw [e, List.length_replicate]
      omega
    | all a h hl hb => exact hl
  · cases k with
    | one k h0 h1 e =>
      intro x hx
      rw [e] at hx
      rw [List.eq_of_mem_replicate hx]
      exact ⟨h0, h1⟩
    | all a h hl hb => exact hb
def mostN : Nat → Int
  | 0 => 100
  | _ => 30
theorem most_at {i : Nat} {x : V} (h : [V.int 100, .int 30, .int 30][i]? = some x) : i < 3 ∧ x = .int (mostN i) ∧ 30 ≤ mostN i ∧ mostN i ≤ 100 := by
  match i, h with
  | 0, h => cases h; exact ⟨by decide, rfl, by decide, by decide⟩
  | 1, h => cases h; exact ⟨by decide, rfl, by decide, by decide⟩
  | 2, h => cases h; exact ⟨by decide, rfl, by decide, by decide⟩
  | n + 3, h => cases h
/-! ### _law_some_rule -/
abbrev s__law_some_rule : Stmt := topS 19
abbrev N__law_some_rule : List Str := ["_law_left", "_law_many", "_law_far", "_law_found", "_law_most"]
theorem sc__law_some_rule : FnScope N__law_some_rule ["_law_left"] (defScope s__law_some_rule) := ⟨rfl, rfl, rfl, by decide +kernel, rfl, by decide +kernel, by decide +kernel⟩
def sp__law_some_rule (K : PySem.W.Frag) : Sp := fun vs H Q _ => ∃ (b c : Addr) (n : Int), vs = [.ref b] ∧ Left H b c n ∧ n < 999990000 ∧ ∀ H' t f kv kd, Left H' b c (n + 40) → But b H H' → Drawn K H' t f kv kd → Q (.ref t) H'
theorem ok__law_some_rule {f : Addr} {fd : FuncData} (F : Fun K "_law_some_rule" "_law_some_rule" s__law_some_rule f fd) (g : mg "_law_some_rule" = some (.ref f)) (bd : Binds K fd ["_law_left"] []) (m_tuple : mg "tuple" = none) (C__law_pick : CF P w K mg base 2 "_law_pick" ["_law_left", "_law_many"] (sp__law_pick K)) (C__law_keep : CF P w K mg base 3 "_law_keep" ["_law_left", "_law_many"] (sp__law_keep K)) : CF P w K mg base 4 "_law_some_rule" ["_law_left"] (sp__law_some_rule K) := by
  refine ⟨f, fd, F.ok sc__law_some_rule (fun vs H Q E h => ?_) (fun cdv A outer s H vs Q E hr h => ?_), g, F.kp, bd⟩
  · first | (obtain ⟨_, rfl, _⟩ := h; rfl) | (obtain ⟨_, _, rfl, _⟩ := h; rfl) | (obtain ⟨_, _, _, rfl, _⟩ := h; rfl) | (obtain ⟨_, _, _, _, rfl, _⟩ := h; rfl) | (obtain ⟨_, _, _, _, _, rfl, _⟩ := h; rfl) | (obtain ⟨_, _, _, _, _, _, rfl, _⟩ := h; rfl) | (obtain ⟨_, _, _, _, _, _, _, rfl, _⟩ := h; rfl)
  · have hu64 := hr.units
    obtain ⟨b, c, n, rfl, hL, hn, q⟩ := h
    refine ⟨_, (pss_cons (ps_par (i := 1) (j := 2) (by rfl) sc__law_some_rule.nd rfl rfl (by decide) rfl rfl (pa_cons (pe_ix (kk_ixl K) (pe_lst (pa_cons pe_int (pa_cons pe_int (pa_cons (pe_op op_add pe_int (pe_cf C__law_pick (hr.mono (by decide)) (by rfl) (pa_cons (pv 0) (pa_cons pe_int pa_nil)))) pa_nil)))) (pe_cf C__law_pick (hr.mono (by decide)) (by rfl) (pa_cons (pv 0) (pa_cons pe_int pa_nil))) (fun _ _ => rfl)) (pa_cons (pe_ix (kk_ixl K) (pe_lst (pa_cons pe_int (pa_cons pe_int (pa_cons (pe_op op_add pe_int (pe_cf C__law_pick (hr.mono (by decide)) (by rfl) (pa_cons (pv 0) (pa_cons pe_int pa_nil)))) pa_nil)))) (pe_cf C__law_pick (hr.mono (by decide)) (by rfl) (pa_cons (pv 0) (pa_cons pe_int pa_nil))) (fun _ _ => rfl)) pa_nil)) (by rfl))
      (pss_cons (ps_set (i := 3) sc__law_some_rule.nd rfl (.inl rfl) (pe_lst (pa_cons (pv 1) (pa_cons (pv 2) (pa_cons (pe_ix (kk_ixl K) (pe_lst (pa_cons pe_int (pa_cons pe_int (pa_cons (pe_cf C__law_pick (hr.mono (by decide)) (by rfl) (pa_cons (pv 0) (pa_cons pe_int pa_nil))) pa_nil)))) (pe_cf C__law_pick (hr.mono (by decide)) (by rfl) (pa_cons (pv 0) (pa_cons pe_int pa_nil))) (fun _ _ => rfl)) (pa_cons (pe_cmpR op_eq (pe_cf C__law_pick (hr.mono (by decide)) (by rfl) (pa_cons (pv 0) (pa_cons pe_int pa_nil))) pe_int (nomark _)) (pa_cons (pe_cf C__law_pick (hr.mono (by decide)) (by rfl) (pa_cons (pv 0) (pa_cons pe_int pa_nil))) pa_nil)))))))
      (pss_cons (ps_set (i := 3) sc__law_some_rule.nd rfl (.inl rfl) (pe_op op_cat (pv 3) (pe_lst (pa_cons (pe_cf C__law_keep (hr.mono (by decide)) (by rfl) (pa_cons (pv 0) (pa_cons (pv 1) pa_nil))) pa_nil))))
      (pss_cons (ps_for PassesOwn.never rfl (pi_tup (pe_tup (pa_cons pe_int (pa_cons pe_int (pa_cons pe_int pa_nil))))) (pg_name (i := 4) sc__law_some_rule.nd rfl (.inl rfl))
         (pss_one (ps_expr (pe_bm PySem.F.plainAttrs_list PySem.F.slot_list_append PySem.F.type_list_append mt_append (pv 3) (pa_cons (pe_ix (kk_ixl K) (pe_lst (pa_cons pe_int (pa_cons pe_int (pa_cons (pv 4) (pa_cons (pe_cf C__law_pick (hr.mono (by decide)) (by rfl) (pa_cons (pv 0) (pa_cons (pe_op op_add (pv 4) pe_int) pa_nil))) pa_nil))))) (pe_cf C__law_pick (hr.mono (by decide)) (by rfl) (pa_cons (pv 0) (pa_cons pe_int pa_nil))) (fun _ _ => rfl)) pa_nil)))))
      (pss_one (ps_ret (pe_callTy (kk_tuple K) (by rfl) m_tuple (by decide +kernel) (pa_cons (pv 3) pa_nil)))))))), ?_⟩
    refine ⟨_, rfl, b, c, 6, n, rfl, hL, by decide, by decide, by omega, fun r1 H1 r10 r11 L1 t1 => ⟨_, _, rfl, rfl, (by show 3 ≤ sizeLine; decide), fun l1 n1 => ?_⟩⟩
    refine ⟨_, rfl, b, c, 3, _, rfl, L1.new n1, by decide, by decide, by omega, fun r2 H2 r20 r21 L2 t2 => ?_⟩
    obtain ⟨p, hp, p0, p1⟩ := pick3i (lo := 1) (hi := 6) (x := 1) (y := 6) (z := 1 + r1) r20 r21 (by omega) (by omega) (by omega)
    refine ⟨l1, _, _, _, rfl, rfl, SqL.of (t2 _ _ (L1.ne n1) upd_same), hp, ?_⟩
    have t2' := (t1.trans (But.new n1)).trans t2
    refine ⟨_, rfl, b, c, 14, _, rfl, L2, by decide, by decide, by omega, fun r3 H3 r30 r31 L3 t3 => ⟨_, _, rfl, rfl, (by show 3 ≤ sizeLine; decide), fun l2 n2 => ?_⟩⟩
    refine ⟨_, rfl, b, c, 3, _, rfl, L3.new n2, by decide, by decide, by omega, fun r4 H4 r40 r41 L4 t4 => ?_⟩
    obtain ⟨s', hs, s0, s1⟩ := pick3i (lo := 1) (hi := 14) (x := 1) (y := 14) (z := 1 + r3) r40 r41 (by omega) (by omega) (by omega)
    refine ⟨l2, _, _, _, rfl, rfl, SqL.of (t4 _ _ (L3.ne n2) upd_same), hs, _, _, rfl, ?_⟩
    have t4' := ((t2'.trans t3).trans (But.new n2)).trans t4
    refine ⟨_, rfl, _, rfl, _, rfl, b, c, 8, _, rfl, L4, by decide, by decide, by omega, fun r5 H5 r50 r51 L5 t5 => ⟨(by show 3 ≤ sizeLine; decide), fun l3 n3 => ?_⟩⟩
    refine ⟨_, rfl, b, c, 3, _, rfl, L5.new n3, by decide, by decide, by omega, fun r6 H6 r60 r61 L6 t6 => ?_⟩
    obtain ⟨g', hg, g0, g1⟩ := pick3i (lo := 0) (hi := 7) (x := 0) (y := 7) (z := r5) r60 r61 (by omega) (by omega) (by omega)
    refine ⟨l3, _, _, _, rfl, rfl, SqL.of (t6 _ _ (L5.ne n3) upd_same), hg, ?_⟩
    have t6' := ((t4'.trans t5).trans (But.new n3)).trans t6
    refine ⟨_, rfl, b, c, 2, _, rfl, L6, by decide, by decide, by omega, fun r7 H7 r70 r71 L7 t7 => ⟨rfl, ?_⟩⟩
    refine ⟨_, rfl, b, c, 3, _, rfl, L7, by decide, by decide, by omega, fun r8 H8 r80 r81 L8 t8 => ⟨(by show 5 ≤ sizeLine; decide), fun l4 n4 => ?_⟩⟩
    have n4b := L8.ne n4
    have L8' := L8.new (o := .lst [.int p, .int s', .int g', .bl (decide (V.int r7 = V.int 0)), .int r8]) n4
    have t8' := ((t6'.trans t7).trans t8).trans (But.new (o := .lst [.int p, .int s', .int g', .bl (decide (V.int r7 = V.int 0)), .int r8]) n4)
    refine ⟨_, rfl, _, rfl, _, rfl, b, c, p, _, rfl, L8', p0, p1, by omega, fun H9 kv kd ks L9 t9 hk => ⟨(by show 1 ≤ sizeLine; decide), fun l5 n5 => ?_⟩⟩
    refine ⟨l4, l5, _, _, rfl, rfl, (But.new (b := b) n5) _ _ n4b (t9 _ _ n4b upd_same), upd_same, (by show 5 + 1 ≤ sizeLine; decide), fun l6 n6 => ?_⟩
    have L5' := L9.new (o := .lst [kv]) n5
    have L6' := L5'.new (o := .lst [.int p, .int s', .int g', .bl (decide (V.int r7 = V.int 0)), .int r8, kv]) n6
    have n69 : H9 l6 = none := none_of (same_new n5) n6
    have n6b := L9.ne n69
    have n6c := L9.ne2 n69
    have e6 := upd_same (H := upd H9 l5 (.lst [kv])) (a := l6) (o := .lst [.int p, .int s', .int g', .bl (decide (V.int r7 = V.int 0)), .int r8, kv])
    refine ⟨(by show 3 ≤ sizeLine; decide), fun tt ntt => ?_⟩
    have ntb := L6'.ne ntt
    have n6t : l6 ≠ tt := ne_of_none e6 ntt
    refine ⟨tt, rfl, ⟨_, SqT.of upd_same⟩, for_tup (K := K) (a := tt) (xs := [.int 100, .int 30, .int 30]) (fun i σ H' => ∃ s4, σ = [some (.ref b), some (.int p), some (.int s'), some (.ref l6), s4] ∧ H' tt = some (.tup [.int 100, .int 30, .int 30]) ∧ But b H9 H' ∧ Left H' b c (n + 28 + 2 * i) ∧ ∃ es : List Int, es.length = i ∧ (∀ (j : Nat) (e : Int), es[j]? = some e → 0 ≤ e ∧ e ≤ mostN j) ∧ H' l6 = some (.lst ([.int p, .int s', .int g', .bl (decide (V.int r7 = V.int 0)), .int r8, kv] ++ es.map V.int)))
      ⟨_, rfl, upd_same, ((But.new n5).trans (But.new n6)).trans (But.new ntt), (L6'.mono (by omega)).new ntt, [], rfl, fun j e h => (nomatch h), by rw [upd_ne n6t]; exact e6⟩ (fun i σ H' _ h => by obtain ⟨_, _, h, _⟩ := h; exact SqT.of h) (fun i x σ H' hx h => ?_) (fun σ H' h => ?_)⟩
    · obtain ⟨s4, rfl, htt, tB, LB, es, hes, hev, hl6⟩ := h
      obtain ⟨hi3, rfl, m30, m100⟩ := most_at hx
      refine ⟨_, rfl, .inl ⟨rfl, _, SqL.of hl6⟩, _, rfl, _, rfl, _, rfl, _, _, rfl, rfl, b, c, mostN i + 1, _, rfl, LB, by omega, by omega, by omega, fun r9 HA r90 r91 LA tA => ⟨(by show 4 ≤ sizeLine; decide), fun l7 n7 => ?_⟩⟩
      refine ⟨_, rfl, b, c, 4, _, rfl, LA.new n7, by decide, by decide, by omega, fun ra HC ra0 ra1 LC tC => ?_⟩
      obtain ⟨v, hv, v0, v1⟩ := pick4i (lo := 0) (hi := mostN i) (x := 0) (y := 0) (z := mostN i) (u := r9) ra0 ra1 (by omega) (by omega) (by omega) (by omega)
      have tD : But b H' HC := (tA.trans (But.new n7)).trans tC
      refine ⟨l7, _, _, _, rfl, rfl, SqL.of (tC _ _ (LA.ne n7) upd_same), hv, l6, _, _, rfl, rfl, tD _ _ n6b hl6, ?_, _, rfl, ?_, ?_, ?_, es ++ [v], ?_, ?_, ?_⟩
      · rw [List.length_append, List.length_map, hes]
        exact small1000 (by show 6 + i ≤ 1000; omega)
      · rw [upd_ne n6t.symm]
        exact tD _ _ ntb htt
      · exact fun e o ne he => by
          rw [upd_ne (ne_of_none he n69)]
          exact tD _ _ ne (tB _ _ ne he)
      · exact (LC.mono (by omega)).upd n6b n6c
      · rw [List.length_append, hes]
        rfl
      · intro j e he
        rcases Nat.lt_or_ge j es.length with z | z
        · rw [List.getElem?_append_left z] at he
          exact hev j e he
        · rw [List.getElem?_append_right z] at he
          obtain ⟨h1, h2⟩ := List.getElem?_eq_some_iff.mp he
          have h3 : j - es.length = 0 := by
            have h4 : ([v] : List Int).length = 1 := rfl
            omega
          have h5 : j = i := by omega
          subst h5
          simp only [h3, List.getElem_cons_zero] at h2
          rw [← h2]
          exact ⟨v0, v1⟩
      · rw [upd_same, List.map_append, List.append_assoc]
        rfl
    · obtain ⟨s4, rfl, htt, tB, LB, es, hes, hev, hl6⟩ := h
      match es, hes with
      | [fi, fa, ba], _ =>
        have f1 := hev 0 fi rfl
        have f2 := hev 1 fa rfl
        have f3 := hev 2 ba rfl
        refine ⟨_, rfl, l6, _, rfl, .inl ⟨SqL.of hl6, fun t ht => ?_⟩⟩
        refine q _ t ⟨p, s', g', decide (V.int r7 = V.int 0), r8, ks, fi, fa, ba⟩ kv kd ((LB.mono (by show n + 28 + 2 * (3 : Int) ≤ n + 40; omega)).new ht) (((t8'.trans t9).trans tB).trans (But.new ht)) ⟨SqT.of upd_same, ⟨p0, p1, s0, s1, g0, g1, r80, by show r8 ≤ 2; omega, f1.1, f1.2, f2.1, f2.2, f3.1, f3.2⟩, (hk.but tB L9).same (same_new ht)⟩
/-! ### _law_same -/
abbrev s__law_same : Stmt := topS 15
abbrev N__law_same : List Str := ["_law_found", "_law_due", "_law_one", "_law_other"]
theorem sc__law_same : FnScope N__law_same ["_law_found", "_law_due"] (defScope s__law_same) := ⟨rfl, rfl, rfl, by decide +kernel, rfl, by decide +kernel, by decide +kernel⟩
def spr__law_same (K : PySem.W.Frag) : Nat → Sp
  | 0 => fun _ _ _ _ => False
  | n + 1 => fun vs H Q _ => ∃ (x y : V) (d : PyData), vs = [x, y] ∧ Dp K H x d ∧ Dp K H y d ∧ PyData.depth d ≤ n ∧ thin d = true ∧ ∀ H', Same H H' → Q (.bl true) H'
def sp__law_same (K : PySem.W.Frag) : Sp := spr__law_same K 5
theorem st__law_same (n : Nat) {f : Addr} {fd : FuncData} (F : Fun K "_law_same" "_law_same" s__law_same f fd) (g : mg "_law_same" = some (.ref f)) (bd : Binds K fd ["_law_found", "_law_due"] []) (m_isinstance : mg "isinstance" = none) (m_tuple : mg "tuple" = none) (m_list : mg "list" = none) (m_all : mg "all" = none) (m_zip : mg "zip" = none) (m_len : mg "len" = none) (m_str : mg "str" = none) (m_bool : mg "bool" = none) (m_int : mg "int" = none) (C__law_same : CF P w K mg base (1 + n) "_law_same" ["_law_found", "_law_due"] (spr__law_same K n)) : CF P w K mg base (1 + n + 1) "_law_same" ["_law_found", "_law_due"] (spr__law_same K (n + 1)) := by
  refine ⟨f, fd, F.ok sc__law_same (fun vs H Q E h => ?_) (fun cdv A outer s H vs Q E hr h => ?_), g, F.kp, bd⟩
  · first | (obtain ⟨_, rfl, _⟩ := h; rfl) | (obtain ⟨_, _, rfl, _⟩ := h; rfl) | (obtain ⟨_, _, _, rfl, _⟩ := h; rfl) | (obtain ⟨_, _, _, _, rfl, _⟩ := h; rfl) | (obtain ⟨_, _, _, _, _, rfl, _⟩ := h; rfl) | (obtain ⟨_, _, _, _, _, _, rfl, _⟩ := h; rfl) | (obtain ⟨_, _, _, _, _, _, _, rfl, _⟩ := h; rfl)
  · have hu64 := hr.units
    obtain ⟨x, y, d, rfl, hx, hy, hd, ht, q⟩ := h
    refine ⟨_, (pss_cons (ps_if (pt_val (pe_callB (kk_isiT K) (by rfl) m_isinstance (by decide +kernel) (pa_cons (pv 1) (pa_cons (pe_tup (pa_cons (pe_bltn (v := .ty "list") (by rfl) m_list (by decide +kernel) rfl) (pa_cons (pe_bltn (v := .ty "tuple") (by rfl) m_tuple (by decide +kernel) rfl) pa_nil))) pa_nil))))
         (pss_cons (ps_if (PW.pt (pw_or (pt_cmpR op_ne (pe_callB (kk_isi K) (by rfl) m_isinstance (by decide +kernel) (pa_cons (pv 0) (pa_cons (pe_bltn (v := .ty "list") (by rfl) m_list (by decide +kernel) rfl) pa_nil))) (pe_callB (kk_isi K) (by rfl) m_isinstance (by decide +kernel) (pa_cons (pv 1) (pa_cons (pe_bltn (v := .ty "list") (by rfl) m_list (by decide +kernel) rfl) pa_nil))) (nomark _)) (pw_or1 (pt_cmpR op_ne (pe_callB (kk_isi K) (by rfl) m_isinstance (by decide +kernel) (pa_cons (pv 0) (pa_cons (pe_bltn (v := .ty "tuple") (by rfl) m_tuple (by decide +kernel) rfl) pa_nil))) (pe_callB (kk_isi K) (by rfl) m_isinstance (by decide +kernel) (pa_cons (pv 1) (pa_cons (pe_bltn (v := .ty "tuple") (by rfl) m_tuple (by decide +kernel) rfl) pa_nil))) (nomark _)))))
             (pss_one (ps_ret pe_bl))
             pss_nil)
          (pss_one (ps_ret (pe_and (pe_cmpR op_eq (pe_callB (kk_len K) (by rfl) m_len PySem.boot_len (pa_cons (pv 0) pa_nil)) (pe_callB (kk_len K) (by rfl) m_len PySem.boot_len (pa_cons (pv 1) pa_nil)) (nomark _)) (pe_one (pe_callB (kk_all K rfl) (by rfl) m_all (by decide +kernel) (pa_cons (pe_lc (own := [("_law_one", 2), ("_law_other", 3)]) (g := (gTup K 2 (gCons (gName 2) (gCons (gName 3) gNil)))) (tt := tYes) rfl sc__law_same.nd (RZ.pi_zipA (by rfl) m_zip (pa_cons (pv 0) (pa_cons (pv 1) pa_nil))) (blkOk_by (own := [("_law_one", 2), ("_law_other", 3)]) (N := N__law_same) (sc := defScope s__law_same) (by decide +kernel)) (fun _ _ _ _ _ => (pg_tup (by rfl) (pgs_cons (pg_name (i := 2) sc__law_same.nd rfl (.inl rfl)) (pgs_cons (pg_name (i := 3) sc__law_same.nd rfl (.inl rfl)) pgs_nil)))) (fun _ _ _ _ _ => pts_nil) (fun _ _ _ _ _ => (pe_cf C__law_same hr (by rfl) (pa_cons (pv 2) (pa_cons (pv 3) pa_nil))))) pa_nil)))))))
         pss_nil)
      (pss_cons (ps_if (PW.pt (pw_or (pt_cmpR op_isN (pv 1) pe_non (nomark _)) (pw_or1 (pt_val (pe_callB (kk_isi K) (by rfl) m_isinstance (by decide +kernel) (pa_cons (pv 1) (pa_cons (pe_bltn (v := .ty "str") (by rfl) m_str (by decide +kernel) rfl) pa_nil)))))))
         (pss_one (ps_ret (pe_and (pe_cmpR op_eq (pv 0) (pv 1) (nomark _)) (pe_one (pe_cmpR op_eq (pe_callB (kk_isi K) (by rfl) m_isinstance (by decide +kernel) (pa_cons (pv 0) (pa_cons (pe_bltn (v := .ty "str") (by rfl) m_str (by decide +kernel) rfl) pa_nil))) (pe_callB (kk_isi K) (by rfl) m_isinstance (by decide +kernel) (pa_cons (pv 1) (pa_cons (pe_bltn (v := .ty "str") (by rfl) m_str (by decide +kernel) rfl) pa_nil))) (nomark _))))))
         pss_nil)
      (pss_cons (ps_if (pt_val (pe_callB (kk_isi K) (by rfl) m_isinstance (by decide +kernel) (pa_cons (pv 1) (pa_cons (pe_bltn (v := .ty "bool") (by rfl) m_bool (by decide +kernel) rfl) pa_nil))))
         (pss_one (ps_ret (pe_and (pe_callB (kk_isi K) (by rfl) m_isinstance (by decide +kernel) (pa_cons (pv 0) (pa_cons (pe_bltn (v := .ty "bool") (by rfl) m_bool (by decide +kernel) rfl) pa_nil))) (pe_one (pe_cmpR op_eq (pv 0) (pv 1) (nomark _))))))
         pss_nil)
      (pss_one (ps_ret (pe_and (pe_callB (kk_isi K) (by rfl) m_isinstance (by decide +kernel) (pa_cons (pv 0) (pa_cons (pe_bltn (v := .ty "int") (by rfl) m_int (by decide +kernel) rfl) pa_nil))) (pe_and (pe_not (pe_callB (kk_isi K) (by rfl) m_isinstance (by decide +kernel) (pa_cons (pv 0) (pa_cons (pe_bltn (v := .ty "bool") (by rfl) m_bool (by decide +kernel) rfl) pa_nil)))) (pe_one (pe_cmpR op_eq (pv 0) (pv 1) (nomark _)))))))))), ?_⟩
    refine ⟨_, rfl, (by show 2 ≤ sizeLine; decide), fun tp ntp => ⟨_, tp, _, _, _, _, rfl, upd_same, .cons (.ty _) (.cons (.ty _) .nil), ty_of_dp (dp_same (same_new ntp) hy), kitLT d, _, rfl, ?_⟩⟩
    have s1 := same_new (o := .tup [.ty "list", .ty "tuple"]) ntp
    have q1 := q _ s1
    have tx := ty_of_dp (dp_same s1 hx)
    have ty := ty_of_dp (dp_same s1 hy)
    cases hx with
    | non =>
      cases hy
      exact iteF ⟨_, rfl, rfl, _, rfl, iteT (iteT ⟨_, rfl, _, rfl, rfl, _, rfl, iteY rfl ⟨_, rfl, _, _, _, _, _, rfl, .ty _, tx, kit_d (T := "str") (by decide) _, _, rfl, _, _, _, _, _, rfl, .ty _, ty, kit_d (T := "str") (by decide) _, rfl, qY rfl q1⟩⟩)⟩
    | str z =>
      cases hy
      exact iteF ⟨_, rfl, rfl, _, rfl, iteF ⟨_, rfl, _, _, _, _, _, rfl, .ty _, ty, kit_d (T := "str") (by decide) _, _, rfl, iteT ⟨_, rfl, _, rfl, rfl, _, rfl, iteY rfl ⟨_, rfl, _, _, _, _, _, rfl, .ty _, tx, kit_d (T := "str") (by decide) _, _, rfl, _, _, _, _, _, rfl, .ty _, ty, kit_d (T := "str") (by decide) _, rfl, qY rfl q1⟩⟩⟩⟩
    | bl b =>
      cases hy
      exact iteF ⟨_, rfl, rfl, _, rfl, iteF ⟨_, rfl, _, _, _, _, _, rfl, .ty _, ty, kit_d (T := "str") (by decide) _, _, rfl, iteF ⟨_, rfl, _, _, _, _, _, rfl, .ty _, ty, kit_d (T := "bool") (by decide) _, _, rfl, iteT ⟨_, rfl, _, _, _, _, _, rfl, .ty _, tx, kit_d (T := "bool") (by decide) _, _, rfl, iteT ⟨_, rfl, _, rfl, rfl, qY rfl q1⟩⟩⟩⟩⟩
    | int i =>
      cases hy
      exact iteF ⟨_, rfl, rfl, _, rfl, iteF ⟨_, rfl, _, _, _, _, _, rfl, .ty _, ty, kit_d (T := "str") (by decide) _, _, rfl, iteF ⟨_, rfl, _, _, _, _, _, rfl, .ty _, ty, kit_d (T := "bool") (by decide) _, _, rfl, iteF ⟨_, rfl, _, _, _, _, _, rfl, .ty _, tx, kit_d (T := "int") (by decide) _, _, rfl, iteT ⟨_, rfl, _, _, _, _, _, rfl, .ty _, tx, kit_d (T := "bool") (by decide) _, _, rfl, _, rfl, iteT ⟨_, rfl, _, rfl, rfl, qY rfl q1⟩⟩⟩⟩⟩⟩
    | @lst a xs ds hS hA =>
      obtain ⟨m, rfl⟩ : ∃ m, n = m + 1 := ⟨n - 1, by simp only [PyData.depth] at hd; omega⟩
      cases hy with
      | @lst a2 ys _ hS2 hA2 =>
        have hlen : xs.length = ys.length := (dpAll_len hA).trans (dpAll_len hA2).symm
        simp only [thin, Bool.and_eq_true, decide_eq_true_eq] at ht
        obtain ⟨ht1, ht2⟩ := ht
        have hxl := dpAll_len hA
        refine iteT ⟨_, rfl, _, _, _, _, _, rfl, .ty _, tx, kit_d (T := "list") (by decide) _, _, rfl, _, _, _, _, _, rfl, .ty _, ty, kit_d (T := "list") (by decide) _, rfl, _, rfl, iteF ⟨_, rfl, _, _, _, _, _, rfl, .ty _, tx, kit_d (T := "tuple") (by decide) _, _, rfl, _, _, _, _, _, rfl, .ty _, ty, kit_d (T := "tuple") (by decide) _, rfl, _, rfl, iteF ?_⟩⟩
        refine ⟨_, rfl, a, _, rfl, .inl (s1.seq hS), _, rfl, a2, _, rfl, .inl (s1.seq hS2), rfl, _, rfl, iteY (by rw [hlen]) ?_⟩
        refine ⟨_, rfl, _, rfl, a, a2, _, _, rfl, .inl ⟨s1.seq hS, s1.seq hS2, fun D hD => lc_gen (n := xs.length) (fun i H' => Same (upd H tp (.tup [.ty "list", .ty "tuple"])) H' ∧ H' D = some (.lst ((List.replicate i true).map V.bl))) ⟨same_new hD, upd_same⟩ (fun i H' h => canL hlen ((s1.trans h.1).seq hS) ((s1.trans h.1).seq hS2)) (fun i H' v H'' hi h hyl => ?_) (fun H' h => ?_)⟩⟩
        · obtain ⟨T, x', y', rfl, hT, rfl, f1, f2⟩ := hyl
          obtain ⟨h1, h2⟩ := h
          have g1 := f1 xs ((s1.trans h1).seq hS)
          have g2 := f2 ys ((s1.trans h1).seq hS2)
          obtain ⟨d1, e1, p1⟩ := dpAll_get hA g1
          obtain ⟨d2, e2, p2⟩ := dpAll_get hA2 g2
          cases (Option.some.inj (e1.symm.trans e2))
          have sT := same_new (o := .tup [x', y']) hT
          have dd := depth_at e1
          simp only [PyData.depth] at hd
          refine ⟨T, _, rfl, SqT.of upd_same, rfl, _, _, rfl, _, _, rfl, rfl, rfl, _, rfl, _, rfl, x', y', d1, rfl, dp_same ((s1.trans h1).trans sT) p1, dp_same ((s1.trans h1).trans sT) p2, by omega, thin_at ht2 e1, fun H3 s3 => ?_⟩
          refine ⟨_, s3 _ _ (sT _ _ h2), ?_, ?_, ?_⟩
          · rw [List.length_map, List.length_replicate]
            exact small1000 (by omega)
          · exact fun c o e => by
              rw [upd_ne (ne_of_none e hD)]
              exact s3 _ _ (sT _ _ (h1 _ _ e))
          · rw [upd_same, rep_snoc]
        · obtain ⟨h1, h2⟩ := h
          refine ⟨D, _, rfl, SqL.of h2, ?_⟩
          rw [all_true]
          exact q _ (s1.trans h1)
    | @tup a xs ds hS hA =>
      obtain ⟨m, rfl⟩ : ∃ m, n = m + 1 := ⟨n - 1, by simp only [PyData.depth] at hd; omega⟩
      cases hy with
      | @tup a2 ys _ hS2 hA2 =>
        have hlen : xs.length = ys.length := (dpAll_len hA).trans (dpAll_len hA2).symm
        simp only [thin, Bool.and_eq_true, decide_eq_true_eq] at ht
        obtain ⟨ht1, ht2⟩ := ht
        have hxl := dpAll_len hA
        refine iteT ⟨_, rfl, _, _, _, _, _, rfl, .ty _, tx, kit_d (T := "list") (by decide) _, _, rfl, _, _, _, _, _, rfl, .ty _, ty, kit_d (T := "list") (by decide) _, rfl, _, rfl, iteF ⟨_, rfl, _, _, _, _, _, rfl, .ty _, tx, kit_d (T := "tuple") (by decide) _, _, rfl, _, _, _, _, _, rfl, .ty _, ty, kit_d (T := "tuple") (by decide) _, rfl, _, rfl, iteF ?_⟩⟩
        refine ⟨_, rfl, a, _, rfl, .inr (seqT_same s1 hS), _, rfl, a2, _, rfl, .inr (seqT_same s1 hS2), rfl, _, rfl, iteY (by rw [hlen]) ?_⟩
        refine ⟨_, rfl, _, rfl, a, a2, _, _, rfl, .inr ⟨seqT_same s1 hS, seqT_same s1 hS2, fun D hD => lc_gen (n := xs.length) (fun i H' => Same (upd H tp (.tup [.ty "list", .ty "tuple"])) H' ∧ H' D = some (.lst ((List.replicate i true).map V.bl))) ⟨same_new hD, upd_same⟩ (fun i H' h => canT hlen (seqT_same (s1.trans h.1) hS) (seqT_same (s1.trans h.1) hS2)) (fun i H' v H'' hi h hyl => ?_) (fun H' h => ?_)⟩⟩
        · obtain ⟨T, x', y', rfl, hT, rfl, f1, f2⟩ := hyl
          obtain ⟨h1, h2⟩ := h
          have g1 := f1 xs (seqT_same (s1.trans h1) hS)
          have g2 := f2 ys (seqT_same (s1.trans h1) hS2)
          obtain ⟨d1, e1, p1⟩ := dpAll_get hA g1
          obtain ⟨d2, e2, p2⟩ := dpAll_get hA2 g2
          cases (Option.some.inj (e1.symm.trans e2))
          have sT := same_new (o := .tup [x', y']) hT
          have dd := depth_at e1
          simp only [PyData.depth] at hd
          refine ⟨T, _, rfl, SqT.of upd_same, rfl, _, _, rfl, _, _, rfl, rfl, rfl, _, rfl, _, rfl, x', y', d1, rfl, dp_same ((s1.trans h1).trans sT) p1, dp_same ((s1.trans h1).trans sT) p2, by omega, thin_at ht2 e1, fun H3 s3 => ?_⟩
          refine ⟨_, s3 _ _ (sT _ _ h2), ?_, ?_, ?_⟩
          · rw [List.length_map, List.length_replicate]
            exact small1000 (by omega)
          · exact fun c o e => by
              rw [upd_ne (ne_of_none e hD)]
              exact s3 _ _ (sT _ _ (h1 _ _ e))
          · rw [upd_same, rep_snoc]
        · obtain ⟨h1, h2⟩ := h
          refine ⟨D, _, rfl, SqL.of h2, ?_⟩
          rw [all_true]
          exact q _ (s1.trans h1)
theorem ok__law_same {f : Addr} {fd : FuncData} (F : Fun K "_law_same" "_law_same" s__law_same f fd) (g : mg "_law_same" = some (.ref f)) (bd : Binds K fd ["_law_found", "_law_due"] []) (m_isinstance : mg "isinstance" = none) (m_tuple : mg "tuple" = none) (m_list : mg "list" = none) (m_all : mg "all" = none) (m_zip : mg "zip" = none) (m_len : mg "len" = none) (m_str : mg "str" = none) (m_bool : mg "bool" = none) (m_int : mg "int" = none) : CF P w K mg base (6) "_law_same" ["_law_found", "_law_due"] (sp__law_same K) := by
  have all : ∀ n, CF P w K mg base (1 + n) "_law_same" ["_law_found", "_law_due"] (spr__law_same K n) := fun n => by
    induction n with
    | zero => exact ⟨f, fd, F.ok (k := 0) sc__law_same (fun vs H Q E h => h.elim) (fun cdv A outer s H vs Q E hr h => h.elim), g, F.kp, bd⟩
    | succ n ih => exact st__law_same n F g bd m_isinstance m_tuple m_list m_all m_zip m_len m_str m_bool m_int ih
  exact all 5
/-! ### _law_made -/
abbrev s__law_made : Stmt := topS 20
abbrev N__law_made : List Str := ["_law_some"]
theorem sc__law_made : FnScope N__law_made ["_law_some"] (defScope s__law_made) := ⟨rfl, rfl, rfl, by decide +kernel, rfl, by decide +kernel, by decide +kernel⟩
def sp__law_made (K : PySem.W.Frag) (C : Addr) : Sp := fun vs H Q _ => ∃ (t : Addr) (f : Fg) (kv : V) (kd : PyData), vs = [.ref t] ∧ Drawn K H t f kv kd ∧ ∀ H' r, H r = none → Same H H' → RuleAt K H' C r f → Q (.ref r) H'
theorem ok__law_made {f : Addr} {fd : FuncData} (F : Fun K "_law_made" "_law_made" s__law_made f fd) (g : mg "_law_made" = some (.ref f)) (bd : Binds K fd ["_law_some"] []) {CR : Addr} (T_Rule : TRule K mg CR) (M_Rule : CMk P w K mg base CR 4 "Rule" ["self", "parts", "step", "grace", "last", "misses", "keep", "fine", "falls", "back"] [] (sp_Rule___init__ K CR)) : CF P w K mg base 6 "_law_made" ["_law_some"] (sp__law_made K CR) := by
  refine ⟨f, fd, F.ok sc__law_made (fun vs H Q E h => ?_) (fun cdv A outer s H vs Q E hr h => ?_), g, F.kp, bd⟩
  · first | (obtain ⟨_, rfl, _⟩ := h; rfl) | (obtain ⟨_, _, rfl, _⟩ := h; rfl) | (obtain ⟨_, _, _, rfl, _⟩ := h; rfl) | (obtain ⟨_, _, _, _, rfl, _⟩ := h; rfl) | (obtain ⟨_, _, _, _, _, rfl, _⟩ := h; rfl) | (obtain ⟨_, _, _, _, _, _, rfl, _⟩ := h; rfl) | (obtain ⟨_, _, _, _, _, _, _, rfl, _⟩ := h; rfl)
  · have hu64 := hr.units
    obtain ⟨t, f', kv, kd, rfl, ⟨hT, hF, hk⟩, q⟩ := h
    refine ⟨_, (pss_one (ps_ret (pe_mkc M_Rule (hr.mono (by decide)) (by rfl) (pa_cons (pe_ix (kk_ixt K) (pv 0) pe_int (fun _ _ => rfl)) (pa_cons (pe_ix (kk_ixt K) (pv 0) pe_int (fun _ _ => rfl)) (pa_cons (pe_ix (kk_ixt K) (pv 0) pe_int (fun _ _ => rfl)) (pa_cons (pe_ix (kk_ixt K) (pv 0) pe_int (fun _ _ => rfl)) (pa_cons (pe_ix (kk_ixt K) (pv 0) pe_int (fun _ _ => rfl)) (pa_cons (pe_ix (kk_ixt K) (pv 0) pe_int (fun _ _ => rfl)) (pa_cons (pe_ix (kk_ixt K) (pv 0) pe_int (fun _ _ => rfl)) (pa_cons (pe_ix (kk_ixt K) (pv 0) pe_int (fun _ _ => rfl)) (pa_cons (pe_ix (kk_ixt K) (pv 0) pe_int (fun _ _ => rfl)) pa_nil)))))))))))), ?_⟩
    refine ⟨_, rfl, t, _, _, _, rfl, rfl, hT, rfl, _, rfl, t, _, _, _, rfl, rfl, hT, rfl, _, rfl, t, _, _, _, rfl, rfl, hT, rfl, _, rfl, t, _, _, _, rfl, rfl, hT, rfl, _, rfl, t, _, _, _, rfl, rfl, hT, rfl, _, rfl, t, _, _, _, rfl, rfl, hT, rfl, _, rfl, t, _, _, _, rfl, rfl, hT, rfl, _, rfl, t, _, _, _, rfl, rfl, hT, rfl, _, rfl, t, _, _, _, rfl, rfl, hT, rfl, ?_⟩
    intro x dx nx ndx hne
    have sx : Same H (upd (upd H dx (.own x)) x (.ins CR dx [])) := (same_new ndx).trans (same_new (by rw [upd_ne hne.symm]; exact nx))
    exact ⟨x, dx, _, _, _, _, _, kv, kd, f'.ks, _, _, _, rfl, upd_same, hF, hk.same sx, fun H' kt hb e hs => ⟨rfl, q H' x nx (same_but sx nx hb) ⟨dx, kt, e, hs⟩⟩⟩
/-! ### _law_whole -/
abbrev s__law_whole : Stmt := topS 21
abbrev N__law_whole : List Str := ["_law_some", "_law_kept"]
theorem sc__law_whole : FnScope N__law_whole ["_law_some"] (defScope s__law_whole) := ⟨rfl, rfl, rfl, by decide +kernel, rfl, by decide +kernel, by decide +kernel⟩
def sp__law_whole (K : PySem.W.Frag) : Sp := fun vs H Q _ => ∃ (t : Addr) (f : Fg) (kv : V) (kd : PyData), vs = [.ref t] ∧ Drawn K H t f kv kd ∧ ∀ H' w a, Same H H' → Drawn K H' w f (.ref a) (.tuple (f.ks.map PyData.int)) → SqT K H' a (f.ks.map V.int) → Q (.ref w) H'
theorem ok__law_whole {f : Addr} {fd : FuncData} (F : Fun K "_law_whole" "_law_whole" s__law_whole f fd) (g : mg "_law_whole" = some (.ref f)) (bd : Binds K fd ["_law_some"] []) (m_isinstance : mg "isinstance" = none) (m_tuple : mg "tuple" = none) : CF P w K mg base 1 "_law_whole" ["_law_some"] (sp__law_whole K) := by
  refine ⟨f, fd, F.ok sc__law_whole (fun vs H Q E h => ?_) (fun cdv A outer s H vs Q E hr h => ?_), g, F.kp, bd⟩
  · first | (obtain ⟨_, rfl, _⟩ := h; rfl) | (obtain ⟨_, _, rfl, _⟩ := h; rfl) | (obtain ⟨_, _, _, rfl, _⟩ := h; rfl) | (obtain ⟨_, _, _, _, rfl, _⟩ := h; rfl) | (obtain ⟨_, _, _, _, _, rfl, _⟩ := h; rfl) | (obtain ⟨_, _, _, _, _, _, rfl, _⟩ := h; rfl) | (obtain ⟨_, _, _, _, _, _, _, rfl, _⟩ := h; rfl)
  · have hu64 := hr.units
    obtain ⟨t, f', kv, kd, rfl, hD, q⟩ := h
    refine ⟨_, (pss_cons (ps_set (i := 1) sc__law_whole.nd rfl (.inl rfl) (pe_ifExp (pt_val (pe_callB (kk_isi K) (by rfl) m_isinstance (by decide +kernel) (pa_cons (pe_ix (kk_ixt K) (pv 0) pe_int (fun _ _ => rfl)) (pa_cons (pe_bltn (v := .ty "tuple") (by rfl) m_tuple (by decide +kernel) rfl) pa_nil)))) (pe_ix (kk_ixt K) (pv 0) pe_int (fun _ _ => rfl)) (pe_op (kk_repA K) (pe_tup (pa_cons (pe_ix (kk_ixt K) (pv 0) pe_int (fun _ _ => rfl)) pa_nil)) (pe_ix (kk_ixt K) (pv 0) pe_int (fun _ _ => rfl)))))
      (pss_one (ps_ret (pe_op (kk_catT K) (pe_op (kk_catT K) (pe_slice (kk_slt K) (pv 0) po_none (po_some pe_int)) (pe_tup (pa_cons (pv 1) pa_nil))) (pe_slice (kk_slt K) (pv 0) (po_some pe_int) po_none))))), ?_⟩
    obtain ⟨hT, hF, hk⟩ := id hD
    have ok := hD.ok
    have l5 : cutV [V.int f'.p, .int f'.s, .int f'.g, .bl f'.l, .int f'.m, kv, .int f'.fi, .int f'.fa, .int f'.ba] none (some 5) = [V.int f'.p, .int f'.s, .int f'.g, .bl f'.l, .int f'.m] := rfl
    have l6 : cutV [V.int f'.p, .int f'.s, .int f'.g, .bl f'.l, .int f'.m, kv, .int f'.fi, .int f'.fa, .int f'.ba] (some 6) none = [.int f'.fi, .int f'.fa, .int f'.ba] := rfl
    have fin : ∀ H1 a, Same H H1 → SqT K H1 a (f'.ks.map V.int) → tRet (tOp (rCatT K) (tOp (rCatT K) (tSl (rSlT K) (tVar 0) tNoPart (tPart (tC (V.int 5)))) (tTup (tCons (tVar 1) tNil))) (tSl (rSlT K) (tVar 0) (tPart (tC (V.int 6))) tNoPart)) { nx := fun x H' => Q V.non H', rt := Q } [some (.ref t), some (.ref a)] H1 := fun H1 a s1 ha => by
      refine ⟨_, rfl, _, rfl, t, _, rfl, seqT_same s1 hT, (by show ¬ (HT.sIx 9 0 none = 0 ∧ HT.sIx 9 9 (some 5) = 9); decide), fun c1 n1 => ?_⟩
      refine ⟨_, rfl, (by show 1 ≤ sizeLine; decide), fun c2 n2 => ?_⟩
      refine ⟨c1, c2, _, _, rfl, rfl, SqT.of ((same_new n2) _ _ upd_same), SqT.of upd_same, (by rw [l5]; simp), (by show 5 + 1 ≤ sizeLine; decide), fun e => (nomatch e), fun _ c3 n3 => ?_⟩
      have s3 := fun o => ((s1.trans (same_new n1)).trans (same_new n2)).trans (same_new (o := o) n3)
      have u3 := fun o => ((same_new n1).trans (same_new n2)).trans (same_new (o := o) n3)
      refine ⟨_, rfl, _, rfl, t, _, rfl, seqT_same (s3 _) hT, (by show ¬ (HT.sIx 9 0 (some 6) = 0 ∧ HT.sIx 9 9 none = 9); decide), fun c4 n4 => ?_⟩
      refine ⟨c3, c4, _, _, rfl, rfl, SqT.of ((same_new n4) _ _ upd_same), SqT.of upd_same, (by rw [l5]; simp), (by show 6 + 3 ≤ sizeLine; decide), fun e => absurd (l6.symm.trans e) (by simp), fun _ w nw => ?_⟩
      have s5 := fun o => ((s3 _).trans (same_new n4)).trans (same_new (o := o) nw)
      have ha5 := fun o => seqT_same (((u3 _).trans (same_new n4)).trans (same_new (o := o) nw)) ha
      exact q _ w a (s5 _) ⟨SqT.of upd_same, hF, .all a (ha5 _) ok.len ok.bnd⟩ (ha5 _)
    refine ⟨_, rfl, t, _, _, _, rfl, rfl, hT, rfl, _, _, _, _, _, rfl, .ty _, ty_of_dp hk.dp, kit_d (T := "tuple") (by decide) _, _, rfl, ?_⟩
    cases hk with
    | all a h hl hb => exact iteT ⟨_, rfl, t, _, _, _, rfl, rfl, hT, rfl, fin H a (Same.refl H) h⟩
    | one k h0 h1 ek =>
      refine iteF ⟨_, rfl, t, _, _, _, rfl, rfl, hT, rfl, (by show 1 ≤ sizeLine; decide), fun u nu => ⟨_, rfl, t, _, _, _, rfl, rfl, seqT_same (same_new nu) hT, rfl, ?_⟩⟩
      by_cases hp1 : f'.p = 1
      · refine .inr ⟨u, [.int k], rfl, by rw [hp1], SqT.of upd_same, by simp, ?_⟩
        refine fin _ u (same_new nu) ?_
        rw [ek, hp1]
        exact SqT.of upd_same
      · have := hF.p0
        have := hF.p1
        refine .inl ⟨u, f'.p, [.int k], rfl, rfl, SqT.of upd_same, by simp, by omega, by omega, (by show 1 ≤ 1000; decide), fun t2 ht2 => ?_⟩
        refine fin _ t2 ((same_new nu).trans (same_new ht2)) (SqT.of ?_)
        rw [upd_same, rep1, ek, List.map_replicate]
/-! ### _law_right -/
abbrev s__law_right : Stmt := topS 22
abbrev N__law_right : List Str := ["_law_rule", "_law_some", "_law_whole_here", "_law_at", "_law_one", "_law_both", "_law_found"]
theorem sc__law_right : FnScope N__law_right ["_law_rule", "_law_some"] (defScope s__law_right) := ⟨rfl, rfl, rfl, by decide +kernel, rfl, by decide +kernel, by decide +kernel⟩
def sp__law_right (K : PySem.W.Frag) (C : Addr) : Sp := fun vs H Q _ => ∃ (r t : Addr) (f : Fg) (kv : V) (kd : PyData), vs = [.ref r, .ref t] ∧ RuleAt K H C r f ∧ Drawn K H t f kv kd ∧ ∀ H', Same H H' → Q (.bl true) H'
theorem kept_at {f : Fg} (ok : f.Ok) {i : Nat} (h : i < f.p.toNat) : ∃ k, f.ks[i]? = some k := by
  have := ok.len
  have h1 : i < f.ks.length := by omega
  exact ⟨_, List.getElem?_eq_getElem h1⟩
theorem thin_ints : ∀ ns : List Int, thinAll (ns.map PyData.int) = true
  | [] => rfl
  | n :: r => by
    rw [List.map_cons]
    simp only [thinAll, thin, Bool.true_and]
    exact thin_ints r
theorem ok__law_right {f : Addr} {fd : FuncData} (F : Fun K "_law_right" "_law_right" s__law_right f fd) (g : mg "_law_right" = some (.ref f)) (bd : Binds K fd ["_law_rule", "_law_some"] []) {CR : Addr} (T_Rule : TRule K mg CR) (m_range : mg "range" = none) (m_min : mg "min" = none) (C__law_whole : CF P w K mg base 1 "_law_whole" ["_law_some"] (sp__law_whole K)) (C__law_same : CF P w K mg base 6 "_law_same" ["_law_found", "_law_due"] (sp__law_same K)) (C_Rule_keeps_1k : CMtK P w K mg base CR 1 "keeps" ["self", "paid", "gone"] 2 ["gone"] (fun vs zs => vs ++ zs) (sp_Rule_keeps K CR)) (C_Rule_keeps_2 : CMt P w K mg base CR 1 "keeps" ["self", "paid", "gone"] [] (sp_Rule_keeps K CR)) (C_Rule_keeps_1 : CMt P w K mg base CR 1 "keeps" ["self", "paid", "gone"] [.bl false] (sp_Rule_keeps K CR)) : CF P w K mg base 7 "_law_right" ["_law_rule", "_law_some"] (sp__law_right K CR) := by
  refine ⟨f, fd, F.ok sc__law_right (fun vs H Q E h => ?_) (fun cdv A outer s H vs Q E hr h => ?_), g, F.kp, bd⟩
  · first | (obtain ⟨_, rfl, _⟩ := h; rfl) | (obtain ⟨_, _, rfl, _⟩ := h; rfl) | (obtain ⟨_, _, _, rfl, _⟩ := h; rfl) | (obtain ⟨_, _, _, _, rfl, _⟩ := h; rfl) | (obtain ⟨_, _, _, _, _, rfl, _⟩ := h; rfl) | (obtain ⟨_, _, _, _, _, _, rfl, _⟩ := h; rfl) | (obtain ⟨_, _, _, _, _, _, _, rfl, _⟩ := h; rfl)
  · have hu64 := hr.units
    obtain ⟨r, t, f', kv, kd, rfl, hR, hD, q⟩ := h
    refine ⟨_, (pss_cons (ps_set (i := 2) sc__law_right.nd rfl (.inl rfl) (pe_cf C__law_whole (hr.mono (by decide)) (by rfl) (pa_cons (pv 1) pa_nil)))
      (pss_cons (ps_for PassesOwn.never rfl (pi_range1 (by rfl) m_range (pa_cons (pe_ix (kk_ixt K) (pv 1) pe_int (fun _ _ => rfl)) pa_nil)) (pg_name (i := 3) sc__law_right.nd rfl (.inl rfl))
         (pss_cons (ps_par (i := 4) (j := 5) (by rfl) sc__law_right.nd rfl rfl (by decide) rfl rfl (pa_cons (pe_ix (kk_ixt K) (pe_ix (kk_ixt K) (pv 2) pe_int (fun _ _ => rfl)) (pv 3) (fun _ _ => rfl)) (pa_cons (pe_callB (call_min2 rfl) (by rfl) m_min (by decide +kernel) (pa_cons pe_int (pa_cons (pe_op op_add (pe_ix (kk_ixt K) (pe_ix (kk_ixt K) (pv 2) pe_int (fun _ _ => rfl)) (pv 3) (fun _ _ => rfl)) (pe_ix (kk_ixt K) (pv 1) pe_int (fun _ _ => rfl))) pa_nil))) pa_nil)) (by rfl))
          (pss_cons (ps_set (i := 6) sc__law_right.nd rfl (.inl rfl) (pe_lst (pa_cons (pe_mt C_Rule_keeps_1 T_Rule.cl (hr.mono (by decide)) (pv 0) (pa_cons (pv 3) pa_nil)) (pa_cons (pe_mt C_Rule_keeps_2 T_Rule.cl (hr.mono (by decide)) (pv 0) (pa_cons (pv 3) (pa_cons pe_bl pa_nil))) (pa_cons (pe_mt C_Rule_keeps_2 T_Rule.cl (hr.mono (by decide)) (pv 0) (pa_cons (pv 3) (pa_cons pe_bl pa_nil))) (pa_cons (pe_mtK C_Rule_keeps_1k T_Rule.cl (hr.mono (by decide)) (pv 0) (pa_cons (pv 3) pa_nil) (pk_cons pe_bl pk_nil)) pa_nil))))))
          (pss_one (ps_if (pt_not (pt_val (pe_cf C__law_same (hr.mono (by decide)) (by rfl) (pa_cons (pv 6) (pa_cons (pe_lst (pa_cons (pv 4) (pa_cons (pv 4) (pa_cons (pv 5) (pa_cons (pv 5) pa_nil))))) pa_nil)))))
             (pss_one (ps_ret pe_bl))
             pss_nil)))))
      (pss_one (ps_ret pe_bl)))), ?_⟩
    have ok := hD.ok
    have p0 := ok.figs.p0
    have p1 := ok.figs.p1
    refine ⟨_, rfl, t, f', kv, kd, rfl, hD, fun H1 w a s1 hW ha => ?_⟩
    refine ⟨_, rfl, t, _, _, _, rfl, rfl, seqT_same s1 hD.1, rfl, _, rfl, by omega, by omega, for_range (fun i σ H' => ∃ s3 s4 s5 s6, σ = [some (.ref r), some (.ref t), some (.ref w), s3, s4, s5, s6] ∧ Same H1 H') ⟨_, _, _, _, rfl, Same.refl H1⟩ (fun i σ H' hi h => ?_) (fun σ H' h => ?_)⟩
    · obtain ⟨s3, s4, s5, s6, rfl, s2⟩ := h
      obtain ⟨k, hk⟩ := kept_at ok hi
      have hat : atI (f'.ks.map V.int) (0 + (i : Int)) = some (.int k) := by
        rw [Int.zero_add]
        refine atI_nat ?_
        rw [List.getElem?_map, hk]
        rfl
      have hk2 : f'.ks[((0 : Int) + (i : Int)).toNat]? = some k := by
        rw [Int.zero_add, Int.toNat_natCast]
        exact hk
      have hT2 := seqT_same (s1.trans s2) hD.1
      have hW2 := seqT_same s2 hW.1
      have ha2 := seqT_same s2 ha
      have hR2 := hR.same (s1.trans s2)
      obtain ⟨dx, kt, hR3, _⟩ := id hR2
      have lk : (ruleF f'.p f'.s f'.g f'.l f'.m kt f'.fi f'.fa f'.ba).lookup ("keeps" : Str) = none := lk0 (by decide +kernel)
      refine ⟨_, rfl, w, _, _, _, rfl, rfl, hW2, rfl, _, rfl, a, _, _, _, rfl, rfl, ha2, hat, ?_⟩
      refine ⟨_, rfl, w, _, _, _, rfl, rfl, hW2, rfl, _, rfl, a, _, _, _, rfl, rfl, ha2, hat, _, rfl, t, _, _, _, rfl, rfl, hT2, rfl, _, _, rfl, rfl, _, _, rfl, _, _, rfl, ?_⟩
      refine ⟨_, rfl, r, dx, _, rfl, hR3, lk, _, rfl, r, _, _, f', k, rfl, hR2, ok, by omega, by omega, hk2, ?_⟩
      refine ⟨_, rfl, r, dx, _, rfl, hR3, lk, _, rfl, r, _, _, f', k, rfl, hR2, ok, by omega, by omega, hk2, ?_⟩
      refine ⟨_, rfl, r, dx, _, rfl, hR3, lk, _, rfl, r, _, _, f', k, rfl, hR2, ok, by omega, by omega, hk2, ?_⟩
      refine ⟨_, rfl, r, dx, _, rfl, hR3, lk, _, rfl, rfl, rfl, r, _, _, f', k, rfl, hR2, ok, by omega, by omega, hk2, ?_⟩
      refine ⟨(by show 4 ≤ sizeLine; decide), fun l nl => ?_⟩
      refine ⟨_, rfl, _, rfl, _, rfl, _, rfl, _, rfl, (by show 4 ≤ sizeLine; decide), fun l2 nl2 => ?_⟩
      refine ⟨_, _, .list ([k, k, keptV f' k true, keptV f' k true].map PyData.int), rfl, dp_ints (SqL.of ((same_new nl2) _ _ upd_same)), dp_ints (SqL.of upd_same), by simp [PyData.depth, PyData.depthAll], by simp only [thin, thin_ints]; rfl, fun H3 s3' => ⟨_, rfl, iteF ?_⟩⟩
      exact ⟨_, _, _, _, rfl, ((s2.trans (same_new nl)).trans (same_new nl2)).trans s3'⟩
    · obtain ⟨s3, s4, s5, s6, rfl, s2⟩ := h
      exact q _ (s1.trans s2)
/-! ### law -/
abbrev s_law : Stmt := topS 23
abbrev N_law : List Str := ["_law_script", "_law_k", "_law_left", "_law_some", "_law_other", "_law_one", "_law_two", "_law_like", "_law_rule", "_law_figures_told"]
theorem sc_law : FnScope N_law ["_law_script"] (defScope s_law) := ⟨rfl, rfl, rfl, by decide +kernel, rfl, by decide +kernel, by decide +kernel⟩
def sp_law (K : PySem.W.Frag) : Sp := fun vs H Q _ => ∃ (a : Addr) (ns : List Int), vs = [.ref a] ∧ SqL K H a (ns.map V.int) ∧ ns.length ≤ 63 ∧ ∀ H', Q (.bl true) H'
/-- a pair of a rule and the figures that it was made of -/
def Pair (K : PySem.W.Frag) (H : Hp) (C p : Addr) : Prop := ∃ (r t : Addr) (f : Fg) (kv : V) (kd : PyData), H p = some (.tup [.ref r, .ref t]) ∧ RuleAt K H C r f ∧ Drawn K H t f kv kd
theorem Pair.same {K : PySem.W.Frag} {H H' : Hp} {C p : Addr} (h : Pair K H C p) (e : Same H H') : Pair K H' C p := by
  obtain ⟨r, t, f, kv, kd, h1, h2, h3⟩ := h
  exact ⟨r, t, f, kv, kd, e _ _ h1, h2.same e, h3.same e⟩
theorem Pair.mk' {K : PySem.W.Frag} {H : Hp} {C p r t : Addr} {f : Fg} {kv : V} {kd : PyData} (n : H p = none) (h2 : RuleAt K H C r f) (h3 : Drawn K H t f kv kd) : Pair K (upd H p (.tup [.ref r, .ref t])) C p := ⟨r, t, f, kv, kd, upd_same, h2.same (same_new n), h3.same (same_new n)⟩
theorem pair_at {P : Addr → Prop} {p1 p2 p3 p4 p5 : Addr} {i : Nat} {x : V} (h1 : P p1) (h2 : P p2) (h3 : P p3) (h4 : P p4) (h5 : P p5) (hx : [V.ref p1, .ref p2, .ref p3, .ref p4, .ref p5][i]? = some x) : ∃ p, x = .ref p ∧ P p := by
  match i, hx with
  | 0, hx => cases hx; exact ⟨_, rfl, h1⟩
  | 1, hx => cases hx; exact ⟨_, rfl, h2⟩
  | 2, hx => cases hx; exact ⟨_, rfl, h3⟩
  | 3, hx => cases hx; exact ⟨_, rfl, h4⟩
  | 4, hx => cases hx; exact ⟨_, rfl, h5⟩
  | n + 5, hx => cases hx
def figD (f : Fg) : PyData := .tuple [.int f.p, .int f.s, .int f.g, .bool f.l, .int f.m, .tuple (f.ks.map PyData.int), .int f.fi, .int f.fa, .int f.ba]
theorem fig_dp {K : PySem.W.Frag} {H : Hp} {t a : Addr} {f : Fg} (h : SqT K H t [.int f.p, .int f.s, .int f.g, .bl f.l, .int f.m, .ref a, .int f.fi, .int f.fa, .int f.ba]) (ha : SqT K H a (f.ks.map V.int)) : Dp K H (.ref t) (figD f) :=
  .tup h (.cons (.int _) (.cons (.int _) (.cons (.int _) (.cons (.bl _) (.cons (.int _) (.cons (dpAll_intsT ha) (.cons (.int _) (.cons (.int _) (.cons (.int _) .nil)))))))))
theorem fig_depth (f : Fg) : PyData.depth (figD f) ≤ 4 := by
  have := depth_ints f.ks
  simp only [figD, PyData.depth, PyData.depthAll]
  omega
theorem fig_thin {f : Fg} (ok : f.Ok) : thin (figD f) = true := by
  have h1 := ok.len
  have h2 := ok.figs.p1
  simp only [figD, thin, thinAll, thin_ints, List.length_map, Bool.and_true, Bool.true_and]
  rw [Bool.and_eq_true]
  exact ⟨rfl, decide_eq_true (by omega)⟩
theorem ok_law {f : Addr} {fd : FuncData} (F : Fun K "law" "law" s_law f fd) {CR : Addr} (T_Rule : TRule K mg CR) (m_range : mg "range" = none) (m_min : mg "min" = none) (m_len : mg "len" = none) (C__law_drawn_from : CF P w K mg base 1 "_law_drawn_from" ["_law_script", "_law_k"] (sp__law_drawn_from K)) (C__law_some_rule : CF P w K mg base 4 "_law_some_rule" ["_law_left"] (sp__law_some_rule K)) (C__law_made : CF P w K mg base 6 "_law_made" ["_law_some"] (sp__law_made K CR)) (C__law_whole : CF P w K mg base 1 "_law_whole" ["_law_some"] (sp__law_whole K)) (C__law_same : CF P w K mg base 6 "_law_same" ["_law_found", "_law_due"] (sp__law_same K)) (C__law_right : CF P w K mg base 7 "_law_right" ["_law_rule", "_law_some"] (sp__law_right K CR)) (C_Rule_figures_0 : CMt P w K mg base CR 1 "figures" ["self"] [] (sp_Rule_figures K CR)) : FnOk P w K mg base CX0 8 f fd ["_law_script"] (sp_law K) := by
  refine F.ok sc_law (fun vs H Q E h => ?_) (fun cdv A outer s H vs Q E hr h => ?_)
  · first | (obtain ⟨_, rfl, _⟩ := h; rfl) | (obtain ⟨_, _, rfl, _⟩ := h; rfl) | (obtain ⟨_, _, _, rfl, _⟩ := h; rfl) | (obtain ⟨_, _, _, _, rfl, _⟩ := h; rfl) | (obtain ⟨_, _, _, _, _, rfl, _⟩ := h; rfl) | (obtain ⟨_, _, _, _, _, _, rfl, _⟩ := h; rfl) | (obtain ⟨_, _, _, _, _, _, _, rfl, _⟩ := h; rfl)
  · have hu64 := hr.units
    obtain ⟨a, ns, rfl, hS, hlen, q⟩ := h
    refine ⟨_, (pss_cons (ps_for PassesOwn.never rfl (pi_range1 (by rfl) m_range (pa_cons (pe_op op_add pe_int (pe_callB (call_min2 rfl) (by rfl) m_min (by decide +kernel) (pa_cons pe_int (pa_cons (pe_callB (kk_len K) (by rfl) m_len PySem.boot_len (pa_cons (pv 0) pa_nil)) pa_nil)))) pa_nil)) (pg_name (i := 1) sc_law.nd rfl (.inl rfl))
         (pss_cons (ps_set (i := 2) sc_law.nd rfl (.inl rfl) (pe_cf C__law_drawn_from (hr.mono (by decide)) (by rfl) (pa_cons (pv 0) (pa_cons (pv 1) pa_nil))))
          (pss_cons (ps_par (i := 3) (j := 4) (by rfl) sc_law.nd rfl rfl (by decide) rfl rfl (pa_cons (pe_cf C__law_some_rule (hr.mono (by decide)) (by rfl) (pa_cons (pv 2) pa_nil)) (pa_cons (pe_cf C__law_some_rule (hr.mono (by decide)) (by rfl) (pa_cons (pv 2) pa_nil)) pa_nil)) (by rfl))
          (pss_cons (ps_par3 (i := 5) (j := 6) (l := 7) (by rfl) sc_law.nd rfl rfl rfl (by decide) (by decide) (by decide) rfl rfl rfl (pa_cons (pe_cf C__law_made (hr.mono (by decide)) (by rfl) (pa_cons (pv 3) pa_nil)) (pa_cons (pe_cf C__law_made (hr.mono (by decide)) (by rfl) (pa_cons (pv 4) pa_nil)) (pa_cons (pe_cf C__law_made (hr.mono (by decide)) (by rfl) (pa_cons (pe_cf C__law_whole (hr.mono (by decide)) (by rfl) (pa_cons (pv 3) pa_nil)) pa_nil)) pa_nil))) (by rfl))
          (pss_one (ps_for PassesOwn.never rfl (pi_tup (pe_tup (pa_cons (pe_tup (pa_cons (pv 5) (pa_cons (pv 3) pa_nil))) (pa_cons (pe_tup (pa_cons (pv 6) (pa_cons (pv 4) pa_nil))) (pa_cons (pe_tup (pa_cons (pv 7) (pa_cons (pv 3) pa_nil))) (pa_cons (pe_tup (pa_cons (pv 5) (pa_cons (pv 3) pa_nil))) (pa_cons (pe_tup (pa_cons (pv 6) (pa_cons (pv 4) pa_nil))) pa_nil))))))) (pg_tup (by rfl) (pgs_cons (pg_name (i := 8) sc_law.nd rfl (.inl rfl)) (pgs_cons (pg_name (i := 9) sc_law.nd rfl (.inl rfl)) pgs_nil)))
             (pss_one (ps_if (PW.pt (pw_or (pt_not (pt_val (pe_cf C__law_right (hr.mono (by decide)) (by rfl) (pa_cons (pv 8) (pa_cons (pv 9) pa_nil))))) (pw_or1 (pt_not (pt_val (pe_cf C__law_same (hr.mono (by decide)) (by rfl) (pa_cons (pe_mt0 C_Rule_figures_0 T_Rule.cl (hr.mono (by decide)) (pv 8)) (pa_cons (pe_cf C__law_whole (hr.mono (by decide)) (by rfl) (pa_cons (pv 9) pa_nil)) pa_nil))))))))
                 (pss_one (ps_ret pe_bl))
                 pss_nil))))))))
      (pss_one (ps_ret pe_bl))), ?_⟩
    refine ⟨_, rfl, a, _, rfl, .inl hS, _, _, rfl, _, _, rfl, rfl, _, rfl, ?_, ?_, for_range (fun i σ H' => ∃ s1 s2 s3 s4 s5 s6 s7 s8 s9, σ = [some (.ref a), s1, s2, s3, s4, s5, s6, s7, s8, s9] ∧ Same H H') ⟨_, _, _, _, _, _, _, _, _, rfl, Same.refl H⟩ (fun i σ H' hi h => ?_) (fun σ H' h => ?_)⟩
    · split <;> omega
    · split <;> omega
    · obtain ⟨s1, s2, s3, s4, s5, s6, s7, s8, s9, rfl, sm⟩ := h
      have hi7 : i < 7 := by
        split at hi <;> omega
      refine ⟨_, rfl, _, rfl, a, _, ns, rfl, sm.seq hS, hlen, by omega, by omega, fun H1 b c nb nc sa L1 => ?_⟩
      refine ⟨_, rfl, b, c, _, rfl, L1, by omega, fun H2 t f1 kv kd L2' t2 D1 => ?_⟩
      refine ⟨_, rfl, b, c, _, rfl, L2', by omega, fun H3 t' f2 kv' kd' L3 t3 D2 => ⟨_, _, rfl, ?_⟩⟩
      have D1 := D1.but t3 L2'
      have s03 : Same H H3 := sm.trans (same_but sa nb (t2.trans t3))
      refine ⟨_, rfl, t, f1, kv, kd, rfl, D1, fun H4 r1 n1 s4' R1 => ?_⟩
      refine ⟨_, rfl, t', f2, kv', kd', rfl, D2.same s4', fun H5 r2 n2 s5' R2 => ?_⟩
      refine ⟨_, rfl, t, f1, kv, kd, rfl, D1.same (s4'.trans s5'), fun H6 wh ah s6' W1 Wa => ?_⟩
      refine ⟨wh, f1, _, _, rfl, W1, fun H7 r3 n3 s7' R3 => ⟨_, _, _, rfl, ?_⟩⟩
      have s37 := ((s4'.trans s5').trans s6').trans s7'
      have D1 := D1.same s37
      have D2 := D2.same s37
      have R1 := R1.same ((s5'.trans s6').trans s7')
      have R2 := R2.same (s6'.trans s7')
      refine ⟨_, rfl, _, rfl, (by show 2 ≤ sizeLine; decide), fun p1 m1 => ?_⟩
      have P1 := Pair.mk' m1 R1 D1
      have u1 := same_new (o := .tup [.ref r1, .ref t]) m1
      refine ⟨_, rfl, _, rfl, (by show 2 ≤ sizeLine; decide), fun p2 m2 => ?_⟩
      have P2 := Pair.mk' m2 (R2.same u1) (D2.same u1)
      have u2 := u1.trans (same_new (o := .tup [.ref r2, .ref t']) m2)
      have P1 := P1.same (same_new (o := .tup [.ref r2, .ref t']) m2)
      refine ⟨_, rfl, _, rfl, (by show 2 ≤ sizeLine; decide), fun p3 m3 => ?_⟩
      have v3 := same_new (o := .tup [.ref r3, .ref t]) m3
      have P3 := Pair.mk' m3 (R3.same u2) (D1.same u2)
      have u3 := u2.trans v3
      have P1 := P1.same v3
      have P2 := P2.same v3
      refine ⟨_, rfl, _, rfl, (by show 2 ≤ sizeLine; decide), fun p4 m4 => ?_⟩
      have v4 := same_new (o := .tup [.ref r1, .ref t]) m4
      have P4 := Pair.mk' m4 (R1.same u3) (D1.same u3)
      have u4 := u3.trans v4
      have P1 := P1.same v4
      have P2 := P2.same v4
      have P3 := P3.same v4
      refine ⟨_, rfl, _, rfl, (by show 2 ≤ sizeLine; decide), fun p5 m5 => ?_⟩
      have v5 := same_new (o := .tup [.ref r2, .ref t']) m5
      have P5 := Pair.mk' m5 (R2.same u4) (D2.same u4)
      have u5 := u4.trans v5
      have P1 := P1.same v5
      have P2 := P2.same v5
      have P3 := P3.same v5
      have P4 := P4.same v5
      refine ⟨(by show 5 ≤ sizeLine; decide), fun T nT => ?_⟩
      have v6 := same_new (o := .tup [.ref p1, .ref p2, .ref p3, .ref p4, .ref p5]) nT
      have P1 := P1.same v6
      have P2 := P2.same v6
      have P3 := P3.same v6
      have P4 := P4.same v6
      have P5 := P5.same v6
      have sT := ((s03.trans s37).trans u5).trans v6
      have eT := upd_same (H := (upd (upd (upd (upd (upd H7 p1 (.tup [.ref r1, .ref t])) p2 (.tup [.ref r2, .ref t'])) p3 (.tup [.ref r3, .ref t])) p4 (.tup [.ref r1, .ref t])) p5 (.tup [.ref r2, .ref t']))) (a := T) (o := .tup [.ref p1, .ref p2, .ref p3, .ref p4, .ref p5])
      generalize (upd (upd (upd (upd (upd (upd H7 p1 (.tup [.ref r1, .ref t])) p2 (.tup [.ref r2, .ref t'])) p3 (.tup [.ref r3, .ref t])) p4 (.tup [.ref r1, .ref t])) p5 (.tup [.ref r2, .ref t'])) T (.tup [.ref p1, .ref p2, .ref p3, .ref p4, .ref p5])) = HT at *
      refine ⟨T, rfl, ⟨_, SqT.of eT⟩, for_tup (K := K) (a := T) (xs := [.ref p1, .ref p2, .ref p3, .ref p4, .ref p5]) (fun j σ H' => ∃ s8 s9, σ = [some (.ref a), some (.int (0 + (i : Int))), some (.ref b), some (.ref t), some (.ref t'), some (.ref r1), some (.ref r2), some (.ref r3), s8, s9] ∧ Same HT H') ⟨_, _, rfl, Same.refl HT⟩ (fun j σ H' _ h => by obtain ⟨_, _, _, h⟩ := h; exact seqT_same h (SqT.of eT)) (fun j x σ H' hx h => ?_) (fun σ H' h => ?_)⟩
      · obtain ⟨s8', s9', rfl, sj⟩ := h
        obtain ⟨p, rfl, hp⟩ := pair_at (P := Pair K HT CR) P1 P2 P3 P4 P5 hx
        obtain ⟨r, tt, f', kv2, kd2, hp1, hp2, hp3⟩ := hp.same sj
        obtain ⟨dx, kt, hR, hKt⟩ := id hp2
        refine ⟨p, _, rfl, SqT.of hp1, rfl, _, _, rfl, _, _, rfl, rfl, ?_⟩
        refine ⟨_, rfl, _, rfl, r, tt, f', kv2, kd2, rfl, hp2, hp3, fun H8 s8 => ⟨_, rfl, iteF ?_⟩⟩
        refine ⟨_, rfl, r, dx, _, rfl, s8 _ _ hR, lk0 (by decide +kernel), r, f', rfl, hp2.same s8, fun H9 tf kt' ntf s9 hf hkf => ?_⟩
        refine ⟨_, rfl, tt, f', kv2, kd2, rfl, hp3.same (s8.trans s9), fun HA w a' sA hW ha => ?_⟩
        refine ⟨_, _, figD f', rfl, fig_dp (seqT_same sA (SqT.of hf)) (seqT_same sA hkf), fig_dp hW.1 ha, fig_depth f', fig_thin hp3.ok, fun HB sB => ⟨_, rfl, iteF ?_⟩⟩
        exact ⟨_, _, rfl, ((sj.trans s8).trans s9).trans (sA.trans sB)⟩
      · obtain ⟨s8', s9', rfl, sj⟩ := h
        exact ⟨_, _, _, _, _, _, _, _, _, rfl, sT.trans sj⟩
    · obtain ⟨s1, s2, s3, s4, s5, s6, s7, s8, s9, rfl, sm⟩ := h
      exact q _
end
theorem all_mk {l : PySem.W.OpenLaw} {w : World} {K : PySem.W.Frag} {h : Heap} {mg : Str → Option Value} {fa f0 f1 f2 f3 f4 f5 f6 f7 f8 f9 f10 f11 f12 f13 f14 f15 CR : Addr} (X : K.In h) (G : h.Ns mainGlobals mg) (hfa : mg "law" = some (.ref fa))
    {od0 an0 od1 an1 od2 an2 od3 an3 od4 an4 od5 an5 od6 an6 od7 an7 od8 an8 od9 an9 od10 an10 od11 an11 od12 an12 od13 an13 od14 an14 od15 an15 : Option Addr} {sl0 sl1 sl2 sl3 sl4 sl5 sl6 sl7 sl8 sl9 sl10 sl11 sl12 sl13 sl14 sl15 : Array (Option Value)} {oc0 kV0 dc0 pm0 cd0 ct0 oc1 kV1 dc1 pm1 cd1 ct1 oc2 kV2 dc2 pm2 cd2 ct2 oc3 kV3 dc3 pm3 cd3 ct3 oc4 kV4 dc4 pm4 cd4 ct4 oc5 kV5 dc5 pm5 cd5 ct5 oc6 kV6 dc6 pm6 cd6 ct6 oc7 kV7 dc7 pm7 cd7 ct7 oc8 kV8 dc8 pm8 cd8 ct8 oc9 kV9 dc9 pm9 cd9 ct9 oc10 kV10 dc10 pm10 cd10 ct10 oc11 kV11 dc11 pm11 cd11 ct11 oc12 kV12 dc12 pm12 cd12 ct12 oc13 kV13 dc13 pm13 cd13 ct13 oc14 kV14 dc14 pm14 cd14 ct14 oc15 kV15 dc15 pm15 cd15 ct15 : Value}
    (aC : PySem.W.nsIn K mainGlobals "Rule" = some (some (.ref CR))) (pg : PySem.W.plainGet K CR Str.empty = true) (hd : PySem.W.hasDictIn K CR = true) (po : PySem.W.plainOver K CR = true) (sa : PySem.W.findIn K (.ref CR) "__setattr__" = some (some (.builtin "object.__setattr__"))) (mk : PySem.W.makesIn K CR = true) (kc : PySem.W.keepIn K (.ref CR) = true)
    (n1 : PySem.W.findIn K (.ref CR) "parts" = some none) (n2 : PySem.W.findIn K (.ref CR) "step" = some none) (n3 : PySem.W.findIn K (.ref CR) "grace" = some none) (n4 : PySem.W.findIn K (.ref CR) "last" = some none) (n5 : PySem.W.findIn K (.ref CR) "misses" = some none) (n6 : PySem.W.findIn K (.ref CR) "keep" = some none) (n7 : PySem.W.findIn K (.ref CR) "fine" = some none) (n8 : PySem.W.findIn K (.ref CR) "falls" = some none) (n9 : PySem.W.findIn K (.ref CR) "back" = some none)
    (a0 : PySem.W.nsIn K mainGlobals "is_number_in" = some (some (.ref f0))) (l0 : K.lookup f0 = some ⟨oc0, od0, .func (PySem.W.fnOf "is_number_in" "is_number_in" (defArgs s_is_number_in) (defBody s_is_number_in) (defScope s_is_number_in) .none kV0 dc0 pm0 an0 cd0 ct0), sl0⟩) (c0 : PySem.W.codeIn K cd0 "is_number_in" = true) (k0 : PySem.W.keepIn K (.ref f0) = true)
    (a1 : PySem.W.nsIn K mainGlobals "may_be_kept" = some (some (.ref f1))) (l1 : K.lookup f1 = some ⟨oc1, od1, .func (PySem.W.fnOf "may_be_kept" "may_be_kept" (defArgs s_may_be_kept) (defBody s_may_be_kept) (defScope s_may_be_kept) .none kV1 dc1 pm1 an1 cd1 ct1), sl1⟩) (c1 : PySem.W.codeIn K cd1 "may_be_kept" = true) (k1 : PySem.W.keepIn K (.ref f1) = true)
    (a2 : PySem.W.nsIn K mainGlobals "wrong_figure" = some (some (.ref f2))) (l2 : K.lookup f2 = some ⟨oc2, od2, .func (PySem.W.fnOf "wrong_figure" "wrong_figure" (defArgs s_wrong_figure) (defBody s_wrong_figure) (defScope s_wrong_figure) .none kV2 dc2 pm2 an2 cd2 ct2), sl2⟩) (c2 : PySem.W.codeIn K cd2 "wrong_figure" = true) (k2 : PySem.W.keepIn K (.ref f2) = true)
    {D3 : Addr} {dod3 : Option Addr} {doc3 : Value} {dsl3 : Array (Option Value)} {dn3 : Nat} {u3_0 u3_2 u3_3 u3_4 u3_5 u3_6 : Tok}
    (a3 : PySem.W.findIn K (.ref CR) "__init__" = some (some (.ref f3))) (l3 : K.lookup f3 = some ⟨oc3, od3, .func (PySem.W.fnOf "__init__" "Rule.__init__" (defArgs s_Rule___init__) (defBody s_Rule___init__) (defScope s_Rule___init__) (.ref D3) kV3 dc3 pm3 an3 cd3 ct3), sl3⟩) (c3 : PySem.W.codeIn K cd3 "Rule.__init__" = true) (k3 : PySem.W.keepIn K (.ref f3) = true)
    (i3 : PySem.W.isFn K (.ref f3) = true) (d3 : K.lookup D3 = some ⟨doc3, dod3, .seq [.int 0 u3_0, .bool false, .int 0 u3_2, .int 0 u3_3, .int 0 u3_4, .int 0 u3_5, .int 0 u3_6].toArray dn3, dsl3⟩)
    {D4 : Addr} {dod4 : Option Addr} {doc4 : Value} {dsl4 : Array (Option Value)} {dn4 : Nat}
    (a4 : PySem.W.findIn K (.ref CR) "keeps" = some (some (.ref f4))) (l4 : K.lookup f4 = some ⟨oc4, od4, .func (PySem.W.fnOf "keeps" "Rule.keeps" (defArgs s_Rule_keeps) (defBody s_Rule_keeps) (defScope s_Rule_keeps) (.ref D4) kV4 dc4 pm4 an4 cd4 ct4), sl4⟩) (c4 : PySem.W.codeIn K cd4 "Rule.keeps" = true) (k4 : PySem.W.keepIn K (.ref f4) = true)
    (i4 : PySem.W.isFn K (.ref f4) = true) (d4 : K.lookup D4 = some ⟨doc4, dod4, .seq [.bool false].toArray dn4, dsl4⟩)
    (a5 : PySem.W.findIn K (.ref CR) "figures" = some (some (.ref f5))) (l5 : K.lookup f5 = some ⟨oc5, od5, .func (PySem.W.fnOf "figures" "Rule.figures" (defArgs s_Rule_figures) (defBody s_Rule_figures) (defScope s_Rule_figures) .none kV5 dc5 pm5 an5 cd5 ct5), sl5⟩) (c5 : PySem.W.codeIn K cd5 "Rule.figures" = true) (k5 : PySem.W.keepIn K (.ref f5) = true)
    (i5 : PySem.W.isFn K (.ref f5) = true)
    (a6 : PySem.W.nsIn K mainGlobals "_law_mix" = some (some (.ref f6))) (l6 : K.lookup f6 = some ⟨oc6, od6, .func (PySem.W.fnOf "_law_mix" "_law_mix" (defArgs s__law_mix) (defBody s__law_mix) (defScope s__law_mix) .none kV6 dc6 pm6 an6 cd6 ct6), sl6⟩) (c6 : PySem.W.codeIn K cd6 "_law_mix" = true) (k6 : PySem.W.keepIn K (.ref f6) = true)
    (a7 : PySem.W.nsIn K mainGlobals "_law_pick" = some (some (.ref f7))) (l7 : K.lookup f7 = some ⟨oc7, od7, .func (PySem.W.fnOf "_law_pick" "_law_pick" (defArgs s__law_pick) (defBody s__law_pick) (defScope s__law_pick) .none kV7 dc7 pm7 an7 cd7 ct7), sl7⟩) (c7 : PySem.W.codeIn K cd7 "_law_pick" = true) (k7 : PySem.W.keepIn K (.ref f7) = true)
    (a8 : PySem.W.nsIn K mainGlobals "_law_drawn_from" = some (some (.ref f8))) (l8 : K.lookup f8 = some ⟨oc8, od8, .func (PySem.W.fnOf "_law_drawn_from" "_law_drawn_from" (defArgs s__law_drawn_from) (defBody s__law_drawn_from) (defScope s__law_drawn_from) .none kV8 dc8 pm8 an8 cd8 ct8), sl8⟩) (c8 : PySem.W.codeIn K cd8 "_law_drawn_from" = true) (k8 : PySem.W.keepIn K (.ref f8) = true)
    (a9 : PySem.W.nsIn K mainGlobals "_law_keep" = some (some (.ref f9))) (l9 : K.lookup f9 = some ⟨oc9, od9, .func (PySem.W.fnOf "_law_keep" "_law_keep" (defArgs s__law_keep) (defBody s__law_keep) (defScope s__law_keep) .none kV9 dc9 pm9 an9 cd9 ct9), sl9⟩) (c9 : PySem.W.codeIn K cd9 "_law_keep" = true) (k9 : PySem.W.keepIn K (.ref f9) = true)
    (a10 : PySem.W.nsIn K mainGlobals "_law_some_rule" = some (some (.ref f10))) (l10 : K.lookup f10 = some ⟨oc10, od10, .func (PySem.W.fnOf "_law_some_rule" "_law_some_rule" (defArgs s__law_some_rule) (defBody s__law_some_rule) (defScope s__law_some_rule) .none kV10 dc10 pm10 an10 cd10 ct10), sl10⟩) (c10 : PySem.W.codeIn K cd10 "_law_some_rule" = true) (k10 : PySem.W.keepIn K (.ref f10) = true)
    (a11 : PySem.W.nsIn K mainGlobals "_law_same" = some (some (.ref f11))) (l11 : K.lookup f11 = some ⟨oc11, od11, .func (PySem.W.fnOf "_law_same" "_law_same" (defArgs s__law_same) (defBody s__law_same) (defScope s__law_same) .none kV11 dc11 pm11 an11 cd11 ct11), sl11⟩) (c11 : PySem.W.codeIn K cd11 "_law_same" = true) (k11 : PySem.W.keepIn K (.ref f11) = true)
    (a12 : PySem.W.nsIn K mainGlobals "_law_made" = some (some (.ref f12))) (l12 : K.lookup f12 = some ⟨oc12, od12, .func (PySem.W.fnOf "_law_made" "_law_made" (defArgs s__law_made) (defBody s__law_made) (defScope s__law_made) .none kV12 dc12 pm12 an12 cd12 ct12), sl12⟩) (c12 : PySem.W.codeIn K cd12 "_law_made" = true) (k12 : PySem.W.keepIn K (.ref f12) = true)
    (a13 : PySem.W.nsIn K mainGlobals "_law_whole" = some (some (.ref f13))) (l13 : K.lookup f13 = some ⟨oc13, od13, .func (PySem.W.fnOf "_law_whole" "_law_whole" (defArgs s__law_whole) (defBody s__law_whole) (defScope s__law_whole) .none kV13 dc13 pm13 an13 cd13 ct13), sl13⟩) (c13 : PySem.W.codeIn K cd13 "_law_whole" = true) (k13 : PySem.W.keepIn K (.ref f13) = true)
    (a14 : PySem.W.nsIn K mainGlobals "_law_right" = some (some (.ref f14))) (l14 : K.lookup f14 = some ⟨oc14, od14, .func (PySem.W.fnOf "_law_right" "_law_right" (defArgs s__law_right) (defBody s__law_right) (defScope s__law_right) .none kV14 dc14 pm14 an14 cd14 ct14), sl14⟩) (c14 : PySem.W.codeIn K cd14 "_law_right" = true) (k14 : PySem.W.keepIn K (.ref f14) = true)
    (a15 : PySem.W.nsIn K mainGlobals "law" = some (some (.ref f15))) (l15 : K.lookup f15 = some ⟨oc15, od15, .func (PySem.W.fnOf "law" "law" (defArgs s_law) (defBody s_law) (defScope s_law) .none kV15 dc15 pm15 an15 cd15 ct15), sl15⟩) (c15 : PySem.W.codeIn K cd15 "law" = true) (k15 : PySem.W.keepIn K (.ref f15) = true)
    (z_isinstance : PySem.W.nsIn K mainGlobals "isinstance" = some none) (z_bool : PySem.W.nsIn K mainGlobals "bool" = some none) (z_int : PySem.W.nsIn K mainGlobals "int" = some none) (z_tuple : PySem.W.nsIn K mainGlobals "tuple" = some none) (z_all : PySem.W.nsIn K mainGlobals "all" = some none) (z_len : PySem.W.nsIn K mainGlobals "len" = some none) (z_max : PySem.W.nsIn K mainGlobals "max" = some none) (z_min : PySem.W.nsIn K mainGlobals "min" = some none) (z_abs : PySem.W.nsIn K mainGlobals "abs" = some none) (z_range : PySem.W.nsIn K mainGlobals "range" = some none) (z_list : PySem.W.nsIn K mainGlobals "list" = some none) (z_zip : PySem.W.nsIn K mainGlobals "zip" = some none) (z_str : PySem.W.nsIn K mainGlobals "str" = some none) :
    ∃ fd : FuncData, (∀ (s : Shared) (v : Value), BindsTo s fd ⟨[v], []⟩ [("_law_script", v)]) ∧ ∀ base : Heap, K.In base → base.Ns mainGlobals mg → FnOk l.prog w K mg base CX0 8 fa fd ["_law_script"] (sp_law K) := by
  have e := hfa.symm.trans (PySem.W.mg_of X G a15)
  cases e
  have T_Rule : TRule K mg CR := ⟨⟨pg, hd, po, sa⟩, n1, n2, n3, n4, n5, n6, n7, n8, n9⟩
  have gC := PySem.W.mg_of X G aC
  have F0 := fun_mk (st := s_is_number_in) l0 c0 k0
  have b0 := F0.binds (ps := ["thing", "low", "high"]) fun _ _ _ _ _ _ us hl => match us, hl with | [_, _, _], _ => rfl
  have g0 := PySem.W.mg_of X G a0
  have F1 := fun_mk (st := s_may_be_kept) l1 c1 k1
  have b1 := F1.binds (ps := ["keep", "parts"]) fun _ _ _ _ _ _ us hl => match us, hl with | [_, _], _ => rfl
  have g1 := PySem.W.mg_of X G a1
  have F2 := fun_mk (st := s_wrong_figure) l2 c2 k2
  have b2 := F2.binds (ps := ["parts", "step", "grace", "last", "misses", "keep", "fine", "falls", "back"]) fun _ _ _ _ _ _ us hl => match us, hl with | [_, _, _, _, _, _, _, _, _], _ => rfl
  have g2 := PySem.W.mg_of X G a2
  have F3 : FunD K "__init__" "Rule.__init__" (defArgs s_Rule___init__) (defBody s_Rule___init__) (defScope s_Rule___init__) [.int 0, .bl false, .int 0, .int 0, .int 0, .int 0, .int 0] [] f3 _ := ⟨⟨oc3, od3, _, kV3, dc3, pm3, an3, cd3, ct3, sl3, rfl, l3, c3, .inr ⟨by simp, D3, _, _, dn3, rfl, d3, rfl, (.cons ⟨_, rfl⟩ (.cons rfl (.cons ⟨_, rfl⟩ (.cons ⟨_, rfl⟩ (.cons ⟨_, rfl⟩ (.cons ⟨_, rfl⟩ (.cons ⟨_, rfl⟩ .nil)))))))⟩, .inl rfl⟩, k3⟩
  have F4 : FunD K "keeps" "Rule.keeps" (defArgs s_Rule_keeps) (defBody s_Rule_keeps) (defScope s_Rule_keeps) [.bl false] [] f4 _ := ⟨⟨oc4, od4, _, kV4, dc4, pm4, an4, cd4, ct4, sl4, rfl, l4, c4, .inr ⟨by simp, D4, _, _, dn4, rfl, d4, rfl, (.cons rfl .nil)⟩, .inl rfl⟩, k4⟩
  have F5 : FunD K "figures" "Rule.figures" (defArgs s_Rule_figures) (defBody s_Rule_figures) (defScope s_Rule_figures) [] [] f5 _ := ⟨⟨oc5, od5, _, kV5, dc5, pm5, an5, cd5, ct5, sl5, rfl, l5, c5, .inl ⟨rfl, rfl⟩, .inl rfl⟩, k5⟩
  have F6 := fun_mk (st := s__law_mix) l6 c6 k6
  have b6 := F6.binds (ps := ["_law_cell", "_law_k"]) fun _ _ _ _ _ _ us hl => match us, hl with | [_, _], _ => rfl
  have g6 := PySem.W.mg_of X G a6
  have F7 := fun_mk (st := s__law_pick) l7 c7 k7
  have b7 := F7.binds (ps := ["_law_left", "_law_many"]) fun _ _ _ _ _ _ us hl => match us, hl with | [_, _], _ => rfl
  have g7 := PySem.W.mg_of X G a7
  have F8 := fun_mk (st := s__law_drawn_from) l8 c8 k8
  have b8 := F8.binds (ps := ["_law_script", "_law_k"]) fun _ _ _ _ _ _ us hl => match us, hl with | [_, _], _ => rfl
  have g8 := PySem.W.mg_of X G a8
  have F9 := fun_mk (st := s__law_keep) l9 c9 k9
  have b9 := F9.binds (ps := ["_law_left", "_law_many"]) fun _ _ _ _ _ _ us hl => match us, hl with | [_, _], _ => rfl
  have g9 := PySem.W.mg_of X G a9
  have F10 := fun_mk (st := s__law_some_rule) l10 c10 k10
  have b10 := F10.binds (ps := ["_law_left"]) fun _ _ _ _ _ _ us hl => match us, hl with | [_], _ => rfl
  have g10 := PySem.W.mg_of X G a10
  have F11 := fun_mk (st := s__law_same) l11 c11 k11
  have b11 := F11.binds (ps := ["_law_found", "_law_due"]) fun _ _ _ _ _ _ us hl => match us, hl with | [_, _], _ => rfl
  have g11 := PySem.W.mg_of X G a11
  have F12 := fun_mk (st := s__law_made) l12 c12 k12
  have b12 := F12.binds (ps := ["_law_some"]) fun _ _ _ _ _ _ us hl => match us, hl with | [_], _ => rfl
  have g12 := PySem.W.mg_of X G a12
  have F13 := fun_mk (st := s__law_whole) l13 c13 k13
  have b13 := F13.binds (ps := ["_law_some"]) fun _ _ _ _ _ _ us hl => match us, hl with | [_], _ => rfl
  have g13 := PySem.W.mg_of X G a13
  have F14 := fun_mk (st := s__law_right) l14 c14 k14
  have b14 := F14.binds (ps := ["_law_rule", "_law_some"]) fun _ _ _ _ _ _ us hl => match us, hl with | [_, _], _ => rfl
  have g14 := PySem.W.mg_of X G a14
  have F15 := fun_mk (st := s_law) l15 c15 k15
  have m_isinstance := PySem.W.mg_none_of X G z_isinstance
  have m_bool := PySem.W.mg_none_of X G z_bool
  have m_int := PySem.W.mg_none_of X G z_int
  have m_tuple := PySem.W.mg_none_of X G z_tuple
  have m_all := PySem.W.mg_none_of X G z_all
  have m_len := PySem.W.mg_none_of X G z_len
  have m_max := PySem.W.mg_none_of X G z_max
  have m_min := PySem.W.mg_none_of X G z_min
  have m_abs := PySem.W.mg_none_of X G z_abs
  have m_range := PySem.W.mg_none_of X G z_range
  have m_list := PySem.W.mg_none_of X G z_list
  have m_zip := PySem.W.mg_none_of X G z_zip
  have m_str := PySem.W.mg_none_of X G z_str
  refine ⟨PySem.W.fnOf "law" "law" (defArgs s_law) (defBody s_law) (defScope s_law) .none kV15 dc15 pm15 an15 cd15 ct15, fun s v => .of_eq rfl, fun base _ _ => ?_⟩
  have C_is_number_in := ok_is_number_in (P := l.prog) (w := w) (base := base) F0 g0 b0 m_isinstance m_bool m_int
  have C_may_be_kept := ok_may_be_kept (P := l.prog) (w := w) (base := base) F1 g1 b1 m_isinstance m_tuple m_all m_len C_is_number_in
  have C_wrong_figure := ok_wrong_figure (P := l.prog) (w := w) (base := base) F2 g2 b2 m_isinstance m_bool C_is_number_in C_may_be_kept
  have O3 := ok_Rule___init__ (P := l.prog) (w := w) (base := base) T_Rule m_isinstance m_tuple C_wrong_figure F3
  obtain ⟨ds_M_Rule, v_M_Rule, b_M_Rule⟩ := F3.binds1 (ps := ["self", "parts", "step", "grace", "last", "misses", "keep", "fine", "falls", "back"]) 10 7 (by simp) rfl (fun T kV doc pm an cdv ct us its h1 h2 => match us, its, h1, h2 with | [_, _, _, _, _, _, _, _, _, _], [_, _, _, _, _, _, _], _, _ => ⟨_, rfl, rfl⟩)
  have M_Rule : CMk l.prog w K mg base CR 4 "Rule" ["self", "parts", "step", "grace", "last", "misses", "keep", "fine", "falls", "back"] [] (sp_Rule___init__ K CR) := ⟨_, _, ds_M_Rule, O3, ⟨mk, a3, i3, kc⟩, gC, v_M_Rule, b_M_Rule⟩
  have O4 := ok_Rule_keeps (P := l.prog) (w := w) (base := base) T_Rule m_max m_min F4
  obtain ⟨its4, kb4⟩ := F4.kbindsD (ps := ["self", "paid", "gone"]) 2 ["gone"] (fun us _ ws => us ++ ws) (by simp) (fun a _ c => a.append c) (fun T kV doc pm an cdv ct us its ws h1 h2 h3 => match us, its, ws, h1, h2, h3 with | [_, _], [_], [_], _, _, _ => ⟨_, rfl, rfl⟩)
  have C_Rule_keeps_1k : CMtK l.prog w K mg base CR 1 "keeps" ["self", "paid", "gone"] 2 ["gone"] (fun vs zs => vs ++ zs) (sp_Rule_keeps K CR) := ⟨_, _, _, O4, ⟨a4, i4, k4⟩, kb4⟩
  obtain ⟨ds_C_Rule_keeps_2, v_C_Rule_keeps_2, b_C_Rule_keeps_2⟩ := F4.binds1 (ps := ["self", "paid", "gone"]) 3 1 (by simp) rfl (fun T kV doc pm an cdv ct us its h1 h2 => match us, its, h1, h2 with | [_, _, _], [_], _, _ => ⟨_, rfl, rfl⟩)
  have C_Rule_keeps_2 : CMt l.prog w K mg base CR 1 "keeps" ["self", "paid", "gone"] [] (sp_Rule_keeps K CR) := ⟨_, _, ds_C_Rule_keeps_2, O4, ⟨a4, i4, k4⟩, v_C_Rule_keeps_2, b_C_Rule_keeps_2⟩
  obtain ⟨ds_C_Rule_keeps_1, v_C_Rule_keeps_1, b_C_Rule_keeps_1⟩ := F4.binds1 (ps := ["self", "paid", "gone"]) 2 0 (by simp) rfl (fun T kV doc pm an cdv ct us its h1 h2 => match us, its, h1, h2 with | [_, _], [_], _, _ => ⟨_, rfl, rfl⟩)
  have C_Rule_keeps_1 : CMt l.prog w K mg base CR 1 "keeps" ["self", "paid", "gone"] [.bl false] (sp_Rule_keeps K CR) := ⟨_, _, ds_C_Rule_keeps_1, O4, ⟨a4, i4, k4⟩, v_C_Rule_keeps_1, b_C_Rule_keeps_1⟩
  have O5 := ok_Rule_figures (P := l.prog) (w := w) (base := base) T_Rule F5
  have b_C_Rule_figures_0 := F5.bindsN (ps := ["self"]) fun kV doc pm an cdv ct us h => match us, h with | [_], _ => rfl
  have C_Rule_figures_0 : CMt l.prog w K mg base CR 1 "figures" ["self"] [] (sp_Rule_figures K CR) := ⟨_, _, [], O5, ⟨a5, i5, k5⟩, .nil, b_C_Rule_figures_0⟩
  have C__law_mix := ok__law_mix (P := l.prog) (w := w) (base := base) F6 g6 b6
  have C__law_pick := ok__law_pick (P := l.prog) (w := w) (base := base) F7 g7 b7 m_len C__law_mix
  have C__law_drawn_from := ok__law_drawn_from (P := l.prog) (w := w) (base := base) F8 g8 b8 m_len m_abs m_int
  have C__law_keep := ok__law_keep (P := l.prog) (w := w) (base := base) F9 g9 b9 m_tuple m_range C__law_pick
  have C__law_some_rule := ok__law_some_rule (P := l.prog) (w := w) (base := base) F10 g10 b10 m_tuple C__law_pick C__law_keep
  have C__law_same := ok__law_same (P := l.prog) (w := w) (base := base) F11 g11 b11 m_isinstance m_tuple m_list m_all m_zip m_len m_str m_bool m_int
  have C__law_made := ok__law_made (P := l.prog) (w := w) (base := base) F12 g12 b12 T_Rule M_Rule
  have C__law_whole := ok__law_whole (P := l.prog) (w := w) (base := base) F13 g13 b13 m_isinstance m_tuple
  have C__law_right := ok__law_right (P := l.prog) (w := w) (base := base) F14 g14 b14 T_Rule m_range m_min C__law_whole C__law_same C_Rule_keeps_1k C_Rule_keeps_2 C_Rule_keeps_1
  exact ok_law F15 T_Rule m_range m_min m_len C__law_drawn_from C__law_some_rule C__law_made C__law_whole C__law_same C__law_right C_Rule_figures_0
end Pw
open PySem PySem.W PyProof.Rows
set_option maxHeartbeats 0 in
theorem PySem.Challenge.cw_partwares_k07_what_is_kept_holds : PySem.Challenge.rw_partwares_k07_what_is_kept.Holds := by
  w_on; o_law; k_head; (case hw => w_witness2)
  k_fill
  refine L2.walk_of (l := PySem.Challenge.rw_partwares_k07_what_is_kept) (n := 63) (k := 8) (x := "_law_script") (CX := fun _ => L2.CX0) (sp := fun w => Pw.sp_law _) rfl (by decide) rfl ⟨rfl, by decide, by decide⟩ (fun w h Y => PySem.W.kIn_of Y) ?F (fun _ _ a ns hl _ hS => ⟨a, ns, rfl, hS, hl, fun _ => rfl⟩) (fun _ _ _ _ _ h => h)
  case F =>
    intro w mg fa h KX G hmg
    refine' Pw.all_mk KX G hmg ?aC ?pg ?hd ?po ?sa ?mk ?kc ?n1 ?n2 ?n3 ?n4 ?n5 ?n6 ?n7 ?n8 ?n9 ?a0 ?l0 ?c0 ?k0 ?a1 ?l1 ?c1 ?k1 ?a2 ?l2 ?c2 ?k2 ?a3 ?l3 ?c3 ?k3 ?i3 ?d3 ?a4 ?l4 ?c4 ?k4 ?i4 ?d4 ?a5 ?l5 ?c5 ?k5 ?i5 ?a6 ?l6 ?c6 ?k6 ?a7 ?l7 ?c7 ?k7 ?a8 ?l8 ?c8 ?k8 ?a9 ?l9 ?c9 ?k9 ?a10 ?l10 ?c10 ?k10 ?a11 ?l11 ?c11 ?k11 ?a12 ?l12 ?c12 ?k12 ?a13 ?l13 ?c13 ?k13 ?a14 ?l14 ?c14 ?k14 ?a15 ?l15 ?c15 ?k15 ?z_isinstance ?z_bool ?z_int ?z_tuple ?z_all ?z_len ?z_max ?z_min ?z_abs ?z_range ?z_list ?z_zip ?z_str
    (case aC => k_is); (case pg => k_is); (case hd => k_is); (case po => k_is); (case sa => k_is); (case mk => k_is); (case kc => k_is); (case n1 => k_is); (case n2 => k_is); (case n3 => k_is); (case n4 => k_is); (case n5 => k_is); (case n6 => k_is); (case n7 => k_is); (case n8 => k_is); (case n9 => k_is); (case a0 => k_is); (case l0 => k_is); (case c0 => k_is); (case k0 => k_is); (case a1 => k_is); (case l1 => k_is); (case c1 => k_is); (case k1 => k_is); (case a2 => k_is); (case l2 => k_is); (case c2 => k_is); (case k2 => k_is); (case a3 => k_is); (case l3 => k_is); (case c3 => k_is); (case k3 => k_is); (case i3 => k_is); (case d3 => k_is); (case a4 => k_is); (case l4 => k_is); (case c4 => k_is); (case k4 => k_is); (case i4 => k_is); (case d4 => k_is); (case a5 => k_is); (case l5 => k_is); (case c5 => k_is); (case k5 => k_is); (case i5 => k_is); (case a6 => k_is); (case l6 => k_is); (case c6 => k_is); (case k6 => k_is); (case a7 => k_is); (case l7 => k_is); (case c7 => k_is); (case k7 => k_is); (case a8 => k_is); (case l8 => k_is); (case c8 => k_is); (case k8 => k_is); (case a9 => k_is); (case l9 => k_is); (case c9 => k_is); (case k9 => k_is); (case a10 => k_is); (case l10 => k_is); (case c10 => k_is); (case k10 => k_is); (case a11 => k_is); (case l11 => k_is); (case c11 => k_is); (case k11 => k_is); (case a12 => k_is); (case l12 => k_is); (case c12 => k_is); (case k12 => k_is); (case a13 => k_is); (case l13 => k_is); (case c13 => k_is); (case k13 => k_is); (case a14 => k_is); (case l14 => k_is); (case c14 => k_is); (case k14 => k_is); (case a15 => k_is); (case l15 => k_is); (case c15 => k_is); (case k15 => k_is); (case z_isinstance => k_is); (case z_bool => k_is); (case z_int => k_is); (case z_tuple => k_is); (case z_all => k_is); (case z_len => k_is); (case z_max => k_is); (case z_min => k_is); (case z_abs => k_is); (case z_range => k_is); (case z_list => k_is); (case z_zip => k_is); (case z_str => k_is)
