import PyProof.Rows.All
import Wide.All
import OpenK.AllK
import Wide.FinOn
import HandS.Base
import HandS.Call
import HandS.List
import HandS.Comp
import HandS.Ends
import HandS.Iter
import HandS.Text
import HandS.Words
import HandS.WordsList
import HandS.IsInst
import HandS.Style
import HandS.Walk
import HandS.Defaults
import HandS.TupMul
import HandS.Zip
import HandS.MakeKw
import PySem.Challenge.RW_partwares_k18_last_days_by_trying
set_option Elab.async false
set_option linter.all false
set_option maxRecDepth 100000
namespace Pw
open PySem PySem.Spec PyProof.Rows L2
/-! ### a def of the text by its promise, its address left aside -/
structure CF (P : Program) (w : World) (K : PySem.W.Frag) (mg : Str → Option Value) (base : Heap) (k : Nat) (x : Str) (ps : List Str) (sp : Sp) : Prop where
  ex : ∃ (f : Addr) (fd : FuncData), FnOk P w K mg base CX0 k f fd ps sp ∧ mg x = some (.ref f) ∧ PySem.W.keepIn K (.ref f) = true ∧ Binds K fd ps []
theorem pe_cf {X : Cx} {k : Nat} {x : Str} {ps : List Str} {sp : Sp} {e : Expr} {es : List Expr} {t : TA} {p pos : Pos} (C : CF X.prog X.w X.K X.mg X.base k x ps sp) (hr : Room k X.A) (hg : Gl X x) (ha : PA X (e :: es) t)
    (hdb : (x == ("__debug__" : Str)) = false := by decide) (he : starEach (e :: es) X.env = (false, eval e X.env) :: starEach es X.env := by rfl) (hpl : (backTo pos (starEach es X.env)).any (·.1) = false := by rfl) :
    PE X (.Call (.Name x p) (e :: es) [] pos) (tCall sp [] E0 t) := by
  obtain ⟨f, fd, F, g, kp, b⟩ := C.ex
  exact pe_call F hr hg g kp b .nil pass0 ha hdb he hpl
/-! ### the rules with their written part named (within a comprehension it must not hang on the block) -/
section
variable (K : PySem.W.Frag) {X : Cx}
theorem kk_isi (h : X.K = K := by rfl) : CallR X (.builtin "isinstance") (rIsi K) := h ▸ call_isi
theorem kk_isiT (h : X.K = K := by rfl) : CallR X (.builtin "isinstance") (rIsiT K) := h ▸ call_isiT
theorem kk_len (h : X.K = K := by rfl) : CallR X (.builtin "len") (fun xs H Q => ∃ p ys, xs = [.ref p] ∧ (SqL K H p ys ∨ SqT K H p ys) ∧ Q (.int ys.length) H) := h ▸ call_len_seq
theorem kk_list (h : X.K = K := by rfl) : CallR X (.type "list") (fun xs H Q => ∃ p ys, xs = [.ref p] ∧ (SqL K H p ys ∨ SqT K H p ys) ∧ ∀ l, H l = none → Q (.ref l) (upd H l (.lst ys))) := h ▸ call_list_of
theorem kk_tuple (h : X.K = K := by rfl) : CallR X (.type "tuple") (fun xs H Q => ∃ p ys, xs = [.ref p] ∧ ((SqL K H p ys ∧ ∀ l, H l = none → Q (.ref l) (upd H l (.tup ys))) ∨ (SqT K H p ys ∧ Q (.ref p) H))) := h ▸ call_tuple_of
theorem kk_sum (hc : X.calm = true) (h : X.K = K := by rfl) : CallR X (.builtin "sum") (rSum K) := h ▸ cr_sum hc
theorem kk_max (hc : X.calm = true) (h : X.K = K := by rfl) : CallR X (.builtin "max") (rMax K) := h ▸ cr_max hc
theorem kk_min (hc : X.calm = true) (h : X.K = K := by rfl) : CallR X (.builtin "min") (rMin K) := h ▸ cr_min hc
theorem kk_any (hc : X.calm = true) (h : X.K = K := by rfl) : CallR X (.builtin "any") (rAny K) := h ▸ cr_any hc
theorem kk_all (hc : X.calm = true) (h : X.K = K := by rfl) : CallR X (.builtin "all") (rAll K) := h ▸ cr_all hc
theorem kk_sorted (h : X.K = K := by rfl) : CallR X (.builtin "sorted") (rSorted K) := h ▸ cr_sorted
theorem kk_ixl (h : X.K = K := by rfl) : IxR X (rIxL K) := h ▸ ix_list
theorem kk_ixt (h : X.K = K := by rfl) : IxR X (rIxT K) := h ▸ ix_tup
theorem kk_sll (h : X.K = K := by rfl) : SlR X (rSlL K) := h ▸ sl_list
theorem kk_slt (h : X.K = K := by rfl) : SlR X (rSlT K) := h ▸ sl_tup
theorem kk_in (h : X.K = K := by rfl) : OpR X (compareOp .In) (rIn K false) := h ▸ op_in_seq
theorem kk_nin (h : X.K = K := by rfl) : OpR X (compareOp .NotIn) (rIn K true) := h ▸ op_notIn_seq
theorem kk_catT (h : X.K = K := by rfl) : OpR X (binaryOp .Add) (rCatT K) := h ▸ op_catT
theorem kk_eqD (hu : X.A.units + 64 < cLine) (h : X.K = K := by rfl) : OpR X (compareOp .Eq) (rEqD K) := h ▸ op_eqD hu
theorem kk_neD (hu : X.A.units + 64 < cLine) (h : X.K = K := by rfl) : OpR X (compareOp .NotEq) (rNeD K) := h ▸ op_neD hu
theorem kk_revL {e : Expr} {te : TE} {k : Nat} {p1 p2 p3 pos : Pos} (he : PE X e te) (h : X.K = K := by rfl) : PE X (.Subscript e (.Slice none none (some (.UnaryOp .USub (.Constant (.int 1) k p1) p2)) p3) pos) (tRevL K te) := h ▸ pe_revL he
end
/-! ### heaps: all as it was, but one place -/
def But (b : Addr) (H H' : Hp) : Prop := ∀ c o, c ≠ b → H c = some o → H' c = some o
theorem But.refl (b : Addr) (H : Hp) : But b H H := fun _ _ _ h => h
theorem But.trans {b : Addr} {H H1 H2 : Hp} (x : But b H H1) (y : But b H1 H2) : But b H H2 := fun c o n h => y c o n (x c o n h)
theorem But.of {b : Addr} {H H1 : Hp} (x : Same H H1) : But b H H1 := fun c o _ h => x c o h
theorem But.upd {b : Addr} {H : Hp} {o : HO} : But b H (L2.upd H b o) := fun c u n h => by
  rw [upd_ne n]
  exact h
theorem But.new {b p : Addr} {H : Hp} {o : HO} (h : H p = none) : But b H (L2.upd H p o) := fun c u _ e => by
  rw [upd_ne (ne_of_none e h)]
  exact e
theorem same_new {H : Hp} {p : Addr} {o : HO} (h : H p = none) : Same H (upd H p o) := fun b x e => by
  rw [upd_ne (ne_of_none e h)]
  exact e
theorem But.seq {K : PySem.W.Frag} {b a : Addr} {H H' : Hp} {xs : List V} (e : But b H H') (n : a ≠ b) (h : SqL K H a xs) : SqL K H' a xs := by
  rcases h with (h | ⟨o, h⟩) | h
  · exact .inl (.inl (e _ _ n h))
  · exact .inl (.inr ⟨o, e _ _ n h⟩)
  · exact .inr h
/-! ### the law's box of three numbers -/
def Box (H : Hp) (b : Addr) (n : Int) : Prop := ∃ x y z : Int, H b = some (.lst [.int x, .int y, .int z]) ∧ 0 ≤ x ∧ 0 ≤ y ∧ y ≤ 3000000000 ∧ 0 ≤ z ∧ z ≤ n
theorem Box.mono {H : Hp} {b : Addr} {n m : Int} (h : Box H b n) (l : n ≤ m) : Box H b m := by
  obtain ⟨x, y, z, h0, h1, h2, h3, h4, h5⟩ := h
  exact ⟨x, y, z, h0, h1, h2, h3, h4, by omega⟩
theorem Box.same {H H' : Hp} {b : Addr} {n : Int} (e : Same H H') (h : Box H b n) : Box H' b n := by
  obtain ⟨x, y, z, h0, h1⟩ := h
  exact ⟨x, y, z, e _ _ h0, h1⟩
theorem Box.new {H : Hp} {b p : Addr} {o : HO} {n : Int} (h : Box H b n) (e : H p = none) : Box (upd H p o) b n := h.same (same_new e)
theorem Box.ne {H : Hp} {b p : Addr} {n : Int} (h : Box H b n) (e : H p = none) : p ≠ b := fun z => by
  obtain ⟨_, _, _, h0, _⟩ := h
  rw [z, h0] at e
  cases e
section
variable {K : PySem.W.Frag}
theorem at_int {ns : List Int} {k : Int} (h0 : 0 ≤ k) (h1 : k < ns.length) : ∃ c, atI (ns.map V.int) k = some (.int c) := by
  obtain ⟨j, rfl⟩ := Int.eq_ofNat_of_zero_le h0
  have hj : j < ns.length := by omega
  refine ⟨ns[j], atI_nat ?_⟩
  rw [List.getElem?_map, List.getElem?_eq_getElem hj]
  rfl
def partsL (p m : Int) : List Int := List.replicate (p % m).toNat (p / m + 1) ++ List.replicate (m - p % m).toNat (p / m)
theorem rep1 {α : Type} (k : Nat) (x : α) : (List.replicate k [x]).flatten = List.replicate k x := by
  induction k with
  | zero => rfl
  | succ n ih => rw [List.replicate_succ, List.flatten_cons, ih]; rfl
theorem size_small {n : Nat} (h : n ≤ 1000) : n ≤ sizeLine := Nat.le_of_lt (small1000 h)
theorem iteN {c A B : Prop} [Decidable c] (hc : ¬ c) (h : B) : if decide c = true then A else B := by
  rw [decide_eq_false hc]
  exact iteF h
theorem iteY {c A B : Prop} [Decidable c] (hc : c) (h : A) : if decide c = true then A else B := by
  rw [decide_eq_true hc]
  exact iteT h
theorem same_but {b : Addr} {H0 H1 H2 : Hp} (s : Same H0 H1) (n : H0 b = none) (t : But b H1 H2) : Same H0 H2 := fun c o h => t c o (fun e => by rw [e, n] at h; cases h) (s c o h)
theorem dpAll_ints {H : Hp} : ∀ ns : List Int, DpAll K H (ns.map V.int) (ns.map PyData.int)
  | [] => .nil
  | n :: r => .cons (.int n) (dpAll_ints r)
theorem dp_ints {H : Hp} {a : Addr} {ns : List Int} (h : SqL K H a (ns.map V.int)) : Dp K H (.ref a) (.list (ns.map PyData.int)) := .lst h (dpAll_ints ns)
theorem lay_ints : ∀ ns : List Int, PyData.canLayAll0 (ns.map PyData.int) = true
  | [] => by simp [PyData.canLayAll0]
  | n :: r => by simp [PyData.canLayAll0, PyData.canLay0, lay_ints r]
theorem depth_ints : ∀ ns : List Int, PyData.depthAll (ns.map PyData.int) ≤ 1
  | [] => by simp [PyData.depthAll]
  | n :: r => by
    have h := depth_ints r
    simp only [List.map_cons, PyData.depthAll, PyData.depth]
    omega
theorem sh_ints (ns : List Int) : SeqAt.shaped (.list (ns.map PyData.int)) = true := by
  have h1 := depth_ints ns
  have h2 : PyData.depth (.list (ns.map PyData.int)) ≤ 64 := by
    simp only [PyData.depth]
    omega
  show (PyData.canLay0 (.list (ns.map PyData.int)) && decide (PyData.depth (.list (ns.map PyData.int)) ≤ 64)) = true
  rw [Bool.and_eq_true]
  exact ⟨by simp only [PyData.canLay0]; exact lay_ints ns, decide_eq_true h2⟩
theorem eqv_same (ns : List Int) : PyData.eqv (.list (ns.map PyData.int)) (.list (ns.map PyData.int)) = true := SeqAt.eqv_refl _ (SeqAt.canLay_of_shaped (sh_ints ns))

theorem sum_rep (k : Nat) (x : Int) : (List.replicate k x).sum = k * x := by
  induction k with
  | zero => simp
  | succ n ih =>
    rw [List.replicate_succ, List.sum_cons, ih, Int.natCast_add, Int.add_mul]
    omega
theorem parts_len {p m : Int} (hm : 1 ≤ m) : ((partsL p m).length : Int) = m := by
  have hr0 := Int.emod_nonneg p (show m ≠ 0 by omega)
  have hr1 := Int.emod_lt_of_pos p (show 0 < m by omega)
  unfold partsL
  rw [List.length_append, List.length_replicate, List.length_replicate]
  omega
theorem parts_sum {p m : Int} (hm : 1 ≤ m) : (partsL p m).sum = p := by
  have hr0 := Int.emod_nonneg p (show m ≠ 0 by omega)
  have hr1 := Int.emod_lt_of_pos p (show 0 < m by omega)
  have e := Int.mul_ediv_add_emod p m
  unfold partsL
  rw [List.sum_append, sum_rep, sum_rep, Int.toNat_of_nonneg hr0, Int.toNat_of_nonneg (by omega), Int.sub_mul, Int.mul_add]
  omega
theorem parts_mem {p m x : Int} (h : x ∈ partsL p m) : x = p / m + 1 ∨ x = p / m := by
  unfold partsL at h
  rcases List.mem_append.mp h with h | h
  · exact .inl (List.eq_of_mem_replicate h)
  · exact .inr (List.eq_of_mem_replicate h)
theorem parts_fall (p m : Int) : (partsL p m).Pairwise (fun a b => b ≤ a) := by
  unfold partsL
  refine List.pairwise_append.mpr ⟨List.pairwise_replicate.mpr (.inr (Int.le_refl _)), List.pairwise_replicate.mpr (.inr (Int.le_refl _)), fun a ha b hb => ?_⟩
  rw [List.eq_of_mem_replicate ha, List.eq_of_mem_replicate hb]
  omega
theorem parts_sorted {p m : Int} {ns : List Int} (h : ns.Perm (partsL p m)) (hs : ns.Pairwise (· ≤ ·)) : ns.reverse = partsL p m := by
  refine List.Perm.eq_of_pairwise (le := fun a b => b ≤ a) (fun x y _ _ h1 h2 => Int.le_antisymm h2 h1) ?_ (parts_fall p m) ((List.reverse_perm ns).trans h)
  exact List.pairwise_reverse.mpr hs
theorem ends_of {ns : List Int} (h : 0 < ns.length) : ∃ x y, x ∈ ns ∧ y ∈ ns ∧ atI (ns.map V.int) 0 = some (.int x) ∧ atI (ns.map V.int) (-1) = some (.int y) := by
  cases ns with
  | nil => cases h
  | cons x r =>
    refine ⟨x, (x :: r).getLast (List.cons_ne_nil _ _), List.mem_cons_self, List.getLast_mem _, atI_nat (j := 0) rfl, ?_⟩
    have hz : ((x :: r).map V.int) = ((x :: r).dropLast.map V.int) ++ [.int ((x :: r).getLast (List.cons_ne_nil _ _))] := by
      rw [← List.map_singleton, ← List.map_append, List.dropLast_concat_getLast]
    rw [hz]
    exact atI_last _ _
theorem all_true (n : Nat) : (List.replicate n true).all id = true := by
  induction n with
  | zero => rfl
  | succ k ih => rw [List.replicate_succ, List.all_cons, ih]; rfl
theorem pick6 {r x : Int} (h0 : 0 ≤ r) (h1 : r < 6) (x0 : 0 ≤ x) (x1 : x ≤ 100) : ∃ c : Int, atI [V.int 0, .int 1, .int 50, .int 99, .int 100, .int x] r = some (.int c) ∧ 0 ≤ c ∧ c ≤ 100 := by
  have h : r = 0 ∨ r = 1 ∨ r = 2 ∨ r = 3 ∨ r = 4 ∨ r = 5 := by omega
  rcases h with rfl | rfl | rfl | rfl | rfl | rfl
  · exact ⟨0, rfl, by decide, by decide⟩
  · exact ⟨1, rfl, by decide, by decide⟩
  · exact ⟨50, rfl, by decide, by decide⟩
  · exact ⟨99, rfl, by decide, by decide⟩
  · exact ⟨100, rfl, by decide, by decide⟩
  · exact ⟨x, rfl, x0, x1⟩
end
end Pw
namespace Pw
open PySem PySem.Spec PyProof.Rows L2
/-! ### texts and data -/
theorem op_mul_str {X : Cx} : OpR X (binaryOp .Mult) (fun x y H Q => ∃ (z : Str) (k : Int), x = .str z ∧ y = .int k ∧ MulOk z k ∧ Q (.str (Txt.mul z k)) H) := by
  intro pins s σ H x y v u Q I rx ry h
  obtain ⟨z, k, rfl, rfl, ok, q⟩ := h
  obtain ⟨t, rfl⟩ := rx
  obtain ⟨t', rfl⟩ := ry
  exact SB.mul ok fun t' tk => ⟨.str _, H, I.tok _, ⟨_, rfl⟩, q⟩
theorem len_app (x y : Str) : (x ++ y).length = x.length + y.length := by
  rw [TL.len_tl, TL.tl_append, List.length_append, ← TL.len_tl, ← TL.len_tl]
def tyD : PyData → String
  | .none => "NoneType"
  | .bool _ => "bool"
  | .int _ => "int"
  | .str _ => "str"
  | .list _ => "list"
  | .tuple _ => "tuple"
  | .dict _ => "dict"
theorem ty_of_dp {K : PySem.W.Frag} {H : Hp} {x : V} {d : PyData} (h : Dp K H x d) : TyX K H x (.type (tyD d)) := by
  cases h with
  | non => exact .base .non
  | bl b => exact .base (.bl b)
  | int i => exact .base (.int i)
  | str z => exact .base (.str z)
  | lst a _ =>
    rcases a with (a | ⟨o, a⟩) | ⟨o, its, n, a, c, _⟩
    · exact .base (.lst a)
    · exact .base (.frz a)
    · exact .kList a c
  | tup a _ =>
    rcases a with (a | ⟨o, a⟩) | ⟨o, its, n, a, c, _⟩
    · exact .base (.tup a)
    · exact .fTuple a
    · exact .kTuple a c
theorem seqT_same {K : PySem.W.Frag} {H H' : Hp} {a : Addr} {xs : List V} (e : Same H H') (h : SqT K H a xs) : SqT K H' a xs := by
  rcases h with (h | ⟨o, h⟩) | h
  · exact .inl (.inl (e _ _ h))
  · exact .inl (.inr ⟨o, e _ _ h⟩)
  · exact .inr h
mutual
theorem dp_same {K : PySem.W.Frag} {H H' : Hp} (e : Same H H') : ∀ {x : V} {d : PyData}, Dp K H x d → Dp K H' x d
  | _, _, .non => .non
  | _, _, .bl b => .bl b
  | _, _, .int i => .int i
  | _, _, .str z => .str z
  | _, _, .lst a b => .lst (e.seq a) (dpAll_same e b)
  | _, _, .tup a b => .tup (seqT_same e a) (dpAll_same e b)
theorem dpAll_same {K : PySem.W.Frag} {H H' : Hp} (e : Same H H') : ∀ {xs : List V} {ds : List PyData}, DpAll K H xs ds → DpAll K H' xs ds
  | _, _, .nil => .nil
  | _, _, .cons a b => .cons (dp_same e a) (dpAll_same e b)
end
/-- the heap without the place b -/
def wo (b : Addr) (H : Hp) : Hp := fun c => if c = b then none else H c
theorem wo_sub (b : Addr) (H : Hp) : Same (wo b H) H := fun c o h => by
  unfold wo at h
  split at h
  · cases h
  · exact h
theorem wo_but {b : Addr} {H H' : Hp} (t : But b H H') : Same (wo b H) (wo b H') := fun c o h => by
  unfold wo at h ⊢
  split at h
  · cases h
  · rename_i n
    rw [if_neg n]
    exact t c o n h
theorem wo_same {b : Addr} {H H' : Hp} (t : Same H H') : Same (wo b H) (wo b H') := wo_but (But.of t)
theorem wo_at {b c : Addr} {H : Hp} {o : HO} (n : c ≠ b) (h : H c = some o) : wo b H c = some o := by
  unfold wo
  rw [if_neg n]
  exact h
def Asc (s : Str) : Prop := ∀ c ∈ TL.tl s, c < 128
theorem Asc.app {x y : Str} (hx : Asc x) (hy : Asc y) : Asc (x ++ y) := fun c hc => by
  rw [TL.tl_append] at hc
  rcases List.mem_append.mp hc with h | h
  · exact hx c h
  · exact hy c h
theorem Asc.cut {x : Str} {lo hi : Option Int} (hx : Asc x) : Asc (cutS x lo hi) := fun c hc => hx c (List.mem_of_mem_drop (List.mem_of_mem_take hc))
theorem Asc.one {c : Nat} (h : c < 128) : Asc ⟨#[c]⟩ := fun d hd => by
  rw [List.mem_singleton.mp (show d ∈ [c] from hd)]
  exact h
/-! ### kinds of data -/
def isT (T t : String) : Bool := decide (t = T) || (decide (T = "int") && decide (t = "bool"))
abbrev isK (T : String) (d : PyData) : Bool := isT T (tyD d)
theorem kit_t : ∀ t ∈ ["NoneType", "bool", "int", "str", "list", "tuple", "dict"], ∀ T ∈ ["int", "bool", "str", "list", "tuple"], kitB t T = some (isT T t) := by decide +kernel
theorem ty_mem (d : PyData) : tyD d ∈ ["NoneType", "bool", "int", "str", "list", "tuple", "dict"] := by
  cases d <;> simp [tyD]
theorem kit_d {K : PySem.W.Frag} {T : String} (hT : T ∈ ["int", "bool", "str", "list", "tuple"]) (d : PyData) : PySem.W.kitOne K (.type (tyD d)) (.type T) = some (isK T d) := kit_ty (kit_t _ (ty_mem d) T hT)
theorem sh_int (i : Int) : SeqAt.shaped (.int i) = true := by
  show (PyData.canLay0 (.int i) && decide (PyData.depth (.int i) ≤ 64)) = true
  simp [PyData.canLay0, PyData.depth]
theorem tuple_mul1 (l : Addr) (items : Array Value) (n : Nat) (dd : Option Addr) (sl : Array (Option Value)) (u : Tok) (hne : items.isEmpty = false) :
    Meets (Builtin.«tuple.__mul__» ⟨[.ref l, .int 1 u], []⟩) (fun _ R s => s.heap.get? l = some { cls := .type "tuple", dict := dd, data := .seq items n, slots := sl } ∧ R (.ok (.ret (Value.ref l))) s) :=
  .of_wp fun prog w A R s h => by
    obtain ⟨hp, g, d, tk, os⟩ := s
    obtain ⟨hl, h⟩ := h
    have f1 := AutoSeq1.idx_int
    wp_walk using wpAny_loadPart' hl
    exact ⟨_, rfl, h⟩
theorem op_rep1 {X : Cx} : OpR X (binaryOp .Mult) (fun x y H Q => ∃ (l : Addr) (xs : List V), x = .ref l ∧ y = .int 1 ∧ SqT X.K H l xs ∧ xs ≠ [] ∧ Q (.ref l) H) := by
  intro pins s σ H x y v u Q I rx ry h
  obtain ⟨l, xs, rfl, rfl, hT, hne, q⟩ := h
  cases rx
  obtain ⟨t, rfl⟩ := ry
  obtain ⟨its, r, ⟨⟨cls, dd, data, sl⟩, ho, hc, n, hd⟩, hs⟩ := I.tuple hT
  simp only at hc hd
  subst hc hd
  have hi : its.toArray.isEmpty = false := by
    cases its with
    | nil => exact absurd (List.eq_nil_of_length_eq_zero (r.length.trans rfl)) hne
    | cons a b => rfl
  refine wpAny_binaryOp_repeat_ref (T := "tuple") (U := "int") (by decide) ⟨_, ho, rfl⟩ (fun s' => typeIs_int s' 1 t) noFill_tuple_mul F.fills_int_mul F.slot_int_rmul repeat_tuple F.slot_int_index.lookup
    (call_meets F.slot_int_rmul (typeIs_int s 1 t) F.entry_int_rmul (F.args_int_rmul_2 _ _) (int_rmul_tuple 1 t l its.toArray n dd sl)
      ⟨ho, rfl, ⟨_, ho, rfl⟩, call_meets F.slot_tuple_mul ⟨_, ho, rfl⟩ F.entry_tuple_mul (F.args_tuple_mul_2 _ _) (tuple_mul1 l its.toArray n dd sl t hi) ⟨ho, ?_⟩⟩)
  exact ⟨.ref l, H, I, rfl, q⟩
def rRepA (K : PySem.W.Frag) : R2 := fun x y H Q => rRepT K x y H Q ∨ ∃ (l : Addr) (xs : List V), x = .ref l ∧ y = .int 1 ∧ SqT K H l xs ∧ xs ≠ [] ∧ Q (.ref l) H
theorem kk_repA (K : PySem.W.Frag) {X : Cx} (h : X.K = K := by rfl) : OpR X (binaryOp .Mult) (rRepA K) := h ▸ OpR.or op_repT op_rep1
/-! ### classes: a method, the making of an instance, by their promises -/
structure CMt (P : Program) (w : World) (K : PySem.W.Frag) (mg : Str → Option Value) (base : Heap) (C : Addr) (k : Nat) (m : Str) (ps : List Str) (dvs : List V) (sp : Sp) : Prop where
  ex : ∃ (f : Addr) (fd : FuncData) (ds : List Value), FnOk P w K mg base CX0 k f fd ps sp ∧ Meth K C m f ∧ Vals dvs ds ∧ Binds K fd ps ds
structure CMk (P : Program) (w : World) (K : PySem.W.Frag) (mg : Str → Option Value) (base : Heap) (C : Addr) (k : Nat) (x : Str) (ps : List Str) (dvs : List V) (sp : Sp) : Prop where
  ex : ∃ (f : Addr) (fd : FuncData) (ds : List Value), FnOk P w K mg base CX0 k f fd ps sp ∧ Mk K C f ∧ mg x = some (.ref C) ∧ Vals dvs ds ∧ Binds K fd ps ds
section
variable {X : Cx} {k : Nat} {C : Addr} {x m : Str} {ps : List Str} {dvs : List V} {sp : Sp} {p pos apos : Pos} {e o : Expr} {es : List Expr} {ta : TE} {t : TA}
theorem pe_mt {pl : Sem Bool} (M : CMt X.prog X.w X.K X.mg X.base C k m ps dvs sp) (c : Cls X.K C) (hr : Room k X.A) (he : PE X o ta) (ha : PA X (e :: es) t)
    (hst : starEach (e :: es) X.env = (false, eval e X.env) :: starEach es X.env := by rfl) (hpl : (backTo pos (starEach es X.env)).any (·.1) = false := by rfl)
    (ht : eval (.Call (.Attribute o m apos) (e :: es) [] pos) X.env = (do
      let ov ← eval o X.env
      standAt apos.atName
      let (f, first) ← holding [ov] (getMethod ov m pl)
      callWith pos f first (backTo pos (starEach (e :: es) X.env)) (backToKw pos (keywordEach [] X.env))) := by rfl) :
    PE X (.Call (.Attribute o m apos) (e :: es) [] pos) (tMeth C m sp dvs E0 ta t) := by
  obtain ⟨f, fd, ds, F, me, vd, b⟩ := M.ex
  exact pe_meth (pl := pl) he c me F hr b vd pass0 ha hst hpl ht
theorem pe_mt0 {pl : Sem Bool} (M : CMt X.prog X.w X.K X.mg X.base C k m ps dvs sp) (c : Cls X.K C) (hr : Room k X.A) (he : PE X o ta)
    (ht : eval (.Call (.Attribute o m apos) [] [] pos) X.env = (do
      let ov ← eval o X.env
      standAt apos.atName
      let (f, first) ← holding [ov] (getMethod ov m pl)
      callWith pos f first (backTo pos (starEach [] X.env)) (backToKw pos (keywordEach [] X.env))) := by rfl) :
    PE X (.Call (.Attribute o m apos) [] [] pos) (tMeth C m sp dvs E0 ta tNil) := by
  obtain ⟨f, fd, ds, F, me, vd, b⟩ := M.ex
  exact pe_meth0 (pl := pl) he c me F hr b vd pass0 ht
theorem pe_mkc (M : CMk X.prog X.w X.K X.mg X.base C k x ps dvs sp) (hr : Room (k + 1) X.A) (hg : Gl X x) (ha : PA X (e :: es) t)
    (hdb : (x == ("__debug__" : Str)) = false := by decide) (he : starEach (e :: es) X.env = (false, eval e X.env) :: starEach es X.env := by rfl) (hpl : (backTo pos (starEach es X.env)).any (·.1) = false := by rfl) :
    PE X (.Call (.Name x p) (e :: es) [] pos) (tMake C sp dvs E0 t) := by
  obtain ⟨f, fd, ds, F, mk, g, vd, b⟩ := M.ex
  exact pe_make mk F hr hg g b vd pass0 ha hdb he hpl
end
/-! ### o.m(e, .., k = v) -/
structure CMtK (P : Program) (w : World) (K : PySem.W.Frag) (mg : Str → Option Value) (base : Heap) (C : Addr) (k : Nat) (m : Str) (ps : List Str) (n : Nat) (ks : List Str) (gV : List V → List V → List V) (sp : Sp) : Prop where
  ex : ∃ (f : Addr) (fd : FuncData) (g : List Value → List Value → List Value), FnOk P w K mg base CX0 k f fd ps sp ∧ Meth K C m f ∧ KBn K fd ps n ks g gV
def tMethK (C : Addr) (m : Str) (n j : Nat) (sp : Sp) (gV : List V → List V → List V) (ta : TE) (t tk : TA) : TE := fun σ H Q => ta σ H fun x H1 => ∃ (a dx : Addr) (fs : List (Str × V)), x = .ref a ∧ H1 a = some (.ins C dx fs) ∧ fs.lookup m = none ∧
  t σ H1 fun vs H2 => tk σ H2 fun zs H3 => (x :: vs).length = n ∧ zs.length = j ∧ sp (gV (x :: vs) zs) H3 Q E0
theorem pe_mtK {X : Cx} {k n : Nat} {C : Addr} {m : Str} {ps ks : List Str} {sp : Sp} {gV : List V → List V → List V} {pos apos : Pos} {e o : Expr} {es : List Expr} {kws : List Keyword} {ta : TE} {t tk : TA} {pl : Sem Bool}
    (M : CMtK X.prog X.w X.K X.mg X.base C k m ps n ks gV sp) (c : Cls X.K C) (hr : Room k X.A) (he : PE X o ta) (ha : PA X (e :: es) t) (hkw : PK X kws tk)
    (hall : (backToKw pos (keywordEach kws X.env)).all (·.1.isSome) = true := by rfl) (hks : (backToKw pos (keywordEach kws X.env)).filterMap (·.1) = ks := by rfl)
    (hst : starEach (e :: es) X.env = (false, eval e X.env) :: starEach es X.env := by rfl)
    (hpl : ((backTo pos (starEach (e :: es) X.env)).any (·.1) || (backToKw pos (keywordEach kws X.env)).any (·.1.isNone)) = false := by rfl)
    (ht : eval (.Call (.Attribute o m apos) (e :: es) kws pos) X.env = (do
      let ov ← eval o X.env
      standAt apos.atName
      let (f, first) ← holding [ov] (getMethod ov m pl)
      callWith pos f first (backTo pos (starEach (e :: es) X.env)) (backToKw pos (keywordEach kws X.env))) := by rfl) :
    PE X (.Call (.Attribute o m apos) (e :: es) kws pos) (tMethK C m n ks.length sp gV ta t tk) := by
  obtain ⟨f, fd, g, F, me, b⟩ := M.ex
  constructor
  intro pins s σ H Q I h
  refine PySem.W.methodCall_KW (pl := pl) (thn (he.run pins s σ H _ I h) ?_) ht
  rintro u s1 ⟨x, H1, I1, rx, a, dx, fs, rfl, ea, l, q⟩
  cases (show u = Value.ref a from rx)
  refine getmeth_ok I1 ea c me l ?_
  refine PySem.W.callWith_KW (first := [.ref a]) (h₀ := X.base) I.ok.mod.kin me.kp hall (thn (ha.run pos pins s1 σ H1 _ I1 q) ?_) hpl hst
  rintro us s2 ⟨vs, H2, I2, r, q2⟩
  refine thn (hkw.run pos pins s2 σ H2 _ I2 q2) ?_
  rintro ws s3 ⟨zs, H3, I3, rz, l1, l2, q3⟩
  refine ⟨I3.kIn, ?_⟩
  rw [hks]
  exact run_fnN (us := .ref a :: us) (vs := .ref a :: vs) F hr b pass0 I3 (.cons rfl r) rz l1 l2 q3
theorem okD {P : Program} {w : World} {K : PySem.W.Frag} {mg : Str → Option Value} {base : Heap} {x qual : Str} {params : Arguments} {body : List Stmt} {scope : Scope} {dvs : List V} {kws : List (Str × V)} {f : Addr} {fd : FuncData} {N ps : List Str} {k : Nat} {sp : Sp}
    (F : FunD K x qual params body scope dvs kws f fd) (S : FnScope N ps scope) (len : ∀ vs H Q E, sp vs H Q E → vs.length = ps.length)
    (walk : ∀ (cdv : Value) (A : Around) (outer : List Env) (s : Shared) (H : Hp) (vs : List V) (Q : VK) (E : XK), Room k (A.deeper (envOfC qual scope s.heap.objs.size f cdv)) → sp vs H Q E →
      ∃ t, PSs (cxOf CX0 P w K mg base N qual scope f cdv A outer s H E).nox body t ∧ t { nx := fun _ H' => Q .non H', rt := Q } (start N vs) H) : FnOk P w K mg base CX0 (k + 1) f fd ps sp := by
  refine F.ok S len (fun cdv A outer s H vs Q E hr h => ?_)
  obtain ⟨t, ht, q⟩ := walk cdv A outer s H vs Q E hr h
  exact ⟨t, ht.nox, q⟩
/-! ### numbers in bounds, what is kept -/
def numIn : PyData → Int → Int → Bool
  | .int i, lo, hi => decide (lo ≤ i) && decide (i ≤ hi)
  | _, _, _ => false
def keptOk : PyData → PyData → Bool
  | .tuple ds, e => PyData.eqv (.int (ds.length : Int)) e && ds.all fun d => numIn d 0 100
  | d, _ => numIn d 0 100
def firstWrong (ws : List (Str × Bool)) : V := match ws.find? (fun p => !p.2) with
  | some p => .str p.1
  | none => .non
theorem firstWrong_at {ws : List (Str × Bool)} {i : Nat} {w : Str} (h : ∀ p ∈ ws.take i, p.2 = true) (hi : ws[i]? = some (w, false)) : firstWrong ws = .str w := by
  have hs : ws = ws.take i ++ (w, false) :: ws.drop (i + 1) := by
    obtain ⟨hl, he⟩ := List.getElem?_eq_some_iff.mp hi
    rw [← he, List.getElem_cons_drop, List.take_append_drop]
  unfold firstWrong
  rw [hs, List.find?_append, List.find?_eq_none.mpr (fun p hp => by rw [h p hp]; decide)]
  rfl
theorem firstWrong_none {ws : List (Str × Bool)} (h : ∀ p ∈ ws, p.2 = true) : firstWrong ws = .non := by
  unfold firstWrong
  rw [List.find?_eq_none.mpr (fun p hp => by rw [h p hp]; decide)]
theorem dpAll_len {K : PySem.W.Frag} {H : Hp} : ∀ {xs : List V} {ds : List PyData}, DpAll K H xs ds → xs.length = ds.length
  | _, _, .nil => rfl
  | _, _, .cons _ b => by rw [List.length_cons, List.length_cons, dpAll_len b]
theorem dpAll_get {K : PySem.W.Frag} {H : Hp} : ∀ {xs : List V} {ds : List PyData} {i : Nat} {x : V}, DpAll K H xs ds → xs[i]? = some x → ∃ d, ds[i]? = some d ∧ Dp K H x d
  | _, _, 0, _, .cons a _, h => ⟨_, rfl, by cases (Option.some.inj h); exact a⟩
  | _, _, i + 1, _, .cons _ b, h => dpAll_get (i := i) b h
  | _, _, _, _, .nil, h => by simp at h
/-! ### a block over an iterator of a known length; zip of two lists, of two tuples -/
theorem lc_gen {J : It} {n : Nat} {g : TG} {tt : TT} {te : TE} {vs : List Nat} {σ : L2.St} {H1 : Hp} {D : Addr} {Qd : Hp → Prop} (Pv : Nat → Hp → Prop) (first : Pv 0 (upd H1 D (.lst [])))
    (can : ∀ i H, Pv i H → (i < n → J.go i H) ∧ (i = n → J.stop i H))
    (turn : ∀ i H v H', i < n → Pv i H → J.yld i H v H' → g v (wipe σ vs) H' fun σ2 H2 => wipe σ2 vs = wipe σ vs ∧ tt σ2 H2 fun b H3 => if b = true then te σ2 H3 fun y H4 => ∃ acc, H4 D = some (.lst acc) ∧ acc.length < sizeLine ∧ Pv (i + 1) (upd H4 D (.lst (acc ++ [y]))) else Pv (i + 1) H3)
    (last : ∀ H, Pv n H → Qd H) :
    ∃ W : Nat → Nat → Hp → Prop, (∃ m, W 0 m (upd H1 D (.lst []))) ∧ ∀ i m H, W i m H → (J.stop i H ∧ Qd H) ∨ (J.go i H ∧ ∃ Nx : Hp → Prop, (∀ H', Nx H' → ∃ m', m' < m ∧ W (i + 1) m' H') ∧ ∀ x H', J.yld i H x H' → g x (wipe σ vs) H' fun σ2 H2 => wipe σ2 vs = wipe σ vs ∧ tt σ2 H2 fun b H3 => if b = true then te σ2 H3 fun y H4 => ∃ acc, H4 D = some (.lst acc) ∧ acc.length < sizeLine ∧ Nx (upd H4 D (.lst (acc ++ [y]))) else Nx H3) := by
  refine ⟨fun i m H => m + i = n ∧ Pv i H, ⟨n, by omega, first⟩, ?_⟩
  intro i m H hw
  obtain ⟨e, p⟩ := hw
  by_cases c : i < n
  · exact .inr ⟨(can i H p).1 c, Pv (i + 1), fun H' p' => ⟨n - (i + 1), by omega, by omega, p'⟩, fun v H' y => turn i H v H' c p y⟩
  · have z : i = n := by omega
    exact .inl ⟨(can i H p).2 z, last H (z ▸ p)⟩
section
variable {K : PySem.W.Frag} {a b : Addr} {xs ys : List V}
theorem canL {H : Hp} {i : Nat} (l : xs.length = ys.length) (x : SqL K H a xs) (y : SqL K H b ys) : (i < xs.length → (Itz K a b).go i H) ∧ (i = xs.length → (Itz K a b).stop i H) :=
  ⟨fun c => ⟨xs, ys, _, _, x, y, List.getElem?_eq_getElem c, List.getElem?_eq_getElem (l ▸ c)⟩, fun c => ⟨xs, ys, x, y, .inl (by omega)⟩⟩
theorem canT {H : Hp} {i : Nat} (l : xs.length = ys.length) (x : SqT K H a xs) (y : SqT K H b ys) : (i < xs.length → (RZ.ItzT K a b).go i H) ∧ (i = xs.length → (RZ.ItzT K a b).stop i H) :=
  ⟨fun c => ⟨xs, ys, _, _, x, y, List.getElem?_eq_getElem c, List.getElem?_eq_getElem (l ▸ c)⟩, fun c => ⟨xs, ys, x, y, .inl (by omega)⟩⟩
end
/-! ### data of short lists -/
mutual
def thin : PyData → Bool
  | .list xs => decide (xs.length ≤ 1000) && thinAll xs
  | .tuple xs => decide (xs.length ≤ 1000) && thinAll xs
  | _ => true
def thinAll : List PyData → Bool
  | [] => true
  | x :: r => thin x && thinAll r
end
theorem thin_at {d : PyData} : ∀ {ds : List PyData} {i : Nat}, thinAll ds = true → ds[i]? = some d → thin d = true
  | e :: r, 0, h, he => by
    cases he
    simp only [thinAll, Bool.and_eq_true] at h
    exact h.1
  | e :: r, i + 1, h, he => by
    simp only [thinAll, Bool.and_eq_true] at h
    exact thin_at (i := i) h.2 he
theorem depth_at {d : PyData} : ∀ {ds : List PyData} {i : Nat}, ds[i]? = some d → PyData.depth d ≤ PyData.depthAll ds
  | e :: r, 0, he => by
    cases he
    simp only [PyData.depthAll]
    omega
  | e :: r, i + 1, he => by
    have := depth_at (i := i) (ds := r) he
    simp only [PyData.depthAll]
    omega
theorem kitLT {K : PySem.W.Frag} (d : PyData) : PySem.W.kitAny K (.type (tyD d)) [.type "list", .type "tuple"] = some (isK "list" d || isK "tuple" d) := by
  unfold PySem.W.kitAny
  rw [kit_d (by decide)]
  cases isK "list" d with
  | true => rfl
  | false =>
    unfold PySem.W.kitAny
    rw [kit_d (by decide)]
    cases isK "tuple" d <;> rfl
theorem qY {c : Prop} [Decidable c] {Q : VK} {H : Hp} (hc : c) (q : Q (.bl true) H) : Q (.bl (decide c)) H := by
  rw [decide_eq_true hc]
  exact q
theorem rep_snoc (i : Nat) : (List.replicate i true).map V.bl ++ [V.bl true] = (List.replicate (i + 1) true).map V.bl := by
  rw [List.map_replicate, List.map_replicate, List.replicate_succ']
/-! ### len of an instance by its class's own def; a walk over a list or a tuple -/
theorem call_lenO {X : Cx} {C : Addr} {k : Nat} {sp : Sp} (M : CMt X.prog X.w X.K X.mg X.base C k "__len__" ["self"] [] sp) (hr : Room (k + 1) X.A) :
    CallR X (.builtin "len") (fun xs H Q => ∃ (r dx : Addr) (fs : List (Str × V)), xs = [.ref r] ∧ H r = some (.ins C dx fs) ∧ sp [.ref r] H (fun v H' => ∃ n : Int, v = .int n ∧ 0 ≤ n ∧ n < 1000000 ∧ Q (.int n) H') E0) := by
  intro pins s σ H xs us Q I rv h
  obtain ⟨r, dx, fs, rfl, ea, h⟩ := h
  obtain ⟨f, fd, ds, F, me, vd, hb⟩ := M.ex
  cases vd
  cases rv with
  | cons e rr =>
    cases rr
    cases e
    obtain ⟨mA, O, _⟩ := ins_get I.hok ea
    obtain ⟨od, J, _⟩ := O.look
    refine Calls.call_function_entry kind_len plain_len entry_len (args_len1 _) ?_
    unfold Builtin.«len»
    refine wpAny_bind (wpAny_pure ?_)
    refine wpAny_bind (PySem.W.special_fn (args := []) I.kIn J me.at_ (beq_iff_eq.mp me.fn) ?_)
    have hl : ([Value.ref r] ++ ([] : List Value)).length = (["self"] : List Str).length := rfl
    refine wpAny_call (codeAny_mono (F.run X.A.in1 X.stack s H ⟨[.ref r], []⟩ [.ref r] [.ref r] _ _ hr.in1 I.env0.in1 (hb s [.ref r] I.kIn hl) (.cons rfl .nil) h) fun x s' hq => ?_)
    cases x with
    | error e => exact pass0 pins σ H s e s' I hq
    | ok fl =>
      cases fl with
      | ret u =>
        obtain ⟨v, H', I', rv, n, rfl, n0, n1, q⟩ := I.after hq
        obtain ⟨t, rfl⟩ := rv
        refine wpAny_bind (wpAny_holding (wpAny_pure ?_))
        refine wpAny_bind (wpAny_letGo ?_)
        show wpAny _ _ (if n < 0 then _ else _) _ _ _
        rw [if_neg (by omega)]
        show wpAny _ _ (if n ≥ 2 ^ 63 then _ else _) _ _ _
        rw [if_neg (by omega)]
        exact wpAny_bind (wpAny_mkInt (wpAny_pure ⟨_, rfl, .int n, H', I'.tok _, ⟨_, rfl⟩, q⟩))
      | next => exact False.elim hq
      | brk => exact False.elim hq
      | cont => exact False.elim hq
theorem pi_or {X : Cx} {tg e : Expr} {w1 w2 : TI} (h : PI X tg e w1) (h' : PI X tg e w2) : PI X tg e (fun σ H R => w1 σ H R ∨ w2 σ H R) :=
  ⟨fun pins s σ H R I q => q.elim (h.run pins s σ H R I) (h'.run pins s σ H R I)⟩
/-! ### what comes of a row of days -/
inductive Wd where
  | st | go | so
  deriving DecidableEq
structure Cs where
  w : Wd
  d : Int
  p : Int
  m : Int
def wS : Wd → Str
  | .st => Str.ofString "stands"
  | .go => Str.ofString "gone"
  | .so => Str.ofString "sold"
def csV (c : Cs) : List V := [.str (wS c.w), .int c.d, .int c.p, .int c.m]
def csD (c : Cs) : PyData := .tuple [.str (wS c.w), .int c.d, .int c.p, .int c.m]
def passN (s g : Int) : Nat → Int → Int → Int → Int → Cs
  | 0, d, p, m, day => if d + g < day then ⟨.go, d + g + 1, p, m⟩ else ⟨.st, d, p, m⟩
  | n + 1, d, p, m, day => if d + g < day then passN s g n (d + s) p (m + 1) day else ⟨.st, d, p, m⟩
/-- to the begin of a day -/
def passT (s g ms : Int) (c : Cs) (day : Int) : Cs := match c.w with
  | .st => passN s g (ms - c.m).toNat c.d c.p c.m day
  | _ => c
/-- a part paid on a day -/
def payT (p s : Int) (l : Bool) (c : Cs) (day : Int) : Cs := match c.w with
  | .st => if c.p + 1 = p then ⟨.so, day, c.p + 1, c.m⟩ else ⟨.st, (if l then day else c.d) + s, c.p + 1, c.m⟩
  | _ => c
def stepT (p s g : Int) (l : Bool) (ms e : Int) (c : Cs) (d : Int) : Cs := if d ≤ e then payT p s l (passT s g ms c d) d else c
abbrev cs0 : Cs := ⟨.st, 0, 0, 0⟩
def courseT (p s g : Int) (l : Bool) (ms : Int) (days : List Int) (e : Int) : Cs := passT s g ms (days.foldl (stepT p s g l ms e) cs0) e
theorem passN_m {s g : Int} : ∀ (n : Nat) (d p m day : Int), (passN s g n d p m day).m ≤ m + n
  | 0, d, p, m, day => by
    unfold passN
    split <;> simp
  | n + 1, d, p, m, day => by
    unfold passN
    split
    · have := passN_m (s := s) (g := g) n (d + s) p (m + 1) day
      omega
    · show m ≤ _
      omega
theorem passT_m {s g ms : Int} {c : Cs} {day : Int} (h : c.m ≤ ms) : (passT s g ms c day).m ≤ ms := by
  unfold passT
  split
  · have := passN_m (s := s) (g := g) (ms - c.m).toNat c.d c.p c.m day
    omega
  · exact h
theorem payT_m {p s : Int} {l : Bool} {c : Cs} {day : Int} : (payT p s l c day).m = c.m := by
  unfold payT
  split
  · split <;> rfl
  · rfl
theorem stepT_m {p s g : Int} {l : Bool} {ms e : Int} {c : Cs} {d : Int} (h : c.m ≤ ms) : (stepT p s g l ms e c d).m ≤ ms := by
  unfold stepT
  split
  · rw [payT_m]
    exact passT_m h
  · exact h
theorem foldT_m {p s g : Int} {l : Bool} {ms e : Int} : ∀ (ds : List Int) {c : Cs}, c.m ≤ ms → (ds.foldl (stepT p s g l ms e) c).m ≤ ms
  | [], _, h => h
  | d :: r, _, h => foldT_m r (stepT_m h)
def StAt (K : PySem.W.Frag) (H : Hp) (a : Addr) (c : Cs) : Prop := SqT K H a (csV c)
theorem StAt.same {K : PySem.W.Frag} {H H' : Hp} {a : Addr} {c : Cs} (h : StAt K H a c) (e : Same H H') : StAt K H' a c := seqT_same e h
theorem StAt.dp {K : PySem.W.Frag} {H : Hp} {a : Addr} {c : Cs} (h : StAt K H a c) : Dp K H (.ref a) (csD c) := .tup h (.cons (.str _) (.cons (.int _) (.cons (.int _) (.cons (.int _) .nil))))
theorem sh_cs (c : Cs) : SeqAt.shaped (csD c) = true := by
  show (PyData.canLay0 (csD c) && decide (PyData.depth (csD c) ≤ 64)) = true
  have h : PyData.strOk (wS c.w) = true := by cases c.w <;> decide +kernel
  simp [csD, PyData.canLay0, PyData.canLayAll0, PyData.depth, PyData.depthAll, h]
theorem eqv_cs (c : Cs) : PyData.eqv (csD c) (csD c) = true := SeqAt.eqv_refl _ (SeqAt.canLay_of_shaped (sh_cs c))
theorem wS_st (w : Wd) : decide (V.str (wS w) = V.str (Str.ofString "stands")) = decide (w = .st) := by cases w <;> decide +kernel
theorem wS_go (w : Wd) : decide (V.str (wS w) = V.str (Str.ofString "gone")) = decide (w = .go) := by cases w <;> decide +kernel
theorem passT_over {s g ms : Int} {c : Cs} {day : Int} (h : c.w ≠ .st) : passT s g ms c day = c := by
  unfold passT
  split
  · contradiction
  · rfl
theorem payT_over {p s : Int} {l : Bool} {c : Cs} {day : Int} (h : c.w ≠ .st) : payT p s l c day = c := by
  unfold payT
  split
  · contradiction
  · rfl
theorem passN_st {s g : Int} {n : Nat} {d p m day : Int} (h : ¬ d + g < day) : passN s g n d p m day = ⟨.st, d, p, m⟩ := by
  cases n <;> unfold passN <;> rw [if_neg h]
theorem passN_go {s g d p m day : Int} (h : d + g < day) : passN s g 0 d p m day = ⟨.go, d + g + 1, p, m⟩ := by
  unfold passN
  rw [if_pos h]
theorem passN_on {s g : Int} {n : Nat} {d p m day : Int} (h : d + g < day) : passN s g (n + 1) d p m day = passN s g n (d + s) p (m + 1) day := by
  rw [passN, if_pos h]
/-! ### sums of misses -/
theorem pass_stay {s g : Int} (hs : 1 ≤ s) : ∀ (j N : Nat) (d p m day : Int), j ≤ N → (j = 0 ∨ d + g + s * ((j : Int) - 1) < day) → day ≤ d + g + s * j → passN s g N d p m day = ⟨.st, d + s * j, p, m + j⟩
  | 0, N, d, p, m, day, _, _, h2 => by
    rw [passN_st (by simp at h2; omega)]
    simp
  | j + 1, N, d, p, m, day, hj, h1, h2 => by
    obtain ⟨M, rfl⟩ : ∃ M, N = M + 1 := ⟨N - 1, by omega⟩
    have e1 : s * (((j + 1 : Nat) : Int) - 1) = s * j := by rw [show (((j + 1 : Nat) : Int) - 1) = j by omega]
    have e2 : s * ((j + 1 : Nat) : Int) = s * j + s := by rw [show ((j + 1 : Nat) : Int) = (j : Int) + 1 by omega, Int.mul_add, Int.mul_one]
    have e3 : s * ((j : Int) - 1) = s * j - s := by rw [Int.mul_sub, Int.mul_one]
    have h0 : 0 ≤ s * (j : Int) := Int.mul_nonneg (by omega) (by omega)
    rw [e2] at h2 ⊢
    rw [e1] at h1
    have h3 : d + g + s * (j : Int) < day := by omega
    rw [passN_on (by omega), pass_stay hs j M (d + s) p (m + 1) day (by omega) (by rw [e3]; omega) (by omega)]
    congr 1 <;> omega
theorem pass_gone {s g : Int} (hs : 1 ≤ s) : ∀ (N : Nat) (d p m day : Int), d + g + s * N < day → passN s g N d p m day = ⟨.go, d + g + s * N + 1, p, m + N⟩
  | 0, d, p, m, day, h => by
    rw [passN_go (by simp at h; omega)]
    simp
  | N + 1, d, p, m, day, h => by
    have e2 : s * ((N + 1 : Nat) : Int) = s * N + s := by rw [show ((N + 1 : Nat) : Int) = (N : Int) + 1 by omega, Int.mul_add, Int.mul_one]
    have h0 : 0 ≤ s * (N : Int) := Int.mul_nonneg (by omega) (by omega)
    rw [e2] at h ⊢
    rw [passN_on (by omega), pass_gone hs N (d + s) p (m + 1) day (by omega)]
    congr 1 <;> omega
/-- the days on which parts are due that are paid on their days -/
def dueDays (s : Int) (n : Nat) : List Int := (List.range n).map fun (k : Nat) => s * (k : Int)
theorem due_snoc (s : Int) (n : Nat) : dueDays s (n + 1) = dueDays s n ++ [s * (n : Int)] := by
  unfold dueDays
  rw [List.range_succ, List.map_append]
  rfl
theorem due_mem {s x : Int} {n : Nat} (h : x ∈ dueDays s n) : ∃ k : Nat, k < n ∧ x = s * k := by
  obtain ⟨k, hk, rfl⟩ := List.mem_map.mp h
  exact ⟨k, List.mem_range.mp hk, rfl⟩
theorem due_len (s : Int) (n : Nat) : (dueDays s n).length = n := by
  unfold dueDays
  rw [List.length_map, List.length_range]
theorem step_on {p s g : Int} {l : Bool} {ms e d : Int} {c : Cs} (h : d ≤ e) : stepT p s g l ms e c d = payT p s l (passT s g ms c d) d := by
  unfold stepT
  rw [if_pos h]
theorem pay_st {p s d pd m day : Int} {l : Bool} (h : pd + 1 ≠ p) : payT p s l ⟨.st, d, pd, m⟩ day = ⟨.st, (if l then day else d) + s, pd + 1, m⟩ := by
  show (if pd + 1 = p then _ else _) = _
  rw [if_neg h]
theorem pay_so {p s d pd m day : Int} {l : Bool} (h : pd + 1 = p) : payT p s l ⟨.st, d, pd, m⟩ day = ⟨.so, day, pd + 1, m⟩ := by
  show (if pd + 1 = p then _ else _) = _
  rw [if_pos h]
theorem fold_due {p s g : Int} {l : Bool} {ms e : Int} (hs : 1 ≤ s) (hg : 0 ≤ g) : ∀ n : Nat, (n : Int) < p → (n = 0 ∨ s * ((n : Int) - 1) ≤ e) → (dueDays s n).foldl (stepT p s g l ms e) cs0 = ⟨.st, s * n, n, 0⟩
  | 0, _, _ => by simp [dueDays]
  | n + 1, hp, he => by
    have e1 : s * (((n + 1 : Nat) : Int) - 1) = s * n := by rw [show (((n + 1 : Nat) : Int) - 1) = n by omega]
    have e2 : s * ((n + 1 : Nat) : Int) = s * n + s := by rw [show ((n + 1 : Nat) : Int) = (n : Int) + 1 by omega, Int.mul_add, Int.mul_one]
    have e3 : s * ((n : Int) - 1) = s * n - s := by rw [Int.mul_sub, Int.mul_one]
    rw [e1] at he
    have he2 : s * (n : Int) ≤ e := by omega
    rw [due_snoc, List.foldl_append, fold_due hs hg n (by omega) (by rw [e3]; omega), List.foldl_cons, List.foldl_nil, step_on he2]
    have ep : passT s g ms ⟨.st, s * n, n, 0⟩ (s * n) = ⟨.st, s * n, n, 0⟩ := passN_st (by show ¬ s * (n : Int) + g < s * n; omega)
    rw [ep, pay_st (by omega), e2]
    cases l <;> rfl
theorem fold_all {p s g : Int} {l : Bool} {ms e : Int} (hs : 1 ≤ s) (hg : 0 ≤ g) {n : Nat} (hp : (n : Int) + 1 = p) (he : s * (n : Int) ≤ e) : (dueDays s (n + 1)).foldl (stepT p s g l ms e) cs0 = ⟨.so, s * n, p, 0⟩ := by
  have e3 : s * ((n : Int) - 1) = s * n - s := by rw [Int.mul_sub, Int.mul_one]
  rw [due_snoc, List.foldl_append, fold_due hs hg n (by omega) (by rw [e3]; omega), List.foldl_cons, List.foldl_nil, step_on he]
  have ep : passT s g ms ⟨.st, s * n, n, 0⟩ (s * n) = ⟨.st, s * n, n, 0⟩ := passN_st (by show ¬ s * (n : Int) + g < s * n; omega)
  rw [ep, pay_so hp, hp]
theorem neCs {K : PySem.W.Frag} {H : Hp} {b t : Addr} {c c' : Cs} {Q : VK} (e : c = c') (hb : StAt K H b c) (ht : StAt K H t c') (q : Q (.bl false) H) : rNeD K (.ref b) (.ref t) H Q := by
  subst e
  refine ⟨_, _, hb.dp, ht.dp, sh_cs c, sh_cs c, ?_⟩
  rw [eqv_cs]
  exact q
theorem eqCs {K : PySem.W.Frag} {H : Hp} {b t : Addr} {c c' : Cs} {Q : VK} (e : c = c') (hb : StAt K H b c) (ht : StAt K H t c') (q : Q (.bl true) H) : rEqD K (.ref b) (.ref t) H Q := by
  subst e
  refine ⟨_, _, hb.dp, ht.dp, sh_cs c, sh_cs c, ?_⟩
  rw [eqv_cs]
  exact q
theorem mul_pred (s : Int) (n : Int) : s * (n - 1) = s * n - s := by rw [Int.mul_sub, Int.mul_one]
theorem mul_succ' (s : Int) (n : Int) : s * (n + 1) = s * n + s := by rw [Int.mul_add, Int.mul_one]
/-- parts paid on their days, then none: so many missed -/
theorem unpaid_stay {p s g : Int} {l : Bool} {ms : Int} {n j : Nat} {e : Int} (hs : 1 ≤ s) (hg : 0 ≤ g) (hn : (n : Int) < p) (hj : (j : Int) ≤ ms) (h1 : j = 0 ∧ s * n ≤ e ∨ s * n + g + s * (j : Int) - s < e) (h2 : e ≤ s * n + g + s * j) : courseT p s g l ms (dueDays s n) e = ⟨.st, s * n + s * j, n, j⟩ := by
  have a := mul_pred s n
  have b := mul_pred s j
  have c0 : 0 ≤ s * (j : Int) := Int.mul_nonneg (by omega) (by omega)
  have c1 : j ≠ 0 → s ≤ s * (j : Int) := fun h => by
    have := Int.mul_le_mul_of_nonneg_left (show (1 : Int) ≤ j by omega) (show 0 ≤ s by omega)
    omega
  have d0 : n = 0 ∨ s * ((n : Int) - 1) ≤ e := by
    rw [a]
    by_cases z : j = 0
    · subst z
      simp at h1 h2 c0
      omega
    · have := c1 z
      omega
  unfold courseT
  rw [fold_due hs hg n hn d0]
  show passN s g (ms - 0).toNat (s * n) n 0 e = _
  rw [pass_stay hs j (ms - 0).toNat _ _ _ _ (by omega) (by rw [b]; omega) h2, Int.zero_add]
theorem unpaid_gone {p s g : Int} {l : Bool} {ms : Int} {n : Nat} {e : Int} (hs : 1 ≤ s) (hg : 0 ≤ g) (hn : (n : Int) < p) (hm : 0 ≤ ms) (h1 : s * n + g + s * ms < e) : courseT p s g l ms (dueDays s n) e = ⟨.go, s * n + g + s * ms + 1, n, ms⟩ := by
  have a := mul_pred s n
  have c0 : 0 ≤ s * ms := Int.mul_nonneg (by omega) hm
  unfold courseT
  rw [fold_due hs hg n hn (by rw [a]; omega)]
  show passN s g (ms - 0).toNat (s * n) n 0 e = _
  have hz : (((ms - 0).toNat : Nat) : Int) = ms := by omega
  rw [pass_gone hs _ _ _ _ _ (by rw [hz]; exact h1), hz, Int.zero_add]
theorem course_snoc {p s g : Int} {l : Bool} {ms d e : Int} {ds : List Int} : courseT p s g l ms (ds ++ [d]) e = passT s g ms (stepT p s g l ms e (ds.foldl (stepT p s g l ms e) cs0) d) e := by
  unfold courseT
  rw [List.foldl_append]
  rfl
theorem course_at {p s g : Int} {l : Bool} {ms d : Int} {ds : List Int} : courseT p s g l ms (ds ++ [d]) d = passT s g ms (payT p s l (courseT p s g l ms ds d) d) d := by
  rw [course_snoc, step_on (Int.le_refl d)]
  rfl
theorem late_go {p s g : Int} {l : Bool} {ms d x n m : Int} {ds : List Int} (h : courseT p s g l ms ds d = ⟨.go, x, n, m⟩) : courseT p s g l ms (ds ++ [d]) d = ⟨.go, x, n, m⟩ := by
  rw [course_at, h]
  rfl
theorem late_so {p s g : Int} {l : Bool} {ms d x n m : Int} {ds : List Int} (h : courseT p s g l ms ds d = ⟨.st, x, n, m⟩) (hp : n + 1 = p) : courseT p s g l ms (ds ++ [d]) d = ⟨.so, d, p, m⟩ := by
  rw [course_at, h, pay_so hp, hp]
  rfl
theorem late_st {p s g : Int} {l : Bool} {ms d x n m : Int} {ds : List Int} (h : courseT p s g l ms ds d = ⟨.st, x, n, m⟩) (hp : n + 1 ≠ p) (hd : d ≤ (if l then d else x) + s + g) : courseT p s g l ms (ds ++ [d]) d = ⟨.st, (if l then d else x) + s, n + 1, m⟩ := by
  rw [course_at, h, pay_st hp]
  exact passN_st (by show ¬ (if l then d else x) + s + g < d; omega)
theorem late_base {p s g : Int} {l : Bool} {ms : Int} {n j k : Nat} (hs : 1 ≤ s) (hg : 0 ≤ g) (hn : (n : Int) < p) (hk : k < 2) (hj : (j : Int) + k ≤ ms) : courseT p s g l ms (dueDays s n) (s * n + g + s * j + k) = ⟨.st, s * n + s * ((j : Int) + k), n, (j : Int) + k⟩ := by
  have c0 : 0 ≤ s * (j : Int) := Int.mul_nonneg (by omega) (by omega)
  have e1 := mul_succ' s j
  have hk2 : k = 0 ∨ k = 1 := by omega
  rcases hk2 with rfl | rfl
  · have := unpaid_stay (p := p) (l := l) (ms := ms) (n := n) (j := j) (e := s * n + g + s * j) hs hg hn (by omega) (by omega) (by omega)
    simpa using this
  · have := unpaid_stay (p := p) (l := l) (ms := ms) (n := n) (j := j + 1) (e := s * n + g + s * j + 1) hs hg hn (by omega) (by rw [Int.natCast_add, show ((1 : Nat) : Int) = 1 from rfl, e1]; omega) (by rw [Int.natCast_add, show ((1 : Nat) : Int) = 1 from rfl, e1]; omega)
    rw [Int.natCast_add] at this
    exact this
theorem notY {c A B : Prop} [Decidable c] (hc : c) (h : B) : if (!decide c) = true then A else B := by
  rw [decide_eq_true hc]
  exact iteF h
theorem notN {c A B : Prop} [Decidable c] (hc : ¬ c) (h : A) : if (!decide c) = true then A else B := by
  rw [decide_eq_false hc]
  exact iteT h
/-! ### day by day: what is left to go of a row -/
def remT (p s g : Int) (l : Bool) (ms e : Int) (rest : List Int) (c : Cs) : Cs := passT s g ms (rest.foldl (stepT p s g l ms e) c) e
section
variable {p s g : Int} {l : Bool} {ms e : Int}
theorem step_over {c : Cs} {d : Int} (h : c.w ≠ .st) : stepT p s g l ms e c d = c := by
  unfold stepT
  split
  · rw [passT_over h, payT_over h]
  · rfl
theorem fold_over {c : Cs} (h : c.w ≠ .st) : ∀ ds : List Int, ds.foldl (stepT p s g l ms e) c = c
  | [] => rfl
  | d :: r => by rw [List.foldl_cons, step_over h, fold_over h r]
theorem rem_over {c : Cs} (h : c.w ≠ .st) (ds : List Int) : remT p s g l ms e ds c = c := by
  unfold remT
  rw [fold_over h, passT_over h]
theorem step_off {c : Cs} {d : Int} (h : ¬ d ≤ e) : stepT p s g l ms e c d = c := by
  unfold stepT
  rw [if_neg h]
theorem rem_cons {c : Cs} {d : Int} {r : List Int} : remT p s g l ms e (d :: r) c = remT p s g l ms e r (stepT p s g l ms e c d) := rfl
theorem rem_gone {D x pd : Int} (h1 : x + g < D) (h2 : D ≤ e) : ∀ rest : List Int, (∀ d ∈ rest, D ≤ d) → remT p s g l ms e rest ⟨.st, x, pd, ms⟩ = ⟨.go, x + g + 1, pd, ms⟩
  | [], _ => by
    show passN s g (ms - ms).toNat x pd ms e = _
    rw [Int.sub_self]
    exact passN_go (by omega)
  | d :: r, h => by
    have hd := h d List.mem_cons_self
    rw [rem_cons]
    by_cases c : d ≤ e
    · rw [step_on c]
      have ep : passT s g ms ⟨.st, x, pd, ms⟩ d = ⟨.go, x + g + 1, pd, ms⟩ := by
        show passN s g (ms - ms).toNat x pd ms d = _
        rw [Int.sub_self]
        exact passN_go (by omega)
      rw [ep]
      exact rem_over (by intro z; cases z) r
    · rw [step_off c]
      exact rem_gone h1 h2 r fun d' hd' => h d' (List.mem_cons_of_mem _ hd')
theorem pass_miss {D x pd m d : Int} (h1 : x + g < D) (h2 : D ≤ d) (hm : m < ms) : passT s g ms ⟨.st, x, pd, m⟩ d = passT s g ms ⟨.st, x + s, pd, m + 1⟩ d := by
  show passN s g (ms - m).toNat x pd m d = passN s g (ms - (m + 1)).toNat (x + s) pd (m + 1) d
  rw [show (ms - m).toNat = (ms - (m + 1)).toNat + 1 by omega]
  exact passN_on (by omega)
theorem rem_miss {D x pd m : Int} (h1 : x + g < D) (h2 : D ≤ e) (hm : m < ms) : ∀ rest : List Int, (∀ d ∈ rest, D ≤ d) → remT p s g l ms e rest ⟨.st, x, pd, m⟩ = remT p s g l ms e rest ⟨.st, x + s, pd, m + 1⟩
  | [], _ => pass_miss h1 h2 hm
  | d :: r, h => by
    have hd := h d List.mem_cons_self
    rw [rem_cons, rem_cons]
    by_cases c : d ≤ e
    · rw [step_on c, step_on c, pass_miss h1 hd hm]
    · rw [step_off c, step_off c]
      exact rem_miss h1 h2 hm r fun d' hd' => h d' (List.mem_cons_of_mem _ hd')
theorem rem_end {x pd m : Int} (h1 : e ≤ x + g) : ∀ rest : List Int, (∀ d ∈ rest, e < d) → remT p s g l ms e rest ⟨.st, x, pd, m⟩ = ⟨.st, x, pd, m⟩
  | [], _ => passN_st (by show ¬ x + g < e; omega)
  | d :: r, h => by
    have hd := h d List.mem_cons_self
    rw [rem_cons, step_off (by omega)]
    exact rem_end h1 r fun d' hd' => h d' (List.mem_cons_of_mem _ hd')
theorem rem_sold {D x pd m : Int} {r : List Int} (h1 : D ≤ x + g) (h2 : D ≤ e) (hp : pd + 1 = p) : remT p s g l ms e (D :: r) ⟨.st, x, pd, m⟩ = ⟨.so, D, pd + 1, m⟩ := by
  rw [rem_cons, step_on h2]
  have ep : passT s g ms ⟨.st, x, pd, m⟩ D = ⟨.st, x, pd, m⟩ := passN_st (by show ¬ x + g < D; omega)
  rw [ep, pay_so hp]
  exact rem_over (by intro z; cases z) r
theorem rem_paid {D x pd m : Int} {r : List Int} (h1 : D ≤ x + g) (h2 : D ≤ e) (hp : pd + 1 ≠ p) : remT p s g l ms e (D :: r) ⟨.st, x, pd, m⟩ = remT p s g l ms e r ⟨.st, (if l then D else x) + s, pd + 1, m⟩ := by
  rw [rem_cons, step_on h2]
  have ep : passT s g ms ⟨.st, x, pd, m⟩ D = ⟨.st, x, pd, m⟩ := passN_st (by show ¬ x + g < D; omega)
  rw [ep, pay_st hp]
end
abbrev Rise (ds : List Int) : Prop := ds.Pairwise (· ≤ ·)
theorem pickL {ns : List Int} {r : Int} (h0 : 0 ≤ r) (h1 : r < ns.length) : ∃ c, atI (ns.map V.int) r = some (.int c) ∧ c ∈ ns := by
  obtain ⟨j, rfl⟩ := Int.eq_ofNat_of_zero_le h0
  have hj : j < ns.length := by omega
  exact ⟨ns[j], atI_nat (by rw [List.getElem?_map, List.getElem?_eq_getElem hj]; rfl), List.getElem_mem hj⟩
theorem But.updNew {b D : Addr} {H G : Hp} {o : HO} (t : But b H G) (hD : H D = none) : But b H (L2.upd G D o) := fun c u n h => by
  rw [upd_ne (ne_of_none h hD)]
  exact t c u n h
def topS (i : Nat) : Stmt := PySem.Challenge.pw_partwares_k18_last_days_by_trying.main.body.getD i (.Pass ⟨0, 0, 0, 0⟩)
section
variable {P : Program} {w : World} {K : PySem.W.Frag} {mg : Str → Option Value} {base : Heap}
/-! ### is_number_in -/
abbrev s_is_number_in : Stmt := topS 16
abbrev N_is_number_in : List Str := ["thing", "low", "high"]
theorem sc_is_number_in : FnScope N_is_number_in ["thing", "low", "high"] (defScope s_is_number_in) := ⟨rfl, rfl, rfl, by decide +kernel, rfl, by decide +kernel, by decide +kernel⟩
def sp_is_number_in (K : PySem.W.Frag) : Sp := fun vs H Q _ => ∃ (x : V) (d : PyData) (lo hi : Int), vs = [x, .int lo, .int hi] ∧ Dp K H x d ∧ Q (.bl (numIn d lo hi)) H
theorem ok_is_number_in {f : Addr} {fd : FuncData} (F : Fun K "is_number_in" "is_number_in" s_is_number_in f fd) (g : mg "is_number_in" = some (.ref f)) (bd : Binds K fd ["thing", "low", "high"] []) (m_isinstance : mg "isinstance" = none) (m_bool : mg "bool" = none) (m_int : mg "int" = none) : CF P w K mg base 1 "is_number_in" ["thing", "low", "high"] (sp_is_number_in K) := by
  refine ⟨f, fd, F.ok sc_is_number_in (fun vs H Q E h => ?_) (fun cdv A outer s H vs Q E hr h => ?_), g, F.kp, bd⟩
  · first | (obtain ⟨_, rfl, _⟩ := h; rfl) | (obtain ⟨_, _, rfl, _⟩ := h; rfl) | (obtain ⟨_, _, _, rfl, _⟩ := h; rfl) | (obtain ⟨_, _, _, _, rfl, _⟩ := h; rfl) | (obtain ⟨_, _, _, _, _, rfl, _⟩ := h; rfl) | (obtain ⟨_, _, _, _, _, _, rfl, _⟩ := h; rfl) | (obtain ⟨_, _, _, _, _, _, _, rfl, _⟩ := h; rfl)
  · have hu64 := hr.units
    obtain ⟨x, d, lo, hi, rfl, hd, q⟩ := h
    refine ⟨_, (pss_one (ps_ret (pe_and (pe_callB (kk_isi K) (by rfl) m_isinstance (by decide +kernel) (pa_cons (pv 0) (pa_cons (pe_bltn (v := .ty "int") (by rfl) m_int (by decide +kernel) rfl) pa_nil))) (pe_and (pe_not (pe_callB (kk_isi K) (by rfl) m_isinstance (by decide +kernel) (pa_cons (pv 0) (pa_cons (pe_bltn (v := .ty "bool") (by rfl) m_bool (by decide +kernel) rfl) pa_nil)))) (pe_one (pe_chain op_le op_le (pv 1) (pv 0) (pv 2))))))), ?_⟩
    have k1 := kit_d (K := K) (T := "int") (by decide) d
    have k2 := kit_d (K := K) (T := "bool") (by decide) d
    have ty := ty_of_dp hd
    refine ⟨_, rfl, _, _, _, _, _, rfl, .ty _, ty, k1, _, rfl, ?_⟩
    cases hd with
    | int i =>
      refine iteT ⟨_, rfl, _, _, _, _, _, rfl, .ty _, ty, k2, _, rfl, _, rfl, iteT ⟨_, rfl, _, rfl, _, _, rfl, rfl, _, rfl, ?_⟩⟩
      have e : numIn (.int i) lo hi = (decide (lo ≤ i) && decide (i ≤ hi)) := rfl
      rw [e] at q
      by_cases h1 : lo ≤ i
      · rw [decide_eq_true h1] at q ⊢
        exact iteT ⟨_, rfl, _, _, rfl, rfl, q⟩
      · rw [decide_eq_false h1] at q ⊢
        exact iteF q
    | bl b => exact iteT ⟨_, rfl, _, _, _, _, _, rfl, .ty _, ty, k2, _, rfl, _, rfl, iteF q⟩
    | non => exact iteF q
    | str z => exact iteF q
    | lst a b => exact iteF q
    | tup a b => exact iteF q
/-! ### may_be_kept -/
abbrev s_may_be_kept : Stmt := topS 20
abbrev N_may_be_kept : List Str := ["keep", "parts", "percent"]
theorem sc_may_be_kept : FnScope N_may_be_kept ["keep", "parts"] (defScope s_may_be_kept) := ⟨rfl, rfl, rfl, by decide +kernel, rfl, by decide +kernel, by decide +kernel⟩
def sp_may_be_kept (K : PySem.W.Frag) : Sp := fun vs H Q _ => ∃ (x y : V) (d e : PyData), vs = [x, y] ∧ Dp K H x d ∧ Dp K H y e ∧ SeqAt.shaped e = true ∧ (∀ ds, d = .tuple ds → ds.length ≤ 1000) ∧ ∀ H', Same H H' → Q (.bl (keptOk d e)) H'
theorem ok_may_be_kept {f : Addr} {fd : FuncData} (F : Fun K "may_be_kept" "may_be_kept" s_may_be_kept f fd) (g : mg "may_be_kept" = some (.ref f)) (bd : Binds K fd ["keep", "parts"] []) (m_isinstance : mg "isinstance" = none) (m_tuple : mg "tuple" = none) (m_all : mg "all" = none) (m_len : mg "len" = none) (C_is_number_in : CF P w K mg base 1 "is_number_in" ["thing", "low", "high"] (sp_is_number_in K)) : CF P w K mg base 2 "may_be_kept" ["keep", "parts"] (sp_may_be_kept K) := by
  refine ⟨f, fd, F.ok sc_may_be_kept (fun vs H Q E h => ?_) (fun cdv A outer s H vs Q E hr h => ?_), g, F.kp, bd⟩
  · first | (obtain ⟨_, rfl, _⟩ := h; rfl) | (obtain ⟨_, _, rfl, _⟩ := h; rfl) | (obtain ⟨_, _, _, rfl, _⟩ := h; rfl) | (obtain ⟨_, _, _, _, rfl, _⟩ := h; rfl) | (obtain ⟨_, _, _, _, _, rfl, _⟩ := h; rfl) | (obtain ⟨_, _, _, _, _, _, rfl, _⟩ := h; rfl) | (obtain ⟨_, _, _, _, _, _, _, rfl, _⟩ := h; rfl)
  · have hu64 := hr.units
    obtain ⟨x, y, d, e, rfl, hd, he, sh, hz, q⟩ := h
    refine ⟨_, (pss_cons (ps_if (pt_not (pt_val (pe_callB (kk_isi K) (by rfl) m_isinstance (by decide +kernel) (pa_cons (pv 0) (pa_cons (pe_bltn (v := .ty "tuple") (by rfl) m_tuple (by decide +kernel) rfl) pa_nil)))))
         (pss_one (ps_ret (pe_cf C_is_number_in (hr.mono (by decide)) (by rfl) (pa_cons (pv 0) (pa_cons pe_int (pa_cons pe_int pa_nil))))))
         pss_nil)
      (pss_one (ps_ret (pe_and (pe_cmpR (kk_eqD K hu64) (pe_callB (kk_len K) (by rfl) m_len PySem.boot_len (pa_cons (pv 0) pa_nil)) (pv 1) (nomark _)) (pe_one (pe_callB (kk_all K rfl) (by rfl) m_all (by decide +kernel) (pa_cons (pe_lc (own := [("percent", 2)]) (g := (gName 2)) (tt := tYes) rfl sc_may_be_kept.nd (pi_tup (pv 0)) (blkOk_by (own := [("percent", 2)]) (N := N_may_be_kept) (sc := defScope s_may_be_kept) (by decide +kernel)) (fun _ _ _ _ _ => pg_name (i := 2) sc_may_be_kept.nd rfl (Or.inl rfl)) (fun _ _ _ _ _ => pts_nil) (fun _ _ _ _ _ => (pe_cf C_is_number_in (hr.mono (by decide)) (by rfl) (pa_cons (pv 2) (pa_cons pe_int (pa_cons pe_int pa_nil)))))) pa_nil))))))), ?_⟩
    have k1 := kit_d (K := K) (T := "tuple") (by decide) d
    have ty := ty_of_dp hd
    refine ⟨_, rfl, _, _, _, _, _, rfl, .ty _, ty, k1, _, rfl, ?_⟩
    have other : isK "tuple" d = false → keptOk d e = numIn d 0 100 := fun h => by
      cases d with
      | tuple ds => cases h
      | _ => rfl
    cases hd with
    | @tup a xs ds hS hA =>
      refine iteF ?_
      have hlen := dpAll_len hA
      have hl := hz ds rfl
      refine ⟨_, rfl, a, _, rfl, .inr hS, _, rfl, _, _, .int _, he, sh_int _, sh, _, rfl, ?_⟩
      have e2 : keptOk (.tuple ds) e = (PyData.eqv (.int (xs.length : Int)) e && ds.all fun d => numIn d 0 100) := by
        rw [hlen]
        rfl
      rw [e2] at q
      cases hq : PyData.eqv (.int (xs.length : Int)) e with
      | false =>
        rw [hq] at q
        exact iteF (q H (Same.refl H))
      | true =>
        rw [hq] at q
        refine iteT ⟨_, rfl, a, rfl, ⟨_, hS⟩, fun D hD => lc_tup (K := K) (a := a) (xs := xs) (fun i H' => Same H H' ∧ H' D = some (.lst (((ds.take i).map fun d => numIn d 0 100).map V.bl))) ⟨same_new hD, upd_same⟩ (fun i H' _ h => seqT_same h.1 hS) (fun i x H' hx h => ?_) (fun H' h => ?_)⟩
        · obtain ⟨d, hd1, hd2⟩ := dpAll_get hA hx
          have hi : i < ds.length := (List.getElem?_eq_some_iff.mp hd1).1
          refine ⟨rfl, _, rfl, x, d, 0, 100, rfl, dp_same h.1 hd2, _, h.2, ?_, ?_, ?_⟩
          · rw [List.length_map, List.length_map, List.length_take]
            exact small1000 (by omega)
          · exact fun c o e => by
              rw [upd_ne (ne_of_none e hD)]
              exact h.1 _ _ e
          · rw [upd_same, List.take_add_one, hd1, Option.toList_some, List.map_append, List.map_append]
            rfl
        · obtain ⟨s1, h1⟩ := h
          rw [hlen, List.take_of_length_le (Nat.le_refl _)] at h1
          refine ⟨D, _, rfl, SqL.of h1, ?_⟩
          have e3 : (ds.map fun d => numIn d 0 100).all id = ds.all fun d => numIn d 0 100 := by
            rw [List.all_map]
            rfl
          rw [e3]
          exact q _ s1
    | non => exact iteT ⟨_, rfl, _, _, 0, 100, rfl, .non, by rw [← other rfl]; exact q H (Same.refl H)⟩
    | bl b => exact iteT ⟨_, rfl, _, _, 0, 100, rfl, .bl b, by rw [← other rfl]; exact q H (Same.refl H)⟩
    | int i => exact iteT ⟨_, rfl, _, _, 0, 100, rfl, .int i, by rw [← other rfl]; exact q H (Same.refl H)⟩
    | str z => exact iteT ⟨_, rfl, _, _, 0, 100, rfl, .str z, by rw [← other rfl]; exact q H (Same.refl H)⟩
    | lst a b => exact iteT ⟨_, rfl, _, _, 0, 100, rfl, .lst a b, by rw [← other rfl]; exact q H (Same.refl H)⟩
/-! ### wrong_figure -/
abbrev s_wrong_figure : Stmt := topS 19
abbrev N_wrong_figure : List Str := ["parts", "step", "grace", "last", "misses", "keep", "fine", "falls", "back", "checks", "word", "right"]
theorem sc_wrong_figure : FnScope N_wrong_figure ["parts", "step", "grace", "last", "misses", "keep", "fine", "falls", "back"] (defScope s_wrong_figure) := ⟨rfl, rfl, rfl, by decide +kernel, rfl, by decide +kernel, by decide +kernel⟩
def figChecks (d1 d2 d3 d4 d5 d6 d7 d8 d9 : PyData) : List (Str × Bool) :=
  [(Str.ofString "parts", numIn d1 1 6), (Str.ofString "step", numIn d2 1 14), (Str.ofString "grace", numIn d3 0 7), (Str.ofString "last", isK "bool" d4), (Str.ofString "misses", numIn d5 0 2), (Str.ofString "keep", keptOk d6 d1), (Str.ofString "fine", numIn d7 0 100), (Str.ofString "falls", numIn d8 0 30), (Str.ofString "back", numIn d9 0 30)]
def sp_wrong_figure (K : PySem.W.Frag) : Sp := fun vs H Q _ => ∃ (x1 x2 x3 x4 x5 x6 x7 x8 x9 : V) (d1 d2 d3 d4 d5 d6 d7 d8 d9 : PyData), vs = [x1, x2, x3, x4, x5, x6, x7, x8, x9] ∧ (Dp K H x1 d1 ∧ Dp K H x2 d2 ∧ Dp K H x3 d3 ∧ Dp K H x4 d4 ∧ Dp K H x5 d5 ∧ Dp K H x6 d6 ∧ Dp K H x7 d7 ∧ Dp K H x8 d8 ∧ Dp K H x9 d9) ∧ SeqAt.shaped d1 = true ∧ (∀ ds, d6 = .tuple ds → ds.length ≤ 1000) ∧ ∀ H', Same H H' → Q (firstWrong (figChecks d1 d2 d3 d4 d5 d6 d7 d8 d9)) H'
theorem at9_of {HH : Hp} {t1 t2 t3 t4 t5 t6 t7 t8 t9 : Addr} {p1 p2 p3 p4 p5 p6 p7 p8 p9 : Str × Bool} (c1 : HH t1 = some (.tup [.str p1.1, .bl p1.2])) (c2 : HH t2 = some (.tup [.str p2.1, .bl p2.2])) (c3 : HH t3 = some (.tup [.str p3.1, .bl p3.2])) (c4 : HH t4 = some (.tup [.str p4.1, .bl p4.2])) (c5 : HH t5 = some (.tup [.str p5.1, .bl p5.2])) (c6 : HH t6 = some (.tup [.str p6.1, .bl p6.2])) (c7 : HH t7 = some (.tup [.str p7.1, .bl p7.2])) (c8 : HH t8 = some (.tup [.str p8.1, .bl p8.2])) (c9 : HH t9 = some (.tup [.str p9.1, .bl p9.2])) : ∀ (j : Nat) (t : Addr) (p : Str × Bool), [t1, t2, t3, t4, t5, t6, t7, t8, t9][j]? = some t → [p1, p2, p3, p4, p5, p6, p7, p8, p9][j]? = some p → HH t = some (.tup [.str p.1, .bl p.2]) := fun j t p ht hp => by
  match j, ht, hp with
  | 0, ht, hp => cases ht; cases hp; exact c1
  | 1, ht, hp => cases ht; cases hp; exact c2
  | 2, ht, hp => cases ht; cases hp; exact c3
  | 3, ht, hp => cases ht; cases hp; exact c4
  | 4, ht, hp => cases ht; cases hp; exact c5
  | 5, ht, hp => cases ht; cases hp; exact c6
  | 6, ht, hp => cases ht; cases hp; exact c7
  | 7, ht, hp => cases ht; cases hp; exact c8
  | 8, ht, hp => cases ht; cases hp; exact c9
  | n + 9, ht, hp => cases ht
theorem pick9 {ts : List Addr} {ws : List (Str × Bool)} {H : Hp} {i : Nat} {x : V} (hl : ts.length = ws.length) (h : ∀ (j : Nat) (t : Addr) (p : Str × Bool), ts[j]? = some t → ws[j]? = some p → H t = some (.tup [.str p.1, .bl p.2])) (hx : (ts.map V.ref)[i]? = some x) : ∃ t p, x = .ref t ∧ ws[i]? = some p ∧ H t = some (.tup [.str p.1, .bl p.2]) := by
  rw [List.getElem?_map] at hx
  obtain ⟨t, ht, rfl⟩ := Option.map_eq_some_iff.mp hx
  have hi : i < ws.length := by
    rw [← hl]
    exact (List.getElem?_eq_some_iff.mp ht).1
  exact ⟨t, ws[i], rfl, List.getElem?_eq_getElem hi, h i t _ ht (List.getElem?_eq_getElem hi)⟩
theorem ok_wrong_figure {f : Addr} {fd : FuncData} (F : Fun K "wrong_figure" "wrong_figure" s_wrong_figure f fd) (g : mg "wrong_figure" = some (.ref f)) (bd : Binds K fd ["parts", "step", "grace", "last", "misses", "keep", "fine", "falls", "back"] []) (m_isinstance : mg "isinstance" = none) (m_bool : mg "bool" = none) (C_is_number_in : CF P w K mg base 1 "is_number_in" ["thing", "low", "high"] (sp_is_number_in K)) (C_may_be_kept : CF P w K mg base 2 "may_be_kept" ["keep", "parts"] (sp_may_be_kept K)) : CF P w K mg base 3 "wrong_figure" ["parts", "step", "grace", "last", "misses", "keep", "fine", "falls", "back"] (sp_wrong_figure K) := by
  refine ⟨f, fd, F.ok sc_wrong_figure (fun vs H Q E h => ?_) (fun cdv A outer s H vs Q E hr h => ?_), g, F.kp, bd⟩
  · first | (obtain ⟨_, rfl, _⟩ := h; rfl) | (obtain ⟨_, _, rfl, _⟩ := h; rfl) | (obtain ⟨_, _, _, rfl, _⟩ := h; rfl) | (obtain ⟨_, _, _, _, rfl, _⟩ := h; rfl) | (obtain ⟨_, _, _, _, _, rfl, _⟩ := h; rfl) | (obtain ⟨_, _, _, _, _, _, rfl, _⟩ := h; rfl) | (obtain ⟨_, _, _, _, _, _, _, rfl, _⟩ := h; rfl) | (obtain ⟨_, _, _, _, _, _, _, _, rfl, _⟩ := h; rfl) | (obtain ⟨_, _, _, _, _, _, _, _, _, rfl, _⟩ := h; rfl) | (obtain ⟨_, _, _, _, _, _, _, _, _, _, rfl, _⟩ := h; rfl) | (obtain ⟨_, _, _, _, _, _, _, _, _, _, _, rfl, _⟩ := h; rfl) | (obtain ⟨_, _, _, _, _, _, _, _, _, _, _, _, rfl, _⟩ := h; rfl) | (obtain ⟨_, _, _, _, _, _, _, _, _, _, _, _, _, rfl, _⟩ := h; rfl) | (obtain ⟨_, _, _, _, _, _, _, _, _, _, _, _, _, _, rfl, _⟩ := h; rfl) | (obtain ⟨_, _, _, _, _, _, _, _, _, _, _, _, _, _, _, rfl, _⟩ := h; rfl) | (obtain ⟨_, _, _, _, _, _, _, _, _, _, _, _, _, _, _, _, rfl, _⟩ := h; rfl) | (obtain ⟨_, _, _, _, _, _, _, _, _, _, _, _, _, _, _, _, _, rfl, _⟩ := h; rfl) | (obtain ⟨_, _, _, _, _, _, _, _, _, _, _, _, _, _, _, _, _, _, rfl, _⟩ := h; rfl) | (obtain ⟨_, _, _, _, _, _, _, _, _, _, _, _, _, _, _, _, _, _, _, rfl, _⟩ := h; rfl) | (obtain ⟨_, _, _, _, _, _, _, _, _, _, _, _, _, _, _, _, _, _, _, _, rfl, _⟩ := h; rfl) | (obtain ⟨_, _, _, _, _, _, _, _, _, _, _, _, _, _, _, _, _, _, _, _, _, rfl, _⟩ := h; rfl) | (obtain ⟨_, _, _, _, _, _, _, _, _, _, _, _, _, _, _, _, _, _, _, _, _, _, rfl, _⟩ := h; rfl) | (obtain ⟨_, _, _, _, _, _, _, _, _, _, _, _, _, _, _, _, _, _, _, _, _, _, _, rfl, _⟩ := h; rfl)
  · have hu64 := hr.units
    obtain ⟨x1, x2, x3, x4, x5, x6, x7, x8, x9, d1, d2, d3, d4, d5, d6, d7, d8, d9, rfl, ⟨h1, h2, h3, h4, h5, h6, h7, h8, h9⟩, sh, hz, q⟩ := h
    refine ⟨_, (pss_cons (ps_set (i := 9) sc_wrong_figure.nd rfl (.inl rfl) (pe_lst (pa_cons (pe_tup (pa_cons pe_str (pa_cons (pe_cf C_is_number_in (hr.mono (by decide)) (by rfl) (pa_cons (pv 0) (pa_cons pe_int (pa_cons pe_int pa_nil)))) pa_nil))) (pa_cons (pe_tup (pa_cons pe_str (pa_cons (pe_cf C_is_number_in (hr.mono (by decide)) (by rfl) (pa_cons (pv 1) (pa_cons pe_int (pa_cons pe_int pa_nil)))) pa_nil))) (pa_cons (pe_tup (pa_cons pe_str (pa_cons (pe_cf C_is_number_in (hr.mono (by decide)) (by rfl) (pa_cons (pv 2) (pa_cons pe_int (pa_cons pe_int pa_nil)))) pa_nil))) (pa_cons (pe_tup (pa_cons pe_str (pa_cons (pe_callB (kk_isi K) (by rfl) m_isinstance (by decide +kernel) (pa_cons (pv 3) (pa_cons (pe_bltn (v := .ty "bool") (by rfl) m_bool (by decide +kernel) rfl) pa_nil))) pa_nil))) (pa_cons (pe_tup (pa_cons pe_str (pa_cons (pe_cf C_is_number_in (hr.mono (by decide)) (by rfl) (pa_cons (pv 4) (pa_cons pe_int (pa_cons pe_int pa_nil)))) pa_nil))) (pa_cons (pe_tup (pa_cons pe_str (pa_cons (pe_cf C_may_be_kept (hr.mono (by decide)) (by rfl) (pa_cons (pv 5) (pa_cons (pv 0) pa_nil))) pa_nil))) (pa_cons (pe_tup (pa_cons pe_str (pa_cons (pe_cf C_is_number_in (hr.mono (by decide)) (by rfl) (pa_cons (pv 6) (pa_cons pe_int (pa_cons pe_int pa_nil)))) pa_nil))) (pa_cons (pe_tup (pa_cons pe_str (pa_cons (pe_cf C_is_number_in (hr.mono (by decide)) (by rfl) (pa_cons (pv 7) (pa_cons pe_int (pa_cons pe_int pa_nil)))) pa_nil))) (pa_cons (pe_tup (pa_cons pe_str (pa_cons (pe_cf C_is_number_in (hr.mono (by decide)) (by rfl) (pa_cons (pv 8) (pa_cons pe_int (pa_cons pe_int pa_nil)))) pa_nil))) pa_nil)))))))))))
      (pss_cons (ps_for PassesOwn.never rfl (pi_list (pv 9)) (pg_tup (by rfl) (pgs_cons (pg_name (i := 10) sc_wrong_figure.nd rfl (.inl rfl)) (pgs_cons (pg_name (i := 11) sc_wrong_figure.nd rfl (.inl rfl)) pgs_nil)))
         (pss_one (ps_if (pt_not (pt_val (pv 11)))
             (pss_one (ps_ret (pv 10)))
             pss_nil)))
      (pss_one (ps_ret pe_non)))), ?_⟩
    have k4 := kit_d (K := K) (T := "bool") (by decide) d4
    refine ⟨_, rfl, x1, d1, 1, 6, rfl, h1, (by show 2 ≤ sizeLine; decide), fun t1 n1 => ?_⟩
    have s1 := same_new (o := .tup [.str (Str.ofString "parts"), .bl (numIn d1 1 6)]) n1
    refine ⟨_, rfl, x2, d2, 1, 14, rfl, dp_same s1 h2, (by show 2 ≤ sizeLine; decide), fun t2 n2 => ?_⟩
    have s2 := s1.trans (same_new (o := .tup [.str (Str.ofString "step"), .bl (numIn d2 1 14)]) n2)
    refine ⟨_, rfl, x3, d3, 0, 7, rfl, dp_same s2 h3, (by show 2 ≤ sizeLine; decide), fun t3 n3 => ?_⟩
    have s3 := s2.trans (same_new (o := .tup [.str (Str.ofString "grace"), .bl (numIn d3 0 7)]) n3)
    refine ⟨_, rfl, _, _, _, _, _, rfl, .ty _, ty_of_dp (dp_same s3 h4), k4, (by show 2 ≤ sizeLine; decide), fun t4 n4 => ?_⟩
    have s4 := s3.trans (same_new (o := .tup [.str (Str.ofString "last"), .bl (isK "bool" d4)]) n4)
    refine ⟨_, rfl, x5, d5, 0, 2, rfl, dp_same s4 h5, (by show 2 ≤ sizeLine; decide), fun t5 n5 => ?_⟩
    have s5 := s4.trans (same_new (o := .tup [.str (Str.ofString "misses"), .bl (numIn d5 0 2)]) n5)
    refine ⟨_, rfl, _, rfl, x6, x1, d6, d1, rfl, dp_same s5 h6, dp_same s5 h1, sh, hz, fun G g => ⟨(by show 2 ≤ sizeLine; decide), fun t6 n6 => ?_⟩⟩
    have s6 := (s5.trans g).trans (same_new (o := .tup [.str (Str.ofString "keep"), .bl (keptOk d6 d1)]) n6)
    refine ⟨_, rfl, x7, d7, 0, 100, rfl, dp_same s6 h7, (by show 2 ≤ sizeLine; decide), fun t7 n7 => ?_⟩
    have s7 := s6.trans (same_new (o := .tup [.str (Str.ofString "fine"), .bl (numIn d7 0 100)]) n7)
    refine ⟨_, rfl, x8, d8, 0, 30, rfl, dp_same s7 h8, (by show 2 ≤ sizeLine; decide), fun t8 n8 => ?_⟩
    have s8 := s7.trans (same_new (o := .tup [.str (Str.ofString "falls"), .bl (numIn d8 0 30)]) n8)
    refine ⟨_, rfl, x9, d9, 0, 30, rfl, dp_same s8 h9, (by show 2 ≤ sizeLine; decide), fun t9 n9 => ?_⟩
    have s9 := s8.trans (same_new (o := .tup [.str (Str.ofString "back"), .bl (numIn d9 0 30)]) n9)
    refine ⟨(by show 9 ≤ sizeLine; decide), fun L nL => ?_⟩
    have sL := same_new (o := .lst [.ref t1, .ref t2, .ref t3, .ref t4, .ref t5, .ref t6, .ref t7, .ref t8, .ref t9]) nL
    have c9 := sL _ _ (upd_same (a := t9) (o := .tup [.str (Str.ofString "back"), .bl (numIn d9 0 30)]))
    have m9 := (same_new (o := .tup [.str (Str.ofString "back"), .bl (numIn d9 0 30)]) n9).trans sL
    have c8 := m9 _ _ (upd_same (a := t8) (o := .tup [.str (Str.ofString "falls"), .bl (numIn d8 0 30)]))
    have m8 := (same_new (o := .tup [.str (Str.ofString "falls"), .bl (numIn d8 0 30)]) n8).trans m9
    have c7 := m8 _ _ (upd_same (a := t7) (o := .tup [.str (Str.ofString "fine"), .bl (numIn d7 0 100)]))
    have m7 := (same_new (o := .tup [.str (Str.ofString "fine"), .bl (numIn d7 0 100)]) n7).trans m8
    have c6 := m7 _ _ (upd_same (a := t6) (o := .tup [.str (Str.ofString "keep"), .bl (keptOk d6 d1)]))
    have m6 := (g.trans (same_new (o := .tup [.str (Str.ofString "keep"), .bl (keptOk d6 d1)]) n6)).trans m7
    have c5 := m6 _ _ (upd_same (a := t5) (o := .tup [.str (Str.ofString "misses"), .bl (numIn d5 0 2)]))
    have m5 := (same_new (o := .tup [.str (Str.ofString "misses"), .bl (numIn d5 0 2)]) n5).trans m6
    have c4 := m5 _ _ (upd_same (a := t4) (o := .tup [.str (Str.ofString "last"), .bl (isK "bool" d4)]))
    have m4 := (same_new (o := .tup [.str (Str.ofString "last"), .bl (isK "bool" d4)]) n4).trans m5
    have c3 := m4 _ _ (upd_same (a := t3) (o := .tup [.str (Str.ofString "grace"), .bl (numIn d3 0 7)]))
    have m3 := (same_new (o := .tup [.str (Str.ofString "grace"), .bl (numIn d3 0 7)]) n3).trans m4
    have c2 := m3 _ _ (upd_same (a := t2) (o := .tup [.str (Str.ofString "step"), .bl (numIn d2 1 14)]))
    have m2 := (same_new (o := .tup [.str (Str.ofString "step"), .bl (numIn d2 1 14)]) n2).trans m3
    have c1 := m2 _ _ (upd_same (a := t1) (o := .tup [.str (Str.ofString "parts"), .bl (numIn d1 1 6)]))
    have at9 := at9_of (p1 := (Str.ofString "parts", numIn d1 1 6)) (p2 := (Str.ofString "step", numIn d2 1 14)) (p3 := (Str.ofString "grace", numIn d3 0 7)) (p4 := (Str.ofString "last", isK "bool" d4)) (p5 := (Str.ofString "misses", numIn d5 0 2)) (p6 := (Str.ofString "keep", keptOk d6 d1)) (p7 := (Str.ofString "fine", numIn d7 0 100)) (p8 := (Str.ofString "falls", numIn d8 0 30)) (p9 := (Str.ofString "back", numIn d9 0 30)) c1 c2 c3 c4 c5 c6 c7 c8 c9
    have sAll := s9.trans sL
    refine ⟨_, rfl, L, rfl, ⟨_, SqL.of upd_same⟩, for_list (K := K) (a := L) (xs := [t1, t2, t3, t4, t5, t6, t7, t8, t9].map V.ref) (fun i σ H' => ∃ s10 s11, σ = [some x1, some x2, some x3, some x4, some x5, some x6, some x7, some x8, some x9, some (.ref L), s10, s11] ∧ Same H H' ∧ H' L = some (.lst [.ref t1, .ref t2, .ref t3, .ref t4, .ref t5, .ref t6, .ref t7, .ref t8, .ref t9]) ∧ (∀ (j : Nat) (t : Addr) (p : Str × Bool), [t1, t2, t3, t4, t5, t6, t7, t8, t9][j]? = some t → (figChecks d1 d2 d3 d4 d5 d6 d7 d8 d9)[j]? = some p → H' t = some (.tup [.str p.1, .bl p.2])) ∧ ∀ p ∈ (figChecks d1 d2 d3 d4 d5 d6 d7 d8 d9).take i, p.2 = true) ⟨_, _, rfl, sAll, upd_same, at9, fun p hp => (nomatch hp)⟩ (fun i σ H' _ h => by obtain ⟨_, _, _, _, h, _⟩ := h; exact SqL.of h) (fun i x σ H' hx h => ?_) (fun σ H' h => ?_)⟩
    · obtain ⟨s10, s11, rfl, sm, eL, hat, hall⟩ := h
      obtain ⟨t, p, rfl, hp, ht⟩ := pick9 (ws := figChecks d1 d2 d3 d4 d5 d6 d7 d8 d9) rfl hat hx
      refine ⟨t, _, rfl, .inl (.inl ht), rfl, _, _, rfl, _, _, rfl, rfl, ?_⟩
      obtain ⟨w', b⟩ := p
      cases b with
      | false =>
        refine ⟨_, rfl, _, rfl, iteT ⟨_, rfl, ?_⟩⟩
        rw [← firstWrong_at hall hp]
        exact q _ sm
      | true =>
        refine ⟨_, rfl, _, rfl, iteF ⟨_, _, rfl, sm, eL, hat, fun p' hp' => ?_⟩⟩
        rw [List.take_add_one, hp] at hp'
        rcases List.mem_append.mp hp' with z | z
        · exact hall p' z
        · rw [List.mem_singleton.mp z]
    · obtain ⟨s10, s11, rfl, sm, _, _, hall⟩ := h
      have hf : firstWrong (figChecks d1 d2 d3 d4 d5 d6 d7 d8 d9) = .non := firstWrong_none fun p hp => hall p hp
      rw [hf] at q
      exact q _ sm
/-! ### a rule in the heap -/
structure TRule (K : PySem.W.Frag) (mg : Str → Option Value) (C : Addr) : Prop where
  cl : Cls K C
  n1 : NoAttr K C "parts"
  n2 : NoAttr K C "step"
  n3 : NoAttr K C "grace"
  n4 : NoAttr K C "last"
  n5 : NoAttr K C "misses"
  n6 : NoAttr K C "keep"
  n7 : NoAttr K C "fine"
  n8 : NoAttr K C "falls"
  n9 : NoAttr K C "back"
def ruleF (p s g : Int) (l : Bool) (m : Int) (kt : Addr) (fi fa ba : Int) : List (Str × V) := [("parts", .int p), ("step", .int s), ("grace", .int g), ("last", .bl l), ("misses", .int m), ("keep", .ref kt), ("fine", .int fi), ("falls", .int fa), ("back", .int ba)]
theorem putF_new {f : Str} {v : V} : ∀ {fs : List (Str × V)}, (∀ q ∈ fs, q.1 ≠ f) → putF f v fs = fs ++ [(f, v)]
  | [], _ => rfl
  | (g, x) :: r, h => by
    show (if g = f then (g, v) :: r else (g, x) :: putF f v r) = _
    rw [if_neg (h (g, x) List.mem_cons_self), putF_new fun q hq => h q (List.mem_cons_of_mem _ hq)]
    rfl
theorem unlike9 : (["parts", "step", "grace", "last", "misses", "keep", "fine", "falls", "back"] : List Str).Nodup := by decide +kernel
theorem putF_len (f : Str) (v : V) : ∀ fs : List (Str × V), (putF f v fs).length ≤ fs.length + 1
  | [] => Nat.le_refl _
  | (g, x) :: r => by
    show (if g = f then (g, v) :: r else (g, x) :: putF f v r).length ≤ _
    have := putF_len f v r
    split
    · simp
    · rw [List.length_cons, List.length_cons]
      omega
theorem put_lt {f : Str} {v : V} {fs : List (Str × V)} {n : Nat} (h : fs.length ≤ n) : (putF f v fs).length ≤ n + 1 := Nat.le_trans (putF_len f v fs) (by omega)
theorem ruleF_eq (p s g : Int) (l : Bool) (m : Int) (kt : Addr) (fi fa ba : Int) : putF "back" (.int ba) (putF "falls" (.int fa) (putF "fine" (.int fi) (putF "keep" (.ref kt) (putF "misses" (.int m) (putF "last" (.bl l) (putF "grace" (.int g) (putF "step" (.int s) (putF "parts" (.int p) [])))))))) = ruleF p s g l m kt fi fa ba := by
  have nd := unlike9
  simp only [List.nodup_cons, List.mem_cons, List.not_mem_nil, or_false, not_or] at nd
  obtain ⟨⟨a1, a2, a3, a4, a5, a6, a7, a8⟩, ⟨b1, b2, b3, b4, b5, b6, b7⟩, ⟨c1, c2, c3, c4, c5, c6⟩, ⟨d1, d2, d3, d4, d5⟩, ⟨e1, e2, e3, e4⟩, ⟨f1, f2, f3⟩, ⟨g1, g2⟩, h1, _⟩ := nd
  simp only [putF, if_neg a1, if_neg a2, if_neg a3, if_neg a4, if_neg a5, if_neg a6, if_neg a7, if_neg a8, if_neg b1, if_neg b2, if_neg b3, if_neg b4, if_neg b5, if_neg b6, if_neg b7, if_neg c1, if_neg c2, if_neg c3, if_neg c4, if_neg c5, if_neg c6, if_neg d1, if_neg d2, if_neg d3, if_neg d4, if_neg d5, if_neg e1, if_neg e2, if_neg e3, if_neg e4, if_neg f1, if_neg f2, if_neg f3, if_neg g1, if_neg g2, if_neg h1]
  rfl
/-- what is kept as it is handed in: one number, or a tuple of as many as parts -/
inductive Keep (K : PySem.W.Frag) (H : Hp) (p : Int) (ks : List Int) : V → PyData → Prop where
  | one (k : Int) (h0 : 0 ≤ k) (h1 : k ≤ 100) (e : ks = List.replicate p.toNat k) : Keep K H p ks (.int k) (.int k)
  | all (a : Addr) (h : SqT K H a (ks.map V.int)) (hl : (ks.length : Int) = p) (hb : ∀ k ∈ ks, 0 ≤ k ∧ k ≤ 100) : Keep K H p ks (.ref a) (.tuple (ks.map PyData.int))
structure Figs (p s g m fi fa ba : Int) : Prop where
  p0 : 1 ≤ p
  p1 : p ≤ 6
  s0 : 1 ≤ s
  s1 : s ≤ 14
  g0 : 0 ≤ g
  g1 : g ≤ 7
  m0 : 0 ≤ m
  m1 : m ≤ 2
  fi0 : 0 ≤ fi
  fi1 : fi ≤ 100
  fa0 : 0 ≤ fa
  fa1 : fa ≤ 30
  ba0 : 0 ≤ ba
  ba1 : ba ≤ 30
theorem dpAll_intsT {K : PySem.W.Frag} {H : Hp} {a : Addr} {ns : List Int} (h : SqT K H a (ns.map V.int)) : Dp K H (.ref a) (.tuple (ns.map PyData.int)) := .tup h (dpAll_ints ns)
theorem Keep.dp {K : PySem.W.Frag} {H : Hp} {p : Int} {ks : List Int} {v : V} {d : PyData} (h : Keep K H p ks v d) : Dp K H v d := by
  cases h with
  | one k _ _ _ => exact .int k
  | all a h _ _ => exact dpAll_intsT h
theorem Keep.ok {K : PySem.W.Frag} {H : Hp} {p : Int} {ks : List Int} {v : V} {d : PyData} (h : Keep K H p ks v d) : keptOk d (.int p) = true := by
  cases h with
  | one k h0 h1 _ =>
    show (decide (0 ≤ k) && decide (k ≤ 100)) = true
    rw [decide_eq_true h0, decide_eq_true h1]
    rfl
  | all a _ hl hb =>
    show (PyData.eqv (.int (((ks.map PyData.int).length : Nat) : Int)) (.int p) && (ks.map PyData.int).all fun d => numIn d 0 100) = true
    rw [Bool.and_eq_true]
    refine ⟨?_, ?_⟩
    · rw [List.length_map, hl]
      simp [PyData.eqv]
    · rw [List.all_map, List.all_eq_true]
      intro k hk
      show (decide (0 ≤ k) && decide (k ≤ 100)) = true
      rw [decide_eq_true (hb k hk).1, decide_eq_true (hb k hk).2]
      rfl
theorem right_all {p s g m fi fa ba : Int} {l : Bool} {d6 : PyData} (F : Figs p s g m fi fa ba) (h6 : keptOk d6 (.int p) = true) : firstWrong (figChecks (.int p) (.int s) (.int g) (.bool l) (.int m) d6 (.int fi) (.int fa) (.int ba)) = .non := by
  refine firstWrong_none fun q hq => ?_
  have two : ∀ {i lo hi : Int}, lo ≤ i → i ≤ hi → numIn (.int i) lo hi = true := fun {i lo hi} a b => by
    show (decide (lo ≤ i) && decide (i ≤ hi)) = true
    rw [decide_eq_true a, decide_eq_true b]
    rfl
  unfold figChecks at hq
  simp only [List.mem_cons, List.not_mem_nil, or_false] at hq
  rcases hq with rfl | rfl | rfl | rfl | rfl | rfl | rfl | rfl | rfl
  · exact two F.p0 F.p1
  · exact two F.s0 F.s1
  · exact two F.g0 F.g1
  · rfl
  · exact two F.m0 F.m1
  · exact h6
  · exact two F.fi0 F.fi1
  · exact two F.fa0 F.fa1
  · exact two F.ba0 F.ba1
/-! ### Rule___init__ -/
abbrev s_Rule___init__ : Stmt := inClass (topS 18) 0
abbrev N_Rule___init__ : List Str := ["self", "parts", "step", "grace", "last", "misses", "keep", "fine", "falls", "back", "word"]
theorem sc_Rule___init__ : FnScope N_Rule___init__ ["self", "parts", "step", "grace", "last", "misses", "keep", "fine", "falls", "back"] (defScope s_Rule___init__) := ⟨rfl, rfl, rfl, by decide +kernel, rfl, by decide +kernel, by decide +kernel⟩
def sp_Rule___init__ (K : PySem.W.Frag) (C : Addr) : Sp := fun vs H Q _ => ∃ (x dx : Addr) (p s g : Int) (l : Bool) (m : Int) (kv : V) (kd : PyData) (ks : List Int) (fi fa ba : Int), vs = [.ref x, .int p, .int s, .int g, .bl l, .int m, kv, .int fi, .int fa, .int ba] ∧ H x = some (.ins C dx []) ∧ Figs p s g m fi fa ba ∧ Keep K H p ks kv kd ∧
  ∀ H' kt, But x H H' → H' x = some (.ins C dx (ruleF p s g l m kt fi fa ba)) → SqT K H' kt (ks.map V.int) → Q .non H'
theorem ok_Rule___init__ {f : Addr} {fd : FuncData} {CR : Addr} (T_Rule : TRule K mg CR) (m_isinstance : mg "isinstance" = none) (m_tuple : mg "tuple" = none) (C_wrong_figure : CF P w K mg base 3 "wrong_figure" ["parts", "step", "grace", "last", "misses", "keep", "fine", "falls", "back"] (sp_wrong_figure K)) (F : FunD K "__init__" "Rule.__init__" (defArgs s_Rule___init__) (defBody s_Rule___init__) (defScope s_Rule___init__) [.int 0, .bl false, .int 0, .int 0, .int 0, .int 0, .int 0] [] f fd) : FnOk P w K mg base CX0 4 f fd ["self", "parts", "step", "grace", "last", "misses", "keep", "fine", "falls", "back"] (sp_Rule___init__ K CR) := by
  refine okD F sc_Rule___init__ (fun vs H Q E h => ?_) (fun cdv A outer s H vs Q E hr h => ?_)
  · first | (obtain ⟨_, rfl, _⟩ := h; rfl) | (obtain ⟨_, _, rfl, _⟩ := h; rfl) | (obtain ⟨_, _, _, rfl, _⟩ := h; rfl) | (obtain ⟨_, _, _, _, rfl, _⟩ := h; rfl) | (obtain ⟨_, _, _, _, _, rfl, _⟩ := h; rfl) | (obtain ⟨_, _, _, _, _, _, rfl, _⟩ := h; rfl) | (obtain ⟨_, _, _, _, _, _, _, rfl, _⟩ := h; rfl) | (obtain ⟨_, _, _, _, _, _, _, _, rfl, _⟩ := h; rfl) | (obtain ⟨_, _, _, _, _, _, _, _, _, rfl, _⟩ := h; rfl) | (obtain ⟨_, _, _, _, _, _, _, _, _, _, rfl, _⟩ := h; rfl) | (obtain ⟨_, _, _, _, _, _, _, _, _, _, _, rfl, _⟩ := h; rfl) | (obtain ⟨_, _, _, _, _, _, _, _, _, _, _, _, rfl, _⟩ := h; rfl) | (obtain ⟨_, _, _, _, _, _, _, _, _, _, _, _, _, rfl, _⟩ := h; rfl) | (obtain ⟨_, _, _, _, _, _, _, _, _, _, _, _, _, _, rfl, _⟩ := h; rfl) | (obtain ⟨_, _, _, _, _, _, _, _, _, _, _, _, _, _, _, rfl, _⟩ := h; rfl) | (obtain ⟨_, _, _, _, _, _, _, _, _, _, _, _, _, _, _, _, rfl, _⟩ := h; rfl) | (obtain ⟨_, _, _, _, _, _, _, _, _, _, _, _, _, _, _, _, _, rfl, _⟩ := h; rfl) | (obtain ⟨_, _, _, _, _, _, _, _, _, _, _, _, _, _, _, _, _, _, rfl, _⟩ := h; rfl) | (obtain ⟨_, _, _, _, _, _, _, _, _, _, _, _, _, _, _, _, _, _, _, rfl, _⟩ := h; rfl) | (obtain ⟨_, _, _, _, _, _, _, _, _, _, _, _, _, _, _, _, _, _, _, _, rfl, _⟩ := h; rfl) | (obtain ⟨_, _, _, _, _, _, _, _, _, _, _, _, _, _, _, _, _, _, _, _, _, rfl, _⟩ := h; rfl) | (obtain ⟨_, _, _, _, _, _, _, _, _, _, _, _, _, _, _, _, _, _, _, _, _, _, rfl, _⟩ := h; rfl) | (obtain ⟨_, _, _, _, _, _, _, _, _, _, _, _, _, _, _, _, _, _, _, _, _, _, _, rfl, _⟩ := h; rfl)
  · have hu64 := hr.units
    obtain ⟨x, dx, p, s', g, l, m, kv, kd, ks, fi, fa, ba, rfl, hx, F, hk, q⟩ := h
    refine ⟨_, (pss_cons (ps_set (i := 10) sc_Rule___init__.nd rfl (.inl rfl) (pe_cf C_wrong_figure (hr.mono (by decide)) (by rfl) (pa_cons (pv 1) (pa_cons (pv 2) (pa_cons (pv 3) (pa_cons (pv 4) (pa_cons (pv 5) (pa_cons (pv 6) (pa_cons (pv 7) (pa_cons (pv 8) (pa_cons (pv 9) pa_nil)))))))))))
      (pss_cons (ps_if (pt_cmpR op_notN (pv 10) pe_non (nomark _))
         (pss_one ps_never)
         pss_nil)
      (pss_cons (ps_fld (pv 0) (pv 1) rfl)
      (pss_cons (ps_fld (pv 0) (pv 2) rfl)
      (pss_cons (ps_fld (pv 0) (pv 3) rfl)
      (pss_cons (ps_fld (pv 0) (pv 4) rfl)
      (pss_cons (ps_fld (pv 0) (pv 5) rfl)
      (pss_cons (ps_fld (pv 0) (pe_ifExp (pt_val (pe_callB (kk_isi K) (by rfl) m_isinstance (by decide +kernel) (pa_cons (pv 6) (pa_cons (pe_bltn (v := .ty "tuple") (by rfl) m_tuple (by decide +kernel) rfl) pa_nil)))) (pv 6) (pe_op (kk_repA K) (pe_tup (pa_cons (pv 6) pa_nil)) (pv 1))) rfl)
      (pss_cons (ps_fld (pv 0) (pv 7) rfl)
      (pss_cons (ps_fld (pv 0) (pv 8) rfl)
      (pss_one (ps_fld (pv 0) (pv 9) rfl)))))))))))), ?_⟩
    have hz : ∀ ds, kd = .tuple ds → ds.length ≤ 1000 := fun ds e => by
      cases hk with
      | one k _ _ _ => cases e
      | all a h hl hb =>
        cases e
        rw [List.length_map]
        have := F.p1
        omega
    refine ⟨_, rfl, _, rfl, _, rfl, _, rfl, _, rfl, _, rfl, _, rfl, _, rfl, _, rfl, _, _, _, _, _, _, _, _, _, .int p, .int s', .int g, .bool l, .int m, kd, .int fi, .int fa, .int ba, rfl, ⟨.int _, .int _, .int _, .bl _, .int _, hk.dp, .int _, .int _, .int _⟩, sh_int _, hz, fun H1 s1 => ?_⟩
    rw [right_all F hk.ok]
    refine ⟨_, rfl, rfl, _, rfl, iteF ?_⟩
    refine ⟨_, rfl, _, rfl, x, CR, dx, _, rfl, s1 _ _ hx, T_Rule.cl, T_Rule.n1, by decide, ?_⟩
    refine ⟨_, rfl, _, rfl, x, CR, dx, _, rfl, upd_same, T_Rule.cl, T_Rule.n2, Nat.lt_of_le_of_lt (put_lt (Nat.le_refl 0)) (by decide), ?_⟩
    refine ⟨_, rfl, _, rfl, x, CR, dx, _, rfl, upd_same, T_Rule.cl, T_Rule.n3, Nat.lt_of_le_of_lt (put_lt (put_lt (Nat.le_refl 0))) (by decide), ?_⟩
    refine ⟨_, rfl, _, rfl, x, CR, dx, _, rfl, upd_same, T_Rule.cl, T_Rule.n4, Nat.lt_of_le_of_lt (put_lt (put_lt (put_lt (Nat.le_refl 0)))) (by decide), ?_⟩
    refine ⟨_, rfl, _, rfl, x, CR, dx, _, rfl, upd_same, T_Rule.cl, T_Rule.n5, Nat.lt_of_le_of_lt (put_lt (put_lt (put_lt (put_lt (Nat.le_refl 0))))) (by decide), ?_⟩
    have b5 : But x H (upd (upd (upd (upd (upd H1 x (.ins CR dx (putF "parts" (.int p) []))) x (.ins CR dx (putF "step" (.int s') (putF "parts" (.int p) [])))) x (.ins CR dx (putF "grace" (.int g) (putF "step" (.int s') (putF "parts" (.int p) []))))) x (.ins CR dx (putF "last" (.bl l) (putF "grace" (.int g) (putF "step" (.int s') (putF "parts" (.int p) [])))))) x (.ins CR dx (putF "misses" (.int m) (putF "last" (.bl l) (putF "grace" (.int g) (putF "step" (.int s') (putF "parts" (.int p) []))))))) := (((((But.of s1).trans But.upd).trans But.upd).trans But.upd).trans But.upd).trans But.upd
    have e5 := upd_same (H := (upd (upd (upd (upd H1 x (.ins CR dx (putF "parts" (.int p) []))) x (.ins CR dx (putF "step" (.int s') (putF "parts" (.int p) [])))) x (.ins CR dx (putF "grace" (.int g) (putF "step" (.int s') (putF "parts" (.int p) []))))) x (.ins CR dx (putF "last" (.bl l) (putF "grace" (.int g) (putF "step" (.int s') (putF "parts" (.int p) []))))))) (a := x) (o := .ins CR dx (putF "misses" (.int m) (putF "last" (.bl l) (putF "grace" (.int g) (putF "step" (.int s') (putF "parts" (.int p) []))))))
    cases hk with
    | all a hA hl hb =>
      have hax : ∀ {G : Hp}, But x H G → SqT K G a (ks.map V.int) := fun t => by
        rcases hA with (h | ⟨o, h⟩) | h
        · exact .inl (.inl (t _ _ (ne_of h hx (by intro z; cases z)) h))
        · exact .inl (.inr ⟨o, t _ _ (ne_of h hx (by intro z; cases z)) h⟩)
        · exact .inr h
      refine ⟨_, rfl, _, _, _, _, true, rfl, .ty _, ty_of_dp (dpAll_intsT (hax b5)), kit_ty (a := "tuple") (by decide +kernel), _, rfl, iteT ⟨_, rfl, ?_⟩⟩
      refine ⟨_, rfl, x, CR, dx, _, rfl, e5, T_Rule.cl, T_Rule.n6, Nat.lt_of_le_of_lt (put_lt (put_lt (put_lt (put_lt (put_lt (Nat.le_refl 0)))))) (by decide), ?_⟩
      refine ⟨_, rfl, _, rfl, x, CR, dx, _, rfl, upd_same, T_Rule.cl, T_Rule.n7, Nat.lt_of_le_of_lt (put_lt (put_lt (put_lt (put_lt (put_lt (put_lt (Nat.le_refl 0))))))) (by decide), ?_⟩
      refine ⟨_, rfl, _, rfl, x, CR, dx, _, rfl, upd_same, T_Rule.cl, T_Rule.n8, Nat.lt_of_le_of_lt (put_lt (put_lt (put_lt (put_lt (put_lt (put_lt (put_lt (Nat.le_refl 0)))))))) (by decide), ?_⟩
      refine ⟨_, rfl, _, rfl, x, CR, dx, _, rfl, upd_same, T_Rule.cl, T_Rule.n9, Nat.lt_of_le_of_lt (put_lt (put_lt (put_lt (put_lt (put_lt (put_lt (put_lt (put_lt (Nat.le_refl 0))))))))) (by decide), ?_⟩
      refine q _ a ((((b5.trans But.upd).trans But.upd).trans But.upd).trans But.upd) (by rw [upd_same, ruleF_eq]) (hax ((((b5.trans But.upd).trans But.upd).trans But.upd).trans But.upd))
    | one k h0 h1 ek =>
      refine ⟨_, rfl, _, _, _, _, false, rfl, .ty _, .base (.int k), kit_ty (by decide +kernel), _, rfl, iteF ⟨_, rfl, (by show 1 ≤ sizeLine; decide), fun t ht => ⟨_, rfl, ?_⟩⟩⟩
      have nt : t ≠ x := (ne_of_none e5 ht).symm
      by_cases hp1 : p = 1
      · subst hp1
        refine .inr ⟨t, [.int k], rfl, rfl, SqT.of upd_same, by simp, ?_⟩
        have ek2 : ks = [k] := ek
        refine ⟨_, rfl, x, CR, dx, _, rfl, (by rw [upd_ne nt.symm]; exact e5), T_Rule.cl, T_Rule.n6, Nat.lt_of_le_of_lt (put_lt (put_lt (put_lt (put_lt (put_lt (Nat.le_refl 0)))))) (by decide), ?_⟩
        refine ⟨_, rfl, _, rfl, x, CR, dx, _, rfl, upd_same, T_Rule.cl, T_Rule.n7, Nat.lt_of_le_of_lt (put_lt (put_lt (put_lt (put_lt (put_lt (put_lt (Nat.le_refl 0))))))) (by decide), ?_⟩
        refine ⟨_, rfl, _, rfl, x, CR, dx, _, rfl, upd_same, T_Rule.cl, T_Rule.n8, Nat.lt_of_le_of_lt (put_lt (put_lt (put_lt (put_lt (put_lt (put_lt (put_lt (Nat.le_refl 0)))))))) (by decide), ?_⟩
        refine ⟨_, rfl, _, rfl, x, CR, dx, _, rfl, upd_same, T_Rule.cl, T_Rule.n9, Nat.lt_of_le_of_lt (put_lt (put_lt (put_lt (put_lt (put_lt (put_lt (put_lt (put_lt (Nat.le_refl 0))))))))) (by decide), ?_⟩
        refine q _ t ((((b5.trans (But.new ht)).trans But.upd).trans But.upd).trans But.upd |>.trans But.upd) (by rw [upd_same, ruleF_eq]) (by rw [ek2]; exact SqT.of (by rw [upd_ne nt, upd_ne nt, upd_ne nt, upd_ne nt, upd_same]; rfl))
      · have hp2 : 2 ≤ p := by have := F.p0; omega
        have hp6 : p ≤ 1000 := by have := F.p1; omega
        refine .inl ⟨t, p, [.int k], rfl, rfl, SqT.of upd_same, by simp, hp2, hp6, (by show 1 ≤ 1000; decide), fun t2 ht2 => ?_⟩
        have e6 : (upd (upd (upd (upd (upd (upd H1 x (.ins CR dx (putF "parts" (.int p) []))) x (.ins CR dx (putF "step" (.int s') (putF "parts" (.int p) [])))) x (.ins CR dx (putF "grace" (.int g) (putF "step" (.int s') (putF "parts" (.int p) []))))) x (.ins CR dx (putF "last" (.bl l) (putF "grace" (.int g) (putF "step" (.int s') (putF "parts" (.int p) [])))))) x (.ins CR dx (putF "misses" (.int m) (putF "last" (.bl l) (putF "grace" (.int g) (putF "step" (.int s') (putF "parts" (.int p) []))))))) t (.tup [.int k])) x = _ := (upd_ne nt.symm).trans e5
        have nt2 : t2 ≠ x := (ne_of_none e6 ht2).symm
        refine ⟨_, rfl, x, CR, dx, _, rfl, (by rw [upd_ne nt2.symm]; exact e6), T_Rule.cl, T_Rule.n6, Nat.lt_of_le_of_lt (put_lt (put_lt (put_lt (put_lt (put_lt (Nat.le_refl 0)))))) (by decide), ?_⟩
        refine ⟨_, rfl, _, rfl, x, CR, dx, _, rfl, upd_same, T_Rule.cl, T_Rule.n7, Nat.lt_of_le_of_lt (put_lt (put_lt (put_lt (put_lt (put_lt (put_lt (Nat.le_refl 0))))))) (by decide), ?_⟩
        refine ⟨_, rfl, _, rfl, x, CR, dx, _, rfl, upd_same, T_Rule.cl, T_Rule.n8, Nat.lt_of_le_of_lt (put_lt (put_lt (put_lt (put_lt (put_lt (put_lt (put_lt (Nat.le_refl 0)))))))) (by decide), ?_⟩
        refine ⟨_, rfl, _, rfl, x, CR, dx, _, rfl, upd_same, T_Rule.cl, T_Rule.n9, Nat.lt_of_le_of_lt (put_lt (put_lt (put_lt (put_lt (put_lt (put_lt (put_lt (put_lt (Nat.le_refl 0))))))))) (by decide), ?_⟩
        refine q _ t2 ((((b5.trans (But.new ht)).trans (But.new ht2)).trans But.upd).trans But.upd |>.trans But.upd |>.trans But.upd) (by rw [upd_same, ruleF_eq]) (SqT.of (by rw [upd_ne nt2, upd_ne nt2, upd_ne nt2, upd_ne nt2, upd_same, ek, rep1, List.map_replicate]))
structure Fg where
  p : Int
  s : Int
  g : Int
  l : Bool
  m : Int
  ks : List Int
  fi : Int
  fa : Int
  ba : Int
structure Fg.Ok (f : Fg) : Prop where
  figs : Figs f.p f.s f.g f.m f.fi f.fa f.ba
  len : (f.ks.length : Int) = f.p
  bnd : ∀ k ∈ f.ks, 0 ≤ k ∧ k ≤ 100
def RuleAt (K : PySem.W.Frag) (H : Hp) (C r : Addr) (f : Fg) : Prop := ∃ dx kt, H r = some (.ins C dx (ruleF f.p f.s f.g f.l f.m kt f.fi f.fa f.ba)) ∧ SqT K H kt (f.ks.map V.int)
theorem RuleAt.same {K : PySem.W.Frag} {H H' : Hp} {C r : Addr} {f : Fg} (h : RuleAt K H C r f) (e : Same H H') : RuleAt K H' C r f := by
  obtain ⟨dx, kt, h1, h2⟩ := h
  exact ⟨dx, kt, e _ _ h1, seqT_same e h2⟩
section
variable {p s g : Int} {l : Bool} {m : Int} {kt : Addr} {fi fa ba : Int}
theorem lk_ne {x y : Str} {v : V} {r : List (Str × V)} (h : x ≠ y) : List.lookup x ((y, v) :: r) = List.lookup x r := by
  rw [List.lookup_cons, beq_false_of_ne h]
theorem lk_eq {x : Str} {v : V} {r : List (Str × V)} : List.lookup x ((x, v) :: r) = some v := by
  rw [List.lookup_cons, beq_self_eq_true]
theorem lk1 : (ruleF p s g l m kt fi fa ba).lookup ("parts" : Str) = some (V.int p) := lk_eq
theorem lk2 : (ruleF p s g l m kt fi fa ba).lookup ("step" : Str) = some (V.int s) := by
  unfold ruleF
  rw [lk_ne (by decide +kernel), lk_eq]
theorem lk3 : (ruleF p s g l m kt fi fa ba).lookup ("grace" : Str) = some (V.int g) := by
  unfold ruleF
  rw [lk_ne (by decide +kernel), lk_ne (by decide +kernel), lk_eq]
theorem lk4 : (ruleF p s g l m kt fi fa ba).lookup ("last" : Str) = some (V.bl l) := by
  unfold ruleF
  rw [lk_ne (by decide +kernel), lk_ne (by decide +kernel), lk_ne (by decide +kernel), lk_eq]
theorem lk5 : (ruleF p s g l m kt fi fa ba).lookup ("misses" : Str) = some (V.int m) := by
  unfold ruleF
  rw [lk_ne (by decide +kernel), lk_ne (by decide +kernel), lk_ne (by decide +kernel), lk_ne (by decide +kernel), lk_eq]
theorem lk6 : (ruleF p s g l m kt fi fa ba).lookup ("keep" : Str) = some (V.ref kt) := by
  unfold ruleF
  rw [lk_ne (by decide +kernel), lk_ne (by decide +kernel), lk_ne (by decide +kernel), lk_ne (by decide +kernel), lk_ne (by decide +kernel), lk_eq]
theorem lk7 : (ruleF p s g l m kt fi fa ba).lookup ("fine" : Str) = some (V.int fi) := by
  unfold ruleF
  rw [lk_ne (by decide +kernel), lk_ne (by decide +kernel), lk_ne (by decide +kernel), lk_ne (by decide +kernel), lk_ne (by decide +kernel), lk_ne (by decide +kernel), lk_eq]
theorem lk8 : (ruleF p s g l m kt fi fa ba).lookup ("falls" : Str) = some (V.int fa) := by
  unfold ruleF
  rw [lk_ne (by decide +kernel), lk_ne (by decide +kernel), lk_ne (by decide +kernel), lk_ne (by decide +kernel), lk_ne (by decide +kernel), lk_ne (by decide +kernel), lk_ne (by decide +kernel), lk_eq]
theorem lk9 : (ruleF p s g l m kt fi fa ba).lookup ("back" : Str) = some (V.int ba) := by
  unfold ruleF
  rw [lk_ne (by decide +kernel), lk_ne (by decide +kernel), lk_ne (by decide +kernel), lk_ne (by decide +kernel), lk_ne (by decide +kernel), lk_ne (by decide +kernel), lk_ne (by decide +kernel), lk_ne (by decide +kernel), lk_eq]
theorem lk0 {x : Str} (h : x ∉ (["parts", "step", "grace", "last", "misses", "keep", "fine", "falls", "back"] : List Str)) : (ruleF p s g l m kt fi fa ba).lookup x = none := by
  simp only [List.mem_cons, List.not_mem_nil, or_false, not_or] at h
  obtain ⟨h1, h2, h3, h4, h5, h6, h7, h8, h9⟩ := h
  unfold ruleF
  rw [lk_ne h1, lk_ne h2, lk_ne h3, lk_ne h4, lk_ne h5, lk_ne h6, lk_ne h7, lk_ne h8, lk_ne h9]
  rfl
end
def keptV (f : Fg) (k : Int) (gone : Bool) : Int := if gone then (if k + f.fi < 100 then k + f.fi else 100) else k
/-! ### Rule___len__ -/
abbrev s_Rule___len__ : Stmt := inClass (topS 18) 4
abbrev N_Rule___len__ : List Str := ["self"]
theorem sc_Rule___len__ : FnScope N_Rule___len__ ["self"] (defScope s_Rule___len__) := ⟨rfl, rfl, rfl, by decide +kernel, rfl, by decide +kernel, by decide +kernel⟩
def sp_Rule___len__ (K : PySem.W.Frag) (C : Addr) : Sp := fun vs H Q _ => ∃ (r : Addr) (f : Fg), vs = [.ref r] ∧ RuleAt K H C r f ∧ Q (.int f.ks.length) H
theorem ok_Rule___len__ {f : Addr} {fd : FuncData} {CR : Addr} (T_Rule : TRule K mg CR) (m_len : mg "len" = none) (F : FunD K "__len__" "Rule.__len__" (defArgs s_Rule___len__) (defBody s_Rule___len__) (defScope s_Rule___len__) [] [] f fd) : FnOk P w K mg base CX0 1 f fd ["self"] (sp_Rule___len__ K CR) := by
  refine okD F sc_Rule___len__ (fun vs H Q E h => ?_) (fun cdv A outer s H vs Q E hr h => ?_)
  · first | (obtain ⟨_, rfl, _⟩ := h; rfl) | (obtain ⟨_, _, rfl, _⟩ := h; rfl) | (obtain ⟨_, _, _, rfl, _⟩ := h; rfl) | (obtain ⟨_, _, _, _, rfl, _⟩ := h; rfl) | (obtain ⟨_, _, _, _, _, rfl, _⟩ := h; rfl) | (obtain ⟨_, _, _, _, _, _, rfl, _⟩ := h; rfl) | (obtain ⟨_, _, _, _, _, _, _, rfl, _⟩ := h; rfl)
  · have hu64 := hr.units
    obtain ⟨r, f', rfl, ⟨dx, kt, h1, h2⟩, q⟩ := h
    refine ⟨_, (pss_one (ps_ret (pe_callB (kk_len K) (by rfl) m_len PySem.boot_len (pa_cons (pe_fld (pv 0) rfl) pa_nil)))), ?_⟩
    refine ⟨_, rfl, r, CR, dx, _, _, rfl, h1, T_Rule.cl, T_Rule.n6, lk6, kt, _, rfl, .inr h2, ?_⟩
    rw [List.length_map]
    exact q
/-! ### passed_to -/
abbrev s_passed_to : Stmt := topS 4
abbrev N_passed_to : List Str := ["rule", "state", "day", "word", "due", "paid", "missed"]
theorem sc_passed_to : FnScope N_passed_to ["rule", "state", "day"] (defScope s_passed_to) := ⟨rfl, rfl, rfl, by decide +kernel, rfl, by decide +kernel, by decide +kernel⟩
def sp_passed_to (K : PySem.W.Frag) (C : Addr) : Sp := fun vs H Q _ => ∃ (r a : Addr) (day : Int) (f : Fg) (c : Cs), vs = [.ref r, .ref a, .int day] ∧ RuleAt K H C r f ∧ StAt K H a c ∧ c.m ≤ f.m ∧ ∀ H' b, Same H H' → StAt K H' b (passT f.s f.g f.m c day) → Q (.ref b) H'
theorem ok_passed_to {f : Addr} {fd : FuncData} (F : Fun K "passed_to" "passed_to" s_passed_to f fd) (g : mg "passed_to" = some (.ref f)) (bd : Binds K fd ["rule", "state", "day"] []) {CR : Addr} (T_Rule : TRule K mg CR) : CF P w K mg base 1 "passed_to" ["rule", "state", "day"] (sp_passed_to K CR) := by
  refine ⟨f, fd, F.ok sc_passed_to (fun vs H Q E h => ?_) (fun cdv A outer s H vs Q E hr h => ?_), g, F.kp, bd⟩
  · first | (obtain ⟨_, rfl, _⟩ := h; rfl) | (obtain ⟨_, _, rfl, _⟩ := h; rfl) | (obtain ⟨_, _, _, rfl, _⟩ := h; rfl) | (obtain ⟨_, _, _, _, rfl, _⟩ := h; rfl) | (obtain ⟨_, _, _, _, _, rfl, _⟩ := h; rfl) | (obtain ⟨_, _, _, _, _, _, rfl, _⟩ := h; rfl) | (obtain ⟨_, _, _, _, _, _, _, rfl, _⟩ := h; rfl)
  · have hu64 := hr.units
    obtain ⟨r, a, day, f', c, rfl, hR, hc, hm, q⟩ := h
    refine ⟨_, (pss_cons (ps_asg (pv 1) (pg_tup (by rfl) (pgs_cons (pg_name (i := 3) sc_passed_to.nd rfl (.inl rfl)) (pgs_cons (pg_name (i := 4) sc_passed_to.nd rfl (.inl rfl)) (pgs_cons (pg_name (i := 5) sc_passed_to.nd rfl (.inl rfl)) (pgs_cons (pg_name (i := 6) sc_passed_to.nd rfl (.inl rfl)) pgs_nil))))))
      (pss_cons (ps_if (pt_cmpR op_ne (pv 3) pe_str (nomark _))
         (pss_one (ps_ret (pv 1)))
         pss_nil)
      (pss_cons (ps_while PassesOwn.never (pt_cmpR op_lt (pe_op op_add (pv 4) (pe_fld (pv 0) rfl)) (pv 2) (nomark _))
         (pss_cons (ps_if (pt_cmpR op_eq (pv 6) (pe_fld (pv 0) rfl) (nomark _))
             (pss_one (ps_ret (pe_tup (pa_cons pe_str (pa_cons (pe_op op_add (pe_op op_add (pv 4) (pe_fld (pv 0) rfl)) pe_int) (pa_cons (pv 5) (pa_cons (pv 6) pa_nil)))))))
             pss_nil)
          (pss_cons (ps_aug (i := 6) sc_passed_to.nd rfl (.inl rfl) pe_int ip_add)
          (pss_one (ps_aug (i := 4) sc_passed_to.nd rfl (.inl rfl) (pe_fld (pv 0) rfl) ip_add)))))
      (pss_one (ps_ret (pe_tup (pa_cons pe_str (pa_cons (pv 4) (pa_cons (pv 5) (pa_cons (pv 6) pa_nil)))))))))), ?_⟩
    obtain ⟨dx, kt, h1, h2⟩ := id hR
    refine ⟨_, rfl, a, _, rfl, hc, rfl, _, _, rfl, _, _, rfl, _, _, rfl, _, _, rfl, rfl, ?_⟩
    refine ⟨_, rfl, rfl, _, rfl, ?_⟩
    rw [wS_st]
    by_cases hw : c.w = .st
    · rw [decide_eq_true hw]
      refine iteF ?_
      have e0 : passT f'.s f'.g f'.m c day = passN f'.s f'.g (f'.m - c.m).toNat c.d c.p c.m day := by
        unfold passT
        rw [hw]
      rw [e0] at q
      refine ⟨fun n σ H' => ∃ (d m : Int), σ = [some (.ref r), some (.ref a), some (.int day), some (.str (wS c.w)), some (.int d), some (.int c.p), some (.int m)] ∧ H' = H ∧ m ≤ f'.m ∧ n = (f'.m - m).toNat ∧ passN f'.s f'.g (f'.m - m).toNat d c.p m day = passN f'.s f'.g (f'.m - c.m).toNat c.d c.p c.m day, ⟨_, c.d, c.m, rfl, rfl, hm, rfl, rfl⟩, fun n σ H' h => ?_⟩
      · obtain ⟨d, m, rfl, rfl, hm2, hn, hp⟩ := h
        refine ⟨_, rfl, _, rfl, r, CR, dx, _, _, rfl, h1, T_Rule.cl, T_Rule.n3, lk3, _, _, rfl, rfl, _, rfl, _, _, rfl, rfl, _, rfl, ite2 (fun e => ?_) (fun e => ?_)⟩
        · have e1 := of_decide_eq_true e
          by_cases z1 : m = f'.m
          · refine ⟨fun _ _ => False, fun _ _ h => h.elim, ?_⟩
            refine ⟨_, rfl, _, rfl, r, CR, dx, _, _, rfl, h1, T_Rule.cl, T_Rule.n5, lk5, rfl, _, rfl, ite2 (fun z => ?_) (fun z => absurd (decide_eq_true (by rw [z1])) z)⟩
            refine ⟨_, rfl, _, rfl, r, CR, dx, _, _, rfl, h1, T_Rule.cl, T_Rule.n3, lk3, _, _, rfl, rfl, _, _, rfl, rfl, _, rfl, _, rfl, (by show 4 ≤ sizeLine; decide), fun t nt => ?_⟩
            refine q _ t (same_new nt) (SqT.of ?_)
            rw [upd_same, ← hp, z1, show (f'.m - f'.m).toNat = 0 by omega, passN_go e1]
            rfl
          · refine ⟨_, fun σ2 H2 h2 => ⟨n - 1, by omega, h2⟩, ?_⟩
            refine ⟨_, rfl, _, rfl, r, CR, dx, _, _, rfl, h1, T_Rule.cl, T_Rule.n5, lk5, rfl, _, rfl, ite2 (fun z => absurd (V.int.inj (of_decide_eq_true z)) z1) (fun z => ?_)⟩
            refine ⟨_, rfl, _, _, rfl, rfl, ?_⟩
            refine ⟨_, rfl, _, rfl, r, CR, dx, _, _, rfl, h1, T_Rule.cl, T_Rule.n2, lk2, _, _, rfl, rfl, ?_⟩
            refine ⟨d + f'.s, m + 1, rfl, rfl, by omega, by omega, ?_⟩
            rw [← hp, show (f'.m - m).toNat = (f'.m - (m + 1)).toNat + 1 by omega, passN_on e1]
        · have e1 : ¬ d + f'.g < day := fun y => e (decide_eq_true y)
          refine ⟨_, rfl, _, rfl, _, rfl, (by show 4 ≤ sizeLine; decide), fun t nt => ?_⟩
          refine q _ t (same_new nt) (SqT.of ?_)
          rw [upd_same, ← hp, passN_st e1]
          rfl
    · rw [decide_eq_false hw]
      rw [passT_over hw] at q
      exact iteT ⟨_, rfl, q _ a (Same.refl H) hc⟩
/-! ### paid_on -/
abbrev s_paid_on : Stmt := topS 5
abbrev N_paid_on : List Str := ["rule", "state", "day", "word", "due", "paid", "missed", "counted_from"]
theorem sc_paid_on : FnScope N_paid_on ["rule", "state", "day"] (defScope s_paid_on) := ⟨rfl, rfl, rfl, by decide +kernel, rfl, by decide +kernel, by decide +kernel⟩
def sp_paid_on (K : PySem.W.Frag) (C : Addr) : Sp := fun vs H Q _ => ∃ (r a : Addr) (day : Int) (f : Fg) (c : Cs), vs = [.ref r, .ref a, .int day] ∧ RuleAt K H C r f ∧ f.Ok ∧ StAt K H a c ∧ ∀ H' b, Same H H' → StAt K H' b (payT f.p f.s f.l c day) → Q (.ref b) H'
theorem ok_paid_on {f : Addr} {fd : FuncData} (F : Fun K "paid_on" "paid_on" s_paid_on f fd) (g : mg "paid_on" = some (.ref f)) (bd : Binds K fd ["rule", "state", "day"] []) {CR : Addr} (T_Rule : TRule K mg CR) (m_len : mg "len" = none) (C_Rule___len___0 : CMt P w K mg base CR 1 "__len__" ["self"] [] (sp_Rule___len__ K CR)) : CF P w K mg base 3 "paid_on" ["rule", "state", "day"] (sp_paid_on K CR) := by
  refine ⟨f, fd, F.ok sc_paid_on (fun vs H Q E h => ?_) (fun cdv A outer s H vs Q E hr h => ?_), g, F.kp, bd⟩
  · first | (obtain ⟨_, rfl, _⟩ := h; rfl) | (obtain ⟨_, _, rfl, _⟩ := h; rfl) | (obtain ⟨_, _, _, rfl, _⟩ := h; rfl) | (obtain ⟨_, _, _, _, rfl, _⟩ := h; rfl) | (obtain ⟨_, _, _, _, _, rfl, _⟩ := h; rfl) | (obtain ⟨_, _, _, _, _, _, rfl, _⟩ := h; rfl) | (obtain ⟨_, _, _, _, _, _, _, rfl, _⟩ := h; rfl)
  · have hu64 := hr.units
    obtain ⟨r, a, day, f', c, rfl, hR, ok, hc, q⟩ := h
    refine ⟨_, (pss_cons (ps_asg (pv 1) (pg_tup (by rfl) (pgs_cons (pg_name (i := 3) sc_paid_on.nd rfl (.inl rfl)) (pgs_cons (pg_name (i := 4) sc_paid_on.nd rfl (.inl rfl)) (pgs_cons (pg_name (i := 5) sc_paid_on.nd rfl (.inl rfl)) (pgs_cons (pg_name (i := 6) sc_paid_on.nd rfl (.inl rfl)) pgs_nil))))))
      (pss_cons (ps_if (pt_cmpR op_ne (pv 3) pe_str (nomark _))
         (pss_one (ps_ret (pv 1)))
         pss_nil)
      (pss_cons (ps_if (pt_cmpR op_eq (pe_op op_add (pv 5) pe_int) (pe_callB (call_lenO C_Rule___len___0 (hr.mono (by decide))) (by rfl) m_len PySem.boot_len (pa_cons (pv 0) pa_nil)) (nomark _))
         (pss_one (ps_ret (pe_tup (pa_cons pe_str (pa_cons (pv 2) (pa_cons (pe_op op_add (pv 5) pe_int) (pa_cons (pv 6) pa_nil)))))))
         pss_nil)
      (pss_cons (ps_set (i := 7) sc_paid_on.nd rfl (.inl rfl) (pe_ifExp (pt_val (pe_fld (pv 0) rfl)) (pv 2) (pv 4)))
      (pss_one (ps_ret (pe_tup (pa_cons pe_str (pa_cons (pe_op op_add (pv 7) (pe_fld (pv 0) rfl)) (pa_cons (pe_op op_add (pv 5) pe_int) (pa_cons (pv 6) pa_nil))))))))))), ?_⟩
    obtain ⟨dx, kt, h1, h2⟩ := id hR
    have p0 := ok.figs.p0
    have p1 := ok.figs.p1
    have pl := ok.len
    refine ⟨_, rfl, a, _, rfl, hc, rfl, _, _, rfl, _, _, rfl, _, _, rfl, _, _, rfl, rfl, ?_⟩
    refine ⟨_, rfl, rfl, _, rfl, ?_⟩
    rw [wS_st]
    by_cases hw : c.w = .st
    · rw [decide_eq_true hw]
      refine iteF ?_
      have e0 : payT f'.p f'.s f'.l c day = if c.p + 1 = f'.p then ⟨.so, day, c.p + 1, c.m⟩ else ⟨.st, (if f'.l then day else c.d) + f'.s, c.p + 1, c.m⟩ := by
        unfold payT
        rw [hw]
      rw [e0] at q
      refine ⟨_, rfl, _, _, rfl, rfl, _, rfl, r, dx, _, rfl, h1, r, f', rfl, hR, _, rfl, by omega, by omega, rfl, _, rfl, ite2 (fun z => ?_) (fun z => ?_)⟩
      · have z1 : c.p + 1 = f'.p := by
          have := V.int.inj (of_decide_eq_true z)
          omega
        rw [if_pos z1] at q
        refine ⟨_, rfl, _, rfl, _, _, rfl, rfl, _, rfl, (by show 4 ≤ sizeLine; decide), fun t nt => ?_⟩
        exact q _ t (same_new nt) (SqT.of upd_same)
      · have z1 : ¬ c.p + 1 = f'.p := fun y => z (decide_eq_true (by show V.int (c.p + 1) = _; rw [y, pl]))
        rw [if_neg z1] at q
        refine ⟨_, rfl, r, CR, dx, _, _, rfl, h1, T_Rule.cl, T_Rule.n4, lk4, _, rfl, ?_⟩
        cases hl : f'.l with
        | true =>
          rw [hl, if_pos rfl] at q
          refine iteT ⟨_, rfl, ?_⟩
          refine ⟨_, rfl, _, rfl, r, CR, dx, _, _, rfl, h1, T_Rule.cl, T_Rule.n2, lk2, _, _, rfl, rfl, _, rfl, _, _, rfl, rfl, _, rfl, (by show 4 ≤ sizeLine; decide), fun t nt => ?_⟩
          exact q _ t (same_new nt) (SqT.of upd_same)
        | false =>
          rw [hl, if_neg (by decide)] at q
          refine iteF ⟨_, rfl, ?_⟩
          refine ⟨_, rfl, _, rfl, r, CR, dx, _, _, rfl, h1, T_Rule.cl, T_Rule.n2, lk2, _, _, rfl, rfl, _, rfl, _, _, rfl, rfl, _, rfl, (by show 4 ≤ sizeLine; decide), fun t nt => ?_⟩
          exact q _ t (same_new nt) (SqT.of upd_same)
    · rw [decide_eq_false hw]
      rw [payT_over hw] at q
      exact iteT ⟨_, rfl, q _ a (Same.refl H) hc⟩
/-! ### course -/
abbrev s_course : Stmt := topS 3
abbrev N_course : List Str := ["rule", "days", "end", "state", "day"]
theorem sc_course : FnScope N_course ["rule", "days", "end"] (defScope s_course) := ⟨rfl, rfl, rfl, by decide +kernel, rfl, by decide +kernel, by decide +kernel⟩
def sp_course (K : PySem.W.Frag) (C : Addr) : Sp := fun vs H Q _ => ∃ (r a : Addr) (e : Int) (f : Fg) (ds : List Int), vs = [.ref r, .ref a, .int e] ∧ RuleAt K H C r f ∧ f.Ok ∧ (SqL K H a (ds.map V.int) ∨ SqT K H a (ds.map V.int)) ∧ ∀ H' b, Same H H' → StAt K H' b (courseT f.p f.s f.g f.l f.m ds e) → Q (.ref b) H'
theorem ok_course {f : Addr} {fd : FuncData} (F : Fun K "course" "course" s_course f fd) (g : mg "course" = some (.ref f)) (bd : Binds K fd ["rule", "days", "end"] []) {CR : Addr} (T_Rule : TRule K mg CR) {A_AT_FIRST : Addr} (g_AT_FIRST : mg "AT_FIRST" = some (.ref A_AT_FIRST)) (q_AT_FIRST : ∀ H, SqT K H A_AT_FIRST [.str (Str.ofString "stands"), .int 0, .int 0, .int 0]) (C_paid_on : CF P w K mg base 3 "paid_on" ["rule", "state", "day"] (sp_paid_on K CR)) (C_passed_to : CF P w K mg base 1 "passed_to" ["rule", "state", "day"] (sp_passed_to K CR)) : CF P w K mg base 4 "course" ["rule", "days", "end"] (sp_course K CR) := by
  refine ⟨f, fd, F.ok sc_course (fun vs H Q E h => ?_) (fun cdv A outer s H vs Q E hr h => ?_), g, F.kp, bd⟩
  · first | (obtain ⟨_, rfl, _⟩ := h; rfl) | (obtain ⟨_, _, rfl, _⟩ := h; rfl) | (obtain ⟨_, _, _, rfl, _⟩ := h; rfl) | (obtain ⟨_, _, _, _, rfl, _⟩ := h; rfl) | (obtain ⟨_, _, _, _, _, rfl, _⟩ := h; rfl) | (obtain ⟨_, _, _, _, _, _, rfl, _⟩ := h; rfl) | (obtain ⟨_, _, _, _, _, _, _, rfl, _⟩ := h; rfl)
  · have hu64 := hr.units
    obtain ⟨r, a, e, f', ds, rfl, hR, ok, hS, q⟩ := h
    refine ⟨_, (pss_cons (ps_set (i := 3) sc_course.nd rfl (.inl rfl) (pe_glob (v := .ref A_AT_FIRST) (by rfl) g_AT_FIRST rfl))
      (pss_cons (ps_for PassesOwn.never rfl (pi_or (pi_list (pv 1)) (pi_tup (pv 1))) (pg_name (i := 4) sc_course.nd rfl (.inl rfl))
         (pss_one (ps_if (pt_cmpR op_le (pv 4) (pv 2) (nomark _))
             (pss_one (ps_set (i := 3) sc_course.nd rfl (.inl rfl) (pe_cf C_paid_on (hr.mono (by decide)) (by rfl) (pa_cons (pv 0) (pa_cons (pe_cf C_passed_to (hr.mono (by decide)) (by rfl) (pa_cons (pv 0) (pa_cons (pv 3) (pa_cons (pv 4) pa_nil)))) (pa_cons (pv 4) pa_nil))))))
             pss_nil)))
      (pss_one (ps_ret (pe_cf C_passed_to (hr.mono (by decide)) (by rfl) (pa_cons (pv 0) (pa_cons (pv 3) (pa_cons (pv 2) pa_nil)))))))), ?_⟩
    have m0 := ok.figs.m0
    have fin : ∀ (σ : L2.St) (H' : Hp), (∃ b s4, σ = [some (.ref r), some (.ref a), some (.int e), some (.ref b), s4] ∧ Same H H' ∧ StAt K H' b (ds.foldl (stepT f'.p f'.s f'.g f'.l f'.m e) cs0)) → tRet (tCall (sp_passed_to K CR) [] E0 (tCons (tVar 0) (tCons (tVar 3) (tCons (tVar 2) tNil)))) { nx := fun x H' => Q V.non H', rt := Q } σ H' := fun σ H' h => by
      obtain ⟨b, s4, rfl, sm, hb⟩ := h
      exact ⟨_, rfl, _, rfl, _, rfl, r, b, e, f', _, rfl, hR.same sm, hb, foldT_m ds m0, fun H2 b2 s2 h2 => q _ _ (sm.trans s2) h2⟩
    have turn : ∀ (i : Nat) (x : V) (σ : L2.St) (H' : Hp) (N : L2.St → Hp → Prop), (ds.map V.int)[i]? = some x → (∃ b s4, σ = [some (.ref r), some (.ref a), some (.int e), some (.ref b), s4] ∧ Same H H' ∧ StAt K H' b ((ds.take i).foldl (stepT f'.p f'.s f'.g f'.l f'.m e) cs0)) →
        (∀ σ2 H2, (∃ b s4, σ2 = [some (.ref r), some (.ref a), some (.int e), some (.ref b), s4] ∧ Same H H2 ∧ StAt K H2 b ((ds.take (i + 1)).foldl (stepT f'.p f'.s f'.g f'.l f'.m e) cs0)) → N σ2 H2) →
        ∀ D : Ends, D.nx = N → tIfS (tTest (tOp (rI0 fun i j => V.bl (decide (i ≤ j))) (tVar 4) (tVar 2))) (tAsg (tCall (sp_paid_on K CR) [] E0 (tCons (tVar 0) (tCons (tCall (sp_passed_to K CR) [] E0 (tCons (tVar 0) (tCons (tVar 3) (tCons (tVar 4) tNil)))) (tCons (tVar 4) tNil)))) (gName 3)) tNext D (σ.set 4 (some x)) H' := fun i x σ H' N hx h hN D hD => by
      obtain ⟨b, s4, rfl, sm, hb⟩ := h
      rw [List.getElem?_map] at hx
      obtain ⟨d, hd, rfl⟩ := Option.map_eq_some_iff.mp hx
      have ht : (ds.take (i + 1)).foldl (stepT f'.p f'.s f'.g f'.l f'.m e) cs0 = stepT f'.p f'.s f'.g f'.l f'.m e ((ds.take i).foldl (stepT f'.p f'.s f'.g f'.l f'.m e) cs0) d := by
        rw [List.take_add_one, hd, List.foldl_append]
        rfl
      rw [ht] at hN
      have hm := foldT_m (p := f'.p) (s := f'.s) (g := f'.g) (l := f'.l) (ms := f'.m) (e := e) (ds.take i) (c := cs0) m0
      generalize (ds.take i).foldl (stepT f'.p f'.s f'.g f'.l f'.m e) cs0 = c at *
      refine ⟨_, rfl, _, rfl, _, _, rfl, rfl, _, rfl, ite2 (fun z => ?_) (fun z => ?_)⟩
      · have z1 := of_decide_eq_true z
        have e1 : stepT f'.p f'.s f'.g f'.l f'.m e c d = payT f'.p f'.s f'.l (passT f'.s f'.g f'.m c d) d := by
          unfold stepT
          rw [if_pos z1]
        rw [e1] at hN
        refine ⟨_, rfl, _, rfl, _, rfl, _, rfl, r, b, d, f', c, rfl, hR.same sm, hb, hm, fun H2 b2 s2 h2 => ?_⟩
        refine ⟨_, rfl, r, b2, d, f', _, rfl, (hR.same sm).same s2, ok, h2, fun H3 b3 s3 h3 => ?_⟩
        rw [hD]
        exact hN _ _ ⟨b3, _, rfl, (sm.trans s2).trans s3, h3⟩
      · have e1 : stepT f'.p f'.s f'.g f'.l f'.m e c d = c := by
          unfold stepT
          rw [if_neg fun y => z (decide_eq_true y)]
        rw [e1] at hN
        show D.nx _ _
        rw [hD]
        exact hN _ _ ⟨b, _, rfl, sm, hb⟩
    rcases hS with hS | hS
    · refine .inl ⟨_, rfl, a, rfl, ⟨_, hS⟩, for_list (K := K) (a := a) (xs := ds.map V.int) (fun i σ H' => ∃ b s4, σ = [some (.ref r), some (.ref a), some (.int e), some (.ref b), s4] ∧ Same H H' ∧ StAt K H' b ((ds.take i).foldl (stepT f'.p f'.s f'.g f'.l f'.m e) cs0)) ⟨_, _, rfl, Same.refl H, q_AT_FIRST H⟩ (fun i σ H' _ h => by obtain ⟨_, _, _, h, _⟩ := h; exact h.seq hS) (fun i x σ H' hx h => turn i x σ H' _ hx h (fun _ _ z => z) _ rfl) (fun σ H' h => fin σ H' ?_)⟩
      rw [List.length_map, List.take_of_length_le (Nat.le_refl _)] at h
      exact h
    · refine .inr ⟨_, rfl, a, rfl, ⟨_, hS⟩, for_tup (K := K) (a := a) (xs := ds.map V.int) (fun i σ H' => ∃ b s4, σ = [some (.ref r), some (.ref a), some (.int e), some (.ref b), s4] ∧ Same H H' ∧ StAt K H' b ((ds.take i).foldl (stepT f'.p f'.s f'.g f'.l f'.m e) cs0)) ⟨_, _, rfl, Same.refl H, q_AT_FIRST H⟩ (fun i σ H' _ h => by obtain ⟨_, _, _, h, _⟩ := h; exact seqT_same h hS) (fun i x σ H' hx h => turn i x σ H' _ hx h (fun _ _ z => z) _ rfl) (fun σ H' h => fin σ H' ?_)⟩
      rw [List.length_map, List.take_of_length_le (Nat.le_refl _)] at h
      exact h
/-! ### _law_box -/
abbrev s__law_box : Stmt := topS 22
abbrev N__law_box : List Str := ["_law_script", "_law_k", "_law_cell"]
theorem sc__law_box : FnScope N__law_box ["_law_script", "_law_k"] (defScope s__law_box) := ⟨rfl, rfl, rfl, by decide +kernel, rfl, by decide +kernel, by decide +kernel⟩
def sp__law_box (K : PySem.W.Frag) : Sp := fun vs H Q _ => ∃ (a : Addr) (k : Int) (ns : List Int), vs = [.ref a, .int k] ∧ SqL K H a (ns.map V.int) ∧ 0 ≤ k ∧ k ≤ 63 ∧ ∀ H' b, H b = none → Same H H' → Box H' b 0 → Q (.ref b) H'
theorem ok__law_box {f : Addr} {fd : FuncData} (F : Fun K "_law_box" "_law_box" s__law_box f fd) (g : mg "_law_box" = some (.ref f)) (bd : Binds K fd ["_law_script", "_law_k"] []) (m_len : mg "len" = none) (m_abs : mg "abs" = none) (m_int : mg "int" = none) : CF P w K mg base 1 "_law_box" ["_law_script", "_law_k"] (sp__law_box K) := by
  refine ⟨f, fd, F.ok sc__law_box (fun vs H Q E h => ?_) (fun cdv A outer s H vs Q E hr h => ?_), g, F.kp, bd⟩
  · first | (obtain ⟨_, rfl, _⟩ := h; rfl) | (obtain ⟨_, _, rfl, _⟩ := h; rfl) | (obtain ⟨_, _, _, rfl, _⟩ := h; rfl) | (obtain ⟨_, _, _, _, rfl, _⟩ := h; rfl) | (obtain ⟨_, _, _, _, _, rfl, _⟩ := h; rfl) | (obtain ⟨_, _, _, _, _, _, rfl, _⟩ := h; rfl) | (obtain ⟨_, _, _, _, _, _, _, rfl, _⟩ := h; rfl)
  · have hu64 := hr.units
    obtain ⟨a, k, ns, rfl, hS, hk0, hk, q⟩ := h
    refine ⟨_, (pss_cons (ps_set (i := 2) sc__law_box.nd rfl (.inl rfl) pe_int)
      (pss_cons (ps_if (pt_cmpR op_lt (pv 1) (pe_callB (kk_len K) (by rfl) m_len PySem.boot_len (pa_cons (pv 0) pa_nil)) (nomark _))
         (pss_one (ps_set (i := 2) sc__law_box.nd rfl (.inl rfl) (pe_ix (kk_ixl K) (pv 0) (pv 1) (fun _ _ => rfl))))
         pss_nil)
      (pss_one (ps_ret (pe_lst (pa_cons (pe_op op_mul (pe_callB call_abs (by rfl) m_abs (by decide +kernel) (pa_cons (pv 2) pa_nil)) (pe_callTy call_int1 (by rfl) m_int (by decide +kernel) (pa_cons (pe_cmpR op_ge (pe_callB call_abs (by rfl) m_abs (by decide +kernel) (pa_cons (pv 2) pa_nil)) (pe_op op_pow pe_int pe_int) (nomark _)) pa_nil))) (pa_cons (pe_op op_add (pe_op op_add (pe_op op_mod (pv 2) pe_int) (pe_op op_mul pe_int (pv 1))) pe_int) (pa_cons pe_int pa_nil)))))))), ?_⟩
    refine ⟨_, rfl, _, rfl, a, _, rfl, .inl hS, _, _, rfl, rfl, _, rfl, ite2 (fun e => ?_) (fun e => ?_)⟩
    · have e1 := of_decide_eq_true e
      rw [List.length_map] at e1
      obtain ⟨c, hc⟩ := at_int hk0 e1
      refine ⟨_, rfl, _, rfl, a, _, _, _, rfl, rfl, hS, hc, ?_⟩
      refine ⟨_, rfl, _, rfl, _, rfl, _, rfl, _, _, rfl, rfl, ⟨by decide, by decide, by decide⟩, _, _, rfl, rfl, .inr ⟨_, rfl, _, _, rfl, rfl, .inr ⟨?_, ?_⟩, _, rfl, _, _, rfl, rfl, (by show (0 : Int) < 2147483629; decide), _, rfl, _, _, rfl, rfl, .inl ⟨by decide, by decide⟩, _, _, rfl, rfl, _, _, rfl, rfl, (by show 3 ≤ sizeLine; decide), fun p hp => ?_⟩⟩
      · split <;> omega
      · split <;> omega
      · refine q _ p hp (same_new hp) ⟨_, _, _, upd_same, ?_, ?_, ?_, by omega, by omega⟩
        · refine Int.mul_nonneg ?_ ?_ <;> split <;> omega
        · have := Int.emod_nonneg c (show (2147483629 : Int) ≠ 0 by decide)
          omega
        · have := Int.emod_lt_of_pos c (show (0 : Int) < 2147483629 by decide)
          omega
    · refine ⟨_, rfl, _, rfl, _, rfl, _, rfl, _, _, rfl, rfl, ⟨by decide, by decide, by decide⟩, _, _, rfl, rfl, .inr ⟨_, rfl, _, _, rfl, rfl, .inr ⟨?_, ?_⟩, _, rfl, _, _, rfl, rfl, (by show (0 : Int) < 2147483629; decide), _, rfl, _, _, rfl, rfl, .inl ⟨by decide, by decide⟩, _, _, rfl, rfl, _, _, rfl, rfl, (by show 3 ≤ sizeLine; decide), fun p hp => ?_⟩⟩
      · split <;> omega
      · split <;> omega
      · refine q _ p hp (same_new hp) ⟨_, _, _, upd_same, ?_, ?_, ?_, by omega, by omega⟩
        · refine Int.mul_nonneg ?_ ?_ <;> split <;> omega
        · omega
        · omega
/-! ### _law_take -/
abbrev s__law_take : Stmt := topS 23
abbrev N__law_take : List Str := ["_law_box_here", "_law_many", "_law_found", "_law_once"]
theorem sc__law_take : FnScope N__law_take ["_law_box_here", "_law_many"] (defScope s__law_take) := ⟨rfl, rfl, rfl, by decide +kernel, rfl, by decide +kernel, by decide +kernel⟩
def sp__law_take (K : PySem.W.Frag) : Sp := fun vs H Q _ => ∃ (b : Addr) (m n : Int), vs = [.ref b, .int m] ∧ Box H b n ∧ 0 < m ∧ m < 1073741824 ∧ n < 1000000000 ∧ ∀ (r : Int) H', 0 ≤ r → r < m → Box H' b (n + 1) → But b H H' → Q (.int r) H'
theorem ok__law_take {f : Addr} {fd : FuncData} (F : Fun K "_law_take" "_law_take" s__law_take f fd) (g : mg "_law_take" = some (.ref f)) (bd : Binds K fd ["_law_box_here", "_law_many"] []) : CF P w K mg base 1 "_law_take" ["_law_box_here", "_law_many"] (sp__law_take K) := by
  refine ⟨f, fd, F.ok sc__law_take (fun vs H Q E h => ?_) (fun cdv A outer s H vs Q E hr h => ?_), g, F.kp, bd⟩
  · first | (obtain ⟨_, rfl, _⟩ := h; rfl) | (obtain ⟨_, _, rfl, _⟩ := h; rfl) | (obtain ⟨_, _, _, rfl, _⟩ := h; rfl) | (obtain ⟨_, _, _, _, rfl, _⟩ := h; rfl) | (obtain ⟨_, _, _, _, _, rfl, _⟩ := h; rfl) | (obtain ⟨_, _, _, _, _, _, rfl, _⟩ := h; rfl) | (obtain ⟨_, _, _, _, _, _, _, rfl, _⟩ := h; rfl)
  · have hu64 := hr.units
    obtain ⟨b, m, n, rfl, ⟨x, y, z, hb, hx, hy, hy2, hz, hz2⟩, hm, hm2, hn, q⟩ := h
    refine ⟨_, (pss_cons (ps_if (pt_cmpR op_gt (pe_ix (kk_ixl K) (pv 0) pe_int (fun _ _ => rfl)) pe_int (nomark _))
         (pss_cons (ps_set (i := 2) sc__law_take.nd rfl (.inl rfl) (pe_op op_mod (pe_ix (kk_ixl K) (pv 0) pe_int (fun _ _ => rfl)) (pv 1)))
          (pss_cons (ps_asg (pe_op op_fdiv (pe_ix (kk_ixl K) (pv 0) pe_int (fun _ _ => rfl)) (pv 1)) (pg_sub (pv 0) pe_int set_list))
          (pss_one (ps_ret (pv 2)))))
         pss_nil)
      (pss_cons (ps_asg (pe_op op_add (pe_ix (kk_ixl K) (pv 0) pe_int (fun _ _ => rfl)) pe_int) (pg_sub (pv 0) pe_int set_list))
      (pss_cons (ps_set (i := 3) sc__law_take.nd rfl (.inl rfl) (pe_op op_mod (pe_op op_pow (pe_op op_add (pe_ix (kk_ixl K) (pv 0) pe_int (fun _ _ => rfl)) (pe_op op_mul pe_int (pe_ix (kk_ixl K) (pv 0) pe_int (fun _ _ => rfl)))) pe_int) pe_int))
      (pss_one (ps_ret (pe_op op_mod (pe_op op_fdiv (pe_op op_mod (pe_op op_add (pe_op op_mul (pv 3) (pe_op op_add (pe_op op_mod (pv 3) pe_int) pe_int)) (pe_op op_mul (pe_ix (kk_ixl K) (pv 0) pe_int (fun _ _ => rfl)) pe_int)) pe_int) pe_int) (pv 1))))))), ?_⟩
    refine ⟨_, rfl, b, _, _, _, rfl, rfl, SqL.of hb, rfl, _, _, rfl, rfl, _, rfl, ite2 (fun e => ?_) (fun e => ?_)⟩
    · refine ⟨_, rfl, b, _, _, _, rfl, rfl, SqL.of hb, rfl, _, rfl, _, _, rfl, rfl, hm, ?_⟩
      refine ⟨_, rfl, b, _, _, _, rfl, rfl, SqL.of hb, rfl, _, rfl, _, _, rfl, rfl, ⟨hm, hm2⟩, _, rfl, b, _, _, _, rfl, rfl, hb, rfl, ?_⟩
      refine ⟨_, rfl, q _ _ (Int.emod_nonneg _ (by omega)) (Int.emod_lt_of_pos _ hm) ⟨x / m, y, z, upd_same, Int.ediv_nonneg hx (by omega), hy, hy2, hz, by omega⟩ But.upd⟩
    · refine ⟨_, rfl, b, _, _, _, rfl, rfl, SqL.of hb, rfl, _, _, rfl, rfl, _, rfl, b, _, _, _, rfl, rfl, hb, rfl, ?_⟩
      have h1 : (upd H b (.lst [.int x, .int y, .int (z + 1)])) b = some (.lst [.int x, .int y, .int (z + 1)]) := upd_same
      refine ⟨_, rfl, b, _, _, _, rfl, rfl, SqL.of h1, rfl, _, rfl, b, _, _, _, rfl, rfl, SqL.of h1, rfl, _, _, rfl, rfl, .inl ⟨by decide, by decide⟩, _, _, rfl, rfl, _, _, rfl, rfl, ⟨by decide, by decide, ?_⟩, _, _, rfl, rfl, (by show (0 : Int) < 2147483647; decide), ?_⟩
      · show (y + 39373 * (z + 1)).natAbs < 2 ^ 64
        omega
      · have o0 : 0 ≤ (y + 39373 * (z + 1)) ^ (5 : Int).toNat % 2147483647 := Int.emod_nonneg _ (by decide)
        have o1 : (y + 39373 * (z + 1)) ^ (5 : Int).toNat % 2147483647 < 2147483647 := Int.emod_lt_of_pos _ (by decide)
        refine ⟨_, rfl, _, rfl, _, _, rfl, rfl, (by show (0 : Int) < 40009; decide), _, _, rfl, rfl, _, _, rfl, rfl, .inl ⟨?_, ?_⟩, _, rfl, b, _, _, _, rfl, rfl, SqL.of h1, rfl, _, _, rfl, rfl, .inl ⟨?_, ?_⟩, _, _, rfl, rfl, _, _, rfl, rfl, (by show (0 : Int) < 2147483629; decide), _, _, rfl, rfl, ⟨by decide, by decide⟩, _, rfl, _, _, rfl, rfl, hm, ?_⟩
        · omega
        · omega
        · omega
        · omega
        · exact q _ _ (Int.emod_nonneg _ (by omega)) (Int.emod_lt_of_pos _ hm) ⟨x, y, z + 1, h1, hx, hy, hy2, by omega, by omega⟩ But.upd
/-! ### what is left to draw of -/
def Left (H : Hp) (b c : Addr) (n : Int) : Prop := ∃ (x z : Int) (ns : List Int), H b = some (.lst [.int x, .ref c, .int z]) ∧ H c = some (.lst (ns.map V.int)) ∧ 0 ≤ x ∧ 0 ≤ z ∧ z ≤ n ∧ 1 ≤ ns.length ∧ ns.length ≤ 63
section
variable {H H' : Hp} {b c p : Addr} {n m : Int} {o : HO}
theorem Left.mono (h : Left H b c n) (l : n ≤ m) : Left H b c m := by
  obtain ⟨x, z, ns, h0, h1, h2, h3, h4, h5⟩ := h
  exact ⟨x, z, ns, h0, h1, h2, h3, by omega, h5⟩
theorem Left.same (e : Same H H') (h : Left H b c n) : Left H' b c n := by
  obtain ⟨x, z, ns, h0, h1, h2⟩ := h
  exact ⟨x, z, ns, e _ _ h0, e _ _ h1, h2⟩
theorem Left.new (h : Left H b c n) (e : H p = none) : Left (upd H p o) b c n := h.same (same_new e)
theorem Left.ne (h : Left H b c n) (e : H p = none) : p ≠ b := fun z => by
  obtain ⟨_, _, _, h0, _⟩ := h
  rw [z, h0] at e
  cases e
theorem Left.ne2 (h : Left H b c n) (e : H p = none) : p ≠ c := fun z => by
  obtain ⟨_, _, _, _, h0, _⟩ := h
  rw [z, h0] at e
  cases e
theorem Left.upd (h : Left H b c n) (e1 : p ≠ b) (e2 : p ≠ c) : Left (upd H p o) b c n := by
  obtain ⟨x, z, ns, h0, h1, h2⟩ := h
  exact ⟨x, z, ns, by rw [upd_ne e1.symm]; exact h0, by rw [upd_ne e2.symm]; exact h1, h2⟩
theorem Left.net (h : Left H b c n) {xs : List V} (e : H p = some (.tup xs)) : p ≠ b := fun z => by
  obtain ⟨_, _, _, h0, _⟩ := h
  rw [z, h0] at e
  cases e
theorem left_cells {x z : Int} {ns : List Int} (h0 : H b = some (.lst [.int x, .ref c, .int z])) (h1 : H c = some (.lst (ns.map V.int))) : c ≠ b := fun e => by
  rw [e, h0] at h1
  have h2 := HO.lst.inj (Option.some.inj h1)
  match ns, h2 with
  | [], h2 => cases h2
  | [_], h2 => cases h2
  | _ :: _ :: _, h2 => cases (List.cons.inj (List.cons.inj h2).2).1
theorem But.seqT {K : PySem.W.Frag} {a : Addr} {xs : List V} (t : But b H H') (hb : Left H b c n) (h : SqT K H a xs) : SqT K H' a xs := by
  obtain ⟨_, _, _, hx, _⟩ := hb
  rcases h with (h | ⟨o, h⟩) | h
  · exact .inl (.inl (t _ _ (ne_of h hx (by intro z; cases z)) h))
  · exact .inl (.inr ⟨o, t _ _ (ne_of h hx (by intro z; cases z)) h⟩)
  · exact .inr h
end
theorem none_of {H H' : Hp} {p : Addr} (s : Same H H') (h : H' p = none) : H p = none := by
  cases e : H p with
  | none => rfl
  | some o =>
    rw [s _ _ e] at h
    cases h
theorem cut_to {xs : List V} {k : Nat} (h : xs.length ≤ k) : cutV xs none (some (k : Int)) = xs := by
  unfold cutV
  rw [HT.sIx_nat, HT.sIx_none, Nat.min_eq_right h]
  simp
theorem pick3v {r : Int} {x y z : V} (h0 : 0 ≤ r) (h1 : r < 3) : ∃ v, atI [x, y, z] r = some v ∧ (v = x ∨ v = y ∨ v = z) := by
  have h : r = 0 ∨ r = 1 ∨ r = 2 := by omega
  rcases h with rfl | rfl | rfl
  · exact ⟨x, rfl, .inl rfl⟩
  · exact ⟨y, rfl, .inr (.inl rfl)⟩
  · exact ⟨z, rfl, .inr (.inr rfl)⟩
theorem pick3i {r x y z lo hi : Int} (h0 : 0 ≤ r) (h1 : r < 3) (hx : lo ≤ x ∧ x ≤ hi) (hy : lo ≤ y ∧ y ≤ hi) (hz : lo ≤ z ∧ z ≤ hi) : ∃ v : Int, atI [V.int x, .int y, .int z] r = some (.int v) ∧ lo ≤ v ∧ v ≤ hi := by
  have h : r = 0 ∨ r = 1 ∨ r = 2 := by omega
  rcases h with rfl | rfl | rfl
  · exact ⟨x, rfl, hx⟩
  · exact ⟨y, rfl, hy⟩
  · exact ⟨z, rfl, hz⟩
theorem pick4i {r x y z u lo hi : Int} (h0 : 0 ≤ r) (h1 : r < 4) (hx : lo ≤ x ∧ x ≤ hi) (hy : lo ≤ y ∧ y ≤ hi) (hz : lo ≤ z ∧ z ≤ hi) (hu : lo ≤ u ∧ u ≤ hi) : ∃ v : Int, atI [V.int x, .int y, .int z, .int u] r = some (.int v) ∧ lo ≤ v ∧ v ≤ hi := by
  have h : r = 0 ∨ r = 1 ∨ r = 2 ∨ r = 3 := by omega
  rcases h with rfl | rfl | rfl | rfl
  · exact ⟨x, rfl, hx⟩
  · exact ⟨y, rfl, hy⟩
  · exact ⟨z, rfl, hz⟩
  · exact ⟨u, rfl, hu⟩
def Drawn (K : PySem.W.Frag) (H : Hp) (t : Addr) (f : Fg) (kv : V) (kd : PyData) : Prop := SqT K H t [.int f.p, .int f.s, .int f.g, .bl f.l, .int f.m, kv, .int f.fi, .int f.fa, .int f.ba] ∧ Figs f.p f.s f.g f.m f.fi f.fa f.ba ∧ Keep K H f.p f.ks kv kd
theorem Keep.same {K : PySem.W.Frag} {H H' : Hp} {p : Int} {ks : List Int} {v : V} {d : PyData} (h : Keep K H p ks v d) (e : Same H H') : Keep K H' p ks v d := by
  cases h with
  | one k h0 h1 e => exact .one k h0 h1 e
  | all a h hl hb => exact .all a (seqT_same e h) hl hb
theorem Keep.but {K : PySem.W.Frag} {H H' : Hp} {b c : Addr} {n p : Int} {ks : List Int} {v : V} {d : PyData} (h : Keep K H p ks v d) (e : But b H H') (l : Left H b c n) : Keep K H' p ks v d := by
  cases h with
  | one k h0 h1 e => exact .one k h0 h1 e
  | all a h hl hb => exact .all a (e.seqT l h) hl hb
theorem Drawn.same {K : PySem.W.Frag} {H H' : Hp} {t : Addr} {f : Fg} {kv : V} {kd : PyData} (h : Drawn K H t f kv kd) (e : Same H H') : Drawn K H' t f kv kd := ⟨seqT_same e h.1, h.2.1, h.2.2.same e⟩
theorem Drawn.but {K : PySem.W.Frag} {H H' : Hp} {b c t : Addr} {n : Int} {f : Fg} {kv : V} {kd : PyData} (h : Drawn K H t f kv kd) (e : But b H H') (l : Left H b c n) : Drawn K H' t f kv kd := ⟨e.seqT l h.1, h.2.1, h.2.2.but e l⟩
theorem Drawn.ok {K : PySem.W.Frag} {H : Hp} {t : Addr} {f : Fg} {kv : V} {kd : PyData} (h : Drawn K H t f kv kd) : f.Ok := by
  obtain ⟨_, F, k⟩ := h
  refine ⟨F, ?_, ?_⟩
  · cases k with
    | one k h0 h1 e =>
      have := F.p0
      rw [e, List.length_replicate]
      omega
    | all a h hl hb => exact hl
  · cases k with
    | one k h0 h1 e =>
      intro x hx
      rw [e] at hx
      rw [List.eq_of_mem_replicate hx]
      exact ⟨h0, h1⟩
    | all a h hl hb => exact hb
def mostN : Nat → Int
  | 0 => 100
  | _ => 30
theorem most_at {i : Nat} {x : V} (h : [V.int 100, .int 30, .int 30][i]? = some x) : i < 3 ∧ x = .int (mostN i) ∧ 30 ≤ mostN i ∧ mostN i ≤ 100 := by
  match i, h with
  | 0, h => cases h; exact ⟨by decide, rfl, by decide, by decide⟩
  | 1, h => cases h; exact ⟨by decide, rfl, by decide, by decide⟩
  | 2, h => cases h; exact ⟨by decide, rfl, by decide, by decide⟩
  | n + 3, h => cases h
section
variable {K : PySem.W.Frag} {H H' : Hp} {b : Addr} {n : Int}
theorem Box.seqT {a : Addr} {xs : List V} (hb : Box H b n) (t : But b H H') (h : SqT K H a xs) : SqT K H' a xs := by
  obtain ⟨_, _, _, hx, _⟩ := hb
  rcases h with (h | ⟨o, h⟩) | h
  · exact .inl (.inl (t _ _ (ne_of h hx (by intro z; cases z)) h))
  · exact .inl (.inr ⟨o, t _ _ (ne_of h hx (by intro z; cases z)) h⟩)
  · exact .inr h
theorem Box.rule {C r : Addr} {f : Fg} (hb : Box H b n) (t : But b H H') (h : RuleAt K H C r f) : RuleAt K H' C r f := by
  obtain ⟨dx, kt, h1, h2⟩ := h
  refine ⟨dx, kt, ?_, hb.seqT t h2⟩
  obtain ⟨_, _, _, hx, _⟩ := hb
  exact t _ _ (ne_of h1 hx (by intro z; cases z)) h1
theorem Box.keep {p : Int} {ks : List Int} {v : V} {d : PyData} (hb : Box H b n) (t : But b H H') (h : Keep K H p ks v d) : Keep K H' p ks v d := by
  cases h with
  | one k h0 h1 e => exact .one k h0 h1 e
  | all a h hl hk => exact .all a (hb.seqT t h) hl hk
theorem Box.drawn {t : Addr} {f : Fg} {kv : V} {kd : PyData} (hb : Box H b n) (e : But b H H') (h : Drawn K H t f kv kd) : Drawn K H' t f kv kd := ⟨hb.seqT e h.1, h.2.1, hb.keep e h.2.2⟩
theorem Box.upd {p : Addr} {o : HO} (h : Box H b n) (e : p ≠ b) : Box (upd H p o) b n := by
  obtain ⟨x, y, z, h0, h1⟩ := h
  exact ⟨x, y, z, by rw [upd_ne e.symm]; exact h0, h1⟩
end
/-! ### _law_drawn -/
abbrev s__law_drawn : Stmt := topS 24
abbrev N__law_drawn : List Str := ["_law_box_here", "_law_parts", "_law_step", "_law_grace", "_law_misses", "_law_keep", "_law_part"]
theorem sc__law_drawn : FnScope N__law_drawn ["_law_box_here"] (defScope s__law_drawn) := ⟨rfl, rfl, rfl, by decide +kernel, rfl, by decide +kernel, by decide +kernel⟩
def sp__law_drawn (K : PySem.W.Frag) : Sp := fun vs H Q _ => ∃ (b : Addr) (n : Int), vs = [.ref b] ∧ Box H b n ∧ n < 100000000 ∧ ∀ H' t f kv kd, Box H' b (n + 20) → But b H H' → Drawn K H' t f kv kd → H t = none → Q (.ref t) H'
theorem ok__law_drawn {f : Addr} {fd : FuncData} (F : Fun K "_law_drawn" "_law_drawn" s__law_drawn f fd) (g : mg "_law_drawn" = some (.ref f)) (bd : Binds K fd ["_law_box_here"] []) (m_tuple : mg "tuple" = none) (m_range : mg "range" = none) (C__law_take : CF P w K mg base 1 "_law_take" ["_law_box_here", "_law_many"] (sp__law_take K)) : CF P w K mg base 2 "_law_drawn" ["_law_box_here"] (sp__law_drawn K) := by
  refine ⟨f, fd, F.ok sc__law_drawn (fun vs H Q E h => ?_) (fun cdv A outer s H vs Q E hr h => ?_), g, F.kp, bd⟩
  · first | (obtain ⟨_, rfl, _⟩ := h; rfl) | (obtain ⟨_, _, rfl, _⟩ := h; rfl) | (obtain ⟨_, _, _, rfl, _⟩ := h; rfl) | (obtain ⟨_, _, _, _, rfl, _⟩ := h; rfl) | (obtain ⟨_, _, _, _, _, rfl, _⟩ := h; rfl) | (obtain ⟨_, _, _, _, _, _, rfl, _⟩ := h; rfl) | (obtain ⟨_, _, _, _, _, _, _, rfl, _⟩ := h; rfl)
  · have hu64 := hr.units
    obtain ⟨b, n, rfl, hb, hn, q⟩ := h
    refine ⟨_, (pss_cons (ps_par (i := 1) (j := 2) (by rfl) sc__law_drawn.nd rfl rfl (by decide) rfl rfl (pa_cons (pe_ix (kk_ixl K) (pe_lst (pa_cons pe_int (pa_cons pe_int (pa_cons (pe_op op_add pe_int (pe_cf C__law_take (hr.mono (by decide)) (by rfl) (pa_cons (pv 0) (pa_cons pe_int pa_nil)))) pa_nil)))) (pe_cf C__law_take (hr.mono (by decide)) (by rfl) (pa_cons (pv 0) (pa_cons pe_int pa_nil))) (fun _ _ => rfl)) (pa_cons (pe_ix (kk_ixl K) (pe_lst (pa_cons pe_int (pa_cons pe_int (pa_cons (pe_op op_add pe_int (pe_cf C__law_take (hr.mono (by decide)) (by rfl) (pa_cons (pv 0) (pa_cons pe_int pa_nil)))) pa_nil)))) (pe_cf C__law_take (hr.mono (by decide)) (by rfl) (pa_cons (pv 0) (pa_cons pe_int pa_nil))) (fun _ _ => rfl)) pa_nil)) (by rfl))
      (pss_cons (ps_par (i := 3) (j := 4) (by rfl) sc__law_drawn.nd rfl rfl (by decide) rfl rfl (pa_cons (pe_ix (kk_ixl K) (pe_lst (pa_cons pe_int (pa_cons pe_int (pa_cons (pe_cf C__law_take (hr.mono (by decide)) (by rfl) (pa_cons (pv 0) (pa_cons pe_int pa_nil))) pa_nil)))) (pe_cf C__law_take (hr.mono (by decide)) (by rfl) (pa_cons (pv 0) (pa_cons pe_int pa_nil))) (fun _ _ => rfl)) (pa_cons (pe_cf C__law_take (hr.mono (by decide)) (by rfl) (pa_cons (pv 0) (pa_cons pe_int pa_nil))) pa_nil)) (by rfl))
      (pss_cons (ps_set (i := 5) sc__law_drawn.nd rfl (.inl rfl) (pe_ix (kk_ixl K) (pe_lst (pa_cons pe_int (pa_cons pe_int (pa_cons (pe_callTy (kk_tuple K) (by rfl) m_tuple (by decide +kernel) (pa_cons (pe_lc (own := [("_law_part", 6)]) (g := (gName 6)) (tt := tYes) rfl sc__law_drawn.nd (pi_range1 (by rfl) m_range (pa_cons (pv 1) pa_nil)) (blkOk_by (own := [("_law_part", 6)]) (N := N__law_drawn) (sc := defScope s__law_drawn) (by decide +kernel)) (fun _ _ _ _ _ => pg_name (i := 6) sc__law_drawn.nd rfl (Or.inl rfl)) (fun _ _ _ _ _ => pts_nil) (fun _ _ _ _ _ => (pe_cf C__law_take (hr.mono (by decide)) (by rfl) (pa_cons (pv 0) (pa_cons pe_int pa_nil))))) pa_nil)) pa_nil)))) (pe_cf C__law_take (hr.mono (by decide)) (by rfl) (pa_cons (pv 0) (pa_cons pe_int pa_nil))) (fun _ _ => rfl)))
      (pss_one (ps_ret (pe_tup (pa_cons (pv 1) (pa_cons (pv 2) (pa_cons (pv 3) (pa_cons (pe_cmpR op_eq (pe_cf C__law_take (hr.mono (by decide)) (by rfl) (pa_cons (pv 0) (pa_cons pe_int pa_nil))) pe_int (nomark _)) (pa_cons (pv 4) (pa_cons (pv 5) (pa_cons (pe_cf C__law_take (hr.mono (by decide)) (by rfl) (pa_cons (pv 0) (pa_cons pe_int pa_nil))) (pa_cons (pe_cf C__law_take (hr.mono (by decide)) (by rfl) (pa_cons (pv 0) (pa_cons pe_int pa_nil))) (pa_cons pe_int pa_nil))))))))))))))), ?_⟩
    refine ⟨_, rfl, b, 6, n, rfl, hb, by decide, by decide, by omega, fun x1 H1 x10 x11 b1 t1 => ⟨_, _, rfl, rfl, (by show 3 ≤ sizeLine; decide), fun l1 nl1 => ?_⟩⟩
    have B1 := b1.new (o := .lst [.int 1, .int 6, .int (1 + x1)]) nl1
    have T1 := t1.trans (But.new (b := b) (o := .lst [.int 1, .int 6, .int (1 + x1)]) nl1)
    refine ⟨_, rfl, b, 3, _, rfl, B1, by decide, by decide, by omega, fun r1 H2 r10 r11 b2 t2 => ?_⟩
    obtain ⟨p, hp, p0, p1⟩ := pick3i (lo := 1) (hi := 6) (x := 1) (y := 6) (z := 1 + x1) r10 r11 (by omega) (by omega) (by omega)
    refine ⟨l1, _, _, _, rfl, rfl, SqL.of (t2 _ _ (b1.ne nl1) upd_same), hp, ?_⟩
    refine ⟨_, rfl, b, 14, _, rfl, b2, by decide, by decide, by omega, fun x2 H3 x20 x21 b3 t3 => ⟨_, _, rfl, rfl, (by show 3 ≤ sizeLine; decide), fun l2 nl2 => ?_⟩⟩
    have B2 := b3.new (o := .lst [.int 1, .int 14, .int (1 + x2)]) nl2
    have T2 := ((T1.trans t2).trans t3).trans (But.new (b := b) (o := .lst [.int 1, .int 14, .int (1 + x2)]) nl2)
    refine ⟨_, rfl, b, 3, _, rfl, B2, by decide, by decide, by omega, fun r2 H4 r20 r21 b4 t4 => ?_⟩
    obtain ⟨s', hs, s0, s1⟩ := pick3i (lo := 1) (hi := 14) (x := 1) (y := 14) (z := 1 + x2) r20 r21 (by omega) (by omega) (by omega)
    refine ⟨l2, _, _, _, rfl, rfl, SqL.of (t4 _ _ (b3.ne nl2) upd_same), hs, _, _, rfl, ?_⟩
    refine ⟨_, rfl, b, 8, _, rfl, b4, by decide, by decide, by omega, fun x3 H5 x30 x31 b5 t5 => ⟨(by show 3 ≤ sizeLine; decide), fun l3 nl3 => ?_⟩⟩
    have B3 := b5.new (o := .lst [.int 0, .int 7, .int x3]) nl3
    have T3 := ((T2.trans t4).trans t5).trans (But.new (b := b) (o := .lst [.int 0, .int 7, .int x3]) nl3)
    refine ⟨_, rfl, b, 3, _, rfl, B3, by decide, by decide, by omega, fun r3 H6 r30 r31 b6 t6 => ?_⟩
    obtain ⟨g', hg, g0, g1⟩ := pick3i (lo := 0) (hi := 7) (x := 0) (y := 7) (z := x3) r30 r31 (by omega) (by omega) (by omega)
    refine ⟨l3, _, _, _, rfl, rfl, SqL.of (t6 _ _ (b5.ne nl3) upd_same), hg, ?_⟩
    refine ⟨_, rfl, b, 3, _, rfl, b6, by decide, by decide, by omega, fun m H7 m0 m1 b7 t7 => ⟨_, _, rfl, ?_⟩⟩
    have T7 := (T3.trans t6).trans t7
    refine ⟨_, rfl, _, rfl, by omega, by omega, fun D hD => lc_range (lo := 0) (n := p.toNat) (fun i H' => But b H7 H' ∧ Box H' b (n + 7 + i) ∧ ∃ ks : List Int, ks.length = i ∧ (∀ k ∈ ks, 0 ≤ k ∧ k ≤ 100) ∧ H' D = some (.lst (ks.map V.int))) ⟨But.new hD, (b7.mono (by omega)).new hD, [], rfl, fun _ h => (nomatch h), upd_same⟩ (fun i H' hi h => ?_) (fun H' h => ?_)⟩
    · obtain ⟨t8, b8, ks, hks, hkb, hDl⟩ := h
      have hDb : D ≠ b := b7.ne hD
      refine ⟨rfl, _, rfl, b, 101, _, rfl, b8, by decide, by decide, by omega, fun k H9 k0 k1 b9 t9 => ?_⟩
      refine ⟨_, t9 _ _ hDb hDl, ?_, ?_, (b9.mono (by omega)).upd hDb, ks ++ [k], ?_, ?_, ?_⟩
      · rw [List.length_map, hks]
        exact small1000 (by omega)
      · exact fun e o ne he => by
          rw [upd_ne (ne_of_none (show H7 e = some o from he) hD)]
          exact t9 _ _ ne (t8 _ _ ne he)
      · rw [List.length_append, hks]
        rfl
      · intro k hk
        rcases List.mem_append.mp hk with z | z
        · exact hkb k z
        · rw [List.mem_singleton.mp z]
          omega
      · rw [upd_same, List.map_append]
        rfl
    · obtain ⟨t8, b8, ks, hks, hkb, hDl⟩ := h
      refine ⟨D, _, rfl, .inl ⟨SqL.of hDl, fun t ht => ?_⟩⟩
      have b9 := b8.new (o := .tup (ks.map V.int)) ht
      have T9 := (T7.trans t8).trans (But.new (b := b) (o := .tup (ks.map V.int)) ht)
      have hT : SqT K (upd H' t (.tup (ks.map V.int))) t (ks.map V.int) := SqT.of upd_same
      generalize upd H' t (.tup (ks.map V.int)) = G at *
      refine ⟨(by show 3 ≤ sizeLine; decide), fun l4 nl4 => ?_⟩
      refine ⟨_, rfl, b, 3, _, rfl, b9.new nl4, by decide, by decide, by omega, fun r4 HA r40 r41 bA tA => ?_⟩
      have TA := (T9.trans (But.new (b := b) (o := .lst [.int 0, .int 100, .ref t]) nl4)).trans tA
      have hTA := (b9.new (o := .lst [.int 0, .int 100, .ref t]) nl4).seqT tA (seqT_same (same_new nl4) hT)
      obtain ⟨kv, hkv, hk3⟩ := pick3v (x := .int 0) (y := .int 100) (z := .ref t) r40 r41
      refine ⟨l4, _, _, _, rfl, rfl, SqL.of (tA _ _ (b9.ne nl4) upd_same), hkv, ?_⟩
      have hK : ∃ (ks' : List Int) (kd : PyData), Keep K HA p ks' kv kd := by
        rcases hk3 with rfl | rfl | rfl
        · exact ⟨_, _, .one 0 (by decide) (by decide) rfl⟩
        · exact ⟨_, _, .one 100 (by decide) (by decide) rfl⟩
        · exact ⟨ks, _, .all t hTA (by omega) hkb⟩
      obtain ⟨ks', kd, hK⟩ := hK
      refine ⟨_, rfl, _, rfl, _, rfl, _, rfl, b, 2, _, rfl, bA, by decide, by decide, by omega, fun r5 HB r50 r51 bB tB => ?_⟩
      refine ⟨rfl, _, rfl, _, rfl, _, rfl, b, 101, _, rfl, bB, by decide, by decide, by omega, fun fi HC fi0 fi1 bC tC => ?_⟩
      refine ⟨_, rfl, b, 31, _, rfl, bC, by decide, by decide, by omega, fun fa HD fa0 fa1 bD tD => ?_⟩
      refine ⟨(by show 9 ≤ sizeLine; decide), fun t9 nt9 => ?_⟩
      have TD := ((TA.trans tB).trans tC).trans tD
      have hKD := bC.keep tD (bB.keep tC (bA.keep tB hK))
      have hF : Figs p s' g' m fi fa 0 := ⟨p0, p1, s0, s1, g0, g1, m0, by omega, fi0, by omega, fa0, by omega, by decide, by decide⟩
      refine q _ t9 ⟨p, s', g', decide (V.int r5 = V.int 1), m, ks', fi, fa, 0⟩ kv kd ((bD.mono (by omega)).new nt9) (TD.trans (But.new nt9)) ⟨SqT.of upd_same, hF, hKD.same (same_new nt9)⟩ ?_
      cases e : H t9 with
      | none => rfl
      | some o =>
        have hnb : t9 ≠ b := bD.ne nt9
        rw [TD _ _ hnb e] at nt9
        cases nt9
/-! ### _law_rule -/
abbrev s__law_rule : Stmt := topS 25
abbrev N__law_rule : List Str := ["_law_figures", "_law_some"]
theorem sc__law_rule : FnScope N__law_rule ["_law_figures"] (defScope s__law_rule) := ⟨rfl, rfl, rfl, by decide +kernel, rfl, by decide +kernel, by decide +kernel⟩
def sp__law_rule (K : PySem.W.Frag) (C : Addr) : Sp := fun vs H Q _ => ∃ (t : Addr) (f : Fg) (kv : V) (kd : PyData), vs = [.ref t] ∧ Drawn K H t f kv kd ∧ ∀ H' r, H r = none → Same H H' → RuleAt K H' C r f → Q (.ref r) H'
theorem ok__law_rule {f : Addr} {fd : FuncData} (F : Fun K "_law_rule" "_law_rule" s__law_rule f fd) (g : mg "_law_rule" = some (.ref f)) (bd : Binds K fd ["_law_figures"] []) {CR : Addr} (T_Rule : TRule K mg CR) (M_Rule : CMk P w K mg base CR 4 "Rule" ["self", "parts", "step", "grace", "last", "misses", "keep", "fine", "falls", "back"] [] (sp_Rule___init__ K CR)) : CF P w K mg base 6 "_law_rule" ["_law_figures"] (sp__law_rule K CR) := by
  refine ⟨f, fd, F.ok sc__law_rule (fun vs H Q E h => ?_) (fun cdv A outer s H vs Q E hr h => ?_), g, F.kp, bd⟩
  · first | (obtain ⟨_, rfl, _⟩ := h; rfl) | (obtain ⟨_, _, rfl, _⟩ := h; rfl) | (obtain ⟨_, _, _, rfl, _⟩ := h; rfl) | (obtain ⟨_, _, _, _, rfl, _⟩ := h; rfl) | (obtain ⟨_, _, _, _, _, rfl, _⟩ := h; rfl) | (obtain ⟨_, _, _, _, _, _, rfl, _⟩ := h; rfl) | (obtain ⟨_, _, _, _, _, _, _, rfl, _⟩ := h; rfl)
  · have hu64 := hr.units
    obtain ⟨t, f', kv, kd, rfl, ⟨hT0, hF, hk0⟩, q⟩ := h
    refine ⟨_, (pss_cons (ps_set (i := 1) sc__law_rule.nd rfl (.inl rfl) (pe_slice (kk_slt K) (pv 0) (po_some pe_int) po_none))
      (pss_one (ps_ret (pe_mkc M_Rule (hr.mono (by decide)) (by rfl) (pa_cons (pe_ix (kk_ixt K) (pv 0) pe_int (fun _ _ => rfl)) (pa_cons (pe_ix (kk_ixt K) (pv 0) pe_int (fun _ _ => rfl)) (pa_cons (pe_ix (kk_ixt K) (pv 0) pe_int (fun _ _ => rfl)) (pa_cons (pe_ix (kk_ixt K) (pv 0) pe_int (fun _ _ => rfl)) (pa_cons (pe_ix (kk_ixt K) (pv 0) pe_int (fun _ _ => rfl)) (pa_cons (pe_ix (kk_ixt K) (pv 1) pe_int (fun _ _ => rfl)) (pa_cons (pe_ix (kk_ixt K) (pv 1) pe_int (fun _ _ => rfl)) (pa_cons (pe_ix (kk_ixt K) (pv 1) pe_int (fun _ _ => rfl)) (pa_cons (pe_ix (kk_ixt K) (pv 1) pe_int (fun _ _ => rfl)) pa_nil))))))))))))), ?_⟩
    refine ⟨_, rfl, _, rfl, t, _, rfl, hT0, (by show ¬ (HT.sIx 9 0 (some 5) = 0 ∧ HT.sIx 9 9 none = 9); decide), fun u nu => ?_⟩
    have su := same_new (o := .tup (cutV [V.int f'.p, .int f'.s, .int f'.g, .bl f'.l, .int f'.m, kv, .int f'.fi, .int f'.fa, .int f'.ba] (some 5) none)) nu
    have hT := seqT_same su hT0
    have hk := hk0.same su
    have hU : SqT K _ u [kv, .int f'.fi, .int f'.fa, .int f'.ba] := SqT.of (upd_same (H := H) (a := u) (o := .tup (cutV [V.int f'.p, .int f'.s, .int f'.g, .bl f'.l, .int f'.m, kv, .int f'.fi, .int f'.fa, .int f'.ba] (some 5) none)))
    generalize upd H u (.tup (cutV [V.int f'.p, .int f'.s, .int f'.g, .bl f'.l, .int f'.m, kv, .int f'.fi, .int f'.fa, .int f'.ba] (some 5) none)) = G at *
    refine ⟨_, rfl, t, _, _, _, rfl, rfl, hT, rfl, _, rfl, t, _, _, _, rfl, rfl, hT, rfl, _, rfl, t, _, _, _, rfl, rfl, hT, rfl, _, rfl, t, _, _, _, rfl, rfl, hT, rfl, _, rfl, t, _, _, _, rfl, rfl, hT, rfl, _, rfl, u, _, _, _, rfl, rfl, hU, rfl, _, rfl, u, _, _, _, rfl, rfl, hU, rfl, _, rfl, u, _, _, _, rfl, rfl, hU, rfl, _, rfl, u, _, _, _, rfl, rfl, hU, rfl, ?_⟩
    intro x dx nx ndx hne
    have sx : Same G (upd (upd G dx (.own x)) x (.ins CR dx [])) := (same_new ndx).trans (same_new (by rw [upd_ne hne.symm]; exact nx))
    exact ⟨x, dx, _, _, _, _, _, kv, kd, f'.ks, _, _, _, rfl, upd_same, hF, hk.same sx, fun H' kt hb e hs => ⟨rfl, q H' x (none_of su nx) (su.trans (same_but sx nx hb)) ⟨dx, kt, e, hs⟩⟩⟩
/-! ### _law_by_days -/
abbrev s__law_by_days : Stmt := topS 26
abbrev N__law_by_days : List Str := ["_law_figures", "_law_days_here", "_law_end", "_law_parts", "_law_step", "_law_grace", "_law_is_last", "_law_misses", "_law_due_here", "_law_paid", "_law_missed", "_law_at", "_law_day"]
theorem sc__law_by_days : FnScope N__law_by_days ["_law_figures", "_law_days_here", "_law_end"] (defScope s__law_by_days) := ⟨rfl, rfl, rfl, by decide +kernel, rfl, by decide +kernel, by decide +kernel⟩
def sp__law_by_days (K : PySem.W.Frag) : Sp := fun vs H Q _ => ∃ (t a : Addr) (e : Int) (f : Fg) (kv : V) (kd : PyData) (ds : List Int), vs = [.ref t, .ref a, .int e] ∧ Drawn K H t f kv kd ∧ SqL K H a (ds.map V.int) ∧ Rise ds ∧ (∀ d ∈ ds, 0 ≤ d) ∧ 0 ≤ e ∧ e < 100000 ∧ ∀ H' b, Same H H' → StAt K H' b (courseT f.p f.s f.g f.l f.m ds e) → Q (.ref b) H'
theorem ok__law_by_days {f : Addr} {fd : FuncData} (F : Fun K "_law_by_days" "_law_by_days" s__law_by_days f fd) (g : mg "_law_by_days" = some (.ref f)) (bd : Binds K fd ["_law_figures", "_law_days_here", "_law_end"] []) (m_range : mg "range" = none) (m_len : mg "len" = none) : CF P w K mg base 1 "_law_by_days" ["_law_figures", "_law_days_here", "_law_end"] (sp__law_by_days K) := by
  refine ⟨f, fd, F.ok sc__law_by_days (fun vs H Q E h => ?_) (fun cdv A outer s H vs Q E hr h => ?_), g, F.kp, bd⟩
  · first | (obtain ⟨_, rfl, _⟩ := h; rfl) | (obtain ⟨_, _, rfl, _⟩ := h; rfl) | (obtain ⟨_, _, _, rfl, _⟩ := h; rfl) | (obtain ⟨_, _, _, _, rfl, _⟩ := h; rfl) | (obtain ⟨_, _, _, _, _, rfl, _⟩ := h; rfl) | (obtain ⟨_, _, _, _, _, _, rfl, _⟩ := h; rfl) | (obtain ⟨_, _, _, _, _, _, _, rfl, _⟩ := h; rfl)
  · have hu64 := hr.units
    obtain ⟨t, a, e, f', kv, kd, ds, rfl, hD, hS, hrise, hpos, e0, e1, q⟩ := h
    refine ⟨_, (pss_cons (ps_asg (pe_slice (kk_slt K) (pv 0) po_none (po_some pe_int)) (pg_tup (by rfl) (pgs_cons (pg_name (i := 3) sc__law_by_days.nd rfl (.inl rfl)) (pgs_cons (pg_name (i := 4) sc__law_by_days.nd rfl (.inl rfl)) (pgs_cons (pg_name (i := 5) sc__law_by_days.nd rfl (.inl rfl)) (pgs_cons (pg_name (i := 6) sc__law_by_days.nd rfl (.inl rfl)) (pgs_cons (pg_name (i := 7) sc__law_by_days.nd rfl (.inl rfl)) pgs_nil)))))))
      (pss_cons (ps_asg (pe_tup (pa_cons pe_int (pa_cons pe_int (pa_cons pe_int (pa_cons pe_int pa_nil))))) (pg_tup (by rfl) (pgs_cons (pg_name (i := 8) sc__law_by_days.nd rfl (.inl rfl)) (pgs_cons (pg_name (i := 9) sc__law_by_days.nd rfl (.inl rfl)) (pgs_cons (pg_name (i := 10) sc__law_by_days.nd rfl (.inl rfl)) (pgs_cons (pg_name (i := 11) sc__law_by_days.nd rfl (.inl rfl)) pgs_nil))))))
      (pss_cons (ps_for PassesOwn.never rfl (pi_range1 (by rfl) m_range (pa_cons (pe_op op_add (pv 2) pe_int) pa_nil)) (pg_name (i := 12) sc__law_by_days.nd rfl (.inl rfl))
         (pss_cons (ps_if (PW.pt (pw_and (pt_cmpR op_eq (pv 12) (pe_op op_add (pe_op op_add (pv 8) (pv 5)) pe_int) (nomark _)) (pw_and1 (pt_cmpR op_eq (pv 10) (pv 7) (nomark _)))))
             (pss_one (ps_ret (pe_tup (pa_cons pe_str (pa_cons (pv 12) (pa_cons (pv 9) (pa_cons (pv 10) pa_nil)))))))
             pss_nil)
          (pss_cons (ps_if (pt_cmpR op_eq (pv 12) (pe_op op_add (pe_op op_add (pv 8) (pv 5)) pe_int) (nomark _))
             (pss_one (ps_par (i := 8) (j := 10) (by rfl) sc__law_by_days.nd rfl rfl (by decide) rfl rfl (pa_cons (pe_op op_add (pv 8) (pv 4)) (pa_cons (pe_op op_add (pv 10) pe_int) pa_nil)) (by rfl)))
             pss_nil)
          (pss_one (ps_while PassesOwn.never (PW.pt (pw_and (pt_cmpR op_lt (pv 11) (pe_callB (kk_len K) (by rfl) m_len PySem.boot_len (pa_cons (pv 1) pa_nil)) (nomark _)) (pw_and1 (pt_cmpR op_eq (pe_ix (kk_ixl K) (pv 1) (pv 11) (fun _ _ => rfl)) (pv 12) (nomark _)))))
             (pss_cons (ps_par3 (i := 11) (j := 9) (l := 8) (by rfl) sc__law_by_days.nd rfl rfl rfl (by decide) (by decide) (by decide) rfl rfl rfl (pa_cons (pe_op op_add (pv 11) pe_int) (pa_cons (pe_op op_add (pv 9) pe_int) (pa_cons (pe_op op_add (pe_ifExp (pt_val (pv 6)) (pv 12) (pv 8)) (pv 4)) pa_nil))) (by rfl))
              (pss_one (ps_if (pt_cmpR op_eq (pv 9) (pv 3) (nomark _))
                 (pss_one (ps_ret (pe_tup (pa_cons pe_str (pa_cons (pv 12) (pa_cons (pv 9) (pa_cons (pv 10) pa_nil)))))))
                 pss_nil))))))))
      (pss_one (ps_ret (pe_tup (pa_cons pe_str (pa_cons (pv 8) (pa_cons (pv 9) (pa_cons (pv 10) pa_nil)))))))))), ?_⟩
    have ok := hD.ok
    have p0 := ok.figs.p0
    have s0 := ok.figs.s0
    have g0 := ok.figs.g0
    have m0 := ok.figs.m0
    refine ⟨_, rfl, _, rfl, t, _, rfl, hD.1, (by show ¬ (HT.sIx 9 0 none = 0 ∧ HT.sIx 9 9 (some 5) = 9); decide), fun u nu => ?_⟩
    refine ⟨u, _, rfl, SqT.of upd_same, rfl, _, _, rfl, _, _, rfl, _, _, rfl, _, _, rfl, _, _, rfl, rfl, ?_⟩
    have sG := same_new (o := .tup (cutV [V.int f'.p, .int f'.s, .int f'.g, .bl f'.l, .int f'.m, kv, .int f'.fi, .int f'.fa, .int f'.ba] none (some 5))) nu
    generalize upd H u (.tup (cutV [V.int f'.p, .int f'.s, .int f'.g, .bl f'.l, .int f'.m, kv, .int f'.fi, .int f'.fa, .int f'.ba] none (some 5))) = G at *
    refine ⟨(by show 4 ≤ sizeLine; decide), fun v nv => ?_⟩
    refine ⟨v, _, rfl, SqT.of upd_same, rfl, _, _, rfl, _, _, rfl, _, _, rfl, _, _, rfl, rfl, ?_⟩
    have sV := sG.trans (same_new (o := .tup [.int 0, .int 0, .int 0, .int 0]) nv)
    generalize upd G v (.tup [.int 0, .int 0, .int 0, .int 0]) = G2 at *
    have hS2 := sV.seq hS
    refine ⟨_, rfl, _, _, rfl, rfl, _, rfl, by omega, by omega, for_range (fun D σ H' => ∃ (x pd m : Int) (at_ : Nat) (s12 : Option V), σ = [some (.ref t), some (.ref a), some (.int e), some (.int f'.p), some (.int f'.s), some (.int f'.g), some (.bl f'.l), some (.int f'.m), some (.int x), some (.int pd), some (.int m), some (.int at_), s12] ∧ H' = G2 ∧ at_ ≤ ds.length ∧ m ≤ f'.m ∧ (D : Int) ≤ x + f'.g + 1 ∧ (∀ d ∈ ds.drop at_, (D : Int) ≤ d) ∧ remT f'.p f'.s f'.g f'.l f'.m e (ds.drop at_) ⟨.st, x, pd, m⟩ = courseT f'.p f'.s f'.g f'.l f'.m ds e) ⟨0, 0, 0, 0, _, rfl, rfl, by omega, m0, by omega, fun d hd => hpos d (List.mem_of_mem_drop hd), rfl⟩ (fun D σ H' hDn h => ?_) (fun σ H' h => ?_)⟩
    · obtain ⟨x, pd, m, at_, s12, rfl, rfl, hat, hm, hx, hge, hrem⟩ := h
      rw [Int.zero_add]
      have hDe : (D : Int) ≤ e := by omega
      have loop : ∀ (x m : Int), m ≤ f'.m → (D : Int) ≤ x + f'.g → remT f'.p f'.s f'.g f'.l f'.m e (ds.drop at_) ⟨.st, x, pd, m⟩ = courseT f'.p f'.s f'.g f'.l f'.m ds e → ∀ (E0 : Ends), (∀ (x pd m : Int) (at_ : Nat), at_ ≤ ds.length → m ≤ f'.m → ((D + 1 : Nat) : Int) ≤ x + f'.g + 1 → (∀ d ∈ ds.drop at_, ((D + 1 : Nat) : Int) ≤ d) → remT f'.p f'.s f'.g f'.l f'.m e (ds.drop at_) ⟨.st, x, pd, m⟩ = courseT f'.p f'.s f'.g f'.l f'.m ds e → E0.nx [some (.ref t), some (.ref a), some (.int e), some (.int f'.p), some (.int f'.s), some (.int f'.g), some (.bl f'.l), some (.int f'.m), some (.int x), some (.int pd), some (.int m), some (.int at_), some (.int D)] H') → (∀ b H2, Same H' H2 → StAt K H2 b (courseT f'.p f'.s f'.g f'.l f'.m ds e) → E0.rt (.ref b) H2) →
          tWhile (tAnd (tTest (tOp (rI0 fun i j => V.bl (decide (i < j))) (tVar 11) (tCB (fun xs H Q => ∃ p ys, xs = [V.ref p] ∧ (SqL K H p ys ∨ SqT K H p ys) ∧ Q (V.int ys.length) H) (tCons (tVar 1) tNil)))) (tTest (tOp rEq (tOp (rIxL K) (tVar 1) (tVar 11)) (tVar 12))))
            (tSeq (tPar3 11 9 8 (tCons (tOp (rI0 fun i j => V.int (i + j)) (tVar 11) (tC (V.int 1))) (tCons (tOp (rI0 fun i j => V.int (i + j)) (tVar 9) (tC (V.int 1))) (tCons (tOp (rI0 fun i j => V.int (i + j)) (tIf (tB (tVar 6)) (tVar 12) (tVar 8)) (tVar 4)) tNil))))
              (tIfS (tTest (tOp rEq (tVar 9) (tVar 3))) (tRet (tTup (tCons (tC (V.str (Str.ofString "sold"))) (tCons (tVar 12) (tCons (tVar 9) (tCons (tVar 10) tNil)))))) tNext)) E0
            [some (.ref t), some (.ref a), some (.int e), some (.int f'.p), some (.int f'.s), some (.int f'.g), some (.bl f'.l), some (.int f'.m), some (.int x), some (.int pd), some (.int m), some (.int at_), some (.int D)] H' := fun x m hm hx hrem E0 hnx hrt => by
        refine ⟨fun n σ H2 => ∃ (x pd m : Int) (at_ : Nat), σ = [some (.ref t), some (.ref a), some (.int e), some (.int f'.p), some (.int f'.s), some (.int f'.g), some (.bl f'.l), some (.int f'.m), some (.int x), some (.int pd), some (.int m), some (.int at_), some (.int D)] ∧ H2 = H' ∧ at_ ≤ ds.length ∧ n = ds.length - at_ ∧ m ≤ f'.m ∧ (D : Int) ≤ x + f'.g ∧ (∀ d ∈ ds.drop at_, (D : Int) ≤ d) ∧ remT f'.p f'.s f'.g f'.l f'.m e (ds.drop at_) ⟨.st, x, pd, m⟩ = courseT f'.p f'.s f'.g f'.l f'.m ds e, ⟨_, x, pd, m, at_, rfl, rfl, hat, rfl, hm, hx, hge, hrem⟩, fun n σ H2 h => ?_⟩
        obtain ⟨x, pd, m, at_, rfl, rfl, hat, hn, hm, hx, hge, hrem⟩ := h
        refine ⟨_, rfl, _, rfl, a, _, rfl, .inl hS2, _, _, rfl, rfl, _, rfl, ite2 (fun z => ?_) (fun z => ?_)⟩
        · have z1 : (at_ : Int) < ((ds.map V.int).length : Nat) := of_decide_eq_true z
          rw [List.length_map] at z1
          have z2 : at_ < ds.length := by omega
          have hdr : ds.drop at_ = ds[at_] :: ds.drop (at_ + 1) := List.drop_eq_getElem_cons z2
          refine ⟨_, rfl, _, rfl, a, _, _, _, rfl, rfl, hS2, atI_nat (by rw [List.getElem?_map, List.getElem?_eq_getElem z2]; rfl), _, rfl, rfl, _, rfl, ite2 (fun y => ?_) (fun y => ?_)⟩
          · have y1 : ds[at_] = (D : Int) := V.int.inj (of_decide_eq_true y)
            rw [hdr, y1] at hrem
            have hge2 : ∀ d ∈ ds.drop (at_ + 1), (D : Int) ≤ d := fun d hd => hge d (by rw [hdr]; exact List.mem_cons_of_mem _ hd)
            refine ⟨_, fun σ2 H3 h3 => ⟨ds.length - (at_ + 1), by omega, h3⟩, ?_⟩
            refine ⟨_, rfl, _, _, rfl, rfl, _, rfl, _, _, rfl, rfl, _, rfl, _, rfl, ?_⟩
            have tail : ∀ dd : Int, dd = (if f'.l then (D : Int) else x) → ∀ E1 : Ends, (∀ σ2 H3, (∃ (x pd m : Int) (at_' : Nat), σ2 = [some (.ref t), some (.ref a), some (.int e), some (.int f'.p), some (.int f'.s), some (.int f'.g), some (.bl f'.l), some (.int f'.m), some (.int x), some (.int pd), some (.int m), some (.int at_'), some (.int D)] ∧ H3 = H2 ∧ at_' ≤ ds.length ∧ ds.length - (at_ + 1) = ds.length - at_' ∧ m ≤ f'.m ∧ (D : Int) ≤ x + f'.g ∧ (∀ d ∈ ds.drop at_', (D : Int) ≤ d) ∧ remT f'.p f'.s f'.g f'.l f'.m e (ds.drop at_') ⟨.st, x, pd, m⟩ = courseT f'.p f'.s f'.g f'.l f'.m ds e) → E1.nx σ2 H3) → (∀ b H2', Same H2 H2' → StAt K H2' b (courseT f'.p f'.s f'.g f'.l f'.m ds e) → E1.rt (.ref b) H2') → (tIfS (tTest (tOp rEq (tVar 9) (tVar 3))) (tRet (tTup (tCons (tC (V.str (Str.ofString "sold"))) (tCons (tVar 12) (tCons (tVar 9) (tCons (tVar 10) tNil)))))) tNext) E1 [some (.ref t), some (.ref a), some (.int e), some (.int f'.p), some (.int f'.s), some (.int f'.g), some (.bl f'.l), some (.int f'.m), some (.int (dd + f'.s)), some (.int (pd + 1)), some (.int m), some (.int (at_ + 1)), some (.int D)] H2 := fun dd hdd E1 h1 h2 => by
              refine ⟨_, rfl, _, rfl, rfl, _, rfl, ite2 (fun w => ?_) (fun w => ?_)⟩
              · have w1 : pd + 1 = f'.p := V.int.inj (of_decide_eq_true w)
                refine ⟨_, rfl, _, rfl, _, rfl, (by show 4 ≤ sizeLine; decide), fun u2 nu2 => h2 _ _ (same_new nu2) ?_⟩
                rw [← hrem, rem_sold hx hDe w1]
                exact SqT.of upd_same
              · have w1 : pd + 1 ≠ f'.p := fun y => w (decide_eq_true (by rw [y]))
                refine h1 _ _ ⟨dd + f'.s, pd + 1, m, at_ + 1, rfl, rfl, by omega, rfl, hm, ?_, hge2, ?_⟩
                · rw [hdd]
                  split <;> omega
                · rw [← hrem, rem_paid hx hDe w1, hdd]
            cases hl : f'.l with
            | true =>
              refine iteT ⟨_, rfl, _, rfl, _, _, rfl, rfl, _, _, _, rfl, ?_⟩
              exact hl ▸ tail D (by rw [hl]; rfl) _ (fun _ _ h => hl ▸ h) hrt
            | false =>
              refine iteF ⟨_, rfl, _, rfl, _, _, rfl, rfl, _, _, _, rfl, ?_⟩
              exact hl ▸ tail x (by rw [hl]; rfl) _ (fun _ _ h => hl ▸ h) hrt
          · have y1 : ds[at_] ≠ (D : Int) := fun y' => y (decide_eq_true (by rw [y']))
            refine hnx x pd m at_ hat hm (by omega) (fun d hd => ?_) hrem
            have h1 := hge ds[at_] (by rw [hdr]; exact List.mem_cons_self)
            have h2 : ds[at_] ≤ d := by
              rw [hdr] at hd
              have hp : Rise (ds.drop at_) := hrise.sublist (List.drop_sublist _ _)
              rw [hdr] at hp
              rcases List.mem_cons.mp hd with h | h
              · omega
              · exact (List.pairwise_cons.mp hp).1 d h
            omega
        · have z1 : ¬ (at_ : Int) < ((ds.map V.int).length : Nat) := fun y => z (decide_eq_true y)
          rw [List.length_map] at z1
          refine iteF (hnx x pd m at_ hat hm (by omega) (fun d hd => ?_) hrem)
          rw [List.drop_eq_nil_of_le (by omega)] at hd
          cases hd
      refine ⟨_, rfl, _, rfl, _, rfl, _, _, rfl, rfl, _, _, rfl, rfl, rfl, _, rfl, ite2 (fun z => ?_) (fun z => ?_)⟩
      · have z1 : (D : Int) = x + f'.g + 1 := V.int.inj (of_decide_eq_true z)
        refine ⟨_, rfl, _, rfl, rfl, _, rfl, ite2 (fun y => ?_) (fun y => ?_)⟩
        · have y1 : m = f'.m := V.int.inj (of_decide_eq_true y)
          refine ⟨_, rfl, _, rfl, _, rfl, (by show 4 ≤ sizeLine; decide), fun w nw => ?_⟩
          refine q _ w (sV.trans (same_new nw)) ?_
          rw [← hrem, y1, rem_gone (D := D) (by omega) hDe _ hge, ← z1]
          subst y1
          exact SqT.of upd_same
        · have y1 : m ≠ f'.m := fun y' => y (decide_eq_true (by rw [y']))
          refine ⟨_, rfl, _, rfl, _, rfl, _, _, rfl, rfl, _, _, rfl, rfl, rfl, _, rfl, iteY (by show V.int D = V.int (x + f'.g + 1); rw [z1]) ?_⟩
          refine ⟨_, rfl, _, rfl, _, _, rfl, rfl, _, rfl, _, _, rfl, rfl, _, _, rfl, ?_⟩
          exact loop (x + f'.s) (m + 1) (by omega) (by omega) (by rw [← hrem]; exact (rem_miss (D := D) (by omega) hDe (by omega) _ hge).symm) _ (fun x pd m at_ h1 h2 h3 h4 h5 => ⟨x, pd, m, at_, _, rfl, rfl, h1, h2, h3, h4, h5⟩) (fun b H2 s2 h2 => q _ _ (sV.trans s2) h2)
      · have z1 : (D : Int) ≠ x + f'.g + 1 := fun y => z (decide_eq_true (by show V.int D = V.int (x + f'.g + 1); rw [y]))
        refine iteF ?_
        refine ⟨_, rfl, _, rfl, _, rfl, _, _, rfl, rfl, _, _, rfl, rfl, rfl, _, rfl, iteN (fun y => z1 (V.int.inj y)) ?_⟩
        exact loop x m hm (by omega) hrem _ (fun x pd m at_ h1 h2 h3 h4 h5 => ⟨x, pd, m, at_, _, rfl, rfl, h1, h2, h3, h4, h5⟩) (fun b H2 s2 h2 => q _ _ (sV.trans s2) h2)
    · obtain ⟨x, pd, m, at_, s12, rfl, rfl, hat, hm, hx, hge, hrem⟩ := h
      refine ⟨_, rfl, _, rfl, _, rfl, (by show 4 ≤ sizeLine; decide), fun w nw => ?_⟩
      refine q _ w (sV.trans (same_new nw)) ?_
      rw [← hrem, rem_end (by omega) _ (fun d hd => by have := hge d hd; omega)]
      exact SqT.of upd_same
/-! ### _law_days -/
abbrev s__law_days : Stmt := topS 27
abbrev N__law_days : List Str := ["_law_box_here", "_law_figures", "_law_many", "_law_found", "_law_day", "_law_k", "_law_step", "_law_grace", "_law_some"]
theorem sc__law_days : FnScope N__law_days ["_law_box_here", "_law_figures", "_law_many"] (defScope s__law_days) := ⟨rfl, rfl, rfl, by decide +kernel, rfl, by decide +kernel, by decide +kernel⟩
def sp__law_days (K : PySem.W.Frag) : Sp := fun vs H Q _ => ∃ (b t : Addr) (many n : Int) (f : Fg) (kv : V) (kd : PyData), vs = [.ref b, .ref t, .int many] ∧ Box H b n ∧ n < 1000000 ∧ Drawn K H t f kv kd ∧ 0 ≤ many ∧ many ≤ 40 ∧
  ∀ H' D ds, Box H' b (n + 3 * many) → But b H H' → H D = none → D ≠ b → H' D = some (.lst (ds.map V.int)) → (ds.length : Int) = many → Rise ds → (∀ d ∈ ds, 0 ≤ d ∧ d ≤ 400) → Q (.ref D) H'
theorem ok__law_days {f : Addr} {fd : FuncData} (F : Fun K "_law_days" "_law_days" s__law_days f fd) (g : mg "_law_days" = some (.ref f)) (bd : Binds K fd ["_law_box_here", "_law_figures", "_law_many"] []) (m_range : mg "range" = none) (m_min : mg "min" = none) (C__law_take : CF P w K mg base 1 "_law_take" ["_law_box_here", "_law_many"] (sp__law_take K)) : CF P w K mg base 2 "_law_days" ["_law_box_here", "_law_figures", "_law_many"] (sp__law_days K) := by
  refine ⟨f, fd, F.ok sc__law_days (fun vs H Q E h => ?_) (fun cdv A outer s H vs Q E hr h => ?_), g, F.kp, bd⟩
  · first | (obtain ⟨_, rfl, _⟩ := h; rfl) | (obtain ⟨_, _, rfl, _⟩ := h; rfl) | (obtain ⟨_, _, _, rfl, _⟩ := h; rfl) | (obtain ⟨_, _, _, _, rfl, _⟩ := h; rfl) | (obtain ⟨_, _, _, _, _, rfl, _⟩ := h; rfl) | (obtain ⟨_, _, _, _, _, _, rfl, _⟩ := h; rfl) | (obtain ⟨_, _, _, _, _, _, _, rfl, _⟩ := h; rfl)
  · have hu64 := hr.units
    obtain ⟨b, t, many, n, f', kv, kd, rfl, hb, hn, hD, m0, m1, q⟩ := h
    refine ⟨_, (pss_cons (ps_par (i := 3) (j := 4) (by rfl) sc__law_days.nd rfl rfl (by decide) rfl rfl (pa_cons (pe_lst pa_nil) (pa_cons pe_int pa_nil)) (by rfl))
      (pss_cons (ps_for PassesOwn.never rfl (pi_range1 (by rfl) m_range (pa_cons (pv 2) pa_nil)) (pg_name (i := 5) sc__law_days.nd rfl (.inl rfl))
         (pss_cons (ps_par (i := 6) (j := 7) (by rfl) sc__law_days.nd rfl rfl (by decide) rfl rfl (pa_cons (pe_ix (kk_ixt K) (pv 1) pe_int (fun _ _ => rfl)) (pa_cons (pe_ix (kk_ixt K) (pv 1) pe_int (fun _ _ => rfl)) pa_nil)) (by rfl))
          (pss_cons (ps_set (i := 8) sc__law_days.nd rfl (.inl rfl) (pe_lst (pa_cons pe_int (pa_cons (pv 6) (pa_cons (pv 6) (pa_cons (pv 7) (pa_cons (pe_op op_add (pv 7) pe_int) (pa_cons (pe_op op_add (pv 6) (pv 7)) (pa_cons (pe_op op_sub (pv 6) pe_int) (pa_cons pe_int (pa_cons (pe_cf C__law_take (hr.mono (by decide)) (by rfl) (pa_cons (pv 0) (pa_cons pe_int pa_nil))) (pa_cons (pe_cf C__law_take (hr.mono (by decide)) (by rfl) (pa_cons (pv 0) (pa_cons pe_int pa_nil))) pa_nil))))))))))))
          (pss_cons (ps_set (i := 4) sc__law_days.nd rfl (.inl rfl) (pe_callB (call_min2 rfl) (by rfl) m_min (by decide +kernel) (pa_cons pe_int (pa_cons (pe_op op_add (pv 4) (pe_ix (kk_ixl K) (pv 8) (pe_cf C__law_take (hr.mono (by decide)) (by rfl) (pa_cons (pv 0) (pa_cons pe_int pa_nil))) (fun _ _ => rfl))) pa_nil))))
          (pss_one (ps_expr (pe_bm PySem.F.plainAttrs_list PySem.F.slot_list_append PySem.F.type_list_append mt_append (pv 3) (pa_cons (pv 4) pa_nil))))))))
      (pss_one (ps_ret (pv 3))))), ?_⟩
    have ok := hD.ok
    have s0 := ok.figs.s0
    have s1 := ok.figs.s1
    have g0 := ok.figs.g0
    have g1 := ok.figs.g1
    refine ⟨(by show 0 ≤ sizeLine; decide), fun D nD => ⟨_, _, rfl, ?_⟩⟩
    have sD := same_new (o := .lst []) nD
    have nb : D ≠ b := hb.ne nD
    refine ⟨_, rfl, _, rfl, by omega, by omega, for_range (fun k σ H' => ∃ (ds : List Int) (day : Int) (s5 s6 s7 s8 : Option V), σ = [some (.ref b), some (.ref t), some (.int many), some (.ref D), some (.int day), s5, s6, s7, s8] ∧ ds.length = k ∧ H' D = some (.lst (ds.map V.int)) ∧ Rise ds ∧ (∀ d ∈ ds, 0 ≤ d ∧ d ≤ day) ∧ 0 ≤ day ∧ day ≤ 400 ∧ Box H' b (n + 3 * k) ∧ But b H H') ⟨[], 0, _, _, _, _, rfl, rfl, upd_same, .nil, fun _ h => (nomatch h), by decide, by decide, (hb.same sD).mono (by omega), But.of sD⟩ (fun k σ H' hk h => ?_) (fun σ H' h => ?_)⟩
    · obtain ⟨ds, day, s5, s6, s7, s8, rfl, hlen, hDl, hr, hbd, d0, d1, hB, hT⟩ := h
      have hD' := hb.drawn hT hD
      refine ⟨_, rfl, t, _, _, _, rfl, rfl, hD'.1, rfl, _, rfl, t, _, _, _, rfl, rfl, hD'.1, rfl, _, _, rfl, ?_⟩
      refine ⟨_, rfl, _, rfl, _, rfl, _, rfl, _, _, rfl, rfl, _, rfl, _, rfl, _, _, rfl, rfl, _, rfl, _, _, rfl, rfl, _, rfl, b, 20, _, rfl, hB, by decide, by decide, by omega, fun x H1 x0 x1 b1 t1 => ?_⟩
      refine ⟨_, rfl, b, 90, _, rfl, b1, by decide, by decide, by omega, fun y H2 y0 y1 b2 t2 => ⟨(by show 10 ≤ sizeLine; decide), fun l nl => ?_⟩⟩
      have hl := upd_same (H := H2) (a := l) (o := .lst ([0, f'.s, f'.s, f'.g, f'.g + 1, f'.s + f'.g, f'.s - 1, 1, x, y].map V.int))
      have sl := same_new (o := .lst ([0, f'.s, f'.s, f'.g, f'.g + 1, f'.s + f'.g, f'.s - 1, 1, x, y].map V.int)) nl
      have b3 := b2.same sl
      refine ⟨_, rfl, _, rfl, _, rfl, b, 10, _, rfl, b3, by decide, by decide, by omega, fun z H4 z0 z1 b4 t4 => ?_⟩
      obtain ⟨c, hc, hmem⟩ := pickL (ns := [0, f'.s, f'.s, f'.g, f'.g + 1, f'.s + f'.g, f'.s - 1, 1, x, y]) z0 (by show z < 10; exact z1)
      have hc0 : 0 ≤ c := by
        simp only [List.mem_cons, List.not_mem_nil, or_false] at hmem
        omega
      have nlb : l ≠ b := b2.ne nl
      refine ⟨l, _, _, _, rfl, rfl, SqL.of (t4 _ _ nlb hl), hc, _, _, rfl, rfl, _, _, rfl, ?_⟩
      have hD4 := t4 _ _ nb (sl _ _ (t2 _ _ nb (t1 _ _ nb hDl)))
      have T4 := (((hT.trans t1).trans t2).trans (But.of sl)).trans t4
      refine ⟨_, rfl, .inl ⟨rfl, _, SqL.of hD4⟩, _, rfl, D, _, _, rfl, rfl, hD4, ?_, ?_⟩
      · rw [List.length_map, hlen]
        exact small1000 (by omega)
      refine ⟨ds ++ [if day + c < 400 then day + c else 400], if day + c < 400 then day + c else 400, _, _, _, _, rfl, by rw [List.length_append, hlen]; rfl, by rw [upd_same, List.map_append]; rfl, ?_, ?_, by split <;> omega, by split <;> omega, (b4.mono (by omega)).upd nb, T4.updNew nD⟩
      · refine List.pairwise_append.mpr ⟨hr, List.pairwise_singleton _ _, fun u hu v hv => ?_⟩
        rw [List.mem_singleton.mp hv]
        have := hbd u hu
        split <;> omega
      · intro u hu
        rcases List.mem_append.mp hu with h | h
        · have := hbd u h
          split <;> omega
        · rw [List.mem_singleton.mp h]
          split <;> omega
    · obtain ⟨ds, day, s5, s6, s7, s8, rfl, hlen, hDl, hr, hbd, d0, d1, hB, hT⟩ := h
      exact ⟨_, rfl, q _ D ds (hB.mono (by omega)) hT nD nb hDl (by omega) hr fun d hd => by have := hbd d hd; omega⟩
def endOf (ds : List Int) : Int := ds.getLast?.getD 0
def lastV (p s g : Int) (l : Bool) (ms : Int) (ds : List Int) : V := if (courseT p s g l ms ds (endOf ds)).w = .st then .int ((courseT p s g l ms ds (endOf ds)).d + (ms - (courseT p s g l ms ds (endOf ds)).m) * s + g) else .non
theorem end_at {ds : List Int} (h : 0 < ds.length) : atI (ds.map V.int) (-1) = some (.int (endOf ds)) := by
  obtain ⟨r, x, rfl⟩ : ∃ r x, ds = r ++ [x] := ⟨ds.dropLast, ds.getLast (by intro e; rw [e] at h; simp at h), (List.dropLast_concat_getLast _).symm⟩
  rw [List.map_append]
  have e : endOf (r ++ [x]) = x := by simp [endOf]
  rw [e]
  exact atI_last _ _
/-! ### last_day_of -/
abbrev s_last_day_of : Stmt := topS 7
abbrev N_last_day_of : List Str := ["rule", "state", "word", "due", "paid", "missed"]
theorem sc_last_day_of : FnScope N_last_day_of ["rule", "state"] (defScope s_last_day_of) := ⟨rfl, rfl, rfl, by decide +kernel, rfl, by decide +kernel, by decide +kernel⟩
def lastC (s g ms : Int) (c : Cs) : V := if c.w = .st then .int (c.d + (ms - c.m) * s + g) else .non
def sp_last_day_of (K : PySem.W.Frag) (C : Addr) : Sp := fun vs H Q _ => ∃ (r b : Addr) (f : Fg) (c : Cs), vs = [.ref r, .ref b] ∧ RuleAt K H C r f ∧ f.Ok ∧ StAt K H b c ∧ ∀ H', Same H H' → Q (lastC f.s f.g f.m c) H'
theorem ok_last_day_of {f : Addr} {fd : FuncData} (F : Fun K "last_day_of" "last_day_of" s_last_day_of f fd) (g : mg "last_day_of" = some (.ref f)) (bd : Binds K fd ["rule", "state"] []) {CR : Addr} (T_Rule : TRule K mg CR) : CF P w K mg base 1 "last_day_of" ["rule", "state"] (sp_last_day_of K CR) := by
  refine ⟨f, fd, F.ok sc_last_day_of (fun vs H Q E h => ?_) (fun cdv A outer s H vs Q E hr h => ?_), g, F.kp, bd⟩
  · first | (obtain ⟨_, rfl, _⟩ := h; rfl) | (obtain ⟨_, _, rfl, _⟩ := h; rfl) | (obtain ⟨_, _, _, rfl, _⟩ := h; rfl) | (obtain ⟨_, _, _, _, rfl, _⟩ := h; rfl) | (obtain ⟨_, _, _, _, _, rfl, _⟩ := h; rfl) | (obtain ⟨_, _, _, _, _, _, rfl, _⟩ := h; rfl) | (obtain ⟨_, _, _, _, _, _, _, rfl, _⟩ := h; rfl)
  · have hu64 := hr.units
    obtain ⟨r, b, f', c, rfl, hR, ok, hb, q⟩ := h
    refine ⟨_, (pss_cons (ps_asg (pv 1) (pg_tup (by rfl) (pgs_cons (pg_name (i := 2) sc_last_day_of.nd rfl (.inl rfl)) (pgs_cons (pg_name (i := 3) sc_last_day_of.nd rfl (.inl rfl)) (pgs_cons (pg_name (i := 4) sc_last_day_of.nd rfl (.inl rfl)) (pgs_cons (pg_name (i := 5) sc_last_day_of.nd rfl (.inl rfl)) pgs_nil))))))
      (pss_cons (ps_if (pt_cmpR op_ne (pv 2) pe_str (nomark _))
         (pss_one (ps_ret pe_non))
         pss_nil)
      (pss_one (ps_ret (pe_op op_add (pe_op op_add (pv 3) (pe_op op_mul (pe_op op_sub (pe_fld (pv 0) rfl) (pv 5)) (pe_fld (pv 0) rfl))) (pe_fld (pv 0) rfl)))))), ?_⟩
    have s0 := ok.figs.s0
    have s1 := ok.figs.s1
    have m0 := ok.figs.m0
    have m1 := ok.figs.m1
    obtain ⟨dx, kt, h1, h2⟩ := id hR
    unfold lastC at q
    have s2 := Same.refl H
    refine ⟨_, rfl, b, _, rfl, hb, rfl, _, _, rfl, _, _, rfl, _, _, rfl, _, _, rfl, rfl, ?_⟩
    refine ⟨_, rfl, rfl, _, rfl, ?_⟩
    rw [wS_st]
    by_cases hw : c.w = .st
    · rw [decide_eq_true hw]
      rw [if_pos hw] at q
      refine iteF ?_
      exact ⟨_, rfl, _, rfl, r, CR, dx, _, _, rfl, s2 _ _ h1, T_Rule.cl, T_Rule.n5, lk5, _, rfl, _, _, rfl, rfl, _, rfl, r, CR, dx, _, _, rfl, s2 _ _ h1, T_Rule.cl, T_Rule.n2, lk2, _, _, rfl, rfl, .inr ⟨by omega, by omega⟩, _, _, rfl, rfl, _, rfl, r, CR, dx, _, _, rfl, s2 _ _ h1, T_Rule.cl, T_Rule.n3, lk3, _, _, rfl, rfl, q _ s2⟩
    · rw [decide_eq_false hw]
      rw [if_neg hw] at q
      exact iteT (q _ s2)
/-! ### last_day -/
abbrev s_last_day : Stmt := topS 6
abbrev N_last_day : List Str := ["rule", "days", "end"]
theorem sc_last_day : FnScope N_last_day ["rule", "days"] (defScope s_last_day) := ⟨rfl, rfl, rfl, by decide +kernel, rfl, by decide +kernel, by decide +kernel⟩
def sp_last_day (K : PySem.W.Frag) (C : Addr) : Sp := fun vs H Q _ => ∃ (r a : Addr) (f : Fg) (ds : List Int), vs = [.ref r, .ref a] ∧ RuleAt K H C r f ∧ f.Ok ∧ (SqL K H a (ds.map V.int) ∨ SqT K H a (ds.map V.int)) ∧ ∀ H', Same H H' → Q (lastV f.p f.s f.g f.l f.m ds) H'
theorem ok_last_day {f : Addr} {fd : FuncData} (F : Fun K "last_day" "last_day" s_last_day f fd) (g : mg "last_day" = some (.ref f)) (bd : Binds K fd ["rule", "days"] []) {CR : Addr} (T_Rule : TRule K mg CR) (m_len : mg "len" = none) (C_last_day_of : CF P w K mg base 1 "last_day_of" ["rule", "state"] (sp_last_day_of K CR)) (C_course : CF P w K mg base 4 "course" ["rule", "days", "end"] (sp_course K CR)) : CF P w K mg base 5 "last_day" ["rule", "days"] (sp_last_day K CR) := by
  refine ⟨f, fd, F.ok sc_last_day (fun vs H Q E h => ?_) (fun cdv A outer s H vs Q E hr h => ?_), g, F.kp, bd⟩
  · first | (obtain ⟨_, rfl, _⟩ := h; rfl) | (obtain ⟨_, _, rfl, _⟩ := h; rfl) | (obtain ⟨_, _, _, rfl, _⟩ := h; rfl) | (obtain ⟨_, _, _, _, rfl, _⟩ := h; rfl) | (obtain ⟨_, _, _, _, _, rfl, _⟩ := h; rfl) | (obtain ⟨_, _, _, _, _, _, rfl, _⟩ := h; rfl) | (obtain ⟨_, _, _, _, _, _, _, rfl, _⟩ := h; rfl)
  · have hu64 := hr.units
    obtain ⟨r, a, f', ds, rfl, hR, ok, hS, q⟩ := h
    refine ⟨_, (pss_cons (ps_set (i := 2) sc_last_day.nd rfl (.inl rfl) (pe_ifExp (pt_cmpR op_gt (pe_callB (kk_len K) (by rfl) m_len PySem.boot_len (pa_cons (pv 1) pa_nil)) pe_int (nomark _)) (pe_ix ((kk_ixl K).or (kk_ixt K)) (pv 1) (pe_un un_neg pe_int) (fun _ _ => rfl)) pe_int))
      (pss_one (ps_ret (pe_cf C_last_day_of (hr.mono (by decide)) (by rfl) (pa_cons (pv 0) (pa_cons (pe_cf C_course (hr.mono (by decide)) (by rfl) (pa_cons (pv 0) (pa_cons (pv 1) (pa_cons (pv 2) pa_nil)))) pa_nil)))))), ?_⟩
    unfold lastV at q
    have dl := List.length_map (f := V.int) (as := ds)
    have hz : ds.length = 0 → endOf ds = 0 := fun h => by
      rw [List.eq_nil_of_length_eq_zero h]
      rfl
    refine ⟨_, rfl, a, _, rfl, hS, _, _, rfl, rfl, _, rfl, ite2 (fun z => ?_) (fun z => ?_)⟩
    · have z1 : (((ds.map V.int).length : Nat) : Int) > 0 := of_decide_eq_true z
      rw [dl] at z1
      have at1 := end_at (ds := ds) (by omega)
      refine ⟨_, rfl, _, rfl, ?_⟩
      rcases hS with hS | hS
      · refine .inl ⟨a, _, _, _, rfl, rfl, hS, at1, ?_⟩
        exact ⟨_, rfl, _, rfl, _, rfl, _, rfl, r, a, _, f', ds, rfl, hR, ok, .inl hS, fun H2 b2 s2 hb2 => ⟨r, b2, f', _, rfl, hR.same s2, ok, hb2, fun H3 s3 => q _ (s2.trans s3)⟩⟩
      · refine .inr ⟨a, _, _, _, rfl, rfl, hS, at1, ?_⟩
        exact ⟨_, rfl, _, rfl, _, rfl, _, rfl, r, a, _, f', ds, rfl, hR, ok, .inr hS, fun H2 b2 s2 hb2 => ⟨r, b2, f', _, rfl, hR.same s2, ok, hb2, fun H3 s3 => q _ (s2.trans s3)⟩⟩
    · have z1 : ¬ (((ds.map V.int).length : Nat) : Int) > 0 := fun y => z (decide_eq_true y)
      rw [dl] at z1
      rw [hz (by omega)] at q
      exact ⟨_, rfl, _, rfl, _, rfl, _, rfl, r, a, _, f', ds, rfl, hR, ok, hS, fun H2 b2 s2 hb2 => ⟨r, b2, f', _, rfl, hR.same s2, ok, hb2, fun H3 s3 => q _ (s2.trans s3)⟩⟩
section
variable {p s g : Int} {l : Bool} {ms : Int}
theorem fold_end {e e' : Int} : ∀ (ds : List Int) (c : Cs), (∀ d ∈ ds, d ≤ e ∧ d ≤ e') → ds.foldl (stepT p s g l ms e) c = ds.foldl (stepT p s g l ms e') c
  | [], _, _ => rfl
  | d :: r, c, h => by
    obtain ⟨h1, h2⟩ := h d List.mem_cons_self
    rw [List.foldl_cons, List.foldl_cons, step_on h1, step_on h2]
    exact fold_end r _ fun d' hd' => h d' (List.mem_cons_of_mem _ hd')
theorem pass_sum : ∀ (n : Nat) (d pd m day : Int), (passN s g n d pd m day).w = .st → (passN s g n d pd m day).d + (m + n - (passN s g n d pd m day).m) * s = d + n * s ∧ (passN s g n d pd m day).p = pd ∧ m ≤ (passN s g n d pd m day).m ∧ (passN s g n d pd m day).d = d + s * (passN s g n d pd m day).m - s * m
  | 0, d, pd, m, day, h => by
    unfold passN at h ⊢
    split at h
    · cases h
    · rw [if_neg ‹_›]
      refine ⟨?_, rfl, Int.le_refl _, by show d = d + s * m - s * m; omega⟩
      show d + (m + ((0 : Nat) : Int) - m) * s = d + ((0 : Nat) : Int) * s
      rw [show m + ((0 : Nat) : Int) - m = 0 by omega]
      rfl
  | n + 1, d, pd, m, day, h => by
    by_cases c : d + g < day
    · rw [passN_on c] at h ⊢
      obtain ⟨a, b, e, f⟩ := pass_sum n (d + s) pd (m + 1) day h
      refine ⟨?_, b, by omega, ?_⟩
      · rw [show m + ((n + 1 : Nat) : Int) = m + 1 + (n : Int) by omega, a, show ((n + 1 : Nat) : Int) = (n : Int) + 1 by omega, Int.add_mul]
        omega
      · rw [mul_succ'] at f
        omega
    · rw [passN_st c] at h ⊢
      refine ⟨?_, rfl, Int.le_refl _, by show d = d + s * m - s * m; omega⟩
      show d + (m + ((n + 1 : Nat) : Int) - m) * s = _
      rw [show m + ((n + 1 : Nat) : Int) - m = ((n + 1 : Nat) : Int) by omega]
theorem pass_keep (hs : 1 ≤ s) : ∀ (n : Nat) (d pd m day : Int), day ≤ d + g + s * n → (passN s g n d pd m day).w = .st
  | 0, d, pd, m, day, h => by
    rw [passN_st (by simp at h; omega)]
  | n + 1, d, pd, m, day, h => by
    have e2 : s * ((n + 1 : Nat) : Int) = s * n + s := by rw [show ((n + 1 : Nat) : Int) = (n : Int) + 1 by omega, Int.mul_add, Int.mul_one]
    by_cases c : d + g < day
    · rw [passN_on c]
      exact pass_keep hs n _ _ _ _ (by omega)
    · rw [passN_st c]
def Bnd (p s B : Int) (c : Cs) : Prop := c.w = .st → c.d ≤ B + s * c.p + s * c.m ∧ 0 ≤ c.p ∧ 0 ≤ c.m ∧ c.p < p
theorem step_bnd {B e : Int} {c : Cs} {d : Int} (hs : 1 ≤ s) (hB : 0 ≤ B) (h : Bnd p s B c) (hd : d ≤ B) : Bnd p s B (stepT p s g l ms e c d) := by
  by_cases z : d ≤ e
  · rw [step_on z]
    by_cases w : c.w = .st
    · obtain ⟨h1, h2, h3, h4⟩ := h w
      have e0 : passT s g ms c d = passN s g (ms - c.m).toNat c.d c.p c.m d := by
        unfold passT
        rw [w]
      rw [e0]
      intro w2
      by_cases w3 : (passN s g (ms - c.m).toNat c.d c.p c.m d).w = .st
      · obtain ⟨_, q1, q2, q3⟩ := pass_sum _ _ _ _ _ w3
        generalize passN s g (ms - c.m).toNat c.d c.p c.m d = c' at *
        have e1 : payT p s l c' d = if c'.p + 1 = p then ⟨.so, d, c'.p + 1, c'.m⟩ else ⟨.st, (if l then d else c'.d) + s, c'.p + 1, c'.m⟩ := by
          unfold payT
          rw [w3]
        rw [e1] at w2 ⊢
        by_cases z2 : c'.p + 1 = p
        · rw [if_pos z2] at w2
          cases w2
        · rw [if_neg z2]
          have k1 : 0 ≤ s * c'.p := Int.mul_nonneg (by omega) (by omega)
          have k2 : 0 ≤ s * c'.m := Int.mul_nonneg (by omega) (by omega)
          refine ⟨?_, by show 0 ≤ c'.p + 1; omega, by show 0 ≤ c'.m; omega, by show c'.p + 1 < p; omega⟩
          show (if l then d else c'.d) + s ≤ B + s * (c'.p + 1) + s * c'.m
          rw [mul_succ']
          rw [← q1] at h1
          split <;> omega
      · rw [payT_over w3] at w2
        exact absurd w2 w3
    · rw [passT_over w, payT_over w]
      exact h
  · rw [step_off z]
    exact h
theorem fold_bnd {B e : Int} (hs : 1 ≤ s) (hB : 0 ≤ B) : ∀ (ds : List Int) (c : Cs), Bnd p s B c → (∀ d ∈ ds, d ≤ B) → Bnd p s B (ds.foldl (stepT p s g l ms e) c)
  | [], _, h, _ => h
  | d :: r, c, h, hd => fold_bnd hs hB r _ (step_bnd hs hB h (hd d List.mem_cons_self)) fun d' hd' => hd d' (List.mem_cons_of_mem _ hd')
theorem end_le {ds : List Int} (h : Rise ds) : ∀ d ∈ ds, d ≤ endOf ds := fun d hd => by
  obtain ⟨r, x, rfl⟩ : ∃ r x, ds = r ++ [x] := ⟨ds.dropLast, ds.getLast (by intro e; rw [e] at hd; cases hd), (List.dropLast_concat_getLast _).symm⟩
  have e : endOf (r ++ [x]) = x := by simp [endOf]
  rw [e]
  rcases List.mem_append.mp hd with z | z
  · exact (List.pairwise_append.mp h).2.2 d z x (List.mem_singleton.mpr rfl)
  · rw [List.mem_singleton.mp z]
    exact Int.le_refl _
theorem end_pos {ds : List Int} (h : ∀ d ∈ ds, 0 ≤ d) : 0 ≤ endOf ds := by
  unfold endOf
  cases e : ds.getLast? with
  | none => exact Int.le_refl _
  | some x => exact h x (List.mem_of_getLast? e)
/-- the last day that may be, of a row that stands -/
theorem last_is (hs : 1 ≤ s) (hp : p ≤ 6) (p0 : 1 ≤ p) (hm : 0 ≤ ms) (hm2 : ms ≤ 2) {ds : List Int} (hr : Rise ds) (hpos : ∀ d ∈ ds, 0 ≤ d) (hw : (courseT p s g l ms ds (endOf ds)).w = .st) :
    ∃ L : Int, lastV p s g l ms ds = .int L ∧ endOf ds ≤ L ∧ L < endOf ds + g + s * 9 + 2 ∧ ∀ day, endOf ds ≤ day → (day ≤ L → (courseT p s g l ms ds day).w = .st) ∧ (L < day → (courseT p s g l ms ds day).w = .go) := by
  have hB := end_pos hpos
  have hle := end_le hr
  have c0 : ∀ day, endOf ds ≤ day → courseT p s g l ms ds day = passT s g ms (ds.foldl (stepT p s g l ms (endOf ds)) cs0) day := fun day h => by
    unfold courseT
    rw [fold_end (e := day) (e' := endOf ds) ds cs0 fun d hd => ⟨by have := hle d hd; omega, hle d hd⟩]
  have bd := fold_bnd (p := p) (s := s) (g := g) (l := l) (ms := ms) (B := endOf ds) (e := endOf ds) hs hB ds cs0 (fun _ => ⟨by show (0 : Int) ≤ endOf ds + s * 0 + s * 0; simp; exact hB, by decide, by decide, by show (0 : Int) < p; omega⟩) hle
  have mm := foldT_m (p := p) (s := s) (g := g) (l := l) (e := endOf ds) ds (c := cs0) hm
  unfold lastV
  rw [if_pos hw]
  rw [c0 _ (Int.le_refl _)] at hw ⊢
  generalize ds.foldl (stepT p s g l ms (endOf ds)) cs0 = c at *
  have w : c.w = .st := by
    refine Decidable.byContradiction fun w => ?_
    rw [passT_over w] at hw
    exact w hw
  obtain ⟨b1, b2, b3, b4⟩ := bd w
  have e0 : ∀ day, passT s g ms c day = passN s g (ms - c.m).toNat c.d c.p c.m day := fun day => by
    unfold passT
    rw [w]
  have hN : (((ms - c.m).toNat : Nat) : Int) = ms - c.m := by omega
  have cm : ((ms - c.m).toNat : Int) * s = s * ((ms - c.m).toNat : Int) := Int.mul_comm _ _
  rw [e0] at hw ⊢
  obtain ⟨q0, _, _, _⟩ := pass_sum _ _ _ _ _ hw
  rw [show c.m + ((ms - c.m).toNat : Int) = ms by omega] at q0
  refine ⟨_, rfl, ?_, ?_, fun day hd => ?_⟩
  · rw [q0, cm]
    refine Decidable.byContradiction fun z => ?_
    rw [pass_gone hs _ _ _ _ _ (by omega)] at hw
    cases hw
  · rw [q0, cm, hN, Int.mul_sub]
    have k1 : s * c.p ≤ s * 5 := Int.mul_le_mul_of_nonneg_left (by omega) (by omega)
    have k2 : s * ms ≤ s * 2 := Int.mul_le_mul_of_nonneg_left hm2 (by omega)
    omega
  · rw [c0 day hd, e0, q0, cm]
    refine ⟨fun z => pass_keep hs _ _ _ _ _ (by omega), fun z => ?_⟩
    rw [pass_gone hs _ _ _ _ _ (by omega)]
end
/-! ### _law_due -/
abbrev s__law_due : Stmt := topS 28
abbrev N__law_due : List Str := ["_law_figures", "_law_days_here", "_law_begin", "_law_found", "_law_most", "_law_day"]
theorem sc__law_due : FnScope N__law_due ["_law_figures", "_law_days_here"] (defScope s__law_due) := ⟨rfl, rfl, rfl, by decide +kernel, rfl, by decide +kernel, by decide +kernel⟩
def sp__law_due (K : PySem.W.Frag) : Sp := fun vs H Q _ => ∃ (t a : Addr) (f : Fg) (kv : V) (kd : PyData) (ds : List Int), vs = [.ref t, .ref a] ∧ Drawn K H t f kv kd ∧ SqL K H a (ds.map V.int) ∧ Rise ds ∧ (∀ d ∈ ds, 0 ≤ d ∧ d ≤ 400) ∧ ∀ H', Same H H' → Q (lastV f.p f.s f.g f.l f.m ds) H'
theorem eqv_nil {ds : List Int} : PyData.eqv (.list (ds.map PyData.int)) (.list []) = decide (ds = []) := by
  cases ds with
  | nil => simp [PyData.eqv, PyData.eqvAll]
  | cons x r => simp [PyData.eqv, PyData.eqvAll]
theorem ok__law_due {f : Addr} {fd : FuncData} (F : Fun K "_law_due" "_law_due" s__law_due f fd) (g : mg "_law_due" = some (.ref f)) (bd : Binds K fd ["_law_figures", "_law_days_here"] []) (m_range : mg "range" = none) (C__law_by_days : CF P w K mg base 1 "_law_by_days" ["_law_figures", "_law_days_here", "_law_end"] (sp__law_by_days K)) : CF P w K mg base 2 "_law_due" ["_law_figures", "_law_days_here"] (sp__law_due K) := by
  refine ⟨f, fd, F.ok sc__law_due (fun vs H Q E h => ?_) (fun cdv A outer s H vs Q E hr h => ?_), g, F.kp, bd⟩
  · first | (obtain ⟨_, rfl, _⟩ := h; rfl) | (obtain ⟨_, _, rfl, _⟩ := h; rfl) | (obtain ⟨_, _, _, rfl, _⟩ := h; rfl) | (obtain ⟨_, _, _, _, rfl, _⟩ := h; rfl) | (obtain ⟨_, _, _, _, _, rfl, _⟩ := h; rfl) | (obtain ⟨_, _, _, _, _, _, rfl, _⟩ := h; rfl) | (obtain ⟨_, _, _, _, _, _, _, rfl, _⟩ := h; rfl)
  · have hu64 := hr.units
    obtain ⟨t, a, f', kv, kd, ds, rfl, hD, hS, hri, hbd, q⟩ := h
    refine ⟨_, (pss_cons (ps_set (i := 2) sc__law_due.nd rfl (.inl rfl) (pe_ifExp (pt_cmpR (kk_neD K hu64) (pv 1) (pe_lst pa_nil) (nomark _)) (pe_ix (kk_ixl K) (pv 1) (pe_un un_neg pe_int) (fun _ _ => rfl)) pe_int))
      (pss_cons (ps_if (pt_cmpR op_ne (pe_ix (kk_ixt K) (pe_cf C__law_by_days (hr.mono (by decide)) (by rfl) (pa_cons (pv 0) (pa_cons (pv 1) (pa_cons (pv 2) pa_nil)))) pe_int (fun _ _ => rfl)) pe_str (nomark _))
         (pss_one (ps_ret pe_non))
         pss_nil)
      (pss_cons (ps_par (i := 3) (j := 4) (by rfl) sc__law_due.nd rfl rfl (by decide) rfl rfl (pa_cons pe_non (pa_cons (pe_op op_add (pe_op op_add (pe_op op_add (pv 2) (pe_ix (kk_ixt K) (pv 0) pe_int (fun _ _ => rfl))) (pe_op op_mul (pe_ix (kk_ixt K) (pv 0) pe_int (fun _ _ => rfl)) pe_int)) pe_int) pa_nil)) (by rfl))
      (pss_cons (ps_for PassesOwn.never rfl (pi_range2 (by rfl) m_range (pa_cons (pv 2) (pa_cons (pv 4) pa_nil))) (pg_name (i := 5) sc__law_due.nd rfl (.inl rfl))
         (pss_one (ps_if (pt_cmpR op_ne (pe_ix (kk_ixt K) (pe_cf C__law_by_days (hr.mono (by decide)) (by rfl) (pa_cons (pv 0) (pa_cons (pv 1) (pa_cons (pv 5) pa_nil)))) pe_int (fun _ _ => rfl)) pe_str (nomark _))
             (pss_one (ps_set (i := 3) sc__law_due.nd rfl (.inl rfl) (pv 5)))
             pss_nil)))
      (pss_one (ps_ret (pv 3))))))), ?_⟩
    have ok := hD.ok
    have p0 := ok.figs.p0
    have p1 := ok.figs.p1
    have s0 := ok.figs.s0
    have s1 := ok.figs.s1
    have g0 := ok.figs.g0
    have g1 := ok.figs.g1
    have m0 := ok.figs.m0
    have m1 := ok.figs.m1
    have hpos : ∀ d ∈ ds, 0 ≤ d := fun d hd => (hbd d hd).1
    have e0 := end_pos hpos
    have e1 : endOf ds ≤ 400 := by
      unfold endOf
      cases e : ds.getLast? with
      | none => decide
      | some x => exact (hbd x (List.mem_of_getLast? e)).2
    refine ⟨_, rfl, (by show 0 ≤ sizeLine; decide), fun n nn => ⟨_, _, dp_ints ((same_new nn).seq hS), .lst (SqL.of upd_same) .nil, sh_ints ds, sh_ints [], ?_⟩⟩
    rw [eqv_nil]
    have sG := same_new (o := .lst []) nn
    generalize upd H n (.lst []) = G at *
    by_cases hz : ds = []
    · rw [decide_eq_true hz]
      refine ⟨_, rfl, iteF ?_⟩
      subst hz
      generalize hds : ([] : List Int) = ds at *
      have hz2 : (0 : Int) = endOf ds := by
        rw [← hds]
        rfl
      have hz3 : V.int 0 = V.int (endOf ds) := by rw [← hz2]
      show gName 2 (V.int 0) _ _ _
      conv => arg 2; rw [hz3]
      refine ⟨_, rfl, _, rfl, _, rfl, t, a, endOf ds, f', kv, kd, ds, rfl, hD.same sG, sG.seq hS, hri, hpos, e0, by omega, fun H2 b2 s2 hb2 => ?_⟩
      refine ⟨b2, _, _, .str (wS (courseT f'.p f'.s f'.g f'.l f'.m ds (endOf ds)).w), rfl, rfl, hb2, rfl, rfl, _, rfl, ?_⟩
      rw [wS_st]
      by_cases hw : (courseT f'.p f'.s f'.g f'.l f'.m ds (endOf ds)).w = .st
      · rw [decide_eq_true hw]
        refine iteF ?_
        obtain ⟨L, eL, l0, l1, hall⟩ := last_is s0 p1 p0 m0 m1 hri hpos hw
        rw [eL] at q
        have sT := sG.trans s2
        have hT := (hD.same sT).1
        refine ⟨_, rfl, _, rfl, t, _, _, _, rfl, rfl, hT, rfl, _, _, rfl, rfl, _, rfl, t, _, _, _, rfl, rfl, hT, rfl, _, _, rfl, rfl, .inl ⟨by omega, by omega⟩, _, _, rfl, rfl, _, _, rfl, rfl, _, _, rfl, ?_⟩
        refine ⟨_, rfl, _, rfl, endOf ds, _, rfl, ⟨by omega, by omega, by omega, by omega⟩, for_range (fun i σ H' => ∃ s5, σ = [some (.ref t), some (.ref a), some (.int (endOf ds)), some (if i = 0 then .non else .int (if endOf ds + i - 1 ≤ L then endOf ds + i - 1 else L)), some (.int (endOf ds + f'.g + f'.s * 9 + 2)), s5] ∧ Same H H') ⟨_, rfl, sT⟩ (fun i σ H' hi h => ?_) (fun σ H' h => ?_)⟩
        · obtain ⟨s5, rfl, s3⟩ := h
          refine ⟨_, rfl, _, rfl, _, rfl, t, a, _, f', kv, kd, ds, rfl, hD.same s3, s3.seq hS, hri, hpos, by omega, by omega, fun H4 b4 s4 hb4 => ?_⟩
          refine ⟨b4, _, _, .str (wS (courseT f'.p f'.s f'.g f'.l f'.m ds (endOf ds + i)).w), rfl, rfl, hb4, rfl, rfl, _, rfl, ?_⟩
          rw [wS_go]
          obtain ⟨k1, k2⟩ := hall (endOf ds + i) (by omega)
          by_cases z : endOf ds + i ≤ L
          · rw [k1 z]
            refine iteT ⟨_, rfl, some (.int (endOf ds + i)), ?_, s3.trans s4⟩
            rw [if_neg (Nat.succ_ne_zero i), show endOf ds + ((i + 1 : Nat) : Int) - 1 = endOf ds + i by omega, if_pos z]
            rfl
          · rw [k2 (by omega)]
            refine iteF ⟨some (.int (endOf ds + i)), ?_, s3.trans s4⟩
            have hi0 : i ≠ 0 := by omega
            rw [if_neg (Nat.succ_ne_zero i), if_neg hi0, show endOf ds + ((i + 1 : Nat) : Int) - 1 = endOf ds + i by omega, if_neg z]
            by_cases z2 : endOf ds + i - 1 ≤ L
            · rw [if_pos z2, show endOf ds + (i : Int) - 1 = L by omega]
              rfl
            · rw [if_neg z2]
              rfl
        · obtain ⟨s5, rfl, s3⟩ := h
          refine ⟨_, rfl, ?_⟩
          have k9 : f'.s * 9 = 9 * f'.s := Int.mul_comm _ _
          rw [if_neg (by omega)]
          have e9 : (if endOf ds + (((endOf ds + f'.g + f'.s * 9 + 2 - endOf ds).toNat : Nat) : Int) - 1 ≤ L then endOf ds + (((endOf ds + f'.g + f'.s * 9 + 2 - endOf ds).toNat : Nat) : Int) - 1 else L) = L := by
            split <;> omega
          rw [e9]
          exact q _ s3
      · rw [decide_eq_false hw]
        refine iteT ?_
        unfold lastV at q
        rw [if_neg hw] at q
        exact q _ (sG.trans s2)
    · rw [decide_eq_false hz]
      have at1 := end_at (ds := ds) (List.length_pos_iff.mpr hz)
      refine ⟨_, rfl, iteT ⟨_, rfl, _, rfl, a, _, _, _, rfl, rfl, sG.seq hS, at1, ?_⟩⟩
      refine ⟨_, rfl, _, rfl, _, rfl, t, a, endOf ds, f', kv, kd, ds, rfl, hD.same sG, sG.seq hS, hri, hpos, e0, by omega, fun H2 b2 s2 hb2 => ?_⟩
      refine ⟨b2, _, _, .str (wS (courseT f'.p f'.s f'.g f'.l f'.m ds (endOf ds)).w), rfl, rfl, hb2, rfl, rfl, _, rfl, ?_⟩
      rw [wS_st]
      by_cases hw : (courseT f'.p f'.s f'.g f'.l f'.m ds (endOf ds)).w = .st
      · rw [decide_eq_true hw]
        refine iteF ?_
        obtain ⟨L, eL, l0, l1, hall⟩ := last_is s0 p1 p0 m0 m1 hri hpos hw
        rw [eL] at q
        have sT := sG.trans s2
        have hT := (hD.same sT).1
        refine ⟨_, rfl, _, rfl, t, _, _, _, rfl, rfl, hT, rfl, _, _, rfl, rfl, _, rfl, t, _, _, _, rfl, rfl, hT, rfl, _, _, rfl, rfl, .inl ⟨by omega, by omega⟩, _, _, rfl, rfl, _, _, rfl, rfl, _, _, rfl, ?_⟩
        refine ⟨_, rfl, _, rfl, endOf ds, _, rfl, ⟨by omega, by omega, by omega, by omega⟩, for_range (fun i σ H' => ∃ s5, σ = [some (.ref t), some (.ref a), some (.int (endOf ds)), some (if i = 0 then .non else .int (if endOf ds + i - 1 ≤ L then endOf ds + i - 1 else L)), some (.int (endOf ds + f'.g + f'.s * 9 + 2)), s5] ∧ Same H H') ⟨_, rfl, sT⟩ (fun i σ H' hi h => ?_) (fun σ H' h => ?_)⟩
        · obtain ⟨s5, rfl, s3⟩ := h
          refine ⟨_, rfl, _, rfl, _, rfl, t, a, _, f', kv, kd, ds, rfl, hD.same s3, s3.seq hS, hri, hpos, by omega, by omega, fun H4 b4 s4 hb4 => ?_⟩
          refine ⟨b4, _, _, .str (wS (courseT f'.p f'.s f'.g f'.l f'.m ds (endOf ds + i)).w), rfl, rfl, hb4, rfl, rfl, _, rfl, ?_⟩
          rw [wS_go]
          obtain ⟨k1, k2⟩ := hall (endOf ds + i) (by omega)
          by_cases z : endOf ds + i ≤ L
          · rw [k1 z]
            refine iteT ⟨_, rfl, some (.int (endOf ds + i)), ?_, s3.trans s4⟩
            rw [if_neg (Nat.succ_ne_zero i), show endOf ds + ((i + 1 : Nat) : Int) - 1 = endOf ds + i by omega, if_pos z]
            rfl
          · rw [k2 (by omega)]
            refine iteF ⟨some (.int (endOf ds + i)), ?_, s3.trans s4⟩
            have hi0 : i ≠ 0 := by omega
            rw [if_neg (Nat.succ_ne_zero i), if_neg hi0, show endOf ds + ((i + 1 : Nat) : Int) - 1 = endOf ds + i by omega, if_neg z]
            by_cases z2 : endOf ds + i - 1 ≤ L
            · rw [if_pos z2, show endOf ds + (i : Int) - 1 = L by omega]
              rfl
            · rw [if_neg z2]
              rfl
        · obtain ⟨s5, rfl, s3⟩ := h
          refine ⟨_, rfl, ?_⟩
          have k9 : f'.s * 9 = 9 * f'.s := Int.mul_comm _ _
          rw [if_neg (by omega)]
          have e9 : (if endOf ds + (((endOf ds + f'.g + f'.s * 9 + 2 - endOf ds).toNat : Nat) : Int) - 1 ≤ L then endOf ds + (((endOf ds + f'.g + f'.s * 9 + 2 - endOf ds).toNat : Nat) : Int) - 1 else L) = L := by
            split <;> omega
          rw [e9]
          exact q _ s3
      · rw [decide_eq_false hw]
        refine iteT ?_
        unfold lastV at q
        rw [if_neg hw] at q
        exact q _ (sG.trans s2)
/-! ### law -/
abbrev s_law : Stmt := topS 29
abbrev N_law : List Str := ["_law_script", "_law_k", "_law_box_here", "_law_turn", "_law_figures", "_law_rule_here", "_law_days_here", "_law_day", "_law_handed", "_law_found", "_law_due_here"]
theorem sc_law : FnScope N_law ["_law_script"] (defScope s_law) := ⟨rfl, rfl, rfl, by decide +kernel, rfl, by decide +kernel, by decide +kernel⟩
def sp_law (K : PySem.W.Frag) : Sp := fun vs H Q _ => ∃ (a : Addr) (ns : List Int), vs = [.ref a] ∧ SqL K H a (ns.map V.int) ∧ ns.length ≤ 63 ∧ ∀ H', Q (.bl true) H'
theorem neInts {K : PySem.W.Frag} {H : Hp} {x y : Addr} {ns : List Int} {Q : VK} (hx : SqL K H x (ns.map V.int)) (hy : SqL K H y (ns.map V.int)) (q : Q (.bl false) H) : rNeD K (.ref x) (.ref y) H Q := by
  refine ⟨_, _, dp_ints hx, dp_ints hy, sh_ints ns, sh_ints ns, ?_⟩
  rw [eqv_same]
  exact q
theorem pass_due {s g : Int} : ∀ (n : Nat) (d pd m day : Int), (passN s g n d pd m day).w = .st → day ≤ (passN s g n d pd m day).d + g
  | 0, d, pd, m, day, h => by
    by_cases c : d + g < day
    · rw [passN_go c] at h
      cases h
    · rw [passN_st c]
      show day ≤ d + g
      omega
  | n + 1, d, pd, m, day, h => by
    by_cases c : d + g < day
    · rw [passN_on c] at h ⊢
      exact pass_due n _ _ _ _ h
    · rw [passN_st c]
      show day ≤ d + g
      omega
theorem course_due {p s g : Int} {l : Bool} {ms : Int} {ds : List Int} {e : Int} (h : (courseT p s g l ms ds e).w = .st) : e ≤ (courseT p s g l ms ds e).d + g := by
  unfold courseT at h ⊢
  generalize ds.foldl (stepT p s g l ms e) cs0 = c at *
  have w : c.w = .st := by
    refine Decidable.byContradiction fun w => ?_
    rw [passT_over w] at h
    exact w h
  have e0 : passT s g ms c e = passN s g (ms - c.m).toNat c.d c.p c.m e := by
    unfold passT
    rw [w]
  rw [e0] at h ⊢
  exact pass_due _ _ _ _ _ h
theorem late_word {p s g : Int} {l : Bool} {ms : Int} (hs : 1 ≤ s) (hg : 0 ≤ g) {ds : List Int} (hr : Rise ds) (hpos : ∀ d ∈ ds, 0 ≤ d) {L : Int} (h0 : endOf ds ≤ L) (hw : (courseT p s g l ms ds L).w = .st) : (courseT p s g l ms (ds ++ [L]) L).w ≠ .go := by
  have hd := course_due hw
  rw [course_at]
  generalize courseT p s g l ms ds L = c at *
  obtain ⟨w, d, n, m⟩ := c
  cases (show w = .st from hw)
  have hd2 : L ≤ d + g := hd
  by_cases z : n + 1 = p
  · rw [pay_so z]
    intro y
    cases y
  · rw [pay_st z]
    have e : passT s g ms ⟨.st, (if l then L else d) + s, n + 1, m⟩ L = ⟨.st, (if l then L else d) + s, n + 1, m⟩ := passN_st (by show ¬ (if l then L else d) + s + g < L; split <;> omega)
    rw [e]
    intro y
    cases y
theorem ok_law {f : Addr} {fd : FuncData} (F : Fun K "law" "law" s_law f fd) {CR : Addr} (T_Rule : TRule K mg CR) (m_range : mg "range" = none) (m_min : mg "min" = none) (m_len : mg "len" = none) (m_tuple : mg "tuple" = none) (m_list : mg "list" = none) (m_isinstance : mg "isinstance" = none) (m_bool : mg "bool" = none) (C__law_box : CF P w K mg base 1 "_law_box" ["_law_script", "_law_k"] (sp__law_box K)) (C__law_drawn : CF P w K mg base 2 "_law_drawn" ["_law_box_here"] (sp__law_drawn K)) (C__law_days : CF P w K mg base 2 "_law_days" ["_law_box_here", "_law_figures", "_law_many"] (sp__law_days K)) (C__law_take : CF P w K mg base 1 "_law_take" ["_law_box_here", "_law_many"] (sp__law_take K)) (C__law_rule : CF P w K mg base 6 "_law_rule" ["_law_figures"] (sp__law_rule K CR)) (C__law_due : CF P w K mg base 2 "_law_due" ["_law_figures", "_law_days_here"] (sp__law_due K)) (C_last_day : CF P w K mg base 5 "last_day" ["rule", "days"] (sp_last_day K CR)) (C_course : CF P w K mg base 4 "course" ["rule", "days", "end"] (sp_course K CR)) : FnOk P w K mg base CX0 7 f fd ["_law_script"] (sp_law K) := by
  refine F.ok sc_law (fun vs H Q E h => ?_) (fun cdv A outer s H vs Q E hr h => ?_)
  · first | (obtain ⟨_, rfl, _⟩ := h; rfl) | (obtain ⟨_, _, rfl, _⟩ := h; rfl) | (obtain ⟨_, _, _, rfl, _⟩ := h; rfl) | (obtain ⟨_, _, _, _, rfl, _⟩ := h; rfl) | (obtain ⟨_, _, _, _, _, rfl, _⟩ := h; rfl) | (obtain ⟨_, _, _, _, _, _, rfl, _⟩ := h; rfl) | (obtain ⟨_, _, _, _, _, _, _, rfl, _⟩ := h; rfl)
  · have hu64 := hr.units
    obtain ⟨a, ns, rfl, hS, hlen, q⟩ := h
    refine ⟨_, (pss_cons (ps_for PassesOwn.never rfl (pi_range1 (by rfl) m_range (pa_cons (pe_op op_add pe_int (pe_callB (call_min2 rfl) (by rfl) m_min (by decide +kernel) (pa_cons pe_int (pa_cons (pe_callB (kk_len K) (by rfl) m_len PySem.boot_len (pa_cons (pv 0) pa_nil)) pa_nil)))) pa_nil)) (pg_name (i := 1) sc_law.nd rfl (.inl rfl))
         (pss_cons (ps_set (i := 2) sc_law.nd rfl (.inl rfl) (pe_cf C__law_box (hr.mono (by decide)) (by rfl) (pa_cons (pv 0) (pa_cons (pv 1) pa_nil))))
          (pss_one (ps_for PassesOwn.never rfl (pi_range1 (by rfl) m_range (pa_cons pe_int pa_nil)) (pg_name (i := 3) sc_law.nd rfl (.inl rfl))
             (pss_cons (ps_set (i := 4) sc_law.nd rfl (.inl rfl) (pe_cf C__law_drawn (hr.mono (by decide)) (by rfl) (pa_cons (pv 2) pa_nil)))
              (pss_cons (ps_par (i := 5) (j := 6) (by rfl) sc_law.nd rfl rfl (by decide) rfl rfl (pa_cons (pe_cf C__law_rule (hr.mono (by decide)) (by rfl) (pa_cons (pv 4) pa_nil)) (pa_cons (pe_cf C__law_days (hr.mono (by decide)) (by rfl) (pa_cons (pv 2) (pa_cons (pv 4) (pa_cons (pe_cf C__law_take (hr.mono (by decide)) (by rfl) (pa_cons (pv 2) (pa_cons pe_int pa_nil))) pa_nil)))) pa_nil)) (by rfl))
              (pss_cons (ps_setLc (i := 6) (own := [("_law_day", 7)]) (g := (gName 7)) rfl sc_law.nd rfl rfl (sw_true rfl rfl rfl (by decide +kernel)) (pi_list (pv 6)) (blkOk_by (own := [("_law_day", 7)]) (N := N_law) (sc := defScope s_law) (by decide +kernel)) (fun _ _ _ _ _ => pg_name (i := 7) sc_law.nd rfl (Or.inl rfl)) (fun _ _ _ _ _ => (pts_one (pt_cmpR op_lt (pv 7) pe_int (nomark _)))) (fun _ _ _ _ _ => (pv 7)))
              (pss_cons (ps_set (i := 8) sc_law.nd rfl (.inl rfl) (pe_ifExp (pt_cmpR op_eq (pe_cf C__law_take (hr.mono (by decide)) (by rfl) (pa_cons (pv 2) (pa_cons pe_int pa_nil))) pe_int (nomark _)) (pe_callTy (kk_tuple K) (by rfl) m_tuple (by decide +kernel) (pa_cons (pv 6) pa_nil)) (pe_callTy (kk_list K) (by rfl) m_list (by decide +kernel) (pa_cons (pv 6) pa_nil))))
              (pss_cons (ps_par (i := 9) (j := 10) (by rfl) sc_law.nd rfl rfl (by decide) rfl rfl (pa_cons (pe_cf C_last_day (hr.mono (by decide)) (by rfl) (pa_cons (pv 5) (pa_cons (pv 8) pa_nil))) (pa_cons (pe_cf C__law_due (hr.mono (by decide)) (by rfl) (pa_cons (pv 4) (pa_cons (pv 6) pa_nil))) pa_nil)) (by rfl))
              (pss_cons (ps_if (PW.pt (pw_or (pt_val (pe_callB (kk_isi K) (by rfl) m_isinstance (by decide +kernel) (pa_cons (pv 9) (pa_cons (pe_bltn (v := .ty "bool") (by rfl) m_bool (by decide +kernel) rfl) pa_nil)))) (pw_or (pt_cmpR op_ne (pv 9) (pv 10) (nomark _)) (pw_or (pt_cmpR op_ne (pe_cmpR op_isN (pv 9) pe_non (nomark _)) (pe_cmpR op_isN (pv 10) pe_non (nomark _)) (nomark _)) (pw_or1 (pt_cmpR (kk_neD K hu64) (pe_callTy (kk_list K) (by rfl) m_list (by decide +kernel) (pa_cons (pv 8) pa_nil)) (pv 6) (nomark _)))))))
                 (pss_one (ps_ret pe_bl))
                 pss_nil)
              (pss_one (ps_if (pt_cmpR op_notN (pv 9) pe_non (nomark _))
                 (pss_one (ps_if (PW.pt (pw_or (pt_cmpR op_eq (pe_ix (kk_ixt K) (pe_cf C_course (hr.mono (by decide)) (by rfl) (pa_cons (pv 5) (pa_cons (pe_op op_cat (pv 6) (pe_lst (pa_cons (pv 9) pa_nil))) (pa_cons (pv 9) pa_nil)))) pe_int (fun _ _ => rfl)) pe_str (nomark _)) (pw_or1 (pt_cmpR op_ne (pe_ix (kk_ixt K) (pe_cf C_course (hr.mono (by decide)) (by rfl) (pa_cons (pv 5) (pa_cons (pv 6) (pa_cons (pe_op op_add (pv 9) pe_int) pa_nil)))) pe_int (fun _ _ => rfl)) pe_str (nomark _)))))
                     (pss_one (ps_ret pe_bl))
                     pss_nil))
                 pss_nil))))))))))))
      (pss_one (ps_ret pe_bl))), ?_⟩
    refine ⟨_, rfl, a, _, rfl, .inl hS, _, _, rfl, _, _, rfl, rfl, _, rfl, ?_, ?_, for_range (fun i σ H' => ∃ s1 s2 s3 s4 s5 s6 s7 s8 s9 s10, σ = [some (.ref a), s1, s2, s3, s4, s5, s6, s7, s8, s9, s10] ∧ Same H H') ⟨_, _, _, _, _, _, _, _, _, _, rfl, Same.refl H⟩ (fun i σ H' hi h => ?_) (fun σ H' _ => q _)⟩
    · split <;> omega
    · split <;> omega
    · obtain ⟨s1, s2, s3, s4, s5, s6, s7, s8, s9, s10, rfl, sm⟩ := h
      have hi2 : i < 10 := by
        have h1 : (1 + if (((ns.map V.int).length : Nat) : Int) < 4 then (((ns.map V.int).length : Nat) : Int) else 4) ≤ 5 := by split <;> omega
        omega
      refine ⟨_, rfl, _, rfl, a, _, ns, rfl, sm.seq hS, by omega, by omega, fun H1 b nb sb hb => ?_⟩
      have nb0 : H b = none := sm.free nb
      refine ⟨_, rfl, by decide, by decide, for_range (fun j σ H2 => ∃ s3 s4 s5 s6 s7 s8 s9 s10, σ = [some (.ref a), some (.int (0 + i)), some (.ref b), s3, s4, s5, s6, s7, s8, s9, s10] ∧ Same H H2 ∧ Box H2 b (50 * j)) ⟨_, _, _, _, _, _, _, _, rfl, sm.trans sb, hb.mono (by omega)⟩ (fun j σ H2 hj h => ?_) (fun σ H2 h => ?_)⟩
      · obtain ⟨s3, s4, s5, s6, s7, s8, s9, s10, rfl, sm2, hb2⟩ := h
        have hj2 : j < 2 := hj
        refine ⟨_, rfl, b, _, rfl, hb2, by omega, fun H3 t f1 kv kd b3 t3 hD3 nt => ?_⟩
        refine ⟨_, rfl, t, f1, kv, kd, rfl, hD3, fun H4 r nr s4' hR4 => ?_⟩
        have b4 := b3.same s4'
        refine ⟨_, rfl, _, rfl, _, rfl, b, 9, _, rfl, b4, by decide, by decide, by omega, fun many H5 many0 many1 b5 t5 => ?_⟩
        have hD5 := b4.drawn t5 (hD3.same s4')
        refine ⟨b, t, many, _, f1, kv, kd, rfl, b5, by omega, hD5, many0, by omega, fun H6 D ds b6 t6 nD nDb hDl hdl hri hbd => ⟨_, _, rfl, ?_⟩⟩
        have hD6 := b5.drawn t6 hD5
        have hR6 := b5.rule t6 (b4.rule t5 hR4)
        have sm6 : Same H H6 := same_but (same_but ((same_but sm2 nb0 t3).trans s4') nb0 t5) nb0 t6
        have ok := hD6.ok
        have p0 := ok.figs.p0
        have p1 := ok.figs.p1
        have s0' := ok.figs.s0
        have g0' := ok.figs.g0
        have m0' := ok.figs.m0
        have m1' := ok.figs.m1
        refine ⟨_, rfl, D, rfl, ⟨_, SqL.of hDl⟩, fun D2 hD2 => lc_list (K := K) (a := D) (xs := ds.map V.int) (fun i H' => Same H6 H' ∧ H' D2 = some (.lst (((ds.take i).filter (fun d => decide (d < 120))).map V.int))) ⟨same_new hD2, upd_same⟩ (fun i H' _ h => SqL.of (h.1 _ _ hDl)) (fun i x H' hx h => ?_) (fun H7 h => ?_)⟩
        · rw [List.getElem?_map] at hx
          obtain ⟨d, hd, rfl⟩ := Option.map_eq_some_iff.mp hx
          have hi3 : i < ds.length := (List.getElem?_eq_some_iff.mp hd).1
          refine ⟨rfl, _, rfl, _, _, rfl, rfl, _, rfl, ite2 (fun z => ?_) (fun z => ?_)⟩
          · refine ⟨_, rfl, _, h.2, ?_, ?_, ?_⟩
            · refine Nat.lt_of_le_of_lt ?_ (small1000 (n := i) (by omega))
              rw [List.length_map]
              exact Nat.le_trans (List.length_filter_le _ _) (by rw [List.length_take]; omega)
            · exact fun c o e => by
                rw [upd_ne (ne_of_none e hD2)]
                exact h.1 _ _ e
            · rw [upd_same, List.take_add_one, hd, Option.toList_some, List.filter_append, List.map_append]
              have : [d].filter (fun d => decide (d < 120)) = [d] := by
                have z1 : d < 120 := of_decide_eq_true z
                simp [z1]
              rw [this]
              rfl
          · refine ⟨h.1, ?_⟩
            rw [h.2, List.take_add_one, hd, Option.toList_some, List.filter_append]
            have : [d].filter (fun d => decide (d < 120)) = [] := by
              have z1 : ¬ d < 120 := fun y => z (decide_eq_true y)
              simp
              omega
            rw [this, List.append_nil]
        obtain ⟨s7', hE7⟩ := h
        rw [List.length_map, List.take_of_length_le (Nat.le_refl _)] at hE7
        have hri' : Rise (ds.filter (fun d => decide (d < 120))) := hri.sublist List.filter_sublist
        have hbd' : ∀ d ∈ ds.filter (fun d => decide (d < 120)), 0 ≤ d ∧ d ≤ 400 := fun d hd => hbd d (List.mem_filter.mp hd).1
        have hpos' : ∀ d ∈ ds.filter (fun d => decide (d < 120)), 0 ≤ d := fun d hd => (hbd' d hd).1
        have hl' : (ds.filter (fun d => decide (d < 120))).length ≤ 40 := Nat.le_trans (List.length_filter_le _ _) (by omega)
        generalize ds.filter (fun d => decide (d < 120)) = ds' at *
        have b7 := b6.same s7'
        refine ⟨_, rfl, b, 2, _, rfl, b7, by decide, by decide, by omega, fun x H8 x0 x1 b8 t8 => ?_⟩
        have hR8 := b7.rule t8 (hR6.same s7')
        have hD8 := b7.drawn t8 (hD6.same s7')
        have hE8 := t8 _ _ (b6.ne hD2) hE7
        have sm8 : Same H H8 := same_but (sm6.trans s7') nb0 t8
        refine ⟨rfl, _, rfl, ite2 (fun _ => ?_) (fun _ => ?_)⟩
        · refine ⟨_, rfl, D2, _, rfl, .inl ⟨SqL.of hE8, fun u nu => ?_⟩⟩
          have s9 := same_new (o := .tup (ds'.map V.int)) nu
          have hH : SqL K (upd H8 u (.tup (ds'.map V.int))) u (ds'.map V.int) ∨ SqT K (upd H8 u (.tup (ds'.map V.int))) u (ds'.map V.int) := .inr (SqT.of upd_same)
          generalize upd H8 u (.tup (ds'.map V.int)) = G9 at *
          refine ⟨_, rfl, _, rfl, r, u, f1, ds', rfl, hR8.same s9, ok, hH, fun HA sA => ?_⟩
          have sB0 := s9.trans sA
          refine ⟨_, rfl, _, rfl, t, D2, f1, kv, kd, ds', rfl, hD8.same sB0, SqL.of (sB0 _ _ hE8), hri', hbd', fun HB sB => ⟨_, _, rfl, ?_⟩⟩
          have sC := sB0.trans sB
          have hHB : SqL K HB u (ds'.map V.int) ∨ SqT K HB u (ds'.map V.int) := hH.elim (fun h => .inl ((sA.trans sB).seq h)) fun h => .inr (seqT_same (sA.trans sB) h)
          by_cases hw : (courseT f1.p f1.s f1.g f1.l f1.m ds' (endOf ds')).w = .st
          · obtain ⟨L, eL, l0, l1, hall⟩ := last_is s0' p1 p0 m0' m1' hri' hpos' hw
            rw [eL]
            refine ⟨_, rfl, _, _, _, _, false, rfl, .ty _, .base (.int _), kit_ty (by decide +kernel), _, rfl, iteF ?_⟩
            refine ⟨_, rfl, _, rfl, rfl, _, rfl, iteNS rfl ?_⟩
            refine ⟨_, rfl, rfl, _, rfl, rfl, rfl, _, rfl, iteNS rfl ?_⟩
            refine ⟨_, rfl, u, _, rfl, hHB, fun v nv => ⟨_, rfl, neInts (SqL.of upd_same) (SqL.of ((same_new nv) _ _ (sC _ _ hE8))) ⟨_, rfl, iteF ?_⟩⟩⟩
            have sD := sC.trans (same_new (o := .lst (ds'.map V.int)) nv)
            generalize upd HB v (.lst (ds'.map V.int)) = GD at *
            refine ⟨_, rfl, rfl, _, rfl, iteT ?_⟩
            refine ⟨_, rfl, _, rfl, _, rfl, (by show 1 ≤ sizeLine; decide), fun l1' nl1 => ?_⟩
            have sE := sD.trans (same_new (o := .lst [.int L]) nl1)
            refine ⟨D2, l1', _, _, rfl, rfl, sE _ _ hE8, upd_same, ?_, fun l2 nl2 => ?_⟩
            · rw [List.length_map]
              exact size_small (show ds'.length + 1 ≤ 1000 by omega)
            have sF := sE.trans (same_new (o := .lst (ds'.map V.int ++ [.int L])) nl2)
            have hF : SqL K (upd (upd GD l1' (.lst [.int L])) l2 (.lst (ds'.map V.int ++ [.int L]))) l2 ((ds' ++ [L]).map V.int) := by
              rw [List.map_append]
              exact SqL.of upd_same
            generalize upd (upd GD l1' (.lst [.int L])) l2 (.lst (ds'.map V.int ++ [.int L])) = GF at *
            refine ⟨_, rfl, r, l2, L, f1, _, rfl, hR8.same sF, ok, .inl hF, fun HG bG sG hbG => ?_⟩
            refine ⟨bG, _, _, .str (wS (courseT f1.p f1.s f1.g f1.l f1.m (ds' ++ [L]) L).w), rfl, rfl, hbG, rfl, rfl, _, rfl, ?_⟩
            rw [wS_go, decide_eq_false (late_word s0' g0' hri' hpos' l0 ((hall L l0).1 (Int.le_refl _)))]
            have sH := sF.trans sG
            refine iteF ⟨_, rfl, _, rfl, _, rfl, _, _, rfl, rfl, r, D2, L + 1, f1, _, rfl, hR8.same sH, ok, .inl (SqL.of (sH _ _ hE8)), fun HI bI sI hbI => ?_⟩
            refine ⟨bI, _, _, .str (wS (courseT f1.p f1.s f1.g f1.l f1.m ds' (L + 1)).w), rfl, rfl, hbI, rfl, rfl, _, rfl, ?_⟩
            rw [wS_go, (hall (L + 1) (by omega)).2 (by omega)]
            refine iteF ?_
            exact ⟨_, _, _, _, _, _, _, _, rfl, sm8.trans (sH.trans sI), (b8.same (sH.trans sI)).mono (by omega)⟩
          · have eN : lastV f1.p f1.s f1.g f1.l f1.m ds' = .non := by
              unfold lastV
              rw [if_neg hw]
            rw [eN]
            refine ⟨_, rfl, _, _, _, _, false, rfl, .ty _, .base .non, kit_ty (by decide +kernel), _, rfl, iteF ?_⟩
            refine ⟨_, rfl, _, rfl, rfl, _, rfl, iteNS rfl ?_⟩
            refine ⟨_, rfl, rfl, _, rfl, rfl, rfl, _, rfl, iteNS rfl ?_⟩
            refine ⟨_, rfl, u, _, rfl, hHB, fun v nv => ⟨_, rfl, neInts (SqL.of upd_same) (SqL.of ((same_new nv) _ _ (sC _ _ hE8))) ⟨_, rfl, iteF ?_⟩⟩⟩
            have sD := sC.trans (same_new (o := .lst (ds'.map V.int)) nv)
            refine ⟨_, rfl, rfl, _, rfl, iteF ?_⟩
            exact ⟨_, _, _, _, _, _, _, _, rfl, sm8.trans sD, (b8.same sD).mono (by omega)⟩
        · refine ⟨_, rfl, D2, _, rfl, .inl (SqL.of hE8), fun u nu => ?_⟩
          have s9 := same_new (o := .lst (ds'.map V.int)) nu
          have hH : SqL K (upd H8 u (.lst (ds'.map V.int))) u (ds'.map V.int) ∨ SqT K (upd H8 u (.lst (ds'.map V.int))) u (ds'.map V.int) := .inl (SqL.of upd_same)
          generalize upd H8 u (.lst (ds'.map V.int)) = G9 at *
          refine ⟨_, rfl, _, rfl, r, u, f1, ds', rfl, hR8.same s9, ok, hH, fun HA sA => ?_⟩
          have sB0 := s9.trans sA
          refine ⟨_, rfl, _, rfl, t, D2, f1, kv, kd, ds', rfl, hD8.same sB0, SqL.of (sB0 _ _ hE8), hri', hbd', fun HB sB => ⟨_, _, rfl, ?_⟩⟩
          have sC := sB0.trans sB
          have hHB : SqL K HB u (ds'.map V.int) ∨ SqT K HB u (ds'.map V.int) := hH.elim (fun h => .inl ((sA.trans sB).seq h)) fun h => .inr (seqT_same (sA.trans sB) h)
          by_cases hw : (courseT f1.p f1.s f1.g f1.l f1.m ds' (endOf ds')).w = .st
          · obtain ⟨L, eL, l0, l1, hall⟩ := last_is s0' p1 p0 m0' m1' hri' hpos' hw
            rw [eL]
            refine ⟨_, rfl, _, _, _, _, false, rfl, .ty _, .base (.int _), kit_ty (by decide +kernel), _, rfl, iteF ?_⟩
            refine ⟨_, rfl, _, rfl, rfl, _, rfl, iteNS rfl ?_⟩
            refine ⟨_, rfl, rfl, _, rfl, rfl, rfl, _, rfl, iteNS rfl ?_⟩
            refine ⟨_, rfl, u, _, rfl, hHB, fun v nv => ⟨_, rfl, neInts (SqL.of upd_same) (SqL.of ((same_new nv) _ _ (sC _ _ hE8))) ⟨_, rfl, iteF ?_⟩⟩⟩
            have sD := sC.trans (same_new (o := .lst (ds'.map V.int)) nv)
            generalize upd HB v (.lst (ds'.map V.int)) = GD at *
            refine ⟨_, rfl, rfl, _, rfl, iteT ?_⟩
            refine ⟨_, rfl, _, rfl, _, rfl, (by show 1 ≤ sizeLine; decide), fun l1' nl1 => ?_⟩
            have sE := sD.trans (same_new (o := .lst [.int L]) nl1)
            refine ⟨D2, l1', _, _, rfl, rfl, sE _ _ hE8, upd_same, ?_, fun l2 nl2 => ?_⟩
            · rw [List.length_map]
              exact size_small (show ds'.length + 1 ≤ 1000 by omega)
            have sF := sE.trans (same_new (o := .lst (ds'.map V.int ++ [.int L])) nl2)
            have hF : SqL K (upd (upd GD l1' (.lst [.int L])) l2 (.lst (ds'.map V.int ++ [.int L]))) l2 ((ds' ++ [L]).map V.int) := by
              rw [List.map_append]
              exact SqL.of upd_same
            generalize upd (upd GD l1' (.lst [.int L])) l2 (.lst (ds'.map V.int ++ [.int L])) = GF at *
            refine ⟨_, rfl, r, l2, L, f1, _, rfl, hR8.same sF, ok, .inl hF, fun HG bG sG hbG => ?_⟩
            refine ⟨bG, _, _, .str (wS (courseT f1.p f1.s f1.g f1.l f1.m (ds' ++ [L]) L).w), rfl, rfl, hbG, rfl, rfl, _, rfl, ?_⟩
            rw [wS_go, decide_eq_false (late_word s0' g0' hri' hpos' l0 ((hall L l0).1 (Int.le_refl _)))]
            have sH := sF.trans sG
            refine iteF ⟨_, rfl, _, rfl, _, rfl, _, _, rfl, rfl, r, D2, L + 1, f1, _, rfl, hR8.same sH, ok, .inl (SqL.of (sH _ _ hE8)), fun HI bI sI hbI => ?_⟩
            refine ⟨bI, _, _, .str (wS (courseT f1.p f1.s f1.g f1.l f1.m ds' (L + 1)).w), rfl, rfl, hbI, rfl, rfl, _, rfl, ?_⟩
            rw [wS_go, (hall (L + 1) (by omega)).2 (by omega)]
            refine iteF ?_
            exact ⟨_, _, _, _, _, _, _, _, rfl, sm8.trans (sH.trans sI), (b8.same (sH.trans sI)).mono (by omega)⟩
          · have eN : lastV f1.p f1.s f1.g f1.l f1.m ds' = .non := by
              unfold lastV
              rw [if_neg hw]
            rw [eN]
            refine ⟨_, rfl, _, _, _, _, false, rfl, .ty _, .base .non, kit_ty (by decide +kernel), _, rfl, iteF ?_⟩
            refine ⟨_, rfl, _, rfl, rfl, _, rfl, iteNS rfl ?_⟩
            refine ⟨_, rfl, rfl, _, rfl, rfl, rfl, _, rfl, iteNS rfl ?_⟩
            refine ⟨_, rfl, u, _, rfl, hHB, fun v nv => ⟨_, rfl, neInts (SqL.of upd_same) (SqL.of ((same_new nv) _ _ (sC _ _ hE8))) ⟨_, rfl, iteF ?_⟩⟩⟩
            have sD := sC.trans (same_new (o := .lst (ds'.map V.int)) nv)
            refine ⟨_, rfl, rfl, _, rfl, iteF ?_⟩
            exact ⟨_, _, _, _, _, _, _, _, rfl, sm8.trans sD, (b8.same sD).mono (by omega)⟩
      · obtain ⟨s3, s4, s5, s6, s7, s8, s9, s10, rfl, sm2, _⟩ := h
        exact ⟨_, _, _, _, _, _, _, _, _, _, rfl, sm2⟩
end
theorem all_mk {l : PySem.W.OpenLaw} {w : World} {K : PySem.W.Frag} {h : Heap} {mg : Str → Option Value} {fa f0 f1 f2 f3 f4 f5 f6 f7 f8 f9 f10 f11 f12 f13 f14 f15 f16 f17 CR : Addr} (X : K.In h) (G : h.Ns mainGlobals mg) (hfa : mg "law" = some (.ref fa))
    {od0 an0 od1 an1 od2 an2 od3 an3 od4 an4 od5 an5 od6 an6 od7 an7 od8 an8 od9 an9 od10 an10 od11 an11 od12 an12 od13 an13 od14 an14 od15 an15 od16 an16 od17 an17 : Option Addr} {sl0 sl1 sl2 sl3 sl4 sl5 sl6 sl7 sl8 sl9 sl10 sl11 sl12 sl13 sl14 sl15 sl16 sl17 : Array (Option Value)} {oc0 kV0 dc0 pm0 cd0 ct0 oc1 kV1 dc1 pm1 cd1 ct1 oc2 kV2 dc2 pm2 cd2 ct2 oc3 kV3 dc3 pm3 cd3 ct3 oc4 kV4 dc4 pm4 cd4 ct4 oc5 kV5 dc5 pm5 cd5 ct5 oc6 kV6 dc6 pm6 cd6 ct6 oc7 kV7 dc7 pm7 cd7 ct7 oc8 kV8 dc8 pm8 cd8 ct8 oc9 kV9 dc9 pm9 cd9 ct9 oc10 kV10 dc10 pm10 cd10 ct10 oc11 kV11 dc11 pm11 cd11 ct11 oc12 kV12 dc12 pm12 cd12 ct12 oc13 kV13 dc13 pm13 cd13 ct13 oc14 kV14 dc14 pm14 cd14 ct14 oc15 kV15 dc15 pm15 cd15 ct15 oc16 kV16 dc16 pm16 cd16 ct16 oc17 kV17 dc17 pm17 cd17 ct17 : Value}
    (aC : PySem.W.nsIn K mainGlobals "Rule" = some (some (.ref CR))) (pg : PySem.W.plainGet K CR Str.empty = true) (hd : PySem.W.hasDictIn K CR = true) (po : PySem.W.plainOver K CR = true) (sa : PySem.W.findIn K (.ref CR) "__setattr__" = some (some (.builtin "object.__setattr__"))) (mk : PySem.W.makesIn K CR = true) (kc : PySem.W.keepIn K (.ref CR) = true)
    (n1 : PySem.W.findIn K (.ref CR) "parts" = some none) (n2 : PySem.W.findIn K (.ref CR) "step" = some none) (n3 : PySem.W.findIn K (.ref CR) "grace" = some none) (n4 : PySem.W.findIn K (.ref CR) "last" = some none) (n5 : PySem.W.findIn K (.ref CR) "misses" = some none) (n6 : PySem.W.findIn K (.ref CR) "keep" = some none) (n7 : PySem.W.findIn K (.ref CR) "fine" = some none) (n8 : PySem.W.findIn K (.ref CR) "falls" = some none) (n9 : PySem.W.findIn K (.ref CR) "back" = some none)
    (a0 : PySem.W.nsIn K mainGlobals "is_number_in" = some (some (.ref f0))) (l0 : K.lookup f0 = some ⟨oc0, od0, .func (PySem.W.fnOf "is_number_in" "is_number_in" (defArgs s_is_number_in) (defBody s_is_number_in) (defScope s_is_number_in) .none kV0 dc0 pm0 an0 cd0 ct0), sl0⟩) (c0 : PySem.W.codeIn K cd0 "is_number_in" = true) (k0 : PySem.W.keepIn K (.ref f0) = true)
    (a1 : PySem.W.nsIn K mainGlobals "may_be_kept" = some (some (.ref f1))) (l1 : K.lookup f1 = some ⟨oc1, od1, .func (PySem.W.fnOf "may_be_kept" "may_be_kept" (defArgs s_may_be_kept) (defBody s_may_be_kept) (defScope s_may_be_kept) .none kV1 dc1 pm1 an1 cd1 ct1), sl1⟩) (c1 : PySem.W.codeIn K cd1 "may_be_kept" = true) (k1 : PySem.W.keepIn K (.ref f1) = true)
    (a2 : PySem.W.nsIn K mainGlobals "wrong_figure" = some (some (.ref f2))) (l2 : K.lookup f2 = some ⟨oc2, od2, .func (PySem.W.fnOf "wrong_figure" "wrong_figure" (defArgs s_wrong_figure) (defBody s_wrong_figure) (defScope s_wrong_figure) .none kV2 dc2 pm2 an2 cd2 ct2), sl2⟩) (c2 : PySem.W.codeIn K cd2 "wrong_figure" = true) (k2 : PySem.W.keepIn K (.ref f2) = true)
    {D3 : Addr} {dod3 : Option Addr} {doc3 : Value} {dsl3 : Array (Option Value)} {dn3 : Nat} {u3_0 u3_2 u3_3 u3_4 u3_5 u3_6 : Tok}
    (a3 : PySem.W.findIn K (.ref CR) "__init__" = some (some (.ref f3))) (l3 : K.lookup f3 = some ⟨oc3, od3, .func (PySem.W.fnOf "__init__" "Rule.__init__" (defArgs s_Rule___init__) (defBody s_Rule___init__) (defScope s_Rule___init__) (.ref D3) kV3 dc3 pm3 an3 cd3 ct3), sl3⟩) (c3 : PySem.W.codeIn K cd3 "Rule.__init__" = true) (k3 : PySem.W.keepIn K (.ref f3) = true)
    (i3 : PySem.W.isFn K (.ref f3) = true) (d3 : K.lookup D3 = some ⟨doc3, dod3, .seq [.int 0 u3_0, .bool false, .int 0 u3_2, .int 0 u3_3, .int 0 u3_4, .int 0 u3_5, .int 0 u3_6].toArray dn3, dsl3⟩)
    (a4 : PySem.W.findIn K (.ref CR) "__len__" = some (some (.ref f4))) (l4 : K.lookup f4 = some ⟨oc4, od4, .func (PySem.W.fnOf "__len__" "Rule.__len__" (defArgs s_Rule___len__) (defBody s_Rule___len__) (defScope s_Rule___len__) .none kV4 dc4 pm4 an4 cd4 ct4), sl4⟩) (c4 : PySem.W.codeIn K cd4 "Rule.__len__" = true) (k4 : PySem.W.keepIn K (.ref f4) = true)
    (i4 : PySem.W.isFn K (.ref f4) = true)
    (a5 : PySem.W.nsIn K mainGlobals "passed_to" = some (some (.ref f5))) (l5 : K.lookup f5 = some ⟨oc5, od5, .func (PySem.W.fnOf "passed_to" "passed_to" (defArgs s_passed_to) (defBody s_passed_to) (defScope s_passed_to) .none kV5 dc5 pm5 an5 cd5 ct5), sl5⟩) (c5 : PySem.W.codeIn K cd5 "passed_to" = true) (k5 : PySem.W.keepIn K (.ref f5) = true)
    (a6 : PySem.W.nsIn K mainGlobals "paid_on" = some (some (.ref f6))) (l6 : K.lookup f6 = some ⟨oc6, od6, .func (PySem.W.fnOf "paid_on" "paid_on" (defArgs s_paid_on) (defBody s_paid_on) (defScope s_paid_on) .none kV6 dc6 pm6 an6 cd6 ct6), sl6⟩) (c6 : PySem.W.codeIn K cd6 "paid_on" = true) (k6 : PySem.W.keepIn K (.ref f6) = true)
    (a7 : PySem.W.nsIn K mainGlobals "course" = some (some (.ref f7))) (l7 : K.lookup f7 = some ⟨oc7, od7, .func (PySem.W.fnOf "course" "course" (defArgs s_course) (defBody s_course) (defScope s_course) .none kV7 dc7 pm7 an7 cd7 ct7), sl7⟩) (c7 : PySem.W.codeIn K cd7 "course" = true) (k7 : PySem.W.keepIn K (.ref f7) = true)
    (a8 : PySem.W.nsIn K mainGlobals "_law_box" = some (some (.ref f8))) (l8 : K.lookup f8 = some ⟨oc8, od8, .func (PySem.W.fnOf "_law_box" "_law_box" (defArgs s__law_box) (defBody s__law_box) (defScope s__law_box) .none kV8 dc8 pm8 an8 cd8 ct8), sl8⟩) (c8 : PySem.W.codeIn K cd8 "_law_box" = true) (k8 : PySem.W.keepIn K (.ref f8) = true)
    (a9 : PySem.W.nsIn K mainGlobals "_law_take" = some (some (.ref f9))) (l9 : K.lookup f9 = some ⟨oc9, od9, .func (PySem.W.fnOf "_law_take" "_law_take" (defArgs s__law_take) (defBody s__law_take) (defScope s__law_take) .none kV9 dc9 pm9 an9 cd9 ct9), sl9⟩) (c9 : PySem.W.codeIn K cd9 "_law_take" = true) (k9 : PySem.W.keepIn K (.ref f9) = true)
    (a10 : PySem.W.nsIn K mainGlobals "_law_drawn" = some (some (.ref f10))) (l10 : K.lookup f10 = some ⟨oc10, od10, .func (PySem.W.fnOf "_law_drawn" "_law_drawn" (defArgs s__law_drawn) (defBody s__law_drawn) (defScope s__law_drawn) .none kV10 dc10 pm10 an10 cd10 ct10), sl10⟩) (c10 : PySem.W.codeIn K cd10 "_law_drawn" = true) (k10 : PySem.W.keepIn K (.ref f10) = true)
    (a11 : PySem.W.nsIn K mainGlobals "_law_rule" = some (some (.ref f11))) (l11 : K.lookup f11 = some ⟨oc11, od11, .func (PySem.W.fnOf "_law_rule" "_law_rule" (defArgs s__law_rule) (defBody s__law_rule) (defScope s__law_rule) .none kV11 dc11 pm11 an11 cd11 ct11), sl11⟩) (c11 : PySem.W.codeIn K cd11 "_law_rule" = true) (k11 : PySem.W.keepIn K (.ref f11) = true)
    (a12 : PySem.W.nsIn K mainGlobals "_law_by_days" = some (some (.ref f12))) (l12 : K.lookup f12 = some ⟨oc12, od12, .func (PySem.W.fnOf "_law_by_days" "_law_by_days" (defArgs s__law_by_days) (defBody s__law_by_days) (defScope s__law_by_days) .none kV12 dc12 pm12 an12 cd12 ct12), sl12⟩) (c12 : PySem.W.codeIn K cd12 "_law_by_days" = true) (k12 : PySem.W.keepIn K (.ref f12) = true)
    (a13 : PySem.W.nsIn K mainGlobals "_law_days" = some (some (.ref f13))) (l13 : K.lookup f13 = some ⟨oc13, od13, .func (PySem.W.fnOf "_law_days" "_law_days" (defArgs s__law_days) (defBody s__law_days) (defScope s__law_days) .none kV13 dc13 pm13 an13 cd13 ct13), sl13⟩) (c13 : PySem.W.codeIn K cd13 "_law_days" = true) (k13 : PySem.W.keepIn K (.ref f13) = true)
    (a14 : PySem.W.nsIn K mainGlobals "last_day_of" = some (some (.ref f14))) (l14 : K.lookup f14 = some ⟨oc14, od14, .func (PySem.W.fnOf "last_day_of" "last_day_of" (defArgs s_last_day_of) (defBody s_last_day_of) (defScope s_last_day_of) .none kV14 dc14 pm14 an14 cd14 ct14), sl14⟩) (c14 : PySem.W.codeIn K cd14 "last_day_of" = true) (k14 : PySem.W.keepIn K (.ref f14) = true)
    (a15 : PySem.W.nsIn K mainGlobals "last_day" = some (some (.ref f15))) (l15 : K.lookup f15 = some ⟨oc15, od15, .func (PySem.W.fnOf "last_day" "last_day" (defArgs s_last_day) (defBody s_last_day) (defScope s_last_day) .none kV15 dc15 pm15 an15 cd15 ct15), sl15⟩) (c15 : PySem.W.codeIn K cd15 "last_day" = true) (k15 : PySem.W.keepIn K (.ref f15) = true)
    (a16 : PySem.W.nsIn K mainGlobals "_law_due" = some (some (.ref f16))) (l16 : K.lookup f16 = some ⟨oc16, od16, .func (PySem.W.fnOf "_law_due" "_law_due" (defArgs s__law_due) (defBody s__law_due) (defScope s__law_due) .none kV16 dc16 pm16 an16 cd16 ct16), sl16⟩) (c16 : PySem.W.codeIn K cd16 "_law_due" = true) (k16 : PySem.W.keepIn K (.ref f16) = true)
    (a17 : PySem.W.nsIn K mainGlobals "law" = some (some (.ref f17))) (l17 : K.lookup f17 = some ⟨oc17, od17, .func (PySem.W.fnOf "law" "law" (defArgs s_law) (defBody s_law) (defScope s_law) .none kV17 dc17 pm17 an17 cd17 ct17), sl17⟩) (c17 : PySem.W.codeIn K cd17 "law" = true) (k17 : PySem.W.keepIn K (.ref f17) = true)
    (z_isinstance : PySem.W.nsIn K mainGlobals "isinstance" = some none) (z_bool : PySem.W.nsIn K mainGlobals "bool" = some none) (z_int : PySem.W.nsIn K mainGlobals "int" = some none) (z_tuple : PySem.W.nsIn K mainGlobals "tuple" = some none) (z_all : PySem.W.nsIn K mainGlobals "all" = some none) (z_len : PySem.W.nsIn K mainGlobals "len" = some none) (z_abs : PySem.W.nsIn K mainGlobals "abs" = some none) (z_range : PySem.W.nsIn K mainGlobals "range" = some none) (z_min : PySem.W.nsIn K mainGlobals "min" = some none) (z_list : PySem.W.nsIn K mainGlobals "list" = some none)
    {A_AT_FIRST : Addr} {u_AT_FIRST_0 u_AT_FIRST_1 u_AT_FIRST_2 u_AT_FIRST_3 : Tok} {gd_AT_FIRST : Option Addr} {gn_AT_FIRST : Nat} {gs_AT_FIRST : Array (Option Value)} (y_AT_FIRST : PySem.W.nsIn K mainGlobals "AT_FIRST" = some (some (.ref A_AT_FIRST))) (x_AT_FIRST : K.lookup A_AT_FIRST = some ⟨.type "tuple", gd_AT_FIRST, .seq [.str (Str.ofString "stands") u_AT_FIRST_0, .int 0 u_AT_FIRST_1, .int 0 u_AT_FIRST_2, .int 0 u_AT_FIRST_3].toArray gn_AT_FIRST, gs_AT_FIRST⟩) :
    ∃ fd : FuncData, (∀ (s : Shared) (v : Value), BindsTo s fd ⟨[v], []⟩ [("_law_script", v)]) ∧ ∀ base : Heap, K.In base → base.Ns mainGlobals mg → FnOk l.prog w K mg base CX0 7 fa fd ["_law_script"] (sp_law K) := by
  have e := hfa.symm.trans (PySem.W.mg_of X G a17)
  cases e
  have T_Rule : TRule K mg CR := ⟨⟨pg, hd, po, sa⟩, n1, n2, n3, n4, n5, n6, n7, n8, n9⟩
  have gC := PySem.W.mg_of X G aC
  have F0 := fun_mk (st := s_is_number_in) l0 c0 k0
  have b0 := F0.binds (ps := ["thing", "low", "high"]) fun _ _ _ _ _ _ us hl => match us, hl with | [_, _, _], _ => rfl
  have g0 := PySem.W.mg_of X G a0
  have F1 := fun_mk (st := s_may_be_kept) l1 c1 k1
  have b1 := F1.binds (ps := ["keep", "parts"]) fun _ _ _ _ _ _ us hl => match us, hl with | [_, _], _ => rfl
  have g1 := PySem.W.mg_of X G a1
  have F2 := fun_mk (st := s_wrong_figure) l2 c2 k2
  have b2 := F2.binds (ps := ["parts", "step", "grace", "last", "misses", "keep", "fine", "falls", "back"]) fun _ _ _ _ _ _ us hl => match us, hl with | [_, _, _, _, _, _, _, _, _], _ => rfl
  have g2 := PySem.W.mg_of X G a2
  have F3 : FunD K "__init__" "Rule.__init__" (defArgs s_Rule___init__) (defBody s_Rule___init__) (defScope s_Rule___init__) [.int 0, .bl false, .int 0, .int 0, .int 0, .int 0, .int 0] [] f3 _ := ⟨⟨oc3, od3, _, kV3, dc3, pm3, an3, cd3, ct3, sl3, rfl, l3, c3, .inr ⟨by simp, D3, _, _, dn3, rfl, d3, rfl, (.cons ⟨_, rfl⟩ (.cons rfl (.cons ⟨_, rfl⟩ (.cons ⟨_, rfl⟩ (.cons ⟨_, rfl⟩ (.cons ⟨_, rfl⟩ (.cons ⟨_, rfl⟩ .nil)))))))⟩, .inl rfl⟩, k3⟩
  have F4 : FunD K "__len__" "Rule.__len__" (defArgs s_Rule___len__) (defBody s_Rule___len__) (defScope s_Rule___len__) [] [] f4 _ := ⟨⟨oc4, od4, _, kV4, dc4, pm4, an4, cd4, ct4, sl4, rfl, l4, c4, .inl ⟨rfl, rfl⟩, .inl rfl⟩, k4⟩
  have F5 := fun_mk (st := s_passed_to) l5 c5 k5
  have b5 := F5.binds (ps := ["rule", "state", "day"]) fun _ _ _ _ _ _ us hl => match us, hl with | [_, _, _], _ => rfl
  have g5 := PySem.W.mg_of X G a5
  have F6 := fun_mk (st := s_paid_on) l6 c6 k6
  have b6 := F6.binds (ps := ["rule", "state", "day"]) fun _ _ _ _ _ _ us hl => match us, hl with | [_, _, _], _ => rfl
  have g6 := PySem.W.mg_of X G a6
  have F7 := fun_mk (st := s_course) l7 c7 k7
  have b7 := F7.binds (ps := ["rule", "days", "end"]) fun _ _ _ _ _ _ us hl => match us, hl with | [_, _, _], _ => rfl
  have g7 := PySem.W.mg_of X G a7
  have F8 := fun_mk (st := s__law_box) l8 c8 k8
  have b8 := F8.binds (ps := ["_law_script", "_law_k"]) fun _ _ _ _ _ _ us hl => match us, hl with | [_, _], _ => rfl
  have g8 := PySem.W.mg_of X G a8
  have F9 := fun_mk (st := s__law_take) l9 c9 k9
  have b9 := F9.binds (ps := ["_law_box_here", "_law_many"]) fun _ _ _ _ _ _ us hl => match us, hl with | [_, _], _ => rfl
  have g9 := PySem.W.mg_of X G a9
  have F10 := fun_mk (st := s__law_drawn) l10 c10 k10
  have b10 := F10.binds (ps := ["_law_box_here"]) fun _ _ _ _ _ _ us hl => match us, hl with | [_], _ => rfl
  have g10 := PySem.W.mg_of X G a10
  have F11 := fun_mk (st := s__law_rule) l11 c11 k11
  have b11 := F11.binds (ps := ["_law_figures"]) fun _ _ _ _ _ _ us hl => match us, hl with | [_], _ => rfl
  have g11 := PySem.W.mg_of X G a11
  have F12 := fun_mk (st := s__law_by_days) l12 c12 k12
  have b12 := F12.binds (ps := ["_law_figures", "_law_days_here", "_law_end"]) fun _ _ _ _ _ _ us hl => match us, hl with | [_, _, _], _ => rfl
  have g12 := PySem.W.mg_of X G a12
  have F13 := fun_mk (st := s__law_days) l13 c13 k13
  have b13 := F13.binds (ps := ["_law_box_here", "_law_figures", "_law_many"]) fun _ _ _ _ _ _ us hl => match us, hl with | [_, _, _], _ => rfl
  have g13 := PySem.W.mg_of X G a13
  have F14 := fun_mk (st := s_last_day_of) l14 c14 k14
  have b14 := F14.binds (ps := ["rule", "state"]) fun _ _ _ _ _ _ us hl => match us, hl with | [_, _], _ => rfl
  have g14 := PySem.W.mg_of X G a14
  have F15 := fun_mk (st := s_last_day) l15 c15 k15
  have b15 := F15.binds (ps := ["rule", "days"]) fun _ _ _ _ _ _ us hl => match us, hl with | [_, _], _ => rfl
  have g15 := PySem.W.mg_of X G a15
  have F16 := fun_mk (st := s__law_due) l16 c16 k16
  have b16 := F16.binds (ps := ["_law_figures", "_law_days_here"]) fun _ _ _ _ _ _ us hl => match us, hl with | [_, _], _ => rfl
  have g16 := PySem.W.mg_of X G a16
  have F17 := fun_mk (st := s_law) l17 c17 k17
  have m_isinstance := PySem.W.mg_none_of X G z_isinstance
  have m_bool := PySem.W.mg_none_of X G z_bool
  have m_int := PySem.W.mg_none_of X G z_int
  have m_tuple := PySem.W.mg_none_of X G z_tuple
  have m_all := PySem.W.mg_none_of X G z_all
  have m_len := PySem.W.mg_none_of X G z_len
  have m_abs := PySem.W.mg_none_of X G z_abs
  have m_range := PySem.W.mg_none_of X G z_range
  have m_min := PySem.W.mg_none_of X G z_min
  have m_list := PySem.W.mg_none_of X G z_list
  have g_AT_FIRST := PySem.W.mg_of X G y_AT_FIRST
  have q_AT_FIRST : ∀ H, SqT K H A_AT_FIRST [.str (Str.ofString "stands"), .int 0, .int 0, .int 0] := fun H => .inr ⟨_, _, _, x_AT_FIRST, rfl, rfl, (by show 4 ≤ sizeLine; decide), (.cons ⟨_, rfl⟩ (.cons ⟨_, rfl⟩ (.cons ⟨_, rfl⟩ (.cons ⟨_, rfl⟩ .nil))))⟩
  refine ⟨PySem.W.fnOf "law" "law" (defArgs s_law) (defBody s_law) (defScope s_law) .none kV17 dc17 pm17 an17 cd17 ct17, fun s v => .of_eq rfl, fun base _ _ => ?_⟩
  have C_is_number_in := ok_is_number_in (P := l.prog) (w := w) (base := base) F0 g0 b0 m_isinstance m_bool m_int
  have C_may_be_kept := ok_may_be_kept (P := l.prog) (w := w) (base := base) F1 g1 b1 m_isinstance m_tuple m_all m_len C_is_number_in
  have C_wrong_figure := ok_wrong_figure (P := l.prog) (w := w) (base := base) F2 g2 b2 m_isinstance m_bool C_is_number_in C_may_be_kept
  have O3 := ok_Rule___init__ (P := l.prog) (w := w) (base := base) T_Rule m_isinstance m_tuple C_wrong_figure F3
  obtain ⟨ds_M_Rule, v_M_Rule, b_M_Rule⟩ := F3.binds1 (ps := ["self", "parts", "step", "grace", "last", "misses", "keep", "fine", "falls", "back"]) 10 7 (by simp) rfl (fun T kV doc pm an cdv ct us its h1 h2 => match us, its, h1, h2 with | [_, _, _, _, _, _, _, _, _, _], [_, _, _, _, _, _, _], _, _ => ⟨_, rfl, rfl⟩)
  have M_Rule : CMk l.prog w K mg base CR 4 "Rule" ["self", "parts", "step", "grace", "last", "misses", "keep", "fine", "falls", "back"] [] (sp_Rule___init__ K CR) := ⟨_, _, ds_M_Rule, O3, ⟨mk, a3, i3, kc⟩, gC, v_M_Rule, b_M_Rule⟩
  have O4 := ok_Rule___len__ (P := l.prog) (w := w) (base := base) T_Rule m_len F4
  have b_C_Rule___len___0 := F4.bindsN (ps := ["self"]) fun kV doc pm an cdv ct us h => match us, h with | [_], _ => rfl
  have C_Rule___len___0 : CMt l.prog w K mg base CR 1 "__len__" ["self"] [] (sp_Rule___len__ K CR) := ⟨_, _, [], O4, ⟨a4, i4, k4⟩, .nil, b_C_Rule___len___0⟩
  have C_passed_to := ok_passed_to (P := l.prog) (w := w) (base := base) F5 g5 b5 T_Rule
  have C_paid_on := ok_paid_on (P := l.prog) (w := w) (base := base) F6 g6 b6 T_Rule m_len C_Rule___len___0
  have C_course := ok_course (P := l.prog) (w := w) (base := base) F7 g7 b7 T_Rule g_AT_FIRST q_AT_FIRST C_paid_on C_passed_to
  have C__law_box := ok__law_box (P := l.prog) (w := w) (base := base) F8 g8 b8 m_len m_abs m_int
  have C__law_take := ok__law_take (P := l.prog) (w := w) (base := base) F9 g9 b9
  have C__law_drawn := ok__law_drawn (P := l.prog) (w := w) (base := base) F10 g10 b10 m_tuple m_range C__law_take
  have C__law_rule := ok__law_rule (P := l.prog) (w := w) (base := base) F11 g11 b11 T_Rule M_Rule
  have C__law_by_days := ok__law_by_days (P := l.prog) (w := w) (base := base) F12 g12 b12 m_range m_len
  have C__law_days := ok__law_days (P := l.prog) (w := w) (base := base) F13 g13 b13 m_range m_min C__law_take
  have C_last_day_of := ok_last_day_of (P := l.prog) (w := w) (base := base) F14 g14 b14 T_Rule
  have C_last_day := ok_last_day (P := l.prog) (w := w) (base := base) F15 g15 b15 T_Rule m_len C_last_day_of C_course
  have C__law_due := ok__law_due (P := l.prog) (w := w) (base := base) F16 g16 b16 m_range C__law_by_days
  exact ok_law F17 T_Rule m_range m_min m_len m_tuple m_list m_isinstance m_bool C__law_box C__law_drawn C__law_days C__law_take C__law_rule C__law_due C_last_day C_course
end Pw
open PySem PySem.W PyProof.Rows
set_option maxHeartbeats 0 in
theorem PySem.Challenge.cw_partwares_k18_last_days_by_trying_holds : PySem.Challenge.rw_partwares_k18_last_days_by_trying.Holds := by
  w_on; o_law; k_head; (case hw => w_witness2)
  k_fill
  refine L2.walk_of (l := PySem.Challenge.rw_partwares_k18_last_days_by_trying) (n := 63) (k := 7) (x := "_law_script") (CX := fun _ => L2.CX0) (sp := fun w => Pw.sp_law _) rfl (by decide) rfl ⟨rfl, by decide, by decide⟩ (fun w h Y => PySem.W.kIn_of Y) ?F (fun _ _ a ns hl _ hS => ⟨a, ns, rfl, hS, hl, fun _ => rfl⟩) (fun _ _ _ _ _ h => h)
  case F =>
    intro w mg fa h KX G hmg
    refine' Pw.all_mk KX G hmg ?aC ?pg ?hd ?po ?sa ?mk ?kc ?n1 ?n2 ?n3 ?n4 ?n5 ?n6 ?n7 ?n8 ?n9 ?a0 ?l0 ?c0 ?k0 ?a1 ?l1 ?c1 ?k1 ?a2 ?l2 ?c2 ?k2 ?a3 ?l3 ?c3 ?k3 ?i3 ?d3 ?a4 ?l4 ?c4 ?k4 ?i4 ?a5 ?l5 ?c5 ?k5 ?a6 ?l6 ?c6 ?k6 ?a7 ?l7 ?c7 ?k7 ?a8 ?l8 ?c8 ?k8 ?a9 ?l9 ?c9 ?k9 ?a10 ?l10 ?c10 ?k10 ?a11 ?l11 ?c11 ?k11 ?a12 ?l12 ?c12 ?k12 ?a13 ?l13 ?c13 ?k13 ?a14 ?l14 ?c14 ?k14 ?a15 ?l15 ?c15 ?k15 ?a16 ?l16 ?c16 ?k16 ?a17 ?l17 ?c17 ?k17 ?z_isinstance ?z_bool ?z_int ?z_tuple ?z_all ?z_len ?z_abs ?z_range ?z_min ?z_list ?y_AT_FIRST ?x_AT_FIRST
    (case aC => k_is); (case pg => k_is); (case hd => k_is); (case po => k_is); (case sa => k_is); (case mk => k_is); (case kc => k_is); (case n1 => k_is); (case n2 => k_is); (case n3 => k_is); (case n4 => k_is); (case n5 => k_is); (case n6 => k_is); (case n7 => k_is); (case n8 => k_is); (case n9 => k_is); (case a0 => k_is); (case l0 => k_is); (case c0 => k_is); (case k0 => k_is); (case a1 => k_is); (case l1 => k_is); (case c1 => k_is); (case k1 => k_is); (case a2 => k_is); (case l2 => k_is); (case c2 => k_is); (case k2 => k_is); (case a3 => k_is); (case l3 => k_is); (case c3 => k_is); (case k3 => k_is); (case i3 => k_is); (case d3 => k_is); (case a4 => k_is); (case l4 => k_is); (case c4 => k_is); (case k4 => k_is); (case i4 => k_is); (case a5 => k_is); (case l5 => k_is); (case c5 => k_is); (case k5 => k_is); (case a6 => k_is); (case l6 => k_is); (case c6 => k_is); (case k6 => k_is); (case a7 => k_is); (case l7 => k_is); (case c7 => k_is); (case k7 => k_is); (case a8 => k_is); (case l8 => k_is); (case c8 => k_is); (case k8 => k_is); (case a9 => k_is); (case l9 => k_is); (case c9 => k_is); (case k9 => k_is); (case a10 => k_is); (case l10 => k_is); (case c10 => k_is); (case k10 => k_is); (case a11 => k_is); (case l11 => k_is); (case c11 => k_is); (case k11 => k_is); (case a12 => k_is); (case l12 => k_is); (case c12 => k_is); (case k12 => k_is); (case a13 => k_is); (case l13 => k_is); (case c13 => k_is); (case k13 => k_is); (case a14 => k_is); (case l14 => k_is); (case c14 => k_is); (case k14 => k_is); (case a15 => k_is); (case l15 => k_is); (case c15 => k_is); (case k15 => k_is); (case a16 => k_is); (case l16 => k_is); (case c16 => k_is); (case k16 => k_is); (case a17 => k_is); (case l17 => k_is); (case c17 => k_is); (case k17 => k_is); (case z_isinstance => k_is); (case z_bool => k_is); (case z_int => k_is); (case z_tuple => k_is); (case z_all => k_is); (case z_len => k_is); (case z_abs => k_is); (case z_range => k_is); (case z_min => k_is); (case z_list => k_is); (case y_AT_FIRST => k_is); (case x_AT_FIRST => k_is)
