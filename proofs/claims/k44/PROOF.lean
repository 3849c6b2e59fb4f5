import PyProof.Rows.All
import Wide.All
import OpenK.AllK
import Wide.FinOn
import HandS.Base
import HandS.Call
import HandS.List
import HandS.Comp
import HandS.Ends
import HandS.Iter
import HandS.Text
import HandS.Words
import HandS.WordsList
import HandS.IsInst
import HandS.Style
import HandS.Walk
import HandS.Defaults
import HandS.TupMul
import HandS.Zip
import HandS.MakeKw
import HandS.Dict
import HandS.Exc
import HandS.ExcOwn
import HandS.ExcIs
import HandS.TryOnly
import HandS.WordsExc
import HandS.Small
import HandS.SetFor
import HandS.Rev
import HandS.TupAny
import PyProof.DictUpdate
import PySem.Challenge.RW_partwares_k44_wares_by_turns
set_option Elab.async false
set_option linter.all false
set_option maxRecDepth 100000
namespace Pw
open PySem PySem.Spec PyProof.Rows L2
/-! ### a def of the text by its promise, its address left aside -/
structure CF (P : Program) (w : World) (K : PySem.W.Frag) (mg : Str → Option Value) (base : Heap) (k : Nat) (x : Str) (ps : List Str) (sp : Sp) : Prop where
  ex : ∃ (f : Addr) (fd : FuncData), FnOk P w K mg base CX0 k f fd ps sp ∧ mg x = some (.ref f) ∧ PySem.W.keepIn K (.ref f) = true ∧ Binds K fd ps []
theorem pe_cf {X : Cx} {k : Nat} {x : Str} {ps : List Str} {sp : Sp} {e : Expr} {es : List Expr} {t : TA} {p pos : Pos} (C : CF X.prog X.w X.K X.mg X.base k x ps sp) (hr : Room k X.A) (hg : Gl X x) (ha : PA X (e :: es) t)
    (hdb : (x == ("__debug__" : Str)) = false := by decide) (he : starEach (e :: es) X.env = (false, eval e X.env) :: starEach es X.env := by rfl) (hpl : (backTo pos (starEach es X.env)).any (·.1) = false := by rfl) :
    PE X (.Call (.Name x p) (e :: es) [] pos) (tCall sp [] E0 t) := by
  obtain ⟨f, fd, F, g, kp, b⟩ := C.ex
  exact pe_call F hr hg g kp b .nil pass0 ha hdb he hpl
theorem pe_cf0 {X : Cx} {k : Nat} {x : Str} {sp : Sp} {p pos : Pos} (C : CF X.prog X.w X.K X.mg X.base k x [] sp) (hr : Room k X.A) (hg : Gl X x) (hdb : (x == ("__debug__" : Str)) = false := by decide) : PE X (.Call (.Name x p) [] [] pos) (tCall sp [] E0 tNil) := by
  obtain ⟨f, fd, F, g, kp, b⟩ := C.ex
  exact pe_call0 F hr hg g kp b .nil pass0 hdb
/-! ### the rules with their written part named (within a comprehension it must not hang on the block) -/
section
variable (K : PySem.W.Frag) {X : Cx}
theorem kk_isi (h : X.K = K := by rfl) : CallR X (.builtin "isinstance") (rIsi K) := h ▸ call_isi
theorem kk_isiT (h : X.K = K := by rfl) : CallR X (.builtin "isinstance") (rIsiT K) := h ▸ call_isiT
theorem kk_len (h : X.K = K := by rfl) : CallR X (.builtin "len") (fun xs H Q => ∃ p ys, xs = [.ref p] ∧ (SqL K H p ys ∨ SqT K H p ys) ∧ Q (.int ys.length) H) := h ▸ call_len_seq
theorem kk_list (h : X.K = K := by rfl) : CallR X (.type "list") (fun xs H Q => ∃ p ys, xs = [.ref p] ∧ (SqL K H p ys ∨ SqT K H p ys) ∧ ∀ l, H l = none → Q (.ref l) (upd H l (.lst ys))) := h ▸ call_list_of
theorem kk_tuple (h : X.K = K := by rfl) : CallR X (.type "tuple") (fun xs H Q => ∃ p ys, xs = [.ref p] ∧ ((SqL K H p ys ∧ ∀ l, H l = none → Q (.ref l) (upd H l (.tup ys))) ∨ (SqT K H p ys ∧ Q (.ref p) H))) := h ▸ call_tuple_of
theorem kk_sum (hc : X.calm = true) (h : X.K = K := by rfl) : CallR X (.builtin "sum") (rSum K) := h ▸ cr_sum hc
theorem kk_max (hc : X.calm = true) (h : X.K = K := by rfl) : CallR X (.builtin "max") (rMax K) := h ▸ cr_max hc
theorem kk_min (hc : X.calm = true) (h : X.K = K := by rfl) : CallR X (.builtin "min") (rMin K) := h ▸ cr_min hc
theorem kk_any (hc : X.calm = true) (h : X.K = K := by rfl) : CallR X (.builtin "any") (rAny K) := h ▸ cr_any hc
theorem kk_all (hc : X.calm = true) (h : X.K = K := by rfl) : CallR X (.builtin "all") (rAll K) := h ▸ cr_all hc
theorem kk_sorted (h : X.K = K := by rfl) : CallR X (.builtin "sorted") (rSorted K) := h ▸ cr_sorted
theorem kk_ixl (h : X.K = K := by rfl) : IxR X (rIxL K) := h ▸ ix_list
theorem kk_ixt (h : X.K = K := by rfl) : IxR X (rIxT K) := h ▸ ix_tup
theorem kk_sll (h : X.K = K := by rfl) : SlR X (rSlL K) := h ▸ sl_list
theorem kk_slt (h : X.K = K := by rfl) : SlR X (rSlT K) := h ▸ sl_tup
theorem kk_in (h : X.K = K := by rfl) : OpR X (compareOp .In) (rIn K false) := h ▸ op_in_seq
theorem kk_nin (h : X.K = K := by rfl) : OpR X (compareOp .NotIn) (rIn K true) := h ▸ op_notIn_seq
theorem kk_catT (h : X.K = K := by rfl) : OpR X (binaryOp .Add) (rCatT K) := h ▸ op_catT
theorem kk_eqD (hu : X.A.units + 64 < cLine) (h : X.K = K := by rfl) : OpR X (compareOp .Eq) (rEqD K) := h ▸ op_eqD hu
theorem kk_neD (hu : X.A.units + 64 < cLine) (h : X.K = K := by rfl) : OpR X (compareOp .NotEq) (rNeD K) := h ▸ op_neD hu
theorem kk_revL {e : Expr} {te : TE} {k : Nat} {p1 p2 p3 pos : Pos} (he : PE X e te) (h : X.K = K := by rfl) : PE X (.Subscript e (.Slice none none (some (.UnaryOp .USub (.Constant (.int 1) k p1) p2)) p3) pos) (tRevL K te) := h ▸ pe_revL he
end
/-! ### heaps: all as it was, but one place -/
def But (b : Addr) (H H' : Hp) : Prop := ∀ c o, c ≠ b → H c = some o → H' c = some o
theorem But.refl (b : Addr) (H : Hp) : But b H H := fun _ _ _ h => h
theorem But.trans {b : Addr} {H H1 H2 : Hp} (x : But b H H1) (y : But b H1 H2) : But b H H2 := fun c o n h => y c o n (x c o n h)
theorem But.of {b : Addr} {H H1 : Hp} (x : Same H H1) : But b H H1 := fun c o _ h => x c o h
theorem But.upd {b : Addr} {H : Hp} {o : HO} : But b H (L2.upd H b o) := fun c u n h => by
  rw [upd_ne n]
  exact h
theorem But.new {b p : Addr} {H : Hp} {o : HO} (h : H p = none) : But b H (L2.upd H p o) := fun c u _ e => by
  rw [upd_ne (ne_of_none e h)]
  exact e
theorem same_new {H : Hp} {p : Addr} {o : HO} (h : H p = none) : Same H (upd H p o) := fun b x e => by
  rw [upd_ne (ne_of_none e h)]
  exact e
theorem But.seq {K : PySem.W.Frag} {b a : Addr} {H H' : Hp} {xs : List V} (e : But b H H') (n : a ≠ b) (h : SqL K H a xs) : SqL K H' a xs := by
  rcases h with (h | ⟨o, h⟩) | h
  · exact .inl (.inl (e _ _ n h))
  · exact .inl (.inr ⟨o, e _ _ n h⟩)
  · exact .inr h
/-! ### the law's box of three numbers -/
def Box (H : Hp) (b : Addr) (n : Int) : Prop := ∃ x y z : Int, H b = some (.lst [.int x, .int y, .int z]) ∧ 0 ≤ x ∧ 0 ≤ y ∧ y ≤ 3000000000 ∧ 0 ≤ z ∧ z ≤ n
theorem Box.mono {H : Hp} {b : Addr} {n m : Int} (h : Box H b n) (l : n ≤ m) : Box H b m := by
  obtain ⟨x, y, z, h0, h1, h2, h3, h4, h5⟩ := h
  exact ⟨x, y, z, h0, h1, h2, h3, h4, by omega⟩
theorem Box.same {H H' : Hp} {b : Addr} {n : Int} (e : Same H H') (h : Box H b n) : Box H' b n := by
  obtain ⟨x, y, z, h0, h1⟩ := h
  exact ⟨x, y, z, e _ _ h0, h1⟩
theorem Box.new {H : Hp} {b p : Addr} {o : HO} {n : Int} (h : Box H b n) (e : H p = none) : Box (upd H p o) b n := h.same (same_new e)
theorem Box.ne {H : Hp} {b p : Addr} {n : Int} (h : Box H b n) (e : H p = none) : p ≠ b := fun z => by
  obtain ⟨_, _, _, h0, _⟩ := h
  rw [z, h0] at e
  cases e
section
variable {K : PySem.W.Frag}
theorem at_int {ns : List Int} {k : Int} (h0 : 0 ≤ k) (h1 : k < ns.length) : ∃ c, atI (ns.map V.int) k = some (.int c) := by
  obtain ⟨j, rfl⟩ := Int.eq_ofNat_of_zero_le h0
  have hj : j < ns.length := by omega
  refine ⟨ns[j], atI_nat ?_⟩
  rw [List.getElem?_map, List.getElem?_eq_getElem hj]
  rfl
def partsL (p m : Int) : List Int := List.replicate (p % m).toNat (p / m + 1) ++ List.replicate (m - p % m).toNat (p / m)
theorem rep1 {α : Type} (k : Nat) (x : α) : (List.replicate k [x]).flatten = List.replicate k x := by
  induction k with
  | zero => rfl
  | succ n ih => rw [List.replicate_succ, List.flatten_cons, ih]; rfl
theorem size_small {n : Nat} (h : n ≤ 1000) : n ≤ sizeLine := Nat.le_of_lt (small1000 h)
theorem iteN {c A B : Prop} [Decidable c] (hc : ¬ c) (h : B) : if decide c = true then A else B := by
  rw [decide_eq_false hc]
  exact iteF h
theorem iteY {c A B : Prop} [Decidable c] (hc : c) (h : A) : if decide c = true then A else B := by
  rw [decide_eq_true hc]
  exact iteT h
theorem same_but {b : Addr} {H0 H1 H2 : Hp} (s : Same H0 H1) (n : H0 b = none) (t : But b H1 H2) : Same H0 H2 := fun c o h => t c o (fun e => by rw [e, n] at h; cases h) (s c o h)
theorem dpAll_ints {H : Hp} : ∀ ns : List Int, DpAll K H (ns.map V.int) (ns.map PyData.int)
  | [] => .nil
  | n :: r => .cons (.int n) (dpAll_ints r)
theorem dp_ints {H : Hp} {a : Addr} {ns : List Int} (h : SqL K H a (ns.map V.int)) : Dp K H (.ref a) (.list (ns.map PyData.int)) := .lst h (dpAll_ints ns)
theorem lay_ints : ∀ ns : List Int, PyData.canLayAll0 (ns.map PyData.int) = true
  | [] => by simp [PyData.canLayAll0]
  | n :: r => by simp [PyData.canLayAll0, PyData.canLay0, lay_ints r]
theorem depth_ints : ∀ ns : List Int, PyData.depthAll (ns.map PyData.int) ≤ 1
  | [] => by simp [PyData.depthAll]
  | n :: r => by
    have h := depth_ints r
    simp only [List.map_cons, PyData.depthAll, PyData.depth]
    omega
theorem sh_ints (ns : List Int) : SeqAt.shaped (.list (ns.map PyData.int)) = true := by
  have h1 := depth_ints ns
  have h2 : PyData.depth (.list (ns.map PyData.int)) ≤ 64 := by
    simp only [PyData.depth]
    omega
  show (PyData.canLay0 (.list (ns.map PyData.int)) && decide (PyData.depth (.list (ns.map PyData.int)) ≤ 64)) = true
  rw [Bool.and_eq_true]
  exact ⟨by simp only [PyData.canLay0]; exact lay_ints ns, decide_eq_true h2⟩
theorem eqv_same (ns : List Int) : PyData.eqv (.list (ns.map PyData.int)) (.list (ns.map PyData.int)) = true := SeqAt.eqv_refl _ (SeqAt.canLay_of_shaped (sh_ints ns))

theorem sum_rep (k : Nat) (x : Int) : (List.replicate k x).sum = k * x := by
  induction k with
  | zero => simp
  | succ n ih =>
    rw [List.replicate_succ, List.sum_cons, ih, Int.natCast_add, Int.add_mul]
    omega
theorem parts_len {p m : Int} (hm : 1 ≤ m) : ((partsL p m).length : Int) = m := by
  have hr0 := Int.emod_nonneg p (show m ≠ 0 by omega)
  have hr1 := Int.emod_lt_of_pos p (show 0 < m by omega)
  unfold partsL
  rw [List.length_append, List.length_replicate, List.length_replicate]
  omega
theorem parts_sum {p m : Int} (hm : 1 ≤ m) : (partsL p m).sum = p := by
  have hr0 := Int.emod_nonneg p (show m ≠ 0 by omega)
  have hr1 := Int.emod_lt_of_pos p (show 0 < m by omega)
  have e := Int.mul_ediv_add_emod p m
  unfold partsL
  rw [List.sum_append, sum_rep, sum_rep, Int.toNat_of_nonneg hr0, Int.toNat_of_nonneg (by omega), Int.sub_mul, Int.mul_add]
  omega
theorem parts_mem {p m x : Int} (h : x ∈ partsL p m) : x = p / m + 1 ∨ x = p / m := by
  unfold partsL at h
  rcases List.mem_append.mp h with h | h
  · exact .inl (List.eq_of_mem_replicate h)
  · exact .inr (List.eq_of_mem_replicate h)
theorem parts_fall (p m : Int) : (partsL p m).Pairwise (fun a b => b ≤ a) := by
  unfold partsL
  refine List.pairwise_append.mpr ⟨List.pairwise_replicate.mpr (.inr (Int.le_refl _)), List.pairwise_replicate.mpr (.inr (Int.le_refl _)), fun a ha b hb => ?_⟩
  rw [List.eq_of_mem_replicate ha, List.eq_of_mem_replicate hb]
  omega
theorem parts_sorted {p m : Int} {ns : List Int} (h : ns.Perm (partsL p m)) (hs : ns.Pairwise (· ≤ ·)) : ns.reverse = partsL p m := by
  refine List.Perm.eq_of_pairwise (le := fun a b => b ≤ a) (fun x y _ _ h1 h2 => Int.le_antisymm h2 h1) ?_ (parts_fall p m) ((List.reverse_perm ns).trans h)
  exact List.pairwise_reverse.mpr hs
theorem ends_of {ns : List Int} (h : 0 < ns.length) : ∃ x y, x ∈ ns ∧ y ∈ ns ∧ atI (ns.map V.int) 0 = some (.int x) ∧ atI (ns.map V.int) (-1) = some (.int y) := by
  cases ns with
  | nil => cases h
  | cons x r =>
    refine ⟨x, (x :: r).getLast (List.cons_ne_nil _ _), List.mem_cons_self, List.getLast_mem _, atI_nat (j := 0) rfl, ?_⟩
    have hz : ((x :: r).map V.int) = ((x :: r).dropLast.map V.int) ++ [.int ((x :: r).getLast (List.cons_ne_nil _ _))] := by
      rw [← List.map_singleton, ← List.map_append, List.dropLast_concat_getLast]
    rw [hz]
    exact atI_last _ _
theorem all_true (n : Nat) : (List.replicate n true).all id = true := by
  induction n with
  | zero => rfl
  | succ k ih => rw [List.replicate_succ, List.all_cons, ih]; rfl
theorem pick6 {r x : Int} (h0 : 0 ≤ r) (h1 : r < 6) (x0 : 0 ≤ x) (x1 : x ≤ 100) : ∃ c : Int, atI [V.int 0, .int 1, .int 50, .int 99, .int 100, .int x] r = some (.int c) ∧ 0 ≤ c ∧ c ≤ 100 := by
  have h : r = 0 ∨ r = 1 ∨ r = 2 ∨ r = 3 ∨ r = 4 ∨ r = 5 := by omega
  rcases h with rfl | rfl | rfl | rfl | rfl | rfl
  · exact ⟨0, rfl, by decide, by decide⟩
  · exact ⟨1, rfl, by decide, by decide⟩
  · exact ⟨50, rfl, by decide, by decide⟩
  · exact ⟨99, rfl, by decide, by decide⟩
  · exact ⟨100, rfl, by decide, by decide⟩
  · exact ⟨x, rfl, x0, x1⟩
end
end Pw
namespace Pw
open PySem PySem.Spec PyProof.Rows L2
/-! ### texts and data -/
theorem op_mul_str {X : Cx} : OpR X (binaryOp .Mult) (fun x y H Q => ∃ (z : Str) (k : Int), x = .str z ∧ y = .int k ∧ MulOk z k ∧ Q (.str (Txt.mul z k)) H) := by
  intro pins s σ H x y v u Q I rx ry h
  obtain ⟨z, k, rfl, rfl, ok, q⟩ := h
  obtain ⟨t, rfl⟩ := rx
  obtain ⟨t', rfl⟩ := ry
  exact SB.mul ok fun t' tk => ⟨.str _, H, I.tok _, ⟨_, rfl⟩, q⟩
theorem len_app (x y : Str) : (x ++ y).length = x.length + y.length := by
  rw [TL.len_tl, TL.tl_append, List.length_append, ← TL.len_tl, ← TL.len_tl]
def tyD : PyData → String
  | .none => "NoneType"
  | .bool _ => "bool"
  | .int _ => "int"
  | .str _ => "str"
  | .list _ => "list"
  | .tuple _ => "tuple"
  | .dict _ => "dict"
theorem ty_of_dp {K : PySem.W.Frag} {H : Hp} {x : V} {d : PyData} (h : Dp K H x d) : TyX K H x (.type (tyD d)) := by
  cases h with
  | non => exact .base .non
  | bl b => exact .base (.bl b)
  | int i => exact .base (.int i)
  | str z => exact .base (.str z)
  | lst a _ =>
    rcases a with (a | ⟨o, a⟩) | ⟨o, its, n, a, c, _⟩
    · exact .base (.lst a)
    · exact .base (.frz a)
    · exact .kList a c
  | tup a _ =>
    rcases a with (a | ⟨o, a⟩) | ⟨o, its, n, a, c, _⟩
    · exact .base (.tup a)
    · exact .fTuple a
    · exact .kTuple a c
theorem seqT_same {K : PySem.W.Frag} {H H' : Hp} {a : Addr} {xs : List V} (e : Same H H') (h : SqT K H a xs) : SqT K H' a xs := by
  rcases h with (h | ⟨o, h⟩) | h
  · exact .inl (.inl (e _ _ h))
  · exact .inl (.inr ⟨o, e _ _ h⟩)
  · exact .inr h
mutual
theorem dp_same {K : PySem.W.Frag} {H H' : Hp} (e : Same H H') : ∀ {x : V} {d : PyData}, Dp K H x d → Dp K H' x d
  | _, _, .non => .non
  | _, _, .bl b => .bl b
  | _, _, .int i => .int i
  | _, _, .str z => .str z
  | _, _, .lst a b => .lst (e.seq a) (dpAll_same e b)
  | _, _, .tup a b => .tup (seqT_same e a) (dpAll_same e b)
theorem dpAll_same {K : PySem.W.Frag} {H H' : Hp} (e : Same H H') : ∀ {xs : List V} {ds : List PyData}, DpAll K H xs ds → DpAll K H' xs ds
  | _, _, .nil => .nil
  | _, _, .cons a b => .cons (dp_same e a) (dpAll_same e b)
end
/-- the heap without the place b -/
def wo (b : Addr) (H : Hp) : Hp := fun c => if c = b then none else H c
theorem wo_sub (b : Addr) (H : Hp) : Same (wo b H) H := fun c o h => by
  unfold wo at h
  split at h
  · cases h
  · exact h
theorem wo_but {b : Addr} {H H' : Hp} (t : But b H H') : Same (wo b H) (wo b H') := fun c o h => by
  unfold wo at h ⊢
  split at h
  · cases h
  · rename_i n
    rw [if_neg n]
    exact t c o n h
theorem wo_same {b : Addr} {H H' : Hp} (t : Same H H') : Same (wo b H) (wo b H') := wo_but (But.of t)
theorem wo_at {b c : Addr} {H : Hp} {o : HO} (n : c ≠ b) (h : H c = some o) : wo b H c = some o := by
  unfold wo
  rw [if_neg n]
  exact h
def Asc (s : Str) : Prop := ∀ c ∈ TL.tl s, c < 128
theorem Asc.app {x y : Str} (hx : Asc x) (hy : Asc y) : Asc (x ++ y) := fun c hc => by
  rw [TL.tl_append] at hc
  rcases List.mem_append.mp hc with h | h
  · exact hx c h
  · exact hy c h
theorem Asc.cut {x : Str} {lo hi : Option Int} (hx : Asc x) : Asc (cutS x lo hi) := fun c hc => hx c (List.mem_of_mem_drop (List.mem_of_mem_take hc))
theorem Asc.one {c : Nat} (h : c < 128) : Asc ⟨#[c]⟩ := fun d hd => by
  rw [List.mem_singleton.mp (show d ∈ [c] from hd)]
  exact h
/-! ### kinds of data -/
def isT (T t : String) : Bool := decide (t = T) || (decide (T = "int") && decide (t = "bool"))
abbrev isK (T : String) (d : PyData) : Bool := isT T (tyD d)
theorem kit_t : ∀ t ∈ ["NoneType", "bool", "int", "str", "list", "tuple", "dict"], ∀ T ∈ ["int", "bool", "str", "list", "tuple"], kitB t T = some (isT T t) := by decide +kernel
theorem ty_mem (d : PyData) : tyD d ∈ ["NoneType", "bool", "int", "str", "list", "tuple", "dict"] := by
  cases d <;> simp [tyD]
theorem kit_d {K : PySem.W.Frag} {T : String} (hT : T ∈ ["int", "bool", "str", "list", "tuple"]) (d : PyData) : PySem.W.kitOne K (.type (tyD d)) (.type T) = some (isK T d) := kit_ty (kit_t _ (ty_mem d) T hT)
theorem sh_int (i : Int) : SeqAt.shaped (.int i) = true := by
  show (PyData.canLay0 (.int i) && decide (PyData.depth (.int i) ≤ 64)) = true
  simp [PyData.canLay0, PyData.depth]
theorem tuple_mul1 (l : Addr) (items : Array Value) (n : Nat) (dd : Option Addr) (sl : Array (Option Value)) (u : Tok) (hne : items.isEmpty = false) :
    Meets (Builtin.«tuple.__mul__» ⟨[.ref l, .int 1 u], []⟩) (fun _ R s => s.heap.get? l = some { cls := .type "tuple", dict := dd, data := .seq items n, slots := sl } ∧ R (.ok (.ret (Value.ref l))) s) :=
  .of_wp fun prog w A R s h => by
    obtain ⟨hp, g, d, tk, os⟩ := s
    obtain ⟨hl, h⟩ := h
    have f1 := AutoSeq1.idx_int
    wp_walk using wpAny_loadPart' hl
    exact ⟨_, rfl, h⟩
theorem op_rep1 {X : Cx} : OpR X (binaryOp .Mult) (fun x y H Q => ∃ (l : Addr) (xs : List V), x = .ref l ∧ y = .int 1 ∧ SqT X.K H l xs ∧ xs ≠ [] ∧ Q (.ref l) H) := by
  intro pins s σ H x y v u Q I rx ry h
  obtain ⟨l, xs, rfl, rfl, hT, hne, q⟩ := h
  cases rx
  obtain ⟨t, rfl⟩ := ry
  obtain ⟨its, r, ⟨⟨cls, dd, data, sl⟩, ho, hc, n, hd⟩, hs⟩ := I.tuple hT
  simp only at hc hd
  subst hc hd
  have hi : its.toArray.isEmpty = false := by
    cases its with
    | nil => exact absurd (List.eq_nil_of_length_eq_zero (r.length.trans rfl)) hne
    | cons a b => rfl
  refine wpAny_binaryOp_repeat_ref (T := "tuple") (U := "int") (by decide) ⟨_, ho, rfl⟩ (fun s' => typeIs_int s' 1 t) noFill_tuple_mul F.fills_int_mul F.slot_int_rmul repeat_tuple F.slot_int_index.lookup
    (call_meets F.slot_int_rmul (typeIs_int s 1 t) F.entry_int_rmul (F.args_int_rmul_2 _ _) (int_rmul_tuple 1 t l its.toArray n dd sl)
      ⟨ho, rfl, ⟨_, ho, rfl⟩, call_meets F.slot_tuple_mul ⟨_, ho, rfl⟩ F.entry_tuple_mul (F.args_tuple_mul_2 _ _) (tuple_mul1 l its.toArray n dd sl t hi) ⟨ho, ?_⟩⟩)
  exact ⟨.ref l, H, I, rfl, q⟩
def rRepA (K : PySem.W.Frag) : R2 := fun x y H Q => rRepT K x y H Q ∨ ∃ (l : Addr) (xs : List V), x = .ref l ∧ y = .int 1 ∧ SqT K H l xs ∧ xs ≠ [] ∧ Q (.ref l) H
theorem kk_repA (K : PySem.W.Frag) {X : Cx} (h : X.K = K := by rfl) : OpR X (binaryOp .Mult) (rRepA K) := h ▸ OpR.or op_repT op_rep1
/-! ### classes: a method, the making of an instance, by their promises -/
structure CMt (P : Program) (w : World) (K : PySem.W.Frag) (mg : Str → Option Value) (base : Heap) (C : Addr) (k : Nat) (m : Str) (ps : List Str) (dvs : List V) (sp : Sp) : Prop where
  ex : ∃ (f : Addr) (fd : FuncData) (ds : List Value), FnOk P w K mg base CX0 k f fd ps sp ∧ Meth K C m f ∧ Vals dvs ds ∧ Binds K fd ps ds
structure CMk (P : Program) (w : World) (K : PySem.W.Frag) (mg : Str → Option Value) (base : Heap) (C : Addr) (k : Nat) (x : Str) (ps : List Str) (dvs : List V) (sp : Sp) : Prop where
  ex : ∃ (f : Addr) (fd : FuncData) (ds : List Value), FnOk P w K mg base CX0 k f fd ps sp ∧ Mk K C f ∧ mg x = some (.ref C) ∧ Vals dvs ds ∧ Binds K fd ps ds
section
variable {X : Cx} {k : Nat} {C : Addr} {x m : Str} {ps : List Str} {dvs : List V} {sp : Sp} {p pos apos : Pos} {e o : Expr} {es : List Expr} {ta : TE} {t : TA}
theorem pe_mt {pl : Sem Bool} (M : CMt X.prog X.w X.K X.mg X.base C k m ps dvs sp) (c : Cls X.K C) (hr : Room k X.A) (he : PE X o ta) (ha : PA X (e :: es) t)
    (hst : starEach (e :: es) X.env = (false, eval e X.env) :: starEach es X.env := by rfl) (hpl : (backTo pos (starEach es X.env)).any (·.1) = false := by rfl)
    (ht : eval (.Call (.Attribute o m apos) (e :: es) [] pos) X.env = (do
      let ov ← eval o X.env
      standAt apos.atName
      let (f, first) ← holding [ov] (getMethod ov m pl)
      callWith pos f first (backTo pos (starEach (e :: es) X.env)) (backToKw pos (keywordEach [] X.env))) := by rfl) :
    PE X (.Call (.Attribute o m apos) (e :: es) [] pos) (tMeth C m sp dvs E0 ta t) := by
  obtain ⟨f, fd, ds, F, me, vd, b⟩ := M.ex
  exact pe_meth (pl := pl) he c me F hr b vd pass0 ha hst hpl ht
theorem pe_mt0 {pl : Sem Bool} (M : CMt X.prog X.w X.K X.mg X.base C k m ps dvs sp) (c : Cls X.K C) (hr : Room k X.A) (he : PE X o ta)
    (ht : eval (.Call (.Attribute o m apos) [] [] pos) X.env = (do
      let ov ← eval o X.env
      standAt apos.atName
      let (f, first) ← holding [ov] (getMethod ov m pl)
      callWith pos f first (backTo pos (starEach [] X.env)) (backToKw pos (keywordEach [] X.env))) := by rfl) :
    PE X (.Call (.Attribute o m apos) [] [] pos) (tMeth C m sp dvs E0 ta tNil) := by
  obtain ⟨f, fd, ds, F, me, vd, b⟩ := M.ex
  exact pe_meth0 (pl := pl) he c me F hr b vd pass0 ht
theorem pe_mkc (M : CMk X.prog X.w X.K X.mg X.base C k x ps dvs sp) (hr : Room (k + 1) X.A) (hg : Gl X x) (ha : PA X (e :: es) t)
    (hdb : (x == ("__debug__" : Str)) = false := by decide) (he : starEach (e :: es) X.env = (false, eval e X.env) :: starEach es X.env := by rfl) (hpl : (backTo pos (starEach es X.env)).any (·.1) = false := by rfl) :
    PE X (.Call (.Name x p) (e :: es) [] pos) (tMake C sp dvs E0 t) := by
  obtain ⟨f, fd, ds, F, mk, g, vd, b⟩ := M.ex
  exact pe_make mk F hr hg g b vd pass0 ha hdb he hpl
end
/-! ### o.m(e, .., k = v) -/
structure CMtK (P : Program) (w : World) (K : PySem.W.Frag) (mg : Str → Option Value) (base : Heap) (C : Addr) (k : Nat) (m : Str) (ps : List Str) (n : Nat) (ks : List Str) (gV : List V → List V → List V) (sp : Sp) : Prop where
  ex : ∃ (f : Addr) (fd : FuncData) (g : List Value → List Value → List Value), FnOk P w K mg base CX0 k f fd ps sp ∧ Meth K C m f ∧ KBn K fd ps n ks g gV
def tMethK (C : Addr) (m : Str) (n j : Nat) (sp : Sp) (gV : List V → List V → List V) (ta : TE) (t tk : TA) : TE := fun σ H Q => ta σ H fun x H1 => ∃ (a dx : Addr) (fs : List (Str × V)), x = .ref a ∧ H1 a = some (.ins C dx fs) ∧ fs.lookup m = none ∧
  t σ H1 fun vs H2 => tk σ H2 fun zs H3 => (x :: vs).length = n ∧ zs.length = j ∧ sp (gV (x :: vs) zs) H3 Q E0
theorem pe_mtK {X : Cx} {k n : Nat} {C : Addr} {m : Str} {ps ks : List Str} {sp : Sp} {gV : List V → List V → List V} {pos apos : Pos} {e o : Expr} {es : List Expr} {kws : List Keyword} {ta : TE} {t tk : TA} {pl : Sem Bool}
    (M : CMtK X.prog X.w X.K X.mg X.base C k m ps n ks gV sp) (c : Cls X.K C) (hr : Room k X.A) (he : PE X o ta) (ha : PA X (e :: es) t) (hkw : PK X kws tk)
    (hall : (backToKw pos (keywordEach kws X.env)).all (·.1.isSome) = true := by rfl) (hks : (backToKw pos (keywordEach kws X.env)).filterMap (·.1) = ks := by rfl)
    (hst : starEach (e :: es) X.env = (false, eval e X.env) :: starEach es X.env := by rfl)
    (hpl : ((backTo pos (starEach (e :: es) X.env)).any (·.1) || (backToKw pos (keywordEach kws X.env)).any (·.1.isNone)) = false := by rfl)
    (ht : eval (.Call (.Attribute o m apos) (e :: es) kws pos) X.env = (do
      let ov ← eval o X.env
      standAt apos.atName
      let (f, first) ← holding [ov] (getMethod ov m pl)
      callWith pos f first (backTo pos (starEach (e :: es) X.env)) (backToKw pos (keywordEach kws X.env))) := by rfl) :
    PE X (.Call (.Attribute o m apos) (e :: es) kws pos) (tMethK C m n ks.length sp gV ta t tk) := by
  obtain ⟨f, fd, g, F, me, b⟩ := M.ex
  constructor
  intro pins s σ H Q I h
  refine PySem.W.methodCall_KW (pl := pl) (thn (he.run pins s σ H _ I h) ?_) ht
  rintro u s1 ⟨x, H1, I1, rx, a, dx, fs, rfl, ea, l, q⟩
  cases (show u = Value.ref a from rx)
  refine getmeth_ok I1 ea c me l ?_
  refine PySem.W.callWith_KW (first := [.ref a]) (h₀ := X.base) I.ok.mod.kin me.kp hall (thn (ha.run pos pins s1 σ H1 _ I1 q) ?_) hpl hst
  rintro us s2 ⟨vs, H2, I2, r, q2⟩
  refine thn (hkw.run pos pins s2 σ H2 _ I2 q2) ?_
  rintro ws s3 ⟨zs, H3, I3, rz, l1, l2, q3⟩
  refine ⟨I3.kIn, ?_⟩
  rw [hks]
  exact run_fnN (us := .ref a :: us) (vs := .ref a :: vs) F hr b pass0 I3 (.cons rfl r) rz l1 l2 q3
theorem okD {P : Program} {w : World} {K : PySem.W.Frag} {mg : Str → Option Value} {base : Heap} {x qual : Str} {params : Arguments} {body : List Stmt} {scope : Scope} {dvs : List V} {kws : List (Str × V)} {f : Addr} {fd : FuncData} {N ps : List Str} {k : Nat} {sp : Sp}
    (F : FunD K x qual params body scope dvs kws f fd) (S : FnScope N ps scope) (len : ∀ vs H Q E, sp vs H Q E → vs.length = ps.length)
    (walk : ∀ (cdv : Value) (A : Around) (outer : List Env) (s : Shared) (H : Hp) (vs : List V) (Q : VK) (E : XK), Room k (A.deeper (envOfC qual scope s.heap.objs.size f cdv)) → sp vs H Q E →
      ∃ t, PSs (cxOf CX0 P w K mg base N qual scope f cdv A outer s H E).nox body t ∧ t { nx := fun _ H' => Q .non H', rt := Q } (start N vs) H) : FnOk P w K mg base CX0 (k + 1) f fd ps sp := by
  refine F.ok S len (fun cdv A outer s H vs Q E hr h => ?_)
  obtain ⟨t, ht, q⟩ := walk cdv A outer s H vs Q E hr h
  exact ⟨t, ht.nox, q⟩
/-! ### numbers in bounds, what is kept -/
def numIn : PyData → Int → Int → Bool
  | .int i, lo, hi => decide (lo ≤ i) && decide (i ≤ hi)
  | _, _, _ => false
def keptOk : PyData → PyData → Bool
  | .tuple ds, e => PyData.eqv (.int (ds.length : Int)) e && ds.all fun d => numIn d 0 100
  | d, _ => numIn d 0 100
def firstWrong (ws : List (Str × Bool)) : V := match ws.find? (fun p => !p.2) with
  | some p => .str p.1
  | none => .non
theorem firstWrong_at {ws : List (Str × Bool)} {i : Nat} {w : Str} (h : ∀ p ∈ ws.take i, p.2 = true) (hi : ws[i]? = some (w, false)) : firstWrong ws = .str w := by
  have hs : ws = ws.take i ++ (w, false) :: ws.drop (i + 1) := by
    obtain ⟨hl, he⟩ := List.getElem?_eq_some_iff.mp hi
    rw [← he, List.getElem_cons_drop, List.take_append_drop]
  unfold firstWrong
  rw [hs, List.find?_append, List.find?_eq_none.mpr (fun p hp => by rw [h p hp]; decide)]
  rfl
theorem firstWrong_none {ws : List (Str × Bool)} (h : ∀ p ∈ ws, p.2 = true) : firstWrong ws = .non := by
  unfold firstWrong
  rw [List.find?_eq_none.mpr (fun p hp => by rw [h p hp]; decide)]
theorem dpAll_len {K : PySem.W.Frag} {H : Hp} : ∀ {xs : List V} {ds : List PyData}, DpAll K H xs ds → xs.length = ds.length
  | _, _, .nil => rfl
  | _, _, .cons _ b => by rw [List.length_cons, List.length_cons, dpAll_len b]
theorem dpAll_get {K : PySem.W.Frag} {H : Hp} : ∀ {xs : List V} {ds : List PyData} {i : Nat} {x : V}, DpAll K H xs ds → xs[i]? = some x → ∃ d, ds[i]? = some d ∧ Dp K H x d
  | _, _, 0, _, .cons a _, h => ⟨_, rfl, by cases (Option.some.inj h); exact a⟩
  | _, _, i + 1, _, .cons _ b, h => dpAll_get (i := i) b h
  | _, _, _, _, .nil, h => by simp at h
/-! ### a block over an iterator of a known length; zip of two lists, of two tuples -/
theorem lc_gen {J : It} {n : Nat} {g : TG} {tt : TT} {te : TE} {vs : List Nat} {σ : L2.St} {H1 : Hp} {D : Addr} {Qd : Hp → Prop} (Pv : Nat → Hp → Prop) (first : Pv 0 (upd H1 D (.lst [])))
    (can : ∀ i H, Pv i H → (i < n → J.go i H) ∧ (i = n → J.stop i H))
    (turn : ∀ i H v H', i < n → Pv i H → J.yld i H v H' → g v (wipe σ vs) H' fun σ2 H2 => wipe σ2 vs = wipe σ vs ∧ tt σ2 H2 fun b H3 => if b = true then te σ2 H3 fun y H4 => ∃ acc, H4 D = some (.lst acc) ∧ acc.length < sizeLine ∧ Pv (i + 1) (upd H4 D (.lst (acc ++ [y]))) else Pv (i + 1) H3)
    (last : ∀ H, Pv n H → Qd H) :
    ∃ W : Nat → Nat → Hp → Prop, (∃ m, W 0 m (upd H1 D (.lst []))) ∧ ∀ i m H, W i m H → (J.stop i H ∧ Qd H) ∨ (J.go i H ∧ ∃ Nx : Hp → Prop, (∀ H', Nx H' → ∃ m', m' < m ∧ W (i + 1) m' H') ∧ ∀ x H', J.yld i H x H' → g x (wipe σ vs) H' fun σ2 H2 => wipe σ2 vs = wipe σ vs ∧ tt σ2 H2 fun b H3 => if b = true then te σ2 H3 fun y H4 => ∃ acc, H4 D = some (.lst acc) ∧ acc.length < sizeLine ∧ Nx (upd H4 D (.lst (acc ++ [y]))) else Nx H3) := by
  refine ⟨fun i m H => m + i = n ∧ Pv i H, ⟨n, by omega, first⟩, ?_⟩
  intro i m H hw
  obtain ⟨e, p⟩ := hw
  by_cases c : i < n
  · exact .inr ⟨(can i H p).1 c, Pv (i + 1), fun H' p' => ⟨n - (i + 1), by omega, by omega, p'⟩, fun v H' y => turn i H v H' c p y⟩
  · have z : i = n := by omega
    exact .inl ⟨(can i H p).2 z, last H (z ▸ p)⟩
section
variable {K : PySem.W.Frag} {a b : Addr} {xs ys : List V}
theorem canL {H : Hp} {i : Nat} (l : xs.length = ys.length) (x : SqL K H a xs) (y : SqL K H b ys) : (i < xs.length → (Itz K a b).go i H) ∧ (i = xs.length → (Itz K a b).stop i H) :=
  ⟨fun c => ⟨xs, ys, _, _, x, y, List.getElem?_eq_getElem c, List.getElem?_eq_getElem (l ▸ c)⟩, fun c => ⟨xs, ys, x, y, .inl (by omega)⟩⟩
theorem canT {H : Hp} {i : Nat} (l : xs.length = ys.length) (x : SqT K H a xs) (y : SqT K H b ys) : (i < xs.length → (RZ.ItzT K a b).go i H) ∧ (i = xs.length → (RZ.ItzT K a b).stop i H) :=
  ⟨fun c => ⟨xs, ys, _, _, x, y, List.getElem?_eq_getElem c, List.getElem?_eq_getElem (l ▸ c)⟩, fun c => ⟨xs, ys, x, y, .inl (by omega)⟩⟩
end
/-! ### data of short lists -/
mutual
def thin : PyData → Bool
  | .list xs => decide (xs.length ≤ 1000) && thinAll xs
  | .tuple xs => decide (xs.length ≤ 1000) && thinAll xs
  | _ => true
def thinAll : List PyData → Bool
  | [] => true
  | x :: r => thin x && thinAll r
end
theorem thin_at {d : PyData} : ∀ {ds : List PyData} {i : Nat}, thinAll ds = true → ds[i]? = some d → thin d = true
  | e :: r, 0, h, he => by
    cases he
    simp only [thinAll, Bool.and_eq_true] at h
    exact h.1
  | e :: r, i + 1, h, he => by
    simp only [thinAll, Bool.and_eq_true] at h
    exact thin_at (i := i) h.2 he
theorem depth_at {d : PyData} : ∀ {ds : List PyData} {i : Nat}, ds[i]? = some d → PyData.depth d ≤ PyData.depthAll ds
  | e :: r, 0, he => by
    cases he
    simp only [PyData.depthAll]
    omega
  | e :: r, i + 1, he => by
    have := depth_at (i := i) (ds := r) he
    simp only [PyData.depthAll]
    omega
theorem kitLT {K : PySem.W.Frag} (d : PyData) : PySem.W.kitAny K (.type (tyD d)) [.type "list", .type "tuple"] = some (isK "list" d || isK "tuple" d) := by
  unfold PySem.W.kitAny
  rw [kit_d (by decide)]
  cases isK "list" d with
  | true => rfl
  | false =>
    unfold PySem.W.kitAny
    rw [kit_d (by decide)]
    cases isK "tuple" d <;> rfl
theorem qY {c : Prop} [Decidable c] {Q : VK} {H : Hp} (hc : c) (q : Q (.bl true) H) : Q (.bl (decide c)) H := by
  rw [decide_eq_true hc]
  exact q
theorem rep_snoc (i : Nat) : (List.replicate i true).map V.bl ++ [V.bl true] = (List.replicate (i + 1) true).map V.bl := by
  rw [List.map_replicate, List.map_replicate, List.replicate_succ']
/-! ### len of an instance by its class's own def; a walk over a list or a tuple -/
theorem call_lenO {X : Cx} {C : Addr} {k : Nat} {sp : Sp} (M : CMt X.prog X.w X.K X.mg X.base C k "__len__" ["self"] [] sp) (hr : Room (k + 1) X.A) :
    CallR X (.builtin "len") (fun xs H Q => ∃ (r dx : Addr) (fs : List (Str × V)), xs = [.ref r] ∧ H r = some (.ins C dx fs) ∧ sp [.ref r] H (fun v H' => ∃ n : Int, v = .int n ∧ 0 ≤ n ∧ n < 1000000 ∧ Q (.int n) H') E0) := by
  intro pins s σ H xs us Q I rv h
  obtain ⟨r, dx, fs, rfl, ea, h⟩ := h
  obtain ⟨f, fd, ds, F, me, vd, hb⟩ := M.ex
  cases vd
  cases rv with
  | cons e rr =>
    cases rr
    cases e
    obtain ⟨mA, O, _⟩ := ins_get I.hok ea
    obtain ⟨od, J, _⟩ := O.look
    refine Calls.call_function_entry kind_len plain_len entry_len (args_len1 _) ?_
    unfold Builtin.«len»
    refine wpAny_bind (wpAny_pure ?_)
    refine wpAny_bind (PySem.W.special_fn (args := []) I.kIn J me.at_ (beq_iff_eq.mp me.fn) ?_)
    have hl : ([Value.ref r] ++ ([] : List Value)).length = (["self"] : List Str).length := rfl
    refine wpAny_call (codeAny_mono (F.run X.A.in1 X.stack s H ⟨[.ref r], []⟩ [.ref r] [.ref r] _ _ hr.in1 I.env0.in1 (hb s [.ref r] I.kIn hl) (.cons rfl .nil) h) fun x s' hq => ?_)
    cases x with
    | error e => exact pass0 pins σ H s e s' I hq
    | ok fl =>
      cases fl with
      | ret u =>
        obtain ⟨v, H', I', rv, n, rfl, n0, n1, q⟩ := I.after hq
        obtain ⟨t, rfl⟩ := rv
        refine wpAny_bind (wpAny_holding (wpAny_pure ?_))
        refine wpAny_bind (wpAny_letGo ?_)
        show wpAny _ _ (if n < 0 then _ else _) _ _ _
        rw [if_neg (by omega)]
        show wpAny _ _ (if n ≥ 2 ^ 63 then _ else _) _ _ _
        rw [if_neg (by omega)]
        exact wpAny_bind (wpAny_mkInt (wpAny_pure ⟨_, rfl, .int n, H', I'.tok _, ⟨_, rfl⟩, q⟩))
      | next => exact False.elim hq
      | brk => exact False.elim hq
      | cont => exact False.elim hq
theorem pi_or {X : Cx} {tg e : Expr} {w1 w2 : TI} (h : PI X tg e w1) (h' : PI X tg e w2) : PI X tg e (fun σ H R => w1 σ H R ∨ w2 σ H R) :=
  ⟨fun pins s σ H R I q => q.elim (h.run pins s σ H R I) (h'.run pins s σ H R I)⟩
def figChecks (d1 d2 d3 d4 d5 d6 d7 d8 d9 : PyData) : List (Str × Bool) :=
  [(Str.ofString "parts", numIn d1 1 6), (Str.ofString "step", numIn d2 1 14), (Str.ofString "grace", numIn d3 0 7), (Str.ofString "last", isK "bool" d4), (Str.ofString "misses", numIn d5 0 2), (Str.ofString "keep", keptOk d6 d1), (Str.ofString "fine", numIn d7 0 100), (Str.ofString "falls", numIn d8 0 30), (Str.ofString "back", numIn d9 0 30)]

theorem at9_of {HH : Hp} {t1 t2 t3 t4 t5 t6 t7 t8 t9 : Addr} {p1 p2 p3 p4 p5 p6 p7 p8 p9 : Str × Bool} (c1 : HH t1 = some (.tup [.str p1.1, .bl p1.2])) (c2 : HH t2 = some (.tup [.str p2.1, .bl p2.2])) (c3 : HH t3 = some (.tup [.str p3.1, .bl p3.2])) (c4 : HH t4 = some (.tup [.str p4.1, .bl p4.2])) (c5 : HH t5 = some (.tup [.str p5.1, .bl p5.2])) (c6 : HH t6 = some (.tup [.str p6.1, .bl p6.2])) (c7 : HH t7 = some (.tup [.str p7.1, .bl p7.2])) (c8 : HH t8 = some (.tup [.str p8.1, .bl p8.2])) (c9 : HH t9 = some (.tup [.str p9.1, .bl p9.2])) : ∀ (j : Nat) (t : Addr) (p : Str × Bool), [t1, t2, t3, t4, t5, t6, t7, t8, t9][j]? = some t → [p1, p2, p3, p4, p5, p6, p7, p8, p9][j]? = some p → HH t = some (.tup [.str p.1, .bl p.2]) := fun j t p ht hp => by
  match j, ht, hp with
  | 0, ht, hp => cases ht; cases hp; exact c1
  | 1, ht, hp => cases ht; cases hp; exact c2
  | 2, ht, hp => cases ht; cases hp; exact c3
  | 3, ht, hp => cases ht; cases hp; exact c4
  | 4, ht, hp => cases ht; cases hp; exact c5
  | 5, ht, hp => cases ht; cases hp; exact c6
  | 6, ht, hp => cases ht; cases hp; exact c7
  | 7, ht, hp => cases ht; cases hp; exact c8
  | 8, ht, hp => cases ht; cases hp; exact c9
  | n + 9, ht, hp => cases ht
theorem pick9 {ts : List Addr} {ws : List (Str × Bool)} {H : Hp} {i : Nat} {x : V} (hl : ts.length = ws.length) (h : ∀ (j : Nat) (t : Addr) (p : Str × Bool), ts[j]? = some t → ws[j]? = some p → H t = some (.tup [.str p.1, .bl p.2])) (hx : (ts.map V.ref)[i]? = some x) : ∃ t p, x = .ref t ∧ ws[i]? = some p ∧ H t = some (.tup [.str p.1, .bl p.2]) := by
  rw [List.getElem?_map] at hx
  obtain ⟨t, ht, rfl⟩ := Option.map_eq_some_iff.mp hx
  have hi : i < ws.length := by
    rw [← hl]
    exact (List.getElem?_eq_some_iff.mp ht).1
  exact ⟨t, ws[i], rfl, List.getElem?_eq_getElem hi, h i t _ ht (List.getElem?_eq_getElem hi)⟩
/-! ### a rule in the heap -/
structure TRule (K : PySem.W.Frag) (mg : Str → Option Value) (C : Addr) : Prop where
  cl : Cls K C
  n1 : NoAttr K C "parts"
  n2 : NoAttr K C "step"
  n3 : NoAttr K C "grace"
  n4 : NoAttr K C "last"
  n5 : NoAttr K C "misses"
  n6 : NoAttr K C "keep"
  n7 : NoAttr K C "fine"
  n8 : NoAttr K C "falls"
  n9 : NoAttr K C "back"
def ruleF (p s g : Int) (l : Bool) (m : Int) (kt : Addr) (fi fa ba : Int) : List (Str × V) := [("parts", .int p), ("step", .int s), ("grace", .int g), ("last", .bl l), ("misses", .int m), ("keep", .ref kt), ("fine", .int fi), ("falls", .int fa), ("back", .int ba)]
theorem putF_new {f : Str} {v : V} : ∀ {fs : List (Str × V)}, (∀ q ∈ fs, q.1 ≠ f) → putF f v fs = fs ++ [(f, v)]
  | [], _ => rfl
  | (g, x) :: r, h => by
    show (if g = f then (g, v) :: r else (g, x) :: putF f v r) = _
    rw [if_neg (h (g, x) List.mem_cons_self), putF_new fun q hq => h q (List.mem_cons_of_mem _ hq)]
    rfl
theorem unlike9 : (["parts", "step", "grace", "last", "misses", "keep", "fine", "falls", "back"] : List Str).Nodup := by decide +kernel
theorem putF_len (f : Str) (v : V) : ∀ fs : List (Str × V), (putF f v fs).length ≤ fs.length + 1
  | [] => Nat.le_refl _
  | (g, x) :: r => by
    show (if g = f then (g, v) :: r else (g, x) :: putF f v r).length ≤ _
    have := putF_len f v r
    split
    · simp
    · rw [List.length_cons, List.length_cons]
      omega
theorem put_lt {f : Str} {v : V} {fs : List (Str × V)} {n : Nat} (h : fs.length ≤ n) : (putF f v fs).length ≤ n + 1 := Nat.le_trans (putF_len f v fs) (by omega)
theorem ruleF_eq (p s g : Int) (l : Bool) (m : Int) (kt : Addr) (fi fa ba : Int) : putF "back" (.int ba) (putF "falls" (.int fa) (putF "fine" (.int fi) (putF "keep" (.ref kt) (putF "misses" (.int m) (putF "last" (.bl l) (putF "grace" (.int g) (putF "step" (.int s) (putF "parts" (.int p) [])))))))) = ruleF p s g l m kt fi fa ba := by
  have nd := unlike9
  simp only [List.nodup_cons, List.mem_cons, List.not_mem_nil, or_false, not_or] at nd
  obtain ⟨⟨a1, a2, a3, a4, a5, a6, a7, a8⟩, ⟨b1, b2, b3, b4, b5, b6, b7⟩, ⟨c1, c2, c3, c4, c5, c6⟩, ⟨d1, d2, d3, d4, d5⟩, ⟨e1, e2, e3, e4⟩, ⟨f1, f2, f3⟩, ⟨g1, g2⟩, h1, _⟩ := nd
  simp only [putF, if_neg a1, if_neg a2, if_neg a3, if_neg a4, if_neg a5, if_neg a6, if_neg a7, if_neg a8, if_neg b1, if_neg b2, if_neg b3, if_neg b4, if_neg b5, if_neg b6, if_neg b7, if_neg c1, if_neg c2, if_neg c3, if_neg c4, if_neg c5, if_neg c6, if_neg d1, if_neg d2, if_neg d3, if_neg d4, if_neg d5, if_neg e1, if_neg e2, if_neg e3, if_neg e4, if_neg f1, if_neg f2, if_neg f3, if_neg g1, if_neg g2, if_neg h1]
  rfl
/-- what is kept as it is handed in: one number, or a tuple of as many as parts -/
inductive Keep (K : PySem.W.Frag) (H : Hp) (p : Int) (ks : List Int) : V → PyData → Prop where
  | one (k : Int) (h0 : 0 ≤ k) (h1 : k ≤ 100) (e : ks = List.replicate p.toNat k) : Keep K H p ks (.int k) (.int k)
  | all (a : Addr) (h : SqT K H a (ks.map V.int)) (hl : (ks.length : Int) = p) (hb : ∀ k ∈ ks, 0 ≤ k ∧ k ≤ 100) : Keep K H p ks (.ref a) (.tuple (ks.map PyData.int))
structure Figs (p s g m fi fa ba : Int) : Prop where
  p0 : 1 ≤ p
  p1 : p ≤ 6
  s0 : 1 ≤ s
  s1 : s ≤ 14
  g0 : 0 ≤ g
  g1 : g ≤ 7
  m0 : 0 ≤ m
  m1 : m ≤ 2
  fi0 : 0 ≤ fi
  fi1 : fi ≤ 100
  fa0 : 0 ≤ fa
  fa1 : fa ≤ 30
  ba0 : 0 ≤ ba
  ba1 : ba ≤ 30
theorem dpAll_intsT {K : PySem.W.Frag} {H : Hp} {a : Addr} {ns : List Int} (h : SqT K H a (ns.map V.int)) : Dp K H (.ref a) (.tuple (ns.map PyData.int)) := .tup h (dpAll_ints ns)
theorem Keep.dp {K : PySem.W.Frag} {H : Hp} {p : Int} {ks : List Int} {v : V} {d : PyData} (h : Keep K H p ks v d) : Dp K H v d := by
  cases h with
  | one k _ _ _ => exact .int k
  | all a h _ _ => exact dpAll_intsT h
theorem Keep.ok {K : PySem.W.Frag} {H : Hp} {p : Int} {ks : List Int} {v : V} {d : PyData} (h : Keep K H p ks v d) : keptOk d (.int p) = true := by
  cases h with
  | one k h0 h1 _ =>
    show (decide (0 ≤ k) && decide (k ≤ 100)) = true
    rw [decide_eq_true h0, decide_eq_true h1]
    rfl
  | all a _ hl hb =>
    show (PyData.eqv (.int (((ks.map PyData.int).length : Nat) : Int)) (.int p) && (ks.map PyData.int).all fun d => numIn d 0 100) = true
    rw [Bool.and_eq_true]
    refine ⟨?_, ?_⟩
    · rw [List.length_map, hl]
      simp [PyData.eqv]
    · rw [List.all_map, List.all_eq_true]
      intro k hk
      show (decide (0 ≤ k) && decide (k ≤ 100)) = true
      rw [decide_eq_true (hb k hk).1, decide_eq_true (hb k hk).2]
      rfl
theorem right_all {p s g m fi fa ba : Int} {l : Bool} {d6 : PyData} (F : Figs p s g m fi fa ba) (h6 : keptOk d6 (.int p) = true) : firstWrong (figChecks (.int p) (.int s) (.int g) (.bool l) (.int m) d6 (.int fi) (.int fa) (.int ba)) = .non := by
  refine firstWrong_none fun q hq => ?_
  have two : ∀ {i lo hi : Int}, lo ≤ i → i ≤ hi → numIn (.int i) lo hi = true := fun {i lo hi} a b => by
    show (decide (lo ≤ i) && decide (i ≤ hi)) = true
    rw [decide_eq_true a, decide_eq_true b]
    rfl
  unfold figChecks at hq
  simp only [List.mem_cons, List.not_mem_nil, or_false] at hq
  rcases hq with rfl | rfl | rfl | rfl | rfl | rfl | rfl | rfl | rfl
  · exact two F.p0 F.p1
  · exact two F.s0 F.s1
  · exact two F.g0 F.g1
  · rfl
  · exact two F.m0 F.m1
  · exact h6
  · exact two F.fi0 F.fi1
  · exact two F.fa0 F.fa1
  · exact two F.ba0 F.ba1
structure Fg where
  p : Int
  s : Int
  g : Int
  l : Bool
  m : Int
  ks : List Int
  fi : Int
  fa : Int
  ba : Int
structure Fg.Ok (f : Fg) : Prop where
  figs : Figs f.p f.s f.g f.m f.fi f.fa f.ba
  len : (f.ks.length : Int) = f.p
  bnd : ∀ k ∈ f.ks, 0 ≤ k ∧ k ≤ 100
def RuleAt (K : PySem.W.Frag) (H : Hp) (C r : Addr) (f : Fg) : Prop := ∃ dx kt, H r = some (.ins C dx (ruleF f.p f.s f.g f.l f.m kt f.fi f.fa f.ba)) ∧ SqT K H kt (f.ks.map V.int)
theorem RuleAt.same {K : PySem.W.Frag} {H H' : Hp} {C r : Addr} {f : Fg} (h : RuleAt K H C r f) (e : Same H H') : RuleAt K H' C r f := by
  obtain ⟨dx, kt, h1, h2⟩ := h
  exact ⟨dx, kt, e _ _ h1, seqT_same e h2⟩
section
variable {p s g : Int} {l : Bool} {m : Int} {kt : Addr} {fi fa ba : Int}
theorem lk_ne {x y : Str} {v : V} {r : List (Str × V)} (h : x ≠ y) : List.lookup x ((y, v) :: r) = List.lookup x r := by
  rw [List.lookup_cons, beq_false_of_ne h]
theorem lk_eq {x : Str} {v : V} {r : List (Str × V)} : List.lookup x ((x, v) :: r) = some v := by
  rw [List.lookup_cons, beq_self_eq_true]
theorem lk1 : (ruleF p s g l m kt fi fa ba).lookup ("parts" : Str) = some (V.int p) := lk_eq
theorem lk2 : (ruleF p s g l m kt fi fa ba).lookup ("step" : Str) = some (V.int s) := by
  unfold ruleF
  rw [lk_ne (by decide +kernel), lk_eq]
theorem lk3 : (ruleF p s g l m kt fi fa ba).lookup ("grace" : Str) = some (V.int g) := by
  unfold ruleF
  rw [lk_ne (by decide +kernel), lk_ne (by decide +kernel), lk_eq]
theorem lk4 : (ruleF p s g l m kt fi fa ba).lookup ("last" : Str) = some (V.bl l) := by
  unfold ruleF
  rw [lk_ne (by decide +kernel), lk_ne (by decide +kernel), lk_ne (by decide +kernel), lk_eq]
theorem lk5 : (ruleF p s g l m kt fi fa ba).lookup ("misses" : Str) = some (V.int m) := by
  unfold ruleF
  rw [lk_ne (by decide +kernel), lk_ne (by decide +kernel), lk_ne (by decide +kernel), lk_ne (by decide +kernel), lk_eq]
theorem lk6 : (ruleF p s g l m kt fi fa ba).lookup ("keep" : Str) = some (V.ref kt) := by
  unfold ruleF
  rw [lk_ne (by decide +kernel), lk_ne (by decide +kernel), lk_ne (by decide +kernel), lk_ne (by decide +kernel), lk_ne (by decide +kernel), lk_eq]
theorem lk7 : (ruleF p s g l m kt fi fa ba).lookup ("fine" : Str) = some (V.int fi) := by
  unfold ruleF
  rw [lk_ne (by decide +kernel), lk_ne (by decide +kernel), lk_ne (by decide +kernel), lk_ne (by decide +kernel), lk_ne (by decide +kernel), lk_ne (by decide +kernel), lk_eq]
theorem lk8 : (ruleF p s g l m kt fi fa ba).lookup ("falls" : Str) = some (V.int fa) := by
  unfold ruleF
  rw [lk_ne (by decide +kernel), lk_ne (by decide +kernel), lk_ne (by decide +kernel), lk_ne (by decide +kernel), lk_ne (by decide +kernel), lk_ne (by decide +kernel), lk_ne (by decide +kernel), lk_eq]
theorem lk9 : (ruleF p s g l m kt fi fa ba).lookup ("back" : Str) = some (V.int ba) := by
  unfold ruleF
  rw [lk_ne (by decide +kernel), lk_ne (by decide +kernel), lk_ne (by decide +kernel), lk_ne (by decide +kernel), lk_ne (by decide +kernel), lk_ne (by decide +kernel), lk_ne (by decide +kernel), lk_ne (by decide +kernel), lk_eq]
theorem lk0 {x : Str} (h : x ∉ (["parts", "step", "grace", "last", "misses", "keep", "fine", "falls", "back"] : List Str)) : (ruleF p s g l m kt fi fa ba).lookup x = none := by
  simp only [List.mem_cons, List.not_mem_nil, or_false, not_or] at h
  obtain ⟨h1, h2, h3, h4, h5, h6, h7, h8, h9⟩ := h
  unfold ruleF
  rw [lk_ne h1, lk_ne h2, lk_ne h3, lk_ne h4, lk_ne h5, lk_ne h6, lk_ne h7, lk_ne h8, lk_ne h9]
  rfl
end
def keptV (f : Fg) (k : Int) (gone : Bool) : Int := if gone then (if k + f.fi < 100 then k + f.fi else 100) else k
/-! ### what is left to draw of -/
def Left (H : Hp) (b c : Addr) (n : Int) : Prop := ∃ (x z : Int) (ns : List Int), H b = some (.lst [.int x, .ref c, .int z]) ∧ H c = some (.lst (ns.map V.int)) ∧ 0 ≤ x ∧ 0 ≤ z ∧ z ≤ n ∧ 1 ≤ ns.length ∧ ns.length ≤ 63
section
variable {H H' : Hp} {b c p : Addr} {n m : Int} {o : HO}
theorem Left.mono (h : Left H b c n) (l : n ≤ m) : Left H b c m := by
  obtain ⟨x, z, ns, h0, h1, h2, h3, h4, h5⟩ := h
  exact ⟨x, z, ns, h0, h1, h2, h3, by omega, h5⟩
theorem Left.same (e : Same H H') (h : Left H b c n) : Left H' b c n := by
  obtain ⟨x, z, ns, h0, h1, h2⟩ := h
  exact ⟨x, z, ns, e _ _ h0, e _ _ h1, h2⟩
theorem Left.new (h : Left H b c n) (e : H p = none) : Left (upd H p o) b c n := h.same (same_new e)
theorem Left.ne (h : Left H b c n) (e : H p = none) : p ≠ b := fun z => by
  obtain ⟨_, _, _, h0, _⟩ := h
  rw [z, h0] at e
  cases e
theorem Left.ne2 (h : Left H b c n) (e : H p = none) : p ≠ c := fun z => by
  obtain ⟨_, _, _, _, h0, _⟩ := h
  rw [z, h0] at e
  cases e
theorem Left.upd (h : Left H b c n) (e1 : p ≠ b) (e2 : p ≠ c) : Left (upd H p o) b c n := by
  obtain ⟨x, z, ns, h0, h1, h2⟩ := h
  exact ⟨x, z, ns, by rw [upd_ne e1.symm]; exact h0, by rw [upd_ne e2.symm]; exact h1, h2⟩
theorem Left.net (h : Left H b c n) {xs : List V} (e : H p = some (.tup xs)) : p ≠ b := fun z => by
  obtain ⟨_, _, _, h0, _⟩ := h
  rw [z, h0] at e
  cases e
theorem left_cells {x z : Int} {ns : List Int} (h0 : H b = some (.lst [.int x, .ref c, .int z])) (h1 : H c = some (.lst (ns.map V.int))) : c ≠ b := fun e => by
  rw [e, h0] at h1
  have h2 := HO.lst.inj (Option.some.inj h1)
  match ns, h2 with
  | [], h2 => cases h2
  | [_], h2 => cases h2
  | _ :: _ :: _, h2 => cases (List.cons.inj (List.cons.inj h2).2).1
theorem But.seqT {K : PySem.W.Frag} {a : Addr} {xs : List V} (t : But b H H') (hb : Left H b c n) (h : SqT K H a xs) : SqT K H' a xs := by
  obtain ⟨_, _, _, hx, _⟩ := hb
  rcases h with (h | ⟨o, h⟩) | h
  · exact .inl (.inl (t _ _ (ne_of h hx (by intro z; cases z)) h))
  · exact .inl (.inr ⟨o, t _ _ (ne_of h hx (by intro z; cases z)) h⟩)
  · exact .inr h
end
theorem none_of {H H' : Hp} {p : Addr} (s : Same H H') (h : H' p = none) : H p = none := by
  cases e : H p with
  | none => rfl
  | some o =>
    rw [s _ _ e] at h
    cases h
theorem cut_to {xs : List V} {k : Nat} (h : xs.length ≤ k) : cutV xs none (some (k : Int)) = xs := by
  unfold cutV
  rw [HT.sIx_nat, HT.sIx_none, Nat.min_eq_right h]
  simp
theorem pick3v {r : Int} {x y z : V} (h0 : 0 ≤ r) (h1 : r < 3) : ∃ v, atI [x, y, z] r = some v ∧ (v = x ∨ v = y ∨ v = z) := by
  have h : r = 0 ∨ r = 1 ∨ r = 2 := by omega
  rcases h with rfl | rfl | rfl
  · exact ⟨x, rfl, .inl rfl⟩
  · exact ⟨y, rfl, .inr (.inl rfl)⟩
  · exact ⟨z, rfl, .inr (.inr rfl)⟩
theorem pick3i {r x y z lo hi : Int} (h0 : 0 ≤ r) (h1 : r < 3) (hx : lo ≤ x ∧ x ≤ hi) (hy : lo ≤ y ∧ y ≤ hi) (hz : lo ≤ z ∧ z ≤ hi) : ∃ v : Int, atI [V.int x, .int y, .int z] r = some (.int v) ∧ lo ≤ v ∧ v ≤ hi := by
  have h : r = 0 ∨ r = 1 ∨ r = 2 := by omega
  rcases h with rfl | rfl | rfl
  · exact ⟨x, rfl, hx⟩
  · exact ⟨y, rfl, hy⟩
  · exact ⟨z, rfl, hz⟩
theorem pick4i {r x y z u lo hi : Int} (h0 : 0 ≤ r) (h1 : r < 4) (hx : lo ≤ x ∧ x ≤ hi) (hy : lo ≤ y ∧ y ≤ hi) (hz : lo ≤ z ∧ z ≤ hi) (hu : lo ≤ u ∧ u ≤ hi) : ∃ v : Int, atI [V.int x, .int y, .int z, .int u] r = some (.int v) ∧ lo ≤ v ∧ v ≤ hi := by
  have h : r = 0 ∨ r = 1 ∨ r = 2 ∨ r = 3 := by omega
  rcases h with rfl | rfl | rfl | rfl
  · exact ⟨x, rfl, hx⟩
  · exact ⟨y, rfl, hy⟩
  · exact ⟨z, rfl, hz⟩
  · exact ⟨u, rfl, hu⟩
def Drawn (K : PySem.W.Frag) (H : Hp) (t : Addr) (f : Fg) (kv : V) (kd : PyData) : Prop := SqT K H t [.int f.p, .int f.s, .int f.g, .bl f.l, .int f.m, kv, .int f.fi, .int f.fa, .int f.ba] ∧ Figs f.p f.s f.g f.m f.fi f.fa f.ba ∧ Keep K H f.p f.ks kv kd
theorem Keep.same {K : PySem.W.Frag} {H H' : Hp} {p : Int} {ks : List Int} {v : V} {d : PyData} (h : Keep K H p ks v d) (e : Same H H') : Keep K H' p ks v d := by
  cases h with
  | one k h0 h1 e => exact .one k h0 h1 e
  | all a h hl hb => exact .all a (seqT_same e h) hl hb
theorem Keep.but {K : PySem.W.Frag} {H H' : Hp} {b c : Addr} {n p : Int} {ks : List Int} {v : V} {d : PyData} (h : Keep K H p ks v d) (e : But b H H') (l : Left H b c n) : Keep K H' p ks v d := by
  cases h with
  | one k h0 h1 e => exact .one k h0 h1 e
  | all a h hl hb => exact .all a (e.seqT l h) hl hb
theorem Drawn.same {K : PySem.W.Frag} {H H' : Hp} {t : Addr} {f : Fg} {kv : V} {kd : PyData} (h : Drawn K H t f kv kd) (e : Same H H') : Drawn K H' t f kv kd := ⟨seqT_same e h.1, h.2.1, h.2.2.same e⟩
theorem Drawn.but {K : PySem.W.Frag} {H H' : Hp} {b c t : Addr} {n : Int} {f : Fg} {kv : V} {kd : PyData} (h : Drawn K H t f kv kd) (e : But b H H') (l : Left H b c n) : Drawn K H' t f kv kd := ⟨e.seqT l h.1, h.2.1, h.2.2.but e l⟩
theorem Drawn.ok {K : PySem.W.Frag} {H : Hp} {t : Addr} {f : Fg} {kv : V} {kd : PyData} (h : Drawn K H t f kv kd) : f.Ok := by
  obtain ⟨_, F, k⟩ := h
  refine ⟨F, ?_, ?_⟩
  · cases k with
    | one k h0 h1 e =>
      have := F.p0
      rw [e, List.length_replicate]
      omega
    | all a h hl hb => exact hl
  · cases k with
    | one k h0 h1 e =>
      intro x hx
      rw [e] at hx
      rw [List.eq_of_mem_replicate hx]
      exact ⟨h0, h1⟩
    | all a h hl hb => exact hb
def mostN : Nat → Int
  | 0 => 100
  | _ => 30
theorem most_at {i : Nat} {x : V} (h : [V.int 100, .int 30, .int 30][i]? = some x) : i < 3 ∧ x = .int (mostN i) ∧ 30 ≤ mostN i ∧ mostN i ≤ 100 := by
  match i, h with
  | 0, h => cases h; exact ⟨by decide, rfl, by decide, by decide⟩
  | 1, h => cases h; exact ⟨by decide, rfl, by decide, by decide⟩
  | 2, h => cases h; exact ⟨by decide, rfl, by decide, by decide⟩
  | n + 3, h => cases h
/-! ### what comes of a row of days -/
inductive Wd where
  | st | go | so | up
  deriving DecidableEq
structure Cs where
  w : Wd
  d : Int
  p : Int
  m : Int
def wS : Wd → Str
  | .st => Str.ofString "stands"
  | .go => Str.ofString "gone"
  | .so => Str.ofString "sold"
  | .up => Str.ofString "up"
def csV (c : Cs) : List V := [.str (wS c.w), .int c.d, .int c.p, .int c.m]
def csD (c : Cs) : PyData := .tuple [.str (wS c.w), .int c.d, .int c.p, .int c.m]
def passN (s g : Int) : Nat → Int → Int → Int → Int → Cs
  | 0, d, p, m, day => if d + g < day then ⟨.go, d + g + 1, p, m⟩ else ⟨.st, d, p, m⟩
  | n + 1, d, p, m, day => if d + g < day then passN s g n (d + s) p (m + 1) day else ⟨.st, d, p, m⟩
/-- to the begin of a day -/
def passT (s g ms : Int) (c : Cs) (day : Int) : Cs := match c.w with
  | .st => passN s g (ms - c.m).toNat c.d c.p c.m day
  | _ => c
/-- a part paid on a day -/
def payT (p s : Int) (l : Bool) (c : Cs) (day : Int) : Cs := match c.w with
  | .st => if c.p + 1 = p then ⟨.so, day, c.p + 1, c.m⟩ else ⟨.st, (if l then day else c.d) + s, c.p + 1, c.m⟩
  | _ => c
def stepT (p s g : Int) (l : Bool) (ms e : Int) (c : Cs) (d : Int) : Cs := if d ≤ e then payT p s l (passT s g ms c d) d else c
abbrev cs0 : Cs := ⟨.st, 0, 0, 0⟩
def courseT (p s g : Int) (l : Bool) (ms : Int) (days : List Int) (e : Int) : Cs := passT s g ms (days.foldl (stepT p s g l ms e) cs0) e
theorem passN_m {s g : Int} : ∀ (n : Nat) (d p m day : Int), (passN s g n d p m day).m ≤ m + n
  | 0, d, p, m, day => by
    unfold passN
    split <;> simp
  | n + 1, d, p, m, day => by
    unfold passN
    split
    · have := passN_m (s := s) (g := g) n (d + s) p (m + 1) day
      omega
    · show m ≤ _
      omega
theorem passT_m {s g ms : Int} {c : Cs} {day : Int} (h : c.m ≤ ms) : (passT s g ms c day).m ≤ ms := by
  unfold passT
  split
  · have := passN_m (s := s) (g := g) (ms - c.m).toNat c.d c.p c.m day
    omega
  · exact h
theorem payT_m {p s : Int} {l : Bool} {c : Cs} {day : Int} : (payT p s l c day).m = c.m := by
  unfold payT
  split
  · split <;> rfl
  · rfl
theorem stepT_m {p s g : Int} {l : Bool} {ms e : Int} {c : Cs} {d : Int} (h : c.m ≤ ms) : (stepT p s g l ms e c d).m ≤ ms := by
  unfold stepT
  split
  · rw [payT_m]
    exact passT_m h
  · exact h
theorem foldT_m {p s g : Int} {l : Bool} {ms e : Int} : ∀ (ds : List Int) {c : Cs}, c.m ≤ ms → (ds.foldl (stepT p s g l ms e) c).m ≤ ms
  | [], _, h => h
  | d :: r, _, h => foldT_m r (stepT_m h)
def StAt (K : PySem.W.Frag) (H : Hp) (a : Addr) (c : Cs) : Prop := SqT K H a (csV c)
theorem StAt.same {K : PySem.W.Frag} {H H' : Hp} {a : Addr} {c : Cs} (h : StAt K H a c) (e : Same H H') : StAt K H' a c := seqT_same e h
theorem StAt.dp {K : PySem.W.Frag} {H : Hp} {a : Addr} {c : Cs} (h : StAt K H a c) : Dp K H (.ref a) (csD c) := .tup h (.cons (.str _) (.cons (.int _) (.cons (.int _) (.cons (.int _) .nil))))
theorem sh_cs (c : Cs) : SeqAt.shaped (csD c) = true := by
  show (PyData.canLay0 (csD c) && decide (PyData.depth (csD c) ≤ 64)) = true
  have h : PyData.strOk (wS c.w) = true := by cases c.w <;> decide +kernel
  simp [csD, PyData.canLay0, PyData.canLayAll0, PyData.depth, PyData.depthAll, h]
theorem eqv_cs (c : Cs) : PyData.eqv (csD c) (csD c) = true := SeqAt.eqv_refl _ (SeqAt.canLay_of_shaped (sh_cs c))
theorem wS_st (w : Wd) : decide (V.str (wS w) = V.str (Str.ofString "stands")) = decide (w = .st) := by cases w <;> decide +kernel
theorem wS_go (w : Wd) : decide (V.str (wS w) = V.str (Str.ofString "gone")) = decide (w = .go) := by cases w <;> decide +kernel
theorem passT_over {s g ms : Int} {c : Cs} {day : Int} (h : c.w ≠ .st) : passT s g ms c day = c := by
  unfold passT
  split
  · contradiction
  · rfl
theorem payT_over {p s : Int} {l : Bool} {c : Cs} {day : Int} (h : c.w ≠ .st) : payT p s l c day = c := by
  unfold payT
  split
  · contradiction
  · rfl
theorem passN_st {s g : Int} {n : Nat} {d p m day : Int} (h : ¬ d + g < day) : passN s g n d p m day = ⟨.st, d, p, m⟩ := by
  cases n <;> unfold passN <;> rw [if_neg h]
theorem passN_go {s g d p m day : Int} (h : d + g < day) : passN s g 0 d p m day = ⟨.go, d + g + 1, p, m⟩ := by
  unfold passN
  rw [if_pos h]
theorem passN_on {s g : Int} {n : Nat} {d p m day : Int} (h : d + g < day) : passN s g (n + 1) d p m day = passN s g n (d + s) p (m + 1) day := by
  rw [passN, if_pos h]
/-! ### sums of misses -/
theorem pass_stay {s g : Int} (hs : 1 ≤ s) : ∀ (j N : Nat) (d p m day : Int), j ≤ N → (j = 0 ∨ d + g + s * ((j : Int) - 1) < day) → day ≤ d + g + s * j → passN s g N d p m day = ⟨.st, d + s * j, p, m + j⟩
  | 0, N, d, p, m, day, _, _, h2 => by
    rw [passN_st (by simp at h2; omega)]
    simp
  | j + 1, N, d, p, m, day, hj, h1, h2 => by
    obtain ⟨M, rfl⟩ : ∃ M, N = M + 1 := ⟨N - 1, by omega⟩
    have e1 : s * (((j + 1 : Nat) : Int) - 1) = s * j := by rw [show (((j + 1 : Nat) : Int) - 1) = j by omega]
    have e2 : s * ((j + 1 : Nat) : Int) = s * j + s := by rw [show ((j + 1 : Nat) : Int) = (j : Int) + 1 by omega, Int.mul_add, Int.mul_one]
    have e3 : s * ((j : Int) - 1) = s * j - s := by rw [Int.mul_sub, Int.mul_one]
    have h0 : 0 ≤ s * (j : Int) := Int.mul_nonneg (by omega) (by omega)
    rw [e2] at h2 ⊢
    rw [e1] at h1
    have h3 : d + g + s * (j : Int) < day := by omega
    rw [passN_on (by omega), pass_stay hs j M (d + s) p (m + 1) day (by omega) (by rw [e3]; omega) (by omega)]
    congr 1 <;> omega
theorem pass_gone {s g : Int} (hs : 1 ≤ s) : ∀ (N : Nat) (d p m day : Int), d + g + s * N < day → passN s g N d p m day = ⟨.go, d + g + s * N + 1, p, m + N⟩
  | 0, d, p, m, day, h => by
    rw [passN_go (by simp at h; omega)]
    simp
  | N + 1, d, p, m, day, h => by
    have e2 : s * ((N + 1 : Nat) : Int) = s * N + s := by rw [show ((N + 1 : Nat) : Int) = (N : Int) + 1 by omega, Int.mul_add, Int.mul_one]
    have h0 : 0 ≤ s * (N : Int) := Int.mul_nonneg (by omega) (by omega)
    rw [e2] at h ⊢
    rw [passN_on (by omega), pass_gone hs N (d + s) p (m + 1) day (by omega)]
    congr 1 <;> omega
/-- the days on which parts are due that are paid on their days -/
def dueDays (s : Int) (n : Nat) : List Int := (List.range n).map fun (k : Nat) => s * (k : Int)
theorem due_snoc (s : Int) (n : Nat) : dueDays s (n + 1) = dueDays s n ++ [s * (n : Int)] := by
  unfold dueDays
  rw [List.range_succ, List.map_append]
  rfl
theorem due_mem {s x : Int} {n : Nat} (h : x ∈ dueDays s n) : ∃ k : Nat, k < n ∧ x = s * k := by
  obtain ⟨k, hk, rfl⟩ := List.mem_map.mp h
  exact ⟨k, List.mem_range.mp hk, rfl⟩
theorem due_len (s : Int) (n : Nat) : (dueDays s n).length = n := by
  unfold dueDays
  rw [List.length_map, List.length_range]
theorem step_on {p s g : Int} {l : Bool} {ms e d : Int} {c : Cs} (h : d ≤ e) : stepT p s g l ms e c d = payT p s l (passT s g ms c d) d := by
  unfold stepT
  rw [if_pos h]
theorem pay_st {p s d pd m day : Int} {l : Bool} (h : pd + 1 ≠ p) : payT p s l ⟨.st, d, pd, m⟩ day = ⟨.st, (if l then day else d) + s, pd + 1, m⟩ := by
  show (if pd + 1 = p then _ else _) = _
  rw [if_neg h]
theorem pay_so {p s d pd m day : Int} {l : Bool} (h : pd + 1 = p) : payT p s l ⟨.st, d, pd, m⟩ day = ⟨.so, day, pd + 1, m⟩ := by
  show (if pd + 1 = p then _ else _) = _
  rw [if_pos h]
theorem fold_due {p s g : Int} {l : Bool} {ms e : Int} (hs : 1 ≤ s) (hg : 0 ≤ g) : ∀ n : Nat, (n : Int) < p → (n = 0 ∨ s * ((n : Int) - 1) ≤ e) → (dueDays s n).foldl (stepT p s g l ms e) cs0 = ⟨.st, s * n, n, 0⟩
  | 0, _, _ => by simp [dueDays]
  | n + 1, hp, he => by
    have e1 : s * (((n + 1 : Nat) : Int) - 1) = s * n := by rw [show (((n + 1 : Nat) : Int) - 1) = n by omega]
    have e2 : s * ((n + 1 : Nat) : Int) = s * n + s := by rw [show ((n + 1 : Nat) : Int) = (n : Int) + 1 by omega, Int.mul_add, Int.mul_one]
    have e3 : s * ((n : Int) - 1) = s * n - s := by rw [Int.mul_sub, Int.mul_one]
    rw [e1] at he
    have he2 : s * (n : Int) ≤ e := by omega
    rw [due_snoc, List.foldl_append, fold_due hs hg n (by omega) (by rw [e3]; omega), List.foldl_cons, List.foldl_nil, step_on he2]
    have ep : passT s g ms ⟨.st, s * n, n, 0⟩ (s * n) = ⟨.st, s * n, n, 0⟩ := passN_st (by show ¬ s * (n : Int) + g < s * n; omega)
    rw [ep, pay_st (by omega), e2]
    cases l <;> rfl
theorem fold_all {p s g : Int} {l : Bool} {ms e : Int} (hs : 1 ≤ s) (hg : 0 ≤ g) {n : Nat} (hp : (n : Int) + 1 = p) (he : s * (n : Int) ≤ e) : (dueDays s (n + 1)).foldl (stepT p s g l ms e) cs0 = ⟨.so, s * n, p, 0⟩ := by
  have e3 : s * ((n : Int) - 1) = s * n - s := by rw [Int.mul_sub, Int.mul_one]
  rw [due_snoc, List.foldl_append, fold_due hs hg n (by omega) (by rw [e3]; omega), List.foldl_cons, List.foldl_nil, step_on he]
  have ep : passT s g ms ⟨.st, s * n, n, 0⟩ (s * n) = ⟨.st, s * n, n, 0⟩ := passN_st (by show ¬ s * (n : Int) + g < s * n; omega)
  rw [ep, pay_so hp, hp]
theorem neCs {K : PySem.W.Frag} {H : Hp} {b t : Addr} {c c' : Cs} {Q : VK} (e : c = c') (hb : StAt K H b c) (ht : StAt K H t c') (q : Q (.bl false) H) : rNeD K (.ref b) (.ref t) H Q := by
  subst e
  refine ⟨_, _, hb.dp, ht.dp, sh_cs c, sh_cs c, ?_⟩
  rw [eqv_cs]
  exact q
theorem eqCs {K : PySem.W.Frag} {H : Hp} {b t : Addr} {c c' : Cs} {Q : VK} (e : c = c') (hb : StAt K H b c) (ht : StAt K H t c') (q : Q (.bl true) H) : rEqD K (.ref b) (.ref t) H Q := by
  subst e
  refine ⟨_, _, hb.dp, ht.dp, sh_cs c, sh_cs c, ?_⟩
  rw [eqv_cs]
  exact q
theorem mul_pred (s : Int) (n : Int) : s * (n - 1) = s * n - s := by rw [Int.mul_sub, Int.mul_one]
theorem mul_succ' (s : Int) (n : Int) : s * (n + 1) = s * n + s := by rw [Int.mul_add, Int.mul_one]
/-- parts paid on their days, then none: so many missed -/
theorem unpaid_stay {p s g : Int} {l : Bool} {ms : Int} {n j : Nat} {e : Int} (hs : 1 ≤ s) (hg : 0 ≤ g) (hn : (n : Int) < p) (hj : (j : Int) ≤ ms) (h1 : j = 0 ∧ s * n ≤ e ∨ s * n + g + s * (j : Int) - s < e) (h2 : e ≤ s * n + g + s * j) : courseT p s g l ms (dueDays s n) e = ⟨.st, s * n + s * j, n, j⟩ := by
  have a := mul_pred s n
  have b := mul_pred s j
  have c0 : 0 ≤ s * (j : Int) := Int.mul_nonneg (by omega) (by omega)
  have c1 : j ≠ 0 → s ≤ s * (j : Int) := fun h => by
    have := Int.mul_le_mul_of_nonneg_left (show (1 : Int) ≤ j by omega) (show 0 ≤ s by omega)
    omega
  have d0 : n = 0 ∨ s * ((n : Int) - 1) ≤ e := by
    rw [a]
    by_cases z : j = 0
    · subst z
      simp at h1 h2 c0
      omega
    · have := c1 z
      omega
  unfold courseT
  rw [fold_due hs hg n hn d0]
  show passN s g (ms - 0).toNat (s * n) n 0 e = _
  rw [pass_stay hs j (ms - 0).toNat _ _ _ _ (by omega) (by rw [b]; omega) h2, Int.zero_add]
theorem unpaid_gone {p s g : Int} {l : Bool} {ms : Int} {n : Nat} {e : Int} (hs : 1 ≤ s) (hg : 0 ≤ g) (hn : (n : Int) < p) (hm : 0 ≤ ms) (h1 : s * n + g + s * ms < e) : courseT p s g l ms (dueDays s n) e = ⟨.go, s * n + g + s * ms + 1, n, ms⟩ := by
  have a := mul_pred s n
  have c0 : 0 ≤ s * ms := Int.mul_nonneg (by omega) hm
  unfold courseT
  rw [fold_due hs hg n hn (by rw [a]; omega)]
  show passN s g (ms - 0).toNat (s * n) n 0 e = _
  have hz : (((ms - 0).toNat : Nat) : Int) = ms := by omega
  rw [pass_gone hs _ _ _ _ _ (by rw [hz]; exact h1), hz, Int.zero_add]
theorem course_snoc {p s g : Int} {l : Bool} {ms d e : Int} {ds : List Int} : courseT p s g l ms (ds ++ [d]) e = passT s g ms (stepT p s g l ms e (ds.foldl (stepT p s g l ms e) cs0) d) e := by
  unfold courseT
  rw [List.foldl_append]
  rfl
theorem course_at {p s g : Int} {l : Bool} {ms d : Int} {ds : List Int} : courseT p s g l ms (ds ++ [d]) d = passT s g ms (payT p s l (courseT p s g l ms ds d) d) d := by
  rw [course_snoc, step_on (Int.le_refl d)]
  rfl
theorem late_go {p s g : Int} {l : Bool} {ms d x n m : Int} {ds : List Int} (h : courseT p s g l ms ds d = ⟨.go, x, n, m⟩) : courseT p s g l ms (ds ++ [d]) d = ⟨.go, x, n, m⟩ := by
  rw [course_at, h]
  rfl
theorem late_so {p s g : Int} {l : Bool} {ms d x n m : Int} {ds : List Int} (h : courseT p s g l ms ds d = ⟨.st, x, n, m⟩) (hp : n + 1 = p) : courseT p s g l ms (ds ++ [d]) d = ⟨.so, d, p, m⟩ := by
  rw [course_at, h, pay_so hp, hp]
  rfl
theorem late_st {p s g : Int} {l : Bool} {ms d x n m : Int} {ds : List Int} (h : courseT p s g l ms ds d = ⟨.st, x, n, m⟩) (hp : n + 1 ≠ p) (hd : d ≤ (if l then d else x) + s + g) : courseT p s g l ms (ds ++ [d]) d = ⟨.st, (if l then d else x) + s, n + 1, m⟩ := by
  rw [course_at, h, pay_st hp]
  exact passN_st (by show ¬ (if l then d else x) + s + g < d; omega)
theorem late_base {p s g : Int} {l : Bool} {ms : Int} {n j k : Nat} (hs : 1 ≤ s) (hg : 0 ≤ g) (hn : (n : Int) < p) (hk : k < 2) (hj : (j : Int) + k ≤ ms) : courseT p s g l ms (dueDays s n) (s * n + g + s * j + k) = ⟨.st, s * n + s * ((j : Int) + k), n, (j : Int) + k⟩ := by
  have c0 : 0 ≤ s * (j : Int) := Int.mul_nonneg (by omega) (by omega)
  have e1 := mul_succ' s j
  have hk2 : k = 0 ∨ k = 1 := by omega
  rcases hk2 with rfl | rfl
  · have := unpaid_stay (p := p) (l := l) (ms := ms) (n := n) (j := j) (e := s * n + g + s * j) hs hg hn (by omega) (by omega) (by omega)
    simpa using this
  · have := unpaid_stay (p := p) (l := l) (ms := ms) (n := n) (j := j + 1) (e := s * n + g + s * j + 1) hs hg hn (by omega) (by rw [Int.natCast_add, show ((1 : Nat) : Int) = 1 from rfl, e1]; omega) (by rw [Int.natCast_add, show ((1 : Nat) : Int) = 1 from rfl, e1]; omega)
    rw [Int.natCast_add] at this
    exact this
theorem notY {c A B : Prop} [Decidable c] (hc : c) (h : B) : if (!decide c) = true then A else B := by
  rw [decide_eq_true hc]
  exact iteF h
theorem notN {c A B : Prop} [Decidable c] (hc : ¬ c) (h : A) : if (!decide c) = true then A else B := by
  rw [decide_eq_false hc]
  exact iteT h
/-! ### day by day: what is left to go of a row -/
def remT (p s g : Int) (l : Bool) (ms e : Int) (rest : List Int) (c : Cs) : Cs := passT s g ms (rest.foldl (stepT p s g l ms e) c) e
section
variable {p s g : Int} {l : Bool} {ms e : Int}
theorem step_over {c : Cs} {d : Int} (h : c.w ≠ .st) : stepT p s g l ms e c d = c := by
  unfold stepT
  split
  · rw [passT_over h, payT_over h]
  · rfl
theorem fold_over {c : Cs} (h : c.w ≠ .st) : ∀ ds : List Int, ds.foldl (stepT p s g l ms e) c = c
  | [] => rfl
  | d :: r => by rw [List.foldl_cons, step_over h, fold_over h r]
theorem rem_over {c : Cs} (h : c.w ≠ .st) (ds : List Int) : remT p s g l ms e ds c = c := by
  unfold remT
  rw [fold_over h, passT_over h]
theorem step_off {c : Cs} {d : Int} (h : ¬ d ≤ e) : stepT p s g l ms e c d = c := by
  unfold stepT
  rw [if_neg h]
theorem rem_cons {c : Cs} {d : Int} {r : List Int} : remT p s g l ms e (d :: r) c = remT p s g l ms e r (stepT p s g l ms e c d) := rfl
theorem rem_gone {D x pd : Int} (h1 : x + g < D) (h2 : D ≤ e) : ∀ rest : List Int, (∀ d ∈ rest, D ≤ d) → remT p s g l ms e rest ⟨.st, x, pd, ms⟩ = ⟨.go, x + g + 1, pd, ms⟩
  | [], _ => by
    show passN s g (ms - ms).toNat x pd ms e = _
    rw [Int.sub_self]
    exact passN_go (by omega)
  | d :: r, h => by
    have hd := h d List.mem_cons_self
    rw [rem_cons]
    by_cases c : d ≤ e
    · rw [step_on c]
      have ep : passT s g ms ⟨.st, x, pd, ms⟩ d = ⟨.go, x + g + 1, pd, ms⟩ := by
        show passN s g (ms - ms).toNat x pd ms d = _
        rw [Int.sub_self]
        exact passN_go (by omega)
      rw [ep]
      exact rem_over (by intro z; cases z) r
    · rw [step_off c]
      exact rem_gone h1 h2 r fun d' hd' => h d' (List.mem_cons_of_mem _ hd')
theorem pass_miss {D x pd m d : Int} (h1 : x + g < D) (h2 : D ≤ d) (hm : m < ms) : passT s g ms ⟨.st, x, pd, m⟩ d = passT s g ms ⟨.st, x + s, pd, m + 1⟩ d := by
  show passN s g (ms - m).toNat x pd m d = passN s g (ms - (m + 1)).toNat (x + s) pd (m + 1) d
  rw [show (ms - m).toNat = (ms - (m + 1)).toNat + 1 by omega]
  exact passN_on (by omega)
theorem rem_miss {D x pd m : Int} (h1 : x + g < D) (h2 : D ≤ e) (hm : m < ms) : ∀ rest : List Int, (∀ d ∈ rest, D ≤ d) → remT p s g l ms e rest ⟨.st, x, pd, m⟩ = remT p s g l ms e rest ⟨.st, x + s, pd, m + 1⟩
  | [], _ => pass_miss h1 h2 hm
  | d :: r, h => by
    have hd := h d List.mem_cons_self
    rw [rem_cons, rem_cons]
    by_cases c : d ≤ e
    · rw [step_on c, step_on c, pass_miss h1 hd hm]
    · rw [step_off c, step_off c]
      exact rem_miss h1 h2 hm r fun d' hd' => h d' (List.mem_cons_of_mem _ hd')
theorem rem_end {x pd m : Int} (h1 : e ≤ x + g) : ∀ rest : List Int, (∀ d ∈ rest, e < d) → remT p s g l ms e rest ⟨.st, x, pd, m⟩ = ⟨.st, x, pd, m⟩
  | [], _ => passN_st (by show ¬ x + g < e; omega)
  | d :: r, h => by
    have hd := h d List.mem_cons_self
    rw [rem_cons, step_off (by omega)]
    exact rem_end h1 r fun d' hd' => h d' (List.mem_cons_of_mem _ hd')
theorem rem_sold {D x pd m : Int} {r : List Int} (h1 : D ≤ x + g) (h2 : D ≤ e) (hp : pd + 1 = p) : remT p s g l ms e (D :: r) ⟨.st, x, pd, m⟩ = ⟨.so, D, pd + 1, m⟩ := by
  rw [rem_cons, step_on h2]
  have ep : passT s g ms ⟨.st, x, pd, m⟩ D = ⟨.st, x, pd, m⟩ := passN_st (by show ¬ x + g < D; omega)
  rw [ep, pay_so hp]
  exact rem_over (by intro z; cases z) r
theorem rem_paid {D x pd m : Int} {r : List Int} (h1 : D ≤ x + g) (h2 : D ≤ e) (hp : pd + 1 ≠ p) : remT p s g l ms e (D :: r) ⟨.st, x, pd, m⟩ = remT p s g l ms e r ⟨.st, (if l then D else x) + s, pd + 1, m⟩ := by
  rw [rem_cons, step_on h2]
  have ep : passT s g ms ⟨.st, x, pd, m⟩ D = ⟨.st, x, pd, m⟩ := passN_st (by show ¬ x + g < D; omega)
  rw [ep, pay_st hp]
end
abbrev Rise (ds : List Int) : Prop := ds.Pairwise (· ≤ ·)
theorem pickL {ns : List Int} {r : Int} (h0 : 0 ≤ r) (h1 : r < ns.length) : ∃ c, atI (ns.map V.int) r = some (.int c) ∧ c ∈ ns := by
  obtain ⟨j, rfl⟩ := Int.eq_ofNat_of_zero_le h0
  have hj : j < ns.length := by omega
  exact ⟨ns[j], atI_nat (by rw [List.getElem?_map, List.getElem?_eq_getElem hj]; rfl), List.getElem_mem hj⟩
theorem But.updNew {b D : Addr} {H G : Hp} {o : HO} (t : But b H G) (hD : H D = none) : But b H (L2.upd G D o) := fun c u n h => by
  rw [upd_ne (ne_of_none h hD)]
  exact t c u n h
/-! ### lists of tuples: the addresses beside what stands there -/
abbrev refs {α : Type} (L : List (Addr × α)) : List V := L.map fun q => V.ref q.1
def RowsAt {α : Type} (f : α → List V) (H : Hp) (L : List (Addr × α)) : Prop := ∀ q ∈ L, H q.1 = some (.tup (f q.2))
section
variable {α : Type} {f : α → List V} {H H' : Hp} {L M : List (Addr × α)} {K : PySem.W.Frag}
theorem RowsAt.same (h : RowsAt f H L) (e : Same H H') : RowsAt f H' L := fun q hq => e _ _ (h q hq)
theorem RowsAt.sub (h : RowsAt f H L) (e : ∀ q ∈ M, q ∈ L) : RowsAt f H M := fun q hq => h q (e q hq)
theorem RowsAt.but {b : Addr} {xs : List V} (h : RowsAt f H L) (hb : H b = some (.lst xs)) (t : But b H H') : RowsAt f H' L := fun q hq => t _ _ (ne_of (h q hq) hb (by intro z; cases z)) (h q hq)
theorem RowsAt.updL {D : Addr} {xs : List V} {o : HO} (h : RowsAt f H L) (hD : H D = some (.lst xs)) : RowsAt f (upd H D o) L := fun q hq => by
  rw [upd_ne (ne_of (h q hq) hD (by intro z; cases z))]
  exact h q hq
theorem RowsAt.snoc {q : Addr × α} (h : RowsAt f H L) (hq : H q.1 = some (.tup (f q.2))) : RowsAt f H (L ++ [q]) := fun x hx => by
  rcases List.mem_append.mp hx with y | y
  · exact h x y
  · rw [List.mem_singleton.mp y]
    exact hq
theorem RowsAt.nil : RowsAt f H ([] : List (Addr × α)) := fun _ h => (nomatch h)
theorem refs_at {i : Nat} {x : V} (h : (refs L)[i]? = some x) : ∃ q, L[i]? = some q ∧ x = .ref q.1 ∧ q ∈ L := by
  rw [List.getElem?_map] at h
  obtain ⟨q, hq, rfl⟩ := Option.map_eq_some_iff.mp h
  exact ⟨q, hq, rfl, List.mem_of_getElem? hq⟩
end
theorem refs_snoc {α : Type} (S : List (Addr × α)) (q : Addr × α) : refs (S ++ [q]) = refs S ++ [V.ref q.1] := by
  unfold refs
  rw [List.map_append]
  rfl
/-! what walks a list or a tuple that stands still -/
def JOk (H : Hp) (J : It) (xs : List V) : Prop := ∀ i G, Same H G → (i < xs.length → J.go i G) ∧ (i = xs.length → J.stop i G) ∧ ∀ x G', J.yld i G x G' → G' = G ∧ xs[i]? = some x
section
variable {K : PySem.W.Frag} {H : Hp} {a : Addr} {xs : List V}
theorem jok_l (h : SqL K H a xs) : JOk H (Itl K a) xs := fun i G s => by
  have q := s.seq h
  exact ⟨fun c => ⟨xs, _, q, List.getElem?_eq_getElem c⟩, fun c => ⟨xs, q, by omega⟩, fun x G' y => ⟨y.1, y.2 xs q⟩⟩
theorem jok_t (h : SqT K H a xs) : JOk H (Itt K a) xs := fun i G s => by
  have q := seqT_same s h
  exact ⟨fun c => ⟨xs, _, q, List.getElem?_eq_getElem c⟩, fun c => ⟨xs, q, by omega⟩, fun x G' y => ⟨y.1, y.2 xs q⟩⟩
theorem walk_or {σ : L2.St} {j : Nat} {R : It → Hp → Prop} (hv : σ[j]? = some (some (.ref a))) (hS : SqL K H a xs ∨ SqT K H a xs) (h : ∀ J, JOk H J xs → R J H) : iList K (tVar j) σ H R ∨ iTup K (tVar j) σ H R := by
  rcases hS with hS | hS
  · exact .inl ⟨_, hv, a, rfl, ⟨_, hS⟩, h _ (jok_l hS)⟩
  · exact .inr ⟨_, hv, a, rfl, ⟨_, hS⟩, h _ (jok_t hS)⟩
theorem walk_l {σ : L2.St} {j : Nat} {R : It → Hp → Prop} (hv : σ[j]? = some (some (.ref a))) (hS : SqL K H a xs) (h : ∀ J, JOk H J xs → R J H) : iList K (tVar j) σ H R := ⟨_, hv, a, rfl, ⟨_, hS⟩, h _ (jok_l hS)⟩
end
section
variable {α : Type} {f : α → List V} {H : Hp} {L : List (Addr × α)} {J : It} {g : TG} {tt : TT} {te : TE} {vs : List Nat} {σ : L2.St} {D : Addr} {Qd : Hp → Prop}
theorem take_snoc {β : Type} {l : List β} {i : Nat} {x : β} (h : l[i]? = some x) : l.take (i + 1) = l.take i ++ [x] := by
  rw [List.take_add_one, h]
  rfl
theorem filt_snoc {β : Type} {p : β → Bool} {l : List β} {x : β} : (l ++ [x]).filter p = l.filter p ++ (if p x = true then [x] else []) := by
  rw [List.filter_append, List.filter_cons]
  rfl
/-- a block over rows that takes some thing of some rows -/
theorem rows_lc (p : α → Bool) (el : Addr × α → V) (ok : JOk H J (refs L)) (hR : RowsAt f H L) (small : L.length ≤ 1000) (hD : H D = none)
    (turn : ∀ q ∈ L, ∀ G, Same H G → G q.1 = some (.tup (f q.2)) → ∀ (Y : VK) (N : Hp → Prop), (p q.2 = true → Y (el q) G) → (p q.2 = false → N G) → g (.ref q.1) (wipe σ vs) G fun σ2 H2 => wipe σ2 vs = wipe σ vs ∧ tt σ2 H2 fun b H3 => if b = true then te σ2 H3 Y else N H3)
    (last : ∀ G, Same H G → G D = some (.lst ((L.filter fun q => p q.2).map el)) → Qd G) :
    ∃ W : Nat → Nat → Hp → Prop, (∃ m, W 0 m (upd H D (.lst []))) ∧ ∀ i m H, W i m H → (J.stop i H ∧ Qd H) ∨ (J.go i H ∧ ∃ Nx : Hp → Prop, (∀ H', Nx H' → ∃ m', m' < m ∧ W (i + 1) m' H') ∧ ∀ x H', J.yld i H x H' → g x (wipe σ vs) H' fun σ2 H2 => wipe σ2 vs = wipe σ vs ∧ tt σ2 H2 fun b H3 =>
      if b = true then te σ2 H3 fun y H4 => ∃ acc, H4 D = some (.lst acc) ∧ acc.length < sizeLine ∧ Nx (upd H4 D (.lst (acc ++ [y]))) else Nx H3) := by
  have ln : (refs L).length = L.length := List.length_map ..
  refine lc_gen (n := L.length) (fun i G => Same H G ∧ G D = some (.lst (((L.take i).filter fun q => p q.2).map el))) ⟨same_new hD, upd_same⟩ (fun i G h => ?_) (fun i G v G' hi h y => ?_) (fun G h => ?_)
  · have := ok i G h.1
    rw [ln] at this
    exact ⟨this.1, this.2.1⟩
  · obtain ⟨rfl, hx⟩ := (ok i G h.1).2.2 v G' y
    obtain ⟨q, hq, rfl, hm⟩ := refs_at hx
    have le : (((L.take i).filter fun q => p q.2).map el).length ≤ i := by
      rw [List.length_map]
      exact Nat.le_trans (List.length_filter_le _ _) (by rw [List.length_take]; omega)
    refine turn q hm G' h.1 (h.1 _ _ (hR q hm)) _ _ (fun hp => ⟨_, h.2, Nat.lt_of_le_of_lt le (small1000 (by omega)), fun c o e => ?_, ?_⟩) (fun hp => ⟨h.1, ?_⟩)
    · rw [upd_ne (ne_of_none e hD)]
      exact h.1 _ _ e
    · rw [upd_same, take_snoc hq, filt_snoc, if_pos hp, List.map_append]
      rfl
    · rw [h.2, take_snoc hq, filt_snoc, if_neg (by rw [hp]; decide), List.append_nil]
  · obtain ⟨s, e⟩ := h
    rw [List.take_of_length_le (Nat.le_refl _)] at e
    exact last G s e
/-- a block over rows that makes a new tuple of some rows -/
theorem rows_lcA {β : Type} {f2 : β → List V} (p : α → Bool) (el : α → β) (ok : JOk H J (refs L)) (hR : RowsAt f H L) (small : L.length ≤ 1000) (hD : H D = none)
    (turn : ∀ q ∈ L, ∀ G, Same H G → G q.1 = some (.tup (f q.2)) → ∀ (Y : VK) (N : Hp → Prop), (p q.2 = true → ∀ t, G t = none → Y (.ref t) (upd G t (.tup (f2 (el q.2))))) → (p q.2 = false → N G) → g (.ref q.1) (wipe σ vs) G fun σ2 H2 => wipe σ2 vs = wipe σ vs ∧ tt σ2 H2 fun b H3 => if b = true then te σ2 H3 Y else N H3)
    (last : ∀ G (S : List (Addr × β)), Same H G → G D = some (.lst (refs S)) → RowsAt f2 G S → S.map (·.2) = ((L.map (·.2)).filter p).map el → Qd G) :
    ∃ W : Nat → Nat → Hp → Prop, (∃ m, W 0 m (upd H D (.lst []))) ∧ ∀ i m H, W i m H → (J.stop i H ∧ Qd H) ∨ (J.go i H ∧ ∃ Nx : Hp → Prop, (∀ H', Nx H' → ∃ m', m' < m ∧ W (i + 1) m' H') ∧ ∀ x H', J.yld i H x H' → g x (wipe σ vs) H' fun σ2 H2 => wipe σ2 vs = wipe σ vs ∧ tt σ2 H2 fun b H3 =>
      if b = true then te σ2 H3 fun y H4 => ∃ acc, H4 D = some (.lst acc) ∧ acc.length < sizeLine ∧ Nx (upd H4 D (.lst (acc ++ [y]))) else Nx H3) := by
  have ln : (refs L).length = L.length := List.length_map ..
  refine lc_gen (n := L.length) (fun i G => Same H G ∧ ∃ S : List (Addr × β), G D = some (.lst (refs S)) ∧ RowsAt f2 G S ∧ S.map (·.2) = (((L.take i).map (·.2)).filter p).map el) ⟨same_new hD, [], upd_same, .nil, rfl⟩ (fun i G h => ?_) (fun i G v G' hi h y => ?_) (fun G h => ?_)
  · have := ok i G h.1
    rw [ln] at this
    exact ⟨this.1, this.2.1⟩
  · obtain ⟨s, S, e, hS, hm⟩ := h
    obtain ⟨rfl, hx⟩ := (ok i G s).2.2 v G' y
    obtain ⟨q, hq, rfl, hmem⟩ := refs_at hx
    have le : (refs S).length ≤ i := by
      rw [List.length_map, ← List.length_map (f := (·.2)) (as := S), hm, List.length_map]
      exact Nat.le_trans (List.length_filter_le _ _) (by rw [List.length_map, List.length_take]; omega)
    have e1 : ((L.take (i + 1)).map (·.2)) = (L.take i).map (·.2) ++ [q.2] := by
      rw [take_snoc hq, List.map_append]
      rfl
    refine turn q hmem G' s (s _ _ (hR q hmem)) _ _ (fun hp t ht => ⟨_, same_new ht _ _ e, Nat.lt_of_le_of_lt le (small1000 (by omega)), fun c o ec => ?_, S ++ [(t, el q.2)], ?_, ?_, ?_⟩) (fun hp => ⟨s, S, e, hS, ?_⟩)
    · rw [upd_ne (ne_of_none ec hD)]
      exact same_new ht _ _ (s _ _ ec)
    · rw [upd_same, refs_snoc]
    · refine ((hS.same (same_new ht)).updL (same_new ht _ _ e)).snoc ?_
      show (upd (upd G' t _) D _) t = _
      rw [upd_ne (fun z => by rw [z, e] at ht; cases ht), upd_same]
    · rw [List.map_append, hm, e1, filt_snoc, if_pos hp, List.map_append]
      rfl
    · rw [hm, e1, filt_snoc, if_neg (by rw [hp]; decide), List.append_nil]
  · obtain ⟨s, S, e, hS, hm⟩ := h
    rw [List.take_of_length_le (Nat.le_refl _)] at hm
    exact last G S s e hS hm
end
/-! ### a caught error that stays tracked behind its suite -/
def ErO (cls : Value) (d : Option Addr) (a : Addr) : HO := .ext fun h => ∃ (oe : Obj) (vs : Array Value), h.get? a = some oe ∧ Zc cls d oe ∧ oe.data = .fields vs
theorem erO_ok {P : Program} {w : World} {H : Hp} {h : Heap} {a : Addr} {cls : Value} {d : Option Addr} {oe : Obj} {vs : Array Value} (e : h.get? a = some oe) (z : Zc cls d oe) (f : oe.data = .fields vs) : ObjOk P w H h a (ErO cls d a) :=
  ⟨⟨oe, vs, e, z, f⟩, ⟨oe, e⟩, fun _ _ ⟨o, v, q, r⟩ k => ⟨o, v, k o q, r⟩⟩
section
variable {X : Cx} {pins : List (Addr × Obj)} {σ : L2.St} {H : Hp} {s : Shared}
/-- an object made since the entry, not tracked so far, is tracked from now on -/
theorem inv_track {a : Addr} {o : HO} (I : Inv X pins σ H s) (n0 : X.s_0.heap.get? a = none) (hn : H a = none) (nL : X.env.locals ≠ a) (nC : ∀ x c, X.env.cells.lookup x = some c → c ≠ a) (nP : ∀ p ∈ X.pn ++ pins, p.1 ≠ a) (new : ObjOk X.prog X.w (upd H a o) s.heap a o) : Inv X pins σ (upd H a o) s := by
  have ne0 : ∀ b ob, X.s_0.heap.get? b = some ob → b ≠ a := fun b ob e z => by
    rw [z, n0] at e
    cases e
  have neS : ∀ b u, H b = some u → b ≠ a := fun b u e z => by
    rw [z, hn] at e
    cases e
  constructor
  case ok => exact I.ok
  case os => exact I.os
  case bare => exact I.bare
  case base =>
    constructor
    case keep => exact I.base.keep
    case slot => exact I.base.slot
    case there => exact I.base.there
    case free =>
      intro b ob e n hx
      rw [upd_ne (ne0 b ob e)]
      exact I.base.free b ob e n hx
    case tups =>
      intro b xs e
      have q := I.base.tups b xs e
      rw [upd_ne (neS b _ q)]
      exact q
    case frzs =>
      intro b ob u e
      have q := I.base.frzs b ob u e
      rw [upd_ne (neS b _ q)]
      exact q
    case tbls =>
      intro b ps e
      obtain ⟨more, q⟩ := I.base.tbls b ps e
      exact ⟨more, by rw [upd_ne (neS b _ q)]; exact q⟩
  case loc => exact I.loc
  case cell => exact I.cell
  case free =>
    rw [upd_ne nL]
    exact I.free
  case freeC =>
    intro x c e
    rw [upd_ne (nC x c e)]
    exact I.freeC x c e
  case pin =>
    intro p hp
    obtain ⟨p1, p2, p3⟩ := I.pin p hp
    exact ⟨p1, by rw [upd_ne (nP p hp)]; exact p2, p3⟩
  case hok =>
    intro b u e
    by_cases hb : b = a
    · subst hb
      rw [upd_same] at e
      cases e
      exact new
    · rw [upd_ne hb] at e
      refine (I.hok b u e).stay (fun _ _ _ q => q) (fun c q => ?_) (fun c xs q => ?_)
      · rw [upd_ne (neS c _ q)]
        exact q
      · rw [upd_ne (neS c _ q)]
        exact q
  case len => exact I.len
end
/-- the wish of a clause whose suite goes on behind: the error stays known -/
def wKeep (K : PySem.W.Frag) (c : Value) (i : Nat) (ts : Addr → Value → Option Addr → TS) (D : Ends) : WX := fun cls d σ H =>
  PySem.W.exmOne K cls c = some true ∧ ∀ a, H a = none → ts a cls d { nx := fun τ G => D.nx (τ.set i none) (upd G a (ErO cls d a)), rt := fun _ _ => False, bk := fun _ _ => False, ct := fun _ _ => False } (σ.set i (some (.ref a))) H
section
variable {X : Cx} {x n : Str} {c : Value} {i : Nat} {body rest : List Stmt} {st0 : Stmt} {np p1 p2 : Pos} {tb : WX → TS} {ts : Addr → Value → Option Addr → TS}
theorem ps_try_keep (hs : X.stack = X.env :: X.outer) (hf : X.env.frame = some X.env.locals) (hx : X.ex = []) (hN : X.N.Nodup) (hi : X.N[i]? = some n) (hl : X.env.kindOf n = some .local) (hc : Names X x c)
    (hb : ∀ (W : WX) (pn : List (Addr × Obj)) (xe : Value → Shared → Prop), Takes (X.tr pn xe) W → PassesOwn (model X.prog X.w) X.A X.env xe → PSs (X.tr pn xe) body (tb W))
    (hsu : ∀ (a : Addr) (ob : Obj) (cls : Value) (d : Option Addr) (pn : List (Addr × Obj)), Zc cls d ob → (∃ vs, ob.data = .fields vs) → PSs (X.suite a ((a, ob) :: pn)) (st0 :: rest) (ts a cls d)) :
    PS X (.Try body [.ExceptHandler (some (.Name x np)) (some n) (st0 :: rest) p1] [] [] p2) (fun D σ H => tb (wKeep X.K c i ts D) D σ H) := by
  constructor
  intro pins s σ H D I h
  have fr : X.A.frames = some (X.env :: X.outer) := hs ▸ I.ok.frames
  refine wpAny_Try_except (wpAny_mono ((hb _ (X.pn ++ pins) _ (fun u s1 air => ?_) PassesOwn.looking).run [] s σ H D (I.toTry _) h) (fun fl s1 end1 => ?_) (fun _ _ z => z))
  · obtain ⟨a, B, s2, _, τ, G, cls, d, rfl, J0, ground, ups, sky, na, os, bare, yes, go⟩ := air
    have J : Inv X pins τ G s2 := J0.ofTry I.ok
    have sky1 : Sky B (X.env :: X.outer) a (Zc cls d) X.env.locals s1.heap := hs ▸ sky
    show wpAny (model X.prog X.w) X.A (noteFrame (.ref a) X.env) _ _ _
    refine Sky.land Zc.steady fr hf sky1 fun g1 fly1 up1 => ?_
    have J1 : Inv X pins τ G { s1 with heap := g1 } := J.landed ground fly1.1 (ups.trans up1) os bare
    obtain ⟨ob1, vs1, at1, z1, d1⟩ := fly1.there
    have nfr : a ∉ frs (X.env :: X.outer) := fun hm => by
      obtain ⟨_, o', e', nd⟩ := fly1.2.2.1.mem hm
      rw [at1] at e'
      cases e'
      exact nd _ d1
    have nL : X.env.locals ≠ a := fun z => nfr (by rw [← z]; exact List.mem_filterMap.mpr ⟨X.env, List.mem_cons_self, hf⟩)
    have nF : a ∉ X.fs := fun hm => by
      obtain ⟨e, he, q⟩ := List.mem_filterMap.mp hm
      exact nfr (List.mem_filterMap.mpr ⟨e, List.mem_cons_of_mem _ he, q⟩)
    have off : ∀ b, b ≠ X.env.locals → b ∉ X.fs → b ∉ frs X.stack := fun b h1 h2 hm => (List.mem_cons.mp (J.stkSub b hm)).elim h1 h2
    have nB : B.get? a = none := fly1.2.1
    have nI : s2.heap.get? a = none := by
      cases q : s2.heap.get? a with
      | none => rfl
      | some o =>
        have := ground a o q (off a nL.symm nF)
        rw [nB] at this
        cases this
    have n0 : X.s_0.heap.get? a = none := by
      cases q : X.s_0.heap.get? a with
      | none => rfl
      | some o =>
        obtain ⟨o', q'⟩ := J.base.there a o q (by rw [hx]; exact fun z => nomatch z)
        rw [nI] at q'
        cases q'
    have nP : ∀ p ∈ X.pn ++ pins, p.1 ≠ a := fun p hp z => by
      have := (J.pin p hp).1
      rw [z, nI] at this
      cases this
    have T1 := J1.suite at1 d1 na nL.symm nF
    refine wpAny_handleBy_cons (codeAny_handlers_test ?_) (fun q => nomatch q)
    have kind : PySem.W.Looks (model X.prog X.w) g1 (typeOf (.ref a)) cls := fun A' Q' E' s' k q => wpAny_typeOf_ref (k _ _ at1) (by rw [z1.1]; exact q)
    have hit := PySem.W.exm_one (M := model X.prog X.w) J1.kIn kind yes
    have named : ∀ {Q' : Value → Shared → Prop} {E' : Value → Shared → Prop}, Q' c { s1 with heap := g1 } → wpAny (model X.prog X.w) (X.A.mark (some (.ref a))) (eval (.Name x np) X.env) Q' E' { s1 with heap := g1 } := by
      intro Q' E' q
      obtain ⟨hg, hdb, hm | ⟨hm, hv, hnn⟩⟩ := hc
      · exact ld_glob (X := X.suite a ((a, ob1) :: (X.pn ++ pins))) T1 hg hm q hdb
      · exact ld_blt (X := X.suite a ((a, ob1) :: (X.pn ++ pins))) T1 hg hm hv q hnn hdb
    refine named (hit.here (codeAny_handlers_suite_as (HandSPX.lands_againZ fly1 fun g2 fly2 up2 => ?_)))
    have J2 : Inv X pins τ G { s1 with heap := g2 } := J.landed ground fly2.1 ((ups.trans up1).trans up2) os bare
    obtain ⟨ob2, vs2, at2, z2, d2⟩ := fly2.there
    refine store_ok (X := X.suite a ((a, ob2) :: (X.pn ++ pins))) (v := .ref a) (J2.suite at2 d2 na nL.symm nF) hN hi (.inl hl) rfl (fun s3 T3 => ?_) (.inr hl)
    refine wpAny_mono ((hsu a ob2 cls d (X.pn ++ pins) z2 ⟨_, d2⟩).run [] s3 _ G _ T3 (go a na)) (fun fl s4 end4 => ?_) (fun _ _ z => z.elim)
    cases fl with
    | next =>
      obtain ⟨τ4, G4, T4, q4⟩ := end4
      obtain ⟨at4, free4, _⟩ := T4.pin (a, ob2) (List.mem_append.mpr (.inl List.mem_cons_self))
      have nC : ∀ y c', X.env.cells.lookup y = some c' → c' ≠ a := fun y c' e z => by
        obtain ⟨v, o, ho, hd⟩ := T4.cell y c' e
        rw [z, at4] at ho
        cases ho
        rw [d2] at hd
        cases hd
      exact gone_ok (inv_track (o := ErO cls d a) (T4.unsuite I.ok) n0 free4 nL nC nP (erO_ok at4 z2 d2)) hN hi hl fun s5 J5 => ⟨_, _, J5, q4⟩
    | brk =>
      obtain ⟨_, _, _, z⟩ := end4
      exact z.elim
    | cont =>
      obtain ⟨_, _, _, z⟩ := end4
      exact z.elim
    | ret u =>
      obtain ⟨_, _, _, _, _, z⟩ := end4
      exact z.elim
  · cases fl with
    | next =>
      obtain ⟨τ, G, J, q⟩ := end1
      exact wpAny_execs_nil ⟨τ, G, J.ofTry I.ok, q⟩
    | brk =>
      obtain ⟨τ, G, J, q⟩ := end1
      exact ⟨τ, G, J.ofTry I.ok, q⟩
    | cont =>
      obtain ⟨τ, G, J, q⟩ := end1
      exact ⟨τ, G, J.ofTry I.ok, q⟩
    | ret u =>
      obtain ⟨v, τ, G, J, r, q⟩ := end1
      exact ⟨v, τ, G, J.ofTry I.ok, r, q⟩
end
/-! ### isinstance of such an error -/
section
variable {K : PySem.W.Frag}
theorem er_at {X : Cx} {pins : List (Addr × Obj)} {σ : L2.St} {H : Hp} {s : Shared} {a D : Addr} (I : Inv X pins σ H s) (h : H a = some (ErO (.ref D) none a)) : ∃ oe, PySem.W.InstAt s.heap a oe D none := by
  obtain ⟨⟨oe, vs, e, z, f⟩, _⟩ := I.hok a _ h
  refine ⟨oe, ?_⟩
  obtain ⟨oc, od, oda, osl⟩ := oe
  obtain ⟨z1, z2⟩ := z
  dsimp only at z1 z2 f
  subst z1 z2 f
  exact ⟨e, rfl, rfl, trivial⟩
def rIsEr (K : PySem.W.Frag) : List V → Hp → VK → Prop := fun xs H Q => ∃ (a D : Addr) (c : V) (cv : Value) (b : Bool), xs = [.ref a, c] ∧ ExcC K D ∧ H a = some (ErO (.ref D) none a) ∧ (∀ u, RelV c u → u = cv) ∧ PySem.W.kitOne K (.ref D) cv = some b ∧ Q (.bl b) H
theorem call_isEr {X : Cx} : CallR X (.builtin "isinstance") (rIsEr X.K) := by
  intro pins s σ H xs us Q I r h
  obtain ⟨a, D, c, cv, b, rfl, C, ha, hcv, e, q⟩ := h
  cases r with
  | cons rx rr =>
    cases rr with
    | cons rt rr =>
      cases rr
      cases rx
      have ec := hcv _ rt
      subst ec
      obtain ⟨oe, J⟩ := er_at I ha
      exact PySem.W.kia_one (PySem.W.handS_kitx_exc C.hg C.hk C.hs C.hd C.ha C.hn C.ht C.hm) I.kIn J e (fun z => nomatch z) fun tk => ⟨.bl b, H, I.kept (t' := tk) fun _ _ z => z, rfl, q⟩
def rIsErT (K : PySem.W.Frag) : List V → Hp → VK → Prop := fun xs H Q => ∃ (a D tp : Addr) (cs : List Addr) (b : Bool), xs = [.ref a, .ref tp] ∧ ExcC K D ∧ H a = some (ErO (.ref D) none a) ∧ SqT K H tp (cs.map V.ref) ∧ PySem.W.kitAny K (.ref D) (cs.map Value.ref) = some b ∧ Q (.bl b) H
theorem vals_refs : ∀ {cs : List Addr} {us : List Value}, Vals (cs.map V.ref) us → us = cs.map Value.ref
  | [], _, .nil => rfl
  | c :: r, _, .cons e h => by
    cases e
    rw [vals_refs h]
    rfl
theorem call_isErT {X : Cx} : CallR X (.builtin "isinstance") (rIsErT X.K) := by
  intro pins s σ H xs us Q I r h
  obtain ⟨a, D, tp, cs, b, rfl, C, ha, hT, e, q⟩ := h
  cases r with
  | cons rx rr =>
    cases rr with
    | cons rt rr =>
      cases rr
      cases rx
      cases rt
      obtain ⟨its, rv, ⟨⟨cls, dd, data, sl⟩, ho, hc, n, hd⟩, _⟩ := I.tuple hT
      simp only at hc hd
      subst hc hd
      have ev := vals_refs rv
      subst ev
      obtain ⟨oe, J⟩ := er_at I ha
      exact PySem.W.kia_tup (PySem.W.handS_kitx_exc C.hg C.hk C.hs C.hd C.ha C.hn C.ht C.hm) I.kIn J ho e (fun z => nomatch z) fun tk => ⟨.bl b, H, I.kept (t' := tk) fun _ _ z => z, rfl, q⟩
theorem kk_isEr (K : PySem.W.Frag) {X : Cx} (h : X.K = K := by rfl) : CallR X (.builtin "isinstance") (rIsEr K) := h ▸ call_isEr
theorem kk_isErT (K : PySem.W.Frag) {X : Cx} (h : X.K = K := by rfl) : CallR X (.builtin "isinstance") (rIsErT K) := h ▸ call_isErT
end
/-! ### methods that may raise -/
structure CMx (P : Program) (w : World) (K : PySem.W.Frag) (mg : Str → Option Value) (base : Heap) (C : Addr) (k : Nat) (m : Str) (ps : List Str) (sp : Sp) : Prop where
  ex : ∃ (f : Addr) (fd : FuncData), FnOk P w K mg base (L2.CX P w) k f fd ps sp ∧ Meth K C m f ∧ Binds K fd ps []
def tMethE (C : Addr) (m : Str) (sp : Sp) (E : L2.St → XK) (ta : TE) (t : TA) : TE := fun σ H Q => ta σ H fun x H1 => ∃ (a dx : Addr) (fs : List (Str × V)), x = .ref a ∧ H1 a = some (.ins C dx fs) ∧ fs.lookup m = none ∧ t σ H1 fun vs H2 => sp (x :: vs) H2 Q (E σ)
theorem pe_mtx {X : Cx} {k : Nat} {C : Addr} {m : Str} {ps : List Str} {sp : Sp} {W : WX} {pos apos : Pos} {e o : Expr} {es : List Expr} {ta : TE} {t : TA} {pl : Sem Bool}
    (M : CMx X.prog X.w X.K X.mg X.base C k m ps sp) (c : Cls X.K C) (hr : Room k X.A) (tk : Takes X W) (he : PE X o ta) (ha : PA X (e :: es) t)
    (hst : starEach (e :: es) X.env = (false, eval e X.env) :: starEach es X.env := by rfl) (hpl : (backTo pos (starEach es X.env)).any (·.1) = false := by rfl)
    (ht : eval (.Call (.Attribute o m apos) (e :: es) [] pos) X.env = (do
      let ov ← eval o X.env
      standAt apos.atName
      let (f, first) ← holding [ov] (getMethod ov m pl)
      callWith pos f first (backTo pos (starEach (e :: es) X.env)) (backToKw pos (keywordEach [] X.env))) := by rfl) :
    PE X (.Call (.Attribute o m apos) (e :: es) [] pos) (tMethE C m sp (WE W) ta t) := by
  obtain ⟨f, fd, F, me, b⟩ := M.ex
  constructor
  intro pins s σ H Q I h
  refine PySem.W.methodCall_KW (pl := pl) (thn (he.run pins s σ H _ I h) ?_) ht
  rintro u s1 ⟨x, H1, I1, rx, a, dx, fs, rfl, ea, l, q⟩
  cases (show u = Value.ref a from rx)
  refine getmeth_ok I1 ea c me l ?_
  refine PySem.W.callWith_K (first := [.ref a]) (h₀ := X.base) I.ok.mod.kin me.kp (thn (ha.run pos pins s1 σ H1 _ I1 q) ?_) hst hpl
  rintro us s2 ⟨vs, H2, I2, r, q2⟩
  exact ⟨I2.kIn, run_fnS (E := WE W) (us := .ref a :: us) (vs := .ref a :: vs) F hr b (passAt tk σ) I2 (.cons rfl r) q2⟩
/-! ### dict(d), d.update(e) -/
theorem call_dictD {X : Cx} : CallR X (.type "dict") (fun xs H Q => ∃ (a : Addr) (kvs : List (Key × V)), xs = [.ref a] ∧ H a = some (.dK kvs) ∧ ∀ p, H p = none → Q (.ref p) (upd H p (.dK kvs))) := by
  intro pins s σ H xs us Q I r h
  obtain ⟨a, kvs, rfl, ha, q⟩ := h
  obtain ⟨u, rfl, ru⟩ := r.one
  cases ru
  exact d_copyOf I (.inl ha) fun p s' hp I' => ⟨.ref p, _, I', rfl, q p hp⟩
def rUpdD : V → List V → Hp → VK → Prop := fun x xs H Q => ∃ (d o : Addr) (kvs more : List (Key × V)), x = .ref d ∧ xs = [.ref o] ∧ d ≠ o ∧ H d = some (.dK kvs) ∧ H o = some (.dK more) ∧ kvs.length + more.length ≤ sizeLine ∧ Q .non (upd H d (.dK (mergeK kvs more)))
theorem mt_update {X : Cx} : MtR X "dict.update" rUpdD := by
  intro pins s σ H x xs v us Q I rx rxs h
  obtain ⟨d, o, kvs, more, rfl, rfl, ne, hd, ho, hl, q⟩ := h
  cases rx
  obtain ⟨u, rfl, ru⟩ := rxs.one
  cases ru
  obtain ⟨z1, n1, vs, r1, D1⟩ := dk_of I.hok hd
  obtain ⟨z2, n2, ws, r2, D2⟩ := dk_of I.hok ho
  refine call_meetsIn PySem.F.slot_dict_update D1.typeIs PySem.F.entry_dict_update (PySem.F.args_dict_update_2 _ _) (meets_dict_update (mixKind X.prog X.w) d o ne n2) ⟨vs, ws, D1, D2, by rw [← r1.length, ← r2.length]; exact hl, fun h' d1 d2 sb => ?_⟩
  have he : ∃ q, h'.get? d = some q := let ⟨q, _, _, hq, _⟩ := d1; ⟨q, hq⟩
  refine ⟨.non, _, d_write (t' := s.toks) I (by rw [hd]; exact True.intro) sb he (dk_new (Nat.le_trans (length_mergeK more kvs) hl) n1 (r2.merge r1) d1), rfl, q⟩
/-! ### list.count(True) of truths -/
def isYes : Value → Bool
  | .bool b => b
  | _ => false
theorem vals_bl : ∀ {bs : List Bool} {us : List Value}, Vals (bs.map V.bl) us → us = bs.map Value.bool
  | [], _, .nil => rfl
  | b :: r, _, .cons e h => by
    cases e
    rw [vals_bl h]
    rfl
theorem count_yes : ∀ bs : List Bool, (bs.map Value.bool).countP isYes = bs.count true
  | [] => rfl
  | b :: r => by
    rw [List.map_cons, List.countP_cons, List.count_cons, count_yes r]
    cases b <;> rfl
def rCntB (K : PySem.W.Frag) : V → List V → Hp → VK → Prop := fun x xs H Q => ∃ (p : Addr) (bs : List Bool), x = .ref p ∧ xs = [.bl true] ∧ SqL K H p (bs.map V.bl) ∧ Q (.int (bs.count true : Nat)) H
theorem mt_countB (K : PySem.W.Frag) {X : Cx} (hK : X.K = K := by rfl) : MtR X "list.count" (rCntB K) := by
  subst hK
  intro pins s σ H x xs v us Q I rx rxs h
  obtain ⟨p, bs, rfl, rfl, hs, q⟩ := h
  cases rx
  obtain ⟨u, rfl, ru⟩ := rxs.one
  cases ru
  obtain ⟨its, rv, ⟨⟨cls, dd, data, sl⟩, n, ho, hc, hdn, hd⟩, hlen⟩ := I.list hs
  simp only at hc hd
  subst hc hd
  have ev := vals_bl rv
  subst ev
  refine call_meets PySem.F.slot_list_count ⟨_, ho, rfl⟩ PySem.F.entry_list_count (PySem.F.args_list_count_2 _ _) (SeqAt.list_countAt p (bs.map Value.bool).toArray n dd sl (.bool true) isYes) ⟨ho, fun y hy => ?_, ?_⟩
  · have hm : y ∈ bs.map Value.bool := by simpa using hy
    obtain ⟨b, _, rfl⟩ := List.mem_map.mp hm
    cases b with
    | true => exact SeqAt.EqAt.bool_bool true true
    | false => exact SeqAt.EqAt.bool_bool false true
  · refine ⟨.int (bs.count true : Nat), H, I.tok _, ⟨s.toks, ?_⟩, q⟩
    show Value.int (((bs.map Value.bool).toArray.toList.countP isYes : Nat) : Int) s.toks = Value.int ((bs.count true : Nat) : Int) s.toks
    rw [List.toList_toArray, count_yes]
theorem kk_sla (K : PySem.W.Frag) {X : Cx} (h : X.K = K := by rfl) : SlR X (rSlA K) := h ▸ sl_tupA
/-! ### one ware put by: payments, what goes back -/
structure Pr where
  d : Int
  w : Str
  p : Int
def prV (x : Pr) : List V := [.int x.d, .str x.w, .int x.p]
def prD (x : Pr) : PyData := .tuple [.int x.d, .str x.w, .int x.p]
def sumP : List Pr → Int
  | [] => 0
  | q :: r => q.p + sumP r
def mn (a b : Int) : Int := if b < a then b else a
abbrev NN (l : List Pr) : Prop := ∀ q ∈ l, 0 ≤ q.p
theorem sumP_app : ∀ a b : List Pr, sumP (a ++ b) = sumP a + sumP b
  | [], b => by simp [sumP]
  | q :: r, b => by
    rw [List.cons_append, sumP, sumP, sumP_app r b]
    omega
theorem sumP_sum (l : List Pr) : (l.map (·.p)).sum = sumP l := by
  induction l with
  | nil => rfl
  | cons q r ih => rw [List.map_cons, List.sum_cons, ih]; rfl
theorem sumP_nn : ∀ {l : List Pr}, NN l → 0 ≤ sumP l
  | [], _ => Int.le_refl 0
  | q :: r, h => by
    have h1 := h q List.mem_cons_self
    have h2 := sumP_nn (l := r) fun x hx => h x (List.mem_cons_of_mem _ hx)
    rw [sumP]
    omega
theorem sumP_rev (l : List Pr) : sumP l.reverse = sumP l := by
  induction l with
  | nil => rfl
  | cons q r ih =>
    rw [List.reverse_cons, sumP_app, ih]
    show sumP r + (q.p + 0) = q.p + sumP r
    omega
theorem NN.rev {l : List Pr} (h : NN l) : NN l.reverse := fun q hq => h q (List.mem_reverse.mp hq)
theorem NN.snoc {l : List Pr} {q : Pr} (h : NN l) (hq : 0 ≤ q.p) : NN (l ++ [q]) := fun x hx => by
  rcases List.mem_append.mp hx with y | y
  · exact h x y
  · rw [List.mem_singleton.mp y]
    exact hq
def bOne (day x : Int) (q : Pr) : List Pr := if 0 < mn x q.p then [⟨day, q.w, mn x q.p⟩] else []
/-- the payments, the last one first: what goes back -/
def backR (day : Int) : List Pr → Int → List Pr
  | [], _ => []
  | q :: r, x => bOne day x q ++ backR day r (x - mn x q.p)
def bStep (day : Int) (a : Int × List Pr) (q : Pr) : Int × List Pr := (a.1 - mn a.1 q.p, a.2 ++ bOne day a.1 q)
theorem bStep_fold (day : Int) : ∀ (R : List Pr) (x : Int) (acc : List Pr), (R.foldl (bStep day) (x, acc)).2 = acc ++ backR day R x
  | [], x, acc => by simp [backR]
  | q :: r, x, acc => by
    rw [List.foldl_cons]
    show (r.foldl (bStep day) (x - mn x q.p, acc ++ bOne day x q)).2 = _
    rw [bStep_fold day r, backR, List.append_assoc]
def gOne (day fr : Int) (q : Pr) : List Pr := if mn fr q.p < q.p then [⟨day, q.w, q.p - mn fr q.p⟩] else []
def gStep (day : Int) (a : Int × List Pr) (q : Pr) : Int × List Pr := (a.1 - mn a.1 q.p, gOne day a.1 q ++ a.2)
theorem given_back (day : Int) : ∀ (R : List Pr) (x : Int), NN R → x ≤ sumP R → R.reverse.foldl (gStep day) (sumP R - x, []) = ((if x < 0 then -x else 0), backR day R (if x < 0 then 0 else x))
  | [], x, _, h => by
    have h' : x ≤ 0 := h
    show ((0 : Int) - x, ([] : List Pr)) = _
    by_cases c : x < 0
    · rw [if_pos c, if_pos c]
      show ((0 : Int) - x, ([] : List Pr)) = (-x, [])
      congr 1
      omega
    · rw [if_neg c, if_neg c]
      show ((0 : Int) - x, ([] : List Pr)) = (0, [])
      congr 1
      omega
  | q :: r, x, hn, h => by
    have q0 := hn q List.mem_cons_self
    have h' : x ≤ q.p + sumP r := h
    have ih := given_back day r (x - q.p) (fun y hy => hn y (List.mem_cons_of_mem _ hy)) (by omega)
    have e : sumP (q :: r) - x = sumP r - (x - q.p) := by
      rw [sumP]
      omega
    rw [List.reverse_cons, List.foldl_append, e, ih, List.foldl_cons, List.foldl_nil]
    unfold gStep gOne
    rw [backR]
    unfold bOne
    by_cases c1 : x < 0
    · rw [if_pos (show x - q.p < 0 by omega), if_pos (show x - q.p < 0 by omega), if_pos c1, if_pos c1]
      have e1 : mn (-(x - q.p)) q.p = q.p := by unfold mn; rw [if_pos (by omega)]
      have e2 : mn 0 q.p = 0 := by unfold mn; rw [if_neg (by omega)]
      dsimp only
      rw [e1, e2, if_neg (by omega), if_neg (by omega)]
      congr 1
      omega
    · by_cases c2 : x < q.p
      · rw [if_pos (show x - q.p < 0 by omega), if_pos (show x - q.p < 0 by omega), if_neg c1, if_neg c1]
        have e1 : mn (-(x - q.p)) q.p = q.p - x := by unfold mn; split <;> omega
        have e2 : mn x q.p = x := by unfold mn; rw [if_neg (by omega)]
        dsimp only
        rw [e1, e2, show q.p - (q.p - x) = x by omega]
        refine Prod.ext (by show -(x - q.p) - (q.p - x) = 0; omega) ?_
        dsimp only
        rw [show x - x = 0 by omega]
        by_cases c3 : 0 < x
        · rw [if_pos (by omega), if_pos c3]
        · rw [if_neg (by omega), if_neg c3]
      · rw [if_neg (show ¬ x - q.p < 0 by omega), if_neg (show ¬ x - q.p < 0 by omega), if_neg c1, if_neg c1]
        have e1 : mn 0 q.p = 0 := by unfold mn; rw [if_neg (by omega)]
        have e2 : mn x q.p = q.p := by unfold mn; split <;> omega
        dsimp only
        rw [e1, e2, show q.p - 0 = q.p by omega]
        refine Prod.ext (by show (0 : Int) - 0 = 0; omega) rfl
theorem given_rows {day x : Int} {l : List Pr} (hn : NN l) (h0 : 0 ≤ x) (h1 : x ≤ sumP l) : (l.foldl (gStep day) (sumP l - x, [])).2 = backR day l.reverse x := by
  have h := given_back day l.reverse x hn.rev (by rw [sumP_rev]; exact h1)
  rw [List.reverse_reverse, sumP_rev, if_neg (by omega), if_neg (by omega)] at h
  rw [h]
theorem back_sum (day : Int) : ∀ (R : List Pr) (x : Int), NN R → 0 ≤ x → x ≤ sumP R → sumP (backR day R x) = x
  | [], x, _, h0, h1 => by
    have h1' : x ≤ 0 := h1
    show (0 : Int) = x
    omega
  | q :: r, x, hn, h0, h1 => by
    have q0 := hn q List.mem_cons_self
    have h1' : x ≤ q.p + sumP r := h1
    have a : mn x q.p ≤ x ∧ 0 ≤ mn x q.p ∧ x - mn x q.p ≤ sumP r := by
      have := sumP_nn (l := r) fun y hy => hn y (List.mem_cons_of_mem _ hy)
      unfold mn
      split <;> omega
    rw [backR, sumP_app, back_sum day r _ (fun y hy => hn y (List.mem_cons_of_mem _ hy)) (by omega) a.2.2]
    unfold bOne
    split
    · show mn x q.p + 0 + _ = x
      omega
    · show 0 + _ = x
      omega
theorem back_zero (day : Int) : ∀ (R : List Pr), NN R → backR day R 0 = []
  | [], _ => rfl
  | q :: r, hn => by
    have q0 := hn q List.mem_cons_self
    have e : mn 0 q.p = 0 := by unfold mn; rw [if_neg (by omega)]
    rw [backR, e, Int.sub_self, back_zero day r fun y hy => hn y (List.mem_cons_of_mem _ hy)]
    unfold bOne
    rw [e, if_neg (by omega)]
    rfl
theorem back_len (day : Int) : ∀ (R : List Pr) (x : Int), (backR day R x).length ≤ R.length
  | [], _ => Nat.le_refl _
  | q :: r, x => by
    have := back_len day r (x - mn x q.p)
    rw [backR, List.length_append, List.length_cons]
    unfold bOne
    split
    · rw [List.length_singleton]
      omega
    · rw [List.length_nil]
      omega
theorem back_mem (day : Int) : ∀ (R : List Pr) (x : Int) (q : Pr), q ∈ backR day R x → ∃ y ∈ R, q.w = y.w
  | [], _, _, h => nomatch h
  | y :: r, x, q, h => by
    rw [backR] at h
    rcases List.mem_append.mp h with h | h
    · unfold bOne at h
      split at h
      · rw [List.mem_singleton.mp h]
        exact ⟨y, List.mem_cons_self, rfl⟩
      · cases h
    · obtain ⟨z, hz, e⟩ := back_mem day r _ q h
      exact ⟨z, List.mem_cons_of_mem _ hz, e⟩
/-! ### what is known of a ware put by -/
structure Md where
  price : Int
  begin_ : Int
  day : Int
  due : Int
  many : Int
  missed : Int
  pays : List Pr
  backs : List Pr
  kept : Int
  en : Option (Wd × Int)
def shareU (p k : Int) : Int := (p * k + 99) / 100
def endM (w : Wd) (d k : Int) (M : Md) : Md := { M with en := some (w, d), kept := k, backs := M.backs ++ backR d M.pays.reverse (sumP M.pays - k) }
def keepAt (f : Fg) (i : Int) : Int := f.ks.getD i.toNat 0
def wholeK (M : Md) (k : Int) : Int := shareU (sumP M.pays) k
/-- to the morning of a day -/
def toM (f : Fg) (M : Md) (D : Int) : Md := match M.en with
  | some _ => { M with day := D }
  | none => match passN f.s f.g (f.m - M.missed).toNat M.due M.many M.missed D with
    | ⟨.go, d, _, m⟩ => endM .go d (wholeK M (keptV f (keepAt f M.many) true)) { M with day := D, due := d - f.g - 1, missed := m }
    | ⟨_, d, _, m⟩ => { M with day := D, due := d, missed := m }
def nextP (f : Fg) (M : Md) : Int := -(-(M.price - sumP M.pays) / (f.p - M.many))
def paidM (f : Fg) (M : Md) (day : Int) (who : Str) : Md :=
  let M1 : Md := { M with pays := M.pays ++ [⟨day, who, nextP f M⟩], many := M.many + 1, due := (if f.l then day else M.due) + f.s }
  if M.many + 1 = f.p then endM .so day M.price M1 else M1
def upM (f : Fg) (M : Md) (day : Int) : Md := endM .up day (wholeK M (keepAt f M.many)) M
def fallM (f : Fg) (M : Md) (day price : Int) : Md := if M.en = none ∧ day - M.begin_ ≤ f.fa ∧ price < M.price then (if price ≤ sumP M.pays then endM .so day price { M with price := price } else { M with price := price }) else M
structure Md.Ok (f : Fg) (M : Md) : Prop where
  nn : NN M.pays
  pr0 : 1 ≤ M.price
  pr1 : M.price ≤ 1000000
  b0 : 0 ≤ M.begin_
  bd : M.begin_ ≤ M.day
  len : (M.pays.length : Int) = M.many
  many0 : 0 ≤ M.many
  many1 : M.many ≤ f.p
  blen : M.backs.length ≤ 6
  whole : sumP M.pays ≤ 1000000
  st : M.en = none → M.kept = 0 ∧ M.backs = [] ∧ sumP M.pays ≤ M.price ∧ M.many < f.p ∧ 0 ≤ M.missed ∧ M.missed ≤ f.m ∧ M.day ≤ M.due + f.g
  over : ∀ w d, M.en = some (w, d) → w ≠ .st ∧ M.kept = sumP M.pays - sumP M.backs
theorem keepAt_bnd {f : Fg} (ok : f.Ok) (i : Int) : 0 ≤ keepAt f i ∧ keepAt f i ≤ 100 := by
  unfold keepAt
  by_cases h : i.toNat < f.ks.length
  · rw [List.getD_eq_getElem?_getD, List.getElem?_eq_getElem h]
    exact ok.bnd _ (List.getElem_mem h)
  · rw [List.getD_eq_getElem?_getD, List.getElem?_eq_none (by omega)]
    exact ⟨by decide, by decide⟩
theorem keepAt_some {f : Fg} (ok : f.Ok) {i : Int} (h0 : 0 ≤ i) (h1 : i < f.p) : f.ks[i.toNat]? = some (keepAt f i) := by
  have hl := ok.len
  have h : i.toNat < f.ks.length := by omega
  unfold keepAt
  rw [List.getD_eq_getElem?_getD, List.getElem?_eq_getElem h]
  rfl
theorem keptV_bnd {f : Fg} (ok : f.Ok) {k : Int} (h0 : 0 ≤ k) (h1 : k ≤ 100) (b : Bool) : 0 ≤ keptV f k b ∧ keptV f k b ≤ 100 := by
  have := ok.figs.fi0
  unfold keptV
  split
  · split <;> omega
  · omega
theorem share_bnd {p k : Int} (hp : 0 ≤ p) (h0 : 0 ≤ k) (h1 : k ≤ 100) : 0 ≤ shareU p k ∧ shareU p k ≤ p := by
  have a : 0 ≤ p * k := Int.mul_nonneg hp h0
  have b : p * k ≤ p * 100 := Int.mul_le_mul_of_nonneg_left h1 hp
  unfold shareU
  constructor
  · exact Int.ediv_nonneg (by omega) (by decide)
  · omega
theorem end_ok {f : Fg} {M : Md} {w : Wd} {d k : Int} (ok : M.Ok f) (h : M.backs = []) (hw : w ≠ .st) (h0 : 0 ≤ k) (h1 : k ≤ sumP M.pays) (fo : f.Ok) : (endM w d k M).Ok f := by
  have p1 := fo.figs.p1
  have hb := back_sum d M.pays.reverse (sumP M.pays - k) ok.nn.rev (by omega) (by rw [sumP_rev]; omega)
  refine ⟨ok.nn, ok.pr0, ok.pr1, ok.b0, ok.bd, ok.len, ok.many0, ok.many1, ?_, ok.whole, fun e => (nomatch e), fun w' d' e => ?_⟩
  · have := back_len d M.pays.reverse (sumP M.pays - k)
    have l := ok.len
    have m := ok.many1
    show (M.backs ++ _).length ≤ 6
    rw [h, List.nil_append]
    rw [List.length_reverse] at this
    omega
  · cases e
    refine ⟨hw, ?_⟩
    show k = sumP M.pays - sumP (M.backs ++ _)
    rw [h, List.nil_append, hb]
    omega
theorem next_bnd {f : Fg} {M : Md} (h : sumP M.pays ≤ M.price) (hm : M.many < f.p) : 0 ≤ nextP f M ∧ nextP f M ≤ M.price - sumP M.pays ∧ (M.many + 1 = f.p → nextP f M = M.price - sumP M.pays) := by
  unfold nextP
  generalize hx : M.price - sumP M.pays = x
  generalize hn : f.p - M.many = n
  have n1 : 1 ≤ n := by omega
  have x0 : 0 ≤ x := by omega
  have e1 := Int.mul_ediv_add_emod (-x) n
  have e2 := Int.emod_nonneg (-x) (show n ≠ 0 by omega)
  have e3 := Int.emod_lt_of_pos (-x) (show 0 < n by omega)
  refine ⟨?_, ?_, fun e => ?_⟩
  · have : -x / n ≤ 0 := by
      apply Int.le_of_lt_add_one
      apply Int.lt_of_mul_lt_mul_left (a := n) _ (by omega)
      rw [Int.mul_add]
      omega
    omega
  · have : -x ≤ -x / n := by
      apply Int.le_ediv_of_mul_le (by omega)
      have := Int.mul_le_mul_of_nonneg_left n1 x0
      rw [Int.neg_mul]
      omega
    omega
  · have : n = 1 := by omega
    rw [this, Int.ediv_one]
    omega
theorem passN_bnd {s g : Int} (hs : 1 ≤ s) : ∀ (n : Nat) (d p m day : Int), (passN s g n d p m day).p = p ∧ m ≤ (passN s g n d p m day).m ∧ ((passN s g n d p m day).w = .st → day ≤ (passN s g n d p m day).d + g) ∧ ((passN s g n d p m day).w = .st ∨ (passN s g n d p m day).w = .go)
  | 0, d, p, m, day => by
    unfold passN
    split
    · exact ⟨rfl, Int.le_refl _, fun e => (nomatch e), .inr rfl⟩
    · exact ⟨rfl, Int.le_refl _, fun _ => by show day ≤ d + g; omega, .inl rfl⟩
  | n + 1, d, p, m, day => by
    rw [passN]
    split
    · have := passN_bnd (g := g) hs n (d + s) p (m + 1) day
      exact ⟨this.1, by omega, this.2.2⟩
    · exact ⟨rfl, Int.le_refl _, fun _ => by show day ≤ d + g; omega, .inl rfl⟩
theorem to_over {f : Fg} {M : Md} {D : Int} {we : Wd × Int} (e : M.en = some we) : toM f M D = { M with day := D } := by
  unfold toM
  split
  · rfl
  · rename_i h
    rw [e] at h
    cases h
theorem to_st {f : Fg} {M : Md} {D d p m : Int} (e : M.en = none) (h : passN f.s f.g (f.m - M.missed).toNat M.due M.many M.missed D = ⟨.st, d, p, m⟩) : toM f M D = { M with day := D, due := d, missed := m } := by
  unfold toM
  split
  · rename_i h'
    rw [e] at h'
    cases h'
  · rw [h]
theorem to_go {f : Fg} {M : Md} {D d p m : Int} (e : M.en = none) (h : passN f.s f.g (f.m - M.missed).toNat M.due M.many M.missed D = ⟨.go, d, p, m⟩) : toM f M D = endM .go d (wholeK M (keptV f (keepAt f M.many) true)) { M with day := D, due := d - f.g - 1, missed := m } := by
  unfold toM
  split
  · rename_i h'
    rw [e] at h'
    cases h'
  · rw [h]
theorem to_ok {f : Fg} {M : Md} {D : Int} (fo : f.Ok) (ok : M.Ok f) (hD : M.day ≤ D) : (toM f M D).Ok f := by
  have bd := ok.bd
  cases e : M.en with
  | some we =>
    rw [to_over e]
    refine ⟨ok.nn, ok.pr0, ok.pr1, ok.b0, by show M.begin_ ≤ D; omega, ok.len, ok.many0, ok.many1, ok.blen, ok.whole, fun z => ?_, fun w d z => ok.over w d z⟩
    exact absurd (e.symm.trans z) (fun z => nomatch z)
  | none =>
    obtain ⟨k0, b0, s0, m0, i0, i1, d0⟩ := ok.st e
    obtain ⟨c1, c2, c3, c4⟩ := passN_bnd (g := f.g) fo.figs.s0 (f.m - M.missed).toNat M.due M.many M.missed D
    have c5 := passN_m (s := f.s) (g := f.g) (f.m - M.missed).toNat M.due M.many M.missed D
    cases hc : passN f.s f.g (f.m - M.missed).toNat M.due M.many M.missed D with
    | mk w d p m =>
    rw [hc] at c1 c2 c3 c4 c5
    dsimp only at c1 c2 c3 c4 c5
    rcases c4 with rfl | rfl
    · rw [to_st e hc]
      exact ⟨ok.nn, ok.pr0, ok.pr1, ok.b0, by show M.begin_ ≤ D; omega, ok.len, ok.many0, ok.many1, ok.blen, ok.whole, fun z => ⟨k0, b0, s0, m0, by show 0 ≤ m; omega, by show m ≤ f.m; omega, c3 rfl⟩, fun w d z => absurd (e.symm.trans z) (fun z => nomatch z)⟩
    · rw [to_go e hc]
      have kb := keptV_bnd fo (keepAt_bnd fo M.many).1 (keepAt_bnd fo M.many).2 true
      have sb := share_bnd (sumP_nn ok.nn) kb.1 kb.2
      have ok2 : Md.Ok f { M with day := D, due := d - f.g - 1, missed := m, en := some (.go, 0), kept := sumP M.pays } := ⟨ok.nn, ok.pr0, ok.pr1, ok.b0, by show M.begin_ ≤ D; omega, ok.len, ok.many0, ok.many1, ok.blen, ok.whole, fun z => (nomatch z), fun w d z => by
        cases z
        refine ⟨fun z => (nomatch z), ?_⟩
        show sumP M.pays = sumP M.pays - sumP M.backs
        rw [b0]
        show _ = _ - 0
        omega⟩
      have r := end_ok (w := .go) (d := d) (k := wholeK M (keptV f (keepAt f M.many) true)) ok2 b0 (fun z => nomatch z) sb.1 sb.2 fo
      exact r
theorem paid_ok {f : Fg} {M : Md} {day : Int} {who : Str} (fo : f.Ok) (ok : M.Ok f) (e : M.en = none) (hd : M.day = day) : (paidM f M day who).Ok f := by
  obtain ⟨k0, b0, s0, m0, i0, i1, d0⟩ := ok.st e
  have nb := next_bnd s0 m0
  have s1 := fo.figs.s0
  have pr := ok.pr1
  have sm : sumP (M.pays ++ [⟨day, who, nextP f M⟩]) = sumP M.pays + nextP f M := by
    rw [sumP_app]
    show _ + (nextP f M + 0) = _
    omega
  have nn' : NN (M.pays ++ [⟨day, who, nextP f M⟩]) := ok.nn.snoc nb.1
  have l := ok.len
  have ln : (((M.pays ++ [⟨day, who, nextP f M⟩] : List Pr).length : Nat) : Int) = M.many + 1 := by
    rw [List.length_append, List.length_singleton]
    omega
  unfold paidM
  dsimp only
  split
  · rename_i hp
    have e2 := nb.2.2 hp
    have ok2 : Md.Ok f { M with pays := M.pays ++ [⟨day, who, nextP f M⟩], many := M.many + 1, due := (if f.l then day else M.due) + f.s, en := some (.go, 0), kept := M.price } := ⟨nn', ok.pr0, ok.pr1, ok.b0, ok.bd, ln, by show 0 ≤ M.many + 1; have := ok.many0; omega, by show M.many + 1 ≤ f.p; omega, ok.blen, by show sumP _ ≤ _; rw [sm]; omega, fun z => (nomatch z), fun w d z => by
        cases z
        refine ⟨fun z => (nomatch z), ?_⟩
        show M.price = sumP _ - sumP M.backs
        rw [b0, sm]
        show _ = _ - 0
        omega⟩
    have r := end_ok (w := .so) (d := day) (k := M.price) ok2 b0 (fun z => nomatch z) (by have := ok.pr0; omega) (by show M.price ≤ sumP _; rw [sm]; omega) fo
    exact r
  · rename_i hp
    have hm : M.many + 1 < f.p := by omega
    refine ⟨nn', ok.pr0, ok.pr1, ok.b0, ok.bd, ln, by show 0 ≤ M.many + 1; have := ok.many0; omega, by show M.many + 1 ≤ f.p; omega, ok.blen, by show sumP _ ≤ _; rw [sm]; omega, fun _ => ⟨k0, b0, by show sumP _ ≤ M.price; rw [sm]; omega, hm, i0, i1, ?_⟩, fun w d z => absurd (e.symm.trans z) (fun z => nomatch z)⟩
    show M.day ≤ (if f.l then day else M.due) + f.s + f.g
    have := fo.figs.g0
    split <;> omega
theorem up_ok {f : Fg} {M : Md} {day : Int} (fo : f.Ok) (ok : M.Ok f) (e : M.en = none) : (upM f M day).Ok f := by
  obtain ⟨k0, b0, _⟩ := ok.st e
  have kb := keepAt_bnd fo M.many
  have sb := share_bnd (sumP_nn ok.nn) kb.1 kb.2
  exact end_ok ok b0 (fun z => nomatch z) sb.1 sb.2 fo
theorem fall_ok {f : Fg} {M : Md} {day price : Int} (fo : f.Ok) (ok : M.Ok f) (hp : 1 ≤ price) : (fallM f M day price).Ok f := by
  unfold fallM
  split
  · rename_i h
    obtain ⟨k0, b0, s0, m0, i0, i1, d0⟩ := ok.st h.1
    have pr := ok.pr1
    split
    · rename_i h2
      have ok2 : Md.Ok f { M with price := price, en := some (.go, 0), kept := sumP M.pays } := ⟨ok.nn, hp, by show price ≤ _; omega, ok.b0, ok.bd, ok.len, ok.many0, ok.many1, ok.blen, ok.whole, fun z => (nomatch z), fun w d z => by
        cases z
        refine ⟨fun z => (nomatch z), ?_⟩
        show sumP M.pays = sumP M.pays - sumP M.backs
        rw [b0]
        show _ = _ - 0
        omega⟩
      have r := end_ok (w := .so) (d := day) (k := price) ok2 b0 (fun z => nomatch z) (by omega) h2 fo
      exact r
    · rename_i h2
      exact ⟨ok.nn, hp, by show price ≤ _; omega, ok.b0, ok.bd, ok.len, ok.many0, ok.many1, ok.blen, ok.whole, fun z => ⟨k0, b0, by show sumP M.pays ≤ price; omega, m0, i0, i1, d0⟩, fun w d z => by
        have z' : M.en = some (w, d) := z
        rw [h.1] at z'
        cases z'⟩
  · exact ok
/-! ### in the heap: frames -/
def Fr (z : List Addr) (H H' : Hp) : Prop := ∀ c o, c ∉ z → H c = some o → H' c = some o
def Mt : HO → Prop
  | .lst _ => True
  | .dK _ => True
  | .ins _ _ _ => True
  | _ => False
/-- what may be changed: lists, dicts, instances -/
def Mu (H : Hp) (z : List Addr) : Prop := ∀ c ∈ z, ∃ o, H c = some o ∧ Mt o
def RowsL (H : Hp) (a : Addr) (l : List Pr) : Prop := ∃ L : List (Addr × Pr), H a = some (.lst (refs L)) ∧ RowsAt prV H L ∧ L.map (·.2) = l
section
variable {K : PySem.W.Frag} {z z' : List Addr} {H H1 H2 : Hp} {a b : Addr} {l : List Pr}
theorem Fr.refl : Fr z H H := fun _ _ _ h => h
theorem Fr.trans (x : Fr z H H1) (y : Fr z H1 H2) : Fr z H H2 := fun c o n h => y c o n (x c o n h)
theorem Fr.of (x : Same H H1) : Fr z H H1 := fun c o _ h => x c o h
theorem Fr.but (x : But b H H1) (hb : b ∈ z) : Fr z H H1 := fun c o n h => x c o (fun e => n (by rw [e]; exact hb)) h
theorem Fr.wide (x : Fr z H H1) (s : ∀ c ∈ z, c ∈ z') : Fr z' H H1 := fun c o n h => x c o (fun e => n (s c e)) h
theorem Fr.upd {o : HO} (hb : b ∈ z) : Fr z H (L2.upd H b o) := fun c u n h => by
  have ne : c ≠ b := fun e => n (by rw [e]; exact hb)
  rw [upd_ne ne]
  exact h
theorem Fr.new {o : HO} (h : H a = none) : Fr z H (L2.upd H a o) := Fr.of (same_new h)
theorem Fr.none (t : Fr z H H1) (m : Mu H z) (n : H1 a = .none) (ha : a ∉ z) : H a = .none := by
  cases e : H a with
  | none => rfl
  | some o =>
    rw [t a o ha e] at n
    cases n
theorem Mu.ne (m : Mu H z) (h : H a = .none) : a ∉ z := fun e => by
  obtain ⟨o, q, _⟩ := m a e
  rw [h] at q
  cases q
theorem Mu.neT (m : Mu H z) {xs : List V} (h : H a = some (.tup xs)) : a ∉ z := fun e => by
  obtain ⟨o, q, t⟩ := m a e
  rw [h] at q
  cases q
  exact t
theorem Fr.tup {xs : List V} (t : Fr z H H1) (m : Mu H z) (h : SqT K H a xs) : SqT K H1 a xs := by
  rcases h with (h | ⟨o, h⟩) | h
  · exact .inl (.inl (t _ _ (m.neT h) h))
  · refine .inl (.inr ⟨o, t _ _ (fun e => ?_) h⟩)
    obtain ⟨o', q, k⟩ := m a e
    rw [h] at q
    cases q
    exact k
  · exact .inr h
theorem Fr.rows {α : Type} {f : α → List V} {L : List (Addr × α)} (t : Fr z H H1) (m : Mu H z) (h : RowsAt f H L) : RowsAt f H1 L := fun q hq => t _ _ (m.neT (h q hq)) (h q hq)
theorem Fr.rowsL (t : Fr z H H1) (m : Mu H z) (n : a ∉ z) (h : RowsL H a l) : RowsL H1 a l := by
  obtain ⟨L, h1, h2, h3⟩ := h
  exact ⟨L, t _ _ n h1, t.rows m h2, h3⟩
theorem Fr.rule {C r : Addr} {f : Fg} (t : Fr z H H1) (m : Mu H z) (n : r ∉ z) (h : RuleAt K H C r f) : RuleAt K H1 C r f := by
  obtain ⟨dx, kt, h1, h2⟩ := h
  exact ⟨dx, kt, t _ _ n h1, t.tup m h2⟩
theorem RowsL.same (h : RowsL H a l) (s : Same H H1) : RowsL H1 a l := by
  obtain ⟨L, h1, h2, h3⟩ := h
  exact ⟨L, s _ _ h1, h2.same s, h3⟩
theorem RowsL.len (h : RowsL H a l) : ∃ L : List (Addr × Pr), H a = some (.lst (refs L)) ∧ RowsAt prV H L ∧ L.map (·.2) = l ∧ L.length = l.length := by
  obtain ⟨L, h1, h2, h3⟩ := h
  exact ⟨L, h1, h2, h3, by rw [← h3, List.length_map]⟩
theorem rowD {q : Addr × Pr} (h : H q.1 = some (.tup (prV q.2))) : Dp K H (.ref q.1) (prD q.2) := .tup (SqT.of h) (.cons (.int _) (.cons (.str _) (.cons (.int _) .nil)))
theorem rowsD : ∀ {L : List (Addr × Pr)}, RowsAt prV H L → DpAll K H (refs L) ((L.map (·.2)).map prD)
  | [], _ => .nil
  | q :: r, h => .cons (rowD (h q List.mem_cons_self)) (rowsD fun x hx => h x (List.mem_cons_of_mem _ hx))
theorem RowsL.dp (h : RowsL H a l) : Dp K H (.ref a) (.list (l.map prD)) := by
  obtain ⟨L, h1, h2, h3⟩ := h
  rw [← h3]
  exact .lst (SqL.of h1) (rowsD h2)
end
/-! ### the law's dict, the program's fields -/
abbrev kS (x : String) : Key := Sum.inr (Str.ofString x)
def putL : List (Key × V) → Key → V → List (Key × V)
  | [], k, v => [(k, v)]
  | p :: r, k, v => if p.1 = k then (p.1, v) :: r else p :: putL r k v
theorem putL_ne {j : Key} {x : V} {r : List (Key × V)} {k : Key} {v : V} (h : j ≠ k) : putL ((j, x) :: r) k v = (j, x) :: putL r k v := by
  rw [putL, if_neg h]
theorem vN {j k : Key} {x : V} {r : List (Key × V)} (h : j ≠ k) : valV ((j, x) :: r) k = valV r k := valV_neg h
theorem putL_same {x v : V} {r : List (Key × V)} {k : Key} : putL ((k, x) :: r) k v = (k, v) :: r := by
  rw [putL, if_pos rfl]
theorem putL_eq {k : Key} {v : V} : ∀ {kvs : List (Key × V)}, (kvs.map (·.1)).Nodup → putK kvs k v = putL kvs k v
  | [], _ => rfl
  | p :: r, nd => by
    rw [List.map_cons, List.nodup_cons] at nd
    have ih := putL_eq (k := k) (v := v) nd.2
    by_cases h : p.1 = k
    · rw [putL, if_pos h]
      unfold putK
      rw [List.any_cons, decide_eq_true h, Bool.true_or, if_pos rfl, List.map_cons, if_pos h]
      congr 1
      refine (List.map_congr_left fun q hq => ?_).trans (List.map_id r)
      rw [if_neg fun e => nd.1 (by rw [h, ← e]; exact List.mem_map_of_mem hq)]
      rfl
    · rw [putL, if_neg h, ← ih]
      unfold putK
      rw [List.any_cons, decide_eq_false h, Bool.false_or]
      split
      · rw [List.map_cons, if_neg h]
      · rfl
theorem putF_ne {f g : Str} {v x : V} {r : List (Str × V)} (h : g ≠ f) : putF f v ((g, x) :: r) = (g, x) :: putF f v r := by
  show (if g = f then (g, v) :: r else (g, x) :: putF f v r) = _
  rw [if_neg h]
theorem putF_same {f : Str} {v x : V} {r : List (Str × V)} : putF f v ((f, x) :: r) = (f, v) :: r := by
  show (if f = f then (f, v) :: r else (f, x) :: putF f v r) = _
  rw [if_pos rfl]
def mdV (fa : Addr) (M : Md) (pa ba : Addr) (en : V) : List (Key × V) := [(kS "figures", .ref fa), (kS "price", .int M.price), (kS "begin", .int M.begin_), (kS "day", .int M.day), (kS "due", .int M.due), (kS "many", .int M.many), (kS "missed", .int M.missed), (kS "pays", .ref pa), (kS "backs", .ref ba), (kS "kept", .int M.kept), (kS "end", en)]
section
variable {fa pa ba : Addr} {M : Md} {en : V}
theorem g_figures : valV (mdV fa M pa ba en) (kS "figures") = some (.ref fa) := by
  unfold mdV
  rw [valV_pos rfl]
theorem g_price : valV (mdV fa M pa ba en) (kS "price") = some (.int M.price) := by
  unfold mdV
  rw [vN (by decide +kernel), valV_pos rfl]
theorem g_begin : valV (mdV fa M pa ba en) (kS "begin") = some (.int M.begin_) := by
  unfold mdV
  rw [vN (by decide +kernel), vN (by decide +kernel), valV_pos rfl]
theorem g_day : valV (mdV fa M pa ba en) (kS "day") = some (.int M.day) := by
  unfold mdV
  rw [vN (by decide +kernel), vN (by decide +kernel), vN (by decide +kernel), valV_pos rfl]
theorem g_due : valV (mdV fa M pa ba en) (kS "due") = some (.int M.due) := by
  unfold mdV
  rw [vN (by decide +kernel), vN (by decide +kernel), vN (by decide +kernel), vN (by decide +kernel), valV_pos rfl]
theorem g_many : valV (mdV fa M pa ba en) (kS "many") = some (.int M.many) := by
  unfold mdV
  rw [vN (by decide +kernel), vN (by decide +kernel), vN (by decide +kernel), vN (by decide +kernel), vN (by decide +kernel), valV_pos rfl]
theorem g_missed : valV (mdV fa M pa ba en) (kS "missed") = some (.int M.missed) := by
  unfold mdV
  rw [vN (by decide +kernel), vN (by decide +kernel), vN (by decide +kernel), vN (by decide +kernel), vN (by decide +kernel), vN (by decide +kernel), valV_pos rfl]
theorem g_pays : valV (mdV fa M pa ba en) (kS "pays") = some (.ref pa) := by
  unfold mdV
  rw [vN (by decide +kernel), vN (by decide +kernel), vN (by decide +kernel), vN (by decide +kernel), vN (by decide +kernel), vN (by decide +kernel), vN (by decide +kernel), valV_pos rfl]
theorem g_backs : valV (mdV fa M pa ba en) (kS "backs") = some (.ref ba) := by
  unfold mdV
  rw [vN (by decide +kernel), vN (by decide +kernel), vN (by decide +kernel), vN (by decide +kernel), vN (by decide +kernel), vN (by decide +kernel), vN (by decide +kernel), vN (by decide +kernel), valV_pos rfl]
theorem g_kept : valV (mdV fa M pa ba en) (kS "kept") = some (.int M.kept) := by
  unfold mdV
  rw [vN (by decide +kernel), vN (by decide +kernel), vN (by decide +kernel), vN (by decide +kernel), vN (by decide +kernel), vN (by decide +kernel), vN (by decide +kernel), vN (by decide +kernel), vN (by decide +kernel), valV_pos rfl]
theorem g_end : valV (mdV fa M pa ba en) (kS "end") = some (en) := by
  unfold mdV
  rw [vN (by decide +kernel), vN (by decide +kernel), vN (by decide +kernel), vN (by decide +kernel), vN (by decide +kernel), vN (by decide +kernel), vN (by decide +kernel), vN (by decide +kernel), vN (by decide +kernel), vN (by decide +kernel), valV_pos rfl]
theorem md_nd : ((mdV fa M pa ba en).map (·.1)).Nodup := by
  show ([kS "figures", kS "price", kS "begin", kS "day", kS "due", kS "many", kS "missed", kS "pays", kS "backs", kS "kept", kS "end"] : List Key).Nodup
  decide +kernel
theorem p_figures {y : Addr} : putK (mdV fa M pa ba en) (kS "figures") (.ref y) = mdV y M pa ba en := by
  rw [putL_eq md_nd]
  unfold mdV
  rw [putL_same]
theorem p_price {y : Int} : putK (mdV fa M pa ba en) (kS "price") (.int y) = mdV fa { M with price := y } pa ba en := by
  rw [putL_eq md_nd]
  unfold mdV
  rw [putL_ne (by decide +kernel), putL_same]
theorem p_begin {y : Int} : putK (mdV fa M pa ba en) (kS "begin") (.int y) = mdV fa { M with begin_ := y } pa ba en := by
  rw [putL_eq md_nd]
  unfold mdV
  rw [putL_ne (by decide +kernel), putL_ne (by decide +kernel), putL_same]
theorem p_day {y : Int} : putK (mdV fa M pa ba en) (kS "day") (.int y) = mdV fa { M with day := y } pa ba en := by
  rw [putL_eq md_nd]
  unfold mdV
  rw [putL_ne (by decide +kernel), putL_ne (by decide +kernel), putL_ne (by decide +kernel), putL_same]
theorem p_due {y : Int} : putK (mdV fa M pa ba en) (kS "due") (.int y) = mdV fa { M with due := y } pa ba en := by
  rw [putL_eq md_nd]
  unfold mdV
  rw [putL_ne (by decide +kernel), putL_ne (by decide +kernel), putL_ne (by decide +kernel), putL_ne (by decide +kernel), putL_same]
theorem p_many {y : Int} : putK (mdV fa M pa ba en) (kS "many") (.int y) = mdV fa { M with many := y } pa ba en := by
  rw [putL_eq md_nd]
  unfold mdV
  rw [putL_ne (by decide +kernel), putL_ne (by decide +kernel), putL_ne (by decide +kernel), putL_ne (by decide +kernel), putL_ne (by decide +kernel), putL_same]
theorem p_missed {y : Int} : putK (mdV fa M pa ba en) (kS "missed") (.int y) = mdV fa { M with missed := y } pa ba en := by
  rw [putL_eq md_nd]
  unfold mdV
  rw [putL_ne (by decide +kernel), putL_ne (by decide +kernel), putL_ne (by decide +kernel), putL_ne (by decide +kernel), putL_ne (by decide +kernel), putL_ne (by decide +kernel), putL_same]
theorem p_pays {y : Addr} : putK (mdV fa M pa ba en) (kS "pays") (.ref y) = mdV fa M y ba en := by
  rw [putL_eq md_nd]
  unfold mdV
  rw [putL_ne (by decide +kernel), putL_ne (by decide +kernel), putL_ne (by decide +kernel), putL_ne (by decide +kernel), putL_ne (by decide +kernel), putL_ne (by decide +kernel), putL_ne (by decide +kernel), putL_same]
theorem p_backs {y : Addr} : putK (mdV fa M pa ba en) (kS "backs") (.ref y) = mdV fa M pa y en := by
  rw [putL_eq md_nd]
  unfold mdV
  rw [putL_ne (by decide +kernel), putL_ne (by decide +kernel), putL_ne (by decide +kernel), putL_ne (by decide +kernel), putL_ne (by decide +kernel), putL_ne (by decide +kernel), putL_ne (by decide +kernel), putL_ne (by decide +kernel), putL_same]
theorem p_kept {y : Int} : putK (mdV fa M pa ba en) (kS "kept") (.int y) = mdV fa { M with kept := y } pa ba en := by
  rw [putL_eq md_nd]
  unfold mdV
  rw [putL_ne (by decide +kernel), putL_ne (by decide +kernel), putL_ne (by decide +kernel), putL_ne (by decide +kernel), putL_ne (by decide +kernel), putL_ne (by decide +kernel), putL_ne (by decide +kernel), putL_ne (by decide +kernel), putL_ne (by decide +kernel), putL_same]
theorem p_end {y : V} : putK (mdV fa M pa ba en) (kS "end") (y) = mdV fa M pa ba y := by
  rw [putL_eq md_nd]
  unfold mdV
  rw [putL_ne (by decide +kernel), putL_ne (by decide +kernel), putL_ne (by decide +kernel), putL_ne (by decide +kernel), putL_ne (by decide +kernel), putL_ne (by decide +kernel), putL_ne (by decide +kernel), putL_ne (by decide +kernel), putL_ne (by decide +kernel), putL_ne (by decide +kernel), putL_same]
variable {H : Hp} {m : Addr}
theorem md_len : (mdV fa M pa ba en).length < sizeLine := by
  show 11 < sizeLine
  decide
theorem dg_figures (h : H m = some (.dK (mdV fa M pa ba en))) : DGet H m (.str (Str.ofString "figures")) (some (.ref fa)) := by
  have := DGet.k (k := kS "figures") h
  rw [g_figures] at this
  exact this
theorem dg_price (h : H m = some (.dK (mdV fa M pa ba en))) : DGet H m (.str (Str.ofString "price")) (some (.int M.price)) := by
  have := DGet.k (k := kS "price") h
  rw [g_price] at this
  exact this
theorem dp_price {y : Int} (h : H m = some (.dK (mdV fa M pa ba en))) : DPut H m (.str (Str.ofString "price")) (.int y) (upd H m (.dK (mdV fa { M with price := y } pa ba en))) := by
  have := DPut.k (k := kS "price") (v := .int y) h md_len
  rw [p_price] at this
  exact this
theorem dg_begin (h : H m = some (.dK (mdV fa M pa ba en))) : DGet H m (.str (Str.ofString "begin")) (some (.int M.begin_)) := by
  have := DGet.k (k := kS "begin") h
  rw [g_begin] at this
  exact this
theorem dp_begin {y : Int} (h : H m = some (.dK (mdV fa M pa ba en))) : DPut H m (.str (Str.ofString "begin")) (.int y) (upd H m (.dK (mdV fa { M with begin_ := y } pa ba en))) := by
  have := DPut.k (k := kS "begin") (v := .int y) h md_len
  rw [p_begin] at this
  exact this
theorem dg_day (h : H m = some (.dK (mdV fa M pa ba en))) : DGet H m (.str (Str.ofString "day")) (some (.int M.day)) := by
  have := DGet.k (k := kS "day") h
  rw [g_day] at this
  exact this
theorem dp_day {y : Int} (h : H m = some (.dK (mdV fa M pa ba en))) : DPut H m (.str (Str.ofString "day")) (.int y) (upd H m (.dK (mdV fa { M with day := y } pa ba en))) := by
  have := DPut.k (k := kS "day") (v := .int y) h md_len
  rw [p_day] at this
  exact this
theorem dg_due (h : H m = some (.dK (mdV fa M pa ba en))) : DGet H m (.str (Str.ofString "due")) (some (.int M.due)) := by
  have := DGet.k (k := kS "due") h
  rw [g_due] at this
  exact this
theorem dp_due {y : Int} (h : H m = some (.dK (mdV fa M pa ba en))) : DPut H m (.str (Str.ofString "due")) (.int y) (upd H m (.dK (mdV fa { M with due := y } pa ba en))) := by
  have := DPut.k (k := kS "due") (v := .int y) h md_len
  rw [p_due] at this
  exact this
theorem dg_many (h : H m = some (.dK (mdV fa M pa ba en))) : DGet H m (.str (Str.ofString "many")) (some (.int M.many)) := by
  have := DGet.k (k := kS "many") h
  rw [g_many] at this
  exact this
theorem dp_many {y : Int} (h : H m = some (.dK (mdV fa M pa ba en))) : DPut H m (.str (Str.ofString "many")) (.int y) (upd H m (.dK (mdV fa { M with many := y } pa ba en))) := by
  have := DPut.k (k := kS "many") (v := .int y) h md_len
  rw [p_many] at this
  exact this
theorem dg_missed (h : H m = some (.dK (mdV fa M pa ba en))) : DGet H m (.str (Str.ofString "missed")) (some (.int M.missed)) := by
  have := DGet.k (k := kS "missed") h
  rw [g_missed] at this
  exact this
theorem dp_missed {y : Int} (h : H m = some (.dK (mdV fa M pa ba en))) : DPut H m (.str (Str.ofString "missed")) (.int y) (upd H m (.dK (mdV fa { M with missed := y } pa ba en))) := by
  have := DPut.k (k := kS "missed") (v := .int y) h md_len
  rw [p_missed] at this
  exact this
theorem dg_pays (h : H m = some (.dK (mdV fa M pa ba en))) : DGet H m (.str (Str.ofString "pays")) (some (.ref pa)) := by
  have := DGet.k (k := kS "pays") h
  rw [g_pays] at this
  exact this
theorem dp_pays {y : Addr} (h : H m = some (.dK (mdV fa M pa ba en))) : DPut H m (.str (Str.ofString "pays")) (.ref y) (upd H m (.dK (mdV fa M y ba en))) := by
  have := DPut.k (k := kS "pays") (v := .ref y) h md_len
  rw [p_pays] at this
  exact this
theorem dg_backs (h : H m = some (.dK (mdV fa M pa ba en))) : DGet H m (.str (Str.ofString "backs")) (some (.ref ba)) := by
  have := DGet.k (k := kS "backs") h
  rw [g_backs] at this
  exact this
theorem dp_backs {y : Addr} (h : H m = some (.dK (mdV fa M pa ba en))) : DPut H m (.str (Str.ofString "backs")) (.ref y) (upd H m (.dK (mdV fa M pa y en))) := by
  have := DPut.k (k := kS "backs") (v := .ref y) h md_len
  rw [p_backs] at this
  exact this
theorem dg_kept (h : H m = some (.dK (mdV fa M pa ba en))) : DGet H m (.str (Str.ofString "kept")) (some (.int M.kept)) := by
  have := DGet.k (k := kS "kept") h
  rw [g_kept] at this
  exact this
theorem dp_kept {y : Int} (h : H m = some (.dK (mdV fa M pa ba en))) : DPut H m (.str (Str.ofString "kept")) (.int y) (upd H m (.dK (mdV fa { M with kept := y } pa ba en))) := by
  have := DPut.k (k := kS "kept") (v := .int y) h md_len
  rw [p_kept] at this
  exact this
theorem dg_end (h : H m = some (.dK (mdV fa M pa ba en))) : DGet H m (.str (Str.ofString "end")) (some (en)) := by
  have := DGet.k (k := kS "end") h
  rw [g_end] at this
  exact this
theorem dp_end {y : V} (h : H m = some (.dK (mdV fa M pa ba en))) : DPut H m (.str (Str.ofString "end")) (y) (upd H m (.dK (mdV fa M pa ba y))) := by
  have := DPut.k (k := kS "end") (v := y) h md_len
  rw [p_end] at this
  exact this
theorem merge_cons {kvs r : List (Key × V)} {k : Key} {v : V} : mergeK kvs ((k, v) :: r) = mergeK (putK kvs k v) r := rfl
theorem merge_nil {kvs : List (Key × V)} : mergeK kvs [] = kvs := rfl
theorem merge_md {fa2 pa2 ba2 : Addr} {M2 : Md} {en2 : V} : mergeK (mdV fa M pa ba en) (mdV fa2 M2 pa2 ba2 en2) = mdV fa2 M2 pa2 ba2 en2 := by
  have h : mergeK (mdV fa M pa ba en) [(kS "figures", .ref fa2), (kS "price", .int M2.price), (kS "begin", .int M2.begin_), (kS "day", .int M2.day), (kS "due", .int M2.due), (kS "many", .int M2.many), (kS "missed", .int M2.missed), (kS "pays", .ref pa2), (kS "backs", .ref ba2), (kS "kept", .int M2.kept), (kS "end", en2)] = mdV fa2 { M with price := M2.price, begin_ := M2.begin_, day := M2.day, due := M2.due, many := M2.many, missed := M2.missed, kept := M2.kept } pa2 ba2 en2 := by
    rw [merge_cons, p_figures, merge_cons, p_price, merge_cons, p_begin, merge_cons, p_day, merge_cons, p_due, merge_cons, p_many, merge_cons, p_missed, merge_cons, p_pays, merge_cons, p_backs, merge_cons, p_kept, merge_cons, p_end, merge_nil]
  exact h
end
def pbF (r : Addr) (M : Md) (ct pi pk : Addr) : List (Str × V) := [("rule", .ref r), ("asked", .int M.price), ("begin", .int M.begin_), ("passed", .int M.day), ("course", .ref ct), ("paid_in", .ref pi), ("paid_back", .ref pk)]
section
variable {r ct pi pk : Addr} {M : Md}
theorem b1 : (pbF r M ct pi pk).lookup ("rule" : Str) = some (.ref r) := by
  unfold pbF
  rw [lk_eq]
theorem b2 : (pbF r M ct pi pk).lookup ("asked" : Str) = some (.int M.price) := by
  unfold pbF
  rw [lk_ne (by decide +kernel), lk_eq]
theorem b3 : (pbF r M ct pi pk).lookup ("begin" : Str) = some (.int M.begin_) := by
  unfold pbF
  rw [lk_ne (by decide +kernel), lk_ne (by decide +kernel), lk_eq]
theorem b4 : (pbF r M ct pi pk).lookup ("passed" : Str) = some (.int M.day) := by
  unfold pbF
  rw [lk_ne (by decide +kernel), lk_ne (by decide +kernel), lk_ne (by decide +kernel), lk_eq]
theorem b5 : (pbF r M ct pi pk).lookup ("course" : Str) = some (.ref ct) := by
  unfold pbF
  rw [lk_ne (by decide +kernel), lk_ne (by decide +kernel), lk_ne (by decide +kernel), lk_ne (by decide +kernel), lk_eq]
theorem b6 : (pbF r M ct pi pk).lookup ("paid_in" : Str) = some (.ref pi) := by
  unfold pbF
  rw [lk_ne (by decide +kernel), lk_ne (by decide +kernel), lk_ne (by decide +kernel), lk_ne (by decide +kernel), lk_ne (by decide +kernel), lk_eq]
theorem b7 : (pbF r M ct pi pk).lookup ("paid_back" : Str) = some (.ref pk) := by
  unfold pbF
  rw [lk_ne (by decide +kernel), lk_ne (by decide +kernel), lk_ne (by decide +kernel), lk_ne (by decide +kernel), lk_ne (by decide +kernel), lk_ne (by decide +kernel), lk_eq]
theorem b0 {x : Str} (h : x ∉ (["rule", "asked", "begin", "passed", "course", "paid_in", "paid_back"] : List Str)) : (pbF r M ct pi pk).lookup x = none := by
  simp only [List.mem_cons, List.not_mem_nil, or_false, not_or] at h
  obtain ⟨h0, h1, h2, h3, h4, h5, h6⟩ := h
  unfold pbF
  rw [lk_ne h0, lk_ne h1, lk_ne h2, lk_ne h3, lk_ne h4, lk_ne h5, lk_ne h6]
  rfl
theorem f1 {y : Addr} : putF "rule" (.ref y) (pbF r M ct pi pk) = pbF y M ct pi pk := by
  unfold pbF
  rw [putF_same]
theorem f2 {y : Int} : putF "asked" (.int y) (pbF r M ct pi pk) = pbF r { M with price := y } ct pi pk := by
  unfold pbF
  rw [putF_ne (by decide +kernel), putF_same]
theorem f3 {y : Int} : putF "begin" (.int y) (pbF r M ct pi pk) = pbF r { M with begin_ := y } ct pi pk := by
  unfold pbF
  rw [putF_ne (by decide +kernel), putF_ne (by decide +kernel), putF_same]
theorem f4 {y : Int} : putF "passed" (.int y) (pbF r M ct pi pk) = pbF r { M with day := y } ct pi pk := by
  unfold pbF
  rw [putF_ne (by decide +kernel), putF_ne (by decide +kernel), putF_ne (by decide +kernel), putF_same]
theorem f5 {y : Addr} : putF "course" (.ref y) (pbF r M ct pi pk) = pbF r M y pi pk := by
  unfold pbF
  rw [putF_ne (by decide +kernel), putF_ne (by decide +kernel), putF_ne (by decide +kernel), putF_ne (by decide +kernel), putF_same]
theorem f6 {y : Addr} : putF "paid_in" (.ref y) (pbF r M ct pi pk) = pbF r M ct y pk := by
  unfold pbF
  rw [putF_ne (by decide +kernel), putF_ne (by decide +kernel), putF_ne (by decide +kernel), putF_ne (by decide +kernel), putF_ne (by decide +kernel), putF_same]
theorem f7 {y : Addr} : putF "paid_back" (.ref y) (pbF r M ct pi pk) = pbF r M ct pi y := by
  unfold pbF
  rw [putF_ne (by decide +kernel), putF_ne (by decide +kernel), putF_ne (by decide +kernel), putF_ne (by decide +kernel), putF_ne (by decide +kernel), putF_ne (by decide +kernel), putF_same]
end
/-- the classes of the text -/
structure Cl where
  r : Addr
  p : Addr
  w : Addr
  n : Addr
  i : Addr
  o1 : Addr
  o2 : Addr
  o3 : Addr
  o4 : Addr
  o5 : Addr
  o6 : Addr
/-- what is to be known of a class of errors -/
structure TErr (K : PySem.W.Frag) (mg : Str → Option Value) (x : Str) (C : Addr) : Prop where
  g : mg x = some (.ref C)
  xc : PySem.W.excIn K C [.type "ValueError", .type "Exception", .type "BaseException", .type "object"] "ValueError.__new__" = true
  kp : PySem.W.keepIn K (.ref C) = true
  sb : PySem.W.subIn K (.ref C) (.type "BaseException") = some true
  ty : PySem.W.typeIn K (.ref C) = some (.type "type")
  ec : ExcC K C
structure TErrs (K : PySem.W.Frag) (mg : Str → Option Value) (C : Cl) : Prop where
  n : TErr K mg "NoDay" C.n
  i : TErr K mg "Idle" C.i
  w : mg "WareError" = some (.ref C.w)
  xn : PySem.W.exmOne K (.ref C.n) (.ref C.w) = some true
  xi : PySem.W.exmOne K (.ref C.i) (.ref C.w) = some true
  nn : PySem.W.kitOne K (.ref C.n) (.ref C.n) = some true
  ni : PySem.W.kitOne K (.ref C.n) (.ref C.i) = some false
  nv : PySem.W.kitOne K (.ref C.n) (.type "ValueError") = some true
  no : PySem.W.kitAny K (.ref C.n) [.ref C.o1, .ref C.o2, .ref C.o3, .ref C.o4, .ref C.o5, .ref C.o6] = some false
  iN : PySem.W.kitOne K (.ref C.i) (.ref C.n) = some false
  ii : PySem.W.kitOne K (.ref C.i) (.ref C.i) = some true
  iv : PySem.W.kitOne K (.ref C.i) (.type "ValueError") = some true
  io : PySem.W.kitAny K (.ref C.i) [.ref C.o1, .ref C.o2, .ref C.o3, .ref C.o4, .ref C.o5, .ref C.o6] = some false
  g1 : mg "BadClause" = some (.ref C.o1)
  g2 : mg "BadRow" = some (.ref C.o2)
  g3 : mg "BadRule" = some (.ref C.o3)
  g4 : mg "NoEntry" = some (.ref C.o4)
  g5 : mg "NoHouse" = some (.ref C.o5)
  g6 : mg "NoWare" = some (.ref C.o6)
def EnAt (K : PySem.W.Frag) (H : Hp) (en : V) : Option (Wd × Int) → Prop
  | none => en = .non
  | some (w, d) => ∃ t, en = .ref t ∧ SqT K H t [.str (wS w), .int d]
/-- the law's dict, whatever its end is -/
def MdC (H : Hp) (m fa : Addr) (M : Md) (pa ba : Addr) (en : V) : Prop := H m = some (.dK (mdV fa M pa ba en)) ∧ RowsL H pa M.pays ∧ RowsL H ba M.backs
def MdAt (K : PySem.W.Frag) (H : Hp) (m fa : Addr) (M : Md) (pa ba : Addr) : Prop := ∃ en, MdC H m fa M pa ba en ∧ EnAt K H en M.en
def CsM (M : Md) (c : Cs) : Prop := match M.en with
  | none => c = ⟨.st, M.due - M.begin_, M.many, M.missed⟩
  | some (w, d) => c.w = w ∧ c.d = d - M.begin_
/-- the program's ware, whatever its course is -/
def PbC (K : PySem.W.Frag) (C : Cl) (H : Hp) (x r pi pk : Addr) (f : Fg) (M : Md) (c : Cs) : Prop := ∃ dx ct, H x = some (.ins C.p dx (pbF r M ct pi pk)) ∧ RuleAt K H C.r r f ∧ StAt K H ct c ∧ RowsL H pi M.pays ∧ RowsL H pk M.backs
def PbAt (K : PySem.W.Frag) (C : Cl) (H : Hp) (x r pi pk : Addr) (f : Fg) (M : Md) : Prop := ∃ c, PbC K C H x r pi pk f M c ∧ CsM M c
def FgAt (K : PySem.W.Frag) (H : Hp) (t : Addr) (f : Fg) : Prop := ∃ kt, SqT K H t [.int f.p, .int f.s, .int f.g, .bl f.l, .int f.m, .ref kt, .int f.fi, .int f.fa, .int f.ba] ∧ SqT K H kt (f.ks.map V.int)
section
variable {K : PySem.W.Frag} {C : Cl} {z : List Addr} {H H1 : Hp} {m fa pa ba x r pi pk t : Addr} {M : Md} {f : Fg}
theorem EnAt.fr {en : V} {e : Option (Wd × Int)} (h : EnAt K H en e) (fr : Fr z H H1) (mu : Mu H z) : EnAt K H1 en e := by
  match e, h with
  | none, h => exact h
  | some (w, d), ⟨t, e, h⟩ => exact ⟨t, e, fr.tup mu h⟩
theorem EnAt.same {en : V} {e : Option (Wd × Int)} (h : EnAt K H en e) (s : Same H H1) : EnAt K H1 en e := by
  match e, h with
  | none, h => exact h
  | some (w, d), ⟨t, e, h⟩ => exact ⟨t, e, seqT_same s h⟩
theorem MdC.same {en : V} (h : MdC H m fa M pa ba en) (s : Same H H1) : MdC H1 m fa M pa ba en := ⟨s _ _ h.1, h.2.1.same s, h.2.2.same s⟩
theorem MdC.fr {en : V} (h : MdC H m fa M pa ba en) (t : Fr z H H1) (mu : Mu H z) (n1 : m ∉ z) (n2 : pa ∉ z) (n3 : ba ∉ z) : MdC H1 m fa M pa ba en := ⟨t _ _ n1 h.1, t.rowsL mu n2 h.2.1, t.rowsL mu n3 h.2.2⟩
theorem MdAt.same (h : MdAt K H m fa M pa ba) (s : Same H H1) : MdAt K H1 m fa M pa ba := by
  obtain ⟨en, h1, h4⟩ := h
  exact ⟨en, h1.same s, h4.same s⟩
theorem MdAt.fr (h : MdAt K H m fa M pa ba) (t : Fr z H H1) (mu : Mu H z) (n1 : m ∉ z) (n2 : pa ∉ z) (n3 : ba ∉ z) : MdAt K H1 m fa M pa ba := by
  obtain ⟨en, h1, h4⟩ := h
  exact ⟨en, h1.fr t mu n1 n2 n3, h4.fr t mu⟩
theorem md_mu {en : V} (h : H m = some (.dK (mdV fa M pa ba en))) : Mu H [m] := fun c hc => by
  rw [List.mem_singleton.mp hc]
  exact ⟨_, h, trivial⟩
theorem md_ne {en : V} {a : Addr} {l : List Pr} (h : H m = some (.dK (mdV fa M pa ba en))) (hl : RowsL H a l) : a ∉ [m] := fun e => by
  obtain ⟨L, e1, _⟩ := hl
  rw [List.mem_singleton.mp e, h] at e1
  cases e1
/-- the dict changed in its place -/
theorem MdC.put {en en' : V} {fa' pa' ba' : Addr} {M' : Md} (h : H m = some (.dK (mdV fa M pa ba en))) (h1 : RowsL H pa' M'.pays) (h2 : RowsL H ba' M'.backs) : MdC (upd H m (.dK (mdV fa' M' pa' ba' en'))) m fa' M' pa' ba' en' := by
  have fr : Fr [m] H (upd H m (.dK (mdV fa' M' pa' ba' en'))) := Fr.upd (List.mem_singleton_self m)
  exact ⟨upd_same, fr.rowsL (md_mu h) (md_ne h h1) h1, fr.rowsL (md_mu h) (md_ne h h2) h2⟩
theorem but_fr {b : Addr} (t : But b H H1) : Fr [b] H H1 := Fr.but t (List.mem_singleton_self b)
theorem fr_but {b : Addr} (t : Fr [b] H H1) : But b H H1 := fun c o n h => t c o (fun e => n (List.mem_singleton.mp e)) h
theorem FgAt.same (h : FgAt K H t f) (s : Same H H1) : FgAt K H1 t f := by
  obtain ⟨kt, h1, h2⟩ := h
  exact ⟨kt, seqT_same s h1, seqT_same s h2⟩
theorem FgAt.fr (h : FgAt K H t f) (s : Fr z H H1) (mu : Mu H z) : FgAt K H1 t f := by
  obtain ⟨kt, h1, h2⟩ := h
  exact ⟨kt, s.tup mu h1, s.tup mu h2⟩
theorem PbC.same {c : Cs} (h : PbC K C H x r pi pk f M c) (s : Same H H1) : PbC K C H1 x r pi pk f M c := by
  obtain ⟨dx, ct, h1, h2, h3, h5, h6⟩ := h
  exact ⟨dx, ct, s _ _ h1, h2.same s, h3.same s, h5.same s, h6.same s⟩
theorem PbC.fr {c : Cs} (h : PbC K C H x r pi pk f M c) (t : Fr z H H1) (mu : Mu H z) (n1 : x ∉ z) (n2 : r ∉ z) (n3 : pi ∉ z) (n4 : pk ∉ z) : PbC K C H1 x r pi pk f M c := by
  obtain ⟨dx, ct, h1, h2, h3, h5, h6⟩ := h
  exact ⟨dx, ct, t _ _ n1 h1, t.rule mu n2 h2, t.tup mu h3, t.rowsL mu n3 h5, t.rowsL mu n4 h6⟩
theorem PbAt.same (h : PbAt K C H x r pi pk f M) (s : Same H H1) : PbAt K C H1 x r pi pk f M := by
  obtain ⟨c, h1, h2⟩ := h
  exact ⟨c, h1.same s, h2⟩
theorem PbAt.fr (h : PbAt K C H x r pi pk f M) (t : Fr z H H1) (mu : Mu H z) (n1 : x ∉ z) (n2 : r ∉ z) (n3 : pi ∉ z) (n4 : pk ∉ z) : PbAt K C H1 x r pi pk f M := by
  obtain ⟨c, h1, h2⟩ := h
  exact ⟨c, h1.fr t mu n1 n2 n3 n4, h2⟩
theorem rule_ne {dx r' ct : Addr} (h : RuleAt K H C.r r f) (hx : H x = some (.ins C.p dx (pbF r' M ct pi pk))) : r ≠ x := fun e => by
  obtain ⟨d2, kt, h1, _⟩ := h
  rw [e, hx] at h1
  have := HO.ins.inj (Option.some.inj h1)
  have l : (7 : Nat) = 9 := congrArg List.length this.2.2
  exact absurd l (by decide)
theorem PbC.put {dx ct t r0 : Addr} {M' : Md} {c' : Cs} (h1 : H x = some (.ins C.p dx (pbF r0 M ct pi pk))) (hR : RuleAt K H C.r r f) (ht : StAt K H t c') (h5 : RowsL H pi M'.pays) (h6 : RowsL H pk M'.backs) : PbC K C (upd H x (.ins C.p dx (pbF r M' t pi pk))) x r pi pk f M' c' := by
  have mu : Mu H [x] := fun c hc => by
    rw [List.mem_singleton.mp hc]
    exact ⟨_, h1, trivial⟩
  have fr : Fr [x] H (upd H x (.ins C.p dx (pbF r M' t pi pk))) := Fr.upd (List.mem_singleton_self x)
  have nl : ∀ {a : Addr} {l : List Pr}, RowsL H a l → a ∉ [x] := fun h e => by
    obtain ⟨L, e1, _⟩ := h
    rw [List.mem_singleton.mp e, h1] at e1
    cases e1
  exact ⟨dx, t, upd_same, fr.rule mu (fun e => rule_ne hR h1 (List.mem_singleton.mp e)) hR, fr.tup mu ht, fr.rowsL mu (nl h5) h5, fr.rowsL mu (nl h6) h6⟩
theorem PbC.eq {M2 : Md} {c : Cs} (h : PbC K C H x r pi pk f M c) (e1 : M.price = M2.price) (e2 : M.begin_ = M2.begin_) (e3 : M.day = M2.day) (e4 : M.pays = M2.pays) (e5 : M.backs = M2.backs) : PbC K C H x r pi pk f M2 c := by
  obtain ⟨dx, ct, h1, h2, h3, h5, h6⟩ := h
  refine ⟨dx, ct, ?_, h2, h3, e4 ▸ h5, e5 ▸ h6⟩
  rw [h1]
  unfold pbF
  rw [e1, e2, e3]
theorem butU {o : HO} : But x H (upd H x o) := But.upd
theorem but_none {H2 : Hp} {a : Addr} (t : But x H H2) (hx : H x ≠ none) (h2 : H2 x ≠ none) (n : H2 a = none) : H a = none := by
  cases e : H a with
  | none => rfl
  | some o =>
    by_cases ax : a = x
    · rw [ax] at n
      exact absurd n h2
    · rw [t a o ax e] at n
      cases n
end
theorem hu1_of {n : Nat} (h : n + 64 < cLine) : n + 1 < cLine := by omega
structure TPutby (K : PySem.W.Frag) (mg : Str → Option Value) (C : Addr) : Prop where
  cl : Cls K C
  n1 : NoAttr K C "rule"
  n2 : NoAttr K C "asked"
  n3 : NoAttr K C "begin"
  n4 : NoAttr K C "passed"
  n5 : NoAttr K C "course"
  n6 : NoAttr K C "paid_in"
  n7 : NoAttr K C "paid_back"
theorem kit_me {K : PySem.W.Frag} {t : Addr} : PySem.W.kitOne K (.ref t) (.ref t) = some true := by
  unfold PySem.W.kitOne
  rw [if_pos (beq_self_eq_true _)]
theorem kit_ref {K : PySem.W.Frag} {t C : Addr} {b : Bool} (ne : t ≠ C) (hc : PySem.W.isClsIn K C = true) (ht : PySem.W.typeIn K (.ref C) = some (.type "type")) (hs : PySem.W.subIn K (.ref t) (.ref C) = some b) : PySem.W.kitOne K (.ref t) (.ref C) = some b := by
  have h1 : (Value.ref t == Value.ref C) = false := beq_eq_false_iff_ne.mpr fun e => ne (Value.ref.inj e)
  have h2 : ((PySem.W.clsIn K C).isSome && PySem.W.typeIn K (.ref C) == some (.type "type")) = true := by
    rw [show (PySem.W.clsIn K C).isSome = true from hc, ht]
    rfl
  unfold PySem.W.kitOne
  rw [h1, if_neg (by decide)]
  unfold PySem.W.kitCls
  dsimp only
  rw [if_pos h2]
  exact hs
theorem kit_ve {K : PySem.W.Frag} {t : Addr} {b : Bool} (hs : PySem.W.subIn K (.ref t) (.type "ValueError") = some b) : PySem.W.kitOne K (.ref t) (.type "ValueError") = some b := by
  unfold PySem.W.kitOne
  rw [show (Value.ref t == Value.type "ValueError") = false from rfl, if_neg (by decide)]
  unfold PySem.W.kitCls
  dsimp only
  rw [if_pos (by decide +kernel)]
  exact hs
theorem kit_six {K : PySem.W.Frag} {t a b c d e f : Addr} (h1 : PySem.W.kitOne K (.ref t) (.ref a) = some false) (h2 : PySem.W.kitOne K (.ref t) (.ref b) = some false) (h3 : PySem.W.kitOne K (.ref t) (.ref c) = some false) (h4 : PySem.W.kitOne K (.ref t) (.ref d) = some false) (h5 : PySem.W.kitOne K (.ref t) (.ref e) = some false) (h6 : PySem.W.kitOne K (.ref t) (.ref f) = some false) :
    PySem.W.kitAny K (.ref t) [.ref a, .ref b, .ref c, .ref d, .ref e, .ref f] = some false := by
  unfold PySem.W.kitAny
  rw [h1]
  unfold PySem.W.kitAny
  rw [h2]
  unfold PySem.W.kitAny
  rw [h3]
  unfold PySem.W.kitAny
  rw [h4]
  unfold PySem.W.kitAny
  rw [h5]
  unfold PySem.W.kitAny
  rw [h6]
  rfl
theorem passN_shift {s g b : Int} : ∀ (n : Nat) (d p m day : Int), passN s g n (d - b) p m (day - b) = ⟨(passN s g n d p m day).w, (passN s g n d p m day).d - b, (passN s g n d p m day).p, (passN s g n d p m day).m⟩
  | 0, d, p, m, day => by
    unfold passN
    by_cases h : d + g < day
    · rw [if_pos h, if_pos (by omega)]
      show (⟨.go, d - b + g + 1, p, m⟩ : Cs) = ⟨.go, d + g + 1 - b, p, m⟩
      congr 1
      omega
    · rw [if_neg h, if_neg (by omega)]
  | n + 1, d, p, m, day => by
    rw [passN, passN]
    by_cases h : d + g < day
    · rw [if_pos h, if_pos (by omega), ← passN_shift n (d + s) p (m + 1) day]
      congr 1
      omega
    · rw [if_neg h, if_neg (by omega)]
theorem csm_none {M : Md} {c : Cs} (e : M.en = none) (h : CsM M c) : c = ⟨.st, M.due - M.begin_, M.many, M.missed⟩ := by
  unfold CsM at h
  rw [e] at h
  exact h
theorem csm_some {M : Md} {c : Cs} {w : Wd} {d : Int} (e : M.en = some (w, d)) (h : CsM M c) : c.w = w ∧ c.d = d - M.begin_ := by
  unfold CsM at h
  rw [e] at h
  exact h
theorem csm_mk {M : Md} {c : Cs} {w : Wd} {d : Int} (e : M.en = some (w, d)) (h1 : c.w = w) (h2 : c.d = d - M.begin_) : CsM M c := by
  unfold CsM
  rw [e]
  exact ⟨h1, h2⟩
theorem csm_mk0 {M : Md} {c : Cs} (e : M.en = none) (h : c = ⟨.st, M.due - M.begin_, M.many, M.missed⟩) : CsM M c := by
  unfold CsM
  rw [e]
  exact h
theorem csm_m {f : Fg} {M : Md} {c : Cs} (ok : M.Ok f) (e : M.en = none) (h : CsM M c) : c.m ≤ f.m := by
  rw [csm_none e h]
  exact (ok.st e).2.2.2.2.2.1
/-- the course by the morning of a day -/
theorem to_cs {f : Fg} {M : Md} {c : Cs} {D : Int} (e : M.en = none) (h : CsM M c) : passT f.s f.g f.m c (D - M.begin_) = ⟨(passN f.s f.g (f.m - M.missed).toNat M.due M.many M.missed D).w, (passN f.s f.g (f.m - M.missed).toNat M.due M.many M.missed D).d - M.begin_, (passN f.s f.g (f.m - M.missed).toNat M.due M.many M.missed D).p, (passN f.s f.g (f.m - M.missed).toNat M.due M.many M.missed D).m⟩ := by
  rw [csm_none e h]
  exact passN_shift _ _ _ _ _
theorem to_en {f : Fg} {M : Md} {D : Int} (fo : f.Ok) (e : M.en = none) : ((toM f M D).en = none ↔ (passN f.s f.g (f.m - M.missed).toNat M.due M.many M.missed D).w = .st) ∧ ((toM f M D).en ≠ none ↔ (passN f.s f.g (f.m - M.missed).toNat M.due M.many M.missed D).w = .go) := by
  obtain ⟨_, _, _, c4⟩ := passN_bnd (g := f.g) fo.figs.s0 (f.m - M.missed).toNat M.due M.many M.missed D
  cases hc : passN f.s f.g (f.m - M.missed).toNat M.due M.many M.missed D with
  | mk w d p m =>
  rw [hc] at c4
  rcases c4 with h | h
  · have h' : w = .st := h
    subst h'
    rw [to_st e hc]
    exact ⟨⟨fun _ => rfl, fun _ => e⟩, ⟨fun z => absurd e z, fun z => nomatch z⟩⟩
  · have h' : w = .go := h
    subst h'
    rw [to_go e hc]
    exact ⟨⟨fun z => (nomatch z), fun z => (nomatch z)⟩, ⟨fun _ => rfl, fun _ z => (nomatch z)⟩⟩
theorem en_or (M : Md) : M.en = none ∨ ∃ w d, M.en = some (w, d) := by
  cases e : M.en with
  | none => exact .inl rfl
  | some we => exact .inr ⟨we.1, we.2, rfl⟩
theorem toM_day {f : Fg} {M : Md} {x D : Int} : toM f { M with day := x } D = toM f M D := by
  unfold toM
  rfl
theorem to_stay {f : Fg} {M : Md} {D : Int} (e : M.en = none) (h : D ≤ M.due + f.g) : toM f M D = { M with day := D } := by
  rw [to_st (d := M.due) (p := M.many) (m := M.missed) e (passN_st (by omega))]
theorem to_miss {f : Fg} {M : Md} {D x : Int} (fo : f.Ok) (e : M.en = none) (hm : M.missed < f.m) (h : M.due + f.g < D) : toM f { M with day := x, missed := M.missed + 1, due := M.due + f.s } D = toM f M D := by
  have h1 : passN f.s f.g (f.m - M.missed).toNat M.due M.many M.missed D = passN f.s f.g (f.m - (M.missed + 1)).toNat (M.due + f.s) M.many (M.missed + 1) D := by
    rw [show (f.m - M.missed).toNat = (f.m - (M.missed + 1)).toNat + 1 by omega, passN_on h]
  obtain ⟨_, _, _, c4⟩ := passN_bnd (g := f.g) fo.figs.s0 (f.m - (M.missed + 1)).toNat (M.due + f.s) M.many (M.missed + 1) D
  cases hc : passN f.s f.g (f.m - (M.missed + 1)).toNat (M.due + f.s) M.many (M.missed + 1) D with
  | mk w d p m =>
  rw [hc] at c4
  have h2 := h1.trans hc
  rcases c4 with c | c
  · have c' : w = .st := c
    subst c'
    exact (to_st (M := { M with day := x, missed := M.missed + 1, due := M.due + f.s }) e hc).trans (to_st e h2).symm
  · have c' : w = .go := c
    subst c'
    exact (to_go (M := { M with day := x, missed := M.missed + 1, due := M.due + f.s }) e hc).trans (to_go e h2).symm
theorem to_gone {f : Fg} {M : Md} {D : Int} (e : M.en = none) (hm : M.missed = f.m) (h : M.due + f.g < D) : toM f M D = endM .go (M.due + f.g + 1) (wholeK M (keptV f (keepAt f M.many) true)) { M with day := D } := by
  have hc : passN f.s f.g (f.m - M.missed).toNat M.due M.many M.missed D = ⟨.go, M.due + f.g + 1, M.many, M.missed⟩ := by
    rw [hm, Int.sub_self]
    exact passN_go h
  rw [to_go e hc]
  have e2 : M.due + f.g + 1 - f.g - 1 = M.due := by omega
  unfold endM wholeK
  dsimp only
  rw [e2]
theorem to_self {f : Fg} {M : Md} (ok : M.Ok f) : toM f M M.day = M := by
  rcases en_or M with e | ⟨w, d, e⟩
  · exact to_stay e (ok.st e).2.2.2.2.2.2
  · rw [to_over e]
/-- the last day on which the next part may be paid -/
def lastN (f : Fg) (M : Md) : Int := M.due + (f.m - M.missed) * f.s + f.g
theorem to_one {f : Fg} {M : Md} (fo : f.Ok) (ok : M.Ok f) (e : M.en = none) : ((toM f M (M.day + 1)).en = none ∧ lastN f (toM f M (M.day + 1)) = lastN f M ∧ (toM f M (M.day + 1)).day = M.day + 1) ∨ (toM f M (M.day + 1)).en = some (.go, lastN f M + 1) := by
  obtain ⟨k0, bb0, s0, m0, i0, i1, d0⟩ := ok.st e
  by_cases h : M.day + 1 ≤ M.due + f.g
  · rw [to_stay e h]
    exact .inl ⟨e, rfl, rfl⟩
  · have hd : M.day = M.due + f.g := by omega
    by_cases hm : M.missed = f.m
    · rw [to_gone e hm (by omega)]
      refine .inr ?_
      show some (Wd.go, M.due + f.g + 1) = _
      unfold lastN
      rw [hm, Int.sub_self, Int.zero_mul, Int.add_zero]
    · have s1 := fo.figs.s0
      have h1 := to_miss (f := f) (M := M) (x := M.day) (D := M.day + 1) fo e (by omega) (by omega)
      rw [← h1, to_stay (M := { M with day := M.day, missed := M.missed + 1, due := M.due + f.s }) e (by show M.day + 1 ≤ M.due + f.s + f.g; omega)]
      refine .inl ⟨e, ?_, rfl⟩
      show M.due + f.s + (f.m - (M.missed + 1)) * f.s + f.g = M.due + (f.m - M.missed) * f.s + f.g
      have : (f.m - (M.missed + 1)) * f.s = (f.m - M.missed) * f.s - f.s := by
        rw [show f.m - (M.missed + 1) = (f.m - M.missed) - 1 by omega, Int.sub_mul, Int.one_mul]
      omega
theorem last_day_le {f : Fg} {M : Md} (fo : f.Ok) (ok : M.Ok f) (e : M.en = none) : M.day ≤ lastN f M := by
  obtain ⟨k0, bb0, s0, m0, i0, i1, d0⟩ := ok.st e
  have : 0 ≤ (f.m - M.missed) * f.s := Int.mul_nonneg (by omega) (by have := fo.figs.s0; omega)
  unfold lastN
  omega
def topS (i : Nat) : Stmt := PySem.Challenge.pw_partwares_k44_wares_by_turns.main.body.getD i (.Pass ⟨0, 0, 0, 0⟩)
section
variable {P : Program} {w : World} {K : PySem.W.Frag} {mg : Str → Option Value} {base : Heap}
/-! ### share_up -/
abbrev s_share_up : Stmt := topS 19
abbrev N_share_up : List Str := ["pence", "percent"]
theorem sc_share_up : FnScope N_share_up ["pence", "percent"] (defScope s_share_up) := ⟨rfl, rfl, rfl, by decide +kernel, rfl, by decide +kernel, by decide +kernel⟩
def sp_share_up (K : PySem.W.Frag) : Sp := fun vs H Q _ => ∃ p c : Int, vs = [.int p, .int c] ∧ 0 ≤ p ∧ p ≤ 1000000000 ∧ 0 ≤ c ∧ c ≤ 100 ∧ Q (.int ((p * c + 99) / 100)) H
theorem ok_share_up {f : Addr} {fd : FuncData} (F : Fun K "share_up" "share_up" s_share_up f fd) (g : mg "share_up" = some (.ref f)) (bd : Binds K fd ["pence", "percent"] []) : CF P w K mg base 1 "share_up" ["pence", "percent"] (sp_share_up K) := by
  refine ⟨f, fd, F.ok sc_share_up (fun vs H Q E h => ?_) (fun cdv A outer s H vs Q E hr h => ?_), g, F.kp, bd⟩
  · first | (obtain ⟨_, rfl, _⟩ := h; rfl) | (obtain ⟨_, _, rfl, _⟩ := h; rfl) | (obtain ⟨_, _, _, rfl, _⟩ := h; rfl) | (obtain ⟨_, _, _, _, rfl, _⟩ := h; rfl) | (obtain ⟨_, _, _, _, _, rfl, _⟩ := h; rfl) | (obtain ⟨_, _, _, _, _, _, rfl, _⟩ := h; rfl) | (obtain ⟨_, _, _, _, _, _, _, rfl, _⟩ := h; rfl) | (obtain ⟨_, _, _, _, _, _, _, _, rfl, _⟩ := h; rfl) | (obtain ⟨_, _, _, _, _, _, _, _, _, rfl, _⟩ := h; rfl) | (obtain ⟨_, _, _, _, _, _, _, _, _, _, rfl, _⟩ := h; rfl) | (obtain ⟨_, _, _, _, _, _, _, _, _, _, _, rfl, _⟩ := h; rfl) | (obtain ⟨_, _, _, _, _, _, _, _, _, _, _, _, rfl, _⟩ := h; rfl) | (obtain ⟨_, _, _, _, _, _, _, _, _, _, _, _, _, rfl, _⟩ := h; rfl) | (obtain ⟨_, _, _, _, _, _, _, _, _, _, _, _, _, _, rfl, _⟩ := h; rfl) | (obtain ⟨_, _, _, _, _, _, _, _, _, _, _, _, _, _, _, rfl, _⟩ := h; rfl)
  · have hu64 := hr.units
    obtain ⟨p, c, rfl, hp, hp2, hc, hc2, q⟩ := h
    refine ⟨_, (pss_one (ps_ret (pe_op op_fdiv (pe_op op_add (pe_op op_mul (pv 0) (pv 1)) pe_int) pe_int))), ?_⟩
    exact ⟨_, rfl, _, rfl, _, _, rfl, rfl, .inl ⟨by omega, by omega⟩, _, _, rfl, rfl, _, _, rfl, rfl, ⟨by decide, by decide⟩, q⟩
/-! ### parts_of -/
abbrev s_parts_of : Stmt := topS 18
abbrev N_parts_of : List Str := ["pence", "many", "least", "over"]
theorem sc_parts_of : FnScope N_parts_of ["pence", "many"] (defScope s_parts_of) := ⟨rfl, rfl, rfl, by decide +kernel, rfl, by decide +kernel, by decide +kernel⟩
def sp_parts_of (K : PySem.W.Frag) : Sp := fun vs H Q _ => ∃ p m : Int, vs = [.int p, .int m] ∧ 0 ≤ p ∧ p ≤ 1000000000 ∧ 1 ≤ m ∧ m ≤ 12 ∧ ∀ H' l, H l = none → Same H H' → H' l = some (.lst ((partsL p m).map V.int)) → Q (.ref l) H'
theorem ok_parts_of {f : Addr} {fd : FuncData} (F : Fun K "parts_of" "parts_of" s_parts_of f fd) (g : mg "parts_of" = some (.ref f)) (bd : Binds K fd ["pence", "many"] []) (m_divmod : mg "divmod" = none) : CF P w K mg base 1 "parts_of" ["pence", "many"] (sp_parts_of K) := by
  refine ⟨f, fd, F.ok sc_parts_of (fun vs H Q E h => ?_) (fun cdv A outer s H vs Q E hr h => ?_), g, F.kp, bd⟩
  · first | (obtain ⟨_, rfl, _⟩ := h; rfl) | (obtain ⟨_, _, rfl, _⟩ := h; rfl) | (obtain ⟨_, _, _, rfl, _⟩ := h; rfl) | (obtain ⟨_, _, _, _, rfl, _⟩ := h; rfl) | (obtain ⟨_, _, _, _, _, rfl, _⟩ := h; rfl) | (obtain ⟨_, _, _, _, _, _, rfl, _⟩ := h; rfl) | (obtain ⟨_, _, _, _, _, _, _, rfl, _⟩ := h; rfl) | (obtain ⟨_, _, _, _, _, _, _, _, rfl, _⟩ := h; rfl) | (obtain ⟨_, _, _, _, _, _, _, _, _, rfl, _⟩ := h; rfl) | (obtain ⟨_, _, _, _, _, _, _, _, _, _, rfl, _⟩ := h; rfl) | (obtain ⟨_, _, _, _, _, _, _, _, _, _, _, rfl, _⟩ := h; rfl) | (obtain ⟨_, _, _, _, _, _, _, _, _, _, _, _, rfl, _⟩ := h; rfl) | (obtain ⟨_, _, _, _, _, _, _, _, _, _, _, _, _, rfl, _⟩ := h; rfl) | (obtain ⟨_, _, _, _, _, _, _, _, _, _, _, _, _, _, rfl, _⟩ := h; rfl) | (obtain ⟨_, _, _, _, _, _, _, _, _, _, _, _, _, _, _, rfl, _⟩ := h; rfl)
  · have hu64 := hr.units
    obtain ⟨p, m, rfl, hp, hp2, hm, hm2, q⟩ := h
    refine ⟨_, (pss_cons (ps_if (pt_cmpR op_lt (pv 1) pe_int (nomark _))
         (pss_one (ps_ret (pe_lst pa_nil)))
         pss_nil)
      (pss_cons (ps_asg (pe_callB call_divmod (by rfl) m_divmod (by decide +kernel) (pa_cons (pv 0) (pa_cons (pv 1) pa_nil))) (pg_tup (by rfl) (pgs_cons (pg_name (i := 2) sc_parts_of.nd rfl (.inl rfl)) (pgs_cons (pg_name (i := 3) sc_parts_of.nd rfl (.inl rfl)) pgs_nil))))
      (pss_one (ps_ret (pe_op op_cat (pe_op op_rep (pe_lst (pa_cons (pe_op op_add (pv 2) pe_int) pa_nil)) (pv 3)) (pe_op op_rep (pe_lst (pa_cons (pv 2) pa_nil)) (pe_op op_sub (pv 1) (pv 3)))))))), ?_⟩
    have hr0 := Int.emod_nonneg p (show m ≠ 0 by omega)
    have hr1 := Int.emod_lt_of_pos p (show 0 < m by omega)
    refine ⟨_, rfl, _, _, rfl, rfl, _, rfl, ite2 (fun e => absurd (of_decide_eq_true e) (by omega)) (fun e => ?_)⟩
    refine ⟨_, rfl, _, rfl, _, _, rfl, ⟨by omega, by omega⟩, fun t ht => ?_⟩
    refine ⟨t, [.int (p / m), .int (p % m)], rfl, .inl (.inl upd_same), rfl, _, _, rfl, _, _, rfl, rfl, ?_⟩
    refine ⟨_, rfl, _, _, rfl, rfl, (by show 1 ≤ sizeLine; decide), fun l1 h1 => ?_⟩
    refine ⟨_, rfl, l1, _, _, rfl, rfl, upd_same, by omega, by omega, ?_, fun l2 h2 => ?_⟩
    · show 1 * (p % m).toNat ≤ sizeLine
      exact size_small (by omega)
    refine ⟨_, rfl, (by show 1 ≤ sizeLine; decide), fun l3 h3 => ?_⟩
    refine ⟨_, rfl, _, rfl, _, _, rfl, rfl, l3, _, _, rfl, rfl, upd_same, by omega, by omega, ?_, fun l4 h4 => ?_⟩
    · show 1 * (m - p % m).toNat ≤ sizeLine
      exact size_small (by omega)
    have s1 : Same H _ := same_new (o := .tup [.int (p / m), .int (p % m)]) ht
    have s2 := s1.trans (same_new (o := .lst [.int (p / m + 1)]) h1)
    have s3 := s2.trans (same_new (o := .lst (List.replicate (p % m).toNat [V.int (p / m + 1)]).flatten) h2)
    have e2 := (same_new (o := .lst [.int (p / m)]) h3) _ _ (upd_same (H := upd (upd H t (.tup [.int (p / m), .int (p % m)])) l1 (.lst [.int (p / m + 1)])) (a := l2) (o := .lst (List.replicate (p % m).toNat [V.int (p / m + 1)]).flatten))
    have s4 := s3.trans (same_new (o := .lst [.int (p / m)]) h3)
    have e3 := (same_new (o := .lst (List.replicate (m - p % m).toNat [V.int (p / m)]).flatten) h4) _ _ e2
    have s5 := s4.trans (same_new (o := .lst (List.replicate (m - p % m).toNat [V.int (p / m)]).flatten) h4)
    refine ⟨l2, l4, _, _, rfl, rfl, e3, upd_same, ?_, fun l5 h5 => ?_⟩
    · rw [rep1, rep1, List.length_replicate, List.length_replicate]
      exact size_small (by omega)
    · refine q _ l5 (s5.free h5) (s5.trans (same_new h5)) ?_
      rw [upd_same, rep1, rep1]
      unfold partsL
      rw [List.map_append, List.map_replicate, List.map_replicate]
/-! ### is_number_in -/
abbrev s_is_number_in : Stmt := topS 17
abbrev N_is_number_in : List Str := ["thing", "low", "high"]
theorem sc_is_number_in : FnScope N_is_number_in ["thing", "low", "high"] (defScope s_is_number_in) := ⟨rfl, rfl, rfl, by decide +kernel, rfl, by decide +kernel, by decide +kernel⟩
def sp_is_number_in (K : PySem.W.Frag) : Sp := fun vs H Q _ => ∃ (x : V) (d : PyData) (lo hi : Int), vs = [x, .int lo, .int hi] ∧ Dp K H x d ∧ Q (.bl (numIn d lo hi)) H
theorem ok_is_number_in {f : Addr} {fd : FuncData} (F : Fun K "is_number_in" "is_number_in" s_is_number_in f fd) (g : mg "is_number_in" = some (.ref f)) (bd : Binds K fd ["thing", "low", "high"] []) (m_isinstance : mg "isinstance" = none) (m_bool : mg "bool" = none) (m_int : mg "int" = none) : CF P w K mg base 1 "is_number_in" ["thing", "low", "high"] (sp_is_number_in K) := by
  refine ⟨f, fd, F.ok sc_is_number_in (fun vs H Q E h => ?_) (fun cdv A outer s H vs Q E hr h => ?_), g, F.kp, bd⟩
  · first | (obtain ⟨_, rfl, _⟩ := h; rfl) | (obtain ⟨_, _, rfl, _⟩ := h; rfl) | (obtain ⟨_, _, _, rfl, _⟩ := h; rfl) | (obtain ⟨_, _, _, _, rfl, _⟩ := h; rfl) | (obtain ⟨_, _, _, _, _, rfl, _⟩ := h; rfl) | (obtain ⟨_, _, _, _, _, _, rfl, _⟩ := h; rfl) | (obtain ⟨_, _, _, _, _, _, _, rfl, _⟩ := h; rfl) | (obtain ⟨_, _, _, _, _, _, _, _, rfl, _⟩ := h; rfl) | (obtain ⟨_, _, _, _, _, _, _, _, _, rfl, _⟩ := h; rfl) | (obtain ⟨_, _, _, _, _, _, _, _, _, _, rfl, _⟩ := h; rfl) | (obtain ⟨_, _, _, _, _, _, _, _, _, _, _, rfl, _⟩ := h; rfl) | (obtain ⟨_, _, _, _, _, _, _, _, _, _, _, _, rfl, _⟩ := h; rfl) | (obtain ⟨_, _, _, _, _, _, _, _, _, _, _, _, _, rfl, _⟩ := h; rfl) | (obtain ⟨_, _, _, _, _, _, _, _, _, _, _, _, _, _, rfl, _⟩ := h; rfl) | (obtain ⟨_, _, _, _, _, _, _, _, _, _, _, _, _, _, _, rfl, _⟩ := h; rfl)
  · have hu64 := hr.units
    obtain ⟨x, d, lo, hi, rfl, hd, q⟩ := h
    refine ⟨_, (pss_one (ps_ret (pe_and (pe_callB (kk_isi K) (by rfl) m_isinstance (by decide +kernel) (pa_cons (pv 0) (pa_cons (pe_bltn (v := .ty "int") (by rfl) m_int (by decide +kernel) rfl) pa_nil))) (pe_and (pe_not (pe_callB (kk_isi K) (by rfl) m_isinstance (by decide +kernel) (pa_cons (pv 0) (pa_cons (pe_bltn (v := .ty "bool") (by rfl) m_bool (by decide +kernel) rfl) pa_nil)))) (pe_one (pe_chain op_le op_le (pv 1) (pv 0) (pv 2))))))), ?_⟩
    have k1 := kit_d (K := K) (T := "int") (by decide) d
    have k2 := kit_d (K := K) (T := "bool") (by decide) d
    have ty := ty_of_dp hd
    refine ⟨_, rfl, _, _, _, _, _, rfl, .ty _, ty, k1, _, rfl, ?_⟩
    cases hd with
    | int i =>
      refine iteT ⟨_, rfl, _, _, _, _, _, rfl, .ty _, ty, k2, _, rfl, _, rfl, iteT ⟨_, rfl, _, rfl, _, _, rfl, rfl, _, rfl, ?_⟩⟩
      have e : numIn (.int i) lo hi = (decide (lo ≤ i) && decide (i ≤ hi)) := rfl
      rw [e] at q
      by_cases h1 : lo ≤ i
      · rw [decide_eq_true h1] at q ⊢
        exact iteT ⟨_, rfl, _, _, rfl, rfl, q⟩
      · rw [decide_eq_false h1] at q ⊢
        exact iteF q
    | bl b => exact iteT ⟨_, rfl, _, _, _, _, _, rfl, .ty _, ty, k2, _, rfl, _, rfl, iteF q⟩
    | non => exact iteF q
    | str z => exact iteF q
    | lst a b => exact iteF q
    | tup a b => exact iteF q
/-! ### may_be_kept -/
abbrev s_may_be_kept : Stmt := topS 30
abbrev N_may_be_kept : List Str := ["keep", "parts", "percent"]
theorem sc_may_be_kept : FnScope N_may_be_kept ["keep", "parts"] (defScope s_may_be_kept) := ⟨rfl, rfl, rfl, by decide +kernel, rfl, by decide +kernel, by decide +kernel⟩
def sp_may_be_kept (K : PySem.W.Frag) : Sp := fun vs H Q _ => ∃ (x y : V) (d e : PyData), vs = [x, y] ∧ Dp K H x d ∧ Dp K H y e ∧ SeqAt.shaped e = true ∧ (∀ ds, d = .tuple ds → ds.length ≤ 1000) ∧ ∀ H', Same H H' → Q (.bl (keptOk d e)) H'
theorem ok_may_be_kept {f : Addr} {fd : FuncData} (F : Fun K "may_be_kept" "may_be_kept" s_may_be_kept f fd) (g : mg "may_be_kept" = some (.ref f)) (bd : Binds K fd ["keep", "parts"] []) (m_isinstance : mg "isinstance" = none) (m_tuple : mg "tuple" = none) (m_all : mg "all" = none) (m_len : mg "len" = none) (C_is_number_in : CF P w K mg base 1 "is_number_in" ["thing", "low", "high"] (sp_is_number_in K)) : CF P w K mg base 2 "may_be_kept" ["keep", "parts"] (sp_may_be_kept K) := by
  refine ⟨f, fd, F.ok sc_may_be_kept (fun vs H Q E h => ?_) (fun cdv A outer s H vs Q E hr h => ?_), g, F.kp, bd⟩
  · first | (obtain ⟨_, rfl, _⟩ := h; rfl) | (obtain ⟨_, _, rfl, _⟩ := h; rfl) | (obtain ⟨_, _, _, rfl, _⟩ := h; rfl) | (obtain ⟨_, _, _, _, rfl, _⟩ := h; rfl) | (obtain ⟨_, _, _, _, _, rfl, _⟩ := h; rfl) | (obtain ⟨_, _, _, _, _, _, rfl, _⟩ := h; rfl) | (obtain ⟨_, _, _, _, _, _, _, rfl, _⟩ := h; rfl) | (obtain ⟨_, _, _, _, _, _, _, _, rfl, _⟩ := h; rfl) | (obtain ⟨_, _, _, _, _, _, _, _, _, rfl, _⟩ := h; rfl) | (obtain ⟨_, _, _, _, _, _, _, _, _, _, rfl, _⟩ := h; rfl) | (obtain ⟨_, _, _, _, _, _, _, _, _, _, _, rfl, _⟩ := h; rfl) | (obtain ⟨_, _, _, _, _, _, _, _, _, _, _, _, rfl, _⟩ := h; rfl) | (obtain ⟨_, _, _, _, _, _, _, _, _, _, _, _, _, rfl, _⟩ := h; rfl) | (obtain ⟨_, _, _, _, _, _, _, _, _, _, _, _, _, _, rfl, _⟩ := h; rfl) | (obtain ⟨_, _, _, _, _, _, _, _, _, _, _, _, _, _, _, rfl, _⟩ := h; rfl)
  · have hu64 := hr.units
    obtain ⟨x, y, d, e, rfl, hd, he, sh, hz, q⟩ := h
    refine ⟨_, (pss_cons (ps_if (pt_not (pt_val (pe_callB (kk_isi K) (by rfl) m_isinstance (by decide +kernel) (pa_cons (pv 0) (pa_cons (pe_bltn (v := .ty "tuple") (by rfl) m_tuple (by decide +kernel) rfl) pa_nil)))))
         (pss_one (ps_ret (pe_cf C_is_number_in (hr.mono (by decide)) (by rfl) (pa_cons (pv 0) (pa_cons pe_int (pa_cons pe_int pa_nil))))))
         pss_nil)
      (pss_one (ps_ret (pe_and (pe_cmpR (kk_eqD K hu64) (pe_callB (kk_len K) (by rfl) m_len PySem.boot_len (pa_cons (pv 0) pa_nil)) (pv 1) (nomark _)) (pe_one (pe_callB (kk_all K rfl) (by rfl) m_all (by decide +kernel) (pa_cons (pe_lc (own := [("percent", 2)]) (g := (gName 2)) (tt := tYes) rfl sc_may_be_kept.nd (pi_tup (pv 0)) (blkOk_by (own := [("percent", 2)]) (N := N_may_be_kept) (sc := defScope s_may_be_kept) (by decide +kernel)) (fun _ _ _ _ _ => pg_name (i := 2) sc_may_be_kept.nd rfl (Or.inl rfl)) (fun _ _ _ _ _ => pts_nil) (fun _ _ _ _ _ => (pe_cf C_is_number_in (hr.mono (by decide)) (by rfl) (pa_cons (pv 2) (pa_cons pe_int (pa_cons pe_int pa_nil)))))) pa_nil))))))), ?_⟩
    have k1 := kit_d (K := K) (T := "tuple") (by decide) d
    have ty := ty_of_dp hd
    refine ⟨_, rfl, _, _, _, _, _, rfl, .ty _, ty, k1, _, rfl, ?_⟩
    have other : isK "tuple" d = false → keptOk d e = numIn d 0 100 := fun h => by
      cases d with
      | tuple ds => cases h
      | _ => rfl
    cases hd with
    | @tup a xs ds hS hA =>
      refine iteF ?_
      have hlen := dpAll_len hA
      have hl := hz ds rfl
      refine ⟨_, rfl, a, _, rfl, .inr hS, _, rfl, _, _, .int _, he, sh_int _, sh, _, rfl, ?_⟩
      have e2 : keptOk (.tuple ds) e = (PyData.eqv (.int (xs.length : Int)) e && ds.all fun d => numIn d 0 100) := by
        rw [hlen]
        rfl
      rw [e2] at q
      cases hq : PyData.eqv (.int (xs.length : Int)) e with
      | false =>
        rw [hq] at q
        exact iteF (q H (Same.refl H))
      | true =>
        rw [hq] at q
        refine iteT ⟨_, rfl, a, rfl, ⟨_, hS⟩, fun D hD => lc_tup (K := K) (a := a) (xs := xs) (fun i H' => Same H H' ∧ H' D = some (.lst (((ds.take i).map fun d => numIn d 0 100).map V.bl))) ⟨same_new hD, upd_same⟩ (fun i H' _ h => seqT_same h.1 hS) (fun i x H' hx h => ?_) (fun H' h => ?_)⟩
        · obtain ⟨d, hd1, hd2⟩ := dpAll_get hA hx
          have hi : i < ds.length := (List.getElem?_eq_some_iff.mp hd1).1
          refine ⟨rfl, _, rfl, x, d, 0, 100, rfl, dp_same h.1 hd2, _, h.2, ?_, ?_, ?_⟩
          · rw [List.length_map, List.length_map, List.length_take]
            exact small1000 (by omega)
          · exact fun c o e => by
              rw [upd_ne (ne_of_none e hD)]
              exact h.1 _ _ e
          · rw [upd_same, List.take_add_one, hd1, Option.toList_some, List.map_append, List.map_append]
            rfl
        · obtain ⟨s1, h1⟩ := h
          rw [hlen, List.take_of_length_le (Nat.le_refl _)] at h1
          refine ⟨D, _, rfl, SqL.of h1, ?_⟩
          have e3 : (ds.map fun d => numIn d 0 100).all id = ds.all fun d => numIn d 0 100 := by
            rw [List.all_map]
            rfl
          rw [e3]
          exact q _ s1
    | non => exact iteT ⟨_, rfl, _, _, 0, 100, rfl, .non, by rw [← other rfl]; exact q H (Same.refl H)⟩
    | bl b => exact iteT ⟨_, rfl, _, _, 0, 100, rfl, .bl b, by rw [← other rfl]; exact q H (Same.refl H)⟩
    | int i => exact iteT ⟨_, rfl, _, _, 0, 100, rfl, .int i, by rw [← other rfl]; exact q H (Same.refl H)⟩
    | str z => exact iteT ⟨_, rfl, _, _, 0, 100, rfl, .str z, by rw [← other rfl]; exact q H (Same.refl H)⟩
    | lst a b => exact iteT ⟨_, rfl, _, _, 0, 100, rfl, .lst a b, by rw [← other rfl]; exact q H (Same.refl H)⟩
/-! ### wrong_figure -/
abbrev s_wrong_figure : Stmt := topS 29
abbrev N_wrong_figure : List Str := ["parts", "step", "grace", "last", "misses", "keep", "fine", "falls", "back", "checks", "word", "right"]
theorem sc_wrong_figure : FnScope N_wrong_figure ["parts", "step", "grace", "last", "misses", "keep", "fine", "falls", "back"] (defScope s_wrong_figure) := ⟨rfl, rfl, rfl, by decide +kernel, rfl, by decide +kernel, by decide +kernel⟩
def sp_wrong_figure (K : PySem.W.Frag) : Sp := fun vs H Q _ => ∃ (x1 x2 x3 x4 x5 x6 x7 x8 x9 : V) (d1 d2 d3 d4 d5 d6 d7 d8 d9 : PyData), vs = [x1, x2, x3, x4, x5, x6, x7, x8, x9] ∧ (Dp K H x1 d1 ∧ Dp K H x2 d2 ∧ Dp K H x3 d3 ∧ Dp K H x4 d4 ∧ Dp K H x5 d5 ∧ Dp K H x6 d6 ∧ Dp K H x7 d7 ∧ Dp K H x8 d8 ∧ Dp K H x9 d9) ∧ SeqAt.shaped d1 = true ∧ (∀ ds, d6 = .tuple ds → ds.length ≤ 1000) ∧ ∀ H', Same H H' → Q (firstWrong (figChecks d1 d2 d3 d4 d5 d6 d7 d8 d9)) H'
theorem ok_wrong_figure {f : Addr} {fd : FuncData} (F : Fun K "wrong_figure" "wrong_figure" s_wrong_figure f fd) (g : mg "wrong_figure" = some (.ref f)) (bd : Binds K fd ["parts", "step", "grace", "last", "misses", "keep", "fine", "falls", "back"] []) (m_isinstance : mg "isinstance" = none) (m_bool : mg "bool" = none) (C_is_number_in : CF P w K mg base 1 "is_number_in" ["thing", "low", "high"] (sp_is_number_in K)) (C_may_be_kept : CF P w K mg base 2 "may_be_kept" ["keep", "parts"] (sp_may_be_kept K)) : CF P w K mg base 3 "wrong_figure" ["parts", "step", "grace", "last", "misses", "keep", "fine", "falls", "back"] (sp_wrong_figure K) := by
  refine ⟨f, fd, F.ok sc_wrong_figure (fun vs H Q E h => ?_) (fun cdv A outer s H vs Q E hr h => ?_), g, F.kp, bd⟩
  · first | (obtain ⟨_, rfl, _⟩ := h; rfl) | (obtain ⟨_, _, rfl, _⟩ := h; rfl) | (obtain ⟨_, _, _, rfl, _⟩ := h; rfl) | (obtain ⟨_, _, _, _, rfl, _⟩ := h; rfl) | (obtain ⟨_, _, _, _, _, rfl, _⟩ := h; rfl) | (obtain ⟨_, _, _, _, _, _, rfl, _⟩ := h; rfl) | (obtain ⟨_, _, _, _, _, _, _, rfl, _⟩ := h; rfl) | (obtain ⟨_, _, _, _, _, _, _, _, rfl, _⟩ := h; rfl) | (obtain ⟨_, _, _, _, _, _, _, _, _, rfl, _⟩ := h; rfl) | (obtain ⟨_, _, _, _, _, _, _, _, _, _, rfl, _⟩ := h; rfl) | (obtain ⟨_, _, _, _, _, _, _, _, _, _, _, rfl, _⟩ := h; rfl) | (obtain ⟨_, _, _, _, _, _, _, _, _, _, _, _, rfl, _⟩ := h; rfl) | (obtain ⟨_, _, _, _, _, _, _, _, _, _, _, _, _, rfl, _⟩ := h; rfl) | (obtain ⟨_, _, _, _, _, _, _, _, _, _, _, _, _, _, rfl, _⟩ := h; rfl) | (obtain ⟨_, _, _, _, _, _, _, _, _, _, _, _, _, _, _, rfl, _⟩ := h; rfl) | (obtain ⟨_, _, _, _, _, _, _, _, _, _, _, _, _, _, _, _, rfl, _⟩ := h; rfl) | (obtain ⟨_, _, _, _, _, _, _, _, _, _, _, _, _, _, _, _, _, rfl, _⟩ := h; rfl) | (obtain ⟨_, _, _, _, _, _, _, _, _, _, _, _, _, _, _, _, _, _, rfl, _⟩ := h; rfl) | (obtain ⟨_, _, _, _, _, _, _, _, _, _, _, _, _, _, _, _, _, _, _, rfl, _⟩ := h; rfl) | (obtain ⟨_, _, _, _, _, _, _, _, _, _, _, _, _, _, _, _, _, _, _, _, rfl, _⟩ := h; rfl) | (obtain ⟨_, _, _, _, _, _, _, _, _, _, _, _, _, _, _, _, _, _, _, _, _, rfl, _⟩ := h; rfl) | (obtain ⟨_, _, _, _, _, _, _, _, _, _, _, _, _, _, _, _, _, _, _, _, _, _, rfl, _⟩ := h; rfl) | (obtain ⟨_, _, _, _, _, _, _, _, _, _, _, _, _, _, _, _, _, _, _, _, _, _, _, rfl, _⟩ := h; rfl)
  · have hu64 := hr.units
    obtain ⟨x1, x2, x3, x4, x5, x6, x7, x8, x9, d1, d2, d3, d4, d5, d6, d7, d8, d9, rfl, ⟨h1, h2, h3, h4, h5, h6, h7, h8, h9⟩, sh, hz, q⟩ := h
    refine ⟨_, (pss_cons (ps_set (i := 9) sc_wrong_figure.nd rfl (.inl rfl) (pe_lst (pa_cons (pe_tup (pa_cons pe_str (pa_cons (pe_cf C_is_number_in (hr.mono (by decide)) (by rfl) (pa_cons (pv 0) (pa_cons pe_int (pa_cons pe_int pa_nil)))) pa_nil))) (pa_cons (pe_tup (pa_cons pe_str (pa_cons (pe_cf C_is_number_in (hr.mono (by decide)) (by rfl) (pa_cons (pv 1) (pa_cons pe_int (pa_cons pe_int pa_nil)))) pa_nil))) (pa_cons (pe_tup (pa_cons pe_str (pa_cons (pe_cf C_is_number_in (hr.mono (by decide)) (by rfl) (pa_cons (pv 2) (pa_cons pe_int (pa_cons pe_int pa_nil)))) pa_nil))) (pa_cons (pe_tup (pa_cons pe_str (pa_cons (pe_callB (kk_isi K) (by rfl) m_isinstance (by decide +kernel) (pa_cons (pv 3) (pa_cons (pe_bltn (v := .ty "bool") (by rfl) m_bool (by decide +kernel) rfl) pa_nil))) pa_nil))) (pa_cons (pe_tup (pa_cons pe_str (pa_cons (pe_cf C_is_number_in (hr.mono (by decide)) (by rfl) (pa_cons (pv 4) (pa_cons pe_int (pa_cons pe_int pa_nil)))) pa_nil))) (pa_cons (pe_tup (pa_cons pe_str (pa_cons (pe_cf C_may_be_kept (hr.mono (by decide)) (by rfl) (pa_cons (pv 5) (pa_cons (pv 0) pa_nil))) pa_nil))) (pa_cons (pe_tup (pa_cons pe_str (pa_cons (pe_cf C_is_number_in (hr.mono (by decide)) (by rfl) (pa_cons (pv 6) (pa_cons pe_int (pa_cons pe_int pa_nil)))) pa_nil))) (pa_cons (pe_tup (pa_cons pe_str (pa_cons (pe_cf C_is_number_in (hr.mono (by decide)) (by rfl) (pa_cons (pv 7) (pa_cons pe_int (pa_cons pe_int pa_nil)))) pa_nil))) (pa_cons (pe_tup (pa_cons pe_str (pa_cons (pe_cf C_is_number_in (hr.mono (by decide)) (by rfl) (pa_cons (pv 8) (pa_cons pe_int (pa_cons pe_int pa_nil)))) pa_nil))) pa_nil)))))))))))
      (pss_cons (ps_for PassesOwn.never rfl (pi_list (pv 9)) (pg_tup (by rfl) (pgs_cons (pg_name (i := 10) sc_wrong_figure.nd rfl (.inl rfl)) (pgs_cons (pg_name (i := 11) sc_wrong_figure.nd rfl (.inl rfl)) pgs_nil)))
         (pss_one (ps_if (pt_not (pt_val (pv 11)))
             (pss_one (ps_ret (pv 10)))
             pss_nil)))
      (pss_one (ps_ret pe_non)))), ?_⟩
    have k4 := kit_d (K := K) (T := "bool") (by decide) d4
    refine ⟨_, rfl, x1, d1, 1, 6, rfl, h1, (by show 2 ≤ sizeLine; decide), fun t1 n1 => ?_⟩
    have s1 := same_new (o := .tup [.str (Str.ofString "parts"), .bl (numIn d1 1 6)]) n1
    refine ⟨_, rfl, x2, d2, 1, 14, rfl, dp_same s1 h2, (by show 2 ≤ sizeLine; decide), fun t2 n2 => ?_⟩
    have s2 := s1.trans (same_new (o := .tup [.str (Str.ofString "step"), .bl (numIn d2 1 14)]) n2)
    refine ⟨_, rfl, x3, d3, 0, 7, rfl, dp_same s2 h3, (by show 2 ≤ sizeLine; decide), fun t3 n3 => ?_⟩
    have s3 := s2.trans (same_new (o := .tup [.str (Str.ofString "grace"), .bl (numIn d3 0 7)]) n3)
    refine ⟨_, rfl, _, _, _, _, _, rfl, .ty _, ty_of_dp (dp_same s3 h4), k4, (by show 2 ≤ sizeLine; decide), fun t4 n4 => ?_⟩
    have s4 := s3.trans (same_new (o := .tup [.str (Str.ofString "last"), .bl (isK "bool" d4)]) n4)
    refine ⟨_, rfl, x5, d5, 0, 2, rfl, dp_same s4 h5, (by show 2 ≤ sizeLine; decide), fun t5 n5 => ?_⟩
    have s5 := s4.trans (same_new (o := .tup [.str (Str.ofString "misses"), .bl (numIn d5 0 2)]) n5)
    refine ⟨_, rfl, _, rfl, x6, x1, d6, d1, rfl, dp_same s5 h6, dp_same s5 h1, sh, hz, fun G g => ⟨(by show 2 ≤ sizeLine; decide), fun t6 n6 => ?_⟩⟩
    have s6 := (s5.trans g).trans (same_new (o := .tup [.str (Str.ofString "keep"), .bl (keptOk d6 d1)]) n6)
    refine ⟨_, rfl, x7, d7, 0, 100, rfl, dp_same s6 h7, (by show 2 ≤ sizeLine; decide), fun t7 n7 => ?_⟩
    have s7 := s6.trans (same_new (o := .tup [.str (Str.ofString "fine"), .bl (numIn d7 0 100)]) n7)
    refine ⟨_, rfl, x8, d8, 0, 30, rfl, dp_same s7 h8, (by show 2 ≤ sizeLine; decide), fun t8 n8 => ?_⟩
    have s8 := s7.trans (same_new (o := .tup [.str (Str.ofString "falls"), .bl (numIn d8 0 30)]) n8)
    refine ⟨_, rfl, x9, d9, 0, 30, rfl, dp_same s8 h9, (by show 2 ≤ sizeLine; decide), fun t9 n9 => ?_⟩
    have s9 := s8.trans (same_new (o := .tup [.str (Str.ofString "back"), .bl (numIn d9 0 30)]) n9)
    refine ⟨(by show 9 ≤ sizeLine; decide), fun L nL => ?_⟩
    have sL := same_new (o := .lst [.ref t1, .ref t2, .ref t3, .ref t4, .ref t5, .ref t6, .ref t7, .ref t8, .ref t9]) nL
    have c9 := sL _ _ (upd_same (a := t9) (o := .tup [.str (Str.ofString "back"), .bl (numIn d9 0 30)]))
    have m9 := (same_new (o := .tup [.str (Str.ofString "back"), .bl (numIn d9 0 30)]) n9).trans sL
    have c8 := m9 _ _ (upd_same (a := t8) (o := .tup [.str (Str.ofString "falls"), .bl (numIn d8 0 30)]))
    have m8 := (same_new (o := .tup [.str (Str.ofString "falls"), .bl (numIn d8 0 30)]) n8).trans m9
    have c7 := m8 _ _ (upd_same (a := t7) (o := .tup [.str (Str.ofString "fine"), .bl (numIn d7 0 100)]))
    have m7 := (same_new (o := .tup [.str (Str.ofString "fine"), .bl (numIn d7 0 100)]) n7).trans m8
    have c6 := m7 _ _ (upd_same (a := t6) (o := .tup [.str (Str.ofString "keep"), .bl (keptOk d6 d1)]))
    have m6 := (g.trans (same_new (o := .tup [.str (Str.ofString "keep"), .bl (keptOk d6 d1)]) n6)).trans m7
    have c5 := m6 _ _ (upd_same (a := t5) (o := .tup [.str (Str.ofString "misses"), .bl (numIn d5 0 2)]))
    have m5 := (same_new (o := .tup [.str (Str.ofString "misses"), .bl (numIn d5 0 2)]) n5).trans m6
    have c4 := m5 _ _ (upd_same (a := t4) (o := .tup [.str (Str.ofString "last"), .bl (isK "bool" d4)]))
    have m4 := (same_new (o := .tup [.str (Str.ofString "last"), .bl (isK "bool" d4)]) n4).trans m5
    have c3 := m4 _ _ (upd_same (a := t3) (o := .tup [.str (Str.ofString "grace"), .bl (numIn d3 0 7)]))
    have m3 := (same_new (o := .tup [.str (Str.ofString "grace"), .bl (numIn d3 0 7)]) n3).trans m4
    have c2 := m3 _ _ (upd_same (a := t2) (o := .tup [.str (Str.ofString "step"), .bl (numIn d2 1 14)]))
    have m2 := (same_new (o := .tup [.str (Str.ofString "step"), .bl (numIn d2 1 14)]) n2).trans m3
    have c1 := m2 _ _ (upd_same (a := t1) (o := .tup [.str (Str.ofString "parts"), .bl (numIn d1 1 6)]))
    have at9 := at9_of (p1 := (Str.ofString "parts", numIn d1 1 6)) (p2 := (Str.ofString "step", numIn d2 1 14)) (p3 := (Str.ofString "grace", numIn d3 0 7)) (p4 := (Str.ofString "last", isK "bool" d4)) (p5 := (Str.ofString "misses", numIn d5 0 2)) (p6 := (Str.ofString "keep", keptOk d6 d1)) (p7 := (Str.ofString "fine", numIn d7 0 100)) (p8 := (Str.ofString "falls", numIn d8 0 30)) (p9 := (Str.ofString "back", numIn d9 0 30)) c1 c2 c3 c4 c5 c6 c7 c8 c9
    have sAll := s9.trans sL
    refine ⟨_, rfl, L, rfl, ⟨_, SqL.of upd_same⟩, for_list (K := K) (a := L) (xs := [t1, t2, t3, t4, t5, t6, t7, t8, t9].map V.ref) (fun i σ H' => ∃ s10 s11, σ = [some x1, some x2, some x3, some x4, some x5, some x6, some x7, some x8, some x9, some (.ref L), s10, s11] ∧ Same H H' ∧ H' L = some (.lst [.ref t1, .ref t2, .ref t3, .ref t4, .ref t5, .ref t6, .ref t7, .ref t8, .ref t9]) ∧ (∀ (j : Nat) (t : Addr) (p : Str × Bool), [t1, t2, t3, t4, t5, t6, t7, t8, t9][j]? = some t → (figChecks d1 d2 d3 d4 d5 d6 d7 d8 d9)[j]? = some p → H' t = some (.tup [.str p.1, .bl p.2])) ∧ ∀ p ∈ (figChecks d1 d2 d3 d4 d5 d6 d7 d8 d9).take i, p.2 = true) ⟨_, _, rfl, sAll, upd_same, at9, fun p hp => (nomatch hp)⟩ (fun i σ H' _ h => by obtain ⟨_, _, _, _, h, _⟩ := h; exact SqL.of h) (fun i x σ H' hx h => ?_) (fun σ H' h => ?_)⟩
    · obtain ⟨s10, s11, rfl, sm, eL, hat, hall⟩ := h
      obtain ⟨t, p, rfl, hp, ht⟩ := pick9 (ws := figChecks d1 d2 d3 d4 d5 d6 d7 d8 d9) rfl hat hx
      refine ⟨t, _, rfl, .inl (.inl ht), rfl, _, _, rfl, _, _, rfl, rfl, ?_⟩
      obtain ⟨w', b⟩ := p
      cases b with
      | false =>
        refine ⟨_, rfl, _, rfl, iteT ⟨_, rfl, ?_⟩⟩
        rw [← firstWrong_at hall hp]
        exact q _ sm
      | true =>
        refine ⟨_, rfl, _, rfl, iteF ⟨_, _, rfl, sm, eL, hat, fun p' hp' => ?_⟩⟩
        rw [List.take_add_one, hp] at hp'
        rcases List.mem_append.mp hp' with z | z
        · exact hall p' z
        · rw [List.mem_singleton.mp z]
    · obtain ⟨s10, s11, rfl, sm, _, _, hall⟩ := h
      have hf : firstWrong (figChecks d1 d2 d3 d4 d5 d6 d7 d8 d9) = .non := firstWrong_none fun p hp => hall p hp
      rw [hf] at q
      exact q _ sm
/-! ### Rule___init__ -/
abbrev s_Rule___init__ : Stmt := inClass (topS 28) 0
abbrev N_Rule___init__ : List Str := ["self", "parts", "step", "grace", "last", "misses", "keep", "fine", "falls", "back", "word"]
theorem sc_Rule___init__ : FnScope N_Rule___init__ ["self", "parts", "step", "grace", "last", "misses", "keep", "fine", "falls", "back"] (defScope s_Rule___init__) := ⟨rfl, rfl, rfl, by decide +kernel, rfl, by decide +kernel, by decide +kernel⟩
def sp_Rule___init__ (K : PySem.W.Frag) (C : Addr) : Sp := fun vs H Q _ => ∃ (x dx : Addr) (p s g : Int) (l : Bool) (m : Int) (kv : V) (kd : PyData) (ks : List Int) (fi fa ba : Int), vs = [.ref x, .int p, .int s, .int g, .bl l, .int m, kv, .int fi, .int fa, .int ba] ∧ H x = some (.ins C dx []) ∧ Figs p s g m fi fa ba ∧ Keep K H p ks kv kd ∧
  ∀ H' kt, But x H H' → H' x = some (.ins C dx (ruleF p s g l m kt fi fa ba)) → SqT K H' kt (ks.map V.int) → Q .non H'
theorem ok_Rule___init__ {f : Addr} {fd : FuncData} {CR : Addr} (T_Rule : TRule K mg CR) (m_isinstance : mg "isinstance" = none) (m_tuple : mg "tuple" = none) (C_wrong_figure : CF P w K mg base 3 "wrong_figure" ["parts", "step", "grace", "last", "misses", "keep", "fine", "falls", "back"] (sp_wrong_figure K)) (F : FunD K "__init__" "Rule.__init__" (defArgs s_Rule___init__) (defBody s_Rule___init__) (defScope s_Rule___init__) [.int 0, .bl false, .int 0, .int 0, .int 0, .int 0, .int 0] [] f fd) : FnOk P w K mg base CX0 4 f fd ["self", "parts", "step", "grace", "last", "misses", "keep", "fine", "falls", "back"] (sp_Rule___init__ K CR) := by
  refine okD F sc_Rule___init__ (fun vs H Q E h => ?_) (fun cdv A outer s H vs Q E hr h => ?_)
  · first | (obtain ⟨_, rfl, _⟩ := h; rfl) | (obtain ⟨_, _, rfl, _⟩ := h; rfl) | (obtain ⟨_, _, _, rfl, _⟩ := h; rfl) | (obtain ⟨_, _, _, _, rfl, _⟩ := h; rfl) | (obtain ⟨_, _, _, _, _, rfl, _⟩ := h; rfl) | (obtain ⟨_, _, _, _, _, _, rfl, _⟩ := h; rfl) | (obtain ⟨_, _, _, _, _, _, _, rfl, _⟩ := h; rfl) | (obtain ⟨_, _, _, _, _, _, _, _, rfl, _⟩ := h; rfl) | (obtain ⟨_, _, _, _, _, _, _, _, _, rfl, _⟩ := h; rfl) | (obtain ⟨_, _, _, _, _, _, _, _, _, _, rfl, _⟩ := h; rfl) | (obtain ⟨_, _, _, _, _, _, _, _, _, _, _, rfl, _⟩ := h; rfl) | (obtain ⟨_, _, _, _, _, _, _, _, _, _, _, _, rfl, _⟩ := h; rfl) | (obtain ⟨_, _, _, _, _, _, _, _, _, _, _, _, _, rfl, _⟩ := h; rfl) | (obtain ⟨_, _, _, _, _, _, _, _, _, _, _, _, _, _, rfl, _⟩ := h; rfl) | (obtain ⟨_, _, _, _, _, _, _, _, _, _, _, _, _, _, _, rfl, _⟩ := h; rfl) | (obtain ⟨_, _, _, _, _, _, _, _, _, _, _, _, _, _, _, _, rfl, _⟩ := h; rfl) | (obtain ⟨_, _, _, _, _, _, _, _, _, _, _, _, _, _, _, _, _, rfl, _⟩ := h; rfl) | (obtain ⟨_, _, _, _, _, _, _, _, _, _, _, _, _, _, _, _, _, _, rfl, _⟩ := h; rfl) | (obtain ⟨_, _, _, _, _, _, _, _, _, _, _, _, _, _, _, _, _, _, _, rfl, _⟩ := h; rfl) | (obtain ⟨_, _, _, _, _, _, _, _, _, _, _, _, _, _, _, _, _, _, _, _, rfl, _⟩ := h; rfl) | (obtain ⟨_, _, _, _, _, _, _, _, _, _, _, _, _, _, _, _, _, _, _, _, _, rfl, _⟩ := h; rfl) | (obtain ⟨_, _, _, _, _, _, _, _, _, _, _, _, _, _, _, _, _, _, _, _, _, _, rfl, _⟩ := h; rfl) | (obtain ⟨_, _, _, _, _, _, _, _, _, _, _, _, _, _, _, _, _, _, _, _, _, _, _, rfl, _⟩ := h; rfl)
  · have hu64 := hr.units
    obtain ⟨x, dx, p, s', g, l, m, kv, kd, ks, fi, fa, ba, rfl, hx, F, hk, q⟩ := h
    refine ⟨_, (pss_cons (ps_set (i := 10) sc_Rule___init__.nd rfl (.inl rfl) (pe_cf C_wrong_figure (hr.mono (by decide)) (by rfl) (pa_cons (pv 1) (pa_cons (pv 2) (pa_cons (pv 3) (pa_cons (pv 4) (pa_cons (pv 5) (pa_cons (pv 6) (pa_cons (pv 7) (pa_cons (pv 8) (pa_cons (pv 9) pa_nil)))))))))))
      (pss_cons (ps_if (pt_cmpR op_notN (pv 10) pe_non (nomark _))
         (pss_one ps_never)
         pss_nil)
      (pss_cons (ps_fld (pv 0) (pv 1) rfl)
      (pss_cons (ps_fld (pv 0) (pv 2) rfl)
      (pss_cons (ps_fld (pv 0) (pv 3) rfl)
      (pss_cons (ps_fld (pv 0) (pv 4) rfl)
      (pss_cons (ps_fld (pv 0) (pv 5) rfl)
      (pss_cons (ps_fld (pv 0) (pe_ifExp (pt_val (pe_callB (kk_isi K) (by rfl) m_isinstance (by decide +kernel) (pa_cons (pv 6) (pa_cons (pe_bltn (v := .ty "tuple") (by rfl) m_tuple (by decide +kernel) rfl) pa_nil)))) (pv 6) (pe_op (kk_repA K) (pe_tup (pa_cons (pv 6) pa_nil)) (pv 1))) rfl)
      (pss_cons (ps_fld (pv 0) (pv 7) rfl)
      (pss_cons (ps_fld (pv 0) (pv 8) rfl)
      (pss_one (ps_fld (pv 0) (pv 9) rfl)))))))))))), ?_⟩
    have hz : ∀ ds, kd = .tuple ds → ds.length ≤ 1000 := fun ds e => by
      cases hk with
      | one k _ _ _ => cases e
      | all a h hl hb =>
        cases e
        rw [List.length_map]
        have := F.p1
        omega
    refine ⟨_, rfl, _, rfl, _, rfl, _, rfl, _, rfl, _, rfl, _, rfl, _, rfl, _, rfl, _, _, _, _, _, _, _, _, _, .int p, .int s', .int g, .bool l, .int m, kd, .int fi, .int fa, .int ba, rfl, ⟨.int _, .int _, .int _, .bl _, .int _, hk.dp, .int _, .int _, .int _⟩, sh_int _, hz, fun H1 s1 => ?_⟩
    rw [right_all F hk.ok]
    refine ⟨_, rfl, rfl, _, rfl, iteF ?_⟩
    refine ⟨_, rfl, _, rfl, x, CR, dx, _, rfl, s1 _ _ hx, T_Rule.cl, T_Rule.n1, by decide, ?_⟩
    refine ⟨_, rfl, _, rfl, x, CR, dx, _, rfl, upd_same, T_Rule.cl, T_Rule.n2, Nat.lt_of_le_of_lt (put_lt (Nat.le_refl 0)) (by decide), ?_⟩
    refine ⟨_, rfl, _, rfl, x, CR, dx, _, rfl, upd_same, T_Rule.cl, T_Rule.n3, Nat.lt_of_le_of_lt (put_lt (put_lt (Nat.le_refl 0))) (by decide), ?_⟩
    refine ⟨_, rfl, _, rfl, x, CR, dx, _, rfl, upd_same, T_Rule.cl, T_Rule.n4, Nat.lt_of_le_of_lt (put_lt (put_lt (put_lt (Nat.le_refl 0)))) (by decide), ?_⟩
    refine ⟨_, rfl, _, rfl, x, CR, dx, _, rfl, upd_same, T_Rule.cl, T_Rule.n5, Nat.lt_of_le_of_lt (put_lt (put_lt (put_lt (put_lt (Nat.le_refl 0))))) (by decide), ?_⟩
    have b5 : But x H (upd (upd (upd (upd (upd H1 x (.ins CR dx (putF "parts" (.int p) []))) x (.ins CR dx (putF "step" (.int s') (putF "parts" (.int p) [])))) x (.ins CR dx (putF "grace" (.int g) (putF "step" (.int s') (putF "parts" (.int p) []))))) x (.ins CR dx (putF "last" (.bl l) (putF "grace" (.int g) (putF "step" (.int s') (putF "parts" (.int p) [])))))) x (.ins CR dx (putF "misses" (.int m) (putF "last" (.bl l) (putF "grace" (.int g) (putF "step" (.int s') (putF "parts" (.int p) []))))))) := (((((But.of s1).trans But.upd).trans But.upd).trans But.upd).trans But.upd).trans But.upd
    have e5 := upd_same (H := (upd (upd (upd (upd H1 x (.ins CR dx (putF "parts" (.int p) []))) x (.ins CR dx (putF "step" (.int s') (putF "parts" (.int p) [])))) x (.ins CR dx (putF "grace" (.int g) (putF "step" (.int s') (putF "parts" (.int p) []))))) x (.ins CR dx (putF "last" (.bl l) (putF "grace" (.int g) (putF "step" (.int s') (putF "parts" (.int p) []))))))) (a := x) (o := .ins CR dx (putF "misses" (.int m) (putF "last" (.bl l) (putF "grace" (.int g) (putF "step" (.int s') (putF "parts" (.int p) []))))))
    cases hk with
    | all a hA hl hb =>
      have hax : ∀ {G : Hp}, But x H G → SqT K G a (ks.map V.int) := fun t => by
        rcases hA with (h | ⟨o, h⟩) | h
        · exact .inl (.inl (t _ _ (ne_of h hx (by intro z; cases z)) h))
        · exact .inl (.inr ⟨o, t _ _ (ne_of h hx (by intro z; cases z)) h⟩)
        · exact .inr h
      refine ⟨_, rfl, _, _, _, _, true, rfl, .ty _, ty_of_dp (dpAll_intsT (hax b5)), kit_ty (a := "tuple") (by decide +kernel), _, rfl, iteT ⟨_, rfl, ?_⟩⟩
      refine ⟨_, rfl, x, CR, dx, _, rfl, e5, T_Rule.cl, T_Rule.n6, Nat.lt_of_le_of_lt (put_lt (put_lt (put_lt (put_lt (put_lt (Nat.le_refl 0)))))) (by decide), ?_⟩
      refine ⟨_, rfl, _, rfl, x, CR, dx, _, rfl, upd_same, T_Rule.cl, T_Rule.n7, Nat.lt_of_le_of_lt (put_lt (put_lt (put_lt (put_lt (put_lt (put_lt (Nat.le_refl 0))))))) (by decide), ?_⟩
      refine ⟨_, rfl, _, rfl, x, CR, dx, _, rfl, upd_same, T_Rule.cl, T_Rule.n8, Nat.lt_of_le_of_lt (put_lt (put_lt (put_lt (put_lt (put_lt (put_lt (put_lt (Nat.le_refl 0)))))))) (by decide), ?_⟩
      refine ⟨_, rfl, _, rfl, x, CR, dx, _, rfl, upd_same, T_Rule.cl, T_Rule.n9, Nat.lt_of_le_of_lt (put_lt (put_lt (put_lt (put_lt (put_lt (put_lt (put_lt (put_lt (Nat.le_refl 0))))))))) (by decide), ?_⟩
      refine q _ a ((((b5.trans But.upd).trans But.upd).trans But.upd).trans But.upd) (by rw [upd_same, ruleF_eq]) (hax ((((b5.trans But.upd).trans But.upd).trans But.upd).trans But.upd))
    | one k h0 h1 ek =>
      refine ⟨_, rfl, _, _, _, _, false, rfl, .ty _, .base (.int k), kit_ty (by decide +kernel), _, rfl, iteF ⟨_, rfl, (by show 1 ≤ sizeLine; decide), fun t ht => ⟨_, rfl, ?_⟩⟩⟩
      have nt : t ≠ x := (ne_of_none e5 ht).symm
      by_cases hp1 : p = 1
      · subst hp1
        refine .inr ⟨t, [.int k], rfl, rfl, SqT.of upd_same, by simp, ?_⟩
        have ek2 : ks = [k] := ek
        refine ⟨_, rfl, x, CR, dx, _, rfl, (by rw [upd_ne nt.symm]; exact e5), T_Rule.cl, T_Rule.n6, Nat.lt_of_le_of_lt (put_lt (put_lt (put_lt (put_lt (put_lt (Nat.le_refl 0)))))) (by decide), ?_⟩
        refine ⟨_, rfl, _, rfl, x, CR, dx, _, rfl, upd_same, T_Rule.cl, T_Rule.n7, Nat.lt_of_le_of_lt (put_lt (put_lt (put_lt (put_lt (put_lt (put_lt (Nat.le_refl 0))))))) (by decide), ?_⟩
        refine ⟨_, rfl, _, rfl, x, CR, dx, _, rfl, upd_same, T_Rule.cl, T_Rule.n8, Nat.lt_of_le_of_lt (put_lt (put_lt (put_lt (put_lt (put_lt (put_lt (put_lt (Nat.le_refl 0)))))))) (by decide), ?_⟩
        refine ⟨_, rfl, _, rfl, x, CR, dx, _, rfl, upd_same, T_Rule.cl, T_Rule.n9, Nat.lt_of_le_of_lt (put_lt (put_lt (put_lt (put_lt (put_lt (put_lt (put_lt (put_lt (Nat.le_refl 0))))))))) (by decide), ?_⟩
        refine q _ t ((((b5.trans (But.new ht)).trans But.upd).trans But.upd).trans But.upd |>.trans But.upd) (by rw [upd_same, ruleF_eq]) (by rw [ek2]; exact SqT.of (by rw [upd_ne nt, upd_ne nt, upd_ne nt, upd_ne nt, upd_same]; rfl))
      · have hp2 : 2 ≤ p := by have := F.p0; omega
        have hp6 : p ≤ 1000 := by have := F.p1; omega
        refine .inl ⟨t, p, [.int k], rfl, rfl, SqT.of upd_same, by simp, hp2, hp6, (by show 1 ≤ 1000; decide), fun t2 ht2 => ?_⟩
        have e6 : (upd (upd (upd (upd (upd (upd H1 x (.ins CR dx (putF "parts" (.int p) []))) x (.ins CR dx (putF "step" (.int s') (putF "parts" (.int p) [])))) x (.ins CR dx (putF "grace" (.int g) (putF "step" (.int s') (putF "parts" (.int p) []))))) x (.ins CR dx (putF "last" (.bl l) (putF "grace" (.int g) (putF "step" (.int s') (putF "parts" (.int p) [])))))) x (.ins CR dx (putF "misses" (.int m) (putF "last" (.bl l) (putF "grace" (.int g) (putF "step" (.int s') (putF "parts" (.int p) []))))))) t (.tup [.int k])) x = _ := (upd_ne nt.symm).trans e5
        have nt2 : t2 ≠ x := (ne_of_none e6 ht2).symm
        refine ⟨_, rfl, x, CR, dx, _, rfl, (by rw [upd_ne nt2.symm]; exact e6), T_Rule.cl, T_Rule.n6, Nat.lt_of_le_of_lt (put_lt (put_lt (put_lt (put_lt (put_lt (Nat.le_refl 0)))))) (by decide), ?_⟩
        refine ⟨_, rfl, _, rfl, x, CR, dx, _, rfl, upd_same, T_Rule.cl, T_Rule.n7, Nat.lt_of_le_of_lt (put_lt (put_lt (put_lt (put_lt (put_lt (put_lt (Nat.le_refl 0))))))) (by decide), ?_⟩
        refine ⟨_, rfl, _, rfl, x, CR, dx, _, rfl, upd_same, T_Rule.cl, T_Rule.n8, Nat.lt_of_le_of_lt (put_lt (put_lt (put_lt (put_lt (put_lt (put_lt (put_lt (Nat.le_refl 0)))))))) (by decide), ?_⟩
        refine ⟨_, rfl, _, rfl, x, CR, dx, _, rfl, upd_same, T_Rule.cl, T_Rule.n9, Nat.lt_of_le_of_lt (put_lt (put_lt (put_lt (put_lt (put_lt (put_lt (put_lt (put_lt (Nat.le_refl 0))))))))) (by decide), ?_⟩
        refine q _ t2 ((((b5.trans (But.new ht)).trans (But.new ht2)).trans But.upd).trans But.upd |>.trans But.upd |>.trans But.upd) (by rw [upd_same, ruleF_eq]) (SqT.of (by rw [upd_ne nt2, upd_ne nt2, upd_ne nt2, upd_ne nt2, upd_same, ek, rep1, List.map_replicate]))
/-! ### Rule_keeps -/
abbrev s_Rule_keeps : Stmt := inClass (topS 28) 1
abbrev N_Rule_keeps : List Str := ["self", "paid", "gone", "percent"]
theorem sc_Rule_keeps : FnScope N_Rule_keeps ["self", "paid", "gone"] (defScope s_Rule_keeps) := ⟨rfl, rfl, rfl, by decide +kernel, rfl, by decide +kernel, by decide +kernel⟩
def sp_Rule_keeps (K : PySem.W.Frag) (C : Addr) : Sp := fun vs H Q _ => ∃ (r : Addr) (i : Int) (gone : Bool) (f : Fg) (k : Int), vs = [.ref r, .int i, .bl gone] ∧ RuleAt K H C r f ∧ f.Ok ∧ 0 ≤ i ∧ i < f.p ∧ f.ks[i.toNat]? = some k ∧ Q (.int (keptV f k gone)) H
theorem ok_Rule_keeps {f : Addr} {fd : FuncData} {CR : Addr} (T_Rule : TRule K mg CR) (m_max : mg "max" = none) (m_min : mg "min" = none) (F : FunD K "keeps" "Rule.keeps" (defArgs s_Rule_keeps) (defBody s_Rule_keeps) (defScope s_Rule_keeps) [.bl false] [] f fd) : FnOk P w K mg base CX0 1 f fd ["self", "paid", "gone"] (sp_Rule_keeps K CR) := by
  refine okD F sc_Rule_keeps (fun vs H Q E h => ?_) (fun cdv A outer s H vs Q E hr h => ?_)
  · first | (obtain ⟨_, rfl, _⟩ := h; rfl) | (obtain ⟨_, _, rfl, _⟩ := h; rfl) | (obtain ⟨_, _, _, rfl, _⟩ := h; rfl) | (obtain ⟨_, _, _, _, rfl, _⟩ := h; rfl) | (obtain ⟨_, _, _, _, _, rfl, _⟩ := h; rfl) | (obtain ⟨_, _, _, _, _, _, rfl, _⟩ := h; rfl) | (obtain ⟨_, _, _, _, _, _, _, rfl, _⟩ := h; rfl) | (obtain ⟨_, _, _, _, _, _, _, _, rfl, _⟩ := h; rfl) | (obtain ⟨_, _, _, _, _, _, _, _, _, rfl, _⟩ := h; rfl) | (obtain ⟨_, _, _, _, _, _, _, _, _, _, rfl, _⟩ := h; rfl) | (obtain ⟨_, _, _, _, _, _, _, _, _, _, _, rfl, _⟩ := h; rfl) | (obtain ⟨_, _, _, _, _, _, _, _, _, _, _, _, rfl, _⟩ := h; rfl) | (obtain ⟨_, _, _, _, _, _, _, _, _, _, _, _, _, rfl, _⟩ := h; rfl) | (obtain ⟨_, _, _, _, _, _, _, _, _, _, _, _, _, _, rfl, _⟩ := h; rfl) | (obtain ⟨_, _, _, _, _, _, _, _, _, _, _, _, _, _, _, rfl, _⟩ := h; rfl)
  · have hu64 := hr.units
    obtain ⟨r, i, gone, f', k, rfl, ⟨dx, kt, h1, h2⟩, ok, i0, i1, hk, q⟩ := h
    refine ⟨_, (pss_cons (ps_set (i := 3) sc_Rule_keeps.nd rfl (.inl rfl) (pe_ix (kk_ixt K) (pe_fld (pv 0) rfl) (pe_callB (call_max2 rfl) (by rfl) m_max (by decide +kernel) (pa_cons pe_int (pa_cons (pe_callB (call_min2 rfl) (by rfl) m_min (by decide +kernel) (pa_cons (pv 1) (pa_cons (pe_op op_sub (pe_fld (pv 0) rfl) pe_int) pa_nil))) pa_nil))) (fun _ _ => rfl)))
      (pss_cons (ps_if (pt_val (pv 2))
         (pss_one (ps_ret (pe_callB (call_min2 rfl) (by rfl) m_min (by decide +kernel) (pa_cons pe_int (pa_cons (pe_op op_add (pv 3) (pe_fld (pv 0) rfl)) pa_nil)))))
         pss_nil)
      (pss_one (ps_ret (pv 3))))), ?_⟩
    have hidx : (if (if f'.p - 1 < i then f'.p - 1 else i) > 0 then (if f'.p - 1 < i then f'.p - 1 else i) else 0) = i := by
      rw [if_neg (show ¬ (f'.p - 1 < i) by omega)]
      split <;> omega
    have hat : atI (f'.ks.map V.int) i = some (.int k) := by
      obtain ⟨j, rfl⟩ := Int.eq_ofNat_of_zero_le i0
      rw [Int.toNat_natCast] at hk
      refine atI_nat ?_
      rw [List.getElem?_map, hk]
      rfl
    refine ⟨_, rfl, r, CR, dx, _, _, rfl, h1, T_Rule.cl, T_Rule.n6, lk6, _, rfl, _, rfl, r, CR, dx, _, _, rfl, h1, T_Rule.cl, T_Rule.n1, lk1, _, _, rfl, rfl, _, _, rfl, _, _, rfl, kt, _, _, .int k, rfl, rfl, h2, by rw [hidx]; exact hat, ?_⟩
    cases gone with
    | false => exact ⟨_, rfl, _, rfl, iteF ⟨_, rfl, q⟩⟩
    | true => exact ⟨_, rfl, _, rfl, iteT ⟨_, rfl, _, rfl, r, CR, dx, _, _, rfl, h1, T_Rule.cl, T_Rule.n7, lk7, _, _, rfl, rfl, _, _, rfl, q⟩⟩
/-! ### Rule___len__ -/
abbrev s_Rule___len__ : Stmt := inClass (topS 28) 4
abbrev N_Rule___len__ : List Str := ["self"]
theorem sc_Rule___len__ : FnScope N_Rule___len__ ["self"] (defScope s_Rule___len__) := ⟨rfl, rfl, rfl, by decide +kernel, rfl, by decide +kernel, by decide +kernel⟩
def sp_Rule___len__ (K : PySem.W.Frag) (C : Addr) : Sp := fun vs H Q _ => ∃ (r : Addr) (f : Fg), vs = [.ref r] ∧ RuleAt K H C r f ∧ Q (.int f.ks.length) H
theorem ok_Rule___len__ {f : Addr} {fd : FuncData} {CR : Addr} (T_Rule : TRule K mg CR) (m_len : mg "len" = none) (F : FunD K "__len__" "Rule.__len__" (defArgs s_Rule___len__) (defBody s_Rule___len__) (defScope s_Rule___len__) [] [] f fd) : FnOk P w K mg base CX0 1 f fd ["self"] (sp_Rule___len__ K CR) := by
  refine okD F sc_Rule___len__ (fun vs H Q E h => ?_) (fun cdv A outer s H vs Q E hr h => ?_)
  · first | (obtain ⟨_, rfl, _⟩ := h; rfl) | (obtain ⟨_, _, rfl, _⟩ := h; rfl) | (obtain ⟨_, _, _, rfl, _⟩ := h; rfl) | (obtain ⟨_, _, _, _, rfl, _⟩ := h; rfl) | (obtain ⟨_, _, _, _, _, rfl, _⟩ := h; rfl) | (obtain ⟨_, _, _, _, _, _, rfl, _⟩ := h; rfl) | (obtain ⟨_, _, _, _, _, _, _, rfl, _⟩ := h; rfl) | (obtain ⟨_, _, _, _, _, _, _, _, rfl, _⟩ := h; rfl) | (obtain ⟨_, _, _, _, _, _, _, _, _, rfl, _⟩ := h; rfl) | (obtain ⟨_, _, _, _, _, _, _, _, _, _, rfl, _⟩ := h; rfl) | (obtain ⟨_, _, _, _, _, _, _, _, _, _, _, rfl, _⟩ := h; rfl) | (obtain ⟨_, _, _, _, _, _, _, _, _, _, _, _, rfl, _⟩ := h; rfl) | (obtain ⟨_, _, _, _, _, _, _, _, _, _, _, _, _, rfl, _⟩ := h; rfl) | (obtain ⟨_, _, _, _, _, _, _, _, _, _, _, _, _, _, rfl, _⟩ := h; rfl) | (obtain ⟨_, _, _, _, _, _, _, _, _, _, _, _, _, _, _, rfl, _⟩ := h; rfl)
  · have hu64 := hr.units
    obtain ⟨r, f', rfl, ⟨dx, kt, h1, h2⟩, q⟩ := h
    refine ⟨_, (pss_one (ps_ret (pe_callB (kk_len K) (by rfl) m_len PySem.boot_len (pa_cons (pe_fld (pv 0) rfl) pa_nil)))), ?_⟩
    refine ⟨_, rfl, r, CR, dx, _, _, rfl, h1, T_Rule.cl, T_Rule.n6, lk6, kt, _, rfl, .inr h2, ?_⟩
    rw [List.length_map]
    exact q
/-! ### passed_to -/
abbrev s_passed_to : Stmt := topS 3
abbrev N_passed_to : List Str := ["rule", "state", "day", "word", "due", "paid", "missed"]
theorem sc_passed_to : FnScope N_passed_to ["rule", "state", "day"] (defScope s_passed_to) := ⟨rfl, rfl, rfl, by decide +kernel, rfl, by decide +kernel, by decide +kernel⟩
def sp_passed_to (K : PySem.W.Frag) (C : Addr) : Sp := fun vs H Q _ => ∃ (r a : Addr) (day : Int) (f : Fg) (c : Cs), vs = [.ref r, .ref a, .int day] ∧ RuleAt K H C r f ∧ StAt K H a c ∧ (c.w = .st → c.m ≤ f.m) ∧ ∀ H' b, Same H H' → StAt K H' b (passT f.s f.g f.m c day) → Q (.ref b) H'
theorem ok_passed_to {f : Addr} {fd : FuncData} (F : Fun K "passed_to" "passed_to" s_passed_to f fd) (g : mg "passed_to" = some (.ref f)) (bd : Binds K fd ["rule", "state", "day"] []) {CR : Addr} (T_Rule : TRule K mg CR) : CF P w K mg base 1 "passed_to" ["rule", "state", "day"] (sp_passed_to K CR) := by
  refine ⟨f, fd, F.ok sc_passed_to (fun vs H Q E h => ?_) (fun cdv A outer s H vs Q E hr h => ?_), g, F.kp, bd⟩
  · first | (obtain ⟨_, rfl, _⟩ := h; rfl) | (obtain ⟨_, _, rfl, _⟩ := h; rfl) | (obtain ⟨_, _, _, rfl, _⟩ := h; rfl) | (obtain ⟨_, _, _, _, rfl, _⟩ := h; rfl) | (obtain ⟨_, _, _, _, _, rfl, _⟩ := h; rfl) | (obtain ⟨_, _, _, _, _, _, rfl, _⟩ := h; rfl) | (obtain ⟨_, _, _, _, _, _, _, rfl, _⟩ := h; rfl) | (obtain ⟨_, _, _, _, _, _, _, _, rfl, _⟩ := h; rfl) | (obtain ⟨_, _, _, _, _, _, _, _, _, rfl, _⟩ := h; rfl) | (obtain ⟨_, _, _, _, _, _, _, _, _, _, rfl, _⟩ := h; rfl) | (obtain ⟨_, _, _, _, _, _, _, _, _, _, _, rfl, _⟩ := h; rfl) | (obtain ⟨_, _, _, _, _, _, _, _, _, _, _, _, rfl, _⟩ := h; rfl) | (obtain ⟨_, _, _, _, _, _, _, _, _, _, _, _, _, rfl, _⟩ := h; rfl) | (obtain ⟨_, _, _, _, _, _, _, _, _, _, _, _, _, _, rfl, _⟩ := h; rfl) | (obtain ⟨_, _, _, _, _, _, _, _, _, _, _, _, _, _, _, rfl, _⟩ := h; rfl)
  · have hu64 := hr.units
    obtain ⟨r, a, day, f', c, rfl, hR, hc, hm, q⟩ := h
    refine ⟨_, (pss_cons (ps_asg (pv 1) (pg_tup (by rfl) (pgs_cons (pg_name (i := 3) sc_passed_to.nd rfl (.inl rfl)) (pgs_cons (pg_name (i := 4) sc_passed_to.nd rfl (.inl rfl)) (pgs_cons (pg_name (i := 5) sc_passed_to.nd rfl (.inl rfl)) (pgs_cons (pg_name (i := 6) sc_passed_to.nd rfl (.inl rfl)) pgs_nil))))))
      (pss_cons (ps_if (pt_cmpR op_ne (pv 3) pe_str (nomark _))
         (pss_one (ps_ret (pv 1)))
         pss_nil)
      (pss_cons (ps_while PassesOwn.never (pt_cmpR op_lt (pe_op op_add (pv 4) (pe_fld (pv 0) rfl)) (pv 2) (nomark _))
         (pss_cons (ps_if (pt_cmpR op_eq (pv 6) (pe_fld (pv 0) rfl) (nomark _))
             (pss_one (ps_ret (pe_tup (pa_cons pe_str (pa_cons (pe_op op_add (pe_op op_add (pv 4) (pe_fld (pv 0) rfl)) pe_int) (pa_cons (pv 5) (pa_cons (pv 6) pa_nil)))))))
             pss_nil)
          (pss_cons (ps_aug (i := 6) sc_passed_to.nd rfl (.inl rfl) pe_int ip_add)
          (pss_one (ps_aug (i := 4) sc_passed_to.nd rfl (.inl rfl) (pe_fld (pv 0) rfl) ip_add)))))
      (pss_one (ps_ret (pe_tup (pa_cons pe_str (pa_cons (pv 4) (pa_cons (pv 5) (pa_cons (pv 6) pa_nil)))))))))), ?_⟩
    obtain ⟨dx, kt, h1, h2⟩ := id hR
    refine ⟨_, rfl, a, _, rfl, hc, rfl, _, _, rfl, _, _, rfl, _, _, rfl, _, _, rfl, rfl, ?_⟩
    refine ⟨_, rfl, rfl, _, rfl, ?_⟩
    rw [wS_st]
    by_cases hw : c.w = .st
    · rw [decide_eq_true hw]
      refine iteF ?_
      have e0 : passT f'.s f'.g f'.m c day = passN f'.s f'.g (f'.m - c.m).toNat c.d c.p c.m day := by
        unfold passT
        rw [hw]
      rw [e0] at q
      refine ⟨fun n σ H' => ∃ (d m : Int), σ = [some (.ref r), some (.ref a), some (.int day), some (.str (wS c.w)), some (.int d), some (.int c.p), some (.int m)] ∧ H' = H ∧ m ≤ f'.m ∧ n = (f'.m - m).toNat ∧ passN f'.s f'.g (f'.m - m).toNat d c.p m day = passN f'.s f'.g (f'.m - c.m).toNat c.d c.p c.m day, ⟨_, c.d, c.m, rfl, rfl, hm hw, rfl, rfl⟩, fun n σ H' h => ?_⟩
      · obtain ⟨d, m, rfl, rfl, hm2, hn, hp⟩ := h
        refine ⟨_, rfl, _, rfl, r, CR, dx, _, _, rfl, h1, T_Rule.cl, T_Rule.n3, lk3, _, _, rfl, rfl, _, rfl, _, _, rfl, rfl, _, rfl, ite2 (fun e => ?_) (fun e => ?_)⟩
        · have e1 := of_decide_eq_true e
          by_cases z1 : m = f'.m
          · refine ⟨fun _ _ => False, fun _ _ h => h.elim, ?_⟩
            refine ⟨_, rfl, _, rfl, r, CR, dx, _, _, rfl, h1, T_Rule.cl, T_Rule.n5, lk5, rfl, _, rfl, ite2 (fun z => ?_) (fun z => absurd (decide_eq_true (by rw [z1])) z)⟩
            refine ⟨_, rfl, _, rfl, r, CR, dx, _, _, rfl, h1, T_Rule.cl, T_Rule.n3, lk3, _, _, rfl, rfl, _, _, rfl, rfl, _, rfl, _, rfl, (by show 4 ≤ sizeLine; decide), fun t nt => ?_⟩
            refine q _ t (same_new nt) (SqT.of ?_)
            rw [upd_same, ← hp, z1, show (f'.m - f'.m).toNat = 0 by omega, passN_go e1]
            rfl
          · refine ⟨_, fun σ2 H2 h2 => ⟨n - 1, by omega, h2⟩, ?_⟩
            refine ⟨_, rfl, _, rfl, r, CR, dx, _, _, rfl, h1, T_Rule.cl, T_Rule.n5, lk5, rfl, _, rfl, ite2 (fun z => absurd (V.int.inj (of_decide_eq_true z)) z1) (fun z => ?_)⟩
            refine ⟨_, rfl, _, _, rfl, rfl, ?_⟩
            refine ⟨_, rfl, _, rfl, r, CR, dx, _, _, rfl, h1, T_Rule.cl, T_Rule.n2, lk2, _, _, rfl, rfl, ?_⟩
            refine ⟨d + f'.s, m + 1, rfl, rfl, by omega, by omega, ?_⟩
            rw [← hp, show (f'.m - m).toNat = (f'.m - (m + 1)).toNat + 1 by omega, passN_on e1]
        · have e1 : ¬ d + f'.g < day := fun y => e (decide_eq_true y)
          refine ⟨_, rfl, _, rfl, _, rfl, (by show 4 ≤ sizeLine; decide), fun t nt => ?_⟩
          refine q _ t (same_new nt) (SqT.of ?_)
          rw [upd_same, ← hp, passN_st e1]
          rfl
    · rw [decide_eq_false hw]
      rw [passT_over hw] at q
      exact iteT ⟨_, rfl, q _ a (Same.refl H) hc⟩
/-! ### paid_on -/
abbrev s_paid_on : Stmt := topS 4
abbrev N_paid_on : List Str := ["rule", "state", "day", "word", "due", "paid", "missed", "counted_from"]
theorem sc_paid_on : FnScope N_paid_on ["rule", "state", "day"] (defScope s_paid_on) := ⟨rfl, rfl, rfl, by decide +kernel, rfl, by decide +kernel, by decide +kernel⟩
def sp_paid_on (K : PySem.W.Frag) (C : Addr) : Sp := fun vs H Q _ => ∃ (r a : Addr) (day : Int) (f : Fg) (c : Cs), vs = [.ref r, .ref a, .int day] ∧ RuleAt K H C r f ∧ f.Ok ∧ StAt K H a c ∧ ∀ H' b, Same H H' → StAt K H' b (payT f.p f.s f.l c day) → Q (.ref b) H'
theorem ok_paid_on {f : Addr} {fd : FuncData} (F : Fun K "paid_on" "paid_on" s_paid_on f fd) (g : mg "paid_on" = some (.ref f)) (bd : Binds K fd ["rule", "state", "day"] []) {CR : Addr} (T_Rule : TRule K mg CR) (m_len : mg "len" = none) (C_Rule___len___0 : CMt P w K mg base CR 1 "__len__" ["self"] [] (sp_Rule___len__ K CR)) : CF P w K mg base 3 "paid_on" ["rule", "state", "day"] (sp_paid_on K CR) := by
  refine ⟨f, fd, F.ok sc_paid_on (fun vs H Q E h => ?_) (fun cdv A outer s H vs Q E hr h => ?_), g, F.kp, bd⟩
  · first | (obtain ⟨_, rfl, _⟩ := h; rfl) | (obtain ⟨_, _, rfl, _⟩ := h; rfl) | (obtain ⟨_, _, _, rfl, _⟩ := h; rfl) | (obtain ⟨_, _, _, _, rfl, _⟩ := h; rfl) | (obtain ⟨_, _, _, _, _, rfl, _⟩ := h; rfl) | (obtain ⟨_, _, _, _, _, _, rfl, _⟩ := h; rfl) | (obtain ⟨_, _, _, _, _, _, _, rfl, _⟩ := h; rfl) | (obtain ⟨_, _, _, _, _, _, _, _, rfl, _⟩ := h; rfl) | (obtain ⟨_, _, _, _, _, _, _, _, _, rfl, _⟩ := h; rfl) | (obtain ⟨_, _, _, _, _, _, _, _, _, _, rfl, _⟩ := h; rfl) | (obtain ⟨_, _, _, _, _, _, _, _, _, _, _, rfl, _⟩ := h; rfl) | (obtain ⟨_, _, _, _, _, _, _, _, _, _, _, _, rfl, _⟩ := h; rfl) | (obtain ⟨_, _, _, _, _, _, _, _, _, _, _, _, _, rfl, _⟩ := h; rfl) | (obtain ⟨_, _, _, _, _, _, _, _, _, _, _, _, _, _, rfl, _⟩ := h; rfl) | (obtain ⟨_, _, _, _, _, _, _, _, _, _, _, _, _, _, _, rfl, _⟩ := h; rfl)
  · have hu64 := hr.units
    obtain ⟨r, a, day, f', c, rfl, hR, ok, hc, q⟩ := h
    refine ⟨_, (pss_cons (ps_asg (pv 1) (pg_tup (by rfl) (pgs_cons (pg_name (i := 3) sc_paid_on.nd rfl (.inl rfl)) (pgs_cons (pg_name (i := 4) sc_paid_on.nd rfl (.inl rfl)) (pgs_cons (pg_name (i := 5) sc_paid_on.nd rfl (.inl rfl)) (pgs_cons (pg_name (i := 6) sc_paid_on.nd rfl (.inl rfl)) pgs_nil))))))
      (pss_cons (ps_if (pt_cmpR op_ne (pv 3) pe_str (nomark _))
         (pss_one (ps_ret (pv 1)))
         pss_nil)
      (pss_cons (ps_if (pt_cmpR op_eq (pe_op op_add (pv 5) pe_int) (pe_callB (call_lenO C_Rule___len___0 (hr.mono (by decide))) (by rfl) m_len PySem.boot_len (pa_cons (pv 0) pa_nil)) (nomark _))
         (pss_one (ps_ret (pe_tup (pa_cons pe_str (pa_cons (pv 2) (pa_cons (pe_op op_add (pv 5) pe_int) (pa_cons (pv 6) pa_nil)))))))
         pss_nil)
      (pss_cons (ps_set (i := 7) sc_paid_on.nd rfl (.inl rfl) (pe_ifExp (pt_val (pe_fld (pv 0) rfl)) (pv 2) (pv 4)))
      (pss_one (ps_ret (pe_tup (pa_cons pe_str (pa_cons (pe_op op_add (pv 7) (pe_fld (pv 0) rfl)) (pa_cons (pe_op op_add (pv 5) pe_int) (pa_cons (pv 6) pa_nil))))))))))), ?_⟩
    obtain ⟨dx, kt, h1, h2⟩ := id hR
    have p0 := ok.figs.p0
    have p1 := ok.figs.p1
    have pl := ok.len
    refine ⟨_, rfl, a, _, rfl, hc, rfl, _, _, rfl, _, _, rfl, _, _, rfl, _, _, rfl, rfl, ?_⟩
    refine ⟨_, rfl, rfl, _, rfl, ?_⟩
    rw [wS_st]
    by_cases hw : c.w = .st
    · rw [decide_eq_true hw]
      refine iteF ?_
      have e0 : payT f'.p f'.s f'.l c day = if c.p + 1 = f'.p then ⟨.so, day, c.p + 1, c.m⟩ else ⟨.st, (if f'.l then day else c.d) + f'.s, c.p + 1, c.m⟩ := by
        unfold payT
        rw [hw]
      rw [e0] at q
      refine ⟨_, rfl, _, _, rfl, rfl, _, rfl, r, dx, _, rfl, h1, r, f', rfl, hR, _, rfl, by omega, by omega, rfl, _, rfl, ite2 (fun z => ?_) (fun z => ?_)⟩
      · have z1 : c.p + 1 = f'.p := by
          have := V.int.inj (of_decide_eq_true z)
          omega
        rw [if_pos z1] at q
        refine ⟨_, rfl, _, rfl, _, _, rfl, rfl, _, rfl, (by show 4 ≤ sizeLine; decide), fun t nt => ?_⟩
        exact q _ t (same_new nt) (SqT.of upd_same)
      · have z1 : ¬ c.p + 1 = f'.p := fun y => z (decide_eq_true (by show V.int (c.p + 1) = _; rw [y, pl]))
        rw [if_neg z1] at q
        refine ⟨_, rfl, r, CR, dx, _, _, rfl, h1, T_Rule.cl, T_Rule.n4, lk4, _, rfl, ?_⟩
        cases hl : f'.l with
        | true =>
          rw [hl, if_pos rfl] at q
          refine iteT ⟨_, rfl, ?_⟩
          refine ⟨_, rfl, _, rfl, r, CR, dx, _, _, rfl, h1, T_Rule.cl, T_Rule.n2, lk2, _, _, rfl, rfl, _, rfl, _, _, rfl, rfl, _, rfl, (by show 4 ≤ sizeLine; decide), fun t nt => ?_⟩
          exact q _ t (same_new nt) (SqT.of upd_same)
        | false =>
          rw [hl, if_neg (by decide)] at q
          refine iteF ⟨_, rfl, ?_⟩
          refine ⟨_, rfl, _, rfl, r, CR, dx, _, _, rfl, h1, T_Rule.cl, T_Rule.n2, lk2, _, _, rfl, rfl, _, rfl, _, _, rfl, rfl, _, rfl, (by show 4 ≤ sizeLine; decide), fun t nt => ?_⟩
          exact q _ t (same_new nt) (SqT.of upd_same)
    · rw [decide_eq_false hw]
      rw [payT_over hw] at q
      exact iteT ⟨_, rfl, q _ a (Same.refl H) hc⟩
/-! ### last_day_of -/
abbrev s_last_day_of : Stmt := topS 5
abbrev N_last_day_of : List Str := ["rule", "state", "word", "due", "paid", "missed"]
theorem sc_last_day_of : FnScope N_last_day_of ["rule", "state"] (defScope s_last_day_of) := ⟨rfl, rfl, rfl, by decide +kernel, rfl, by decide +kernel, by decide +kernel⟩
def lastC (s g ms : Int) (c : Cs) : V := if c.w = .st then .int (c.d + (ms - c.m) * s + g) else .non
def sp_last_day_of (K : PySem.W.Frag) (C : Addr) : Sp := fun vs H Q _ => ∃ (r b : Addr) (f : Fg) (c : Cs), vs = [.ref r, .ref b] ∧ RuleAt K H C r f ∧ f.Ok ∧ StAt K H b c ∧ ∀ H', Same H H' → Q (lastC f.s f.g f.m c) H'
theorem ok_last_day_of {f : Addr} {fd : FuncData} (F : Fun K "last_day_of" "last_day_of" s_last_day_of f fd) (g : mg "last_day_of" = some (.ref f)) (bd : Binds K fd ["rule", "state"] []) {CR : Addr} (T_Rule : TRule K mg CR) : CF P w K mg base 1 "last_day_of" ["rule", "state"] (sp_last_day_of K CR) := by
  refine ⟨f, fd, F.ok sc_last_day_of (fun vs H Q E h => ?_) (fun cdv A outer s H vs Q E hr h => ?_), g, F.kp, bd⟩
  · first | (obtain ⟨_, rfl, _⟩ := h; rfl) | (obtain ⟨_, _, rfl, _⟩ := h; rfl) | (obtain ⟨_, _, _, rfl, _⟩ := h; rfl) | (obtain ⟨_, _, _, _, rfl, _⟩ := h; rfl) | (obtain ⟨_, _, _, _, _, rfl, _⟩ := h; rfl) | (obtain ⟨_, _, _, _, _, _, rfl, _⟩ := h; rfl) | (obtain ⟨_, _, _, _, _, _, _, rfl, _⟩ := h; rfl) | (obtain ⟨_, _, _, _, _, _, _, _, rfl, _⟩ := h; rfl) | (obtain ⟨_, _, _, _, _, _, _, _, _, rfl, _⟩ := h; rfl) | (obtain ⟨_, _, _, _, _, _, _, _, _, _, rfl, _⟩ := h; rfl) | (obtain ⟨_, _, _, _, _, _, _, _, _, _, _, rfl, _⟩ := h; rfl) | (obtain ⟨_, _, _, _, _, _, _, _, _, _, _, _, rfl, _⟩ := h; rfl) | (obtain ⟨_, _, _, _, _, _, _, _, _, _, _, _, _, rfl, _⟩ := h; rfl) | (obtain ⟨_, _, _, _, _, _, _, _, _, _, _, _, _, _, rfl, _⟩ := h; rfl) | (obtain ⟨_, _, _, _, _, _, _, _, _, _, _, _, _, _, _, rfl, _⟩ := h; rfl)
  · have hu64 := hr.units
    obtain ⟨r, b, f', c, rfl, hR, ok, hb, q⟩ := h
    refine ⟨_, (pss_cons (ps_asg (pv 1) (pg_tup (by rfl) (pgs_cons (pg_name (i := 2) sc_last_day_of.nd rfl (.inl rfl)) (pgs_cons (pg_name (i := 3) sc_last_day_of.nd rfl (.inl rfl)) (pgs_cons (pg_name (i := 4) sc_last_day_of.nd rfl (.inl rfl)) (pgs_cons (pg_name (i := 5) sc_last_day_of.nd rfl (.inl rfl)) pgs_nil))))))
      (pss_cons (ps_if (pt_cmpR op_ne (pv 2) pe_str (nomark _))
         (pss_one (ps_ret pe_non))
         pss_nil)
      (pss_one (ps_ret (pe_op op_add (pe_op op_add (pv 3) (pe_op op_mul (pe_op op_sub (pe_fld (pv 0) rfl) (pv 5)) (pe_fld (pv 0) rfl))) (pe_fld (pv 0) rfl)))))), ?_⟩
    have s0 := ok.figs.s0
    have s1 := ok.figs.s1
    have m0 := ok.figs.m0
    have m1 := ok.figs.m1
    obtain ⟨dx, kt, h1, h2⟩ := id hR
    unfold lastC at q
    have s2 := Same.refl H
    refine ⟨_, rfl, b, _, rfl, hb, rfl, _, _, rfl, _, _, rfl, _, _, rfl, _, _, rfl, rfl, ?_⟩
    refine ⟨_, rfl, rfl, _, rfl, ?_⟩
    rw [wS_st]
    by_cases hw : c.w = .st
    · rw [decide_eq_true hw]
      rw [if_pos hw] at q
      refine iteF ?_
      exact ⟨_, rfl, _, rfl, r, CR, dx, _, _, rfl, s2 _ _ h1, T_Rule.cl, T_Rule.n5, lk5, _, rfl, _, _, rfl, rfl, _, rfl, r, CR, dx, _, _, rfl, s2 _ _ h1, T_Rule.cl, T_Rule.n2, lk2, _, _, rfl, rfl, .inr ⟨by omega, by omega⟩, _, _, rfl, rfl, _, rfl, r, CR, dx, _, _, rfl, s2 _ _ h1, T_Rule.cl, T_Rule.n3, lk3, _, _, rfl, rfl, q _ s2⟩
    · rw [decide_eq_false hw]
      rw [if_neg hw] at q
      exact iteT (q _ s2)
/-! ### backs_of -/
abbrev s_backs_of : Stmt := topS 22
abbrev N_backs_of : List Str := ["payments", "day", "pence", "aside", "backs", "paid_on_day", "who", "most", "passed_over", "back"]
theorem sc_backs_of : FnScope N_backs_of ["payments", "day", "pence", "aside"] (defScope s_backs_of) := ⟨rfl, rfl, rfl, by decide +kernel, rfl, by decide +kernel, by decide +kernel⟩
def sp_backs_of (K : PySem.W.Frag) : Sp := fun vs H Q _ => ∃ (a : Addr) (day x : Int) (l : List Pr), vs = [.ref a, .int day, .int x, .int 0] ∧ RowsL H a l ∧ NN l ∧ l.length ≤ 900 ∧ ∀ H' b, H b = none → Same H H' → RowsL H' b (backR day l.reverse x) → Q (.ref b) H'
theorem take_rev {α : Type} {l : List α} {i : Nat} {x : α} (hi : i < l.length) (h : l[l.length - 1 - i]? = some x) : l.reverse.take (i + 1) = l.reverse.take i ++ [x] := by
  refine take_snoc ?_
  rw [List.getElem?_reverse hi]
  exact h
theorem bOne_len (day x : Int) (q : Pr) : (bOne day x q).length ≤ 1 := by
  unfold bOne
  split
  · exact Nat.le_refl _
  · exact Nat.zero_le _
theorem bFold_len (day : Int) : ∀ (R : List Pr) (a : Int × List Pr), ((R.foldl (bStep day) a).2).length ≤ a.2.length + R.length
  | [], a => Nat.le_refl _
  | q :: r, a => by
    have h := bFold_len day r (bStep day a q)
    have h2 := bOne_len day a.1 q
    rw [List.foldl_cons]
    have h3 : (bStep day a q).2.length = a.2.length + (bOne day a.1 q).length := List.length_append
    rw [List.length_cons]
    omega
theorem ok_backs_of {f : Addr} {fd : FuncData} (F : Fun K "backs_of" "backs_of" s_backs_of f fd) (g : mg "backs_of" = some (.ref f)) (bd : Binds K fd ["payments", "day", "pence", "aside"] []) (m_reversed : mg "reversed" = none) (m_min : mg "min" = none) : CF P w K mg base 1 "backs_of" ["payments", "day", "pence", "aside"] (sp_backs_of K) := by
  refine ⟨f, fd, F.ok sc_backs_of (fun vs H Q E h => ?_) (fun cdv A outer s H vs Q E hr h => ?_), g, F.kp, bd⟩
  · first | (obtain ⟨_, rfl, _⟩ := h; rfl) | (obtain ⟨_, _, rfl, _⟩ := h; rfl) | (obtain ⟨_, _, _, rfl, _⟩ := h; rfl) | (obtain ⟨_, _, _, _, rfl, _⟩ := h; rfl) | (obtain ⟨_, _, _, _, _, rfl, _⟩ := h; rfl) | (obtain ⟨_, _, _, _, _, _, rfl, _⟩ := h; rfl) | (obtain ⟨_, _, _, _, _, _, _, rfl, _⟩ := h; rfl) | (obtain ⟨_, _, _, _, _, _, _, _, rfl, _⟩ := h; rfl) | (obtain ⟨_, _, _, _, _, _, _, _, _, rfl, _⟩ := h; rfl) | (obtain ⟨_, _, _, _, _, _, _, _, _, _, rfl, _⟩ := h; rfl) | (obtain ⟨_, _, _, _, _, _, _, _, _, _, _, rfl, _⟩ := h; rfl) | (obtain ⟨_, _, _, _, _, _, _, _, _, _, _, _, rfl, _⟩ := h; rfl) | (obtain ⟨_, _, _, _, _, _, _, _, _, _, _, _, _, rfl, _⟩ := h; rfl) | (obtain ⟨_, _, _, _, _, _, _, _, _, _, _, _, _, _, rfl, _⟩ := h; rfl) | (obtain ⟨_, _, _, _, _, _, _, _, _, _, _, _, _, _, _, rfl, _⟩ := h; rfl)
  · have hu64 := hr.units
    obtain ⟨a, day, x, l, rfl, hl, nn, len, q⟩ := h
    refine ⟨_, (pss_cons (ps_set (i := 4) sc_backs_of.nd rfl (.inl rfl) (pe_lst pa_nil))
      (pss_cons (ps_for PassesOwn.never rfl (pi_reversed (by rfl) m_reversed (pa_cons (pv 0) pa_nil)) (pg_tup (by rfl) (pgs_cons (pg_name (i := 5) sc_backs_of.nd rfl (.inl rfl)) (pgs_cons (pg_name (i := 6) sc_backs_of.nd rfl (.inl rfl)) (pgs_cons (pg_name (i := 7) sc_backs_of.nd rfl (.inl rfl)) pgs_nil))))
         (pss_cons (ps_set (i := 8) sc_backs_of.nd rfl (.inl rfl) (pe_callB (call_min2 rfl) (by rfl) m_min (by decide +kernel) (pa_cons (pv 3) (pa_cons (pv 7) pa_nil))))
          (pss_cons (ps_aug (i := 3) sc_backs_of.nd rfl (.inl rfl) (pv 8) ip_sub)
          (pss_cons (ps_set (i := 9) sc_backs_of.nd rfl (.inl rfl) (pe_callB (call_min2 rfl) (by rfl) m_min (by decide +kernel) (pa_cons (pv 2) (pa_cons (pe_op op_sub (pv 7) (pv 8)) pa_nil))))
          (pss_cons (ps_aug (i := 2) sc_backs_of.nd rfl (.inl rfl) (pv 9) ip_sub)
          (pss_one (ps_if (pt_cmpR op_gt (pv 9) pe_int (nomark _))
             (pss_one (ps_expr (pe_bm PySem.F.plainAttrs_list PySem.F.slot_list_append PySem.F.type_list_append mt_append (pv 4) (pa_cons (pe_tup (pa_cons (pv 1) (pa_cons (pv 6) (pa_cons (pv 9) pa_nil)))) pa_nil))))
             pss_nil)))))))
      (pss_one (ps_ret (pv 4))))), ?_⟩
    obtain ⟨L, h1, h2, h3, h4⟩ := hl.len
    refine ⟨(by show 0 ≤ sizeLine; decide), fun b nb => ?_⟩
    have sB := same_new (o := .lst []) nb
    have ln : (refs L).length = L.length := List.length_map ..
    refine ⟨_, rfl, a, _, rfl, SqL.of (sB _ _ h1), RT.for_Itv (K := K) (a := a) (xs := refs L) (fun i σ G => ∃ s5 s6 s7 s8 s9, σ = [some (.ref a), some (.int day), some (.int ((l.reverse.take i).foldl (bStep day) (x, [])).1), some (.int 0), some (.ref b), s5, s6, s7, s8, s9] ∧ Same H G ∧ RowsL G b ((l.reverse.take i).foldl (bStep day) (x, [])).2) ⟨_, _, _, _, _, rfl, sB, [], upd_same, .nil, rfl⟩ (fun i σ G h => ?_) (fun i v σ G hi hv h => ?_) (fun σ G h => ?_)⟩
    · obtain ⟨_, _, _, _, _, _, sm, _⟩ := h
      exact sm.seq (SqL.of h1)
    · obtain ⟨s5, s6, s7, s8, s9, rfl, sm, hb⟩ := h
      obtain ⟨p, hp, rfl, hm⟩ := refs_at hv
      have hT := sm _ _ (h2 p hm)
      rw [ln] at hi hp
      have hx : l[l.length - 1 - i]? = some p.2 := by
        rw [← h3, List.getElem?_map, List.length_map, hp]
        rfl
      have p0 : 0 ≤ p.2.p := nn p.2 (List.mem_of_getElem? hx)
      have ht : l.reverse.take (i + 1) = l.reverse.take i ++ [p.2] := take_rev (by omega) hx
      rw [ht, List.foldl_append]
      have bl := bFold_len day (l.reverse.take i) (x, [])
      have tl : (l.reverse.take i).length ≤ i := by rw [List.length_take]; omega
      generalize (l.reverse.take i).foldl (bStep day) (x, []) = st at *
      have e0 : (if p.2.p < 0 then p.2.p else 0) = 0 := if_neg (by omega)
      refine ⟨p.1, _, rfl, SqT.of hT, rfl, _, _, rfl, _, _, rfl, _, _, rfl, rfl, ?_⟩
      refine ⟨_, rfl, _, rfl, _, _, rfl, ?_⟩
      rw [e0]
      refine ⟨_, rfl, _, rfl, _, _, rfl, rfl, ?_⟩
      refine ⟨_, rfl, _, rfl, _, rfl, _, _, rfl, rfl, _, _, rfl, ?_⟩
      refine ⟨_, rfl, _, rfl, _, _, rfl, rfl, ?_⟩
      have em : (if p.2.p - 0 < st.1 then p.2.p - 0 else st.1) = mn st.1 p.2.p := by
        rw [Int.sub_zero]
        rfl
      rw [em]
      refine ⟨_, rfl, _, _, rfl, rfl, _, rfl, ite2 (fun z => ?_) (fun z => ?_)⟩
      · have z1 := of_decide_eq_true z
        obtain ⟨S, hS1, hS2, hS3, hS4⟩ := hb.len
        refine ⟨_, rfl, .inl ⟨rfl, _, SqL.of hS1⟩, _, rfl, _, rfl, _, rfl, (by show 3 ≤ sizeLine; decide), fun t nt => ?_⟩
        have sT := same_new (o := .tup [V.int day, .str p.2.w, .int (mn st.1 p.2.p)]) nt
        have hSl : (refs S).length < sizeLine := by
          have e : (([] : List Pr).length : Nat) = 0 := rfl
          rw [List.length_map]
          refine small1000 ?_
          simp only at bl
          omega
        refine ⟨b, _, _, rfl, rfl, sT _ _ hS1, hSl, ?_⟩
        have ne : b ≠ t := fun e => by
          rw [← e, hS1] at nt
          cases nt
        refine ⟨_, _, _, _, _, rfl, ?_, S ++ [(t, ⟨day, p.2.w, mn st.1 p.2.p⟩)], ?_, ?_, ?_⟩
        · intro c o e
          rw [upd_ne (ne_of_none e nb)]
          exact sT _ _ (sm _ _ e)
        · rw [upd_same, refs_snoc]
        · refine ((hS2.same sT).updL (sT _ _ hS1)).snoc ?_
          show (upd (upd G t _) b _) t = _
          rw [upd_ne ne.symm, upd_same]
          rfl
        · rw [List.map_append, hS3]
          show _ = st.2 ++ bOne day st.1 p.2
          unfold bOne
          rw [if_pos z1]
          rfl
      · refine ⟨_, _, _, _, _, rfl, sm, ?_⟩
        have z1 : ¬ 0 < mn st.1 p.2.p := fun y => z (decide_eq_true y)
        show RowsL G b (st.2 ++ bOne day st.1 p.2)
        unfold bOne
        rw [if_neg z1, List.append_nil]
        exact hb
    · obtain ⟨s5, s6, s7, s8, s9, rfl, sm, hb⟩ := h
      have hn : (refs L).length = l.reverse.length := by rw [ln, h4, List.length_reverse]
      rw [hn, List.take_of_length_le (Nat.le_refl _), bStep_fold, List.nil_append] at hb
      exact ⟨_, rfl, q _ b nb sm hb⟩
/-! ### Putby___init__ -/
abbrev s_Putby___init__ : Stmt := inClass (topS 21) 0
abbrev N_Putby___init__ : List Str := ["self", "rule", "price", "begin"]
theorem sc_Putby___init__ : FnScope N_Putby___init__ ["self", "rule", "price", "begin"] (defScope s_Putby___init__) := ⟨rfl, rfl, rfl, by decide +kernel, rfl, by decide +kernel, by decide +kernel⟩
def newM (price b : Int) : Md := ⟨price, b, b, b, 0, 0, [], [], 0, none⟩
def sp_Putby___init__ (K : PySem.W.Frag) (C : Cl) : Sp := fun vs H Q _ => ∃ (x dx r : Addr) (price b : Int) (f : Fg), vs = [.ref x, .ref r, .int price, .int b] ∧ H x = some (.ins C.p dx []) ∧ RuleAt K H C.r r f ∧ ∀ H' pi pk, But x H H' → H pi = none → H pk = none → pi ≠ pk → PbAt K C H' x r pi pk f (newM price b) → Q .non H'
theorem pbF_new (r : Addr) (M : Md) (ct pi pk : Addr) : putF "paid_back" (.ref pk) (putF "paid_in" (.ref pi) (putF "course" (.ref ct) (putF "passed" (.int M.day) (putF "begin" (.int M.begin_) (putF "asked" (.int M.price) (putF "rule" (.ref r) [])))))) = pbF r M ct pi pk := by
  have nd : (["rule", "asked", "begin", "passed", "course", "paid_in", "paid_back"] : List Str).Nodup := by decide +kernel
  simp only [List.nodup_cons, List.mem_cons, List.not_mem_nil, or_false, not_or] at nd
  obtain ⟨⟨a1, a2, a3, a4, a5, a6⟩, ⟨b1, b2, b3, b4, b5⟩, ⟨c1, c2, c3, c4⟩, ⟨d1, d2, d3⟩, ⟨e1, e2⟩, f1, _⟩ := nd
  simp only [putF, if_neg a1, if_neg a2, if_neg a3, if_neg a4, if_neg a5, if_neg a6, if_neg b1, if_neg b2, if_neg b3, if_neg b4, if_neg b5, if_neg c1, if_neg c2, if_neg c3, if_neg c4, if_neg d1, if_neg d2, if_neg d3, if_neg e1, if_neg e2, if_neg f1]
  rfl
theorem ok_Putby___init__ {f : Addr} {fd : FuncData} {CC : Cl} (T_Rule : TRule K mg CC.r) (T_Putby : TPutby K mg CC.p) (TE : TErrs K mg CC) {A_AT_FIRST : Addr} (g_AT_FIRST : mg "AT_FIRST" = some (.ref A_AT_FIRST)) (q_AT_FIRST : ∀ H, SqT K H A_AT_FIRST [.str (Str.ofString "stands"), .int 0, .int 0, .int 0]) (F : FunD K "__init__" "Putby.__init__" (defArgs s_Putby___init__) (defBody s_Putby___init__) (defScope s_Putby___init__) [] [] f fd) : FnOk P w K mg base CX0 1 f fd ["self", "rule", "price", "begin"] (sp_Putby___init__ K CC) := by
  refine okD F sc_Putby___init__ (fun vs H Q E h => ?_) (fun cdv A outer s H vs Q E hr h => ?_)
  · first | (obtain ⟨_, rfl, _⟩ := h; rfl) | (obtain ⟨_, _, rfl, _⟩ := h; rfl) | (obtain ⟨_, _, _, rfl, _⟩ := h; rfl) | (obtain ⟨_, _, _, _, rfl, _⟩ := h; rfl) | (obtain ⟨_, _, _, _, _, rfl, _⟩ := h; rfl) | (obtain ⟨_, _, _, _, _, _, rfl, _⟩ := h; rfl) | (obtain ⟨_, _, _, _, _, _, _, rfl, _⟩ := h; rfl) | (obtain ⟨_, _, _, _, _, _, _, _, rfl, _⟩ := h; rfl) | (obtain ⟨_, _, _, _, _, _, _, _, _, rfl, _⟩ := h; rfl) | (obtain ⟨_, _, _, _, _, _, _, _, _, _, rfl, _⟩ := h; rfl) | (obtain ⟨_, _, _, _, _, _, _, _, _, _, _, rfl, _⟩ := h; rfl) | (obtain ⟨_, _, _, _, _, _, _, _, _, _, _, _, rfl, _⟩ := h; rfl) | (obtain ⟨_, _, _, _, _, _, _, _, _, _, _, _, _, rfl, _⟩ := h; rfl) | (obtain ⟨_, _, _, _, _, _, _, _, _, _, _, _, _, _, rfl, _⟩ := h; rfl) | (obtain ⟨_, _, _, _, _, _, _, _, _, _, _, _, _, _, _, rfl, _⟩ := h; rfl)
  · have hu64 := hr.units
    obtain ⟨x, dx, r, price, b, f', rfl, hx, hR, q⟩ := h
    refine ⟨_, (pss_cons (ps_fld (pv 0) (pv 1) rfl)
      (pss_cons (ps_fld (pv 0) (pv 2) rfl)
      (pss_cons (ps_fld (pv 0) (pv 3) rfl)
      (pss_cons (ps_fld (pv 0) (pv 3) rfl)
      (pss_cons (ps_fld (pv 0) (pe_glob (v := .ref A_AT_FIRST) (by rfl) g_AT_FIRST rfl) rfl)
      (pss_cons (ps_fld (pv 0) (pe_lst pa_nil) rfl)
      (pss_one (ps_fld (pv 0) (pe_lst pa_nil) rfl)))))))), ?_⟩
    have rx : r ≠ x := fun e => by
      obtain ⟨d2, kt, h1, _⟩ := hR
      rw [e, hx] at h1
      have l : (0 : Nat) = 9 := congrArg List.length (HO.ins.inj (Option.some.inj h1)).2.2
      exact absurd l (by decide)
    refine ⟨_, rfl, _, rfl, x, CC.p, dx, _, rfl, hx, T_Putby.cl, T_Putby.n1, (by decide), ?_⟩
    refine ⟨_, rfl, _, rfl, x, CC.p, dx, _, rfl, upd_same, T_Putby.cl, T_Putby.n2, Nat.lt_of_le_of_lt (putF_len _ _ _) (by decide), ?_⟩
    refine ⟨_, rfl, _, rfl, x, CC.p, dx, _, rfl, upd_same, T_Putby.cl, T_Putby.n3, Nat.lt_of_le_of_lt (put_lt (putF_len _ _ _)) (by decide), ?_⟩
    refine ⟨_, rfl, _, rfl, x, CC.p, dx, _, rfl, upd_same, T_Putby.cl, T_Putby.n4, Nat.lt_of_le_of_lt (put_lt (put_lt (putF_len _ _ _))) (by decide), ?_⟩
    refine ⟨_, rfl, x, CC.p, dx, _, rfl, upd_same, T_Putby.cl, T_Putby.n5, Nat.lt_of_le_of_lt (put_lt (put_lt (put_lt (putF_len _ _ _)))) (by decide), ?_⟩
    refine ⟨(by show 0 ≤ sizeLine; decide), fun pi ni => ?_⟩
    refine ⟨_, rfl, x, CC.p, dx, _, rfl, (by rw [upd_ne (fun e => by rw [← e, upd_same] at ni; cases ni), upd_same]), T_Putby.cl, T_Putby.n6, Nat.lt_of_le_of_lt (put_lt (put_lt (put_lt (put_lt (putF_len _ _ _))))) (by decide), ?_⟩
    refine ⟨(by show 0 ≤ sizeLine; decide), fun pk nk => ?_⟩
    have x1 : x ≠ pi := fun e => by
      rw [← e, upd_same] at ni
      cases ni
    have x2 : x ≠ pk := fun e => by
      rw [← e, upd_same] at nk
      cases nk
    have ip : pi ≠ pk := fun e => by
      rw [← e, upd_ne x1.symm, upd_same] at nk
      cases nk
    have ni0 : H pi = none := by
      rw [upd_ne x1.symm, upd_ne x1.symm, upd_ne x1.symm, upd_ne x1.symm, upd_ne x1.symm] at ni
      exact ni
    have nk0 : H pk = none := by
      rw [upd_ne x2.symm, upd_ne ip.symm, upd_ne x2.symm, upd_ne x2.symm, upd_ne x2.symm, upd_ne x2.symm, upd_ne x2.symm] at nk
      exact nk
    refine ⟨_, rfl, x, CC.p, dx, _, rfl, (by rw [upd_ne x2, upd_same]), T_Putby.cl, T_Putby.n7, Nat.lt_of_le_of_lt (put_lt (put_lt (put_lt (put_lt (put_lt (putF_len _ _ _)))))) (by decide), ?_⟩
    have e7 := pbF_new r (newM price b) A_AT_FIRST pi pk
    have t : But x H (upd (upd (upd (upd (upd (upd (upd (upd (upd H x (.ins CC.p dx (putF "rule" (V.ref r) []))) x (.ins CC.p dx (putF "asked" (V.int price) (putF "rule" (V.ref r) [])))) x (.ins CC.p dx (putF "begin" (V.int b) (putF "asked" (V.int price) (putF "rule" (V.ref r) []))))) x (.ins CC.p dx (putF "passed" (V.int b) (putF "begin" (V.int b) (putF "asked" (V.int price) (putF "rule" (V.ref r) [])))))) x (.ins CC.p dx (putF "course" (V.ref A_AT_FIRST) (putF "passed" (V.int b) (putF "begin" (V.int b) (putF "asked" (V.int price) (putF "rule" (V.ref r) []))))))) pi (.lst [])) x (.ins CC.p dx (putF "paid_in" (V.ref pi) (putF "course" (V.ref A_AT_FIRST) (putF "passed" (V.int b) (putF "begin" (V.int b) (putF "asked" (V.int price) (putF "rule" (V.ref r) [])))))))) pk (.lst [])) x (.ins CC.p dx (putF "paid_back" (V.ref pk) (putF "paid_in" (V.ref pi) (putF "course" (V.ref A_AT_FIRST) (putF "passed" (V.int b) (putF "begin" (V.int b) (putF "asked" (V.int price) (putF "rule" (V.ref r) []))))))))) := fun c o ne hc => by
      rw [upd_ne ne, upd_ne (ne_of_none hc nk0), upd_ne ne, upd_ne (ne_of_none hc ni0), upd_ne ne, upd_ne ne, upd_ne ne, upd_ne ne, upd_ne ne]
      exact hc
    refine q _ pi pk t ni0 nk0 ip ⟨⟨.st, 0, 0, 0⟩, ⟨dx, A_AT_FIRST, ?_, ?_, q_AT_FIRST _, ⟨[], ?_, .nil, rfl⟩, ⟨[], ?_, .nil, rfl⟩⟩, ?_⟩
    · rw [upd_same]
      exact congrArg (fun z => some (HO.ins CC.p dx z)) e7
    · obtain ⟨d2, kt, h1, h2⟩ := hR
      refine ⟨d2, kt, t _ _ rx h1, ?_⟩
      rcases h2 with (h | ⟨o, h⟩) | h
      · exact .inl (.inl (t _ _ (ne_of h hx (by intro z; cases z)) h))
      · exact .inl (.inr ⟨o, t _ _ (ne_of h hx (by intro z; cases z)) h⟩)
      · exact .inr h
    · rw [upd_ne x1.symm, upd_ne ip, upd_ne x1.symm, upd_same]
      rfl
    · rw [upd_ne x2.symm, upd_same]
      rfl
    · show (⟨.st, 0, 0, 0⟩ : Cs) = ⟨.st, b - b, 0, 0⟩
      rw [Int.sub_self]
section
variable {K : PySem.W.Frag} {C : Cl} {H : Hp} {x r pi pk : Addr} {f : Fg} {M : Md} {c : Cs}
abbrev stV (b : Int) (c : Cs) : List V := if c.w = .st then [.str (wS c.w), .int (b + c.d), .int c.p, .int c.m] else [.str (wS c.w), .int (b + c.d)]
theorem Tyes {J : It} {L : List (Addr × Pr)} {D : Addr} {Qd : Hp → Prop} (h : ∀ G, Same H G → G D = some (.lst ((L.map (·.2)).map fun q => V.int q.p)) → Qd G) : ∀ G, Same H G → G D = some (.lst ((L.filter fun _ => true).map fun q => V.int q.2.p)) → Qd G := fun G s e => by
  refine h G s ?_
  rw [e, List.filter_eq_self.mpr (fun _ _ => rfl), List.map_map]
  rfl
end
/-! ### Putby_paid -/
abbrev s_Putby_paid : Stmt := inClass (topS 21) 7
abbrev N_Putby_paid : List Str := ["self", "day", "who", "pence"]
theorem sc_Putby_paid : FnScope N_Putby_paid ["self"] (defScope s_Putby_paid) := ⟨rfl, rfl, rfl, by decide +kernel, rfl, by decide +kernel, by decide +kernel⟩
def sp_Putby_paid (K : PySem.W.Frag) (C : Cl) : Sp := fun vs H Q _ => ∃ (x r pi pk : Addr) (f : Fg) (M : Md) (c : Cs), vs = [.ref x] ∧ PbC K C H x r pi pk f M c ∧ M.pays.length ≤ 900 ∧ ∀ H', Same H H' → Q (.int (sumP M.pays)) H'
theorem ok_Putby_paid {f : Addr} {fd : FuncData} {CC : Cl} (T_Rule : TRule K mg CC.r) (T_Putby : TPutby K mg CC.p) (TE : TErrs K mg CC) (m_sum : mg "sum" = none) (F : FunD K "paid" "Putby.paid" (defArgs s_Putby_paid) (defBody s_Putby_paid) (defScope s_Putby_paid) [] [] f fd) : FnOk P w K mg base CX0 1 f fd ["self"] (sp_Putby_paid K CC) := by
  refine okD F sc_Putby_paid (fun vs H Q E h => ?_) (fun cdv A outer s H vs Q E hr h => ?_)
  · first | (obtain ⟨_, rfl, _⟩ := h; rfl) | (obtain ⟨_, _, rfl, _⟩ := h; rfl) | (obtain ⟨_, _, _, rfl, _⟩ := h; rfl) | (obtain ⟨_, _, _, _, rfl, _⟩ := h; rfl) | (obtain ⟨_, _, _, _, _, rfl, _⟩ := h; rfl) | (obtain ⟨_, _, _, _, _, _, rfl, _⟩ := h; rfl) | (obtain ⟨_, _, _, _, _, _, _, rfl, _⟩ := h; rfl) | (obtain ⟨_, _, _, _, _, _, _, _, rfl, _⟩ := h; rfl) | (obtain ⟨_, _, _, _, _, _, _, _, _, rfl, _⟩ := h; rfl) | (obtain ⟨_, _, _, _, _, _, _, _, _, _, rfl, _⟩ := h; rfl) | (obtain ⟨_, _, _, _, _, _, _, _, _, _, _, rfl, _⟩ := h; rfl) | (obtain ⟨_, _, _, _, _, _, _, _, _, _, _, _, rfl, _⟩ := h; rfl) | (obtain ⟨_, _, _, _, _, _, _, _, _, _, _, _, _, rfl, _⟩ := h; rfl) | (obtain ⟨_, _, _, _, _, _, _, _, _, _, _, _, _, _, rfl, _⟩ := h; rfl) | (obtain ⟨_, _, _, _, _, _, _, _, _, _, _, _, _, _, _, rfl, _⟩ := h; rfl)
  · have hu64 := hr.units
    obtain ⟨x, r, pi, pk, f', M, c, rfl, ⟨dx, ct, h1, h2, h3, h5, h6⟩, len, q⟩ := h
    refine ⟨_, (pss_one (ps_ret (pe_callB (kk_sum K rfl) (by rfl) m_sum (by decide +kernel) (pa_cons (pe_lc (own := [("day", 1), ("who", 2), ("pence", 3)]) (g := (gTup K 3 (gCons (gName 1) (gCons (gName 2) (gCons (gName 3) gNil))))) (tt := tYes) rfl sc_Putby_paid.nd (pi_list (pe_fld (pv 0) rfl)) (blkOk_by (own := [("day", 1), ("who", 2), ("pence", 3)]) (N := N_Putby_paid) (sc := defScope s_Putby_paid) (by decide +kernel)) (fun _ _ _ _ _ => (pg_tup (by rfl) (pgs_cons (pg_name (i := 1) sc_Putby_paid.nd rfl (.inl rfl)) (pgs_cons (pg_name (i := 2) sc_Putby_paid.nd rfl (.inl rfl)) (pgs_cons (pg_name (i := 3) sc_Putby_paid.nd rfl (.inl rfl)) pgs_nil))))) (fun _ _ _ _ _ => pts_nil) (fun _ _ _ _ _ => (pv 3))) pa_nil)))), ?_⟩
    obtain ⟨L, e1, e2, e3, e4⟩ := h5.len
    refine ⟨_, rfl, x, CC.p, dx, _, _, rfl, h1, T_Putby.cl, T_Putby.n6, b6, pi, rfl, ⟨_, SqL.of e1⟩, fun D hD => rows_lc (fun _ => true) (fun q => V.int q.2.p) (jok_l (SqL.of e1)) e2 (by omega) hD (fun q hq G s hG Y N y n => ?_) (Tyes (J := Itl K pi) fun G s hG => ?_)⟩
    · exact ⟨q.1, _, rfl, SqT.of hG, rfl, _, _, rfl, _, _, rfl, _, _, rfl, rfl, rfl, iteT (B := N G) ⟨_, rfl, y rfl⟩⟩
    · refine ⟨D, (L.map (·.2)).map (·.p), rfl, SqL.of (hG.trans (by rw [List.map_map, List.map_map, List.map_map]; rfl)), ?_⟩
      rw [e3, sumP_sum]
      exact q G s
/-! ### Putby_given_back -/
abbrev s_Putby_given_back : Stmt := inClass (topS 21) 15
abbrev N_Putby_given_back : List Str := ["self", "day", "who", "pence"]
theorem sc_Putby_given_back : FnScope N_Putby_given_back ["self"] (defScope s_Putby_given_back) := ⟨rfl, rfl, rfl, by decide +kernel, rfl, by decide +kernel, by decide +kernel⟩
def sp_Putby_given_back (K : PySem.W.Frag) (C : Cl) : Sp := fun vs H Q _ => ∃ (x r pi pk : Addr) (f : Fg) (M : Md) (c : Cs), vs = [.ref x] ∧ PbC K C H x r pi pk f M c ∧ M.backs.length ≤ 900 ∧ ∀ H', Same H H' → Q (.int (sumP M.backs)) H'
theorem ok_Putby_given_back {f : Addr} {fd : FuncData} {CC : Cl} (T_Rule : TRule K mg CC.r) (T_Putby : TPutby K mg CC.p) (TE : TErrs K mg CC) (m_sum : mg "sum" = none) (F : FunD K "given_back" "Putby.given_back" (defArgs s_Putby_given_back) (defBody s_Putby_given_back) (defScope s_Putby_given_back) [] [] f fd) : FnOk P w K mg base CX0 1 f fd ["self"] (sp_Putby_given_back K CC) := by
  refine okD F sc_Putby_given_back (fun vs H Q E h => ?_) (fun cdv A outer s H vs Q E hr h => ?_)
  · first | (obtain ⟨_, rfl, _⟩ := h; rfl) | (obtain ⟨_, _, rfl, _⟩ := h; rfl) | (obtain ⟨_, _, _, rfl, _⟩ := h; rfl) | (obtain ⟨_, _, _, _, rfl, _⟩ := h; rfl) | (obtain ⟨_, _, _, _, _, rfl, _⟩ := h; rfl) | (obtain ⟨_, _, _, _, _, _, rfl, _⟩ := h; rfl) | (obtain ⟨_, _, _, _, _, _, _, rfl, _⟩ := h; rfl) | (obtain ⟨_, _, _, _, _, _, _, _, rfl, _⟩ := h; rfl) | (obtain ⟨_, _, _, _, _, _, _, _, _, rfl, _⟩ := h; rfl) | (obtain ⟨_, _, _, _, _, _, _, _, _, _, rfl, _⟩ := h; rfl) | (obtain ⟨_, _, _, _, _, _, _, _, _, _, _, rfl, _⟩ := h; rfl) | (obtain ⟨_, _, _, _, _, _, _, _, _, _, _, _, rfl, _⟩ := h; rfl) | (obtain ⟨_, _, _, _, _, _, _, _, _, _, _, _, _, rfl, _⟩ := h; rfl) | (obtain ⟨_, _, _, _, _, _, _, _, _, _, _, _, _, _, rfl, _⟩ := h; rfl) | (obtain ⟨_, _, _, _, _, _, _, _, _, _, _, _, _, _, _, rfl, _⟩ := h; rfl)
  · have hu64 := hr.units
    obtain ⟨x, r, pi, pk, f', M, c, rfl, ⟨dx, ct, h1, h2, h3, h5, h6⟩, len, q⟩ := h
    refine ⟨_, (pss_one (ps_ret (pe_callB (kk_sum K rfl) (by rfl) m_sum (by decide +kernel) (pa_cons (pe_lc (own := [("day", 1), ("who", 2), ("pence", 3)]) (g := (gTup K 3 (gCons (gName 1) (gCons (gName 2) (gCons (gName 3) gNil))))) (tt := tYes) rfl sc_Putby_given_back.nd (pi_list (pe_fld (pv 0) rfl)) (blkOk_by (own := [("day", 1), ("who", 2), ("pence", 3)]) (N := N_Putby_given_back) (sc := defScope s_Putby_given_back) (by decide +kernel)) (fun _ _ _ _ _ => (pg_tup (by rfl) (pgs_cons (pg_name (i := 1) sc_Putby_given_back.nd rfl (.inl rfl)) (pgs_cons (pg_name (i := 2) sc_Putby_given_back.nd rfl (.inl rfl)) (pgs_cons (pg_name (i := 3) sc_Putby_given_back.nd rfl (.inl rfl)) pgs_nil))))) (fun _ _ _ _ _ => pts_nil) (fun _ _ _ _ _ => (pv 3))) pa_nil)))), ?_⟩
    obtain ⟨L, e1, e2, e3, e4⟩ := h6.len
    refine ⟨_, rfl, x, CC.p, dx, _, _, rfl, h1, T_Putby.cl, T_Putby.n7, b7, pk, rfl, ⟨_, SqL.of e1⟩, fun D hD => rows_lc (fun _ => true) (fun q => V.int q.2.p) (jok_l (SqL.of e1)) e2 (by omega) hD (fun q hq G s hG Y N y n => ?_) (Tyes (J := Itl K pk) fun G s hG => ?_)⟩
    · exact ⟨q.1, _, rfl, SqT.of hG, rfl, _, _, rfl, _, _, rfl, _, _, rfl, rfl, rfl, iteT (B := N G) ⟨_, rfl, y rfl⟩⟩
    · refine ⟨D, (L.map (·.2)).map (·.p), rfl, SqL.of (hG.trans (by rw [List.map_map, List.map_map, List.map_map]; rfl)), ?_⟩
      rw [e3, sumP_sum]
      exact q G s
/-! ### Putby_price -/
abbrev s_Putby_price : Stmt := inClass (topS 21) 6
abbrev N_Putby_price : List Str := ["self"]
theorem sc_Putby_price : FnScope N_Putby_price ["self"] (defScope s_Putby_price) := ⟨rfl, rfl, rfl, by decide +kernel, rfl, by decide +kernel, by decide +kernel⟩
def sp_Putby_price (K : PySem.W.Frag) (C : Cl) : Sp := fun vs H Q _ => ∃ (x r pi pk : Addr) (f : Fg) (M : Md) (c : Cs), vs = [.ref x] ∧ PbC K C H x r pi pk f M c ∧ Q (.int M.price) H
theorem ok_Putby_price {f : Addr} {fd : FuncData} {CC : Cl} (T_Rule : TRule K mg CC.r) (T_Putby : TPutby K mg CC.p) (TE : TErrs K mg CC) (F : FunD K "price" "Putby.price" (defArgs s_Putby_price) (defBody s_Putby_price) (defScope s_Putby_price) [] [] f fd) : FnOk P w K mg base CX0 1 f fd ["self"] (sp_Putby_price K CC) := by
  refine okD F sc_Putby_price (fun vs H Q E h => ?_) (fun cdv A outer s H vs Q E hr h => ?_)
  · first | (obtain ⟨_, rfl, _⟩ := h; rfl) | (obtain ⟨_, _, rfl, _⟩ := h; rfl) | (obtain ⟨_, _, _, rfl, _⟩ := h; rfl) | (obtain ⟨_, _, _, _, rfl, _⟩ := h; rfl) | (obtain ⟨_, _, _, _, _, rfl, _⟩ := h; rfl) | (obtain ⟨_, _, _, _, _, _, rfl, _⟩ := h; rfl) | (obtain ⟨_, _, _, _, _, _, _, rfl, _⟩ := h; rfl) | (obtain ⟨_, _, _, _, _, _, _, _, rfl, _⟩ := h; rfl) | (obtain ⟨_, _, _, _, _, _, _, _, _, rfl, _⟩ := h; rfl) | (obtain ⟨_, _, _, _, _, _, _, _, _, _, rfl, _⟩ := h; rfl) | (obtain ⟨_, _, _, _, _, _, _, _, _, _, _, rfl, _⟩ := h; rfl) | (obtain ⟨_, _, _, _, _, _, _, _, _, _, _, _, rfl, _⟩ := h; rfl) | (obtain ⟨_, _, _, _, _, _, _, _, _, _, _, _, _, rfl, _⟩ := h; rfl) | (obtain ⟨_, _, _, _, _, _, _, _, _, _, _, _, _, _, rfl, _⟩ := h; rfl) | (obtain ⟨_, _, _, _, _, _, _, _, _, _, _, _, _, _, _, rfl, _⟩ := h; rfl)
  · have hu64 := hr.units
    obtain ⟨x, r, pi, pk, f', M, c, rfl, ⟨dx, ct, h1, h2, h3, h5, h6⟩, q⟩ := h
    refine ⟨_, (pss_one (ps_ret (pe_fld (pv 0) rfl))), ?_⟩
    exact ⟨_, rfl, x, CC.p, dx, _, _, rfl, h1, T_Putby.cl, T_Putby.n2, b2, q⟩
/-! ### Putby_state -/
abbrev s_Putby_state : Stmt := inClass (topS 21) 5
abbrev N_Putby_state : List Str := ["self", "word", "day", "paid", "missed"]
theorem sc_Putby_state : FnScope N_Putby_state ["self"] (defScope s_Putby_state) := ⟨rfl, rfl, rfl, by decide +kernel, rfl, by decide +kernel, by decide +kernel⟩
def sp_Putby_state (K : PySem.W.Frag) (C : Cl) : Sp := fun vs H Q _ => ∃ (x r pi pk : Addr) (f : Fg) (M : Md) (c : Cs), vs = [.ref x] ∧ PbC K C H x r pi pk f M c ∧ ∀ H' t, H t = none → Same H H' → H' t = some (.tup (stV M.begin_ c)) → Q (.ref t) H'
theorem ok_Putby_state {f : Addr} {fd : FuncData} {CC : Cl} (T_Rule : TRule K mg CC.r) (T_Putby : TPutby K mg CC.p) (TE : TErrs K mg CC) (F : FunD K "state" "Putby.state" (defArgs s_Putby_state) (defBody s_Putby_state) (defScope s_Putby_state) [] [] f fd) : FnOk P w K mg base CX0 1 f fd ["self"] (sp_Putby_state K CC) := by
  refine okD F sc_Putby_state (fun vs H Q E h => ?_) (fun cdv A outer s H vs Q E hr h => ?_)
  · first | (obtain ⟨_, rfl, _⟩ := h; rfl) | (obtain ⟨_, _, rfl, _⟩ := h; rfl) | (obtain ⟨_, _, _, rfl, _⟩ := h; rfl) | (obtain ⟨_, _, _, _, rfl, _⟩ := h; rfl) | (obtain ⟨_, _, _, _, _, rfl, _⟩ := h; rfl) | (obtain ⟨_, _, _, _, _, _, rfl, _⟩ := h; rfl) | (obtain ⟨_, _, _, _, _, _, _, rfl, _⟩ := h; rfl) | (obtain ⟨_, _, _, _, _, _, _, _, rfl, _⟩ := h; rfl) | (obtain ⟨_, _, _, _, _, _, _, _, _, rfl, _⟩ := h; rfl) | (obtain ⟨_, _, _, _, _, _, _, _, _, _, rfl, _⟩ := h; rfl) | (obtain ⟨_, _, _, _, _, _, _, _, _, _, _, rfl, _⟩ := h; rfl) | (obtain ⟨_, _, _, _, _, _, _, _, _, _, _, _, rfl, _⟩ := h; rfl) | (obtain ⟨_, _, _, _, _, _, _, _, _, _, _, _, _, rfl, _⟩ := h; rfl) | (obtain ⟨_, _, _, _, _, _, _, _, _, _, _, _, _, _, rfl, _⟩ := h; rfl) | (obtain ⟨_, _, _, _, _, _, _, _, _, _, _, _, _, _, _, rfl, _⟩ := h; rfl)
  · have hu64 := hr.units
    obtain ⟨x, r, pi, pk, f', M, c, rfl, ⟨dx, ct, h1, h2, h3, h5, h6⟩, q⟩ := h
    refine ⟨_, (pss_cons (ps_asg (pe_fld (pv 0) rfl) (pg_tup (by rfl) (pgs_cons (pg_name (i := 1) sc_Putby_state.nd rfl (.inl rfl)) (pgs_cons (pg_name (i := 2) sc_Putby_state.nd rfl (.inl rfl)) (pgs_cons (pg_name (i := 3) sc_Putby_state.nd rfl (.inl rfl)) (pgs_cons (pg_name (i := 4) sc_Putby_state.nd rfl (.inl rfl)) pgs_nil))))))
      (pss_cons (ps_if (pt_cmpR op_eq (pv 1) pe_str (nomark _))
         (pss_one (ps_ret (pe_tup (pa_cons (pv 1) (pa_cons (pe_op op_add (pe_fld (pv 0) rfl) (pv 2)) (pa_cons (pv 3) (pa_cons (pv 4) pa_nil)))))))
         pss_nil)
      (pss_one (ps_ret (pe_tup (pa_cons (pv 1) (pa_cons (pe_op op_add (pe_fld (pv 0) rfl) (pv 2)) pa_nil))))))), ?_⟩
    refine ⟨_, rfl, x, CC.p, dx, _, _, rfl, h1, T_Putby.cl, T_Putby.n5, b5, ct, _, rfl, h3, rfl, _, _, rfl, _, _, rfl, _, _, rfl, _, _, rfl, rfl, ?_⟩
    refine ⟨_, rfl, rfl, _, rfl, ?_⟩
    rw [wS_st]
    by_cases hw : c.w = .st
    · rw [decide_eq_true hw]
      refine iteT ⟨_, rfl, _, rfl, x, CC.p, dx, _, _, rfl, h1, T_Putby.cl, T_Putby.n3, b3, _, rfl, _, _, rfl, rfl, _, rfl, _, rfl, (by show 4 ≤ sizeLine; decide), fun t nt => q _ t nt (same_new nt) ?_⟩
      rw [upd_same]
      unfold stV
      rw [if_pos hw]
    · rw [decide_eq_false hw]
      refine iteF ⟨_, rfl, _, rfl, x, CC.p, dx, _, _, rfl, h1, T_Putby.cl, T_Putby.n3, b3, _, rfl, _, _, rfl, rfl, (by show 2 ≤ sizeLine; decide), fun t nt => q _ t nt (same_new nt) ?_⟩
      rw [upd_same]
      unfold stV
      rw [if_neg hw]
/-! ### Putby_kept -/
abbrev s_Putby_kept : Stmt := inClass (topS 21) 8
abbrev N_Putby_kept : List Str := ["self"]
theorem sc_Putby_kept : FnScope N_Putby_kept ["self"] (defScope s_Putby_kept) := ⟨rfl, rfl, rfl, by decide +kernel, rfl, by decide +kernel, by decide +kernel⟩
def sp_Putby_kept (K : PySem.W.Frag) (C : Cl) : Sp := fun vs H Q _ => ∃ (x r pi pk : Addr) (f : Fg) (M : Md) (c : Cs), vs = [.ref x] ∧ PbC K C H x r pi pk f M c ∧ M.pays.length ≤ 900 ∧ M.backs.length ≤ 900 ∧ ∀ H', Same H H' → Q (.int (if c.w = .st then 0 else sumP M.pays - sumP M.backs)) H'
theorem ok_Putby_kept {f : Addr} {fd : FuncData} {CC : Cl} (T_Rule : TRule K mg CC.r) (T_Putby : TPutby K mg CC.p) (TE : TErrs K mg CC) (C_Putby_paid_0 : CMt P w K mg base CC.p 1 "paid" ["self"] [] (sp_Putby_paid K CC)) (C_Putby_given_back_0 : CMt P w K mg base CC.p 1 "given_back" ["self"] [] (sp_Putby_given_back K CC)) (F : FunD K "kept" "Putby.kept" (defArgs s_Putby_kept) (defBody s_Putby_kept) (defScope s_Putby_kept) [] [] f fd) : FnOk P w K mg base CX0 2 f fd ["self"] (sp_Putby_kept K CC) := by
  refine okD F sc_Putby_kept (fun vs H Q E h => ?_) (fun cdv A outer s H vs Q E hr h => ?_)
  · first | (obtain ⟨_, rfl, _⟩ := h; rfl) | (obtain ⟨_, _, rfl, _⟩ := h; rfl) | (obtain ⟨_, _, _, rfl, _⟩ := h; rfl) | (obtain ⟨_, _, _, _, rfl, _⟩ := h; rfl) | (obtain ⟨_, _, _, _, _, rfl, _⟩ := h; rfl) | (obtain ⟨_, _, _, _, _, _, rfl, _⟩ := h; rfl) | (obtain ⟨_, _, _, _, _, _, _, rfl, _⟩ := h; rfl) | (obtain ⟨_, _, _, _, _, _, _, _, rfl, _⟩ := h; rfl) | (obtain ⟨_, _, _, _, _, _, _, _, _, rfl, _⟩ := h; rfl) | (obtain ⟨_, _, _, _, _, _, _, _, _, _, rfl, _⟩ := h; rfl) | (obtain ⟨_, _, _, _, _, _, _, _, _, _, _, rfl, _⟩ := h; rfl) | (obtain ⟨_, _, _, _, _, _, _, _, _, _, _, _, rfl, _⟩ := h; rfl) | (obtain ⟨_, _, _, _, _, _, _, _, _, _, _, _, _, rfl, _⟩ := h; rfl) | (obtain ⟨_, _, _, _, _, _, _, _, _, _, _, _, _, _, rfl, _⟩ := h; rfl) | (obtain ⟨_, _, _, _, _, _, _, _, _, _, _, _, _, _, _, rfl, _⟩ := h; rfl)
  · have hu64 := hr.units
    obtain ⟨x, r, pi, pk, f', M, c, rfl, hP, l1, l2, q⟩ := h
    refine ⟨_, (pss_cons (ps_if (pt_cmpR op_eq (pe_ix (kk_ixt K) (pe_fld (pv 0) rfl) pe_int (fun _ _ => rfl)) pe_str (nomark _))
         (pss_one (ps_ret pe_int))
         pss_nil)
      (pss_one (ps_ret (pe_op op_sub (pe_mt0 C_Putby_paid_0 T_Putby.cl (hr.mono (by decide)) (pv 0)) (pe_mt0 C_Putby_given_back_0 T_Putby.cl (hr.mono (by decide)) (pv 0)))))), ?_⟩
    obtain ⟨dx, ct, h1, h2, h3, h5, h6⟩ := id hP
    refine ⟨_, rfl, x, CC.p, dx, _, _, rfl, h1, T_Putby.cl, T_Putby.n5, b5, ct, _, _, _, rfl, rfl, h3, rfl, rfl, _, rfl, ?_⟩
    rw [wS_st]
    by_cases hw : c.w = .st
    · rw [decide_eq_true hw]
      rw [if_pos hw] at q
      exact iteT (q _ (Same.refl H))
    · rw [decide_eq_false hw]
      rw [if_neg hw] at q
      refine iteF ⟨_, rfl, x, dx, _, rfl, h1, b0 (by decide +kernel), x, r, pi, pk, f', M, c, rfl, hP, l1, fun H1 s1 => ?_⟩
      exact ⟨_, rfl, x, dx, _, rfl, s1 _ _ h1, b0 (by decide +kernel), x, r, pi, pk, f', M, c, rfl, hP.same s1, l2, fun H2 s2 => ⟨_, _, rfl, rfl, q _ (s1.trans s2)⟩⟩
/-! ### Putby_backs -/
abbrev s_Putby_backs : Stmt := inClass (topS 21) 9
abbrev N_Putby_backs : List Str := ["self"]
theorem sc_Putby_backs : FnScope N_Putby_backs ["self"] (defScope s_Putby_backs) := ⟨rfl, rfl, rfl, by decide +kernel, rfl, by decide +kernel, by decide +kernel⟩
def sp_Putby_backs (K : PySem.W.Frag) (C : Cl) : Sp := fun vs H Q _ => ∃ (x r pi pk : Addr) (f : Fg) (M : Md) (c : Cs), vs = [.ref x] ∧ PbC K C H x r pi pk f M c ∧ ∀ H' t, H t = none → Same H H' → RowsL H' t M.backs → Q (.ref t) H'
theorem ok_Putby_backs {f : Addr} {fd : FuncData} {CC : Cl} (T_Rule : TRule K mg CC.r) (T_Putby : TPutby K mg CC.p) (TE : TErrs K mg CC) (m_list : mg "list" = none) (F : FunD K "backs" "Putby.backs" (defArgs s_Putby_backs) (defBody s_Putby_backs) (defScope s_Putby_backs) [] [] f fd) : FnOk P w K mg base CX0 1 f fd ["self"] (sp_Putby_backs K CC) := by
  refine okD F sc_Putby_backs (fun vs H Q E h => ?_) (fun cdv A outer s H vs Q E hr h => ?_)
  · first | (obtain ⟨_, rfl, _⟩ := h; rfl) | (obtain ⟨_, _, rfl, _⟩ := h; rfl) | (obtain ⟨_, _, _, rfl, _⟩ := h; rfl) | (obtain ⟨_, _, _, _, rfl, _⟩ := h; rfl) | (obtain ⟨_, _, _, _, _, rfl, _⟩ := h; rfl) | (obtain ⟨_, _, _, _, _, _, rfl, _⟩ := h; rfl) | (obtain ⟨_, _, _, _, _, _, _, rfl, _⟩ := h; rfl) | (obtain ⟨_, _, _, _, _, _, _, _, rfl, _⟩ := h; rfl) | (obtain ⟨_, _, _, _, _, _, _, _, _, rfl, _⟩ := h; rfl) | (obtain ⟨_, _, _, _, _, _, _, _, _, _, rfl, _⟩ := h; rfl) | (obtain ⟨_, _, _, _, _, _, _, _, _, _, _, rfl, _⟩ := h; rfl) | (obtain ⟨_, _, _, _, _, _, _, _, _, _, _, _, rfl, _⟩ := h; rfl) | (obtain ⟨_, _, _, _, _, _, _, _, _, _, _, _, _, rfl, _⟩ := h; rfl) | (obtain ⟨_, _, _, _, _, _, _, _, _, _, _, _, _, _, rfl, _⟩ := h; rfl) | (obtain ⟨_, _, _, _, _, _, _, _, _, _, _, _, _, _, _, rfl, _⟩ := h; rfl)
  · have hu64 := hr.units
    obtain ⟨x, r, pi, pk, f', M, c, rfl, ⟨dx, ct, h1, h2, h3, h5, L, e1, e2, e3⟩, q⟩ := h
    refine ⟨_, (pss_one (ps_ret (pe_callTy (kk_list K) (by rfl) m_list (by decide +kernel) (pa_cons (pe_fld (pv 0) rfl) pa_nil)))), ?_⟩
    refine ⟨_, rfl, x, CC.p, dx, _, _, rfl, h1, T_Putby.cl, T_Putby.n7, b7, pk, _, rfl, .inl (SqL.of e1), fun t nt => q _ t nt (same_new nt) ⟨L, upd_same, e2.same (same_new nt), e3⟩⟩
/-! ### Putby_payments -/
abbrev s_Putby_payments : Stmt := inClass (topS 21) 10
abbrev N_Putby_payments : List Str := ["self"]
theorem sc_Putby_payments : FnScope N_Putby_payments ["self"] (defScope s_Putby_payments) := ⟨rfl, rfl, rfl, by decide +kernel, rfl, by decide +kernel, by decide +kernel⟩
def sp_Putby_payments (K : PySem.W.Frag) (C : Cl) : Sp := fun vs H Q _ => ∃ (x r pi pk : Addr) (f : Fg) (M : Md) (c : Cs), vs = [.ref x] ∧ PbC K C H x r pi pk f M c ∧ ∀ H' t, H t = none → Same H H' → RowsL H' t M.pays → Q (.ref t) H'
theorem ok_Putby_payments {f : Addr} {fd : FuncData} {CC : Cl} (T_Rule : TRule K mg CC.r) (T_Putby : TPutby K mg CC.p) (TE : TErrs K mg CC) (m_list : mg "list" = none) (F : FunD K "payments" "Putby.payments" (defArgs s_Putby_payments) (defBody s_Putby_payments) (defScope s_Putby_payments) [] [] f fd) : FnOk P w K mg base CX0 1 f fd ["self"] (sp_Putby_payments K CC) := by
  refine okD F sc_Putby_payments (fun vs H Q E h => ?_) (fun cdv A outer s H vs Q E hr h => ?_)
  · first | (obtain ⟨_, rfl, _⟩ := h; rfl) | (obtain ⟨_, _, rfl, _⟩ := h; rfl) | (obtain ⟨_, _, _, rfl, _⟩ := h; rfl) | (obtain ⟨_, _, _, _, rfl, _⟩ := h; rfl) | (obtain ⟨_, _, _, _, _, rfl, _⟩ := h; rfl) | (obtain ⟨_, _, _, _, _, _, rfl, _⟩ := h; rfl) | (obtain ⟨_, _, _, _, _, _, _, rfl, _⟩ := h; rfl) | (obtain ⟨_, _, _, _, _, _, _, _, rfl, _⟩ := h; rfl) | (obtain ⟨_, _, _, _, _, _, _, _, _, rfl, _⟩ := h; rfl) | (obtain ⟨_, _, _, _, _, _, _, _, _, _, rfl, _⟩ := h; rfl) | (obtain ⟨_, _, _, _, _, _, _, _, _, _, _, rfl, _⟩ := h; rfl) | (obtain ⟨_, _, _, _, _, _, _, _, _, _, _, _, rfl, _⟩ := h; rfl) | (obtain ⟨_, _, _, _, _, _, _, _, _, _, _, _, _, rfl, _⟩ := h; rfl) | (obtain ⟨_, _, _, _, _, _, _, _, _, _, _, _, _, _, rfl, _⟩ := h; rfl) | (obtain ⟨_, _, _, _, _, _, _, _, _, _, _, _, _, _, _, rfl, _⟩ := h; rfl)
  · have hu64 := hr.units
    obtain ⟨x, r, pi, pk, f', M, c, rfl, ⟨dx, ct, h1, h2, h3, ⟨L, e1, e2, e3⟩, h6⟩, q⟩ := h
    refine ⟨_, (pss_one (ps_ret (pe_callTy (kk_list K) (by rfl) m_list (by decide +kernel) (pa_cons (pe_fld (pv 0) rfl) pa_nil)))), ?_⟩
    refine ⟨_, rfl, x, CC.p, dx, _, _, rfl, h1, T_Putby.cl, T_Putby.n6, b6, pi, _, rfl, .inl (SqL.of e1), fun t nt => q _ t nt (same_new nt) ⟨L, upd_same, e2.same (same_new nt), e3⟩⟩
/-! ### Putby_last_day -/
abbrev s_Putby_last_day : Stmt := inClass (topS 21) 11
abbrev N_Putby_last_day : List Str := ["self", "last"]
theorem sc_Putby_last_day : FnScope N_Putby_last_day ["self"] (defScope s_Putby_last_day) := ⟨rfl, rfl, rfl, by decide +kernel, rfl, by decide +kernel, by decide +kernel⟩
def lastB (f : Fg) (b : Int) (c : Cs) : V := if c.w = .st then .int (b + (c.d + (f.m - c.m) * f.s + f.g)) else .non
def sp_Putby_last_day (K : PySem.W.Frag) (C : Cl) : Sp := fun vs H Q _ => ∃ (x r pi pk : Addr) (f : Fg) (M : Md) (c : Cs), vs = [.ref x] ∧ PbC K C H x r pi pk f M c ∧ f.Ok ∧ ∀ H', Same H H' → Q (lastB f M.begin_ c) H'
theorem ok_Putby_last_day {f : Addr} {fd : FuncData} {CC : Cl} (T_Rule : TRule K mg CC.r) (T_Putby : TPutby K mg CC.p) (TE : TErrs K mg CC) (C_last_day_of : CF P w K mg base 1 "last_day_of" ["rule", "state"] (sp_last_day_of K CC.r)) (F : FunD K "last_day" "Putby.last_day" (defArgs s_Putby_last_day) (defBody s_Putby_last_day) (defScope s_Putby_last_day) [] [] f fd) : FnOk P w K mg base CX0 2 f fd ["self"] (sp_Putby_last_day K CC) := by
  refine okD F sc_Putby_last_day (fun vs H Q E h => ?_) (fun cdv A outer s H vs Q E hr h => ?_)
  · first | (obtain ⟨_, rfl, _⟩ := h; rfl) | (obtain ⟨_, _, rfl, _⟩ := h; rfl) | (obtain ⟨_, _, _, rfl, _⟩ := h; rfl) | (obtain ⟨_, _, _, _, rfl, _⟩ := h; rfl) | (obtain ⟨_, _, _, _, _, rfl, _⟩ := h; rfl) | (obtain ⟨_, _, _, _, _, _, rfl, _⟩ := h; rfl) | (obtain ⟨_, _, _, _, _, _, _, rfl, _⟩ := h; rfl) | (obtain ⟨_, _, _, _, _, _, _, _, rfl, _⟩ := h; rfl) | (obtain ⟨_, _, _, _, _, _, _, _, _, rfl, _⟩ := h; rfl) | (obtain ⟨_, _, _, _, _, _, _, _, _, _, rfl, _⟩ := h; rfl) | (obtain ⟨_, _, _, _, _, _, _, _, _, _, _, rfl, _⟩ := h; rfl) | (obtain ⟨_, _, _, _, _, _, _, _, _, _, _, _, rfl, _⟩ := h; rfl) | (obtain ⟨_, _, _, _, _, _, _, _, _, _, _, _, _, rfl, _⟩ := h; rfl) | (obtain ⟨_, _, _, _, _, _, _, _, _, _, _, _, _, _, rfl, _⟩ := h; rfl) | (obtain ⟨_, _, _, _, _, _, _, _, _, _, _, _, _, _, _, rfl, _⟩ := h; rfl)
  · have hu64 := hr.units
    obtain ⟨x, r, pi, pk, f', M, c, rfl, ⟨dx, ct, h1, h2, h3, h5, h6⟩, ok, q⟩ := h
    refine ⟨_, (pss_cons (ps_set (i := 1) sc_Putby_last_day.nd rfl (.inl rfl) (pe_cf C_last_day_of (hr.mono (by decide)) (by rfl) (pa_cons (pe_fld (pv 0) rfl) (pa_cons (pe_fld (pv 0) rfl) pa_nil))))
      (pss_one (ps_ret (pe_ifExp (pt_cmpR op_isN (pv 1) pe_non (nomark _)) pe_non (pe_op op_add (pe_fld (pv 0) rfl) (pv 1)))))), ?_⟩
    refine ⟨_, rfl, x, CC.p, dx, _, _, rfl, h1, T_Putby.cl, T_Putby.n1, b1, _, rfl, x, CC.p, dx, _, _, rfl, h1, T_Putby.cl, T_Putby.n5, b5, r, ct, f', c, rfl, h2, ok, h3, fun H1 s1 => ?_⟩
    have q1 := q H1 s1
    unfold lastB at q1
    unfold lastC
    by_cases hw : c.w = .st
    · rw [if_pos hw]
      rw [if_pos hw] at q1
      exact ⟨_, rfl, rfl, _, rfl, iteF ⟨_, rfl, x, CC.p, dx, _, _, rfl, s1 _ _ h1, T_Putby.cl, T_Putby.n3, b3, _, rfl, _, _, rfl, rfl, q1⟩⟩
    · rw [if_neg hw]
      rw [if_neg hw] at q1
      exact ⟨_, rfl, rfl, _, rfl, iteT q1⟩
/-! ### Putby_next_part -/
abbrev s_Putby_next_part : Stmt := inClass (topS 21) 13
abbrev N_Putby_next_part : List Str := ["self"]
theorem sc_Putby_next_part : FnScope N_Putby_next_part ["self"] (defScope s_Putby_next_part) := ⟨rfl, rfl, rfl, by decide +kernel, rfl, by decide +kernel, by decide +kernel⟩
theorem parts_head {p m : Int} (hm : 1 ≤ m) (hp : 0 ≤ p) : atI ((partsL p m).map V.int) 0 = some (.int (-(-p / m))) := by
  have hr0 := Int.emod_nonneg p (show m ≠ 0 by omega)
  have hr1 := Int.emod_lt_of_pos p (show 0 < m by omega)
  have e := Int.mul_ediv_add_emod p m
  have e1 := Int.mul_ediv_add_emod (-p) m
  have e2 := Int.emod_nonneg (-p) (show m ≠ 0 by omega)
  have e3 := Int.emod_lt_of_pos (-p) (show 0 < m by omega)
  refine atI_nat (j := 0) ?_
  unfold partsL
  by_cases z : p % m = 0
  · rw [z]
    have e4 : -(-p / m) = p / m := by
      have d : m ∣ p := Int.dvd_of_emod_eq_zero z
      rw [Int.neg_ediv_of_dvd d]
      omega
    rw [e4, show (0 : Int).toNat = 0 from rfl, List.replicate_zero, List.nil_append, show (m - 0).toNat = (m - 1).toNat + 1 by omega, List.replicate_succ]
    rfl
  · have e4 : -(-p / m) = p / m + 1 := by
      have h1 : m * (-p / m + p / m + 1) = 0 := by
        have a : m * (-p / m) + m * (p / m) = -p - (-p) % m + (p - p % m) := by omega
        have b : (-p) % m + p % m = m := by
          have c1 : m ∣ ((-p) % m + p % m) := by
            refine ⟨-(-p / m) - p / m, ?_⟩
            rw [Int.mul_sub, Int.mul_neg]
            omega
          obtain ⟨k, hk⟩ := c1
          have k1 : k = 1 := by
            have k0 : 0 < k := by
              apply Int.lt_of_mul_lt_mul_left (a := m) _ (by omega)
              omega
            have k2 : k < 2 := by
              apply Int.lt_of_mul_lt_mul_left (a := m) _ (by omega)
              omega
            omega
          rw [hk, k1, Int.mul_one]
        rw [Int.mul_add, Int.mul_add, Int.mul_one]
        omega
      have h2 := (Int.mul_eq_zero.mp h1).resolve_left (by omega)
      omega
    rw [e4, show (p % m).toNat = (p % m - 1).toNat + 1 by omega, List.replicate_succ]
    rfl
def sp_Putby_next_part (K : PySem.W.Frag) (C : Cl) : Sp := fun vs H Q _ => ∃ (x r pi pk : Addr) (f : Fg) (M : Md) (c : Cs), vs = [.ref x] ∧ PbC K C H x r pi pk f M c ∧ f.Ok ∧ M.pays.length ≤ 900 ∧ 0 ≤ M.price - sumP M.pays ∧ M.price - sumP M.pays ≤ 1000000000 ∧ 0 ≤ c.p ∧ c.p < f.p ∧ ∀ H', Same H H' → Q (.int (-(-(M.price - sumP M.pays) / (f.p - c.p)))) H'
theorem ok_Putby_next_part {f : Addr} {fd : FuncData} {CC : Cl} (T_Rule : TRule K mg CC.r) (T_Putby : TPutby K mg CC.p) (TE : TErrs K mg CC) (m_len : mg "len" = none) (C_parts_of : CF P w K mg base 1 "parts_of" ["pence", "many"] (sp_parts_of K)) (C_Rule___len___0 : CMt P w K mg base CC.r 1 "__len__" ["self"] [] (sp_Rule___len__ K CC.r)) (C_Putby_paid_0 : CMt P w K mg base CC.p 1 "paid" ["self"] [] (sp_Putby_paid K CC)) (F : FunD K "next_part" "Putby.next_part" (defArgs s_Putby_next_part) (defBody s_Putby_next_part) (defScope s_Putby_next_part) [] [] f fd) : FnOk P w K mg base CX0 3 f fd ["self"] (sp_Putby_next_part K CC) := by
  refine okD F sc_Putby_next_part (fun vs H Q E h => ?_) (fun cdv A outer s H vs Q E hr h => ?_)
  · first | (obtain ⟨_, rfl, _⟩ := h; rfl) | (obtain ⟨_, _, rfl, _⟩ := h; rfl) | (obtain ⟨_, _, _, rfl, _⟩ := h; rfl) | (obtain ⟨_, _, _, _, rfl, _⟩ := h; rfl) | (obtain ⟨_, _, _, _, _, rfl, _⟩ := h; rfl) | (obtain ⟨_, _, _, _, _, _, rfl, _⟩ := h; rfl) | (obtain ⟨_, _, _, _, _, _, _, rfl, _⟩ := h; rfl) | (obtain ⟨_, _, _, _, _, _, _, _, rfl, _⟩ := h; rfl) | (obtain ⟨_, _, _, _, _, _, _, _, _, rfl, _⟩ := h; rfl) | (obtain ⟨_, _, _, _, _, _, _, _, _, _, rfl, _⟩ := h; rfl) | (obtain ⟨_, _, _, _, _, _, _, _, _, _, _, rfl, _⟩ := h; rfl) | (obtain ⟨_, _, _, _, _, _, _, _, _, _, _, _, rfl, _⟩ := h; rfl) | (obtain ⟨_, _, _, _, _, _, _, _, _, _, _, _, _, rfl, _⟩ := h; rfl) | (obtain ⟨_, _, _, _, _, _, _, _, _, _, _, _, _, _, rfl, _⟩ := h; rfl) | (obtain ⟨_, _, _, _, _, _, _, _, _, _, _, _, _, _, _, rfl, _⟩ := h; rfl)
  · have hu64 := hr.units
    obtain ⟨x, r, pi, pk, f', M, c, rfl, hP, ok, len, x0, x1, c0, c1, q⟩ := h
    refine ⟨_, (pss_one (ps_ret (pe_ix (kk_ixl K) (pe_cf C_parts_of (hr.mono (by decide)) (by rfl) (pa_cons (pe_op op_sub (pe_fld (pv 0) rfl) (pe_mt0 C_Putby_paid_0 T_Putby.cl (hr.mono (by decide)) (pv 0))) (pa_cons (pe_op op_sub (pe_callB (call_lenO C_Rule___len___0 (hr.mono (by decide))) (by rfl) m_len PySem.boot_len (pa_cons (pe_fld (pv 0) rfl) pa_nil)) (pe_ix (kk_ixt K) (pe_fld (pv 0) rfl) pe_int (fun _ _ => rfl))) pa_nil))) pe_int (fun _ _ => rfl)))), ?_⟩
    obtain ⟨dx, ct, h1, h2, h3, h5, h6⟩ := id hP
    have p1 := ok.figs.p1
    have pl := ok.len
    obtain ⟨dr, kt, hr1, hr2⟩ := id h2
    refine ⟨_, rfl, x, CC.p, dx, _, _, rfl, h1, T_Putby.cl, T_Putby.n2, b2, _, rfl, x, dx, _, rfl, h1, b0 (by decide +kernel), x, r, pi, pk, f', M, c, rfl, hP, len, fun H1 s1 => ⟨_, _, rfl, rfl, ?_⟩⟩
    have pl2 : ((f'.ks.length : Nat) : Int) - c.p = f'.p - c.p := by omega
    refine ⟨_, rfl, x, CC.p, dx, _, _, rfl, s1 _ _ h1, T_Putby.cl, T_Putby.n1, b1, r, dr, _, rfl, s1 _ _ hr1, r, f', rfl, h2.same s1, _, rfl, by omega, by omega, _, rfl, x, CC.p, dx, _, _, rfl, s1 _ _ h1, T_Putby.cl, T_Putby.n5, b5, ct, _, _, _, rfl, rfl, h3.same s1, rfl, _, _, rfl, rfl, ?_⟩
    refine ⟨M.price - sumP M.pays, ((f'.ks.length : Nat) : Int) - c.p, rfl, x0, x1, by omega, by omega, fun H2 l nl s2 hl => ?_⟩
    rw [pl2] at hl
    exact ⟨l, _, _, _, rfl, rfl, SqL.of hl, parts_head (by omega) x0, q _ (s1.trans s2)⟩
/-! ### Putby_course_on -/
abbrev s_Putby_course_on : Stmt := inClass (topS 21) 16
abbrev N_Putby_course_on : List Str := ["self", "day"]
theorem sc_Putby_course_on : FnScope N_Putby_course_on ["self", "day"] (defScope s_Putby_course_on) := ⟨rfl, rfl, rfl, by decide +kernel, rfl, by decide +kernel, by decide +kernel⟩
def sp_Putby_course_on (K : PySem.W.Frag) (C : Cl) : Sp := fun vs H Q E => ∃ (x r pi pk : Addr) (day : Int) (f : Fg) (M : Md) (c : Cs), vs = [.ref x, .int day] ∧ PbC K C H x r pi pk f M c ∧ (c.w = .st → c.m ≤ f.m) ∧ (day < M.day → E (.ref C.n) none H) ∧ (M.day ≤ day → ∀ H' t, Same H H' → StAt K H' t (passT f.s f.g f.m c (day - M.begin_)) → Q (.ref t) H')
theorem ok_Putby_course_on {f : Addr} {fd : FuncData} {CC : Cl} (T_Rule : TRule K mg CC.r) (T_Putby : TPutby K mg CC.p) (TE : TErrs K mg CC) (C_passed_to : CF P w K mg base 1 "passed_to" ["rule", "state", "day"] (sp_passed_to K CC.r)) (F : FunD K "course_on" "Putby.course_on" (defArgs s_Putby_course_on) (defBody s_Putby_course_on) (defScope s_Putby_course_on) [] [] f fd) : FnOk P w K mg base (L2.CX P w) 2 f fd ["self", "day"] (sp_Putby_course_on K CC) := by
  refine F.ok sc_Putby_course_on (fun vs H Q E h => ?_) (fun cdv A outer s H vs Q E hr h => ?_)
  · first | (obtain ⟨_, rfl, _⟩ := h; rfl) | (obtain ⟨_, _, rfl, _⟩ := h; rfl) | (obtain ⟨_, _, _, rfl, _⟩ := h; rfl) | (obtain ⟨_, _, _, _, rfl, _⟩ := h; rfl) | (obtain ⟨_, _, _, _, _, rfl, _⟩ := h; rfl) | (obtain ⟨_, _, _, _, _, _, rfl, _⟩ := h; rfl) | (obtain ⟨_, _, _, _, _, _, _, rfl, _⟩ := h; rfl) | (obtain ⟨_, _, _, _, _, _, _, _, rfl, _⟩ := h; rfl) | (obtain ⟨_, _, _, _, _, _, _, _, _, rfl, _⟩ := h; rfl) | (obtain ⟨_, _, _, _, _, _, _, _, _, _, rfl, _⟩ := h; rfl) | (obtain ⟨_, _, _, _, _, _, _, _, _, _, _, rfl, _⟩ := h; rfl) | (obtain ⟨_, _, _, _, _, _, _, _, _, _, _, _, rfl, _⟩ := h; rfl) | (obtain ⟨_, _, _, _, _, _, _, _, _, _, _, _, _, rfl, _⟩ := h; rfl) | (obtain ⟨_, _, _, _, _, _, _, _, _, _, _, _, _, _, rfl, _⟩ := h; rfl) | (obtain ⟨_, _, _, _, _, _, _, _, _, _, _, _, _, _, _, rfl, _⟩ := h; rfl)
  · have hu64 := hr.units
    obtain ⟨x, r, pi, pk, day, f', M, c, rfl, ⟨dx, ct, h1, h2, h3, h5, h6⟩, cm, no, q⟩ := h
    refine ⟨_, (pss_cons (ps_if (pt_cmpR op_lt (pv 1) (pe_fld (pv 0) rfl) (nomark _))
         (pss_one (ps_raise rfl (takes_of rfl rfl rfl rfl) (pmk_own PySem.F.excBase_ValueError TE.n.xc TE.n.g TE.n.kp (raises_own TE.n.sb TE.n.ty) (by rfl))))
         pss_nil)
      (pss_one (ps_ret (pe_cf C_passed_to (hr.mono (by decide)) (by rfl) (pa_cons (pe_fld (pv 0) rfl) (pa_cons (pe_fld (pv 0) rfl) (pa_cons (pe_op op_sub (pv 1) (pe_fld (pv 0) rfl)) pa_nil))))))), ?_⟩
    refine ⟨_, rfl, _, rfl, x, CC.p, dx, _, _, rfl, h1, T_Putby.cl, T_Putby.n4, b4, _, _, rfl, rfl, _, rfl, ite2 (fun z => no (of_decide_eq_true z)) (fun z => ?_)⟩
    have z1 : M.day ≤ day := by
      have : ¬ day < M.day := fun y => z (decide_eq_true y)
      omega
    exact ⟨_, rfl, x, CC.p, dx, _, _, rfl, h1, T_Putby.cl, T_Putby.n1, b1, _, rfl, x, CC.p, dx, _, _, rfl, h1, T_Putby.cl, T_Putby.n5, b5, _, rfl, _, rfl, x, CC.p, dx, _, _, rfl, h1, T_Putby.cl, T_Putby.n3, b3, _, _, rfl, rfl, r, ct, _, f', c, rfl, h2, h3, cm, fun H1 t s1 ht => q z1 H1 t s1 ht⟩
/-! ### Putby_standing_on -/
abbrev s_Putby_standing_on : Stmt := inClass (topS 21) 17
abbrev N_Putby_standing_on : List Str := ["self", "day", "course"]
theorem sc_Putby_standing_on : FnScope N_Putby_standing_on ["self", "day"] (defScope s_Putby_standing_on) := ⟨rfl, rfl, rfl, by decide +kernel, rfl, by decide +kernel, by decide +kernel⟩
def sp_Putby_standing_on (K : PySem.W.Frag) (C : Cl) : Sp := fun vs H Q E => ∃ (x r pi pk : Addr) (day : Int) (f : Fg) (M : Md) (c : Cs), vs = [.ref x, .int day] ∧ PbC K C H x r pi pk f M c ∧ (c.w = .st → c.m ≤ f.m) ∧ (day < M.day → E (.ref C.n) none H) ∧ (M.day ≤ day → (passT f.s f.g f.m c (day - M.begin_)).w ≠ .st → ∀ H', Same H H' → E (.ref C.i) none H') ∧ (M.day ≤ day → (passT f.s f.g f.m c (day - M.begin_)).w = .st → ∀ H' t, Same H H' → StAt K H' t (passT f.s f.g f.m c (day - M.begin_)) → Q (.ref t) H')
theorem ok_Putby_standing_on {f : Addr} {fd : FuncData} {CC : Cl} (T_Rule : TRule K mg CC.r) (T_Putby : TPutby K mg CC.p) (TE : TErrs K mg CC) (C_Putby_course_on_1 : CMx P w K mg base CC.p 2 "course_on" ["self", "day"] (sp_Putby_course_on K CC)) (F : FunD K "standing_on" "Putby.standing_on" (defArgs s_Putby_standing_on) (defBody s_Putby_standing_on) (defScope s_Putby_standing_on) [] [] f fd) : FnOk P w K mg base (L2.CX P w) 3 f fd ["self", "day"] (sp_Putby_standing_on K CC) := by
  refine F.ok sc_Putby_standing_on (fun vs H Q E h => ?_) (fun cdv A outer s H vs Q E hr h => ?_)
  · first | (obtain ⟨_, rfl, _⟩ := h; rfl) | (obtain ⟨_, _, rfl, _⟩ := h; rfl) | (obtain ⟨_, _, _, rfl, _⟩ := h; rfl) | (obtain ⟨_, _, _, _, rfl, _⟩ := h; rfl) | (obtain ⟨_, _, _, _, _, rfl, _⟩ := h; rfl) | (obtain ⟨_, _, _, _, _, _, rfl, _⟩ := h; rfl) | (obtain ⟨_, _, _, _, _, _, _, rfl, _⟩ := h; rfl) | (obtain ⟨_, _, _, _, _, _, _, _, rfl, _⟩ := h; rfl) | (obtain ⟨_, _, _, _, _, _, _, _, _, rfl, _⟩ := h; rfl) | (obtain ⟨_, _, _, _, _, _, _, _, _, _, rfl, _⟩ := h; rfl) | (obtain ⟨_, _, _, _, _, _, _, _, _, _, _, rfl, _⟩ := h; rfl) | (obtain ⟨_, _, _, _, _, _, _, _, _, _, _, _, rfl, _⟩ := h; rfl) | (obtain ⟨_, _, _, _, _, _, _, _, _, _, _, _, _, rfl, _⟩ := h; rfl) | (obtain ⟨_, _, _, _, _, _, _, _, _, _, _, _, _, _, rfl, _⟩ := h; rfl) | (obtain ⟨_, _, _, _, _, _, _, _, _, _, _, _, _, _, _, rfl, _⟩ := h; rfl)
  · have hu64 := hr.units
    obtain ⟨x, r, pi, pk, day, f', M, c, rfl, hP, cm, no, idle, q⟩ := h
    refine ⟨_, (pss_cons (ps_set (i := 2) sc_Putby_standing_on.nd rfl (.inl rfl) (pe_mtx C_Putby_course_on_1 T_Putby.cl (hr.mono (by decide)) (takes_of rfl rfl rfl rfl) (pv 0) (pa_cons (pv 1) pa_nil)))
      (pss_cons (ps_if (pt_cmpR op_ne (pe_ix (kk_ixt K) (pv 2) pe_int (fun _ _ => rfl)) pe_str (nomark _))
         (pss_one (ps_raise rfl (takes_of rfl rfl rfl rfl) (pmk_own PySem.F.excBase_ValueError TE.i.xc TE.i.g TE.i.kp (raises_own TE.i.sb TE.i.ty) (by rfl))))
         pss_nil)
      (pss_one (ps_ret (pv 2))))), ?_⟩
    obtain ⟨dx, ct, h1, h2, h3, h5, h6⟩ := id hP
    refine ⟨_, rfl, x, dx, _, rfl, h1, b0 (by decide +kernel), _, rfl, x, r, pi, pk, day, f', M, c, rfl, hP, cm, no, fun z H1 t s1 ht => ?_⟩
    refine ⟨_, rfl, t, _, _, _, rfl, rfl, ht, rfl, rfl, _, rfl, ?_⟩
    rw [wS_st]
    by_cases hw : (passT f'.s f'.g f'.m c (day - M.begin_)).w = .st
    · rw [decide_eq_true hw]
      exact iteF ⟨_, rfl, q z hw H1 t s1 ht⟩
    · rw [decide_eq_false hw]
      exact iteT (idle z hw H1 s1)
/-! ### Putby_end -/
abbrev s_Putby_end : Stmt := inClass (topS 21) 19
abbrev N_Putby_end : List Str := ["self", "word", "day", "pence"]
theorem sc_Putby_end : FnScope N_Putby_end ["self", "word", "day", "pence"] (defScope s_Putby_end) := ⟨rfl, rfl, rfl, by decide +kernel, rfl, by decide +kernel, by decide +kernel⟩
def sp_Putby_end (K : PySem.W.Frag) (C : Cl) : Sp := fun vs H Q _ => ∃ (x r pi pk : Addr) (w : Wd) (day pence : Int) (f : Fg) (M : Md) (c : Cs), vs = [.ref x, .str (wS w), .int day, .int pence] ∧ PbC K C H x r pi pk f M c ∧ NN M.pays ∧ M.pays.length ≤ 900 ∧ ∀ H' pk', H pk' = none → But x H H' → PbC K C H' x r pi pk' f { M with backs := backR day M.pays.reverse pence } ⟨w, day - M.begin_, c.p, c.m⟩ → Q .non H'
theorem ok_Putby_end {f : Addr} {fd : FuncData} {CC : Cl} (T_Rule : TRule K mg CC.r) (T_Putby : TPutby K mg CC.p) (TE : TErrs K mg CC) (C_backs_of : CF P w K mg base 1 "backs_of" ["payments", "day", "pence", "aside"] (sp_backs_of K)) (F : FunD K "end" "Putby.end" (defArgs s_Putby_end) (defBody s_Putby_end) (defScope s_Putby_end) [] [] f fd) : FnOk P w K mg base CX0 2 f fd ["self", "word", "day", "pence"] (sp_Putby_end K CC) := by
  refine okD F sc_Putby_end (fun vs H Q E h => ?_) (fun cdv A outer s H vs Q E hr h => ?_)
  · first | (obtain ⟨_, rfl, _⟩ := h; rfl) | (obtain ⟨_, _, rfl, _⟩ := h; rfl) | (obtain ⟨_, _, _, rfl, _⟩ := h; rfl) | (obtain ⟨_, _, _, _, rfl, _⟩ := h; rfl) | (obtain ⟨_, _, _, _, _, rfl, _⟩ := h; rfl) | (obtain ⟨_, _, _, _, _, _, rfl, _⟩ := h; rfl) | (obtain ⟨_, _, _, _, _, _, _, rfl, _⟩ := h; rfl) | (obtain ⟨_, _, _, _, _, _, _, _, rfl, _⟩ := h; rfl) | (obtain ⟨_, _, _, _, _, _, _, _, _, rfl, _⟩ := h; rfl) | (obtain ⟨_, _, _, _, _, _, _, _, _, _, rfl, _⟩ := h; rfl) | (obtain ⟨_, _, _, _, _, _, _, _, _, _, _, rfl, _⟩ := h; rfl) | (obtain ⟨_, _, _, _, _, _, _, _, _, _, _, _, rfl, _⟩ := h; rfl) | (obtain ⟨_, _, _, _, _, _, _, _, _, _, _, _, _, rfl, _⟩ := h; rfl) | (obtain ⟨_, _, _, _, _, _, _, _, _, _, _, _, _, _, rfl, _⟩ := h; rfl) | (obtain ⟨_, _, _, _, _, _, _, _, _, _, _, _, _, _, _, rfl, _⟩ := h; rfl)
  · have hu64 := hr.units
    obtain ⟨x, r, pi, pk, wd, day, pence, f', M, c, rfl, ⟨dx, ct, h1, h2, h3, h5, h6⟩, nn, len, q⟩ := h
    refine ⟨_, (pss_cons (ps_fld (pv 0) (pe_tup (pa_cons (pv 1) (pa_cons (pe_op op_sub (pv 2) (pe_fld (pv 0) rfl)) (pa_cons (pe_ix (kk_ixt K) (pe_fld (pv 0) rfl) pe_int (fun _ _ => rfl)) (pa_cons (pe_ix (kk_ixt K) (pe_fld (pv 0) rfl) pe_int (fun _ _ => rfl)) pa_nil))))) rfl)
      (pss_one (ps_fld (pv 0) (pe_cf C_backs_of (hr.mono (by decide)) (by rfl) (pa_cons (pe_fld (pv 0) rfl) (pa_cons (pv 2) (pa_cons (pv 3) (pa_cons pe_int pa_nil))))) rfl))), ?_⟩
    refine ⟨_, rfl, _, rfl, _, rfl, x, CC.p, dx, _, _, rfl, h1, T_Putby.cl, T_Putby.n3, b3, _, _, rfl, rfl, _, rfl, x, CC.p, dx, _, _, rfl, h1, T_Putby.cl, T_Putby.n5, b5, ct, _, _, _, rfl, rfl, h3, rfl, _, rfl, x, CC.p, dx, _, _, rfl, h1, T_Putby.cl, T_Putby.n5, b5, ct, _, _, _, rfl, rfl, h3, rfl, (by show 4 ≤ sizeLine; decide), fun t nt => ?_⟩
    have sT := same_new (o := .tup (csV ⟨wd, day - M.begin_, c.p, c.m⟩)) nt
    have hx1 := sT _ _ h1
    refine ⟨_, rfl, x, CC.p, dx, _, rfl, hx1, T_Putby.cl, T_Putby.n5, (by show (7 : Nat) < 1000; decide), ?_⟩
    rw [f5]
    have ht : (upd H t (.tup (csV ⟨wd, day - M.begin_, c.p, c.m⟩))) t = some (.tup (csV ⟨wd, day - M.begin_, c.p, c.m⟩)) := upd_same
    have mu : Mu (upd H t (.tup (csV ⟨wd, day - M.begin_, c.p, c.m⟩))) [x] := fun c' hc => by
      rw [List.mem_singleton.mp hc]
      exact ⟨_, hx1, trivial⟩
    have h5' := h5.same sT
    have h2' := h2.same sT
    have fr : Fr [x] H (upd H t (.tup (csV ⟨wd, day - M.begin_, c.p, c.m⟩))) := Fr.of sT
    suffices main : ∀ G : Hp, G x = some (.ins CC.p dx (pbF r M ct pi pk)) → G t = some (.tup (csV ⟨wd, day - M.begin_, c.p, c.m⟩)) → RowsL G pi M.pays → RuleAt K G CC.r r f' → Fr [x] H G → Mu G [x] → sFld K (tVar 0) (tCall (sp_backs_of K) [] E0 (tCons (tFld K (tVar 0) "paid_in") (tCons (tVar 2) (tCons (tVar 3) (tCons (tC (.int 0)) tNil))))) "paid_back" { nx := fun _ H' => Q .non H', rt := Q } (start N_Putby_end [.ref x, .str (wS wd), .int day, .int pence]) (upd G x (.ins CC.p dx (pbF r M t pi pk))) from main _ hx1 ht h5' h2' fr mu
    clear hx1 ht h5' h2' fr mu sT nt
    intro G hx1 ht h5' h2' fr mu
    have fG : Fr [x] G (upd G x (.ins CC.p dx (pbF r M t pi pk))) := Fr.upd (List.mem_singleton_self x)
    have hx2 := upd_same (H := G) (a := x) (o := .ins CC.p dx (pbF r M t pi pk))
    have pix : pi ∉ [x] := fun e => by
      obtain ⟨L, e1, _⟩ := h5'
      rw [List.mem_singleton.mp e, hx1] at e1
      cases e1
    have h5'' := fG.rowsL mu pix h5'
    have h2'' := fG.rule mu (fun e => rule_ne h2' hx1 (List.mem_singleton.mp e)) h2'
    have ht2 := fG.tup (K := K) mu (SqT.of ht)
    generalize upd G x (.ins CC.p dx (pbF r M t pi pk)) = G2 at *
    refine ⟨_, rfl, x, CC.p, dx, _, _, rfl, hx2, T_Putby.cl, T_Putby.n6, b6, _, rfl, _, rfl, pi, day, pence, M.pays, rfl, h5'', nn, len, fun H3 pk' nk s3 hk => ?_⟩
    refine ⟨_, rfl, x, CC.p, dx, _, rfl, s3 _ _ hx2, T_Putby.cl, T_Putby.n7, (by show (7 : Nat) < 1000; decide), ?_⟩
    rw [f7]
    have mu3 : Mu H3 [x] := fun c' hc => by
      rw [List.mem_singleton.mp hc]
      exact ⟨_, s3 _ _ hx2, trivial⟩
    have f3 : Fr [x] H3 (upd H3 x (.ins CC.p dx (pbF r M t pi pk'))) := Fr.upd (List.mem_singleton_self x)
    have xk : x ≠ pk' := fun e => by
      rw [← e, hx2] at nk
      cases nk
    have all : Fr [x] H (upd H3 x (.ins CC.p dx (pbF r M t pi pk'))) := ((fr.trans fG).trans (Fr.of s3)).trans f3
    refine q _ pk' ?_ (fun c' o n h => all c' o (fun e => n (List.mem_singleton.mp e)) h) ⟨dx, t, upd_same, f3.rule mu3 (fun e => rule_ne (h2''.same s3) (s3 _ _ hx2) (List.mem_singleton.mp e)) (h2''.same s3), f3.tup mu3 (seqT_same s3 ht2), f3.rowsL mu3 pix (h5''.same s3), f3.rowsL mu3 (fun e => xk (List.mem_singleton.mp e).symm) hk⟩
    cases e : H pk' with
    | none => rfl
    | some o =>
      rw [(fr.trans fG) pk' o (fun e => xk (List.mem_singleton.mp e).symm) e] at nk
      cases nk
/-! ### Putby_let_off -/
abbrev s_Putby_let_off : Stmt := inClass (topS 21) 18
abbrev N_Putby_let_off : List Str := ["self", "word", "day", "percent"]
theorem sc_Putby_let_off : FnScope N_Putby_let_off ["self", "word", "day", "percent"] (defScope s_Putby_let_off) := ⟨rfl, rfl, rfl, by decide +kernel, rfl, by decide +kernel, by decide +kernel⟩
def sp_Putby_let_off (K : PySem.W.Frag) (C : Cl) : Sp := fun vs H Q _ => ∃ (x r pi pk : Addr) (w : Wd) (day pct : Int) (f : Fg) (M : Md) (c : Cs), vs = [.ref x, .str (wS w), .int day, .int pct] ∧ PbC K C H x r pi pk f M c ∧ NN M.pays ∧ M.pays.length ≤ 900 ∧ sumP M.pays ≤ 1000000 ∧ 0 ≤ pct ∧ pct ≤ 100 ∧ ∀ H' pk', H pk' = none → But x H H' → PbC K C H' x r pi pk' f { M with backs := backR day M.pays.reverse (sumP M.pays - shareU (sumP M.pays) pct) } ⟨w, day - M.begin_, c.p, c.m⟩ → Q .non H'
theorem ok_Putby_let_off {f : Addr} {fd : FuncData} {CC : Cl} (T_Rule : TRule K mg CC.r) (T_Putby : TPutby K mg CC.p) (TE : TErrs K mg CC) (C_share_up : CF P w K mg base 1 "share_up" ["pence", "percent"] (sp_share_up K)) (C_Putby_end_3 : CMt P w K mg base CC.p 2 "end" ["self", "word", "day", "pence"] [] (sp_Putby_end K CC)) (C_Putby_paid_0 : CMt P w K mg base CC.p 1 "paid" ["self"] [] (sp_Putby_paid K CC)) (F : FunD K "let_off" "Putby.let_off" (defArgs s_Putby_let_off) (defBody s_Putby_let_off) (defScope s_Putby_let_off) [] [] f fd) : FnOk P w K mg base CX0 3 f fd ["self", "word", "day", "percent"] (sp_Putby_let_off K CC) := by
  refine okD F sc_Putby_let_off (fun vs H Q E h => ?_) (fun cdv A outer s H vs Q E hr h => ?_)
  · first | (obtain ⟨_, rfl, _⟩ := h; rfl) | (obtain ⟨_, _, rfl, _⟩ := h; rfl) | (obtain ⟨_, _, _, rfl, _⟩ := h; rfl) | (obtain ⟨_, _, _, _, rfl, _⟩ := h; rfl) | (obtain ⟨_, _, _, _, _, rfl, _⟩ := h; rfl) | (obtain ⟨_, _, _, _, _, _, rfl, _⟩ := h; rfl) | (obtain ⟨_, _, _, _, _, _, _, rfl, _⟩ := h; rfl) | (obtain ⟨_, _, _, _, _, _, _, _, rfl, _⟩ := h; rfl) | (obtain ⟨_, _, _, _, _, _, _, _, _, rfl, _⟩ := h; rfl) | (obtain ⟨_, _, _, _, _, _, _, _, _, _, rfl, _⟩ := h; rfl) | (obtain ⟨_, _, _, _, _, _, _, _, _, _, _, rfl, _⟩ := h; rfl) | (obtain ⟨_, _, _, _, _, _, _, _, _, _, _, _, rfl, _⟩ := h; rfl) | (obtain ⟨_, _, _, _, _, _, _, _, _, _, _, _, _, rfl, _⟩ := h; rfl) | (obtain ⟨_, _, _, _, _, _, _, _, _, _, _, _, _, _, rfl, _⟩ := h; rfl) | (obtain ⟨_, _, _, _, _, _, _, _, _, _, _, _, _, _, _, rfl, _⟩ := h; rfl)
  · have hu64 := hr.units
    obtain ⟨x, r, pi, pk, wd, day, pct, f', M, c, rfl, hP, nn, len, whole, p0, p1, q⟩ := h
    refine ⟨_, (pss_one (ps_expr (pe_mt C_Putby_end_3 T_Putby.cl (hr.mono (by decide)) (pv 0) (pa_cons (pv 1) (pa_cons (pv 2) (pa_cons (pe_op op_sub (pe_mt0 C_Putby_paid_0 T_Putby.cl (hr.mono (by decide)) (pv 0)) (pe_cf C_share_up (hr.mono (by decide)) (by rfl) (pa_cons (pe_mt0 C_Putby_paid_0 T_Putby.cl (hr.mono (by decide)) (pv 0)) (pa_cons (pv 3) pa_nil)))) pa_nil)))))), ?_⟩
    obtain ⟨dx, ct, h1, h2, h3, h5, h6⟩ := id hP
    refine ⟨_, rfl, x, dx, _, rfl, h1, b0 (by decide +kernel), _, rfl, _, rfl, _, rfl, x, dx, _, rfl, h1, b0 (by decide +kernel), x, r, pi, pk, f', M, c, rfl, hP, len, fun H1 s1 => ?_⟩
    refine ⟨_, rfl, x, dx, _, rfl, s1 _ _ h1, b0 (by decide +kernel), x, r, pi, pk, f', M, c, rfl, hP.same s1, len, fun H2 s2 => ?_⟩
    have s12 := s1.trans s2
    refine ⟨_, rfl, _, _, rfl, sumP_nn nn, by omega, p0, p1, _, _, rfl, rfl, x, r, pi, pk, wd, day, _, f', M, c, rfl, hP.same s12, nn, len, fun H3 pk' nk t3 hk => ?_⟩
    refine q _ pk' (none_of s12 nk) (fun c' o n e => t3 c' o n (s12 _ _ e)) hk
/-! ### Putby_pass_to -/
abbrev s_Putby_pass_to : Stmt := inClass (topS 21) 4
abbrev N_Putby_pass_to : List Str := ["self", "day", "course", "is_let_go"]
theorem sc_Putby_pass_to : FnScope N_Putby_pass_to ["self", "day"] (defScope s_Putby_pass_to) := ⟨rfl, rfl, rfl, by decide +kernel, rfl, by decide +kernel, by decide +kernel⟩
def sp_Putby_pass_to (K : PySem.W.Frag) (C : Cl) : Sp := fun vs H Q E => ∃ (x r pi pk : Addr) (day : Int) (f : Fg) (M : Md), vs = [.ref x, .int day] ∧ PbAt K C H x r pi pk f M ∧ M.Ok f ∧ f.Ok ∧ (day < M.day → E (.ref C.n) none H) ∧ (M.day ≤ day → ∀ H' pk', (pk' = pk ∨ H pk' = none) → But x H H' → PbAt K C H' x r pi pk' f (toM f M day) → Q .non H')
theorem ok_Putby_pass_to {f : Addr} {fd : FuncData} {CC : Cl} (T_Rule : TRule K mg CC.r) (T_Putby : TPutby K mg CC.p) (TE : TErrs K mg CC) (C_Putby_course_on_1 : CMx P w K mg base CC.p 2 "course_on" ["self", "day"] (sp_Putby_course_on K CC)) (C_Putby_let_off_3 : CMt P w K mg base CC.p 3 "let_off" ["self", "word", "day", "percent"] [] (sp_Putby_let_off K CC)) (C_Rule_keeps_1k : CMtK P w K mg base CC.r 1 "keeps" ["self", "paid", "gone"] 2 ["gone"] (fun vs zs => vs ++ zs) (sp_Rule_keeps K CC.r)) (F : FunD K "pass_to" "Putby.pass_to" (defArgs s_Putby_pass_to) (defBody s_Putby_pass_to) (defScope s_Putby_pass_to) [] [] f fd) : FnOk P w K mg base (L2.CX P w) 4 f fd ["self", "day"] (sp_Putby_pass_to K CC) := by
  refine F.ok sc_Putby_pass_to (fun vs H Q E h => ?_) (fun cdv A outer s H vs Q E hr h => ?_)
  · first | (obtain ⟨_, rfl, _⟩ := h; rfl) | (obtain ⟨_, _, rfl, _⟩ := h; rfl) | (obtain ⟨_, _, _, rfl, _⟩ := h; rfl) | (obtain ⟨_, _, _, _, rfl, _⟩ := h; rfl) | (obtain ⟨_, _, _, _, _, rfl, _⟩ := h; rfl) | (obtain ⟨_, _, _, _, _, _, rfl, _⟩ := h; rfl) | (obtain ⟨_, _, _, _, _, _, _, rfl, _⟩ := h; rfl) | (obtain ⟨_, _, _, _, _, _, _, _, rfl, _⟩ := h; rfl) | (obtain ⟨_, _, _, _, _, _, _, _, _, rfl, _⟩ := h; rfl) | (obtain ⟨_, _, _, _, _, _, _, _, _, _, rfl, _⟩ := h; rfl) | (obtain ⟨_, _, _, _, _, _, _, _, _, _, _, rfl, _⟩ := h; rfl) | (obtain ⟨_, _, _, _, _, _, _, _, _, _, _, _, rfl, _⟩ := h; rfl) | (obtain ⟨_, _, _, _, _, _, _, _, _, _, _, _, _, rfl, _⟩ := h; rfl) | (obtain ⟨_, _, _, _, _, _, _, _, _, _, _, _, _, _, rfl, _⟩ := h; rfl) | (obtain ⟨_, _, _, _, _, _, _, _, _, _, _, _, _, _, _, rfl, _⟩ := h; rfl)
  · have hu64 := hr.units
    obtain ⟨x, r, pi, pk, day, f', M, rfl, ⟨c, hP, hc⟩, ok, fo, no, q⟩ := h
    refine ⟨_, (pss_cons (ps_set (i := 2) sc_Putby_pass_to.nd rfl (.inl rfl) (pe_mtx C_Putby_course_on_1 T_Putby.cl (hr.mono (by decide)) (takes_of rfl rfl rfl rfl) (pv 0) (pa_cons (pv 1) pa_nil)))
      (pss_cons (ps_set (i := 3) sc_Putby_pass_to.nd rfl (.inl rfl) (pe_and (pe_cmpR op_eq (pe_ix (kk_ixt K) (pv 2) pe_int (fun _ _ => rfl)) pe_str (nomark _)) (pe_one (pe_cmpR op_eq (pe_ix (kk_ixt K) (pe_fld (pv 0) rfl) pe_int (fun _ _ => rfl)) pe_str (nomark _)))))
      (pss_cons (ps_fld (pv 0) (pv 1) rfl)
      (pss_cons (ps_fld (pv 0) (pv 2) rfl)
      (pss_one (ps_if (pt_val (pv 3))
         (pss_one (ps_expr (pe_mt C_Putby_let_off_3 T_Putby.cl (hr.mono (by decide)) (pv 0) (pa_cons pe_str (pa_cons (pe_op op_add (pe_fld (pv 0) rfl) (pe_ix (kk_ixt K) (pv 2) pe_int (fun _ _ => rfl))) (pa_cons (pe_mtK C_Rule_keeps_1k T_Rule.cl (hr.mono (by decide)) (pe_fld (pv 0) rfl) (pa_cons (pe_ix (kk_ixt K) (pv 2) pe_int (fun _ _ => rfl)) pa_nil) (pk_cons pe_bl pk_nil)) pa_nil))))))
         pss_nil)))))), ?_⟩
    obtain ⟨dx, ct, h1, h2, h3, h5, h6⟩ := id hP
    have go : ∀ (z : M.day ≤ day) (H1 : Hp) (t : Addr) (c' : Cs), Same H H1 → StAt K H1 t c' → PbC K CC (upd (upd H1 x (.ins CC.p dx (pbF r { M with day := day } ct pi pk))) x (.ins CC.p dx (pbF r { M with day := day } t pi pk))) x r pi pk f' { M with day := day } c' := fun z H1 t c' s1 ht => by
      have a1 := PbC.put (M' := { M with day := day }) (s1 _ _ h1) (h2.same s1) (h3.same s1) (h5.same s1) (h6.same s1)
      obtain ⟨dx', ct', g1, g2, g3, g5, g6⟩ := a1
      have mu : Mu H1 [x] := fun c hc => by
        rw [List.mem_singleton.mp hc]
        exact ⟨_, s1 _ _ h1, trivial⟩
      exact PbC.put (M := { M with day := day }) (M' := { M with day := day }) upd_same g2 (Fr.tup (Fr.upd (List.mem_singleton_self x)) mu ht) g5 g6
    have fr : ∀ (H1 : Hp) (t : Addr), Same H H1 → But x H (upd (upd H1 x (.ins CC.p dx (pbF r { M with day := day } ct pi pk))) x (.ins CC.p dx (pbF r { M with day := day } t pi pk))) := fun H1 t s1 => ((But.of s1).trans But.upd).trans But.upd
    have cm : c.w = .st → c.m ≤ f'.m := fun hw => by
      cases e : M.en with
      | some we =>
        exact absurd ((csm_some (w := we.1) (d := we.2) e hc).1.symm.trans hw) (ok.over we.1 we.2 e).1
      | none => exact csm_m ok e hc
    refine ⟨_, rfl, x, dx, _, rfl, h1, b0 (by decide +kernel), _, rfl, x, r, pi, pk, day, f', M, c, rfl, hP, cm, no, fun z H1 t s1 ht => ?_⟩
    generalize hcv : passT f'.s f'.g f'.m c (day - M.begin_) = cv at ht
    refine ⟨_, rfl, t, _, _, _, rfl, rfl, ht, rfl, rfl, ?_⟩
    rw [wS_go]
    have hP2 := go z H1 t _ s1 ht
    have t2 := fr H1 t s1
    have idle : CsM (toM f' M day) cv → (toM f' M day).price = M.price ∧ (toM f' M day).begin_ = M.begin_ ∧ (toM f' M day).day = day ∧ (toM f' M day).pays = M.pays ∧ (toM f' M day).backs = M.backs → Q .non (upd (upd H1 x (.ins CC.p dx (pbF r { M with day := day } ct pi pk))) x (.ins CC.p dx (pbF r { M with day := day } t pi pk))) := fun hcs he => q z _ pk (.inl rfl) t2 ⟨_, hP2.eq he.1.symm he.2.1.symm he.2.2.1.symm he.2.2.2.1.symm he.2.2.2.2.symm, hcs⟩
    have hx1 := s1 _ _ h1
    cases e : M.en with
    | some we =>
      obtain ⟨w0, d0⟩ := we
      obtain ⟨c1, c2⟩ := csm_some e hc
      have wn := (ok.over w0 d0 e).1
      have cn : c.w ≠ .st := by
        rw [c1]
        exact wn
      have fin := idle (by rw [← hcv, passT_over cn, to_over e]; exact csm_mk (M := { M with day := day }) e c1 c2) (by rw [to_over e]; exact ⟨rfl, rfl, rfl, rfl, rfl⟩)
      by_cases hg : cv.w = .go
      case' pos =>
        rw [decide_eq_true hg]
        refine ⟨_, rfl, iteT ⟨_, rfl, x, CC.p, dx, _, _, rfl, hx1, T_Putby.cl, T_Putby.n5, b5, ct, _, _, _, rfl, rfl, h3.same s1, rfl, rfl, ?_⟩⟩
        rw [wS_st, decide_eq_false cn]
      case' neg =>
        rw [decide_eq_false hg]
        refine ⟨_, rfl, iteF ?_⟩
      all_goals
        refine ⟨_, rfl, _, rfl, x, CC.p, dx, _, rfl, hx1, T_Putby.cl, T_Putby.n4, (by show (7 : Nat) < 1000; decide), ?_⟩
        rw [f4]
        refine ⟨_, rfl, _, rfl, x, CC.p, dx, _, rfl, upd_same, T_Putby.cl, T_Putby.n5, (by show (7 : Nat) < 1000; decide), ?_⟩
        rw [f5]
        exact ⟨_, rfl, _, rfl, iteF fin⟩
    | none =>
      have ec := hcv.symm.trans (to_cs (f := f') (D := day) e hc)
      obtain ⟨k0, bb0, s0, m0, i0, i1, d0⟩ := ok.st e
      obtain ⟨p1, p2, p3, p4⟩ := passN_bnd (g := f'.g) fo.figs.s0 (f'.m - M.missed).toNat M.due M.many M.missed day
      cases hcc : passN f'.s f'.g (f'.m - M.missed).toNat M.due M.many M.missed day with
      | mk w1 d1 pp1 m1 =>
      rw [hcc] at ec p1 p2 p3 p4
      dsimp only at ec p1 p2 p3 p4
      subst ec
      rcases p4 with rfl | rfl
      · have fin := idle (by rw [to_st e hcc]; exact csm_mk0 (M := { M with day := day, due := d1, missed := m1 }) e (by rw [p1])) (by rw [to_st e hcc]; exact ⟨rfl, rfl, rfl, rfl, rfl⟩)
        refine ⟨_, rfl, iteF ?_⟩
        refine ⟨_, rfl, _, rfl, x, CC.p, dx, _, rfl, hx1, T_Putby.cl, T_Putby.n4, (by show (7 : Nat) < 1000; decide), ?_⟩
        rw [f4]
        refine ⟨_, rfl, _, rfl, x, CC.p, dx, _, rfl, upd_same, T_Putby.cl, T_Putby.n5, (by show (7 : Nat) < 1000; decide), ?_⟩
        rw [f5]
        exact ⟨_, rfl, _, rfl, iteF fin⟩
      · have cs : c.w = .st := by rw [csm_none e hc]
        refine ⟨_, rfl, iteT ⟨_, rfl, x, CC.p, dx, _, _, rfl, hx1, T_Putby.cl, T_Putby.n5, b5, ct, _, _, _, rfl, rfl, h3.same s1, rfl, rfl, ?_⟩⟩
        rw [wS_st, decide_eq_true cs]
        refine ⟨_, rfl, _, rfl, x, CC.p, dx, _, rfl, hx1, T_Putby.cl, T_Putby.n4, (by show (7 : Nat) < 1000; decide), ?_⟩
        rw [f4]
        refine ⟨_, rfl, _, rfl, x, CC.p, dx, _, rfl, upd_same, T_Putby.cl, T_Putby.n5, (by show (7 : Nat) < 1000; decide), ?_⟩
        rw [f5]
        refine ⟨_, rfl, _, rfl, iteT ?_⟩
        obtain ⟨dx3, ct3, g1, g2, g3, g5, g6⟩ := id hP2
        have ht3 : StAt K (upd (upd H1 x (.ins CC.p dx (pbF r { M with day := day } ct pi pk))) x (.ins CC.p dx (pbF r { M with day := day } t pi pk))) t ⟨.go, d1 - M.begin_, pp1, m1⟩ := by
          have mu : Mu H1 [x] := fun c hc => by
            rw [List.mem_singleton.mp hc]
            exact ⟨_, hx1, trivial⟩
          have mu2 : Mu (upd H1 x (.ins CC.p dx (pbF r { M with day := day } ct pi pk))) [x] := fun c hc => by
            rw [List.mem_singleton.mp hc]
            exact ⟨_, upd_same, trivial⟩
          exact Fr.tup (Fr.upd (List.mem_singleton_self x)) mu2 (Fr.tup (Fr.upd (List.mem_singleton_self x)) mu ht)
        generalize upd (upd H1 x (.ins CC.p dx (pbF r { M with day := day } ct pi pk))) x (.ins CC.p dx (pbF r { M with day := day } t pi pk)) = G at *
        obtain ⟨dr, kt, r1, r2⟩ := id g2
        have hk := keepAt_some fo ok.many0 m0
        have kb := keptV_bnd fo (keepAt_bnd fo M.many).1 (keepAt_bnd fo M.many).2 true
        have l6 := ok.len
        have l7 := ok.many1
        have l8 := fo.figs.p1
        refine ⟨_, rfl, x, dx3, _, rfl, g1, b0 (by decide +kernel), _, rfl, x, CC.p, dx3, _, _, rfl, g1, T_Putby.cl, T_Putby.n3, b3, _, rfl, t, _, _, _, rfl, rfl, ht3, rfl, _, _, rfl, rfl, _, rfl, x, CC.p, dx3, _, _, rfl, g1, T_Putby.cl, T_Putby.n1, b1, r, dr, _, rfl, r1, lk0 (by decide +kernel), _, rfl, t, _, _, _, rfl, rfl, ht3, rfl, rfl, rfl, ?_⟩
        refine ⟨r, M.many, true, f', keepAt f' M.many, by rw [p1]; rfl, g2, fo, ok.many0, m0, hk, ?_⟩
        refine ⟨x, r, pi, pk, .go, M.begin_ + (d1 - M.begin_), _, f', { M with day := day }, _, rfl, hP2, ok.nn, by show M.pays.length ≤ 900; omega, ok.whole, kb.1, kb.2, fun H3 pk' nk t3 hk3 => ?_⟩
        have de : M.begin_ + (d1 - M.begin_) = d1 := by omega
        rw [de] at hk3
        refine q z H3 pk' (.inr (but_none t2 (by rw [h1]; exact fun z => nomatch z) (by rw [g1]; exact fun z => nomatch z) nk)) (t2.trans t3) ?_
        rw [to_go e hcc]
        exact ⟨_, hk3.eq rfl rfl rfl rfl (by show backR d1 M.pays.reverse _ = M.backs ++ _; rw [bb0, List.nil_append]; rfl), csm_mk (w := .go) (d := d1) rfl rfl rfl⟩
theorem cs_m {f : Fg} {M : Md} {c : Cs} (ok : M.Ok f) (hc : CsM M c) : c.w = .st → c.m ≤ f.m := fun hw => by
  rcases en_or M with e | ⟨w, d, e⟩
  · exact csm_m ok e hc
  · exact absurd ((csm_some e hc).1.symm.trans hw) (ok.over w d e).1
/-- whether it stands by the morning of a day -/
theorem stand_iff {f : Fg} {M : Md} {c : Cs} {D : Int} (fo : f.Ok) (ok : M.Ok f) (hc : CsM M c) : (passT f.s f.g f.m c (D - M.begin_)).w = .st ↔ (toM f M D).en = none := by
  rcases en_or M with e | ⟨w, d, e⟩
  · rw [to_cs e hc, (to_en fo e).1]
  · have h := csm_some e hc
    have cn : c.w ≠ .st := by
      rw [h.1]
      exact (ok.over w d e).1
    rw [passT_over cn, to_over e]
    exact ⟨fun z => absurd z cn, fun z => absurd (e.symm.trans z) (fun z => nomatch z)⟩
/-- where it stands: the course, and what is known -/
theorem stand_at {f : Fg} {M : Md} {c : Cs} {D : Int} (fo : f.Ok) (ok : M.Ok f) (hc : CsM M c) (h : (toM f M D).en = none) : M.en = none ∧ ∃ d m, passT f.s f.g f.m c (D - M.begin_) = ⟨.st, d - M.begin_, M.many, m⟩ ∧ toM f M D = { M with day := D, due := d, missed := m } ∧ c.p = M.many := by
  rcases en_or M with e | ⟨w, d, e⟩
  · refine ⟨e, ?_⟩
    obtain ⟨p1, p2, p3, p4⟩ := passN_bnd (g := f.g) fo.figs.s0 (f.m - M.missed).toNat M.due M.many M.missed D
    have hs := (to_en (D := D) fo e).1.mp h
    have ec := to_cs (f := f) (D := D) e hc
    cases hcc : passN f.s f.g (f.m - M.missed).toNat M.due M.many M.missed D with
    | mk w1 d1 pp1 m1 =>
    rw [hcc] at ec p1 hs
    dsimp only at ec p1 hs
    subst hs p1
    exact ⟨d1, m1, ec, to_st e hcc, by rw [csm_none e hc]⟩
  · rw [to_over e] at h
    exact absurd (e.symm.trans h) (fun z => nomatch z)
/-! ### Putby_pay -/
abbrev s_Putby_pay : Stmt := inClass (topS 21) 1
abbrev N_Putby_pay : List Str := ["self", "day", "who", "course", "pence"]
theorem sc_Putby_pay : FnScope N_Putby_pay ["self", "day", "who"] (defScope s_Putby_pay) := ⟨rfl, rfl, rfl, by decide +kernel, rfl, by decide +kernel, by decide +kernel⟩
def sp_Putby_pay (K : PySem.W.Frag) (C : Cl) : Sp := fun vs H Q E => ∃ (x r pi pk : Addr) (day : Int) (who : Str) (f : Fg) (M : Md), vs = [.ref x, .int day, .str who] ∧ PbAt K C H x r pi pk f M ∧ pi ≠ pk ∧ M.Ok f ∧ f.Ok ∧ (day < M.day → E (.ref C.n) none H) ∧ (M.day ≤ day → (toM f M day).en ≠ none → ∀ H', Same H H' → E (.ref C.i) none H') ∧ (M.day ≤ day → (toM f M day).en = none → ∀ H', Fr [x, pi] H H' → PbAt K C H' x r pi pk f (paidM f (toM f M day) day who) → Q (.int (nextP f (toM f M day))) H')
theorem ok_Putby_pay {f : Addr} {fd : FuncData} {CC : Cl} (T_Rule : TRule K mg CC.r) (T_Putby : TPutby K mg CC.p) (TE : TErrs K mg CC) (C_paid_on : CF P w K mg base 3 "paid_on" ["rule", "state", "day"] (sp_paid_on K CC.r)) (C_Putby_standing_on_1 : CMx P w K mg base CC.p 3 "standing_on" ["self", "day"] (sp_Putby_standing_on K CC)) (C_Putby_next_part_0 : CMt P w K mg base CC.p 3 "next_part" ["self"] [] (sp_Putby_next_part K CC)) (F : FunD K "pay" "Putby.pay" (defArgs s_Putby_pay) (defBody s_Putby_pay) (defScope s_Putby_pay) [] [] f fd) : FnOk P w K mg base (L2.CX P w) 4 f fd ["self", "day", "who"] (sp_Putby_pay K CC) := by
  refine F.ok sc_Putby_pay (fun vs H Q E h => ?_) (fun cdv A outer s H vs Q E hr h => ?_)
  · first | (obtain ⟨_, rfl, _⟩ := h; rfl) | (obtain ⟨_, _, rfl, _⟩ := h; rfl) | (obtain ⟨_, _, _, rfl, _⟩ := h; rfl) | (obtain ⟨_, _, _, _, rfl, _⟩ := h; rfl) | (obtain ⟨_, _, _, _, _, rfl, _⟩ := h; rfl) | (obtain ⟨_, _, _, _, _, _, rfl, _⟩ := h; rfl) | (obtain ⟨_, _, _, _, _, _, _, rfl, _⟩ := h; rfl) | (obtain ⟨_, _, _, _, _, _, _, _, rfl, _⟩ := h; rfl) | (obtain ⟨_, _, _, _, _, _, _, _, _, rfl, _⟩ := h; rfl) | (obtain ⟨_, _, _, _, _, _, _, _, _, _, rfl, _⟩ := h; rfl) | (obtain ⟨_, _, _, _, _, _, _, _, _, _, _, rfl, _⟩ := h; rfl) | (obtain ⟨_, _, _, _, _, _, _, _, _, _, _, _, rfl, _⟩ := h; rfl) | (obtain ⟨_, _, _, _, _, _, _, _, _, _, _, _, _, rfl, _⟩ := h; rfl) | (obtain ⟨_, _, _, _, _, _, _, _, _, _, _, _, _, _, rfl, _⟩ := h; rfl) | (obtain ⟨_, _, _, _, _, _, _, _, _, _, _, _, _, _, _, rfl, _⟩ := h; rfl)
  · have hu64 := hr.units
    obtain ⟨x, r, pi, pk, day, who, f', M, rfl, ⟨c, hP, hc⟩, ik, ok, fo, no, idle, q⟩ := h
    refine ⟨_, (pss_cons (ps_set (i := 3) sc_Putby_pay.nd rfl (.inl rfl) (pe_mtx C_Putby_standing_on_1 T_Putby.cl (hr.mono (by decide)) (takes_of rfl rfl rfl rfl) (pv 0) (pa_cons (pv 1) pa_nil)))
      (pss_cons (ps_set (i := 4) sc_Putby_pay.nd rfl (.inl rfl) (pe_mt0 C_Putby_next_part_0 T_Putby.cl (hr.mono (by decide)) (pv 0)))
      (pss_cons (ps_fld (pv 0) (pv 1) rfl)
      (pss_cons (ps_fld (pv 0) (pe_cf C_paid_on (hr.mono (by decide)) (by rfl) (pa_cons (pe_fld (pv 0) rfl) (pa_cons (pv 3) (pa_cons (pe_op op_sub (pv 1) (pe_fld (pv 0) rfl)) pa_nil)))) rfl)
      (pss_cons (ps_expr (pe_bm PySem.F.plainAttrs_list PySem.F.slot_list_append PySem.F.type_list_append mt_append (pe_fld (pv 0) rfl) (pa_cons (pe_tup (pa_cons (pv 1) (pa_cons (pv 2) (pa_cons (pv 4) pa_nil)))) pa_nil)))
      (pss_one (ps_ret (pv 4)))))))), ?_⟩
    obtain ⟨dx, ct, h1, h2, h3, h5, h6⟩ := id hP
    have l6 := ok.len
    have l7 := ok.many1
    have l8 := fo.figs.p1
    have pr := ok.pr1
    have w0 := sumP_nn ok.nn
    refine ⟨_, rfl, x, dx, _, rfl, h1, b0 (by decide +kernel), _, rfl, x, r, pi, pk, day, f', M, c, rfl, hP, cs_m ok hc, no, fun z hn => idle z (fun y => hn ((stand_iff fo ok hc).mpr y)), fun z hs H1 t s1 ht => ?_⟩
    have hs1 := (stand_iff fo ok hc).mp hs
    obtain ⟨e, d1, m1, ec, et, ep⟩ := stand_at fo ok hc hs1
    obtain ⟨k0, bb0, s0, m0, i0, i1, d0⟩ := ok.st e
    have q1 := q z hs1
    have okA := to_ok (D := day) fo ok z
    have nb := next_bnd (f := f') (M := M) s0 m0
    have en : nextP f' (toM f' M day) = nextP f' M := by
      rw [et]
      rfl
    rw [ec] at ht
    rw [en] at q1
    refine ⟨_, rfl, x, dx, _, rfl, s1 _ _ h1, b0 (by decide +kernel), x, r, pi, pk, f', M, c, rfl, hP.same s1, fo, by omega, by omega, by omega, by have := ok.many0; omega, by omega, fun H2 s2 => ?_⟩
    have enx : -(-(M.price - sumP M.pays) / (f'.p - c.p)) = nextP f' M := by
      rw [ep]
      rfl
    rw [enx]
    have s12 := s1.trans s2
    have hx2 := s12 _ _ h1
    refine ⟨_, rfl, _, rfl, x, CC.p, dx, _, rfl, hx2, T_Putby.cl, T_Putby.n4, (by show (7 : Nat) < 1000; decide), ?_⟩
    rw [f4]
    have a1 := PbC.put (M' := { M with day := day }) hx2 (h2.same s12) (h3.same s12) (h5.same s12) (h6.same s12)
    have mu2 : Mu H2 [x] := fun c hc => by
      rw [List.mem_singleton.mp hc]
      exact ⟨_, hx2, trivial⟩
    have ht2 : StAt K (upd H2 x (.ins CC.p dx (pbF r { M with day := day } ct pi pk))) t ⟨.st, d1 - M.begin_, M.many, m1⟩ := Fr.tup (Fr.upd (List.mem_singleton_self x)) mu2 (ht.same s2)
    have t2 : Fr [x, pi] H (upd H2 x (.ins CC.p dx (pbF r { M with day := day } ct pi pk))) := (Fr.of s12).trans (Fr.upd (by simp))
    have hx3 := upd_same (H := H2) (a := x) (o := .ins CC.p dx (pbF r { M with day := day } ct pi pk))
    generalize upd H2 x (.ins CC.p dx (pbF r { M with day := day } ct pi pk)) = G at *
    obtain ⟨dx', ct', g1, g2, g3, g5, g6⟩ := a1
    refine ⟨_, rfl, x, CC.p, dx, _, _, rfl, hx3, T_Putby.cl, T_Putby.n1, b1, _, rfl, _, rfl, _, rfl, x, CC.p, dx, _, _, rfl, hx3, T_Putby.cl, T_Putby.n3, b3, _, _, rfl, rfl, r, t, _, f', _, rfl, g2, fo, ht2, fun H3 u s3 hu => ?_⟩
    refine ⟨_, rfl, x, CC.p, dx, _, rfl, s3 _ _ hx3, T_Putby.cl, T_Putby.n5, (by show (7 : Nat) < 1000; decide), ?_⟩
    rw [f5]
    have a2 := PbC.put (M := { M with day := day }) (M' := { M with day := day }) (s3 _ _ hx3) (g2.same s3) hu (g5.same s3) (g6.same s3)
    have t3 : Fr [x, pi] H (upd H3 x (.ins CC.p dx (pbF r { M with day := day } u pi pk))) := (t2.trans (Fr.of s3)).trans (Fr.upd (by simp))
    have hx4 := upd_same (H := H3) (a := x) (o := .ins CC.p dx (pbF r { M with day := day } u pi pk))
    generalize upd H3 x (.ins CC.p dx (pbF r { M with day := day } u pi pk)) = G2 at *
    obtain ⟨dx'', u', j1, j2, j3, ⟨L, e1, e2, e3⟩, j6⟩ := a2
    have eu : u' = u := by
      rw [hx4] at j1
      have := (HO.ins.inj (Option.some.inj j1)).2.2
      unfold pbF at this
      simp only [List.cons.injEq, Prod.mk.injEq] at this
      exact (V.ref.inj this.2.2.2.2.1.2).symm
    refine ⟨_, rfl, x, CC.p, dx, _, _, rfl, hx4, T_Putby.cl, T_Putby.n6, b6, .inl ⟨rfl, _, SqL.of e1⟩, _, rfl, _, rfl, _, rfl, (by show 3 ≤ sizeLine; decide), fun tt ntt => ?_⟩
    have s5 := same_new (o := .tup (prV ⟨day, who, nextP f' M⟩)) ntt
    have lenL : (refs L).length < sizeLine := by
      rw [List.length_map]
      have : L.length = M.pays.length := by
        have := congrArg List.length e3
        rw [List.length_map] at this
        exact this
      exact small1000 (by omega)
    refine ⟨pi, _, _, rfl, rfl, s5 _ _ e1, lenL, ?_⟩
    have mu5 : Mu (upd G2 tt (.tup (prV ⟨day, who, nextP f' M⟩))) [pi] := fun c hc => by
      rw [List.mem_singleton.mp hc]
      exact ⟨_, s5 _ _ e1, trivial⟩
    have f6 : Fr [pi] (upd G2 tt (.tup (prV ⟨day, who, nextP f' M⟩))) (upd (upd G2 tt (.tup (prV ⟨day, who, nextP f' M⟩))) pi (.lst (refs L ++ [.ref tt]))) := Fr.upd (List.mem_singleton_self pi)
    have xpi : x ∉ [pi] := fun e => by
      have := List.mem_singleton.mp e
      rw [← this, hx4] at e1
      cases e1
    have rpi : r ∉ [pi] := fun e => by
      have := List.mem_singleton.mp e
      obtain ⟨_, _, z1, _⟩ := j2
      rw [this, e1] at z1
      cases z1
    have tpi : tt ≠ pi := fun e => by
      rw [e, e1] at ntt
      cases ntt
    have fin : PbC K CC (upd (upd G2 tt (.tup (prV ⟨day, who, nextP f' M⟩))) pi (.lst (refs L ++ [.ref tt]))) x r pi pk f' { M with day := day, pays := M.pays ++ [⟨day, who, nextP f' M⟩] } (payT f'.p f'.s f'.l ⟨.st, d1 - M.begin_, M.many, m1⟩ (day - M.begin_)) := by
      refine ⟨dx, u, f6 _ _ xpi (s5 _ _ hx4), f6.rule mu5 rpi (j2.same s5), f6.tup mu5 (seqT_same s5 (eu ▸ j3)), ⟨L ++ [(tt, ⟨day, who, nextP f' M⟩)], ?_, ?_, ?_⟩, f6.rowsL mu5 (fun e => ik (List.mem_singleton.mp e).symm) (j6.same s5)⟩
      · rw [upd_same, refs_snoc]
      · refine ((e2.same s5).updL (s5 _ _ e1)).snoc ?_
        show (upd (upd G2 tt _) pi _) tt = _
        rw [upd_ne tpi, upd_same]
      · rw [List.map_append, e3]
        rfl
    have all : Fr [x, pi] H (upd (upd G2 tt (.tup (prV ⟨day, who, nextP f' M⟩))) pi (.lst (refs L ++ [.ref tt]))) := (t3.trans (Fr.of s5)).trans (Fr.upd (by simp))
    refine ⟨_, rfl, q1 _ all ⟨_, fin.eq ?_ ?_ ?_ ?_ ?_, ?_⟩⟩
    all_goals rw [et]
    all_goals unfold paidM
    all_goals dsimp only
    · split <;> rfl
    · split <;> rfl
    · split <;> rfl
    · split <;> rfl
    · split
      · rename_i hp
        show M.backs = M.backs ++ backR day (M.pays ++ ([⟨day, who, nextP f' M⟩] : List Pr)).reverse (sumP (M.pays ++ ([⟨day, who, nextP f' M⟩] : List Pr)) - M.price)
        have sm : sumP (M.pays ++ [⟨day, who, nextP f' M⟩]) = sumP M.pays + nextP f' M := by
          rw [sumP_app]
          show _ + (nextP f' M + 0) = _
          omega
        rw [sm, nb.2.2 hp, show sumP M.pays + (M.price - sumP M.pays) - M.price = 0 by omega, back_zero _ _ (NN.rev (ok.nn.snoc (by show 0 ≤ M.price - sumP M.pays; omega))), List.append_nil]
      · rfl
    · split
      · rename_i hp
        rw [pay_so hp]
        exact csm_mk (w := .so) (d := day) rfl rfl rfl
      · rename_i hp
        rw [pay_st hp]
        refine csm_mk0 (M := { M with day := day, due := (if f'.l = true then day else d1) + f'.s, many := M.many + 1, missed := m1, pays := M.pays ++ [⟨day, who, nextP f' M⟩] }) e ?_
        show (⟨.st, (if f'.l = true then day - M.begin_ else d1 - M.begin_) + f'.s, M.many + 1, m1⟩ : Cs) = ⟨.st, (if f'.l = true then day else d1) + f'.s - M.begin_, M.many + 1, m1⟩
        congr 1
        split <;> omega
/-! ### Putby_give_up -/
abbrev s_Putby_give_up : Stmt := inClass (topS 21) 2
abbrev N_Putby_give_up : List Str := ["self", "day", "course"]
theorem sc_Putby_give_up : FnScope N_Putby_give_up ["self", "day"] (defScope s_Putby_give_up) := ⟨rfl, rfl, rfl, by decide +kernel, rfl, by decide +kernel, by decide +kernel⟩
def sp_Putby_give_up (K : PySem.W.Frag) (C : Cl) : Sp := fun vs H Q E => ∃ (x r pi pk : Addr) (day : Int) (f : Fg) (M : Md), vs = [.ref x, .int day] ∧ PbAt K C H x r pi pk f M ∧ M.Ok f ∧ f.Ok ∧ (day < M.day → E (.ref C.n) none H) ∧ (M.day ≤ day → (toM f M day).en ≠ none → ∀ H', Same H H' → E (.ref C.i) none H') ∧ (M.day ≤ day → (toM f M day).en = none → ∀ H' pk', (pk' = pk ∨ H pk' = none) → But x H H' → PbAt K C H' x r pi pk' f (upM f (toM f M day) day) → Q .non H')
theorem ok_Putby_give_up {f : Addr} {fd : FuncData} {CC : Cl} (T_Rule : TRule K mg CC.r) (T_Putby : TPutby K mg CC.p) (TE : TErrs K mg CC) (C_Putby_standing_on_1 : CMx P w K mg base CC.p 3 "standing_on" ["self", "day"] (sp_Putby_standing_on K CC)) (C_Putby_let_off_3 : CMt P w K mg base CC.p 3 "let_off" ["self", "word", "day", "percent"] [] (sp_Putby_let_off K CC)) (C_Rule_keeps_1 : CMt P w K mg base CC.r 1 "keeps" ["self", "paid", "gone"] [.bl false] (sp_Rule_keeps K CC.r)) (F : FunD K "give_up" "Putby.give_up" (defArgs s_Putby_give_up) (defBody s_Putby_give_up) (defScope s_Putby_give_up) [] [] f fd) : FnOk P w K mg base (L2.CX P w) 4 f fd ["self", "day"] (sp_Putby_give_up K CC) := by
  refine F.ok sc_Putby_give_up (fun vs H Q E h => ?_) (fun cdv A outer s H vs Q E hr h => ?_)
  · first | (obtain ⟨_, rfl, _⟩ := h; rfl) | (obtain ⟨_, _, rfl, _⟩ := h; rfl) | (obtain ⟨_, _, _, rfl, _⟩ := h; rfl) | (obtain ⟨_, _, _, _, rfl, _⟩ := h; rfl) | (obtain ⟨_, _, _, _, _, rfl, _⟩ := h; rfl) | (obtain ⟨_, _, _, _, _, _, rfl, _⟩ := h; rfl) | (obtain ⟨_, _, _, _, _, _, _, rfl, _⟩ := h; rfl) | (obtain ⟨_, _, _, _, _, _, _, _, rfl, _⟩ := h; rfl) | (obtain ⟨_, _, _, _, _, _, _, _, _, rfl, _⟩ := h; rfl) | (obtain ⟨_, _, _, _, _, _, _, _, _, _, rfl, _⟩ := h; rfl) | (obtain ⟨_, _, _, _, _, _, _, _, _, _, _, rfl, _⟩ := h; rfl) | (obtain ⟨_, _, _, _, _, _, _, _, _, _, _, _, rfl, _⟩ := h; rfl) | (obtain ⟨_, _, _, _, _, _, _, _, _, _, _, _, _, rfl, _⟩ := h; rfl) | (obtain ⟨_, _, _, _, _, _, _, _, _, _, _, _, _, _, rfl, _⟩ := h; rfl) | (obtain ⟨_, _, _, _, _, _, _, _, _, _, _, _, _, _, _, rfl, _⟩ := h; rfl)
  · have hu64 := hr.units
    obtain ⟨x, r, pi, pk, day, f', M, rfl, ⟨c, hP, hc⟩, ok, fo, no, idle, q⟩ := h
    refine ⟨_, (pss_cons (ps_set (i := 2) sc_Putby_give_up.nd rfl (.inl rfl) (pe_mtx C_Putby_standing_on_1 T_Putby.cl (hr.mono (by decide)) (takes_of rfl rfl rfl rfl) (pv 0) (pa_cons (pv 1) pa_nil)))
      (pss_cons (ps_fld (pv 0) (pv 1) rfl)
      (pss_one (ps_expr (pe_mt C_Putby_let_off_3 T_Putby.cl (hr.mono (by decide)) (pv 0) (pa_cons pe_str (pa_cons (pv 1) (pa_cons (pe_mt C_Rule_keeps_1 T_Rule.cl (hr.mono (by decide)) (pe_fld (pv 0) rfl) (pa_cons (pe_ix (kk_ixt K) (pv 2) pe_int (fun _ _ => rfl)) pa_nil)) pa_nil)))))))), ?_⟩
    obtain ⟨dx, ct, h1, h2, h3, h5, h6⟩ := id hP
    have l6 := ok.len
    have l7 := ok.many1
    have l8 := fo.figs.p1
    refine ⟨_, rfl, x, dx, _, rfl, h1, b0 (by decide +kernel), _, rfl, x, r, pi, pk, day, f', M, c, rfl, hP, cs_m ok hc, no, fun z hn => idle z (fun y => hn ((stand_iff fo ok hc).mpr y)), fun z hs H1 t s1 ht => ?_⟩
    have hs1 := (stand_iff fo ok hc).mp hs
    obtain ⟨e, d1, m1, ec, et, ep⟩ := stand_at fo ok hc hs1
    obtain ⟨k0, bb0, s0, m0, i0, i1, d0⟩ := ok.st e
    have q1 := q z hs1
    rw [ec] at ht
    have hx1 := s1 _ _ h1
    refine ⟨_, rfl, _, rfl, x, CC.p, dx, _, rfl, hx1, T_Putby.cl, T_Putby.n4, (by show (7 : Nat) < 1000; decide), ?_⟩
    rw [f4]
    have a1 := PbC.put (M' := { M with day := day }) hx1 (h2.same s1) (h3.same s1) (h5.same s1) (h6.same s1)
    have mu1 : Mu H1 [x] := fun c hc => by
      rw [List.mem_singleton.mp hc]
      exact ⟨_, hx1, trivial⟩
    have ht2 : StAt K (upd H1 x (.ins CC.p dx (pbF r { M with day := day } ct pi pk))) t ⟨.st, d1 - M.begin_, M.many, m1⟩ := Fr.tup (Fr.upd (List.mem_singleton_self x)) mu1 ht
    have t2 : But x H (upd H1 x (.ins CC.p dx (pbF r { M with day := day } ct pi pk))) := (But.of s1).trans But.upd
    have hx3 := upd_same (H := H1) (a := x) (o := .ins CC.p dx (pbF r { M with day := day } ct pi pk))
    generalize upd H1 x (.ins CC.p dx (pbF r { M with day := day } ct pi pk)) = G at *
    obtain ⟨dx', ct', g1, g2, g3, g5, g6⟩ := id a1
    obtain ⟨dr, kt, r1, r2⟩ := id g2
    have hk := keepAt_some fo ok.many0 m0
    have kb := keepAt_bnd fo M.many
    refine ⟨_, rfl, x, dx, _, rfl, hx3, b0 (by decide +kernel), _, rfl, _, rfl, x, CC.p, dx, _, _, rfl, hx3, T_Putby.cl, T_Putby.n1, b1, r, dr, _, rfl, r1, lk0 (by decide +kernel), _, rfl, t, _, _, _, rfl, rfl, ht2, rfl, ?_⟩
    refine ⟨r, M.many, false, f', keepAt f' M.many, rfl, g2, fo, ok.many0, m0, hk, ?_⟩
    refine ⟨x, r, pi, pk, .up, day, _, f', { M with day := day }, _, rfl, a1, ok.nn, by show M.pays.length ≤ 900; omega, ok.whole, kb.1, kb.2, fun H3 pk' nk t3 hk3 => ?_⟩
    refine q1 H3 pk' (.inr (but_none t2 (by rw [h1]; exact fun z => nomatch z) (by rw [hx3]; exact fun z => nomatch z) nk)) (t2.trans t3) ?_
    rw [et]
    exact ⟨_, hk3.eq rfl rfl rfl rfl (by show backR day M.pays.reverse _ = M.backs ++ _; rw [bb0, List.nil_append]; rfl), csm_mk (w := .up) (d := day) rfl rfl rfl⟩
/-! ### Putby_price_falls -/
abbrev s_Putby_price_falls : Stmt := inClass (topS 21) 3
abbrev N_Putby_price_falls : List Str := ["self", "day", "price"]
theorem sc_Putby_price_falls : FnScope N_Putby_price_falls ["self", "day", "price"] (defScope s_Putby_price_falls) := ⟨rfl, rfl, rfl, by decide +kernel, rfl, by decide +kernel, by decide +kernel⟩
def sp_Putby_price_falls (K : PySem.W.Frag) (C : Cl) : Sp := fun vs H Q E => ∃ (x r pi pk : Addr) (day price : Int) (f : Fg) (M : Md), vs = [.ref x, .int day, .int price] ∧ PbAt K C H x r pi pk f M ∧ M.Ok f ∧ f.Ok ∧ (day < M.day → E (.ref C.n) none H) ∧ (M.day ≤ day → ∀ H' pk', (pk' = pk ∨ H pk' = none) → But x H H' → PbAt K C H' x r pi pk' f (fallM f (toM f M day) day price) → Q .non H')
theorem ok_Putby_price_falls {f : Addr} {fd : FuncData} {CC : Cl} (T_Rule : TRule K mg CC.r) (T_Putby : TPutby K mg CC.p) (TE : TErrs K mg CC) (C_Putby_pass_to_1 : CMx P w K mg base CC.p 4 "pass_to" ["self", "day"] (sp_Putby_pass_to K CC)) (C_Putby_paid_0 : CMt P w K mg base CC.p 1 "paid" ["self"] [] (sp_Putby_paid K CC)) (C_Putby_end_3 : CMt P w K mg base CC.p 2 "end" ["self", "word", "day", "pence"] [] (sp_Putby_end K CC)) (F : FunD K "price_falls" "Putby.price_falls" (defArgs s_Putby_price_falls) (defBody s_Putby_price_falls) (defScope s_Putby_price_falls) [] [] f fd) : FnOk P w K mg base (L2.CX P w) 5 f fd ["self", "day", "price"] (sp_Putby_price_falls K CC) := by
  refine F.ok sc_Putby_price_falls (fun vs H Q E h => ?_) (fun cdv A outer s H vs Q E hr h => ?_)
  · first | (obtain ⟨_, rfl, _⟩ := h; rfl) | (obtain ⟨_, _, rfl, _⟩ := h; rfl) | (obtain ⟨_, _, _, rfl, _⟩ := h; rfl) | (obtain ⟨_, _, _, _, rfl, _⟩ := h; rfl) | (obtain ⟨_, _, _, _, _, rfl, _⟩ := h; rfl) | (obtain ⟨_, _, _, _, _, _, rfl, _⟩ := h; rfl) | (obtain ⟨_, _, _, _, _, _, _, rfl, _⟩ := h; rfl) | (obtain ⟨_, _, _, _, _, _, _, _, rfl, _⟩ := h; rfl) | (obtain ⟨_, _, _, _, _, _, _, _, _, rfl, _⟩ := h; rfl) | (obtain ⟨_, _, _, _, _, _, _, _, _, _, rfl, _⟩ := h; rfl) | (obtain ⟨_, _, _, _, _, _, _, _, _, _, _, rfl, _⟩ := h; rfl) | (obtain ⟨_, _, _, _, _, _, _, _, _, _, _, _, rfl, _⟩ := h; rfl) | (obtain ⟨_, _, _, _, _, _, _, _, _, _, _, _, _, rfl, _⟩ := h; rfl) | (obtain ⟨_, _, _, _, _, _, _, _, _, _, _, _, _, _, rfl, _⟩ := h; rfl) | (obtain ⟨_, _, _, _, _, _, _, _, _, _, _, _, _, _, _, rfl, _⟩ := h; rfl)
  · have hu64 := hr.units
    obtain ⟨x, r, pi, pk, day, price, f', M, rfl, hA, ok, fo, no, q⟩ := h
    refine ⟨_, (pss_cons (ps_expr (pe_mtx C_Putby_pass_to_1 T_Putby.cl (hr.mono (by decide)) (takes_of rfl rfl rfl rfl) (pv 0) (pa_cons (pv 1) pa_nil)))
      (pss_cons (ps_if (PW.pt (pw_or (pt_cmpR op_ne (pe_ix (kk_ixt K) (pe_fld (pv 0) rfl) pe_int (fun _ _ => rfl)) pe_str (nomark _)) (pw_or (pt_cmpR op_gt (pe_op op_sub (pv 1) (pe_fld (pv 0) rfl)) (pe_fld (pe_fld (pv 0) rfl) rfl) (nomark _)) (pw_or1 (pt_cmpR op_ge (pv 2) (pe_fld (pv 0) rfl) (nomark _))))))
         (pss_one ps_retN)
         pss_nil)
      (pss_cons (ps_fld (pv 0) (pv 2) rfl)
      (pss_one (ps_if (pt_cmpR op_ge (pe_mt0 C_Putby_paid_0 T_Putby.cl (hr.mono (by decide)) (pv 0)) (pv 2) (nomark _))
         (pss_one (ps_expr (pe_mt C_Putby_end_3 T_Putby.cl (hr.mono (by decide)) (pv 0) (pa_cons pe_str (pa_cons (pv 1) (pa_cons (pe_op op_sub (pe_mt0 C_Putby_paid_0 T_Putby.cl (hr.mono (by decide)) (pv 0)) (pv 2)) pa_nil))))))
         pss_nil))))), ?_⟩
    obtain ⟨c, hP, hc⟩ := id hA
    obtain ⟨dx, ct, h1, h2, h3, h5, h6⟩ := id hP
    refine ⟨_, rfl, x, dx, _, rfl, h1, b0 (by decide +kernel), _, rfl, x, r, pi, pk, day, f', M, rfl, hA, ok, fo, no, fun z H1 pk1 k1 t1 hA1 => ?_⟩
    have okA := to_ok (D := day) fo ok z
    have q1 := q z
    generalize toM f' M day = A at *
    obtain ⟨c1, hP1, hc1⟩ := id hA1
    obtain ⟨dx1, ct1, g1, g2, g3, g5, g6⟩ := id hP1
    obtain ⟨dr, kt, r1, r2⟩ := id g2
    have l6 := okA.len
    have l7 := okA.many1
    have l8 := fo.figs.p1
    have stop : ¬ (A.en = none ∧ day - A.begin_ ≤ f'.fa ∧ price < A.price) → Q .non H1 := fun y => q1 H1 pk1 k1 t1 (by unfold fallM; rw [if_neg y]; exact hA1)
    refine ⟨_, rfl, x, CC.p, dx1, _, _, rfl, g1, T_Putby.cl, T_Putby.n5, b5, ct1, _, _, _, rfl, rfl, g3, rfl, rfl, _, rfl, ?_⟩
    rw [wS_st]
    have cst : c1.w = .st ↔ A.en = none := by
      rcases en_or A with e | ⟨w', d', e⟩
      · exact ⟨fun _ => e, fun _ => by rw [csm_none e hc1]⟩
      · refine ⟨fun y => ?_, fun y => absurd (e.symm.trans y) (fun y => nomatch y)⟩
        exact absurd ((csm_some e hc1).1.symm.trans y) (okA.over w' d' e).1
    by_cases hw : c1.w = .st
    · rw [decide_eq_true hw]
      have en := cst.mp hw
      obtain ⟨k0, bb0, s0, m0, i0, i1, d0⟩ := okA.st en
      refine iteF ⟨_, rfl, _, rfl, x, CC.p, dx1, _, _, rfl, g1, T_Putby.cl, T_Putby.n3, b3, _, _, rfl, rfl, _, rfl, x, CC.p, dx1, _, _, rfl, g1, T_Putby.cl, T_Putby.n1, b1, r, CC.r, dr, _, _, rfl, r1, T_Rule.cl, T_Rule.n8, lk8, _, _, rfl, rfl, _, rfl, ite2 (fun y => ?_) (fun y => ?_)⟩
      · have y1 := of_decide_eq_true y
        exact iteT (stop fun z => by omega)
      · have y1 : day - A.begin_ ≤ f'.fa := by
          have : ¬ f'.fa < day - A.begin_ := fun z => y (decide_eq_true z)
          omega
        refine ⟨_, rfl, _, rfl, x, CC.p, dx1, _, _, rfl, g1, T_Putby.cl, T_Putby.n2, b2, _, _, rfl, rfl, _, rfl, ite2 (fun u => ?_) (fun u => ?_)⟩
        · have u1 := of_decide_eq_true u
          exact stop fun z => by omega
        · have u1 : price < A.price := by
            have : ¬ A.price ≤ price := fun z => u (decide_eq_true z)
            omega
          have hf : A.en = none ∧ day - A.begin_ ≤ f'.fa ∧ price < A.price := ⟨en, y1, u1⟩
          refine ⟨_, rfl, _, rfl, x, CC.p, dx1, _, rfl, g1, T_Putby.cl, T_Putby.n2, (by show (7 : Nat) < 1000; decide), ?_⟩
          rw [f2]
          have a1 := PbC.put (M' := { A with price := price }) g1 g2 g3 g5 g6
          have t2 : But x H (upd H1 x (.ins CC.p dx1 (pbF r { A with price := price } ct1 pi pk1))) := t1.trans But.upd
          have hx3 := upd_same (H := H1) (a := x) (o := .ins CC.p dx1 (pbF r { A with price := price } ct1 pi pk1))
          generalize upd H1 x (.ins CC.p dx1 (pbF r { A with price := price } ct1 pi pk1)) = G at *
          refine ⟨_, rfl, x, dx1, _, rfl, hx3, b0 (by decide +kernel), x, r, pi, pk1, f', _, c1, rfl, a1, by show A.pays.length ≤ 900; omega, fun H3 s3 => ⟨_, rfl, _, _, rfl, rfl, _, rfl, ite2 (fun v => ?_) (fun v => ?_)⟩⟩
          · have v1 : price ≤ sumP A.pays := of_decide_eq_true v
            refine ⟨_, rfl, x, dx1, _, rfl, s3 _ _ hx3, b0 (by decide +kernel), _, rfl, _, rfl, x, dx1, _, rfl, s3 _ _ hx3, b0 (by decide +kernel), x, r, pi, pk1, f', _, c1, rfl, a1.same s3, by show A.pays.length ≤ 900; omega, fun H4 s4 => ⟨_, rfl, _, _, rfl, rfl, ?_⟩⟩
            have s34 := s3.trans s4
            refine ⟨x, r, pi, pk1, .so, day, _, f', { A with price := price }, c1, rfl, a1.same s34, okA.nn, by show A.pays.length ≤ 900; omega, fun H5 pk5 n5 t5 h5' => ?_⟩
            have n50 : H pk5 = none := but_none t2 (by rw [h1]; exact fun z => nomatch z) (by rw [hx3]; exact fun z => nomatch z) (none_of s34 n5)
            refine q1 H5 pk5 (.inr n50) ((t2.trans (But.of s34)).trans t5) ?_
            unfold fallM
            rw [if_pos hf, if_pos v1]
            exact ⟨_, h5'.eq rfl rfl rfl rfl (by show backR day A.pays.reverse _ = A.backs ++ _; rw [bb0, List.nil_append]), csm_mk (w := .so) (d := day) rfl rfl rfl⟩
          · have v1 : ¬ price ≤ sumP A.pays := fun z => v (decide_eq_true z)
            refine q1 H3 pk1 k1 (t2.trans (But.of s3)) ?_
            unfold fallM
            rw [if_pos hf, if_neg v1]
            refine ⟨c1, a1.same s3, csm_mk0 (M := { A with price := price }) en (csm_none en hc1)⟩
    · rw [decide_eq_false hw]
      exact iteT (iteT (stop fun z => hw (cst.mpr z.1)))
/-! ### _law_mix -/
abbrev s__law_mix : Stmt := topS 32
abbrev N__law_mix : List Str := ["_law_cell", "_law_k", "_law_m"]
theorem sc__law_mix : FnScope N__law_mix ["_law_cell", "_law_k"] (defScope s__law_mix) := ⟨rfl, rfl, rfl, by decide +kernel, rfl, by decide +kernel, by decide +kernel⟩
def sp__law_mix (K : PySem.W.Frag) : Sp := fun vs H Q _ => ∃ (x k : Int), vs = [.int x, .int k] ∧ 0 ≤ k ∧ k < 10000000000 ∧ ∀ r : Int, 0 ≤ r → r < 1999999973 → Q (.int r) H
theorem ok__law_mix {f : Addr} {fd : FuncData} (F : Fun K "_law_mix" "_law_mix" s__law_mix f fd) (g : mg "_law_mix" = some (.ref f)) (bd : Binds K fd ["_law_cell", "_law_k"] []) : CF P w K mg base 1 "_law_mix" ["_law_cell", "_law_k"] (sp__law_mix K) := by
  refine ⟨f, fd, F.ok sc__law_mix (fun vs H Q E h => ?_) (fun cdv A outer s H vs Q E hr h => ?_), g, F.kp, bd⟩
  · first | (obtain ⟨_, rfl, _⟩ := h; rfl) | (obtain ⟨_, _, rfl, _⟩ := h; rfl) | (obtain ⟨_, _, _, rfl, _⟩ := h; rfl) | (obtain ⟨_, _, _, _, rfl, _⟩ := h; rfl) | (obtain ⟨_, _, _, _, _, rfl, _⟩ := h; rfl) | (obtain ⟨_, _, _, _, _, _, rfl, _⟩ := h; rfl) | (obtain ⟨_, _, _, _, _, _, _, rfl, _⟩ := h; rfl) | (obtain ⟨_, _, _, _, _, _, _, _, rfl, _⟩ := h; rfl) | (obtain ⟨_, _, _, _, _, _, _, _, _, rfl, _⟩ := h; rfl) | (obtain ⟨_, _, _, _, _, _, _, _, _, _, rfl, _⟩ := h; rfl) | (obtain ⟨_, _, _, _, _, _, _, _, _, _, _, rfl, _⟩ := h; rfl) | (obtain ⟨_, _, _, _, _, _, _, _, _, _, _, _, rfl, _⟩ := h; rfl) | (obtain ⟨_, _, _, _, _, _, _, _, _, _, _, _, _, rfl, _⟩ := h; rfl) | (obtain ⟨_, _, _, _, _, _, _, _, _, _, _, _, _, _, rfl, _⟩ := h; rfl) | (obtain ⟨_, _, _, _, _, _, _, _, _, _, _, _, _, _, _, rfl, _⟩ := h; rfl)
  · have hu64 := hr.units
    obtain ⟨x, k, rfl, k0, k1, q⟩ := h
    refine ⟨_, (pss_cons (ps_set (i := 2) sc__law_mix.nd rfl (.inl rfl) (pe_op op_mod (pe_op op_mul (pe_op op_add (pe_op op_add (pe_op op_mod (pv 0) pe_int) (pe_op op_mul (pe_op op_mul (pv 1) (pv 1)) pe_int)) pe_int) pe_int) pe_int))
      (pss_one (ps_ret (pe_op op_mod (pe_op op_mul (pv 2) (pv 2)) pe_int)))), ?_⟩
    refine ⟨_, rfl, _, _, rfl, rfl, (by show (0 : Int) < 2147483629; decide), _, rfl, _, rfl, _, _, rfl, rfl, .inl ⟨by omega, by omega⟩, _, _, rfl, rfl, .inr ⟨by decide, by decide⟩, _, _, rfl, rfl, _, _, rfl, rfl, _, _, rfl, rfl, .inr ⟨by decide, by decide⟩, _, _, rfl, rfl, (by show (0 : Int) < 2147483647; decide), ?_⟩
    have o0 := Int.emod_nonneg ((x % 2147483629 + k * k * 7919 + 11) * 48271) (show (2147483647 : Int) ≠ 0 by decide)
    have o1 := Int.emod_lt_of_pos ((x % 2147483629 + k * k * 7919 + 11) * 48271) (show (0 : Int) < 2147483647 by decide)
    exact ⟨_, rfl, _, rfl, _, _, rfl, rfl, .inl ⟨by omega, by omega⟩, _, _, rfl, rfl, (by show (0 : Int) < 1999999973; decide), q _ (Int.emod_nonneg _ (by decide)) (Int.emod_lt_of_pos _ (by decide))⟩
set_option maxHeartbeats 2000000
/-! ### what is drawn from: three numbers -/
def Tri (H : Hp) (b : Addr) (n : Int) : Prop := ∃ x c z : Int, H b = some (.lst [.int x, .int c, .int z]) ∧ 0 ≤ x ∧ 0 ≤ z ∧ z ≤ n
section
variable {K : PySem.W.Frag} {H H' : Hp} {b p : Addr} {n m : Int} {o : HO}
theorem Tri.mono (h : Tri H b n) (l : n ≤ m) : Tri H b m := by
  obtain ⟨x, c, z, h0, h1, h2, h3⟩ := h
  exact ⟨x, c, z, h0, h1, h2, by omega⟩
theorem Tri.same (h : Tri H b n) (e : Same H H') : Tri H' b n := by
  obtain ⟨x, c, z, h0, h1⟩ := h
  exact ⟨x, c, z, e _ _ h0, h1⟩
theorem Tri.new (h : Tri H b n) (e : H p = none) : Tri (upd H p o) b n := h.same (same_new e)
theorem Tri.ne (h : Tri H b n) (e : H p = none) : p ≠ b := fun z => by
  obtain ⟨_, _, _, h0, _⟩ := h
  rw [z, h0] at e
  cases e
theorem Tri.upd (h : Tri H b n) (e : p ≠ b) : Tri (upd H p o) b n := by
  obtain ⟨x, c, z, h0, h1⟩ := h
  exact ⟨x, c, z, by rw [upd_ne e.symm]; exact h0, h1⟩
theorem Tri.seqT {a : Addr} {xs : List V} (hb : Tri H b n) (t : But b H H') (h : SqT K H a xs) : SqT K H' a xs := by
  obtain ⟨_, _, _, hx, _⟩ := hb
  rcases h with (h | ⟨o, h⟩) | h
  · exact .inl (.inl (t _ _ (ne_of h hx (by intro z; cases z)) h))
  · exact .inl (.inr ⟨o, t _ _ (ne_of h hx (by intro z; cases z)) h⟩)
  · exact .inr h
theorem Tri.rule {C r : Addr} {f : Fg} (hb : Tri H b n) (t : But b H H') (h : RuleAt K H C r f) : RuleAt K H' C r f := by
  obtain ⟨dx, kt, h1, h2⟩ := h
  refine ⟨dx, kt, ?_, hb.seqT t h2⟩
  obtain ⟨_, _, _, hx, _⟩ := hb
  exact t _ _ (ne_of h1 hx (by intro z; cases z)) h1
theorem Tri.keep {p : Int} {ks : List Int} {v : V} {d : PyData} (hb : Tri H b n) (t : But b H H') (h : Keep K H p ks v d) : Keep K H' p ks v d := by
  cases h with
  | one k h0 h1 e => exact .one k h0 h1 e
  | all a h hl hk => exact .all a (hb.seqT t h) hl hk
theorem Tri.drawn {t : Addr} {f : Fg} {kv : V} {kd : PyData} (hb : Tri H b n) (e : But b H H') (h : Drawn K H t f kv kd) : Drawn K H' t f kv kd := ⟨hb.seqT e h.1, h.2.1, hb.keep e h.2.2⟩
end
theorem at2b (sm : Bool) (x y : Int) : ∃ v : Int, atI [V.int x, .int y] (if sm = true then 1 else 0) = some (.int v) ∧ (v = if sm = true then y else x) ∧ (v = x ∨ v = y) := by
  cases sm
  · exact ⟨x, rfl, rfl, .inl rfl⟩
  · exact ⟨y, rfl, rfl, .inr rfl⟩
theorem row_cut {p : Int} (h0 : 1 ≤ p) (h1 : p ≤ 3) (x y z : Int) : ∃ ks : List Int, cutV [V.int x, .int y, .int z] none (some p) = ks.map V.int ∧ (ks.length : Int) = p ∧ ks[0]? = some x ∧ ∀ k ∈ ks, k = x ∨ k = y ∨ k = z := by
  have h : p = 1 ∨ p = 2 ∨ p = 3 := by omega
  rcases h with rfl | rfl | rfl
  · exact ⟨[x], rfl, rfl, rfl, fun k hk => .inl (List.mem_singleton.mp hk)⟩
  · exact ⟨[x, y], rfl, rfl, rfl, fun k hk => by simp at hk; omega⟩
  · exact ⟨[x, y, z], rfl, rfl, rfl, fun k hk => by simpa using hk⟩
/-! ### _law_left -/
abbrev s__law_left : Stmt := topS 33
abbrev N__law_left : List Str := ["_law_script", "_law_k", "_law_cell", "_law_great"]
theorem sc__law_left : FnScope N__law_left ["_law_script", "_law_k"] (defScope s__law_left) := ⟨rfl, rfl, rfl, by decide +kernel, rfl, by decide +kernel, by decide +kernel⟩
def sp__law_left (K : PySem.W.Frag) : Sp := fun vs H Q _ => ∃ (a : Addr) (k : Int) (ns : List Int), vs = [.ref a, .int k] ∧ SqL K H a (ns.map V.int) ∧ ns.length ≤ 63 ∧ 0 ≤ k ∧ k ≤ 63 ∧ ∀ H' b, H b = none → Same H H' → Tri H' b 0 → Q (.ref b) H'
theorem ok__law_left {f : Addr} {fd : FuncData} (F : Fun K "_law_left" "_law_left" s__law_left f fd) (g : mg "_law_left" = some (.ref f)) (bd : Binds K fd ["_law_script", "_law_k"] []) (m_len : mg "len" = none) (m_abs : mg "abs" = none) (m_int : mg "int" = none) : CF P w K mg base 1 "_law_left" ["_law_script", "_law_k"] (sp__law_left K) := by
  refine ⟨f, fd, F.ok sc__law_left (fun vs H Q E h => ?_) (fun cdv A outer s H vs Q E hr h => ?_), g, F.kp, bd⟩
  · first | (obtain ⟨_, rfl, _⟩ := h; rfl) | (obtain ⟨_, _, rfl, _⟩ := h; rfl) | (obtain ⟨_, _, _, rfl, _⟩ := h; rfl) | (obtain ⟨_, _, _, _, rfl, _⟩ := h; rfl) | (obtain ⟨_, _, _, _, _, rfl, _⟩ := h; rfl) | (obtain ⟨_, _, _, _, _, _, rfl, _⟩ := h; rfl) | (obtain ⟨_, _, _, _, _, _, _, rfl, _⟩ := h; rfl) | (obtain ⟨_, _, _, _, _, _, _, _, rfl, _⟩ := h; rfl) | (obtain ⟨_, _, _, _, _, _, _, _, _, rfl, _⟩ := h; rfl) | (obtain ⟨_, _, _, _, _, _, _, _, _, _, rfl, _⟩ := h; rfl) | (obtain ⟨_, _, _, _, _, _, _, _, _, _, _, rfl, _⟩ := h; rfl) | (obtain ⟨_, _, _, _, _, _, _, _, _, _, _, _, rfl, _⟩ := h; rfl) | (obtain ⟨_, _, _, _, _, _, _, _, _, _, _, _, _, rfl, _⟩ := h; rfl) | (obtain ⟨_, _, _, _, _, _, _, _, _, _, _, _, _, _, rfl, _⟩ := h; rfl) | (obtain ⟨_, _, _, _, _, _, _, _, _, _, _, _, _, _, _, rfl, _⟩ := h; rfl)
  · have hu64 := hr.units
    obtain ⟨a, k, ns, rfl, hS, hlen, hk0, hk, q⟩ := h
    refine ⟨_, (pss_cons (ps_set (i := 2) sc__law_left.nd rfl (.inl rfl) (pe_ifExp (pt_cmpR op_gt (pe_callB (kk_len K) (by rfl) m_len PySem.boot_len (pa_cons (pv 0) pa_nil)) pe_int (nomark _)) (pe_ix (kk_ixl K) (pv 0) (pe_op op_mod (pv 1) (pe_callB (kk_len K) (by rfl) m_len PySem.boot_len (pa_cons (pv 0) pa_nil))) (fun _ _ => rfl)) pe_int))
      (pss_cons (ps_set (i := 3) sc__law_left.nd rfl (.inl rfl) (pe_op op_mul (pe_callB call_abs (by rfl) m_abs (by decide +kernel) (pa_cons (pv 2) pa_nil)) (pe_callTy call_int1 (by rfl) m_int (by decide +kernel) (pa_cons (pe_and (pe_cmpR op_ge (pe_callB call_abs (by rfl) m_abs (by decide +kernel) (pa_cons (pv 2) pa_nil)) (pe_op op_pow pe_int pe_int) (nomark _)) (pe_one (pe_cmpR op_lt (pv 1) (pe_callB (kk_len K) (by rfl) m_len PySem.boot_len (pa_cons (pv 0) pa_nil)) (nomark _)))) pa_nil))))
      (pss_one (ps_ret (pe_lst (pa_cons (pv 3) (pa_cons (pe_op op_add (pe_op op_mod (pv 2) (pe_op op_pow pe_int pe_int)) (pe_op op_mul pe_int (pv 1))) (pa_cons pe_int pa_nil)))))))), ?_⟩
    refine ⟨_, rfl, a, _, rfl, .inl hS, _, _, rfl, rfl, _, rfl, ite2 (fun e => ?c1) (fun e => ?c2)⟩
    case' c1 =>
      have e1 := of_decide_eq_true e
      have e2 : 0 < (((ns.map V.int).length : Nat) : Int) := e1
      have e3 := Int.emod_nonneg k (show (((ns.map V.int).length : Nat) : Int) ≠ 0 by omega)
      have e4 := Int.emod_lt_of_pos k e2
      rw [List.length_map] at e4
      obtain ⟨c, hc⟩ := at_int (ns := ns) e3 (by rw [List.length_map]; exact e4)
      refine ⟨_, rfl, _, rfl, _, rfl, a, _, rfl, .inl hS, _, _, rfl, rfl, e2, a, _, _, _, rfl, rfl, hS, hc, ?_⟩
    all_goals
      refine ⟨_, rfl, _, rfl, _, rfl, _, rfl, _, _, rfl, rfl, ⟨by decide, by decide, by decide⟩, _, _, rfl, rfl, _, rfl, ite2 (fun e5 => ?_) (fun e5 => ?_)⟩
      · refine ⟨_, rfl, _, rfl, a, _, rfl, .inl hS, _, _, rfl, rfl, .inr ⟨_, rfl, _, _, rfl, rfl, .inr ⟨?_, ?_⟩, _, rfl, _, rfl, _, _, rfl, rfl, ⟨by decide, by decide, by decide⟩, _, _, rfl, rfl, (by show (0 : Int) < 10 ^ (30 : Int).toNat; decide), _, rfl, _, _, rfl, rfl, .inl ⟨by decide, by decide⟩, _, _, rfl, rfl, (by show 3 ≤ sizeLine; decide), fun p hp => ?_⟩⟩
        · split <;> omega
        · split <;> omega
        · refine q _ p hp (same_new hp) ⟨_, _, _, upd_same, ?_, by omega, by omega⟩
          refine Int.mul_nonneg ?_ ?_ <;> split <;> omega
      · refine .inr ⟨_, rfl, _, _, rfl, rfl, .inr ⟨by decide, by decide⟩, _, rfl, _, rfl, _, _, rfl, rfl, ⟨by decide, by decide, by decide⟩, _, _, rfl, rfl, (by show (0 : Int) < 10 ^ (30 : Int).toNat; decide), _, rfl, _, _, rfl, rfl, .inl ⟨by decide, by decide⟩, _, _, rfl, rfl, (by show 3 ≤ sizeLine; decide), fun p hp => ?_⟩
        refine q _ p hp (same_new hp) ⟨_, _, _, upd_same, ?_, by omega, by omega⟩
        refine Int.mul_nonneg ?_ (by decide)
        split <;> omega
/-! ### _law_pick -/
abbrev s__law_pick : Stmt := topS 34
abbrev N__law_pick : List Str := ["_law_left_here", "_law_many", "_law_digit"]
theorem sc__law_pick : FnScope N__law_pick ["_law_left_here", "_law_many"] (defScope s__law_pick) := ⟨rfl, rfl, rfl, by decide +kernel, rfl, by decide +kernel, by decide +kernel⟩
def sp__law_pick (K : PySem.W.Frag) : Sp := fun vs H Q _ => ∃ (b : Addr) (m n : Int), vs = [.ref b, .int m] ∧ Tri H b n ∧ 0 < m ∧ m < 1073741824 ∧ n < 1000000000 ∧ ∀ (r : Int) H', 0 ≤ r → r < m → Tri H' b (n + 1) → But b H H' → Q (.int r) H'
theorem ok__law_pick {f : Addr} {fd : FuncData} (F : Fun K "_law_pick" "_law_pick" s__law_pick f fd) (g : mg "_law_pick" = some (.ref f)) (bd : Binds K fd ["_law_left_here", "_law_many"] []) (C__law_mix : CF P w K mg base 1 "_law_mix" ["_law_cell", "_law_k"] (sp__law_mix K)) : CF P w K mg base 2 "_law_pick" ["_law_left_here", "_law_many"] (sp__law_pick K) := by
  refine ⟨f, fd, F.ok sc__law_pick (fun vs H Q E h => ?_) (fun cdv A outer s H vs Q E hr h => ?_), g, F.kp, bd⟩
  · first | (obtain ⟨_, rfl, _⟩ := h; rfl) | (obtain ⟨_, _, rfl, _⟩ := h; rfl) | (obtain ⟨_, _, _, rfl, _⟩ := h; rfl) | (obtain ⟨_, _, _, _, rfl, _⟩ := h; rfl) | (obtain ⟨_, _, _, _, _, rfl, _⟩ := h; rfl) | (obtain ⟨_, _, _, _, _, _, rfl, _⟩ := h; rfl) | (obtain ⟨_, _, _, _, _, _, _, rfl, _⟩ := h; rfl) | (obtain ⟨_, _, _, _, _, _, _, _, rfl, _⟩ := h; rfl) | (obtain ⟨_, _, _, _, _, _, _, _, _, rfl, _⟩ := h; rfl) | (obtain ⟨_, _, _, _, _, _, _, _, _, _, rfl, _⟩ := h; rfl) | (obtain ⟨_, _, _, _, _, _, _, _, _, _, _, rfl, _⟩ := h; rfl) | (obtain ⟨_, _, _, _, _, _, _, _, _, _, _, _, rfl, _⟩ := h; rfl) | (obtain ⟨_, _, _, _, _, _, _, _, _, _, _, _, _, rfl, _⟩ := h; rfl) | (obtain ⟨_, _, _, _, _, _, _, _, _, _, _, _, _, _, rfl, _⟩ := h; rfl) | (obtain ⟨_, _, _, _, _, _, _, _, _, _, _, _, _, _, _, rfl, _⟩ := h; rfl)
  · have hu64 := hr.units
    obtain ⟨b, m, n, rfl, ⟨x, c, z, hb, hx, hz, hz2⟩, hm, hm2, hn, q⟩ := h
    refine ⟨_, (pss_cons (ps_asg (pe_op op_add (pe_ix (kk_ixl K) (pv 0) pe_int (fun _ _ => rfl)) pe_int) (pg_sub (pv 0) pe_int set_list))
      (pss_cons (ps_if (pt_cmpR op_gt (pe_ix (kk_ixl K) (pv 0) pe_int (fun _ _ => rfl)) pe_int (nomark _))
         (pss_cons (ps_set (i := 2) sc__law_pick.nd rfl (.inl rfl) (pe_op op_mod (pe_ix (kk_ixl K) (pv 0) pe_int (fun _ _ => rfl)) (pv 1)))
          (pss_cons (ps_asg (pe_op op_fdiv (pe_ix (kk_ixl K) (pv 0) pe_int (fun _ _ => rfl)) (pv 1)) (pg_sub (pv 0) pe_int set_list))
          (pss_one (ps_ret (pv 2)))))
         pss_nil)
      (pss_one (ps_ret (pe_op op_mod (pe_op op_fdiv (pe_cf C__law_mix (hr.mono (by decide)) (by rfl) (pa_cons (pe_cf C__law_mix (hr.mono (by decide)) (by rfl) (pa_cons (pe_ix (kk_ixl K) (pv 0) pe_int (fun _ _ => rfl)) (pa_cons (pe_ix (kk_ixl K) (pv 0) pe_int (fun _ _ => rfl)) pa_nil))) (pa_cons (pe_op op_add (pe_ix (kk_ixl K) (pv 0) pe_int (fun _ _ => rfl)) pe_int) pa_nil))) pe_int) (pv 1)))))), ?_⟩
    have h1 : (upd H b (.lst [.int x, .int c, .int (z + 1)])) b = some (.lst [.int x, .int c, .int (z + 1)]) := upd_same
    refine ⟨_, rfl, b, _, _, _, rfl, rfl, SqL.of hb, rfl, _, _, rfl, rfl, _, rfl, b, _, _, _, rfl, rfl, hb, rfl, ?_⟩
    refine ⟨_, rfl, b, _, _, _, rfl, rfl, SqL.of h1, rfl, _, _, rfl, rfl, _, rfl, ite2 (fun e => ?_) (fun e => ?_)⟩
    · refine ⟨_, rfl, b, _, _, _, rfl, rfl, SqL.of h1, rfl, _, rfl, _, _, rfl, rfl, hm, ?_⟩
      refine ⟨_, rfl, b, _, _, _, rfl, rfl, SqL.of h1, rfl, _, rfl, _, _, rfl, rfl, ⟨hm, hm2⟩, _, rfl, b, _, _, _, rfl, rfl, h1, rfl, ?_⟩
      exact ⟨_, rfl, q _ _ (Int.emod_nonneg _ (by omega)) (Int.emod_lt_of_pos _ hm) ⟨x / m, c, z + 1, upd_same, Int.ediv_nonneg hx (by omega), by omega, by omega⟩ (But.upd.trans But.upd)⟩
    · refine ⟨_, rfl, b, _, _, _, rfl, rfl, SqL.of h1, rfl, _, rfl, b, _, _, _, rfl, rfl, SqL.of h1, rfl, c, z + 1, rfl, by omega, by omega, fun r1 r10 r11 => ?_⟩
      refine ⟨_, rfl, b, _, _, _, rfl, rfl, SqL.of h1, rfl, _, _, rfl, rfl, r1, z + 1 + 64, rfl, by omega, by omega, fun r2 r20 r21 => ?_⟩
      exact ⟨_, _, rfl, rfl, ⟨by decide, by decide⟩, _, rfl, _, _, rfl, rfl, hm, q _ _ (Int.emod_nonneg _ (by omega)) (Int.emod_lt_of_pos _ hm) ⟨x, c, z + 1, h1, hx, by omega, by omega⟩ But.upd⟩
/-! ### _law_same -/
abbrev s__law_same : Stmt := topS 35
abbrev N__law_same : List Str := ["_law_found", "_law_due_here", "_law_one", "_law_other"]
theorem sc__law_same : FnScope N__law_same ["_law_found", "_law_due_here"] (defScope s__law_same) := ⟨rfl, rfl, rfl, by decide +kernel, rfl, by decide +kernel, by decide +kernel⟩
def spr__law_same (K : PySem.W.Frag) : Nat → Sp
  | 0 => fun _ _ _ _ => False
  | n + 1 => fun vs H Q _ => ∃ (x y : V) (d : PyData), vs = [x, y] ∧ Dp K H x d ∧ Dp K H y d ∧ PyData.depth d ≤ n ∧ thin d = true ∧ ∀ H', Same H H' → Q (.bl true) H'
def sp__law_same (K : PySem.W.Frag) : Sp := spr__law_same K 5
theorem st__law_same (n : Nat) {f : Addr} {fd : FuncData} (F : Fun K "_law_same" "_law_same" s__law_same f fd) (g : mg "_law_same" = some (.ref f)) (bd : Binds K fd ["_law_found", "_law_due_here"] []) (m_isinstance : mg "isinstance" = none) (m_tuple : mg "tuple" = none) (m_list : mg "list" = none) (m_all : mg "all" = none) (m_zip : mg "zip" = none) (m_len : mg "len" = none) (m_str : mg "str" = none) (m_bool : mg "bool" = none) (m_int : mg "int" = none) (C__law_same : CF P w K mg base (1 + n) "_law_same" ["_law_found", "_law_due_here"] (spr__law_same K n)) : CF P w K mg base (1 + n + 1) "_law_same" ["_law_found", "_law_due_here"] (spr__law_same K (n + 1)) := by
  refine ⟨f, fd, F.ok sc__law_same (fun vs H Q E h => ?_) (fun cdv A outer s H vs Q E hr h => ?_), g, F.kp, bd⟩
  · first | (obtain ⟨_, rfl, _⟩ := h; rfl) | (obtain ⟨_, _, rfl, _⟩ := h; rfl) | (obtain ⟨_, _, _, rfl, _⟩ := h; rfl) | (obtain ⟨_, _, _, _, rfl, _⟩ := h; rfl) | (obtain ⟨_, _, _, _, _, rfl, _⟩ := h; rfl) | (obtain ⟨_, _, _, _, _, _, rfl, _⟩ := h; rfl) | (obtain ⟨_, _, _, _, _, _, _, rfl, _⟩ := h; rfl) | (obtain ⟨_, _, _, _, _, _, _, _, rfl, _⟩ := h; rfl) | (obtain ⟨_, _, _, _, _, _, _, _, _, rfl, _⟩ := h; rfl) | (obtain ⟨_, _, _, _, _, _, _, _, _, _, rfl, _⟩ := h; rfl) | (obtain ⟨_, _, _, _, _, _, _, _, _, _, _, rfl, _⟩ := h; rfl) | (obtain ⟨_, _, _, _, _, _, _, _, _, _, _, _, rfl, _⟩ := h; rfl) | (obtain ⟨_, _, _, _, _, _, _, _, _, _, _, _, _, rfl, _⟩ := h; rfl) | (obtain ⟨_, _, _, _, _, _, _, _, _, _, _, _, _, _, rfl, _⟩ := h; rfl) | (obtain ⟨_, _, _, _, _, _, _, _, _, _, _, _, _, _, _, rfl, _⟩ := h; rfl)
  · have hu64 := hr.units
    obtain ⟨x, y, d, rfl, hx, hy, hd, ht, q⟩ := h
    refine ⟨_, (pss_cons (ps_if (pt_val (pe_callB (kk_isiT K) (by rfl) m_isinstance (by decide +kernel) (pa_cons (pv 1) (pa_cons (pe_tup (pa_cons (pe_bltn (v := .ty "list") (by rfl) m_list (by decide +kernel) rfl) (pa_cons (pe_bltn (v := .ty "tuple") (by rfl) m_tuple (by decide +kernel) rfl) pa_nil))) pa_nil))))
         (pss_cons (ps_if (PW.pt (pw_or (pt_cmpR op_ne (pe_callB (kk_isi K) (by rfl) m_isinstance (by decide +kernel) (pa_cons (pv 0) (pa_cons (pe_bltn (v := .ty "list") (by rfl) m_list (by decide +kernel) rfl) pa_nil))) (pe_callB (kk_isi K) (by rfl) m_isinstance (by decide +kernel) (pa_cons (pv 1) (pa_cons (pe_bltn (v := .ty "list") (by rfl) m_list (by decide +kernel) rfl) pa_nil))) (nomark _)) (pw_or1 (pt_cmpR op_ne (pe_callB (kk_isi K) (by rfl) m_isinstance (by decide +kernel) (pa_cons (pv 0) (pa_cons (pe_bltn (v := .ty "tuple") (by rfl) m_tuple (by decide +kernel) rfl) pa_nil))) (pe_callB (kk_isi K) (by rfl) m_isinstance (by decide +kernel) (pa_cons (pv 1) (pa_cons (pe_bltn (v := .ty "tuple") (by rfl) m_tuple (by decide +kernel) rfl) pa_nil))) (nomark _)))))
             (pss_one (ps_ret pe_bl))
             pss_nil)
          (pss_one (ps_ret (pe_and (pe_cmpR op_eq (pe_callB (kk_len K) (by rfl) m_len PySem.boot_len (pa_cons (pv 0) pa_nil)) (pe_callB (kk_len K) (by rfl) m_len PySem.boot_len (pa_cons (pv 1) pa_nil)) (nomark _)) (pe_one (pe_callB (kk_all K rfl) (by rfl) m_all (by decide +kernel) (pa_cons (pe_lc (own := [("_law_one", 2), ("_law_other", 3)]) (g := (gTup K 2 (gCons (gName 2) (gCons (gName 3) gNil)))) (tt := tYes) rfl sc__law_same.nd (RZ.pi_zipA (by rfl) m_zip (pa_cons (pv 0) (pa_cons (pv 1) pa_nil))) (blkOk_by (own := [("_law_one", 2), ("_law_other", 3)]) (N := N__law_same) (sc := defScope s__law_same) (by decide +kernel)) (fun _ _ _ _ _ => (pg_tup (by rfl) (pgs_cons (pg_name (i := 2) sc__law_same.nd rfl (.inl rfl)) (pgs_cons (pg_name (i := 3) sc__law_same.nd rfl (.inl rfl)) pgs_nil)))) (fun _ _ _ _ _ => pts_nil) (fun _ _ _ _ _ => (pe_cf C__law_same hr (by rfl) (pa_cons (pv 2) (pa_cons (pv 3) pa_nil))))) pa_nil)))))))
         pss_nil)
      (pss_cons (ps_if (PW.pt (pw_or (pt_cmpR op_isN (pv 1) pe_non (nomark _)) (pw_or1 (pt_val (pe_callB (kk_isi K) (by rfl) m_isinstance (by decide +kernel) (pa_cons (pv 1) (pa_cons (pe_bltn (v := .ty "str") (by rfl) m_str (by decide +kernel) rfl) pa_nil)))))))
         (pss_one (ps_ret (pe_and (pe_cmpR op_eq (pv 0) (pv 1) (nomark _)) (pe_one (pe_cmpR op_eq (pe_callB (kk_isi K) (by rfl) m_isinstance (by decide +kernel) (pa_cons (pv 0) (pa_cons (pe_bltn (v := .ty "str") (by rfl) m_str (by decide +kernel) rfl) pa_nil))) (pe_callB (kk_isi K) (by rfl) m_isinstance (by decide +kernel) (pa_cons (pv 1) (pa_cons (pe_bltn (v := .ty "str") (by rfl) m_str (by decide +kernel) rfl) pa_nil))) (nomark _))))))
         pss_nil)
      (pss_cons (ps_if (pt_val (pe_callB (kk_isi K) (by rfl) m_isinstance (by decide +kernel) (pa_cons (pv 1) (pa_cons (pe_bltn (v := .ty "bool") (by rfl) m_bool (by decide +kernel) rfl) pa_nil))))
         (pss_one (ps_ret (pe_and (pe_callB (kk_isi K) (by rfl) m_isinstance (by decide +kernel) (pa_cons (pv 0) (pa_cons (pe_bltn (v := .ty "bool") (by rfl) m_bool (by decide +kernel) rfl) pa_nil))) (pe_one (pe_cmpR op_eq (pv 0) (pv 1) (nomark _))))))
         pss_nil)
      (pss_one (ps_ret (pe_and (pe_callB (kk_isi K) (by rfl) m_isinstance (by decide +kernel) (pa_cons (pv 0) (pa_cons (pe_bltn (v := .ty "int") (by rfl) m_int (by decide +kernel) rfl) pa_nil))) (pe_and (pe_not (pe_callB (kk_isi K) (by rfl) m_isinstance (by decide +kernel) (pa_cons (pv 0) (pa_cons (pe_bltn (v := .ty "bool") (by rfl) m_bool (by decide +kernel) rfl) pa_nil)))) (pe_one (pe_cmpR op_eq (pv 0) (pv 1) (nomark _)))))))))), ?_⟩
    refine ⟨_, rfl, (by show 2 ≤ sizeLine; decide), fun tp ntp => ⟨_, tp, _, _, _, _, rfl, upd_same, .cons (.ty _) (.cons (.ty _) .nil), ty_of_dp (dp_same (same_new ntp) hy), kitLT d, _, rfl, ?_⟩⟩
    have s1 := same_new (o := .tup [.ty "list", .ty "tuple"]) ntp
    have q1 := q _ s1
    have tx := ty_of_dp (dp_same s1 hx)
    have ty := ty_of_dp (dp_same s1 hy)
    cases hx with
    | non =>
      cases hy
      exact iteF ⟨_, rfl, rfl, _, rfl, iteT (iteT ⟨_, rfl, _, rfl, rfl, _, rfl, iteY rfl ⟨_, rfl, _, _, _, _, _, rfl, .ty _, tx, kit_d (T := "str") (by decide) _, _, rfl, _, _, _, _, _, rfl, .ty _, ty, kit_d (T := "str") (by decide) _, rfl, qY rfl q1⟩⟩)⟩
    | str z =>
      cases hy
      exact iteF ⟨_, rfl, rfl, _, rfl, iteF ⟨_, rfl, _, _, _, _, _, rfl, .ty _, ty, kit_d (T := "str") (by decide) _, _, rfl, iteT ⟨_, rfl, _, rfl, rfl, _, rfl, iteY rfl ⟨_, rfl, _, _, _, _, _, rfl, .ty _, tx, kit_d (T := "str") (by decide) _, _, rfl, _, _, _, _, _, rfl, .ty _, ty, kit_d (T := "str") (by decide) _, rfl, qY rfl q1⟩⟩⟩⟩
    | bl b =>
      cases hy
      exact iteF ⟨_, rfl, rfl, _, rfl, iteF ⟨_, rfl, _, _, _, _, _, rfl, .ty _, ty, kit_d (T := "str") (by decide) _, _, rfl, iteF ⟨_, rfl, _, _, _, _, _, rfl, .ty _, ty, kit_d (T := "bool") (by decide) _, _, rfl, iteT ⟨_, rfl, _, _, _, _, _, rfl, .ty _, tx, kit_d (T := "bool") (by decide) _, _, rfl, iteT ⟨_, rfl, _, rfl, rfl, qY rfl q1⟩⟩⟩⟩⟩
    | int i =>
      cases hy
      exact iteF ⟨_, rfl, rfl, _, rfl, iteF ⟨_, rfl, _, _, _, _, _, rfl, .ty _, ty, kit_d (T := "str") (by decide) _, _, rfl, iteF ⟨_, rfl, _, _, _, _, _, rfl, .ty _, ty, kit_d (T := "bool") (by decide) _, _, rfl, iteF ⟨_, rfl, _, _, _, _, _, rfl, .ty _, tx, kit_d (T := "int") (by decide) _, _, rfl, iteT ⟨_, rfl, _, _, _, _, _, rfl, .ty _, tx, kit_d (T := "bool") (by decide) _, _, rfl, _, rfl, iteT ⟨_, rfl, _, rfl, rfl, qY rfl q1⟩⟩⟩⟩⟩⟩
    | @lst a xs ds hS hA =>
      obtain ⟨m, rfl⟩ : ∃ m, n = m + 1 := ⟨n - 1, by simp only [PyData.depth] at hd; omega⟩
      cases hy with
      | @lst a2 ys _ hS2 hA2 =>
        have hlen : xs.length = ys.length := (dpAll_len hA).trans (dpAll_len hA2).symm
        simp only [thin, Bool.and_eq_true, decide_eq_true_eq] at ht
        obtain ⟨ht1, ht2⟩ := ht
        have hxl := dpAll_len hA
        refine iteT ⟨_, rfl, _, _, _, _, _, rfl, .ty _, tx, kit_d (T := "list") (by decide) _, _, rfl, _, _, _, _, _, rfl, .ty _, ty, kit_d (T := "list") (by decide) _, rfl, _, rfl, iteF ⟨_, rfl, _, _, _, _, _, rfl, .ty _, tx, kit_d (T := "tuple") (by decide) _, _, rfl, _, _, _, _, _, rfl, .ty _, ty, kit_d (T := "tuple") (by decide) _, rfl, _, rfl, iteF ?_⟩⟩
        refine ⟨_, rfl, a, _, rfl, .inl (s1.seq hS), _, rfl, a2, _, rfl, .inl (s1.seq hS2), rfl, _, rfl, iteY (by rw [hlen]) ?_⟩
        refine ⟨_, rfl, _, rfl, a, a2, _, _, rfl, .inl ⟨s1.seq hS, s1.seq hS2, fun D hD => lc_gen (n := xs.length) (fun i H' => Same (upd H tp (.tup [.ty "list", .ty "tuple"])) H' ∧ H' D = some (.lst ((List.replicate i true).map V.bl))) ⟨same_new hD, upd_same⟩ (fun i H' h => canL hlen ((s1.trans h.1).seq hS) ((s1.trans h.1).seq hS2)) (fun i H' v H'' hi h hyl => ?_) (fun H' h => ?_)⟩⟩
        · obtain ⟨T, x', y', rfl, hT, rfl, f1, f2⟩ := hyl
          obtain ⟨h1, h2⟩ := h
          have g1 := f1 xs ((s1.trans h1).seq hS)
          have g2 := f2 ys ((s1.trans h1).seq hS2)
          obtain ⟨d1, e1, p1⟩ := dpAll_get hA g1
          obtain ⟨d2, e2, p2⟩ := dpAll_get hA2 g2
          cases (Option.some.inj (e1.symm.trans e2))
          have sT := same_new (o := .tup [x', y']) hT
          have dd := depth_at e1
          simp only [PyData.depth] at hd
          refine ⟨T, _, rfl, SqT.of upd_same, rfl, _, _, rfl, _, _, rfl, rfl, rfl, _, rfl, _, rfl, x', y', d1, rfl, dp_same ((s1.trans h1).trans sT) p1, dp_same ((s1.trans h1).trans sT) p2, by omega, thin_at ht2 e1, fun H3 s3 => ?_⟩
          refine ⟨_, s3 _ _ (sT _ _ h2), ?_, ?_, ?_⟩
          · rw [List.length_map, List.length_replicate]
            exact small1000 (by omega)
          · exact fun c o e => by
              rw [upd_ne (ne_of_none e hD)]
              exact s3 _ _ (sT _ _ (h1 _ _ e))
          · rw [upd_same, rep_snoc]
        · obtain ⟨h1, h2⟩ := h
          refine ⟨D, _, rfl, SqL.of h2, ?_⟩
          rw [all_true]
          exact q _ (s1.trans h1)
    | @tup a xs ds hS hA =>
      obtain ⟨m, rfl⟩ : ∃ m, n = m + 1 := ⟨n - 1, by simp only [PyData.depth] at hd; omega⟩
      cases hy with
      | @tup a2 ys _ hS2 hA2 =>
        have hlen : xs.length = ys.length := (dpAll_len hA).trans (dpAll_len hA2).symm
        simp only [thin, Bool.and_eq_true, decide_eq_true_eq] at ht
        obtain ⟨ht1, ht2⟩ := ht
        have hxl := dpAll_len hA
        refine iteT ⟨_, rfl, _, _, _, _, _, rfl, .ty _, tx, kit_d (T := "list") (by decide) _, _, rfl, _, _, _, _, _, rfl, .ty _, ty, kit_d (T := "list") (by decide) _, rfl, _, rfl, iteF ⟨_, rfl, _, _, _, _, _, rfl, .ty _, tx, kit_d (T := "tuple") (by decide) _, _, rfl, _, _, _, _, _, rfl, .ty _, ty, kit_d (T := "tuple") (by decide) _, rfl, _, rfl, iteF ?_⟩⟩
        refine ⟨_, rfl, a, _, rfl, .inr (seqT_same s1 hS), _, rfl, a2, _, rfl, .inr (seqT_same s1 hS2), rfl, _, rfl, iteY (by rw [hlen]) ?_⟩
        refine ⟨_, rfl, _, rfl, a, a2, _, _, rfl, .inr ⟨seqT_same s1 hS, seqT_same s1 hS2, fun D hD => lc_gen (n := xs.length) (fun i H' => Same (upd H tp (.tup [.ty "list", .ty "tuple"])) H' ∧ H' D = some (.lst ((List.replicate i true).map V.bl))) ⟨same_new hD, upd_same⟩ (fun i H' h => canT hlen (seqT_same (s1.trans h.1) hS) (seqT_same (s1.trans h.1) hS2)) (fun i H' v H'' hi h hyl => ?_) (fun H' h => ?_)⟩⟩
        · obtain ⟨T, x', y', rfl, hT, rfl, f1, f2⟩ := hyl
          obtain ⟨h1, h2⟩ := h
          have g1 := f1 xs (seqT_same (s1.trans h1) hS)
          have g2 := f2 ys (seqT_same (s1.trans h1) hS2)
          obtain ⟨d1, e1, p1⟩ := dpAll_get hA g1
          obtain ⟨d2, e2, p2⟩ := dpAll_get hA2 g2
          cases (Option.some.inj (e1.symm.trans e2))
          have sT := same_new (o := .tup [x', y']) hT
          have dd := depth_at e1
          simp only [PyData.depth] at hd
          refine ⟨T, _, rfl, SqT.of upd_same, rfl, _, _, rfl, _, _, rfl, rfl, rfl, _, rfl, _, rfl, x', y', d1, rfl, dp_same ((s1.trans h1).trans sT) p1, dp_same ((s1.trans h1).trans sT) p2, by omega, thin_at ht2 e1, fun H3 s3 => ?_⟩
          refine ⟨_, s3 _ _ (sT _ _ h2), ?_, ?_, ?_⟩
          · rw [List.length_map, List.length_replicate]
            exact small1000 (by omega)
          · exact fun c o e => by
              rw [upd_ne (ne_of_none e hD)]
              exact s3 _ _ (sT _ _ (h1 _ _ e))
          · rw [upd_same, rep_snoc]
        · obtain ⟨h1, h2⟩ := h
          refine ⟨D, _, rfl, SqL.of h2, ?_⟩
          rw [all_true]
          exact q _ (s1.trans h1)
theorem ok__law_same {f : Addr} {fd : FuncData} (F : Fun K "_law_same" "_law_same" s__law_same f fd) (g : mg "_law_same" = some (.ref f)) (bd : Binds K fd ["_law_found", "_law_due_here"] []) (m_isinstance : mg "isinstance" = none) (m_tuple : mg "tuple" = none) (m_list : mg "list" = none) (m_all : mg "all" = none) (m_zip : mg "zip" = none) (m_len : mg "len" = none) (m_str : mg "str" = none) (m_bool : mg "bool" = none) (m_int : mg "int" = none) : CF P w K mg base (6) "_law_same" ["_law_found", "_law_due_here"] (sp__law_same K) := by
  have all : ∀ n, CF P w K mg base (1 + n) "_law_same" ["_law_found", "_law_due_here"] (spr__law_same K n) := fun n => by
    induction n with
    | zero => exact ⟨f, fd, F.ok (k := 0) sc__law_same (fun vs H Q E h => h.elim) (fun cdv A outer s H vs Q E hr h => h.elim), g, F.kp, bd⟩
    | succ n ih => exact st__law_same n F g bd m_isinstance m_tuple m_list m_all m_zip m_len m_str m_bool m_int ih
  exact all 5
/-! ### _law_names -/
abbrev s__law_names : Stmt := topS 36
abbrev N__law_names : List Str := ["_law_left_here", "_law_many", "_law_letters", "_law_stem", "_law_k", "_law_at", "_law_first", "_law_found", "_law_sign"]
theorem sc__law_names : FnScope N__law_names ["_law_left_here", "_law_many"] (defScope s__law_names) := ⟨rfl, rfl, rfl, by decide +kernel, rfl, by decide +kernel, by decide +kernel⟩
def Nm (s : Str) : Prop := Asc s ∧ s.length ≤ 20
theorem low_at {r : Int} (h0 : 0 ≤ r) (h1 : r < 26) : ∃ c, atI (Str.ofString "abcdefghijklmnopqrstuvwxyz").cps.toList r = some c ∧ c < 128 := by
  obtain ⟨j, rfl⟩ := Int.eq_ofNat_of_zero_le h0
  have hl : (Str.ofString "abcdefghijklmnopqrstuvwxyz").cps.toList.length = 26 := by decide +kernel
  have hj : j < (Str.ofString "abcdefghijklmnopqrstuvwxyz").cps.toList.length := by omega
  exact ⟨_, atI_nat (List.getElem?_eq_getElem hj), (by decide +kernel : ∀ c ∈ (Str.ofString "abcdefghijklmnopqrstuvwxyz").cps.toList, c < 128) _ (List.getElem_mem hj)⟩
theorem join_signs (cs : List Nat) : TL.tl (Txt.join (Str.ofString "") (cs.map fun c => (⟨#[c]⟩ : Str))) = cs := by
  rw [TL.join_eq, TL.tl_join]
  induction cs with
  | nil => rfl
  | cons c r ih =>
    cases r with
    | nil => rfl
    | cons d r =>
      show [c] ++ (TL.tl (Str.ofString "") ++ TL.joinL (TL.tl (Str.ofString "")) (((d :: r).map fun c => (⟨#[c]⟩ : Str)).map TL.tl)) = c :: d :: r
      rw [ih]
      rfl
theorem sum_len1 : ∀ cs : List Nat, ((cs.map fun c => (⟨#[c]⟩ : Str)).map (·.length)).sum = cs.length
  | [] => rfl
  | c :: r => by
    rw [List.map_cons, List.map_cons, List.sum_cons, sum_len1 r, List.length_cons]
    show 1 + r.length = r.length + 1
    omega
theorem pick2s {r : Int} {x y : Str} (h0 : 0 ≤ r) (h1 : r < 2) : ∃ u : Str, atI [V.str x, .str y] r = some (.str u) ∧ (u = x ∨ u = y) := by
  have h : r = 0 ∨ r = 1 := by omega
  rcases h with rfl | rfl
  · exact ⟨x, rfl, .inl rfl⟩
  · exact ⟨y, rfl, .inr rfl⟩
def sp__law_names (K : PySem.W.Frag) : Sp := fun vs H Q _ => ∃ (b : Addr) (many n : Int), vs = [.ref b, .int many] ∧ Tri H b n ∧ n < 1000000 ∧ 0 ≤ many ∧ many ≤ 100 ∧ ∀ (H' : Hp) (D : Addr) (ss : List Str), Tri H' b (n + 20) → But b H H' → H D = none → D ≠ b → H' D = some (.lst (ss.map V.str)) → (ss.length : Int) = many → (∀ s ∈ ss, Nm s) → Q (.ref D) H'
theorem ok__law_names {f : Addr} {fd : FuncData} (F : Fun K "_law_names" "_law_names" s__law_names f fd) (g : mg "_law_names" = some (.ref f)) (bd : Binds K fd ["_law_left_here", "_law_many"] []) (m_range : mg "range" = none) (m_len : mg "len" = none) (C__law_pick : CF P w K mg base 2 "_law_pick" ["_law_left_here", "_law_many"] (sp__law_pick K)) : CF P w K mg base 3 "_law_names" ["_law_left_here", "_law_many"] (sp__law_names K) := by
  refine ⟨f, fd, F.ok sc__law_names (fun vs H Q E h => ?_) (fun cdv A outer s H vs Q E hr h => ?_), g, F.kp, bd⟩
  · first | (obtain ⟨_, rfl, _⟩ := h; rfl) | (obtain ⟨_, _, rfl, _⟩ := h; rfl) | (obtain ⟨_, _, _, rfl, _⟩ := h; rfl) | (obtain ⟨_, _, _, _, rfl, _⟩ := h; rfl) | (obtain ⟨_, _, _, _, _, rfl, _⟩ := h; rfl) | (obtain ⟨_, _, _, _, _, _, rfl, _⟩ := h; rfl) | (obtain ⟨_, _, _, _, _, _, _, rfl, _⟩ := h; rfl) | (obtain ⟨_, _, _, _, _, _, _, _, rfl, _⟩ := h; rfl) | (obtain ⟨_, _, _, _, _, _, _, _, _, rfl, _⟩ := h; rfl) | (obtain ⟨_, _, _, _, _, _, _, _, _, _, rfl, _⟩ := h; rfl) | (obtain ⟨_, _, _, _, _, _, _, _, _, _, _, rfl, _⟩ := h; rfl) | (obtain ⟨_, _, _, _, _, _, _, _, _, _, _, _, rfl, _⟩ := h; rfl) | (obtain ⟨_, _, _, _, _, _, _, _, _, _, _, _, _, rfl, _⟩ := h; rfl) | (obtain ⟨_, _, _, _, _, _, _, _, _, _, _, _, _, _, rfl, _⟩ := h; rfl) | (obtain ⟨_, _, _, _, _, _, _, _, _, _, _, _, _, _, _, rfl, _⟩ := h; rfl)
  · have hu64 := hr.units
    obtain ⟨b, many, n, rfl, hb, hn, m0, m1, q⟩ := h
    refine ⟨_, (pss_cons (ps_set (i := 2) sc__law_names.nd rfl (.inr rfl) pe_str)
      (pss_cons (ps_set (i := 3) sc__law_names.nd rfl (.inl rfl) (pe_join pe_str (pe_lc (own := [("_law_k", 4)]) (g := (gName 4)) (tt := tYes) rfl sc__law_names.nd (pi_range1 (by rfl) m_range (pa_cons (pe_op op_add pe_int (pe_cf C__law_pick (hr.mono (by decide)) (by rfl) (pa_cons (pv 0) (pa_cons pe_int pa_nil)))) pa_nil)) (blkOk_by (own := [("_law_k", 4)]) (N := N__law_names) (sc := defScope s__law_names) (by decide +kernel)) (fun _ _ _ _ _ => pg_name (i := 4) sc__law_names.nd rfl (Or.inl rfl)) (fun _ _ _ _ _ => pts_nil) (fun _ _ _ _ _ => (pe_ix ix_str (pv 2) (pe_cf C__law_pick (hr.mono (by decide)) (by rfl) (pa_cons (pv 0) (pa_cons pe_int pa_nil))) (fun _ _ => rfl))))))
      (pss_cons (ps_par3 (i := 5) (j := 6) (l := 7) (by rfl) sc__law_names.nd rfl rfl rfl (by decide) (by decide) (by decide) rfl rfl rfl (pa_cons (pe_cf C__law_pick (hr.mono (by decide)) (by rfl) (pa_cons (pv 0) (pa_cons (pe_op op_add (pe_callB call_len_str (by rfl) m_len PySem.boot_len (pa_cons (pv 3) pa_nil)) pe_int) pa_nil))) (pa_cons (pe_cf C__law_pick (hr.mono (by decide)) (by rfl) (pa_cons (pv 0) (pa_cons pe_int pa_nil))) (pa_cons (pe_lst pa_nil) pa_nil))) (by rfl))
      (pss_cons (ps_for PassesOwn.never rfl (pi_range1 (by rfl) m_range (pa_cons (pv 1) pa_nil)) (pg_name (i := 4) sc__law_names.nd rfl (.inl rfl))
         (pss_cons (ps_set (i := 8) sc__law_names.nd rfl (.inl rfl) (pe_ix ix_str (pv 2) (pe_op op_mod (pe_op op_add (pv 6) (pe_op op_mul pe_int (pv 4))) pe_int) (fun _ _ => rfl)))
          (pss_one (ps_expr (pe_bm PySem.F.plainAttrs_list PySem.F.slot_list_append PySem.F.type_list_append mt_append (pv 7) (pa_cons (pe_ix (kk_ixl K) (pe_lst (pa_cons (pe_op op_add_str (pe_op op_add_str (pe_slice sl_str (pv 3) po_none (po_some (pv 5))) (pv 8)) (pe_slice sl_str (pv 3) (po_some (pv 5)) po_none)) (pa_cons (pv 8) pa_nil))) (pe_op op_mod (pv 4) pe_int) (fun _ _ => rfl)) pa_nil))))))
      (pss_one (ps_ret (pv 7))))))), ?_⟩
    refine ⟨⟨_, rfl⟩, _, rfl, b, 7, _, rfl, hb, by decide, by decide, by omega, fun r1 H1 r10 r11 b1 t1 => ⟨_, _, rfl, rfl, _, rfl, by omega, by omega, fun D hD => lc_range (lo := 0) (n := (1 + r1).toNat) (fun i H' => But b H1 H' ∧ Tri H' b (n + 1 + i) ∧ ∃ cs : List Nat, cs.length = i ∧ (∀ c ∈ cs, c < 128) ∧ H' D = some (.lst ((cs.map fun c => (⟨#[c]⟩ : Str)).map V.str))) ⟨But.new hD, (b1.mono (by omega)).new hD, [], rfl, fun _ h => (nomatch h), upd_same⟩ (fun i H' hi h => ?_) (fun H2 h => ?_)⟩⟩
    · obtain ⟨t4, b4, cs, hcs, hlow, hDl⟩ := h
      have hDb : D ≠ b := b1.ne hD
      refine ⟨rfl, _, rfl, _, rfl, b, 26, _, rfl, b4, by decide, by decide, by omega, fun r' H5 r0' r1' b5 t5 => ?_⟩
      obtain ⟨c, hc, hcl⟩ := low_at r0' r1'
      refine ⟨_, _, c, rfl, rfl, by decide +kernel, hc, _, t5 _ _ hDb hDl, ?_, But.updNew (t4.trans t5) hD, ((b5.mono (by omega)).upd hDb), cs ++ [c], ?_, ?_, ?_⟩
      · rw [List.length_map, List.length_map, hcs]
        exact small1000 (by omega)
      · rw [List.length_append, hcs]
        rfl
      · intro d hd
        rcases List.mem_append.mp hd with h | h
        · exact hlow d h
        · rw [List.mem_singleton.mp h]
          exact hcl
      · rw [upd_same, List.map_append, List.map_append]
        rfl
    obtain ⟨t2, b2, cs, hcs, hlow, hDl⟩ := h
    refine ⟨_, D, _, rfl, rfl, .inl (SqL.of hDl), ?_, ?_⟩
    · rw [sum_len1, List.length_map]
      show cs.length + cs.length * 0 ≤ 16777216
      omega
    have htl := join_signs cs
    have aS : Asc (Txt.join (Str.ofString "") (cs.map fun c => (⟨#[c]⟩ : Str))) := fun c hc => hlow c (by rw [← htl]; exact hc)
    have lS : (Txt.join (Str.ofString "") (cs.map fun c => (⟨#[c]⟩ : Str))).length ≤ 7 := by rw [TL.len_tl, htl, hcs]; omega
    generalize Txt.join (Str.ofString "") (cs.map fun c => (⟨#[c]⟩ : Str)) = st at *
    have fit : ∀ {k : Nat}, k ≤ 1000 → k ≤ sizeLine := fun h => size_small h
    refine ⟨_, rfl, _, rfl, _, rfl, fit (by omega), _, _, rfl, rfl, b, _, _, rfl, b2, by omega, by omega, by omega, fun at_ H3 at0 at1 b3 t3 => ?_⟩
    refine ⟨_, rfl, b, 26, _, rfl, b3, by decide, by decide, by omega, fun fst H4 f0 f1 b4 t4 => ⟨(by show 0 ≤ sizeLine; decide), fun F nF => ⟨_, _, _, rfl, ?_⟩⟩⟩
    have T4 := ((t1.trans t2).trans t3).trans t4
    have nFb := b4.ne nF
    have nF0 : H F = none := by
      cases e : H F with
      | none => rfl
      | some o =>
        rw [T4 _ _ nFb e] at nF
        cases nF
    have sF := same_new (o := .lst []) nF
    refine ⟨_, rfl, _, rfl, by omega, by omega, for_range (fun i σ H' => ∃ (ss : List Str) (s4 s8 : Option V), σ = [some (.ref b), some (.int many), some (.str (Str.ofString "abcdefghijklmnopqrstuvwxyz")), some (.str st), s4, some (.int at_), some (.int fst), some (.ref F), s8] ∧ ss.length = i ∧ (∀ s ∈ ss, Nm s) ∧ H' F = some (.lst (ss.map V.str)) ∧ Tri H' b (n + 20) ∧ But b H H') ⟨[], _, _, rfl, rfl, fun _ h => (nomatch h), upd_same, (b4.same sF).mono (by omega), T4.trans (But.of sF)⟩ (fun i σ H' hi h => ?_) (fun σ H' h => ?_)⟩
    · obtain ⟨ss, s4, s8, rfl, hss, hok, hF, bX, tX⟩ := h
      have o0 := Int.emod_nonneg (fst + 7 * (0 + (i : Int))) (show (26 : Int) ≠ 0 by decide)
      have o1 := Int.emod_lt_of_pos (fst + 7 * (0 + (i : Int))) (show (0 : Int) < 26 by decide)
      obtain ⟨c, hc, hcl⟩ := low_at o0 o1
      refine ⟨_, rfl, _, rfl, _, rfl, _, _, rfl, rfl, .inl ⟨by decide, by decide⟩, _, _, rfl, rfl, _, _, rfl, rfl, (by show (0 : Int) < 26; decide), _, _, c, rfl, rfl, by decide +kernel, hc, ?_⟩
      have lA := cutS_length st none (some at_)
      have lB := cutS_length st (some at_) none
      have aA : Asc (cutS st none (some at_)) := aS.cut
      have aB : Asc (cutS st (some at_) none) := aS.cut
      have aC : Asc ⟨#[c]⟩ := .one hcl
      have lC : (⟨#[c]⟩ : Str).length = 1 := rfl
      have l1 := len_app (cutS st none (some at_)) ⟨#[c]⟩
      have l2 := len_app (cutS st none (some at_) ++ ⟨#[c]⟩) (cutS st (some at_) none)
      have p0 := Int.emod_nonneg (0 + (i : Int)) (show (2 : Int) ≠ 0 by decide)
      have p1 := Int.emod_lt_of_pos (0 + (i : Int)) (show (0 : Int) < 2 by decide)
      obtain ⟨u, hu, huc⟩ := pick2s (x := cutS st none (some at_) ++ ⟨#[c]⟩ ++ cutS st (some at_) none) (y := ⟨#[c]⟩) p0 p1
      refine ⟨_, rfl, .inl ⟨rfl, _, SqL.of hF⟩, _, rfl, _, rfl, _, rfl, _, rfl, fit (by omega), _, rfl, _, _, rfl, rfl, fit (by omega), _, rfl, _, rfl, _, rfl, _, rfl, fit (by omega), _, _, rfl, rfl, fit (by omega), _, rfl, (by show 2 ≤ sizeLine; decide), fun l nl => ?_⟩
      have sl := same_new (o := .lst [.str (cutS st none (some at_) ++ ⟨#[c]⟩ ++ cutS st (some at_) none), .str ⟨#[c]⟩]) nl
      refine ⟨_, rfl, _, _, rfl, rfl, (by show (0 : Int) < 2; decide), l, _, _, _, rfl, rfl, SqL.of upd_same, hu, F, _, _, rfl, rfl, sl _ _ hF, ?_, ss ++ [u], _, _, rfl, ?_, ?_, ?_, (bX.same sl).upd nFb, But.updNew (tX.trans (But.of sl)) nF0⟩
      · rw [List.length_map, hss]
        exact small1000 (by omega)
      · rw [List.length_append, hss]
        rfl
      · intro s hs
        rcases List.mem_append.mp hs with h | h
        · exact hok s h
        · rw [List.mem_singleton.mp h]
          rcases huc with rfl | rfl
          · exact ⟨(aA.app aC).app aB, by omega⟩
          · exact ⟨aC, by omega⟩
      · rw [upd_same, List.map_append]
        rfl
    · obtain ⟨ss, s4, s8, rfl, hss, hok, hF, bX, tX⟩ := h
      exact ⟨_, rfl, q _ F ss bX tX nF0 nFb hF (by omega) hok⟩
/-! ### _law_figures -/
abbrev s__law_figures : Stmt := topS 37
abbrev N__law_figures : List Str := ["_law_left_here", "_law_parts", "_law_step", "_law_grace", "_law_misses", "_law_keep", "_law_part", "_law_fine", "_law_falls"]
theorem sc__law_figures : FnScope N__law_figures ["_law_left_here"] (defScope s__law_figures) := ⟨rfl, rfl, rfl, by decide +kernel, rfl, by decide +kernel, by decide +kernel⟩
theorem rep_keep {K : PySem.W.Frag} {σ : L2.St} {H : Hp} {Q : VK} {i : Nat} {k p : Int} (hi : σ[i]? = some (some (.int p))) (p0 : 1 ≤ p) (p1 : p ≤ 6) (q : ∀ H' t, Same H H' → H' t = some (.tup ((List.replicate p.toNat k).map V.int)) → Q (.ref t) H') : tOp (rRepA K) (tTup (tCons (tC (.int k)) tNil)) (tVar i) σ H Q := by
  refine ⟨(by show 1 ≤ sizeLine; decide), fun t nt => ⟨_, hi, ?_⟩⟩
  by_cases hp : p = 1
  · subst hp
    exact .inr ⟨t, [.int k], rfl, rfl, SqT.of upd_same, by simp, q _ t (same_new nt) (by rw [upd_same]; rfl)⟩
  · refine .inl ⟨t, p, [.int k], rfl, rfl, SqT.of upd_same, by simp, by omega, by omega, (by show 1 ≤ 1000; decide), fun t2 n2 => q _ t2 ((same_new nt).trans (same_new n2)) ?_⟩
    rw [upd_same, rep1, List.map_replicate]
def sp__law_figures (K : PySem.W.Frag) : Sp := fun vs H Q _ => ∃ (b : Addr) (n : Int), vs = [.ref b] ∧ Tri H b n ∧ n < 100000000 ∧ ∀ H' t f, Tri H' b (n + 30) → But b H H' → H t = none → FgAt K H' t f → f.Ok → Q (.ref t) H'
theorem ok__law_figures {f : Addr} {fd : FuncData} (F : Fun K "_law_figures" "_law_figures" s__law_figures f fd) (g : mg "_law_figures" = some (.ref f)) (bd : Binds K fd ["_law_left_here"] []) (m_tuple : mg "tuple" = none) (m_range : mg "range" = none) (C__law_pick : CF P w K mg base 2 "_law_pick" ["_law_left_here", "_law_many"] (sp__law_pick K)) : CF P w K mg base 3 "_law_figures" ["_law_left_here"] (sp__law_figures K) := by
  refine ⟨f, fd, F.ok sc__law_figures (fun vs H Q E h => ?_) (fun cdv A outer s H vs Q E hr h => ?_), g, F.kp, bd⟩
  · first | (obtain ⟨_, rfl, _⟩ := h; rfl) | (obtain ⟨_, _, rfl, _⟩ := h; rfl) | (obtain ⟨_, _, _, rfl, _⟩ := h; rfl) | (obtain ⟨_, _, _, _, rfl, _⟩ := h; rfl) | (obtain ⟨_, _, _, _, _, rfl, _⟩ := h; rfl) | (obtain ⟨_, _, _, _, _, _, rfl, _⟩ := h; rfl) | (obtain ⟨_, _, _, _, _, _, _, rfl, _⟩ := h; rfl) | (obtain ⟨_, _, _, _, _, _, _, _, rfl, _⟩ := h; rfl) | (obtain ⟨_, _, _, _, _, _, _, _, _, rfl, _⟩ := h; rfl) | (obtain ⟨_, _, _, _, _, _, _, _, _, _, rfl, _⟩ := h; rfl) | (obtain ⟨_, _, _, _, _, _, _, _, _, _, _, rfl, _⟩ := h; rfl) | (obtain ⟨_, _, _, _, _, _, _, _, _, _, _, _, rfl, _⟩ := h; rfl) | (obtain ⟨_, _, _, _, _, _, _, _, _, _, _, _, _, rfl, _⟩ := h; rfl) | (obtain ⟨_, _, _, _, _, _, _, _, _, _, _, _, _, _, rfl, _⟩ := h; rfl) | (obtain ⟨_, _, _, _, _, _, _, _, _, _, _, _, _, _, _, rfl, _⟩ := h; rfl)
  · have hu64 := hr.units
    obtain ⟨b, n, rfl, hb, hn, q⟩ := h
    refine ⟨_, (pss_cons (ps_set (i := 1) sc__law_figures.nd rfl (.inl rfl) (pe_ix (kk_ixl K) (pe_lst (pa_cons pe_int (pa_cons pe_int (pa_cons pe_int (pa_cons (pe_op op_add pe_int (pe_cf C__law_pick (hr.mono (by decide)) (by rfl) (pa_cons (pv 0) (pa_cons pe_int pa_nil)))) pa_nil))))) (pe_cf C__law_pick (hr.mono (by decide)) (by rfl) (pa_cons (pv 0) (pa_cons pe_int pa_nil))) (fun _ _ => rfl)))
      (pss_cons (ps_set (i := 2) sc__law_figures.nd rfl (.inl rfl) (pe_ix (kk_ixl K) (pe_lst (pa_cons pe_int (pa_cons pe_int (pa_cons (pe_op op_add pe_int (pe_cf C__law_pick (hr.mono (by decide)) (by rfl) (pa_cons (pv 0) (pa_cons pe_int pa_nil)))) pa_nil)))) (pe_cf C__law_pick (hr.mono (by decide)) (by rfl) (pa_cons (pv 0) (pa_cons pe_int pa_nil))) (fun _ _ => rfl)))
      (pss_cons (ps_par (i := 3) (j := 4) (by rfl) sc__law_figures.nd rfl rfl (by decide) rfl rfl (pa_cons (pe_ix (kk_ixl K) (pe_lst (pa_cons pe_int (pa_cons pe_int (pa_cons (pe_cf C__law_pick (hr.mono (by decide)) (by rfl) (pa_cons (pv 0) (pa_cons pe_int pa_nil))) pa_nil)))) (pe_cf C__law_pick (hr.mono (by decide)) (by rfl) (pa_cons (pv 0) (pa_cons pe_int pa_nil))) (fun _ _ => rfl)) (pa_cons (pe_cf C__law_pick (hr.mono (by decide)) (by rfl) (pa_cons (pv 0) (pa_cons pe_int pa_nil))) pa_nil)) (by rfl))
      (pss_cons (ps_set (i := 5) sc__law_figures.nd rfl (.inl rfl) (pe_ix (kk_ixl K) (pe_lst (pa_cons (pe_op (kk_repA K) (pe_tup (pa_cons pe_int pa_nil)) (pv 1)) (pa_cons (pe_op (kk_repA K) (pe_tup (pa_cons pe_int pa_nil)) (pv 1)) (pa_cons (pe_callTy (kk_tuple K) (by rfl) m_tuple (by decide +kernel) (pa_cons (pe_lc (own := [("_law_part", 6)]) (g := (gName 6)) (tt := tYes) rfl sc__law_figures.nd (pi_range1 (by rfl) m_range (pa_cons (pv 1) pa_nil)) (blkOk_by (own := [("_law_part", 6)]) (N := N__law_figures) (sc := defScope s__law_figures) (by decide +kernel)) (fun _ _ _ _ _ => pg_name (i := 6) sc__law_figures.nd rfl (Or.inl rfl)) (fun _ _ _ _ _ => pts_nil) (fun _ _ _ _ _ => (pe_cf C__law_pick (hr.mono (by decide)) (by rfl) (pa_cons (pv 0) (pa_cons pe_int pa_nil))))) pa_nil)) pa_nil)))) (pe_cf C__law_pick (hr.mono (by decide)) (by rfl) (pa_cons (pv 0) (pa_cons pe_int pa_nil))) (fun _ _ => rfl)))
      (pss_cons (ps_par (i := 7) (j := 8) (by rfl) sc__law_figures.nd rfl rfl (by decide) rfl rfl (pa_cons (pe_ix (kk_ixl K) (pe_lst (pa_cons pe_int (pa_cons pe_int (pa_cons (pe_cf C__law_pick (hr.mono (by decide)) (by rfl) (pa_cons (pv 0) (pa_cons pe_int pa_nil))) pa_nil)))) (pe_cf C__law_pick (hr.mono (by decide)) (by rfl) (pa_cons (pv 0) (pa_cons pe_int pa_nil))) (fun _ _ => rfl)) (pa_cons (pe_ix (kk_ixl K) (pe_lst (pa_cons pe_int (pa_cons pe_int (pa_cons (pe_cf C__law_pick (hr.mono (by decide)) (by rfl) (pa_cons (pv 0) (pa_cons pe_int pa_nil))) pa_nil)))) (pe_cf C__law_pick (hr.mono (by decide)) (by rfl) (pa_cons (pv 0) (pa_cons pe_int pa_nil))) (fun _ _ => rfl)) pa_nil)) (by rfl))
      (pss_one (ps_ret (pe_tup (pa_cons (pv 1) (pa_cons (pv 2) (pa_cons (pv 3) (pa_cons (pe_cmpR op_eq (pe_cf C__law_pick (hr.mono (by decide)) (by rfl) (pa_cons (pv 0) (pa_cons pe_int pa_nil))) pe_int (nomark _)) (pa_cons (pv 4) (pa_cons (pv 5) (pa_cons (pv 7) (pa_cons (pv 8) (pa_cons (pe_cf C__law_pick (hr.mono (by decide)) (by rfl) (pa_cons (pv 0) (pa_cons pe_int pa_nil))) pa_nil))))))))))))))))), ?_⟩
    refine ⟨_, rfl, b, 6, n, rfl, hb, by decide, by decide, by omega, fun x1 H1 x10 x11 b1 t1 => ⟨_, _, rfl, rfl, (by show 4 ≤ sizeLine; decide), fun l1 nl1 => ?_⟩⟩
    have B1 := b1.new (o := .lst [.int 1, .int 6, .int 2, .int (1 + x1)]) nl1
    have T1 := t1.trans (But.new (b := b) (o := .lst [.int 1, .int 6, .int 2, .int (1 + x1)]) nl1)
    refine ⟨_, rfl, b, 4, _, rfl, B1, by decide, by decide, by omega, fun r1 H2 r10 r11 b2 t2 => ?_⟩
    obtain ⟨p, hp, p0, p1⟩ := pick4i (lo := 1) (hi := 6) (x := 1) (y := 6) (z := 2) (u := 1 + x1) r10 r11 (by omega) (by omega) (by omega) (by omega)
    refine ⟨l1, _, _, _, rfl, rfl, SqL.of (t2 _ _ (b1.ne nl1) upd_same), hp, ?_⟩
    refine ⟨_, rfl, b, 14, _, rfl, b2, by decide, by decide, by omega, fun x2 H3 x20 x21 b3 t3 => ⟨_, _, rfl, rfl, (by show 3 ≤ sizeLine; decide), fun l2 nl2 => ?_⟩⟩
    have B2 := b3.new (o := .lst [.int 1, .int 14, .int (1 + x2)]) nl2
    have T2 := ((T1.trans t2).trans t3).trans (But.new (b := b) (o := .lst [.int 1, .int 14, .int (1 + x2)]) nl2)
    refine ⟨_, rfl, b, 3, _, rfl, B2, by decide, by decide, by omega, fun r2 H4 r20 r21 b4 t4 => ?_⟩
    obtain ⟨s', hs, s0, s1⟩ := pick3i (lo := 1) (hi := 14) (x := 1) (y := 14) (z := 1 + x2) r20 r21 (by omega) (by omega) (by omega)
    refine ⟨l2, _, _, _, rfl, rfl, SqL.of (t4 _ _ (b3.ne nl2) upd_same), hs, ?_⟩
    refine ⟨_, rfl, b, 8, _, rfl, b4, by decide, by decide, by omega, fun x3 H5 x30 x31 b5 t5 => ⟨(by show 3 ≤ sizeLine; decide), fun l3 nl3 => ?_⟩⟩
    have B3 := b5.new (o := .lst [.int 0, .int 7, .int x3]) nl3
    have T3 := ((T2.trans t4).trans t5).trans (But.new (b := b) (o := .lst [.int 0, .int 7, .int x3]) nl3)
    refine ⟨_, rfl, b, 3, _, rfl, B3, by decide, by decide, by omega, fun r3 H6 r30 r31 b6 t6 => ?_⟩
    obtain ⟨g', hg, g0, g1⟩ := pick3i (lo := 0) (hi := 7) (x := 0) (y := 7) (z := x3) r30 r31 (by omega) (by omega) (by omega)
    refine ⟨l3, _, _, _, rfl, rfl, SqL.of (t6 _ _ (b5.ne nl3) upd_same), hg, ?_⟩
    refine ⟨_, rfl, b, 3, _, rfl, b6, by decide, by decide, by omega, fun m H7 m0 m1 b7 t7 => ⟨_, _, rfl, ?_⟩⟩
    have T7 := (T3.trans t6).trans t7
    refine rep_keep rfl p0 p1 fun G1 k1 sG1 hk1 => rep_keep rfl p0 p1 fun G2 k2 sG2 hk2 => ?_
    have b8 := (b7.same sG1).same sG2
    have T8 := (T7.trans (But.of (b := b) sG1)).trans (But.of (b := b) sG2)
    have hk1' := sG2 _ _ hk1
    refine ⟨_, rfl, _, rfl, by omega, by omega, fun D hD => lc_range (lo := 0) (n := p.toNat) (fun i H' => But b G2 H' ∧ Tri H' b (n + 7 + i) ∧ ∃ ks : List Int, ks.length = i ∧ (∀ k ∈ ks, 0 ≤ k ∧ k ≤ 100) ∧ H' D = some (.lst (ks.map V.int))) ⟨But.new hD, (b8.mono (by omega)).new hD, [], rfl, fun _ h => (nomatch h), upd_same⟩ (fun i H' hi h => ?_) (fun H' h => ?_)⟩
    · obtain ⟨t8, b8', ks, hks, hkb, hDl⟩ := h
      have hDb : D ≠ b := b8.ne hD
      refine ⟨rfl, _, rfl, b, 101, _, rfl, b8', by decide, by decide, by omega, fun k H9 k0 k1 b9 t9 => ?_⟩
      refine ⟨_, t9 _ _ hDb hDl, ?_, ?_, (b9.mono (by omega)).upd hDb, ks ++ [k], ?_, ?_, ?_⟩
      · rw [List.length_map, hks]
        exact small1000 (by omega)
      · exact fun e o ne he => by
          rw [upd_ne (ne_of_none (show G2 e = some o from he) hD)]
          exact t9 _ _ ne (t8 _ _ ne he)
      · rw [List.length_append, hks]
        rfl
      · intro k hk
        rcases List.mem_append.mp hk with z | z
        · exact hkb k z
        · rw [List.mem_singleton.mp z]
          omega
      · rw [upd_same, List.map_append]
        rfl
    · obtain ⟨t8, b8', ks, hks, hkb, hDl⟩ := h
      have hk1a := b8.seqT (K := K) t8 (SqT.of hk1')
      have hk2a := b8.seqT (K := K) t8 (SqT.of hk2)
      refine ⟨D, _, rfl, .inl ⟨SqL.of hDl, fun t ht => ?_⟩⟩
      have sT := same_new (o := .tup (ks.map V.int)) ht
      have b9 := b8'.same sT
      have T9 := (T8.trans t8).trans (But.of (b := b) sT)
      have hT : SqT K (upd H' t (.tup (ks.map V.int))) t (ks.map V.int) := SqT.of upd_same
      have hk1b := seqT_same sT hk1a
      have hk2b := seqT_same sT hk2a
      generalize upd H' t (.tup (ks.map V.int)) = G at *
      refine ⟨(by show 3 ≤ sizeLine; decide), fun l4 nl4 => ?_⟩
      have s4 := same_new (o := .lst [.ref k1, .ref k2, .ref t]) nl4
      refine ⟨_, rfl, b, 3, _, rfl, b9.same s4, by decide, by decide, by omega, fun r4 HA r40 r41 bA tA => ?_⟩
      have TA := (T9.trans (But.of (b := b) s4)).trans tA
      have hTA := (b9.same s4).seqT tA (seqT_same s4 hT)
      have hk1c := (b9.same s4).seqT tA (seqT_same s4 hk1b)
      have hk2c := (b9.same s4).seqT tA (seqT_same s4 hk2b)
      obtain ⟨kv, hkv, hk3⟩ := pick3v (x := .ref k1) (y := .ref k2) (z := .ref t) r40 r41
      refine ⟨l4, _, _, _, rfl, rfl, SqL.of (tA _ _ (b9.ne nl4) upd_same), hkv, ?_⟩
      have hK : ∃ (ks' : List Int) (kt : Addr), kv = .ref kt ∧ SqT K HA kt (ks'.map V.int) ∧ (ks'.length : Int) = p ∧ ∀ k ∈ ks', 0 ≤ k ∧ k ≤ 100 := by
        rcases hk3 with rfl | rfl | rfl
        · exact ⟨List.replicate p.toNat 0, k1, rfl, hk1c, by rw [List.length_replicate]; omega, fun k hk => by rw [List.eq_of_mem_replicate hk]; exact ⟨by decide, by decide⟩⟩
        · exact ⟨List.replicate p.toNat 100, k2, rfl, hk2c, by rw [List.length_replicate]; omega, fun k hk => by rw [List.eq_of_mem_replicate hk]; exact ⟨by decide, by decide⟩⟩
        · exact ⟨ks, t, rfl, hTA, by omega, hkb⟩
      obtain ⟨ks', kt, rfl, hKt, hKl, hKb⟩ := hK
      clear hk1c hk2c hTA hk1b hk2b hk1a hk2a hT
      refine ⟨_, rfl, b, 101, _, rfl, bA, by decide, by decide, by omega, fun y1 HB y10 y11 bB tB => ⟨(by show 3 ≤ sizeLine; decide), fun l5 nl5 => ?_⟩⟩
      have s5 := same_new (o := .lst [.int 0, .int 100, .int y1]) nl5
      refine ⟨_, rfl, b, 3, _, rfl, bB.same s5, by decide, by decide, by omega, fun r5 HC r50 r51 bC tC => ?_⟩
      obtain ⟨fi, hfi, fi0, fi1⟩ := pick3i (lo := 0) (hi := 100) (x := 0) (y := 100) (z := y1) r50 r51 (by omega) (by omega) (by omega)
      refine ⟨l5, _, _, _, rfl, rfl, SqL.of (tC _ _ (bB.ne nl5) upd_same), hfi, ?_⟩
      have TC := ((TA.trans tB).trans (But.of (b := b) s5)).trans tC
      have hKC := (bB.same s5).seqT tC (seqT_same s5 (bA.seqT tB hKt))
      refine ⟨_, rfl, b, 31, _, rfl, bC, by decide, by decide, by omega, fun y2 HD y20 y21 bD tD => ⟨(by show 3 ≤ sizeLine; decide), fun l6 nl6 => ?_⟩⟩
      have s6 := same_new (o := .lst [.int 0, .int 30, .int y2]) nl6
      refine ⟨_, rfl, b, 3, _, rfl, bD.same s6, by decide, by decide, by omega, fun r6 HE r60 r61 bE tE => ?_⟩
      obtain ⟨fa, hfa, fa0, fa1⟩ := pick3i (lo := 0) (hi := 30) (x := 0) (y := 30) (z := y2) r60 r61 (by omega) (by omega) (by omega)
      refine ⟨l6, _, _, _, rfl, rfl, SqL.of (tE _ _ (bD.ne nl6) upd_same), hfa, _, _, rfl, ?_⟩
      have TE := ((TC.trans tD).trans (But.of (b := b) s6)).trans tE
      have hKE := (bD.same s6).seqT tE (seqT_same s6 (bC.seqT tD hKC))
      refine ⟨_, rfl, _, rfl, _, rfl, _, rfl, b, 2, _, rfl, bE, by decide, by decide, by omega, fun r7 HF r70 r71 bF tF => ?_⟩
      refine ⟨rfl, _, rfl, _, rfl, _, rfl, _, rfl, _, rfl, b, 31, _, rfl, bF, by decide, by decide, by omega, fun ba HG ba0 ba1 bG tG => ?_⟩
      refine ⟨(by show 9 ≤ sizeLine; decide), fun t9 nt9 => ?_⟩
      have TG := (TE.trans tF).trans tG
      have hKG := bF.seqT tG (bE.seqT tF hKE)
      have hF : Figs p s' g' m fi fa ba := ⟨p0, p1, s0, s1, g0, g1, m0, by omega, fi0, by omega, fa0, by omega, ba0, by omega⟩
      refine q _ t9 ⟨p, s', g', decide (V.int r7 = V.int 1), m, ks', fi, fa, ba⟩ ((bG.mono (by omega)).new nt9) (TG.trans (But.new nt9)) ?_ ⟨kt, SqT.of upd_same, seqT_same (same_new nt9) hKG⟩ ⟨hF, hKl, hKb⟩
      cases e : H t9 with
      | none => rfl
      | some o =>
        have hnb : t9 ≠ b := bG.ne nt9
        rw [TG _ _ hnb e] at nt9
        cases nt9
/-! ### _law_rule -/
abbrev s__law_rule : Stmt := topS 38
abbrev N__law_rule : List Str := ["_law_figures_here", "_law_one", "_law_more"]
theorem sc__law_rule : FnScope N__law_rule ["_law_figures_here"] (defScope s__law_rule) := ⟨rfl, rfl, rfl, by decide +kernel, rfl, by decide +kernel, by decide +kernel⟩
def sp__law_rule (K : PySem.W.Frag) (C : Addr) : Sp := fun vs H Q _ => ∃ (t : Addr) (f : Fg), vs = [.ref t] ∧ FgAt K H t f ∧ f.Ok ∧ ∀ H' r, H r = none → Same H H' → RuleAt K H' C r f → Q (.ref r) H'
theorem ok__law_rule {f : Addr} {fd : FuncData} (F : Fun K "_law_rule" "_law_rule" s__law_rule f fd) (g : mg "_law_rule" = some (.ref f)) (bd : Binds K fd ["_law_figures_here"] []) {CR : Addr} (T_Rule : TRule K mg CR) (M_Rule : CMk P w K mg base CR 4 "Rule" ["self", "parts", "step", "grace", "last", "misses", "keep", "fine", "falls", "back"] [] (sp_Rule___init__ K CR)) : CF P w K mg base 6 "_law_rule" ["_law_figures_here"] (sp__law_rule K CR) := by
  refine ⟨f, fd, F.ok sc__law_rule (fun vs H Q E h => ?_) (fun cdv A outer s H vs Q E hr h => ?_), g, F.kp, bd⟩
  · first | (obtain ⟨_, rfl, _⟩ := h; rfl) | (obtain ⟨_, _, rfl, _⟩ := h; rfl) | (obtain ⟨_, _, _, rfl, _⟩ := h; rfl) | (obtain ⟨_, _, _, _, rfl, _⟩ := h; rfl) | (obtain ⟨_, _, _, _, _, rfl, _⟩ := h; rfl) | (obtain ⟨_, _, _, _, _, _, rfl, _⟩ := h; rfl) | (obtain ⟨_, _, _, _, _, _, _, rfl, _⟩ := h; rfl) | (obtain ⟨_, _, _, _, _, _, _, _, rfl, _⟩ := h; rfl) | (obtain ⟨_, _, _, _, _, _, _, _, _, rfl, _⟩ := h; rfl) | (obtain ⟨_, _, _, _, _, _, _, _, _, _, rfl, _⟩ := h; rfl) | (obtain ⟨_, _, _, _, _, _, _, _, _, _, _, rfl, _⟩ := h; rfl) | (obtain ⟨_, _, _, _, _, _, _, _, _, _, _, _, rfl, _⟩ := h; rfl) | (obtain ⟨_, _, _, _, _, _, _, _, _, _, _, _, _, rfl, _⟩ := h; rfl) | (obtain ⟨_, _, _, _, _, _, _, _, _, _, _, _, _, _, rfl, _⟩ := h; rfl) | (obtain ⟨_, _, _, _, _, _, _, _, _, _, _, _, _, _, _, rfl, _⟩ := h; rfl)
  · have hu64 := hr.units
    obtain ⟨t, f', rfl, ⟨kt, hT0, hk0⟩, fo, q⟩ := h
    refine ⟨_, (pss_cons (ps_par (i := 1) (j := 2) (by rfl) sc__law_rule.nd rfl rfl (by decide) rfl rfl (pa_cons (pe_slice (kk_slt K) (pv 0) po_none (po_some pe_int)) (pa_cons (pe_slice (kk_slt K) (pv 0) (po_some pe_int) po_none) pa_nil)) (by rfl))
      (pss_one (ps_ret (pe_mkc M_Rule (hr.mono (by decide)) (by rfl) (pa_cons (pe_ix (kk_ixt K) (pv 1) pe_int (fun _ _ => rfl)) (pa_cons (pe_ix (kk_ixt K) (pv 1) pe_int (fun _ _ => rfl)) (pa_cons (pe_ix (kk_ixt K) (pv 1) pe_int (fun _ _ => rfl)) (pa_cons (pe_ix (kk_ixt K) (pv 1) pe_int (fun _ _ => rfl)) (pa_cons (pe_ix (kk_ixt K) (pv 1) pe_int (fun _ _ => rfl)) (pa_cons (pe_ix (kk_ixt K) (pv 2) pe_int (fun _ _ => rfl)) (pa_cons (pe_ix (kk_ixt K) (pv 2) pe_int (fun _ _ => rfl)) (pa_cons (pe_ix (kk_ixt K) (pv 2) pe_int (fun _ _ => rfl)) (pa_cons (pe_ix (kk_ixt K) (pv 2) pe_int (fun _ _ => rfl)) pa_nil))))))))))))), ?_⟩
    refine ⟨_, rfl, _, rfl, t, _, rfl, hT0, (by show ¬ (HT.sIx 9 0 none = 0 ∧ HT.sIx 9 9 (some 5) = 9); decide), fun u nu => ?_⟩
    have su := same_new (o := .tup (cutV [V.int f'.p, .int f'.s, .int f'.g, .bl f'.l, .int f'.m, .ref kt, .int f'.fi, .int f'.fa, .int f'.ba] none (some 5))) nu
    refine ⟨_, rfl, _, rfl, t, _, rfl, seqT_same su hT0, (by show ¬ (HT.sIx 9 0 (some 5) = 0 ∧ HT.sIx 9 9 none = 9); decide), fun v nv => ?_⟩
    have sv := same_new (o := .tup (cutV [V.int f'.p, .int f'.s, .int f'.g, .bl f'.l, .int f'.m, .ref kt, .int f'.fi, .int f'.fa, .int f'.ba] (some 5) none)) nv
    have suv := su.trans sv
    have hU : SqT K _ u [.int f'.p, .int f'.s, .int f'.g, .bl f'.l, .int f'.m] := SqT.of (sv _ _ (upd_same (H := H) (a := u) (o := .tup (cutV [V.int f'.p, .int f'.s, .int f'.g, .bl f'.l, .int f'.m, .ref kt, .int f'.fi, .int f'.fa, .int f'.ba] none (some 5)))))
    have hV : SqT K _ v [.ref kt, .int f'.fi, .int f'.fa, .int f'.ba] := SqT.of (upd_same (H := (upd H u (.tup (cutV [V.int f'.p, .int f'.s, .int f'.g, .bl f'.l, .int f'.m, .ref kt, .int f'.fi, .int f'.fa, .int f'.ba] none (some 5))))) (a := v) (o := .tup (cutV [V.int f'.p, .int f'.s, .int f'.g, .bl f'.l, .int f'.m, .ref kt, .int f'.fi, .int f'.fa, .int f'.ba] (some 5) none)))
    have hk := seqT_same suv hk0
    generalize upd (upd H u (.tup (cutV [V.int f'.p, .int f'.s, .int f'.g, .bl f'.l, .int f'.m, .ref kt, .int f'.fi, .int f'.fa, .int f'.ba] none (some 5)))) v (.tup (cutV [V.int f'.p, .int f'.s, .int f'.g, .bl f'.l, .int f'.m, .ref kt, .int f'.fi, .int f'.fa, .int f'.ba] (some 5) none)) = G at *
    refine ⟨_, _, rfl, ?_⟩
    refine ⟨_, rfl, u, _, _, _, rfl, rfl, hU, rfl, _, rfl, u, _, _, _, rfl, rfl, hU, rfl, _, rfl, u, _, _, _, rfl, rfl, hU, rfl, _, rfl, u, _, _, _, rfl, rfl, hU, rfl, _, rfl, u, _, _, _, rfl, rfl, hU, rfl, _, rfl, v, _, _, _, rfl, rfl, hV, rfl, _, rfl, v, _, _, _, rfl, rfl, hV, rfl, _, rfl, v, _, _, _, rfl, rfl, hV, rfl, _, rfl, v, _, _, _, rfl, rfl, hV, rfl, ?_⟩
    intro x dx nx ndx hne
    have sx : Same G (upd (upd G dx (.own x)) x (.ins CR dx [])) := (same_new ndx).trans (same_new (by rw [upd_ne hne.symm]; exact nx))
    exact ⟨x, dx, _, _, _, _, _, .ref kt, _, f'.ks, _, _, _, rfl, upd_same, fo.figs, .all kt (seqT_same sx hk) fo.len fo.bnd, fun H' kt' hb e hs => ⟨rfl, q H' x (none_of suv nx) (suv.trans (same_but sx nx hb)) ⟨dx, kt', e, hs⟩⟩⟩
/-! ### _law_price -/
abbrev s__law_price : Stmt := topS 39
abbrev N__law_price : List Str := ["_law_left_here", "_law_some"]
theorem sc__law_price : FnScope N__law_price ["_law_left_here"] (defScope s__law_price) := ⟨rfl, rfl, rfl, by decide +kernel, rfl, by decide +kernel, by decide +kernel⟩
def sp__law_price (K : PySem.W.Frag) : Sp := fun vs H Q _ => ∃ (b : Addr) (n : Int), vs = [.ref b] ∧ Tri H b n ∧ n < 100000000 ∧ ∀ H' (x : Int), Tri H' b (n + 10) → But b H H' → 1 ≤ x → x ≤ 1000000 → Q (.int x) H'
theorem ok__law_price {f : Addr} {fd : FuncData} (F : Fun K "_law_price" "_law_price" s__law_price f fd) (g : mg "_law_price" = some (.ref f)) (bd : Binds K fd ["_law_left_here"] []) (C__law_pick : CF P w K mg base 2 "_law_pick" ["_law_left_here", "_law_many"] (sp__law_pick K)) : CF P w K mg base 3 "_law_price" ["_law_left_here"] (sp__law_price K) := by
  refine ⟨f, fd, F.ok sc__law_price (fun vs H Q E h => ?_) (fun cdv A outer s H vs Q E hr h => ?_), g, F.kp, bd⟩
  · first | (obtain ⟨_, rfl, _⟩ := h; rfl) | (obtain ⟨_, _, rfl, _⟩ := h; rfl) | (obtain ⟨_, _, _, rfl, _⟩ := h; rfl) | (obtain ⟨_, _, _, _, rfl, _⟩ := h; rfl) | (obtain ⟨_, _, _, _, _, rfl, _⟩ := h; rfl) | (obtain ⟨_, _, _, _, _, _, rfl, _⟩ := h; rfl) | (obtain ⟨_, _, _, _, _, _, _, rfl, _⟩ := h; rfl) | (obtain ⟨_, _, _, _, _, _, _, _, rfl, _⟩ := h; rfl) | (obtain ⟨_, _, _, _, _, _, _, _, _, rfl, _⟩ := h; rfl) | (obtain ⟨_, _, _, _, _, _, _, _, _, _, rfl, _⟩ := h; rfl) | (obtain ⟨_, _, _, _, _, _, _, _, _, _, _, rfl, _⟩ := h; rfl) | (obtain ⟨_, _, _, _, _, _, _, _, _, _, _, _, rfl, _⟩ := h; rfl) | (obtain ⟨_, _, _, _, _, _, _, _, _, _, _, _, _, rfl, _⟩ := h; rfl) | (obtain ⟨_, _, _, _, _, _, _, _, _, _, _, _, _, _, rfl, _⟩ := h; rfl) | (obtain ⟨_, _, _, _, _, _, _, _, _, _, _, _, _, _, _, rfl, _⟩ := h; rfl)
  · have hu64 := hr.units
    obtain ⟨b, n, rfl, hb, hn, q⟩ := h
    refine ⟨_, (pss_cons (ps_set (i := 1) sc__law_price.nd rfl (.inl rfl) (pe_lst (pa_cons (pe_op op_add pe_int (pe_cf C__law_pick (hr.mono (by decide)) (by rfl) (pa_cons (pv 0) (pa_cons pe_int pa_nil)))) (pa_cons (pe_op op_mul pe_int (pe_op op_add pe_int (pe_cf C__law_pick (hr.mono (by decide)) (by rfl) (pa_cons (pv 0) (pa_cons pe_int pa_nil))))) (pa_cons (pe_op op_add pe_int (pe_cf C__law_pick (hr.mono (by decide)) (by rfl) (pa_cons (pv 0) (pa_cons (pe_op op_pow pe_int pe_int) pa_nil)))) (pa_cons (pe_op op_pow pe_int pe_int) pa_nil))))))
      (pss_one (ps_ret (pe_ix (kk_ixl K) (pv 1) (pe_cf C__law_pick (hr.mono (by decide)) (by rfl) (pa_cons (pv 0) (pa_cons pe_int pa_nil))) (fun _ _ => rfl))))), ?_⟩
    refine ⟨_, rfl, b, 12, n, rfl, hb, by decide, by decide, by omega, fun x1 H1 x10 x11 b1 t1 => ⟨_, _, rfl, rfl, ?_⟩⟩
    refine ⟨_, rfl, b, 50, _, rfl, b1, by decide, by decide, by omega, fun x2 H2 x20 x21 b2 t2 => ⟨_, _, rfl, rfl, _, _, rfl, rfl, .inl ⟨by decide, by decide⟩, ?_⟩⟩
    refine ⟨_, rfl, _, _, rfl, rfl, ⟨by decide, by decide, by decide⟩, b, 1000000, _, rfl, b2, by decide, by decide, by omega, fun x3 H3 x30 x31 b3 t3 => ⟨_, _, rfl, rfl, _, _, rfl, rfl, ⟨by decide, by decide, by decide⟩, (by show 4 ≤ sizeLine; decide), fun l nl => ?_⟩⟩
    have s4 := same_new (o := .lst [.int (1 + x1), .int (60 * (1 + x2)), .int (1 + x3), .int (10 ^ (6 : Int).toNat)]) nl
    refine ⟨_, rfl, _, rfl, b, 4, _, rfl, b3.same s4, by decide, by decide, by omega, fun r1 H4 r10 r11 b4 t4 => ?_⟩
    obtain ⟨v, hv, v0, v1⟩ := pick4i (lo := 1) (hi := 1000000) (x := 1 + x1) (y := 60 * (1 + x2)) (z := 1 + x3) (u := 10 ^ (6 : Int).toNat) r10 r11 (by omega) (by omega) (by omega) (by decide)
    exact ⟨l, _, _, _, rfl, rfl, SqL.of (t4 _ _ (b3.ne nl) upd_same), hv, q _ v (b4.mono (by omega)) ((((t1.trans t2).trans t3).trans (But.of s4)).trans t4) v0 v1⟩
/-! ### _law_begun -/
abbrev s__law_begun : Stmt := topS 40
abbrev N__law_begun : List Str := ["_law_figures_here", "_law_price_here", "_law_begin", "_law_m"]
theorem sc__law_begun : FnScope N__law_begun ["_law_figures_here", "_law_price_here", "_law_begin"] (defScope s__law_begun) := ⟨rfl, rfl, rfl, by decide +kernel, rfl, by decide +kernel, by decide +kernel⟩
theorem valV_out {k : Key} : ∀ {l : List (Key × V)}, k ∉ l.map (·.1) → valV l k = none
  | [], _ => rfl
  | p :: r, h => by
    rw [List.map_cons, List.mem_cons, not_or] at h
    rw [valV_neg (fun e => h.1 e.symm)]
    exact valV_out h.2
theorem merge_app : ∀ {l acc : List (Key × V)}, ((acc ++ l).map (·.1)).Nodup → mergeK acc l = acc ++ l
  | [], acc, _ => (List.append_nil acc).symm
  | p :: r, acc, nd => by
    have nd2 : ((acc ++ [p] ++ r).map (·.1)).Nodup := by
      rw [List.append_assoc]
      exact nd
    have no : p.1 ∉ acc.map (·.1) := fun hm => by
      rw [List.map_append, List.nodup_append] at nd
      exact nd.2.2 _ hm _ (by rw [List.map_cons]; exact List.mem_cons_self) rfl
    show mergeK (putK acc p.1 p.2) r = _
    rw [putK_new p.2 (valV_out no), merge_app nd2, List.append_assoc]
    rfl
def md7 (fa : Addr) (price b : Int) : List (Key × V) := [(kS "figures", .ref fa), (kS "price", .int price), (kS "begin", .int b), (kS "day", .int b), (kS "due", .int b), (kS "many", .int 0), (kS "missed", .int 0)]
def md4 (pa ba : Addr) : List (Key × V) := [(kS "pays", .ref pa), (kS "backs", .ref ba), (kS "kept", .int 0), (kS "end", .non)]
theorem md7_eq (fa : Addr) (price b : Int) : mergeK [] (md7 fa price b) = md7 fa price b := by
  refine merge_app (acc := []) ?_
  show ([kS "figures", kS "price", kS "begin", kS "day", kS "due", kS "many", kS "missed"] : List Key).Nodup
  decide +kernel
theorem md4_eq (pa ba : Addr) : mergeK [] (md4 pa ba) = md4 pa ba := by
  refine merge_app (acc := []) ?_
  show ([kS "pays", kS "backs", kS "kept", kS "end"] : List Key).Nodup
  decide +kernel
theorem md11_eq (fa : Addr) (price b : Int) (pa ba : Addr) : mergeK (md7 fa price b) (md4 pa ba) = mdV fa (newM price b) pa ba .non := merge_app (md_nd (fa := fa) (M := newM price b) (pa := pa) (ba := ba) (en := .non))
def sp__law_begun (K : PySem.W.Frag) : Sp := fun vs H Q _ => ∃ (fa : Addr) (price b : Int), vs = [.ref fa, .int price, .int b] ∧ ∀ H' m pa ba, H m = none → H pa = none → H ba = none → Same H H' → MdAt K H' m fa (newM price b) pa ba → Q (.ref m) H'
theorem ok__law_begun {f : Addr} {fd : FuncData} (F : Fun K "_law_begun" "_law_begun" s__law_begun f fd) (g : mg "_law_begun" = some (.ref f)) (bd : Binds K fd ["_law_figures_here", "_law_price_here", "_law_begin"] []) : CF P w K mg base 1 "_law_begun" ["_law_figures_here", "_law_price_here", "_law_begin"] (sp__law_begun K) := by
  refine ⟨f, fd, F.ok sc__law_begun (fun vs H Q E h => ?_) (fun cdv A outer s H vs Q E hr h => ?_), g, F.kp, bd⟩
  · first | (obtain ⟨_, rfl, _⟩ := h; rfl) | (obtain ⟨_, _, rfl, _⟩ := h; rfl) | (obtain ⟨_, _, _, rfl, _⟩ := h; rfl) | (obtain ⟨_, _, _, _, rfl, _⟩ := h; rfl) | (obtain ⟨_, _, _, _, _, rfl, _⟩ := h; rfl) | (obtain ⟨_, _, _, _, _, _, rfl, _⟩ := h; rfl) | (obtain ⟨_, _, _, _, _, _, _, rfl, _⟩ := h; rfl) | (obtain ⟨_, _, _, _, _, _, _, _, rfl, _⟩ := h; rfl) | (obtain ⟨_, _, _, _, _, _, _, _, _, rfl, _⟩ := h; rfl) | (obtain ⟨_, _, _, _, _, _, _, _, _, _, rfl, _⟩ := h; rfl) | (obtain ⟨_, _, _, _, _, _, _, _, _, _, _, rfl, _⟩ := h; rfl) | (obtain ⟨_, _, _, _, _, _, _, _, _, _, _, _, rfl, _⟩ := h; rfl) | (obtain ⟨_, _, _, _, _, _, _, _, _, _, _, _, _, rfl, _⟩ := h; rfl) | (obtain ⟨_, _, _, _, _, _, _, _, _, _, _, _, _, _, rfl, _⟩ := h; rfl) | (obtain ⟨_, _, _, _, _, _, _, _, _, _, _, _, _, _, _, rfl, _⟩ := h; rfl)
  · have hu64 := hr.units
    obtain ⟨fa, price, b, rfl, q⟩ := h
    refine ⟨_, (pss_cons (ps_set (i := 3) sc__law_begun.nd rfl (.inl rfl) (pe_disp (pps_cons pe_str (pv 0) (pps_cons pe_str (pv 1) (pps_cons pe_str (pv 2) (pps_cons pe_str (pv 2) (pps_cons pe_str (pv 2) (pps_cons pe_str pe_int (pps_cons pe_str pe_int pps_nil))))))) (by rfl) (by rfl) (by simp) (by decide)))
      (pss_cons (ps_expr (pe_bm PySem.F.plainAttrs_dict PySem.F.slot_dict_update PySem.F.type_dict_update mt_update (pv 3) (pa_cons (pe_disp (pps_cons pe_str (pe_lst pa_nil) (pps_cons pe_str (pe_lst pa_nil) (pps_cons pe_str pe_int (pps_cons pe_str pe_non pps_nil)))) (by rfl) (by rfl) (by simp) (by decide)) pa_nil)))
      (pss_one (ps_ret (pv 3))))), ?_⟩
    refine fun m nm => ⟨_, rfl, _, rfl, _, rfl, _, rfl, _, rfl, upd_same, md7 fa price b, rfl, (by show 7 ≤ 15; decide), ?_⟩
    rw [md7_eq]
    have hm : (upd (upd H m (.dK [])) m (.dK (md7 fa price b))) m = some (.dK (md7 fa price b)) := upd_same
    have s1 : Same H (upd (upd H m (.dK [])) m (.dK (md7 fa price b))) := fun c o e => by
      rw [upd_ne (ne_of_none e nm), upd_ne (ne_of_none e nm)]
      exact e
    generalize upd (upd H m (.dK [])) m (.dK (md7 fa price b)) = G at *
    refine ⟨_, rfl, .inr (.inr (.inl ⟨rfl, .inl ⟨_, hm⟩⟩)), fun d nd => ⟨(by show 0 ≤ sizeLine; decide), fun pa npa => ⟨(by show 0 ≤ sizeLine; decide), fun ba nba => ?_⟩⟩⟩
    have sd := same_new (o := .dK []) nd
    have sp := same_new (o := .lst []) npa
    have sb := same_new (o := .lst []) nba
    have hd2 := sb _ _ (sp _ _ (upd_same (H := G) (a := d) (o := .dK [])))
    have hpa := sb _ _ (upd_same (H := upd G d (.dK [])) (a := pa) (o := .lst []))
    have hba := upd_same (H := upd (upd G d (.dK [])) pa (.lst [])) (a := ba) (o := .lst [])
    have sG := (sd.trans sp).trans sb
    have npa0 : G pa = none := none_of sd npa
    have nba0 : G ba = none := none_of (sd.trans sp) nba
    generalize upd (upd (upd G d (.dK [])) pa (.lst [])) ba (.lst []) = G2 at *
    refine ⟨hd2, md4 pa ba, rfl, (by show 4 ≤ 15; decide), ?_⟩
    rw [md4_eq]
    have dm : m ≠ d := fun e => by
      rw [← e, hm] at nd
      cases nd
    have hm3 : (upd G2 d (.dK (md4 pa ba))) m = some (.dK (md7 fa price b)) := by
      rw [upd_ne dm]
      exact sG _ _ hm
    refine ⟨m, d, _, _, rfl, rfl, dm, hm3, upd_same, (by show 7 + 4 ≤ sizeLine; decide), ?_⟩
    rw [md11_eq]
    have neL : ∀ {a : Addr} {xs : List V}, G2 a = some (.lst xs) → a ≠ d ∧ a ≠ m := fun {a xs} e => ⟨fun z => (by rw [z, hd2] at e; cases e), fun z => (by rw [z, sG _ _ hm] at e; cases e)⟩
    refine ⟨_, rfl, q _ m pa ba nm (none_of s1 npa0) (none_of s1 nba0) (fun c o e => ?_) ⟨.non, ⟨upd_same, ⟨[], ?_, .nil, rfl⟩, ⟨[], ?_, .nil, rfl⟩⟩, rfl⟩⟩
    · have e2 := s1 _ _ e
      rw [upd_ne (ne_of_none e nm), upd_ne (ne_of_none e2 nd)]
      exact sG _ _ e2
    · rw [upd_ne (neL hpa).2, upd_ne (neL hpa).1]
      exact hpa
    · rw [upd_ne (neL hba).2, upd_ne (neL hba).1]
      exact hba
/-! ### _law_given -/
abbrev s__law_given : Stmt := topS 41
abbrev N__law_given : List Str := ["_law_m", "_law_day_here", "_law_pence", "_law_front", "_law_rows", "_law_when", "_law_who", "_law_much", "_law_own"]
theorem sc__law_given : FnScope N__law_given ["_law_m", "_law_day_here", "_law_pence"] (defScope s__law_given) := ⟨rfl, rfl, rfl, by decide +kernel, rfl, by decide +kernel, by decide +kernel⟩
def sp__law_given (K : PySem.W.Frag) : Sp := fun vs H Q _ => ∃ (m fa pa ba : Addr) (day pence : Int) (M : Md) (en : V), vs = [.ref m, .int day, .int pence] ∧ MdC H m fa M pa ba en ∧ NN M.pays ∧ M.pays.length ≤ 300 ∧ M.backs.length ≤ 300 ∧ 0 ≤ pence ∧ pence ≤ sumP M.pays ∧ ∀ H' ba', H ba' = none → But m H H' → MdC H' m fa { M with backs := M.backs ++ backR day M.pays.reverse pence } pa ba' en → Q .non H'
theorem gFold_len (day : Int) : ∀ (R : List Pr) (a : Int × List Pr), ((R.foldl (gStep day) a).2).length ≤ a.2.length + R.length
  | [], a => Nat.le_refl _
  | q :: r, a => by
    have h := gFold_len day r (gStep day a q)
    have h2 : (gOne day a.1 q).length ≤ 1 := by
      unfold gOne
      split
      · exact Nat.le_refl _
      · exact Nat.zero_le _
    rw [List.foldl_cons]
    have h3 : (gStep day a q).2.length = (gOne day a.1 q).length + a.2.length := List.length_append
    rw [List.length_cons]
    omega
theorem RowsL.app {H H' : Hp} {a b c : Addr} {x y : List Pr} (ha : RowsL H a x) (hb : RowsL H b y) (s : Same H H') (h : ∀ L1 L2 : List (Addr × Pr), H a = some (.lst (refs L1)) → H b = some (.lst (refs L2)) → H' c = some (.lst (refs L1 ++ refs L2))) : RowsL H' c (x ++ y) := by
  obtain ⟨L1, a1, a2, a3⟩ := ha
  obtain ⟨L2, b1, b2, b3⟩ := hb
  refine ⟨L1 ++ L2, ?_, fun q hq => ?_, by rw [List.map_append, a3, b3]⟩
  · rw [h L1 L2 a1 b1]
    unfold refs
    rw [List.map_append]
  · rcases List.mem_append.mp hq with z | z
    · exact s _ _ (a2 q z)
    · exact s _ _ (b2 q z)
theorem ok__law_given {f : Addr} {fd : FuncData} (F : Fun K "_law_given" "_law_given" s__law_given f fd) (g : mg "_law_given" = some (.ref f)) (bd : Binds K fd ["_law_m", "_law_day_here", "_law_pence"] []) (m_sum : mg "sum" = none) (m_min : mg "min" = none) (m_int : mg "int" = none) : CF P w K mg base 1 "_law_given" ["_law_m", "_law_day_here", "_law_pence"] (sp__law_given K) := by
  refine ⟨f, fd, F.ok sc__law_given (fun vs H Q E h => ?_) (fun cdv A outer s H vs Q E hr h => ?_), g, F.kp, bd⟩
  · first | (obtain ⟨_, rfl, _⟩ := h; rfl) | (obtain ⟨_, _, rfl, _⟩ := h; rfl) | (obtain ⟨_, _, _, rfl, _⟩ := h; rfl) | (obtain ⟨_, _, _, _, rfl, _⟩ := h; rfl) | (obtain ⟨_, _, _, _, _, rfl, _⟩ := h; rfl) | (obtain ⟨_, _, _, _, _, _, rfl, _⟩ := h; rfl) | (obtain ⟨_, _, _, _, _, _, _, rfl, _⟩ := h; rfl) | (obtain ⟨_, _, _, _, _, _, _, _, rfl, _⟩ := h; rfl) | (obtain ⟨_, _, _, _, _, _, _, _, _, rfl, _⟩ := h; rfl) | (obtain ⟨_, _, _, _, _, _, _, _, _, _, rfl, _⟩ := h; rfl) | (obtain ⟨_, _, _, _, _, _, _, _, _, _, _, rfl, _⟩ := h; rfl) | (obtain ⟨_, _, _, _, _, _, _, _, _, _, _, _, rfl, _⟩ := h; rfl) | (obtain ⟨_, _, _, _, _, _, _, _, _, _, _, _, _, rfl, _⟩ := h; rfl) | (obtain ⟨_, _, _, _, _, _, _, _, _, _, _, _, _, _, rfl, _⟩ := h; rfl) | (obtain ⟨_, _, _, _, _, _, _, _, _, _, _, _, _, _, _, rfl, _⟩ := h; rfl)
  · have hu64 := hr.units
    have hu1 := hu1_of hu64
    obtain ⟨m, fa, pa, ba, day, pence, M, en, rfl, ⟨hm, h5, h6⟩, nn, l1, l2, x0, x1, q⟩ := h
    refine ⟨_, (pss_cons (ps_par (i := 3) (j := 4) (by rfl) sc__law_given.nd rfl rfl (by decide) rfl rfl (pa_cons (pe_op op_sub (pe_callB (kk_sum K rfl) (by rfl) m_sum (by decide +kernel) (pa_cons (pe_lc (own := [("_law_when", 5), ("_law_who", 6), ("_law_much", 7)]) (g := (gTup K 3 (gCons (gName 5) (gCons (gName 6) (gCons (gName 7) gNil))))) (tt := tYes) rfl sc__law_given.nd (pi_list (pe_dget hu1 (pv 0) pe_str (fun _ _ => rfl))) (blkOk_by (own := [("_law_when", 5), ("_law_who", 6), ("_law_much", 7)]) (N := N__law_given) (sc := defScope s__law_given) (by decide +kernel)) (fun _ _ _ _ _ => (pg_tup (by rfl) (pgs_cons (pg_name (i := 5) sc__law_given.nd rfl (.inl rfl)) (pgs_cons (pg_name (i := 6) sc__law_given.nd rfl (.inl rfl)) (pgs_cons (pg_name (i := 7) sc__law_given.nd rfl (.inl rfl)) pgs_nil))))) (fun _ _ _ _ _ => pts_nil) (fun _ _ _ _ _ => (pv 7))) pa_nil)) (pv 2)) (pa_cons (pe_lst pa_nil) pa_nil)) (by rfl))
      (pss_cons (ps_for PassesOwn.never rfl (pi_list (pe_dget hu1 (pv 0) pe_str (fun _ _ => rfl))) (pg_tup (by rfl) (pgs_cons (pg_name (i := 5) sc__law_given.nd rfl (.inl rfl)) (pgs_cons (pg_name (i := 6) sc__law_given.nd rfl (.inl rfl)) (pgs_cons (pg_name (i := 7) sc__law_given.nd rfl (.inl rfl)) pgs_nil))))
         (pss_cons (ps_set (i := 8) sc__law_given.nd rfl (.inl rfl) (pe_callB (call_min2 rfl) (by rfl) m_min (by decide +kernel) (pa_cons (pv 3) (pa_cons (pv 7) pa_nil))))
          (pss_cons (ps_set (i := 3) sc__law_given.nd rfl (.inl rfl) (pe_op op_sub (pv 3) (pv 8)))
          (pss_one (ps_set (i := 4) sc__law_given.nd rfl (.inl rfl) (pe_op op_cat (pe_op op_rep (pe_lst (pa_cons (pe_tup (pa_cons (pv 1) (pa_cons (pv 6) (pa_cons (pe_op op_sub (pv 7) (pv 8)) pa_nil)))) pa_nil)) (pe_callTy call_int1 (by rfl) m_int (by decide +kernel) (pa_cons (pe_cmpR op_gt (pv 7) (pv 8) (nomark _)) pa_nil))) (pv 4)))))))
      (pss_one (ps_asg (pe_op op_cat (pe_dget hu1 (pv 0) pe_str (fun _ _ => rfl)) (pv 4)) (pg_sub (pv 0) pe_str (set_dict hu1)))))), ?_⟩
    obtain ⟨L, e1, e2, e3, e4⟩ := h5.len
    refine ⟨_, rfl, m, _, rfl, dg_pays hm, pa, rfl, ⟨_, SqL.of e1⟩, fun D hD => rows_lc (fun _ => true) (fun q => V.int q.2.p) (jok_l (SqL.of e1)) e2 (by omega) hD (fun q hq G s hG Y N y n => ?_) (Tyes (J := Itl K pa) fun G s hG => ?_)⟩
    · exact ⟨q.1, _, rfl, SqT.of hG, rfl, _, _, rfl, _, _, rfl, _, _, rfl, rfl, rfl, iteT (B := N G) ⟨_, rfl, y rfl⟩⟩
    refine ⟨D, (L.map (·.2)).map (·.p), rfl, SqL.of (hG.trans (by rw [List.map_map, List.map_map, List.map_map]; rfl)), ?_⟩
    rw [e3, sumP_sum]
    refine ⟨_, rfl, _, _, rfl, rfl, (by show 0 ≤ sizeLine; decide), fun R nR => ⟨_, _, rfl, ?_⟩⟩
    have sR := s.trans (same_new (o := .lst []) nR)
    have ln : (refs L).length = L.length := List.length_map ..
    refine ⟨_, rfl, m, _, rfl, dg_pays (sR _ _ hm), pa, rfl, ⟨_, SqL.of (sR _ _ e1)⟩, for_list (K := K) (a := pa) (xs := refs L) (fun i σ G => ∃ R s5 s6 s7 s8, σ = [some (.ref m), some (.int day), some (.int pence), some (.int ((M.pays.take i).foldl (gStep day) (sumP M.pays - pence, [])).1), some (.ref R), s5, s6, s7, s8] ∧ Same H G ∧ RowsL G R ((M.pays.take i).foldl (gStep day) (sumP M.pays - pence, [])).2) ⟨R, _, _, _, _, rfl, sR, [], upd_same, .nil, rfl⟩ (fun i σ G _ h => ?_) (fun i v σ G hv h => ?_) (fun σ G h => ?_)⟩
    · obtain ⟨_, _, _, _, _, _, sm, _⟩ := h
      exact sm.seq (SqL.of e1)
    · obtain ⟨R1, s5, s6, s7, s8, rfl, sm, hR1⟩ := h
      obtain ⟨p, hp, rfl, hmem⟩ := refs_at hv
      have hT := sm _ _ (e2 p hmem)
      have hx : M.pays[i]? = some p.2 := by
        rw [← e3, List.getElem?_map, hp]
        rfl
      rw [take_snoc hx, List.foldl_append]
      have gl := gFold_len day (M.pays.take i) (sumP M.pays - pence, [])
      have tl : (M.pays.take i).length ≤ 300 := by rw [List.length_take]; omega
      generalize (M.pays.take i).foldl (gStep day) (sumP M.pays - pence, []) = st at *
      refine ⟨p.1, _, rfl, SqT.of hT, rfl, _, _, rfl, _, _, rfl, _, _, rfl, rfl, ?_⟩
      refine ⟨_, rfl, _, rfl, _, _, rfl, ?_⟩
      refine ⟨_, rfl, _, rfl, _, _, rfl, rfl, ?_⟩
      have em : (if p.2.p < st.1 then p.2.p else st.1) = mn st.1 p.2.p := rfl
      rw [em]
      refine ⟨_, rfl, _, rfl, _, rfl, _, rfl, _, _, rfl, rfl, (by show 3 ≤ sizeLine; decide), fun t nt => ⟨(by show 1 ≤ sizeLine; decide), fun l nl => ?_⟩⟩
      have st1 := same_new (o := .tup (prV ⟨day, p.2.w, p.2.p - mn st.1 p.2.p⟩)) nt
      have st2 := same_new (o := .lst [.ref t]) nl
      have hl := upd_same (H := upd G t (.tup (prV ⟨day, p.2.w, p.2.p - mn st.1 p.2.p⟩))) (a := l) (o := .lst [.ref t])
      have ht := st2 _ _ (upd_same (H := G) (a := t) (o := .tup (prV ⟨day, p.2.w, p.2.p - mn st.1 p.2.p⟩)))
      refine ⟨_, rfl, _, rfl, _, _, rfl, rfl, .inr ⟨_, rfl, l, _, _, rfl, rfl, hl, ?_, ?_, ?_, fun l2 nl2 => ?_⟩⟩
      · split <;> decide
      · split <;> decide
      · show 1 * _ ≤ sizeLine
        split <;> decide
      have s3 := fun o => (st1.trans st2).trans (same_new (o := o) nl2)
      obtain ⟨S, hS1, hS2, hS3, hS4⟩ := hR1.len
      simp only at gl
      have gl2 : S.length ≤ 300 := by
        have : (([] : List Pr).length : Nat) = 0 := rfl
        omega
      by_cases z : mn st.1 p.2.p < p.2.p
      · have ez : (if decide (p.2.p > mn st.1 p.2.p) = true then (1 : Int) else 0) = 1 := if_pos (decide_eq_true z)
        rw [ez] at *
        refine ⟨_, rfl, l2, R1, _, _, rfl, rfl, upd_same, s3 _ _ _ hS1, ?_, fun l3 nl3 => ⟨l3, _, _, _, _, rfl, (sm.trans (s3 _)).trans (same_new nl3), (t, ⟨day, p.2.w, p.2.p - mn st.1 p.2.p⟩) :: S, ?_, ?_, ?_⟩⟩
        · show (1 + (refs S).length) ≤ sizeLine
          rw [List.length_map]
          exact size_small (by omega)
        · rw [upd_same]
          rfl
        · intro q hq
          rcases List.mem_cons.mp hq with y | y
          · rw [y]
            exact same_new nl3 _ _ (same_new nl2 _ _ ht)
          · exact same_new nl3 _ _ (s3 _ _ _ (hS2 q y))
        · rw [List.map_cons, hS3]
          show _ = gOne day st.1 p.2 ++ st.2
          unfold gOne
          rw [if_pos z]
          rfl
      · have ez : (if decide (p.2.p > mn st.1 p.2.p) = true then (1 : Int) else 0) = 0 := if_neg (by rw [decide_eq_false z]; decide)
        rw [ez] at *
        refine ⟨_, rfl, l2, R1, _, _, rfl, rfl, upd_same, s3 _ _ _ hS1, ?_, fun l3 nl3 => ⟨l3, _, _, _, _, rfl, (sm.trans (s3 _)).trans (same_new nl3), S, ?_, ?_, ?_⟩⟩
        · show (0 + (refs S).length) ≤ sizeLine
          rw [List.length_map]
          exact size_small (by omega)
        · rw [upd_same]
          rfl
        · exact fun q hq => same_new nl3 _ _ (s3 _ _ _ (hS2 q hq))
        · rw [hS3]
          show _ = gOne day st.1 p.2 ++ st.2
          unfold gOne
          rw [if_neg z]
          rfl
    · obtain ⟨R1, s5, s6, s7, s8, rfl, sm, hR1⟩ := h
      have hn : (refs L).length = M.pays.length := by rw [ln, e4]
      have gl := gFold_len day M.pays (sumP M.pays - pence, [])
      rw [hn, List.take_of_length_le (Nat.le_refl _)] at hR1
      rw [given_rows nn x0 x1] at hR1
      obtain ⟨B1, b1, b2, b3, b4⟩ := (h6.same sm).len
      obtain ⟨B2, c1, c2, c3, c4⟩ := hR1.len
      have bl := back_len day M.pays.reverse pence
      rw [List.length_reverse] at bl
      refine ⟨_, rfl, m, _, rfl, dg_backs (sm _ _ hm), _, rfl, ba, R1, _, _, rfl, rfl, b1, c1, ?_, fun l3 nl3 => ?_⟩
      · rw [List.length_map, List.length_map]
        exact size_small (by omega)
      · have s3 := same_new (o := .lst (refs B1 ++ refs B2)) nl3
        have hm3 := s3 _ _ (sm _ _ hm)
        refine ⟨_, rfl, m, _, rfl, dp_backs hm3, ?_⟩
        refine q _ l3 (none_of sm nl3) ((But.of (sm.trans s3)).trans But.upd) (MdC.put (M' := { M with backs := M.backs ++ backR day M.pays.reverse pence }) hm3 ((h5.same sm).same s3) ?_)
        refine RowsL.app (h6.same sm) hR1 s3 fun L1 L2 g1 g2 => ?_
        rw [upd_same]
        rw [b1] at g1
        rw [c1] at g2
        have y1 := HO.lst.inj (Option.some.inj g1)
        have y2 := HO.lst.inj (Option.some.inj g2)
        rw [← y1, ← y2]
/-! ### _law_ended -/
abbrev s__law_ended : Stmt := topS 42
abbrev N__law_ended : List Str := ["_law_m", "_law_word", "_law_day_here", "_law_percent", "_law_whole", "_law_when", "_law_who", "_law_much"]
theorem sc__law_ended : FnScope N__law_ended ["_law_m", "_law_word", "_law_day_here", "_law_percent"] (defScope s__law_ended) := ⟨rfl, rfl, rfl, by decide +kernel, rfl, by decide +kernel, by decide +kernel⟩
def sp__law_ended (K : PySem.W.Frag) : Sp := fun vs H Q _ => ∃ (m fa pa ba : Addr) (w : Wd) (day pct : Int) (M : Md) (en : V), vs = [.ref m, .str (wS w), .int day, .int pct] ∧ MdC H m fa M pa ba en ∧ NN M.pays ∧ M.pays.length ≤ 300 ∧ M.backs.length ≤ 300 ∧ 0 ≤ pct ∧ pct ≤ 100 ∧ ∀ H' ba', H ba' = none → But m H H' → MdAt K H' m fa (endM w day (wholeK M pct) M) pa ba' → Q .non H'
theorem ok__law_ended {f : Addr} {fd : FuncData} (F : Fun K "_law_ended" "_law_ended" s__law_ended f fd) (g : mg "_law_ended" = some (.ref f)) (bd : Binds K fd ["_law_m", "_law_word", "_law_day_here", "_law_percent"] []) (m_sum : mg "sum" = none) (C__law_given : CF P w K mg base 1 "_law_given" ["_law_m", "_law_day_here", "_law_pence"] (sp__law_given K)) : CF P w K mg base 2 "_law_ended" ["_law_m", "_law_word", "_law_day_here", "_law_percent"] (sp__law_ended K) := by
  refine ⟨f, fd, F.ok sc__law_ended (fun vs H Q E h => ?_) (fun cdv A outer s H vs Q E hr h => ?_), g, F.kp, bd⟩
  · first | (obtain ⟨_, rfl, _⟩ := h; rfl) | (obtain ⟨_, _, rfl, _⟩ := h; rfl) | (obtain ⟨_, _, _, rfl, _⟩ := h; rfl) | (obtain ⟨_, _, _, _, rfl, _⟩ := h; rfl) | (obtain ⟨_, _, _, _, _, rfl, _⟩ := h; rfl) | (obtain ⟨_, _, _, _, _, _, rfl, _⟩ := h; rfl) | (obtain ⟨_, _, _, _, _, _, _, rfl, _⟩ := h; rfl) | (obtain ⟨_, _, _, _, _, _, _, _, rfl, _⟩ := h; rfl) | (obtain ⟨_, _, _, _, _, _, _, _, _, rfl, _⟩ := h; rfl) | (obtain ⟨_, _, _, _, _, _, _, _, _, _, rfl, _⟩ := h; rfl) | (obtain ⟨_, _, _, _, _, _, _, _, _, _, _, rfl, _⟩ := h; rfl) | (obtain ⟨_, _, _, _, _, _, _, _, _, _, _, _, rfl, _⟩ := h; rfl) | (obtain ⟨_, _, _, _, _, _, _, _, _, _, _, _, _, rfl, _⟩ := h; rfl) | (obtain ⟨_, _, _, _, _, _, _, _, _, _, _, _, _, _, rfl, _⟩ := h; rfl) | (obtain ⟨_, _, _, _, _, _, _, _, _, _, _, _, _, _, _, rfl, _⟩ := h; rfl)
  · have hu64 := hr.units
    have hu1 := hu1_of hu64
    obtain ⟨m, fa, pa, ba, wd, day, pct, M, en, rfl, ⟨hm, h5, h6⟩, nn, l1, l2, x0, x1, q⟩ := h
    refine ⟨_, (pss_cons (ps_set (i := 4) sc__law_ended.nd rfl (.inl rfl) (pe_callB (kk_sum K rfl) (by rfl) m_sum (by decide +kernel) (pa_cons (pe_lc (own := [("_law_when", 5), ("_law_who", 6), ("_law_much", 7)]) (g := (gTup K 3 (gCons (gName 5) (gCons (gName 6) (gCons (gName 7) gNil))))) (tt := tYes) rfl sc__law_ended.nd (pi_list (pe_dget hu1 (pv 0) pe_str (fun _ _ => rfl))) (blkOk_by (own := [("_law_when", 5), ("_law_who", 6), ("_law_much", 7)]) (N := N__law_ended) (sc := defScope s__law_ended) (by decide +kernel)) (fun _ _ _ _ _ => (pg_tup (by rfl) (pgs_cons (pg_name (i := 5) sc__law_ended.nd rfl (.inl rfl)) (pgs_cons (pg_name (i := 6) sc__law_ended.nd rfl (.inl rfl)) (pgs_cons (pg_name (i := 7) sc__law_ended.nd rfl (.inl rfl)) pgs_nil))))) (fun _ _ _ _ _ => pts_nil) (fun _ _ _ _ _ => (pv 7))) pa_nil)))
      (pss_cons (ps_asg (pe_tup (pa_cons (pe_tup (pa_cons (pv 1) (pa_cons (pv 2) pa_nil))) (pa_cons (pe_op op_fdiv (pe_op op_add (pe_op op_mul (pv 4) (pv 3)) pe_int) pe_int) pa_nil))) (pg_tup (by rfl) (pgs_cons (pg_sub (pv 0) pe_str (set_dict hu1)) (pgs_cons (pg_sub (pv 0) pe_str (set_dict hu1)) pgs_nil))))
      (pss_one (ps_expr (pe_cf C__law_given (hr.mono (by decide)) (by rfl) (pa_cons (pv 0) (pa_cons (pv 2) (pa_cons (pe_op op_sub (pv 4) (pe_dget hu1 (pv 0) pe_str (fun _ _ => rfl))) pa_nil)))))))), ?_⟩
    obtain ⟨L, e1, e2, e3, e4⟩ := h5.len
    have sb := share_bnd (sumP_nn nn) x0 x1
    refine ⟨_, rfl, m, _, rfl, dg_pays hm, pa, rfl, ⟨_, SqL.of e1⟩, fun D hD => rows_lc (fun _ => true) (fun q => V.int q.2.p) (jok_l (SqL.of e1)) e2 (by omega) hD (fun q hq G s hG Y N y n => ?_) (Tyes (J := Itl K pa) fun G s hG => ?_)⟩
    · exact ⟨q.1, _, rfl, SqT.of hG, rfl, _, _, rfl, _, _, rfl, _, _, rfl, rfl, rfl, iteT (B := N G) ⟨_, rfl, y rfl⟩⟩
    refine ⟨D, (L.map (·.2)).map (·.p), rfl, SqL.of (hG.trans (by rw [List.map_map, List.map_map, List.map_map]; rfl)), ?_⟩
    rw [e3, sumP_sum]
    refine ⟨_, rfl, _, rfl, (by show 2 ≤ sizeLine; decide), fun t nt => ?_⟩
    refine ⟨_, rfl, _, rfl, _, _, rfl, rfl, .inr ⟨by omega, by omega⟩, _, _, rfl, rfl, _, _, rfl, rfl, ⟨by decide, by decide⟩, (by show 2 ≤ sizeLine; decide), fun t2 nt2 => ?_⟩
    have s2 := same_new (o := .tup [.str (wS wd), .int day]) nt
    have s3 := same_new (o := .tup [.ref t, .int ((sumP M.pays * pct + 99) / 100)]) nt2
    have ht := s3 _ _ (upd_same (H := G) (a := t) (o := .tup [.str (wS wd), .int day]))
    have ht2 := upd_same (H := upd G t (.tup [.str (wS wd), .int day])) (a := t2) (o := .tup [.ref t, .int ((sumP M.pays * pct + 99) / 100)])
    have sA := (s.trans s2).trans s3
    refine ⟨t2, _, rfl, SqT.of ht2, rfl, _, _, rfl, ?_⟩
    have hm1 := sA _ _ hm
    refine ⟨_, rfl, m, _, rfl, dp_end hm1, _, _, rfl, ?_⟩
    have a1 := MdC.put (fa' := fa) (pa' := pa) (ba' := ba) (M' := M) (en' := .ref t) hm1 (h5.same sA) (h6.same sA)
    have t1 : But m H (upd _ m _) := (But.of sA).trans (But.upd (o := .dK (mdV fa M pa ba (.ref t))))
    have ht' := (Fr.upd (z := [m]) (o := .dK (mdV fa M pa ba (.ref t))) (List.mem_singleton_self m)) t _ ((md_mu hm1).neT ht) ht
    refine ⟨_, rfl, m, _, rfl, dp_kept a1.1, rfl, ?_⟩
    have a2 := MdC.put (fa' := fa) (pa' := pa) (ba' := ba) (M' := { M with kept := wholeK M pct }) (en' := .ref t) a1.1 a1.2.1 a1.2.2
    have t2' := t1.trans (But.upd (o := .dK (mdV fa { M with kept := wholeK M pct } pa ba (.ref t))))
    have ht'' := (Fr.upd (z := [m]) (o := .dK (mdV fa { M with kept := wholeK M pct } pa ba (.ref t))) (List.mem_singleton_self m)) t _ ((md_mu a1.1).neT ht') ht'
    refine ⟨_, rfl, _, rfl, _, rfl, _, rfl, m, _, rfl, dg_kept a2.1, _, _, rfl, rfl, ?_⟩
    have hw : sumP M.pays - wholeK M pct ≤ sumP M.pays := by
      have : 0 ≤ wholeK M pct := sb.1
      omega
    have hw0 : 0 ≤ sumP M.pays - wholeK M pct := by
      have : wholeK M pct ≤ sumP M.pays := sb.2
      omega
    refine ⟨m, fa, pa, ba, day, sumP M.pays - wholeK M pct, { M with kept := wholeK M pct }, .ref t, rfl, a2, nn, l1, l2, hw0, hw, fun H3 ba3 n3 t3 h3 => ?_⟩
    have hx : H m ≠ none := by rw [hm]; exact fun z => nomatch z
    refine q H3 ba3 (but_none t2' hx (by rw [a2.1]; exact fun z => nomatch z) n3) (t2'.trans t3) ⟨.ref t, h3, t, rfl, SqT.of (t3 _ _ (fun e => (md_mu a2.1).neT ht'' (by rw [e]; exact List.mem_singleton_self m)) ht'')⟩
/-! ### _law_to -/
abbrev s__law_to : Stmt := topS 43
abbrev N__law_to : List Str := ["_law_m", "_law_day_here", "_law_parts", "_law_step", "_law_grace", "_law_is_last", "_law_misses", "_law_keep", "_law_fine"]
theorem sc__law_to : FnScope N__law_to ["_law_m", "_law_day_here"] (defScope s__law_to) := ⟨rfl, rfl, rfl, by decide +kernel, rfl, by decide +kernel, by decide +kernel⟩
def sp__law_to (K : PySem.W.Frag) : Sp := fun vs H Q _ => ∃ (m fa pa ba : Addr) (D : Int) (f : Fg) (M : Md), vs = [.ref m, .int D] ∧ MdAt K H m fa M pa ba ∧ FgAt K H fa f ∧ f.Ok ∧ M.Ok f ∧ M.day ≤ D ∧ ∀ H' ba', (ba' = ba ∨ H ba' = none) → But m H H' → MdAt K H' m fa (toM f M D) pa ba' → Q .non H'
theorem ok__law_to {f : Addr} {fd : FuncData} (F : Fun K "_law_to" "_law_to" s__law_to f fd) (g : mg "_law_to" = some (.ref f)) (bd : Binds K fd ["_law_m", "_law_day_here"] []) (m_min : mg "min" = none) (C__law_ended : CF P w K mg base 2 "_law_ended" ["_law_m", "_law_word", "_law_day_here", "_law_percent"] (sp__law_ended K)) : CF P w K mg base 3 "_law_to" ["_law_m", "_law_day_here"] (sp__law_to K) := by
  refine ⟨f, fd, F.ok sc__law_to (fun vs H Q E h => ?_) (fun cdv A outer s H vs Q E hr h => ?_), g, F.kp, bd⟩
  · first | (obtain ⟨_, rfl, _⟩ := h; rfl) | (obtain ⟨_, _, rfl, _⟩ := h; rfl) | (obtain ⟨_, _, _, rfl, _⟩ := h; rfl) | (obtain ⟨_, _, _, _, rfl, _⟩ := h; rfl) | (obtain ⟨_, _, _, _, _, rfl, _⟩ := h; rfl) | (obtain ⟨_, _, _, _, _, _, rfl, _⟩ := h; rfl) | (obtain ⟨_, _, _, _, _, _, _, rfl, _⟩ := h; rfl) | (obtain ⟨_, _, _, _, _, _, _, _, rfl, _⟩ := h; rfl) | (obtain ⟨_, _, _, _, _, _, _, _, _, rfl, _⟩ := h; rfl) | (obtain ⟨_, _, _, _, _, _, _, _, _, _, rfl, _⟩ := h; rfl) | (obtain ⟨_, _, _, _, _, _, _, _, _, _, _, rfl, _⟩ := h; rfl) | (obtain ⟨_, _, _, _, _, _, _, _, _, _, _, _, rfl, _⟩ := h; rfl) | (obtain ⟨_, _, _, _, _, _, _, _, _, _, _, _, _, rfl, _⟩ := h; rfl) | (obtain ⟨_, _, _, _, _, _, _, _, _, _, _, _, _, _, rfl, _⟩ := h; rfl) | (obtain ⟨_, _, _, _, _, _, _, _, _, _, _, _, _, _, _, rfl, _⟩ := h; rfl)
  · have hu64 := hr.units
    have hu1 := hu1_of hu64
    obtain ⟨m, fa, pa, ba, D, f', M, rfl, hM, hF, fo, ok, hD, q⟩ := h
    refine ⟨_, (pss_cons (ps_asg (pe_slice (kk_slt K) (pe_dget hu1 (pv 0) pe_str (fun _ _ => rfl)) po_none (po_some pe_int)) (pg_tup (by rfl) (pgs_cons (pg_name (i := 2) sc__law_to.nd rfl (.inl rfl)) (pgs_cons (pg_name (i := 3) sc__law_to.nd rfl (.inl rfl)) (pgs_cons (pg_name (i := 4) sc__law_to.nd rfl (.inl rfl)) (pgs_cons (pg_name (i := 5) sc__law_to.nd rfl (.inl rfl)) (pgs_cons (pg_name (i := 6) sc__law_to.nd rfl (.inl rfl)) (pgs_cons (pg_name (i := 7) sc__law_to.nd rfl (.inl rfl)) (pgs_cons (pg_name (i := 8) sc__law_to.nd rfl (.inl rfl)) pgs_nil)))))))))
      (pss_one (ps_while PassesOwn.never (pt_cmpR op_lt (pe_dget hu1 (pv 0) pe_str (fun _ _ => rfl)) (pv 1) (nomark _))
         (pss_cons (ps_asg (pe_op op_add (pe_dget hu1 (pv 0) pe_str (fun _ _ => rfl)) pe_int) (pg_sub (pv 0) pe_str (set_dict hu1)))
          (pss_one (ps_if (PW.pt (pw_and (pt_cmpR op_isN (pe_dget hu1 (pv 0) pe_str (fun _ _ => rfl)) pe_non (nomark _)) (pw_and1 (pt_cmpR op_eq (pe_dget hu1 (pv 0) pe_str (fun _ _ => rfl)) (pe_op op_add (pe_op op_add (pe_dget hu1 (pv 0) pe_str (fun _ _ => rfl)) (pv 4)) pe_int) (nomark _)))))
             (pss_one (ps_if (pt_cmpR op_eq (pe_dget hu1 (pv 0) pe_str (fun _ _ => rfl)) (pv 6) (nomark _))
                 (pss_one (ps_expr (pe_cf C__law_ended (hr.mono (by decide)) (by rfl) (pa_cons (pv 0) (pa_cons pe_str (pa_cons (pe_dget hu1 (pv 0) pe_str (fun _ _ => rfl)) (pa_cons (pe_callB (call_min2 rfl) (by rfl) m_min (by decide +kernel) (pa_cons pe_int (pa_cons (pe_op op_add (pe_ix (kk_ixt K) (pv 7) (pe_dget hu1 (pv 0) pe_str (fun _ _ => rfl)) (fun _ _ => rfl)) (pv 8)) pa_nil))) pa_nil)))))))
                 (pss_one (ps_asg (pe_tup (pa_cons (pe_op op_add (pe_dget hu1 (pv 0) pe_str (fun _ _ => rfl)) pe_int) (pa_cons (pe_op op_add (pe_dget hu1 (pv 0) pe_str (fun _ _ => rfl)) (pv 3)) pa_nil))) (pg_tup (by rfl) (pgs_cons (pg_sub (pv 0) pe_str (set_dict hu1)) (pgs_cons (pg_sub (pv 0) pe_str (set_dict hu1)) pgs_nil)))))))
             pss_nil)))))), ?_⟩
    obtain ⟨en, ⟨hm, h5, h6⟩, hen⟩ := id hM
    obtain ⟨kt, hf1, hf2⟩ := id hF
    refine ⟨_, rfl, m, _, rfl, dg_figures hm, _, rfl, fa, _, rfl, hf1, (by show ¬ (HT.sIx 9 0 none = 0 ∧ HT.sIx 9 9 (some 7) = 9); decide), fun u nu => ?_⟩
    have su := same_new (o := .tup (cutV [V.int f'.p, .int f'.s, .int f'.g, .bl f'.l, .int f'.m, .ref kt, .int f'.fi, .int f'.fa, .int f'.ba] none (some 7))) nu
    refine ⟨u, _, rfl, SqT.of upd_same, rfl, _, _, rfl, _, _, rfl, _, _, rfl, _, _, rfl, _, _, rfl, _, _, rfl, _, _, rfl, rfl, ?_⟩
    refine ⟨fun n σ G => σ = [some (.ref m), some (.int D), some (.int f'.p), some (.int f'.s), some (.int f'.g), some (.bl f'.l), some (.int f'.m), some (.ref kt), some (.int f'.fi)] ∧ ∃ M' ba', n = (D - M'.day).toNat ∧ M'.day ≤ D ∧ M'.Ok f' ∧ toM f' M' D = toM f' M D ∧ M'.pays = M.pays ∧ But m H G ∧ (ba' = ba ∨ H ba' = none) ∧ MdAt K G m fa M' pa ba', ⟨_, rfl, M, ba, rfl, hD, ok, rfl, rfl, But.of su, .inl rfl, hM.same su⟩, fun n σ G h => ?_⟩
    obtain ⟨rfl, M', ba', hn, hD', ok', ht, hpay, tG, hba, hM'⟩ := h
    obtain ⟨en', ⟨hm', h5', h6'⟩, hen'⟩ := id hM'
    refine ⟨_, rfl, m, _, rfl, dg_day hm', _, rfl, _, _, rfl, rfl, _, rfl, ite2 (fun z => ?_) (fun z => ?_)⟩
    · have z1 : M'.day < D := of_decide_eq_true z
      have fg : FgAt K G fa f' := hF.fr (but_fr tG) (md_mu hm)
      obtain ⟨kt2, fg1, fg2⟩ := fg
      have hkt : SqT K G kt (f'.ks.map V.int) := (but_fr tG).tup (md_mu hm) hf2
      refine ⟨fun σ2 G2 => σ2 = [some (.ref m), some (.int D), some (.int f'.p), some (.int f'.s), some (.int f'.g), some (.bl f'.l), some (.int f'.m), some (.ref kt), some (.int f'.fi)] ∧ ∃ M2 ba2, M2.day = M'.day + 1 ∧ M2.Ok f' ∧ toM f' M2 D = toM f' M D ∧ M2.pays = M.pays ∧ But m H G2 ∧ (ba2 = ba ∨ H ba2 = none) ∧ MdAt K G2 m fa M2 pa ba2, fun σ2 G2 h2 => ?_, ?_⟩
      · obtain ⟨rfl, M2, ba2, d2, ok2, ht2, hp2, t2, hb2, hM2⟩ := h2
        exact ⟨n - 1, by omega, rfl, M2, ba2, by omega, by omega, ok2, ht2, hp2, t2, hb2, hM2⟩
      refine ⟨_, rfl, m, _, rfl, dg_day hm', _, _, rfl, rfl, _, rfl, m, _, rfl, dp_day hm', ?_⟩
      have a1 := MdC.put (fa' := fa) (pa' := pa) (ba' := ba') (M' := { M' with day := M'.day + 1 }) (en' := en') hm' h5' h6'
      have mu' := md_mu hm'
      have f1 : Fr [m] G (upd G m (.dK (mdV fa { M' with day := M'.day + 1 } pa ba' en'))) := Fr.upd (List.mem_singleton_self m)
      have t1 := tG.trans (fr_but f1)
      have en1 := hen'.fr f1 mu'
      have kt1 := f1.tup mu' hkt
      generalize upd G m (.dK (mdV fa { M' with day := M'.day + 1 } pa ba' en')) = G1 at *
      have okn : M'.day + 1 ≤ M'.due + f'.g → M'.en = none → Md.Ok f' { M' with day := M'.day + 1 } := fun hle e => by
        have := to_ok (D := M'.day + 1) fo ok' (by omega)
        rw [to_stay e hle] at this
        exact this
      rcases en_or M' with e | ⟨w0, d0, e⟩
      · obtain ⟨k0, bb0, s0, m0, i0, i1, d0⟩ := ok'.st e
        rw [e] at en1
        have en1' : en' = .non := en1
        refine ⟨_, rfl, m, _, rfl, dg_end a1.1, rfl, _, rfl, ?_⟩
        rw [en1']
        refine iteT ⟨_, rfl, m, _, rfl, dg_day a1.1, _, rfl, m, _, rfl, dg_due a1.1, _, rfl, _, _, rfl, rfl, _, _, rfl, rfl, rfl, _, rfl, ite2 (fun y => ?_) (fun y => ?_)⟩
        · have y1 : M'.day + 1 = M'.due + f'.g + 1 := V.int.inj (of_decide_eq_true y)
          refine ⟨_, rfl, m, _, rfl, dg_missed a1.1, _, rfl, rfl, _, rfl, ite2 (fun x => ?_) (fun x => ?_)⟩
          · have x1 : M'.missed = f'.m := V.int.inj (of_decide_eq_true x)
            have hk : atI (f'.ks.map V.int) M'.many = some (.int (keepAt f' M'.many)) := by
              obtain ⟨j, hj⟩ := Int.eq_ofNat_of_zero_le ok'.many0
              have := keepAt_some fo ok'.many0 m0
              rw [hj] at this ⊢
              rw [Int.toNat_natCast] at this
              exact atI_nat (by rw [List.getElem?_map, this]; rfl)
            have kb := keptV_bnd fo (keepAt_bnd fo M'.many).1 (keepAt_bnd fo M'.many).2 true
            have ek : (if keepAt f' M'.many + f'.fi < 100 then keepAt f' M'.many + f'.fi else 100) = keptV f' (keepAt f' M'.many) true := rfl
            have l6 := ok'.len
            have l7 := ok'.many1
            have l8 := fo.figs.p1
            have l9 := ok'.blen
            refine ⟨_, rfl, _, rfl, m, _, rfl, dg_day a1.1, _, rfl, _, rfl, m, _, rfl, dg_many a1.1, kt, _, _, _, rfl, rfl, kt1, hk, _, rfl, _, _, rfl, rfl, _, _, rfl, ?_⟩
            rw [ek]
            refine ⟨m, fa, pa, ba', .go, M'.day + 1, _, { M' with day := M'.day + 1 }, _, rfl, a1, ok'.nn, by show M'.pays.length ≤ 300; omega, by show M'.backs.length ≤ 300; omega, kb.1, kb.2, fun H3 ba3 n3 t3 h3 => ?_⟩
            have et : toM f' M' (M'.day + 1) = endM .go (M'.day + 1) (wholeK { M' with day := M'.day + 1 } (keptV f' (keepAt f' M'.many) true)) { M' with day := M'.day + 1 } := by
              rw [to_gone e x1 (by omega), ← y1]
              rfl
            refine ⟨rfl, endM .go (M'.day + 1) (wholeK { M' with day := M'.day + 1 } (keptV f' (keepAt f' M'.many) true)) { M' with day := M'.day + 1 }, ba3, rfl, et ▸ to_ok fo ok' (by omega), ?_, hpay, t1.trans t3, .inr (but_none t1 (by rw [hm]; exact fun z => nomatch z) (by rw [a1.1]; exact fun z => nomatch z) n3), h3⟩
            rw [to_over (we := (.go, M'.day + 1)) rfl, ← ht, to_gone e x1 (by omega), ← y1]
            rfl
          · have x1 : M'.missed ≠ f'.m := fun y => x (decide_eq_true (by rw [y]))
            refine ⟨_, rfl, m, _, rfl, dg_missed a1.1, _, _, rfl, rfl, _, rfl, m, _, rfl, dg_due a1.1, _, rfl, _, _, rfl, rfl, (by show 2 ≤ sizeLine; decide), fun t2 nt2 => ?_⟩
            have s2 := same_new (o := .tup [.int (M'.missed + 1), .int (M'.due + f'.s)]) nt2
            have a2 := a1.same s2
            refine ⟨t2, _, rfl, SqT.of upd_same, rfl, _, _, rfl, _, rfl, m, _, rfl, dp_missed a2.1, _, _, rfl, ?_⟩
            have a3 := MdC.put (fa' := fa) (pa' := pa) (ba' := ba') (M' := { M' with day := M'.day + 1, missed := M'.missed + 1 }) (en' := en') a2.1 a2.2.1 a2.2.2
            refine ⟨_, rfl, m, _, rfl, dp_due a3.1, rfl, ?_⟩
            have a4 := MdC.put (fa' := fa) (pa' := pa) (ba' := ba') (M' := { M' with day := M'.day + 1, missed := M'.missed + 1, due := M'.due + f'.s }) (en' := en') a3.1 a3.2.1 a3.2.2
            have s1 := fo.figs.s0
            have okx : Md.Ok f' { M' with day := M'.day + 1, missed := M'.missed + 1, due := M'.due + f'.s } := by
              have bd := ok'.bd
              exact ⟨ok'.nn, ok'.pr0, ok'.pr1, ok'.b0, by show M'.begin_ ≤ M'.day + 1; omega, ok'.len, ok'.many0, ok'.many1, ok'.blen, ok'.whole, fun _ => ⟨k0, bb0, s0, m0, by show 0 ≤ M'.missed + 1; omega, by show M'.missed + 1 ≤ f'.m; omega, by show M'.day + 1 ≤ M'.due + f'.s + f'.g; omega⟩, fun w d z => absurd (e.symm.trans z) (fun z => nomatch z)⟩
            refine ⟨rfl, _, ba', rfl, okx, (to_miss fo e (by omega) (by omega)).trans ht, hpay, ((t1.trans (But.of s2)).trans But.upd).trans But.upd, hba, en', a4, ?_⟩
            show EnAt K _ en' M'.en
            rw [e, en1']
            rfl
        · have y1 : M'.day + 1 ≠ M'.due + f'.g + 1 := fun x => y (decide_eq_true (by rw [x]))
          refine ⟨rfl, _, ba', rfl, okn (by omega) e, toM_day.trans ht, hpay, t1, hba, en', a1, ?_⟩
          show EnAt K _ en' M'.en
          rw [e]
          exact en1
      · have en1' := en1
        rw [e] at en1'
        obtain ⟨tt, et, htt⟩ := en1'
        refine ⟨_, rfl, m, _, rfl, dg_end a1.1, rfl, _, rfl, ?_⟩
        rw [et]
        refine iteF ?_
        have okx : Md.Ok f' { M' with day := M'.day + 1 } := by
          have := to_ok (D := M'.day + 1) fo ok' (by omega)
          rw [to_over e] at this
          exact this
        exact ⟨rfl, _, ba', rfl, okx, toM_day.trans ht, hpay, t1, hba, en', a1, en1⟩
    · have z1 : ¬ M'.day < D := fun y => z (decide_eq_true y)
      have ed : M'.day = D := by omega
      refine q _ ba' hba tG ?_
      rw [← ht, ← ed, to_self ok']
      exact hM'
/-! ### _law_sold -/
abbrev s__law_sold : Stmt := topS 44
abbrev N__law_sold : List Str := ["_law_m", "_law_day_here", "_law_when", "_law_who", "_law_much"]
theorem sc__law_sold : FnScope N__law_sold ["_law_m", "_law_day_here"] (defScope s__law_sold) := ⟨rfl, rfl, rfl, by decide +kernel, rfl, by decide +kernel, by decide +kernel⟩
def sp__law_sold (K : PySem.W.Frag) : Sp := fun vs H Q _ => ∃ (m fa pa ba : Addr) (day : Int) (M : Md) (en : V), vs = [.ref m, .int day] ∧ MdC H m fa M pa ba en ∧ NN M.pays ∧ M.pays.length ≤ 300 ∧ M.backs.length ≤ 300 ∧ 0 ≤ M.price ∧ M.price ≤ sumP M.pays ∧ ∀ H' ba', H ba' = none → But m H H' → MdAt K H' m fa (endM .so day M.price M) pa ba' → Q .non H'
theorem ok__law_sold {f : Addr} {fd : FuncData} (F : Fun K "_law_sold" "_law_sold" s__law_sold f fd) (g : mg "_law_sold" = some (.ref f)) (bd : Binds K fd ["_law_m", "_law_day_here"] []) (m_sum : mg "sum" = none) (C__law_given : CF P w K mg base 1 "_law_given" ["_law_m", "_law_day_here", "_law_pence"] (sp__law_given K)) : CF P w K mg base 2 "_law_sold" ["_law_m", "_law_day_here"] (sp__law_sold K) := by
  refine ⟨f, fd, F.ok sc__law_sold (fun vs H Q E h => ?_) (fun cdv A outer s H vs Q E hr h => ?_), g, F.kp, bd⟩
  · first | (obtain ⟨_, rfl, _⟩ := h; rfl) | (obtain ⟨_, _, rfl, _⟩ := h; rfl) | (obtain ⟨_, _, _, rfl, _⟩ := h; rfl) | (obtain ⟨_, _, _, _, rfl, _⟩ := h; rfl) | (obtain ⟨_, _, _, _, _, rfl, _⟩ := h; rfl) | (obtain ⟨_, _, _, _, _, _, rfl, _⟩ := h; rfl) | (obtain ⟨_, _, _, _, _, _, _, rfl, _⟩ := h; rfl) | (obtain ⟨_, _, _, _, _, _, _, _, rfl, _⟩ := h; rfl) | (obtain ⟨_, _, _, _, _, _, _, _, _, rfl, _⟩ := h; rfl) | (obtain ⟨_, _, _, _, _, _, _, _, _, _, rfl, _⟩ := h; rfl) | (obtain ⟨_, _, _, _, _, _, _, _, _, _, _, rfl, _⟩ := h; rfl) | (obtain ⟨_, _, _, _, _, _, _, _, _, _, _, _, rfl, _⟩ := h; rfl) | (obtain ⟨_, _, _, _, _, _, _, _, _, _, _, _, _, rfl, _⟩ := h; rfl) | (obtain ⟨_, _, _, _, _, _, _, _, _, _, _, _, _, _, rfl, _⟩ := h; rfl) | (obtain ⟨_, _, _, _, _, _, _, _, _, _, _, _, _, _, _, rfl, _⟩ := h; rfl)
  · have hu64 := hr.units
    have hu1 := hu1_of hu64
    obtain ⟨m, fa, pa, ba, day, M, en, rfl, ⟨hm, h5, h6⟩, nn, l1, l2, x0, x1, q⟩ := h
    refine ⟨_, (pss_cons (ps_asg (pe_tup (pa_cons (pe_tup (pa_cons pe_str (pa_cons (pv 1) pa_nil))) (pa_cons (pe_dget hu1 (pv 0) pe_str (fun _ _ => rfl)) pa_nil))) (pg_tup (by rfl) (pgs_cons (pg_sub (pv 0) pe_str (set_dict hu1)) (pgs_cons (pg_sub (pv 0) pe_str (set_dict hu1)) pgs_nil))))
      (pss_one (ps_expr (pe_cf C__law_given (hr.mono (by decide)) (by rfl) (pa_cons (pv 0) (pa_cons (pv 1) (pa_cons (pe_op op_sub (pe_callB (kk_sum K rfl) (by rfl) m_sum (by decide +kernel) (pa_cons (pe_lc (own := [("_law_when", 2), ("_law_who", 3), ("_law_much", 4)]) (g := (gTup K 3 (gCons (gName 2) (gCons (gName 3) (gCons (gName 4) gNil))))) (tt := tYes) rfl sc__law_sold.nd (pi_list (pe_dget hu1 (pv 0) pe_str (fun _ _ => rfl))) (blkOk_by (own := [("_law_when", 2), ("_law_who", 3), ("_law_much", 4)]) (N := N__law_sold) (sc := defScope s__law_sold) (by decide +kernel)) (fun _ _ _ _ _ => (pg_tup (by rfl) (pgs_cons (pg_name (i := 2) sc__law_sold.nd rfl (.inl rfl)) (pgs_cons (pg_name (i := 3) sc__law_sold.nd rfl (.inl rfl)) (pgs_cons (pg_name (i := 4) sc__law_sold.nd rfl (.inl rfl)) pgs_nil))))) (fun _ _ _ _ _ => pts_nil) (fun _ _ _ _ _ => (pv 4))) pa_nil)) (pe_dget hu1 (pv 0) pe_str (fun _ _ => rfl))) pa_nil))))))), ?_⟩
    refine ⟨_, rfl, (by show 2 ≤ sizeLine; decide), fun t nt => ?_⟩
    have s2 := same_new (o := .tup [.str (wS .so), .int day]) nt
    refine ⟨_, rfl, m, _, rfl, dg_price (s2 _ _ hm), (by show 2 ≤ sizeLine; decide), fun t2 nt2 => ?_⟩
    have s3 := same_new (o := .tup [.ref t, .int M.price]) nt2
    have ht := s3 _ _ (upd_same (H := H) (a := t) (o := .tup [.str (wS .so), .int day]))
    have ht2 := upd_same (H := upd H t (.tup [.str (wS .so), .int day])) (a := t2) (o := .tup [.ref t, .int M.price])
    have sA := s2.trans s3
    refine ⟨t2, _, rfl, SqT.of ht2, rfl, _, _, rfl, ?_⟩
    have hm1 := sA _ _ hm
    refine ⟨_, rfl, m, _, rfl, dp_end hm1, _, _, rfl, ?_⟩
    have a1 := MdC.put (fa' := fa) (pa' := pa) (ba' := ba) (M' := M) (en' := .ref t) hm1 (h5.same sA) (h6.same sA)
    have t1 : But m H (upd _ m _) := (But.of sA).trans (But.upd (o := .dK (mdV fa M pa ba (.ref t))))
    have ht' := (Fr.upd (z := [m]) (o := .dK (mdV fa M pa ba (.ref t))) (List.mem_singleton_self m)) t _ ((md_mu hm1).neT ht) ht
    refine ⟨_, rfl, m, _, rfl, dp_kept a1.1, rfl, ?_⟩
    have a2 := MdC.put (fa' := fa) (pa' := pa) (ba' := ba) (M' := { M with kept := M.price }) (en' := .ref t) a1.1 a1.2.1 a1.2.2
    have t2' := t1.trans (But.upd (o := .dK (mdV fa { M with kept := M.price } pa ba (.ref t))))
    have ht'' := (Fr.upd (z := [m]) (o := .dK (mdV fa { M with kept := M.price } pa ba (.ref t))) (List.mem_singleton_self m)) t _ ((md_mu a1.1).neT ht') ht'
    obtain ⟨L, e1, e2, e3, e4⟩ := a2.2.1.len
    have e4' : L.length = M.pays.length := e4
    have e3' : L.map (·.2) = M.pays := e3
    generalize upd (upd (upd (upd H t (.tup [.str (wS .so), .int day])) t2 (.tup [.ref t, .int M.price])) m (.dK (mdV fa M pa ba (.ref t)))) m (.dK (mdV fa { M with kept := M.price } pa ba (.ref t))) = G0 at *
    refine ⟨_, rfl, _, rfl, _, rfl, m, _, rfl, dg_pays a2.1, pa, rfl, ⟨_, SqL.of e1⟩, fun D hD => rows_lc (fun _ => true) (fun q => V.int q.2.p) (jok_l (SqL.of e1)) e2 (by omega) hD (fun q hq G s hG Y N y n => ?_) (Tyes (J := Itl K pa) fun G s hG => ?_)⟩
    · exact ⟨q.1, _, rfl, SqT.of hG, rfl, _, _, rfl, _, _, rfl, _, _, rfl, rfl, rfl, iteT (B := N G) ⟨_, rfl, y rfl⟩⟩
    refine ⟨D, (L.map (·.2)).map (·.p), rfl, SqL.of (hG.trans (by rw [List.map_map, List.map_map, List.map_map]; rfl)), ?_⟩
    rw [e3', sumP_sum]
    refine ⟨_, rfl, m, _, rfl, dg_price (s _ _ a2.1), _, _, rfl, rfl, ?_⟩
    refine ⟨m, fa, pa, ba, day, sumP M.pays - M.price, { M with kept := M.price }, .ref t, rfl, a2.same s, nn, l1, l2, by omega, by show sumP M.pays - M.price ≤ sumP M.pays; omega, fun H3 ba3 n3 t3 h3 => ?_⟩
    have hx : H m ≠ none := by rw [hm]; exact fun z => nomatch z
    exact q H3 ba3 (but_none (t2'.trans (But.of s)) hx (by rw [s _ _ a2.1]; exact fun z => nomatch z) n3) ((t2'.trans (But.of s)).trans t3) ⟨.ref t, h3, t, rfl, SqT.of (t3 _ _ (fun e => (md_mu a2.1).neT ht'' (by rw [e]; exact List.mem_singleton_self m)) (s _ _ ht''))⟩
/-! ### _law_paid -/
abbrev s__law_paid : Stmt := topS 45
abbrev N__law_paid : List Str := ["_law_m", "_law_day_here", "_law_who", "_law_parts", "_law_step", "_law_left_here", "_law_when", "_law_one", "_law_much", "_law_pence"]
theorem sc__law_paid : FnScope N__law_paid ["_law_m", "_law_day_here", "_law_who"] (defScope s__law_paid) := ⟨rfl, rfl, rfl, by decide +kernel, rfl, by decide +kernel, by decide +kernel⟩
def sp__law_paid (K : PySem.W.Frag) : Sp := fun vs H Q _ => ∃ (m fa pa ba : Addr) (day : Int) (who : Str) (f : Fg) (M : Md), vs = [.ref m, .int day, .str who] ∧ MdAt K H m fa M pa ba ∧ FgAt K H fa f ∧ f.Ok ∧ M.Ok f ∧ M.en = none ∧ ∀ H' pa' ba', H pa' = none → (ba' = ba ∨ H ba' = none) → But m H H' → MdAt K H' m fa (paidM f M day who) pa' ba' → Q (.int (nextP f M)) H'
theorem ok__law_paid {f : Addr} {fd : FuncData} (F : Fun K "_law_paid" "_law_paid" s__law_paid f fd) (g : mg "_law_paid" = some (.ref f)) (bd : Binds K fd ["_law_m", "_law_day_here", "_law_who"] []) (m_sum : mg "sum" = none) (C__law_sold : CF P w K mg base 2 "_law_sold" ["_law_m", "_law_day_here"] (sp__law_sold K)) : CF P w K mg base 3 "_law_paid" ["_law_m", "_law_day_here", "_law_who"] (sp__law_paid K) := by
  refine ⟨f, fd, F.ok sc__law_paid (fun vs H Q E h => ?_) (fun cdv A outer s H vs Q E hr h => ?_), g, F.kp, bd⟩
  · first | (obtain ⟨_, rfl, _⟩ := h; rfl) | (obtain ⟨_, _, rfl, _⟩ := h; rfl) | (obtain ⟨_, _, _, rfl, _⟩ := h; rfl) | (obtain ⟨_, _, _, _, rfl, _⟩ := h; rfl) | (obtain ⟨_, _, _, _, _, rfl, _⟩ := h; rfl) | (obtain ⟨_, _, _, _, _, _, rfl, _⟩ := h; rfl) | (obtain ⟨_, _, _, _, _, _, _, rfl, _⟩ := h; rfl) | (obtain ⟨_, _, _, _, _, _, _, _, rfl, _⟩ := h; rfl) | (obtain ⟨_, _, _, _, _, _, _, _, _, rfl, _⟩ := h; rfl) | (obtain ⟨_, _, _, _, _, _, _, _, _, _, rfl, _⟩ := h; rfl) | (obtain ⟨_, _, _, _, _, _, _, _, _, _, _, rfl, _⟩ := h; rfl) | (obtain ⟨_, _, _, _, _, _, _, _, _, _, _, _, rfl, _⟩ := h; rfl) | (obtain ⟨_, _, _, _, _, _, _, _, _, _, _, _, _, rfl, _⟩ := h; rfl) | (obtain ⟨_, _, _, _, _, _, _, _, _, _, _, _, _, _, rfl, _⟩ := h; rfl) | (obtain ⟨_, _, _, _, _, _, _, _, _, _, _, _, _, _, _, rfl, _⟩ := h; rfl)
  · have hu64 := hr.units
    have hu1 := hu1_of hu64
    obtain ⟨m, fa, pa, ba, day, who, f', M, rfl, hM, hF, fo, ok, e, q⟩ := h
    refine ⟨_, (pss_cons (ps_asg (pe_slice (kk_slt K) (pe_dget hu1 (pv 0) pe_str (fun _ _ => rfl)) po_none (po_some pe_int)) (pg_tup (by rfl) (pgs_cons (pg_name (i := 3) sc__law_paid.nd rfl (.inl rfl)) (pgs_cons (pg_name (i := 4) sc__law_paid.nd rfl (.inl rfl)) pgs_nil))))
      (pss_cons (ps_set (i := 5) sc__law_paid.nd rfl (.inl rfl) (pe_op op_sub (pe_dget hu1 (pv 0) pe_str (fun _ _ => rfl)) (pe_callB (kk_sum K rfl) (by rfl) m_sum (by decide +kernel) (pa_cons (pe_lc (own := [("_law_when", 6), ("_law_one", 7), ("_law_much", 8)]) (g := (gTup K 3 (gCons (gName 6) (gCons (gName 7) (gCons (gName 8) gNil))))) (tt := tYes) rfl sc__law_paid.nd (pi_list (pe_dget hu1 (pv 0) pe_str (fun _ _ => rfl))) (blkOk_by (own := [("_law_when", 6), ("_law_one", 7), ("_law_much", 8)]) (N := N__law_paid) (sc := defScope s__law_paid) (by decide +kernel)) (fun _ _ _ _ _ => (pg_tup (by rfl) (pgs_cons (pg_name (i := 6) sc__law_paid.nd rfl (.inl rfl)) (pgs_cons (pg_name (i := 7) sc__law_paid.nd rfl (.inl rfl)) (pgs_cons (pg_name (i := 8) sc__law_paid.nd rfl (.inl rfl)) pgs_nil))))) (fun _ _ _ _ _ => pts_nil) (fun _ _ _ _ _ => (pv 8))) pa_nil))))
      (pss_cons (ps_set (i := 9) sc__law_paid.nd rfl (.inl rfl) (pe_un un_neg (pe_op op_fdiv (pe_un un_neg (pv 5)) (pe_op op_sub (pv 3) (pe_dget hu1 (pv 0) pe_str (fun _ _ => rfl))))))
      (pss_cons (ps_asg (pe_op op_cat (pe_dget hu1 (pv 0) pe_str (fun _ _ => rfl)) (pe_lst (pa_cons (pe_tup (pa_cons (pv 1) (pa_cons (pv 2) (pa_cons (pv 9) pa_nil)))) pa_nil))) (pg_sub (pv 0) pe_str (set_dict hu1)))
      (pss_cons (ps_asg (pe_tup (pa_cons (pe_op op_add (pe_dget hu1 (pv 0) pe_str (fun _ _ => rfl)) pe_int) (pa_cons (pe_op op_add (pe_ifExp (pt_val (pe_ix (kk_ixt K) (pe_dget hu1 (pv 0) pe_str (fun _ _ => rfl)) pe_int (fun _ _ => rfl))) (pv 1) (pe_dget hu1 (pv 0) pe_str (fun _ _ => rfl))) (pv 4)) pa_nil))) (pg_tup (by rfl) (pgs_cons (pg_sub (pv 0) pe_str (set_dict hu1)) (pgs_cons (pg_sub (pv 0) pe_str (set_dict hu1)) pgs_nil))))
      (pss_cons (ps_if (pt_cmpR op_eq (pe_dget hu1 (pv 0) pe_str (fun _ _ => rfl)) (pv 3) (nomark _))
         (pss_one (ps_expr (pe_cf C__law_sold (hr.mono (by decide)) (by rfl) (pa_cons (pv 0) (pa_cons (pv 1) pa_nil)))))
         pss_nil)
      (pss_one (ps_ret (pv 9))))))))), ?_⟩
    obtain ⟨en, ⟨hm, h5, h6⟩, hen⟩ := id hM
    obtain ⟨kt, hf1, hf2⟩ := id hF
    rw [e] at hen
    have hen' : en = .non := hen
    obtain ⟨k0, bb0, s0, m0, i0, i1, d0⟩ := ok.st e
    have nb := next_bnd (f := f') (M := M) s0 m0
    have l6 := ok.len
    have l7 := ok.many1
    have l8 := fo.figs.p1
    have l9 := ok.blen
    refine ⟨_, rfl, m, _, rfl, dg_figures hm, _, rfl, fa, _, rfl, hf1, (by show ¬ (HT.sIx 9 0 none = 0 ∧ HT.sIx 9 9 (some 2) = 9); decide), fun u nu => ?_⟩
    have su := same_new (o := .tup (cutV [V.int f'.p, .int f'.s, .int f'.g, .bl f'.l, .int f'.m, .ref kt, .int f'.fi, .int f'.fa, .int f'.ba] none (some 2))) nu
    refine ⟨u, _, rfl, SqT.of upd_same, rfl, _, _, rfl, _, _, rfl, rfl, ?_⟩
    have hm1 := su _ _ hm
    obtain ⟨L, e1, e2, e3, e4⟩ := (h5.same su).len
    generalize upd H u (.tup (cutV [V.int f'.p, .int f'.s, .int f'.g, .bl f'.l, .int f'.m, .ref kt, .int f'.fi, .int f'.fa, .int f'.ba] none (some 2))) = G0 at *
    refine ⟨_, rfl, m, _, rfl, dg_price hm1, _, rfl, m, _, rfl, dg_pays hm1, pa, rfl, ⟨_, SqL.of e1⟩, fun D hD => rows_lc (fun _ => true) (fun q => V.int q.2.p) (jok_l (SqL.of e1)) e2 (by omega) hD (fun q hq G s hG Y N y n => ?_) (Tyes (J := Itl K pa) fun G s hG => ?_)⟩
    · exact ⟨q.1, _, rfl, SqT.of hG, rfl, _, _, rfl, _, _, rfl, _, _, rfl, rfl, rfl, iteT (B := N G) ⟨_, rfl, y rfl⟩⟩
    refine ⟨D, (L.map (·.2)).map (·.p), rfl, SqL.of (hG.trans (by rw [List.map_map, List.map_map, List.map_map]; rfl)), ?_⟩
    rw [e3, sumP_sum]
    have sA := su.trans s
    have hm2 := sA _ _ hm
    refine ⟨_, _, rfl, rfl, ?_⟩
    refine ⟨_, rfl, _, rfl, _, rfl, _, rfl, m, _, rfl, dg_many hm2, _, _, rfl, rfl, _, _, rfl, rfl, ⟨by omega, by omega⟩, _, rfl, ?_⟩
    dsimp only
    rw [show -(-(M.price - sumP M.pays) / (f'.p - M.many)) = nextP f' M from rfl]
    refine ⟨_, rfl, m, _, rfl, dg_pays hm2, _, rfl, _, rfl, _, rfl, (by show 3 ≤ sizeLine; decide), fun t nt => ⟨(by show 1 ≤ sizeLine; decide), fun l nl => ?_⟩⟩
    have s3 := (same_new (o := .tup [.int day, .str who, .int (nextP f' M)]) nt).trans (same_new (o := .lst [.ref t]) nl)
    have hl := upd_same (H := upd G t (.tup [.int day, .str who, .int (nextP f' M)])) (a := l) (o := .lst [.ref t])
    have ht := same_new (o := .lst [.ref t]) nl _ _ (upd_same (H := G) (a := t) (o := .tup [.int day, .str who, .int (nextP f' M)]))
    refine ⟨pa, l, _, _, rfl, rfl, s3 _ _ (s _ _ e1), hl, ?_, fun pa2 npa2 => ?_⟩
    · rw [List.length_map]
      exact size_small (show L.length + 1 ≤ 1000 by omega)
    have s4 := same_new (o := .lst (refs L ++ [.ref t])) npa2
    have sB := (sA.trans s3).trans s4
    have hm3 := sB _ _ hm
    have hpa2 : RowsL _ pa2 (M.pays ++ [⟨day, who, nextP f' M⟩]) := ⟨L ++ [(t, (⟨day, who, nextP f' M⟩ : Pr))], by rw [refs_snoc]; exact upd_same (H := upd (upd G t (.tup [.int day, .str who, .int (nextP f' M)])) l (.lst [.ref t])) (a := pa2) (o := .lst (refs L ++ [.ref t])), ((e2.same ((s.trans s3).trans s4))).snoc (q := (t, (⟨day, who, nextP f' M⟩ : Pr))) (s4 _ _ ht), by rw [List.map_append, e3]; rfl⟩
    have npa0 : H pa2 = none := none_of (sA.trans s3) npa2
    generalize upd (upd (upd G t (.tup [.int day, .str who, .int (nextP f' M)])) l (.lst [.ref t])) pa2 (.lst (refs L ++ [.ref t])) = G3 at *
    refine ⟨_, rfl, m, _, rfl, dp_pays hm3, ?_⟩
    have a1 := MdC.put (fa' := fa) (pa' := pa2) (ba' := ba) (M' := { M with pays := M.pays ++ [⟨day, who, nextP f' M⟩] }) (en' := en) hm3 hpa2 (h6.same sB)
    have f1 : Fr [m] G3 (upd G3 m (.dK (mdV fa M pa2 ba en))) := Fr.upd (List.mem_singleton_self m)
    have t1 : But m H (upd G3 m (.dK (mdV fa M pa2 ba en))) := (But.of sB).trans (fr_but f1)
    have fg1 : SqT K (upd G3 m (.dK (mdV fa M pa2 ba en))) fa [.int f'.p, .int f'.s, .int f'.g, .bl f'.l, .int f'.m, .ref kt, .int f'.fi, .int f'.fa, .int f'.ba] := f1.tup (md_mu hm3) (seqT_same sB hf1)
    have a1m : (upd G3 m (.dK (mdV fa M pa2 ba en))) m = some (.dK (mdV fa { M with pays := M.pays ++ [⟨day, who, nextP f' M⟩] } pa2 ba en)) := a1.1
    have a1b : RowsL (upd G3 m (.dK (mdV fa M pa2 ba en))) pa2 (M.pays ++ [⟨day, who, nextP f' M⟩]) := a1.2.1
    have a1c : RowsL (upd G3 m (.dK (mdV fa M pa2 ba en))) ba M.backs := a1.2.2
    clear a1
    generalize upd G3 m (.dK (mdV fa M pa2 ba en)) = G4 at *
    refine ⟨_, rfl, m, _, rfl, dg_many a1m, _, _, rfl, rfl, _, rfl, m, _, rfl, dg_figures a1m, fa, _, _, _, rfl, rfl, fg1, rfl, _, rfl, ?_⟩
    have go : ∀ dd : Int, dd = (if f'.l = true then day else M.due) + f'.s → ∀ t2, G4 t2 = none → But m H (upd (upd (upd G4 t2 (.tup [.int (M.many + 1), .int dd])) m (.dK (mdV fa { M with pays := M.pays ++ [⟨day, who, nextP f' M⟩], many := M.many + 1 } pa2 ba en))) m (.dK (mdV fa { M with pays := M.pays ++ [⟨day, who, nextP f' M⟩], many := M.many + 1, due := dd } pa2 ba en))) ∧ MdC (upd (upd (upd G4 t2 (.tup [.int (M.many + 1), .int dd])) m (.dK (mdV fa { M with pays := M.pays ++ [⟨day, who, nextP f' M⟩], many := M.many + 1 } pa2 ba en))) m (.dK (mdV fa { M with pays := M.pays ++ [⟨day, who, nextP f' M⟩], many := M.many + 1, due := dd } pa2 ba en))) m fa { M with pays := M.pays ++ [⟨day, who, nextP f' M⟩], many := M.many + 1, due := dd } pa2 ba en := fun dd hdd t2 nt2 => by
      have s5 := same_new (o := .tup [.int (M.many + 1), .int dd]) nt2
      have b1 := MdC.put (fa' := fa) (pa' := pa2) (ba' := ba) (M' := { M with pays := M.pays ++ [⟨day, who, nextP f' M⟩], many := M.many + 1 }) (en' := en) (s5 _ _ a1m) (a1b.same s5) (a1c.same s5)
      have b2 := MdC.put (fa' := fa) (pa' := pa2) (ba' := ba) (M' := { M with pays := M.pays ++ [⟨day, who, nextP f' M⟩], many := M.many + 1, due := dd }) (en' := en) b1.1 b1.2.1 b1.2.2
      exact ⟨((t1.trans (But.of s5)).trans But.upd).trans But.upd, b2⟩
    have fin : ∀ (dd : Int) (G5 : Hp), dd = (if f'.l = true then day else M.due) + f'.s → But m H G5 → MdC G5 m fa { M with pays := M.pays ++ [⟨day, who, nextP f' M⟩], many := M.many + 1, due := dd } pa2 ba en → (M.many + 1 = f'.p → ∀ (R : Hp → Prop), (∀ H', Q (.int (nextP f' M)) H' → R H') → sp__law_sold K [.ref m, .int day] G5 (fun _ H' => R H') E0) ∧ (M.many + 1 ≠ f'.p → Q (.int (nextP f' M)) G5) := fun dd G5 hdd t5 b2 => by
      have sm : sumP (M.pays ++ [⟨day, who, nextP f' M⟩]) = sumP M.pays + nextP f' M := by
        rw [sumP_app]
        show _ + (nextP f' M + 0) = _
        omega
      refine ⟨fun hp R hR => ?_, fun hp => ?_⟩
      · have e2 := nb.2.2 hp
        have pr0 := ok.pr0
        have lP : (M.pays ++ ([⟨day, who, nextP f' M⟩] : List Pr)).length ≤ 300 := by
          rw [List.length_append, List.length_singleton]
          omega
        refine ⟨m, fa, pa2, ba, day, _, en, rfl, b2, ok.nn.snoc nb.1, lP, by show M.backs.length ≤ 300; omega, by show 0 ≤ M.price; omega, by show M.price ≤ sumP (M.pays ++ [⟨day, who, nextP f' M⟩]); rw [sm]; omega, fun H6 ba6 n6 t6 h6' => hR _ ?_⟩
        refine q H6 pa2 ba6 npa0 (.inr (but_none t5 (by rw [hm]; exact fun z => nomatch z) (by rw [b2.1]; exact fun z => nomatch z) n6)) (t5.trans t6) ?_
        unfold paidM
        dsimp only
        rw [if_pos hp, ← hdd]
        exact h6'
      · refine q G5 pa2 ba npa0 (.inl rfl) t5 ?_
        unfold paidM
        dsimp only
        rw [if_neg hp, ← hdd]
        refine ⟨en, b2, ?_⟩
        show EnAt K G5 en M.en
        rw [e, hen']
        rfl
    cases hl2 : f'.l with
    | true =>
      refine iteT ⟨_, rfl, _, rfl, _, _, rfl, rfl, (by show 2 ≤ sizeLine; decide), fun t2 nt2 => ?_⟩
      obtain ⟨t5, b2⟩ := go (day + f'.s) (by rw [hl2]; rfl) t2 nt2
      obtain ⟨f1', f2'⟩ := fin (day + f'.s) _ (by rw [hl2]; rfl) t5 b2
      have s5 := same_new (o := .tup [.int (M.many + 1), .int (day + f'.s)]) nt2
      refine ⟨t2, _, rfl, SqT.of upd_same, rfl, _, _, rfl, _, rfl, m, _, rfl, dp_many (s5 _ _ a1m), _, _, rfl, _, rfl, m, _, rfl, dp_due upd_same, rfl, ?_⟩
      generalize upd (upd (upd G4 t2 (.tup [.int (M.many + 1), .int (day + f'.s)])) m (.dK (mdV fa { M with pays := M.pays ++ [⟨day, who, nextP f' M⟩], many := M.many + 1 } pa2 ba en))) m (.dK (mdV fa { M with pays := M.pays ++ [⟨day, who, nextP f' M⟩], many := M.many + 1, due := day + f'.s } pa2 ba en)) = G5 at *
      refine ⟨_, rfl, m, _, rfl, dg_many b2.1, _, rfl, rfl, _, rfl, ite2 (fun z => ?_) (fun z => ?_)⟩
      · exact ⟨_, rfl, _, rfl, f1' (V.int.inj (of_decide_eq_true z)) _ fun H' hq => ⟨_, rfl, hq⟩⟩
      · exact ⟨_, rfl, f2' fun y => z (decide_eq_true (by show V.int (M.many + 1) = _; rw [y]))⟩
    | false =>
      refine iteF ⟨_, rfl, m, _, rfl, dg_due a1m, _, rfl, _, _, rfl, rfl, (by show 2 ≤ sizeLine; decide), fun t2 nt2 => ?_⟩
      obtain ⟨t5, b2⟩ := go (M.due + f'.s) (by rw [hl2]; rfl) t2 nt2
      obtain ⟨f1', f2'⟩ := fin (M.due + f'.s) _ (by rw [hl2]; rfl) t5 b2
      have s5 := same_new (o := .tup [.int (M.many + 1), .int (M.due + f'.s)]) nt2
      refine ⟨t2, _, rfl, SqT.of upd_same, rfl, _, _, rfl, _, rfl, m, _, rfl, dp_many (s5 _ _ a1m), _, _, rfl, _, rfl, m, _, rfl, dp_due upd_same, rfl, ?_⟩
      generalize upd (upd (upd G4 t2 (.tup [.int (M.many + 1), .int (M.due + f'.s)])) m (.dK (mdV fa { M with pays := M.pays ++ [⟨day, who, nextP f' M⟩], many := M.many + 1 } pa2 ba en))) m (.dK (mdV fa { M with pays := M.pays ++ [⟨day, who, nextP f' M⟩], many := M.many + 1, due := M.due + f'.s } pa2 ba en)) = G5 at *
      refine ⟨_, rfl, m, _, rfl, dg_many b2.1, _, rfl, rfl, _, rfl, ite2 (fun z => ?_) (fun z => ?_)⟩
      · exact ⟨_, rfl, _, rfl, f1' (V.int.inj (of_decide_eq_true z)) _ fun H' hq => ⟨_, rfl, hq⟩⟩
      · exact ⟨_, rfl, f2' fun y => z (decide_eq_true (by show V.int (M.many + 1) = _; rw [y]))⟩
inductive Deed where
  | pay (d : Int) (who : Str)
  | up (d : Int)
  | fall (d price : Int)
  | pass (d : Int)
def Deed.day : Deed → Int
  | .pay d _ => d
  | .up d => d
  | .fall d _ => d
  | .pass d => d
/-- the values of a deed's tuple -/
def DeedV : Deed → List V → Prop
  | .pay d who, vs => vs = [.str (Str.ofString "pay"), .int d, .str who]
  | .up d, vs => ∃ r, vs = .str (Str.ofString "up") :: .int d :: r ∧ r.length ≤ 1
  | .fall d price, vs => vs = [.str (Str.ofString "fall"), .int d, .int price] ∧ 1 ≤ price
  | .pass d, vs => ∃ r, vs = .str (Str.ofString "pass") :: .int d :: r ∧ r.length ≤ 1
/-- what a deed comes to, and what it tells -/
def didM (f : Fg) (M : Md) (D : Deed) : Md × V := if D.day < M.day then (M, .str (Str.ofString "day")) else match D with
  | .pay d who => if (toM f M d).en = none then (paidM f (toM f M d) d who, .int (nextP f (toM f M d))) else (M, .str (Str.ofString "idle"))
  | .up d => if (toM f M d).en = none then (upM f (toM f M d) d, .non) else (M, .str (Str.ofString "idle"))
  | .fall d price => (fallM f (toM f M d) d price, .non)
  | .pass d => (toM f M d, .non)
theorem toM_dayE {f : Fg} {M : Md} {D : Int} : (toM f M D).day = D := by
  unfold toM
  split
  · rfl
  · split <;> rfl
theorem did_ok {f : Fg} {M : Md} {D : Deed} (fo : f.Ok) (ok : M.Ok f) (hv : ∃ vs, DeedV D vs) : (didM f M D).1.Ok f := by
  obtain ⟨vs, hv⟩ := hv
  unfold didM
  split
  · exact ok
  · rename_i h
    cases D with
    | pay d who =>
      have h' : ¬ d < M.day := h
      dsimp only
      split
      · rename_i e
        exact paid_ok fo (to_ok fo ok (by omega)) e toM_dayE
      · exact ok
    | up d =>
      have h' : ¬ d < M.day := h
      dsimp only
      split
      · rename_i e
        exact up_ok fo (to_ok fo ok (by omega)) e
      · exact ok
    | fall d price =>
      have h' : ¬ d < M.day := h
      exact fall_ok fo (to_ok fo ok (by omega)) hv.2
    | pass d =>
      have h' : ¬ d < M.day := h
      exact to_ok fo ok (by omega)
/-! ### _law_did -/
abbrev s__law_did : Stmt := topS 46
abbrev N__law_did : List Str := ["_law_m", "_law_deed_here", "_law_word", "_law_day_here", "_law_after", "_law_when", "_law_who", "_law_much"]
theorem sc__law_did : FnScope N__law_did ["_law_m", "_law_deed_here"] (defScope s__law_did) := ⟨rfl, rfl, rfl, by decide +kernel, rfl, by decide +kernel, by decide +kernel⟩
def dW : Deed → Str
  | .pay _ _ => Str.ofString "pay"
  | .up _ => Str.ofString "up"
  | .fall _ _ => Str.ofString "fall"
  | .pass _ => Str.ofString "pass"
theorem deed_head {D : Deed} {dv : List V} (h : DeedV D dv) : ∃ r, dv = .str (dW D) :: .int D.day :: r ∧ r.length ≤ 1 := by
  cases D with
  | pay d who => exact ⟨_, h, Nat.le_refl 1⟩
  | up d => exact h
  | fall d price => exact ⟨_, h.1, Nat.le_refl 1⟩
  | pass d => exact h
theorem cut2 {K : PySem.W.Frag} {H : Hp} {t : Addr} {a b : V} {r : List V} {Q : VK} (hT : SqT K H t (a :: b :: r)) (hr : r.length ≤ 1) (q : ∀ H' u, Same H H' → SqT K H' u [a, b] → Q (.ref u) H') : rSlA K (.ref t) none (some 2) H Q := by
  cases r with
  | nil => exact ⟨t, _, rfl, hT, fun _ => q H t (Same.refl H) hT, fun h => absurd (show HT.sIx 2 0 none = 0 ∧ HT.sIx 2 2 (some 2) = 2 by decide) h⟩
  | cons c r2 =>
    cases r2 with
    | nil => exact ⟨t, _, rfl, hT, fun h => absurd h (show ¬ (HT.sIx 3 0 none = 0 ∧ HT.sIx 3 3 (some 2) = 3) by decide), fun _ p np => q _ p (same_new np) (SqT.of upd_same)⟩
    | cons c2 r3 =>
      rw [List.length_cons, List.length_cons] at hr
      omega
theorem en_non {K : PySem.W.Frag} {H : Hp} {en : V} {M : Md} (h : EnAt K H en M.en) : decide (en = V.non) = decide (M.en = none) := by
  rcases en_or M with e | ⟨w, d, e⟩
  · rw [e] at h
    have h' : en = .non := h
    rw [decide_eq_true h', decide_eq_true e]
  · rw [e] at h
    obtain ⟨t, h', _⟩ := h
    rw [h', decide_eq_false (fun z => nomatch z), decide_eq_false (by rw [e]; exact fun z => nomatch z)]
def sp__law_did (K : PySem.W.Frag) : Sp := fun vs H Q _ => ∃ (m fa pa ba t : Addr) (D : Deed) (dv : List V) (f : Fg) (M : Md), vs = [.ref m, .ref t] ∧ SqT K H t dv ∧ DeedV D dv ∧ MdAt K H m fa M pa ba ∧ FgAt K H fa f ∧ f.Ok ∧ M.Ok f ∧ ∀ H' pa' ba', (pa' = pa ∨ H pa' = none) → (ba' = ba ∨ H ba' = none) → But m H H' → MdAt K H' m fa (didM f M D).1 pa' ba' → Q (didM f M D).2 H'
theorem ok__law_did {f : Addr} {fd : FuncData} (F : Fun K "_law_did" "_law_did" s__law_did f fd) (g : mg "_law_did" = some (.ref f)) (bd : Binds K fd ["_law_m", "_law_deed_here"] []) (m_dict : mg "dict" = none) (m_sum : mg "sum" = none) (C__law_to : CF P w K mg base 3 "_law_to" ["_law_m", "_law_day_here"] (sp__law_to K)) (C__law_paid : CF P w K mg base 3 "_law_paid" ["_law_m", "_law_day_here", "_law_who"] (sp__law_paid K)) (C__law_ended : CF P w K mg base 2 "_law_ended" ["_law_m", "_law_word", "_law_day_here", "_law_percent"] (sp__law_ended K)) (C__law_sold : CF P w K mg base 2 "_law_sold" ["_law_m", "_law_day_here"] (sp__law_sold K)) : CF P w K mg base 4 "_law_did" ["_law_m", "_law_deed_here"] (sp__law_did K) := by
  refine ⟨f, fd, F.ok sc__law_did (fun vs H Q E h => ?_) (fun cdv A outer s H vs Q E hr h => ?_), g, F.kp, bd⟩
  · first | (obtain ⟨_, rfl, _⟩ := h; rfl) | (obtain ⟨_, _, rfl, _⟩ := h; rfl) | (obtain ⟨_, _, _, rfl, _⟩ := h; rfl) | (obtain ⟨_, _, _, _, rfl, _⟩ := h; rfl) | (obtain ⟨_, _, _, _, _, rfl, _⟩ := h; rfl) | (obtain ⟨_, _, _, _, _, _, rfl, _⟩ := h; rfl) | (obtain ⟨_, _, _, _, _, _, _, rfl, _⟩ := h; rfl) | (obtain ⟨_, _, _, _, _, _, _, _, rfl, _⟩ := h; rfl) | (obtain ⟨_, _, _, _, _, _, _, _, _, rfl, _⟩ := h; rfl) | (obtain ⟨_, _, _, _, _, _, _, _, _, _, rfl, _⟩ := h; rfl) | (obtain ⟨_, _, _, _, _, _, _, _, _, _, _, rfl, _⟩ := h; rfl) | (obtain ⟨_, _, _, _, _, _, _, _, _, _, _, _, rfl, _⟩ := h; rfl) | (obtain ⟨_, _, _, _, _, _, _, _, _, _, _, _, _, rfl, _⟩ := h; rfl) | (obtain ⟨_, _, _, _, _, _, _, _, _, _, _, _, _, _, rfl, _⟩ := h; rfl) | (obtain ⟨_, _, _, _, _, _, _, _, _, _, _, _, _, _, _, rfl, _⟩ := h; rfl)
  · have hu64 := hr.units
    have hu1 := hu1_of hu64
    obtain ⟨m, fa, pa, ba, t, D, dv, f', M, rfl, hT, hV, hM, hF, fo, ok, q⟩ := h
    refine ⟨_, (pss_cons (ps_asg (pe_slice (kk_sla K) (pv 1) po_none (po_some pe_int)) (pg_tup (by rfl) (pgs_cons (pg_name (i := 2) sc__law_did.nd rfl (.inl rfl)) (pgs_cons (pg_name (i := 3) sc__law_did.nd rfl (.inl rfl)) pgs_nil))))
      (pss_cons (ps_if (pt_cmpR op_lt (pv 3) (pe_dget hu1 (pv 0) pe_str (fun _ _ => rfl)) (nomark _))
         (pss_one (ps_ret pe_str))
         pss_nil)
      (pss_cons (ps_set (i := 4) sc__law_did.nd rfl (.inl rfl) (pe_callTy call_dictD (by rfl) m_dict (by decide +kernel) (pa_cons (pv 0) pa_nil)))
      (pss_cons (ps_expr (pe_cf C__law_to (hr.mono (by decide)) (by rfl) (pa_cons (pv 4) (pa_cons (pv 3) pa_nil))))
      (pss_cons (ps_if (PW.pt (pw_and (pt_cmpR (kk_in K) (pv 2) (pe_tup (pa_cons pe_str (pa_cons pe_str pa_nil))) (by rfl)) (pw_and1 (pt_cmpR op_notN (pe_dget hu1 (pv 4) pe_str (fun _ _ => rfl)) pe_non (nomark _)))))
         (pss_one (ps_ret pe_str))
         pss_nil)
      (pss_cons (ps_expr (pe_bm PySem.F.plainAttrs_dict PySem.F.slot_dict_update PySem.F.type_dict_update mt_update (pv 0) (pa_cons (pv 4) pa_nil)))
      (pss_cons (ps_if (pt_cmpR op_eq (pv 2) pe_str (nomark _))
         (pss_one (ps_ret (pe_cf C__law_paid (hr.mono (by decide)) (by rfl) (pa_cons (pv 0) (pa_cons (pv 3) (pa_cons (pe_ix (kk_ixt K) (pv 1) pe_int (fun _ _ => rfl)) pa_nil))))))
         pss_nil)
      (pss_cons (ps_if (pt_cmpR op_eq (pv 2) pe_str (nomark _))
         (pss_one (ps_expr (pe_cf C__law_ended (hr.mono (by decide)) (by rfl) (pa_cons (pv 0) (pa_cons pe_str (pa_cons (pv 3) (pa_cons (pe_ix (kk_ixt K) (pe_ix (kk_ixt K) (pe_dget hu1 (pv 0) pe_str (fun _ _ => rfl)) pe_int (fun _ _ => rfl)) (pe_dget hu1 (pv 0) pe_str (fun _ _ => rfl)) (fun _ _ => rfl)) pa_nil)))))))
         pss_nil)
      (pss_cons (ps_if (PW.pt (pw_and (pt_cmpR op_eq (pv 2) pe_str (nomark _)) (pw_and (pt_cmpR op_isN (pe_dget hu1 (pv 0) pe_str (fun _ _ => rfl)) pe_non (nomark _)) (pw_and (pt_cmpR op_le (pe_op op_sub (pv 3) (pe_dget hu1 (pv 0) pe_str (fun _ _ => rfl))) (pe_ix (kk_ixt K) (pe_dget hu1 (pv 0) pe_str (fun _ _ => rfl)) pe_int (fun _ _ => rfl)) (nomark _)) (pw_and1 (pt_cmpR op_lt (pe_ix (kk_ixt K) (pv 1) pe_int (fun _ _ => rfl)) (pe_dget hu1 (pv 0) pe_str (fun _ _ => rfl)) (nomark _)))))))
         (pss_cons (ps_asg (pe_ix (kk_ixt K) (pv 1) pe_int (fun _ _ => rfl)) (pg_sub (pv 0) pe_str (set_dict hu1)))
          (pss_one (ps_if (pt_cmpR op_ge (pe_callB (kk_sum K rfl) (by rfl) m_sum (by decide +kernel) (pa_cons (pe_lc (own := [("_law_when", 5), ("_law_who", 6), ("_law_much", 7)]) (g := (gTup K 3 (gCons (gName 5) (gCons (gName 6) (gCons (gName 7) gNil))))) (tt := tYes) rfl sc__law_did.nd (pi_list (pe_dget hu1 (pv 0) pe_str (fun _ _ => rfl))) (blkOk_by (own := [("_law_when", 5), ("_law_who", 6), ("_law_much", 7)]) (N := N__law_did) (sc := defScope s__law_did) (by decide +kernel)) (fun _ _ _ _ _ => (pg_tup (by rfl) (pgs_cons (pg_name (i := 5) sc__law_did.nd rfl (.inl rfl)) (pgs_cons (pg_name (i := 6) sc__law_did.nd rfl (.inl rfl)) (pgs_cons (pg_name (i := 7) sc__law_did.nd rfl (.inl rfl)) pgs_nil))))) (fun _ _ _ _ _ => pts_nil) (fun _ _ _ _ _ => (pv 7))) pa_nil)) (pe_ix (kk_ixt K) (pv 1) pe_int (fun _ _ => rfl)) (nomark _))
             (pss_one (ps_expr (pe_cf C__law_sold (hr.mono (by decide)) (by rfl) (pa_cons (pv 0) (pa_cons (pv 3) pa_nil)))))
             pss_nil)))
         pss_nil)
      (pss_one (ps_ret pe_non))))))))))), ?_⟩
    obtain ⟨en, ⟨hm, h5, h6⟩, hen⟩ := id hM
    obtain ⟨r, rfl, hr'⟩ := deed_head hV
    refine ⟨_, rfl, _, rfl, cut2 hT hr' fun H1 u s1 hu => ?_⟩
    refine ⟨u, _, rfl, hu, rfl, _, _, rfl, _, _, rfl, rfl, ?_⟩
    refine ⟨_, rfl, _, rfl, m, _, rfl, dg_day (s1 _ _ hm), _, _, rfl, rfl, _, rfl, ite2 (fun z => ?_) (fun z => ?_)⟩
    · have z1 := of_decide_eq_true z
      have e : didM f' M D = (M, .str (Str.ofString "day")) := by
        unfold didM
        rw [if_pos z1]
      rw [e] at q
      exact q H1 pa ba (.inl rfl) (.inl rfl) (But.of s1) (hM.same s1)
    have z1 : ¬ D.day < M.day := fun y => z (decide_eq_true y)
    refine ⟨_, rfl, m, _, rfl, s1 _ _ hm, fun a na => ?_⟩
    have s2 := same_new (o := .dK (mdV fa M pa ba en)) na
    have s12 := s1.trans s2
    have na0 : H a = none := none_of s1 na
    have hMa : MdAt K (upd H1 a (.dK (mdV fa M pa ba en))) a fa M pa ba := ⟨en, ⟨upd_same, h5.same s12, h6.same s12⟩, hen.same s12⟩
    refine ⟨_, rfl, _, rfl, a, fa, pa, ba, D.day, f', M, rfl, hMa, hF.same s12, fo, ok, by omega, fun H3 ba3 hb3 t3 hA => ?_⟩
    have s3 : Same H H3 := same_but s12 na0 (by exact t3) |>.trans (Same.refl H3)
    have hb3' : ba3 = ba ∨ H ba3 = none := hb3.imp id (none_of s12)
    have okA := to_ok (D := D.day) fo ok (by omega)
    obtain ⟨en3, ⟨ha3, h53, h63⟩, hen3⟩ := id hA
    have hm3 := s3 _ _ hm
    have am : m ≠ a := fun e => by
      rw [← e, hm] at na0
      cases na0
    have upd_ : ∀ (Hx : Hp), Same H3 Hx → But m H (upd Hx m (.dK (mdV fa (toM f' M D.day) pa ba3 en3))) ∧ MdAt K (upd Hx m (.dK (mdV fa (toM f' M D.day) pa ba3 en3))) m fa (toM f' M D.day) pa ba3 ∧ FgAt K (upd Hx m (.dK (mdV fa (toM f' M D.day) pa ba3 en3))) fa f' := fun Hx sx => by
      have hmx := sx _ _ hm3
      have f1 : Fr [m] Hx (upd Hx m (.dK (mdV fa (toM f' M D.day) pa ba3 en3))) := Fr.upd (List.mem_singleton_self m)
      exact ⟨(But.of (s3.trans sx)).trans (fr_but f1), ⟨en3, MdC.put hmx (h53.same sx) (h63.same sx), (hen3.same sx).fr f1 (md_mu hmx)⟩, (hF.same (s3.trans sx)).fr f1 (md_mu hmx)⟩
    cases D with
    | pay d who =>
      have hdv : (V.str (dW (.pay d who)) :: V.int (Deed.day (.pay d who)) :: r) = [.str (Str.ofString "pay"), .int d, .str who] := hV
      have hr2 : r = [.str who] := (List.cons.inj (List.cons.inj hdv).2).2
      subst hr2
      have eD : didM f' M (.pay d who) = if (toM f' M d).en = none then (paidM f' (toM f' M d) d who, .int (nextP f' (toM f' M d))) else (M, .str (Str.ofString "idle")) := by
        unfold didM
        rw [if_neg z1]
      rw [eD] at q
      refine ⟨_, rfl, (by show 2 ≤ sizeLine; decide), fun tp ntp => ?_⟩
      have sp := same_new (o := .tup [.str (Str.ofString "pay"), .str (Str.ofString "up")]) ntp
      refine ⟨tp, _, rfl, .inr (SqT.of upd_same), rfl, rfl, _, rfl, ?_⟩
      rw [show inV (V.str (dW (.pay d who))) [.str (Str.ofString "pay"), .str (Str.ofString "up")] = true from (by decide +kernel : inV (V.str (Str.ofString "pay")) [.str (Str.ofString "pay"), .str (Str.ofString "up")] = true)]
      refine iteT ⟨_, rfl, a, _, rfl, dg_end (sp _ _ ha3), rfl, _, rfl, ?_⟩
      rw [en_non hen3]
      obtain ⟨u1, u2, u3⟩ := upd_ _ sp
      by_cases he : (toM f' M d).en = none
      · rw [if_pos he] at q
        rw [show decide ((toM f' M (Deed.day (.pay d who))).en = none) = true from decide_eq_true he]
        refine iteF ⟨_, rfl, .inr (.inr (.inl ⟨rfl, .inl ⟨_, sp _ _ hm3⟩⟩)), _, rfl, m, a, _, _, rfl, rfl, am, sp _ _ hm3, sp _ _ ha3, (by show 11 + 11 ≤ sizeLine; decide), ?_⟩
        rw [merge_md]
        have hT3 : SqT K (upd (upd H3 tp (.tup [.str (Str.ofString "pay"), .str (Str.ofString "up")])) m (.dK (mdV fa (toM f' M (Deed.day (.pay d who))) pa ba3 en3))) t [.str (dW (.pay d who)), .int (Deed.day (.pay d who)), .str who] := (but_fr u1).tup (md_mu hm) hT
        generalize upd (upd H3 tp (.tup [.str (Str.ofString "pay"), .str (Str.ofString "up")])) m (.dK (mdV fa (toM f' M (Deed.day (.pay d who))) pa ba3 en3)) = G at *
        refine ⟨_, rfl, rfl, _, rfl, ?_⟩
        rw [show decide (V.str (dW (.pay d who)) = V.str (Str.ofString "pay")) = true from decide_eq_true rfl]
        refine iteT ⟨_, rfl, _, rfl, _, rfl, t, _, _, _, rfl, rfl, hT3, rfl, ?_⟩
        refine ⟨m, fa, pa, ba3, d, who, f', toM f' M d, rfl, u2, u3, fo, okA, he, fun H4 pa4 ba4 n4 b4 t4 h4 => ?_⟩
        have hx : H m ≠ none := by rw [hm]; exact fun z => nomatch z
        have gx : G m ≠ none := by
          obtain ⟨_, ⟨g1, _⟩, _⟩ := u2
          rw [g1]
          exact fun z => nomatch z
        refine q H4 pa4 ba4 (.inr (but_none u1 hx gx n4)) ?_ (u1.trans t4) h4
        rcases b4 with rfl | b4
        · exact hb3'
        · exact .inr (but_none u1 hx gx b4)
      · rw [if_neg he] at q
        rw [show decide ((toM f' M (Deed.day (.pay d who))).en = none) = false from decide_eq_false he]
        exact iteT (q _ pa ba (.inl rfl) (.inl rfl) (But.of (s3.trans sp)) (hM.same (s3.trans sp)))
    | up d =>
      have eD : didM f' M (.up d) = if (toM f' M d).en = none then (upM f' (toM f' M d) d, .non) else (M, .str (Str.ofString "idle")) := by
        unfold didM
        rw [if_neg z1]
      rw [eD] at q
      refine ⟨_, rfl, (by show 2 ≤ sizeLine; decide), fun tp ntp => ?_⟩
      have sp := same_new (o := .tup [.str (Str.ofString "pay"), .str (Str.ofString "up")]) ntp
      refine ⟨tp, _, rfl, .inr (SqT.of upd_same), rfl, rfl, _, rfl, ?_⟩
      rw [show inV (V.str (dW (.up d))) [.str (Str.ofString "pay"), .str (Str.ofString "up")] = true from (by decide +kernel : inV (V.str (Str.ofString "up")) [.str (Str.ofString "pay"), .str (Str.ofString "up")] = true)]
      refine iteT ⟨_, rfl, a, _, rfl, dg_end (sp _ _ ha3), rfl, _, rfl, ?_⟩
      rw [en_non hen3]
      obtain ⟨u1, u2, u3⟩ := upd_ _ sp
      by_cases he : (toM f' M d).en = none
      · rw [if_pos he] at q
        rw [show decide ((toM f' M (Deed.day (.up d))).en = none) = true from decide_eq_true he]
        refine iteF ⟨_, rfl, .inr (.inr (.inl ⟨rfl, .inl ⟨_, sp _ _ hm3⟩⟩)), _, rfl, m, a, _, _, rfl, rfl, am, sp _ _ hm3, sp _ _ ha3, (by show 11 + 11 ≤ sizeLine; decide), ?_⟩
        rw [merge_md]
        generalize upd (upd H3 tp (.tup [.str (Str.ofString "pay"), .str (Str.ofString "up")])) m (.dK (mdV fa (toM f' M (Deed.day (.up d))) pa ba3 en3)) = G at *
        refine ⟨_, rfl, rfl, _, rfl, ?_⟩
        rw [show decide (V.str (dW (.up d)) = V.str (Str.ofString "pay")) = false from (by decide +kernel : decide (V.str (Str.ofString "up") = V.str (Str.ofString "pay")) = false)]
        refine iteF ⟨_, rfl, rfl, _, rfl, ?_⟩
        rw [show decide (V.str (dW (.up d)) = V.str (Str.ofString "up")) = true from decide_eq_true rfl]
        obtain ⟨en4, hC4, hen4⟩ := id u2
        obtain ⟨kt, hk1, hk2⟩ := id u3
        have okA' : Md.Ok f' (toM f' M d) := okA
        obtain ⟨_, _, _, m0, _⟩ := okA'.st he
        have hk : atI (f'.ks.map V.int) (toM f' M d).many = some (.int (keepAt f' (toM f' M d).many)) := by
          obtain ⟨j, hj⟩ := Int.eq_ofNat_of_zero_le okA'.many0
          have := keepAt_some fo okA'.many0 m0
          rw [hj] at this ⊢
          rw [Int.toNat_natCast] at this
          exact atI_nat (by rw [List.getElem?_map, this]; rfl)
        have kb := keepAt_bnd fo (toM f' M d).many
        have l6 := okA'.len
        have l7 := okA'.many1
        have l8 := fo.figs.p1
        have l9 := okA'.blen
        refine iteT ⟨_, rfl, _, rfl, _, rfl, m, _, rfl, dg_figures hC4.1, fa, _, _, _, rfl, rfl, hk1, rfl, _, rfl, m, _, rfl, dg_many hC4.1, kt, _, _, _, rfl, rfl, hk2, hk, ?_⟩
        refine ⟨m, fa, pa, ba3, .up, d, _, toM f' M d, en4, rfl, hC4, okA'.nn, by omega, by omega, kb.1, kb.2, fun H4 ba4 n4 t4 h4 => ?_⟩
        refine ⟨_, rfl, rfl, _, rfl, ?_⟩
        rw [show decide (V.str (dW (.up d)) = V.str (Str.ofString "fall")) = false from (by decide +kernel : decide (V.str (Str.ofString "up") = V.str (Str.ofString "fall")) = false)]
        have hx : H m ≠ none := by rw [hm]; exact fun z => nomatch z
        exact iteF (q H4 pa ba4 (.inl rfl) (.inr (but_none u1 hx (by rw [hC4.1]; exact fun z => nomatch z) n4)) (u1.trans t4) h4)
      · rw [if_neg he] at q
        rw [show decide ((toM f' M (Deed.day (.up d))).en = none) = false from decide_eq_false he]
        exact iteT (q _ pa ba (.inl rfl) (.inl rfl) (But.of (s3.trans sp)) (hM.same (s3.trans sp)))
    | fall d price =>
      have hdv : (V.str (dW (.fall d price)) :: V.int (Deed.day (.fall d price)) :: r) = [.str (Str.ofString "fall"), .int d, .int price] := hV.1
      have hr2 : r = [.int price] := (List.cons.inj (List.cons.inj hdv).2).2
      subst hr2
      have eD : didM f' M (.fall d price) = (fallM f' (toM f' M d) d price, .non) := by
        unfold didM
        rw [if_neg z1]
      rw [eD] at q
      refine ⟨_, rfl, (by show 2 ≤ sizeLine; decide), fun tp ntp => ?_⟩
      have sp := same_new (o := .tup [.str (Str.ofString "pay"), .str (Str.ofString "up")]) ntp
      refine ⟨tp, _, rfl, .inr (SqT.of upd_same), rfl, rfl, _, rfl, ?_⟩
      rw [show inV (V.str (dW (.fall d price))) [.str (Str.ofString "pay"), .str (Str.ofString "up")] = false from (by decide +kernel : inV (V.str (Str.ofString "fall")) [.str (Str.ofString "pay"), .str (Str.ofString "up")] = false)]
      obtain ⟨u1, u2, u3⟩ := upd_ _ sp
      refine iteF ⟨_, rfl, .inr (.inr (.inl ⟨rfl, .inl ⟨_, sp _ _ hm3⟩⟩)), _, rfl, m, a, _, _, rfl, rfl, am, sp _ _ hm3, sp _ _ ha3, (by show 11 + 11 ≤ sizeLine; decide), ?_⟩
      rw [merge_md]
      have hT3 : SqT K (upd (upd H3 tp (.tup [.str (Str.ofString "pay"), .str (Str.ofString "up")])) m (.dK (mdV fa (toM f' M (Deed.day (.fall d price))) pa ba3 en3))) t [.str (dW (.fall d price)), .int (Deed.day (.fall d price)), .int price] := (but_fr u1).tup (md_mu hm) hT
      generalize upd (upd H3 tp (.tup [.str (Str.ofString "pay"), .str (Str.ofString "up")])) m (.dK (mdV fa (toM f' M (Deed.day (.fall d price))) pa ba3 en3)) = G at *
      refine ⟨_, rfl, rfl, _, rfl, ?_⟩
      rw [show decide (V.str (dW (.fall d price)) = V.str (Str.ofString "pay")) = false from (by decide +kernel : decide (V.str (Str.ofString "fall") = V.str (Str.ofString "pay")) = false)]
      refine iteF ⟨_, rfl, rfl, _, rfl, ?_⟩
      rw [show decide (V.str (dW (.fall d price)) = V.str (Str.ofString "up")) = false from (by decide +kernel : decide (V.str (Str.ofString "fall") = V.str (Str.ofString "up")) = false)]
      refine iteF ⟨_, rfl, rfl, _, rfl, ?_⟩
      rw [show decide (V.str (dW (.fall d price)) = V.str (Str.ofString "fall")) = true from decide_eq_true rfl]
      obtain ⟨en4, hC4, hen4⟩ := id u2
      obtain ⟨kt, hk1, hk2⟩ := id u3
      have okA' : Md.Ok f' (toM f' M d) := okA
      have l6 := okA'.len
      have l7 := okA'.many1
      have l8 := fo.figs.p1
      have l9 := okA'.blen
      have hx : H m ≠ none := by rw [hm]; exact fun z => nomatch z
      have gx : G m ≠ none := by rw [hC4.1]; exact fun z => nomatch z
      have stop : ¬ ((toM f' M d).en = none ∧ d - (toM f' M d).begin_ ≤ f'.fa ∧ price < (toM f' M d).price) → Q .non G := fun y => q G pa ba3 (.inl rfl) hb3' u1 (by unfold fallM; rw [if_neg y]; exact u2)
      refine iteT ⟨_, rfl, m, _, rfl, dg_end hC4.1, rfl, _, rfl, ?_⟩
      rw [en_non hen4]
      change if decide ((toM f' M d).en = none) = true then _ else _
      by_cases he : (toM f' M d).en = none
      · rw [decide_eq_true he]
        refine iteT ⟨_, rfl, _, rfl, m, _, rfl, dg_begin hC4.1, _, _, rfl, rfl, _, rfl, m, _, rfl, dg_figures hC4.1, fa, _, _, _, rfl, rfl, hk1, rfl, _, _, rfl, rfl, _, rfl, ite2 (fun y => ?_) (fun y => ?_)⟩
        · have y1 : d - (toM f' M d).begin_ ≤ f'.fa := of_decide_eq_true y
          refine ⟨_, rfl, t, _, _, _, rfl, rfl, hT3, rfl, _, rfl, m, _, rfl, dg_price hC4.1, _, _, rfl, rfl, _, rfl, ite2 (fun x => ?_) (fun x => ?_)⟩
          · have x1 : price < (toM f' M d).price := of_decide_eq_true x
            have hf : (toM f' M d).en = none ∧ d - (toM f' M d).begin_ ≤ f'.fa ∧ price < (toM f' M d).price := ⟨he, y1, x1⟩
            refine ⟨_, rfl, t, _, _, _, rfl, rfl, hT3, rfl, _, rfl, m, _, rfl, dp_price hC4.1, ?_⟩
            have a5 := MdC.put (fa' := fa) (pa' := pa) (ba' := ba3) (M' := { toM f' M d with price := price }) (en' := en4) hC4.1 hC4.2.1 hC4.2.2
            have f5' : Fr [m] G (upd G m (.dK (mdV fa { toM f' M d with price := price } pa ba3 en4))) := Fr.upd (List.mem_singleton_self m)
            have t5 := u1.trans (fr_but f5')
            have hen5 := hen4.fr f5' (md_mu hC4.1)
            have hT5 := f5'.tup (md_mu hC4.1) hT3
            obtain ⟨L, e1, e2, e3, e4⟩ := a5.2.1.len
            have e4' : L.length = (toM f' M d).pays.length := e4
            have e3' : L.map (·.2) = (toM f' M d).pays := e3
            refine ⟨_, rfl, m, _, rfl, dg_pays a5.1, pa, rfl, ⟨_, SqL.of e1⟩, fun D' hD' => rows_lc (fun _ => true) (fun q => V.int q.2.p) (jok_l (SqL.of e1)) e2 (by omega) hD' (fun q hq G s hG Y N y n => ?_) (Tyes (J := Itl K pa) fun G6 s6 hG6 => ?_)⟩
            · exact ⟨q.1, _, rfl, SqT.of hG, rfl, _, _, rfl, _, _, rfl, _, _, rfl, rfl, rfl, iteT (B := N G) ⟨_, rfl, y rfl⟩⟩
            refine ⟨D', (L.map (·.2)).map (·.p), rfl, SqL.of (hG6.trans (by rw [List.map_map, List.map_map, List.map_map]; rfl)), ?_⟩
            rw [e3', sumP_sum]
            refine ⟨_, rfl, t, _, _, _, rfl, rfl, seqT_same s6 hT5, rfl, _, _, rfl, rfl, _, rfl, ite2 (fun v => ?_) (fun v => ?_)⟩
            · have v1 : price ≤ sumP (toM f' M d).pays := of_decide_eq_true v
              have p1 := hV.2
              refine ⟨_, rfl, _, rfl, m, fa, pa, ba3, d, { toM f' M d with price := price }, en4, rfl, a5.same s6, okA'.nn, by show (toM f' M d).pays.length ≤ 300; omega, by show (toM f' M d).backs.length ≤ 300; omega, by show 0 ≤ price; omega, v1, fun H7 ba7 n7 t7 h7 => ?_⟩
              refine q H7 pa ba7 (.inl rfl) (.inr (but_none (t5.trans (But.of s6)) hx (by rw [s6 _ _ a5.1]; exact fun z => nomatch z) n7)) ((t5.trans (But.of s6)).trans t7) ?_
              unfold fallM
              rw [if_pos hf, if_pos v1]
              exact h7
            · have v1 : ¬ price ≤ sumP (toM f' M d).pays := fun w => v (decide_eq_true w)
              refine q G6 pa ba3 (.inl rfl) hb3' (t5.trans (But.of s6)) ?_
              unfold fallM
              rw [if_pos hf, if_neg v1]
              exact ⟨en4, a5.same s6, hen5.same s6⟩
          · exact stop fun w => x (decide_eq_true w.2.2)
        · exact iteF (stop fun w => y (decide_eq_true w.2.1))
      · rw [decide_eq_false he]
        exact iteF (iteF (stop fun w => he w.1))
    | pass d =>
      have eD : didM f' M (.pass d) = (toM f' M d, .non) := by
        unfold didM
        rw [if_neg z1]
      rw [eD] at q
      refine ⟨_, rfl, (by show 2 ≤ sizeLine; decide), fun tp ntp => ?_⟩
      have sp := same_new (o := .tup [.str (Str.ofString "pay"), .str (Str.ofString "up")]) ntp
      refine ⟨tp, _, rfl, .inr (SqT.of upd_same), rfl, rfl, _, rfl, ?_⟩
      rw [show inV (V.str (dW (.pass d))) [.str (Str.ofString "pay"), .str (Str.ofString "up")] = false from (by decide +kernel : inV (V.str (Str.ofString "pass")) [.str (Str.ofString "pay"), .str (Str.ofString "up")] = false)]
      obtain ⟨u1, u2, u3⟩ := upd_ _ sp
      refine iteF ⟨_, rfl, .inr (.inr (.inl ⟨rfl, .inl ⟨_, sp _ _ hm3⟩⟩)), _, rfl, m, a, _, _, rfl, rfl, am, sp _ _ hm3, sp _ _ ha3, (by show 11 + 11 ≤ sizeLine; decide), ?_⟩
      rw [merge_md]
      generalize upd (upd H3 tp (.tup [.str (Str.ofString "pay"), .str (Str.ofString "up")])) m (.dK (mdV fa (toM f' M (Deed.day (.pass d))) pa ba3 en3)) = G at *
      refine ⟨_, rfl, rfl, _, rfl, ?_⟩
      rw [show decide (V.str (dW (.pass d)) = V.str (Str.ofString "pay")) = false from (by decide +kernel : decide (V.str (Str.ofString "pass") = V.str (Str.ofString "pay")) = false)]
      refine iteF ⟨_, rfl, rfl, _, rfl, ?_⟩
      rw [show decide (V.str (dW (.pass d)) = V.str (Str.ofString "up")) = false from (by decide +kernel : decide (V.str (Str.ofString "pass") = V.str (Str.ofString "up")) = false)]
      refine iteF ⟨_, rfl, rfl, _, rfl, ?_⟩
      rw [show decide (V.str (dW (.pass d)) = V.str (Str.ofString "fall")) = false from (by decide +kernel : decide (V.str (Str.ofString "pass") = V.str (Str.ofString "fall")) = false)]
      exact iteF (q G pa ba3 (.inl rfl) hb3' u1 u2)
/-! ### _law_last -/
abbrev s__law_last : Stmt := topS 47
abbrev N__law_last : List Str := ["_law_m", "_law_after"]
theorem sc__law_last : FnScope N__law_last ["_law_m"] (defScope s__law_last) := ⟨rfl, rfl, rfl, by decide +kernel, rfl, by decide +kernel, by decide +kernel⟩
def lastV (f : Fg) (M : Md) : V := if M.en = none then .int (lastN f M) else .non
def sp__law_last (K : PySem.W.Frag) : Sp := fun vs H Q _ => ∃ (m fa pa ba : Addr) (f : Fg) (M : Md), vs = [.ref m] ∧ MdAt K H m fa M pa ba ∧ FgAt K H fa f ∧ f.Ok ∧ M.Ok f ∧ ∀ H', Same H H' → Q (lastV f M) H'
theorem ok__law_last {f : Addr} {fd : FuncData} (F : Fun K "_law_last" "_law_last" s__law_last f fd) (g : mg "_law_last" = some (.ref f)) (bd : Binds K fd ["_law_m"] []) (m_dict : mg "dict" = none) (C__law_to : CF P w K mg base 3 "_law_to" ["_law_m", "_law_day_here"] (sp__law_to K)) : CF P w K mg base 4 "_law_last" ["_law_m"] (sp__law_last K) := by
  refine ⟨f, fd, F.ok sc__law_last (fun vs H Q E h => ?_) (fun cdv A outer s H vs Q E hr h => ?_), g, F.kp, bd⟩
  · first | (obtain ⟨_, rfl, _⟩ := h; rfl) | (obtain ⟨_, _, rfl, _⟩ := h; rfl) | (obtain ⟨_, _, _, rfl, _⟩ := h; rfl) | (obtain ⟨_, _, _, _, rfl, _⟩ := h; rfl) | (obtain ⟨_, _, _, _, _, rfl, _⟩ := h; rfl) | (obtain ⟨_, _, _, _, _, _, rfl, _⟩ := h; rfl) | (obtain ⟨_, _, _, _, _, _, _, rfl, _⟩ := h; rfl) | (obtain ⟨_, _, _, _, _, _, _, _, rfl, _⟩ := h; rfl) | (obtain ⟨_, _, _, _, _, _, _, _, _, rfl, _⟩ := h; rfl) | (obtain ⟨_, _, _, _, _, _, _, _, _, _, rfl, _⟩ := h; rfl) | (obtain ⟨_, _, _, _, _, _, _, _, _, _, _, rfl, _⟩ := h; rfl) | (obtain ⟨_, _, _, _, _, _, _, _, _, _, _, _, rfl, _⟩ := h; rfl) | (obtain ⟨_, _, _, _, _, _, _, _, _, _, _, _, _, rfl, _⟩ := h; rfl) | (obtain ⟨_, _, _, _, _, _, _, _, _, _, _, _, _, _, rfl, _⟩ := h; rfl) | (obtain ⟨_, _, _, _, _, _, _, _, _, _, _, _, _, _, _, rfl, _⟩ := h; rfl)
  · have hu64 := hr.units
    have hu1 := hu1_of hu64
    obtain ⟨m, fa, pa, ba, f', M, rfl, hM, hF, fo, ok, q⟩ := h
    refine ⟨_, (pss_cons (ps_set (i := 1) sc__law_last.nd rfl (.inl rfl) (pe_callTy call_dictD (by rfl) m_dict (by decide +kernel) (pa_cons (pv 0) pa_nil)))
      (pss_cons (ps_while PassesOwn.never (pt_cmpR op_isN (pe_dget hu1 (pv 1) pe_str (fun _ _ => rfl)) pe_non (nomark _))
         (pss_one (ps_expr (pe_cf C__law_to (hr.mono (by decide)) (by rfl) (pa_cons (pv 1) (pa_cons (pe_op op_add (pe_dget hu1 (pv 1) pe_str (fun _ _ => rfl)) pe_int) pa_nil))))))
      (pss_one (ps_ret (pe_ifExp (pt_cmpR op_isN (pe_dget hu1 (pv 0) pe_str (fun _ _ => rfl)) pe_non (nomark _)) (pe_op op_sub (pe_ix (kk_ixt K) (pe_dget hu1 (pv 1) pe_str (fun _ _ => rfl)) pe_int (fun _ _ => rfl)) pe_int) pe_non))))), ?_⟩
    obtain ⟨en, ⟨hm, h5, h6⟩, hen⟩ := id hM
    refine ⟨_, rfl, m, _, rfl, hm, fun a na => ?_⟩
    have s1 := same_new (o := .dK (mdV fa M pa ba en)) na
    have hMa : MdAt K (upd H a (.dK (mdV fa M pa ba en))) a fa M pa ba := ⟨en, ⟨upd_same, h5.same s1, h6.same s1⟩, hen.same s1⟩
    refine ⟨fun n σ G => σ = [some (.ref m), some (.ref a)] ∧ ∃ M' ba', n = (if M'.en = none then (lastN f' M + 1 - M'.day).toNat + 1 else 0) ∧ Same H G ∧ MdAt K G a fa M' pa ba' ∧ M'.Ok f' ∧ (M'.en = none → M.en = none ∧ lastN f' M' = lastN f' M) ∧ (M.en = none → M'.en = none ∨ M'.en = some (.go, lastN f' M + 1)), ⟨_, rfl, M, ba, rfl, s1, hMa, ok, fun e => ⟨e, rfl⟩, fun e => .inl e⟩, fun n σ G h => ?_⟩
    obtain ⟨rfl, M', ba', hn, sG, hM', ok', g1, g2⟩ := h
    obtain ⟨en', hC', hen'⟩ := id hM'
    refine ⟨_, rfl, a, _, rfl, dg_end hC'.1, rfl, _, rfl, ?_⟩
    rw [en_non hen']
    by_cases e : M'.en = none
    · rw [decide_eq_true e]
      obtain ⟨eM, eL⟩ := g1 e
      have dl := last_day_le fo ok' e
      rw [if_pos e] at hn
      refine iteT ⟨fun σ2 G2 => σ2 = [some (.ref m), some (.ref a)] ∧ ∃ M2 ba2, (if M2.en = none then (lastN f' M + 1 - M2.day).toNat + 1 else 0) < n ∧ Same H G2 ∧ MdAt K G2 a fa M2 pa ba2 ∧ M2.Ok f' ∧ (M2.en = none → M.en = none ∧ lastN f' M2 = lastN f' M) ∧ (M.en = none → M2.en = none ∨ M2.en = some (.go, lastN f' M + 1)), fun σ2 G2 h2 => ?_, ?_⟩
      · obtain ⟨rfl, M2, ba2, lt, rest⟩ := h2
        exact ⟨_, lt, rfl, M2, ba2, rfl, rest⟩
      refine ⟨_, rfl, _, rfl, a, _, rfl, dg_day hC'.1, _, _, rfl, rfl, a, fa, pa, ba', M'.day + 1, f', M', rfl, hM', hF.same sG, fo, ok', by omega, fun H3 ba3 hb3 t3 h3 => ?_⟩
      have s3 : Same H H3 := same_but sG na t3
      have ok3 := to_ok (D := M'.day + 1) fo ok' (by omega)
      rcases to_one fo ok' e with ⟨c1, c2, c3⟩ | c1
      · refine ⟨rfl, _, ba3, ?_, s3, h3, ok3, fun _ => ⟨eM, c2.trans eL⟩, fun _ => .inl c1⟩
        rw [if_pos c1, c3]
        omega
      · refine ⟨rfl, _, ba3, ?_, s3, h3, ok3, fun z => absurd (c1.symm.trans z) (fun z => nomatch z), fun _ => .inr (by rw [c1, eL])⟩
        rw [if_neg (by rw [c1]; exact fun z => nomatch z)]
        omega
    · rw [decide_eq_false e]
      refine iteF ?_
      have q1 := q G sG
      refine ⟨_, rfl, m, _, rfl, dg_end (sG _ _ hm), rfl, _, rfl, ?_⟩
      rw [en_non hen]
      unfold lastV at q1
      by_cases eM : M.en = none
      · rw [decide_eq_true eM]
        rw [if_pos eM] at q1
        have c1 := (g2 eM).resolve_left e
        rw [c1] at hen'
        obtain ⟨t, et, ht⟩ := hen'
        refine iteT ⟨_, rfl, a, _, rfl, dg_end hC'.1, t, _, _, _, et, rfl, ht, rfl, _, _, rfl, rfl, ?_⟩
        show Q (.int (lastN f' M + 1 - 1)) G
        rw [show lastN f' M + 1 - 1 = lastN f' M by omega]
        exact q1
      · rw [decide_eq_false eM]
        rw [if_neg eM] at q1
        exact iteF q1
/-! ### _law_due -/
abbrev s__law_due : Stmt := topS 48
abbrev N__law_due : List Str := ["_law_m", "_law_state", "_law_whole", "_law_when", "_law_who", "_law_much"]
theorem sc__law_due : FnScope N__law_due ["_law_m"] (defScope s__law_due) := ⟨rfl, rfl, rfl, by decide +kernel, rfl, by decide +kernel, by decide +kernel⟩
def stD (M : Md) : PyData := match M.en with
  | none => .tuple [.str (wS .st), .int M.due, .int M.many, .int M.missed]
  | some (w, d) => .tuple [.str (wS w), .int d]
def lastD (f : Fg) (M : Md) : PyData := if M.en = none then .int (lastN f M) else .none
def dueD (f : Fg) (M : Md) : PyData := .list [stD M, .int M.price, .int (sumP M.pays), .int M.kept, .list (M.backs.map prD), .list (M.pays.map prD), lastD f M]
theorem lastV_dp {K : PySem.W.Frag} {H : Hp} {f : Fg} {M : Md} : Dp K H (lastV f M) (lastD f M) := by
  unfold lastV lastD
  by_cases e : M.en = none
  · rw [if_pos e, if_pos e]
    exact .int _
  · rw [if_neg e, if_neg e]
    exact .non
def sp__law_due (K : PySem.W.Frag) : Sp := fun vs H Q _ => ∃ (m fa pa ba : Addr) (f : Fg) (M : Md), vs = [.ref m] ∧ MdAt K H m fa M pa ba ∧ FgAt K H fa f ∧ f.Ok ∧ M.Ok f ∧ ∀ H' l, Same H H' → Dp K H' (.ref l) (dueD f M) → Q (.ref l) H'
theorem ok__law_due {f : Addr} {fd : FuncData} (F : Fun K "_law_due" "_law_due" s__law_due f fd) (g : mg "_law_due" = some (.ref f)) (bd : Binds K fd ["_law_m"] []) (m_sum : mg "sum" = none) (m_list : mg "list" = none) (C__law_last : CF P w K mg base 4 "_law_last" ["_law_m"] (sp__law_last K)) : CF P w K mg base 5 "_law_due" ["_law_m"] (sp__law_due K) := by
  refine ⟨f, fd, F.ok sc__law_due (fun vs H Q E h => ?_) (fun cdv A outer s H vs Q E hr h => ?_), g, F.kp, bd⟩
  · first | (obtain ⟨_, rfl, _⟩ := h; rfl) | (obtain ⟨_, _, rfl, _⟩ := h; rfl) | (obtain ⟨_, _, _, rfl, _⟩ := h; rfl) | (obtain ⟨_, _, _, _, rfl, _⟩ := h; rfl) | (obtain ⟨_, _, _, _, _, rfl, _⟩ := h; rfl) | (obtain ⟨_, _, _, _, _, _, rfl, _⟩ := h; rfl) | (obtain ⟨_, _, _, _, _, _, _, rfl, _⟩ := h; rfl) | (obtain ⟨_, _, _, _, _, _, _, _, rfl, _⟩ := h; rfl) | (obtain ⟨_, _, _, _, _, _, _, _, _, rfl, _⟩ := h; rfl) | (obtain ⟨_, _, _, _, _, _, _, _, _, _, rfl, _⟩ := h; rfl) | (obtain ⟨_, _, _, _, _, _, _, _, _, _, _, rfl, _⟩ := h; rfl) | (obtain ⟨_, _, _, _, _, _, _, _, _, _, _, _, rfl, _⟩ := h; rfl) | (obtain ⟨_, _, _, _, _, _, _, _, _, _, _, _, _, rfl, _⟩ := h; rfl) | (obtain ⟨_, _, _, _, _, _, _, _, _, _, _, _, _, _, rfl, _⟩ := h; rfl) | (obtain ⟨_, _, _, _, _, _, _, _, _, _, _, _, _, _, _, rfl, _⟩ := h; rfl)
  · have hu64 := hr.units
    have hu1 := hu1_of hu64
    obtain ⟨m, fa, pa, ba, f', M, rfl, hM, hF, fo, ok, q⟩ := h
    refine ⟨_, (pss_cons (ps_set (i := 1) sc__law_due.nd rfl (.inl rfl) (pe_ifExp (pt_cmpR op_notN (pe_dget hu1 (pv 0) pe_str (fun _ _ => rfl)) pe_non (nomark _)) (pe_dget hu1 (pv 0) pe_str (fun _ _ => rfl)) (pe_tup (pa_cons pe_str (pa_cons (pe_dget hu1 (pv 0) pe_str (fun _ _ => rfl)) (pa_cons (pe_dget hu1 (pv 0) pe_str (fun _ _ => rfl)) (pa_cons (pe_dget hu1 (pv 0) pe_str (fun _ _ => rfl)) pa_nil)))))))
      (pss_cons (ps_set (i := 2) sc__law_due.nd rfl (.inl rfl) (pe_callB (kk_sum K rfl) (by rfl) m_sum (by decide +kernel) (pa_cons (pe_lc (own := [("_law_when", 3), ("_law_who", 4), ("_law_much", 5)]) (g := (gTup K 3 (gCons (gName 3) (gCons (gName 4) (gCons (gName 5) gNil))))) (tt := tYes) rfl sc__law_due.nd (pi_list (pe_dget hu1 (pv 0) pe_str (fun _ _ => rfl))) (blkOk_by (own := [("_law_when", 3), ("_law_who", 4), ("_law_much", 5)]) (N := N__law_due) (sc := defScope s__law_due) (by decide +kernel)) (fun _ _ _ _ _ => (pg_tup (by rfl) (pgs_cons (pg_name (i := 3) sc__law_due.nd rfl (.inl rfl)) (pgs_cons (pg_name (i := 4) sc__law_due.nd rfl (.inl rfl)) (pgs_cons (pg_name (i := 5) sc__law_due.nd rfl (.inl rfl)) pgs_nil))))) (fun _ _ _ _ _ => pts_nil) (fun _ _ _ _ _ => (pv 5))) pa_nil)))
      (pss_one (ps_ret (pe_lst (pa_cons (pv 1) (pa_cons (pe_dget hu1 (pv 0) pe_str (fun _ _ => rfl)) (pa_cons (pv 2) (pa_cons (pe_dget hu1 (pv 0) pe_str (fun _ _ => rfl)) (pa_cons (pe_callTy (kk_list K) (by rfl) m_list (by decide +kernel) (pa_cons (pe_dget hu1 (pv 0) pe_str (fun _ _ => rfl)) pa_nil)) (pa_cons (pe_callTy (kk_list K) (by rfl) m_list (by decide +kernel) (pa_cons (pe_dget hu1 (pv 0) pe_str (fun _ _ => rfl)) pa_nil)) (pa_cons (pe_cf C__law_last (hr.mono (by decide)) (by rfl) (pa_cons (pv 0) pa_nil)) pa_nil)))))))))))), ?_⟩
    obtain ⟨en, ⟨hm, h5, h6⟩, hen⟩ := id hM
    have l6 := ok.len
    have l7 := ok.many1
    have l8 := fo.figs.p1
    have fin : ∀ (H1 : Hp) (v : V), Same H H1 → Dp K H1 v (stD M) → tSeq (tAsg (tCB (rSum K) (tCons (tLc (iList K (tDGet (tVar 0) (tC (V.str (Str.ofString "pays"))))) (gTup K 3 (gCons (gName 3) (gCons (gName 4) (gCons (gName 5) gNil)))) tYes (tVar 5) [3, 4, 5]) tNil)) (gName 2)) (tRet (tLst (tCons (tVar 1) (tCons (tDGet (tVar 0) (tC (V.str (Str.ofString "price")))) (tCons (tVar 2) (tCons (tDGet (tVar 0) (tC (V.str (Str.ofString "kept")))) (tCons (tCB (fun xs H Q => ∃ p ys, xs = [.ref p] ∧ (SqL K H p ys ∨ SqT K H p ys) ∧ ∀ l, H l = none → Q (.ref l) (upd H l (.lst ys))) (tCons (tDGet (tVar 0) (tC (V.str (Str.ofString "backs")))) tNil)) (tCons (tCB (fun xs H Q => ∃ p ys, xs = [.ref p] ∧ (SqL K H p ys ∨ SqT K H p ys) ∧ ∀ l, H l = none → Q (.ref l) (upd H l (.lst ys))) (tCons (tDGet (tVar 0) (tC (V.str (Str.ofString "pays")))) tNil)) (tCons (tCall (sp__law_last K) [] E0 (tCons (tVar 0) tNil)) tNil))))))))) { nx := fun _ H' => Q .non H', rt := Q } [some (.ref m), some v, none, none, none, none] H1 := fun H1 v s1 hv => by
      have hm1 := s1 _ _ hm
      obtain ⟨L, e1, e2, e3, e4⟩ := (h5.same s1).len
      refine ⟨_, rfl, m, _, rfl, dg_pays hm1, pa, rfl, ⟨_, SqL.of e1⟩, fun D hD => rows_lc (fun _ => true) (fun q => V.int q.2.p) (jok_l (SqL.of e1)) e2 (by omega) hD (fun q hq G s hG Y N y n => ?_) (Tyes (J := Itl K pa) fun G s hG => ?_)⟩
      · exact ⟨q.1, _, rfl, SqT.of hG, rfl, _, _, rfl, _, _, rfl, _, _, rfl, rfl, rfl, iteT (B := N G) ⟨_, rfl, y rfl⟩⟩
      refine ⟨D, (L.map (·.2)).map (·.p), rfl, SqL.of (hG.trans (by rw [List.map_map, List.map_map, List.map_map]; rfl)), ?_⟩
      rw [e3, sumP_sum]
      have s2 := s1.trans s
      obtain ⟨B, c1, c2, c3⟩ := h6.same s2
      obtain ⟨P', d1, d2, d3⟩ := h5.same s2
      refine ⟨_, rfl, _, rfl, m, _, rfl, dg_price (s2 _ _ hm), _, rfl, _, rfl, m, _, rfl, dg_kept (s2 _ _ hm), _, rfl, m, _, rfl, dg_backs (s2 _ _ hm), ba, _, rfl, .inl (SqL.of c1), fun lb nb => ?_⟩
      have s3 := same_new (o := .lst (refs B)) nb
      refine ⟨_, rfl, m, _, rfl, dg_pays (s3 _ _ (s2 _ _ hm)), pa, _, rfl, .inl (SqL.of (s3 _ _ d1)), fun lp np => ?_⟩
      have s4 := same_new (o := .lst (refs P')) np
      have s5 := (s2.trans s3).trans s4
      refine ⟨_, rfl, m, fa, pa, ba, f', M, rfl, hM.same s5, hF.same s5, fo, ok, fun H6 s6 => ⟨(by show 7 ≤ sizeLine; decide), fun l nl => ?_⟩⟩
      have s7 := same_new (o := .lst [v, .int M.price, .int (sumP M.pays), .int M.kept, .ref lb, .ref lp, lastV f' M]) nl
      refine q _ l ((s5.trans s6).trans s7) (.lst (SqL.of upd_same) (.cons (dp_same ((((s.trans s3).trans s4).trans s6).trans s7) hv) (.cons (.int _) (.cons (.int _) (.cons (.int _) (.cons ?_ (.cons ?_ (.cons lastV_dp .nil))))))))
      · have hb : RowsL (upd H6 l (.lst [v, .int M.price, .int (sumP M.pays), .int M.kept, .ref lb, .ref lp, lastV f' M])) lb M.backs := ⟨B, s7 _ _ (s6 _ _ (s4 _ _ upd_same)), c2.same (((s3.trans s4).trans s6).trans s7), c3⟩
        exact hb.dp
      · have hp : RowsL (upd H6 l (.lst [v, .int M.price, .int (sumP M.pays), .int M.kept, .ref lb, .ref lp, lastV f' M])) lp M.pays := ⟨P', s7 _ _ (s6 _ _ upd_same), d2.same (((s3.trans s4).trans s6).trans s7), d3⟩
        exact hp.dp
    refine ⟨_, rfl, m, _, rfl, dg_end hm, rfl, _, rfl, ?_⟩
    rw [en_non hen]
    rcases en_or M with e | ⟨w0, d0, e⟩
    · rw [decide_eq_true e]
      refine iteF ⟨_, rfl, m, _, rfl, dg_due hm, _, rfl, m, _, rfl, dg_many hm, _, rfl, m, _, rfl, dg_missed hm, (by show 4 ≤ sizeLine; decide), fun t nt => ?_⟩
      refine fin _ (.ref t) (same_new nt) ?_
      unfold stD
      rw [e]
      exact .tup (SqT.of upd_same) (.cons (.str _) (.cons (.int _) (.cons (.int _) (.cons (.int _) .nil))))
    · rw [decide_eq_false (by rw [e]; exact fun z => nomatch z)]
      rw [e] at hen
      obtain ⟨t, et, ht⟩ := hen
      refine iteT ⟨_, rfl, m, _, rfl, dg_end hm, ?_⟩
      rw [et]
      refine fin H (.ref t) (Same.refl H) ?_
      unfold stD
      rw [e]
      exact .tup ht (.cons (.str _) (.cons (.int _) .nil))
/-! ### _law_seen -/
abbrev s__law_seen : Stmt := topS 50
abbrev N__law_seen : List Str := ["_law_putby", "_law_found"]
theorem sc__law_seen : FnScope N__law_seen ["_law_putby"] (defScope s__law_seen) := ⟨rfl, rfl, rfl, by decide +kernel, rfl, by decide +kernel, by decide +kernel⟩
def sp__law_seen (K : PySem.W.Frag) (C : Cl) : Sp := fun vs H Q _ => ∃ (x r pi pk : Addr) (f : Fg) (M : Md), vs = [.ref x] ∧ PbAt K C H x r pi pk f M ∧ f.Ok ∧ M.Ok f ∧ ∀ H' l, Same H H' → Dp K H' (.ref l) (dueD f M) → Q (.ref l) H'
theorem ok__law_seen {f : Addr} {fd : FuncData} (F : Fun K "_law_seen" "_law_seen" s__law_seen f fd) (g : mg "_law_seen" = some (.ref f)) (bd : Binds K fd ["_law_putby"] []) {CC : Cl} (T_Rule : TRule K mg CC.r) (T_Putby : TPutby K mg CC.p) (TE : TErrs K mg CC) (C_Putby_payments_0 : CMt P w K mg base CC.p 1 "payments" ["self"] [] (sp_Putby_payments K CC)) (C_Putby_backs_0 : CMt P w K mg base CC.p 1 "backs" ["self"] [] (sp_Putby_backs K CC)) (C_Putby_kept_0 : CMt P w K mg base CC.p 2 "kept" ["self"] [] (sp_Putby_kept K CC)) (C_Putby_paid_0 : CMt P w K mg base CC.p 1 "paid" ["self"] [] (sp_Putby_paid K CC)) (C_Putby_price_0 : CMt P w K mg base CC.p 1 "price" ["self"] [] (sp_Putby_price K CC)) (C_Putby_state_0 : CMt P w K mg base CC.p 1 "state" ["self"] [] (sp_Putby_state K CC)) (C_Putby_last_day_0 : CMt P w K mg base CC.p 2 "last_day" ["self"] [] (sp_Putby_last_day K CC)) : CF P w K mg base 3 "_law_seen" ["_law_putby"] (sp__law_seen K CC) := by
  refine ⟨f, fd, F.ok sc__law_seen (fun vs H Q E h => ?_) (fun cdv A outer s H vs Q E hr h => ?_), g, F.kp, bd⟩
  · first | (obtain ⟨_, rfl, _⟩ := h; rfl) | (obtain ⟨_, _, rfl, _⟩ := h; rfl) | (obtain ⟨_, _, _, rfl, _⟩ := h; rfl) | (obtain ⟨_, _, _, _, rfl, _⟩ := h; rfl) | (obtain ⟨_, _, _, _, _, rfl, _⟩ := h; rfl) | (obtain ⟨_, _, _, _, _, _, rfl, _⟩ := h; rfl) | (obtain ⟨_, _, _, _, _, _, _, rfl, _⟩ := h; rfl) | (obtain ⟨_, _, _, _, _, _, _, _, rfl, _⟩ := h; rfl) | (obtain ⟨_, _, _, _, _, _, _, _, _, rfl, _⟩ := h; rfl) | (obtain ⟨_, _, _, _, _, _, _, _, _, _, rfl, _⟩ := h; rfl) | (obtain ⟨_, _, _, _, _, _, _, _, _, _, _, rfl, _⟩ := h; rfl) | (obtain ⟨_, _, _, _, _, _, _, _, _, _, _, _, rfl, _⟩ := h; rfl) | (obtain ⟨_, _, _, _, _, _, _, _, _, _, _, _, _, rfl, _⟩ := h; rfl) | (obtain ⟨_, _, _, _, _, _, _, _, _, _, _, _, _, _, rfl, _⟩ := h; rfl) | (obtain ⟨_, _, _, _, _, _, _, _, _, _, _, _, _, _, _, rfl, _⟩ := h; rfl)
  · have hu64 := hr.units
    obtain ⟨x, r, pi, pk, f', M, rfl, ⟨c, hP, hc⟩, fo, ok, q⟩ := h
    refine ⟨_, (pss_cons (ps_set (i := 1) sc__law_seen.nd rfl (.inl rfl) (pe_lst (pa_cons (pe_mt0 C_Putby_state_0 T_Putby.cl (hr.mono (by decide)) (pv 0)) (pa_cons (pe_mt0 C_Putby_price_0 T_Putby.cl (hr.mono (by decide)) (pv 0)) (pa_cons (pe_mt0 C_Putby_paid_0 T_Putby.cl (hr.mono (by decide)) (pv 0)) (pa_cons (pe_mt0 C_Putby_kept_0 T_Putby.cl (hr.mono (by decide)) (pv 0)) (pa_cons (pe_mt0 C_Putby_backs_0 T_Putby.cl (hr.mono (by decide)) (pv 0)) (pa_cons (pe_mt0 C_Putby_payments_0 T_Putby.cl (hr.mono (by decide)) (pv 0)) pa_nil))))))))
      (pss_one (ps_ret (pe_op op_cat (pv 1) (pe_lst (pa_cons (pe_mt0 C_Putby_last_day_0 T_Putby.cl (hr.mono (by decide)) (pv 0)) pa_nil)))))), ?_⟩
    obtain ⟨dx, ct, h1, _⟩ := id hP
    have l6 := ok.len
    have l7 := ok.many1
    have l8 := fo.figs.p1
    have l9 := ok.blen
    have no : ∀ {y : Str}, y ∉ (["rule", "asked", "begin", "passed", "course", "paid_in", "paid_back"] : List Str) → (pbF r M ct pi pk).lookup y = none := fun h => b0 h
    refine ⟨_, rfl, x, dx, _, rfl, h1, no (by decide +kernel), x, r, pi, pk, f', M, c, rfl, hP, fun H1 t n1 s1 ht => ?_⟩
    refine ⟨_, rfl, x, dx, _, rfl, s1 _ _ h1, no (by decide +kernel), x, r, pi, pk, f', M, c, rfl, hP.same s1, ?_⟩
    refine ⟨_, rfl, x, dx, _, rfl, s1 _ _ h1, no (by decide +kernel), x, r, pi, pk, f', M, c, rfl, hP.same s1, by omega, fun H2 s2 => ?_⟩
    have s12 := s1.trans s2
    refine ⟨_, rfl, x, dx, _, rfl, s12 _ _ h1, no (by decide +kernel), x, r, pi, pk, f', M, c, rfl, hP.same s12, by omega, by omega, fun H3 s3 => ?_⟩
    have s13 := s12.trans s3
    refine ⟨_, rfl, x, dx, _, rfl, s13 _ _ h1, no (by decide +kernel), x, r, pi, pk, f', M, c, rfl, hP.same s13, fun H4 lb n4 s4 hb => ?_⟩
    have s14 := s13.trans s4
    refine ⟨_, rfl, x, dx, _, rfl, s14 _ _ h1, no (by decide +kernel), x, r, pi, pk, f', M, c, rfl, hP.same s14, fun H5 lp n5 s5 hp => ⟨(by show 6 ≤ sizeLine; decide), fun l nl => ?_⟩⟩
    have s15 := s14.trans s5
    have s6 := same_new (o := .lst [.ref t, .int M.price, .int (sumP M.pays), .int (if c.w = .st then 0 else sumP M.pays - sumP M.backs), .ref lb, .ref lp]) nl
    have s16 := s15.trans s6
    refine ⟨_, rfl, _, rfl, x, dx, _, rfl, s16 _ _ h1, no (by decide +kernel), x, r, pi, pk, f', M, c, rfl, hP.same s16, fo, fun H7 s7 => ⟨(by show 1 ≤ sizeLine; decide), fun l2 nl2 => ?_⟩⟩
    have s8 := same_new (o := .lst [lastB f' M.begin_ c]) nl2
    refine ⟨l, l2, _, _, rfl, rfl, s8 _ _ (s7 _ _ upd_same), upd_same, (by show 6 + 1 ≤ sizeLine; decide), fun l3 nl3 => ?_⟩
    have s9 := same_new (o := .lst ([.ref t, .int M.price, .int (sumP M.pays), .int (if c.w = .st then 0 else sumP M.pays - sumP M.backs), .ref lb, .ref lp] ++ [lastB f' M.begin_ c])) nl3
    have sT := ((s7.trans s8).trans s9)
    have kept : (if c.w = .st then 0 else sumP M.pays - sumP M.backs) = M.kept := by
      rcases en_or M with e | ⟨w0, d0, e⟩
      · rw [csm_none e hc, if_pos rfl, (ok.st e).1]
      · have := csm_some e hc
        have o := ok.over w0 d0 e
        rw [this.1, if_neg o.1, o.2]
    have last : ∀ G : Hp, Dp K G (lastB f' M.begin_ c) (lastD f' M) := fun G => by
      unfold lastB lastD
      rcases en_or M with e | ⟨w0, d0, e⟩
      · rw [csm_none e hc, if_pos rfl, if_pos e]
        have : M.begin_ + (M.due - M.begin_ + (f'.m - M.missed) * f'.s + f'.g) = lastN f' M := by
          unfold lastN
          omega
        show Dp K _ (.int (M.begin_ + (M.due - M.begin_ + (f'.m - M.missed) * f'.s + f'.g))) _
        rw [this]
        exact .int _
      · have cc := csm_some e hc
        have o := ok.over w0 d0 e
        rw [if_neg (show ¬ c.w = .st by rw [cc.1]; exact o.1), if_neg (show ¬ M.en = none by rw [e]; exact fun z => nomatch z)]
        exact .non
    have st : Dp K H1 (.ref t) (stD M) := by
      unfold stD
      rcases en_or M with e | ⟨w0, d0, e⟩
      · rw [e]
        unfold stV at ht
        rw [csm_none e hc, if_pos rfl] at ht
        have ht' : H1 t = some (.tup [.str (wS .st), .int (M.begin_ + (M.due - M.begin_)), .int M.many, .int M.missed]) := ht
        rw [show M.begin_ + (M.due - M.begin_) = M.due by omega] at ht'
        exact .tup (SqT.of ht') (.cons (.str _) (.cons (.int _) (.cons (.int _) (.cons (.int _) .nil))))
      · rw [e]
        have cc := csm_some e hc
        have o := ok.over w0 d0 e
        unfold stV at ht
        rw [if_neg (by rw [cc.1]; exact o.1), cc.1, cc.2, show M.begin_ + (d0 - M.begin_) = d0 by omega] at ht
        exact .tup (SqT.of ht) (.cons (.str _) (.cons (.int _) .nil))
    refine q _ l3 (s16.trans sT) (.lst (SqL.of upd_same) (.cons (dp_same (((((s2.trans s3).trans s4).trans s5).trans s6).trans sT) st) (.cons (.int _) (.cons (.int _) (.cons ?_ (.cons (RowsL.dp (((hb.same s5).same s6).same sT)) (.cons (RowsL.dp ((hp.same s6).same sT)) (.cons (last _) .nil))))))))
    rw [kept]
    exact .int _
/-! ### _law_told -/
abbrev s__law_told : Stmt := topS 49
abbrev N__law_told : List Str := ["_law_putby", "_law_deed_here", "_law_caught", "_law_found", "_law_word", "_law_day_here", "error", "_law_kinds", "_law_others"]
theorem sc__law_told : FnScope N__law_told ["_law_putby", "_law_deed_here"] (defScope s__law_told) := ⟨rfl, rfl, rfl, by decide +kernel, rfl, by decide +kernel, by decide +kernel⟩
def sp__law_told (K : PySem.W.Frag) (C : Cl) : Sp := fun vs H Q _ => ∃ (x r pi pk t : Addr) (D : Deed) (dv : List V) (f : Fg) (M : Md), vs = [.ref x, .ref t] ∧ SqT K H t dv ∧ DeedV D dv ∧ PbAt K C H x r pi pk f M ∧ pi ≠ pk ∧ f.Ok ∧ M.Ok f ∧ ∀ H' pk', (pk' = pk ∨ H pk' = none) → Fr [x, pi] H H' → PbAt K C H' x r pi pk' f (didM f M D).1 → Q (didM f M D).2 H'
theorem ok__law_told {f : Addr} {fd : FuncData} (F : Fun K "_law_told" "_law_told" s__law_told f fd) (g : mg "_law_told" = some (.ref f)) (bd : Binds K fd ["_law_putby", "_law_deed_here"] []) {CC : Cl} (T_Rule : TRule K mg CC.r) (T_Putby : TPutby K mg CC.p) (TE : TErrs K mg CC) (m_isinstance : mg "isinstance" = none) (m_ValueError : mg "ValueError" = none) (C_Putby_pay_2 : CMx P w K mg base CC.p 4 "pay" ["self", "day", "who"] (sp_Putby_pay K CC)) (C_Putby_give_up_1 : CMx P w K mg base CC.p 4 "give_up" ["self", "day"] (sp_Putby_give_up K CC)) (C_Putby_price_falls_2 : CMx P w K mg base CC.p 5 "price_falls" ["self", "day", "price"] (sp_Putby_price_falls K CC)) (C_Putby_pass_to_1 : CMx P w K mg base CC.p 4 "pass_to" ["self", "day"] (sp_Putby_pass_to K CC)) : CF P w K mg base 6 "_law_told" ["_law_putby", "_law_deed_here"] (sp__law_told K CC) := by
  refine ⟨f, fd, F.ok sc__law_told (fun vs H Q E h => ?_) (fun cdv A outer s H vs Q E hr h => ?_), g, F.kp, bd⟩
  · first | (obtain ⟨_, rfl, _⟩ := h; rfl) | (obtain ⟨_, _, rfl, _⟩ := h; rfl) | (obtain ⟨_, _, _, rfl, _⟩ := h; rfl) | (obtain ⟨_, _, _, _, rfl, _⟩ := h; rfl) | (obtain ⟨_, _, _, _, _, rfl, _⟩ := h; rfl) | (obtain ⟨_, _, _, _, _, _, rfl, _⟩ := h; rfl) | (obtain ⟨_, _, _, _, _, _, _, rfl, _⟩ := h; rfl) | (obtain ⟨_, _, _, _, _, _, _, _, rfl, _⟩ := h; rfl) | (obtain ⟨_, _, _, _, _, _, _, _, _, rfl, _⟩ := h; rfl) | (obtain ⟨_, _, _, _, _, _, _, _, _, _, rfl, _⟩ := h; rfl) | (obtain ⟨_, _, _, _, _, _, _, _, _, _, _, rfl, _⟩ := h; rfl) | (obtain ⟨_, _, _, _, _, _, _, _, _, _, _, _, rfl, _⟩ := h; rfl) | (obtain ⟨_, _, _, _, _, _, _, _, _, _, _, _, _, rfl, _⟩ := h; rfl) | (obtain ⟨_, _, _, _, _, _, _, _, _, _, _, _, _, _, rfl, _⟩ := h; rfl) | (obtain ⟨_, _, _, _, _, _, _, _, _, _, _, _, _, _, _, rfl, _⟩ := h; rfl)
  · have hu64 := hr.units
    obtain ⟨x, r, pi, pk, t, D, dv, f', M, rfl, hT, hV, hA, ik, fo, ok, q⟩ := h
    refine ⟨_, (pss_cons (ps_asg (pe_tup (pa_cons pe_non (pa_cons pe_non (pa_cons (pe_ix (kk_ixt K) (pv 1) pe_int (fun _ _ => rfl)) (pa_cons (pe_ix (kk_ixt K) (pv 1) pe_int (fun _ _ => rfl)) pa_nil))))) (pg_tup (by rfl) (pgs_cons (pg_name (i := 2) sc__law_told.nd rfl (.inl rfl)) (pgs_cons (pg_name (i := 3) sc__law_told.nd rfl (.inl rfl)) (pgs_cons (pg_name (i := 4) sc__law_told.nd rfl (.inl rfl)) (pgs_cons (pg_name (i := 5) sc__law_told.nd rfl (.inl rfl)) pgs_nil))))))
      (pss_cons (ps_try_keep (i := 6) rfl rfl rfl sc__law_told.nd rfl rfl ⟨rfl, by decide, .inl TE.w⟩ (fun W pn xe tk _ =>
          (pss_one (ps_if (pt_cmpR op_eq (pv 4) pe_str (nomark _))
             (pss_one (ps_set (i := 3) sc__law_told.nd rfl (.inl rfl) (pe_mtx C_Putby_pay_2 T_Putby.cl (hr.mono (by decide)) tk (pv 0) (pa_cons (pv 5) (pa_cons (pe_ix (kk_ixt K) (pv 1) pe_int (fun _ _ => rfl)) pa_nil)))))
             (pss_one (ps_if (pt_cmpR op_eq (pv 4) pe_str (nomark _))
                 (pss_one (ps_set (i := 3) sc__law_told.nd rfl (.inl rfl) (pe_mtx C_Putby_give_up_1 T_Putby.cl (hr.mono (by decide)) tk (pv 0) (pa_cons (pv 5) pa_nil))))
                 (pss_one (ps_if (pt_cmpR op_eq (pv 4) pe_str (nomark _))
                     (pss_one (ps_set (i := 3) sc__law_told.nd rfl (.inl rfl) (pe_mtx C_Putby_price_falls_2 T_Putby.cl (hr.mono (by decide)) tk (pv 0) (pa_cons (pv 5) (pa_cons (pe_ix (kk_ixt K) (pv 1) pe_int (fun _ _ => rfl)) pa_nil)))))
                     (pss_one (ps_set (i := 3) sc__law_told.nd rfl (.inl rfl) (pe_mtx C_Putby_pass_to_1 T_Putby.cl (hr.mono (by decide)) tk (pv 0) (pa_cons (pv 5) pa_nil)))))))))))
          (fun _ _ _ _ _ _ _ => (pss_one (ps_set (i := 2) sc__law_told.nd rfl (.inl rfl) (pv 6)))))
      (pss_cons (ps_if (pt_cmpR op_isN (pv 2) pe_non (nomark _))
         (pss_one (ps_ret (pv 3)))
         pss_nil)
      (pss_cons (ps_set (i := 7) sc__law_told.nd rfl (.inl rfl) (pe_lst (pa_cons (pe_callB (kk_isEr K) (by rfl) m_isinstance (by decide +kernel) (pa_cons (pv 2) (pa_cons (pe_glob (v := .ref CC.n) (by rfl) TE.n.g rfl) pa_nil))) (pa_cons (pe_callB (kk_isEr K) (by rfl) m_isinstance (by decide +kernel) (pa_cons (pv 2) (pa_cons (pe_glob (v := .ref CC.i) (by rfl) TE.i.g rfl) pa_nil))) pa_nil))))
      (pss_cons (ps_set (i := 8) sc__law_told.nd rfl (.inl rfl) (pe_callB (kk_isErT K) (by rfl) m_isinstance (by decide +kernel) (pa_cons (pv 2) (pa_cons (pe_tup (pa_cons (pe_glob (v := .ref CC.o1) (by rfl) TE.g1 rfl) (pa_cons (pe_glob (v := .ref CC.o2) (by rfl) TE.g2 rfl) (pa_cons (pe_glob (v := .ref CC.o3) (by rfl) TE.g3 rfl) (pa_cons (pe_glob (v := .ref CC.o4) (by rfl) TE.g4 rfl) (pa_cons (pe_glob (v := .ref CC.o5) (by rfl) TE.g5 rfl) (pa_cons (pe_glob (v := .ref CC.o6) (by rfl) TE.g6 rfl) pa_nil))))))) pa_nil))))
      (pss_cons (ps_if (PW.pt (pw_or (pt_val (pv 8)) (pw_or (pt_cmpR op_ne (pe_bm PySem.F.plainAttrs_list PySem.F.slot_list_count PySem.F.type_list_count (mt_countB K) (pv 7) (pa_cons pe_bl pa_nil)) pe_int (nomark _)) (pw_or1 (pt_not (pt_val (pe_callB (kk_isEr K) (by rfl) m_isinstance (by decide +kernel) (pa_cons (pv 2) (pa_cons (pe_bltn (v := .ty "ValueError") (by rfl) m_ValueError (by decide +kernel) rfl) pa_nil)))))))))
         (pss_one (ps_ret pe_str))
         pss_nil)
      (pss_one (ps_ret (pe_ix (kk_ixl K) (pe_lst (pa_cons pe_str (pa_cons pe_str pa_nil))) (pe_bm PySem.F.plainAttrs_list PySem.F.slot_list_index PySem.F.type_list_index mt_index (pv 7) (pa_cons pe_bl pa_nil)) (fun _ _ => rfl)))))))))), ?_⟩
    obtain ⟨c, hP, hc⟩ := id hA
    obtain ⟨dx, ct, h1, h2, h3, h5, h6⟩ := id hP
    obtain ⟨rr, rfl, hr'⟩ := deed_head hV
    refine ⟨_, rfl, t, _, _, _, rfl, rfl, hT, atI_nat (j := 0) rfl, _, rfl, t, _, _, _, rfl, rfl, hT, atI_nat (j := 1) rfl, (by show 4 ≤ sizeLine; decide), fun t1 n1 => ?_⟩
    have s1 := same_new (o := .tup [.non, .non, .str (dW D), .int D.day]) n1
    have hA1 := hA.same s1
    have hT1 := seqT_same s1 hT
    have hx1 := s1 _ _ h1
    have ht1 := upd_same (H := H) (a := t1) (o := .tup [V.non, V.non, V.str (dW D), V.int D.day])
    refine ⟨t1, _, rfl, SqT.of ht1, rfl, _, _, rfl, _, _, rfl, _, _, rfl, _, _, rfl, rfl, ?_⟩
    have nb : ∀ {pk' : Addr}, (upd H t1 (.tup [V.non, V.non, V.str (dW D), V.int D.day])) pk' = none → H pk' = none := fun h => none_of s1 h
    have nbx : ∀ {y : Str}, y ∉ (["rule", "asked", "begin", "passed", "course", "paid_in", "paid_back"] : List Str) → (pbF r M ct pi pk).lookup y = none := fun h => b0 h
    generalize hG0 : upd H t1 (.tup [V.non, V.non, V.str (dW D), V.int D.day]) = Gc at *
    cases D with
    | pay d who =>
      have hdv : (V.str (dW (.pay d who)) :: V.int (Deed.day (.pay d who)) :: rr) = [.str (Str.ofString "pay"), .int d, .str who] := hV
      have hr2 : rr = [.str who] := (List.cons.inj (List.cons.inj hdv).2).2
      subst hr2
      refine ⟨_, rfl, rfl, _, rfl, ?_⟩
      rw [show decide (V.str (dW (.pay d who)) = V.str (Str.ofString "pay")) = true from decide_eq_true rfl]
      refine iteT ⟨_, rfl, x, dx, _, rfl, hx1, nbx (by decide +kernel), _, rfl, _, rfl, t, _, _, _, rfl, rfl, hT1, rfl, x, r, pi, pk, d, who, f', M, rfl, hA1, ik, ok, fo, fun z => ?_, fun z hn H2 s2' => ?_, fun z he H2 fr2 h2' => ?_⟩
      · have sCur := s1
        have fin : ∀ G, Same H G → Q (.str (Str.ofString "day")) G := fun G sG => by
          have e : didM f' M (.pay d who) = (M, .str (Str.ofString "day")) := by
            unfold didM
            exact if_pos z
          rw [e] at q
          exact q G pk (.inl rfl) (Fr.of sG) (hA.same sG)
        refine ⟨TE.xn, fun a ha => ⟨_, rfl, ?_⟩⟩
        have sE := sCur.trans (same_new (o := ErO (.ref CC.n) none a) ha)
        have hE : (upd _ a (ErO (.ref CC.n) none a)) a = some (ErO (.ref CC.n) none a) := upd_same (H := Gc)
        refine ⟨_, rfl, rfl, _, rfl, iteF ?_⟩
        refine ⟨_, rfl, a, CC.n, _, _, true, rfl, TE.n.ec, hE, fun _ h => h, TE.nn, _, rfl, a, CC.n, _, _, false, rfl, TE.n.ec, hE, fun _ h => h, TE.ni, (by show 2 ≤ sizeLine; decide), fun l nl => ?_⟩
        have s2 := same_new (o := .lst [.bl true, .bl false]) nl
        refine ⟨_, rfl, (by show 6 ≤ sizeLine; decide), fun tp ntp => ⟨a, CC.n, tp, [CC.o1, CC.o2, CC.o3, CC.o4, CC.o5, CC.o6], false, rfl, TE.n.ec, same_new ntp _ _ (s2 _ _ hE), SqT.of upd_same, TE.no, ?_⟩⟩
        have s3 := same_new (o := .tup [.ref CC.o1, .ref CC.o2, .ref CC.o3, .ref CC.o4, .ref CC.o5, .ref CC.o6]) ntp
        have hl : (upd (upd (upd Gc a (ErO (.ref CC.n) none a)) l (.lst [.bl true, .bl false])) tp (.tup [.ref CC.o1, .ref CC.o2, .ref CC.o3, .ref CC.o4, .ref CC.o5, .ref CC.o6])) l = some (.lst [.bl true, .bl false]) := s3 _ _ upd_same
        have hE3 := s3 _ _ (s2 _ _ hE)
        have s23 := (sE.trans s2).trans s3
        refine ⟨_, rfl, _, rfl, iteF ⟨_, rfl, .inl ⟨rfl, _, SqL.of hl⟩, l, [true, false], rfl, rfl, SqL.of hl, rfl, _, rfl, iteF ⟨_, rfl, a, CC.n, _, _, true, rfl, TE.n.ec, hE3, fun _ h => h, TE.nv, _, rfl, iteF ?_⟩⟩⟩
        refine ⟨(by show 2 ≤ sizeLine; decide), fun l4 nl4 => ?_⟩
        have s4 := same_new (o := .lst [.str (Str.ofString "day"), .str (Str.ofString "idle")]) nl4
        refine ⟨_, rfl, .inl ⟨rfl, _, SqL.of (s4 _ _ hl)⟩, l, _, .bl true, 0, .bl true, rfl, rfl, SqL.of (s4 _ _ hl), rfl, rfl, rfl, rfl, fun j z' hj hz => ?_, l4, _, _, _, rfl, rfl, SqL.of upd_same, rfl, fin _ (s23.trans s4)⟩
        exact absurd hj (Nat.not_lt_zero j)
      · have sCur := s1.trans s2'
        have fin : ∀ G, Same H G → Q (.str (Str.ofString "idle")) G := fun G sG => by
          have e : didM f' M (.pay d who) = (M, .str (Str.ofString "idle")) := by
            unfold didM
            rw [if_neg (show ¬ Deed.day (.pay d who) < M.day by show ¬ d < M.day; omega)]
            dsimp only
            rw [if_neg hn]
          rw [e] at q
          exact q G pk (.inl rfl) (Fr.of sG) (hA.same sG)
        clear hG0 hA1 hT1 hx1 ht1 s1 s2' nb n1
        generalize H2 = Gc at *
        refine ⟨TE.xi, fun a ha => ⟨_, rfl, ?_⟩⟩
        have sE := sCur.trans (same_new (o := ErO (.ref CC.i) none a) ha)
        have hE : (upd _ a (ErO (.ref CC.i) none a)) a = some (ErO (.ref CC.i) none a) := upd_same (H := Gc)
        refine ⟨_, rfl, rfl, _, rfl, iteF ?_⟩
        refine ⟨_, rfl, a, CC.i, _, _, false, rfl, TE.i.ec, hE, fun _ h => h, TE.iN, _, rfl, a, CC.i, _, _, true, rfl, TE.i.ec, hE, fun _ h => h, TE.ii, (by show 2 ≤ sizeLine; decide), fun l nl => ?_⟩
        have s2 := same_new (o := .lst [.bl false, .bl true]) nl
        refine ⟨_, rfl, (by show 6 ≤ sizeLine; decide), fun tp ntp => ⟨a, CC.i, tp, [CC.o1, CC.o2, CC.o3, CC.o4, CC.o5, CC.o6], false, rfl, TE.i.ec, same_new ntp _ _ (s2 _ _ hE), SqT.of upd_same, TE.io, ?_⟩⟩
        have s3 := same_new (o := .tup [.ref CC.o1, .ref CC.o2, .ref CC.o3, .ref CC.o4, .ref CC.o5, .ref CC.o6]) ntp
        have hl : (upd (upd (upd Gc a (ErO (.ref CC.i) none a)) l (.lst [.bl false, .bl true])) tp (.tup [.ref CC.o1, .ref CC.o2, .ref CC.o3, .ref CC.o4, .ref CC.o5, .ref CC.o6])) l = some (.lst [.bl false, .bl true]) := s3 _ _ upd_same
        have hE3 := s3 _ _ (s2 _ _ hE)
        have s23 := (sE.trans s2).trans s3
        refine ⟨_, rfl, _, rfl, iteF ⟨_, rfl, .inl ⟨rfl, _, SqL.of hl⟩, l, [false, true], rfl, rfl, SqL.of hl, rfl, _, rfl, iteF ⟨_, rfl, a, CC.i, _, _, true, rfl, TE.i.ec, hE3, fun _ h => h, TE.iv, _, rfl, iteF ?_⟩⟩⟩
        refine ⟨(by show 2 ≤ sizeLine; decide), fun l4 nl4 => ?_⟩
        have s4 := same_new (o := .lst [.str (Str.ofString "day"), .str (Str.ofString "idle")]) nl4
        refine ⟨_, rfl, .inl ⟨rfl, _, SqL.of (s4 _ _ hl)⟩, l, _, .bl true, 1, .bl true, rfl, rfl, SqL.of (s4 _ _ hl), rfl, rfl, rfl, rfl, fun j z' hj hz => ?_, l4, _, _, _, rfl, rfl, SqL.of upd_same, rfl, fin _ (s23.trans s4)⟩
        have j0 : j = 0 := by omega
        subst j0
        cases (Option.some.inj hz)
        rfl
      · have e : didM f' M (.pay d who) = (paidM f' (toM f' M d) d who, .int (nextP f' (toM f' M d))) := by
          unfold didM
          rw [if_neg (show ¬ Deed.day (.pay d who) < M.day by show ¬ d < M.day; omega)]
          dsimp only
          rw [if_pos he]
        rw [e] at q
        exact ⟨_, rfl, rfl, _, rfl, iteT ⟨_, rfl, q H2 pk (.inl rfl) ((Fr.of s1).trans fr2) h2'⟩⟩
    | up d =>
      refine ⟨_, rfl, rfl, _, rfl, ?_⟩
      rw [show decide (V.str (dW (.up d)) = V.str (Str.ofString "pay")) = false from (by decide +kernel : decide (V.str (Str.ofString "up") = V.str (Str.ofString "pay")) = false)]
      refine iteF ⟨_, rfl, rfl, _, rfl, ?_⟩
      rw [show decide (V.str (dW (.up d)) = V.str (Str.ofString "up")) = true from decide_eq_true rfl]
      refine iteT ⟨_, rfl, x, dx, _, rfl, hx1, nbx (by decide +kernel), _, rfl, x, r, pi, pk, d, f', M, rfl, hA1, ok, fo, fun z => ?_, fun z hn H2 s2' => ?_, fun z he H2 pk2 k2 t2 h2' => ?_⟩
      · have sCur := s1
        have fin : ∀ G, Same H G → Q (.str (Str.ofString "day")) G := fun G sG => by
          have e : didM f' M (.up d) = (M, .str (Str.ofString "day")) := by
            unfold didM
            exact if_pos z
          rw [e] at q
          exact q G pk (.inl rfl) (Fr.of sG) (hA.same sG)
        refine ⟨TE.xn, fun a ha => ⟨_, rfl, ?_⟩⟩
        have sE := sCur.trans (same_new (o := ErO (.ref CC.n) none a) ha)
        have hE : (upd _ a (ErO (.ref CC.n) none a)) a = some (ErO (.ref CC.n) none a) := upd_same (H := Gc)
        refine ⟨_, rfl, rfl, _, rfl, iteF ?_⟩
        refine ⟨_, rfl, a, CC.n, _, _, true, rfl, TE.n.ec, hE, fun _ h => h, TE.nn, _, rfl, a, CC.n, _, _, false, rfl, TE.n.ec, hE, fun _ h => h, TE.ni, (by show 2 ≤ sizeLine; decide), fun l nl => ?_⟩
        have s2 := same_new (o := .lst [.bl true, .bl false]) nl
        refine ⟨_, rfl, (by show 6 ≤ sizeLine; decide), fun tp ntp => ⟨a, CC.n, tp, [CC.o1, CC.o2, CC.o3, CC.o4, CC.o5, CC.o6], false, rfl, TE.n.ec, same_new ntp _ _ (s2 _ _ hE), SqT.of upd_same, TE.no, ?_⟩⟩
        have s3 := same_new (o := .tup [.ref CC.o1, .ref CC.o2, .ref CC.o3, .ref CC.o4, .ref CC.o5, .ref CC.o6]) ntp
        have hl : (upd (upd (upd Gc a (ErO (.ref CC.n) none a)) l (.lst [.bl true, .bl false])) tp (.tup [.ref CC.o1, .ref CC.o2, .ref CC.o3, .ref CC.o4, .ref CC.o5, .ref CC.o6])) l = some (.lst [.bl true, .bl false]) := s3 _ _ upd_same
        have hE3 := s3 _ _ (s2 _ _ hE)
        have s23 := (sE.trans s2).trans s3
        refine ⟨_, rfl, _, rfl, iteF ⟨_, rfl, .inl ⟨rfl, _, SqL.of hl⟩, l, [true, false], rfl, rfl, SqL.of hl, rfl, _, rfl, iteF ⟨_, rfl, a, CC.n, _, _, true, rfl, TE.n.ec, hE3, fun _ h => h, TE.nv, _, rfl, iteF ?_⟩⟩⟩
        refine ⟨(by show 2 ≤ sizeLine; decide), fun l4 nl4 => ?_⟩
        have s4 := same_new (o := .lst [.str (Str.ofString "day"), .str (Str.ofString "idle")]) nl4
        refine ⟨_, rfl, .inl ⟨rfl, _, SqL.of (s4 _ _ hl)⟩, l, _, .bl true, 0, .bl true, rfl, rfl, SqL.of (s4 _ _ hl), rfl, rfl, rfl, rfl, fun j z' hj hz => ?_, l4, _, _, _, rfl, rfl, SqL.of upd_same, rfl, fin _ (s23.trans s4)⟩
        exact absurd hj (Nat.not_lt_zero j)
      · have sCur := s1.trans s2'
        have fin : ∀ G, Same H G → Q (.str (Str.ofString "idle")) G := fun G sG => by
          have e : didM f' M (.up d) = (M, .str (Str.ofString "idle")) := by
            unfold didM
            rw [if_neg (show ¬ Deed.day (.up d) < M.day by show ¬ d < M.day; omega)]
            dsimp only
            rw [if_neg hn]
          rw [e] at q
          exact q G pk (.inl rfl) (Fr.of sG) (hA.same sG)
        clear hG0 hA1 hT1 hx1 ht1 s1 s2' nb n1
        generalize H2 = Gc at *
        refine ⟨TE.xi, fun a ha => ⟨_, rfl, ?_⟩⟩
        have sE := sCur.trans (same_new (o := ErO (.ref CC.i) none a) ha)
        have hE : (upd _ a (ErO (.ref CC.i) none a)) a = some (ErO (.ref CC.i) none a) := upd_same (H := Gc)
        refine ⟨_, rfl, rfl, _, rfl, iteF ?_⟩
        refine ⟨_, rfl, a, CC.i, _, _, false, rfl, TE.i.ec, hE, fun _ h => h, TE.iN, _, rfl, a, CC.i, _, _, true, rfl, TE.i.ec, hE, fun _ h => h, TE.ii, (by show 2 ≤ sizeLine; decide), fun l nl => ?_⟩
        have s2 := same_new (o := .lst [.bl false, .bl true]) nl
        refine ⟨_, rfl, (by show 6 ≤ sizeLine; decide), fun tp ntp => ⟨a, CC.i, tp, [CC.o1, CC.o2, CC.o3, CC.o4, CC.o5, CC.o6], false, rfl, TE.i.ec, same_new ntp _ _ (s2 _ _ hE), SqT.of upd_same, TE.io, ?_⟩⟩
        have s3 := same_new (o := .tup [.ref CC.o1, .ref CC.o2, .ref CC.o3, .ref CC.o4, .ref CC.o5, .ref CC.o6]) ntp
        have hl : (upd (upd (upd Gc a (ErO (.ref CC.i) none a)) l (.lst [.bl false, .bl true])) tp (.tup [.ref CC.o1, .ref CC.o2, .ref CC.o3, .ref CC.o4, .ref CC.o5, .ref CC.o6])) l = some (.lst [.bl false, .bl true]) := s3 _ _ upd_same
        have hE3 := s3 _ _ (s2 _ _ hE)
        have s23 := (sE.trans s2).trans s3
        refine ⟨_, rfl, _, rfl, iteF ⟨_, rfl, .inl ⟨rfl, _, SqL.of hl⟩, l, [false, true], rfl, rfl, SqL.of hl, rfl, _, rfl, iteF ⟨_, rfl, a, CC.i, _, _, true, rfl, TE.i.ec, hE3, fun _ h => h, TE.iv, _, rfl, iteF ?_⟩⟩⟩
        refine ⟨(by show 2 ≤ sizeLine; decide), fun l4 nl4 => ?_⟩
        have s4 := same_new (o := .lst [.str (Str.ofString "day"), .str (Str.ofString "idle")]) nl4
        refine ⟨_, rfl, .inl ⟨rfl, _, SqL.of (s4 _ _ hl)⟩, l, _, .bl true, 1, .bl true, rfl, rfl, SqL.of (s4 _ _ hl), rfl, rfl, rfl, rfl, fun j z' hj hz => ?_, l4, _, _, _, rfl, rfl, SqL.of upd_same, rfl, fin _ (s23.trans s4)⟩
        have j0 : j = 0 := by omega
        subst j0
        cases (Option.some.inj hz)
        rfl
      · have e : didM f' M (.up d) = (upM f' (toM f' M d) d, .non) := by
          unfold didM
          rw [if_neg (show ¬ Deed.day (.up d) < M.day by show ¬ d < M.day; omega)]
          dsimp only
          rw [if_pos he]
        rw [e] at q
        exact ⟨_, rfl, rfl, _, rfl, iteT ⟨_, rfl, q H2 pk2 (k2.imp id nb) ((Fr.of s1).trans (Fr.but t2 (by simp))) h2'⟩⟩
    | fall d price =>
      have hdv : (V.str (dW (.fall d price)) :: V.int (Deed.day (.fall d price)) :: rr) = [.str (Str.ofString "fall"), .int d, .int price] := hV.1
      have hr2 : rr = [.int price] := (List.cons.inj (List.cons.inj hdv).2).2
      subst hr2
      refine ⟨_, rfl, rfl, _, rfl, ?_⟩
      rw [show decide (V.str (dW (.fall d price)) = V.str (Str.ofString "pay")) = false from (by decide +kernel : decide (V.str (Str.ofString "fall") = V.str (Str.ofString "pay")) = false)]
      refine iteF ⟨_, rfl, rfl, _, rfl, ?_⟩
      rw [show decide (V.str (dW (.fall d price)) = V.str (Str.ofString "up")) = false from (by decide +kernel : decide (V.str (Str.ofString "fall") = V.str (Str.ofString "up")) = false)]
      refine iteF ⟨_, rfl, rfl, _, rfl, ?_⟩
      rw [show decide (V.str (dW (.fall d price)) = V.str (Str.ofString "fall")) = true from decide_eq_true rfl]
      refine iteT ⟨_, rfl, x, dx, _, rfl, hx1, nbx (by decide +kernel), _, rfl, _, rfl, t, _, _, _, rfl, rfl, hT1, rfl, x, r, pi, pk, d, price, f', M, rfl, hA1, ok, fo, fun z => ?_, fun z H2 pk2 k2 t2 h2' => ?_⟩
      · have sCur := s1
        have fin : ∀ G, Same H G → Q (.str (Str.ofString "day")) G := fun G sG => by
          have e : didM f' M (.fall d price) = (M, .str (Str.ofString "day")) := by
            unfold didM
            exact if_pos z
          rw [e] at q
          exact q G pk (.inl rfl) (Fr.of sG) (hA.same sG)
        refine ⟨TE.xn, fun a ha => ⟨_, rfl, ?_⟩⟩
        have sE := sCur.trans (same_new (o := ErO (.ref CC.n) none a) ha)
        have hE : (upd _ a (ErO (.ref CC.n) none a)) a = some (ErO (.ref CC.n) none a) := upd_same (H := Gc)
        refine ⟨_, rfl, rfl, _, rfl, iteF ?_⟩
        refine ⟨_, rfl, a, CC.n, _, _, true, rfl, TE.n.ec, hE, fun _ h => h, TE.nn, _, rfl, a, CC.n, _, _, false, rfl, TE.n.ec, hE, fun _ h => h, TE.ni, (by show 2 ≤ sizeLine; decide), fun l nl => ?_⟩
        have s2 := same_new (o := .lst [.bl true, .bl false]) nl
        refine ⟨_, rfl, (by show 6 ≤ sizeLine; decide), fun tp ntp => ⟨a, CC.n, tp, [CC.o1, CC.o2, CC.o3, CC.o4, CC.o5, CC.o6], false, rfl, TE.n.ec, same_new ntp _ _ (s2 _ _ hE), SqT.of upd_same, TE.no, ?_⟩⟩
        have s3 := same_new (o := .tup [.ref CC.o1, .ref CC.o2, .ref CC.o3, .ref CC.o4, .ref CC.o5, .ref CC.o6]) ntp
        have hl : (upd (upd (upd Gc a (ErO (.ref CC.n) none a)) l (.lst [.bl true, .bl false])) tp (.tup [.ref CC.o1, .ref CC.o2, .ref CC.o3, .ref CC.o4, .ref CC.o5, .ref CC.o6])) l = some (.lst [.bl true, .bl false]) := s3 _ _ upd_same
        have hE3 := s3 _ _ (s2 _ _ hE)
        have s23 := (sE.trans s2).trans s3
        refine ⟨_, rfl, _, rfl, iteF ⟨_, rfl, .inl ⟨rfl, _, SqL.of hl⟩, l, [true, false], rfl, rfl, SqL.of hl, rfl, _, rfl, iteF ⟨_, rfl, a, CC.n, _, _, true, rfl, TE.n.ec, hE3, fun _ h => h, TE.nv, _, rfl, iteF ?_⟩⟩⟩
        refine ⟨(by show 2 ≤ sizeLine; decide), fun l4 nl4 => ?_⟩
        have s4 := same_new (o := .lst [.str (Str.ofString "day"), .str (Str.ofString "idle")]) nl4
        refine ⟨_, rfl, .inl ⟨rfl, _, SqL.of (s4 _ _ hl)⟩, l, _, .bl true, 0, .bl true, rfl, rfl, SqL.of (s4 _ _ hl), rfl, rfl, rfl, rfl, fun j z' hj hz => ?_, l4, _, _, _, rfl, rfl, SqL.of upd_same, rfl, fin _ (s23.trans s4)⟩
        exact absurd hj (Nat.not_lt_zero j)
      · have e : didM f' M (.fall d price) = (fallM f' (toM f' M d) d price, .non) := by
          unfold didM
          rw [if_neg (show ¬ Deed.day (.fall d price) < M.day by show ¬ d < M.day; omega)]
        rw [e] at q
        exact ⟨_, rfl, rfl, _, rfl, iteT ⟨_, rfl, q H2 pk2 (k2.imp id nb) ((Fr.of s1).trans (Fr.but t2 (by simp))) h2'⟩⟩
    | pass d =>
      refine ⟨_, rfl, rfl, _, rfl, ?_⟩
      rw [show decide (V.str (dW (.pass d)) = V.str (Str.ofString "pay")) = false from (by decide +kernel : decide (V.str (Str.ofString "pass") = V.str (Str.ofString "pay")) = false)]
      refine iteF ⟨_, rfl, rfl, _, rfl, ?_⟩
      rw [show decide (V.str (dW (.pass d)) = V.str (Str.ofString "up")) = false from (by decide +kernel : decide (V.str (Str.ofString "pass") = V.str (Str.ofString "up")) = false)]
      refine iteF ⟨_, rfl, rfl, _, rfl, ?_⟩
      rw [show decide (V.str (dW (.pass d)) = V.str (Str.ofString "fall")) = false from (by decide +kernel : decide (V.str (Str.ofString "pass") = V.str (Str.ofString "fall")) = false)]
      refine iteF ⟨_, rfl, x, dx, _, rfl, hx1, nbx (by decide +kernel), _, rfl, x, r, pi, pk, d, f', M, rfl, hA1, ok, fo, fun z => ?_, fun z H2 pk2 k2 t2 h2' => ?_⟩
      · have sCur := s1
        have fin : ∀ G, Same H G → Q (.str (Str.ofString "day")) G := fun G sG => by
          have e : didM f' M (.pass d) = (M, .str (Str.ofString "day")) := by
            unfold didM
            exact if_pos z
          rw [e] at q
          exact q G pk (.inl rfl) (Fr.of sG) (hA.same sG)
        refine ⟨TE.xn, fun a ha => ⟨_, rfl, ?_⟩⟩
        have sE := sCur.trans (same_new (o := ErO (.ref CC.n) none a) ha)
        have hE : (upd _ a (ErO (.ref CC.n) none a)) a = some (ErO (.ref CC.n) none a) := upd_same (H := Gc)
        refine ⟨_, rfl, rfl, _, rfl, iteF ?_⟩
        refine ⟨_, rfl, a, CC.n, _, _, true, rfl, TE.n.ec, hE, fun _ h => h, TE.nn, _, rfl, a, CC.n, _, _, false, rfl, TE.n.ec, hE, fun _ h => h, TE.ni, (by show 2 ≤ sizeLine; decide), fun l nl => ?_⟩
        have s2 := same_new (o := .lst [.bl true, .bl false]) nl
        refine ⟨_, rfl, (by show 6 ≤ sizeLine; decide), fun tp ntp => ⟨a, CC.n, tp, [CC.o1, CC.o2, CC.o3, CC.o4, CC.o5, CC.o6], false, rfl, TE.n.ec, same_new ntp _ _ (s2 _ _ hE), SqT.of upd_same, TE.no, ?_⟩⟩
        have s3 := same_new (o := .tup [.ref CC.o1, .ref CC.o2, .ref CC.o3, .ref CC.o4, .ref CC.o5, .ref CC.o6]) ntp
        have hl : (upd (upd (upd Gc a (ErO (.ref CC.n) none a)) l (.lst [.bl true, .bl false])) tp (.tup [.ref CC.o1, .ref CC.o2, .ref CC.o3, .ref CC.o4, .ref CC.o5, .ref CC.o6])) l = some (.lst [.bl true, .bl false]) := s3 _ _ upd_same
        have hE3 := s3 _ _ (s2 _ _ hE)
        have s23 := (sE.trans s2).trans s3
        refine ⟨_, rfl, _, rfl, iteF ⟨_, rfl, .inl ⟨rfl, _, SqL.of hl⟩, l, [true, false], rfl, rfl, SqL.of hl, rfl, _, rfl, iteF ⟨_, rfl, a, CC.n, _, _, true, rfl, TE.n.ec, hE3, fun _ h => h, TE.nv, _, rfl, iteF ?_⟩⟩⟩
        refine ⟨(by show 2 ≤ sizeLine; decide), fun l4 nl4 => ?_⟩
        have s4 := same_new (o := .lst [.str (Str.ofString "day"), .str (Str.ofString "idle")]) nl4
        refine ⟨_, rfl, .inl ⟨rfl, _, SqL.of (s4 _ _ hl)⟩, l, _, .bl true, 0, .bl true, rfl, rfl, SqL.of (s4 _ _ hl), rfl, rfl, rfl, rfl, fun j z' hj hz => ?_, l4, _, _, _, rfl, rfl, SqL.of upd_same, rfl, fin _ (s23.trans s4)⟩
        exact absurd hj (Nat.not_lt_zero j)
      · have e : didM f' M (.pass d) = (toM f' M d, .non) := by
          unfold didM
          rw [if_neg (show ¬ Deed.day (.pass d) < M.day by show ¬ d < M.day; omega)]
        rw [e] at q
        exact ⟨_, rfl, rfl, _, rfl, iteT ⟨_, rfl, q H2 pk2 (k2.imp id nb) ((Fr.of s1).trans (Fr.but t2 (by simp))) h2'⟩⟩
theorem depthAll_pr : ∀ l : List Pr, PyData.depthAll (l.map prD) ≤ 2
  | [] => by simp [PyData.depthAll]
  | q :: r => by
    have h := depthAll_pr r
    simp only [List.map_cons, PyData.depthAll, prD, PyData.depth]
    omega
theorem thinAll_pr : ∀ l : List Pr, thinAll (l.map prD) = true
  | [] => by simp [thinAll]
  | q :: r => by
    have h := thinAll_pr r
    simp only [List.map_cons, thinAll, prD, thin, List.length_cons, List.length_nil, h, Bool.and_true]
    exact decide_eq_true (by omega)
theorem depth_st (M : Md) : PyData.depth (stD M) ≤ 2 ∧ thin (stD M) = true := by
  unfold stD
  rcases en_or M with e | ⟨w, d, e⟩
  · rw [e]
    exact ⟨by simp [PyData.depth, PyData.depthAll], by simp [thin, thinAll]⟩
  · rw [e]
    exact ⟨by simp [PyData.depth, PyData.depthAll], by simp [thin, thinAll]⟩
theorem depth_last (f : Fg) (M : Md) : PyData.depth (lastD f M) ≤ 1 ∧ thin (lastD f M) = true := by
  unfold lastD
  split
  · exact ⟨by simp [PyData.depth], by simp [thin]⟩
  · exact ⟨by simp [PyData.depth], by simp [thin]⟩
theorem depth_due {f : Fg} {M : Md} : PyData.depth (dueD f M) ≤ 4 := by
  have h1 := (depth_st M).1
  have h2 := (depth_last f M).1
  have h3 := depthAll_pr M.backs
  have h4 := depthAll_pr M.pays
  unfold dueD
  simp only [PyData.depth, PyData.depthAll]
  omega
theorem thin_due {f : Fg} {M : Md} (h1 : M.backs.length ≤ 1000) (h2 : M.pays.length ≤ 1000) : thin (dueD f M) = true := by
  unfold dueD
  simp only [thin, thinAll, (depth_st M).2, (depth_last f M).2, thinAll_pr, List.length_map, decide_eq_true h1, decide_eq_true h2, List.length_cons, List.length_nil, Bool.and_true]
  exact decide_eq_true (by omega)
/-- a ware put by beside what the law knows of it, and the numbers drawn from -/
structure Ware (K : PySem.W.Frag) (C : Cl) (H : Hp) (b x r pi m fa pk pa ba : Addr) (f : Fg) (M : Md) (n : Int) : Prop where
  tri : Tri H b n
  fg : FgAt K H fa f
  pb : PbAt K C H x r pi pk f M
  md : MdAt K H m fa M pa ba
  fo : f.Ok
  ok : M.Ok f
  ik : pi ≠ pk
  bi : b ≠ pi
  bk : b ≠ pk
  bp : b ≠ pa
  bb : b ≠ ba
  ip : pi ≠ pa
  ib : pi ≠ ba
section
variable {K : PySem.W.Frag} {C : Cl} {H H' : Hp} {b x r pi m fa pk pa ba : Addr} {f : Fg} {M : Md} {n n' : Int}
theorem tri_mu (h : Tri H b n) : Mu H [b] := fun c hc => by
  obtain ⟨_, _, _, h0, _⟩ := h
  rw [List.mem_singleton.mp hc]
  exact ⟨_, h0, trivial⟩
theorem pb_x (h : PbAt K C H x r pi pk f M) : ∃ dx fs, H x = some (.ins C.p dx fs) := by
  obtain ⟨c, ⟨dx, ct, h1, _⟩, _⟩ := h
  exact ⟨dx, _, h1⟩
theorem pb_r (h : PbAt K C H x r pi pk f M) : ∃ dx fs, H r = some (.ins C.r dx fs) := by
  obtain ⟨c, ⟨dx, ct, h1, ⟨d2, kt, h2, _⟩, _⟩, _⟩ := h
  exact ⟨d2, _, h2⟩
theorem pb_i (h : PbAt K C H x r pi pk f M) : ∃ xs, H pi = some (.lst xs) := by
  obtain ⟨c, ⟨dx, ct, h1, h2, h3, ⟨L, h5, _⟩, _⟩, _⟩ := h
  exact ⟨_, h5⟩
theorem pb_k (h : PbAt K C H x r pi pk f M) : ∃ xs, H pk = some (.lst xs) := by
  obtain ⟨c, ⟨dx, ct, h1, h2, h3, h5, ⟨L, h6, _⟩⟩, _⟩ := h
  exact ⟨_, h6⟩
theorem pb_rx (h : PbAt K C H x r pi pk f M) : r ≠ x := by
  obtain ⟨c, ⟨dx, ct, h1, h2, _⟩, _⟩ := h
  exact rule_ne h2 h1
theorem md_m (h : MdAt K H m fa M pa ba) : ∃ kvs, H m = some (.dK kvs) := by
  obtain ⟨en, ⟨h1, _⟩, _⟩ := h
  exact ⟨_, h1⟩
theorem md_p (h : MdAt K H m fa M pa ba) : ∃ xs, H pa = some (.lst xs) := by
  obtain ⟨en, ⟨h1, ⟨L, h2, _⟩, _⟩, _⟩ := h
  exact ⟨_, h2⟩
theorem md_b (h : MdAt K H m fa M pa ba) : ∃ xs, H ba = some (.lst xs) := by
  obtain ⟨en, ⟨h1, _, ⟨L, h2, _⟩⟩, _⟩ := h
  exact ⟨_, h2⟩
theorem ne1 {a c : Addr} {o o' : HO} (h : H a = some o) (h' : H c = some o') (hn : o ≠ o') : a ∉ [c] := fun e => by
  rw [List.mem_singleton.mp e, h'] at h
  exact hn (Option.some.inj h).symm
theorem ne_of1 {a c : Addr} (h : a ≠ c) : a ∉ [c] := fun e => h (List.mem_singleton.mp e)
theorem Ware.pick (h : Ware K C H b x r pi m fa pk pa ba f M n) (t : But b H H') (hb : Tri H' b n') : Ware K C H' b x r pi m fa pk pa ba f M n' := by
  have mu := tri_mu h.tri
  have fr := but_fr t
  obtain ⟨_, _, _, hb0, _⟩ := h.tri
  obtain ⟨_, _, hx⟩ := pb_x h.pb
  obtain ⟨_, _, hr⟩ := pb_r h.pb
  obtain ⟨_, hm⟩ := md_m h.md
  exact ⟨hb, h.fg.fr fr mu, h.pb.fr fr mu (ne1 hx hb0 (fun z => nomatch z)) (ne1 hr hb0 (fun z => nomatch z)) (ne_of1 h.bi.symm) (ne_of1 h.bk.symm), h.md.fr fr mu (ne1 hm hb0 (fun z => nomatch z)) (ne_of1 h.bp.symm) (ne_of1 h.bb.symm), h.fo, h.ok, h.ik, h.bi, h.bk, h.bp, h.bb, h.ip, h.ib⟩
theorem Ware.same (h : Ware K C H b x r pi m fa pk pa ba f M n) (s : Same H H') : Ware K C H' b x r pi m fa pk pa ba f M n := ⟨h.tri.same s, h.fg.same s, h.pb.same s, h.md.same s, h.fo, h.ok, h.ik, h.bi, h.bk, h.bp, h.bb, h.ip, h.ib⟩
theorem Ware.mono (h : Ware K C H b x r pi m fa pk pa ba f M n) (l : n ≤ n') : Ware K C H b x r pi m fa pk pa ba f M n' := ⟨h.tri.mono l, h.fg, h.pb, h.md, h.fo, h.ok, h.ik, h.bi, h.bk, h.bp, h.bb, h.ip, h.ib⟩
theorem pb_mu (h : PbAt K C H x r pi pk f M) : Mu H [x, pi] := fun c hc => by
  rcases List.mem_cons.mp hc with e | e
  · obtain ⟨_, _, hx⟩ := pb_x h
    rw [e]
    exact ⟨_, hx, trivial⟩
  · obtain ⟨_, hi⟩ := pb_i h
    rw [List.mem_singleton.mp e]
    exact ⟨_, hi, trivial⟩
theorem ne2 {a : Addr} {o : HO} (hP : PbAt K C H x r pi pk f M) (h : H a = some o) (h1 : ∀ dx fs, o ≠ .ins C.p dx fs) (h2 : a ≠ pi) : a ∉ [x, pi] := fun e => by
  rcases List.mem_cons.mp e with e | e
  · obtain ⟨dx, fs, hx⟩ := pb_x hP
    rw [e, hx] at h
    exact h1 dx fs (Option.some.inj h).symm
  · exact h2 (List.mem_singleton.mp e)
/-- the program's deed done: the law's side stays -/
theorem Ware.told (h : Ware K C H b x r pi m fa pk pa ba f M n) (t : Fr [x, pi] H H') : Tri H' b n ∧ FgAt K H' fa f ∧ MdAt K H' m fa M pa ba := by
  have mu := pb_mu h.pb
  obtain ⟨x0, c0, z0, hb0, hrest⟩ := id h.tri
  obtain ⟨_, hm⟩ := md_m h.md
  obtain ⟨_, hp⟩ := md_p h.md
  obtain ⟨_, hbb⟩ := md_b h.md
  obtain ⟨_, hi⟩ := pb_i h.pb
  refine ⟨⟨x0, c0, z0, t _ _ (ne2 h.pb hb0 (fun _ _ z => nomatch z) h.bi) hb0, hrest⟩, h.fg.fr t mu, h.md.fr t mu (ne2 h.pb hm (fun _ _ z => nomatch z) (fun e => ?_)) (ne2 h.pb hp (fun _ _ z => nomatch z) h.ip.symm) (ne2 h.pb hbb (fun _ _ z => nomatch z) h.ib.symm)⟩
  rw [e, hi] at hm
  cases hm
/-- the law's deed done: the program's side stays -/
theorem did_stays {M' : Md} {pk' : Addr} (hT : Tri H b n) (hF : FgAt K H fa f) (hM : MdAt K H m fa M pa ba) (hP : PbAt K C H x r pi pk' f M') (t : But m H H') : PbAt K C H' x r pi pk' f M' ∧ Tri H' b n ∧ FgAt K H' fa f := by
  obtain ⟨_, hm⟩ := md_m hM
  have mu : Mu H [m] := fun c hc => by
    rw [List.mem_singleton.mp hc]
    exact ⟨_, hm, trivial⟩
  obtain ⟨x0, c0, z0, hb0, hrest⟩ := id hT
  obtain ⟨_, _, hx⟩ := pb_x hP
  obtain ⟨_, _, hr⟩ := pb_r hP
  obtain ⟨_, hi⟩ := pb_i hP
  obtain ⟨_, hk⟩ := pb_k hP
  have fr := but_fr t
  exact ⟨hP.fr fr mu (ne1 hx hm (fun z => nomatch z)) (ne1 hr hm (fun z => nomatch z)) (ne1 hi hm (fun z => nomatch z)) (ne1 hk hm (fun z => nomatch z)), ⟨x0, c0, z0, fr _ _ (ne1 hb0 hm (fun z => nomatch z)) hb0, hrest⟩, hF.fr fr mu⟩
/-- some other list changed -/
theorem lst_stays {M' : Md} {pk' p : Addr} {xs : List V} {o : HO} (hp : H p = some (.lst xs)) (hT : Tri H b n) (hF : FgAt K H fa f) (hM : MdAt K H m fa M pa ba) (hP : PbAt K C H x r pi pk' f M') (n1 : b ≠ p) (n2 : pa ≠ p) (n3 : ba ≠ p) (n4 : pi ≠ p) (n5 : pk' ≠ p) : Tri (upd H p o) b n ∧ FgAt K (upd H p o) fa f ∧ MdAt K (upd H p o) m fa M pa ba ∧ PbAt K C (upd H p o) x r pi pk' f M' := by
  have mu : Mu H [p] := fun c hc => by
    rw [List.mem_singleton.mp hc]
    exact ⟨_, hp, trivial⟩
  have fr : Fr [p] H (upd H p o) := Fr.upd (List.mem_singleton_self p)
  obtain ⟨_, hm⟩ := md_m hM
  obtain ⟨_, _, hx⟩ := pb_x hP
  obtain ⟨_, _, hr⟩ := pb_r hP
  exact ⟨hT.upd n1.symm, hF.fr fr mu, hM.fr fr mu (ne1 hm hp (fun z => nomatch z)) (ne_of1 n2) (ne_of1 n3), hP.fr fr mu (ne1 hx hp (fun z => nomatch z)) (ne1 hr hp (fun z => nomatch z)) (ne_of1 n4) (ne_of1 n5)⟩
theorem newM_ok {price bg : Int} (fo : f.Ok) (h1 : 1 ≤ price) (h2 : price ≤ 1000000) (h3 : 0 ≤ bg) : Md.Ok f (newM price bg) := by
  have p0 := fo.figs.p0
  have g0 := fo.figs.g0
  have m0 := fo.figs.m0
  exact ⟨fun _ h => (nomatch h), h1, h2, h3, Int.le_refl _, rfl, Int.le_refl _, by show (0 : Int) ≤ f.p; omega, by show (0 : Nat) ≤ 6; omega, by show (0 : Int) ≤ 1000000; omega, fun _ => ⟨rfl, rfl, by show (0 : Int) ≤ price; omega, by show (0 : Int) < f.p; omega, Int.le_refl _, m0, by show bg ≤ bg + f.g; omega⟩, fun w d e => (nomatch e)⟩
theorem But.fr {G G2 : Hp} {z : List Addr} (t : But b H G) (fr : Fr z G G2) (hz : ∀ c ∈ z, H c = none ∨ c = b) : But b H G2 := fun c o nc hc => fr c o (fun e => by
  rcases hz c e with y | y
  · rw [y] at hc
    cases hc
  · exact nc y) (t c o nc hc)
theorem ne_some {a c : Addr} {o : HO} (h : H a = some o) (hc : H c = none) : a ≠ c := fun e => by
  rw [e, hc] at h
  cases h
end
/-! ### _law_day -/
abbrev s__law_day : Stmt := topS 51
abbrev N__law_day : List Str := ["_law_left_here", "_law_m", "_law_step", "_law_far", "_law_ends", "_law_some"]
theorem sc__law_day : FnScope N__law_day ["_law_left_here", "_law_m"] (defScope s__law_day) := ⟨rfl, rfl, rfl, by decide +kernel, rfl, by decide +kernel, by decide +kernel⟩
def sp__law_day (K : PySem.W.Frag) (C : Cl) : Sp := fun vs H Q _ => ∃ (b x r pi m fa pk pa ba : Addr) (f : Fg) (M : Md) (n : Int), vs = [.ref b, .ref m] ∧ Ware K C H b x r pi m fa pk pa ba f M n ∧ n < 100000000 ∧ ∀ H' (d : Int), But b H H' → Ware K C H' b x r pi m fa pk pa ba f M (n + 2) → Q (.int d) H'
theorem ok__law_day {f : Addr} {fd : FuncData} (F : Fun K "_law_day" "_law_day" s__law_day f fd) (g : mg "_law_day" = some (.ref f)) (bd : Binds K fd ["_law_left_here", "_law_m"] []) {CC : Cl} (T_Rule : TRule K mg CC.r) (T_Putby : TPutby K mg CC.p) (TE : TErrs K mg CC) (m_min : mg "min" = none) (m_max : mg "max" = none) (C__law_last : CF P w K mg base 4 "_law_last" ["_law_m"] (sp__law_last K)) (C__law_pick : CF P w K mg base 2 "_law_pick" ["_law_left_here", "_law_many"] (sp__law_pick K)) : CF P w K mg base 5 "_law_day" ["_law_left_here", "_law_m"] (sp__law_day K CC) := by
  refine ⟨f, fd, F.ok sc__law_day (fun vs H Q E h => ?_) (fun cdv A outer s H vs Q E hr h => ?_), g, F.kp, bd⟩
  · first | (obtain ⟨_, rfl, _⟩ := h; rfl) | (obtain ⟨_, _, rfl, _⟩ := h; rfl) | (obtain ⟨_, _, _, rfl, _⟩ := h; rfl) | (obtain ⟨_, _, _, _, rfl, _⟩ := h; rfl) | (obtain ⟨_, _, _, _, _, rfl, _⟩ := h; rfl) | (obtain ⟨_, _, _, _, _, _, rfl, _⟩ := h; rfl) | (obtain ⟨_, _, _, _, _, _, _, rfl, _⟩ := h; rfl) | (obtain ⟨_, _, _, _, _, _, _, _, rfl, _⟩ := h; rfl) | (obtain ⟨_, _, _, _, _, _, _, _, _, rfl, _⟩ := h; rfl) | (obtain ⟨_, _, _, _, _, _, _, _, _, _, rfl, _⟩ := h; rfl) | (obtain ⟨_, _, _, _, _, _, _, _, _, _, _, rfl, _⟩ := h; rfl) | (obtain ⟨_, _, _, _, _, _, _, _, _, _, _, _, rfl, _⟩ := h; rfl) | (obtain ⟨_, _, _, _, _, _, _, _, _, _, _, _, _, rfl, _⟩ := h; rfl) | (obtain ⟨_, _, _, _, _, _, _, _, _, _, _, _, _, _, rfl, _⟩ := h; rfl) | (obtain ⟨_, _, _, _, _, _, _, _, _, _, _, _, _, _, _, rfl, _⟩ := h; rfl)
  · have hu64 := hr.units
    have hu1 := hu1_of hu64
    obtain ⟨b, x, r, pi, m, fa, pk, pa, ba, f', M, n, rfl, W, hn, q⟩ := h
    refine ⟨_, (pss_cons (ps_par (i := 2) (j := 3) (by rfl) sc__law_day.nd rfl rfl (by decide) rfl rfl (pa_cons (pe_ix (kk_ixt K) (pe_dget hu1 (pv 1) pe_str (fun _ _ => rfl)) pe_int (fun _ _ => rfl)) (pa_cons (pe_cf C__law_last (hr.mono (by decide)) (by rfl) (pa_cons (pv 1) pa_nil)) pa_nil)) (by rfl))
      (pss_cons (ps_set (i := 4) sc__law_day.nd rfl (.inl rfl) (pe_lst (pa_cons (pe_dget hu1 (pv 1) pe_str (fun _ _ => rfl)) (pa_cons (pe_op op_add (pe_dget hu1 (pv 1) pe_str (fun _ _ => rfl)) (pe_ix (kk_ixt K) (pe_dget hu1 (pv 1) pe_str (fun _ _ => rfl)) pe_int (fun _ _ => rfl))) (pa_cons (pe_op op_add (pe_op op_add (pe_dget hu1 (pv 1) pe_str (fun _ _ => rfl)) (pe_ix (kk_ixt K) (pe_dget hu1 (pv 1) pe_str (fun _ _ => rfl)) pe_int (fun _ _ => rfl))) pe_int) pa_nil)))))
      (pss_cons (ps_set (i := 4) sc__law_day.nd rfl (.inl rfl) (pe_op op_cat (pv 4) (pe_ifExp (pt_cmpR op_notN (pv 3) pe_non (nomark _)) (pe_lst (pa_cons (pv 3) (pa_cons (pv 3) (pa_cons (pe_op op_add (pv 3) pe_int) pa_nil)))) (pe_op op_rep (pe_lst (pa_cons (pe_op op_add (pe_dget hu1 (pv 1) pe_str (fun _ _ => rfl)) pe_int) pa_nil)) pe_int))))
      (pss_cons (ps_set (i := 5) sc__law_day.nd rfl (.inl rfl) (pe_op op_cat (pv 4) (pe_lst (pa_cons (pe_dget hu1 (pv 1) pe_str (fun _ _ => rfl)) (pa_cons (pe_dget hu1 (pv 1) pe_str (fun _ _ => rfl)) (pa_cons (pe_op op_add (pe_dget hu1 (pv 1) pe_str (fun _ _ => rfl)) pe_int) (pa_cons (pe_op op_add (pe_dget hu1 (pv 1) pe_str (fun _ _ => rfl)) (pv 2)) (pa_cons (pe_op op_add (pe_dget hu1 (pv 1) pe_str (fun _ _ => rfl)) (pe_cf C__law_pick (hr.mono (by decide)) (by rfl) (pa_cons (pv 0) (pa_cons pe_int pa_nil)))) pa_nil))))))))
      (pss_one (ps_ret (pe_callB (call_min2 rfl) (by rfl) m_min (by decide +kernel) (pa_cons pe_int (pa_cons (pe_callB (call_max2 rfl) (by rfl) m_max (by decide +kernel) (pa_cons (pe_dget hu1 (pv 1) pe_str (fun _ _ => rfl)) (pa_cons (pe_ix (kk_ixl K) (pv 5) (pe_cf C__law_pick (hr.mono (by decide)) (by rfl) (pa_cons (pv 0) (pa_cons pe_int pa_nil))) (fun _ _ => rfl)) pa_nil))) pa_nil))))))))), ?_⟩
    obtain ⟨en, hC, hen⟩ := id W.md
    obtain ⟨kt, hf1, hf2⟩ := id W.fg
    refine ⟨_, rfl, m, _, rfl, dg_figures hC.1, fa, _, _, _, rfl, rfl, hf1, rfl, _, rfl, m, fa, pa, ba, f', M, rfl, W.md, W.fg, W.fo, W.ok, fun H1 s1 => ⟨_, _, rfl, ?_⟩⟩
    have W1 := W.same s1
    have hm1 := s1 _ _ hC.1
    have hfa1 := seqT_same s1 hf1
    refine ⟨_, rfl, m, _, rfl, dg_due hm1, _, rfl, m, _, rfl, dg_due hm1, _, rfl, m, _, rfl, dg_figures hm1, fa, _, _, _, rfl, rfl, hfa1, rfl, _, _, rfl, rfl, _, rfl, m, _, rfl, dg_due hm1, _, rfl, m, _, rfl, dg_figures hm1, fa, _, _, _, rfl, rfl, hfa1, rfl, _, _, rfl, rfl, _, _, rfl, rfl, (by show 3 ≤ sizeLine; decide), fun l1 n1 => ?_⟩
    have s2 := same_new (o := .lst [.int M.due, .int (M.due + f'.g), .int (M.due + f'.g + 1)]) n1
    have hl1 := upd_same (H := H1) (a := l1) (o := .lst [.int M.due, .int (M.due + f'.g), .int (M.due + f'.g + 1)])
    refine ⟨_, rfl, _, rfl, rfl, _, rfl, ?_⟩
    unfold lastV
    by_cases e : M.en = none
    case' pos =>
      rw [if_pos e]
      refine iteT ⟨_, rfl, _, rfl, _, rfl, _, _, rfl, rfl, (by show 3 ≤ sizeLine; decide), fun l2 n2 => ?_⟩
      obtain ⟨Y, hY, ns, hYn, hYl⟩ : ∃ Y : List V, Y = [.int (lastN f' M), .int (lastN f' M), .int (lastN f' M + 1)] ∧ ∃ ns : List Int, Y = ns.map V.int ∧ ns.length = 3 := ⟨_, rfl, [lastN f' M, lastN f' M, lastN f' M + 1], rfl, rfl⟩
      have s3 := same_new (o := .lst [.int (lastN f' M), .int (lastN f' M), .int (lastN f' M + 1)]) n2
      have hl2 : (upd (upd H1 l1 (.lst [.int M.due, .int (M.due + f'.g), .int (M.due + f'.g + 1)])) l2 (.lst [.int (lastN f' M), .int (lastN f' M), .int (lastN f' M + 1)])) l2 = some (.lst Y) := by rw [hY]; exact upd_same
    case' neg =>
      rw [if_neg e]
      refine iteF ⟨_, rfl, m, _, rfl, dg_day (s2 _ _ hm1), _, _, rfl, rfl, (by show 1 ≤ sizeLine; decide), fun l0 n0 => ⟨l0, _, _, rfl, rfl, upd_same, by decide, by decide, by show 1 * 3 ≤ sizeLine; decide, fun l2 n2 => ?_⟩⟩
      obtain ⟨Y, hY, ns, hYn, hYl⟩ : ∃ Y : List V, Y = (List.replicate (3 : Int).toNat [V.int (M.day + 3)]).flatten ∧ ∃ ns : List Int, Y = ns.map V.int ∧ ns.length = 3 := ⟨_, rfl, [M.day + 3, M.day + 3, M.day + 3], rfl, rfl⟩
      have s3 := (same_new (o := .lst [V.int (M.day + 3)]) n0).trans (same_new (o := .lst (List.replicate (3 : Int).toNat [V.int (M.day + 3)]).flatten) n2)
      have hl2 : (upd (upd (upd H1 l1 (.lst [.int M.due, .int (M.due + f'.g), .int (M.due + f'.g + 1)])) l0 (.lst [V.int (M.day + 3)])) l2 (.lst (List.replicate (3 : Int).toNat [V.int (M.day + 3)]).flatten)) l2 = some (.lst Y) := by rw [hY]; exact upd_same
    all_goals
      have hY3 : Y.length = 3 := by rw [hYn, List.length_map, hYl]
      refine ⟨l1, l2, _, _, rfl, rfl, s3 _ _ hl1, hl2, (by show 3 + Y.length ≤ sizeLine; rw [hY3]; decide), fun l3 n3 => ?_⟩
      have s4 := same_new (o := .lst ([V.int M.due, .int (M.due + f'.g), .int (M.due + f'.g + 1)] ++ Y)) n3
      have sA := (s2.trans s3).trans s4
      have hm4 := sA _ _ hm1
      have W4 := W1.same sA
      have l3b := fun h => (W4.tri.ne (p := l3) h)
      refine ⟨_, rfl, _, rfl, m, _, rfl, dg_day hm4, _, rfl, m, _, rfl, dg_day hm4, _, rfl, m, _, rfl, dg_day hm4, _, _, rfl, rfl, _, rfl, m, _, rfl, dg_day hm4, _, rfl, _, _, rfl, rfl, _, rfl, m, _, rfl, dg_day hm4, _, rfl, b, 20, _, rfl, W4.tri, by decide, by decide, by omega, fun r1 G5 r10 r11 b5 t5 => ⟨_, _, rfl, rfl, (by show 5 ≤ sizeLine; decide), fun l4 n4 => ?_⟩⟩
      have W5 := W4.pick t5 b5
      have l3nb : l3 ≠ b := fun z => by
        obtain ⟨_, _, _, hb0, _⟩ := id W1.tri
        rw [z, (s2.trans s3) _ _ hb0] at n3
        cases n3
      have hl35 : G5 l3 = some (.lst ([V.int M.due, .int (M.due + f'.g), .int (M.due + f'.g + 1)] ++ Y)) := t5 _ _ l3nb upd_same
      have s6 := same_new (o := .lst [.int M.day, .int M.day, .int (M.day + 1), .int (M.day + f'.s), .int (M.day + r1)]) n4
      have W6 := W5.same s6
      refine ⟨l3, l4, _, _, rfl, rfl, s6 _ _ hl35, upd_same, (by rw [List.length_append, hY3]; show 3 + 3 + 5 ≤ sizeLine; decide), fun l7 n7 => ?_⟩
      have s7 := same_new (o := .lst (([V.int M.due, .int (M.due + f'.g), .int (M.due + f'.g + 1)] ++ Y) ++ [.int M.day, .int M.day, .int (M.day + 1), .int (M.day + f'.s), .int (M.day + r1)])) n7
      have W7 := W6.same s7
      obtain ⟨en7, hC7, _⟩ := id W7.md
      have l7nb : l7 ≠ b := fun z => by
        obtain ⟨_, _, _, hb0, _⟩ := id W6.tri
        rw [z, hb0] at n7
        cases n7
      refine ⟨_, rfl, m, _, rfl, dg_day hC7.1, _, rfl, _, rfl, b, 11, _, rfl, W7.tri, by decide, by decide, by omega, fun r2 G8 r20 r21 b8 t8 => ?_⟩
      have W8 := W7.pick t8 b8
      obtain ⟨v, hv⟩ : ∃ v : Int, atI (([V.int M.due, .int (M.due + f'.g), .int (M.due + f'.g + 1)] ++ Y) ++ [.int M.day, .int M.day, .int (M.day + 1), .int (M.day + f'.s), .int (M.day + r1)]) r2 = some (.int v) := by
        have h11 : (([V.int M.due, .int (M.due + f'.g), .int (M.due + f'.g + 1)] ++ Y) ++ [.int M.day, .int M.day, .int (M.day + 1), .int (M.day + f'.s), .int (M.day + r1)]) = (([M.due, M.due + f'.g, M.due + f'.g + 1] ++ ns) ++ [M.day, M.day, M.day + 1, M.day + f'.s, M.day + r1]).map V.int := by
          rw [hYn, List.map_append, List.map_append]
          rfl
        rw [h11]
        refine at_int r20 ?_
        rw [List.length_append, List.length_append, hYl]
        exact r21
      refine ⟨l7, _, _, _, rfl, rfl, SqL.of (t8 _ _ l7nb upd_same), hv, _, _, rfl, _, _, rfl, ?_⟩
      exact q G8 _ ((((But.of ((s1.trans sA))).trans t5).trans (But.of (s6.trans s7))).trans t8) (W8.mono (by omega))
/-! ### _law_deed -/
abbrev s__law_deed : Stmt := topS 52
abbrev N__law_deed : List Str := ["_law_left_here", "_law_m", "_law_names_here", "_law_words", "_law_word", "_law_day_here", "_law_whole", "_law_when", "_law_who", "_law_much", "_law_some"]
theorem sc__law_deed : FnScope N__law_deed ["_law_left_here", "_law_m", "_law_names_here", "_law_words"] (defScope s__law_deed) := ⟨rfl, rfl, rfl, by decide +kernel, rfl, by decide +kernel, by decide +kernel⟩
def DWord (w : Str) : Prop := w = Str.ofString "pay" ∨ w = Str.ofString "up" ∨ w = Str.ofString "fall" ∨ w = Str.ofString "pass"
theorem pick_str {ss : List Str} {r : Int} (h0 : 0 ≤ r) (h1 : r < ss.length) : ∃ w, atI (ss.map V.str) r = some (.str w) ∧ w ∈ ss := by
  obtain ⟨j, rfl⟩ := Int.eq_ofNat_of_zero_le h0
  have hj : j < ss.length := by omega
  exact ⟨ss[j], atI_nat (by rw [List.getElem?_map, List.getElem?_eq_getElem hj]; rfl), List.getElem_mem hj⟩
def sp__law_deed (K : PySem.W.Frag) (C : Cl) : Sp := fun vs H Q _ => ∃ (b x r pi m fa pk pa ba nm wl : Addr) (f : Fg) (M : Md) (n : Int) (ss ws : List Str), vs = [.ref b, .ref m, .ref nm, .ref wl] ∧ Ware K C H b x r pi m fa pk pa ba f M n ∧ n < 10000000 ∧ SqL K H nm (ss.map V.str) ∧ nm ≠ b ∧ 0 < ss.length ∧ ss.length ≤ 1000 ∧ SqL K H wl (ws.map V.str) ∧ wl ≠ b ∧ 0 < ws.length ∧ ws.length ≤ 1000 ∧ (∀ w ∈ ws, DWord w) ∧ ∀ H' t D dv, But b H H' → Ware K C H' b x r pi m fa pk pa ba f M (n + 5) → SqT K H' t dv → DeedV D dv → dW D ∈ ws → Q (.ref t) H'
theorem ok__law_deed {f : Addr} {fd : FuncData} (F : Fun K "_law_deed" "_law_deed" s__law_deed f fd) (g : mg "_law_deed" = some (.ref f)) (bd : Binds K fd ["_law_left_here", "_law_m", "_law_names_here", "_law_words"] []) {CC : Cl} (T_Rule : TRule K mg CC.r) (T_Putby : TPutby K mg CC.p) (TE : TErrs K mg CC) (m_len : mg "len" = none) (m_sum : mg "sum" = none) (m_max : mg "max" = none) (m_min : mg "min" = none) (C__law_day : CF P w K mg base 5 "_law_day" ["_law_left_here", "_law_m"] (sp__law_day K CC)) (C__law_pick : CF P w K mg base 2 "_law_pick" ["_law_left_here", "_law_many"] (sp__law_pick K)) : CF P w K mg base 6 "_law_deed" ["_law_left_here", "_law_m", "_law_names_here", "_law_words"] (sp__law_deed K CC) := by
  refine ⟨f, fd, F.ok sc__law_deed (fun vs H Q E h => ?_) (fun cdv A outer s H vs Q E hr h => ?_), g, F.kp, bd⟩
  · first | (obtain ⟨_, rfl, _⟩ := h; rfl) | (obtain ⟨_, _, rfl, _⟩ := h; rfl) | (obtain ⟨_, _, _, rfl, _⟩ := h; rfl) | (obtain ⟨_, _, _, _, rfl, _⟩ := h; rfl) | (obtain ⟨_, _, _, _, _, rfl, _⟩ := h; rfl) | (obtain ⟨_, _, _, _, _, _, rfl, _⟩ := h; rfl) | (obtain ⟨_, _, _, _, _, _, _, rfl, _⟩ := h; rfl) | (obtain ⟨_, _, _, _, _, _, _, _, rfl, _⟩ := h; rfl) | (obtain ⟨_, _, _, _, _, _, _, _, _, rfl, _⟩ := h; rfl) | (obtain ⟨_, _, _, _, _, _, _, _, _, _, rfl, _⟩ := h; rfl) | (obtain ⟨_, _, _, _, _, _, _, _, _, _, _, rfl, _⟩ := h; rfl) | (obtain ⟨_, _, _, _, _, _, _, _, _, _, _, _, rfl, _⟩ := h; rfl) | (obtain ⟨_, _, _, _, _, _, _, _, _, _, _, _, _, rfl, _⟩ := h; rfl) | (obtain ⟨_, _, _, _, _, _, _, _, _, _, _, _, _, _, rfl, _⟩ := h; rfl) | (obtain ⟨_, _, _, _, _, _, _, _, _, _, _, _, _, _, _, rfl, _⟩ := h; rfl) | (obtain ⟨_, _, _, _, _, _, _, _, _, _, _, _, _, _, _, _, rfl, _⟩ := h; rfl) | (obtain ⟨_, _, _, _, _, _, _, _, _, _, _, _, _, _, _, _, _, rfl, _⟩ := h; rfl) | (obtain ⟨_, _, _, _, _, _, _, _, _, _, _, _, _, _, _, _, _, _, rfl, _⟩ := h; rfl) | (obtain ⟨_, _, _, _, _, _, _, _, _, _, _, _, _, _, _, _, _, _, _, rfl, _⟩ := h; rfl) | (obtain ⟨_, _, _, _, _, _, _, _, _, _, _, _, _, _, _, _, _, _, _, _, rfl, _⟩ := h; rfl) | (obtain ⟨_, _, _, _, _, _, _, _, _, _, _, _, _, _, _, _, _, _, _, _, _, rfl, _⟩ := h; rfl) | (obtain ⟨_, _, _, _, _, _, _, _, _, _, _, _, _, _, _, _, _, _, _, _, _, _, rfl, _⟩ := h; rfl) | (obtain ⟨_, _, _, _, _, _, _, _, _, _, _, _, _, _, _, _, _, _, _, _, _, _, _, rfl, _⟩ := h; rfl)
  · have hu64 := hr.units
    have hu1 := hu1_of hu64
    obtain ⟨b, x, r, pi, m, fa, pk, pa, ba, nm, wl, f', M, n, ss, ws, rfl, W, hn, hS, nmb, ss0, ss1, hL, wlb, ws0, ws1, hw, q⟩ := h
    refine ⟨_, (pss_cons (ps_par (i := 4) (j := 5) (by rfl) sc__law_deed.nd rfl rfl (by decide) rfl rfl (pa_cons (pe_ix (kk_ixl K) (pv 3) (pe_cf C__law_pick (hr.mono (by decide)) (by rfl) (pa_cons (pv 0) (pa_cons (pe_callB (kk_len K) (by rfl) m_len PySem.boot_len (pa_cons (pv 3) pa_nil)) pa_nil))) (fun _ _ => rfl)) (pa_cons (pe_cf C__law_day (hr.mono (by decide)) (by rfl) (pa_cons (pv 0) (pa_cons (pv 1) pa_nil))) pa_nil)) (by rfl))
      (pss_cons (ps_if (pt_cmpR op_eq (pv 4) pe_str (nomark _))
         (pss_one (ps_ret (pe_tup (pa_cons (pv 4) (pa_cons (pv 5) (pa_cons (pe_ix (kk_ixl K) (pv 2) (pe_cf C__law_pick (hr.mono (by decide)) (by rfl) (pa_cons (pv 0) (pa_cons (pe_callB (kk_len K) (by rfl) m_len PySem.boot_len (pa_cons (pv 2) pa_nil)) pa_nil))) (fun _ _ => rfl)) pa_nil))))))
         pss_nil)
      (pss_cons (ps_if (pt_cmpR op_eq (pv 4) pe_str (nomark _))
         (pss_cons (ps_set (i := 6) sc__law_deed.nd rfl (.inl rfl) (pe_callB (kk_sum K rfl) (by rfl) m_sum (by decide +kernel) (pa_cons (pe_lc (own := [("_law_when", 7), ("_law_who", 8), ("_law_much", 9)]) (g := (gTup K 3 (gCons (gName 7) (gCons (gName 8) (gCons (gName 9) gNil))))) (tt := tYes) rfl sc__law_deed.nd (pi_list (pe_dget hu1 (pv 1) pe_str (fun _ _ => rfl))) (blkOk_by (own := [("_law_when", 7), ("_law_who", 8), ("_law_much", 9)]) (N := N__law_deed) (sc := defScope s__law_deed) (by decide +kernel)) (fun _ _ _ _ _ => (pg_tup (by rfl) (pgs_cons (pg_name (i := 7) sc__law_deed.nd rfl (.inl rfl)) (pgs_cons (pg_name (i := 8) sc__law_deed.nd rfl (.inl rfl)) (pgs_cons (pg_name (i := 9) sc__law_deed.nd rfl (.inl rfl)) pgs_nil))))) (fun _ _ _ _ _ => pts_nil) (fun _ _ _ _ _ => (pv 9))) pa_nil)))
          (pss_cons (ps_set (i := 10) sc__law_deed.nd rfl (.inl rfl) (pe_lst (pa_cons (pv 6) (pa_cons (pe_op op_add (pv 6) pe_int) (pa_cons (pe_op op_sub (pe_dget hu1 (pv 1) pe_str (fun _ _ => rfl)) pe_int) (pa_cons (pe_dget hu1 (pv 1) pe_str (fun _ _ => rfl)) (pa_cons (pe_op op_add (pv 6) (pe_op op_fdiv (pe_op op_sub (pe_dget hu1 (pv 1) pe_str (fun _ _ => rfl)) (pv 6)) pe_int)) (pa_cons (pe_op op_add (pe_dget hu1 (pv 1) pe_str (fun _ _ => rfl)) pe_int) (pa_cons pe_int pa_nil)))))))))
          (pss_one (ps_ret (pe_tup (pa_cons (pv 4) (pa_cons (pv 5) (pa_cons (pe_callB (call_max2 rfl) (by rfl) m_max (by decide +kernel) (pa_cons pe_int (pa_cons (pe_callB (call_min2 rfl) (by rfl) m_min (by decide +kernel) (pa_cons (pe_op op_pow pe_int pe_int) (pa_cons (pe_ix (kk_ixl K) (pv 10) (pe_cf C__law_pick (hr.mono (by decide)) (by rfl) (pa_cons (pv 0) (pa_cons pe_int pa_nil))) (fun _ _ => rfl)) pa_nil))) pa_nil))) pa_nil))))))))
         pss_nil)
      (pss_one (ps_ret (pe_tup (pa_cons (pv 4) (pa_cons (pv 5) pa_nil)))))))), ?_⟩
    have lw : ((ws.map V.str).length : Int) = ws.length := by rw [List.length_map]
    have ls : ((ss.map V.str).length : Int) = ss.length := by rw [List.length_map]
    refine ⟨_, rfl, _, rfl, _, rfl, wl, _, rfl, .inl hL, b, _, _, rfl, W.tri, by omega, by omega, by omega, fun r1 H1 r10 r11 b1 t1 => ?_⟩
    obtain ⟨wd, hwd, hwm⟩ := pick_str (ss := ws) r10 (by omega)
    have W1 := W.pick t1 b1
    refine ⟨wl, _, _, _, rfl, rfl, t1.seq wlb hL, hwd, _, rfl, _, rfl, b, x, r, pi, m, fa, pk, pa, ba, f', M, _, rfl, W1, by omega, fun H2 d t2 W2 => ⟨_, _, rfl, ?_⟩⟩
    have hS2 := t2.seq nmb (t1.seq nmb hS)
    have T2 := t1.trans t2
    refine ⟨_, rfl, rfl, _, rfl, ?_⟩
    rcases hw wd hwm with rfl | rfl | rfl | rfl
    · refine iteT ⟨_, rfl, _, rfl, _, rfl, _, rfl, _, rfl, nm, _, rfl, .inl hS2, b, _, _, rfl, W2.tri, by omega, by omega, by omega, fun r3 H3 r30 r31 b3 t3 => ?_⟩
      obtain ⟨who, hwho, _⟩ := pick_str (ss := ss) r30 (by omega)
      have W3 := W2.pick t3 b3
      refine ⟨nm, _, _, _, rfl, rfl, t3.seq nmb hS2, hwho, (by show 3 ≤ sizeLine; decide), fun t nt => ?_⟩
      exact q _ t (.pay d who) _ ((T2.trans t3).trans (But.new nt)) ((W3.same (same_new nt)).mono (by omega)) (SqT.of upd_same) rfl hwm
    · rw [show decide (V.str (Str.ofString "up") = V.str (Str.ofString "pay")) = false from by decide +kernel]
      refine iteF ⟨_, rfl, rfl, _, rfl, ?_⟩
      rw [show decide (V.str (Str.ofString "up") = V.str (Str.ofString "fall")) = false from by decide +kernel]
      refine iteF ⟨_, rfl, _, rfl, (by show 2 ≤ sizeLine; decide), fun t nt => ?_⟩
      exact q _ t (.up d) _ (T2.trans (But.new nt)) ((W2.same (same_new nt)).mono (by omega)) (SqT.of upd_same) ⟨[], rfl, Nat.zero_le _⟩ hwm
    · rw [show decide (V.str (Str.ofString "fall") = V.str (Str.ofString "pay")) = false from by decide +kernel]
      refine iteF ⟨_, rfl, rfl, _, rfl, ?_⟩
      rw [show decide (V.str (Str.ofString "fall") = V.str (Str.ofString "fall")) = true from decide_eq_true rfl]
      obtain ⟨en2, hC2, hen2⟩ := id W2.md
      obtain ⟨L, e1, e2, e3, e4⟩ := hC2.2.1.len
      have l6 := W2.ok.len
      have l7 := W2.ok.many1
      have l8 := W2.fo.figs.p1
      refine iteT ⟨_, rfl, m, _, rfl, dg_pays hC2.1, pa, rfl, ⟨_, SqL.of e1⟩, fun D' hD' => rows_lc (fun _ => true) (fun q => V.int q.2.p) (jok_l (SqL.of e1)) e2 (by omega) hD' (fun q hq G s hG Y N y n => ?_) (Tyes (J := Itl K pa) fun G3 s3 hG3 => ?_)⟩
      · exact ⟨q.1, _, rfl, SqT.of hG, rfl, _, _, rfl, _, _, rfl, _, _, rfl, rfl, rfl, iteT (B := N G) ⟨_, rfl, y rfl⟩⟩
      refine ⟨D', (L.map (·.2)).map (·.p), rfl, SqL.of (hG3.trans (by rw [List.map_map, List.map_map, List.map_map]; rfl)), ?_⟩
      have hm3 := s3 _ _ hC2.1
      refine ⟨_, rfl, _, rfl, _, _, rfl, rfl, _, rfl, m, _, rfl, dg_price hm3, _, _, rfl, rfl, _, rfl, m, _, rfl, dg_price hm3, _, rfl, _, rfl, m, _, rfl, dg_price hm3, _, rfl, _, _, rfl, rfl, _, _, rfl, rfl, ⟨by decide, by decide⟩, _, _, rfl, rfl, _, rfl, m, _, rfl, dg_price hm3, _, _, rfl, rfl, (by show 7 ≤ sizeLine; decide), fun l5 n5 => ?_⟩
      have W5 := (W2.same s3).same (same_new (o := .lst [.int ((L.map (·.2)).map (·.p)).sum, .int (((L.map (·.2)).map (·.p)).sum + 1), .int (M.price - 1), .int M.price, .int (((L.map (·.2)).map (·.p)).sum + (M.price - ((L.map (·.2)).map (·.p)).sum) / 2), .int (M.price + 5), .int 1]) n5)
      have l5b : l5 ≠ b := fun z => by
        obtain ⟨_, _, _, hb0, _⟩ := id (W2.same s3).tri
        rw [z, hb0] at n5
        cases n5
      refine ⟨_, rfl, _, rfl, _, _, rfl, rfl, ⟨by decide, by decide, by decide⟩, _, rfl, _, rfl, b, 7, _, rfl, W5.tri, by decide, by decide, by omega, fun r6 G6 r60 r61 b6 t6 => ?_⟩
      obtain ⟨v, hv⟩ : ∃ v : Int, atI (([((L.map (·.2)).map (·.p)).sum, ((L.map (·.2)).map (·.p)).sum + 1, M.price - 1, M.price, ((L.map (·.2)).map (·.p)).sum + (M.price - ((L.map (·.2)).map (·.p)).sum) / 2, M.price + 5, 1] : List Int).map V.int) r6 = some (.int v) := at_int r60 r61
      have W6 := W5.pick t6 b6
      refine ⟨l5, _, _, _, rfl, rfl, SqL.of (t6 _ _ l5b upd_same), hv, _, _, rfl, _, _, rfl, (by show 3 ≤ sizeLine; decide), fun t nt => ?_⟩
      refine q _ t (.fall d _) _ ((((T2.trans (But.of s3)).trans (But.new n5)).trans t6).trans (But.new nt)) ((W6.same (same_new nt)).mono (by omega)) (SqT.of upd_same) ⟨rfl, ?_⟩ hwm
      split <;> omega
    · rw [show decide (V.str (Str.ofString "pass") = V.str (Str.ofString "pay")) = false from by decide +kernel]
      refine iteF ⟨_, rfl, rfl, _, rfl, ?_⟩
      rw [show decide (V.str (Str.ofString "pass") = V.str (Str.ofString "fall")) = false from by decide +kernel]
      refine iteF ⟨_, rfl, _, rfl, (by show 2 ≤ sizeLine; decide), fun t nt => ?_⟩
      exact q _ t (.pass d) _ (T2.trans (But.new nt)) ((W2.same (same_new nt)).mono (by omega)) (SqT.of upd_same) ⟨[], rfl, Nat.zero_le _⟩ hwm

theorem did_ans {f : Fg} {M : Md} {D : Deed} : ∃ d : PyData, PyData.depth d ≤ 4 ∧ thin d = true ∧ ∀ (K : PySem.W.Frag) (H : Hp), Dp K H (didM f M D).2 d := by
  have hs : ∀ z : Str, ∃ d : PyData, PyData.depth d ≤ 4 ∧ thin d = true ∧ ∀ (K : PySem.W.Frag) (H : Hp), Dp K H (.str z) d := fun z => ⟨.str z, by simp [PyData.depth], by simp [thin], fun _ _ => .str z⟩
  have hi : ∀ z : Int, ∃ d : PyData, PyData.depth d ≤ 4 ∧ thin d = true ∧ ∀ (K : PySem.W.Frag) (H : Hp), Dp K H (.int z) d := fun z => ⟨.int z, by simp [PyData.depth], by simp [thin], fun _ _ => .int z⟩
  have hn : ∃ d : PyData, PyData.depth d ≤ 4 ∧ thin d = true ∧ ∀ (K : PySem.W.Frag) (H : Hp), Dp K H .non d := ⟨.none, by simp [PyData.depth], by simp [thin], fun _ _ => .non⟩
  unfold didM
  split
  · exact hs _
  · cases D with
    | pay d who =>
      dsimp only
      split
      · exact hi _
      · exact hs _
    | up d =>
      dsimp only
      split
      · exact hn
      · exact hs _
    | fall d price => exact hn
    | pass d => exact hn
theorem kind_ne {H : Hp} {a c : Addr} {o o' : HO} (h : H a = some o) (h' : H c = some o') (hn : o ≠ o') : a ≠ c := fun e => by
  rw [e, h'] at h
  exact hn (Option.some.inj h).symm
theorem not3 {a c d e : Addr} (h1 : a ≠ c) (h2 : a ≠ d) (h3 : a ≠ e) : a ∉ [c, d, e] := fun z => by
  rcases List.mem_cons.mp z with z | z
  · exact h1 z
  rcases List.mem_cons.mp z with z | z
  · exact h2 z
  · exact h3 (List.mem_singleton.mp z)
/-- a deed told, then written down -/
theorem Ware.both {K : PySem.W.Frag} {C : Cl} {H H1 H2 : Hp} {b x r pi m fa pk pk1 pa ba pa2 ba2 : Addr} {f : Fg} {M M' : Md} {n : Int} (W : Ware K C H b x r pi m fa pk pa ba f M n) (hk : pk1 = pk ∨ H pk1 = none) (fr : Fr [x, pi] H H1) (hP : PbAt K C H1 x r pi pk1 f M') (hp : pa2 = pa ∨ H1 pa2 = none) (hb : ba2 = ba ∨ H1 ba2 = none) (t : But m H1 H2) (hM : MdAt K H2 m fa M' pa2 ba2) (ok : M'.Ok f) : Ware K C H2 b x r pi m fa pk1 pa2 ba2 f M' n := by
  obtain ⟨b1, hF1, hM1⟩ := W.told fr
  obtain ⟨hP2, b2, hF2⟩ := did_stays b1 hF1 hM1 hP t
  obtain ⟨_, hi1⟩ := pb_i hP
  obtain ⟨_, hi0⟩ := pb_i W.pb
  obtain ⟨_, _, _, hb1, _⟩ := id b1
  obtain ⟨_, _, _, hb0, _⟩ := id W.tri
  refine ⟨b2, hF2, hP2, hM, W.fo, ok, ?_, W.bi, ?_, ?_, ?_, ?_, ?_⟩
  · rcases hk with z | z
    · rw [z]; exact W.ik
    · exact ne_some hi0 z
  · rcases hk with z | z
    · rw [z]; exact W.bk
    · exact ne_some hb0 z
  · rcases hp with z | z
    · rw [z]; exact W.bp
    · exact ne_some hb1 z
  · rcases hb with z | z
    · rw [z]; exact W.bb
    · exact ne_some hb1 z
  · rcases hp with z | z
    · rw [z]; exact W.ip
    · exact ne_some hi1 z
  · rcases hb with z | z
    · rw [z]; exact W.ib
    · exact ne_some hi1 z
theorem told_back {K : PySem.W.Frag} {C : Cl} {H H1 : Hp} {x r pi pk1 a : Addr} {f : Fg} {M' : Md} (fr : Fr [x, pi] H H1) (hP : PbAt K C H1 x r pi pk1 f M') (ha : H1 a = none) : H a = none := by
  obtain ⟨_, _, hx1⟩ := pb_x hP
  obtain ⟨_, hi1⟩ := pb_i hP
  cases e : H a with
  | none => rfl
  | some o =>
    have : a ∉ [x, pi] := fun he => by
      rcases List.mem_cons.mp he with y | y
      · rw [y, hx1] at ha
        cases ha
      · rw [List.mem_singleton.mp y, hi1] at ha
        cases ha
    rw [fr a o this e] at ha
    cases ha
theorem new_ware {K : PySem.W.Frag} {C : Cl} {H H1 H2 : Hp} {b x r pi m fa pk pa ba : Addr} {f : Fg} {price bg n : Int} (hb : Tri H b n) (hF : FgAt K H fa f) (fo : f.Ok) (p0 : 1 ≤ price) (p1 : price ≤ 1000000) (bg0 : 0 ≤ bg) (s1 : Same H H1) (ni : H pi = none) (nk : H pk = none) (ik : pi ≠ pk) (hP : PbAt K C H1 x r pi pk f (newM price bg)) (npa : H1 pa = none) (nba : H1 ba = none) (s2 : Same H1 H2) (hM : MdAt K H2 m fa (newM price bg) pa ba) : Ware K C H2 b x r pi m fa pk pa ba f (newM price bg) n := by
  have s12 := s1.trans s2
  obtain ⟨_, _, _, hb0, _⟩ := id hb
  obtain ⟨_, hi⟩ := pb_i hP
  exact ⟨hb.same s12, hF.same s12, hP.same s2, hM, fo, newM_ok fo p0 p1 bg0, ik, ne_some hb0 ni, ne_some hb0 nk, ne_some (s1 _ _ hb0) npa, ne_some (s1 _ _ hb0) nba, ne_some hi npa, ne_some hi nba⟩
/-- one of several wares: where its things are -/
structure WR where
  x : Addr
  r : Addr
  pi : Addr
  m : Addr
  fa : Addr
  pk : Addr
  pa : Addr
  ba : Addr
  f : Fg
  M : Md
abbrev WAt (K : PySem.W.Frag) (C : Cl) (H : Hp) (b : Addr) (n : Int) (w : WR) : Prop := Ware K C H b w.x w.r w.pi w.m w.fa w.pk w.pa w.ba w.f w.M n
/-- nothing of u is what w changes -/
structure Off (u w : WR) : Prop where
  x : u.x ≠ w.x
  m : u.m ≠ w.m
  pi : u.pi ≠ w.pi
  pk : u.pk ≠ w.pi
  pa : u.pa ≠ w.pi
  ba : u.ba ≠ w.pi
section
variable {K : PySem.W.Frag} {C : Cl} {H H' : Hp} {b : Addr} {n n' : Int} {u w : WR}
theorem wat_mu (h : WAt K C H b n w) : Mu H [w.x, w.pi, w.m] := fun c hc => by
  obtain ⟨_, _, hx⟩ := pb_x h.pb
  obtain ⟨_, hi⟩ := pb_i h.pb
  obtain ⟨_, hm⟩ := md_m h.md
  rcases List.mem_cons.mp hc with e | hc
  · rw [e]; exact ⟨_, hx, trivial⟩
  rcases List.mem_cons.mp hc with e | hc
  · rw [e]; exact ⟨_, hi, trivial⟩
  · rw [List.mem_singleton.mp hc]; exact ⟨_, hm, trivial⟩
theorem pb_rule {x r pi pk : Addr} {f : Fg} {M : Md} (h : PbAt K C H x r pi pk f M) : RuleAt K H C.r r f := by
  obtain ⟨c, ⟨dx, ct, h1, h2, _⟩, _⟩ := h
  exact h2
theorem rule_off {r : Addr} {f : Fg} (hr : RuleAt K H C.r r f) (h : WAt K C H b n w) : r ∉ [w.x, w.pi, w.m] := by
  obtain ⟨_, hi⟩ := pb_i h.pb
  obtain ⟨_, hm⟩ := md_m h.md
  obtain ⟨c, ⟨dx, ct, h1, _⟩, _⟩ := id h.pb
  obtain ⟨d2, kt, h2, _⟩ := id hr
  exact not3 (rule_ne hr h1) (kind_ne h2 hi (fun z => nomatch z)) (kind_ne h2 hm (fun z => nomatch z))
theorem lst_off {a : Addr} {xs : List V} (ha : H a = some (.lst xs)) (h : WAt K C H b n w) (ne : a ≠ w.pi) : a ∉ [w.x, w.pi, w.m] := by
  obtain ⟨_, _, hx⟩ := pb_x h.pb
  obtain ⟨_, hm⟩ := md_m h.md
  exact not3 (kind_ne ha hx (fun z => nomatch z)) ne (kind_ne ha hm (fun z => nomatch z))
theorem tup_off {a : Addr} {xs : List V} (ha : H a = some (.tup xs)) (h : WAt K C H b n w) : a ∉ [w.x, w.pi, w.m] := by
  obtain ⟨_, _, hx⟩ := pb_x h.pb
  obtain ⟨_, hi⟩ := pb_i h.pb
  obtain ⟨_, hm⟩ := md_m h.md
  exact not3 (kind_ne ha hx (fun z => nomatch z)) (kind_ne ha hi (fun z => nomatch z)) (kind_ne ha hm (fun z => nomatch z))
theorem WAt.keep (hu : WAt K C H b n u) (hw : WAt K C H b n w) (o : Off u w) (fr : Fr [w.x, w.pi, w.m] H H') (hb : Tri H' b n') : WAt K C H' b n' u := by
  have mu := wat_mu hw
  obtain ⟨_, _, hx⟩ := pb_x hw.pb
  obtain ⟨_, hi⟩ := pb_i hw.pb
  obtain ⟨_, hm⟩ := md_m hw.md
  obtain ⟨_, _, gx⟩ := pb_x hu.pb
  obtain ⟨_, gi⟩ := pb_i hu.pb
  obtain ⟨_, gk⟩ := pb_k hu.pb
  obtain ⟨_, gm⟩ := md_m hu.md
  obtain ⟨_, gp⟩ := md_p hu.md
  obtain ⟨_, gb⟩ := md_b hu.md
  exact ⟨hb, hu.fg.fr fr mu, hu.pb.fr fr mu (not3 o.x (kind_ne gx hi (fun z => nomatch z)) (kind_ne gx hm (fun z => nomatch z))) (rule_off (pb_rule hu.pb) hw) (lst_off gi hw o.pi) (lst_off gk hw o.pk), hu.md.fr fr mu (not3 (kind_ne gm hx (fun z => nomatch z)) (kind_ne gm hi (fun z => nomatch z)) o.m) (lst_off gp hw o.pa) (lst_off gb hw o.ba), hu.fo, hu.ok, hu.ik, hu.bi, hu.bk, hu.bp, hu.bb, hu.ip, hu.ib⟩
/-- a list that is none of its own is changed -/
theorem WAt.lst {l : Addr} {xs : List V} (hu : WAt K C H b n u) (hl : H l = some (.lst xs)) (t : But l H H') (h1 : l ≠ u.pi) (h2 : l ≠ u.pk) (h3 : l ≠ u.pa) (h4 : l ≠ u.ba) (h5 : l ≠ b) : WAt K C H' b n u := by
  have mu : Mu H [l] := fun c hc => by
    rw [List.mem_singleton.mp hc]
    exact ⟨_, hl, trivial⟩
  have fr := but_fr t
  obtain ⟨_, _, gx⟩ := pb_x hu.pb
  obtain ⟨_, _, gr⟩ := pb_r hu.pb
  obtain ⟨_, gm⟩ := md_m hu.md
  obtain ⟨x0, c0, z0, hb0, hrest⟩ := id hu.tri
  exact ⟨⟨x0, c0, z0, t _ _ h5.symm hb0, hrest⟩, hu.fg.fr fr mu, hu.pb.fr fr mu (ne1 gx hl (fun z => nomatch z)) (ne1 gr hl (fun z => nomatch z)) (ne_of1 h1.symm) (ne_of1 h2.symm), hu.md.fr fr mu (ne1 gm hl (fun z => nomatch z)) (ne_of1 h3.symm) (ne_of1 h4.symm), hu.fo, hu.ok, hu.ik, hu.bi, hu.bk, hu.bp, hu.bb, hu.ip, hu.ib⟩
end
def wrV (w : WR) : List V := [.ref w.x, .ref w.m]
structure Sep (H0 : Hp) (lst nm : Addr) (w : WR) : Prop where
  li : lst ≠ w.pi
  lk : lst ≠ w.pk
  lp : lst ≠ w.pa
  lq : lst ≠ w.ba
  ni : nm ≠ w.pi
  nx : H0 w.x = none
  np : H0 w.pi = none
  nm : H0 w.m = none
abbrev fOf (f1 f2 : Fg) (i : Nat) : Fg := if i < 2 then f1 else f2
/-- several wares in a list of pairs -/
structure Ws (K : PySem.W.Frag) (C : Cl) (H0 G : Hp) (b lst nm rh oa : Addr) (ss : List Str) (f1 f2 : Fg) (L : List (Addr × WR)) (n : Int) : Prop where
  tri : Tri G b n
  hl : G lst = some (.lst (refs L))
  rows : ∀ (i : Nat) (q : Addr × WR), L[i]? = some q → G q.1 = some (.tup (wrV q.2))
  ware : ∀ (i : Nat) (q : Addr × WR), L[i]? = some q → WAt K C G b n q.2
  off : ∀ (i j : Nat) (p q : Addr × WR), L[i]? = some p → L[j]? = some q → i ≠ j → Off p.2 q.2
  sep : ∀ (i : Nat) (q : Addr × WR), L[i]? = some q → Sep H0 lst nm q.2
  fs : ∀ (i : Nat) (q : Addr × WR), L[i]? = some q → q.2.f = fOf f1 f2 i
  lb : lst ≠ b
  nb : nm ≠ b
  ln : lst ≠ nm
  nms : G nm = some (.lst (ss.map V.str))
  rule : RuleAt K G C.r rh f1
  fig : FgAt K G oa f2
  lnew : H0 lst = none
  T : But b H0 G
section
variable {K : PySem.W.Frag} {C : Cl} {H0 G G' G2 : Hp} {b lst nm rh oa : Addr} {ss : List Str} {f1 f2 : Fg} {L L' : List (Addr × WR)} {n n' : Int} {i : Nat} {q : Addr × WR} {w' : WR} {t : Addr}
theorem Ws.same (h : Ws K C H0 G b lst nm rh oa ss f1 f2 L n) (s : Same G G') : Ws K C H0 G' b lst nm rh oa ss f1 f2 L n := ⟨h.tri.same s, s _ _ h.hl, fun i q e => s _ _ (h.rows i q e), fun i q e => (h.ware i q e).same s, h.off, h.sep, h.fs, h.lb, h.nb, h.ln, s _ _ h.nms, h.rule.same s, h.fig.same s, h.lnew, h.T.trans (But.of s)⟩
theorem Ws.mono (h : Ws K C H0 G b lst nm rh oa ss f1 f2 L n) (l : n ≤ n') : Ws K C H0 G b lst nm rh oa ss f1 f2 L n' := ⟨h.tri.mono l, h.hl, h.rows, fun i q e => (h.ware i q e).mono l, h.off, h.sep, h.fs, h.lb, h.nb, h.ln, h.nms, h.rule, h.fig, h.lnew, h.T⟩
theorem Ws.pick (h : Ws K C H0 G b lst nm rh oa ss f1 f2 L n) (t : But b G G') (hb : Tri G' b n') : Ws K C H0 G' b lst nm rh oa ss f1 f2 L n' := by
  obtain ⟨_, _, _, hb0, _⟩ := id h.tri
  exact ⟨hb, t _ _ h.lb h.hl, fun i q e => t _ _ (kind_ne (h.rows i q e) hb0 (fun z => nomatch z)) (h.rows i q e), fun i q e => (h.ware i q e).pick t hb, h.off, h.sep, h.fs, h.lb, h.nb, h.ln, t _ _ h.nb h.nms, h.tri.rule t h.rule, h.fig.fr (but_fr t) (tri_mu h.tri), h.lnew, h.T.trans t⟩
/-- one of them has done a deed -/
theorem Ws.deed (h : Ws K C H0 G b lst nm rh oa ss f1 f2 L n) (hq : L[i]? = some q) (fr : Fr [q.2.x, q.2.pi, q.2.m] G G') (hw : WAt K C G' b n w') (ex : w'.x = q.2.x) (epi : w'.pi = q.2.pi) (em : w'.m = q.2.m) (ef : w'.f = q.2.f) (hk : w'.pk = q.2.pk ∨ G w'.pk = none) (hp : w'.pa = q.2.pa ∨ G w'.pa = none) (hb : w'.ba = q.2.ba ∨ G w'.ba = none) : Ws K C H0 G' b lst nm rh oa ss f1 f2 (L.set i (q.1, w')) n := by
  have hwq := h.ware i q hq
  have mu := wat_mu hwq
  have sq := h.sep i q hq
  have hi : i < L.length := (List.getElem?_eq_some_iff.mp hq).1
  have get : ∀ j z, (L.set i (q.1, w'))[j]? = some z → (j = i ∧ z = (q.1, w')) ∨ (j ≠ i ∧ L[j]? = some z) := fun j z e => by
    rw [List.getElem?_set] at e
    by_cases c : i = j
    · rw [if_pos c, if_pos (by omega)] at e
      exact .inl ⟨c.symm, (Option.some.inj e).symm⟩
    · rw [if_neg c] at e
      exact .inr ⟨fun z => c z.symm, e⟩
  have er : refs (L.set i (q.1, w')) = refs L := by
    refine List.ext_getElem? fun j => ?_
    rw [List.getElem?_map, List.getElem?_map, List.getElem?_set]
    by_cases c : i = j
    · subst c
      rw [if_pos rfl, if_pos hi, hq]
      rfl
    · rw [if_neg c]
  have fresh : ∀ {a c c0 : Addr} {o : HO}, G a = some o → (c = c0 ∨ G c = none) → a ≠ c0 → a ≠ c := fun {a c c0 o} ha hc hn => by
    rcases hc with z | z
    · rw [z]; exact hn
    · exact ne_some ha z
  refine ⟨hw.tri, ?_, fun j z e => ?_, fun j z e => ?_, fun j k p z e1 e2 ne => ?_, fun j z e => ?_, fun j z e => ?_, h.lb, h.nb, h.ln, fr _ _ (lst_off h.nms hwq sq.ni) h.nms, fr.rule mu (rule_off h.rule hwq) h.rule, h.fig.fr fr mu, h.lnew, h.T.fr fr (fun c hc => ?_)⟩
  · rw [er]
    exact fr _ _ (lst_off h.hl hwq sq.li) h.hl
  · rcases get j z e with ⟨rfl, rfl⟩ | ⟨_, e⟩
    · have := h.rows j q hq
      show G' q.1 = some (.tup [.ref w'.x, .ref w'.m])
      rw [ex, em]
      exact fr _ _ (tup_off this hwq) this
    · have := h.rows j z e
      exact fr _ _ (tup_off this hwq) this
  · rcases get j z e with ⟨rfl, rfl⟩ | ⟨ne, e⟩
    · exact hw
    · exact (h.ware j z e).keep hwq (h.off j i z q e hq ne) fr hw.tri
  · rcases get j p e1 with ⟨rfl, rfl⟩ | ⟨ne1, e1'⟩
    · rcases get k z e2 with ⟨rfl, rfl⟩ | ⟨ne2, e2'⟩
      · exact absurd rfl ne
      · have o := h.off j k q z hq e2' ne
        obtain ⟨_, gi⟩ := pb_i (h.ware k z e2').pb
        exact ⟨by show w'.x ≠ _; rw [ex]; exact o.x, by show w'.m ≠ _; rw [em]; exact o.m, by show w'.pi ≠ _; rw [epi]; exact o.pi, (fresh gi hk o.pk.symm).symm, (fresh gi hp o.pa.symm).symm, (fresh gi hb o.ba.symm).symm⟩
    · rcases get k z e2 with ⟨rfl, rfl⟩ | ⟨ne2, e2'⟩
      · have o := h.off j k p q e1' hq ne
        exact ⟨by show _ ≠ w'.x; rw [ex]; exact o.x, by show _ ≠ w'.m; rw [em]; exact o.m, by show _ ≠ w'.pi; rw [epi]; exact o.pi, by show _ ≠ w'.pi; rw [epi]; exact o.pk, by show _ ≠ w'.pi; rw [epi]; exact o.pa, by show _ ≠ w'.pi; rw [epi]; exact o.ba⟩
      · exact h.off j k p z e1' e2' ne
  · rcases get j z e with ⟨rfl, rfl⟩ | ⟨ne, e⟩
    · exact ⟨by show lst ≠ w'.pi; rw [epi]; exact sq.li, fresh h.hl hk sq.lk, fresh h.hl hp sq.lp, fresh h.hl hb sq.lq, by show nm ≠ w'.pi; rw [epi]; exact sq.ni, by show H0 w'.x = none; rw [ex]; exact sq.nx, by show H0 w'.pi = none; rw [epi]; exact sq.np, by show H0 w'.m = none; rw [em]; exact sq.nm⟩
    · exact h.sep j z e
  · rcases get j z e with ⟨rfl, rfl⟩ | ⟨ne, e⟩
    · exact ef.trans (h.fs j q hq)
    · exact h.fs j z e
  · rcases List.mem_cons.mp hc with y | hc
    · rw [y]; exact .inl sq.nx
    rcases List.mem_cons.mp hc with y | hc
    · rw [y]; exact .inl sq.np
    · rw [List.mem_singleton.mp hc]; exact .inl sq.nm
/-- a new one put at a place -/
theorem Ws.put (h : Ws K C H0 G b lst nm rh oa ss f1 f2 L n) (s : Same G G2) (fx : G w'.x = none) (fm : G w'.m = none) (fpi : G w'.pi = none) (fpk : G w'.pk = none) (fpa : G w'.pa = none) (fba : G w'.ba = none) (ht : G2 t = some (.tup (wrV w'))) (hw : WAt K C G2 b n w') (hf : w'.f = fOf f1 f2 i) (hL : ∀ j z, L'[j]? = some z → (j = i ∧ z = (t, w')) ∨ (j ≠ i ∧ L[j]? = some z)) (e : G' = upd G2 lst (.lst (refs L'))) : Ws K C H0 G' b lst nm rh oa ss f1 f2 L' n := by
  subst e
  have h2 := h.same s
  have tb : But lst G2 (upd G2 lst (.lst (refs L'))) := But.upd
  obtain ⟨b0, b1, b2, hb0, hrest⟩ := id h.tri
  have new0 : ∀ {a : Addr}, G a = none → H0 a = none := fun {a} ha => by
    cases e : H0 a with
    | none => rfl
    | some o =>
      by_cases ab : a = b
      · rw [ab, hb0] at ha
        cases ha
      · rw [h.T _ _ ab e] at ha
        cases ha
  have mu : Mu G2 [lst] := fun c hc => by
    rw [List.mem_singleton.mp hc]
    exact ⟨_, h2.hl, trivial⟩
  refine ⟨⟨b0, b1, b2, tb _ _ h.lb.symm (s _ _ hb0), hrest⟩, upd_same, fun j z e => ?_, fun j z e => ?_, fun j k p z e1 e2 ne => ?_, fun j z e => ?_, fun j z e => ?_, h.lb, h.nb, h.ln, tb _ _ h.ln.symm h2.nms, ?_, h2.fig.fr (but_fr tb) mu, h.lnew, h2.T.fr (but_fr tb) (fun c hc => by rw [List.mem_singleton.mp hc]; exact .inl h.lnew)⟩
  · rcases hL j z e with ⟨rfl, rfl⟩ | ⟨_, e⟩
    · exact tb _ _ (kind_ne ht h2.hl (fun z => nomatch z)) ht
    · exact tb _ _ (kind_ne (h2.rows j z e) h2.hl (fun z => nomatch z)) (h2.rows j z e)
  · rcases hL j z e with ⟨rfl, rfl⟩ | ⟨_, e⟩
    · exact hw.lst h2.hl tb (ne_some h.hl fpi) (ne_some h.hl fpk) (ne_some h.hl fpa) (ne_some h.hl fba) h.lb
    · have sq := h.sep j z e
      exact (h2.ware j z e).lst h2.hl tb sq.li sq.lk sq.lp sq.lq h.lb
  · rcases hL j p e1 with ⟨rfl, rfl⟩ | ⟨ne1, e1'⟩
    · rcases hL k z e2 with ⟨rfl, rfl⟩ | ⟨ne2, e2'⟩
      · exact absurd rfl ne
      · have hz := h.ware k z e2'
        obtain ⟨_, _, gx⟩ := pb_x hz.pb
        obtain ⟨_, gi⟩ := pb_i hz.pb
        obtain ⟨_, gm⟩ := md_m hz.md
        exact ⟨(ne_some gx fx).symm, (ne_some gm fm).symm, (ne_some gi fpi).symm, (ne_some gi fpk).symm, (ne_some gi fpa).symm, (ne_some gi fba).symm⟩
    · rcases hL k z e2 with ⟨rfl, rfl⟩ | ⟨ne2, e2'⟩
      · have hz := h.ware j p e1'
        obtain ⟨_, _, gx⟩ := pb_x hz.pb
        obtain ⟨_, gi⟩ := pb_i hz.pb
        obtain ⟨_, gk⟩ := pb_k hz.pb
        obtain ⟨_, gm⟩ := md_m hz.md
        obtain ⟨_, gp⟩ := md_p hz.md
        obtain ⟨_, gb⟩ := md_b hz.md
        exact ⟨ne_some gx fx, ne_some gm fm, ne_some gi fpi, ne_some gk fpi, ne_some gp fpi, ne_some gb fpi⟩
      · exact h.off j k p z e1' e2' ne
  · rcases hL j z e with ⟨rfl, rfl⟩ | ⟨_, e⟩
    · exact ⟨ne_some h.hl fpi, ne_some h.hl fpk, ne_some h.hl fpa, ne_some h.hl fba, ne_some h.nms fpi, new0 fx, new0 fpi, new0 fm⟩
    · exact h.sep j z e
  · rcases hL j z e with ⟨rfl, rfl⟩ | ⟨_, e⟩
    · exact hf
    · exact h.fs j z e
  · obtain ⟨dx, kt, g1, g2⟩ := h2.rule
    exact ⟨dx, kt, tb _ _ (kind_ne g1 h2.hl (fun z => nomatch z)) g1, (but_fr tb).tup mu g2⟩
end
/-! ### _law_right -/
abbrev s__law_right : Stmt := topS 53
abbrev N__law_right : List Str := ["_law_left_here", "_law_one", "_law_other", "_law_names_here", "_law_rule_here", "_law_rows", "_law_figures_here", "_law_own", "_law_price_here", "_law_begin", "_law_turn", "_law_at", "_law_putby", "_law_m", "_law_deed_here", "_law_each", "_law_told_here"]
theorem sc__law_right : FnScope N__law_right ["_law_left_here"] (defScope s__law_right) := ⟨rfl, rfl, rfl, by decide +kernel, rfl, by decide +kernel, by decide +kernel⟩
theorem words6 : ∀ w ∈ [Str.ofString "pay", Str.ofString "pay", Str.ofString "pay", Str.ofString "fall", Str.ofString "pass", Str.ofString "up"], DWord w := by
  intro w hw
  rcases List.mem_cons.mp hw with e | hw
  · exact .inl e
  rcases List.mem_cons.mp hw with e | hw
  · exact .inl e
  rcases List.mem_cons.mp hw with e | hw
  · exact .inl e
  rcases List.mem_cons.mp hw with e | hw
  · exact .inr (.inr (.inl e))
  rcases List.mem_cons.mp hw with e | hw
  · exact .inr (.inr (.inr e))
  · exact .inr (.inl (List.mem_singleton.mp hw))
theorem nil_get {α : Type} {i : Nat} {q : α} {P : Prop} (e : ([] : List α)[i]? = some q) : P := by simp at e
theorem ix_nat {n j : Nat} (hj : j < n) : ixN n (j : Int) = some j := by
  unfold ixN
  rw [if_pos (by omega), if_pos (by omega)]
  simp
/-- the three pairs of figures and rules -/
def Pl (K : PySem.W.Frag) (C : Cl) (G : Hp) (f1 f2 : Fg) (ts : List Addr) : Prop := ∀ j v, ts[j]? = some v → ∃ fa r, SqT K G v [.ref fa, .ref r] ∧ FgAt K G fa (fOf f1 f2 j) ∧ RuleAt K G C.r r (fOf f1 f2 j)
theorem Pl.same {K : PySem.W.Frag} {C : Cl} {G G' : Hp} {f1 f2 : Fg} {ts : List Addr} (h : Pl K C G f1 f2 ts) (s : Same G G') : Pl K C G' f1 f2 ts := fun j v e => by
  obtain ⟨fa, r, h1, h2, h3⟩ := h j v e
  exact ⟨fa, r, seqT_same s h1, h2.same s, h3.same s⟩
theorem Pl.but {K : PySem.W.Frag} {C : Cl} {G G' : Hp} {f1 f2 : Fg} {ts : List Addr} {a : Addr} {xs : List V} (h : Pl K C G f1 f2 ts) (ha : G a = some (.lst xs)) (t : But a G G') : Pl K C G' f1 f2 ts := fun j v e => by
  obtain ⟨fa, r, h1, h2, h3⟩ := h j v e
  have mu : Mu G [a] := fun c hc => by
    rw [List.mem_singleton.mp hc]
    exact ⟨_, ha, trivial⟩
  obtain ⟨dx, kt, g1, g2⟩ := id h3
  exact ⟨fa, r, (but_fr t).tup mu h1, h2.fr (but_fr t) mu, (but_fr t).rule mu (ne1 g1 ha (fun z => nomatch z)) h3⟩
def sp__law_right (K : PySem.W.Frag) (C : Cl) : Sp := fun vs H Q _ => ∃ (b : Addr) (n : Int), vs = [.ref b] ∧ Tri H b n ∧ n < 800000 ∧ ∀ H', Tri H' b (n + 1000) → But b H H' → Q (.bl true) H'
theorem ok__law_right {f : Addr} {fd : FuncData} (F : Fun K "_law_right" "_law_right" s__law_right f fd) (g : mg "_law_right" = some (.ref f)) (bd : Binds K fd ["_law_left_here"] []) {CC : Cl} (T_Rule : TRule K mg CC.r) (T_Putby : TPutby K mg CC.p) (TE : TErrs K mg CC) (m_range : mg "range" = none) (C__law_figures : CF P w K mg base 3 "_law_figures" ["_law_left_here"] (sp__law_figures K)) (C__law_rule : CF P w K mg base 6 "_law_rule" ["_law_figures_here"] (sp__law_rule K CC.r)) (C__law_names : CF P w K mg base 3 "_law_names" ["_law_left_here", "_law_many"] (sp__law_names K)) (C__law_pick : CF P w K mg base 2 "_law_pick" ["_law_left_here", "_law_many"] (sp__law_pick K)) (C__law_price : CF P w K mg base 3 "_law_price" ["_law_left_here"] (sp__law_price K)) (C__law_begun : CF P w K mg base 1 "_law_begun" ["_law_figures_here", "_law_price_here", "_law_begin"] (sp__law_begun K)) (C__law_deed : CF P w K mg base 6 "_law_deed" ["_law_left_here", "_law_m", "_law_names_here", "_law_words"] (sp__law_deed K CC)) (C__law_same : CF P w K mg base 6 "_law_same" ["_law_found", "_law_due_here"] (sp__law_same K)) (C__law_did : CF P w K mg base 4 "_law_did" ["_law_m", "_law_deed_here"] (sp__law_did K)) (C__law_told : CF P w K mg base 6 "_law_told" ["_law_putby", "_law_deed_here"] (sp__law_told K CC)) (C__law_due : CF P w K mg base 5 "_law_due" ["_law_m"] (sp__law_due K)) (C__law_seen : CF P w K mg base 3 "_law_seen" ["_law_putby"] (sp__law_seen K CC)) (M_Putby : CMk P w K mg base CC.p 1 "Putby" ["self", "rule", "price", "begin"] [] (sp_Putby___init__ K CC)) (C_Putby_payments_0 : CMt P w K mg base CC.p 1 "payments" ["self"] [] (sp_Putby_payments K CC)) (C_Putby_backs_0 : CMt P w K mg base CC.p 1 "backs" ["self"] [] (sp_Putby_backs K CC)) : CF P w K mg base 7 "_law_right" ["_law_left_here"] (sp__law_right K CC) := by
  refine ⟨f, fd, F.ok sc__law_right (fun vs H Q E h => ?_) (fun cdv A outer s H vs Q E hr h => ?_), g, F.kp, bd⟩
  · first | (obtain ⟨_, rfl, _⟩ := h; rfl) | (obtain ⟨_, _, rfl, _⟩ := h; rfl) | (obtain ⟨_, _, _, rfl, _⟩ := h; rfl) | (obtain ⟨_, _, _, _, rfl, _⟩ := h; rfl) | (obtain ⟨_, _, _, _, _, rfl, _⟩ := h; rfl) | (obtain ⟨_, _, _, _, _, _, rfl, _⟩ := h; rfl) | (obtain ⟨_, _, _, _, _, _, _, rfl, _⟩ := h; rfl) | (obtain ⟨_, _, _, _, _, _, _, _, rfl, _⟩ := h; rfl) | (obtain ⟨_, _, _, _, _, _, _, _, _, rfl, _⟩ := h; rfl) | (obtain ⟨_, _, _, _, _, _, _, _, _, _, rfl, _⟩ := h; rfl) | (obtain ⟨_, _, _, _, _, _, _, _, _, _, _, rfl, _⟩ := h; rfl) | (obtain ⟨_, _, _, _, _, _, _, _, _, _, _, _, rfl, _⟩ := h; rfl) | (obtain ⟨_, _, _, _, _, _, _, _, _, _, _, _, _, rfl, _⟩ := h; rfl) | (obtain ⟨_, _, _, _, _, _, _, _, _, _, _, _, _, _, rfl, _⟩ := h; rfl) | (obtain ⟨_, _, _, _, _, _, _, _, _, _, _, _, _, _, _, rfl, _⟩ := h; rfl)
  · have hu64 := hr.units
    have hu1 := hu1_of hu64
    obtain ⟨b, n, rfl, hb, hn, q⟩ := h
    refine ⟨_, (pss_cons (ps_par (i := 1) (j := 2) (by rfl) sc__law_right.nd rfl rfl (by decide) rfl rfl (pa_cons (pe_cf C__law_figures (hr.mono (by decide)) (by rfl) (pa_cons (pv 0) pa_nil)) (pa_cons (pe_cf C__law_figures (hr.mono (by decide)) (by rfl) (pa_cons (pv 0) pa_nil)) pa_nil)) (by rfl))
      (pss_cons (ps_par3 (i := 3) (j := 4) (l := 5) (by rfl) sc__law_right.nd rfl rfl rfl (by decide) (by decide) (by decide) rfl rfl rfl (pa_cons (pe_cf C__law_names (hr.mono (by decide)) (by rfl) (pa_cons (pv 0) (pa_cons pe_int pa_nil))) (pa_cons (pe_cf C__law_rule (hr.mono (by decide)) (by rfl) (pa_cons (pv 1) pa_nil)) (pa_cons (pe_lst pa_nil) pa_nil))) (by rfl))
      (pss_cons (ps_for PassesOwn.never rfl (pi_tup (pe_tup (pa_cons (pe_tup (pa_cons (pv 1) (pa_cons (pv 4) pa_nil))) (pa_cons (pe_tup (pa_cons (pv 1) (pa_cons (pv 4) pa_nil))) (pa_cons (pe_tup (pa_cons (pv 2) (pa_cons (pe_cf C__law_rule (hr.mono (by decide)) (by rfl) (pa_cons (pv 2) pa_nil)) pa_nil))) pa_nil))))) (pg_tup (by rfl) (pgs_cons (pg_name (i := 6) sc__law_right.nd rfl (.inl rfl)) (pgs_cons (pg_name (i := 7) sc__law_right.nd rfl (.inl rfl)) pgs_nil)))
         (pss_cons (ps_par (i := 8) (j := 9) (by rfl) sc__law_right.nd rfl rfl (by decide) rfl rfl (pa_cons (pe_cf C__law_price (hr.mono (by decide)) (by rfl) (pa_cons (pv 0) pa_nil)) (pa_cons (pe_cf C__law_pick (hr.mono (by decide)) (by rfl) (pa_cons (pv 0) (pa_cons pe_int pa_nil))) pa_nil)) (by rfl))
          (pss_one (ps_expr (pe_bm PySem.F.plainAttrs_list PySem.F.slot_list_append PySem.F.type_list_append mt_append (pv 5) (pa_cons (pe_tup (pa_cons (pe_mkc M_Putby (hr.mono (by decide)) (by rfl) (pa_cons (pv 7) (pa_cons (pv 8) (pa_cons (pv 9) pa_nil)))) (pa_cons (pe_cf C__law_begun (hr.mono (by decide)) (by rfl) (pa_cons (pv 6) (pa_cons (pv 8) (pa_cons (pv 9) pa_nil)))) pa_nil))) pa_nil))))))
      (pss_cons (ps_for PassesOwn.never rfl (pi_range1 (by rfl) m_range (pa_cons pe_int pa_nil)) (pg_name (i := 10) sc__law_right.nd rfl (.inl rfl))
         (pss_cons (ps_set (i := 11) sc__law_right.nd rfl (.inl rfl) (pe_cf C__law_pick (hr.mono (by decide)) (by rfl) (pa_cons (pv 0) (pa_cons pe_int pa_nil))))
          (pss_cons (ps_asg (pe_ix (kk_ixl K) (pv 5) (pv 11) (fun _ _ => rfl)) (pg_tup (by rfl) (pgs_cons (pg_name (i := 12) sc__law_right.nd rfl (.inl rfl)) (pgs_cons (pg_name (i := 13) sc__law_right.nd rfl (.inl rfl)) pgs_nil))))
          (pss_cons (ps_set (i := 14) sc__law_right.nd rfl (.inl rfl) (pe_cf C__law_deed (hr.mono (by decide)) (by rfl) (pa_cons (pv 0) (pa_cons (pv 13) (pa_cons (pv 3) (pa_cons (pe_lst (pa_cons pe_str (pa_cons pe_str (pa_cons pe_str (pa_cons pe_str (pa_cons pe_str (pa_cons pe_str pa_nil))))))) pa_nil))))))
          (pss_cons (ps_if (pt_not (pt_val (pe_cf C__law_same (hr.mono (by decide)) (by rfl) (pa_cons (pe_cf C__law_told (hr.mono (by decide)) (by rfl) (pa_cons (pv 12) (pa_cons (pv 14) pa_nil))) (pa_cons (pe_cf C__law_did (hr.mono (by decide)) (by rfl) (pa_cons (pv 13) (pa_cons (pv 14) pa_nil))) pa_nil)))))
             (pss_one (ps_ret pe_bl))
             pss_nil)
          (pss_cons (ps_for PassesOwn.never rfl (pi_list (pv 5)) (pg_tup (by rfl) (pgs_cons (pg_name (i := 15) sc__law_right.nd rfl (.inl rfl)) (pgs_cons (pg_name (i := 7) sc__law_right.nd rfl (.inl rfl)) pgs_nil)))
             (pss_cons (ps_if (pt_not (pt_val (pe_cf C__law_same (hr.mono (by decide)) (by rfl) (pa_cons (pe_cf C__law_seen (hr.mono (by decide)) (by rfl) (pa_cons (pv 15) pa_nil)) (pa_cons (pe_cf C__law_due (hr.mono (by decide)) (by rfl) (pa_cons (pv 7) pa_nil)) pa_nil)))))
                 (pss_one (ps_ret pe_bl))
                 pss_nil)
              (pss_one (ps_for PassesOwn.never rfl (pi_tup (pe_tup (pa_cons (pe_mt0 C_Putby_backs_0 T_Putby.cl (hr.mono (by decide)) (pv 15)) (pa_cons (pe_mt0 C_Putby_payments_0 T_Putby.cl (hr.mono (by decide)) (pv 15)) pa_nil)))) (pg_name (i := 16) sc__law_right.nd rfl (.inl rfl))
                 (pss_cons (ps_expr (pe_bm PySem.F.plainAttrs_list PySem.F.slot_list_append PySem.F.type_list_append mt_append (pv 16) (pa_cons (pe_tup (pa_cons pe_int (pa_cons pe_str (pa_cons pe_int pa_nil)))) pa_nil)))
                  (pss_one (ps_expr (pe_bm0 PySem.F.plainAttrs_list PySem.F.slot_list_reverse PySem.F.type_list_reverse mt_reverse (pv 16)))))))))
          (pss_one (ps_if (PW.pt (pw_and (pt_cmpR op_notN (pe_dget hu1 (pv 13) pe_str (fun _ _ => rfl)) pe_non (nomark _)) (pw_and1 (pt_cmpR op_eq (pe_cf C__law_pick (hr.mono (by decide)) (by rfl) (pa_cons (pv 0) (pa_cons pe_int pa_nil))) pe_int (nomark _)))))
             (pss_cons (ps_par (i := 8) (j := 7) (by rfl) sc__law_right.nd rfl rfl (by decide) rfl rfl (pa_cons (pe_cf C__law_price (hr.mono (by decide)) (by rfl) (pa_cons (pv 0) pa_nil)) (pa_cons (pe_ix (kk_ixl K) (pe_lst (pa_cons (pv 4) (pa_cons (pv 4) (pa_cons (pe_cf C__law_rule (hr.mono (by decide)) (by rfl) (pa_cons (pv 2) pa_nil)) pa_nil)))) (pv 11) (fun _ _ => rfl)) pa_nil)) (by rfl))
              (pss_one (ps_asg (pe_tup (pa_cons (pe_mkc M_Putby (hr.mono (by decide)) (by rfl) (pa_cons (pv 7) (pa_cons (pv 8) (pa_cons (pe_dget hu1 (pv 13) pe_str (fun _ _ => rfl)) pa_nil)))) (pa_cons (pe_cf C__law_begun (hr.mono (by decide)) (by rfl) (pa_cons (pe_dget hu1 (pv 13) pe_str (fun _ _ => rfl)) (pa_cons (pv 8) (pa_cons (pe_dget hu1 (pv 13) pe_str (fun _ _ => rfl)) pa_nil)))) pa_nil))) (pg_sub (pv 5) (pv 11) set_list))))
             pss_nil))))))))
      (pss_one (ps_ret pe_bl)))))), ?_⟩
    refine ⟨_, rfl, b, n, rfl, hb, by omega, fun H1 o1 f1 b1 t1 n1 hF1 fo1 => ?_⟩
    refine ⟨_, rfl, b, _, rfl, b1, by omega, fun H2 o2 f2 b2 t2 n2 hF2 fo2 => ⟨_, _, rfl, ?_⟩⟩
    have hF1 := hF1.fr (but_fr t2) (tri_mu b1)
    refine ⟨_, rfl, b, 3, _, rfl, b2, by omega, by omega, by omega, fun H3 nm ss b3 t3 nnm nmb hnm sl sok => ?_⟩
    have hF1 := hF1.fr (but_fr t3) (tri_mu b2)
    have hF2 := hF2.fr (but_fr t3) (tri_mu b2)
    have T3 := (t1.trans t2).trans t3
    refine ⟨_, rfl, o1, f1, rfl, hF1, fo1, fun H4 rh nrh s4 hR => ⟨(by show 0 ≤ sizeLine; decide), fun lst nlst => ⟨_, _, _, rfl, ?_⟩⟩⟩
    have s5 := same_new (o := .lst []) nlst
    have hl := upd_same (H := H4) (a := lst) (o := .lst [])
    have s45 := s4.trans s5
    have b5 := b3.same s45
    have hF1 := hF1.same s45
    have hF2 := hF2.same s45
    have hR := hR.same s5
    have hnm5 := s45 _ _ hnm
    have T5 := T3.trans (But.of (b := b) s45)
    have lstb : lst ≠ b := (b3.same s4).ne nlst
    have lstn : lst ≠ nm := (ne_some (s4 _ _ hnm) nlst).symm
    have lst0 : H lst = none := by
      cases e : H lst with
      | none => rfl
      | some o =>
        rw [s4 _ _ (T3 _ _ lstb e)] at nlst
        cases nlst
    generalize upd H4 lst (.lst []) = H5 at *
    clear s4 s5 s45 T3 b3 t3 nlst nrh hnm nnm b2 t2 n2 b1 t1 n1
    refine ⟨_, rfl, _, rfl, (by show 2 ≤ sizeLine; decide), fun ta nta => ⟨_, rfl, _, rfl, (by show 2 ≤ sizeLine; decide), fun tb ntb => ?_⟩⟩
    have sa := same_new (o := .tup [V.ref o1, V.ref rh]) nta
    have sb := same_new (o := .tup [V.ref o1, V.ref rh]) ntb
    have hta := sb _ _ (upd_same (H := H5) (a := ta) (o := .tup [V.ref o1, V.ref rh]))
    have htb := upd_same (H := upd H5 ta (.tup [V.ref o1, V.ref rh])) (a := tb) (o := .tup [V.ref o1, V.ref rh])
    have sab := sa.trans sb
    clear sa sb
    generalize upd (upd H5 ta (.tup [V.ref o1, V.ref rh])) tb (.tup [V.ref o1, V.ref rh]) = H6 at *
    refine ⟨_, rfl, _, rfl, o2, f2, rfl, hF2.same sab, fo2, fun H7 r2 nr2 s7 hR2 => ⟨(by show 2 ≤ sizeLine; decide), fun tc ntc => ⟨(by show 3 ≤ sizeLine; decide), fun tt ntt => ?_⟩⟩⟩
    have sc := same_new (o := .tup [V.ref o2, V.ref r2]) ntc
    have sd := same_new (o := .tup [V.ref ta, V.ref tb, V.ref tc]) ntt
    have scd := sc.trans sd
    have hta := scd _ _ (s7 _ _ hta)
    have htb := scd _ _ (s7 _ _ htb)
    have htc := sd _ _ (upd_same (H := H7) (a := tc) (o := .tup [V.ref o2, V.ref r2]))
    have htt := upd_same (H := upd H7 tc (.tup [V.ref o2, V.ref r2])) (a := tt) (o := .tup [V.ref ta, V.ref tb, V.ref tc])
    have sx := (sab.trans s7).trans scd
    have hR2 := hR2.same scd
    clear sc sd scd
    generalize upd (upd H7 tc (.tup [V.ref o2, V.ref r2])) tt (.tup [V.ref ta, V.ref tb, V.ref tc]) = H8 at *
    have W0 : Ws K CC H H8 b lst nm rh o2 ss f1 f2 [] (n + 100) := ⟨(b5.mono (by omega)).same sx, sx _ _ hl, fun _ _ e => nil_get e, fun _ _ e => nil_get e, fun _ _ _ _ e => nil_get e, fun _ _ e => nil_get e, fun _ _ e => nil_get e, lstb, nmb, lstn, sx _ _ hnm5, hR.same sx, hF2.same sx, lst0, T5.trans (But.of sx)⟩
    have P0 : Pl K CC H8 f1 f2 [ta, tb, tc] := fun j v e => by
      have hj : j < 3 := (List.getElem?_eq_some_iff.mp e).1
      have h3 : j = 0 ∨ j = 1 ∨ j = 2 := by omega
      rcases h3 with rfl | rfl | rfl
      · cases e
        exact ⟨o1, rh, SqT.of hta, hF1.same sx, hR.same sx⟩
      · cases e
        exact ⟨o1, rh, SqT.of htb, hF1.same sx, hR.same sx⟩
      · cases e
        exact ⟨o2, r2, SqT.of htc, hF2.same sx, hR2⟩
    have fOk : ∀ j, (fOf f1 f2 j).Ok := fun j => by
      show (if j < 2 then f1 else f2).Ok
      split
      · exact fo1
      · exact fo2
    have htt : H8 tt = some (.tup (([ta, tb, tc] : List Addr).map V.ref)) := htt
    have tl : ([ta, tb, tc] : List Addr).length = 3 := rfl
    clear hR2 sx htb htc hta ntc ntt nr2 s7 sab ntb nta T5 hnm5 hR hF1 hF2 b5 hl lstb lstn lst0
    generalize ([ta, tb, tc] : List Addr) = ts at *
    refine ⟨tt, rfl, ⟨_, SqT.of htt⟩, for_tup (xs := ts.map V.ref) (fun i σ G => ∃ L s6 s7 s8 s9, σ = [some (.ref b), some (.ref o1), some (.ref o2), some (.ref nm), some (.ref rh), some (.ref lst), s6, s7, s8, s9, none, none, none, none, none, none, none] ∧ Ws K CC H G b lst nm rh o2 ss f1 f2 L (n + 100 + 20 * i) ∧ L.length = i ∧ Pl K CC G f1 f2 ts ∧ G tt = some (.tup (ts.map V.ref))) ⟨_, _, _, _, _, rfl, W0.mono (by omega), rfl, P0, htt⟩ (fun i σ G _ h => ?_) (fun i v σ G hv h => ?_) (fun σ G h => ?_)⟩
    · obtain ⟨_, _, _, _, _, _, _, _, _, h⟩ := h
      exact SqT.of h
    · obtain ⟨L, s6, s7, s8, s9, rfl, W, hL, P, htt⟩ := h
      have hi : i < ts.length := by
        have := (List.getElem?_eq_some_iff.mp hv).1
        rw [List.length_map] at this
        exact this
      rw [List.getElem?_map, List.getElem?_eq_getElem hi] at hv
      cases hv
      obtain ⟨fa, r, h1, h2, h3⟩ := P i ts[i] (List.getElem?_eq_getElem hi)
      refine ⟨_, _, rfl, h1, rfl, _, _, rfl, _, _, rfl, rfl, ?_⟩
      refine ⟨_, rfl, b, _, rfl, W.tri, by omega, fun G1 price b1 t1 p0 p1 => ⟨_, rfl, b, 300, _, rfl, b1, by decide, by decide, by omega, fun bg G2 g0 g1 b2 t2 => ⟨_, _, rfl, ?_⟩⟩⟩
      have W2 := (W.pick t1 b1).pick t2 b2
      obtain ⟨_, _, _, hbG, _⟩ := id W.tri
      have t12 := t1.trans t2
      have P2 := P.but hbG t12
      have htt2 := t12 _ _ (kind_ne htt hbG (fun z => nomatch z)) htt
      have hFa := h2.fr (but_fr t12) (tri_mu W.tri)
      have hRr := W.tri.rule t12 h3
      generalize hf : fOf f1 f2 i = f' at *
      have fo : f'.Ok := by rw [← hf]; exact fOk i
      refine ⟨_, rfl, .inl ⟨rfl, _, SqL.of W2.hl⟩, _, rfl, _, rfl, _, rfl, ?_⟩
      intro x dx nx ndx hne
      have sx : Same G2 (upd (upd G2 dx (.own x)) x (.ins CC.p dx [])) := (same_new ndx).trans (same_new (by rw [upd_ne hne.symm]; exact nx))
      refine ⟨x, dx, r, price, bg, f', rfl, upd_same, hRr.same sx, fun G3 pi pk t3 ni nk ik hP => ⟨rfl, ?_⟩⟩
      have s23 : Same G2 G3 := same_but sx nx t3
      have ni2 : G2 pi = none := none_of sx ni
      have nk2 : G2 pk = none := none_of sx nk
      refine ⟨_, rfl, _, rfl, _, rfl, fa, price, bg, rfl, fun G4 m pa ba nm4 npa nba s4 hM => ⟨(by show 2 ≤ sizeLine; decide), fun t nt => ?_⟩⟩
      have w0 := new_ware (n := n + 100 + 20 * i + 10 + 1) b2 hFa fo p0 p1 g0 s23 ni2 nk2 ik hP npa nba s4 hM
      have st := same_new (o := .tup [V.ref x, V.ref m]) nt
      have sA := (s23.trans s4).trans st
      have hlA := sA _ _ W2.hl
      refine ⟨lst, _, _, rfl, rfl, hlA, by rw [List.length_map, hL]; exact small1000 (by omega), ?_⟩
      have W5 := W2.put (L' := L ++ [(t, ⟨x, r, pi, m, fa, pk, pa, ba, f', newM price bg⟩)]) (i := i) (t := t) (w' := ⟨x, r, pi, m, fa, pk, pa, ba, f', newM price bg⟩) sA nx (none_of s23 nm4) ni2 nk2 (none_of s23 npa) (none_of s23 nba) upd_same (Ware.same w0 st) hf.symm (fun j z e => ?_) rfl
      · refine ⟨L ++ [(t, ⟨x, r, pi, m, fa, pk, pa, ba, f', newM price bg⟩)], _, _, _, _, rfl, ?_, by rw [List.length_append, hL]; rfl, ?_, ?_⟩
        · have := W5.mono (n' := n + 100 + 20 * ((i + 1 : Nat) : Int)) (by omega)
          rw [refs_snoc] at this
          exact this
        · exact (P2.same sA).but hlA But.upd
        · rw [upd_ne (kind_ne (sA _ _ htt2) hlA (fun z => nomatch z))]
          exact sA _ _ htt2
      · by_cases c : j < L.length
        · rw [List.getElem?_append_left c] at e
          exact .inr ⟨by omega, e⟩
        · rw [List.getElem?_append_right (by omega)] at e
          have hj : j - L.length < 1 := (List.getElem?_eq_some_iff.mp e).1
          have hj : j = L.length := by omega
          subst hj
          rw [Nat.sub_self] at e
          exact .inl ⟨hL, (Option.some.inj e).symm⟩
    obtain ⟨L, s6, s7, s8, s9, rfl, W, hL, _, _⟩ := h
    rw [List.length_map, tl] at W hL
    refine ⟨_, rfl, by decide, by decide, for_range (lo := 0) (n := 15) (fun i σ G => ∃ L s6 s7 s8 s9 s10 s11 s12 s13 s14 s15 s16, σ = [some (.ref b), some (.ref o1), some (.ref o2), some (.ref nm), some (.ref rh), some (.ref lst), s6, s7, s8, s9, s10, s11, s12, s13, s14, s15, s16] ∧ Ws K CC H G b lst nm rh o2 ss f1 f2 L (n + 200 + 40 * i) ∧ L.length = 3) ⟨_, _, _, _, _, _, _, _, _, _, _, _, rfl, W.mono (by omega), hL⟩ (fun i σ G hi h => ?_) (fun σ G h => ?_)⟩
    · obtain ⟨L, s6, s7, s8, s9, s10, s11, s12, s13, s14, s15, s16, rfl, W, hL⟩ := h
      refine ⟨_, rfl, b, 3, _, rfl, W.tri, by decide, by decide, by omega, fun at_ G1 a0 a1 b1 t1 => ?_⟩
      have W1 := W.pick t1 b1
      obtain ⟨j, rfl⟩ := Int.eq_ofNat_of_zero_le a0
      have hj : j < L.length := by omega
      have hq := List.getElem?_eq_getElem hj
      generalize L[j] = q0 at hq
      obtain ⟨tq, x, r, pi, m, fa, pk, pa, ba, f', M⟩ := q0
      have Wq := W1.ware j _ hq
      have rq := W1.rows j _ hq
      have sq := W1.sep j _ hq
      refine ⟨_, rfl, _, rfl, lst, _, _, _, rfl, rfl, SqL.of W1.hl, atI_nat (by rw [List.getElem?_map, hq]; rfl), ?_⟩
      refine ⟨tq, _, rfl, SqT.of rq, rfl, _, _, rfl, _, _, rfl, rfl, ?_⟩
      refine ⟨_, rfl, _, rfl, _, rfl, (by show 6 ≤ sizeLine; decide), fun wl nwl => ?_⟩
      have sw := same_new (o := .lst [.str (Str.ofString "pay"), .str (Str.ofString "pay"), .str (Str.ofString "pay"), .str (Str.ofString "fall"), .str (Str.ofString "pass"), .str (Str.ofString "up")]) nwl
      refine ⟨b, x, r, pi, m, fa, pk, pa, ba, nm, wl, f', M, _, ss, [Str.ofString "pay", Str.ofString "pay", Str.ofString "pay", Str.ofString "fall", Str.ofString "pass", Str.ofString "up"], rfl, Ware.same Wq sw, by omega, SqL.of (sw _ _ W1.nms), W1.nb, by omega, by omega, SqL.of upd_same, W1.tri.ne nwl, by decide, by decide, words6, fun G2 td D dv t2 w2 hT hV hD => ?_⟩
      have W2 := (W1.same sw).pick t2 w2.tri
      have fo := w2.fo
      have okN := did_ok (D := D) fo w2.ok ⟨dv, hV⟩
      obtain ⟨da, da1, da2, da3⟩ := did_ans (f := f') (M := M) (D := D)
      refine ⟨_, rfl, _, rfl, x, r, pi, pk, td, D, dv, f', M, rfl, hT, hV, w2.pb, w2.ik, fo, w2.ok, fun G3 pk3 hk3 fr3 hP3 => ?_⟩
      obtain ⟨b3, hF3, hM3⟩ := w2.told fr3
      have hT3 := fr3.tup (pb_mu w2.pb) hT
      refine ⟨_, rfl, _, rfl, m, fa, pa, ba, td, D, dv, f', M, rfl, hT3, hV, hM3, hF3, fo, w2.ok, fun G4 pa4 ba4 hp4 hb4 t4 hM4 => ?_⟩
      have w4 := w2.both hk3 fr3 hP3 hp4 hb4 t4 hM4 okN
      have fr4 : Fr [x, pi, m] G2 G4 := (fr3.wide (by simp)).trans ((but_fr t4).wide (by simp))
      have W4 := W2.deed (w' := ⟨x, r, pi, m, fa, pk3, pa4, ba4, f', (didM f' M D).1⟩) hq fr4 w4 rfl rfl rfl rfl hk3 (hp4.imp id (told_back fr3 hP3)) (hb4.imp id (told_back fr3 hP3))
      refine ⟨_, _, da, rfl, da3 K G4, da3 K G4, da1, da2, fun G5 s5 => ⟨_, rfl, iteF ?_⟩⟩
      have W5 := W4.same s5
      have hL5 : (L.set j (tq, ⟨x, r, pi, m, fa, pk3, pa4, ba4, f', (didM f' M D).1⟩)).length = 3 := by rw [List.length_set]; exact hL
      have hq5 : (L.set j (tq, ⟨x, r, pi, m, fa, pk3, pa4, ba4, f', (didM f' M D).1⟩))[j]? = some (tq, ⟨x, r, pi, m, fa, pk3, pa4, ba4, f', (didM f' M D).1⟩) := by rw [List.getElem?_set, if_pos rfl, if_pos hj]
      generalize (didM f' M D).1 = M5 at *
      generalize L.set j (tq, ⟨x, r, pi, m, fa, pk3, pa4, ba4, f', M5⟩) = L5 at *
      clear W4 fr4 w4 hM4 t4 hp4 hb4 hM3 hF3 b3 hT3 hP3 fr3 hk3 okN W2 w2 sw nwl Wq rq sq W1 hq W hT t2 t1 b1
      refine ⟨_, rfl, lst, rfl, ⟨_, SqL.of W5.hl⟩, for_list (K := K) (a := lst) (xs := refs L5) (fun k σ G => ∃ s7 s15 s16, σ = [some (.ref b), some (.ref o1), some (.ref o2), some (.ref nm), some (.ref rh), some (.ref lst), s6, s7, s8, s9, some (.int (0 + (i : Int))), some (.int (j : Int)), some (.ref x), some (.ref m), some (.ref td), s15, s16] ∧ Same G5 G) ⟨_, _, _, rfl, Same.refl _⟩ (fun k σ G _ h => ?_) (fun k v σ G hv h => ?_) (fun σ G h => ?_)⟩
      · obtain ⟨_, _, _, _, s⟩ := h
        exact SqL.of (s _ _ W5.hl)
      · obtain ⟨s7, s15, s16, rfl, sG⟩ := h
        obtain ⟨z, hz, rfl, _⟩ := refs_at hv
        have Wz := Ware.same (W5.ware k z hz) sG
        have ok := Wz.ok
        have ln := ok.len
        have lm := ok.many1
        have lp := Wz.fo.figs.p1
        have lb := ok.blen
        refine ⟨z.1, _, rfl, SqT.of (sG _ _ (W5.rows k z hz)), rfl, _, _, rfl, _, _, rfl, rfl, ?_⟩
        refine ⟨_, rfl, z.2.x, z.2.r, z.2.pi, z.2.pk, z.2.f, z.2.M, rfl, Wz.pb, Wz.fo, ok, fun GA la sA hla => ?_⟩
        refine ⟨_, rfl, z.2.m, z.2.fa, z.2.pa, z.2.ba, z.2.f, z.2.M, rfl, (Ware.same Wz sA).md, (Ware.same Wz sA).fg, Wz.fo, ok, fun GB lb' sB hlb => ?_⟩
        refine ⟨.ref la, .ref lb', _, rfl, dp_same sB hla, hlb, depth_due, thin_due (by omega) (by omega), fun GC sC => ⟨_, rfl, iteF ?_⟩⟩
        have sD := sG.trans ((sA.trans sB).trans sC)
        have Wd := Ware.same Wz ((sA.trans sB).trans sC)
        obtain ⟨c, hPC, hc⟩ := id Wd.pb
        obtain ⟨dx, ct, h1x, _⟩ := id hPC
        refine ⟨_, rfl, z.2.x, dx, _, rfl, h1x, b0 (by decide +kernel), z.2.x, z.2.r, z.2.pi, z.2.pk, z.2.f, z.2.M, c, rfl, hPC, fun GE l1 n1 s1 hR1 => ?_⟩
        refine ⟨_, rfl, z.2.x, dx, _, rfl, s1 _ _ h1x, b0 (by decide +kernel), z.2.x, z.2.r, z.2.pi, z.2.pk, z.2.f, z.2.M, c, rfl, hPC.same s1, fun GF l2 n2 s2 hR2 => ⟨(by show 2 ≤ sizeLine; decide), fun tt ntt => ?_⟩⟩
        have stt := same_new (o := .tup [V.ref l1, V.ref l2]) ntt
        obtain ⟨L1, e1, _, _, e4⟩ := hR1.len
        obtain ⟨L2, g1, _, _, g4⟩ := hR2.len
        have e1 := stt _ _ (s2 _ _ e1)
        have g1 := stt _ _ g1
        have htt := upd_same (H := GF) (a := tt) (o := .tup [V.ref l1, V.ref l2])
        have n1 : G5 l1 = none := none_of sD n1
        have n2 : G5 l2 = none := none_of (sD.trans s1) n2
        have sE := ((sD.trans s1).trans s2).trans stt
        generalize upd GF tt (.tup [V.ref l1, V.ref l2]) = GH at *
        have len1 : (refs L1).length ≤ 10 := by rw [List.length_map]; omega
        have len2 : (refs L2).length ≤ 10 := by rw [List.length_map]; omega
        refine ⟨tt, rfl, ⟨_, SqT.of htt⟩, for_tup (xs := [V.ref l1, V.ref l2]) (fun y σ G => ∃ s16 xs1 xs2, σ = [some (.ref b), some (.ref o1), some (.ref o2), some (.ref nm), some (.ref rh), some (.ref lst), s6, some (.ref z.2.m), s8, s9, some (.int (0 + (i : Int))), some (.int (j : Int)), some (.ref x), some (.ref m), some (.ref td), some (.ref z.2.x), s16] ∧ Same G5 G ∧ G tt = some (.tup [V.ref l1, V.ref l2]) ∧ G l1 = some (.lst xs1) ∧ G l2 = some (.lst xs2) ∧ xs1.length ≤ 10 + y ∧ xs2.length ≤ 10 + y) ⟨_, _, _, rfl, sE, htt, e1, g1, len1, len2⟩ (fun y σ G _ h => ?_) (fun y v σ G hv h => ?_) (fun σ G h => ?_)⟩
        · obtain ⟨_, _, _, _, _, h, _⟩ := h
          exact SqT.of h
        · obtain ⟨s16, xs1, xs2, rfl, sY, hty, h1, h2, x1, x2⟩ := h
          have hy : y = 0 ∨ y = 1 := by
            have := (List.getElem?_eq_some_iff.mp hv).1
            have h2 : y < 2 := this
            omega
          have hx : ∃ l xs, v = .ref l ∧ G l = some (.lst xs) ∧ xs.length ≤ 11 ∧ G5 l = none ∧ (l = l1 ∨ l = l2) := by
            rcases hy with rfl | rfl
            · cases hv
              exact ⟨l1, xs1, rfl, h1, by omega, n1, .inl rfl⟩
            · cases hv
              exact ⟨l2, xs2, rfl, h2, by omega, n2, .inr rfl⟩
          obtain ⟨l, xs, rfl, hl, xl, nl, hl12⟩ := hx
          refine ⟨_, rfl, .inl ⟨rfl, _, SqL.of hl⟩, (by show 3 ≤ sizeLine; decide), fun tm ntm => ?_⟩
          have sm := same_new (o := .tup [V.int 0, V.str (Str.ofString "more"), V.int 1]) ntm
          refine ⟨l, xs, _, rfl, rfl, sm _ _ hl, small1000 (by omega), ?_⟩
          refine ⟨_, rfl, .inl ⟨rfl, _, SqL.of upd_same⟩, l, _, rfl, rfl, upd_same, ?_⟩
          have sN : ∀ (o o' : HO), Same G5 (upd (upd (upd G tm (.tup [V.int 0, V.str (Str.ofString "more"), V.int 1])) l o) l o') := fun o o' c u hc => by
            have ne : c ≠ l := ne_some hc nl
            rw [upd_ne ne, upd_ne ne]
            exact sm _ _ (sY _ _ hc)
          have at_ : ∀ {a : Addr} {xs' : List V} (o o' : HO), G a = some (.lst xs') → a ≠ l → upd (upd (upd G tm (.tup [V.int 0, V.str (Str.ofString "more"), V.int 1])) l o) l o' a = some (.lst xs') := fun o o' ha ne => by
            rw [upd_ne ne, upd_ne ne]
            exact sm _ _ ha
          have ttl : tt ≠ l := kind_ne hty hl (fun z => nomatch z)
          by_cases c1 : l1 = l
          · by_cases c2 : l2 = l
            · exact ⟨_, _, _, rfl, sN _ _, by rw [upd_ne ttl, upd_ne ttl]; exact sm _ _ hty, by rw [c1]; exact upd_same, by rw [c2]; exact upd_same, by rw [List.length_reverse, List.length_append]; show xs.length + 1 ≤ _; subst c1; rw [h1] at hl; cases hl; omega, by rw [List.length_reverse, List.length_append]; show xs.length + 1 ≤ _; subst c1; rw [h1] at hl; cases hl; omega⟩
            · exact ⟨_, _, _, rfl, sN _ _, by rw [upd_ne ttl, upd_ne ttl]; exact sm _ _ hty, by rw [c1]; exact upd_same, at_ _ _ h2 c2, by rw [List.length_reverse, List.length_append]; show xs.length + 1 ≤ _; subst c1; rw [h1] at hl; cases hl; omega, by omega⟩
          · have c2 : l2 = l := by
              rcases hl12 with e | e
              · exact absurd e.symm c1
              · exact e.symm
            exact ⟨_, _, _, rfl, sN _ _, by rw [upd_ne ttl, upd_ne ttl]; exact sm _ _ hty, at_ _ _ h1 c1, by rw [c2]; exact upd_same, by omega, by rw [List.length_reverse, List.length_append]; show xs.length + 1 ≤ _; subst c2; rw [h2] at hl; cases hl; omega⟩
        · obtain ⟨s16, xs1, xs2, rfl, sY, _⟩ := h
          exact ⟨_, _, _, rfl, sY⟩
      obtain ⟨s7, s15, s16, rfl, sG⟩ := h
      have W6 := W5.same sG
      have w6 := W6.ware j _ hq5
      have w6 : Ware K CC G b x r pi m fa pk3 pa4 ba4 f' M5 (n + 200 + 40 * i + 1 + 5) := w6
      have hf6 : f' = fOf f1 f2 j := W6.fs j _ hq5
      obtain ⟨en, hC, hen⟩ := id w6.md
      refine ⟨_, rfl, m, _, rfl, dg_end hC.1, rfl, _, rfl, ?_⟩
      rw [en_non hen]
      rcases en_or M5 with e | ⟨wd, de, e⟩
      · rw [decide_eq_true e]
        exact iteF ⟨L5, _, _, _, _, _, _, _, _, _, _, _, rfl, W6.mono (by omega), hL5⟩
      rw [decide_eq_false (by rw [e]; exact fun z => nomatch z)]
      refine iteT ⟨_, rfl, b, 2, _, rfl, w6.tri, by decide, by decide, by omega, fun r1 G7 r10 r11 b7 t7 => ⟨rfl, _, rfl, ?_⟩⟩
      have W7 := W6.pick t7 b7
      by_cases e0 : r1 = 0
      · rw [show decide (V.int r1 = V.int 0) = true from decide_eq_true (by rw [e0])]
        refine iteT ⟨_, rfl, b, _, rfl, b7, by omega, fun G8 price b8 t8 p0 p1 => ?_⟩
        have W8 := W7.pick t8 b8
        refine ⟨_, rfl, _, rfl, _, rfl, o2, f2, rfl, W8.fig, fo2, fun G9 r2 nr2 s9 hR2 => ⟨(by show 3 ≤ sizeLine; decide), fun l nl => ?_⟩⟩
        have sl9 := same_new (o := .lst [V.ref rh, V.ref rh, V.ref r2]) nl
        have hl9 := upd_same (H := G9) (a := l) (o := .lst [V.ref rh, V.ref rh, V.ref r2])
        have W9 := W8.same (s9.trans sl9)
        have hR2 := hR2.same sl9
        generalize upd G9 l (.lst [V.ref rh, V.ref rh, V.ref r2]) = GA at *
        obtain ⟨r', hat, hr'⟩ : ∃ r', atI [V.ref rh, V.ref rh, V.ref r2] (j : Int) = some (.ref r') ∧ RuleAt K GA CC.r r' f' := by
          have h3 : j = 0 ∨ j = 1 ∨ j = 2 := by omega
          rcases h3 with rfl | rfl | rfl
          · exact ⟨rh, rfl, by rw [hf6]; exact W9.rule⟩
          · exact ⟨rh, rfl, by rw [hf6]; exact W9.rule⟩
          · exact ⟨r2, rfl, by rw [hf6]; exact hR2⟩
        refine ⟨_, rfl, l, _, _, _, rfl, rfl, SqL.of hl9, hat, _, _, rfl, ?_⟩
        have w9 : Ware K CC GA b x r pi m fa pk3 pa4 ba4 f' M5 _ := W9.ware j _ hq5
        obtain ⟨en9, hC9, _⟩ := id w9.md
        have bg0 : 0 ≤ M5.day := by
          have h1 := w9.ok.b0
          have h2 := w9.ok.bd
          omega
        refine ⟨_, rfl, _, rfl, _, rfl, m, _, rfl, dg_day hC9.1, ?_⟩
        intro x' dx nx ndx hne
        have sx : Same GA (upd (upd GA dx (.own x')) x' (.ins CC.p dx [])) := (same_new ndx).trans (same_new (by rw [upd_ne hne.symm]; exact nx))
        refine ⟨x', dx, r', price, M5.day, f', rfl, upd_same, hr'.same sx, fun GB pi' pk' tB ni nk ik hP => ⟨rfl, ?_⟩⟩
        have sB : Same GA GB := same_but sx nx tB
        have ni2 : GA pi' = none := none_of sx ni
        have nk2 : GA pk' = none := none_of sx nk
        have hmB := sB _ _ hC9.1
        refine ⟨_, rfl, m, _, rfl, dg_figures hmB, _, rfl, _, rfl, m, _, rfl, dg_day hmB, fa, price, M5.day, rfl, fun GC m' pa' ba' nm' npa nba sC hM => ⟨(by show 2 ≤ sizeLine; decide), fun t nt => ?_⟩⟩
        have w0 := new_ware w9.tri w9.fg w9.fo p0 p1 bg0 sB ni2 nk2 ik hP npa nba sC hM
        have st := same_new (o := .tup [V.ref x', V.ref m']) nt
        have sA := (sB.trans sC).trans st
        have hlA := sA _ _ W9.hl
        have hj5 : j < L5.length := by omega
        refine ⟨_, rfl, _, rfl, lst, _, _, j, rfl, rfl, hlA, ix_nat (by rw [List.length_map]; exact hj5), ?_⟩
        have W5' := W9.put (L' := L5.set j (t, ⟨x', r', pi', m', fa, pk', pa', ba', f', newM price M5.day⟩)) (i := j) (t := t) (w' := ⟨x', r', pi', m', fa, pk', pa', ba', f', newM price M5.day⟩) sA nx (none_of sB nm') ni2 nk2 (none_of sB npa) (none_of sB nba) upd_same (Ware.same w0 st) hf6 (fun k z e => ?_) rfl
        · refine ⟨L5.set j (t, ⟨x', r', pi', m', fa, pk', pa', ba', f', newM price M5.day⟩), _, _, _, _, _, _, _, _, _, _, _, rfl, ?_, by rw [List.length_set]; exact hL5⟩
          have := W5'.mono (n' := n + 200 + 40 * ((i + 1 : Nat) : Int)) (by omega)
          rw [show refs (L5.set j (t, ⟨x', r', pi', m', fa, pk', pa', ba', f', newM price M5.day⟩)) = (refs L5).set j (.ref t) from List.map_set] at this
          exact this
        · rw [List.getElem?_set] at e
          by_cases c : j = k
          · rw [if_pos c, if_pos (by omega)] at e
            exact .inl ⟨c.symm, (Option.some.inj e).symm⟩
          · rw [if_neg c] at e
            exact .inr ⟨fun z => c z.symm, e⟩
      · rw [show decide (V.int r1 = V.int 0) = false from decide_eq_false (fun z => e0 (V.int.inj z))]
        exact iteF ⟨L5, _, _, _, _, _, _, _, _, _, _, _, rfl, W7.mono (by omega), hL5⟩
    obtain ⟨L, s6, s7, s8, s9, s10, s11, s12, s13, s14, s15, s16, rfl, W, hL⟩ := h
    exact q _ (W.tri.mono (by omega)) W.T
/-! ### law -/
abbrev s_law : Stmt := topS 54
abbrev N_law : List Str := ["_law_script", "_law_k"]
theorem sc_law : FnScope N_law ["_law_script"] (defScope s_law) := ⟨rfl, rfl, rfl, by decide +kernel, rfl, by decide +kernel, by decide +kernel⟩
def sp_law (K : PySem.W.Frag) : Sp := fun vs H Q _ => ∃ (a : Addr) (ns : List Int), vs = [.ref a] ∧ SqL K H a (ns.map V.int) ∧ ns.length ≤ 63 ∧ ∀ H', Q (.bl true) H'
theorem ok_law {f : Addr} {fd : FuncData} (F : Fun K "law" "law" s_law f fd) {CC : Cl} (T_Rule : TRule K mg CC.r) (T_Putby : TPutby K mg CC.p) (TE : TErrs K mg CC) (m_all : mg "all" = none) (m_range : mg "range" = none) (m_max : mg "max" = none) (m_min : mg "min" = none) (m_len : mg "len" = none) (C__law_right : CF P w K mg base 7 "_law_right" ["_law_left_here"] (sp__law_right K CC)) (C__law_left : CF P w K mg base 1 "_law_left" ["_law_script", "_law_k"] (sp__law_left K)) : FnOk P w K mg base CX0 8 f fd ["_law_script"] (sp_law K) := by
  refine F.ok sc_law (fun vs H Q E h => ?_) (fun cdv A outer s H vs Q E hr h => ?_)
  · first | (obtain ⟨_, rfl, _⟩ := h; rfl) | (obtain ⟨_, _, rfl, _⟩ := h; rfl) | (obtain ⟨_, _, _, rfl, _⟩ := h; rfl) | (obtain ⟨_, _, _, _, rfl, _⟩ := h; rfl) | (obtain ⟨_, _, _, _, _, rfl, _⟩ := h; rfl) | (obtain ⟨_, _, _, _, _, _, rfl, _⟩ := h; rfl) | (obtain ⟨_, _, _, _, _, _, _, rfl, _⟩ := h; rfl) | (obtain ⟨_, _, _, _, _, _, _, _, rfl, _⟩ := h; rfl) | (obtain ⟨_, _, _, _, _, _, _, _, _, rfl, _⟩ := h; rfl) | (obtain ⟨_, _, _, _, _, _, _, _, _, _, rfl, _⟩ := h; rfl) | (obtain ⟨_, _, _, _, _, _, _, _, _, _, _, rfl, _⟩ := h; rfl) | (obtain ⟨_, _, _, _, _, _, _, _, _, _, _, _, rfl, _⟩ := h; rfl) | (obtain ⟨_, _, _, _, _, _, _, _, _, _, _, _, _, rfl, _⟩ := h; rfl) | (obtain ⟨_, _, _, _, _, _, _, _, _, _, _, _, _, _, rfl, _⟩ := h; rfl) | (obtain ⟨_, _, _, _, _, _, _, _, _, _, _, _, _, _, _, rfl, _⟩ := h; rfl)
  · have hu64 := hr.units
    obtain ⟨a, ns, rfl, hS, hlen, q⟩ := h
    refine ⟨_, (pss_one (ps_ret (pe_callB (kk_all K rfl) (by rfl) m_all (by decide +kernel) (pa_cons (pe_lc (own := [("_law_k", 1)]) (g := (gName 1)) (tt := tYes) rfl sc_law.nd (pi_range1 (by rfl) m_range (pa_cons (pe_callB (call_max2 rfl) (by rfl) m_max (by decide +kernel) (pa_cons pe_int (pa_cons (pe_callB (call_min2 rfl) (by rfl) m_min (by decide +kernel) (pa_cons pe_int (pa_cons (pe_callB (kk_len K) (by rfl) m_len PySem.boot_len (pa_cons (pv 0) pa_nil)) pa_nil))) pa_nil))) pa_nil)) (blkOk_by (own := [("_law_k", 1)]) (N := N_law) (sc := defScope s_law) (by decide +kernel)) (fun _ _ _ _ _ => pg_name (i := 1) sc_law.nd rfl (Or.inl rfl)) (fun _ _ _ _ _ => pts_nil) (fun _ _ _ _ _ => (pe_cf C__law_right (hr.mono (by decide)) (by rfl) (pa_cons (pe_cf C__law_left (hr.mono (by decide)) (by rfl) (pa_cons (pv 0) (pa_cons (pv 1) pa_nil))) pa_nil)))) pa_nil)))), ?_⟩
    have h1 : (if (if (((ns.map V.int).length : Nat) : Int) < 3 then (((ns.map V.int).length : Nat) : Int) else 3) > 1 then (if (((ns.map V.int).length : Nat) : Int) < 3 then (((ns.map V.int).length : Nat) : Int) else 3) else 1) ≤ 3 := by split <;> split <;> omega
    refine ⟨_, rfl, a, _, rfl, .inl hS, _, _, rfl, _, _, rfl, _, rfl, ?_, ?_, fun D hD => lc_range (fun i G => Same H G ∧ G D = some (.lst (List.replicate i (V.bl true)))) ⟨same_new hD, upd_same⟩ (fun i G hi h => ?_) (fun G h => ?_)⟩
    · split <;> split <;> omega
    · split <;> split <;> omega
    · obtain ⟨sm, hG⟩ := h
      have hi2 : i < 10 := by omega
      refine ⟨rfl, _, rfl, _, rfl, a, _, ns, rfl, sm.seq hS, hlen, by omega, by omega, fun H1 b nb sb hb => ?_⟩
      have hDb : D ≠ b := ne_some hG nb
      refine ⟨b, _, rfl, hb, by omega, fun H2 b2 t2 => ?_⟩
      refine ⟨_, t2 _ _ hDb (sb _ _ hG), by rw [List.length_replicate]; exact small1000 (by omega), ?_, ?_⟩
      · exact fun e o he => by
          rw [upd_ne (ne_of_none (show H e = some o from he) hD)]
          exact same_but (sm.trans sb) (sm.free nb) t2 _ _ he
      · rw [upd_same, List.replicate_succ']
    · refine ⟨D, List.replicate _ true, rfl, SqL.of (h.2.trans (by rw [List.map_replicate])), ?_⟩
      rw [show ∀ k, (List.replicate k true).all id = true from fun k => by simp]
      exact q _
end
set_option maxHeartbeats 0 in
theorem all_mk {l : PySem.W.OpenLaw} {w : World} {K : PySem.W.Frag} {h : Heap} {mg : Str → Option Value} {fa f0 f1 f2 f3 f4 f5 f6 f7 f8 f9 f10 f11 f12 f13 f14 f15 f16 f17 f18 f19 f20 f21 f22 f23 f24 f25 f26 f27 f28 f29 f30 f31 f32 f33 f34 f35 f36 f37 f38 f39 f40 f41 f42 f43 f44 f45 f46 f47 f48 f49 f50 f51 f52 CR CP CW CN CI CO1 CO2 CO3 CO4 CO5 CO6 : Addr} (X : K.In h) (G : h.Ns mainGlobals mg) (hfa : mg "law" = some (.ref fa))
    {od0 an0 od1 an1 od2 an2 od3 an3 od4 an4 od5 an5 od6 an6 od7 an7 od8 an8 od9 an9 od10 an10 od11 an11 od12 an12 od13 an13 od14 an14 od15 an15 od16 an16 od17 an17 od18 an18 od19 an19 od20 an20 od21 an21 od22 an22 od23 an23 od24 an24 od25 an25 od26 an26 od27 an27 od28 an28 od29 an29 od30 an30 od31 an31 od32 an32 od33 an33 od34 an34 od35 an35 od36 an36 od37 an37 od38 an38 od39 an39 od40 an40 od41 an41 od42 an42 od43 an43 od44 an44 od45 an45 od46 an46 od47 an47 od48 an48 od49 an49 od50 an50 od51 an51 od52 an52 : Option Addr} {sl0 sl1 sl2 sl3 sl4 sl5 sl6 sl7 sl8 sl9 sl10 sl11 sl12 sl13 sl14 sl15 sl16 sl17 sl18 sl19 sl20 sl21 sl22 sl23 sl24 sl25 sl26 sl27 sl28 sl29 sl30 sl31 sl32 sl33 sl34 sl35 sl36 sl37 sl38 sl39 sl40 sl41 sl42 sl43 sl44 sl45 sl46 sl47 sl48 sl49 sl50 sl51 sl52 : Array (Option Value)} {oc0 kV0 dc0 pm0 cd0 ct0 oc1 kV1 dc1 pm1 cd1 ct1 oc2 kV2 dc2 pm2 cd2 ct2 oc3 kV3 dc3 pm3 cd3 ct3 oc4 kV4 dc4 pm4 cd4 ct4 oc5 kV5 dc5 pm5 cd5 ct5 oc6 kV6 dc6 pm6 cd6 ct6 oc7 kV7 dc7 pm7 cd7 ct7 oc8 kV8 dc8 pm8 cd8 ct8 oc9 kV9 dc9 pm9 cd9 ct9 oc10 kV10 dc10 pm10 cd10 ct10 oc11 kV11 dc11 pm11 cd11 ct11 oc12 kV12 dc12 pm12 cd12 ct12 oc13 kV13 dc13 pm13 cd13 ct13 oc14 kV14 dc14 pm14 cd14 ct14 oc15 kV15 dc15 pm15 cd15 ct15 oc16 kV16 dc16 pm16 cd16 ct16 oc17 kV17 dc17 pm17 cd17 ct17 oc18 kV18 dc18 pm18 cd18 ct18 oc19 kV19 dc19 pm19 cd19 ct19 oc20 kV20 dc20 pm20 cd20 ct20 oc21 kV21 dc21 pm21 cd21 ct21 oc22 kV22 dc22 pm22 cd22 ct22 oc23 kV23 dc23 pm23 cd23 ct23 oc24 kV24 dc24 pm24 cd24 ct24 oc25 kV25 dc25 pm25 cd25 ct25 oc26 kV26 dc26 pm26 cd26 ct26 oc27 kV27 dc27 pm27 cd27 ct27 oc28 kV28 dc28 pm28 cd28 ct28 oc29 kV29 dc29 pm29 cd29 ct29 oc30 kV30 dc30 pm30 cd30 ct30 oc31 kV31 dc31 pm31 cd31 ct31 oc32 kV32 dc32 pm32 cd32 ct32 oc33 kV33 dc33 pm33 cd33 ct33 oc34 kV34 dc34 pm34 cd34 ct34 oc35 kV35 dc35 pm35 cd35 ct35 oc36 kV36 dc36 pm36 cd36 ct36 oc37 kV37 dc37 pm37 cd37 ct37 oc38 kV38 dc38 pm38 cd38 ct38 oc39 kV39 dc39 pm39 cd39 ct39 oc40 kV40 dc40 pm40 cd40 ct40 oc41 kV41 dc41 pm41 cd41 ct41 oc42 kV42 dc42 pm42 cd42 ct42 oc43 kV43 dc43 pm43 cd43 ct43 oc44 kV44 dc44 pm44 cd44 ct44 oc45 kV45 dc45 pm45 cd45 ct45 oc46 kV46 dc46 pm46 cd46 ct46 oc47 kV47 dc47 pm47 cd47 ct47 oc48 kV48 dc48 pm48 cd48 ct48 oc49 kV49 dc49 pm49 cd49 ct49 oc50 kV50 dc50 pm50 cd50 ct50 oc51 kV51 dc51 pm51 cd51 ct51 oc52 kV52 dc52 pm52 cd52 ct52 : Value}
    (aC : PySem.W.nsIn K mainGlobals "Rule" = some (some (.ref CR))) (pg : PySem.W.plainGet K CR Str.empty = true) (hd : PySem.W.hasDictIn K CR = true) (po : PySem.W.plainOver K CR = true) (sa : PySem.W.findIn K (.ref CR) "__setattr__" = some (some (.builtin "object.__setattr__"))) (mk : PySem.W.makesIn K CR = true) (kc : PySem.W.keepIn K (.ref CR) = true)
    (n1 : PySem.W.findIn K (.ref CR) "parts" = some none) (n2 : PySem.W.findIn K (.ref CR) "step" = some none) (n3 : PySem.W.findIn K (.ref CR) "grace" = some none) (n4 : PySem.W.findIn K (.ref CR) "last" = some none) (n5 : PySem.W.findIn K (.ref CR) "misses" = some none) (n6 : PySem.W.findIn K (.ref CR) "keep" = some none) (n7 : PySem.W.findIn K (.ref CR) "fine" = some none) (n8 : PySem.W.findIn K (.ref CR) "falls" = some none) (n9 : PySem.W.findIn K (.ref CR) "back" = some none)
    (aCP : PySem.W.nsIn K mainGlobals "Putby" = some (some (.ref CP))) (pgP : PySem.W.plainGet K CP Str.empty = true) (hdP : PySem.W.hasDictIn K CP = true) (poP : PySem.W.plainOver K CP = true) (saP : PySem.W.findIn K (.ref CP) "__setattr__" = some (some (.builtin "object.__setattr__"))) (mkP : PySem.W.makesIn K CP = true) (kcP : PySem.W.keepIn K (.ref CP) = true)
    (nP1 : PySem.W.findIn K (.ref CP) "rule" = some none) (nP2 : PySem.W.findIn K (.ref CP) "asked" = some none) (nP3 : PySem.W.findIn K (.ref CP) "begin" = some none) (nP4 : PySem.W.findIn K (.ref CP) "passed" = some none) (nP5 : PySem.W.findIn K (.ref CP) "course" = some none) (nP6 : PySem.W.findIn K (.ref CP) "paid_in" = some none) (nP7 : PySem.W.findIn K (.ref CP) "paid_back" = some none)
    (e_CW : PySem.W.nsIn K mainGlobals "WareError" = some (some (.ref CW)))
    (e_CN : PySem.W.nsIn K mainGlobals "NoDay" = some (some (.ref CN)))
    (e_CI : PySem.W.nsIn K mainGlobals "Idle" = some (some (.ref CI)))
    (e_CO1 : PySem.W.nsIn K mainGlobals "BadClause" = some (some (.ref CO1)))
    (e_CO2 : PySem.W.nsIn K mainGlobals "BadRow" = some (some (.ref CO2)))
    (e_CO3 : PySem.W.nsIn K mainGlobals "BadRule" = some (some (.ref CO3)))
    (e_CO4 : PySem.W.nsIn K mainGlobals "NoEntry" = some (some (.ref CO4)))
    (e_CO5 : PySem.W.nsIn K mainGlobals "NoHouse" = some (some (.ref CO5)))
    (e_CO6 : PySem.W.nsIn K mainGlobals "NoWare" = some (some (.ref CO6)))
    (e_CW_ty : PySem.W.typeIn K (.ref CW) = some (.type "type"))    (e_CW_ic : PySem.W.isClsIn K CW = true)
    (e_CN_ty : PySem.W.typeIn K (.ref CN) = some (.type "type"))    (e_CN_ic : PySem.W.isClsIn K CN = true)
    (e_CI_ty : PySem.W.typeIn K (.ref CI) = some (.type "type"))    (e_CI_ic : PySem.W.isClsIn K CI = true)
    (e_CO1_ty : PySem.W.typeIn K (.ref CO1) = some (.type "type"))    (e_CO1_ic : PySem.W.isClsIn K CO1 = true)
    (e_CO2_ty : PySem.W.typeIn K (.ref CO2) = some (.type "type"))    (e_CO2_ic : PySem.W.isClsIn K CO2 = true)
    (e_CO3_ty : PySem.W.typeIn K (.ref CO3) = some (.type "type"))    (e_CO3_ic : PySem.W.isClsIn K CO3 = true)
    (e_CO4_ty : PySem.W.typeIn K (.ref CO4) = some (.type "type"))    (e_CO4_ic : PySem.W.isClsIn K CO4 = true)
    (e_CO5_ty : PySem.W.typeIn K (.ref CO5) = some (.type "type"))    (e_CO5_ic : PySem.W.isClsIn K CO5 = true)
    (e_CO6_ty : PySem.W.typeIn K (.ref CO6) = some (.type "type"))    (e_CO6_ic : PySem.W.isClsIn K CO6 = true)
    (e_CW_sb : PySem.W.subIn K (.ref CW) (.type "BaseException") = some true)
    (e_CW_hd : PySem.W.hasDictIn K CW = true)
    (e_CN_xc : PySem.W.excIn K CN [.type "ValueError", .type "Exception", .type "BaseException", .type "object"] "ValueError.__new__" = true)
    (e_CN_kp : PySem.W.keepIn K (.ref CN) = true)
    (e_CN_sb : PySem.W.subIn K (.ref CN) (.type "BaseException") = some true)
    (e_CN_hg : PySem.W.findIn K (.ref CN) "__getattribute__" = some (some (.builtin "BaseException.__getattribute__")))
    (e_CN_hk : PySem.W.findIn K (.ref CN) "__getattr__" = some none)
    (e_CN_hd : PySem.W.hasDictIn K CN = true)
    (e_CN_ha : PySem.W.findIn K (.ref CN) "__class__" = some (some (.builtin "object.__class__")))
    (e_CN_hm : PySem.W.mroIn K CN (.type "object") = some true)
    (e_CN_ve : PySem.W.subIn K (.ref CN) (.type "ValueError") = some true)
    (e_CN_xw : PySem.W.subIn K (.ref CN) (.ref CW) = some true)
    (e_CN_sCI : PySem.W.subIn K (.ref CN) (.ref CI) = some false)
    (e_CN_sCO1 : PySem.W.subIn K (.ref CN) (.ref CO1) = some false)
    (e_CN_sCO2 : PySem.W.subIn K (.ref CN) (.ref CO2) = some false)
    (e_CN_sCO3 : PySem.W.subIn K (.ref CN) (.ref CO3) = some false)
    (e_CN_sCO4 : PySem.W.subIn K (.ref CN) (.ref CO4) = some false)
    (e_CN_sCO5 : PySem.W.subIn K (.ref CN) (.ref CO5) = some false)
    (e_CN_sCO6 : PySem.W.subIn K (.ref CN) (.ref CO6) = some false)
    (e_CN_nCI : CN ≠ CI)    (e_CN_nCO1 : CN ≠ CO1)    (e_CN_nCO2 : CN ≠ CO2)    (e_CN_nCO3 : CN ≠ CO3)    (e_CN_nCO4 : CN ≠ CO4)    (e_CN_nCO5 : CN ≠ CO5)    (e_CN_nCO6 : CN ≠ CO6)
    (e_CI_xc : PySem.W.excIn K CI [.type "ValueError", .type "Exception", .type "BaseException", .type "object"] "ValueError.__new__" = true)
    (e_CI_kp : PySem.W.keepIn K (.ref CI) = true)
    (e_CI_sb : PySem.W.subIn K (.ref CI) (.type "BaseException") = some true)
    (e_CI_hg : PySem.W.findIn K (.ref CI) "__getattribute__" = some (some (.builtin "BaseException.__getattribute__")))
    (e_CI_hk : PySem.W.findIn K (.ref CI) "__getattr__" = some none)
    (e_CI_hd : PySem.W.hasDictIn K CI = true)
    (e_CI_ha : PySem.W.findIn K (.ref CI) "__class__" = some (some (.builtin "object.__class__")))
    (e_CI_hm : PySem.W.mroIn K CI (.type "object") = some true)
    (e_CI_ve : PySem.W.subIn K (.ref CI) (.type "ValueError") = some true)
    (e_CI_xw : PySem.W.subIn K (.ref CI) (.ref CW) = some true)
    (e_CI_sCN : PySem.W.subIn K (.ref CI) (.ref CN) = some false)
    (e_CI_sCO1 : PySem.W.subIn K (.ref CI) (.ref CO1) = some false)
    (e_CI_sCO2 : PySem.W.subIn K (.ref CI) (.ref CO2) = some false)
    (e_CI_sCO3 : PySem.W.subIn K (.ref CI) (.ref CO3) = some false)
    (e_CI_sCO4 : PySem.W.subIn K (.ref CI) (.ref CO4) = some false)
    (e_CI_sCO5 : PySem.W.subIn K (.ref CI) (.ref CO5) = some false)
    (e_CI_sCO6 : PySem.W.subIn K (.ref CI) (.ref CO6) = some false)
    (e_CI_nCN : CI ≠ CN)    (e_CI_nCO1 : CI ≠ CO1)    (e_CI_nCO2 : CI ≠ CO2)    (e_CI_nCO3 : CI ≠ CO3)    (e_CI_nCO4 : CI ≠ CO4)    (e_CI_nCO5 : CI ≠ CO5)    (e_CI_nCO6 : CI ≠ CO6)
    (e_hn : PySem.W.specialIn K (.builtin "object.__class__") "__get__" = some (some (.builtin "getset_descriptor.__get__"))) (e_ht : PySem.W.takesIn K (.builtin "object.__class__") = some true)
    (a0 : PySem.W.nsIn K mainGlobals "share_up" = some (some (.ref f0))) (l0 : K.lookup f0 = some ⟨oc0, od0, .func (PySem.W.fnOf "share_up" "share_up" (defArgs s_share_up) (defBody s_share_up) (defScope s_share_up) .none kV0 dc0 pm0 an0 cd0 ct0), sl0⟩) (c0 : PySem.W.codeIn K cd0 "share_up" = true) (k0 : PySem.W.keepIn K (.ref f0) = true)
    (a1 : PySem.W.nsIn K mainGlobals "parts_of" = some (some (.ref f1))) (l1 : K.lookup f1 = some ⟨oc1, od1, .func (PySem.W.fnOf "parts_of" "parts_of" (defArgs s_parts_of) (defBody s_parts_of) (defScope s_parts_of) .none kV1 dc1 pm1 an1 cd1 ct1), sl1⟩) (c1 : PySem.W.codeIn K cd1 "parts_of" = true) (k1 : PySem.W.keepIn K (.ref f1) = true)
    (a2 : PySem.W.nsIn K mainGlobals "is_number_in" = some (some (.ref f2))) (l2 : K.lookup f2 = some ⟨oc2, od2, .func (PySem.W.fnOf "is_number_in" "is_number_in" (defArgs s_is_number_in) (defBody s_is_number_in) (defScope s_is_number_in) .none kV2 dc2 pm2 an2 cd2 ct2), sl2⟩) (c2 : PySem.W.codeIn K cd2 "is_number_in" = true) (k2 : PySem.W.keepIn K (.ref f2) = true)
    (a3 : PySem.W.nsIn K mainGlobals "may_be_kept" = some (some (.ref f3))) (l3 : K.lookup f3 = some ⟨oc3, od3, .func (PySem.W.fnOf "may_be_kept" "may_be_kept" (defArgs s_may_be_kept) (defBody s_may_be_kept) (defScope s_may_be_kept) .none kV3 dc3 pm3 an3 cd3 ct3), sl3⟩) (c3 : PySem.W.codeIn K cd3 "may_be_kept" = true) (k3 : PySem.W.keepIn K (.ref f3) = true)
    (a4 : PySem.W.nsIn K mainGlobals "wrong_figure" = some (some (.ref f4))) (l4 : K.lookup f4 = some ⟨oc4, od4, .func (PySem.W.fnOf "wrong_figure" "wrong_figure" (defArgs s_wrong_figure) (defBody s_wrong_figure) (defScope s_wrong_figure) .none kV4 dc4 pm4 an4 cd4 ct4), sl4⟩) (c4 : PySem.W.codeIn K cd4 "wrong_figure" = true) (k4 : PySem.W.keepIn K (.ref f4) = true)
    {D5 : Addr} {dod5 : Option Addr} {doc5 : Value} {dsl5 : Array (Option Value)} {dn5 : Nat} {u5_0 u5_2 u5_3 u5_4 u5_5 u5_6 : Tok}
    (a5 : PySem.W.findIn K (.ref CR) "__init__" = some (some (.ref f5))) (l5 : K.lookup f5 = some ⟨oc5, od5, .func (PySem.W.fnOf "__init__" "Rule.__init__" (defArgs s_Rule___init__) (defBody s_Rule___init__) (defScope s_Rule___init__) (.ref D5) kV5 dc5 pm5 an5 cd5 ct5), sl5⟩) (c5 : PySem.W.codeIn K cd5 "Rule.__init__" = true) (k5 : PySem.W.keepIn K (.ref f5) = true)
    (i5 : PySem.W.isFn K (.ref f5) = true) (d5 : K.lookup D5 = some ⟨doc5, dod5, .seq [.int 0 u5_0, .bool false, .int 0 u5_2, .int 0 u5_3, .int 0 u5_4, .int 0 u5_5, .int 0 u5_6].toArray dn5, dsl5⟩)
    {D6 : Addr} {dod6 : Option Addr} {doc6 : Value} {dsl6 : Array (Option Value)} {dn6 : Nat}
    (a6 : PySem.W.findIn K (.ref CR) "keeps" = some (some (.ref f6))) (l6 : K.lookup f6 = some ⟨oc6, od6, .func (PySem.W.fnOf "keeps" "Rule.keeps" (defArgs s_Rule_keeps) (defBody s_Rule_keeps) (defScope s_Rule_keeps) (.ref D6) kV6 dc6 pm6 an6 cd6 ct6), sl6⟩) (c6 : PySem.W.codeIn K cd6 "Rule.keeps" = true) (k6 : PySem.W.keepIn K (.ref f6) = true)
    (i6 : PySem.W.isFn K (.ref f6) = true) (d6 : K.lookup D6 = some ⟨doc6, dod6, .seq [.bool false].toArray dn6, dsl6⟩)
    (a7 : PySem.W.findIn K (.ref CR) "__len__" = some (some (.ref f7))) (l7 : K.lookup f7 = some ⟨oc7, od7, .func (PySem.W.fnOf "__len__" "Rule.__len__" (defArgs s_Rule___len__) (defBody s_Rule___len__) (defScope s_Rule___len__) .none kV7 dc7 pm7 an7 cd7 ct7), sl7⟩) (c7 : PySem.W.codeIn K cd7 "Rule.__len__" = true) (k7 : PySem.W.keepIn K (.ref f7) = true)
    (i7 : PySem.W.isFn K (.ref f7) = true)
    (a8 : PySem.W.nsIn K mainGlobals "passed_to" = some (some (.ref f8))) (l8 : K.lookup f8 = some ⟨oc8, od8, .func (PySem.W.fnOf "passed_to" "passed_to" (defArgs s_passed_to) (defBody s_passed_to) (defScope s_passed_to) .none kV8 dc8 pm8 an8 cd8 ct8), sl8⟩) (c8 : PySem.W.codeIn K cd8 "passed_to" = true) (k8 : PySem.W.keepIn K (.ref f8) = true)
    (a9 : PySem.W.nsIn K mainGlobals "paid_on" = some (some (.ref f9))) (l9 : K.lookup f9 = some ⟨oc9, od9, .func (PySem.W.fnOf "paid_on" "paid_on" (defArgs s_paid_on) (defBody s_paid_on) (defScope s_paid_on) .none kV9 dc9 pm9 an9 cd9 ct9), sl9⟩) (c9 : PySem.W.codeIn K cd9 "paid_on" = true) (k9 : PySem.W.keepIn K (.ref f9) = true)
    (a10 : PySem.W.nsIn K mainGlobals "last_day_of" = some (some (.ref f10))) (l10 : K.lookup f10 = some ⟨oc10, od10, .func (PySem.W.fnOf "last_day_of" "last_day_of" (defArgs s_last_day_of) (defBody s_last_day_of) (defScope s_last_day_of) .none kV10 dc10 pm10 an10 cd10 ct10), sl10⟩) (c10 : PySem.W.codeIn K cd10 "last_day_of" = true) (k10 : PySem.W.keepIn K (.ref f10) = true)
    (a11 : PySem.W.nsIn K mainGlobals "backs_of" = some (some (.ref f11))) (l11 : K.lookup f11 = some ⟨oc11, od11, .func (PySem.W.fnOf "backs_of" "backs_of" (defArgs s_backs_of) (defBody s_backs_of) (defScope s_backs_of) .none kV11 dc11 pm11 an11 cd11 ct11), sl11⟩) (c11 : PySem.W.codeIn K cd11 "backs_of" = true) (k11 : PySem.W.keepIn K (.ref f11) = true)
    (a12 : PySem.W.findIn K (.ref CP) "__init__" = some (some (.ref f12))) (l12 : K.lookup f12 = some ⟨oc12, od12, .func (PySem.W.fnOf "__init__" "Putby.__init__" (defArgs s_Putby___init__) (defBody s_Putby___init__) (defScope s_Putby___init__) .none kV12 dc12 pm12 an12 cd12 ct12), sl12⟩) (c12 : PySem.W.codeIn K cd12 "Putby.__init__" = true) (k12 : PySem.W.keepIn K (.ref f12) = true)
    (i12 : PySem.W.isFn K (.ref f12) = true)
    (a13 : PySem.W.findIn K (.ref CP) "paid" = some (some (.ref f13))) (l13 : K.lookup f13 = some ⟨oc13, od13, .func (PySem.W.fnOf "paid" "Putby.paid" (defArgs s_Putby_paid) (defBody s_Putby_paid) (defScope s_Putby_paid) .none kV13 dc13 pm13 an13 cd13 ct13), sl13⟩) (c13 : PySem.W.codeIn K cd13 "Putby.paid" = true) (k13 : PySem.W.keepIn K (.ref f13) = true)
    (i13 : PySem.W.isFn K (.ref f13) = true)
    (a14 : PySem.W.findIn K (.ref CP) "given_back" = some (some (.ref f14))) (l14 : K.lookup f14 = some ⟨oc14, od14, .func (PySem.W.fnOf "given_back" "Putby.given_back" (defArgs s_Putby_given_back) (defBody s_Putby_given_back) (defScope s_Putby_given_back) .none kV14 dc14 pm14 an14 cd14 ct14), sl14⟩) (c14 : PySem.W.codeIn K cd14 "Putby.given_back" = true) (k14 : PySem.W.keepIn K (.ref f14) = true)
    (i14 : PySem.W.isFn K (.ref f14) = true)
    (a15 : PySem.W.findIn K (.ref CP) "price" = some (some (.ref f15))) (l15 : K.lookup f15 = some ⟨oc15, od15, .func (PySem.W.fnOf "price" "Putby.price" (defArgs s_Putby_price) (defBody s_Putby_price) (defScope s_Putby_price) .none kV15 dc15 pm15 an15 cd15 ct15), sl15⟩) (c15 : PySem.W.codeIn K cd15 "Putby.price" = true) (k15 : PySem.W.keepIn K (.ref f15) = true)
    (i15 : PySem.W.isFn K (.ref f15) = true)
    (a16 : PySem.W.findIn K (.ref CP) "state" = some (some (.ref f16))) (l16 : K.lookup f16 = some ⟨oc16, od16, .func (PySem.W.fnOf "state" "Putby.state" (defArgs s_Putby_state) (defBody s_Putby_state) (defScope s_Putby_state) .none kV16 dc16 pm16 an16 cd16 ct16), sl16⟩) (c16 : PySem.W.codeIn K cd16 "Putby.state" = true) (k16 : PySem.W.keepIn K (.ref f16) = true)
    (i16 : PySem.W.isFn K (.ref f16) = true)
    (a17 : PySem.W.findIn K (.ref CP) "kept" = some (some (.ref f17))) (l17 : K.lookup f17 = some ⟨oc17, od17, .func (PySem.W.fnOf "kept" "Putby.kept" (defArgs s_Putby_kept) (defBody s_Putby_kept) (defScope s_Putby_kept) .none kV17 dc17 pm17 an17 cd17 ct17), sl17⟩) (c17 : PySem.W.codeIn K cd17 "Putby.kept" = true) (k17 : PySem.W.keepIn K (.ref f17) = true)
    (i17 : PySem.W.isFn K (.ref f17) = true)
    (a18 : PySem.W.findIn K (.ref CP) "backs" = some (some (.ref f18))) (l18 : K.lookup f18 = some ⟨oc18, od18, .func (PySem.W.fnOf "backs" "Putby.backs" (defArgs s_Putby_backs) (defBody s_Putby_backs) (defScope s_Putby_backs) .none kV18 dc18 pm18 an18 cd18 ct18), sl18⟩) (c18 : PySem.W.codeIn K cd18 "Putby.backs" = true) (k18 : PySem.W.keepIn K (.ref f18) = true)
    (i18 : PySem.W.isFn K (.ref f18) = true)
    (a19 : PySem.W.findIn K (.ref CP) "payments" = some (some (.ref f19))) (l19 : K.lookup f19 = some ⟨oc19, od19, .func (PySem.W.fnOf "payments" "Putby.payments" (defArgs s_Putby_payments) (defBody s_Putby_payments) (defScope s_Putby_payments) .none kV19 dc19 pm19 an19 cd19 ct19), sl19⟩) (c19 : PySem.W.codeIn K cd19 "Putby.payments" = true) (k19 : PySem.W.keepIn K (.ref f19) = true)
    (i19 : PySem.W.isFn K (.ref f19) = true)
    (a20 : PySem.W.findIn K (.ref CP) "last_day" = some (some (.ref f20))) (l20 : K.lookup f20 = some ⟨oc20, od20, .func (PySem.W.fnOf "last_day" "Putby.last_day" (defArgs s_Putby_last_day) (defBody s_Putby_last_day) (defScope s_Putby_last_day) .none kV20 dc20 pm20 an20 cd20 ct20), sl20⟩) (c20 : PySem.W.codeIn K cd20 "Putby.last_day" = true) (k20 : PySem.W.keepIn K (.ref f20) = true)
    (i20 : PySem.W.isFn K (.ref f20) = true)
    (a21 : PySem.W.findIn K (.ref CP) "next_part" = some (some (.ref f21))) (l21 : K.lookup f21 = some ⟨oc21, od21, .func (PySem.W.fnOf "next_part" "Putby.next_part" (defArgs s_Putby_next_part) (defBody s_Putby_next_part) (defScope s_Putby_next_part) .none kV21 dc21 pm21 an21 cd21 ct21), sl21⟩) (c21 : PySem.W.codeIn K cd21 "Putby.next_part" = true) (k21 : PySem.W.keepIn K (.ref f21) = true)
    (i21 : PySem.W.isFn K (.ref f21) = true)
    (a22 : PySem.W.findIn K (.ref CP) "course_on" = some (some (.ref f22))) (l22 : K.lookup f22 = some ⟨oc22, od22, .func (PySem.W.fnOf "course_on" "Putby.course_on" (defArgs s_Putby_course_on) (defBody s_Putby_course_on) (defScope s_Putby_course_on) .none kV22 dc22 pm22 an22 cd22 ct22), sl22⟩) (c22 : PySem.W.codeIn K cd22 "Putby.course_on" = true) (k22 : PySem.W.keepIn K (.ref f22) = true)
    (i22 : PySem.W.isFn K (.ref f22) = true)
    (a23 : PySem.W.findIn K (.ref CP) "standing_on" = some (some (.ref f23))) (l23 : K.lookup f23 = some ⟨oc23, od23, .func (PySem.W.fnOf "standing_on" "Putby.standing_on" (defArgs s_Putby_standing_on) (defBody s_Putby_standing_on) (defScope s_Putby_standing_on) .none kV23 dc23 pm23 an23 cd23 ct23), sl23⟩) (c23 : PySem.W.codeIn K cd23 "Putby.standing_on" = true) (k23 : PySem.W.keepIn K (.ref f23) = true)
    (i23 : PySem.W.isFn K (.ref f23) = true)
    (a24 : PySem.W.findIn K (.ref CP) "end" = some (some (.ref f24))) (l24 : K.lookup f24 = some ⟨oc24, od24, .func (PySem.W.fnOf "end" "Putby.end" (defArgs s_Putby_end) (defBody s_Putby_end) (defScope s_Putby_end) .none kV24 dc24 pm24 an24 cd24 ct24), sl24⟩) (c24 : PySem.W.codeIn K cd24 "Putby.end" = true) (k24 : PySem.W.keepIn K (.ref f24) = true)
    (i24 : PySem.W.isFn K (.ref f24) = true)
    (a25 : PySem.W.findIn K (.ref CP) "let_off" = some (some (.ref f25))) (l25 : K.lookup f25 = some ⟨oc25, od25, .func (PySem.W.fnOf "let_off" "Putby.let_off" (defArgs s_Putby_let_off) (defBody s_Putby_let_off) (defScope s_Putby_let_off) .none kV25 dc25 pm25 an25 cd25 ct25), sl25⟩) (c25 : PySem.W.codeIn K cd25 "Putby.let_off" = true) (k25 : PySem.W.keepIn K (.ref f25) = true)
    (i25 : PySem.W.isFn K (.ref f25) = true)
    (a26 : PySem.W.findIn K (.ref CP) "pass_to" = some (some (.ref f26))) (l26 : K.lookup f26 = some ⟨oc26, od26, .func (PySem.W.fnOf "pass_to" "Putby.pass_to" (defArgs s_Putby_pass_to) (defBody s_Putby_pass_to) (defScope s_Putby_pass_to) .none kV26 dc26 pm26 an26 cd26 ct26), sl26⟩) (c26 : PySem.W.codeIn K cd26 "Putby.pass_to" = true) (k26 : PySem.W.keepIn K (.ref f26) = true)
    (i26 : PySem.W.isFn K (.ref f26) = true)
    (a27 : PySem.W.findIn K (.ref CP) "pay" = some (some (.ref f27))) (l27 : K.lookup f27 = some ⟨oc27, od27, .func (PySem.W.fnOf "pay" "Putby.pay" (defArgs s_Putby_pay) (defBody s_Putby_pay) (defScope s_Putby_pay) .none kV27 dc27 pm27 an27 cd27 ct27), sl27⟩) (c27 : PySem.W.codeIn K cd27 "Putby.pay" = true) (k27 : PySem.W.keepIn K (.ref f27) = true)
    (i27 : PySem.W.isFn K (.ref f27) = true)
    (a28 : PySem.W.findIn K (.ref CP) "give_up" = some (some (.ref f28))) (l28 : K.lookup f28 = some ⟨oc28, od28, .func (PySem.W.fnOf "give_up" "Putby.give_up" (defArgs s_Putby_give_up) (defBody s_Putby_give_up) (defScope s_Putby_give_up) .none kV28 dc28 pm28 an28 cd28 ct28), sl28⟩) (c28 : PySem.W.codeIn K cd28 "Putby.give_up" = true) (k28 : PySem.W.keepIn K (.ref f28) = true)
    (i28 : PySem.W.isFn K (.ref f28) = true)
    (a29 : PySem.W.findIn K (.ref CP) "price_falls" = some (some (.ref f29))) (l29 : K.lookup f29 = some ⟨oc29, od29, .func (PySem.W.fnOf "price_falls" "Putby.price_falls" (defArgs s_Putby_price_falls) (defBody s_Putby_price_falls) (defScope s_Putby_price_falls) .none kV29 dc29 pm29 an29 cd29 ct29), sl29⟩) (c29 : PySem.W.codeIn K cd29 "Putby.price_falls" = true) (k29 : PySem.W.keepIn K (.ref f29) = true)
    (i29 : PySem.W.isFn K (.ref f29) = true)
    (a30 : PySem.W.nsIn K mainGlobals "_law_mix" = some (some (.ref f30))) (l30 : K.lookup f30 = some ⟨oc30, od30, .func (PySem.W.fnOf "_law_mix" "_law_mix" (defArgs s__law_mix) (defBody s__law_mix) (defScope s__law_mix) .none kV30 dc30 pm30 an30 cd30 ct30), sl30⟩) (c30 : PySem.W.codeIn K cd30 "_law_mix" = true) (k30 : PySem.W.keepIn K (.ref f30) = true)
    (a31 : PySem.W.nsIn K mainGlobals "_law_left" = some (some (.ref f31))) (l31 : K.lookup f31 = some ⟨oc31, od31, .func (PySem.W.fnOf "_law_left" "_law_left" (defArgs s__law_left) (defBody s__law_left) (defScope s__law_left) .none kV31 dc31 pm31 an31 cd31 ct31), sl31⟩) (c31 : PySem.W.codeIn K cd31 "_law_left" = true) (k31 : PySem.W.keepIn K (.ref f31) = true)
    (a32 : PySem.W.nsIn K mainGlobals "_law_pick" = some (some (.ref f32))) (l32 : K.lookup f32 = some ⟨oc32, od32, .func (PySem.W.fnOf "_law_pick" "_law_pick" (defArgs s__law_pick) (defBody s__law_pick) (defScope s__law_pick) .none kV32 dc32 pm32 an32 cd32 ct32), sl32⟩) (c32 : PySem.W.codeIn K cd32 "_law_pick" = true) (k32 : PySem.W.keepIn K (.ref f32) = true)
    (a33 : PySem.W.nsIn K mainGlobals "_law_same" = some (some (.ref f33))) (l33 : K.lookup f33 = some ⟨oc33, od33, .func (PySem.W.fnOf "_law_same" "_law_same" (defArgs s__law_same) (defBody s__law_same) (defScope s__law_same) .none kV33 dc33 pm33 an33 cd33 ct33), sl33⟩) (c33 : PySem.W.codeIn K cd33 "_law_same" = true) (k33 : PySem.W.keepIn K (.ref f33) = true)
    (a34 : PySem.W.nsIn K mainGlobals "_law_names" = some (some (.ref f34))) (l34 : K.lookup f34 = some ⟨oc34, od34, .func (PySem.W.fnOf "_law_names" "_law_names" (defArgs s__law_names) (defBody s__law_names) (defScope s__law_names) .none kV34 dc34 pm34 an34 cd34 ct34), sl34⟩) (c34 : PySem.W.codeIn K cd34 "_law_names" = true) (k34 : PySem.W.keepIn K (.ref f34) = true)
    (a35 : PySem.W.nsIn K mainGlobals "_law_figures" = some (some (.ref f35))) (l35 : K.lookup f35 = some ⟨oc35, od35, .func (PySem.W.fnOf "_law_figures" "_law_figures" (defArgs s__law_figures) (defBody s__law_figures) (defScope s__law_figures) .none kV35 dc35 pm35 an35 cd35 ct35), sl35⟩) (c35 : PySem.W.codeIn K cd35 "_law_figures" = true) (k35 : PySem.W.keepIn K (.ref f35) = true)
    (a36 : PySem.W.nsIn K mainGlobals "_law_rule" = some (some (.ref f36))) (l36 : K.lookup f36 = some ⟨oc36, od36, .func (PySem.W.fnOf "_law_rule" "_law_rule" (defArgs s__law_rule) (defBody s__law_rule) (defScope s__law_rule) .none kV36 dc36 pm36 an36 cd36 ct36), sl36⟩) (c36 : PySem.W.codeIn K cd36 "_law_rule" = true) (k36 : PySem.W.keepIn K (.ref f36) = true)
    (a37 : PySem.W.nsIn K mainGlobals "_law_price" = some (some (.ref f37))) (l37 : K.lookup f37 = some ⟨oc37, od37, .func (PySem.W.fnOf "_law_price" "_law_price" (defArgs s__law_price) (defBody s__law_price) (defScope s__law_price) .none kV37 dc37 pm37 an37 cd37 ct37), sl37⟩) (c37 : PySem.W.codeIn K cd37 "_law_price" = true) (k37 : PySem.W.keepIn K (.ref f37) = true)
    (a38 : PySem.W.nsIn K mainGlobals "_law_begun" = some (some (.ref f38))) (l38 : K.lookup f38 = some ⟨oc38, od38, .func (PySem.W.fnOf "_law_begun" "_law_begun" (defArgs s__law_begun) (defBody s__law_begun) (defScope s__law_begun) .none kV38 dc38 pm38 an38 cd38 ct38), sl38⟩) (c38 : PySem.W.codeIn K cd38 "_law_begun" = true) (k38 : PySem.W.keepIn K (.ref f38) = true)
    (a39 : PySem.W.nsIn K mainGlobals "_law_given" = some (some (.ref f39))) (l39 : K.lookup f39 = some ⟨oc39, od39, .func (PySem.W.fnOf "_law_given" "_law_given" (defArgs s__law_given) (defBody s__law_given) (defScope s__law_given) .none kV39 dc39 pm39 an39 cd39 ct39), sl39⟩) (c39 : PySem.W.codeIn K cd39 "_law_given" = true) (k39 : PySem.W.keepIn K (.ref f39) = true)
    (a40 : PySem.W.nsIn K mainGlobals "_law_ended" = some (some (.ref f40))) (l40 : K.lookup f40 = some ⟨oc40, od40, .func (PySem.W.fnOf "_law_ended" "_law_ended" (defArgs s__law_ended) (defBody s__law_ended) (defScope s__law_ended) .none kV40 dc40 pm40 an40 cd40 ct40), sl40⟩) (c40 : PySem.W.codeIn K cd40 "_law_ended" = true) (k40 : PySem.W.keepIn K (.ref f40) = true)
    (a41 : PySem.W.nsIn K mainGlobals "_law_to" = some (some (.ref f41))) (l41 : K.lookup f41 = some ⟨oc41, od41, .func (PySem.W.fnOf "_law_to" "_law_to" (defArgs s__law_to) (defBody s__law_to) (defScope s__law_to) .none kV41 dc41 pm41 an41 cd41 ct41), sl41⟩) (c41 : PySem.W.codeIn K cd41 "_law_to" = true) (k41 : PySem.W.keepIn K (.ref f41) = true)
    (a42 : PySem.W.nsIn K mainGlobals "_law_sold" = some (some (.ref f42))) (l42 : K.lookup f42 = some ⟨oc42, od42, .func (PySem.W.fnOf "_law_sold" "_law_sold" (defArgs s__law_sold) (defBody s__law_sold) (defScope s__law_sold) .none kV42 dc42 pm42 an42 cd42 ct42), sl42⟩) (c42 : PySem.W.codeIn K cd42 "_law_sold" = true) (k42 : PySem.W.keepIn K (.ref f42) = true)
    (a43 : PySem.W.nsIn K mainGlobals "_law_paid" = some (some (.ref f43))) (l43 : K.lookup f43 = some ⟨oc43, od43, .func (PySem.W.fnOf "_law_paid" "_law_paid" (defArgs s__law_paid) (defBody s__law_paid) (defScope s__law_paid) .none kV43 dc43 pm43 an43 cd43 ct43), sl43⟩) (c43 : PySem.W.codeIn K cd43 "_law_paid" = true) (k43 : PySem.W.keepIn K (.ref f43) = true)
    (a44 : PySem.W.nsIn K mainGlobals "_law_did" = some (some (.ref f44))) (l44 : K.lookup f44 = some ⟨oc44, od44, .func (PySem.W.fnOf "_law_did" "_law_did" (defArgs s__law_did) (defBody s__law_did) (defScope s__law_did) .none kV44 dc44 pm44 an44 cd44 ct44), sl44⟩) (c44 : PySem.W.codeIn K cd44 "_law_did" = true) (k44 : PySem.W.keepIn K (.ref f44) = true)
    (a45 : PySem.W.nsIn K mainGlobals "_law_last" = some (some (.ref f45))) (l45 : K.lookup f45 = some ⟨oc45, od45, .func (PySem.W.fnOf "_law_last" "_law_last" (defArgs s__law_last) (defBody s__law_last) (defScope s__law_last) .none kV45 dc45 pm45 an45 cd45 ct45), sl45⟩) (c45 : PySem.W.codeIn K cd45 "_law_last" = true) (k45 : PySem.W.keepIn K (.ref f45) = true)
    (a46 : PySem.W.nsIn K mainGlobals "_law_due" = some (some (.ref f46))) (l46 : K.lookup f46 = some ⟨oc46, od46, .func (PySem.W.fnOf "_law_due" "_law_due" (defArgs s__law_due) (defBody s__law_due) (defScope s__law_due) .none kV46 dc46 pm46 an46 cd46 ct46), sl46⟩) (c46 : PySem.W.codeIn K cd46 "_law_due" = true) (k46 : PySem.W.keepIn K (.ref f46) = true)
    (a47 : PySem.W.nsIn K mainGlobals "_law_seen" = some (some (.ref f47))) (l47 : K.lookup f47 = some ⟨oc47, od47, .func (PySem.W.fnOf "_law_seen" "_law_seen" (defArgs s__law_seen) (defBody s__law_seen) (defScope s__law_seen) .none kV47 dc47 pm47 an47 cd47 ct47), sl47⟩) (c47 : PySem.W.codeIn K cd47 "_law_seen" = true) (k47 : PySem.W.keepIn K (.ref f47) = true)
    (a48 : PySem.W.nsIn K mainGlobals "_law_told" = some (some (.ref f48))) (l48 : K.lookup f48 = some ⟨oc48, od48, .func (PySem.W.fnOf "_law_told" "_law_told" (defArgs s__law_told) (defBody s__law_told) (defScope s__law_told) .none kV48 dc48 pm48 an48 cd48 ct48), sl48⟩) (c48 : PySem.W.codeIn K cd48 "_law_told" = true) (k48 : PySem.W.keepIn K (.ref f48) = true)
    (a49 : PySem.W.nsIn K mainGlobals "_law_day" = some (some (.ref f49))) (l49 : K.lookup f49 = some ⟨oc49, od49, .func (PySem.W.fnOf "_law_day" "_law_day" (defArgs s__law_day) (defBody s__law_day) (defScope s__law_day) .none kV49 dc49 pm49 an49 cd49 ct49), sl49⟩) (c49 : PySem.W.codeIn K cd49 "_law_day" = true) (k49 : PySem.W.keepIn K (.ref f49) = true)
    (a50 : PySem.W.nsIn K mainGlobals "_law_deed" = some (some (.ref f50))) (l50 : K.lookup f50 = some ⟨oc50, od50, .func (PySem.W.fnOf "_law_deed" "_law_deed" (defArgs s__law_deed) (defBody s__law_deed) (defScope s__law_deed) .none kV50 dc50 pm50 an50 cd50 ct50), sl50⟩) (c50 : PySem.W.codeIn K cd50 "_law_deed" = true) (k50 : PySem.W.keepIn K (.ref f50) = true)
    (a51 : PySem.W.nsIn K mainGlobals "_law_right" = some (some (.ref f51))) (l51 : K.lookup f51 = some ⟨oc51, od51, .func (PySem.W.fnOf "_law_right" "_law_right" (defArgs s__law_right) (defBody s__law_right) (defScope s__law_right) .none kV51 dc51 pm51 an51 cd51 ct51), sl51⟩) (c51 : PySem.W.codeIn K cd51 "_law_right" = true) (k51 : PySem.W.keepIn K (.ref f51) = true)
    (a52 : PySem.W.nsIn K mainGlobals "law" = some (some (.ref f52))) (l52 : K.lookup f52 = some ⟨oc52, od52, .func (PySem.W.fnOf "law" "law" (defArgs s_law) (defBody s_law) (defScope s_law) .none kV52 dc52 pm52 an52 cd52 ct52), sl52⟩) (c52 : PySem.W.codeIn K cd52 "law" = true) (k52 : PySem.W.keepIn K (.ref f52) = true)
    (z_divmod : PySem.W.nsIn K mainGlobals "divmod" = some none) (z_isinstance : PySem.W.nsIn K mainGlobals "isinstance" = some none) (z_bool : PySem.W.nsIn K mainGlobals "bool" = some none) (z_int : PySem.W.nsIn K mainGlobals "int" = some none) (z_tuple : PySem.W.nsIn K mainGlobals "tuple" = some none) (z_all : PySem.W.nsIn K mainGlobals "all" = some none) (z_len : PySem.W.nsIn K mainGlobals "len" = some none) (z_max : PySem.W.nsIn K mainGlobals "max" = some none) (z_min : PySem.W.nsIn K mainGlobals "min" = some none) (z_reversed : PySem.W.nsIn K mainGlobals "reversed" = some none) (z_sum : PySem.W.nsIn K mainGlobals "sum" = some none) (z_list : PySem.W.nsIn K mainGlobals "list" = some none) (z_abs : PySem.W.nsIn K mainGlobals "abs" = some none) (z_zip : PySem.W.nsIn K mainGlobals "zip" = some none) (z_str : PySem.W.nsIn K mainGlobals "str" = some none) (z_range : PySem.W.nsIn K mainGlobals "range" = some none) (z_dict : PySem.W.nsIn K mainGlobals "dict" = some none) (z_ValueError : PySem.W.nsIn K mainGlobals "ValueError" = some none)
    {A_AT_FIRST : Addr} {u_AT_FIRST_0 u_AT_FIRST_1 u_AT_FIRST_2 u_AT_FIRST_3 : Tok} {gd_AT_FIRST : Option Addr} {gn_AT_FIRST : Nat} {gs_AT_FIRST : Array (Option Value)} (y_AT_FIRST : PySem.W.nsIn K mainGlobals "AT_FIRST" = some (some (.ref A_AT_FIRST))) (x_AT_FIRST : K.lookup A_AT_FIRST = some ⟨.type "tuple", gd_AT_FIRST, .seq [.str (Str.ofString "stands") u_AT_FIRST_0, .int 0 u_AT_FIRST_1, .int 0 u_AT_FIRST_2, .int 0 u_AT_FIRST_3].toArray gn_AT_FIRST, gs_AT_FIRST⟩) :
    ∃ fd : FuncData, (∀ (s : Shared) (v : Value), BindsTo s fd ⟨[v], []⟩ [("_law_script", v)]) ∧ ∀ base : Heap, K.In base → base.Ns mainGlobals mg → FnOk l.prog w K mg base CX0 8 fa fd ["_law_script"] (sp_law K) := by
  have e := hfa.symm.trans (PySem.W.mg_of X G a52)
  cases e
  have T_Rule : TRule K mg CR := ⟨⟨pg, hd, po, sa⟩, n1, n2, n3, n4, n5, n6, n7, n8, n9⟩
  have gC := PySem.W.mg_of X G aC
  have T_Putby : TPutby K mg CP := ⟨⟨pgP, hdP, poP, saP⟩, nP1, nP2, nP3, nP4, nP5, nP6, nP7⟩
  have gCP := PySem.W.mg_of X G aCP
  have TE : TErrs K mg (⟨CR, CP, CW, CN, CI, CO1, CO2, CO3, CO4, CO5, CO6⟩ : Cl) := ⟨⟨PySem.W.mg_of X G e_CN, e_CN_xc, e_CN_kp, e_CN_sb, e_CN_ty, ⟨e_CN_hg, e_CN_hk, e_CN_sb, e_CN_hd, e_CN_ha, e_hn, e_ht, e_CN_hm⟩⟩, ⟨PySem.W.mg_of X G e_CI, e_CI_xc, e_CI_kp, e_CI_sb, e_CI_ty, ⟨e_CI_hg, e_CI_hk, e_CI_sb, e_CI_hd, e_CI_ha, e_hn, e_ht, e_CI_hm⟩⟩, PySem.W.mg_of X G e_CW, (PySem.W.exm_ref e_CW_sb e_CW_hd e_CW_ty e_CN_xw), (PySem.W.exm_ref e_CW_sb e_CW_hd e_CW_ty e_CI_xw), kit_me, (kit_ref e_CN_nCI e_CI_ic e_CI_ty e_CN_sCI), kit_ve e_CN_ve, (kit_six (kit_ref e_CN_nCO1 e_CO1_ic e_CO1_ty e_CN_sCO1) (kit_ref e_CN_nCO2 e_CO2_ic e_CO2_ty e_CN_sCO2) (kit_ref e_CN_nCO3 e_CO3_ic e_CO3_ty e_CN_sCO3) (kit_ref e_CN_nCO4 e_CO4_ic e_CO4_ty e_CN_sCO4) (kit_ref e_CN_nCO5 e_CO5_ic e_CO5_ty e_CN_sCO5) (kit_ref e_CN_nCO6 e_CO6_ic e_CO6_ty e_CN_sCO6)), (kit_ref e_CI_nCN e_CN_ic e_CN_ty e_CI_sCN), kit_me, kit_ve e_CI_ve, (kit_six (kit_ref e_CI_nCO1 e_CO1_ic e_CO1_ty e_CI_sCO1) (kit_ref e_CI_nCO2 e_CO2_ic e_CO2_ty e_CI_sCO2) (kit_ref e_CI_nCO3 e_CO3_ic e_CO3_ty e_CI_sCO3) (kit_ref e_CI_nCO4 e_CO4_ic e_CO4_ty e_CI_sCO4) (kit_ref e_CI_nCO5 e_CO5_ic e_CO5_ty e_CI_sCO5) (kit_ref e_CI_nCO6 e_CO6_ic e_CO6_ty e_CI_sCO6)), PySem.W.mg_of X G e_CO1, PySem.W.mg_of X G e_CO2, PySem.W.mg_of X G e_CO3, PySem.W.mg_of X G e_CO4, PySem.W.mg_of X G e_CO5, PySem.W.mg_of X G e_CO6⟩
  have F0 := fun_mk (st := s_share_up) l0 c0 k0
  have b0 := F0.binds (ps := ["pence", "percent"]) fun _ _ _ _ _ _ us hl => match us, hl with | [_, _], _ => rfl
  have g0 := PySem.W.mg_of X G a0
  have F1 := fun_mk (st := s_parts_of) l1 c1 k1
  have b1 := F1.binds (ps := ["pence", "many"]) fun _ _ _ _ _ _ us hl => match us, hl with | [_, _], _ => rfl
  have g1 := PySem.W.mg_of X G a1
  have F2 := fun_mk (st := s_is_number_in) l2 c2 k2
  have b2 := F2.binds (ps := ["thing", "low", "high"]) fun _ _ _ _ _ _ us hl => match us, hl with | [_, _, _], _ => rfl
  have g2 := PySem.W.mg_of X G a2
  have F3 := fun_mk (st := s_may_be_kept) l3 c3 k3
  have b3 := F3.binds (ps := ["keep", "parts"]) fun _ _ _ _ _ _ us hl => match us, hl with | [_, _], _ => rfl
  have g3 := PySem.W.mg_of X G a3
  have F4 := fun_mk (st := s_wrong_figure) l4 c4 k4
  have b4 := F4.binds (ps := ["parts", "step", "grace", "last", "misses", "keep", "fine", "falls", "back"]) fun _ _ _ _ _ _ us hl => match us, hl with | [_, _, _, _, _, _, _, _, _], _ => rfl
  have g4 := PySem.W.mg_of X G a4
  have F5 : FunD K "__init__" "Rule.__init__" (defArgs s_Rule___init__) (defBody s_Rule___init__) (defScope s_Rule___init__) [.int 0, .bl false, .int 0, .int 0, .int 0, .int 0, .int 0] [] f5 _ := ⟨⟨oc5, od5, _, kV5, dc5, pm5, an5, cd5, ct5, sl5, rfl, l5, c5, .inr ⟨by simp, D5, _, _, dn5, rfl, d5, rfl, (.cons ⟨_, rfl⟩ (.cons rfl (.cons ⟨_, rfl⟩ (.cons ⟨_, rfl⟩ (.cons ⟨_, rfl⟩ (.cons ⟨_, rfl⟩ (.cons ⟨_, rfl⟩ .nil)))))))⟩, .inl rfl⟩, k5⟩
  have F6 : FunD K "keeps" "Rule.keeps" (defArgs s_Rule_keeps) (defBody s_Rule_keeps) (defScope s_Rule_keeps) [.bl false] [] f6 _ := ⟨⟨oc6, od6, _, kV6, dc6, pm6, an6, cd6, ct6, sl6, rfl, l6, c6, .inr ⟨by simp, D6, _, _, dn6, rfl, d6, rfl, (.cons rfl .nil)⟩, .inl rfl⟩, k6⟩
  have F7 : FunD K "__len__" "Rule.__len__" (defArgs s_Rule___len__) (defBody s_Rule___len__) (defScope s_Rule___len__) [] [] f7 _ := ⟨⟨oc7, od7, _, kV7, dc7, pm7, an7, cd7, ct7, sl7, rfl, l7, c7, .inl ⟨rfl, rfl⟩, .inl rfl⟩, k7⟩
  have F8 := fun_mk (st := s_passed_to) l8 c8 k8
  have b8 := F8.binds (ps := ["rule", "state", "day"]) fun _ _ _ _ _ _ us hl => match us, hl with | [_, _, _], _ => rfl
  have g8 := PySem.W.mg_of X G a8
  have F9 := fun_mk (st := s_paid_on) l9 c9 k9
  have b9 := F9.binds (ps := ["rule", "state", "day"]) fun _ _ _ _ _ _ us hl => match us, hl with | [_, _, _], _ => rfl
  have g9 := PySem.W.mg_of X G a9
  have F10 := fun_mk (st := s_last_day_of) l10 c10 k10
  have b10 := F10.binds (ps := ["rule", "state"]) fun _ _ _ _ _ _ us hl => match us, hl with | [_, _], _ => rfl
  have g10 := PySem.W.mg_of X G a10
  have F11 := fun_mk (st := s_backs_of) l11 c11 k11
  have b11 := F11.binds (ps := ["payments", "day", "pence", "aside"]) fun _ _ _ _ _ _ us hl => match us, hl with | [_, _, _, _], _ => rfl
  have g11 := PySem.W.mg_of X G a11
  have F12 : FunD K "__init__" "Putby.__init__" (defArgs s_Putby___init__) (defBody s_Putby___init__) (defScope s_Putby___init__) [] [] f12 _ := ⟨⟨oc12, od12, _, kV12, dc12, pm12, an12, cd12, ct12, sl12, rfl, l12, c12, .inl ⟨rfl, rfl⟩, .inl rfl⟩, k12⟩
  have F13 : FunD K "paid" "Putby.paid" (defArgs s_Putby_paid) (defBody s_Putby_paid) (defScope s_Putby_paid) [] [] f13 _ := ⟨⟨oc13, od13, _, kV13, dc13, pm13, an13, cd13, ct13, sl13, rfl, l13, c13, .inl ⟨rfl, rfl⟩, .inl rfl⟩, k13⟩
  have F14 : FunD K "given_back" "Putby.given_back" (defArgs s_Putby_given_back) (defBody s_Putby_given_back) (defScope s_Putby_given_back) [] [] f14 _ := ⟨⟨oc14, od14, _, kV14, dc14, pm14, an14, cd14, ct14, sl14, rfl, l14, c14, .inl ⟨rfl, rfl⟩, .inl rfl⟩, k14⟩
  have F15 : FunD K "price" "Putby.price" (defArgs s_Putby_price) (defBody s_Putby_price) (defScope s_Putby_price) [] [] f15 _ := ⟨⟨oc15, od15, _, kV15, dc15, pm15, an15, cd15, ct15, sl15, rfl, l15, c15, .inl ⟨rfl, rfl⟩, .inl rfl⟩, k15⟩
  have F16 : FunD K "state" "Putby.state" (defArgs s_Putby_state) (defBody s_Putby_state) (defScope s_Putby_state) [] [] f16 _ := ⟨⟨oc16, od16, _, kV16, dc16, pm16, an16, cd16, ct16, sl16, rfl, l16, c16, .inl ⟨rfl, rfl⟩, .inl rfl⟩, k16⟩
  have F17 : FunD K "kept" "Putby.kept" (defArgs s_Putby_kept) (defBody s_Putby_kept) (defScope s_Putby_kept) [] [] f17 _ := ⟨⟨oc17, od17, _, kV17, dc17, pm17, an17, cd17, ct17, sl17, rfl, l17, c17, .inl ⟨rfl, rfl⟩, .inl rfl⟩, k17⟩
  have F18 : FunD K "backs" "Putby.backs" (defArgs s_Putby_backs) (defBody s_Putby_backs) (defScope s_Putby_backs) [] [] f18 _ := ⟨⟨oc18, od18, _, kV18, dc18, pm18, an18, cd18, ct18, sl18, rfl, l18, c18, .inl ⟨rfl, rfl⟩, .inl rfl⟩, k18⟩
  have F19 : FunD K "payments" "Putby.payments" (defArgs s_Putby_payments) (defBody s_Putby_payments) (defScope s_Putby_payments) [] [] f19 _ := ⟨⟨oc19, od19, _, kV19, dc19, pm19, an19, cd19, ct19, sl19, rfl, l19, c19, .inl ⟨rfl, rfl⟩, .inl rfl⟩, k19⟩
  have F20 : FunD K "last_day" "Putby.last_day" (defArgs s_Putby_last_day) (defBody s_Putby_last_day) (defScope s_Putby_last_day) [] [] f20 _ := ⟨⟨oc20, od20, _, kV20, dc20, pm20, an20, cd20, ct20, sl20, rfl, l20, c20, .inl ⟨rfl, rfl⟩, .inl rfl⟩, k20⟩
  have F21 : FunD K "next_part" "Putby.next_part" (defArgs s_Putby_next_part) (defBody s_Putby_next_part) (defScope s_Putby_next_part) [] [] f21 _ := ⟨⟨oc21, od21, _, kV21, dc21, pm21, an21, cd21, ct21, sl21, rfl, l21, c21, .inl ⟨rfl, rfl⟩, .inl rfl⟩, k21⟩
  have F22 : FunD K "course_on" "Putby.course_on" (defArgs s_Putby_course_on) (defBody s_Putby_course_on) (defScope s_Putby_course_on) [] [] f22 _ := ⟨⟨oc22, od22, _, kV22, dc22, pm22, an22, cd22, ct22, sl22, rfl, l22, c22, .inl ⟨rfl, rfl⟩, .inl rfl⟩, k22⟩
  have F23 : FunD K "standing_on" "Putby.standing_on" (defArgs s_Putby_standing_on) (defBody s_Putby_standing_on) (defScope s_Putby_standing_on) [] [] f23 _ := ⟨⟨oc23, od23, _, kV23, dc23, pm23, an23, cd23, ct23, sl23, rfl, l23, c23, .inl ⟨rfl, rfl⟩, .inl rfl⟩, k23⟩
  have F24 : FunD K "end" "Putby.end" (defArgs s_Putby_end) (defBody s_Putby_end) (defScope s_Putby_end) [] [] f24 _ := ⟨⟨oc24, od24, _, kV24, dc24, pm24, an24, cd24, ct24, sl24, rfl, l24, c24, .inl ⟨rfl, rfl⟩, .inl rfl⟩, k24⟩
  have F25 : FunD K "let_off" "Putby.let_off" (defArgs s_Putby_let_off) (defBody s_Putby_let_off) (defScope s_Putby_let_off) [] [] f25 _ := ⟨⟨oc25, od25, _, kV25, dc25, pm25, an25, cd25, ct25, sl25, rfl, l25, c25, .inl ⟨rfl, rfl⟩, .inl rfl⟩, k25⟩
  have F26 : FunD K "pass_to" "Putby.pass_to" (defArgs s_Putby_pass_to) (defBody s_Putby_pass_to) (defScope s_Putby_pass_to) [] [] f26 _ := ⟨⟨oc26, od26, _, kV26, dc26, pm26, an26, cd26, ct26, sl26, rfl, l26, c26, .inl ⟨rfl, rfl⟩, .inl rfl⟩, k26⟩
  have F27 : FunD K "pay" "Putby.pay" (defArgs s_Putby_pay) (defBody s_Putby_pay) (defScope s_Putby_pay) [] [] f27 _ := ⟨⟨oc27, od27, _, kV27, dc27, pm27, an27, cd27, ct27, sl27, rfl, l27, c27, .inl ⟨rfl, rfl⟩, .inl rfl⟩, k27⟩
  have F28 : FunD K "give_up" "Putby.give_up" (defArgs s_Putby_give_up) (defBody s_Putby_give_up) (defScope s_Putby_give_up) [] [] f28 _ := ⟨⟨oc28, od28, _, kV28, dc28, pm28, an28, cd28, ct28, sl28, rfl, l28, c28, .inl ⟨rfl, rfl⟩, .inl rfl⟩, k28⟩
  have F29 : FunD K "price_falls" "Putby.price_falls" (defArgs s_Putby_price_falls) (defBody s_Putby_price_falls) (defScope s_Putby_price_falls) [] [] f29 _ := ⟨⟨oc29, od29, _, kV29, dc29, pm29, an29, cd29, ct29, sl29, rfl, l29, c29, .inl ⟨rfl, rfl⟩, .inl rfl⟩, k29⟩
  have F30 := fun_mk (st := s__law_mix) l30 c30 k30
  have b30 := F30.binds (ps := ["_law_cell", "_law_k"]) fun _ _ _ _ _ _ us hl => match us, hl with | [_, _], _ => rfl
  have g30 := PySem.W.mg_of X G a30
  have F31 := fun_mk (st := s__law_left) l31 c31 k31
  have b31 := F31.binds (ps := ["_law_script", "_law_k"]) fun _ _ _ _ _ _ us hl => match us, hl with | [_, _], _ => rfl
  have g31 := PySem.W.mg_of X G a31
  have F32 := fun_mk (st := s__law_pick) l32 c32 k32
  have b32 := F32.binds (ps := ["_law_left_here", "_law_many"]) fun _ _ _ _ _ _ us hl => match us, hl with | [_, _], _ => rfl
  have g32 := PySem.W.mg_of X G a32
  have F33 := fun_mk (st := s__law_same) l33 c33 k33
  have b33 := F33.binds (ps := ["_law_found", "_law_due_here"]) fun _ _ _ _ _ _ us hl => match us, hl with | [_, _], _ => rfl
  have g33 := PySem.W.mg_of X G a33
  have F34 := fun_mk (st := s__law_names) l34 c34 k34
  have b34 := F34.binds (ps := ["_law_left_here", "_law_many"]) fun _ _ _ _ _ _ us hl => match us, hl with | [_, _], _ => rfl
  have g34 := PySem.W.mg_of X G a34
  have F35 := fun_mk (st := s__law_figures) l35 c35 k35
  have b35 := F35.binds (ps := ["_law_left_here"]) fun _ _ _ _ _ _ us hl => match us, hl with | [_], _ => rfl
  have g35 := PySem.W.mg_of X G a35
  have F36 := fun_mk (st := s__law_rule) l36 c36 k36
  have b36 := F36.binds (ps := ["_law_figures_here"]) fun _ _ _ _ _ _ us hl => match us, hl with | [_], _ => rfl
  have g36 := PySem.W.mg_of X G a36
  have F37 := fun_mk (st := s__law_price) l37 c37 k37
  have b37 := F37.binds (ps := ["_law_left_here"]) fun _ _ _ _ _ _ us hl => match us, hl with | [_], _ => rfl
  have g37 := PySem.W.mg_of X G a37
  have F38 := fun_mk (st := s__law_begun) l38 c38 k38
  have b38 := F38.binds (ps := ["_law_figures_here", "_law_price_here", "_law_begin"]) fun _ _ _ _ _ _ us hl => match us, hl with | [_, _, _], _ => rfl
  have g38 := PySem.W.mg_of X G a38
  have F39 := fun_mk (st := s__law_given) l39 c39 k39
  have b39 := F39.binds (ps := ["_law_m", "_law_day_here", "_law_pence"]) fun _ _ _ _ _ _ us hl => match us, hl with | [_, _, _], _ => rfl
  have g39 := PySem.W.mg_of X G a39
  have F40 := fun_mk (st := s__law_ended) l40 c40 k40
  have b40 := F40.binds (ps := ["_law_m", "_law_word", "_law_day_here", "_law_percent"]) fun _ _ _ _ _ _ us hl => match us, hl with | [_, _, _, _], _ => rfl
  have g40 := PySem.W.mg_of X G a40
  have F41 := fun_mk (st := s__law_to) l41 c41 k41
  have b41 := F41.binds (ps := ["_law_m", "_law_day_here"]) fun _ _ _ _ _ _ us hl => match us, hl with | [_, _], _ => rfl
  have g41 := PySem.W.mg_of X G a41
  have F42 := fun_mk (st := s__law_sold) l42 c42 k42
  have b42 := F42.binds (ps := ["_law_m", "_law_day_here"]) fun _ _ _ _ _ _ us hl => match us, hl with | [_, _], _ => rfl
  have g42 := PySem.W.mg_of X G a42
  have F43 := fun_mk (st := s__law_paid) l43 c43 k43
  have b43 := F43.binds (ps := ["_law_m", "_law_day_here", "_law_who"]) fun _ _ _ _ _ _ us hl => match us, hl with | [_, _, _], _ => rfl
  have g43 := PySem.W.mg_of X G a43
  have F44 := fun_mk (st := s__law_did) l44 c44 k44
  have b44 := F44.binds (ps := ["_law_m", "_law_deed_here"]) fun _ _ _ _ _ _ us hl => match us, hl with | [_, _], _ => rfl
  have g44 := PySem.W.mg_of X G a44
  have F45 := fun_mk (st := s__law_last) l45 c45 k45
  have b45 := F45.binds (ps := ["_law_m"]) fun _ _ _ _ _ _ us hl => match us, hl with | [_], _ => rfl
  have g45 := PySem.W.mg_of X G a45
  have F46 := fun_mk (st := s__law_due) l46 c46 k46
  have b46 := F46.binds (ps := ["_law_m"]) fun _ _ _ _ _ _ us hl => match us, hl with | [_], _ => rfl
  have g46 := PySem.W.mg_of X G a46
  have F47 := fun_mk (st := s__law_seen) l47 c47 k47
  have b47 := F47.binds (ps := ["_law_putby"]) fun _ _ _ _ _ _ us hl => match us, hl with | [_], _ => rfl
  have g47 := PySem.W.mg_of X G a47
  have F48 := fun_mk (st := s__law_told) l48 c48 k48
  have b48 := F48.binds (ps := ["_law_putby", "_law_deed_here"]) fun _ _ _ _ _ _ us hl => match us, hl with | [_, _], _ => rfl
  have g48 := PySem.W.mg_of X G a48
  have F49 := fun_mk (st := s__law_day) l49 c49 k49
  have b49 := F49.binds (ps := ["_law_left_here", "_law_m"]) fun _ _ _ _ _ _ us hl => match us, hl with | [_, _], _ => rfl
  have g49 := PySem.W.mg_of X G a49
  have F50 := fun_mk (st := s__law_deed) l50 c50 k50
  have b50 := F50.binds (ps := ["_law_left_here", "_law_m", "_law_names_here", "_law_words"]) fun _ _ _ _ _ _ us hl => match us, hl with | [_, _, _, _], _ => rfl
  have g50 := PySem.W.mg_of X G a50
  have F51 := fun_mk (st := s__law_right) l51 c51 k51
  have b51 := F51.binds (ps := ["_law_left_here"]) fun _ _ _ _ _ _ us hl => match us, hl with | [_], _ => rfl
  have g51 := PySem.W.mg_of X G a51
  have F52 := fun_mk (st := s_law) l52 c52 k52
  have m_divmod := PySem.W.mg_none_of X G z_divmod
  have m_isinstance := PySem.W.mg_none_of X G z_isinstance
  have m_bool := PySem.W.mg_none_of X G z_bool
  have m_int := PySem.W.mg_none_of X G z_int
  have m_tuple := PySem.W.mg_none_of X G z_tuple
  have m_all := PySem.W.mg_none_of X G z_all
  have m_len := PySem.W.mg_none_of X G z_len
  have m_max := PySem.W.mg_none_of X G z_max
  have m_min := PySem.W.mg_none_of X G z_min
  have m_reversed := PySem.W.mg_none_of X G z_reversed
  have m_sum := PySem.W.mg_none_of X G z_sum
  have m_list := PySem.W.mg_none_of X G z_list
  have m_abs := PySem.W.mg_none_of X G z_abs
  have m_zip := PySem.W.mg_none_of X G z_zip
  have m_str := PySem.W.mg_none_of X G z_str
  have m_range := PySem.W.mg_none_of X G z_range
  have m_dict := PySem.W.mg_none_of X G z_dict
  have m_ValueError := PySem.W.mg_none_of X G z_ValueError
  have g_AT_FIRST := PySem.W.mg_of X G y_AT_FIRST
  have q_AT_FIRST : ∀ H, SqT K H A_AT_FIRST [.str (Str.ofString "stands"), .int 0, .int 0, .int 0] := fun H => .inr ⟨_, _, _, x_AT_FIRST, rfl, rfl, (by show 4 ≤ sizeLine; decide), (.cons ⟨_, rfl⟩ (.cons ⟨_, rfl⟩ (.cons ⟨_, rfl⟩ (.cons ⟨_, rfl⟩ .nil))))⟩
  refine ⟨PySem.W.fnOf "law" "law" (defArgs s_law) (defBody s_law) (defScope s_law) .none kV52 dc52 pm52 an52 cd52 ct52, fun s v => .of_eq rfl, fun base _ _ => ?_⟩
  have C_share_up := ok_share_up (P := l.prog) (w := w) (base := base) F0 g0 b0
  have C_parts_of := ok_parts_of (P := l.prog) (w := w) (base := base) F1 g1 b1 m_divmod
  have C_is_number_in := ok_is_number_in (P := l.prog) (w := w) (base := base) F2 g2 b2 m_isinstance m_bool m_int
  have C_may_be_kept := ok_may_be_kept (P := l.prog) (w := w) (base := base) F3 g3 b3 m_isinstance m_tuple m_all m_len C_is_number_in
  have C_wrong_figure := ok_wrong_figure (P := l.prog) (w := w) (base := base) F4 g4 b4 m_isinstance m_bool C_is_number_in C_may_be_kept
  have O5 := ok_Rule___init__ (P := l.prog) (w := w) (base := base) T_Rule m_isinstance m_tuple C_wrong_figure F5
  obtain ⟨ds_M_Rule, v_M_Rule, b_M_Rule⟩ := F5.binds1 (ps := ["self", "parts", "step", "grace", "last", "misses", "keep", "fine", "falls", "back"]) 10 7 (by simp) rfl (fun T kV doc pm an cdv ct us its h1 h2 => match us, its, h1, h2 with | [_, _, _, _, _, _, _, _, _, _], [_, _, _, _, _, _, _], _, _ => ⟨_, rfl, rfl⟩)
  have M_Rule : CMk l.prog w K mg base CR 4 "Rule" ["self", "parts", "step", "grace", "last", "misses", "keep", "fine", "falls", "back"] [] (sp_Rule___init__ K CR) := ⟨_, _, ds_M_Rule, O5, ⟨mk, a5, i5, kc⟩, gC, v_M_Rule, b_M_Rule⟩
  have O6 := ok_Rule_keeps (P := l.prog) (w := w) (base := base) T_Rule m_max m_min F6
  obtain ⟨its6, kb6⟩ := F6.kbindsD (ps := ["self", "paid", "gone"]) 2 ["gone"] (fun us _ ws => us ++ ws) (by simp) (fun a _ c => a.append c) (fun T kV doc pm an cdv ct us its ws h1 h2 h3 => match us, its, ws, h1, h2, h3 with | [_, _], [_], [_], _, _, _ => ⟨_, rfl, rfl⟩)
  have C_Rule_keeps_1k : CMtK l.prog w K mg base CR 1 "keeps" ["self", "paid", "gone"] 2 ["gone"] (fun vs zs => vs ++ zs) (sp_Rule_keeps K CR) := ⟨_, _, _, O6, ⟨a6, i6, k6⟩, kb6⟩
  obtain ⟨ds_C_Rule_keeps_1, v_C_Rule_keeps_1, b_C_Rule_keeps_1⟩ := F6.binds1 (ps := ["self", "paid", "gone"]) 2 0 (by simp) rfl (fun T kV doc pm an cdv ct us its h1 h2 => match us, its, h1, h2 with | [_, _], [_], _, _ => ⟨_, rfl, rfl⟩)
  have C_Rule_keeps_1 : CMt l.prog w K mg base CR 1 "keeps" ["self", "paid", "gone"] [.bl false] (sp_Rule_keeps K CR) := ⟨_, _, ds_C_Rule_keeps_1, O6, ⟨a6, i6, k6⟩, v_C_Rule_keeps_1, b_C_Rule_keeps_1⟩
  have O7 := ok_Rule___len__ (P := l.prog) (w := w) (base := base) T_Rule m_len F7
  have b_C_Rule___len___0 := F7.bindsN (ps := ["self"]) fun kV doc pm an cdv ct us h => match us, h with | [_], _ => rfl
  have C_Rule___len___0 : CMt l.prog w K mg base CR 1 "__len__" ["self"] [] (sp_Rule___len__ K CR) := ⟨_, _, [], O7, ⟨a7, i7, k7⟩, .nil, b_C_Rule___len___0⟩
  have C_passed_to := ok_passed_to (P := l.prog) (w := w) (base := base) F8 g8 b8 T_Rule
  have C_paid_on := ok_paid_on (P := l.prog) (w := w) (base := base) F9 g9 b9 T_Rule m_len C_Rule___len___0
  have C_last_day_of := ok_last_day_of (P := l.prog) (w := w) (base := base) F10 g10 b10 T_Rule
  have C_backs_of := ok_backs_of (P := l.prog) (w := w) (base := base) F11 g11 b11 m_reversed m_min
  have O12 := ok_Putby___init__ (P := l.prog) (w := w) (base := base) (CC := (⟨CR, CP, CW, CN, CI, CO1, CO2, CO3, CO4, CO5, CO6⟩ : Cl)) T_Rule T_Putby TE g_AT_FIRST q_AT_FIRST F12
  have b_M_Putby := F12.bindsN (ps := ["self", "rule", "price", "begin"]) fun kV doc pm an cdv ct us h => match us, h with | [_, _, _, _], _ => rfl
  have M_Putby : CMk l.prog w K mg base CP 1 "Putby" ["self", "rule", "price", "begin"] [] (sp_Putby___init__ K (⟨CR, CP, CW, CN, CI, CO1, CO2, CO3, CO4, CO5, CO6⟩ : Cl)) := ⟨_, _, [], O12, ⟨mkP, a12, i12, kcP⟩, gCP, .nil, b_M_Putby⟩
  have O13 := ok_Putby_paid (P := l.prog) (w := w) (base := base) (CC := (⟨CR, CP, CW, CN, CI, CO1, CO2, CO3, CO4, CO5, CO6⟩ : Cl)) T_Rule T_Putby TE m_sum F13
  have b_C_Putby_paid_0 := F13.bindsN (ps := ["self"]) fun kV doc pm an cdv ct us h => match us, h with | [_], _ => rfl
  have C_Putby_paid_0 : CMt l.prog w K mg base CP 1 "paid" ["self"] [] (sp_Putby_paid K (⟨CR, CP, CW, CN, CI, CO1, CO2, CO3, CO4, CO5, CO6⟩ : Cl)) := ⟨_, _, [], O13, ⟨a13, i13, k13⟩, .nil, b_C_Putby_paid_0⟩
  have O14 := ok_Putby_given_back (P := l.prog) (w := w) (base := base) (CC := (⟨CR, CP, CW, CN, CI, CO1, CO2, CO3, CO4, CO5, CO6⟩ : Cl)) T_Rule T_Putby TE m_sum F14
  have b_C_Putby_given_back_0 := F14.bindsN (ps := ["self"]) fun kV doc pm an cdv ct us h => match us, h with | [_], _ => rfl
  have C_Putby_given_back_0 : CMt l.prog w K mg base CP 1 "given_back" ["self"] [] (sp_Putby_given_back K (⟨CR, CP, CW, CN, CI, CO1, CO2, CO3, CO4, CO5, CO6⟩ : Cl)) := ⟨_, _, [], O14, ⟨a14, i14, k14⟩, .nil, b_C_Putby_given_back_0⟩
  have O15 := ok_Putby_price (P := l.prog) (w := w) (base := base) (CC := (⟨CR, CP, CW, CN, CI, CO1, CO2, CO3, CO4, CO5, CO6⟩ : Cl)) T_Rule T_Putby TE F15
  have b_C_Putby_price_0 := F15.bindsN (ps := ["self"]) fun kV doc pm an cdv ct us h => match us, h with | [_], _ => rfl
  have C_Putby_price_0 : CMt l.prog w K mg base CP 1 "price" ["self"] [] (sp_Putby_price K (⟨CR, CP, CW, CN, CI, CO1, CO2, CO3, CO4, CO5, CO6⟩ : Cl)) := ⟨_, _, [], O15, ⟨a15, i15, k15⟩, .nil, b_C_Putby_price_0⟩
  have O16 := ok_Putby_state (P := l.prog) (w := w) (base := base) (CC := (⟨CR, CP, CW, CN, CI, CO1, CO2, CO3, CO4, CO5, CO6⟩ : Cl)) T_Rule T_Putby TE F16
  have b_C_Putby_state_0 := F16.bindsN (ps := ["self"]) fun kV doc pm an cdv ct us h => match us, h with | [_], _ => rfl
  have C_Putby_state_0 : CMt l.prog w K mg base CP 1 "state" ["self"] [] (sp_Putby_state K (⟨CR, CP, CW, CN, CI, CO1, CO2, CO3, CO4, CO5, CO6⟩ : Cl)) := ⟨_, _, [], O16, ⟨a16, i16, k16⟩, .nil, b_C_Putby_state_0⟩
  have O17 := ok_Putby_kept (P := l.prog) (w := w) (base := base) (CC := (⟨CR, CP, CW, CN, CI, CO1, CO2, CO3, CO4, CO5, CO6⟩ : Cl)) T_Rule T_Putby TE C_Putby_paid_0 C_Putby_given_back_0 F17
  have b_C_Putby_kept_0 := F17.bindsN (ps := ["self"]) fun kV doc pm an cdv ct us h => match us, h with | [_], _ => rfl
  have C_Putby_kept_0 : CMt l.prog w K mg base CP 2 "kept" ["self"] [] (sp_Putby_kept K (⟨CR, CP, CW, CN, CI, CO1, CO2, CO3, CO4, CO5, CO6⟩ : Cl)) := ⟨_, _, [], O17, ⟨a17, i17, k17⟩, .nil, b_C_Putby_kept_0⟩
  have O18 := ok_Putby_backs (P := l.prog) (w := w) (base := base) (CC := (⟨CR, CP, CW, CN, CI, CO1, CO2, CO3, CO4, CO5, CO6⟩ : Cl)) T_Rule T_Putby TE m_list F18
  have b_C_Putby_backs_0 := F18.bindsN (ps := ["self"]) fun kV doc pm an cdv ct us h => match us, h with | [_], _ => rfl
  have C_Putby_backs_0 : CMt l.prog w K mg base CP 1 "backs" ["self"] [] (sp_Putby_backs K (⟨CR, CP, CW, CN, CI, CO1, CO2, CO3, CO4, CO5, CO6⟩ : Cl)) := ⟨_, _, [], O18, ⟨a18, i18, k18⟩, .nil, b_C_Putby_backs_0⟩
  have O19 := ok_Putby_payments (P := l.prog) (w := w) (base := base) (CC := (⟨CR, CP, CW, CN, CI, CO1, CO2, CO3, CO4, CO5, CO6⟩ : Cl)) T_Rule T_Putby TE m_list F19
  have b_C_Putby_payments_0 := F19.bindsN (ps := ["self"]) fun kV doc pm an cdv ct us h => match us, h with | [_], _ => rfl
  have C_Putby_payments_0 : CMt l.prog w K mg base CP 1 "payments" ["self"] [] (sp_Putby_payments K (⟨CR, CP, CW, CN, CI, CO1, CO2, CO3, CO4, CO5, CO6⟩ : Cl)) := ⟨_, _, [], O19, ⟨a19, i19, k19⟩, .nil, b_C_Putby_payments_0⟩
  have O20 := ok_Putby_last_day (P := l.prog) (w := w) (base := base) (CC := (⟨CR, CP, CW, CN, CI, CO1, CO2, CO3, CO4, CO5, CO6⟩ : Cl)) T_Rule T_Putby TE C_last_day_of F20
  have b_C_Putby_last_day_0 := F20.bindsN (ps := ["self"]) fun kV doc pm an cdv ct us h => match us, h with | [_], _ => rfl
  have C_Putby_last_day_0 : CMt l.prog w K mg base CP 2 "last_day" ["self"] [] (sp_Putby_last_day K (⟨CR, CP, CW, CN, CI, CO1, CO2, CO3, CO4, CO5, CO6⟩ : Cl)) := ⟨_, _, [], O20, ⟨a20, i20, k20⟩, .nil, b_C_Putby_last_day_0⟩
  have O21 := ok_Putby_next_part (P := l.prog) (w := w) (base := base) (CC := (⟨CR, CP, CW, CN, CI, CO1, CO2, CO3, CO4, CO5, CO6⟩ : Cl)) T_Rule T_Putby TE m_len C_parts_of C_Rule___len___0 C_Putby_paid_0 F21
  have b_C_Putby_next_part_0 := F21.bindsN (ps := ["self"]) fun kV doc pm an cdv ct us h => match us, h with | [_], _ => rfl
  have C_Putby_next_part_0 : CMt l.prog w K mg base CP 3 "next_part" ["self"] [] (sp_Putby_next_part K (⟨CR, CP, CW, CN, CI, CO1, CO2, CO3, CO4, CO5, CO6⟩ : Cl)) := ⟨_, _, [], O21, ⟨a21, i21, k21⟩, .nil, b_C_Putby_next_part_0⟩
  have O22 := ok_Putby_course_on (P := l.prog) (w := w) (base := base) (CC := (⟨CR, CP, CW, CN, CI, CO1, CO2, CO3, CO4, CO5, CO6⟩ : Cl)) T_Rule T_Putby TE C_passed_to F22
  have b_C_Putby_course_on_1 := F22.bindsN (ps := ["self", "day"]) fun kV doc pm an cdv ct us h => match us, h with | [_, _], _ => rfl
  have C_Putby_course_on_1 : CMx l.prog w K mg base CP 2 "course_on" ["self", "day"] (sp_Putby_course_on K (⟨CR, CP, CW, CN, CI, CO1, CO2, CO3, CO4, CO5, CO6⟩ : Cl)) := ⟨_, _, O22, ⟨a22, i22, k22⟩, b_C_Putby_course_on_1⟩
  have O23 := ok_Putby_standing_on (P := l.prog) (w := w) (base := base) (CC := (⟨CR, CP, CW, CN, CI, CO1, CO2, CO3, CO4, CO5, CO6⟩ : Cl)) T_Rule T_Putby TE C_Putby_course_on_1 F23
  have b_C_Putby_standing_on_1 := F23.bindsN (ps := ["self", "day"]) fun kV doc pm an cdv ct us h => match us, h with | [_, _], _ => rfl
  have C_Putby_standing_on_1 : CMx l.prog w K mg base CP 3 "standing_on" ["self", "day"] (sp_Putby_standing_on K (⟨CR, CP, CW, CN, CI, CO1, CO2, CO3, CO4, CO5, CO6⟩ : Cl)) := ⟨_, _, O23, ⟨a23, i23, k23⟩, b_C_Putby_standing_on_1⟩
  have O24 := ok_Putby_end (P := l.prog) (w := w) (base := base) (CC := (⟨CR, CP, CW, CN, CI, CO1, CO2, CO3, CO4, CO5, CO6⟩ : Cl)) T_Rule T_Putby TE C_backs_of F24
  have b_C_Putby_end_3 := F24.bindsN (ps := ["self", "word", "day", "pence"]) fun kV doc pm an cdv ct us h => match us, h with | [_, _, _, _], _ => rfl
  have C_Putby_end_3 : CMt l.prog w K mg base CP 2 "end" ["self", "word", "day", "pence"] [] (sp_Putby_end K (⟨CR, CP, CW, CN, CI, CO1, CO2, CO3, CO4, CO5, CO6⟩ : Cl)) := ⟨_, _, [], O24, ⟨a24, i24, k24⟩, .nil, b_C_Putby_end_3⟩
  have O25 := ok_Putby_let_off (P := l.prog) (w := w) (base := base) (CC := (⟨CR, CP, CW, CN, CI, CO1, CO2, CO3, CO4, CO5, CO6⟩ : Cl)) T_Rule T_Putby TE C_share_up C_Putby_end_3 C_Putby_paid_0 F25
  have b_C_Putby_let_off_3 := F25.bindsN (ps := ["self", "word", "day", "percent"]) fun kV doc pm an cdv ct us h => match us, h with | [_, _, _, _], _ => rfl
  have C_Putby_let_off_3 : CMt l.prog w K mg base CP 3 "let_off" ["self", "word", "day", "percent"] [] (sp_Putby_let_off K (⟨CR, CP, CW, CN, CI, CO1, CO2, CO3, CO4, CO5, CO6⟩ : Cl)) := ⟨_, _, [], O25, ⟨a25, i25, k25⟩, .nil, b_C_Putby_let_off_3⟩
  have O26 := ok_Putby_pass_to (P := l.prog) (w := w) (base := base) (CC := (⟨CR, CP, CW, CN, CI, CO1, CO2, CO3, CO4, CO5, CO6⟩ : Cl)) T_Rule T_Putby TE C_Putby_course_on_1 C_Putby_let_off_3 C_Rule_keeps_1k F26
  have b_C_Putby_pass_to_1 := F26.bindsN (ps := ["self", "day"]) fun kV doc pm an cdv ct us h => match us, h with | [_, _], _ => rfl
  have C_Putby_pass_to_1 : CMx l.prog w K mg base CP 4 "pass_to" ["self", "day"] (sp_Putby_pass_to K (⟨CR, CP, CW, CN, CI, CO1, CO2, CO3, CO4, CO5, CO6⟩ : Cl)) := ⟨_, _, O26, ⟨a26, i26, k26⟩, b_C_Putby_pass_to_1⟩
  have O27 := ok_Putby_pay (P := l.prog) (w := w) (base := base) (CC := (⟨CR, CP, CW, CN, CI, CO1, CO2, CO3, CO4, CO5, CO6⟩ : Cl)) T_Rule T_Putby TE C_paid_on C_Putby_standing_on_1 C_Putby_next_part_0 F27
  have b_C_Putby_pay_2 := F27.bindsN (ps := ["self", "day", "who"]) fun kV doc pm an cdv ct us h => match us, h with | [_, _, _], _ => rfl
  have C_Putby_pay_2 : CMx l.prog w K mg base CP 4 "pay" ["self", "day", "who"] (sp_Putby_pay K (⟨CR, CP, CW, CN, CI, CO1, CO2, CO3, CO4, CO5, CO6⟩ : Cl)) := ⟨_, _, O27, ⟨a27, i27, k27⟩, b_C_Putby_pay_2⟩
  have O28 := ok_Putby_give_up (P := l.prog) (w := w) (base := base) (CC := (⟨CR, CP, CW, CN, CI, CO1, CO2, CO3, CO4, CO5, CO6⟩ : Cl)) T_Rule T_Putby TE C_Putby_standing_on_1 C_Putby_let_off_3 C_Rule_keeps_1 F28
  have b_C_Putby_give_up_1 := F28.bindsN (ps := ["self", "day"]) fun kV doc pm an cdv ct us h => match us, h with | [_, _], _ => rfl
  have C_Putby_give_up_1 : CMx l.prog w K mg base CP 4 "give_up" ["self", "day"] (sp_Putby_give_up K (⟨CR, CP, CW, CN, CI, CO1, CO2, CO3, CO4, CO5, CO6⟩ : Cl)) := ⟨_, _, O28, ⟨a28, i28, k28⟩, b_C_Putby_give_up_1⟩
  have O29 := ok_Putby_price_falls (P := l.prog) (w := w) (base := base) (CC := (⟨CR, CP, CW, CN, CI, CO1, CO2, CO3, CO4, CO5, CO6⟩ : Cl)) T_Rule T_Putby TE C_Putby_pass_to_1 C_Putby_paid_0 C_Putby_end_3 F29
  have b_C_Putby_price_falls_2 := F29.bindsN (ps := ["self", "day", "price"]) fun kV doc pm an cdv ct us h => match us, h with | [_, _, _], _ => rfl
  have C_Putby_price_falls_2 : CMx l.prog w K mg base CP 5 "price_falls" ["self", "day", "price"] (sp_Putby_price_falls K (⟨CR, CP, CW, CN, CI, CO1, CO2, CO3, CO4, CO5, CO6⟩ : Cl)) := ⟨_, _, O29, ⟨a29, i29, k29⟩, b_C_Putby_price_falls_2⟩
  have C__law_mix := ok__law_mix (P := l.prog) (w := w) (base := base) F30 g30 b30
  have C__law_left := ok__law_left (P := l.prog) (w := w) (base := base) F31 g31 b31 m_len m_abs m_int
  have C__law_pick := ok__law_pick (P := l.prog) (w := w) (base := base) F32 g32 b32 C__law_mix
  have C__law_same := ok__law_same (P := l.prog) (w := w) (base := base) F33 g33 b33 m_isinstance m_tuple m_list m_all m_zip m_len m_str m_bool m_int
  have C__law_names := ok__law_names (P := l.prog) (w := w) (base := base) F34 g34 b34 m_range m_len C__law_pick
  have C__law_figures := ok__law_figures (P := l.prog) (w := w) (base := base) F35 g35 b35 m_tuple m_range C__law_pick
  have C__law_rule := ok__law_rule (P := l.prog) (w := w) (base := base) F36 g36 b36 T_Rule M_Rule
  have C__law_price := ok__law_price (P := l.prog) (w := w) (base := base) F37 g37 b37 C__law_pick
  have C__law_begun := ok__law_begun (P := l.prog) (w := w) (base := base) F38 g38 b38
  have C__law_given := ok__law_given (P := l.prog) (w := w) (base := base) F39 g39 b39 m_sum m_min m_int
  have C__law_ended := ok__law_ended (P := l.prog) (w := w) (base := base) F40 g40 b40 m_sum C__law_given
  have C__law_to := ok__law_to (P := l.prog) (w := w) (base := base) F41 g41 b41 m_min C__law_ended
  have C__law_sold := ok__law_sold (P := l.prog) (w := w) (base := base) F42 g42 b42 m_sum C__law_given
  have C__law_paid := ok__law_paid (P := l.prog) (w := w) (base := base) F43 g43 b43 m_sum C__law_sold
  have C__law_did := ok__law_did (P := l.prog) (w := w) (base := base) F44 g44 b44 m_dict m_sum C__law_to C__law_paid C__law_ended C__law_sold
  have C__law_last := ok__law_last (P := l.prog) (w := w) (base := base) F45 g45 b45 m_dict C__law_to
  have C__law_due := ok__law_due (P := l.prog) (w := w) (base := base) F46 g46 b46 m_sum m_list C__law_last
  have C__law_seen := ok__law_seen (P := l.prog) (w := w) (base := base) (CC := (⟨CR, CP, CW, CN, CI, CO1, CO2, CO3, CO4, CO5, CO6⟩ : Cl)) F47 g47 b47 T_Rule T_Putby TE C_Putby_payments_0 C_Putby_backs_0 C_Putby_kept_0 C_Putby_paid_0 C_Putby_price_0 C_Putby_state_0 C_Putby_last_day_0
  have C__law_told := ok__law_told (P := l.prog) (w := w) (base := base) (CC := (⟨CR, CP, CW, CN, CI, CO1, CO2, CO3, CO4, CO5, CO6⟩ : Cl)) F48 g48 b48 T_Rule T_Putby TE m_isinstance m_ValueError C_Putby_pay_2 C_Putby_give_up_1 C_Putby_price_falls_2 C_Putby_pass_to_1
  have C__law_day := ok__law_day (P := l.prog) (w := w) (base := base) (CC := (⟨CR, CP, CW, CN, CI, CO1, CO2, CO3, CO4, CO5, CO6⟩ : Cl)) F49 g49 b49 T_Rule T_Putby TE m_min m_max C__law_last C__law_pick
  have C__law_deed := ok__law_deed (P := l.prog) (w := w) (base := base) (CC := (⟨CR, CP, CW, CN, CI, CO1, CO2, CO3, CO4, CO5, CO6⟩ : Cl)) F50 g50 b50 T_Rule T_Putby TE m_len m_sum m_max m_min C__law_day C__law_pick
  have C__law_right := ok__law_right (P := l.prog) (w := w) (base := base) (CC := (⟨CR, CP, CW, CN, CI, CO1, CO2, CO3, CO4, CO5, CO6⟩ : Cl)) F51 g51 b51 T_Rule T_Putby TE m_range C__law_figures C__law_rule C__law_names C__law_pick C__law_price C__law_begun C__law_deed C__law_same C__law_did C__law_told C__law_due C__law_seen M_Putby C_Putby_payments_0 C_Putby_backs_0
  exact ok_law (CC := (⟨CR, CP, CW, CN, CI, CO1, CO2, CO3, CO4, CO5, CO6⟩ : Cl)) F52 T_Rule T_Putby TE m_all m_range m_max m_min m_len C__law_right C__law_left
end Pw
open PySem PySem.W PyProof.Rows
set_option maxHeartbeats 0 in
theorem PySem.Challenge.cw_partwares_k44_wares_by_turns_holds : PySem.Challenge.rw_partwares_k44_wares_by_turns.Holds := by
  w_on; o_law; k_head; (case hw => w_witness2)
  k_fill
  refine L2.walk_of (l := PySem.Challenge.rw_partwares_k44_wares_by_turns) (n := 63) (k := 8) (x := "_law_script") (CX := fun _ => L2.CX0) (sp := fun w => Pw.sp_law _) rfl (by decide) rfl ⟨rfl, by decide, by decide⟩ (fun w h Y => PySem.W.kIn_of Y) ?F (fun _ _ a ns hl _ hS => ⟨a, ns, rfl, hS, hl, fun _ => rfl⟩) (fun _ _ _ _ _ h => h)
  case F =>
    intro w mg fa h KX G hmg
    refine' Pw.all_mk KX G hmg ?aC ?pg ?hd ?po ?sa ?mk ?kc ?n1 ?n2 ?n3 ?n4 ?n5 ?n6 ?n7 ?n8 ?n9 ?aCP ?pgP ?hdP ?poP ?saP ?mkP ?kcP ?nP1 ?nP2 ?nP3 ?nP4 ?nP5 ?nP6 ?nP7 ?e_CW ?e_CN ?e_CI ?e_CO1 ?e_CO2 ?e_CO3 ?e_CO4 ?e_CO5 ?e_CO6 ?e_CW_ty ?e_CW_ic ?e_CN_ty ?e_CN_ic ?e_CI_ty ?e_CI_ic ?e_CO1_ty ?e_CO1_ic ?e_CO2_ty ?e_CO2_ic ?e_CO3_ty ?e_CO3_ic ?e_CO4_ty ?e_CO4_ic ?e_CO5_ty ?e_CO5_ic ?e_CO6_ty ?e_CO6_ic ?e_CW_sb ?e_CW_hd ?e_CN_xc ?e_CN_kp ?e_CN_sb ?e_CN_hg ?e_CN_hk ?e_CN_hd ?e_CN_ha ?e_CN_hm ?e_CN_ve ?e_CN_xw ?e_CN_sCI ?e_CN_sCO1 ?e_CN_sCO2 ?e_CN_sCO3 ?e_CN_sCO4 ?e_CN_sCO5 ?e_CN_sCO6 ?e_CN_nCI ?e_CN_nCO1 ?e_CN_nCO2 ?e_CN_nCO3 ?e_CN_nCO4 ?e_CN_nCO5 ?e_CN_nCO6 ?e_CI_xc ?e_CI_kp ?e_CI_sb ?e_CI_hg ?e_CI_hk ?e_CI_hd ?e_CI_ha ?e_CI_hm ?e_CI_ve ?e_CI_xw ?e_CI_sCN ?e_CI_sCO1 ?e_CI_sCO2 ?e_CI_sCO3 ?e_CI_sCO4 ?e_CI_sCO5 ?e_CI_sCO6 ?e_CI_nCN ?e_CI_nCO1 ?e_CI_nCO2 ?e_CI_nCO3 ?e_CI_nCO4 ?e_CI_nCO5 ?e_CI_nCO6 ?e_hn ?e_ht ?a0 ?l0 ?c0 ?k0 ?a1 ?l1 ?c1 ?k1 ?a2 ?l2 ?c2 ?k2 ?a3 ?l3 ?c3 ?k3 ?a4 ?l4 ?c4 ?k4 ?a5 ?l5 ?c5 ?k5 ?i5 ?d5 ?a6 ?l6 ?c6 ?k6 ?i6 ?d6 ?a7 ?l7 ?c7 ?k7 ?i7 ?a8 ?l8 ?c8 ?k8 ?a9 ?l9 ?c9 ?k9 ?a10 ?l10 ?c10 ?k10 ?a11 ?l11 ?c11 ?k11 ?a12 ?l12 ?c12 ?k12 ?i12 ?a13 ?l13 ?c13 ?k13 ?i13 ?a14 ?l14 ?c14 ?k14 ?i14 ?a15 ?l15 ?c15 ?k15 ?i15 ?a16 ?l16 ?c16 ?k16 ?i16 ?a17 ?l17 ?c17 ?k17 ?i17 ?a18 ?l18 ?c18 ?k18 ?i18 ?a19 ?l19 ?c19 ?k19 ?i19 ?a20 ?l20 ?c20 ?k20 ?i20 ?a21 ?l21 ?c21 ?k21 ?i21 ?a22 ?l22 ?c22 ?k22 ?i22 ?a23 ?l23 ?c23 ?k23 ?i23 ?a24 ?l24 ?c24 ?k24 ?i24 ?a25 ?l25 ?c25 ?k25 ?i25 ?a26 ?l26 ?c26 ?k26 ?i26 ?a27 ?l27 ?c27 ?k27 ?i27 ?a28 ?l28 ?c28 ?k28 ?i28 ?a29 ?l29 ?c29 ?k29 ?i29 ?a30 ?l30 ?c30 ?k30 ?a31 ?l31 ?c31 ?k31 ?a32 ?l32 ?c32 ?k32 ?a33 ?l33 ?c33 ?k33 ?a34 ?l34 ?c34 ?k34 ?a35 ?l35 ?c35 ?k35 ?a36 ?l36 ?c36 ?k36 ?a37 ?l37 ?c37 ?k37 ?a38 ?l38 ?c38 ?k38 ?a39 ?l39 ?c39 ?k39 ?a40 ?l40 ?c40 ?k40 ?a41 ?l41 ?c41 ?k41 ?a42 ?l42 ?c42 ?k42 ?a43 ?l43 ?c43 ?k43 ?a44 ?l44 ?c44 ?k44 ?a45 ?l45 ?c45 ?k45 ?a46 ?l46 ?c46 ?k46 ?a47 ?l47 ?c47 ?k47 ?a48 ?l48 ?c48 ?k48 ?a49 ?l49 ?c49 ?k49 ?a50 ?l50 ?c50 ?k50 ?a51 ?l51 ?c51 ?k51 ?a52 ?l52 ?c52 ?k52 ?z_divmod ?z_isinstance ?z_bool ?z_int ?z_tuple ?z_all ?z_len ?z_max ?z_min ?z_reversed ?z_sum ?z_list ?z_abs ?z_zip ?z_str ?z_range ?z_dict ?z_ValueError ?y_AT_FIRST ?x_AT_FIRST
    (case aC => k_is); (case pg => k_is); (case hd => k_is); (case po => k_is); (case sa => k_is); (case mk => k_is); (case kc => k_is); (case n1 => k_is); (case n2 => k_is); (case n3 => k_is); (case n4 => k_is); (case n5 => k_is); (case n6 => k_is); (case n7 => k_is); (case n8 => k_is); (case n9 => k_is); (case aCP => k_is); (case pgP => k_is); (case hdP => k_is); (case poP => k_is); (case saP => k_is); (case mkP => k_is); (case kcP => k_is); (case nP1 => k_is); (case nP2 => k_is); (case nP3 => k_is); (case nP4 => k_is); (case nP5 => k_is); (case nP6 => k_is); (case nP7 => k_is); (case e_CW => k_is); (case e_CN => k_is); (case e_CI => k_is); (case e_CO1 => k_is); (case e_CO2 => k_is); (case e_CO3 => k_is); (case e_CO4 => k_is); (case e_CO5 => k_is); (case e_CO6 => k_is); (case e_CW_ty => k_is); (case e_CW_ic => k_is); (case e_CN_ty => k_is); (case e_CN_ic => k_is); (case e_CI_ty => k_is); (case e_CI_ic => k_is); (case e_CO1_ty => k_is); (case e_CO1_ic => k_is); (case e_CO2_ty => k_is); (case e_CO2_ic => k_is); (case e_CO3_ty => k_is); (case e_CO3_ic => k_is); (case e_CO4_ty => k_is); (case e_CO4_ic => k_is); (case e_CO5_ty => k_is); (case e_CO5_ic => k_is); (case e_CO6_ty => k_is); (case e_CO6_ic => k_is); (case e_CW_sb => k_is); (case e_CW_hd => k_is); (case e_CN_xc => k_exc); (case e_CN_kp => k_is); (case e_CN_sb => k_is); (case e_CN_hg => k_is); (case e_CN_hk => k_is); (case e_CN_hd => k_is); (case e_CN_ha => k_is); (case e_CN_hm => k_is); (case e_CN_ve => k_is); (case e_CN_xw => k_is); (case e_CN_sCI => k_is); (case e_CN_sCO1 => k_is); (case e_CN_sCO2 => k_is); (case e_CN_sCO3 => k_is); (case e_CN_sCO4 => k_is); (case e_CN_sCO5 => k_is); (case e_CN_sCO6 => k_is); (case e_CN_nCI => decide); (case e_CN_nCO1 => decide); (case e_CN_nCO2 => decide); (case e_CN_nCO3 => decide); (case e_CN_nCO4 => decide); (case e_CN_nCO5 => decide); (case e_CN_nCO6 => decide); (case e_CI_xc => k_exc); (case e_CI_kp => k_is); (case e_CI_sb => k_is); (case e_CI_hg => k_is); (case e_CI_hk => k_is); (case e_CI_hd => k_is); (case e_CI_ha => k_is); (case e_CI_hm => k_is); (case e_CI_ve => k_is); (case e_CI_xw => k_is); (case e_CI_sCN => k_is); (case e_CI_sCO1 => k_is); (case e_CI_sCO2 => k_is); (case e_CI_sCO3 => k_is); (case e_CI_sCO4 => k_is); (case e_CI_sCO5 => k_is); (case e_CI_sCO6 => k_is); (case e_CI_nCN => decide); (case e_CI_nCO1 => decide); (case e_CI_nCO2 => decide); (case e_CI_nCO3 => decide); (case e_CI_nCO4 => decide); (case e_CI_nCO5 => decide); (case e_CI_nCO6 => decide); (case e_hn => k_is); (case e_ht => k_is); (case a0 => k_is); (case l0 => k_is); (case c0 => k_is); (case k0 => k_is); (case a1 => k_is); (case l1 => k_is); (case c1 => k_is); (case k1 => k_is); (case a2 => k_is); (case l2 => k_is); (case c2 => k_is); (case k2 => k_is); (case a3 => k_is); (case l3 => k_is); (case c3 => k_is); (case k3 => k_is); (case a4 => k_is); (case l4 => k_is); (case c4 => k_is); (case k4 => k_is); (case a5 => k_is); (case l5 => k_is); (case c5 => k_is); (case k5 => k_is); (case i5 => k_is); (case d5 => k_is); (case a6 => k_is); (case l6 => k_is); (case c6 => k_is); (case k6 => k_is); (case i6 => k_is); (case d6 => k_is); (case a7 => k_is); (case l7 => k_is); (case c7 => k_is); (case k7 => k_is); (case i7 => k_is); (case a8 => k_is); (case l8 => k_is); (case c8 => k_is); (case k8 => k_is); (case a9 => k_is); (case l9 => k_is); (case c9 => k_is); (case k9 => k_is); (case a10 => k_is); (case l10 => k_is); (case c10 => k_is); (case k10 => k_is); (case a11 => k_is); (case l11 => k_is); (case c11 => k_is); (case k11 => k_is); (case a12 => k_is); (case l12 => k_is); (case c12 => k_is); (case k12 => k_is); (case i12 => k_is); (case a13 => k_is); (case l13 => k_is); (case c13 => k_is); (case k13 => k_is); (case i13 => k_is); (case a14 => k_is); (case l14 => k_is); (case c14 => k_is); (case k14 => k_is); (case i14 => k_is); (case a15 => k_is); (case l15 => k_is); (case c15 => k_is); (case k15 => k_is); (case i15 => k_is); (case a16 => k_is); (case l16 => k_is); (case c16 => k_is); (case k16 => k_is); (case i16 => k_is); (case a17 => k_is); (case l17 => k_is); (case c17 => k_is); (case k17 => k_is); (case i17 => k_is); (case a18 => k_is); (case l18 => k_is); (case c18 => k_is); (case k18 => k_is); (case i18 => k_is); (case a19 => k_is); (case l19 => k_is); (case c19 => k_is); (case k19 => k_is); (case i19 => k_is); (case a20 => k_is); (case l20 => k_is); (case c20 => k_is); (case k20 => k_is); (case i20 => k_is); (case a21 => k_is); (case l21 => k_is); (case c21 => k_is); (case k21 => k_is); (case i21 => k_is); (case a22 => k_is); (case l22 => k_is); (case c22 => k_is); (case k22 => k_is); (case i22 => k_is); (case a23 => k_is); (case l23 => k_is); (case c23 => k_is); (case k23 => k_is); (case i23 => k_is); (case a24 => k_is); (case l24 => k_is); (case c24 => k_is); (case k24 => k_is); (case i24 => k_is); (case a25 => k_is); (case l25 => k_is); (case c25 => k_is); (case k25 => k_is); (case i25 => k_is); (case a26 => k_is); (case l26 => k_is); (case c26 => k_is); (case k26 => k_is); (case i26 => k_is); (case a27 => k_is); (case l27 => k_is); (case c27 => k_is); (case k27 => k_is); (case i27 => k_is); (case a28 => k_is); (case l28 => k_is); (case c28 => k_is); (case k28 => k_is); (case i28 => k_is); (case a29 => k_is); (case l29 => k_is); (case c29 => k_is); (case k29 => k_is); (case i29 => k_is); (case a30 => k_is); (case l30 => k_is); (case c30 => k_is); (case k30 => k_is); (case a31 => k_is); (case l31 => k_is); (case c31 => k_is); (case k31 => k_is); (case a32 => k_is); (case l32 => k_is); (case c32 => k_is); (case k32 => k_is); (case a33 => k_is); (case l33 => k_is); (case c33 => k_is); (case k33 => k_is); (case a34 => k_is); (case l34 => k_is); (case c34 => k_is); (case k34 => k_is); (case a35 => k_is); (case l35 => k_is); (case c35 => k_is); (case k35 => k_is); (case a36 => k_is); (case l36 => k_is); (case c36 => k_is); (case k36 => k_is); (case a37 => k_is); (case l37 => k_is); (case c37 => k_is); (case k37 => k_is); (case a38 => k_is); (case l38 => k_is); (case c38 => k_is); (case k38 => k_is); (case a39 => k_is); (case l39 => k_is); (case c39 => k_is); (case k39 => k_is); (case a40 => k_is); (case l40 => k_is); (case c40 => k_is); (case k40 => k_is); (case a41 => k_is); (case l41 => k_is); (case c41 => k_is); (case k41 => k_is); (case a42 => k_is); (case l42 => k_is); (case c42 => k_is); (case k42 => k_is); (case a43 => k_is); (case l43 => k_is); (case c43 => k_is); (case k43 => k_is); (case a44 => k_is); (case l44 => k_is); (case c44 => k_is); (case k44 => k_is); (case a45 => k_is); (case l45 => k_is); (case c45 => k_is); (case k45 => k_is); (case a46 => k_is); (case l46 => k_is); (case c46 => k_is); (case k46 => k_is); (case a47 => k_is); (case l47 => k_is); (case c47 => k_is); (case k47 => k_is); (case a48 => k_is); (case l48 => k_is); (case c48 => k_is); (case k48 => k_is); (case a49 => k_is); (case l49 => k_is); (case c49 => k_is); (case k49 => k_is); (case a50 => k_is); (case l50 => k_is); (case c50 => k_is); (case k50 => k_is); (case a51 => k_is); (case l51 => k_is); (case c51 => k_is); (case k51 => k_is); (case a52 => k_is); (case l52 => k_is); (case c52 => k_is); (case k52 => k_is); (case z_divmod => k_is); (case z_isinstance => k_is); (case z_bool => k_is); (case z_int => k_is); (case z_tuple => k_is); (case z_all => k_is); (case z_len => k_is); (case z_max => k_is); (case z_min => k_is); (case z_reversed => k_is); (case z_sum => k_is); (case z_list => k_is); (case z_abs => k_is); (case z_zip => k_is); (case z_str => k_is); (case z_range => k_is); (case z_dict => k_is); (case z_ValueError => k_is); (case y_AT_FIRST => k_is); (case x_AT_FIRST => k_is)
