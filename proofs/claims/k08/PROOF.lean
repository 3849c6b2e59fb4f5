import PyProof.Rows.All
import Wide.All
import OpenK.AllK
import Wide.FinOn
import HandS.Base
import HandS.Call
import HandS.List
import HandS.Comp
import HandS.Ends
import HandS.Iter
import HandS.Text
import HandS.Words
import HandS.WordsList
import HandS.IsInst
import HandS.Style
import HandS.Walk
import HandS.Defaults
import HandS.TupMul
import HandS.Zip
import HandS.MakeKw
import HandS.Set
import HandS.Strs
import HandS.SetKeys
import HandS.FStr
import HandS.Text
import HandS.OwnEq
import HandS.SetFor
import HandS.SetBool
import HandS.SortInts
import HandS.More
import HandS.TupAny
import PyProof.Rows.SortShellAny
import HandS.SortKw
import KE.DatumOrd
import PyProof.InstNe
import KE.KCallOwn
import KE.KFmtOwn
import PyProof.FString
import PySem.Challenge.RW_partwares_k08_rules_alike
set_option Elab.async false
set_option linter.all false
set_option maxRecDepth 100000
namespace Pw
open PySem PySem.Spec PyProof.Rows L2
/-! ### a def of the text by its promise, its address left aside -/
structure CF (P : Program) (w : World) (K : PySem.W.Frag) (mg : Str → Option Value) (base : Heap) (k : Nat) (x : Str) (ps : List Str) (sp : Sp) : Prop where
  ex : ∃ (f : Addr) (fd : FuncData), FnOk P w K mg base CX0 k f fd ps sp ∧ mg x = some (.ref f) ∧ PySem.W.keepIn K (.ref f) = true ∧ Binds K fd ps []
theorem pe_cf {X : Cx} {k : Nat} {x : Str} {ps : List Str} {sp : Sp} {e : Expr} {es : List Expr} {t : TA} {p pos : Pos} (C : CF X.prog X.w X.K X.mg X.base k x ps sp) (hr : Room k X.A) (hg : Gl X x) (ha : PA X (e :: es) t)
    (hdb : (x == ("__debug__" : Str)) = false := by decide) (he : starEach (e :: es) X.env = (false, eval e X.env) :: starEach es X.env := by rfl) (hpl : (backTo pos (starEach es X.env)).any (·.1) = false := by rfl) :
    PE X (.Call (.Name x p) (e :: es) [] pos) (tCall sp [] E0 t) := by
  obtain ⟨f, fd, F, g, kp, b⟩ := C.ex
  exact pe_call F hr hg g kp b .nil pass0 ha hdb he hpl
theorem pe_cf0 {X : Cx} {k : Nat} {x : Str} {sp : Sp} {p pos : Pos} (C : CF X.prog X.w X.K X.mg X.base k x [] sp) (hr : Room k X.A) (hg : Gl X x) (hdb : (x == ("__debug__" : Str)) = false := by decide) : PE X (.Call (.Name x p) [] [] pos) (tCall sp [] E0 tNil) := by
  obtain ⟨f, fd, F, g, kp, b⟩ := C.ex
  exact pe_call0 F hr hg g kp b .nil pass0 hdb
/-! ### the rules with their written part named (within a comprehension it must not hang on the block) -/
section
variable (K : PySem.W.Frag) {X : Cx}
theorem kk_isi (h : X.K = K := by rfl) : CallR X (.builtin "isinstance") (rIsi K) := h ▸ call_isi
theorem kk_isiT (h : X.K = K := by rfl) : CallR X (.builtin "isinstance") (rIsiT K) := h ▸ call_isiT
theorem kk_len (h : X.K = K := by rfl) : CallR X (.builtin "len") (fun xs H Q => ∃ p ys, xs = [.ref p] ∧ (SqL K H p ys ∨ SqT K H p ys) ∧ Q (.int ys.length) H) := h ▸ call_len_seq
theorem kk_list (h : X.K = K := by rfl) : CallR X (.type "list") (fun xs H Q => ∃ p ys, xs = [.ref p] ∧ (SqL K H p ys ∨ SqT K H p ys) ∧ ∀ l, H l = none → Q (.ref l) (upd H l (.lst ys))) := h ▸ call_list_of
theorem kk_tuple (h : X.K = K := by rfl) : CallR X (.type "tuple") (fun xs H Q => ∃ p ys, xs = [.ref p] ∧ ((SqL K H p ys ∧ ∀ l, H l = none → Q (.ref l) (upd H l (.tup ys))) ∨ (SqT K H p ys ∧ Q (.ref p) H))) := h ▸ call_tuple_of
theorem kk_sum (hc : X.calm = true) (h : X.K = K := by rfl) : CallR X (.builtin "sum") (rSum K) := h ▸ cr_sum hc
theorem kk_max (hc : X.calm = true) (h : X.K = K := by rfl) : CallR X (.builtin "max") (rMax K) := h ▸ cr_max hc
theorem kk_min (hc : X.calm = true) (h : X.K = K := by rfl) : CallR X (.builtin "min") (rMin K) := h ▸ cr_min hc
theorem kk_any (hc : X.calm = true) (h : X.K = K := by rfl) : CallR X (.builtin "any") (rAny K) := h ▸ cr_any hc
theorem kk_all (hc : X.calm = true) (h : X.K = K := by rfl) : CallR X (.builtin "all") (rAll K) := h ▸ cr_all hc
theorem kk_sorted (h : X.K = K := by rfl) : CallR X (.builtin "sorted") (rSorted K) := h ▸ cr_sorted
theorem kk_ixl (h : X.K = K := by rfl) : IxR X (rIxL K) := h ▸ ix_list
theorem kk_ixt (h : X.K = K := by rfl) : IxR X (rIxT K) := h ▸ ix_tup
theorem kk_sll (h : X.K = K := by rfl) : SlR X (rSlL K) := h ▸ sl_list
theorem kk_slt (h : X.K = K := by rfl) : SlR X (rSlT K) := h ▸ sl_tup
theorem kk_in (h : X.K = K := by rfl) : OpR X (compareOp .In) (rIn K false) := h ▸ op_in_seq
theorem kk_nin (h : X.K = K := by rfl) : OpR X (compareOp .NotIn) (rIn K true) := h ▸ op_notIn_seq
theorem kk_catT (h : X.K = K := by rfl) : OpR X (binaryOp .Add) (rCatT K) := h ▸ op_catT
theorem kk_eqD (hu : X.A.units + 64 < cLine) (h : X.K = K := by rfl) : OpR X (compareOp .Eq) (rEqD K) := h ▸ op_eqD hu
theorem kk_neD (hu : X.A.units + 64 < cLine) (h : X.K = K := by rfl) : OpR X (compareOp .NotEq) (rNeD K) := h ▸ op_neD hu
theorem kk_revL {e : Expr} {te : TE} {k : Nat} {p1 p2 p3 pos : Pos} (he : PE X e te) (h : X.K = K := by rfl) : PE X (.Subscript e (.Slice none none (some (.UnaryOp .USub (.Constant (.int 1) k p1) p2)) p3) pos) (tRevL K te) := h ▸ pe_revL he
end
/-! ### heaps: all as it was, but one place -/
def But (b : Addr) (H H' : Hp) : Prop := ∀ c o, c ≠ b → H c = some o → H' c = some o
theorem But.refl (b : Addr) (H : Hp) : But b H H := fun _ _ _ h => h
theorem But.trans {b : Addr} {H H1 H2 : Hp} (x : But b H H1) (y : But b H1 H2) : But b H H2 := fun c o n h => y c o n (x c o n h)
theorem But.of {b : Addr} {H H1 : Hp} (x : Same H H1) : But b H H1 := fun c o _ h => x c o h
theorem But.upd {b : Addr} {H : Hp} {o : HO} : But b H (L2.upd H b o) := fun c u n h => by
  rw [upd_ne n]
  exact h
theorem But.new {b p : Addr} {H : Hp} {o : HO} (h : H p = none) : But b H (L2.upd H p o) := fun c u _ e => by
  rw [upd_ne (ne_of_none e h)]
  exact e
theorem same_new {H : Hp} {p : Addr} {o : HO} (h : H p = none) : Same H (upd H p o) := fun b x e => by
  rw [upd_ne (ne_of_none e h)]
  exact e
theorem But.seq {K : PySem.W.Frag} {b a : Addr} {H H' : Hp} {xs : List V} (e : But b H H') (n : a ≠ b) (h : SqL K H a xs) : SqL K H' a xs := by
  rcases h with (h | ⟨o, h⟩) | h
  · exact .inl (.inl (e _ _ n h))
  · exact .inl (.inr ⟨o, e _ _ n h⟩)
  · exact .inr h
/-! ### the law's box of three numbers -/
def Box (H : Hp) (b : Addr) (n : Int) : Prop := ∃ x y z : Int, H b = some (.lst [.int x, .int y, .int z]) ∧ 0 ≤ x ∧ 0 ≤ y ∧ y ≤ 3000000000 ∧ 0 ≤ z ∧ z ≤ n
theorem Box.mono {H : Hp} {b : Addr} {n m : Int} (h : Box H b n) (l : n ≤ m) : Box H b m := by
  obtain ⟨x, y, z, h0, h1, h2, h3, h4, h5⟩ := h
  exact ⟨x, y, z, h0, h1, h2, h3, h4, by omega⟩
theorem Box.same {H H' : Hp} {b : Addr} {n : Int} (e : Same H H') (h : Box H b n) : Box H' b n := by
  obtain ⟨x, y, z, h0, h1⟩ := h
  exact ⟨x, y, z, e _ _ h0, h1⟩
theorem Box.new {H : Hp} {b p : Addr} {o : HO} {n : Int} (h : Box H b n) (e : H p = none) : Box (upd H p o) b n := h.same (same_new e)
theorem Box.ne {H : Hp} {b p : Addr} {n : Int} (h : Box H b n) (e : H p = none) : p ≠ b := fun z => by
  obtain ⟨_, _, _, h0, _⟩ := h
  rw [z, h0] at e
  cases e
section
variable {K : PySem.W.Frag}
theorem at_int {ns : List Int} {k : Int} (h0 : 0 ≤ k) (h1 : k < ns.length) : ∃ c, atI (ns.map V.int) k = some (.int c) := by
  obtain ⟨j, rfl⟩ := Int.eq_ofNat_of_zero_le h0
  have hj : j < ns.length := by omega
  refine ⟨ns[j], atI_nat ?_⟩
  rw [List.getElem?_map, List.getElem?_eq_getElem hj]
  rfl
def partsL (p m : Int) : List Int := List.replicate (p % m).toNat (p / m + 1) ++ List.replicate (m - p % m).toNat (p / m)
theorem rep1 {α : Type} (k : Nat) (x : α) : (List.replicate k [x]).flatten = List.replicate k x := by
  induction k with
  | zero => rfl
  | succ n ih => rw [List.replicate_succ, List.flatten_cons, ih]; rfl
theorem size_small {n : Nat} (h : n ≤ 1000) : n ≤ sizeLine := Nat.le_of_lt (small1000 h)
theorem iteN {c A B : Prop} [Decidable c] (hc : ¬ c) (h : B) : if decide c = true then A else B := by
  rw [decide_eq_false hc]
  exact iteF h
theorem iteY {c A B : Prop} [Decidable c] (hc : c) (h : A) : if decide c = true then A else B := by
  rw [decide_eq_true hc]
  exact iteT h
theorem same_but {b : Addr} {H0 H1 H2 : Hp} (s : Same H0 H1) (n : H0 b = none) (t : But b H1 H2) : Same H0 H2 := fun c o h => t c o (fun e => by rw [e, n] at h; cases h) (s c o h)
theorem dpAll_ints {H : Hp} : ∀ ns : List Int, DpAll K H (ns.map V.int) (ns.map PyData.int)
  | [] => .nil
  | n :: r => .cons (.int n) (dpAll_ints r)
theorem dp_ints {H : Hp} {a : Addr} {ns : List Int} (h : SqL K H a (ns.map V.int)) : Dp K H (.ref a) (.list (ns.map PyData.int)) := .lst h (dpAll_ints ns)
theorem lay_ints : ∀ ns : List Int, PyData.canLayAll0 (ns.map PyData.int) = true
  | [] => by simp [PyData.canLayAll0]
  | n :: r => by simp [PyData.canLayAll0, PyData.canLay0, lay_ints r]
theorem depth_ints : ∀ ns : List Int, PyData.depthAll (ns.map PyData.int) ≤ 1
  | [] => by simp [PyData.depthAll]
  | n :: r => by
    have h := depth_ints r
    simp only [List.map_cons, PyData.depthAll, PyData.depth]
    omega
theorem sh_ints (ns : List Int) : SeqAt.shaped (.list (ns.map PyData.int)) = true := by
  have h1 := depth_ints ns
  have h2 : PyData.depth (.list (ns.map PyData.int)) ≤ 64 := by
    simp only [PyData.depth]
    omega
  show (PyData.canLay0 (.list (ns.map PyData.int)) && decide (PyData.depth (.list (ns.map PyData.int)) ≤ 64)) = true
  rw [Bool.and_eq_true]
  exact ⟨by simp only [PyData.canLay0]; exact lay_ints ns, decide_eq_true h2⟩
theorem eqv_same (ns : List Int) : PyData.eqv (.list (ns.map PyData.int)) (.list (ns.map PyData.int)) = true := SeqAt.eqv_refl _ (SeqAt.canLay_of_shaped (sh_ints ns))

theorem sum_rep (k : Nat) (x : Int) : (List.replicate k x).sum = k * x := by
  induction k with
  | zero => simp
  | succ n ih =>
    rw [List.replicate_succ, List.sum_cons, ih, Int.natCast_add, Int.add_mul]
    omega
theorem parts_len {p m : Int} (hm : 1 ≤ m) : ((partsL p m).length : Int) = m := by
  have hr0 := Int.emod_nonneg p (show m ≠ 0 by omega)
  have hr1 := Int.emod_lt_of_pos p (show 0 < m by omega)
  unfold partsL
  rw [List.length_append, List.length_replicate, List.length_replicate]
  omega
theorem parts_sum {p m : Int} (hm : 1 ≤ m) : (partsL p m).sum = p := by
  have hr0 := Int.emod_nonneg p (show m ≠ 0 by omega)
  have hr1 := Int.emod_lt_of_pos p (show 0 < m by omega)
  have e := Int.mul_ediv_add_emod p m
  unfold partsL
  rw [List.sum_append, sum_rep, sum_rep, Int.toNat_of_nonneg hr0, Int.toNat_of_nonneg (by omega), Int.sub_mul, Int.mul_add]
  omega
theorem parts_mem {p m x : Int} (h : x ∈ partsL p m) : x = p / m + 1 ∨ x = p / m := by
  unfold partsL at h
  rcases List.mem_append.mp h with h | h
  · exact .inl (List.eq_of_mem_replicate h)
  · exact .inr (List.eq_of_mem_replicate h)
theorem parts_fall (p m : Int) : (partsL p m).Pairwise (fun a b => b ≤ a) := by
  unfold partsL
  refine List.pairwise_append.mpr ⟨List.pairwise_replicate.mpr (.inr (Int.le_refl _)), List.pairwise_replicate.mpr (.inr (Int.le_refl _)), fun a ha b hb => ?_⟩
  rw [List.eq_of_mem_replicate ha, List.eq_of_mem_replicate hb]
  omega
theorem parts_sorted {p m : Int} {ns : List Int} (h : ns.Perm (partsL p m)) (hs : ns.Pairwise (· ≤ ·)) : ns.reverse = partsL p m := by
  refine List.Perm.eq_of_pairwise (le := fun a b => b ≤ a) (fun x y _ _ h1 h2 => Int.le_antisymm h2 h1) ?_ (parts_fall p m) ((List.reverse_perm ns).trans h)
  exact List.pairwise_reverse.mpr hs
theorem ends_of {ns : List Int} (h : 0 < ns.length) : ∃ x y, x ∈ ns ∧ y ∈ ns ∧ atI (ns.map V.int) 0 = some (.int x) ∧ atI (ns.map V.int) (-1) = some (.int y) := by
  cases ns with
  | nil => cases h
  | cons x r =>
    refine ⟨x, (x :: r).getLast (List.cons_ne_nil _ _), List.mem_cons_self, List.getLast_mem _, atI_nat (j := 0) rfl, ?_⟩
    have hz : ((x :: r).map V.int) = ((x :: r).dropLast.map V.int) ++ [.int ((x :: r).getLast (List.cons_ne_nil _ _))] := by
      rw [← List.map_singleton, ← List.map_append, List.dropLast_concat_getLast]
    rw [hz]
    exact atI_last _ _
theorem all_true (n : Nat) : (List.replicate n true).all id = true := by
  induction n with
  | zero => rfl
  | succ k ih => rw [List.replicate_succ, List.all_cons, ih]; rfl
theorem pick6 {r x : Int} (h0 : 0 ≤ r) (h1 : r < 6) (x0 : 0 ≤ x) (x1 : x ≤ 100) : ∃ c : Int, atI [V.int 0, .int 1, .int 50, .int 99, .int 100, .int x] r = some (.int c) ∧ 0 ≤ c ∧ c ≤ 100 := by
  have h : r = 0 ∨ r = 1 ∨ r = 2 ∨ r = 3 ∨ r = 4 ∨ r = 5 := by omega
  rcases h with rfl | rfl | rfl | rfl | rfl | rfl
  · exact ⟨0, rfl, by decide, by decide⟩
  · exact ⟨1, rfl, by decide, by decide⟩
  · exact ⟨50, rfl, by decide, by decide⟩
  · exact ⟨99, rfl, by decide, by decide⟩
  · exact ⟨100, rfl, by decide, by decide⟩
  · exact ⟨x, rfl, x0, x1⟩
end
end Pw
namespace Pw
open PySem PySem.Spec PyProof.Rows L2
/-! ### texts and data -/
theorem op_mul_str {X : Cx} : OpR X (binaryOp .Mult) (fun x y H Q => ∃ (z : Str) (k : Int), x = .str z ∧ y = .int k ∧ MulOk z k ∧ Q (.str (Txt.mul z k)) H) := by
  intro pins s σ H x y v u Q I rx ry h
  obtain ⟨z, k, rfl, rfl, ok, q⟩ := h
  obtain ⟨t, rfl⟩ := rx
  obtain ⟨t', rfl⟩ := ry
  exact SB.mul ok fun t' tk => ⟨.str _, H, I.tok _, ⟨_, rfl⟩, q⟩
theorem len_app (x y : Str) : (x ++ y).length = x.length + y.length := by
  rw [TL.len_tl, TL.tl_append, List.length_append, ← TL.len_tl, ← TL.len_tl]
def tyD : PyData → String
  | .none => "NoneType"
  | .bool _ => "bool"
  | .int _ => "int"
  | .str _ => "str"
  | .list _ => "list"
  | .tuple _ => "tuple"
  | .dict _ => "dict"
theorem ty_of_dp {K : PySem.W.Frag} {H : Hp} {x : V} {d : PyData} (h : Dp K H x d) : TyX K H x (.type (tyD d)) := by
  cases h with
  | non => exact .base .non
  | bl b => exact .base (.bl b)
  | int i => exact .base (.int i)
  | str z => exact .base (.str z)
  | lst a _ =>
    rcases a with (a | ⟨o, a⟩) | ⟨o, its, n, a, c, _⟩
    · exact .base (.lst a)
    · exact .base (.frz a)
    · exact .kList a c
  | tup a _ =>
    rcases a with (a | ⟨o, a⟩) | ⟨o, its, n, a, c, _⟩
    · exact .base (.tup a)
    · exact .fTuple a
    · exact .kTuple a c
theorem seqT_same {K : PySem.W.Frag} {H H' : Hp} {a : Addr} {xs : List V} (e : Same H H') (h : SqT K H a xs) : SqT K H' a xs := by
  rcases h with (h | ⟨o, h⟩) | h
  · exact .inl (.inl (e _ _ h))
  · exact .inl (.inr ⟨o, e _ _ h⟩)
  · exact .inr h
mutual
theorem dp_same {K : PySem.W.Frag} {H H' : Hp} (e : Same H H') : ∀ {x : V} {d : PyData}, Dp K H x d → Dp K H' x d
  | _, _, .non => .non
  | _, _, .bl b => .bl b
  | _, _, .int i => .int i
  | _, _, .str z => .str z
  | _, _, .lst a b => .lst (e.seq a) (dpAll_same e b)
  | _, _, .tup a b => .tup (seqT_same e a) (dpAll_same e b)
theorem dpAll_same {K : PySem.W.Frag} {H H' : Hp} (e : Same H H') : ∀ {xs : List V} {ds : List PyData}, DpAll K H xs ds → DpAll K H' xs ds
  | _, _, .nil => .nil
  | _, _, .cons a b => .cons (dp_same e a) (dpAll_same e b)
end
/-- the heap without the place b -/
def wo (b : Addr) (H : Hp) : Hp := fun c => if c = b then none else H c
theorem wo_sub (b : Addr) (H : Hp) : Same (wo b H) H := fun c o h => by
  unfold wo at h
  split at h
  · cases h
  · exact h
theorem wo_but {b : Addr} {H H' : Hp} (t : But b H H') : Same (wo b H) (wo b H') := fun c o h => by
  unfold wo at h ⊢
  split at h
  · cases h
  · rename_i n
    rw [if_neg n]
    exact t c o n h
theorem wo_same {b : Addr} {H H' : Hp} (t : Same H H') : Same (wo b H) (wo b H') := wo_but (But.of t)
theorem wo_at {b c : Addr} {H : Hp} {o : HO} (n : c ≠ b) (h : H c = some o) : wo b H c = some o := by
  unfold wo
  rw [if_neg n]
  exact h
def Asc (s : Str) : Prop := ∀ c ∈ TL.tl s, c < 128
theorem Asc.app {x y : Str} (hx : Asc x) (hy : Asc y) : Asc (x ++ y) := fun c hc => by
  rw [TL.tl_append] at hc
  rcases List.mem_append.mp hc with h | h
  · exact hx c h
  · exact hy c h
theorem Asc.cut {x : Str} {lo hi : Option Int} (hx : Asc x) : Asc (cutS x lo hi) := fun c hc => hx c (List.mem_of_mem_drop (List.mem_of_mem_take hc))
theorem Asc.one {c : Nat} (h : c < 128) : Asc ⟨#[c]⟩ := fun d hd => by
  rw [List.mem_singleton.mp (show d ∈ [c] from hd)]
  exact h
/-! ### kinds of data -/
def isT (T t : String) : Bool := decide (t = T) || (decide (T = "int") && decide (t = "bool"))
abbrev isK (T : String) (d : PyData) : Bool := isT T (tyD d)
theorem kit_t : ∀ t ∈ ["NoneType", "bool", "int", "str", "list", "tuple", "dict"], ∀ T ∈ ["int", "bool", "str", "list", "tuple"], kitB t T = some (isT T t) := by decide +kernel
theorem ty_mem (d : PyData) : tyD d ∈ ["NoneType", "bool", "int", "str", "list", "tuple", "dict"] := by
  cases d <;> simp [tyD]
theorem kit_d {K : PySem.W.Frag} {T : String} (hT : T ∈ ["int", "bool", "str", "list", "tuple"]) (d : PyData) : PySem.W.kitOne K (.type (tyD d)) (.type T) = some (isK T d) := kit_ty (kit_t _ (ty_mem d) T hT)
theorem sh_int (i : Int) : SeqAt.shaped (.int i) = true := by
  show (PyData.canLay0 (.int i) && decide (PyData.depth (.int i) ≤ 64)) = true
  simp [PyData.canLay0, PyData.depth]
theorem tuple_mul1 (l : Addr) (items : Array Value) (n : Nat) (dd : Option Addr) (sl : Array (Option Value)) (u : Tok) (hne : items.isEmpty = false) :
    Meets (Builtin.«tuple.__mul__» ⟨[.ref l, .int 1 u], []⟩) (fun _ R s => s.heap.get? l = some { cls := .type "tuple", dict := dd, data := .seq items n, slots := sl } ∧ R (.ok (.ret (Value.ref l))) s) :=
  .of_wp fun prog w A R s h => by
    obtain ⟨hp, g, d, tk, os⟩ := s
    obtain ⟨hl, h⟩ := h
    have f1 := AutoSeq1.idx_int
    wp_walk using wpAny_loadPart' hl
    exact ⟨_, rfl, h⟩
theorem op_rep1 {X : Cx} : OpR X (binaryOp .Mult) (fun x y H Q => ∃ (l : Addr) (xs : List V), x = .ref l ∧ y = .int 1 ∧ SqT X.K H l xs ∧ xs ≠ [] ∧ Q (.ref l) H) := by
  intro pins s σ H x y v u Q I rx ry h
  obtain ⟨l, xs, rfl, rfl, hT, hne, q⟩ := h
  cases rx
  obtain ⟨t, rfl⟩ := ry
  obtain ⟨its, r, ⟨⟨cls, dd, data, sl⟩, ho, hc, n, hd⟩, hs⟩ := I.tuple hT
  simp only at hc hd
  subst hc hd
  have hi : its.toArray.isEmpty = false := by
    cases its with
    | nil => exact absurd (List.eq_nil_of_length_eq_zero (r.length.trans rfl)) hne
    | cons a b => rfl
  refine wpAny_binaryOp_repeat_ref (T := "tuple") (U := "int") (by decide) ⟨_, ho, rfl⟩ (fun s' => typeIs_int s' 1 t) noFill_tuple_mul F.fills_int_mul F.slot_int_rmul repeat_tuple F.slot_int_index.lookup
    (call_meets F.slot_int_rmul (typeIs_int s 1 t) F.entry_int_rmul (F.args_int_rmul_2 _ _) (int_rmul_tuple 1 t l its.toArray n dd sl)
      ⟨ho, rfl, ⟨_, ho, rfl⟩, call_meets F.slot_tuple_mul ⟨_, ho, rfl⟩ F.entry_tuple_mul (F.args_tuple_mul_2 _ _) (tuple_mul1 l its.toArray n dd sl t hi) ⟨ho, ?_⟩⟩)
  exact ⟨.ref l, H, I, rfl, q⟩
def rRepA (K : PySem.W.Frag) : R2 := fun x y H Q => rRepT K x y H Q ∨ ∃ (l : Addr) (xs : List V), x = .ref l ∧ y = .int 1 ∧ SqT K H l xs ∧ xs ≠ [] ∧ Q (.ref l) H
theorem kk_repA (K : PySem.W.Frag) {X : Cx} (h : X.K = K := by rfl) : OpR X (binaryOp .Mult) (rRepA K) := h ▸ OpR.or op_repT op_rep1
/-! ### classes: a method, the making of an instance, by their promises -/
structure CMt (P : Program) (w : World) (K : PySem.W.Frag) (mg : Str → Option Value) (base : Heap) (C : Addr) (k : Nat) (m : Str) (ps : List Str) (dvs : List V) (sp : Sp) : Prop where
  ex : ∃ (f : Addr) (fd : FuncData) (ds : List Value), FnOk P w K mg base CX0 k f fd ps sp ∧ Meth K C m f ∧ Vals dvs ds ∧ Binds K fd ps ds
structure CMk (P : Program) (w : World) (K : PySem.W.Frag) (mg : Str → Option Value) (base : Heap) (C : Addr) (k : Nat) (x : Str) (ps : List Str) (dvs : List V) (sp : Sp) : Prop where
  ex : ∃ (f : Addr) (fd : FuncData) (ds : List Value), FnOk P w K mg base CX0 k f fd ps sp ∧ Mk K C f ∧ mg x = some (.ref C) ∧ Vals dvs ds ∧ Binds K fd ps ds
section
variable {X : Cx} {k : Nat} {C : Addr} {x m : Str} {ps : List Str} {dvs : List V} {sp : Sp} {p pos apos : Pos} {e o : Expr} {es : List Expr} {ta : TE} {t : TA}
theorem pe_mt {pl : Sem Bool} (M : CMt X.prog X.w X.K X.mg X.base C k m ps dvs sp) (c : Cls X.K C) (hr : Room k X.A) (he : PE X o ta) (ha : PA X (e :: es) t)
    (hst : starEach (e :: es) X.env = (false, eval e X.env) :: starEach es X.env := by rfl) (hpl : (backTo pos (starEach es X.env)).any (·.1) = false := by rfl)
    (ht : eval (.Call (.Attribute o m apos) (e :: es) [] pos) X.env = (do
      let ov ← eval o X.env
      standAt apos.atName
      let (f, first) ← holding [ov] (getMethod ov m pl)
      callWith pos f first (backTo pos (starEach (e :: es) X.env)) (backToKw pos (keywordEach [] X.env))) := by rfl) :
    PE X (.Call (.Attribute o m apos) (e :: es) [] pos) (tMeth C m sp dvs E0 ta t) := by
  obtain ⟨f, fd, ds, F, me, vd, b⟩ := M.ex
  exact pe_meth (pl := pl) he c me F hr b vd pass0 ha hst hpl ht
theorem pe_mt0 {pl : Sem Bool} (M : CMt X.prog X.w X.K X.mg X.base C k m ps dvs sp) (c : Cls X.K C) (hr : Room k X.A) (he : PE X o ta)
    (ht : eval (.Call (.Attribute o m apos) [] [] pos) X.env = (do
      let ov ← eval o X.env
      standAt apos.atName
      let (f, first) ← holding [ov] (getMethod ov m pl)
      callWith pos f first (backTo pos (starEach [] X.env)) (backToKw pos (keywordEach [] X.env))) := by rfl) :
    PE X (.Call (.Attribute o m apos) [] [] pos) (tMeth C m sp dvs E0 ta tNil) := by
  obtain ⟨f, fd, ds, F, me, vd, b⟩ := M.ex
  exact pe_meth0 (pl := pl) he c me F hr b vd pass0 ht
theorem pe_mkc (M : CMk X.prog X.w X.K X.mg X.base C k x ps dvs sp) (hr : Room (k + 1) X.A) (hg : Gl X x) (ha : PA X (e :: es) t)
    (hdb : (x == ("__debug__" : Str)) = false := by decide) (he : starEach (e :: es) X.env = (false, eval e X.env) :: starEach es X.env := by rfl) (hpl : (backTo pos (starEach es X.env)).any (·.1) = false := by rfl) :
    PE X (.Call (.Name x p) (e :: es) [] pos) (tMake C sp dvs E0 t) := by
  obtain ⟨f, fd, ds, F, mk, g, vd, b⟩ := M.ex
  exact pe_make mk F hr hg g b vd pass0 ha hdb he hpl
end
/-! ### o.m(e, .., k = v) -/
structure CMtK (P : Program) (w : World) (K : PySem.W.Frag) (mg : Str → Option Value) (base : Heap) (C : Addr) (k : Nat) (m : Str) (ps : List Str) (n : Nat) (ks : List Str) (gV : List V → List V → List V) (sp : Sp) : Prop where
  ex : ∃ (f : Addr) (fd : FuncData) (g : List Value → List Value → List Value), FnOk P w K mg base CX0 k f fd ps sp ∧ Meth K C m f ∧ KBn K fd ps n ks g gV
def tMethK (C : Addr) (m : Str) (n j : Nat) (sp : Sp) (gV : List V → List V → List V) (ta : TE) (t tk : TA) : TE := fun σ H Q => ta σ H fun x H1 => ∃ (a dx : Addr) (fs : List (Str × V)), x = .ref a ∧ H1 a = some (.ins C dx fs) ∧ fs.lookup m = none ∧
  t σ H1 fun vs H2 => tk σ H2 fun zs H3 => (x :: vs).length = n ∧ zs.length = j ∧ sp (gV (x :: vs) zs) H3 Q E0
theorem pe_mtK {X : Cx} {k n : Nat} {C : Addr} {m : Str} {ps ks : List Str} {sp : Sp} {gV : List V → List V → List V} {pos apos : Pos} {e o : Expr} {es : List Expr} {kws : List Keyword} {ta : TE} {t tk : TA} {pl : Sem Bool}
    (M : CMtK X.prog X.w X.K X.mg X.base C k m ps n ks gV sp) (c : Cls X.K C) (hr : Room k X.A) (he : PE X o ta) (ha : PA X (e :: es) t) (hkw : PK X kws tk)
    (hall : (backToKw pos (keywordEach kws X.env)).all (·.1.isSome) = true := by rfl) (hks : (backToKw pos (keywordEach kws X.env)).filterMap (·.1) = ks := by rfl)
    (hst : starEach (e :: es) X.env = (false, eval e X.env) :: starEach es X.env := by rfl)
    (hpl : ((backTo pos (starEach (e :: es) X.env)).any (·.1) || (backToKw pos (keywordEach kws X.env)).any (·.1.isNone)) = false := by rfl)
    (ht : eval (.Call (.Attribute o m apos) (e :: es) kws pos) X.env = (do
      let ov ← eval o X.env
      standAt apos.atName
      let (f, first) ← holding [ov] (getMethod ov m pl)
      callWith pos f first (backTo pos (starEach (e :: es) X.env)) (backToKw pos (keywordEach kws X.env))) := by rfl) :
    PE X (.Call (.Attribute o m apos) (e :: es) kws pos) (tMethK C m n ks.length sp gV ta t tk) := by
  obtain ⟨f, fd, g, F, me, b⟩ := M.ex
  constructor
  intro pins s σ H Q I h
  refine PySem.W.methodCall_KW (pl := pl) (thn (he.run pins s σ H _ I h) ?_) ht
  rintro u s1 ⟨x, H1, I1, rx, a, dx, fs, rfl, ea, l, q⟩
  cases (show u = Value.ref a from rx)
  refine getmeth_ok I1 ea c me l ?_
  refine PySem.W.callWith_KW (first := [.ref a]) (h₀ := X.base) I.ok.mod.kin me.kp hall (thn (ha.run pos pins s1 σ H1 _ I1 q) ?_) hpl hst
  rintro us s2 ⟨vs, H2, I2, r, q2⟩
  refine thn (hkw.run pos pins s2 σ H2 _ I2 q2) ?_
  rintro ws s3 ⟨zs, H3, I3, rz, l1, l2, q3⟩
  refine ⟨I3.kIn, ?_⟩
  rw [hks]
  exact run_fnN (us := .ref a :: us) (vs := .ref a :: vs) F hr b pass0 I3 (.cons rfl r) rz l1 l2 q3
theorem okD {P : Program} {w : World} {K : PySem.W.Frag} {mg : Str → Option Value} {base : Heap} {x qual : Str} {params : Arguments} {body : List Stmt} {scope : Scope} {dvs : List V} {kws : List (Str × V)} {f : Addr} {fd : FuncData} {N ps : List Str} {k : Nat} {sp : Sp}
    (F : FunD K x qual params body scope dvs kws f fd) (S : FnScope N ps scope) (len : ∀ vs H Q E, sp vs H Q E → vs.length = ps.length)
    (walk : ∀ (cdv : Value) (A : Around) (outer : List Env) (s : Shared) (H : Hp) (vs : List V) (Q : VK) (E : XK), Room k (A.deeper (envOfC qual scope s.heap.objs.size f cdv)) → sp vs H Q E →
      ∃ t, PSs (cxOf CX0 P w K mg base N qual scope f cdv A outer s H E).nox body t ∧ t { nx := fun _ H' => Q .non H', rt := Q } (start N vs) H) : FnOk P w K mg base CX0 (k + 1) f fd ps sp := by
  refine F.ok S len (fun cdv A outer s H vs Q E hr h => ?_)
  obtain ⟨t, ht, q⟩ := walk cdv A outer s H vs Q E hr h
  exact ⟨t, ht.nox, q⟩
/-! ### numbers in bounds, what is kept -/
def numIn : PyData → Int → Int → Bool
  | .int i, lo, hi => decide (lo ≤ i) && decide (i ≤ hi)
  | _, _, _ => false
def keptOk : PyData → PyData → Bool
  | .tuple ds, e => PyData.eqv (.int (ds.length : Int)) e && ds.all fun d => numIn d 0 100
  | d, _ => numIn d 0 100
def firstWrong (ws : List (Str × Bool)) : V := match ws.find? (fun p => !p.2) with
  | some p => .str p.1
  | none => .non
theorem firstWrong_at {ws : List (Str × Bool)} {i : Nat} {w : Str} (h : ∀ p ∈ ws.take i, p.2 = true) (hi : ws[i]? = some (w, false)) : firstWrong ws = .str w := by
  have hs : ws = ws.take i ++ (w, false) :: ws.drop (i + 1) := by
    obtain ⟨hl, he⟩ := List.getElem?_eq_some_iff.mp hi
    rw [← he, List.getElem_cons_drop, List.take_append_drop]
  unfold firstWrong
  rw [hs, List.find?_append, List.find?_eq_none.mpr (fun p hp => by rw [h p hp]; decide)]
  rfl
theorem firstWrong_none {ws : List (Str × Bool)} (h : ∀ p ∈ ws, p.2 = true) : firstWrong ws = .non := by
  unfold firstWrong
  rw [List.find?_eq_none.mpr (fun p hp => by rw [h p hp]; decide)]
theorem dpAll_len {K : PySem.W.Frag} {H : Hp} : ∀ {xs : List V} {ds : List PyData}, DpAll K H xs ds → xs.length = ds.length
  | _, _, .nil => rfl
  | _, _, .cons _ b => by rw [List.length_cons, List.length_cons, dpAll_len b]
theorem dpAll_get {K : PySem.W.Frag} {H : Hp} : ∀ {xs : List V} {ds : List PyData} {i : Nat} {x : V}, DpAll K H xs ds → xs[i]? = some x → ∃ d, ds[i]? = some d ∧ Dp K H x d
  | _, _, 0, _, .cons a _, h => ⟨_, rfl, by cases (Option.some.inj h); exact a⟩
  | _, _, i + 1, _, .cons _ b, h => dpAll_get (i := i) b h
  | _, _, _, _, .nil, h => by simp at h
/-! ### a block over an iterator of a known length; zip of two lists, of two tuples -/
theorem lc_gen {J : It} {n : Nat} {g : TG} {tt : TT} {te : TE} {vs : List Nat} {σ : L2.St} {H1 : Hp} {D : Addr} {Qd : Hp → Prop} (Pv : Nat → Hp → Prop) (first : Pv 0 (upd H1 D (.lst [])))
    (can : ∀ i H, Pv i H → (i < n → J.go i H) ∧ (i = n → J.stop i H))
    (turn : ∀ i H v H', i < n → Pv i H → J.yld i H v H' → g v (wipe σ vs) H' fun σ2 H2 => wipe σ2 vs = wipe σ vs ∧ tt σ2 H2 fun b H3 => if b = true then te σ2 H3 fun y H4 => ∃ acc, H4 D = some (.lst acc) ∧ acc.length < sizeLine ∧ Pv (i + 1) (upd H4 D (.lst (acc ++ [y]))) else Pv (i + 1) H3)
    (last : ∀ H, Pv n H → Qd H) :
    ∃ W : Nat → Nat → Hp → Prop, (∃ m, W 0 m (upd H1 D (.lst []))) ∧ ∀ i m H, W i m H → (J.stop i H ∧ Qd H) ∨ (J.go i H ∧ ∃ Nx : Hp → Prop, (∀ H', Nx H' → ∃ m', m' < m ∧ W (i + 1) m' H') ∧ ∀ x H', J.yld i H x H' → g x (wipe σ vs) H' fun σ2 H2 => wipe σ2 vs = wipe σ vs ∧ tt σ2 H2 fun b H3 => if b = true then te σ2 H3 fun y H4 => ∃ acc, H4 D = some (.lst acc) ∧ acc.length < sizeLine ∧ Nx (upd H4 D (.lst (acc ++ [y]))) else Nx H3) := by
  refine ⟨fun i m H => m + i = n ∧ Pv i H, ⟨n, by omega, first⟩, ?_⟩
  intro i m H hw
  obtain ⟨e, p⟩ := hw
  by_cases c : i < n
  · exact .inr ⟨(can i H p).1 c, Pv (i + 1), fun H' p' => ⟨n - (i + 1), by omega, by omega, p'⟩, fun v H' y => turn i H v H' c p y⟩
  · have z : i = n := by omega
    exact .inl ⟨(can i H p).2 z, last H (z ▸ p)⟩
section
variable {K : PySem.W.Frag} {a b : Addr} {xs ys : List V}
theorem canL {H : Hp} {i : Nat} (l : xs.length = ys.length) (x : SqL K H a xs) (y : SqL K H b ys) : (i < xs.length → (Itz K a b).go i H) ∧ (i = xs.length → (Itz K a b).stop i H) :=
  ⟨fun c => ⟨xs, ys, _, _, x, y, List.getElem?_eq_getElem c, List.getElem?_eq_getElem (l ▸ c)⟩, fun c => ⟨xs, ys, x, y, .inl (by omega)⟩⟩
theorem canT {H : Hp} {i : Nat} (l : xs.length = ys.length) (x : SqT K H a xs) (y : SqT K H b ys) : (i < xs.length → (RZ.ItzT K a b).go i H) ∧ (i = xs.length → (RZ.ItzT K a b).stop i H) :=
  ⟨fun c => ⟨xs, ys, _, _, x, y, List.getElem?_eq_getElem c, List.getElem?_eq_getElem (l ▸ c)⟩, fun c => ⟨xs, ys, x, y, .inl (by omega)⟩⟩
end
/-! ### data of short lists -/
mutual
def thin : PyData → Bool
  | .list xs => decide (xs.length ≤ 1000) && thinAll xs
  | .tuple xs => decide (xs.length ≤ 1000) && thinAll xs
  | _ => true
def thinAll : List PyData → Bool
  | [] => true
  | x :: r => thin x && thinAll r
end
theorem thin_at {d : PyData} : ∀ {ds : List PyData} {i : Nat}, thinAll ds = true → ds[i]? = some d → thin d = true
  | e :: r, 0, h, he => by
    cases he
    simp only [thinAll, Bool.and_eq_true] at h
    exact h.1
  | e :: r, i + 1, h, he => by
    simp only [thinAll, Bool.and_eq_true] at h
    exact thin_at (i := i) h.2 he
theorem depth_at {d : PyData} : ∀ {ds : List PyData} {i : Nat}, ds[i]? = some d → PyData.depth d ≤ PyData.depthAll ds
  | e :: r, 0, he => by
    cases he
    simp only [PyData.depthAll]
    omega
  | e :: r, i + 1, he => by
    have := depth_at (i := i) (ds := r) he
    simp only [PyData.depthAll]
    omega
theorem kitLT {K : PySem.W.Frag} (d : PyData) : PySem.W.kitAny K (.type (tyD d)) [.type "list", .type "tuple"] = some (isK "list" d || isK "tuple" d) := by
  unfold PySem.W.kitAny
  rw [kit_d (by decide)]
  cases isK "list" d with
  | true => rfl
  | false =>
    unfold PySem.W.kitAny
    rw [kit_d (by decide)]
    cases isK "tuple" d <;> rfl
theorem qY {c : Prop} [Decidable c] {Q : VK} {H : Hp} (hc : c) (q : Q (.bl true) H) : Q (.bl (decide c)) H := by
  rw [decide_eq_true hc]
  exact q
theorem rep_snoc (i : Nat) : (List.replicate i true).map V.bl ++ [V.bl true] = (List.replicate (i + 1) true).map V.bl := by
  rw [List.map_replicate, List.map_replicate, List.replicate_succ']
/-! ### len of an instance by its class's own def; a walk over a list or a tuple -/
theorem call_lenO {X : Cx} {C : Addr} {k : Nat} {sp : Sp} (M : CMt X.prog X.w X.K X.mg X.base C k "__len__" ["self"] [] sp) (hr : Room (k + 1) X.A) :
    CallR X (.builtin "len") (fun xs H Q => ∃ (r dx : Addr) (fs : List (Str × V)), xs = [.ref r] ∧ H r = some (.ins C dx fs) ∧ sp [.ref r] H (fun v H' => ∃ n : Int, v = .int n ∧ 0 ≤ n ∧ n < 1000000 ∧ Q (.int n) H') E0) := by
  intro pins s σ H xs us Q I rv h
  obtain ⟨r, dx, fs, rfl, ea, h⟩ := h
  obtain ⟨f, fd, ds, F, me, vd, hb⟩ := M.ex
  cases vd
  cases rv with
  | cons e rr =>
    cases rr
    cases e
    obtain ⟨mA, O, _⟩ := ins_get I.hok ea
    obtain ⟨od, J, _⟩ := O.look
    refine Calls.call_function_entry kind_len plain_len entry_len (args_len1 _) ?_
    unfold Builtin.«len»
    refine wpAny_bind (wpAny_pure ?_)
    refine wpAny_bind (PySem.W.special_fn (args := []) I.kIn J me.at_ (beq_iff_eq.mp me.fn) ?_)
    have hl : ([Value.ref r] ++ ([] : List Value)).length = (["self"] : List Str).length := rfl
    refine wpAny_call (codeAny_mono (F.run X.A.in1 X.stack s H ⟨[.ref r], []⟩ [.ref r] [.ref r] _ _ hr.in1 I.env0.in1 (hb s [.ref r] I.kIn hl) (.cons rfl .nil) h) fun x s' hq => ?_)
    cases x with
    | error e => exact pass0 pins σ H s e s' I hq
    | ok fl =>
      cases fl with
      | ret u =>
        obtain ⟨v, H', I', rv, n, rfl, n0, n1, q⟩ := I.after hq
        obtain ⟨t, rfl⟩ := rv
        refine wpAny_bind (wpAny_holding (wpAny_pure ?_))
        refine wpAny_bind (wpAny_letGo ?_)
        show wpAny _ _ (if n < 0 then _ else _) _ _ _
        rw [if_neg (by omega)]
        show wpAny _ _ (if n ≥ 2 ^ 63 then _ else _) _ _ _
        rw [if_neg (by omega)]
        exact wpAny_bind (wpAny_mkInt (wpAny_pure ⟨_, rfl, .int n, H', I'.tok _, ⟨_, rfl⟩, q⟩))
      | next => exact False.elim hq
      | brk => exact False.elim hq
      | cont => exact False.elim hq
theorem pi_or {X : Cx} {tg e : Expr} {w1 w2 : TI} (h : PI X tg e w1) (h' : PI X tg e w2) : PI X tg e (fun σ H R => w1 σ H R ∨ w2 σ H R) :=
  ⟨fun pins s σ H R I q => q.elim (h.run pins s σ H R I) (h'.run pins s σ H R I)⟩
/-! ### sets of numbers: in rising order, of a list, by a block -/
section
variable {P : Program} {w : World} {A : Around} {E : Value → Shared → Prop} {s : Shared}
theorem rise_set {a : Addr} {S : Int → Bool} {n : Nat} {Q : Value → Shared → Prop} (there : SetR w s.heap a S n) (free : A.handled = none)
    (then_ : ∀ (s' : Shared) (p : Addr) (out : Array Value) (c : Nat) (ns : List Int), (∀ b o, s.heap.get? b = some o → s'.heap.get? b = some o) → s'.gens = s.gens → s'.os = s.os → s.heap.objs.size ≤ p →
      s'.heap.get? p = some (seqObj "list" out c) → IntsAre out.toList ns → ns.Pairwise (· < ·) → (∀ k, k ∈ ns ↔ S k = true) → ns.length = n → n < scanBound → Q (.ref p) s') :
    wpAny (model P w) A (call (.builtin "sorted") [.ref a]) Q E s := by
  obtain ⟨ob, es, ep, tb, hob, hex, hdat, good, nodup, mem, small, fits, size, ris, led⟩ := there
  have big : n ≤ sizeLine := by rw [← size]; exact fits_of_scanBound small
  refine Calls.call_function_entry kind_sorted plain_sorted entry_sorted (args_sorted1 _) ?_
  unfold Builtin.«sorted»
  refine wpAny_bind (m := checkCount "sorted" 1 1 _) (wpAny_pure (wpAny_bind (collect_set (A := A.in1) free ⟨ob, hob, hex.1, hdat⟩ fits small ris led fun s1 vs k1 z1 g1 o1 pm => ?_)))
  have many : vs.length = n := by rw [pm.length_eq, List.length_map, Array.length_toList, size]
  have nums : IntsAre vs (vs.map Builtin.Re.reRawOf) := ints_of vs fun v hv => by
    obtain ⟨e, he, ev⟩ := List.mem_map.mp (pm.mem_iff.mp hv)
    obtain ⟨k, tk, ek, _⟩ := good e he
    exact ⟨k, tk, ev.symm.trans ek⟩
  have same : (vs.map Builtin.Re.reRawOf).Perm (es.toList.map keyOf) := by
    have := pm.map Builtin.Re.reRawOf
    rw [List.map_map] at this
    exact this
  refine wpAny_bind (wpAny_newList ?_ (by rw [many]; exact big))
  have laid : (s1.heap.push (seqObj "list" vs.toArray 0)).get? s1.heap.objs.size = some (seqObj "list" vs.toArray 0) := Heap.get?_push_size _ rfl
  refine wpAny_bind (wpAny_holding (wpAny_call_entry slot_list_sort ⟨_, laid, rfl⟩ entry_list_sort (list_sort_treeAny laid nums (by rw [many]; exact big) fun out ns' x1 x2 x3 => ⟨_, rfl, ?_⟩) (args_list_sort _)))
  obtain ⟨c, hc⟩ := sortedHeap_at (vs := vs) (out := out) laid
  have pn := x2.trans same
  refine wpAny_pure ⟨_, rfl, then_ _ s1.heap.objs.size out c ns' (fun b u e => ?_) g1 o1 z1 hc x1 (lt_of_le_nodup ns' x3 (pn.nodup_iff.mpr nodup)) (fun k => by rw [pn.mem_iff, mem k]) (by rw [pn.length_eq, List.length_map, Array.length_toList, size]) (by rw [← size]; exact small)⟩
  have old := k1 b u e
  have below := Heap.lt_size old
  show (sortedHeap (s1.heap.push (seqObj "list" vs.toArray 0)) s1.heap.objs.size vs out).get? b = some u
  rw [sortedHeap_old (Nat.ne_of_lt below) (by rw [size_push']; exact Nat.lt_succ_of_lt below)]
  exact Heap.get?_push_of_some _ old
end
section
variable {X : Cx}
def rSortedSN (w : World) : List V → Hp → VK → Prop := fun vs H Q => ∃ (a : Addr) (S : Int → Bool) (n : Nat), vs = [V.ref a] ∧ H a = some (SetO w a S n) ∧
  ∀ (ns : List Int) (p : Addr), ns.Pairwise (· < ·) → (∀ k : Int, k ∈ ns ↔ S k = true) → ns.length = n → H p = none → Q (.ref p) (upd H p (.lst (ns.map V.int)))
theorem cr_sortedSN (calm : X.calm = true) : CallR X (.builtin "sorted") (rSortedSN X.w) := fun pins s σ H vs us Q I r h => by
  obtain ⟨a, S, n, rfl, ha, q⟩ := h
  rw [Vals.ref1 r]
  refine rise_set (setO_get I ha) (I.ok.hd calm) fun s' p out c ns k g o hp hg hi hs hm hl hsm => ?_
  have fit : (ns.map V.int).length ≤ sizeLine := by rw [List.length_map, hl]; exact fits_of_scanBound hsm
  have new : H p = none := I.hok.fresh hp
  have J : Inv X pins σ (upd H p (.lst (ns.map V.int))) { s with heap := s'.heap, gens := s'.gens, drawn := s'.drawn, toks := s'.toks } :=
    I.call (ch := []) (Un.laid k hp new) (I.hok.laid k hp ⟨fit, out.toList, c, vals_of_ints hi, hg⟩) (by rw [g]; exact I.bare) (fun _ z => nomatch z)
  have whole : s' = { s with heap := s'.heap, gens := s'.gens, drawn := s'.drawn, toks := s'.toks } := by
    cases s'
    cases s
    cases o
    rfl
  rw [whole]
  exact ⟨.ref p, _, J, rfl, q ns p hs hm hl new⟩
/-- one number more -/
theorem add_num {pins : List (Addr × Obj)} {σ : L2.St} {H : Hp} {s : Shared} {E : Value → Shared → Prop} {D : Addr} {S : Int → Bool} {n : Nat} {y : Int} {tk : Tok} {Q : Value → Shared → Prop} (I : Inv X pins σ H s) (hD : H D = some (SetO X.w D S n)) (room : n + 1 < scanBound)
    (h : ∀ s', Inv X pins σ (upd H D (SetO X.w D (fun j => S j || decide (j = y)) (if S y = true then n else n + 1))) s' → Q .none s') : wpAny (model X.prog X.w) X.A (call (.builtin "set.add") [.ref D, .int y tk]) Q E s := by
  refine setR_add (setO_get I hD) room fun h' but new => h _ ?_
  obtain ⟨o, es, ep, tb, ho, rest⟩ := id new
  exact I.write (e := D) (t' := s.toks + 1) (by rw [hD]; trivial) (.inl rfl) (fun b u hb hu => (but.2 b hb).trans hu) ⟨o, ho⟩ (setO_new new)
/-- {elt for target in iter if ..}, elt a number; D the new set -/
def tScI (w : World) (wi : TI) (g : TG) (tt : TT) (te : TE) (vs : List Nat) : TE := fun σ H Q => wi σ H fun J G => ∀ D, G D = none → ∃ W : Nat → Nat → Hp → Prop, (∃ m, W 0 m (upd G D (SetO w D (fun _ => false) 0))) ∧ ∀ i m H, W i m H →
  (J.stop i H ∧ Q (.ref D) H) ∨ (J.go i H ∧ ∃ Nx : Hp → Prop, (∀ H', Nx H' → ∃ m', m' < m ∧ W (i + 1) m' H') ∧ ∀ x H', J.yld i H x H' → g x (wipe σ vs) H' fun σ2 H2 => wipe σ2 vs = wipe σ vs ∧ tt σ2 H2 fun b H3 =>
    if b = true then te σ2 H3 fun y H4 => ∃ (c : Int) (S : Int → Bool) (n : Nat), y = .int c ∧ H4 D = some (SetO w D S n) ∧ n + 1 < scanBound ∧ Nx (upd H4 D (SetO w D (fun j => S j || decide (j = c)) (if S c = true then n else n + 1))) else Nx H3)
abbrev emptyS (w : World) : Obj := { cls := .type "set", dict := none, data := .set #[] 0 (.fresh 0 0 (!w.params.followText "set-order")) }
theorem pe_scI {elt tg iter : Expr} {ifs : List Expr} {scope : Scope} {own : List (PySem.Str × Nat)} {pos : Pos} {wi : TI} {g : TG} {tt : TT} {te : TE} (calm : X.calm = true) (nd : X.N.Nodup) (walk : PI X tg iter wi) (ok : BlkOk X.N X.env.scope scope own)
    (hg : ∀ (s : Shared) (H : Hp) (C : Addr) (cl : List (PySem.Str × Addr)) (fp : List Addr), PG (X.blk s H scope (compEnvC scope cl C X.env) fp) tg g)
    (ht : ∀ (s : Shared) (H : Hp) (C : Addr) (cl : List (PySem.Str × Addr)) (fp : List Addr), PTs (X.blk s H scope (compEnvC scope cl C X.env) fp) ifs tt)
    (he : ∀ (s : Shared) (H : Hp) (C : Addr) (cl : List (PySem.Str × Addr)) (fp : List Addr), PE (X.blk s H scope (compEnvC scope cl C X.env) fp) elt te)
    (fold : ∀ x, foldedSetIterable iter X.env x = pure x := by intro _; rfl) :
    PE X (.SetComp elt [⟨tg, iter, ifs, 0⟩] scope pos) (tScI X.w wi g tt te (own.map (·.2))) := by
  refine ⟨fun pins s σ H Q I h => ?_⟩
  rw [PpSet.eval_SetComp]
  have captured : ∀ y ∈ scope.names, y.2 = .free → ∃ c, X.env.cells.lookup y.1 = some c := fun y hy e => (ok.free y hy e).elim (fun k => I.ok.has _ (.inl k)) (fun k => I.ok.has _ (.inr k))
  refine wpAny_comprehension_free (use := none) rfl fold (closure_ok captured) ok.kind (fun y hy e => by rw [ok.uniq y hy, e]) (thn (walk.run pins s σ H _ I h) fun xv s1 hx => thn hx fun itv s2 h2 => ?_)
  obtain ⟨it, fp, tn, J, H2, rfl, I2, T, st2, f2, q⟩ := h2
  refine PpSet.newSet_ok (newEnv_comp ?_)
  generalize atD : s2.heap.objs.size = D
  have freshD : H2 D = none := I2.hok.fresh (Nat.le_of_eq atD)
  obtain ⟨W, ⟨m0, w0⟩, turn⟩ := q D freshD
  generalize at3 : ({ s2 with heap := s2.heap.push (emptyS X.w) } : Shared) = s3
  have heap3 : s3.heap = s2.heap.push (emptyS X.w) := by rw [← at3]
  have I3 : Inv X pins σ (upd H2 D (SetO X.w D (fun _ => false) 0)) s3 := by
    rw [← at3]
    refine I2.laid (t' := s2.toks) (fun b o e => Heap.get?_push_of_some _ e) (Nat.le_of_eq atD) (setO_new ?_)
    rw [← atD]
    exact setR_fresh X.w
  have low : ∀ b ∈ fp, b < s2.heap.objs.size := fun b hb => by
    obtain ⟨o, e, _⟩ := T.obj _ _ st2 b hb
    exact Heap.lt_size e
  have f3 : ∀ b ∈ fp, FpOk X pins (upd H2 D (SetO X.w D (fun _ => false) 0)) b ∧ b < s3.heap.objs.size := fun b hb => by
    have lt := low b hb
    refine ⟨⟨?_, (f2 b hb).2⟩, by rw [heap3, Heap.size_push]; exact Nat.lt_succ_of_lt lt⟩
    rw [upd_ne (by rw [← atD]; exact Nat.ne_of_lt lt)]
    exact (f2 b hb).1
  have st3 : tn 0 s3.heap := T.keep _ _ _ st2 fun b _ o e => by rw [heap3]; exact Heap.get?_push_of_some _ e
  have I4 := block_start I3 ok nd f3
  generalize cells : cellsFrom (s3.heap.objs.size + 1) scope.names (cloFrom X.env.cells scope.names []) = cl at I4 ⊢
  have pg := hg s3 (upd H2 D (SetO X.w D (fun _ => false) 0)) s3.heap.objs.size cl fp
  have pt := ht s3 (upd H2 D (SetO X.w D (fun _ => false) 0)) s3.heap.objs.size cl fp
  have pe := he s3 (upd H2 D (SetO X.w D (fun _ => false) 0)) s3.heap.objs.size cl fp
  have none3 : ∀ b ∈ fp, (upd H2 D (SetO X.w D (fun _ => false) 0)) b = none := fun b hb => (f3 b hb).1.1
  show codeAny _ _ (.compStart (.SetComp elt [⟨tg, iter, ifs, 0⟩] scope pos) 0 (.ref it) (.ref D) (compEnvC scope cl s3.heap.objs.size X.env)) (compPost (model X.prog X.w) X.A X.xe none _ (.ref D) s3.heap.objs.size) { s3 with heap := pushCells (s3.heap.push { cls := .type "dict", data := .dict #[] }) scope.names }
  generalize inner : compEnvC scope cl s3.heap.objs.size X.env = ce at I4 pg pt pe ⊢
  have cL : ce.locals = s3.heap.objs.size := by rw [← inner]; rfl
  generalize upd H2 D (SetO X.w D (fun _ => false) 0) = H3 at I3 I4 pg pt pe w0 none3 f3
  generalize at4 : ({ s3 with heap := pushCells (s3.heap.push { cls := .type "dict", data := .dict #[] }) scope.names } : Shared) = s4 at I4 ⊢
  have st4 : tn 0 s4.heap := T.keep _ _ _ st3 fun b _ o e => by rw [← at4]; exact pushCells_keeps _ _ _ _ (Heap.get?_push_of_some _ e)
  have still : ∀ {σ' : L2.St} {H' : Hp} {s' : Shared}, Inv (X.blk s3 H3 scope ce fp) [] σ' H' s' → (∀ b ∈ fp, H' b = none) → ∀ b ∈ fp, FpOk (X.blk s3 H3 scope ce fp) [] H' b := fun {σ' H' s'} I' hn b hb =>
    ⟨hn b hb, (I'.ok.exf b hb).1, I'.ok.exfs b hb, .inl hb, fun x c e => (I'.ok.exf b hb).2 x c e, fun p hp => absurd (show p ∈ ([] : List (Addr × Obj)) ++ [] from hp) (by simp)⟩
  have loop : codeAny (model X.prog X.w) X.A (.compLoop (.SetComp elt [⟨tg, iter, ifs, 0⟩] scope pos) 0 (.ref it) (.ref D) ce) (compPost (model X.prog X.w) X.A X.xe none (fun u s' => ∃ v H', Inv X pins σ H' s' ∧ RelV v u ∧ Q v H') (.ref D) s3.heap.objs.size) s4 := by
    refine PpSet.compLoopS_any (fun n s' => ∃ i H', Inv (X.blk s3 H3 scope ce fp) [] (wipe σ (own.map (·.2))) H' s' ∧ tn i s'.heap ∧ (∀ b ∈ fp, H' b = none) ∧ W i n H') (fun n s5 now => ?_) m0 ⟨0, H3, I4, st4, none3, w0⟩
    obtain ⟨i, H5, I5, st5, n5, w5⟩ := now
    rcases turn i n H5 w5 with ⟨stop, fin⟩ | ⟨go, Nx, less, step⟩
    · refine thnF (T.done (X.blk s3 H3 scope ce fp) rfl rfl rfl calm i [] s5 _ H5 (fun _ _ => False) I5 (still I5 n5) st5 stop) fun r s6 ⟨er, I6⟩ => ?_
      subst er
      have I7 : Inv X pins σ H5 s6 := I3.call' (ch := fp) I6.os I6.base I6.hok I6.bare fun b hb => ⟨(f3 b hb).1.2.2.2.1, (f3 b hb).1.2.1, (f3 b hb).1.2.2.2.2.1, (f3 b hb).1.2.2.2.2.2⟩
      have gone : H5 s3.heap.objs.size = none := by
        have z : H5 ce.locals = none := I6.free
        rwa [cL] at z
      obtain ⟨m, hn, _⟩ := I6.loc
      have hn : s6.heap.Ns ce.locals m := hn
      rw [cL] at hn
      obtain ⟨f0, f1, f2', f3', f4, f5⟩ := I3.fpOk (Nat.le_refl _) gone
      exact ⟨m, hn, fun h'' sb => ⟨.ref D, H5, I7.turned (t' := s6.toks) (fun b o hb e => (sb.2 b hb).trans e) f0 f1 f3' f4 f5, rfl, fin⟩⟩
    · refine thnF (T.item (X.blk s3 H3 scope ce fp) rfl rfl rfl calm i [] s5 _ H5 (fun _ _ => False) I5 (still I5 n5) st5 go) fun r s6 ⟨u, er, h6⟩ => ?_
      subst er
      refine thnF h6 fun _ s7 ⟨x, H7, I7, r7, y7, st7, n7⟩ => ?_
      refine thnF (pg.run _ s7 _ H7 x u _ (I7.pinned (still I7 n7) (T.obj _ _ st7)) r7 (step x H7 y7)) fun _ s8 ⟨σ8, H8, I8, hw8, q8⟩ => ?_
      refine thnF (pt.run _ s8 σ8 H8 _ I8 q8) fun b s9 ⟨H9, I9, q9⟩ => ?_
      have close : ∀ {s' : Shared} {H' : Hp}, Inv (X.blk s3 H3 scope ce fp) ([] ++ pinsAt fp s7.heap) σ8 H' s' → Nx H' → ∃ m, m < n ∧ ∃ i H', Inv (X.blk s3 H3 scope ce fp) [] (wipe σ (own.map (·.2))) H' s' ∧ tn i s'.heap ∧ (∀ b ∈ fp, H' b = none) ∧ W i m H' := fun {s' H'} I' nx => by
        obtain ⟨m', lt, w'⟩ := less H' nx
        have pinned : ∀ b ∈ fp, ∀ o, s7.heap.get? b = some o → s'.heap.get? b = some o ∧ H' b = none := fun b hb o e =>
          let z := I'.pin (b, o) (List.mem_append_right _ (List.mem_append_right _ (mem_pinsAt hb e)))
          ⟨z.1, z.2.1⟩
        refine ⟨m', lt, i + 1, H', (I'.unpinned (pins := [])).weak (by rw [← hw8, wipe_length]) (fun j v e => ?_), T.keep _ _ _ st7 fun b hb o e => (pinned b hb o e).1, fun b hb => ?_, w'⟩
        · rw [← hw8] at e
          exact (wipe_some e).1
        · obtain ⟨o, e, _⟩ := T.obj _ _ st7 b hb
          exact (pinned b hb o e).2
      cases b with
      | false =>
        simp only [Bool.false_eq_true, if_false] at q9 ⊢
        exact close I9 q9
      | true =>
        simp only [if_true] at q9 ⊢
        refine thnF (pe.run _ s9 σ8 H9 _ I9 q9) fun z s10 ⟨yv, H10, I10, r10, c, S0, n0, ey, hD10, hz10, nx⟩ => ?_
        subst ey
        obtain ⟨tk, rfl⟩ := r10
        exact add_num (X := X.blk s3 H3 scope ce fp) I10 hD10 hz10 fun s11 I11 => close I11 nx
  exact PpSet.codeAny_compStart_set loop (T.self X.A 0 _ _ _ st4 loop)
end
/-! set(xs), xs a list of numbers -/
section
variable {P : Program} {w : World} {A : Around} {E : Value → Shared → Prop} {s : Shared}
set_option maxHeartbeats 6000000 in
theorem set_of_list {l : Addr} {items : Array Value} {ns : List Int} {Q : Value → Shared → Prop} (free : A.handled = none) (list : s.heap.IsList l items) (nums : IntsAre items.toList ns) (room : ns.length + 1 < scanBound)
    (then_ : ∀ (h' : Heap) (tk c : Nat), SetR w h' s.heap.objs.size (fun j => decide (j ∈ ns)) c → c ≤ ns.length → (∀ b o, s.heap.get? b = some o → h'.get? b = some o) → Q (.ref s.heap.objs.size) { s with heap := h', toks := tk }) :
    wpAny (model P w) A (call (.type "set") [.ref l]) Q E s := by
  have many : items.size = ns.length := by
    have := IntsAre.length nums
    rwa [Array.length_toList] at this
  obtain ⟨first, rest, mro⟩ := F.called_set.mro
  have made := F.called_set.made
  have sub := F.called_set.sub
  have notT := F.called_set.notType
  have can := F.called_set.canCreate
  have one := F.typeCall_set_1 (.ref l)
  refine wpAny_call (codeAny_of_tree ?_)
  show wpAny _ _ (callAny (.type "set") _) _ _ _
  refine wpAny_pure ⟨Code.quiet_builtin _ (by decide +kernel), codeAny_builtin F.entry_type_call ?_⟩
  rw [Around.under_plain (weight_type_call_type "set" [.ref l] []) rfl]
  repeat (any_goals (first | assumption | wp_step))
  refine codeAny_mono (code_set_led1 (.ref l) (E := E) (Q₁ := fun v s1 => v = .ref s.heap.objs.size ∧ s1 = { s with heap := s.heap.push (emptyS w) }) ⟨rfl, rfl⟩) fun r s1 hr => ?_
  match r, hr with
  | .error e, hr => exact hr
  | .ok (.ret _), ⟨e1, e2⟩ =>
    subst e1 e2
    have stands : (s.heap.push (emptyS w)).get? s.heap.objs.size = some (emptyS w) := Heap.get?_push_size _ rfl
    have typed : Shared.TypeIs { s with heap := s.heap.push (emptyS w) } (.ref s.heap.objs.size) "set" := ⟨_, stands, rfl⟩
    have look := F.called_set.init.lookup
    have bound := F.called_set.init.bind (.ref s.heap.objs.size)
    repeat (any_goals (first | assumption | wp_step))
    refine codeAny_mono (codeAny_call_builtin (R := wants (fun r s2 => r = .none ∧ ∃ h' tk c, s2 = { s with heap := h', toks := tk } ∧ SetR w h' s.heap.objs.size (fun j => decide (j ∈ ns)) c ∧ c ≤ ns.length ∧ (∀ b o, s.heap.get? b = some o → h'.get? b = some o)) E) F.called_set.init.plain F.entry_set_init (check_set_init_1 typed ?_)) fun r2 s2 hr2 => ?_
    · obtain ⟨⟨cl, dc, dt, sl⟩, at_, ecl, nl, edt⟩ := list
      simp only at ecl edt
      subst ecl edt
      have at2 : (s.heap.push (emptyS w)).get? l = some { cls := .type "list", dict := dc, data := .seq items nl, slots := sl } := Heap.get?_push_of_some _ at_
      have n1 := F.sub_list_set
      have n2 := F.sub_list_frozenset
      have n3 : (Value.type "list" == Value.type "dict") = false := by decide
      have list2 : (s.heap.push (emptyS w)).IsList l items := ⟨_, at2, rfl, nl, rfl⟩
      unfold Builtin.«set.__init__» noKeywords Builtin.Frozenset.updateFrom
      generalize iterAs : pyIter = PI
      wp_walk
      subst iterAs
      refine wpAny_pyIter_list list2 (wpAny_bind (wpAny_runValue ?_))
      have ll : l < s.heap.objs.size := Heap.lt_size at_
      have sz : (s.heap.push (emptyS w)).objs.size = s.heap.objs.size + 1 := Heap.size_push ..
      have free3 : A.in1.in1.in1.handled = none := by simp [free]
      have unlike : l ≠ (s.heap.push (emptyS w)).objs.size := by rw [sz]; exact Nat.ne_of_lt (Nat.lt_succ_of_lt ll)
      have out : s.heap.objs.size ∉ [(s.heap.push (emptyS w)).objs.size, l] := by
        rw [sz]
        simp only [List.mem_cons, List.mem_singleton, List.not_mem_nil, or_false, not_or]
        exact ⟨Nat.ne_of_lt (Nat.lt_succ_self _), Nat.ne_of_gt ll⟩
      have vals : ∀ (i : Nat) (v : Value), items[i]? = some v → ∃ k t, ns[i]? = some k ∧ v = .int k t := fun i v hv => by
        have hi : i < ns.length := by rw [← many]; exact (Array.getElem?_eq_some_iff.mp hv).1
        obtain ⟨t, e⟩ := PyProof.Rows.IntsAre.int_at nums i v (by rw [Array.getElem?_toList]; exact hv)
        exact ⟨ns[i], t, List.getElem?_eq_getElem hi, by rw [e, List.getD_eq_getElem?_getD, List.getElem?_eq_getElem hi] <;> rfl⟩
      refine set_update_ints ((Walks.list free3 _ l unlike items).toS) s.heap.objs.size out ns many room vals (items.size - 0) 0 _ (by omega) (Nat.zero_le _) ⟨⟨_, Heap.get?_push_size _ rfl, rfl, rfl⟩, (list2.push _)⟩ ⟨0, Nat.le_refl 0, setR_new_at (Heap.get?_push_of_some _ stands)⟩ fun s' c' mv hc' hS' => ?_
      obtain ⟨h', g2, d', tk', os'⟩ := s'
      have eg : g2 = s.gens := mv.gens
      have ed : d' = s.drawn := mv.drawn
      have eo : os' = s.os := mv.os
      subst eg ed eo
      show wpAny _ _ _ _ _ _
      refine wpAny_pure ?_
      show wpAny _ _ (ret Value.none) _ _ _
      rw [many] at hc'
      refine wpAny_pure ⟨rfl, h', tk', c', rfl, hS', hc', fun b o e => ?_⟩
      have below : b < s.heap.objs.size := Heap.lt_size e
      refine mv.heap b o ?_ (Heap.get?_push_of_some _ (Heap.get?_push_of_some _ e))
      simp only [List.mem_cons, List.mem_singleton, List.not_mem_nil, or_false, not_or]
      exact ⟨Nat.ne_of_lt below, by rw [sz]; exact Nat.ne_of_lt (Nat.lt_succ_of_lt below)⟩
    · match r2, hr2 with
      | .error e, hr2 => exact hr2
      | .ok (.ret _), ⟨e1, h', tk, c', e2, hS', hc', hk'⟩ =>
        subst e1 e2
        repeat (any_goals (first | assumption | wp_step))
        exact then_ _ _ _ hS' hc' hk'
end
section
variable {X : Cx}
def rSetI (K : PySem.W.Frag) (w : World) : List V → Hp → VK → Prop := fun xs H Q => ∃ (l : Addr) (ns : List Int), xs = [.ref l] ∧ SqL K H l (ns.map V.int) ∧ ns.length < 4000 ∧ ∀ p c, H p = none → c ≤ ns.length → Q (.ref p) (upd H p (SetO w p (fun j => decide (j ∈ ns)) c))
theorem cr_setI (calm : X.calm = true) : CallR X (.type "set") (rSetI X.K X.w) := fun pins s σ H xs us Q I r h => by
  obtain ⟨l, ns, rfl, hs, small, q⟩ := h
  rw [Vals.ref1 r]
  obtain ⟨its, rv, hl, _⟩ := I.list hs
  refine set_of_list (I.ok.hd calm) hl.isList (ints_of_vals rv) (by unfold scanBound; omega) fun h' tk c new hc keep => ?_
  exact ⟨.ref _, upd H s.heap.objs.size (SetO X.w s.heap.objs.size (fun j => decide (j ∈ ns)) c), I.laid (t' := tk) keep (Nat.le_refl _) (setO_new new), rfl, q _ c (I.hok.fresh (Nat.le_refl _)) hc⟩
theorem kk_sortedSN (w : World) (calm : X.calm = true) (h : X.w = w := by rfl) : CallR X (.builtin "sorted") (rSortedSN w) := h ▸ cr_sortedSN calm
theorem kk_setI (K : PySem.W.Frag) (w : World) (calm : X.calm = true) (h1 : X.K = K := by rfl) (h2 : X.w = w := by rfl) : CallR X (.type "set") (rSetI K w) := by
  subst h1 h2
  exact cr_setI calm
end
/-! ### lists of tuples: the addresses beside what stands there -/
abbrev refs {α : Type} (L : List (Addr × α)) : List V := L.map fun q => V.ref q.1
def RowsAt {α : Type} (f : α → List V) (H : Hp) (L : List (Addr × α)) : Prop := ∀ q ∈ L, H q.1 = some (.tup (f q.2))
section
variable {α : Type} {f : α → List V} {H H' : Hp} {L M : List (Addr × α)} {K : PySem.W.Frag}
theorem RowsAt.same (h : RowsAt f H L) (e : Same H H') : RowsAt f H' L := fun q hq => e _ _ (h q hq)
theorem RowsAt.sub (h : RowsAt f H L) (e : ∀ q ∈ M, q ∈ L) : RowsAt f H M := fun q hq => h q (e q hq)
theorem RowsAt.but {b : Addr} {xs : List V} (h : RowsAt f H L) (hb : H b = some (.lst xs)) (t : But b H H') : RowsAt f H' L := fun q hq => t _ _ (ne_of (h q hq) hb (by intro z; cases z)) (h q hq)
theorem RowsAt.updL {D : Addr} {xs : List V} {o : HO} (h : RowsAt f H L) (hD : H D = some (.lst xs)) : RowsAt f (upd H D o) L := fun q hq => by
  rw [upd_ne (ne_of (h q hq) hD (by intro z; cases z))]
  exact h q hq
theorem RowsAt.snoc {q : Addr × α} (h : RowsAt f H L) (hq : H q.1 = some (.tup (f q.2))) : RowsAt f H (L ++ [q]) := fun x hx => by
  rcases List.mem_append.mp hx with y | y
  · exact h x y
  · rw [List.mem_singleton.mp y]
    exact hq
theorem RowsAt.nil : RowsAt f H ([] : List (Addr × α)) := fun _ h => (nomatch h)
theorem refs_at {i : Nat} {x : V} (h : (refs L)[i]? = some x) : ∃ q, L[i]? = some q ∧ x = .ref q.1 ∧ q ∈ L := by
  rw [List.getElem?_map] at h
  obtain ⟨q, hq, rfl⟩ := Option.map_eq_some_iff.mp h
  exact ⟨q, hq, rfl, List.mem_of_getElem? hq⟩
end
theorem refs_snoc {α : Type} (S : List (Addr × α)) (q : Addr × α) : refs (S ++ [q]) = refs S ++ [V.ref q.1] := by
  unfold refs
  rw [List.map_append]
  rfl
/-! what walks a list or a tuple that stands still -/
def JOk (H : Hp) (J : It) (xs : List V) : Prop := ∀ i G, Same H G → (i < xs.length → J.go i G) ∧ (i = xs.length → J.stop i G) ∧ ∀ x G', J.yld i G x G' → G' = G ∧ xs[i]? = some x
section
variable {K : PySem.W.Frag} {H : Hp} {a : Addr} {xs : List V}
theorem jok_l (h : SqL K H a xs) : JOk H (Itl K a) xs := fun i G s => by
  have q := s.seq h
  exact ⟨fun c => ⟨xs, _, q, List.getElem?_eq_getElem c⟩, fun c => ⟨xs, q, by omega⟩, fun x G' y => ⟨y.1, y.2 xs q⟩⟩
theorem jok_t (h : SqT K H a xs) : JOk H (Itt K a) xs := fun i G s => by
  have q := seqT_same s h
  exact ⟨fun c => ⟨xs, _, q, List.getElem?_eq_getElem c⟩, fun c => ⟨xs, q, by omega⟩, fun x G' y => ⟨y.1, y.2 xs q⟩⟩
theorem walk_or {σ : L2.St} {j : Nat} {R : It → Hp → Prop} (hv : σ[j]? = some (some (.ref a))) (hS : SqL K H a xs ∨ SqT K H a xs) (h : ∀ J, JOk H J xs → R J H) : iList K (tVar j) σ H R ∨ iTup K (tVar j) σ H R := by
  rcases hS with hS | hS
  · exact .inl ⟨_, hv, a, rfl, ⟨_, hS⟩, h _ (jok_l hS)⟩
  · exact .inr ⟨_, hv, a, rfl, ⟨_, hS⟩, h _ (jok_t hS)⟩
theorem walk_l {σ : L2.St} {j : Nat} {R : It → Hp → Prop} (hv : σ[j]? = some (some (.ref a))) (hS : SqL K H a xs) (h : ∀ J, JOk H J xs → R J H) : iList K (tVar j) σ H R := ⟨_, hv, a, rfl, ⟨_, hS⟩, h _ (jok_l hS)⟩
end
section
variable {α : Type} {f : α → List V} {H : Hp} {L : List (Addr × α)} {J : It} {g : TG} {tt : TT} {te : TE} {vs : List Nat} {σ : L2.St} {D : Addr} {Qd : Hp → Prop}
theorem take_snoc {β : Type} {l : List β} {i : Nat} {x : β} (h : l[i]? = some x) : l.take (i + 1) = l.take i ++ [x] := by
  rw [List.take_add_one, h]
  rfl
theorem filt_snoc {β : Type} {p : β → Bool} {l : List β} {x : β} : (l ++ [x]).filter p = l.filter p ++ (if p x = true then [x] else []) := by
  rw [List.filter_append, List.filter_cons]
  rfl
/-- a block over rows that takes some thing of some rows -/
theorem rows_lc (p : α → Bool) (el : Addr × α → V) (ok : JOk H J (refs L)) (hR : RowsAt f H L) (small : L.length ≤ 1000) (hD : H D = none)
    (turn : ∀ q ∈ L, ∀ G, Same H G → G q.1 = some (.tup (f q.2)) → ∀ (Y : VK) (N : Hp → Prop), (p q.2 = true → Y (el q) G) → (p q.2 = false → N G) → g (.ref q.1) (wipe σ vs) G fun σ2 H2 => wipe σ2 vs = wipe σ vs ∧ tt σ2 H2 fun b H3 => if b = true then te σ2 H3 Y else N H3)
    (last : ∀ G, Same H G → G D = some (.lst ((L.filter fun q => p q.2).map el)) → Qd G) :
    ∃ W : Nat → Nat → Hp → Prop, (∃ m, W 0 m (upd H D (.lst []))) ∧ ∀ i m H, W i m H → (J.stop i H ∧ Qd H) ∨ (J.go i H ∧ ∃ Nx : Hp → Prop, (∀ H', Nx H' → ∃ m', m' < m ∧ W (i + 1) m' H') ∧ ∀ x H', J.yld i H x H' → g x (wipe σ vs) H' fun σ2 H2 => wipe σ2 vs = wipe σ vs ∧ tt σ2 H2 fun b H3 =>
      if b = true then te σ2 H3 fun y H4 => ∃ acc, H4 D = some (.lst acc) ∧ acc.length < sizeLine ∧ Nx (upd H4 D (.lst (acc ++ [y]))) else Nx H3) := by
  have ln : (refs L).length = L.length := List.length_map ..
  refine lc_gen (n := L.length) (fun i G => Same H G ∧ G D = some (.lst (((L.take i).filter fun q => p q.2).map el))) ⟨same_new hD, upd_same⟩ (fun i G h => ?_) (fun i G v G' hi h y => ?_) (fun G h => ?_)
  · have := ok i G h.1
    rw [ln] at this
    exact ⟨this.1, this.2.1⟩
  · obtain ⟨rfl, hx⟩ := (ok i G h.1).2.2 v G' y
    obtain ⟨q, hq, rfl, hm⟩ := refs_at hx
    have le : (((L.take i).filter fun q => p q.2).map el).length ≤ i := by
      rw [List.length_map]
      exact Nat.le_trans (List.length_filter_le _ _) (by rw [List.length_take]; omega)
    refine turn q hm G' h.1 (h.1 _ _ (hR q hm)) _ _ (fun hp => ⟨_, h.2, Nat.lt_of_le_of_lt le (small1000 (by omega)), fun c o e => ?_, ?_⟩) (fun hp => ⟨h.1, ?_⟩)
    · rw [upd_ne (ne_of_none e hD)]
      exact h.1 _ _ e
    · rw [upd_same, take_snoc hq, filt_snoc, if_pos hp, List.map_append]
      rfl
    · rw [h.2, take_snoc hq, filt_snoc, if_neg (by rw [hp]; decide), List.append_nil]
  · obtain ⟨s, e⟩ := h
    rw [List.take_of_length_le (Nat.le_refl _)] at e
    exact last G s e
/-- a block over rows that makes a new tuple of some rows -/
theorem rows_lcA {β : Type} {f2 : β → List V} (p : α → Bool) (el : α → β) (ok : JOk H J (refs L)) (hR : RowsAt f H L) (small : L.length ≤ 1000) (hD : H D = none)
    (turn : ∀ q ∈ L, ∀ G, Same H G → G q.1 = some (.tup (f q.2)) → ∀ (Y : VK) (N : Hp → Prop), (p q.2 = true → ∀ t, G t = none → Y (.ref t) (upd G t (.tup (f2 (el q.2))))) → (p q.2 = false → N G) → g (.ref q.1) (wipe σ vs) G fun σ2 H2 => wipe σ2 vs = wipe σ vs ∧ tt σ2 H2 fun b H3 => if b = true then te σ2 H3 Y else N H3)
    (last : ∀ G (S : List (Addr × β)), Same H G → G D = some (.lst (refs S)) → RowsAt f2 G S → S.map (·.2) = ((L.map (·.2)).filter p).map el → Qd G) :
    ∃ W : Nat → Nat → Hp → Prop, (∃ m, W 0 m (upd H D (.lst []))) ∧ ∀ i m H, W i m H → (J.stop i H ∧ Qd H) ∨ (J.go i H ∧ ∃ Nx : Hp → Prop, (∀ H', Nx H' → ∃ m', m' < m ∧ W (i + 1) m' H') ∧ ∀ x H', J.yld i H x H' → g x (wipe σ vs) H' fun σ2 H2 => wipe σ2 vs = wipe σ vs ∧ tt σ2 H2 fun b H3 =>
      if b = true then te σ2 H3 fun y H4 => ∃ acc, H4 D = some (.lst acc) ∧ acc.length < sizeLine ∧ Nx (upd H4 D (.lst (acc ++ [y]))) else Nx H3) := by
  have ln : (refs L).length = L.length := List.length_map ..
  refine lc_gen (n := L.length) (fun i G => Same H G ∧ ∃ S : List (Addr × β), G D = some (.lst (refs S)) ∧ RowsAt f2 G S ∧ S.map (·.2) = (((L.take i).map (·.2)).filter p).map el) ⟨same_new hD, [], upd_same, .nil, rfl⟩ (fun i G h => ?_) (fun i G v G' hi h y => ?_) (fun G h => ?_)
  · have := ok i G h.1
    rw [ln] at this
    exact ⟨this.1, this.2.1⟩
  · obtain ⟨s, S, e, hS, hm⟩ := h
    obtain ⟨rfl, hx⟩ := (ok i G s).2.2 v G' y
    obtain ⟨q, hq, rfl, hmem⟩ := refs_at hx
    have le : (refs S).length ≤ i := by
      rw [List.length_map, ← List.length_map (f := (·.2)) (as := S), hm, List.length_map]
      exact Nat.le_trans (List.length_filter_le _ _) (by rw [List.length_map, List.length_take]; omega)
    have e1 : ((L.take (i + 1)).map (·.2)) = (L.take i).map (·.2) ++ [q.2] := by
      rw [take_snoc hq, List.map_append]
      rfl
    refine turn q hmem G' s (s _ _ (hR q hmem)) _ _ (fun hp t ht => ⟨_, same_new ht _ _ e, Nat.lt_of_le_of_lt le (small1000 (by omega)), fun c o ec => ?_, S ++ [(t, el q.2)], ?_, ?_, ?_⟩) (fun hp => ⟨s, S, e, hS, ?_⟩)
    · rw [upd_ne (ne_of_none ec hD)]
      exact same_new ht _ _ (s _ _ ec)
    · rw [upd_same, refs_snoc]
    · refine ((hS.same (same_new ht)).updL (same_new ht _ _ e)).snoc ?_
      show (upd (upd G' t _) D _) t = _
      rw [upd_ne (fun z => by rw [z, e] at ht; cases ht), upd_same]
    · rw [List.map_append, hm, e1, filt_snoc, if_pos hp, List.map_append]
      rfl
    · rw [hm, e1, filt_snoc, if_neg (by rw [hp]; decide), List.append_nil]
  · obtain ⟨s, S, e, hS, hm⟩ := h
    rw [List.take_of_length_le (Nat.le_refl _)] at hm
    exact last G S s e hS hm
end
section
variable {α : Type} {f : α → List V} {H : Hp} {L : List (Addr × α)} {J : It} {g : TG} {tt : TT} {te : TE} {vs : List Nat} {σ : L2.St} {D : Addr} {Qd : Hp → Prop}
/-- a set by a block over rows -/
theorem rows_sc {w : World} (key : α → Int) (ok : JOk H J (refs L)) (hR : RowsAt f H L) (small : L.length ≤ 1000) (hD : H D = none)
    (turn : ∀ q ∈ L, ∀ G, Same H G → G q.1 = some (.tup (f q.2)) → ∀ (Y : VK) (N : Hp → Prop), Y (.int (key q.2)) G → g (.ref q.1) (wipe σ vs) G fun σ2 H2 => wipe σ2 vs = wipe σ vs ∧ tt σ2 H2 fun b H3 => if b = true then te σ2 H3 Y else N H3)
    (last : ∀ G n, Same H G → n ≤ L.length → G D = some (SetO w D (fun k => decide (k ∈ L.map fun q => key q.2)) n) → Qd G) :
    ∃ W : Nat → Nat → Hp → Prop, (∃ m, W 0 m (upd H D (SetO w D (fun _ => false) 0))) ∧ ∀ i m H, W i m H → (J.stop i H ∧ Qd H) ∨ (J.go i H ∧ ∃ Nx : Hp → Prop, (∀ H', Nx H' → ∃ m', m' < m ∧ W (i + 1) m' H') ∧ ∀ x H', J.yld i H x H' → g x (wipe σ vs) H' fun σ2 H2 => wipe σ2 vs = wipe σ vs ∧ tt σ2 H2 fun b H3 =>
      if b = true then te σ2 H3 fun y H4 => ∃ (c : Int) (S : Int → Bool) (n : Nat), y = .int c ∧ H4 D = some (SetO w D S n) ∧ n + 1 < scanBound ∧ Nx (upd H4 D (SetO w D (fun j => S j || decide (j = c)) (if S c = true then n else n + 1))) else Nx H3) := by
  have ln : (refs L).length = L.length := List.length_map ..
  refine ⟨fun i m G => m + i = L.length ∧ Same H G ∧ ∃ n, n ≤ i ∧ G D = some (SetO w D (fun k => decide (k ∈ (L.take i).map fun q => key q.2)) n), ⟨L.length, by omega, same_new hD, 0, Nat.le_refl _, ?_⟩, fun i m G now => ?_⟩
  · rw [upd_same]
    congr 2
  · obtain ⟨em, s, n, le, e⟩ := now
    obtain ⟨c1, c2, c3⟩ := ok i G s
    rw [ln] at c1 c2
    by_cases c : i < L.length
    · refine .inr ⟨c1 c, fun G' => Same H G' ∧ ∃ n, n ≤ i + 1 ∧ G' D = some (SetO w D (fun k => decide (k ∈ (L.take (i + 1)).map fun q => key q.2)) n), fun G' z => ⟨m - 1, by omega, by omega, z.1, z.2⟩, fun x G' y => ?_⟩
      obtain ⟨rfl, hx⟩ := c3 x G' y
      obtain ⟨q, hq, rfl, hmem⟩ := refs_at hx
      refine turn q hmem G' s (s _ _ (hR q hmem)) _ _ ⟨_, _, _, rfl, e, by unfold scanBound; omega, fun c o ec => ?_, (if decide (key q.2 ∈ (L.take i).map fun q => key q.2) = true then n else n + 1), ?_, ?_⟩
      · rw [upd_ne (ne_of_none ec hD)]
        exact s _ _ ec
      · split <;> omega
      · rw [upd_same]
        congr 2
        funext k
        rw [take_snoc hq, List.map_append, List.map_singleton]
        by_cases z : k = key q.2
        · simp [z]
        · simp [z]
    · have z : i = L.length := by omega
      rw [z, List.take_of_length_le (Nat.le_refl _)] at e
      exact .inl ⟨c2 z, last G n s (by omega) e⟩
end
/-! ### len(set(t)), t a tuple of numbers -/
section
variable {X : Cx}
theorem one_iff {l : List Int} (nd : l.Nodup) : l.length = 1 ↔ ∃ k, ∀ j, j ∈ l ↔ j = k := by
  constructor
  · intro h
    match l, h with
    | [k], _ => exact ⟨k, fun j => by simp⟩
  · rintro ⟨k, h⟩
    match l, nd, h with
    | [], _, h => exact absurd ((h k).mpr rfl) (by simp)
    | [_], _, _ => rfl
    | a :: b :: r, nd, h =>
      have e1 := (h a).mp (by simp)
      have e2 := (h b).mp (by simp)
      rw [List.nodup_cons] at nd
      exact absurd (show a ∈ b :: r by rw [e1, e2]; exact List.mem_cons_self) nd.1
def tLenSetT (K : PySem.W.Frag) (ta : TE) : TE := fun σ H Q => ta σ H fun x H1 => ∃ (l : Addr) (ns : List Int), x = .ref l ∧ SqT K H1 l (ns.map V.int) ∧ ns.length < 4000 ∧ ∀ c : Nat, (c = 1 ↔ ∃ k, ∀ j, j ∈ ns ↔ j = k) → Q (.int c) H1
theorem pe_lenSetT {a : Expr} {ta : TE} {p p2 q pos : Pos} (hg : Gl X "len") (hm : X.mg "len" = none) (hg2 : Gl X "set") (hm2 : X.mg "set" = none) (ha : PE X a ta) (hc : X.calm = true := by rfl)
    (na : starEach [a] X.env = (false, eval a X.env) :: starEach [] X.env := by rfl) : PE X (.Call (.Name "len" p) [.Call (.Name "set" p2) [a] [] q] [] pos) (tLenSetT X.K ta) := by
  refine ⟨fun pins s σ H Q I h => ?_⟩
  refine Call_ (ld_blt I hg hm boot_len ?_)
  refine PyProof.Rows.callWith_builtin1 (PyProof.Rows.args_cons ?_ rfl) rfl rfl
  refine Call_ (ld_blt I hg2 hm2 boot_set ?_)
  refine PyProof.Rows.callWith_type1 (PyProof.Rows.args_cons (thn (ha.run pins s σ H _ I h) fun v s1 ⟨x, H1, I1, r1, q1⟩ => PyProof.Rows.args_nil ?_) na) na rfl
  obtain ⟨l, ns, rfl, hq, hl, q1⟩ := q1
  cases r1
  obtain ⟨its, r, pl, hz⟩ := I1.tuple hq
  refine call_set_tupI ns (I1.ok.hd hc) pl (by simpa using intsAre_of r) (by unfold scanBound; omega) fun h' tk c hS hcn hk => ?_
  refine PyProof.Rows.args_nil ?_
  obtain ⟨o, es, ep, t, ho, hex, hd, _, nd, hmem, _, hf, hn, _⟩ := hS
  have I2 : Inv X pins σ H1 { s1 with heap := h', toks := tk } := I1.kept fun b o e => hk b o e
  have e1 := one_iff nd
  rw [List.length_map, Array.length_toList, hn] at e1
  refine call_len_set ho hex hd hf (by rw [hn]; omega) ⟨.int c, H1, I2.tok _, ⟨_, by rw [hn]⟩, q1 c (e1.trans ?_)⟩
  constructor
  · rintro ⟨k, hk⟩
    exact ⟨k, fun j => by rw [← hk j, ← hmem j, decide_eq_true_eq]⟩
  · rintro ⟨k, hk⟩
    exact ⟨k, fun j => by rw [← hk j, ← hmem j, decide_eq_true_eq]⟩
end
section
variable {H : Hp} {xs : List V} {J : It} {g : TG} {tt : TT} {te : TE} {vs : List Nat} {σ : L2.St} {D : Addr} {Qd : Hp → Prop}
/-- a block over the items of a list or a tuple, one item made of each -/
theorem vals_lc (el : V → V) (ok : JOk H J xs) (small : xs.length ≤ 1000) (hD : H D = none)
    (turn : ∀ x ∈ xs, ∀ G, Same H G → ∀ (Y : VK) (N : Hp → Prop), (∀ G', Same G G' → Y (el x) G') → g x (wipe σ vs) G fun σ2 H2 => wipe σ2 vs = wipe σ vs ∧ tt σ2 H2 fun b H3 => if b = true then te σ2 H3 Y else N H3)
    (last : ∀ G, Same H G → G D = some (.lst (xs.map el)) → Qd G) :
    ∃ W : Nat → Nat → Hp → Prop, (∃ m, W 0 m (upd H D (.lst []))) ∧ ∀ i m H, W i m H → (J.stop i H ∧ Qd H) ∨ (J.go i H ∧ ∃ Nx : Hp → Prop, (∀ H', Nx H' → ∃ m', m' < m ∧ W (i + 1) m' H') ∧ ∀ x H', J.yld i H x H' → g x (wipe σ vs) H' fun σ2 H2 => wipe σ2 vs = wipe σ vs ∧ tt σ2 H2 fun b H3 =>
      if b = true then te σ2 H3 fun y H4 => ∃ acc, H4 D = some (.lst acc) ∧ acc.length < sizeLine ∧ Nx (upd H4 D (.lst (acc ++ [y]))) else Nx H3) := by
  refine lc_gen (n := xs.length) (fun i G => Same H G ∧ G D = some (.lst ((xs.take i).map el))) ⟨same_new hD, upd_same⟩ (fun i G h => ⟨(ok i G h.1).1, (ok i G h.1).2.1⟩) (fun i G v G' hi h y => ?_) (fun G h => ?_)
  · obtain ⟨rfl, hx⟩ := (ok i G h.1).2.2 v G' y
    refine turn v (List.mem_of_getElem? hx) G' h.1 _ _ fun G2 s2 => ⟨_, s2 _ _ h.2, ?_, fun c o e => ?_, ?_⟩
    · rw [List.length_map, List.length_take]
      exact small1000 (by omega)
    · rw [upd_ne (ne_of_none e hD)]
      exact s2 _ _ (h.1 _ _ e)
    · rw [upd_same, take_snoc hx, List.map_append]
      rfl
  · obtain ⟨s, e⟩ := h
    rw [List.take_of_length_le (Nat.le_refl _)] at e
    exact last G s e
/-- a block over the items of a list or a tuple, those that pass kept -/
theorem pass_lc (p : V → Bool) (ok : JOk H J xs) (small : xs.length ≤ 1000) (hD : H D = none)
    (turn : ∀ x ∈ xs, ∀ G, Same H G → ∀ (Y : VK) (N : Hp → Prop), (p x = true → ∀ G', Same G G' → Y x G') → (p x = false → ∀ G', Same G G' → N G') → g x (wipe σ vs) G fun σ2 H2 => wipe σ2 vs = wipe σ vs ∧ tt σ2 H2 fun b H3 => if b = true then te σ2 H3 Y else N H3)
    (last : ∀ G, Same H G → G D = some (.lst (xs.filter p)) → Qd G) :
    ∃ W : Nat → Nat → Hp → Prop, (∃ m, W 0 m (upd H D (.lst []))) ∧ ∀ i m H, W i m H → (J.stop i H ∧ Qd H) ∨ (J.go i H ∧ ∃ Nx : Hp → Prop, (∀ H', Nx H' → ∃ m', m' < m ∧ W (i + 1) m' H') ∧ ∀ x H', J.yld i H x H' → g x (wipe σ vs) H' fun σ2 H2 => wipe σ2 vs = wipe σ vs ∧ tt σ2 H2 fun b H3 =>
      if b = true then te σ2 H3 fun y H4 => ∃ acc, H4 D = some (.lst acc) ∧ acc.length < sizeLine ∧ Nx (upd H4 D (.lst (acc ++ [y]))) else Nx H3) := by
  refine lc_gen (n := xs.length) (fun i G => Same H G ∧ G D = some (.lst ((xs.take i).filter p))) ⟨same_new hD, upd_same⟩ (fun i G h => ⟨(ok i G h.1).1, (ok i G h.1).2.1⟩) (fun i G v G' hi h y => ?_) (fun G h => ?_)
  · obtain ⟨rfl, hx⟩ := (ok i G h.1).2.2 v G' y
    have el : xs.take (i + 1) = xs.take i ++ [v] := take_snoc hx
    refine turn v (List.mem_of_getElem? hx) G' h.1 _ _ (fun hp G2 s2 => ⟨_, s2 _ _ h.2, ?_, fun c o e => ?_, ?_⟩) (fun hp G2 s2 => ⟨h.1.trans s2, ?_⟩)
    · have := List.length_filter_le p (xs.take i)
      rw [List.length_take] at this
      exact small1000 (by omega)
    · rw [upd_ne (ne_of_none e hD)]
      exact s2 _ _ (h.1 _ _ e)
    · rw [upd_same, el, List.filter_append, List.filter_cons_of_pos hp]
      rfl
    · rw [s2 _ _ h.2, el, List.filter_append, List.filter_cons_of_neg (by rw [hp]; decide)]
      simp
  · obtain ⟨s, e⟩ := h
    rw [List.take_of_length_le (Nat.le_refl _)] at e
    exact last G s e
end
/-! ### len(set(xs)), xs a list of texts -/
def Cnt {α : Type} (l : List α) (c : Nat) : Prop := (c = 0 ↔ l = []) ∧ (c = 1 ↔ ∃ k, ∀ j, j ∈ l ↔ j = k)
theorem cnt_nil {α : Type} : Cnt ([] : List α) 0 := ⟨by simp, by constructor
                                                                 · intro h
                                                                   cases h
                                                                 · rintro ⟨k, h⟩
                                                                   exact absurd ((h k).mpr rfl) (by simp)⟩
theorem cnt_snoc {α : Type} [DecidableEq α] {l : List α} {c : Nat} {x : α} (h : Cnt l c) : Cnt (l ++ [x]) (if x ∈ l then c else c + 1) := by
  by_cases m : x ∈ l
  · rw [if_pos m]
    have ne : l ≠ [] := fun e => by rw [e] at m; cases m
    refine ⟨⟨fun e => absurd (h.1.mp e) ne, fun e => absurd e (by simp)⟩, h.2.trans ?_⟩
    constructor
    · rintro ⟨k, hk⟩
      refine ⟨k, fun j => ?_⟩
      rw [List.mem_append, List.mem_singleton, hk j]
      have := (hk x).mp m
      constructor
      · rintro (e | e)
        · exact e
        · rw [e, this]
      · exact .inl
    · rintro ⟨k, hk⟩
      refine ⟨k, fun j => ?_⟩
      rw [← hk j, List.mem_append, List.mem_singleton]
      constructor
      · exact .inl
      · rintro (e | e)
        · exact e
        · rw [e]; exact m
  · rw [if_neg m]
    refine ⟨⟨fun e => by omega, fun e => absurd e (by simp)⟩, ?_⟩
    constructor
    · intro e
      have : l = [] := h.1.mp (by omega)
      rw [this]
      exact ⟨x, fun j => by simp⟩
    · rintro ⟨k, hk⟩
      have e1 := (hk x).mp (by simp)
      have : l = [] := by
        cases l with
        | nil => rfl
        | cons a r =>
          have e2 := (hk a).mp (by simp)
          exact absurd (show x ∈ a :: r by rw [e1, e2]; exact List.mem_cons_self) m
      have := h.1.mpr this
      omega
section
variable {P : Program} {w : World} {A : Around} {R : Result → Shared → Prop} {I : Addr} {fp wr : List Addr} {G : Array GenState → Array GenState → Prop} {n : Nat} {V' : Nat → Value → Prop} {St : Nat → Shared → Prop}
theorem grow_texts (W : WalksS P w A.in1 I fp wr G n V' St) (S : Addr) (out : S ∉ fp) (xs : List Str) (many : n = xs.length) (room : xs.length + 1 < scanBound) (vals : ∀ i v, V' i v → ∃ x t, xs[i]? = some x ∧ v = .str x t) :
    ∀ (k i : Nat) (s : Shared), n - i = k → i ≤ n → St i s → (∃ c, c ≤ i ∧ Cnt (xs.take i) c ∧ s.heap.SetOf (PySem.strKind P w) S (fun y => decide (y ∈ xs.take i)) c) →
      (∀ s' c, Moved (S :: wr) G s s' → Cnt xs c → s'.heap.SetOf (PySem.strKind P w) S (fun y => decide (y ∈ xs)) c → R (.ok (.ret .none)) s') →
      codeAny (model P w) A (.builtin "set.update.loop" ⟨[.ref S, .ref I], []⟩) R s := by
  have outw : S ∉ wr := fun z => out (W.sub _ z)
  have wide : ∀ b ∈ wr, b ∈ S :: wr := fun b hb => List.mem_cons_of_mem _ hb
  have kept : ∀ {s s' : Shared} {T : Str → Bool} {c : Nat}, Moved wr G s s' → s.heap.SetOf (PySem.strKind P w) S T c → s'.heap.SetOf (PySem.strKind P w) S T c := fun {s s' T c} mv h => by
    obtain ⟨o, es, ep, t, ho, rest⟩ := h
    exact ⟨o, es, ep, t, mv.heap S _ outw ho, rest⟩
  intro k
  induction k with
  | zero =>
    intro i s hk hi st now fin
    obtain ⟨c, _, hc, hS⟩ := now
    have e : xs.take i = xs := List.take_of_length_le (by omega)
    rw [e] at hc hS
    refine codeAny_builtin F.entry_set_update_loop ?_
    rw [Around.under_plainId F.plain_set_update_loop _]
    show wpAny _ A.in1 (pyNext (.ref I) >>= _) _ _ s
    have ei : i = n := by omega
    subst ei
    refine wpAny_bind (W.done s _ _ st fun s' mv => ?_)
    show wpAny _ A.in1 (ret Value.none) _ _ s'
    exact wpAny_pure (fin s' c (mv.mono wide) hc (kept mv hS))
  | succ k ih =>
    intro i s hk hi st now fin
    obtain ⟨c, ci, hc, hS⟩ := now
    have lt : i < n := by omega
    refine codeAny_builtin F.entry_set_update_loop ?_
    rw [Around.under_plainId F.plain_set_update_loop _]
    show wpAny _ A.in1 (pyNext (.ref I) >>= _) _ _ s
    refine wpAny_bind (W.item i s _ _ lt st fun v s' hP st' mv => ?_)
    obtain ⟨x, t, hx, rfl⟩ := vals i v hP
    have hS2 := kept mv hS
    show wpAny _ A.in1 (holding [Value.str x t] (setAdd S (.str x t)) >>= _) _ _ s'
    refine wpAny_bind (wpAny_holding ?_)
    unfold setAdd
    refine wpAny_holding (wpAny_bind ((PySem.strKind P w).pyHash (k := x) (strKind_is _ _ _ _) ?_))
    refine wpAny_setAddHashed_of (knd := PySem.strKind P w) (s := { s' with toks := s'.toks + 1 }) (strKind_is _ _ _ _) rfl hS2 (by omega) fun h' sb hS3 => ?_
    have et : xs.take (i + 1) = xs.take i ++ [x] := by rw [List.take_add_one, hx]; rfl
    have hc3 : Cnt (xs.take (i + 1)) (if decide (x ∈ xs.take i) = true then c else c + 1) := by
      rw [et]
      have := cnt_snoc (x := x) hc
      by_cases m : x ∈ xs.take i
      · rw [if_pos m] at this
        rw [if_pos (decide_eq_true m)]
        exact this
      · rw [if_neg m] at this
        rw [if_neg (by rw [decide_eq_false m]; decide)]
        exact this
    have hS4 : h'.SetOf (PySem.strKind P w) S (fun y => decide (y ∈ xs.take (i + 1))) (if decide (x ∈ xs.take i) = true then c else c + 1) := by
      refine PyProof.Rows.SetOf_congr hS3 (fun y => ?_) rfl
      rw [et]
      simp [List.mem_append, Bool.decide_or]
    refine wpAny_pure ⟨plainId_quiet F.plain_set_update_loop _, ih (i + 1) _ (by omega) lt (W.frame _ s' _ _ st' (Nat.le_succ _) fun b hb o e => ?_) ⟨_, by split <;> omega, hc3, hS4⟩ fun s2 c2 mv2 hc2 hS5 => ?_⟩
    · rw [sb.2 b (fun h : b = S => out (by rw [← h]; exact hb))]
      exact e
    · refine fin s2 c2 (Moved.trans W.gtrans ((mv.mono wide).then_heap (Nat.le_succ _) fun b o hb e => ?_) mv2) hc2 hS5
      rw [sb.2 b (fun h : b = S => hb (by rw [h]; exact List.mem_cons_self))]
      exact e
end
section
variable {P : Program} {w : World} {A : Around} {E : Value → Shared → Prop} {s : Shared}
set_option maxHeartbeats 6000000 in
theorem set_of_texts {l : Addr} {items : Array Value} {xs : List Str} {Q : Value → Shared → Prop} (free : A.handled = none) (list : s.heap.IsList l items) (nums : PyProof.Rows.StrsAre items.toList xs) (room : xs.length + 1 < scanBound)
    (then_ : ∀ (h' : Heap) (tk c : Nat), Cnt xs c → h'.SetOf (PySem.strKind P w) s.heap.objs.size (fun j => decide (j ∈ xs)) c → (∀ b o, s.heap.get? b = some o → h'.get? b = some o) → Q (.ref s.heap.objs.size) { s with heap := h', toks := tk }) :
    wpAny (model P w) A (call (.type "set") [.ref l]) Q E s := by
  have many : items.size = xs.length := by rw [← StrsAre.len_eq nums, Array.length_toList]
  obtain ⟨first, rest, mro⟩ := F.called_set.mro
  have made := F.called_set.made
  have sub := F.called_set.sub
  have notT := F.called_set.notType
  have can := F.called_set.canCreate
  have one := F.typeCall_set_1 (.ref l)
  refine wpAny_call (codeAny_of_tree ?_)
  show wpAny _ _ (callAny (.type "set") _) _ _ _
  refine wpAny_pure ⟨Code.quiet_builtin _ (by decide +kernel), codeAny_builtin F.entry_type_call ?_⟩
  rw [Around.under_plain (weight_type_call_type "set" [.ref l] []) rfl]
  repeat (any_goals (first | assumption | wp_step))
  refine codeAny_mono (code_set_led1 (.ref l) (E := E) (Q₁ := fun v s1 => v = .ref s.heap.objs.size ∧ s1 = { s with heap := s.heap.push (emptyS w) }) ⟨rfl, rfl⟩) fun r s1 hr => ?_
  match r, hr with
  | .error e, hr => exact hr
  | .ok (.ret _), ⟨e1, e2⟩ =>
    subst e1 e2
    have stands : (s.heap.push (emptyS w)).get? s.heap.objs.size = some (emptyS w) := Heap.get?_push_size _ rfl
    have typed : Shared.TypeIs { s with heap := s.heap.push (emptyS w) } (.ref s.heap.objs.size) "set" := ⟨_, stands, rfl⟩
    have look := F.called_set.init.lookup
    have bound := F.called_set.init.bind (.ref s.heap.objs.size)
    repeat (any_goals (first | assumption | wp_step))
    refine codeAny_mono (codeAny_call_builtin (R := wants (fun r s2 => r = .none ∧ ∃ h' tk c, s2 = { s with heap := h', toks := tk } ∧ Cnt xs c ∧ h'.SetOf (PySem.strKind P w) s.heap.objs.size (fun j => decide (j ∈ xs)) c ∧ (∀ b o, s.heap.get? b = some o → h'.get? b = some o)) E) F.called_set.init.plain F.entry_set_init (check_set_init_1 typed ?_)) fun r2 s2 hr2 => ?_
    · obtain ⟨⟨cl, dc, dt, sl⟩, at_, ecl, nl, edt⟩ := list
      simp only at ecl edt
      subst ecl edt
      have at2 : (s.heap.push (emptyS w)).get? l = some { cls := .type "list", dict := dc, data := .seq items nl, slots := sl } := Heap.get?_push_of_some _ at_
      have n1 := F.sub_list_set
      have n2 := F.sub_list_frozenset
      have n3 : (Value.type "list" == Value.type "dict") = false := by decide
      have list2 : (s.heap.push (emptyS w)).IsList l items := ⟨_, at2, rfl, nl, rfl⟩
      unfold Builtin.«set.__init__» noKeywords Builtin.Frozenset.updateFrom
      generalize iterAs : pyIter = PI
      wp_walk
      subst iterAs
      refine wpAny_pyIter_list list2 (wpAny_bind (wpAny_runValue ?_))
      have ll : l < s.heap.objs.size := Heap.lt_size at_
      have sz : (s.heap.push (emptyS w)).objs.size = s.heap.objs.size + 1 := Heap.size_push ..
      have free3 : A.in1.in1.in1.handled = none := by simp [free]
      have unlike : l ≠ (s.heap.push (emptyS w)).objs.size := by rw [sz]; exact Nat.ne_of_lt (Nat.lt_succ_of_lt ll)
      have out : s.heap.objs.size ∉ [(s.heap.push (emptyS w)).objs.size, l] := by
        rw [sz]
        simp only [List.mem_cons, List.mem_singleton, List.not_mem_nil, or_false, not_or]
        exact ⟨Nat.ne_of_lt (Nat.lt_succ_self _), Nat.ne_of_gt ll⟩
      have vals : ∀ (i : Nat) (v : Value), items[i]? = some v → ∃ x t, xs[i]? = some x ∧ v = .str x t := fun i v hv => by
        have hi : i < xs.length := by rw [← many]; exact (Array.getElem?_eq_some_iff.mp hv).1
        obtain ⟨t, e⟩ := SS.strs_at nums i v (by rw [Array.getElem?_toList]; exact hv)
        exact ⟨xs[i], t, List.getElem?_eq_getElem hi, by rw [e, List.getD_eq_getElem?_getD, List.getElem?_eq_getElem hi] <;> rfl⟩
      have fresh : ((s.heap.push (emptyS w)).push { cls := .type "list_iterator", data := .fields #[.ref l, .int 0 0] }).SetOf (PySem.strKind P w) s.heap.objs.size (fun y => decide (y ∈ xs.take 0)) 0 :=
        PyProof.Rows.SetOf_congr ((PyProof.Rows.setObjOf_fresh (knd := PySem.strKind P w) _).setOf (Heap.get?_push_of_some _ stands) (by unfold scanBound; omega)) (fun _ => rfl) rfl
      refine grow_texts ((Walks.list free3 _ l unlike items).toS) s.heap.objs.size out xs many room vals (items.size - 0) 0 _ (by omega) (Nat.zero_le _) ⟨⟨_, Heap.get?_push_size _ rfl, rfl, rfl⟩, (list2.push _)⟩ ⟨0, Nat.le_refl 0, cnt_nil, fresh⟩ fun s' c' mv hc' hS' => ?_
      obtain ⟨h', g2, d', tk', os'⟩ := s'
      have eg : g2 = s.gens := mv.gens
      have ed : d' = s.drawn := mv.drawn
      have eo : os' = s.os := mv.os
      subst eg ed eo
      show wpAny _ _ _ _ _ _
      refine wpAny_pure ?_
      show wpAny _ _ (ret Value.none) _ _ _
      refine wpAny_pure ⟨rfl, h', tk', c', rfl, hc', hS', fun b o e => ?_⟩
      have below : b < s.heap.objs.size := Heap.lt_size e
      refine mv.heap b o ?_ (Heap.get?_push_of_some _ (Heap.get?_push_of_some _ e))
      simp only [List.mem_cons, List.mem_singleton, List.not_mem_nil, or_false, not_or]
      exact ⟨Nat.ne_of_lt below, by rw [sz]; exact Nat.ne_of_lt (Nat.lt_succ_of_lt below)⟩
    · match r2, hr2 with
      | .error e, hr2 => exact hr2
      | .ok (.ret _), ⟨e1, h', tk, c', e2, hc', hS', hk'⟩ =>
        subst e1 e2
        repeat (any_goals (first | assumption | wp_step))
        exact then_ _ _ _ hc' hS' hk'
end
section
variable {X : Cx}
def tLenSetS (K : PySem.W.Frag) (ta : TE) : TE := fun σ H Q => ta σ H fun x H1 => ∃ (l : Addr) (xs : List Str), x = .ref l ∧ SqL K H1 l (xs.map V.str) ∧ xs.length < 4000 ∧ ∀ c : Nat, (c = 1 ↔ ∃ k, ∀ j, j ∈ xs ↔ j = k) → Q (.int c) H1
theorem pe_lenSetS {a : Expr} {ta : TE} {p p2 q pos : Pos} (hg : Gl X "len") (hm : X.mg "len" = none) (hg2 : Gl X "set") (hm2 : X.mg "set" = none) (ha : PE X a ta) (hc : X.calm = true := by rfl)
    (na : starEach [a] X.env = (false, eval a X.env) :: starEach [] X.env := by rfl) : PE X (.Call (.Name "len" p) [.Call (.Name "set" p2) [a] [] q] [] pos) (tLenSetS X.K ta) := by
  refine ⟨fun pins s σ H Q I h => ?_⟩
  refine Call_ (ld_blt I hg hm boot_len ?_)
  refine PyProof.Rows.callWith_builtin1 (PyProof.Rows.args_cons ?_ rfl) rfl rfl
  refine Call_ (ld_blt I hg2 hm2 boot_set ?_)
  refine PyProof.Rows.callWith_type1 (PyProof.Rows.args_cons (thn (ha.run pins s σ H _ I h) fun v s1 ⟨x, H1, I1, r1, q1⟩ => PyProof.Rows.args_nil ?_) na) na rfl
  obtain ⟨l, xs, rfl, hq, small, q1⟩ := q1
  cases r1
  obtain ⟨its, r, pl, hz⟩ := I1.list hq
  refine set_of_texts (I1.ok.hd hc) pl.isList (by simpa using strsAre_of r) (by unfold scanBound; omega) fun h' tk c cnt hS keep => ?_
  refine PyProof.Rows.args_nil ?_
  obtain ⟨o, es, ep, t, ho, hex, hd, _, _, hb, hf, hn⟩ := hS
  have I2 : Inv X pins σ H1 { s1 with heap := h', toks := tk } := I1.kept fun b o e => keep b o e
  have hs : es.size < 1000000 := by
    have : scanBound ≤ 1000000 := by decide
    omega
  exact call_len_set ho hex hd hf (by omega) ⟨.int c, H1, I2.tok _, ⟨_, by rw [hn]⟩, q1 c cnt.2⟩
end
/-! ### min of a list of numbers, None of none -/
theorem ints_hold {h : Heap} : ∀ {ns : List Int} {us : List Value}, Vals (ns.map V.int) us → PySem.W.HoldAll h us ns
  | [], _, .nil => PySem.W.HoldAll.nil
  | n :: r, _, .cons ⟨t, e⟩ rr => by
    rw [e]
    exact PySem.W.HoldAll.cons (PySem.W.holds_int n t) (ints_hold rr)
theorem minOf_mem (x : Int) : ∀ ys : List Int, PySem.W.minOf x ys ∈ x :: ys ∧ ∀ n ∈ x :: ys, PySem.W.minOf x ys ≤ n := fun ys => by
  induction ys generalizing x with
  | nil => exact ⟨List.mem_cons_self, fun n hn => by rw [List.mem_singleton.mp hn]; exact Int.le_refl _⟩
  | cons y r ih =>
    have e : PySem.W.minOf x (y :: r) = PySem.W.minOf (if PySem.W.DatumOrd.lt y x = true then y else x) r := rfl
    have hlt : PySem.W.DatumOrd.lt y x = decide (y < x) := rfl
    rw [e, hlt]
    by_cases c : y < x
    · rw [decide_eq_true c, if_pos rfl]
      obtain ⟨h1, h2⟩ := ih y
      refine ⟨List.mem_cons_of_mem _ h1, fun n hn => ?_⟩
      rcases List.mem_cons.mp hn with rfl | hn
      · have := h2 y List.mem_cons_self
        omega
      · exact h2 n hn
    · rw [decide_eq_false c, if_neg (by decide)]
      obtain ⟨h1, h2⟩ := ih x
      refine ⟨?_, fun n hn => ?_⟩
      · rcases List.mem_cons.mp h1 with h | h
        · rw [h]
          exact List.mem_cons_self
        · exact List.mem_cons_of_mem _ (List.mem_cons_of_mem _ h)
      · rcases List.mem_cons.mp hn with rfl | hn
        · exact h2 n List.mem_cons_self
        · rcases List.mem_cons.mp hn with rfl | hn
          · have := h2 x List.mem_cons_self
            omega
          · exact h2 n (List.mem_cons_of_mem _ hn)
def rMinD (K : PySem.W.Frag) : List V → List V → Hp → VK → Prop := fun xs zs H Q => ∃ (a : Addr) (ns : List Int), xs = [.ref a] ∧ zs = [.non] ∧ SqL K H a (ns.map V.int) ∧ (ns = [] → Q .non H) ∧ ∀ m, m ∈ ns → (∀ n ∈ ns, m ≤ n) → Q (.int m) H
theorem call_minD (K : PySem.W.Frag) {X : Cx} (hc : X.calm = true) (hu : X.A.units + 64 < cLine) (h : X.K = K := by rfl) : CallRK X (.builtin "min") ["default"] (rMinD K) := by
  subst h
  intro pins s σ H xs zs us ws Q I rx rz h
  obtain ⟨a, ns, rfl, rfl, hs, q0, q1⟩ := h
  obtain ⟨its, rv, hl, _⟩ := I.list hs
  rw [Vals.ref1 rx]
  cases rz with
  | cons e rr =>
    cases rr
    cases (show _ = Value.none from e)
    refine PySem.W.min_list_datum_default (I.ok.hd hc) hl.isList (ints_hold rv) (by show X.A.units + 1 + 0 < cLine; omega) (fun e h' tk hk => ⟨.non, H, I.kept hk, rfl, q0 e⟩) (fun y ys i v h' tk e hi hv hk => ?_)
    subst e
    obtain ⟨h1, h2⟩ := minOf_mem y ys
    obtain ⟨bs, r⟩ := hv
    have q2 := q1 _ h1 h2
    have e3 : PySem.W.Datum.toD (PySem.W.minOf y ys) = PyData.int (PySem.W.minOf y ys) := rfl
    rw [e3] at r
    generalize PySem.W.minOf y ys = m at r q2
    cases r
    exact ⟨.int m, H, I.kept hk, ⟨_, rfl⟩, q2⟩
/-! ### max of a tuple of numbers -/
theorem maxOf_mem (x : Int) : ∀ ys : List Int, PySem.W.maxOf x ys ∈ x :: ys ∧ ∀ n ∈ x :: ys, n ≤ PySem.W.maxOf x ys := fun ys => by
  induction ys generalizing x with
  | nil => exact ⟨List.mem_cons_self, fun n hn => by rw [List.mem_singleton.mp hn]; exact Int.le_refl _⟩
  | cons y r ih =>
    have e : PySem.W.maxOf x (y :: r) = PySem.W.maxOf (if PySem.W.DatumOrd.lt x y = true then y else x) r := rfl
    have hlt : PySem.W.DatumOrd.lt x y = decide (x < y) := rfl
    rw [e, hlt]
    by_cases c : x < y
    · rw [decide_eq_true c, if_pos rfl]
      obtain ⟨h1, h2⟩ := ih y
      refine ⟨List.mem_cons_of_mem _ h1, fun n hn => ?_⟩
      rcases List.mem_cons.mp hn with rfl | hn
      · have := h2 y List.mem_cons_self
        omega
      · exact h2 n hn
    · rw [decide_eq_false c, if_neg (by decide)]
      obtain ⟨h1, h2⟩ := ih x
      refine ⟨?_, fun n hn => ?_⟩
      · rcases List.mem_cons.mp h1 with h | h
        · rw [h]
          exact List.mem_cons_self
        · exact List.mem_cons_of_mem _ (List.mem_cons_of_mem _ h)
      · rcases List.mem_cons.mp hn with rfl | hn
        · exact h2 n List.mem_cons_self
        · rcases List.mem_cons.mp hn with rfl | hn
          · have := h2 x List.mem_cons_self
            omega
          · exact h2 n (List.mem_cons_of_mem _ hn)
def rMaxT (K : PySem.W.Frag) : List V → Hp → VK → Prop := fun xs H Q => ∃ (a : Addr) (n : Int) (ns : List Int), xs = [.ref a] ∧ SqT K H a ((n :: ns).map V.int) ∧ ∀ m, m ∈ n :: ns → (∀ k ∈ n :: ns, k ≤ m) → Q (.int m) H
theorem call_maxT (K : PySem.W.Frag) {X : Cx} (hc : X.calm = true) (hu : X.A.units + 64 < cLine) (h : X.K = K := by rfl) : CallR X (.builtin "max") (rMaxT K) := by
  subst h
  intro pins s σ H xs us Q I rx h
  obtain ⟨a, n, ns, rfl, hs, q1⟩ := h
  obtain ⟨its, rv, hl, _⟩ := I.tuple hs
  rw [Vals.ref1 rx]
  refine PySem.W.max_tuple_datum (x := n) (xs := ns) (I.ok.hd hc) hl (ints_hold rv) (by show X.A.units + 1 + 0 < cLine; omega) (fun i v h' tk hi hv hk => ?_)
  obtain ⟨h1, h2⟩ := maxOf_mem n ns
  obtain ⟨bs, r⟩ := hv
  have q2 := q1 _ h1 h2
  have e3 : PySem.W.Datum.toD (PySem.W.maxOf n ns) = PyData.int (PySem.W.maxOf n ns) := rfl
  rw [e3] at r
  generalize PySem.W.maxOf n ns = m at r q2
  cases r
  exact ⟨.int m, H, I.kept hk, ⟨_, rfl⟩, q2⟩
/-! ### == and != by a class's own __eq__, whatever it says; a list of such; repr, str and {x!s} by own defs -/
namespace OEQ
open PySem PySem.Spec PyProof.Rows L2 PySem.SeqAt
/-- what == and != ask of the class at C, whose __eq__ is at f -/
structure OEq (K : PySem.W.Frag) (C f : Addr) : Prop where
  at_ : PySem.W.findIn K (.ref C) "__eq__" = some (some (.ref f))
  fn : PySem.W.isFn K (.ref f) = true
  ne : PySem.W.findIn K (.ref C) "__ne__" = some (some (.builtin "object.__ne__"))
  ob : PySem.W.mroIn K C (.type "object") = some true
  tys : ∀ T ∈ (["int", "bool", "str", "NoneType", "list", "tuple"] : List String), PySem.W.subIn K (.ref C) (.type T) = some false ∧ PySem.W.subIn K (.type T) (.ref C) = some false
/-- what the other one is -/
inductive TyV (K : PySem.W.Frag) (C : Addr) (H : Hp) : V → Value → Prop
  | int (i : Int) : TyV K C H (.int i) (.type "int")
  | bl (b : Bool) : TyV K C H (.bl b) (.type "bool")
  | str (x : Str) : TyV K C H (.str x) (.type "str")
  | non : TyV K C H .non (.type "NoneType")
  | lst {a : Addr} {xs : List V} (h : SqL K H a xs) : TyV K C H (.ref a) (.type "list")
  | tup {a : Addr} {xs : List V} (h : SqT K H a xs) : TyV K C H (.ref a) (.type "tuple")
  | ins {a dx : Addr} {fs : List (Str × V)} (h : H a = some (.ins C dx fs)) : TyV K C H (.ref a) (.ref C)
section
variable {X : Cx} {pins : List (Addr × Obj)} {σ : L2.St} {H : Hp} {s : Shared} {C f a dx : Addr} {fs : List (Str × V)} {y : V} {u tv : Value} {n : Nat} {fd : FuncData} {ps : List Str} {sp : Sp} {A : Around}
theorem looks_ref {M : Model} {h : Heap} {a : Addr} {o : Obj} (e : h.get? a = some o) : PySem.W.Looks M h (typeOf (.ref a)) o.cls := (PySem.W.Looks.ld (part := some headPart) e).andThen PySem.W.Looks.now
theorem TyV.looks {M : Model} (I : Inv X pins σ H s) (t : TyV X.K C H y tv) (r : RelV y u) : PySem.W.Looks M s.heap (typeOf u) tv := by
  cases t with
  | int i => obtain ⟨t, rfl⟩ := (show ∃ t, u = Value.int i t from r); exact PySem.W.Looks.now
  | bl b => cases (show u = Value.bool b from r); exact PySem.W.Looks.now
  | str x => obtain ⟨t, rfl⟩ := (show ∃ t, u = Value.str x t from r); exact PySem.W.Looks.now
  | non => cases (show u = Value.none from r); exact PySem.W.Looks.now
  | lst h =>
    cases (show u = Value.ref _ from r)
    obtain ⟨its, rv, ⟨o, m, ho, hc, _⟩, _⟩ := I.list h
    exact hc ▸ looks_ref ho
  | tup h =>
    cases (show u = Value.ref _ from r)
    obtain ⟨its, rv, ⟨o, ho, hc, _⟩, _⟩ := I.tuple h
    exact hc ▸ looks_ref ho
  | ins h =>
    cases (show u = Value.ref _ from r)
    obtain ⟨mA, J, _⟩ := ins_get I.hok h
    obtain ⟨od, J, _⟩ := J.look
    exact J.type
theorem TyV.not_first (O : OEq X.K C f) (t : TyV X.K C H y tv) : PySem.W.notFirst X.K C tv = true := by
  cases t <;> first | (simp [PySem.W.notFirst]; done) | exact Bool.or_eq_true_iff.mpr (.inr (beq_iff_eq.mpr (O.tys _ (by decide)).2))
theorem TyV.back (O : OEq X.K C f) (t : TyV X.K C H y tv) (hne : tv ≠ .ref C) : PySem.W.subIn X.K (.ref C) tv = some false := by
  cases t <;> first | exact absurd rfl hne | exact (O.tys _ (by decide)).1
/-- the own __eq__ is called -/
theorem own_call (F : FnOk X.prog X.w X.K X.mg X.base CX0 n f fd ps sp) (hb : Binds X.K fd ps []) (sb : Sub X n A) (I : Inv X pins σ H s) (ry : RelV y u) {Q : VK} (q : sp [.ref a, y] H Q E0) :
    wpAny (model X.prog X.w) A (call (.ref f) [.ref a, u]) (EP X pins σ Q) X.xe s := by
  have e0 : Env0 X.prog X.w X.K X.mg X.base A X.stack s H := by
    have e := I.env0
    exact ⟨by rw [sb.fr]; exact e.frames, e.mod, e.bs, e.bsz, e.funs, e.frf, e.hok, e.bare⟩
  have hl := F.len _ _ _ _ q
  have r2 : Vals [V.ref a, y] [Value.ref a, u] := .cons rfl (.cons ry .nil)
  refine wpAny_call (codeAny_mono (F.run A X.stack s H ⟨[.ref a, u], []⟩ [.ref a, u] [.ref a, y] _ E0 sb.room e0 (by
    have := hb s [.ref a, u] I.kIn (by simpa using hl)
    simpa using this) r2 q) fun r s' hq => ?_)
  cases r with
  | error e => exact pass0 pins σ H s e s' I hq
  | ok fl =>
    cases fl with
    | ret w =>
      obtain ⟨z, H', I', rz, q⟩ := I.after hq
      exact ⟨z, H', I', rz, q⟩
    | next => exact False.elim hq
    | brk => exact False.elim hq
    | cont => exact False.elim hq
/-- x == y, x such an instance -/
theorem rc_own (O : OEq X.K C f) (F : FnOk X.prog X.w X.K X.mg X.base CX0 n f fd ps sp) (hb : Binds X.K fd ps []) (sb : Sub X n A) (I : Inv X pins σ H s) (ha : H a = some (.ins C dx fs)) (ty : TyV X.K C H y tv) (ry : RelV y u)
    {Q : Bool → Hp → Prop} (q : sp [.ref a, y] H (fun v H' => ∃ b, v = .bl b ∧ Q b H') E0) :
    wpAny (model X.prog X.w) A (richCompare .Eq (.ref a) u) (fun v s' => ∃ b, v = .bool b ∧ ∃ H', Inv X pins σ H' s' ∧ Q b H') X.xe s := by
  obtain ⟨mA, J, _⟩ := ins_get I.hok ha
  obtain ⟨od, J, _⟩ := J.look
  obtain ⟨m, hF⟩ := I.fr
  refine PySem.W.cmp_K (op := .Eq) (tb := tv) sb.room.units0 hF I.ok.mod.kin J (ty.looks I ry) (ty.not_first O) O.at_ O.fn ?_
  refine wpAny_mono (own_call F hb sb I ry q) (fun v s' h => ?_) fun _ _ x => x
  obtain ⟨z, H', I', rz, b, rfl, q⟩ := h
  cases (show v = Value.bool b from rz)
  exact ⟨b, rfl, H', I', q⟩
/-- x != y, x such an instance -/
theorem rc_ownNe (O : OEq X.K C f) (F : FnOk X.prog X.w X.K X.mg X.base CX0 n f fd ps sp) (hb : Binds X.K fd ps []) (sb : Sub X (n + 1) A) (I : Inv X pins σ H s) (ha : H a = some (.ins C dx fs)) (ty : TyV X.K C H y tv) (ry : RelV y u)
    {Q : Bool → Hp → Prop} (q : sp [.ref a, y] H (fun v H' => ∃ b, v = .bl b ∧ Q (!b) H') E0) :
    wpAny (model X.prog X.w) A (richCompare .NotEq (.ref a) u) (fun v s' => ∃ b, v = .bool b ∧ ∃ H', Inv X pins σ H' s' ∧ Q b H') X.xe s := by
  obtain ⟨mA, J, _⟩ := ins_get I.hok ha
  obtain ⟨od, J, _⟩ := J.look
  have hK := I.kIn
  have bindB : ∀ {M : Model} {A : Around} {E : Value → Shared → Prop} {args : List Value} {R : Option Value → Shared → Prop}, wpAny M A (call (.builtin "object.__ne__") (.ref a :: args)) (fun v => R (some v)) E s → wpAny M A (callSpecialIfBound? (.ref a) "__ne__" args) R E s := fun {M A E args R} h => by
    simp only [callSpecialIfBound?, bindSpecialIfBound?]
    refine wpAny_holding (wpAny_bind (wpAny_bind (wpAny_bind (J.type.here ((PySem.W.looks_findIn hK O.ne).here ?_)))))
    refine wpAny_bind (wpAny_askSetting (wpAny_ite ?_))
    have fin : wpAny M A (call (.builtin "object.__ne__") ([.ref a] ++ args) >>= fun v => pure (some v)) R E s := wpAny_bind (wpAny_mono h (fun v s' h' => wpAny_pure h') fun _ _ h' => h')
    split
    · exact wpAny_bind ((PySem.W.Looks.of_pure (PySem.F.cmp_object.ne.bind _)).here (wpAny_pure (by exact fin)))
    · exact wpAny_tryCatch (wpAny_bind ((PySem.W.Looks.of_pure (PySem.F.cmp_object.ne.bind _)).here (wpAny_pure (by exact fin))))
  have one : wpAny (model X.prog X.w) A (tryCompare (.ref a) "__ne__" u) (fun r s' => ∃ v, r = some v ∧ ∃ b, v = Value.bool b ∧ ∃ H', Inv X pins σ H' s' ∧ Q b H') X.xe s := by
    unfold tryCompare
    refine wpAny_bind (bindB (wpAny_call (codeAny_call_builtin PySem.F.cmp_object.ne.plain PySem.F.cmpEntry_ne (PySem.W.check_slot PySem.F.cmpKind_ne PySem.F.cmpSplit_ne (J.type.andThen (PySem.W.looks_mroIn hK O.ob)) (PySem.F.cmpArgs_ne _ _) ?_))))
    unfold Builtin.«object.__ne__»
    refine wpAny_bind (m := PySem.slotArgs "__ne__" 1 _) (wpAny_pure ?_)
    refine wpAny_bind (m := cRoomFor _ _) (wpAny_cRoomFor sb.in1.room.units0 ?_)
    refine wpAny_bind (m := callSpecialIfBound? (.ref a) (Str.ofString "__eq__") [u]) (PySem.W.ifBound_K hK J O.at_ O.fn (wpAny_mono (own_call F hb sb.in1 I ry q) (fun v s' h => ?_) fun _ _ x => x))
    obtain ⟨z, H', I', rz, b, rfl, q⟩ := h
    cases (show v = Value.bool b from rz)
    refine wpAny_bind (m := truthy (.bool b)) (wpAny_truthy_bool ?_)
    exact wpAny_pure (wpAny_pure ⟨_, rfl, !b, rfl, H', I', q⟩)
  unfold richCompare
  simp only [oneThing_ref]
  refine wpAny_holding (wpAny_bind (wpAny_cRoomFor sb.room.units0 ?_))
  rw [cmpInfo_NotEq]
  dsimp only
  refine wpAny_bind (J.type.here (wpAny_bind ((ty.looks I ry).here ?_)))
  have fin : wpAny (model X.prog X.w) A (tryCompare (.ref a) "__ne__" u) (fun r s' => ∃ v, r = some v ∧ ∃ b, v = Value.bool b ∧ ∃ H', Inv X pins σ H' s' ∧ Q b H') X.xe s := one
  split
  · rename_i q'
    have e : PySem.W.subIn X.K tv (.ref C) = some false := by
      rcases Bool.or_eq_true_iff.mp (ty.not_first O) with e | e
      · rw [beq_iff_eq.mp e] at q'; simp at q'
      · exact beq_iff_eq.mp e
    refine wpAny_bind ((PySem.W.looks_subIn hK e).here ?_)
    simp only [Bool.false_eq_true, if_false]
    refine wpAny_bind (wpAny_mono fin (fun r s' z => ?_) fun _ _ e => e)
    obtain ⟨v, rfl, hq⟩ := z
    exact wpAny_pure hq
  · refine wpAny_bind (wpAny_pure ?_)
    simp only [Bool.false_eq_true, if_false]
    refine wpAny_bind (wpAny_mono fin (fun r s' z => ?_) fun _ _ e => e)
    obtain ⟨v, rfl, hq⟩ := z
    exact wpAny_pure hq
end
/-! ### == of other kinds and such an instance: its __eq__ is asked second -/
section
variable {M : Model} {A : Around} {E : Value → Shared → Prop} {s : Shared}
theorem int_declines_ins (b : Int) (u : Tok) (l : Addr) (o : Obj) (hd : o.data = .plain) :
    Meets (Builtin.«int.__eq__» ⟨[.int b u, .ref l], []⟩) (fun _ R s => s.heap.get? l = some o ∧ R (.ok (.ret .notImplemented)) s) :=
  .of_wp fun prog w A R s h => by obtain ⟨hp, g, d, tk, os⟩ := s; obtain ⟨hl, h⟩ := h; obtain ⟨oc, od, oda, osl⟩ := o; cases hd; wp_walk using PySem.AutoSeq1.wpAny_loadPart' hl, wpAny_load hl; exact ⟨_, rfl, h⟩
theorem bool_declines_ins (b : Bool) (l : Addr) (o : Obj) (hd : o.data = .plain) :
    Meets (Builtin.«int.__eq__» ⟨[.bool b, .ref l], []⟩) (fun _ R s => s.heap.get? l = some o ∧ R (.ok (.ret .notImplemented)) s) :=
  .of_wp fun prog w A R s h => by obtain ⟨hp, g, d, tk, os⟩ := s; obtain ⟨hl, h⟩ := h; obtain ⟨oc, od, oda, osl⟩ := o; cases hd; wp_walk using PySem.AutoSeq1.wpAny_loadPart' hl, wpAny_load hl; exact ⟨_, rfl, h⟩
theorem str_declines_ins (b : Str) (u : Tok) (l : Addr) (o : Obj) (hd : o.data = .plain) :
    Meets (Builtin.«str.__eq__» ⟨[.str b u, .ref l], []⟩) (fun _ R s => s.heap.get? l = some o ∧ R (.ok (.ret .notImplemented)) s) :=
  .of_wp fun prog w A R s h => by obtain ⟨hp, g, d, tk, os⟩ := s; obtain ⟨hl, h⟩ := h; obtain ⟨oc, od, oda, osl⟩ := o; cases hd; wp_walk using PySem.AutoSeq1.wpAny_loadPart' hl, wpAny_load hl; exact ⟨_, rfl, h⟩
theorem list_declines_ins (l b : Addr) (items : Array Value) (n : Nat) (dd : Option Addr) (sl : Array (Option Value)) :
    Meets (Builtin.«list.__eq__» ⟨[.ref l, .ref b], []⟩) (fun _ R s => s.heap.get? l = some { cls := .type "list", dict := dd, data := .seq items n, slots := sl } ∧ (∀ (M : Model) (A : Around) (E : Value → Shared → Prop) (Q : Bool → Shared → Prop), Q false s → wpAny M A (isInstance (.ref b) (.type "list")) Q E s) ∧ R (.ok (.ret .notImplemented)) s) :=
  .of_wp fun prog w A R s h => by
    obtain ⟨hp, g, d, tk, os⟩ := s
    obtain ⟨hl, hi, h⟩ := h
    wp_walk using PySem.AutoSeq1.wpAny_loadPart' hl, hi _ _ _ _
    exact ⟨_, rfl, h⟩
theorem tuple_declines_ins (l b : Addr) (items : Array Value) (n : Nat) (dd : Option Addr) (sl : Array (Option Value)) :
    Meets (Builtin.«tuple.__eq__» ⟨[.ref l, .ref b], []⟩) (fun _ R s => s.heap.get? l = some { cls := .type "tuple", dict := dd, data := .seq items n, slots := sl } ∧ (∀ (M : Model) (A : Around) (E : Value → Shared → Prop) (Q : Bool → Shared → Prop), Q false s → wpAny M A (isInstance (.ref b) (.type "tuple")) Q E s) ∧ R (.ok (.ret .notImplemented)) s) :=
  .of_wp fun prog w A R s h => by
    obtain ⟨hp, g, d, tk, os⟩ := s
    obtain ⟨hl, hi, h⟩ := h
    wp_walk using PySem.AutoSeq1.wpAny_loadPart' hl, hi _ _ _ _
    exact ⟨_, rfl, h⟩
end
section
variable {X : Cx} {pins : List (Addr × Obj)} {σ : L2.St} {H : Hp} {s : Shared} {C f a dx : Addr} {fs : List (Str × V)} {y : V} {u tv : Value} {n : Nat} {fd : FuncData} {ps : List Str} {sp : Sp} {A : Around}
theorem rc_back_of {T id : String} (O : OEq X.K C f) (F : FnOk X.prog X.w X.K X.mg X.base CX0 n f fd ps sp) (hb : Binds X.K fd ps []) (sb : Sub X n A) (I : Inv X pins σ H s) (ha : H a = some (.ins C dx fs)) (ry : RelV y u)
    (hT : s.TypeIs u T) (hS : Slot T "__eq__" id) (hsub : PySem.W.subIn X.K (.ref C) (.type T) = some false)
    (dec : ∀ Q' : Value → Shared → Prop, Q' .notImplemented s → wpAny (model X.prog X.w) A (call (.builtin id) [u, .ref a]) Q' X.xe s)
    {Q : Bool → Hp → Prop} (q : sp [.ref a, y] H (fun v H' => ∃ b, v = .bl b ∧ Q b H') E0) :
    wpAny (model X.prog X.w) A (richCompare .Eq u (.ref a)) (fun v s' => ∃ b, v = .bool b ∧ ∃ H', Inv X pins σ H' s' ∧ Q b H') X.xe s := by
  obtain ⟨mA, J, _⟩ := ins_get I.hok ha
  obtain ⟨od, J, _⟩ := J.look
  have hK := I.kIn
  unfold richCompare
  simp only [hT.oneThing_none]
  refine wpAny_holding (wpAny_bind (wpAny_cRoomFor sb.room.units0 ?_))
  rw [cmpInfo_Eq]
  dsimp only
  refine wpAny_bind (wpAny_typeOf hT (wpAny_bind (J.type.here ?_)))
  rw [if_pos (show (Value.type T != Value.ref C) = true by simp)]
  refine wpAny_bind ((PySem.W.looks_subIn hK hsub).here ?_)
  simp only [Bool.false_eq_true, if_false, Bool.not_false, if_true]
  refine wpAny_bind (m := tryCompare u _ (.ref a)) (wpAny_tryCompare_declines hT hS (dec _ ⟨rfl, ?_⟩))
  have one : wpAny (model X.prog X.w) A (tryCompare (.ref a) "__eq__" u) (fun r s' => ∃ v, r = some v ∧ ∃ b, v = Value.bool b ∧ ∃ H', Inv X pins σ H' s' ∧ Q b H') X.xe s := by
    unfold tryCompare
    refine wpAny_bind (PySem.W.ifBound_K hK J O.at_ O.fn (wpAny_mono (own_call F hb sb I ry q) (fun v s' h => ?_) fun _ _ e => e))
    obtain ⟨z, H', I', rz, b, rfl, q⟩ := h
    cases (show v = Value.bool b from rz)
    exact wpAny_pure ⟨_, rfl, b, rfl, H', I', q⟩
  refine wpAny_bind (m := tryCompare (.ref a) _ u) (wpAny_mono one (fun r s' z => ?_) fun _ _ e => e)
  obtain ⟨v, rfl, hq⟩ := z
  exact wpAny_pure hq
/-- x == y, y such an instance, x of another kind -/
theorem rc_back (O : OEq X.K C f) (F : FnOk X.prog X.w X.K X.mg X.base CX0 n f fd ps sp) (hb : Binds X.K fd ps []) (sb : Sub X n A) (I : Inv X pins σ H s) (ha : H a = some (.ins C dx fs)) (ty : TyV X.K C H y tv) (hne : tv ≠ .ref C) (ry : RelV y u)
    {Q : Bool → Hp → Prop} (q : sp [.ref a, y] H (fun v H' => ∃ b, v = .bl b ∧ Q b H') E0) :
    wpAny (model X.prog X.w) A (richCompare .Eq u (.ref a)) (fun v s' => ∃ b, v = .bool b ∧ ∃ H', Inv X pins σ H' s' ∧ Q b H') X.xe s := by
  have hbk := ty.back O hne
  obtain ⟨mA, J, _⟩ := ins_get I.hok ha
  obtain ⟨od, J, _⟩ := J.look
  have hK := I.kIn
  have isi : ∀ {T : String}, PySem.W.subIn X.K (.ref C) (.type T) = some false → ∀ (M : Model) (A : Around) (E : Value → Shared → Prop) (Q : Bool → Shared → Prop), Q false s → wpAny M A (isInstance (.ref a) (.type T)) Q E s := fun {T} hs M A E Q q => by
    have L : PySem.W.Looks M s.heap (isInstance (.ref a) (.type T)) false := J.type.andThen (PySem.W.looks_subIn hK hs)
    exact L.here q
  cases ty with
  | int i =>
    obtain ⟨t, rfl⟩ := (show ∃ t, u = Value.int i t from ry)
    exact rc_back_of O F hb sb I ha ry (typeIs_int s i t) PySem.F.slot_int_eq hbk (fun Q' hq => call_meets PySem.F.slot_int_eq (typeIs_int s i t) PySem.F.entry_int_eq (PySem.F.args_int_eq_2 _ _) (int_declines_ins i t a _ rfl) ⟨J.at_, hq⟩) q
  | bl b =>
    cases (show u = Value.bool b from ry)
    exact rc_back_of O F hb sb I ha ry rfl PySem.F.slot_bool_eq hbk (fun Q' hq => call_meets PySem.F.slot_bool_eq rfl PySem.F.entry_int_eq (PySem.F.args_int_eq_2 _ _) (bool_declines_ins b a _ rfl) ⟨J.at_, hq⟩) q
  | str x =>
    obtain ⟨t, rfl⟩ := (show ∃ t, u = Value.str x t from ry)
    exact rc_back_of O F hb sb I ha ry (typeIs_str s x t) PySem.F.slot_str_eq hbk (fun Q' hq => call_meets PySem.F.slot_str_eq (typeIs_str s x t) PySem.F.entry_str_eq (PySem.F.args_str_eq_2 _ _) (str_declines_ins x t a _ rfl) ⟨J.at_, hq⟩) q
  | non =>
    cases (show u = Value.none from ry)
    exact rc_back_of O F hb sb I ha ry rfl PySem.F.slot_NoneType_eq hbk (fun Q' hq => call_gives PySem.F.slot_NoneType_eq rfl PySem.F.entry_NoneType_eq (PySem.F.args_NoneType_eq_2 _ _) (NoneType___eq___none_ref_0 a) hq) q
  | lst h =>
    cases (show u = Value.ref _ from ry)
    obtain ⟨its, rv, ⟨⟨cls, dd, data, sl⟩, m, ho, hc, hdn, hd⟩, _⟩ := I.list h
    simp only at hc hd
    subst hc hd
    exact rc_back_of O F hb sb I ha ry ⟨_, ho, rfl⟩ PySem.F.slot_list_eq hbk (fun Q' hq => call_meets PySem.F.slot_list_eq ⟨_, ho, rfl⟩ PySem.F.entry_list_eq (PySem.F.args_list_eq_2 _ _) (list_declines_ins _ a _ _ _ _) ⟨ho, isi hbk, hq⟩) q
  | tup h =>
    cases (show u = Value.ref _ from ry)
    obtain ⟨its, rv, ⟨⟨cls, dd, data, sl⟩, ho, hc, m, hd⟩, _⟩ := I.tuple h
    simp only at hc hd
    subst hc hd
    exact rc_back_of O F hb sb I ha ry ⟨_, ho, rfl⟩ PySem.F.slot_tuple_eq hbk (fun Q' hq => call_meets PySem.F.slot_tuple_eq ⟨_, ho, rfl⟩ PySem.F.entry_tuple_eq (PySem.F.args_tuple_eq_2 _ _) (tuple_declines_ins _ a _ _ _ _) ⟨ho, isi hbk, hq⟩) q
  | ins h => exact absurd rfl hne
end
/-! ### a list of such: in, count, index -/
section
variable {prog : Program} {w : World} {A : Around} {R : Result → Shared → Prop} {l : Addr} {items : Array Value} {x : Value} {e : Nat → Bool} {J : Shared → Prop}
open GQ MeetsSeq MeetsSeq2 MeetsSeq3
/-- l is the list of these items wherever J is; what == says is told by e -/
structure LJ (prog : Program) (w : World) (A : Around) (E : Value → Shared → Prop) (l : Addr) (items : Array Value) (x : Value) (e : Nat → Bool) (J : Shared → Prop) : Prop where
  at_ : ∀ s, J s → ∃ n, s.heap.get? l = some { cls := .type "list", data := .seq items n }
  eq : ∀ i (h : i < items.size) s, J s → wpAny (model prog w) A.in1 (eqBool items[i] x) (fun r s' => r = e i ∧ J s') E s
theorem contains_no (hj : LJ prog w A (fun e s' => R (.error e) s') l items x e J) (no : ∀ i, i < items.size → e i = false) (fin : ∀ s, J s → R (.ok (.ret (.bool false))) s) (k : Nat) :
    ∀ i : Nat, items.size - i = k → ∀ s, J s → wpAny (model prog w) A.in1 (Builtin.«list.__contains__.loop» ⟨[.ref l, x, rawInt i], []⟩) (FinOf prog w A R) (fun e s' => R (.error e) s') s := by
  induction k with
  | zero =>
    intro i hk s h
    obtain ⟨n, hl⟩ := hj.at_ _ h
    have hR := fin s h
    obtain ⟨hp, g, d, tk, os⟩ := s
    wp_walk using PySem.AutoSeq1.wpAny_loadPart' hl
    have hi : items[((i : Nat) : Int).toNat]? = none := by simp; omega
    rw [hi]
    wp_walk
    exact hR
  | succ k ih =>
    intro i hk s h
    obtain ⟨n, hl⟩ := hj.at_ _ h
    have hlt : i < items.size := by omega
    have ht := hj.eq i hlt s h
    obtain ⟨hp, g, d, tk, os⟩ := s
    wp_walk using PySem.AutoSeq1.wpAny_loadPart' hl
    have hi : items[((i : Nat) : Int).toNat]? = some items[i] := by simp [hlt]
    have hc : ((i : Int) + 1) = ((i + 1 : Nat) : Int) := by omega
    rw [hi]
    refine wpAny_bind (wpAny_mono ht (fun r s2 h2 => ?_) fun _ _ x => x)
    obtain ⟨hr, h2⟩ := h2
    rw [no i hlt] at hr
    subst hr
    have hrec := ih (i + 1) (by omega) s2 h2
    obtain ⟨hp2, g2, d2, tk2, os2⟩ := s2
    wp_walk
    rw [hc]
    exact ⟨plainId_quiet plain_contains_loop _, codeAny_builtin entry_contains_loop (by
      rw [Around.under_plainId plain_contains_loop _]
      exact hrec)⟩
theorem list_contains_no (hj : LJ prog w A (fun e s' => R (.error e) s') l items x e J) (no : ∀ i, i < items.size → e i = false) (fin : ∀ s, J s → R (.ok (.ret (.bool false))) s) {s : Shared} (h : J s) :
    wpAny (model prog w) A.in1 (Builtin.«list.__contains__» ⟨[.ref l, x], []⟩) (FinOf prog w A R) (fun e s' => R (.error e) s') s := by
  obtain ⟨n, hl⟩ := hj.at_ _ h
  have hrec := contains_no hj no fin _ 0 rfl s h
  obtain ⟨hp, g, d, tk, os⟩ := s
  wp_walk using PySem.AutoSeq1.wpAny_loadPart' hl
  wp_walk using PySem.AutoSeq1.wpAny_loadPart' hl
  exact ⟨plainId_quiet plain_contains_loop _, codeAny_builtin entry_contains_loop (by
    rw [Around.under_plainId plain_contains_loop _]
    exact hrec)⟩
theorem count_no (hj : LJ prog w A (fun e s' => R (.error e) s') l items x e J) (no : ∀ i, i < items.size → e i = false) (fin : ∀ s, J s → R (.ok (.ret (.int 0 s.toks))) { s with toks := s.toks + 1 }) (k : Nat) :
    ∀ i : Nat, items.size - i = k → ∀ s, J s → wpAny (model prog w) A.in1 (Builtin.«list.count.loop» ⟨[.ref l, x, rawInt i, rawInt 0], []⟩) (FinOf prog w A R) (fun e s' => R (.error e) s') s := by
  induction k with
  | zero =>
    intro i hk s h
    obtain ⟨n, hl⟩ := hj.at_ _ h
    have hR := fin s h
    obtain ⟨hp, g, d, tk, os⟩ := s
    wp_walk using PySem.AutoSeq1.wpAny_loadPart' hl
    have hi : items[((i : Nat) : Int).toNat]? = none := by simp; omega
    rw [hi]
    wp_walk
    exact hR
  | succ k ih =>
    intro i hk s h
    obtain ⟨n, hl⟩ := hj.at_ _ h
    have hlt : i < items.size := by omega
    have ht := hj.eq i hlt s h
    obtain ⟨hp, g, d, tk, os⟩ := s
    wp_walk using PySem.AutoSeq1.wpAny_loadPart' hl
    have hi : items[((i : Nat) : Int).toNat]? = some items[i] := by simp [hlt]
    have hc : ((i : Int) + 1) = ((i + 1 : Nat) : Int) := by omega
    rw [hi]
    refine wpAny_bind (wpAny_mono ht (fun r s2 h2 => ?_) fun _ _ x => x)
    obtain ⟨hr, h2⟩ := h2
    rw [no i hlt] at hr
    subst hr
    have hrec := ih (i + 1) (by omega) s2 h2
    obtain ⟨hp2, g2, d2, tk2, os2⟩ := s2
    wp_walk
    rw [hc]
    exact ⟨plainId_quiet plain_count_loop _, codeAny_builtin entry_count_loop (by
      rw [Around.under_plainId plain_count_loop _]
      exact hrec)⟩
theorem list_count_no (hj : LJ prog w A (fun e s' => R (.error e) s') l items x e J) (no : ∀ i, i < items.size → e i = false) (fin : ∀ s, J s → R (.ok (.ret (.int 0 s.toks))) { s with toks := s.toks + 1 }) {s : Shared} (h : J s) :
    wpAny (model prog w) A.in1 (Builtin.«list.count» ⟨[.ref l, x], []⟩) (FinOf prog w A R) (fun e s' => R (.error e) s') s := by
  obtain ⟨n, hl⟩ := hj.at_ _ h
  have hrec := count_no hj no fin _ 0 rfl s h
  obtain ⟨hp, g, d, tk, os⟩ := s
  wp_walk using PySem.AutoSeq1.wpAny_loadPart' hl
  exact ⟨plainId_quiet plain_count_loop _, codeAny_builtin entry_count_loop (by
    rw [Around.under_plainId plain_count_loop _]
    exact hrec)⟩
theorem index_loop (hj : LJ prog w A (fun e s' => R (.error e) s') l items x e J) {j : Nat} {upto : Int} (hjl : j < items.size) (hupto : (j : Int) < upto) (hit : e j = true) (no : ∀ i, i < j → e i = false)
    (fin : ∀ s, J s → R (.ok (.ret (.int j s.toks))) { s with toks := s.toks + 1 }) (k : Nat) :
    ∀ i : Nat, j - i = k → i ≤ j → ∀ s, J s → wpAny (model prog w) A.in1 (Builtin.«list.index.loop» ⟨[.ref l, x, rawInt i, rawInt upto], []⟩) (FinOf prog w A R) (fun e s' => R (.error e) s') s := by
  induction k with
  | zero =>
    intro i hk hij s h
    have hij' : i = j := by omega
    subst hij'
    obtain ⟨n, hl⟩ := hj.at_ _ h
    have ht := hj.eq i hjl s h
    obtain ⟨hp, g, d, tk, os⟩ := s
    wp_walk using PySem.AutoSeq1.wpAny_loadPart' hl
    have hi : (if (i : Int) < upto then items[((i : Nat) : Int).toNat]? else none) = some items[i] := by simp [hupto, hjl]
    rw [hi]
    refine wpAny_bind (wpAny_mono ht (fun r s2 h2 => ?_) fun _ _ x => x)
    obtain ⟨hr, h2⟩ := h2
    rw [hit] at hr
    subst hr
    have hR := fin s2 h2
    obtain ⟨hp2, g2, d2, tk2, os2⟩ := s2
    wp_walk
    exact hR
  | succ k ih =>
    intro i hk hij s h
    obtain ⟨n, hl⟩ := hj.at_ _ h
    have hlt : i < items.size := by omega
    have hst : (i : Int) < upto := by omega
    have ht := hj.eq i hlt s h
    obtain ⟨hp, g, d, tk, os⟩ := s
    wp_walk using PySem.AutoSeq1.wpAny_loadPart' hl
    have hi : (if (i : Int) < upto then items[((i : Nat) : Int).toNat]? else none) = some items[i] := by simp [hst, hlt]
    have hc : ((i : Int) + 1) = ((i + 1 : Nat) : Int) := by omega
    rw [hi]
    refine wpAny_bind (wpAny_mono ht (fun r s2 h2 => ?_) fun _ _ x => x)
    obtain ⟨hr, h2⟩ := h2
    rw [no i (by omega)] at hr
    subst hr
    have hrec := ih (i + 1) (by omega) (by omega) s2 h2
    obtain ⟨hp2, g2, d2, tk2, os2⟩ := s2
    wp_walk
    rw [hc]
    exact ⟨plainId_quiet plain_index_loop _, codeAny_builtin entry_index_loop (by
      rw [Around.under_plainId plain_index_loop _]
      exact hrec)⟩
theorem list_index_at (hj : LJ prog w A (fun e s' => R (.error e) s') l items x e J) {j : Nat} (hjl : j < items.size) (hsmall : (j : Int) < 2 ^ 63 - 1) (hit : e j = true) (no : ∀ i, i < j → e i = false)
    (fin : ∀ s, J s → R (.ok (.ret (.int j s.toks))) { s with toks := s.toks + 1 }) {s : Shared} (h : J s) :
    wpAny (model prog w) A.in1 (Builtin.«list.index» ⟨[.ref l, x], []⟩) (FinOf prog w A R) (fun e s' => R (.error e) s') s := by
  obtain ⟨n, hl⟩ := hj.at_ _ h
  have hrec := index_loop hj hjl hsmall hit no fin _ 0 rfl (Nat.zero_le _) s h
  obtain ⟨hp, g, d, tk, os⟩ := s
  wp_walk using PySem.AutoSeq1.wpAny_loadPart' hl
  have a1 : ((fun i : Int => if i < 0 then max 0 (i + (items.size : Int)) else i) ((none : Option Int).getD 0)) = ((0 : Nat) : Int) := by simp
  have a2 : ((fun i : Int => if i < 0 then max 0 (i + (items.size : Int)) else i) ((none : Option Int).getD (2 ^ 63 - 1))) = 2 ^ 63 - 1 := by simp
  rw [a1, a2]
  exact ⟨plainId_quiet plain_index_loop _, codeAny_builtin entry_index_loop (by
    rw [Around.under_plainId plain_index_loop _]
    exact hrec)⟩
end
section
variable {X : Cx} {C f : Addr} {n : Nat} {fd : FuncData} {ps : List Str} {sp : Sp}
/-- what == says of each of the list's and of a -/
def Asks (C : Addr) (sp : Sp) (a : Addr) (bs : List Addr) (e : Nat → Bool) (H : Hp) : Prop := ∀ i b, bs[i]? = some b → ∀ H', Ext H H' → (∃ dx fs, H' b = some (.ins C dx fs)) ∧ (∃ dx fs, H' a = some (.ins C dx fs)) ∧ (b = a → e i = true) ∧
  ∀ Q : VK, (∀ H'', Ext H' H'' → Q (.bl (e i)) H'') → sp [.ref b, .ref a] H' Q E0
theorem asks_lj (O : OEq X.K C f) (F : FnOk X.prog X.w X.K X.mg X.base CX0 n f fd ps sp) (hb : Binds X.K fd ps []) (hr : Room (n + 1) X.A) {pins : List (Addr × Obj)} {σ : L2.St} {H : Hp} {l a : Addr} {bs : List Addr} {e : Nat → Bool}
    (hl : H l = some (.lst (bs.map V.ref))) (h : Asks C sp a bs e H) : LJ X.prog X.w X.A X.xe l (bs.map Value.ref).toArray (.ref a) e (fun s' => ∃ H', Inv X pins σ H' s' ∧ Ext H H') := by
  refine ⟨fun s ⟨H', I, x⟩ => ?_, fun i hi s ⟨H', I, x⟩ => ?_⟩
  · obtain ⟨its, m, r, ho, hz⟩ := I.lst (x _ _ hl)
    have : its = bs.map Value.ref := by
      clear ho hl h hz
      induction bs generalizing its with
      | nil => cases r; rfl
      | cons b t ih =>
        cases r with
        | cons r1 r2 =>
          rw [List.map_cons, ← ih _ r2, (show _ = Value.ref b from r1)]
    exact ⟨m, by rw [ho, this]⟩
  · have hi' : i < bs.length := by simpa using hi
    have hg : bs[i]? = some bs[i] := List.getElem?_eq_getElem hi'
    obtain ⟨⟨dx, fs, eb⟩, ⟨dy, gs, ea⟩, same, q⟩ := h i bs[i] hg H' x
    have hv : (bs.map Value.ref).toArray[i] = .ref bs[i] := by simp
    rw [hv]
    by_cases hab : bs[i] = a
    · rw [hab]
      exact SeqAt.EqAt.same (A := X.A.in1) (s := s) (.ref a) X.prog X.w X.xe _ ⟨(same hab).symm, H', I, x⟩
    · refine GQ.eqBool_refG hab ?_
      refine wpAny_mono (rc_own O F hb (A := X.A.in1) ⟨hr.in1, rfl⟩ I eb (.ins ea) (u := .ref a) rfl (Q := fun b H'' => b = e i ∧ Ext H' H'') (q _ fun H'' x2 => ⟨_, rfl, rfl, x2⟩)) (fun v s' z => ?_) fun _ _ x => x
      obtain ⟨b, rfl, H'', I', rfl, x2⟩ := z
      exact ⟨_, rfl, rfl, H'', I', x.trans x2⟩
variable (K : PySem.W.Frag)
/-- x in l: none of the list's is alike -/
def rInO (C : Addr) (sp : Sp) : R2 := fun x y H Q => ∃ (a l : Addr) (bs : List Addr), x = .ref a ∧ y = .ref l ∧ H l = some (.lst (bs.map V.ref)) ∧ Asks C sp a bs (fun _ => false) H ∧ ∀ H', Ext H H' → Q (.bl false) H'
theorem op_inO (O : OEq X.K C f) (F : FnOk X.prog X.w X.K X.mg X.base CX0 n f fd ps sp) (hb : Binds X.K fd ps []) (hr : Room (n + 1) X.A) : OpR X (compareOp .In) (rInO C sp) := by
  intro pins s σ H x y v u Q I rx ry h
  obtain ⟨a, l, bs, rfl, rfl, hl, hA, q⟩ := h
  cases rx
  cases ry
  obtain ⟨its, m, r, ho, _⟩ := I.lst hl
  have hj := asks_lj (pins := pins) (σ := σ) O F hb hr hl hA
  show wpAny _ X.A (do return Value.bool (← contains (.ref l) (.ref a))) _ _ s
  refine wpAny_bind (wpAny_contains_slot ⟨_, ho, rfl⟩ PySem.F.slot_list_contains (GQ.call_here PySem.F.slot_list_contains ⟨_, ho, rfl⟩ PySem.F.entry_list_contains (PySem.F.args_list_contains_2 _ _) (list_contains_no (R := wants _ _) hj (fun _ _ => rfl) (fun s' ⟨H', I', x⟩ => ?_) ⟨H, I, fun _ _ h => h⟩)))
  exact wpAny_truthy_bool (wpAny_pure ⟨.bl false, H', I', rfl, q H' x⟩)
/-- l.count(x): none of the list's is alike -/
def rCountO (C : Addr) (sp : Sp) : V → List V → Hp → VK → Prop := fun x xs H Q => ∃ (a l : Addr) (bs : List Addr), x = .ref l ∧ xs = [.ref a] ∧ H l = some (.lst (bs.map V.ref)) ∧ Asks C sp a bs (fun _ => false) H ∧ ∀ H', Ext H H' → Q (.int 0) H'
theorem mt_countO (O : OEq X.K C f) (F : FnOk X.prog X.w X.K X.mg X.base CX0 n f fd ps sp) (hb : Binds X.K fd ps []) (hr : Room (n + 1) X.A) : MtR X "list.count" (rCountO C sp) := by
  intro pins s σ H x xs v us Q I rx rxs h
  obtain ⟨a, l, bs, rfl, rfl, hl, hA, q⟩ := h
  cases rx
  cases rxs with
  | cons ry rt =>
    cases rt
    cases ry
    obtain ⟨its, m, r, ho, _⟩ := I.lst hl
    have hj := asks_lj (pins := pins) (σ := σ) O F hb hr hl hA
    refine GQ.call_here PySem.F.slot_list_count ⟨_, ho, rfl⟩ PySem.F.entry_list_count (PySem.F.args_list_count_2 _ _) (list_count_no (R := wants _ _) hj (fun _ _ => rfl) (fun s' ⟨H', I', x⟩ => ?_) ⟨H, I, fun _ _ h => h⟩)
    exact ⟨.int 0, H', I'.tok _, ⟨_, rfl⟩, q H' x⟩
/-- l.index(x): the first alike one -/
def rIndexO (C : Addr) (sp : Sp) : V → List V → Hp → VK → Prop := fun x xs H Q => ∃ (a l : Addr) (bs : List Addr) (j : Nat) (e : Nat → Bool), x = .ref l ∧ xs = [.ref a] ∧ H l = some (.lst (bs.map V.ref)) ∧ j < bs.length ∧ j < 1000 ∧ e j = true ∧ (∀ i, i < j → e i = false) ∧ Asks C sp a bs e H ∧ ∀ H', Ext H H' → Q (.int (j : Nat)) H'
theorem mt_indexO (O : OEq X.K C f) (F : FnOk X.prog X.w X.K X.mg X.base CX0 n f fd ps sp) (hb : Binds X.K fd ps []) (hr : Room (n + 1) X.A) : MtR X "list.index" (rIndexO C sp) := by
  intro pins s σ H x xs v us Q I rx rxs h
  obtain ⟨a, l, bs, j, e, rfl, rfl, hl, hj1, hj2, hit, no, hA, q⟩ := h
  cases rx
  cases rxs with
  | cons ry rt =>
    cases rt
    cases ry
    obtain ⟨its, m, r, ho, _⟩ := I.lst hl
    have hj := asks_lj (pins := pins) (σ := σ) O F hb hr hl hA
    refine GQ.call_here PySem.F.slot_list_index ⟨_, ho, rfl⟩ PySem.F.entry_list_index (PySem.F.args_list_index_2 _ _) (list_index_at (R := wants _ _) hj (j := j) (by simpa using hj1) (by omega) hit no (fun s' ⟨H', I', x⟩ => ?_) ⟨H, I, fun _ _ h => h⟩)
    exact ⟨.int (j : Nat), H', I'.tok _, ⟨_, rfl⟩, q H' x⟩
end
/-! ### ==, != as expressions; repr(x), str(x), {x!s} by own defs -/
section
variable {X : Cx} {C f : Addr} {n : Nat} {fd : FuncData} {ps : List Str} {sp : Sp} {A : Around} {pins : List (Addr × Obj)} {σ : L2.St} {H : Hp} {s : Shared}
theorem own_callN {xs : List V} {us : List Value} (F : FnOk X.prog X.w X.K X.mg X.base CX0 n f fd ps sp) (hb : Binds X.K fd ps []) (sb : Sub X n A) (I : Inv X pins σ H s) (r2 : Vals xs us) {Q : VK} (q : sp xs H Q E0) :
    wpAny (model X.prog X.w) A (call (.ref f) us) (EP X pins σ Q) X.xe s := by
  have e0 : Env0 X.prog X.w X.K X.mg X.base A X.stack s H := by
    have e := I.env0
    exact ⟨by rw [sb.fr]; exact e.frames, e.mod, e.bs, e.bsz, e.funs, e.frf, e.hok, e.bare⟩
  have hl := F.len _ _ _ _ q
  refine wpAny_call (codeAny_mono (F.run A X.stack s H ⟨us, []⟩ us xs _ E0 sb.room e0 (by
    have := hb s us I.kIn (by rw [List.append_nil, ← r2.length]; exact hl)
    simpa using this) r2 q) fun r s' hq => ?_)
  cases r with
  | error e => exact pass0 pins σ H s e s' I hq
  | ok fl =>
    cases fl with
    | ret w =>
      obtain ⟨z, H', I', rz, q⟩ := I.after hq
      exact ⟨z, H', I', rz, q⟩
    | next => exact False.elim hq
    | brk => exact False.elim hq
    | cont => exact False.elim hq
def rEqO (K : PySem.W.Frag) (C : Addr) (sp : Sp) : R2 := fun x y H Q =>
  (∃ (a dx : Addr) (fs : List (Str × V)) (tv : Value), x = .ref a ∧ H a = some (.ins C dx fs) ∧ TyV K C H y tv ∧ sp [x, y] H (fun v H' => ∃ b, v = .bl b ∧ Q (.bl b) H') E0) ∨
  (∃ (a dx : Addr) (fs : List (Str × V)) (tv : Value), y = .ref a ∧ H a = some (.ins C dx fs) ∧ TyV K C H x tv ∧ tv ≠ .ref C ∧ sp [y, x] H (fun v H' => ∃ b, v = .bl b ∧ Q (.bl b) H') E0)
def rNeO (K : PySem.W.Frag) (C : Addr) (sp : Sp) : R2 := fun x y H Q =>
  ∃ (a dx : Addr) (fs : List (Str × V)) (tv : Value), x = .ref a ∧ H a = some (.ins C dx fs) ∧ TyV K C H y tv ∧ sp [x, y] H (fun v H' => ∃ b, v = .bl b ∧ Q (.bl (!b)) H') E0
theorem op_eqO (O : OEq X.K C f) (F : FnOk X.prog X.w X.K X.mg X.base CX0 n f fd ps sp) (hb : Binds X.K fd ps []) (hr : Room n X.A) : OpR X (compareOp .Eq) (rEqO X.K C sp) := by
  intro pins s σ H x y v u Q I rx ry h
  have fin : ∀ {v : Value} {s' : Shared}, (∃ b, v = Value.bool b ∧ ∃ H', Inv X pins σ H' s' ∧ Q (.bl b) H') → EP X pins σ Q v s' := fun h => by
    obtain ⟨b, rfl, H', I', q⟩ := h
    exact ⟨.bl b, H', I', rfl, q⟩
  rcases h with ⟨a, dx, fs, tv, rfl, ha, ty, q⟩ | ⟨a, dx, fs, tv, rfl, ha, ty, hne, q⟩
  · cases (show v = Value.ref a from rx)
    exact wpAny_mono (rc_own O F hb (A := X.A) ⟨hr, rfl⟩ I ha ty ry (Q := fun b H' => Q (.bl b) H') q) (fun v s' z => fin z) fun _ _ x => x
  · cases (show u = Value.ref a from ry)
    exact wpAny_mono (rc_back O F hb (A := X.A) ⟨hr, rfl⟩ I ha ty hne rx (Q := fun b H' => Q (.bl b) H') q) (fun v s' z => fin z) fun _ _ x => x
theorem op_neO (O : OEq X.K C f) (F : FnOk X.prog X.w X.K X.mg X.base CX0 n f fd ps sp) (hb : Binds X.K fd ps []) (hr : Room (n + 1) X.A) : OpR X (compareOp .NotEq) (rNeO X.K C sp) := by
  intro pins s σ H x y v u Q I rx ry h
  obtain ⟨a, dx, fs, tv, rfl, ha, ty, q⟩ := h
  cases (show v = Value.ref a from rx)
  refine wpAny_mono (rc_ownNe O F hb (A := X.A) ⟨hr, rfl⟩ I ha ty ry (Q := fun b H' => Q (.bl b) H') q) (fun v s' z => ?_) fun _ _ x => x
  obtain ⟨b, rfl, H', I', q⟩ := z
  exact ⟨.bl b, H', I', rfl, q⟩
/-- an own def that tells a text -/
structure OTx (K : PySem.W.Frag) (C f : Addr) (m : Str) : Prop where
  at_ : PySem.W.findIn K (.ref C) m = some (some (.ref f))
  fn : PySem.W.isFn K (.ref f) = true
def rTxO (C : Addr) (sp : Sp) : List V → Hp → VK → Prop := fun xs H Q => ∃ (a dx : Addr) (fs : List (Str × V)), xs = [.ref a] ∧ H a = some (.ins C dx fs) ∧ sp [.ref a] H (fun v H' => ∃ y : Str, v = .str y ∧ Q (.str y) H') E0
theorem strback {Q : VK} {v : Value} {s' : Shared} (h : EP X pins σ (fun v H' => ∃ y : Str, v = .str y ∧ Q (.str y) H') v s') : PySem.W.StrBack (EP X pins σ Q) v s' := by
  obtain ⟨z, H', I', rz, y, rfl, q⟩ := h
  obtain ⟨t, rfl⟩ := (show ∃ t, v = Value.str y t from rz)
  exact ⟨.str y, H', I', ⟨t, rfl⟩, q⟩
theorem call_reprO (O : OTx X.K C f "__repr__") (F : FnOk X.prog X.w X.K X.mg X.base CX0 n f fd ps sp) (hb : Binds X.K fd ps []) (hr : Room (n + 1) X.A) : CallR X (.builtin "repr") (rTxO C sp) := by
  intro pins s σ H xs us Q I rv h
  obtain ⟨a, dx, fs, rfl, ha, q⟩ := h
  cases rv with
  | cons e rr =>
    cases rr
    cases e
    obtain ⟨mA, J, _⟩ := ins_get I.hok ha
    obtain ⟨od, J, _⟩ := J.look
    obtain ⟨m, hF⟩ := I.fr
    exact PySem.W.repr_K hr.in1.units0 hF I.ok.mod.kin J O.at_ O.fn (wpAny_mono (own_callN F hb (A := X.A.in1) ⟨hr.in1, rfl⟩ (xs := [.ref a]) (us := [.ref a]) I (.cons rfl .nil) q) (fun v s' z => strback z) fun _ _ x => x)
theorem call_strO (O : OTx X.K C f "__str__") (F : FnOk X.prog X.w X.K X.mg X.base CX0 n f fd ps sp) (hb : Binds X.K fd ps []) (hr : Room (n + 2) X.A) : CallR X (.type "str") (rTxO C sp) := by
  intro pins s σ H xs us Q I rv h
  obtain ⟨a, dx, fs, rfl, ha, q⟩ := h
  cases rv with
  | cons e rr =>
    cases rr
    cases e
    obtain ⟨mA, J, _⟩ := ins_get I.hok ha
    obtain ⟨od, J, _⟩ := J.look
    have hr2 : Room n X.A.in1.in1 := (show Room (n + 1) X.A.in1 from Room.in1 hr).in1
    exact PySem.W.kso_call hr2.units0 I.kIn J O.at_ O.fn (wpAny_mono (own_callN F hb (A := X.A.in1.in1) ⟨hr2, rfl⟩ (xs := [.ref a]) (us := [.ref a]) I (.cons rfl .nil) q) (fun v s' z => strback z) fun _ _ x => x)
/-- {x!s} -/
def tFmtS (C : Addr) (sp : Sp) (te : TE) : TE := fun σ H Q => te σ H fun x H1 => ∃ (a dx : Addr) (fs : List (Str × V)), x = .ref a ∧ H1 a = some (.ins C dx fs) ∧ sp [.ref a] H1 (fun v H' => ∃ y : Str, v = .str y ∧ y.length ≤ sizeLine ∧ Q (.str y) H') E0
theorem pe_fmtS {e : Expr} {te : TE} {pos : Pos} (O : OTx X.K C f "__str__") (F : FnOk X.prog X.w X.K X.mg X.base CX0 n f fd ps sp) (hb : Binds X.K fd ps []) (hr : Room n X.A) (he : PE X e te) : PE X (.FormattedValue e 115 none pos) (tFmtS C sp te) := by
  refine ⟨fun pins s σ H Q I h => ?_⟩
  rw [arm_eval_FormattedValue]
  refine wpAny_bind (wpAny_mono (he.run pins s σ H _ I h) (fun v s1 hv => ?_) fun _ _ x => x)
  obtain ⟨x, H1, I1, r1, a, dx, fs, rfl, ha, q⟩ := hv
  cases (show v = Value.ref a from r1)
  refine wpAny_bind (wpAny_standAt ?_)
  show wpAny _ _ (do let v' ← holding [Value.ref a] (pyStrObj (Value.ref a)); formatField v' Str.empty) _ _ s1
  obtain ⟨mA, J, _⟩ := ins_get I1.hok ha
  obtain ⟨od, J, _⟩ := J.look
  refine wpAny_bind (wpAny_holding (PySem.W.kfo_str hr.units0 I1.kIn J O.at_ O.fn (wpAny_mono (own_callN F hb (A := X.A) ⟨hr, rfl⟩ (xs := [.ref a]) (us := [.ref a]) I1 (.cons rfl .nil) q) (fun v s' z => ?_) fun _ _ x => x)))
  obtain ⟨z, H', I', rz, y, rfl, hz, q⟩ := z
  obtain ⟨t, rfl⟩ := (show ∃ t, v = Value.str y t from rz)
  exact wpAny_formatField_str ⟨.str y, H', I', ⟨t, rfl⟩, q⟩ ⟨.str y, H', I'.tok _, ⟨_, rfl⟩, q⟩ hz
end
end OEQ
/-! ### an own __eq__, __str__, __repr__ by their promises; a class as a value -/
structure CEq (P : Program) (w : World) (K : PySem.W.Frag) (mg : Str → Option Value) (base : Heap) (C : Addr) (k : Nat) (sp : Sp) : Prop where
  ex : ∃ (f : Addr) (fd : FuncData), FnOk P w K mg base CX0 k f fd ["self", "other"] sp ∧ OEQ.OEq K C f ∧ Binds K fd ["self", "other"] []
structure CTx (P : Program) (w : World) (K : PySem.W.Frag) (mg : Str → Option Value) (base : Heap) (C : Addr) (k : Nat) (m : Str) (sp : Sp) : Prop where
  ex : ∃ (f : Addr) (fd : FuncData), FnOk P w K mg base CX0 k f fd ["self"] sp ∧ OEQ.OTx K C f m ∧ Binds K fd ["self"] []
section
variable (K : PySem.W.Frag) {X : Cx} {C : Addr} {k : Nat} {sp : Sp}
theorem kk_eqO (M : CEq X.prog X.w X.K X.mg X.base C k sp) (hr : Room k X.A) (h : X.K = K := by rfl) : OpR X (compareOp .Eq) (OEQ.rEqO K C sp) := by
  obtain ⟨f, fd, F, O, b⟩ := M.ex
  exact h ▸ OEQ.op_eqO O F b hr
theorem kk_neO (M : CEq X.prog X.w X.K X.mg X.base C k sp) (hr : Room (k + 1) X.A) (h : X.K = K := by rfl) : OpR X (compareOp .NotEq) (OEQ.rNeO K C sp) := by
  obtain ⟨f, fd, F, O, b⟩ := M.ex
  exact h ▸ OEQ.op_neO O F b hr
theorem kk_inO (M : CEq X.prog X.w X.K X.mg X.base C k sp) (hr : Room (k + 1) X.A) : OpR X (compareOp .In) (OEQ.rInO C sp) := by
  obtain ⟨f, fd, F, O, b⟩ := M.ex
  exact OEQ.op_inO O F b hr
theorem mt_countO (M : CEq X.prog X.w X.K X.mg X.base C k sp) (hr : Room (k + 1) X.A) : MtR X "list.count" (OEQ.rCountO C sp) := by
  obtain ⟨f, fd, F, O, b⟩ := M.ex
  exact OEQ.mt_countO O F b hr
theorem mt_indexO (M : CEq X.prog X.w X.K X.mg X.base C k sp) (hr : Room (k + 1) X.A) : MtR X "list.index" (OEQ.rIndexO C sp) := by
  obtain ⟨f, fd, F, O, b⟩ := M.ex
  exact OEQ.mt_indexO O F b hr
theorem kk_reprO (M : CTx X.prog X.w X.K X.mg X.base C k "__repr__" sp) (hr : Room (k + 1) X.A) : CallR X (.builtin "repr") (OEQ.rTxO C sp) := by
  obtain ⟨f, fd, F, O, b⟩ := M.ex
  exact OEQ.call_reprO O F b hr
theorem kk_strO (M : CTx X.prog X.w X.K X.mg X.base C k "__str__" sp) (hr : Room (k + 2) X.A) : CallR X (.type "str") (OEQ.rTxO C sp) := by
  obtain ⟨f, fd, F, O, b⟩ := M.ex
  exact OEQ.call_strO O F b hr
theorem pe_fmtSO {e : Expr} {te : TE} {pos : Pos} (M : CTx X.prog X.w X.K X.mg X.base C k "__str__" sp) (hr : Room k X.A) (he : PE X e te) : PE X (.FormattedValue e 115 none pos) (OEQ.tFmtS C sp te) := by
  obtain ⟨f, fd, F, O, b⟩ := M.ex
  exact OEQ.pe_fmtS O F b hr he
end
/-- the class at C, of the name x, as a value: what isinstance asks -/
structure TEq (K : PySem.W.Frag) (mg : Str → Option Value) (C : Addr) (x : Str) : Prop where
  g : mg x = some (.ref C)
  ca : PySem.W.findIn K (.ref C) "__class__" = some (some (.builtin "object.__class__"))
  cn : PySem.W.specialIn K (.builtin "object.__class__") "__get__" = some (some (.builtin "getset_descriptor.__get__"))
  ct : PySem.W.takesIn K (.builtin "object.__class__") = some true
  cm : PySem.W.mroIn K C (.type "object") = some true
  me : PySem.W.kitOne K (.ref C) (.ref C) = some true
  no : ∀ T ∈ (["int", "bool", "str", "NoneType", "list", "tuple"] : List String), PySem.W.kitOne K (.type T) (.ref C) = some false
theorem TEq.tyi {K : PySem.W.Frag} {mg : Str → Option Value} {C a dx : Addr} {x : Str} {H : Hp} {fs : List (Str × V)} (T : TEq K mg C x) (c : Cls K C) (h : H a = some (.ins C dx fs)) : TyX K H (.ref a) (.ref C) := .base (.ins h c T.ca T.cn T.ct T.cm)
theorem kit_self {K : PySem.W.Frag} {t : Addr} : PySem.W.kitOne K (.ref t) (.ref t) = some true := by
  unfold PySem.W.kitOne
  rw [if_pos (beq_self_eq_true _)]
theorem kit_tr {K : PySem.W.Frag} {T : String} {C : Addr} {b : Bool} (hc : PySem.W.isClsIn K C = true) (ht : PySem.W.typeIn K (.ref C) = some (.type "type")) (hs : PySem.W.subIn K (.type T) (.ref C) = some b) : PySem.W.kitOne K (.type T) (.ref C) = some b := by
  have h1 : (Value.type T == Value.ref C) = false := beq_eq_false_iff_ne.mpr fun e => nomatch e
  have h2 : ((PySem.W.clsIn K C).isSome && PySem.W.typeIn K (.ref C) == some (.type "type")) = true := by
    rw [show (PySem.W.clsIn K C).isSome = true from hc, ht]
    rfl
  unfold PySem.W.kitOne
  rw [h1, if_neg (by decide)]
  unfold PySem.W.kitCls
  dsimp only
  rw [if_pos h2]
  exact hs
theorem six_of {T : String} (h : T ∈ (["int", "bool", "str", "NoneType", "list", "tuple"] : List String)) : T = "int" ∨ T = "bool" ∨ T = "str" ∨ T = "NoneType" ∨ T = "list" ∨ T = "tuple" := by simpa using h
/-- of another kind: its type, and isinstance says no -/
theorem OEQ.TyV.tyx {K : PySem.W.Frag} {C : Addr} {H : Hp} {y : V} {tv : Value} (t : OEQ.TyV K C H y tv) (hne : tv ≠ .ref C) : ∃ T : String, tv = .type T ∧ T ∈ (["int", "bool", "str", "NoneType", "list", "tuple"] : List String) ∧ TyX K H y (.type T) := by
  cases t with
  | int i => exact ⟨_, rfl, by decide, .base (.int i)⟩
  | bl b => exact ⟨_, rfl, by decide, .base (.bl b)⟩
  | str x => exact ⟨_, rfl, by decide, .base (.str x)⟩
  | non => exact ⟨_, rfl, by decide, .base .non⟩
  | lst h =>
    rcases h with (h | ⟨o, h⟩) | ⟨o, its, n, hk, hc, _⟩
    · exact ⟨_, rfl, by decide, .base (.lst h)⟩
    · exact ⟨_, rfl, by decide, .base (.frz h)⟩
    · exact ⟨_, rfl, by decide, .kList hk hc⟩
  | tup h =>
    rcases h with (h | ⟨o, h⟩) | ⟨o, its, n, hk, hc, _⟩
    · exact ⟨_, rfl, by decide, .base (.tup h)⟩
    · exact ⟨_, rfl, by decide, .fTuple h⟩
    · exact ⟨_, rfl, by decide, .kTuple hk hc⟩
  | ins h => exact absurd rfl hne
def topS (i : Nat) : Stmt := PySem.Challenge.pw_partwares_k08_rules_alike.main.body.getD i (.Pass ⟨0, 0, 0, 0⟩)
section
variable {P : Program} {w : World} {K : PySem.W.Frag} {mg : Str → Option Value} {base : Heap}
/-! ### is_number_in -/
abbrev s_is_number_in : Stmt := topS 9
abbrev N_is_number_in : List Str := ["thing", "low", "high"]
theorem sc_is_number_in : FnScope N_is_number_in ["thing", "low", "high"] (defScope s_is_number_in) := ⟨rfl, rfl, rfl, by decide +kernel, rfl, by decide +kernel, by decide +kernel⟩
def sp_is_number_in (K : PySem.W.Frag) : Sp := fun vs H Q _ => ∃ (x : V) (d : PyData) (lo hi : Int), vs = [x, .int lo, .int hi] ∧ Dp K H x d ∧ Q (.bl (numIn d lo hi)) H
theorem ok_is_number_in {f : Addr} {fd : FuncData} (F : Fun K "is_number_in" "is_number_in" s_is_number_in f fd) (g : mg "is_number_in" = some (.ref f)) (bd : Binds K fd ["thing", "low", "high"] []) (m_isinstance : mg "isinstance" = none) (m_bool : mg "bool" = none) (m_int : mg "int" = none) : CF P w K mg base 1 "is_number_in" ["thing", "low", "high"] (sp_is_number_in K) := by
  refine ⟨f, fd, F.ok sc_is_number_in (fun vs H Q E h => ?_) (fun cdv A outer s H vs Q E hr h => ?_), g, F.kp, bd⟩
  · first | (obtain ⟨_, rfl, _⟩ := h; rfl) | (obtain ⟨_, _, rfl, _⟩ := h; rfl) | (obtain ⟨_, _, _, rfl, _⟩ := h; rfl) | (obtain ⟨_, _, _, _, rfl, _⟩ := h; rfl) | (obtain ⟨_, _, _, _, _, rfl, _⟩ := h; rfl) | (obtain ⟨_, _, _, _, _, _, rfl, _⟩ := h; rfl) | (obtain ⟨_, _, _, _, _, _, _, rfl, _⟩ := h; rfl) | (obtain ⟨_, _, _, _, _, _, _, _, rfl, _⟩ := h; rfl) | (obtain ⟨_, _, _, _, _, _, _, _, _, rfl, _⟩ := h; rfl) | (obtain ⟨_, _, _, _, _, _, _, _, _, _, rfl, _⟩ := h; rfl) | (obtain ⟨_, _, _, _, _, _, _, _, _, _, _, rfl, _⟩ := h; rfl) | (obtain ⟨_, _, _, _, _, _, _, _, _, _, _, _, rfl, _⟩ := h; rfl) | (obtain ⟨_, _, _, _, _, _, _, _, _, _, _, _, _, rfl, _⟩ := h; rfl) | (obtain ⟨_, _, _, _, _, _, _, _, _, _, _, _, _, _, rfl, _⟩ := h; rfl) | (obtain ⟨_, _, _, _, _, _, _, _, _, _, _, _, _, _, _, rfl, _⟩ := h; rfl)
  · have hu64 := hr.units
    obtain ⟨x, d, lo, hi, rfl, hd, q⟩ := h
    refine ⟨_, (pss_one (ps_ret (pe_and (pe_callB (kk_isi K) (by rfl) m_isinstance (by decide +kernel) (pa_cons (pv 0) (pa_cons (pe_bltn (v := .ty "int") (by rfl) m_int (by decide +kernel) rfl) pa_nil))) (pe_and (pe_not (pe_callB (kk_isi K) (by rfl) m_isinstance (by decide +kernel) (pa_cons (pv 0) (pa_cons (pe_bltn (v := .ty "bool") (by rfl) m_bool (by decide +kernel) rfl) pa_nil)))) (pe_one (pe_chain op_le op_le (pv 1) (pv 0) (pv 2))))))), ?_⟩
    have k1 := kit_d (K := K) (T := "int") (by decide) d
    have k2 := kit_d (K := K) (T := "bool") (by decide) d
    have ty := ty_of_dp hd
    refine ⟨_, rfl, _, _, _, _, _, rfl, .ty _, ty, k1, _, rfl, ?_⟩
    cases hd with
    | int i =>
      refine iteT ⟨_, rfl, _, _, _, _, _, rfl, .ty _, ty, k2, _, rfl, _, rfl, iteT ⟨_, rfl, _, rfl, _, _, rfl, rfl, _, rfl, ?_⟩⟩
      have e : numIn (.int i) lo hi = (decide (lo ≤ i) && decide (i ≤ hi)) := rfl
      rw [e] at q
      by_cases h1 : lo ≤ i
      · rw [decide_eq_true h1] at q ⊢
        exact iteT ⟨_, rfl, _, _, rfl, rfl, q⟩
      · rw [decide_eq_false h1] at q ⊢
        exact iteF q
    | bl b => exact iteT ⟨_, rfl, _, _, _, _, _, rfl, .ty _, ty, k2, _, rfl, _, rfl, iteF q⟩
    | non => exact iteF q
    | str z => exact iteF q
    | lst a b => exact iteF q
    | tup a b => exact iteF q
/-! ### may_be_kept -/
abbrev s_may_be_kept : Stmt := topS 13
abbrev N_may_be_kept : List Str := ["keep", "parts", "percent"]
theorem sc_may_be_kept : FnScope N_may_be_kept ["keep", "parts"] (defScope s_may_be_kept) := ⟨rfl, rfl, rfl, by decide +kernel, rfl, by decide +kernel, by decide +kernel⟩
def sp_may_be_kept (K : PySem.W.Frag) : Sp := fun vs H Q _ => ∃ (x y : V) (d e : PyData), vs = [x, y] ∧ Dp K H x d ∧ Dp K H y e ∧ SeqAt.shaped e = true ∧ (∀ ds, d = .tuple ds → ds.length ≤ 1000) ∧ ∀ H', Same H H' → Q (.bl (keptOk d e)) H'
theorem ok_may_be_kept {f : Addr} {fd : FuncData} (F : Fun K "may_be_kept" "may_be_kept" s_may_be_kept f fd) (g : mg "may_be_kept" = some (.ref f)) (bd : Binds K fd ["keep", "parts"] []) (m_isinstance : mg "isinstance" = none) (m_tuple : mg "tuple" = none) (m_all : mg "all" = none) (m_len : mg "len" = none) (C_is_number_in : CF P w K mg base 1 "is_number_in" ["thing", "low", "high"] (sp_is_number_in K)) : CF P w K mg base 2 "may_be_kept" ["keep", "parts"] (sp_may_be_kept K) := by
  refine ⟨f, fd, F.ok sc_may_be_kept (fun vs H Q E h => ?_) (fun cdv A outer s H vs Q E hr h => ?_), g, F.kp, bd⟩
  · first | (obtain ⟨_, rfl, _⟩ := h; rfl) | (obtain ⟨_, _, rfl, _⟩ := h; rfl) | (obtain ⟨_, _, _, rfl, _⟩ := h; rfl) | (obtain ⟨_, _, _, _, rfl, _⟩ := h; rfl) | (obtain ⟨_, _, _, _, _, rfl, _⟩ := h; rfl) | (obtain ⟨_, _, _, _, _, _, rfl, _⟩ := h; rfl) | (obtain ⟨_, _, _, _, _, _, _, rfl, _⟩ := h; rfl) | (obtain ⟨_, _, _, _, _, _, _, _, rfl, _⟩ := h; rfl) | (obtain ⟨_, _, _, _, _, _, _, _, _, rfl, _⟩ := h; rfl) | (obtain ⟨_, _, _, _, _, _, _, _, _, _, rfl, _⟩ := h; rfl) | (obtain ⟨_, _, _, _, _, _, _, _, _, _, _, rfl, _⟩ := h; rfl) | (obtain ⟨_, _, _, _, _, _, _, _, _, _, _, _, rfl, _⟩ := h; rfl) | (obtain ⟨_, _, _, _, _, _, _, _, _, _, _, _, _, rfl, _⟩ := h; rfl) | (obtain ⟨_, _, _, _, _, _, _, _, _, _, _, _, _, _, rfl, _⟩ := h; rfl) | (obtain ⟨_, _, _, _, _, _, _, _, _, _, _, _, _, _, _, rfl, _⟩ := h; rfl)
  · have hu64 := hr.units
    obtain ⟨x, y, d, e, rfl, hd, he, sh, hz, q⟩ := h
    refine ⟨_, (pss_cons (ps_if (pt_not (pt_val (pe_callB (kk_isi K) (by rfl) m_isinstance (by decide +kernel) (pa_cons (pv 0) (pa_cons (pe_bltn (v := .ty "tuple") (by rfl) m_tuple (by decide +kernel) rfl) pa_nil)))))
         (pss_one (ps_ret (pe_cf C_is_number_in (hr.mono (by decide)) (by rfl) (pa_cons (pv 0) (pa_cons pe_int (pa_cons pe_int pa_nil))))))
         pss_nil)
      (pss_one (ps_ret (pe_and (pe_cmpR (kk_eqD K hu64) (pe_callB (kk_len K) (by rfl) m_len PySem.boot_len (pa_cons (pv 0) pa_nil)) (pv 1) (nomark _)) (pe_one (pe_callB (kk_all K rfl) (by rfl) m_all (by decide +kernel) (pa_cons (pe_lc (own := [("percent", 2)]) (g := (gName 2)) (tt := tYes) rfl sc_may_be_kept.nd (pi_tup (pv 0)) (blkOk_by (own := [("percent", 2)]) (N := N_may_be_kept) (sc := defScope s_may_be_kept) (by decide +kernel)) (fun _ _ _ _ _ => pg_name (i := 2) sc_may_be_kept.nd rfl (Or.inl rfl)) (fun _ _ _ _ _ => pts_nil) (fun _ _ _ _ _ => (pe_cf C_is_number_in (hr.mono (by decide)) (by rfl) (pa_cons (pv 2) (pa_cons pe_int (pa_cons pe_int pa_nil)))))) pa_nil))))))), ?_⟩
    have k1 := kit_d (K := K) (T := "tuple") (by decide) d
    have ty := ty_of_dp hd
    refine ⟨_, rfl, _, _, _, _, _, rfl, .ty _, ty, k1, _, rfl, ?_⟩
    have other : isK "tuple" d = false → keptOk d e = numIn d 0 100 := fun h => by
      cases d with
      | tuple ds => cases h
      | _ => rfl
    cases hd with
    | @tup a xs ds hS hA =>
      refine iteF ?_
      have hlen := dpAll_len hA
      have hl := hz ds rfl
      refine ⟨_, rfl, a, _, rfl, .inr hS, _, rfl, _, _, .int _, he, sh_int _, sh, _, rfl, ?_⟩
      have e2 : keptOk (.tuple ds) e = (PyData.eqv (.int (xs.length : Int)) e && ds.all fun d => numIn d 0 100) := by
        rw [hlen]
        rfl
      rw [e2] at q
      cases hq : PyData.eqv (.int (xs.length : Int)) e with
      | false =>
        rw [hq] at q
        exact iteF (q H (Same.refl H))
      | true =>
        rw [hq] at q
        refine iteT ⟨_, rfl, a, rfl, ⟨_, hS⟩, fun D hD => lc_tup (K := K) (a := a) (xs := xs) (fun i H' => Same H H' ∧ H' D = some (.lst (((ds.take i).map fun d => numIn d 0 100).map V.bl))) ⟨same_new hD, upd_same⟩ (fun i H' _ h => seqT_same h.1 hS) (fun i x H' hx h => ?_) (fun H' h => ?_)⟩
        · obtain ⟨d, hd1, hd2⟩ := dpAll_get hA hx
          have hi : i < ds.length := (List.getElem?_eq_some_iff.mp hd1).1
          refine ⟨rfl, _, rfl, x, d, 0, 100, rfl, dp_same h.1 hd2, _, h.2, ?_, ?_, ?_⟩
          · rw [List.length_map, List.length_map, List.length_take]
            exact small1000 (by omega)
          · exact fun c o e => by
              rw [upd_ne (ne_of_none e hD)]
              exact h.1 _ _ e
          · rw [upd_same, List.take_add_one, hd1, Option.toList_some, List.map_append, List.map_append]
            rfl
        · obtain ⟨s1, h1⟩ := h
          rw [hlen, List.take_of_length_le (Nat.le_refl _)] at h1
          refine ⟨D, _, rfl, SqL.of h1, ?_⟩
          have e3 : (ds.map fun d => numIn d 0 100).all id = ds.all fun d => numIn d 0 100 := by
            rw [List.all_map]
            rfl
          rw [e3]
          exact q _ s1
    | non => exact iteT ⟨_, rfl, _, _, 0, 100, rfl, .non, by rw [← other rfl]; exact q H (Same.refl H)⟩
    | bl b => exact iteT ⟨_, rfl, _, _, 0, 100, rfl, .bl b, by rw [← other rfl]; exact q H (Same.refl H)⟩
    | int i => exact iteT ⟨_, rfl, _, _, 0, 100, rfl, .int i, by rw [← other rfl]; exact q H (Same.refl H)⟩
    | str z => exact iteT ⟨_, rfl, _, _, 0, 100, rfl, .str z, by rw [← other rfl]; exact q H (Same.refl H)⟩
    | lst a b => exact iteT ⟨_, rfl, _, _, 0, 100, rfl, .lst a b, by rw [← other rfl]; exact q H (Same.refl H)⟩
/-! ### wrong_figure -/
abbrev s_wrong_figure : Stmt := topS 12
abbrev N_wrong_figure : List Str := ["parts", "step", "grace", "last", "misses", "keep", "fine", "falls", "back", "checks", "word", "right"]
theorem sc_wrong_figure : FnScope N_wrong_figure ["parts", "step", "grace", "last", "misses", "keep", "fine", "falls", "back"] (defScope s_wrong_figure) := ⟨rfl, rfl, rfl, by decide +kernel, rfl, by decide +kernel, by decide +kernel⟩
def figChecks (d1 d2 d3 d4 d5 d6 d7 d8 d9 : PyData) : List (Str × Bool) :=
  [(Str.ofString "parts", numIn d1 1 6), (Str.ofString "step", numIn d2 1 14), (Str.ofString "grace", numIn d3 0 7), (Str.ofString "last", isK "bool" d4), (Str.ofString "misses", numIn d5 0 2), (Str.ofString "keep", keptOk d6 d1), (Str.ofString "fine", numIn d7 0 100), (Str.ofString "falls", numIn d8 0 30), (Str.ofString "back", numIn d9 0 30)]
def sp_wrong_figure (K : PySem.W.Frag) : Sp := fun vs H Q _ => ∃ (x1 x2 x3 x4 x5 x6 x7 x8 x9 : V) (d1 d2 d3 d4 d5 d6 d7 d8 d9 : PyData), vs = [x1, x2, x3, x4, x5, x6, x7, x8, x9] ∧ (Dp K H x1 d1 ∧ Dp K H x2 d2 ∧ Dp K H x3 d3 ∧ Dp K H x4 d4 ∧ Dp K H x5 d5 ∧ Dp K H x6 d6 ∧ Dp K H x7 d7 ∧ Dp K H x8 d8 ∧ Dp K H x9 d9) ∧ SeqAt.shaped d1 = true ∧ (∀ ds, d6 = .tuple ds → ds.length ≤ 1000) ∧ ∀ H', Same H H' → Q (firstWrong (figChecks d1 d2 d3 d4 d5 d6 d7 d8 d9)) H'
theorem at9_of {HH : Hp} {t1 t2 t3 t4 t5 t6 t7 t8 t9 : Addr} {p1 p2 p3 p4 p5 p6 p7 p8 p9 : Str × Bool} (c1 : HH t1 = some (.tup [.str p1.1, .bl p1.2])) (c2 : HH t2 = some (.tup [.str p2.1, .bl p2.2])) (c3 : HH t3 = some (.tup [.str p3.1, .bl p3.2])) (c4 : HH t4 = some (.tup [.str p4.1, .bl p4.2])) (c5 : HH t5 = some (.tup [.str p5.1, .bl p5.2])) (c6 : HH t6 = some (.tup [.str p6.1, .bl p6.2])) (c7 : HH t7 = some (.tup [.str p7.1, .bl p7.2])) (c8 : HH t8 = some (.tup [.str p8.1, .bl p8.2])) (c9 : HH t9 = some (.tup [.str p9.1, .bl p9.2])) : ∀ (j : Nat) (t : Addr) (p : Str × Bool), [t1, t2, t3, t4, t5, t6, t7, t8, t9][j]? = some t → [p1, p2, p3, p4, p5, p6, p7, p8, p9][j]? = some p → HH t = some (.tup [.str p.1, .bl p.2]) := fun j t p ht hp => by
  match j, ht, hp with
  | 0, ht, hp => cases ht; cases hp; exact c1
  | 1, ht, hp => cases ht; cases hp; exact c2
  | 2, ht, hp => cases ht; cases hp; exact c3
  | 3, ht, hp => cases ht; cases hp; exact c4
  | 4, ht, hp => cases ht; cases hp; exact c5
  | 5, ht, hp => cases ht; cases hp; exact c6
  | 6, ht, hp => cases ht; cases hp; exact c7
  | 7, ht, hp => cases ht; cases hp; exact c8
  | 8, ht, hp => cases ht; cases hp; exact c9
  | n + 9, ht, hp => cases ht
theorem pick9 {ts : List Addr} {ws : List (Str × Bool)} {H : Hp} {i : Nat} {x : V} (hl : ts.length = ws.length) (h : ∀ (j : Nat) (t : Addr) (p : Str × Bool), ts[j]? = some t → ws[j]? = some p → H t = some (.tup [.str p.1, .bl p.2])) (hx : (ts.map V.ref)[i]? = some x) : ∃ t p, x = .ref t ∧ ws[i]? = some p ∧ H t = some (.tup [.str p.1, .bl p.2]) := by
  rw [List.getElem?_map] at hx
  obtain ⟨t, ht, rfl⟩ := Option.map_eq_some_iff.mp hx
  have hi : i < ws.length := by
    rw [← hl]
    exact (List.getElem?_eq_some_iff.mp ht).1
  exact ⟨t, ws[i], rfl, List.getElem?_eq_getElem hi, h i t _ ht (List.getElem?_eq_getElem hi)⟩
theorem ok_wrong_figure {f : Addr} {fd : FuncData} (F : Fun K "wrong_figure" "wrong_figure" s_wrong_figure f fd) (g : mg "wrong_figure" = some (.ref f)) (bd : Binds K fd ["parts", "step", "grace", "last", "misses", "keep", "fine", "falls", "back"] []) (m_isinstance : mg "isinstance" = none) (m_bool : mg "bool" = none) (C_is_number_in : CF P w K mg base 1 "is_number_in" ["thing", "low", "high"] (sp_is_number_in K)) (C_may_be_kept : CF P w K mg base 2 "may_be_kept" ["keep", "parts"] (sp_may_be_kept K)) : CF P w K mg base 3 "wrong_figure" ["parts", "step", "grace", "last", "misses", "keep", "fine", "falls", "back"] (sp_wrong_figure K) := by
  refine ⟨f, fd, F.ok sc_wrong_figure (fun vs H Q E h => ?_) (fun cdv A outer s H vs Q E hr h => ?_), g, F.kp, bd⟩
  · first | (obtain ⟨_, rfl, _⟩ := h; rfl) | (obtain ⟨_, _, rfl, _⟩ := h; rfl) | (obtain ⟨_, _, _, rfl, _⟩ := h; rfl) | (obtain ⟨_, _, _, _, rfl, _⟩ := h; rfl) | (obtain ⟨_, _, _, _, _, rfl, _⟩ := h; rfl) | (obtain ⟨_, _, _, _, _, _, rfl, _⟩ := h; rfl) | (obtain ⟨_, _, _, _, _, _, _, rfl, _⟩ := h; rfl) | (obtain ⟨_, _, _, _, _, _, _, _, rfl, _⟩ := h; rfl) | (obtain ⟨_, _, _, _, _, _, _, _, _, rfl, _⟩ := h; rfl) | (obtain ⟨_, _, _, _, _, _, _, _, _, _, rfl, _⟩ := h; rfl) | (obtain ⟨_, _, _, _, _, _, _, _, _, _, _, rfl, _⟩ := h; rfl) | (obtain ⟨_, _, _, _, _, _, _, _, _, _, _, _, rfl, _⟩ := h; rfl) | (obtain ⟨_, _, _, _, _, _, _, _, _, _, _, _, _, rfl, _⟩ := h; rfl) | (obtain ⟨_, _, _, _, _, _, _, _, _, _, _, _, _, _, rfl, _⟩ := h; rfl) | (obtain ⟨_, _, _, _, _, _, _, _, _, _, _, _, _, _, _, rfl, _⟩ := h; rfl) | (obtain ⟨_, _, _, _, _, _, _, _, _, _, _, _, _, _, _, _, rfl, _⟩ := h; rfl) | (obtain ⟨_, _, _, _, _, _, _, _, _, _, _, _, _, _, _, _, _, rfl, _⟩ := h; rfl) | (obtain ⟨_, _, _, _, _, _, _, _, _, _, _, _, _, _, _, _, _, _, rfl, _⟩ := h; rfl) | (obtain ⟨_, _, _, _, _, _, _, _, _, _, _, _, _, _, _, _, _, _, _, rfl, _⟩ := h; rfl) | (obtain ⟨_, _, _, _, _, _, _, _, _, _, _, _, _, _, _, _, _, _, _, _, rfl, _⟩ := h; rfl) | (obtain ⟨_, _, _, _, _, _, _, _, _, _, _, _, _, _, _, _, _, _, _, _, _, rfl, _⟩ := h; rfl) | (obtain ⟨_, _, _, _, _, _, _, _, _, _, _, _, _, _, _, _, _, _, _, _, _, _, rfl, _⟩ := h; rfl) | (obtain ⟨_, _, _, _, _, _, _, _, _, _, _, _, _, _, _, _, _, _, _, _, _, _, _, rfl, _⟩ := h; rfl)
  · have hu64 := hr.units
    obtain ⟨x1, x2, x3, x4, x5, x6, x7, x8, x9, d1, d2, d3, d4, d5, d6, d7, d8, d9, rfl, ⟨h1, h2, h3, h4, h5, h6, h7, h8, h9⟩, sh, hz, q⟩ := h
    refine ⟨_, (pss_cons (ps_set (i := 9) sc_wrong_figure.nd rfl (.inl rfl) (pe_lst (pa_cons (pe_tup (pa_cons pe_str (pa_cons (pe_cf C_is_number_in (hr.mono (by decide)) (by rfl) (pa_cons (pv 0) (pa_cons pe_int (pa_cons pe_int pa_nil)))) pa_nil))) (pa_cons (pe_tup (pa_cons pe_str (pa_cons (pe_cf C_is_number_in (hr.mono (by decide)) (by rfl) (pa_cons (pv 1) (pa_cons pe_int (pa_cons pe_int pa_nil)))) pa_nil))) (pa_cons (pe_tup (pa_cons pe_str (pa_cons (pe_cf C_is_number_in (hr.mono (by decide)) (by rfl) (pa_cons (pv 2) (pa_cons pe_int (pa_cons pe_int pa_nil)))) pa_nil))) (pa_cons (pe_tup (pa_cons pe_str (pa_cons (pe_callB (kk_isi K) (by rfl) m_isinstance (by decide +kernel) (pa_cons (pv 3) (pa_cons (pe_bltn (v := .ty "bool") (by rfl) m_bool (by decide +kernel) rfl) pa_nil))) pa_nil))) (pa_cons (pe_tup (pa_cons pe_str (pa_cons (pe_cf C_is_number_in (hr.mono (by decide)) (by rfl) (pa_cons (pv 4) (pa_cons pe_int (pa_cons pe_int pa_nil)))) pa_nil))) (pa_cons (pe_tup (pa_cons pe_str (pa_cons (pe_cf C_may_be_kept (hr.mono (by decide)) (by rfl) (pa_cons (pv 5) (pa_cons (pv 0) pa_nil))) pa_nil))) (pa_cons (pe_tup (pa_cons pe_str (pa_cons (pe_cf C_is_number_in (hr.mono (by decide)) (by rfl) (pa_cons (pv 6) (pa_cons pe_int (pa_cons pe_int pa_nil)))) pa_nil))) (pa_cons (pe_tup (pa_cons pe_str (pa_cons (pe_cf C_is_number_in (hr.mono (by decide)) (by rfl) (pa_cons (pv 7) (pa_cons pe_int (pa_cons pe_int pa_nil)))) pa_nil))) (pa_cons (pe_tup (pa_cons pe_str (pa_cons (pe_cf C_is_number_in (hr.mono (by decide)) (by rfl) (pa_cons (pv 8) (pa_cons pe_int (pa_cons pe_int pa_nil)))) pa_nil))) pa_nil)))))))))))
      (pss_cons (ps_for PassesOwn.never rfl (pi_list (pv 9)) (pg_tup (by rfl) (pgs_cons (pg_name (i := 10) sc_wrong_figure.nd rfl (.inl rfl)) (pgs_cons (pg_name (i := 11) sc_wrong_figure.nd rfl (.inl rfl)) pgs_nil)))
         (pss_one (ps_if (pt_not (pt_val (pv 11)))
             (pss_one (ps_ret (pv 10)))
             pss_nil)))
      (pss_one (ps_ret pe_non)))), ?_⟩
    have k4 := kit_d (K := K) (T := "bool") (by decide) d4
    refine ⟨_, rfl, x1, d1, 1, 6, rfl, h1, (by show 2 ≤ sizeLine; decide), fun t1 n1 => ?_⟩
    have s1 := same_new (o := .tup [.str (Str.ofString "parts"), .bl (numIn d1 1 6)]) n1
    refine ⟨_, rfl, x2, d2, 1, 14, rfl, dp_same s1 h2, (by show 2 ≤ sizeLine; decide), fun t2 n2 => ?_⟩
    have s2 := s1.trans (same_new (o := .tup [.str (Str.ofString "step"), .bl (numIn d2 1 14)]) n2)
    refine ⟨_, rfl, x3, d3, 0, 7, rfl, dp_same s2 h3, (by show 2 ≤ sizeLine; decide), fun t3 n3 => ?_⟩
    have s3 := s2.trans (same_new (o := .tup [.str (Str.ofString "grace"), .bl (numIn d3 0 7)]) n3)
    refine ⟨_, rfl, _, _, _, _, _, rfl, .ty _, ty_of_dp (dp_same s3 h4), k4, (by show 2 ≤ sizeLine; decide), fun t4 n4 => ?_⟩
    have s4 := s3.trans (same_new (o := .tup [.str (Str.ofString "last"), .bl (isK "bool" d4)]) n4)
    refine ⟨_, rfl, x5, d5, 0, 2, rfl, dp_same s4 h5, (by show 2 ≤ sizeLine; decide), fun t5 n5 => ?_⟩
    have s5 := s4.trans (same_new (o := .tup [.str (Str.ofString "misses"), .bl (numIn d5 0 2)]) n5)
    refine ⟨_, rfl, _, rfl, x6, x1, d6, d1, rfl, dp_same s5 h6, dp_same s5 h1, sh, hz, fun G g => ⟨(by show 2 ≤ sizeLine; decide), fun t6 n6 => ?_⟩⟩
    have s6 := (s5.trans g).trans (same_new (o := .tup [.str (Str.ofString "keep"), .bl (keptOk d6 d1)]) n6)
    refine ⟨_, rfl, x7, d7, 0, 100, rfl, dp_same s6 h7, (by show 2 ≤ sizeLine; decide), fun t7 n7 => ?_⟩
    have s7 := s6.trans (same_new (o := .tup [.str (Str.ofString "fine"), .bl (numIn d7 0 100)]) n7)
    refine ⟨_, rfl, x8, d8, 0, 30, rfl, dp_same s7 h8, (by show 2 ≤ sizeLine; decide), fun t8 n8 => ?_⟩
    have s8 := s7.trans (same_new (o := .tup [.str (Str.ofString "falls"), .bl (numIn d8 0 30)]) n8)
    refine ⟨_, rfl, x9, d9, 0, 30, rfl, dp_same s8 h9, (by show 2 ≤ sizeLine; decide), fun t9 n9 => ?_⟩
    have s9 := s8.trans (same_new (o := .tup [.str (Str.ofString "back"), .bl (numIn d9 0 30)]) n9)
    refine ⟨(by show 9 ≤ sizeLine; decide), fun L nL => ?_⟩
    have sL := same_new (o := .lst [.ref t1, .ref t2, .ref t3, .ref t4, .ref t5, .ref t6, .ref t7, .ref t8, .ref t9]) nL
    have c9 := sL _ _ (upd_same (a := t9) (o := .tup [.str (Str.ofString "back"), .bl (numIn d9 0 30)]))
    have m9 := (same_new (o := .tup [.str (Str.ofString "back"), .bl (numIn d9 0 30)]) n9).trans sL
    have c8 := m9 _ _ (upd_same (a := t8) (o := .tup [.str (Str.ofString "falls"), .bl (numIn d8 0 30)]))
    have m8 := (same_new (o := .tup [.str (Str.ofString "falls"), .bl (numIn d8 0 30)]) n8).trans m9
    have c7 := m8 _ _ (upd_same (a := t7) (o := .tup [.str (Str.ofString "fine"), .bl (numIn d7 0 100)]))
    have m7 := (same_new (o := .tup [.str (Str.ofString "fine"), .bl (numIn d7 0 100)]) n7).trans m8
    have c6 := m7 _ _ (upd_same (a := t6) (o := .tup [.str (Str.ofString "keep"), .bl (keptOk d6 d1)]))
    have m6 := (g.trans (same_new (o := .tup [.str (Str.ofString "keep"), .bl (keptOk d6 d1)]) n6)).trans m7
    have c5 := m6 _ _ (upd_same (a := t5) (o := .tup [.str (Str.ofString "misses"), .bl (numIn d5 0 2)]))
    have m5 := (same_new (o := .tup [.str (Str.ofString "misses"), .bl (numIn d5 0 2)]) n5).trans m6
    have c4 := m5 _ _ (upd_same (a := t4) (o := .tup [.str (Str.ofString "last"), .bl (isK "bool" d4)]))
    have m4 := (same_new (o := .tup [.str (Str.ofString "last"), .bl (isK "bool" d4)]) n4).trans m5
    have c3 := m4 _ _ (upd_same (a := t3) (o := .tup [.str (Str.ofString "grace"), .bl (numIn d3 0 7)]))
    have m3 := (same_new (o := .tup [.str (Str.ofString "grace"), .bl (numIn d3 0 7)]) n3).trans m4
    have c2 := m3 _ _ (upd_same (a := t2) (o := .tup [.str (Str.ofString "step"), .bl (numIn d2 1 14)]))
    have m2 := (same_new (o := .tup [.str (Str.ofString "step"), .bl (numIn d2 1 14)]) n2).trans m3
    have c1 := m2 _ _ (upd_same (a := t1) (o := .tup [.str (Str.ofString "parts"), .bl (numIn d1 1 6)]))
    have at9 := at9_of (p1 := (Str.ofString "parts", numIn d1 1 6)) (p2 := (Str.ofString "step", numIn d2 1 14)) (p3 := (Str.ofString "grace", numIn d3 0 7)) (p4 := (Str.ofString "last", isK "bool" d4)) (p5 := (Str.ofString "misses", numIn d5 0 2)) (p6 := (Str.ofString "keep", keptOk d6 d1)) (p7 := (Str.ofString "fine", numIn d7 0 100)) (p8 := (Str.ofString "falls", numIn d8 0 30)) (p9 := (Str.ofString "back", numIn d9 0 30)) c1 c2 c3 c4 c5 c6 c7 c8 c9
    have sAll := s9.trans sL
    refine ⟨_, rfl, L, rfl, ⟨_, SqL.of upd_same⟩, for_list (K := K) (a := L) (xs := [t1, t2, t3, t4, t5, t6, t7, t8, t9].map V.ref) (fun i σ H' => ∃ s10 s11, σ = [some x1, some x2, some x3, some x4, some x5, some x6, some x7, some x8, some x9, some (.ref L), s10, s11] ∧ Same H H' ∧ H' L = some (.lst [.ref t1, .ref t2, .ref t3, .ref t4, .ref t5, .ref t6, .ref t7, .ref t8, .ref t9]) ∧ (∀ (j : Nat) (t : Addr) (p : Str × Bool), [t1, t2, t3, t4, t5, t6, t7, t8, t9][j]? = some t → (figChecks d1 d2 d3 d4 d5 d6 d7 d8 d9)[j]? = some p → H' t = some (.tup [.str p.1, .bl p.2])) ∧ ∀ p ∈ (figChecks d1 d2 d3 d4 d5 d6 d7 d8 d9).take i, p.2 = true) ⟨_, _, rfl, sAll, upd_same, at9, fun p hp => (nomatch hp)⟩ (fun i σ H' _ h => by obtain ⟨_, _, _, _, h, _⟩ := h; exact SqL.of h) (fun i x σ H' hx h => ?_) (fun σ H' h => ?_)⟩
    · obtain ⟨s10, s11, rfl, sm, eL, hat, hall⟩ := h
      obtain ⟨t, p, rfl, hp, ht⟩ := pick9 (ws := figChecks d1 d2 d3 d4 d5 d6 d7 d8 d9) rfl hat hx
      refine ⟨t, _, rfl, .inl (.inl ht), rfl, _, _, rfl, _, _, rfl, rfl, ?_⟩
      obtain ⟨w', b⟩ := p
      cases b with
      | false =>
        refine ⟨_, rfl, _, rfl, iteT ⟨_, rfl, ?_⟩⟩
        rw [← firstWrong_at hall hp]
        exact q _ sm
      | true =>
        refine ⟨_, rfl, _, rfl, iteF ⟨_, _, rfl, sm, eL, hat, fun p' hp' => ?_⟩⟩
        rw [List.take_add_one, hp] at hp'
        rcases List.mem_append.mp hp' with z | z
        · exact hall p' z
        · rw [List.mem_singleton.mp z]
    · obtain ⟨s10, s11, rfl, sm, _, _, hall⟩ := h
      have hf : firstWrong (figChecks d1 d2 d3 d4 d5 d6 d7 d8 d9) = .non := firstWrong_none fun p hp => hall p hp
      rw [hf] at q
      exact q _ sm
/-! ### a rule in the heap -/
structure TRule (K : PySem.W.Frag) (mg : Str → Option Value) (C : Addr) : Prop where
  cl : Cls K C
  n1 : NoAttr K C "parts"
  n2 : NoAttr K C "step"
  n3 : NoAttr K C "grace"
  n4 : NoAttr K C "last"
  n5 : NoAttr K C "misses"
  n6 : NoAttr K C "keep"
  n7 : NoAttr K C "fine"
  n8 : NoAttr K C "falls"
  n9 : NoAttr K C "back"
def ruleF (p s g : Int) (l : Bool) (m : Int) (kt : Addr) (fi fa ba : Int) : List (Str × V) := [("parts", .int p), ("step", .int s), ("grace", .int g), ("last", .bl l), ("misses", .int m), ("keep", .ref kt), ("fine", .int fi), ("falls", .int fa), ("back", .int ba)]
theorem putF_new {f : Str} {v : V} : ∀ {fs : List (Str × V)}, (∀ q ∈ fs, q.1 ≠ f) → putF f v fs = fs ++ [(f, v)]
  | [], _ => rfl
  | (g, x) :: r, h => by
    show (if g = f then (g, v) :: r else (g, x) :: putF f v r) = _
    rw [if_neg (h (g, x) List.mem_cons_self), putF_new fun q hq => h q (List.mem_cons_of_mem _ hq)]
    rfl
theorem unlike9 : (["parts", "step", "grace", "last", "misses", "keep", "fine", "falls", "back"] : List Str).Nodup := by decide +kernel
theorem putF_len (f : Str) (v : V) : ∀ fs : List (Str × V), (putF f v fs).length ≤ fs.length + 1
  | [] => Nat.le_refl _
  | (g, x) :: r => by
    show (if g = f then (g, v) :: r else (g, x) :: putF f v r).length ≤ _
    have := putF_len f v r
    split
    · simp
    · rw [List.length_cons, List.length_cons]
      omega
theorem put_lt {f : Str} {v : V} {fs : List (Str × V)} {n : Nat} (h : fs.length ≤ n) : (putF f v fs).length ≤ n + 1 := Nat.le_trans (putF_len f v fs) (by omega)
theorem ruleF_eq (p s g : Int) (l : Bool) (m : Int) (kt : Addr) (fi fa ba : Int) : putF "back" (.int ba) (putF "falls" (.int fa) (putF "fine" (.int fi) (putF "keep" (.ref kt) (putF "misses" (.int m) (putF "last" (.bl l) (putF "grace" (.int g) (putF "step" (.int s) (putF "parts" (.int p) [])))))))) = ruleF p s g l m kt fi fa ba := by
  have nd := unlike9
  simp only [List.nodup_cons, List.mem_cons, List.not_mem_nil, or_false, not_or] at nd
  obtain ⟨⟨a1, a2, a3, a4, a5, a6, a7, a8⟩, ⟨b1, b2, b3, b4, b5, b6, b7⟩, ⟨c1, c2, c3, c4, c5, c6⟩, ⟨d1, d2, d3, d4, d5⟩, ⟨e1, e2, e3, e4⟩, ⟨f1, f2, f3⟩, ⟨g1, g2⟩, h1, _⟩ := nd
  simp only [putF, if_neg a1, if_neg a2, if_neg a3, if_neg a4, if_neg a5, if_neg a6, if_neg a7, if_neg a8, if_neg b1, if_neg b2, if_neg b3, if_neg b4, if_neg b5, if_neg b6, if_neg b7, if_neg c1, if_neg c2, if_neg c3, if_neg c4, if_neg c5, if_neg c6, if_neg d1, if_neg d2, if_neg d3, if_neg d4, if_neg d5, if_neg e1, if_neg e2, if_neg e3, if_neg e4, if_neg f1, if_neg f2, if_neg f3, if_neg g1, if_neg g2, if_neg h1]
  rfl
/-- what is kept as it is handed in: one number, or a tuple of as many as parts -/
inductive Keep (K : PySem.W.Frag) (H : Hp) (p : Int) (ks : List Int) : V → PyData → Prop where
  | one (k : Int) (h0 : 0 ≤ k) (h1 : k ≤ 100) (e : ks = List.replicate p.toNat k) : Keep K H p ks (.int k) (.int k)
  | all (a : Addr) (h : SqT K H a (ks.map V.int)) (hl : (ks.length : Int) = p) (hb : ∀ k ∈ ks, 0 ≤ k ∧ k ≤ 100) : Keep K H p ks (.ref a) (.tuple (ks.map PyData.int))
structure Figs (p s g m fi fa ba : Int) : Prop where
  p0 : 1 ≤ p
  p1 : p ≤ 6
  s0 : 1 ≤ s
  s1 : s ≤ 14
  g0 : 0 ≤ g
  g1 : g ≤ 7
  m0 : 0 ≤ m
  m1 : m ≤ 2
  fi0 : 0 ≤ fi
  fi1 : fi ≤ 100
  fa0 : 0 ≤ fa
  fa1 : fa ≤ 30
  ba0 : 0 ≤ ba
  ba1 : ba ≤ 30
theorem dpAll_intsT {K : PySem.W.Frag} {H : Hp} {a : Addr} {ns : List Int} (h : SqT K H a (ns.map V.int)) : Dp K H (.ref a) (.tuple (ns.map PyData.int)) := .tup h (dpAll_ints ns)
theorem Keep.dp {K : PySem.W.Frag} {H : Hp} {p : Int} {ks : List Int} {v : V} {d : PyData} (h : Keep K H p ks v d) : Dp K H v d := by
  cases h with
  | one k _ _ _ => exact .int k
  | all a h _ _ => exact dpAll_intsT h
theorem Keep.ok {K : PySem.W.Frag} {H : Hp} {p : Int} {ks : List Int} {v : V} {d : PyData} (h : Keep K H p ks v d) : keptOk d (.int p) = true := by
  cases h with
  | one k h0 h1 _ =>
    show (decide (0 ≤ k) && decide (k ≤ 100)) = true
    rw [decide_eq_true h0, decide_eq_true h1]
    rfl
  | all a _ hl hb =>
    show (PyData.eqv (.int (((ks.map PyData.int).length : Nat) : Int)) (.int p) && (ks.map PyData.int).all fun d => numIn d 0 100) = true
    rw [Bool.and_eq_true]
    refine ⟨?_, ?_⟩
    · rw [List.length_map, hl]
      simp [PyData.eqv]
    · rw [List.all_map, List.all_eq_true]
      intro k hk
      show (decide (0 ≤ k) && decide (k ≤ 100)) = true
      rw [decide_eq_true (hb k hk).1, decide_eq_true (hb k hk).2]
      rfl
theorem right_all {p s g m fi fa ba : Int} {l : Bool} {d6 : PyData} (F : Figs p s g m fi fa ba) (h6 : keptOk d6 (.int p) = true) : firstWrong (figChecks (.int p) (.int s) (.int g) (.bool l) (.int m) d6 (.int fi) (.int fa) (.int ba)) = .non := by
  refine firstWrong_none fun q hq => ?_
  have two : ∀ {i lo hi : Int}, lo ≤ i → i ≤ hi → numIn (.int i) lo hi = true := fun {i lo hi} a b => by
    show (decide (lo ≤ i) && decide (i ≤ hi)) = true
    rw [decide_eq_true a, decide_eq_true b]
    rfl
  unfold figChecks at hq
  simp only [List.mem_cons, List.not_mem_nil, or_false] at hq
  rcases hq with rfl | rfl | rfl | rfl | rfl | rfl | rfl | rfl | rfl
  · exact two F.p0 F.p1
  · exact two F.s0 F.s1
  · exact two F.g0 F.g1
  · rfl
  · exact two F.m0 F.m1
  · exact h6
  · exact two F.fi0 F.fi1
  · exact two F.fa0 F.fa1
  · exact two F.ba0 F.ba1
/-! ### Rule___init__ -/
abbrev s_Rule___init__ : Stmt := inClass (topS 11) 0
abbrev N_Rule___init__ : List Str := ["self", "parts", "step", "grace", "last", "misses", "keep", "fine", "falls", "back", "word"]
theorem sc_Rule___init__ : FnScope N_Rule___init__ ["self", "parts", "step", "grace", "last", "misses", "keep", "fine", "falls", "back"] (defScope s_Rule___init__) := ⟨rfl, rfl, rfl, by decide +kernel, rfl, by decide +kernel, by decide +kernel⟩
def sp_Rule___init__ (K : PySem.W.Frag) (C : Addr) : Sp := fun vs H Q _ => ∃ (x dx : Addr) (p s g : Int) (l : Bool) (m : Int) (kv : V) (kd : PyData) (ks : List Int) (fi fa ba : Int), vs = [.ref x, .int p, .int s, .int g, .bl l, .int m, kv, .int fi, .int fa, .int ba] ∧ H x = some (.ins C dx []) ∧ Figs p s g m fi fa ba ∧ Keep K H p ks kv kd ∧
  ∀ H' kt, But x H H' → H' x = some (.ins C dx (ruleF p s g l m kt fi fa ba)) → SqT K H' kt (ks.map V.int) → Q .non H'
theorem ok_Rule___init__ {f : Addr} {fd : FuncData} {CR : Addr} (TQ : TEq K mg CR "Rule") (T_Rule : TRule K mg CR) (m_isinstance : mg "isinstance" = none) (m_tuple : mg "tuple" = none) (C_wrong_figure : CF P w K mg base 3 "wrong_figure" ["parts", "step", "grace", "last", "misses", "keep", "fine", "falls", "back"] (sp_wrong_figure K)) (F : FunD K "__init__" "Rule.__init__" (defArgs s_Rule___init__) (defBody s_Rule___init__) (defScope s_Rule___init__) [.int 0, .bl false, .int 0, .int 0, .int 0, .int 0, .int 0] [] f fd) : FnOk P w K mg base CX0 4 f fd ["self", "parts", "step", "grace", "last", "misses", "keep", "fine", "falls", "back"] (sp_Rule___init__ K CR) := by
  refine okD F sc_Rule___init__ (fun vs H Q E h => ?_) (fun cdv A outer s H vs Q E hr h => ?_)
  · first | (obtain ⟨_, rfl, _⟩ := h; rfl) | (obtain ⟨_, _, rfl, _⟩ := h; rfl) | (obtain ⟨_, _, _, rfl, _⟩ := h; rfl) | (obtain ⟨_, _, _, _, rfl, _⟩ := h; rfl) | (obtain ⟨_, _, _, _, _, rfl, _⟩ := h; rfl) | (obtain ⟨_, _, _, _, _, _, rfl, _⟩ := h; rfl) | (obtain ⟨_, _, _, _, _, _, _, rfl, _⟩ := h; rfl) | (obtain ⟨_, _, _, _, _, _, _, _, rfl, _⟩ := h; rfl) | (obtain ⟨_, _, _, _, _, _, _, _, _, rfl, _⟩ := h; rfl) | (obtain ⟨_, _, _, _, _, _, _, _, _, _, rfl, _⟩ := h; rfl) | (obtain ⟨_, _, _, _, _, _, _, _, _, _, _, rfl, _⟩ := h; rfl) | (obtain ⟨_, _, _, _, _, _, _, _, _, _, _, _, rfl, _⟩ := h; rfl) | (obtain ⟨_, _, _, _, _, _, _, _, _, _, _, _, _, rfl, _⟩ := h; rfl) | (obtain ⟨_, _, _, _, _, _, _, _, _, _, _, _, _, _, rfl, _⟩ := h; rfl) | (obtain ⟨_, _, _, _, _, _, _, _, _, _, _, _, _, _, _, rfl, _⟩ := h; rfl) | (obtain ⟨_, _, _, _, _, _, _, _, _, _, _, _, _, _, _, _, rfl, _⟩ := h; rfl) | (obtain ⟨_, _, _, _, _, _, _, _, _, _, _, _, _, _, _, _, _, rfl, _⟩ := h; rfl) | (obtain ⟨_, _, _, _, _, _, _, _, _, _, _, _, _, _, _, _, _, _, rfl, _⟩ := h; rfl) | (obtain ⟨_, _, _, _, _, _, _, _, _, _, _, _, _, _, _, _, _, _, _, rfl, _⟩ := h; rfl) | (obtain ⟨_, _, _, _, _, _, _, _, _, _, _, _, _, _, _, _, _, _, _, _, rfl, _⟩ := h; rfl) | (obtain ⟨_, _, _, _, _, _, _, _, _, _, _, _, _, _, _, _, _, _, _, _, _, rfl, _⟩ := h; rfl) | (obtain ⟨_, _, _, _, _, _, _, _, _, _, _, _, _, _, _, _, _, _, _, _, _, _, rfl, _⟩ := h; rfl) | (obtain ⟨_, _, _, _, _, _, _, _, _, _, _, _, _, _, _, _, _, _, _, _, _, _, _, rfl, _⟩ := h; rfl)
  · have hu64 := hr.units
    obtain ⟨x, dx, p, s', g, l, m, kv, kd, ks, fi, fa, ba, rfl, hx, F, hk, q⟩ := h
    refine ⟨_, (pss_cons (ps_set (i := 10) sc_Rule___init__.nd rfl (.inl rfl) (pe_cf C_wrong_figure (hr.mono (by decide)) (by rfl) (pa_cons (pv 1) (pa_cons (pv 2) (pa_cons (pv 3) (pa_cons (pv 4) (pa_cons (pv 5) (pa_cons (pv 6) (pa_cons (pv 7) (pa_cons (pv 8) (pa_cons (pv 9) pa_nil)))))))))))
      (pss_cons (ps_if (pt_cmpR op_notN (pv 10) pe_non (nomark _))
         (pss_one ps_never)
         pss_nil)
      (pss_cons (ps_fld (pv 0) (pv 1) rfl)
      (pss_cons (ps_fld (pv 0) (pv 2) rfl)
      (pss_cons (ps_fld (pv 0) (pv 3) rfl)
      (pss_cons (ps_fld (pv 0) (pv 4) rfl)
      (pss_cons (ps_fld (pv 0) (pv 5) rfl)
      (pss_cons (ps_fld (pv 0) (pe_ifExp (pt_val (pe_callB (kk_isi K) (by rfl) m_isinstance (by decide +kernel) (pa_cons (pv 6) (pa_cons (pe_bltn (v := .ty "tuple") (by rfl) m_tuple (by decide +kernel) rfl) pa_nil)))) (pv 6) (pe_op (kk_repA K) (pe_tup (pa_cons (pv 6) pa_nil)) (pv 1))) rfl)
      (pss_cons (ps_fld (pv 0) (pv 7) rfl)
      (pss_cons (ps_fld (pv 0) (pv 8) rfl)
      (pss_one (ps_fld (pv 0) (pv 9) rfl)))))))))))), ?_⟩
    have hz : ∀ ds, kd = .tuple ds → ds.length ≤ 1000 := fun ds e => by
      cases hk with
      | one k _ _ _ => cases e
      | all a h hl hb =>
        cases e
        rw [List.length_map]
        have := F.p1
        omega
    refine ⟨_, rfl, _, rfl, _, rfl, _, rfl, _, rfl, _, rfl, _, rfl, _, rfl, _, rfl, _, _, _, _, _, _, _, _, _, .int p, .int s', .int g, .bool l, .int m, kd, .int fi, .int fa, .int ba, rfl, ⟨.int _, .int _, .int _, .bl _, .int _, hk.dp, .int _, .int _, .int _⟩, sh_int _, hz, fun H1 s1 => ?_⟩
    rw [right_all F hk.ok]
    refine ⟨_, rfl, rfl, _, rfl, iteF ?_⟩
    refine ⟨_, rfl, _, rfl, x, CR, dx, _, rfl, s1 _ _ hx, T_Rule.cl, T_Rule.n1, by decide, ?_⟩
    refine ⟨_, rfl, _, rfl, x, CR, dx, _, rfl, upd_same, T_Rule.cl, T_Rule.n2, Nat.lt_of_le_of_lt (put_lt (Nat.le_refl 0)) (by decide), ?_⟩
    refine ⟨_, rfl, _, rfl, x, CR, dx, _, rfl, upd_same, T_Rule.cl, T_Rule.n3, Nat.lt_of_le_of_lt (put_lt (put_lt (Nat.le_refl 0))) (by decide), ?_⟩
    refine ⟨_, rfl, _, rfl, x, CR, dx, _, rfl, upd_same, T_Rule.cl, T_Rule.n4, Nat.lt_of_le_of_lt (put_lt (put_lt (put_lt (Nat.le_refl 0)))) (by decide), ?_⟩
    refine ⟨_, rfl, _, rfl, x, CR, dx, _, rfl, upd_same, T_Rule.cl, T_Rule.n5, Nat.lt_of_le_of_lt (put_lt (put_lt (put_lt (put_lt (Nat.le_refl 0))))) (by decide), ?_⟩
    have b5 : But x H (upd (upd (upd (upd (upd H1 x (.ins CR dx (putF "parts" (.int p) []))) x (.ins CR dx (putF "step" (.int s') (putF "parts" (.int p) [])))) x (.ins CR dx (putF "grace" (.int g) (putF "step" (.int s') (putF "parts" (.int p) []))))) x (.ins CR dx (putF "last" (.bl l) (putF "grace" (.int g) (putF "step" (.int s') (putF "parts" (.int p) [])))))) x (.ins CR dx (putF "misses" (.int m) (putF "last" (.bl l) (putF "grace" (.int g) (putF "step" (.int s') (putF "parts" (.int p) []))))))) := (((((But.of s1).trans But.upd).trans But.upd).trans But.upd).trans But.upd).trans But.upd
    have e5 := upd_same (H := (upd (upd (upd (upd H1 x (.ins CR dx (putF "parts" (.int p) []))) x (.ins CR dx (putF "step" (.int s') (putF "parts" (.int p) [])))) x (.ins CR dx (putF "grace" (.int g) (putF "step" (.int s') (putF "parts" (.int p) []))))) x (.ins CR dx (putF "last" (.bl l) (putF "grace" (.int g) (putF "step" (.int s') (putF "parts" (.int p) []))))))) (a := x) (o := .ins CR dx (putF "misses" (.int m) (putF "last" (.bl l) (putF "grace" (.int g) (putF "step" (.int s') (putF "parts" (.int p) []))))))
    cases hk with
    | all a hA hl hb =>
      have hax : ∀ {G : Hp}, But x H G → SqT K G a (ks.map V.int) := fun t => by
        rcases hA with (h | ⟨o, h⟩) | h
        · exact .inl (.inl (t _ _ (ne_of h hx (by intro z; cases z)) h))
        · exact .inl (.inr ⟨o, t _ _ (ne_of h hx (by intro z; cases z)) h⟩)
        · exact .inr h
      refine ⟨_, rfl, _, _, _, _, true, rfl, .ty _, ty_of_dp (dpAll_intsT (hax b5)), kit_ty (a := "tuple") (by decide +kernel), _, rfl, iteT ⟨_, rfl, ?_⟩⟩
      refine ⟨_, rfl, x, CR, dx, _, rfl, e5, T_Rule.cl, T_Rule.n6, Nat.lt_of_le_of_lt (put_lt (put_lt (put_lt (put_lt (put_lt (Nat.le_refl 0)))))) (by decide), ?_⟩
      refine ⟨_, rfl, _, rfl, x, CR, dx, _, rfl, upd_same, T_Rule.cl, T_Rule.n7, Nat.lt_of_le_of_lt (put_lt (put_lt (put_lt (put_lt (put_lt (put_lt (Nat.le_refl 0))))))) (by decide), ?_⟩
      refine ⟨_, rfl, _, rfl, x, CR, dx, _, rfl, upd_same, T_Rule.cl, T_Rule.n8, Nat.lt_of_le_of_lt (put_lt (put_lt (put_lt (put_lt (put_lt (put_lt (put_lt (Nat.le_refl 0)))))))) (by decide), ?_⟩
      refine ⟨_, rfl, _, rfl, x, CR, dx, _, rfl, upd_same, T_Rule.cl, T_Rule.n9, Nat.lt_of_le_of_lt (put_lt (put_lt (put_lt (put_lt (put_lt (put_lt (put_lt (put_lt (Nat.le_refl 0))))))))) (by decide), ?_⟩
      refine q _ a ((((b5.trans But.upd).trans But.upd).trans But.upd).trans But.upd) (by rw [upd_same, ruleF_eq]) (hax ((((b5.trans But.upd).trans But.upd).trans But.upd).trans But.upd))
    | one k h0 h1 ek =>
      refine ⟨_, rfl, _, _, _, _, false, rfl, .ty _, .base (.int k), kit_ty (by decide +kernel), _, rfl, iteF ⟨_, rfl, (by show 1 ≤ sizeLine; decide), fun t ht => ⟨_, rfl, ?_⟩⟩⟩
      have nt : t ≠ x := (ne_of_none e5 ht).symm
      by_cases hp1 : p = 1
      · subst hp1
        refine .inr ⟨t, [.int k], rfl, rfl, SqT.of upd_same, by simp, ?_⟩
        have ek2 : ks = [k] := ek
        refine ⟨_, rfl, x, CR, dx, _, rfl, (by rw [upd_ne nt.symm]; exact e5), T_Rule.cl, T_Rule.n6, Nat.lt_of_le_of_lt (put_lt (put_lt (put_lt (put_lt (put_lt (Nat.le_refl 0)))))) (by decide), ?_⟩
        refine ⟨_, rfl, _, rfl, x, CR, dx, _, rfl, upd_same, T_Rule.cl, T_Rule.n7, Nat.lt_of_le_of_lt (put_lt (put_lt (put_lt (put_lt (put_lt (put_lt (Nat.le_refl 0))))))) (by decide), ?_⟩
        refine ⟨_, rfl, _, rfl, x, CR, dx, _, rfl, upd_same, T_Rule.cl, T_Rule.n8, Nat.lt_of_le_of_lt (put_lt (put_lt (put_lt (put_lt (put_lt (put_lt (put_lt (Nat.le_refl 0)))))))) (by decide), ?_⟩
        refine ⟨_, rfl, _, rfl, x, CR, dx, _, rfl, upd_same, T_Rule.cl, T_Rule.n9, Nat.lt_of_le_of_lt (put_lt (put_lt (put_lt (put_lt (put_lt (put_lt (put_lt (put_lt (Nat.le_refl 0))))))))) (by decide), ?_⟩
        refine q _ t ((((b5.trans (But.new ht)).trans But.upd).trans But.upd).trans But.upd |>.trans But.upd) (by rw [upd_same, ruleF_eq]) (by rw [ek2]; exact SqT.of (by rw [upd_ne nt, upd_ne nt, upd_ne nt, upd_ne nt, upd_same]; rfl))
      · have hp2 : 2 ≤ p := by have := F.p0; omega
        have hp6 : p ≤ 1000 := by have := F.p1; omega
        refine .inl ⟨t, p, [.int k], rfl, rfl, SqT.of upd_same, by simp, hp2, hp6, (by show 1 ≤ 1000; decide), fun t2 ht2 => ?_⟩
        have e6 : (upd (upd (upd (upd (upd (upd H1 x (.ins CR dx (putF "parts" (.int p) []))) x (.ins CR dx (putF "step" (.int s') (putF "parts" (.int p) [])))) x (.ins CR dx (putF "grace" (.int g) (putF "step" (.int s') (putF "parts" (.int p) []))))) x (.ins CR dx (putF "last" (.bl l) (putF "grace" (.int g) (putF "step" (.int s') (putF "parts" (.int p) [])))))) x (.ins CR dx (putF "misses" (.int m) (putF "last" (.bl l) (putF "grace" (.int g) (putF "step" (.int s') (putF "parts" (.int p) []))))))) t (.tup [.int k])) x = _ := (upd_ne nt.symm).trans e5
        have nt2 : t2 ≠ x := (ne_of_none e6 ht2).symm
        refine ⟨_, rfl, x, CR, dx, _, rfl, (by rw [upd_ne nt2.symm]; exact e6), T_Rule.cl, T_Rule.n6, Nat.lt_of_le_of_lt (put_lt (put_lt (put_lt (put_lt (put_lt (Nat.le_refl 0)))))) (by decide), ?_⟩
        refine ⟨_, rfl, _, rfl, x, CR, dx, _, rfl, upd_same, T_Rule.cl, T_Rule.n7, Nat.lt_of_le_of_lt (put_lt (put_lt (put_lt (put_lt (put_lt (put_lt (Nat.le_refl 0))))))) (by decide), ?_⟩
        refine ⟨_, rfl, _, rfl, x, CR, dx, _, rfl, upd_same, T_Rule.cl, T_Rule.n8, Nat.lt_of_le_of_lt (put_lt (put_lt (put_lt (put_lt (put_lt (put_lt (put_lt (Nat.le_refl 0)))))))) (by decide), ?_⟩
        refine ⟨_, rfl, _, rfl, x, CR, dx, _, rfl, upd_same, T_Rule.cl, T_Rule.n9, Nat.lt_of_le_of_lt (put_lt (put_lt (put_lt (put_lt (put_lt (put_lt (put_lt (put_lt (Nat.le_refl 0))))))))) (by decide), ?_⟩
        refine q _ t2 ((((b5.trans (But.new ht)).trans (But.new ht2)).trans But.upd).trans But.upd |>.trans But.upd |>.trans But.upd) (by rw [upd_same, ruleF_eq]) (SqT.of (by rw [upd_ne nt2, upd_ne nt2, upd_ne nt2, upd_ne nt2, upd_same, ek, rep1, List.map_replicate]))
structure Fg where
  p : Int
  s : Int
  g : Int
  l : Bool
  m : Int
  ks : List Int
  fi : Int
  fa : Int
  ba : Int
structure Fg.Ok (f : Fg) : Prop where
  figs : Figs f.p f.s f.g f.m f.fi f.fa f.ba
  len : (f.ks.length : Int) = f.p
  bnd : ∀ k ∈ f.ks, 0 ≤ k ∧ k ≤ 100
def RuleAt (K : PySem.W.Frag) (H : Hp) (C r : Addr) (f : Fg) : Prop := ∃ dx kt, H r = some (.ins C dx (ruleF f.p f.s f.g f.l f.m kt f.fi f.fa f.ba)) ∧ SqT K H kt (f.ks.map V.int)
theorem RuleAt.same {K : PySem.W.Frag} {H H' : Hp} {C r : Addr} {f : Fg} (h : RuleAt K H C r f) (e : Same H H') : RuleAt K H' C r f := by
  obtain ⟨dx, kt, h1, h2⟩ := h
  exact ⟨dx, kt, e _ _ h1, seqT_same e h2⟩
section
variable {p s g : Int} {l : Bool} {m : Int} {kt : Addr} {fi fa ba : Int}
theorem lk_ne {x y : Str} {v : V} {r : List (Str × V)} (h : x ≠ y) : List.lookup x ((y, v) :: r) = List.lookup x r := by
  rw [List.lookup_cons, beq_false_of_ne h]
theorem lk_eq {x : Str} {v : V} {r : List (Str × V)} : List.lookup x ((x, v) :: r) = some v := by
  rw [List.lookup_cons, beq_self_eq_true]
theorem lk1 : (ruleF p s g l m kt fi fa ba).lookup ("parts" : Str) = some (V.int p) := lk_eq
theorem lk2 : (ruleF p s g l m kt fi fa ba).lookup ("step" : Str) = some (V.int s) := by
  unfold ruleF
  rw [lk_ne (by decide +kernel), lk_eq]
theorem lk3 : (ruleF p s g l m kt fi fa ba).lookup ("grace" : Str) = some (V.int g) := by
  unfold ruleF
  rw [lk_ne (by decide +kernel), lk_ne (by decide +kernel), lk_eq]
theorem lk4 : (ruleF p s g l m kt fi fa ba).lookup ("last" : Str) = some (V.bl l) := by
  unfold ruleF
  rw [lk_ne (by decide +kernel), lk_ne (by decide +kernel), lk_ne (by decide +kernel), lk_eq]
theorem lk5 : (ruleF p s g l m kt fi fa ba).lookup ("misses" : Str) = some (V.int m) := by
  unfold ruleF
  rw [lk_ne (by decide +kernel), lk_ne (by decide +kernel), lk_ne (by decide +kernel), lk_ne (by decide +kernel), lk_eq]
theorem lk6 : (ruleF p s g l m kt fi fa ba).lookup ("keep" : Str) = some (V.ref kt) := by
  unfold ruleF
  rw [lk_ne (by decide +kernel), lk_ne (by decide +kernel), lk_ne (by decide +kernel), lk_ne (by decide +kernel), lk_ne (by decide +kernel), lk_eq]
theorem lk7 : (ruleF p s g l m kt fi fa ba).lookup ("fine" : Str) = some (V.int fi) := by
  unfold ruleF
  rw [lk_ne (by decide +kernel), lk_ne (by decide +kernel), lk_ne (by decide +kernel), lk_ne (by decide +kernel), lk_ne (by decide +kernel), lk_ne (by decide +kernel), lk_eq]
theorem lk8 : (ruleF p s g l m kt fi fa ba).lookup ("falls" : Str) = some (V.int fa) := by
  unfold ruleF
  rw [lk_ne (by decide +kernel), lk_ne (by decide +kernel), lk_ne (by decide +kernel), lk_ne (by decide +kernel), lk_ne (by decide +kernel), lk_ne (by decide +kernel), lk_ne (by decide +kernel), lk_eq]
theorem lk9 : (ruleF p s g l m kt fi fa ba).lookup ("back" : Str) = some (V.int ba) := by
  unfold ruleF
  rw [lk_ne (by decide +kernel), lk_ne (by decide +kernel), lk_ne (by decide +kernel), lk_ne (by decide +kernel), lk_ne (by decide +kernel), lk_ne (by decide +kernel), lk_ne (by decide +kernel), lk_ne (by decide +kernel), lk_eq]
theorem lk0 {x : Str} (h : x ∉ (["parts", "step", "grace", "last", "misses", "keep", "fine", "falls", "back"] : List Str)) : (ruleF p s g l m kt fi fa ba).lookup x = none := by
  simp only [List.mem_cons, List.not_mem_nil, or_false, not_or] at h
  obtain ⟨h1, h2, h3, h4, h5, h6, h7, h8, h9⟩ := h
  unfold ruleF
  rw [lk_ne h1, lk_ne h2, lk_ne h3, lk_ne h4, lk_ne h5, lk_ne h6, lk_ne h7, lk_ne h8, lk_ne h9]
  rfl
end
def keptV (f : Fg) (k : Int) (gone : Bool) : Int := if gone then (if k + f.fi < 100 then k + f.fi else 100) else k
/-! ### Rule_figures -/
abbrev s_Rule_figures : Stmt := inClass (topS 11) 2
abbrev N_Rule_figures : List Str := ["self"]
theorem sc_Rule_figures : FnScope N_Rule_figures ["self"] (defScope s_Rule_figures) := ⟨rfl, rfl, rfl, by decide +kernel, rfl, by decide +kernel, by decide +kernel⟩
def sp_Rule_figures (K : PySem.W.Frag) (C : Addr) : Sp := fun vs H Q _ => ∃ (r : Addr) (f : Fg), vs = [.ref r] ∧ RuleAt K H C r f ∧ ∀ H' t kt, H t = none → Same H H' → H' t = some (.tup [.int f.p, .int f.s, .int f.g, .bl f.l, .int f.m, .ref kt, .int f.fi, .int f.fa, .int f.ba]) → SqT K H' kt (f.ks.map V.int) → Q (.ref t) H'
theorem ok_Rule_figures {f : Addr} {fd : FuncData} {CR : Addr} (TQ : TEq K mg CR "Rule") (T_Rule : TRule K mg CR) (F : FunD K "figures" "Rule.figures" (defArgs s_Rule_figures) (defBody s_Rule_figures) (defScope s_Rule_figures) [] [] f fd) : FnOk P w K mg base CX0 1 f fd ["self"] (sp_Rule_figures K CR) := by
  refine okD F sc_Rule_figures (fun vs H Q E h => ?_) (fun cdv A outer s H vs Q E hr h => ?_)
  · first | (obtain ⟨_, rfl, _⟩ := h; rfl) | (obtain ⟨_, _, rfl, _⟩ := h; rfl) | (obtain ⟨_, _, _, rfl, _⟩ := h; rfl) | (obtain ⟨_, _, _, _, rfl, _⟩ := h; rfl) | (obtain ⟨_, _, _, _, _, rfl, _⟩ := h; rfl) | (obtain ⟨_, _, _, _, _, _, rfl, _⟩ := h; rfl) | (obtain ⟨_, _, _, _, _, _, _, rfl, _⟩ := h; rfl) | (obtain ⟨_, _, _, _, _, _, _, _, rfl, _⟩ := h; rfl) | (obtain ⟨_, _, _, _, _, _, _, _, _, rfl, _⟩ := h; rfl) | (obtain ⟨_, _, _, _, _, _, _, _, _, _, rfl, _⟩ := h; rfl) | (obtain ⟨_, _, _, _, _, _, _, _, _, _, _, rfl, _⟩ := h; rfl) | (obtain ⟨_, _, _, _, _, _, _, _, _, _, _, _, rfl, _⟩ := h; rfl) | (obtain ⟨_, _, _, _, _, _, _, _, _, _, _, _, _, rfl, _⟩ := h; rfl) | (obtain ⟨_, _, _, _, _, _, _, _, _, _, _, _, _, _, rfl, _⟩ := h; rfl) | (obtain ⟨_, _, _, _, _, _, _, _, _, _, _, _, _, _, _, rfl, _⟩ := h; rfl)
  · have hu64 := hr.units
    obtain ⟨r, f', rfl, ⟨dx, kt, h1, h2⟩, q⟩ := h
    refine ⟨_, (pss_one (ps_ret (pe_tup (pa_cons (pe_fld (pv 0) rfl) (pa_cons (pe_fld (pv 0) rfl) (pa_cons (pe_fld (pv 0) rfl) (pa_cons (pe_fld (pv 0) rfl) (pa_cons (pe_fld (pv 0) rfl) (pa_cons (pe_fld (pv 0) rfl) (pa_cons (pe_fld (pv 0) rfl) (pa_cons (pe_fld (pv 0) rfl) (pa_cons (pe_fld (pv 0) rfl) pa_nil)))))))))))), ?_⟩
    refine ⟨_, rfl, r, CR, dx, _, _, rfl, h1, T_Rule.cl, T_Rule.n1, lk1, ?_⟩
    refine ⟨_, rfl, r, CR, dx, _, _, rfl, h1, T_Rule.cl, T_Rule.n2, lk2, ?_⟩
    refine ⟨_, rfl, r, CR, dx, _, _, rfl, h1, T_Rule.cl, T_Rule.n3, lk3, ?_⟩
    refine ⟨_, rfl, r, CR, dx, _, _, rfl, h1, T_Rule.cl, T_Rule.n4, lk4, ?_⟩
    refine ⟨_, rfl, r, CR, dx, _, _, rfl, h1, T_Rule.cl, T_Rule.n5, lk5, ?_⟩
    refine ⟨_, rfl, r, CR, dx, _, _, rfl, h1, T_Rule.cl, T_Rule.n6, lk6, ?_⟩
    refine ⟨_, rfl, r, CR, dx, _, _, rfl, h1, T_Rule.cl, T_Rule.n7, lk7, ?_⟩
    refine ⟨_, rfl, r, CR, dx, _, _, rfl, h1, T_Rule.cl, T_Rule.n8, lk8, ?_⟩
    refine ⟨_, rfl, r, CR, dx, _, _, rfl, h1, T_Rule.cl, T_Rule.n9, lk9, (by show 9 ≤ sizeLine; decide), fun t ht => ?_⟩
    exact q _ t kt ht (same_new ht) upd_same (seqT_same (same_new ht) h2)
/-! ### what is left to draw of -/
def Left (H : Hp) (b c : Addr) (n : Int) : Prop := ∃ (x z : Int) (ns : List Int), H b = some (.lst [.int x, .ref c, .int z]) ∧ H c = some (.lst (ns.map V.int)) ∧ 0 ≤ x ∧ 0 ≤ z ∧ z ≤ n ∧ 1 ≤ ns.length ∧ ns.length ≤ 63
section
variable {H H' : Hp} {b c p : Addr} {n m : Int} {o : HO}
theorem Left.mono (h : Left H b c n) (l : n ≤ m) : Left H b c m := by
  obtain ⟨x, z, ns, h0, h1, h2, h3, h4, h5⟩ := h
  exact ⟨x, z, ns, h0, h1, h2, h3, by omega, h5⟩
theorem Left.same (e : Same H H') (h : Left H b c n) : Left H' b c n := by
  obtain ⟨x, z, ns, h0, h1, h2⟩ := h
  exact ⟨x, z, ns, e _ _ h0, e _ _ h1, h2⟩
theorem Left.new (h : Left H b c n) (e : H p = none) : Left (upd H p o) b c n := h.same (same_new e)
theorem Left.ne (h : Left H b c n) (e : H p = none) : p ≠ b := fun z => by
  obtain ⟨_, _, _, h0, _⟩ := h
  rw [z, h0] at e
  cases e
theorem Left.ne2 (h : Left H b c n) (e : H p = none) : p ≠ c := fun z => by
  obtain ⟨_, _, _, _, h0, _⟩ := h
  rw [z, h0] at e
  cases e
theorem Left.upd (h : Left H b c n) (e1 : p ≠ b) (e2 : p ≠ c) : Left (upd H p o) b c n := by
  obtain ⟨x, z, ns, h0, h1, h2⟩ := h
  exact ⟨x, z, ns, by rw [upd_ne e1.symm]; exact h0, by rw [upd_ne e2.symm]; exact h1, h2⟩
theorem Left.net (h : Left H b c n) {xs : List V} (e : H p = some (.tup xs)) : p ≠ b := fun z => by
  obtain ⟨_, _, _, h0, _⟩ := h
  rw [z, h0] at e
  cases e
theorem left_cells {x z : Int} {ns : List Int} (h0 : H b = some (.lst [.int x, .ref c, .int z])) (h1 : H c = some (.lst (ns.map V.int))) : c ≠ b := fun e => by
  rw [e, h0] at h1
  have h2 := HO.lst.inj (Option.some.inj h1)
  match ns, h2 with
  | [], h2 => cases h2
  | [_], h2 => cases h2
  | _ :: _ :: _, h2 => cases (List.cons.inj (List.cons.inj h2).2).1
theorem But.seqT {K : PySem.W.Frag} {a : Addr} {xs : List V} (t : But b H H') (hb : Left H b c n) (h : SqT K H a xs) : SqT K H' a xs := by
  obtain ⟨_, _, _, hx, _⟩ := hb
  rcases h with (h | ⟨o, h⟩) | h
  · exact .inl (.inl (t _ _ (ne_of h hx (by intro z; cases z)) h))
  · exact .inl (.inr ⟨o, t _ _ (ne_of h hx (by intro z; cases z)) h⟩)
  · exact .inr h
end
theorem none_of {H H' : Hp} {p : Addr} (s : Same H H') (h : H' p = none) : H p = none := by
  cases e : H p with
  | none => rfl
  | some o =>
    rw [s _ _ e] at h
    cases h
theorem cut_to {xs : List V} {k : Nat} (h : xs.length ≤ k) : cutV xs none (some (k : Int)) = xs := by
  unfold cutV
  rw [HT.sIx_nat, HT.sIx_none, Nat.min_eq_right h]
  simp
theorem pick3v {r : Int} {x y z : V} (h0 : 0 ≤ r) (h1 : r < 3) : ∃ v, atI [x, y, z] r = some v ∧ (v = x ∨ v = y ∨ v = z) := by
  have h : r = 0 ∨ r = 1 ∨ r = 2 := by omega
  rcases h with rfl | rfl | rfl
  · exact ⟨x, rfl, .inl rfl⟩
  · exact ⟨y, rfl, .inr (.inl rfl)⟩
  · exact ⟨z, rfl, .inr (.inr rfl)⟩
theorem pick3i {r x y z lo hi : Int} (h0 : 0 ≤ r) (h1 : r < 3) (hx : lo ≤ x ∧ x ≤ hi) (hy : lo ≤ y ∧ y ≤ hi) (hz : lo ≤ z ∧ z ≤ hi) : ∃ v : Int, atI [V.int x, .int y, .int z] r = some (.int v) ∧ lo ≤ v ∧ v ≤ hi := by
  have h : r = 0 ∨ r = 1 ∨ r = 2 := by omega
  rcases h with rfl | rfl | rfl
  · exact ⟨x, rfl, hx⟩
  · exact ⟨y, rfl, hy⟩
  · exact ⟨z, rfl, hz⟩
theorem pick4i {r x y z u lo hi : Int} (h0 : 0 ≤ r) (h1 : r < 4) (hx : lo ≤ x ∧ x ≤ hi) (hy : lo ≤ y ∧ y ≤ hi) (hz : lo ≤ z ∧ z ≤ hi) (hu : lo ≤ u ∧ u ≤ hi) : ∃ v : Int, atI [V.int x, .int y, .int z, .int u] r = some (.int v) ∧ lo ≤ v ∧ v ≤ hi := by
  have h : r = 0 ∨ r = 1 ∨ r = 2 ∨ r = 3 := by omega
  rcases h with rfl | rfl | rfl | rfl
  · exact ⟨x, rfl, hx⟩
  · exact ⟨y, rfl, hy⟩
  · exact ⟨z, rfl, hz⟩
  · exact ⟨u, rfl, hu⟩
/-! ### _law_mix -/
abbrev s__law_mix : Stmt := topS 15
abbrev N__law_mix : List Str := ["_law_cell", "_law_k", "_law_m"]
theorem sc__law_mix : FnScope N__law_mix ["_law_cell", "_law_k"] (defScope s__law_mix) := ⟨rfl, rfl, rfl, by decide +kernel, rfl, by decide +kernel, by decide +kernel⟩
def sp__law_mix (K : PySem.W.Frag) : Sp := fun vs H Q _ => ∃ (x k : Int), vs = [.int x, .int k] ∧ 0 ≤ k ∧ k < 10000000000 ∧ ∀ r : Int, 0 ≤ r → r < 1999999973 → Q (.int r) H
theorem ok__law_mix {f : Addr} {fd : FuncData} (F : Fun K "_law_mix" "_law_mix" s__law_mix f fd) (g : mg "_law_mix" = some (.ref f)) (bd : Binds K fd ["_law_cell", "_law_k"] []) : CF P w K mg base 1 "_law_mix" ["_law_cell", "_law_k"] (sp__law_mix K) := by
  refine ⟨f, fd, F.ok sc__law_mix (fun vs H Q E h => ?_) (fun cdv A outer s H vs Q E hr h => ?_), g, F.kp, bd⟩
  · first | (obtain ⟨_, rfl, _⟩ := h; rfl) | (obtain ⟨_, _, rfl, _⟩ := h; rfl) | (obtain ⟨_, _, _, rfl, _⟩ := h; rfl) | (obtain ⟨_, _, _, _, rfl, _⟩ := h; rfl) | (obtain ⟨_, _, _, _, _, rfl, _⟩ := h; rfl) | (obtain ⟨_, _, _, _, _, _, rfl, _⟩ := h; rfl) | (obtain ⟨_, _, _, _, _, _, _, rfl, _⟩ := h; rfl) | (obtain ⟨_, _, _, _, _, _, _, _, rfl, _⟩ := h; rfl) | (obtain ⟨_, _, _, _, _, _, _, _, _, rfl, _⟩ := h; rfl) | (obtain ⟨_, _, _, _, _, _, _, _, _, _, rfl, _⟩ := h; rfl) | (obtain ⟨_, _, _, _, _, _, _, _, _, _, _, rfl, _⟩ := h; rfl) | (obtain ⟨_, _, _, _, _, _, _, _, _, _, _, _, rfl, _⟩ := h; rfl) | (obtain ⟨_, _, _, _, _, _, _, _, _, _, _, _, _, rfl, _⟩ := h; rfl) | (obtain ⟨_, _, _, _, _, _, _, _, _, _, _, _, _, _, rfl, _⟩ := h; rfl) | (obtain ⟨_, _, _, _, _, _, _, _, _, _, _, _, _, _, _, rfl, _⟩ := h; rfl)
  · have hu64 := hr.units
    obtain ⟨x, k, rfl, k0, k1, q⟩ := h
    refine ⟨_, (pss_cons (ps_set (i := 2) sc__law_mix.nd rfl (.inl rfl) (pe_op op_mod (pe_op op_mul (pe_op op_add (pe_op op_add (pe_op op_mod (pv 0) pe_int) (pe_op op_mul (pe_op op_mul (pv 1) (pv 1)) pe_int)) pe_int) pe_int) pe_int))
      (pss_one (ps_ret (pe_op op_mod (pe_op op_mul (pv 2) (pv 2)) pe_int)))), ?_⟩
    refine ⟨_, rfl, _, _, rfl, rfl, (by show (0 : Int) < 2147483629; decide), _, rfl, _, rfl, _, _, rfl, rfl, .inl ⟨by omega, by omega⟩, _, _, rfl, rfl, .inr ⟨by decide, by decide⟩, _, _, rfl, rfl, _, _, rfl, rfl, _, _, rfl, rfl, .inr ⟨by decide, by decide⟩, _, _, rfl, rfl, (by show (0 : Int) < 2147483647; decide), ?_⟩
    have o0 := Int.emod_nonneg ((x % 2147483629 + k * k * 7919 + 11) * 48271) (show (2147483647 : Int) ≠ 0 by decide)
    have o1 := Int.emod_lt_of_pos ((x % 2147483629 + k * k * 7919 + 11) * 48271) (show (0 : Int) < 2147483647 by decide)
    exact ⟨_, rfl, _, rfl, _, _, rfl, rfl, .inl ⟨by omega, by omega⟩, _, _, rfl, rfl, (by show (0 : Int) < 1999999973; decide), q _ (Int.emod_nonneg _ (by decide)) (Int.emod_lt_of_pos _ (by decide))⟩
/-! ### _law_pick -/
abbrev s__law_pick : Stmt := topS 18
abbrev N__law_pick : List Str := ["_law_left", "_law_many", "_law_digit", "_law_cells", "_law_cell"]
theorem sc__law_pick : FnScope N__law_pick ["_law_left", "_law_many"] (defScope s__law_pick) := ⟨rfl, rfl, rfl, by decide +kernel, rfl, by decide +kernel, by decide +kernel⟩
def sp__law_pick (K : PySem.W.Frag) : Sp := fun vs H Q _ => ∃ (b c : Addr) (m n : Int), vs = [.ref b, .int m] ∧ Left H b c n ∧ 0 < m ∧ m < 1073741824 ∧ n < 1000000000 ∧ ∀ (r : Int) H', 0 ≤ r → r < m → Left H' b c (n + 1) → But b H H' → Q (.int r) H'
theorem ok__law_pick {f : Addr} {fd : FuncData} (F : Fun K "_law_pick" "_law_pick" s__law_pick f fd) (g : mg "_law_pick" = some (.ref f)) (bd : Binds K fd ["_law_left", "_law_many"] []) (m_len : mg "len" = none) (C__law_mix : CF P w K mg base 1 "_law_mix" ["_law_cell", "_law_k"] (sp__law_mix K)) : CF P w K mg base 2 "_law_pick" ["_law_left", "_law_many"] (sp__law_pick K) := by
  refine ⟨f, fd, F.ok sc__law_pick (fun vs H Q E h => ?_) (fun cdv A outer s H vs Q E hr h => ?_), g, F.kp, bd⟩
  · first | (obtain ⟨_, rfl, _⟩ := h; rfl) | (obtain ⟨_, _, rfl, _⟩ := h; rfl) | (obtain ⟨_, _, _, rfl, _⟩ := h; rfl) | (obtain ⟨_, _, _, _, rfl, _⟩ := h; rfl) | (obtain ⟨_, _, _, _, _, rfl, _⟩ := h; rfl) | (obtain ⟨_, _, _, _, _, _, rfl, _⟩ := h; rfl) | (obtain ⟨_, _, _, _, _, _, _, rfl, _⟩ := h; rfl) | (obtain ⟨_, _, _, _, _, _, _, _, rfl, _⟩ := h; rfl) | (obtain ⟨_, _, _, _, _, _, _, _, _, rfl, _⟩ := h; rfl) | (obtain ⟨_, _, _, _, _, _, _, _, _, _, rfl, _⟩ := h; rfl) | (obtain ⟨_, _, _, _, _, _, _, _, _, _, _, rfl, _⟩ := h; rfl) | (obtain ⟨_, _, _, _, _, _, _, _, _, _, _, _, rfl, _⟩ := h; rfl) | (obtain ⟨_, _, _, _, _, _, _, _, _, _, _, _, _, rfl, _⟩ := h; rfl) | (obtain ⟨_, _, _, _, _, _, _, _, _, _, _, _, _, _, rfl, _⟩ := h; rfl) | (obtain ⟨_, _, _, _, _, _, _, _, _, _, _, _, _, _, _, rfl, _⟩ := h; rfl)
  · have hu64 := hr.units
    obtain ⟨b, c, m, n, rfl, ⟨x, z, ns, hb, hc, hx, hz, hz2, hl0, hl1⟩, hm, hm2, hn, q⟩ := h
    refine ⟨_, (pss_cons (ps_asg (pe_op op_add (pe_ix (kk_ixl K) (pv 0) pe_int (fun _ _ => rfl)) pe_int) (pg_sub (pv 0) pe_int set_list))
      (pss_cons (ps_if (pt_cmpR op_gt (pe_ix (kk_ixl K) (pv 0) pe_int (fun _ _ => rfl)) pe_int (nomark _))
         (pss_cons (ps_set (i := 2) sc__law_pick.nd rfl (.inl rfl) (pe_op op_mod (pe_ix (kk_ixl K) (pv 0) pe_int (fun _ _ => rfl)) (pv 1)))
          (pss_cons (ps_asg (pe_op op_fdiv (pe_ix (kk_ixl K) (pv 0) pe_int (fun _ _ => rfl)) (pv 1)) (pg_sub (pv 0) pe_int set_list))
          (pss_one (ps_ret (pv 2)))))
         pss_nil)
      (pss_cons (ps_set (i := 3) sc__law_pick.nd rfl (.inl rfl) (pe_ix (kk_ixl K) (pv 0) pe_int (fun _ _ => rfl)))
      (pss_cons (ps_set (i := 4) sc__law_pick.nd rfl (.inl rfl) (pe_op op_add (pe_ix (kk_ixl K) (pv 3) (pe_op op_mod (pe_ix (kk_ixl K) (pv 0) pe_int (fun _ _ => rfl)) (pe_callB (kk_len K) (by rfl) m_len PySem.boot_len (pa_cons (pv 3) pa_nil))) (fun _ _ => rfl)) (pe_op op_mul pe_int (pe_op op_fdiv (pe_ix (kk_ixl K) (pv 0) pe_int (fun _ _ => rfl)) (pe_callB (kk_len K) (by rfl) m_len PySem.boot_len (pa_cons (pv 3) pa_nil))))))
      (pss_one (ps_ret (pe_op op_mod (pe_op op_fdiv (pe_cf C__law_mix (hr.mono (by decide)) (by rfl) (pa_cons (pe_cf C__law_mix (hr.mono (by decide)) (by rfl) (pa_cons (pv 4) (pa_cons (pe_ix (kk_ixl K) (pv 0) pe_int (fun _ _ => rfl)) pa_nil))) (pa_cons (pe_op op_add (pe_ix (kk_ixl K) (pv 0) pe_int (fun _ _ => rfl)) pe_int) pa_nil))) pe_int) (pv 1)))))))), ?_⟩
    have ncb := left_cells hb hc
    have h1 : (upd H b (.lst [.int x, .ref c, .int (z + 1)])) b = some (.lst [.int x, .ref c, .int (z + 1)]) := upd_same
    have c1 : (upd H b (.lst [.int x, .ref c, .int (z + 1)])) c = some (.lst (ns.map V.int)) := by rw [upd_ne ncb]; exact hc
    refine ⟨_, rfl, b, _, _, _, rfl, rfl, SqL.of hb, rfl, _, _, rfl, rfl, _, rfl, b, _, _, _, rfl, rfl, hb, rfl, ?_⟩
    refine ⟨_, rfl, b, _, _, _, rfl, rfl, SqL.of h1, rfl, _, _, rfl, rfl, _, rfl, ite2 (fun e => ?_) (fun e => ?_)⟩
    · refine ⟨_, rfl, b, _, _, _, rfl, rfl, SqL.of h1, rfl, _, rfl, _, _, rfl, rfl, hm, ?_⟩
      refine ⟨_, rfl, b, _, _, _, rfl, rfl, SqL.of h1, rfl, _, rfl, _, _, rfl, rfl, ⟨hm, hm2⟩, _, rfl, b, _, _, _, rfl, rfl, h1, rfl, ?_⟩
      refine ⟨_, rfl, q _ _ (Int.emod_nonneg _ (by omega)) (Int.emod_lt_of_pos _ hm) ⟨x / m, z + 1, ns, upd_same, by rw [upd_ne ncb]; exact c1, Int.ediv_nonneg hx (by omega), by omega, by omega, hl0, hl1⟩ (But.upd.trans But.upd)⟩
    · have hlp : (0 : Int) < ((ns.map V.int).length : Int) := by rw [List.length_map]; omega
      have m0 := Int.emod_nonneg (z + 1) (show ((ns.map V.int).length : Int) ≠ 0 by omega)
      have m1 := Int.emod_lt_of_pos (z + 1) hlp
      have hlen : ((ns.map V.int).length : Int) = (ns.length : Int) := by rw [List.length_map]
      obtain ⟨d, hd⟩ := at_int (ns := ns) m0 (by rw [← hlen]; exact m1)
      refine ⟨_, rfl, b, _, _, _, rfl, rfl, SqL.of h1, rfl, ?_⟩
      refine ⟨_, rfl, _, rfl, b, _, _, _, rfl, rfl, SqL.of h1, rfl, _, rfl, c, _, rfl, .inl (SqL.of c1), _, _, rfl, rfl, hlp, c, _, _, _, rfl, rfl, SqL.of c1, hd, ?_⟩
      refine ⟨_, rfl, b, _, _, _, rfl, rfl, SqL.of h1, rfl, _, rfl, c, _, rfl, .inl (SqL.of c1), _, _, rfl, rfl, ⟨hlp, by omega⟩, _, _, rfl, rfl, .inl ⟨by decide, by decide⟩, _, _, rfl, rfl, ?_⟩
      refine ⟨_, rfl, _, rfl, b, _, _, _, rfl, rfl, SqL.of h1, rfl, _, z + 1, rfl, by omega, by omega, fun r1 r10 r11 => ?_⟩
      refine ⟨_, rfl, b, _, _, _, rfl, rfl, SqL.of h1, rfl, _, _, rfl, rfl, r1, z + 1 + 64, rfl, by omega, by omega, fun r2 r20 r21 => ?_⟩
      exact ⟨_, _, rfl, rfl, ⟨by decide, by decide⟩, _, rfl, _, _, rfl, rfl, hm, q _ _ (Int.emod_nonneg _ (by omega)) (Int.emod_lt_of_pos _ hm) ⟨x, z + 1, ns, h1, c1, hx, by omega, by omega, hl0, hl1⟩ But.upd⟩
/-! ### _law_drawn_from -/
abbrev s__law_drawn_from : Stmt := topS 17
abbrev N__law_drawn_from : List Str := ["_law_script", "_law_k", "_law_cell"]
theorem sc__law_drawn_from : FnScope N__law_drawn_from ["_law_script", "_law_k"] (defScope s__law_drawn_from) := ⟨rfl, rfl, rfl, by decide +kernel, rfl, by decide +kernel, by decide +kernel⟩
def sp__law_drawn_from (K : PySem.W.Frag) : Sp := fun vs H Q _ => ∃ (a : Addr) (k : Int) (ns : List Int), vs = [.ref a, .int k] ∧ SqL K H a (ns.map V.int) ∧ ns.length ≤ 63 ∧ 0 ≤ k ∧ k ≤ 63 ∧ ∀ H' b c, H b = none → H c = none → Same H H' → Left H' b c (1009 * k) → Q (.ref b) H'
theorem big_or (c : Int) : ∃ x : Int, atI [V.int 0, .int (if c < 0 then -c else c)] (if decide (10 ^ (18 : Int).toNat ≤ (if c < 0 then -c else c)) = true then 1 else 0) = some (.int x) ∧ 0 ≤ x := by
  by_cases h : 10 ^ (18 : Int).toNat ≤ (if c < 0 then -c else c)
  · rw [decide_eq_true h]
    refine ⟨_, rfl, ?_⟩
    split <;> omega
  · rw [decide_eq_false h]
    exact ⟨0, rfl, by decide⟩
theorem ok__law_drawn_from {f : Addr} {fd : FuncData} (F : Fun K "_law_drawn_from" "_law_drawn_from" s__law_drawn_from f fd) (g : mg "_law_drawn_from" = some (.ref f)) (bd : Binds K fd ["_law_script", "_law_k"] []) (m_len : mg "len" = none) (m_abs : mg "abs" = none) (m_int : mg "int" = none) : CF P w K mg base 1 "_law_drawn_from" ["_law_script", "_law_k"] (sp__law_drawn_from K) := by
  refine ⟨f, fd, F.ok sc__law_drawn_from (fun vs H Q E h => ?_) (fun cdv A outer s H vs Q E hr h => ?_), g, F.kp, bd⟩
  · first | (obtain ⟨_, rfl, _⟩ := h; rfl) | (obtain ⟨_, _, rfl, _⟩ := h; rfl) | (obtain ⟨_, _, _, rfl, _⟩ := h; rfl) | (obtain ⟨_, _, _, _, rfl, _⟩ := h; rfl) | (obtain ⟨_, _, _, _, _, rfl, _⟩ := h; rfl) | (obtain ⟨_, _, _, _, _, _, rfl, _⟩ := h; rfl) | (obtain ⟨_, _, _, _, _, _, _, rfl, _⟩ := h; rfl) | (obtain ⟨_, _, _, _, _, _, _, _, rfl, _⟩ := h; rfl) | (obtain ⟨_, _, _, _, _, _, _, _, _, rfl, _⟩ := h; rfl) | (obtain ⟨_, _, _, _, _, _, _, _, _, _, rfl, _⟩ := h; rfl) | (obtain ⟨_, _, _, _, _, _, _, _, _, _, _, rfl, _⟩ := h; rfl) | (obtain ⟨_, _, _, _, _, _, _, _, _, _, _, _, rfl, _⟩ := h; rfl) | (obtain ⟨_, _, _, _, _, _, _, _, _, _, _, _, _, rfl, _⟩ := h; rfl) | (obtain ⟨_, _, _, _, _, _, _, _, _, _, _, _, _, _, rfl, _⟩ := h; rfl) | (obtain ⟨_, _, _, _, _, _, _, _, _, _, _, _, _, _, _, rfl, _⟩ := h; rfl)
  · have hu64 := hr.units
    obtain ⟨a, k, ns, rfl, hS, hlen, hk0, hk, q⟩ := h
    refine ⟨_, (pss_cons (ps_set (i := 2) sc__law_drawn_from.nd rfl (.inl rfl) (pe_ifExp (pt_cmpR op_lt (pv 1) (pe_callB (kk_len K) (by rfl) m_len PySem.boot_len (pa_cons (pv 0) pa_nil)) (nomark _)) (pe_ix (kk_ixl K) (pv 0) (pv 1) (fun _ _ => rfl)) pe_int))
      (pss_one (ps_ret (pe_lst (pa_cons (pe_ix (kk_ixl K) (pe_lst (pa_cons pe_int (pa_cons (pe_callB call_abs (by rfl) m_abs (by decide +kernel) (pa_cons (pv 2) pa_nil)) pa_nil))) (pe_callTy call_int1 (by rfl) m_int (by decide +kernel) (pa_cons (pe_cmpR op_ge (pe_callB call_abs (by rfl) m_abs (by decide +kernel) (pa_cons (pv 2) pa_nil)) (pe_op op_pow pe_int pe_int) (nomark _)) pa_nil)) (fun _ _ => rfl)) (pa_cons (pe_ifExp (pt_cmpR op_gt (pe_callB (kk_len K) (by rfl) m_len PySem.boot_len (pa_cons (pv 0) pa_nil)) pe_int (nomark _)) (pe_slice (kk_sll K) (pv 0) po_none (po_some pe_int)) (pe_lst (pa_cons pe_int pa_nil))) (pa_cons (pe_op op_mul pe_int (pv 1)) pa_nil))))))), ?_⟩
    refine ⟨_, rfl, _, rfl, a, _, rfl, .inl hS, _, _, rfl, rfl, _, rfl, ite2 (fun e => ?c1) (fun e => ?c2)⟩
    case' c1 =>
      have e1 := of_decide_eq_true e
      rw [List.length_map] at e1
      obtain ⟨d, hd⟩ := at_int hk0 e1
      refine ⟨_, rfl, _, rfl, a, _, _, _, rfl, rfl, hS, hd, ?_⟩
    all_goals
      refine ⟨_, rfl, _, rfl, (by show 2 ≤ sizeLine; decide), fun p hp => ?_⟩
      refine ⟨_, rfl, _, rfl, _, _, rfl, rfl, ⟨by decide, by decide, by decide⟩, _, _, rfl, rfl, .inr ⟨_, rfl, p, _, _, _, rfl, rfl, SqL.of upd_same, (big_or _).choose_spec.1, ?_⟩⟩
      have s1 := fun o => same_new (o := o) hp
      refine ⟨_, rfl, a, _, rfl, .inl ((s1 _).seq hS), _, _, rfl, rfl, _, rfl, ite2 (fun e2 => ?_) (fun e2 => ?_)⟩
      · have e3 := of_decide_eq_true e2
        rw [List.length_map] at e3
        refine ⟨_, rfl, _, rfl, a, _, rfl, (s1 _).seq hS, fun c nc => ?_⟩
        refine ⟨_, rfl, _, _, rfl, rfl, .inl ⟨by decide, by decide⟩, (by show 3 ≤ sizeLine; decide), fun l nl => ?_⟩
        refine q _ l c (none_of ((s1 _).trans (same_new nc)) nl) (none_of (s1 _) nc) (((s1 _).trans (same_new nc)).trans (same_new nl)) ⟨_, _, ns, upd_same, ?_, (big_or _).choose_spec.2, by omega, by omega, by omega, hlen⟩
        rw [upd_ne (ne_of_none upd_same nl), upd_same]
        exact congrArg (fun z => some (HO.lst z)) (cut_to (k := 63) (by rw [List.length_map]; exact hlen))
      · refine ⟨(by show 1 ≤ sizeLine; decide), fun c nc => ?_⟩
        refine ⟨_, rfl, _, _, rfl, rfl, .inl ⟨by decide, by decide⟩, (by show 3 ≤ sizeLine; decide), fun l nl => ?_⟩
        refine q _ l c (none_of ((s1 _).trans (same_new nc)) nl) (none_of (s1 _) nc) (((s1 _).trans (same_new nc)).trans (same_new nl)) ⟨_, _, [7], upd_same, ?_, (big_or _).choose_spec.2, by omega, by omega, by decide, by decide⟩
        rw [upd_ne (ne_of_none upd_same nl), upd_same]
        rfl
/-! ### _law_keep -/
abbrev s__law_keep : Stmt := topS 19
abbrev N__law_keep : List Str := ["_law_left", "_law_many", "_law_some", "_law_turn"]
theorem sc__law_keep : FnScope N__law_keep ["_law_left", "_law_many"] (defScope s__law_keep) := ⟨rfl, rfl, rfl, by decide +kernel, rfl, by decide +kernel, by decide +kernel⟩
def sp__law_keep (K : PySem.W.Frag) : Sp := fun vs H Q _ => ∃ (b c : Addr) (m n : Int), vs = [.ref b, .int m] ∧ Left H b c n ∧ 1 ≤ m ∧ m ≤ 6 ∧ n < 999999000 ∧ ∀ H' v kd ks, Left H' b c (n + 20) → But b H H' → Keep K H' m ks v kd → Q v H'
theorem ok__law_keep {f : Addr} {fd : FuncData} (F : Fun K "_law_keep" "_law_keep" s__law_keep f fd) (g : mg "_law_keep" = some (.ref f)) (bd : Binds K fd ["_law_left", "_law_many"] []) (m_tuple : mg "tuple" = none) (m_range : mg "range" = none) (C__law_pick : CF P w K mg base 2 "_law_pick" ["_law_left", "_law_many"] (sp__law_pick K)) : CF P w K mg base 3 "_law_keep" ["_law_left", "_law_many"] (sp__law_keep K) := by
  refine ⟨f, fd, F.ok sc__law_keep (fun vs H Q E h => ?_) (fun cdv A outer s H vs Q E hr h => ?_), g, F.kp, bd⟩
  · first | (obtain ⟨_, rfl, _⟩ := h; rfl) | (obtain ⟨_, _, rfl, _⟩ := h; rfl) | (obtain ⟨_, _, _, rfl, _⟩ := h; rfl) | (obtain ⟨_, _, _, _, rfl, _⟩ := h; rfl) | (obtain ⟨_, _, _, _, _, rfl, _⟩ := h; rfl) | (obtain ⟨_, _, _, _, _, _, rfl, _⟩ := h; rfl) | (obtain ⟨_, _, _, _, _, _, _, rfl, _⟩ := h; rfl) | (obtain ⟨_, _, _, _, _, _, _, _, rfl, _⟩ := h; rfl) | (obtain ⟨_, _, _, _, _, _, _, _, _, rfl, _⟩ := h; rfl) | (obtain ⟨_, _, _, _, _, _, _, _, _, _, rfl, _⟩ := h; rfl) | (obtain ⟨_, _, _, _, _, _, _, _, _, _, _, rfl, _⟩ := h; rfl) | (obtain ⟨_, _, _, _, _, _, _, _, _, _, _, _, rfl, _⟩ := h; rfl) | (obtain ⟨_, _, _, _, _, _, _, _, _, _, _, _, _, rfl, _⟩ := h; rfl) | (obtain ⟨_, _, _, _, _, _, _, _, _, _, _, _, _, _, rfl, _⟩ := h; rfl) | (obtain ⟨_, _, _, _, _, _, _, _, _, _, _, _, _, _, _, rfl, _⟩ := h; rfl)
  · have hu64 := hr.units
    obtain ⟨b, c, m, n, rfl, hL, hm, hm6, hn, q⟩ := h
    refine ⟨_, (pss_cons (ps_set (i := 2) sc__law_keep.nd rfl (.inr rfl) (pe_lst (pa_cons pe_int (pa_cons pe_int (pa_cons (pe_cf C__law_pick (hr.mono (by decide)) (by rfl) (pa_cons (pv 0) (pa_cons pe_int pa_nil))) (pa_cons (pe_op op_mul pe_int (pe_cf C__law_pick (hr.mono (by decide)) (by rfl) (pa_cons (pv 0) (pa_cons pe_int pa_nil)))) pa_nil))))))
      (pss_cons (ps_if (pt_cmpR op_eq (pe_cf C__law_pick (hr.mono (by decide)) (by rfl) (pa_cons (pv 0) (pa_cons pe_int pa_nil))) pe_int (nomark _))
         (pss_one (ps_ret (pe_ix (kk_ixl K) (pv 2) (pe_cf C__law_pick (hr.mono (by decide)) (by rfl) (pa_cons (pv 0) (pa_cons pe_int pa_nil))) (fun _ _ => rfl))))
         pss_nil)
      (pss_cons (ps_if (pt_cmpR op_eq (pe_cf C__law_pick (hr.mono (by decide)) (by rfl) (pa_cons (pv 0) (pa_cons pe_int pa_nil))) pe_int (nomark _))
         (pss_one (ps_ret (pe_op (kk_repA K) (pe_tup (pa_cons (pe_ix (kk_ixl K) (pv 2) (pe_cf C__law_pick (hr.mono (by decide)) (by rfl) (pa_cons (pv 0) (pa_cons pe_int pa_nil))) (fun _ _ => rfl)) pa_nil)) (pv 1))))
         pss_nil)
      (pss_one (ps_ret (pe_callTy (kk_tuple K) (by rfl) m_tuple (by decide +kernel) (pa_cons (pe_lc (own := [("_law_turn", 3)]) (g := (gName 3)) (tt := tYes) rfl sc__law_keep.nd (pi_range1 (by rfl) m_range (pa_cons (pv 1) pa_nil)) (blkOk_by (own := [("_law_turn", 3)]) (N := N__law_keep) (sc := defScope s__law_keep) (by decide +kernel)) (fun _ _ _ _ _ => pg_name (i := 3) sc__law_keep.nd rfl (Or.inl rfl)) (fun _ _ _ _ _ => pts_nil) (fun _ _ _ _ _ => (pe_ix (kk_ixl K) (pe_lst (pa_cons pe_int (pa_cons pe_int (pa_cons (pe_cf C__law_pick (hr.mono (by decide)) (by rfl) (pa_cons (pv 0) (pa_cons pe_int pa_nil))) (pa_cons (pe_ix (kk_ixl K) (pv 2) pe_int (fun _ _ => rfl)) pa_nil))))) (pe_cf C__law_pick (hr.mono (by decide)) (by rfl) (pa_cons (pv 0) (pa_cons pe_int pa_nil))) (fun _ _ => rfl)))) pa_nil))))))), ?_⟩
    refine ⟨_, rfl, b, c, 101, n, rfl, hL, by decide, by decide, by omega, fun r1 H1 r10 r11 L1 t1 => ?_⟩
    refine ⟨_, rfl, b, c, 21, n + 1, rfl, L1, by decide, by decide, by omega, fun r2 H2 r20 r21 L2 t2 => ?_⟩
    refine ⟨_, _, rfl, rfl, .inl ⟨by decide, by decide⟩, (by show 4 ≤ sizeLine; decide), fun s hs => ?_⟩
    have L3 := L2.new (o := .lst [.int 0, .int 100, .int r1, .int (5 * r2)]) hs
    have t3 : But b H _ := (t1.trans t2).trans (But.new (o := .lst [.int 0, .int 100, .int r1, .int (5 * r2)]) hs)
    have nsb : s ≠ b := L2.ne hs
    have e3 := upd_same (H := H2) (a := s) (o := .lst [.int 0, .int 100, .int r1, .int (5 * r2)])
    have pk : ∀ {r : Int}, 0 ≤ r → r < 4 → ∃ v : Int, atI [V.int 0, .int 100, .int r1, .int (5 * r2)] r = some (.int v) ∧ 0 ≤ v ∧ v ≤ 100 := fun h0 h1 => pick4i h0 h1 (by omega) (by omega) (by omega) (by omega)
    refine ⟨_, rfl, b, c, 2, n + 1 + 1, rfl, L3, by decide, by decide, by omega, fun r3 H4 _ _ L4 t4 => ⟨rfl, _, rfl, ite2 (fun _ => ?_) (fun _ => ?_)⟩⟩
    · refine ⟨_, rfl, _, rfl, b, c, 4, n + 1 + 1 + 1, rfl, L4, by decide, by decide, by omega, fun r5 H5 r50 r51 L5 t5 => ?_⟩
      obtain ⟨v, hv, v0, v1⟩ := pk r50 r51
      exact ⟨s, _, _, _, rfl, rfl, SqL.of (t5 _ _ nsb (t4 _ _ nsb e3)), hv, q _ _ _ _ (L5.mono (by omega)) ((t3.trans t4).trans t5) (.one v v0 v1 rfl)⟩
    refine ⟨_, rfl, b, c, 4, n + 1 + 1 + 1, rfl, L4, by decide, by decide, by omega, fun r4 H5 _ _ L5 t5 => ⟨rfl, _, rfl, ite2 (fun _ => ?_) (fun _ => ?_)⟩⟩
    · refine ⟨_, rfl, _, rfl, b, c, 4, n + 1 + 1 + 1 + 1, rfl, L5, by decide, by decide, by omega, fun r5 H6 r50 r51 L6 t6 => ?_⟩
      obtain ⟨v, hv, v0, v1⟩ := pk r50 r51
      refine ⟨s, _, _, _, rfl, rfl, SqL.of (t6 _ _ nsb (t5 _ _ nsb (t4 _ _ nsb e3))), hv, (by show 1 ≤ sizeLine; decide), fun t ht => ⟨_, rfl, ?_⟩⟩
      have t7 : But b H (upd H6 t (.tup [.int v])) := (((t3.trans t4).trans t5).trans t6).trans (But.new ht)
      by_cases hp1 : m = 1
      · subst hp1
        refine .inr ⟨t, [.int v], rfl, rfl, SqT.of upd_same, by simp, ?_⟩
        exact q _ _ _ [v] ((L6.new ht).mono (by omega)) t7 (.all t (SqT.of upd_same) rfl fun k hk => by rw [List.mem_singleton.mp hk]; exact ⟨v0, v1⟩)
      · refine .inl ⟨t, m, [.int v], rfl, rfl, SqT.of upd_same, by simp, by omega, by omega, (by show 1 ≤ 1000; decide), fun t2 ht2 => ?_⟩
        refine q _ _ _ (List.replicate m.toNat v) (((L6.new ht).new ht2).mono (by omega)) (t7.trans (But.new ht2)) (.all t2 (SqT.of ?_) ?_ fun k hk => by rw [List.eq_of_mem_replicate hk]; exact ⟨v0, v1⟩)
        · rw [upd_same, rep1, List.map_replicate]
        · rw [List.length_replicate]
          omega
    · refine ⟨_, rfl, _, rfl, by omega, by omega, fun D hD => lc_range (lo := 0) (n := m.toNat) (fun i H' => But b H5 H' ∧ Left H' b c (n + 4 + 2 * i) ∧ ∃ ks : List Int, ks.length = i ∧ (∀ k ∈ ks, 0 ≤ k ∧ k ≤ 100) ∧ H' D = some (.lst (ks.map V.int))) ⟨But.new hD, (L5.mono (by omega)).new hD, [], rfl, fun _ h => (nomatch h), upd_same⟩ (fun i H' hi h => ?_) (fun H' h => ?_)⟩
      · obtain ⟨t6, L6, ks, hks, hkb, hDl⟩ := h
        have hDb : D ≠ b := L5.ne hD
        have hDc : D ≠ c := L5.ne2 hD
        refine ⟨rfl, _, rfl, b, c, 101, _, rfl, L6, by decide, by decide, by omega, fun r5 H7 r50 r51 L7 t7 => ?_⟩
        refine ⟨_, rfl, s, _, _, _, rfl, rfl, SqL.of (t7 _ _ nsb (t6 _ _ nsb (t5 _ _ nsb (t4 _ _ nsb e3)))), rfl, (by show 4 ≤ sizeLine; decide), fun l hl => ?_⟩
        refine ⟨_, rfl, b, c, 4, _, rfl, L7.new hl, by decide, by decide, by omega, fun r6 H8 r60 r61 L8 t8 => ?_⟩
        obtain ⟨v, hv, v0, v1⟩ := pick4i (lo := 0) (hi := 100) (x := 0) (y := 100) (z := r5) (u := 5 * r2) r60 r61 (by omega) (by omega) (by omega) (by omega)
        have hlb : l ≠ b := L7.ne hl
        have hD8 : H8 D = some (.lst (ks.map V.int)) := t8 _ _ hDb ((But.new (b := b) hl) _ _ hDb (t7 _ _ hDb hDl))
        refine ⟨l, _, _, _, rfl, rfl, SqL.of (t8 _ _ hlb upd_same), hv, _, hD8, ?_, ?_, ?_, ks ++ [v], ?_, ?_, ?_⟩
        · rw [List.length_map, hks]
          exact small1000 (by omega)
        · exact fun e o ne he => by
            rw [upd_ne (ne_of_none (show H5 e = some o from he) hD)]
            exact t8 _ _ ne ((But.new (b := b) hl) _ _ ne (t7 _ _ ne (t6 _ _ ne he)))
        · exact (L8.mono (by omega)).upd hDb hDc
        · rw [List.length_append, hks]
          rfl
        · intro k hk
          rcases List.mem_append.mp hk with z | z
          · exact hkb k z
          · rw [List.mem_singleton.mp z]
            exact ⟨v0, v1⟩
        · rw [upd_same, List.map_append]
          rfl
      · obtain ⟨t6, L6, ks, hks, hkb, hDl⟩ := h
        refine ⟨D, _, rfl, .inl ⟨SqL.of hDl, fun t ht => ?_⟩⟩
        exact q _ _ _ ks ((L6.new ht).mono (by omega)) ((((t3.trans t4).trans t5).trans t6).trans (But.new ht)) (.all t (SqT.of upd_same) (by omega) hkb)
def Drawn (K : PySem.W.Frag) (H : Hp) (t : Addr) (f : Fg) (kv : V) (kd : PyData) : Prop := SqT K H t [.int f.p, .int f.s, .int f.g, .bl f.l, .int f.m, kv, .int f.fi, .int f.fa, .int f.ba] ∧ Figs f.p f.s f.g f.m f.fi f.fa f.ba ∧ Keep K H f.p f.ks kv kd
theorem Keep.same {K : PySem.W.Frag} {H H' : Hp} {p : Int} {ks : List Int} {v : V} {d : PyData} (h : Keep K H p ks v d) (e : Same H H') : Keep K H' p ks v d := by
  cases h with
  | one k h0 h1 e => exact .one k h0 h1 e
  | all a h hl hb => exact .all a (seqT_same e h) hl hb
theorem Keep.but {K : PySem.W.Frag} {H H' : Hp} {b c : Addr} {n p : Int} {ks : List Int} {v : V} {d : PyData} (h : Keep K H p ks v d) (e : But b H H') (l : Left H b c n) : Keep K H' p ks v d := by
  cases h with
  | one k h0 h1 e => exact .one k h0 h1 e
  | all a h hl hb => exact .all a (e.seqT l h) hl hb
theorem Drawn.same {K : PySem.W.Frag} {H H' : Hp} {t : Addr} {f : Fg} {kv : V} {kd : PyData} (h : Drawn K H t f kv kd) (e : Same H H') : Drawn K H' t f kv kd := ⟨seqT_same e h.1, h.2.1, h.2.2.same e⟩
theorem Drawn.but {K : PySem.W.Frag} {H H' : Hp} {b c t : Addr} {n : Int} {f : Fg} {kv : V} {kd : PyData} (h : Drawn K H t f kv kd) (e : But b H H') (l : Left H b c n) : Drawn K H' t f kv kd := ⟨e.seqT l h.1, h.2.1, h.2.2.but e l⟩
theorem Drawn.ok {K : PySem.W.Frag} {H : Hp} {t : Addr} {f : Fg} {kv : V} {kd : PyData} (h : Drawn K H t f kv kd) : f.Ok := by
  obtain ⟨_, F, k⟩ := h
  refine ⟨F, ?_, ?_⟩
  · cases k with
    | one k h0 h1 e =>
      have := F.p0
      rw [e, List.length_replicate]
      omega
    | all a h hl hb => exact hl
  · cases k with
    | one k h0 h1 e =>
      intro x hx
      rw [e] at hx
      rw [List.eq_of_mem_replicate hx]
      exact ⟨h0, h1⟩
    | all a h hl hb => exact hb
def mostN : Nat → Int
  | 0 => 100
  | _ => 30
theorem most_at {i : Nat} {x : V} (h : [V.int 100, .int 30, .int 30][i]? = some x) : i < 3 ∧ x = .int (mostN i) ∧ 30 ≤ mostN i ∧ mostN i ≤ 100 := by
  match i, h with
  | 0, h => cases h; exact ⟨by decide, rfl, by decide, by decide⟩
  | 1, h => cases h; exact ⟨by decide, rfl, by decide, by decide⟩
  | 2, h => cases h; exact ⟨by decide, rfl, by decide, by decide⟩
  | n + 3, h => cases h
/-! ### _law_some_rule -/
abbrev s__law_some_rule : Stmt := topS 20
abbrev N__law_some_rule : List Str := ["_law_left", "_law_many", "_law_far", "_law_found", "_law_most"]
theorem sc__law_some_rule : FnScope N__law_some_rule ["_law_left"] (defScope s__law_some_rule) := ⟨rfl, rfl, rfl, by decide +kernel, rfl, by decide +kernel, by decide +kernel⟩
def sp__law_some_rule (K : PySem.W.Frag) : Sp := fun vs H Q _ => ∃ (b c : Addr) (n : Int), vs = [.ref b] ∧ Left H b c n ∧ n < 999990000 ∧ ∀ H' t f kv kd, Left H' b c (n + 40) → But b H H' → Drawn K H' t f kv kd → Q (.ref t) H'
theorem ok__law_some_rule {f : Addr} {fd : FuncData} (F : Fun K "_law_some_rule" "_law_some_rule" s__law_some_rule f fd) (g : mg "_law_some_rule" = some (.ref f)) (bd : Binds K fd ["_law_left"] []) (m_tuple : mg "tuple" = none) (C__law_pick : CF P w K mg base 2 "_law_pick" ["_law_left", "_law_many"] (sp__law_pick K)) (C__law_keep : CF P w K mg base 3 "_law_keep" ["_law_left", "_law_many"] (sp__law_keep K)) : CF P w K mg base 4 "_law_some_rule" ["_law_left"] (sp__law_some_rule K) := by
  refine ⟨f, fd, F.ok sc__law_some_rule (fun vs H Q E h => ?_) (fun cdv A outer s H vs Q E hr h => ?_), g, F.kp, bd⟩
  · first | (obtain ⟨_, rfl, _⟩ := h; rfl) | (obtain ⟨_, _, rfl, _⟩ := h; rfl) | (obtain ⟨_, _, _, rfl, _⟩ := h; rfl) | (obtain ⟨_, _, _, _, rfl, _⟩ := h; rfl) | (obtain ⟨_, _, _, _, _, rfl, _⟩ := h; rfl) | (obtain ⟨_, _, _, _, _, _, rfl, _⟩ := h; rfl) | (obtain ⟨_, _, _, _, _, _, _, rfl, _⟩ := h; rfl) | (obtain ⟨_, _, _, _, _, _, _, _, rfl, _⟩ := h; rfl) | (obtain ⟨_, _, _, _, _, _, _, _, _, rfl, _⟩ := h; rfl) | (obtain ⟨_, _, _, _, _, _, _, _, _, _, rfl, _⟩ := h; rfl) | (obtain ⟨_, _, _, _, _, _, _, _, _, _, _, rfl, _⟩ := h; rfl) | (obtain ⟨_, _, _, _, _, _, _, _, _, _, _, _, rfl, _⟩ := h; rfl) | (obtain ⟨_, _, _, _, _, _, _, _, _, _, _, _, _, rfl, _⟩ := h; rfl) | (obtain ⟨_, _, _, _, _, _, _, _, _, _, _, _, _, _, rfl, _⟩ := h; rfl) | (obtain ⟨_, _, _, _, _, _, _, _, _, _, _, _, _, _, _, rfl, _⟩ := h; rfl)
  · have hu64 := hr.units
    obtain ⟨b, c, n, rfl, hL, hn, q⟩ := h
    refine ⟨_, (pss_cons (ps_par (i := 1) (j := 2) (by rfl) sc__law_some_rule.nd rfl rfl (by decide) rfl rfl (pa_cons (pe_ix (kk_ixl K) (pe_lst (pa_cons pe_int (pa_cons pe_int (pa_cons (pe_op op_add pe_int (pe_cf C__law_pick (hr.mono (by decide)) (by rfl) (pa_cons (pv 0) (pa_cons pe_int pa_nil)))) pa_nil)))) (pe_cf C__law_pick (hr.mono (by decide)) (by rfl) (pa_cons (pv 0) (pa_cons pe_int pa_nil))) (fun _ _ => rfl)) (pa_cons (pe_ix (kk_ixl K) (pe_lst (pa_cons pe_int (pa_cons pe_int (pa_cons (pe_op op_add pe_int (pe_cf C__law_pick (hr.mono (by decide)) (by rfl) (pa_cons (pv 0) (pa_cons pe_int pa_nil)))) pa_nil)))) (pe_cf C__law_pick (hr.mono (by decide)) (by rfl) (pa_cons (pv 0) (pa_cons pe_int pa_nil))) (fun _ _ => rfl)) pa_nil)) (by rfl))
      (pss_cons (ps_set (i := 3) sc__law_some_rule.nd rfl (.inl rfl) (pe_lst (pa_cons (pv 1) (pa_cons (pv 2) (pa_cons (pe_ix (kk_ixl K) (pe_lst (pa_cons pe_int (pa_cons pe_int (pa_cons (pe_cf C__law_pick (hr.mono (by decide)) (by rfl) (pa_cons (pv 0) (pa_cons pe_int pa_nil))) pa_nil)))) (pe_cf C__law_pick (hr.mono (by decide)) (by rfl) (pa_cons (pv 0) (pa_cons pe_int pa_nil))) (fun _ _ => rfl)) (pa_cons (pe_cmpR op_eq (pe_cf C__law_pick (hr.mono (by decide)) (by rfl) (pa_cons (pv 0) (pa_cons pe_int pa_nil))) pe_int (nomark _)) (pa_cons (pe_cf C__law_pick (hr.mono (by decide)) (by rfl) (pa_cons (pv 0) (pa_cons pe_int pa_nil))) pa_nil)))))))
      (pss_cons (ps_set (i := 3) sc__law_some_rule.nd rfl (.inl rfl) (pe_op op_cat (pv 3) (pe_lst (pa_cons (pe_cf C__law_keep (hr.mono (by decide)) (by rfl) (pa_cons (pv 0) (pa_cons (pv 1) pa_nil))) pa_nil))))
      (pss_cons (ps_for PassesOwn.never rfl (pi_tup (pe_tup (pa_cons pe_int (pa_cons pe_int (pa_cons pe_int pa_nil))))) (pg_name (i := 4) sc__law_some_rule.nd rfl (.inl rfl))
         (pss_one (ps_expr (pe_bm PySem.F.plainAttrs_list PySem.F.slot_list_append PySem.F.type_list_append mt_append (pv 3) (pa_cons (pe_ix (kk_ixl K) (pe_lst (pa_cons pe_int (pa_cons pe_int (pa_cons (pv 4) (pa_cons (pe_cf C__law_pick (hr.mono (by decide)) (by rfl) (pa_cons (pv 0) (pa_cons (pe_op op_add (pv 4) pe_int) pa_nil))) pa_nil))))) (pe_cf C__law_pick (hr.mono (by decide)) (by rfl) (pa_cons (pv 0) (pa_cons pe_int pa_nil))) (fun _ _ => rfl)) pa_nil)))))
      (pss_one (ps_ret (pe_callTy (kk_tuple K) (by rfl) m_tuple (by decide +kernel) (pa_cons (pv 3) pa_nil)))))))), ?_⟩
    refine ⟨_, rfl, b, c, 6, n, rfl, hL, by decide, by decide, by omega, fun r1 H1 r10 r11 L1 t1 => ⟨_, _, rfl, rfl, (by show 3 ≤ sizeLine; decide), fun l1 n1 => ?_⟩⟩
    refine ⟨_, rfl, b, c, 3, _, rfl, L1.new n1, by decide, by decide, by omega, fun r2 H2 r20 r21 L2 t2 => ?_⟩
    obtain ⟨p, hp, p0, p1⟩ := pick3i (lo := 1) (hi := 6) (x := 1) (y := 6) (z := 1 + r1) r20 r21 (by omega) (by omega) (by omega)
    refine ⟨l1, _, _, _, rfl, rfl, SqL.of (t2 _ _ (L1.ne n1) upd_same), hp, ?_⟩
    have t2' := (t1.trans (But.new n1)).trans t2
    refine ⟨_, rfl, b, c, 14, _, rfl, L2, by decide, by decide, by omega, fun r3 H3 r30 r31 L3 t3 => ⟨_, _, rfl, rfl, (by show 3 ≤ sizeLine; decide), fun l2 n2 => ?_⟩⟩
    refine ⟨_, rfl, b, c, 3, _, rfl, L3.new n2, by decide, by decide, by omega, fun r4 H4 r40 r41 L4 t4 => ?_⟩
    obtain ⟨s', hs, s0, s1⟩ := pick3i (lo := 1) (hi := 14) (x := 1) (y := 14) (z := 1 + r3) r40 r41 (by omega) (by omega) (by omega)
    refine ⟨l2, _, _, _, rfl, rfl, SqL.of (t4 _ _ (L3.ne n2) upd_same), hs, _, _, rfl, ?_⟩
    have t4' := ((t2'.trans t3).trans (But.new n2)).trans t4
    refine ⟨_, rfl, _, rfl, _, rfl, b, c, 8, _, rfl, L4, by decide, by decide, by omega, fun r5 H5 r50 r51 L5 t5 => ⟨(by show 3 ≤ sizeLine; decide), fun l3 n3 => ?_⟩⟩
    refine ⟨_, rfl, b, c, 3, _, rfl, L5.new n3, by decide, by decide, by omega, fun r6 H6 r60 r61 L6 t6 => ?_⟩
    obtain ⟨g', hg, g0, g1⟩ := pick3i (lo := 0) (hi := 7) (x := 0) (y := 7) (z := r5) r60 r61 (by omega) (by omega) (by omega)
    refine ⟨l3, _, _, _, rfl, rfl, SqL.of (t6 _ _ (L5.ne n3) upd_same), hg, ?_⟩
    have t6' := ((t4'.trans t5).trans (But.new n3)).trans t6
    refine ⟨_, rfl, b, c, 2, _, rfl, L6, by decide, by decide, by omega, fun r7 H7 r70 r71 L7 t7 => ⟨rfl, ?_⟩⟩
    refine ⟨_, rfl, b, c, 3, _, rfl, L7, by decide, by decide, by omega, fun r8 H8 r80 r81 L8 t8 => ⟨(by show 5 ≤ sizeLine; decide), fun l4 n4 => ?_⟩⟩
    have n4b := L8.ne n4
    have L8' := L8.new (o := .lst [.int p, .int s', .int g', .bl (decide (V.int r7 = V.int 0)), .int r8]) n4
    have t8' := ((t6'.trans t7).trans t8).trans (But.new (o := .lst [.int p, .int s', .int g', .bl (decide (V.int r7 = V.int 0)), .int r8]) n4)
    refine ⟨_, rfl, _, rfl, _, rfl, b, c, p, _, rfl, L8', p0, p1, by omega, fun H9 kv kd ks L9 t9 hk => ⟨(by show 1 ≤ sizeLine; decide), fun l5 n5 => ?_⟩⟩
    refine ⟨l4, l5, _, _, rfl, rfl, (But.new (b := b) n5) _ _ n4b (t9 _ _ n4b upd_same), upd_same, (by show 5 + 1 ≤ sizeLine; decide), fun l6 n6 => ?_⟩
    have L5' := L9.new (o := .lst [kv]) n5
    have L6' := L5'.new (o := .lst [.int p, .int s', .int g', .bl (decide (V.int r7 = V.int 0)), .int r8, kv]) n6
    have n69 : H9 l6 = none := none_of (same_new n5) n6
    have n6b := L9.ne n69
    have n6c := L9.ne2 n69
    have e6 := upd_same (H := upd H9 l5 (.lst [kv])) (a := l6) (o := .lst [.int p, .int s', .int g', .bl (decide (V.int r7 = V.int 0)), .int r8, kv])
    refine ⟨(by show 3 ≤ sizeLine; decide), fun tt ntt => ?_⟩
    have ntb := L6'.ne ntt
    have n6t : l6 ≠ tt := ne_of_none e6 ntt
    refine ⟨tt, rfl, ⟨_, SqT.of upd_same⟩, for_tup (K := K) (a := tt) (xs := [.int 100, .int 30, .int 30]) (fun i σ H' => ∃ s4, σ = [some (.ref b), some (.int p), some (.int s'), some (.ref l6), s4] ∧ H' tt = some (.tup [.int 100, .int 30, .int 30]) ∧ But b H9 H' ∧ Left H' b c (n + 28 + 2 * i) ∧ ∃ es : List Int, es.length = i ∧ (∀ (j : Nat) (e : Int), es[j]? = some e → 0 ≤ e ∧ e ≤ mostN j) ∧ H' l6 = some (.lst ([.int p, .int s', .int g', .bl (decide (V.int r7 = V.int 0)), .int r8, kv] ++ es.map V.int)))
      ⟨_, rfl, upd_same, ((But.new n5).trans (But.new n6)).trans (But.new ntt), (L6'.mono (by omega)).new ntt, [], rfl, fun j e h => (nomatch h), by rw [upd_ne n6t]; exact e6⟩ (fun i σ H' _ h => by obtain ⟨_, _, h, _⟩ := h; exact SqT.of h) (fun i x σ H' hx h => ?_) (fun σ H' h => ?_)⟩
    · obtain ⟨s4, rfl, htt, tB, LB, es, hes, hev, hl6⟩ := h
      obtain ⟨hi3, rfl, m30, m100⟩ := most_at hx
      refine ⟨_, rfl, .inl ⟨rfl, _, SqL.of hl6⟩, _, rfl, _, rfl, _, rfl, _, _, rfl, rfl, b, c, mostN i + 1, _, rfl, LB, by omega, by omega, by omega, fun r9 HA r90 r91 LA tA => ⟨(by show 4 ≤ sizeLine; decide), fun l7 n7 => ?_⟩⟩
      refine ⟨_, rfl, b, c, 4, _, rfl, LA.new n7, by decide, by decide, by omega, fun ra HC ra0 ra1 LC tC => ?_⟩
      obtain ⟨v, hv, v0, v1⟩ := pick4i (lo := 0) (hi := mostN i) (x := 0) (y := 0) (z := mostN i) (u := r9) ra0 ra1 (by omega) (by omega) (by omega) (by omega)
      have tD : But b H' HC := (tA.trans (But.new n7)).trans tC
      refine ⟨l7, _, _, _, rfl, rfl, SqL.of (tC _ _ (LA.ne n7) upd_same), hv, l6, _, _, rfl, rfl, tD _ _ n6b hl6, ?_, _, rfl, ?_, ?_, ?_, es ++ [v], ?_, ?_, ?_⟩
      · rw [List.length_append, List.length_map, hes]
        exact small1000 (by show 6 + i ≤ 1000; omega)
      · rw [upd_ne n6t.symm]
        exact tD _ _ ntb htt
      · exact fun e o ne he => by
          rw [upd_ne (ne_of_none he n69)]
          exact tD _ _ ne (tB _ _ ne he)
      · exact (LC.mono (by omega)).upd n6b n6c
      · rw [List.length_append, hes]
        rfl
      · intro j e he
        rcases Nat.lt_or_ge j es.length with z | z
        · rw [List.getElem?_append_left z] at he
          exact hev j e he
        · rw [List.getElem?_append_right z] at he
          obtain ⟨h1, h2⟩ := List.getElem?_eq_some_iff.mp he
          have h3 : j - es.length = 0 := by
            have h4 : ([v] : List Int).length = 1 := rfl
            omega
          have h5 : j = i := by omega
          subst h5
          simp only [h3, List.getElem_cons_zero] at h2
          rw [← h2]
          exact ⟨v0, v1⟩
      · rw [upd_same, List.map_append, List.append_assoc]
        rfl
    · obtain ⟨s4, rfl, htt, tB, LB, es, hes, hev, hl6⟩ := h
      match es, hes with
      | [fi, fa, ba], _ =>
        have f1 := hev 0 fi rfl
        have f2 := hev 1 fa rfl
        have f3 := hev 2 ba rfl
        refine ⟨_, rfl, l6, _, rfl, .inl ⟨SqL.of hl6, fun t ht => ?_⟩⟩
        refine q _ t ⟨p, s', g', decide (V.int r7 = V.int 0), r8, ks, fi, fa, ba⟩ kv kd ((LB.mono (by show n + 28 + 2 * (3 : Int) ≤ n + 40; omega)).new ht) (((t8'.trans t9).trans tB).trans (But.new ht)) ⟨SqT.of upd_same, ⟨p0, p1, s0, s1, g0, g1, r80, by show r8 ≤ 2; omega, f1.1, f1.2, f2.1, f2.2, f3.1, f3.2⟩, (hk.but tB L9).same (same_new ht)⟩
/-! ### _law_same -/
abbrev s__law_same : Stmt := topS 16
abbrev N__law_same : List Str := ["_law_found", "_law_due", "_law_one", "_law_other"]
theorem sc__law_same : FnScope N__law_same ["_law_found", "_law_due"] (defScope s__law_same) := ⟨rfl, rfl, rfl, by decide +kernel, rfl, by decide +kernel, by decide +kernel⟩
def spr__law_same (K : PySem.W.Frag) : Nat → Sp
  | 0 => fun _ _ _ _ => False
  | n + 1 => fun vs H Q _ => ∃ (x y : V) (d : PyData), vs = [x, y] ∧ Dp K H x d ∧ Dp K H y d ∧ PyData.depth d ≤ n ∧ thin d = true ∧ ∀ H', Same H H' → Q (.bl true) H'
def sp__law_same (K : PySem.W.Frag) : Sp := spr__law_same K 5
theorem st__law_same (n : Nat) {f : Addr} {fd : FuncData} (F : Fun K "_law_same" "_law_same" s__law_same f fd) (g : mg "_law_same" = some (.ref f)) (bd : Binds K fd ["_law_found", "_law_due"] []) (m_isinstance : mg "isinstance" = none) (m_tuple : mg "tuple" = none) (m_list : mg "list" = none) (m_all : mg "all" = none) (m_zip : mg "zip" = none) (m_len : mg "len" = none) (m_str : mg "str" = none) (m_bool : mg "bool" = none) (m_int : mg "int" = none) (C__law_same : CF P w K mg base (1 + n) "_law_same" ["_law_found", "_law_due"] (spr__law_same K n)) : CF P w K mg base (1 + n + 1) "_law_same" ["_law_found", "_law_due"] (spr__law_same K (n + 1)) := by
  refine ⟨f, fd, F.ok sc__law_same (fun vs H Q E h => ?_) (fun cdv A outer s H vs Q E hr h => ?_), g, F.kp, bd⟩
  · first | (obtain ⟨_, rfl, _⟩ := h; rfl) | (obtain ⟨_, _, rfl, _⟩ := h; rfl) | (obtain ⟨_, _, _, rfl, _⟩ := h; rfl) | (obtain ⟨_, _, _, _, rfl, _⟩ := h; rfl) | (obtain ⟨_, _, _, _, _, rfl, _⟩ := h; rfl) | (obtain ⟨_, _, _, _, _, _, rfl, _⟩ := h; rfl) | (obtain ⟨_, _, _, _, _, _, _, rfl, _⟩ := h; rfl) | (obtain ⟨_, _, _, _, _, _, _, _, rfl, _⟩ := h; rfl) | (obtain ⟨_, _, _, _, _, _, _, _, _, rfl, _⟩ := h; rfl) | (obtain ⟨_, _, _, _, _, _, _, _, _, _, rfl, _⟩ := h; rfl) | (obtain ⟨_, _, _, _, _, _, _, _, _, _, _, rfl, _⟩ := h; rfl) | (obtain ⟨_, _, _, _, _, _, _, _, _, _, _, _, rfl, _⟩ := h; rfl) | (obtain ⟨_, _, _, _, _, _, _, _, _, _, _, _, _, rfl, _⟩ := h; rfl) | (obtain ⟨_, _, _, _, _, _, _, _, _, _, _, _, _, _, rfl, _⟩ := h; rfl) | (obtain ⟨_, _, _, _, _, _, _, _, _, _, _, _, _, _, _, rfl, _⟩ := h; rfl)
  · have hu64 := hr.units
    obtain ⟨x, y, d, rfl, hx, hy, hd, ht, q⟩ := h
    refine ⟨_, (pss_cons (ps_if (pt_val (pe_callB (kk_isiT K) (by rfl) m_isinstance (by decide +kernel) (pa_cons (pv 1) (pa_cons (pe_tup (pa_cons (pe_bltn (v := .ty "list") (by rfl) m_list (by decide +kernel) rfl) (pa_cons (pe_bltn (v := .ty "tuple") (by rfl) m_tuple (by decide +kernel) rfl) pa_nil))) pa_nil))))
         (pss_cons (ps_if (PW.pt (pw_or (pt_cmpR op_ne (pe_callB (kk_isi K) (by rfl) m_isinstance (by decide +kernel) (pa_cons (pv 0) (pa_cons (pe_bltn (v := .ty "list") (by rfl) m_list (by decide +kernel) rfl) pa_nil))) (pe_callB (kk_isi K) (by rfl) m_isinstance (by decide +kernel) (pa_cons (pv 1) (pa_cons (pe_bltn (v := .ty "list") (by rfl) m_list (by decide +kernel) rfl) pa_nil))) (nomark _)) (pw_or1 (pt_cmpR op_ne (pe_callB (kk_isi K) (by rfl) m_isinstance (by decide +kernel) (pa_cons (pv 0) (pa_cons (pe_bltn (v := .ty "tuple") (by rfl) m_tuple (by decide +kernel) rfl) pa_nil))) (pe_callB (kk_isi K) (by rfl) m_isinstance (by decide +kernel) (pa_cons (pv 1) (pa_cons (pe_bltn (v := .ty "tuple") (by rfl) m_tuple (by decide +kernel) rfl) pa_nil))) (nomark _)))))
             (pss_one (ps_ret pe_bl))
             pss_nil)
          (pss_one (ps_ret (pe_and (pe_cmpR op_eq (pe_callB (kk_len K) (by rfl) m_len PySem.boot_len (pa_cons (pv 0) pa_nil)) (pe_callB (kk_len K) (by rfl) m_len PySem.boot_len (pa_cons (pv 1) pa_nil)) (nomark _)) (pe_one (pe_callB (kk_all K rfl) (by rfl) m_all (by decide +kernel) (pa_cons (pe_lc (own := [("_law_one", 2), ("_law_other", 3)]) (g := (gTup K 2 (gCons (gName 2) (gCons (gName 3) gNil)))) (tt := tYes) rfl sc__law_same.nd (RZ.pi_zipA (by rfl) m_zip (pa_cons (pv 0) (pa_cons (pv 1) pa_nil))) (blkOk_by (own := [("_law_one", 2), ("_law_other", 3)]) (N := N__law_same) (sc := defScope s__law_same) (by decide +kernel)) (fun _ _ _ _ _ => (pg_tup (by rfl) (pgs_cons (pg_name (i := 2) sc__law_same.nd rfl (.inl rfl)) (pgs_cons (pg_name (i := 3) sc__law_same.nd rfl (.inl rfl)) pgs_nil)))) (fun _ _ _ _ _ => pts_nil) (fun _ _ _ _ _ => (pe_cf C__law_same hr (by rfl) (pa_cons (pv 2) (pa_cons (pv 3) pa_nil))))) pa_nil)))))))
         pss_nil)
      (pss_cons (ps_if (PW.pt (pw_or (pt_cmpR op_isN (pv 1) pe_non (nomark _)) (pw_or1 (pt_val (pe_callB (kk_isi K) (by rfl) m_isinstance (by decide +kernel) (pa_cons (pv 1) (pa_cons (pe_bltn (v := .ty "str") (by rfl) m_str (by decide +kernel) rfl) pa_nil)))))))
         (pss_one (ps_ret (pe_and (pe_cmpR op_eq (pv 0) (pv 1) (nomark _)) (pe_one (pe_cmpR op_eq (pe_callB (kk_isi K) (by rfl) m_isinstance (by decide +kernel) (pa_cons (pv 0) (pa_cons (pe_bltn (v := .ty "str") (by rfl) m_str (by decide +kernel) rfl) pa_nil))) (pe_callB (kk_isi K) (by rfl) m_isinstance (by decide +kernel) (pa_cons (pv 1) (pa_cons (pe_bltn (v := .ty "str") (by rfl) m_str (by decide +kernel) rfl) pa_nil))) (nomark _))))))
         pss_nil)
      (pss_cons (ps_if (pt_val (pe_callB (kk_isi K) (by rfl) m_isinstance (by decide +kernel) (pa_cons (pv 1) (pa_cons (pe_bltn (v := .ty "bool") (by rfl) m_bool (by decide +kernel) rfl) pa_nil))))
         (pss_one (ps_ret (pe_and (pe_callB (kk_isi K) (by rfl) m_isinstance (by decide +kernel) (pa_cons (pv 0) (pa_cons (pe_bltn (v := .ty "bool") (by rfl) m_bool (by decide +kernel) rfl) pa_nil))) (pe_one (pe_cmpR op_eq (pv 0) (pv 1) (nomark _))))))
         pss_nil)
      (pss_one (ps_ret (pe_and (pe_callB (kk_isi K) (by rfl) m_isinstance (by decide +kernel) (pa_cons (pv 0) (pa_cons (pe_bltn (v := .ty "int") (by rfl) m_int (by decide +kernel) rfl) pa_nil))) (pe_and (pe_not (pe_callB (kk_isi K) (by rfl) m_isinstance (by decide +kernel) (pa_cons (pv 0) (pa_cons (pe_bltn (v := .ty "bool") (by rfl) m_bool (by decide +kernel) rfl) pa_nil)))) (pe_one (pe_cmpR op_eq (pv 0) (pv 1) (nomark _)))))))))), ?_⟩
    refine ⟨_, rfl, (by show 2 ≤ sizeLine; decide), fun tp ntp => ⟨_, tp, _, _, _, _, rfl, upd_same, .cons (.ty _) (.cons (.ty _) .nil), ty_of_dp (dp_same (same_new ntp) hy), kitLT d, _, rfl, ?_⟩⟩
    have s1 := same_new (o := .tup [.ty "list", .ty "tuple"]) ntp
    have q1 := q _ s1
    have tx := ty_of_dp (dp_same s1 hx)
    have ty := ty_of_dp (dp_same s1 hy)
    cases hx with
    | non =>
      cases hy
      exact iteF ⟨_, rfl, rfl, _, rfl, iteT (iteT ⟨_, rfl, _, rfl, rfl, _, rfl, iteY rfl ⟨_, rfl, _, _, _, _, _, rfl, .ty _, tx, kit_d (T := "str") (by decide) _, _, rfl, _, _, _, _, _, rfl, .ty _, ty, kit_d (T := "str") (by decide) _, rfl, qY rfl q1⟩⟩)⟩
    | str z =>
      cases hy
      exact iteF ⟨_, rfl, rfl, _, rfl, iteF ⟨_, rfl, _, _, _, _, _, rfl, .ty _, ty, kit_d (T := "str") (by decide) _, _, rfl, iteT ⟨_, rfl, _, rfl, rfl, _, rfl, iteY rfl ⟨_, rfl, _, _, _, _, _, rfl, .ty _, tx, kit_d (T := "str") (by decide) _, _, rfl, _, _, _, _, _, rfl, .ty _, ty, kit_d (T := "str") (by decide) _, rfl, qY rfl q1⟩⟩⟩⟩
    | bl b =>
      cases hy
      exact iteF ⟨_, rfl, rfl, _, rfl, iteF ⟨_, rfl, _, _, _, _, _, rfl, .ty _, ty, kit_d (T := "str") (by decide) _, _, rfl, iteF ⟨_, rfl, _, _, _, _, _, rfl, .ty _, ty, kit_d (T := "bool") (by decide) _, _, rfl, iteT ⟨_, rfl, _, _, _, _, _, rfl, .ty _, tx, kit_d (T := "bool") (by decide) _, _, rfl, iteT ⟨_, rfl, _, rfl, rfl, qY rfl q1⟩⟩⟩⟩⟩
    | int i =>
      cases hy
      exact iteF ⟨_, rfl, rfl, _, rfl, iteF ⟨_, rfl, _, _, _, _, _, rfl, .ty _, ty, kit_d (T := "str") (by decide) _, _, rfl, iteF ⟨_, rfl, _, _, _, _, _, rfl, .ty _, ty, kit_d (T := "bool") (by decide) _, _, rfl, iteF ⟨_, rfl, _, _, _, _, _, rfl, .ty _, tx, kit_d (T := "int") (by decide) _, _, rfl, iteT ⟨_, rfl, _, _, _, _, _, rfl, .ty _, tx, kit_d (T := "bool") (by decide) _, _, rfl, _, rfl, iteT ⟨_, rfl, _, rfl, rfl, qY rfl q1⟩⟩⟩⟩⟩⟩
    | @lst a xs ds hS hA =>
      obtain ⟨m, rfl⟩ : ∃ m, n = m + 1 := ⟨n - 1, by simp only [PyData.depth] at hd; omega⟩
      cases hy with
      | @lst a2 ys _ hS2 hA2 =>
        have hlen : xs.length = ys.length := (dpAll_len hA).trans (dpAll_len hA2).symm
        simp only [thin, Bool.and_eq_true, decide_eq_true_eq] at ht
        obtain ⟨ht1, ht2⟩ := ht
        have hxl := dpAll_len hA
        refine iteT ⟨_, rfl, _, _, _, _, _, rfl, .ty _, tx, kit_d (T := "list") (by decide) _, _, rfl, _, _, _, _, _, rfl, .ty _, ty, kit_d (T := "list") (by decide) _, rfl, _, rfl, iteF ⟨_, rfl, _, _, _, _, _, rfl, .ty _, tx, kit_d (T := "tuple") (by decide) _, _, rfl, _, _, _, _, _, rfl, .ty _, ty, kit_d (T := "tuple") (by decide) _, rfl, _, rfl, iteF ?_⟩⟩
        refine ⟨_, rfl, a, _, rfl, .inl (s1.seq hS), _, rfl, a2, _, rfl, .inl (s1.seq hS2), rfl, _, rfl, iteY (by rw [hlen]) ?_⟩
        refine ⟨_, rfl, _, rfl, a, a2, _, _, rfl, .inl ⟨s1.seq hS, s1.seq hS2, fun D hD => lc_gen (n := xs.length) (fun i H' => Same (upd H tp (.tup [.ty "list", .ty "tuple"])) H' ∧ H' D = some (.lst ((List.replicate i true).map V.bl))) ⟨same_new hD, upd_same⟩ (fun i H' h => canL hlen ((s1.trans h.1).seq hS) ((s1.trans h.1).seq hS2)) (fun i H' v H'' hi h hyl => ?_) (fun H' h => ?_)⟩⟩
        · obtain ⟨T, x', y', rfl, hT, rfl, f1, f2⟩ := hyl
          obtain ⟨h1, h2⟩ := h
          have g1 := f1 xs ((s1.trans h1).seq hS)
          have g2 := f2 ys ((s1.trans h1).seq hS2)
          obtain ⟨d1, e1, p1⟩ := dpAll_get hA g1
          obtain ⟨d2, e2, p2⟩ := dpAll_get hA2 g2
          cases (Option.some.inj (e1.symm.trans e2))
          have sT := same_new (o := .tup [x', y']) hT
          have dd := depth_at e1
          simp only [PyData.depth] at hd
          refine ⟨T, _, rfl, SqT.of upd_same, rfl, _, _, rfl, _, _, rfl, rfl, rfl, _, rfl, _, rfl, x', y', d1, rfl, dp_same ((s1.trans h1).trans sT) p1, dp_same ((s1.trans h1).trans sT) p2, by omega, thin_at ht2 e1, fun H3 s3 => ?_⟩
          refine ⟨_, s3 _ _ (sT _ _ h2), ?_, ?_, ?_⟩
          · rw [List.length_map, List.length_replicate]
            exact small1000 (by omega)
          · exact fun c o e => by
              rw [upd_ne (ne_of_none e hD)]
              exact s3 _ _ (sT _ _ (h1 _ _ e))
          · rw [upd_same, rep_snoc]
        · obtain ⟨h1, h2⟩ := h
          refine ⟨D, _, rfl, SqL.of h2, ?_⟩
          rw [all_true]
          exact q _ (s1.trans h1)
    | @tup a xs ds hS hA =>
      obtain ⟨m, rfl⟩ : ∃ m, n = m + 1 := ⟨n - 1, by simp only [PyData.depth] at hd; omega⟩
      cases hy with
      | @tup a2 ys _ hS2 hA2 =>
        have hlen : xs.length = ys.length := (dpAll_len hA).trans (dpAll_len hA2).symm
        simp only [thin, Bool.and_eq_true, decide_eq_true_eq] at ht
        obtain ⟨ht1, ht2⟩ := ht
        have hxl := dpAll_len hA
        refine iteT ⟨_, rfl, _, _, _, _, _, rfl, .ty _, tx, kit_d (T := "list") (by decide) _, _, rfl, _, _, _, _, _, rfl, .ty _, ty, kit_d (T := "list") (by decide) _, rfl, _, rfl, iteF ⟨_, rfl, _, _, _, _, _, rfl, .ty _, tx, kit_d (T := "tuple") (by decide) _, _, rfl, _, _, _, _, _, rfl, .ty _, ty, kit_d (T := "tuple") (by decide) _, rfl, _, rfl, iteF ?_⟩⟩
        refine ⟨_, rfl, a, _, rfl, .inr (seqT_same s1 hS), _, rfl, a2, _, rfl, .inr (seqT_same s1 hS2), rfl, _, rfl, iteY (by rw [hlen]) ?_⟩
        refine ⟨_, rfl, _, rfl, a, a2, _, _, rfl, .inr ⟨seqT_same s1 hS, seqT_same s1 hS2, fun D hD => lc_gen (n := xs.length) (fun i H' => Same (upd H tp (.tup [.ty "list", .ty "tuple"])) H' ∧ H' D = some (.lst ((List.replicate i true).map V.bl))) ⟨same_new hD, upd_same⟩ (fun i H' h => canT hlen (seqT_same (s1.trans h.1) hS) (seqT_same (s1.trans h.1) hS2)) (fun i H' v H'' hi h hyl => ?_) (fun H' h => ?_)⟩⟩
        · obtain ⟨T, x', y', rfl, hT, rfl, f1, f2⟩ := hyl
          obtain ⟨h1, h2⟩ := h
          have g1 := f1 xs (seqT_same (s1.trans h1) hS)
          have g2 := f2 ys (seqT_same (s1.trans h1) hS2)
          obtain ⟨d1, e1, p1⟩ := dpAll_get hA g1
          obtain ⟨d2, e2, p2⟩ := dpAll_get hA2 g2
          cases (Option.some.inj (e1.symm.trans e2))
          have sT := same_new (o := .tup [x', y']) hT
          have dd := depth_at e1
          simp only [PyData.depth] at hd
          refine ⟨T, _, rfl, SqT.of upd_same, rfl, _, _, rfl, _, _, rfl, rfl, rfl, _, rfl, _, rfl, x', y', d1, rfl, dp_same ((s1.trans h1).trans sT) p1, dp_same ((s1.trans h1).trans sT) p2, by omega, thin_at ht2 e1, fun H3 s3 => ?_⟩
          refine ⟨_, s3 _ _ (sT _ _ h2), ?_, ?_, ?_⟩
          · rw [List.length_map, List.length_replicate]
            exact small1000 (by omega)
          · exact fun c o e => by
              rw [upd_ne (ne_of_none e hD)]
              exact s3 _ _ (sT _ _ (h1 _ _ e))
          · rw [upd_same, rep_snoc]
        · obtain ⟨h1, h2⟩ := h
          refine ⟨D, _, rfl, SqL.of h2, ?_⟩
          rw [all_true]
          exact q _ (s1.trans h1)
theorem ok__law_same {f : Addr} {fd : FuncData} (F : Fun K "_law_same" "_law_same" s__law_same f fd) (g : mg "_law_same" = some (.ref f)) (bd : Binds K fd ["_law_found", "_law_due"] []) (m_isinstance : mg "isinstance" = none) (m_tuple : mg "tuple" = none) (m_list : mg "list" = none) (m_all : mg "all" = none) (m_zip : mg "zip" = none) (m_len : mg "len" = none) (m_str : mg "str" = none) (m_bool : mg "bool" = none) (m_int : mg "int" = none) : CF P w K mg base (6) "_law_same" ["_law_found", "_law_due"] (sp__law_same K) := by
  have all : ∀ n, CF P w K mg base (1 + n) "_law_same" ["_law_found", "_law_due"] (spr__law_same K n) := fun n => by
    induction n with
    | zero => exact ⟨f, fd, F.ok (k := 0) sc__law_same (fun vs H Q E h => h.elim) (fun cdv A outer s H vs Q E hr h => h.elim), g, F.kp, bd⟩
    | succ n ih => exact st__law_same n F g bd m_isinstance m_tuple m_list m_all m_zip m_len m_str m_bool m_int ih
  exact all 5
/-! ### _law_made -/
abbrev s__law_made : Stmt := topS 21
abbrev N__law_made : List Str := ["_law_some"]
theorem sc__law_made : FnScope N__law_made ["_law_some"] (defScope s__law_made) := ⟨rfl, rfl, rfl, by decide +kernel, rfl, by decide +kernel, by decide +kernel⟩
def sp__law_made (K : PySem.W.Frag) (C : Addr) : Sp := fun vs H Q _ => ∃ (t : Addr) (f : Fg) (kv : V) (kd : PyData), vs = [.ref t] ∧ Drawn K H t f kv kd ∧ ∀ H' r, H r = none → Same H H' → RuleAt K H' C r f → Q (.ref r) H'
theorem ok__law_made {f : Addr} {fd : FuncData} (F : Fun K "_law_made" "_law_made" s__law_made f fd) (g : mg "_law_made" = some (.ref f)) (bd : Binds K fd ["_law_some"] []) {CR : Addr} (TQ : TEq K mg CR "Rule") (T_Rule : TRule K mg CR) (M_Rule : CMk P w K mg base CR 4 "Rule" ["self", "parts", "step", "grace", "last", "misses", "keep", "fine", "falls", "back"] [] (sp_Rule___init__ K CR)) : CF P w K mg base 6 "_law_made" ["_law_some"] (sp__law_made K CR) := by
  refine ⟨f, fd, F.ok sc__law_made (fun vs H Q E h => ?_) (fun cdv A outer s H vs Q E hr h => ?_), g, F.kp, bd⟩
  · first | (obtain ⟨_, rfl, _⟩ := h; rfl) | (obtain ⟨_, _, rfl, _⟩ := h; rfl) | (obtain ⟨_, _, _, rfl, _⟩ := h; rfl) | (obtain ⟨_, _, _, _, rfl, _⟩ := h; rfl) | (obtain ⟨_, _, _, _, _, rfl, _⟩ := h; rfl) | (obtain ⟨_, _, _, _, _, _, rfl, _⟩ := h; rfl) | (obtain ⟨_, _, _, _, _, _, _, rfl, _⟩ := h; rfl) | (obtain ⟨_, _, _, _, _, _, _, _, rfl, _⟩ := h; rfl) | (obtain ⟨_, _, _, _, _, _, _, _, _, rfl, _⟩ := h; rfl) | (obtain ⟨_, _, _, _, _, _, _, _, _, _, rfl, _⟩ := h; rfl) | (obtain ⟨_, _, _, _, _, _, _, _, _, _, _, rfl, _⟩ := h; rfl) | (obtain ⟨_, _, _, _, _, _, _, _, _, _, _, _, rfl, _⟩ := h; rfl) | (obtain ⟨_, _, _, _, _, _, _, _, _, _, _, _, _, rfl, _⟩ := h; rfl) | (obtain ⟨_, _, _, _, _, _, _, _, _, _, _, _, _, _, rfl, _⟩ := h; rfl) | (obtain ⟨_, _, _, _, _, _, _, _, _, _, _, _, _, _, _, rfl, _⟩ := h; rfl)
  · have hu64 := hr.units
    obtain ⟨t, f', kv, kd, rfl, ⟨hT, hF, hk⟩, q⟩ := h
    refine ⟨_, (pss_one (ps_ret (pe_mkc M_Rule (hr.mono (by decide)) (by rfl) (pa_cons (pe_ix (kk_ixt K) (pv 0) pe_int (fun _ _ => rfl)) (pa_cons (pe_ix (kk_ixt K) (pv 0) pe_int (fun _ _ => rfl)) (pa_cons (pe_ix (kk_ixt K) (pv 0) pe_int (fun _ _ => rfl)) (pa_cons (pe_ix (kk_ixt K) (pv 0) pe_int (fun _ _ => rfl)) (pa_cons (pe_ix (kk_ixt K) (pv 0) pe_int (fun _ _ => rfl)) (pa_cons (pe_ix (kk_ixt K) (pv 0) pe_int (fun _ _ => rfl)) (pa_cons (pe_ix (kk_ixt K) (pv 0) pe_int (fun _ _ => rfl)) (pa_cons (pe_ix (kk_ixt K) (pv 0) pe_int (fun _ _ => rfl)) (pa_cons (pe_ix (kk_ixt K) (pv 0) pe_int (fun _ _ => rfl)) pa_nil)))))))))))), ?_⟩
    refine ⟨_, rfl, t, _, _, _, rfl, rfl, hT, rfl, _, rfl, t, _, _, _, rfl, rfl, hT, rfl, _, rfl, t, _, _, _, rfl, rfl, hT, rfl, _, rfl, t, _, _, _, rfl, rfl, hT, rfl, _, rfl, t, _, _, _, rfl, rfl, hT, rfl, _, rfl, t, _, _, _, rfl, rfl, hT, rfl, _, rfl, t, _, _, _, rfl, rfl, hT, rfl, _, rfl, t, _, _, _, rfl, rfl, hT, rfl, _, rfl, t, _, _, _, rfl, rfl, hT, rfl, ?_⟩
    intro x dx nx ndx hne
    have sx : Same H (upd (upd H dx (.own x)) x (.ins CR dx [])) := (same_new ndx).trans (same_new (by rw [upd_ne hne.symm]; exact nx))
    exact ⟨x, dx, _, _, _, _, _, kv, kd, f'.ks, _, _, _, rfl, upd_same, hF, hk.same sx, fun H' kt hb e hs => ⟨rfl, q H' x nx (same_but sx nx hb) ⟨dx, kt, e, hs⟩⟩⟩
/-! ### _law_whole -/
abbrev s__law_whole : Stmt := topS 22
abbrev N__law_whole : List Str := ["_law_some", "_law_kept"]
theorem sc__law_whole : FnScope N__law_whole ["_law_some"] (defScope s__law_whole) := ⟨rfl, rfl, rfl, by decide +kernel, rfl, by decide +kernel, by decide +kernel⟩
def sp__law_whole (K : PySem.W.Frag) : Sp := fun vs H Q _ => ∃ (t : Addr) (f : Fg) (kv : V) (kd : PyData), vs = [.ref t] ∧ Drawn K H t f kv kd ∧ ∀ H' w a, Same H H' → Drawn K H' w f (.ref a) (.tuple (f.ks.map PyData.int)) → SqT K H' a (f.ks.map V.int) → Q (.ref w) H'
theorem ok__law_whole {f : Addr} {fd : FuncData} (F : Fun K "_law_whole" "_law_whole" s__law_whole f fd) (g : mg "_law_whole" = some (.ref f)) (bd : Binds K fd ["_law_some"] []) (m_isinstance : mg "isinstance" = none) (m_tuple : mg "tuple" = none) : CF P w K mg base 1 "_law_whole" ["_law_some"] (sp__law_whole K) := by
  refine ⟨f, fd, F.ok sc__law_whole (fun vs H Q E h => ?_) (fun cdv A outer s H vs Q E hr h => ?_), g, F.kp, bd⟩
  · first | (obtain ⟨_, rfl, _⟩ := h; rfl) | (obtain ⟨_, _, rfl, _⟩ := h; rfl) | (obtain ⟨_, _, _, rfl, _⟩ := h; rfl) | (obtain ⟨_, _, _, _, rfl, _⟩ := h; rfl) | (obtain ⟨_, _, _, _, _, rfl, _⟩ := h; rfl) | (obtain ⟨_, _, _, _, _, _, rfl, _⟩ := h; rfl) | (obtain ⟨_, _, _, _, _, _, _, rfl, _⟩ := h; rfl) | (obtain ⟨_, _, _, _, _, _, _, _, rfl, _⟩ := h; rfl) | (obtain ⟨_, _, _, _, _, _, _, _, _, rfl, _⟩ := h; rfl) | (obtain ⟨_, _, _, _, _, _, _, _, _, _, rfl, _⟩ := h; rfl) | (obtain ⟨_, _, _, _, _, _, _, _, _, _, _, rfl, _⟩ := h; rfl) | (obtain ⟨_, _, _, _, _, _, _, _, _, _, _, _, rfl, _⟩ := h; rfl) | (obtain ⟨_, _, _, _, _, _, _, _, _, _, _, _, _, rfl, _⟩ := h; rfl) | (obtain ⟨_, _, _, _, _, _, _, _, _, _, _, _, _, _, rfl, _⟩ := h; rfl) | (obtain ⟨_, _, _, _, _, _, _, _, _, _, _, _, _, _, _, rfl, _⟩ := h; rfl)
  · have hu64 := hr.units
    obtain ⟨t, f', kv, kd, rfl, hD, q⟩ := h
    refine ⟨_, (pss_cons (ps_set (i := 1) sc__law_whole.nd rfl (.inl rfl) (pe_ifExp (pt_val (pe_callB (kk_isi K) (by rfl) m_isinstance (by decide +kernel) (pa_cons (pe_ix (kk_ixt K) (pv 0) pe_int (fun _ _ => rfl)) (pa_cons (pe_bltn (v := .ty "tuple") (by rfl) m_tuple (by decide +kernel) rfl) pa_nil)))) (pe_ix (kk_ixt K) (pv 0) pe_int (fun _ _ => rfl)) (pe_op (kk_repA K) (pe_tup (pa_cons (pe_ix (kk_ixt K) (pv 0) pe_int (fun _ _ => rfl)) pa_nil)) (pe_ix (kk_ixt K) (pv 0) pe_int (fun _ _ => rfl)))))
      (pss_one (ps_ret (pe_op (kk_catT K) (pe_op (kk_catT K) (pe_slice (kk_slt K) (pv 0) po_none (po_some pe_int)) (pe_tup (pa_cons (pv 1) pa_nil))) (pe_slice (kk_slt K) (pv 0) (po_some pe_int) po_none))))), ?_⟩
    obtain ⟨hT, hF, hk⟩ := id hD
    have ok := hD.ok
    have l5 : cutV [V.int f'.p, .int f'.s, .int f'.g, .bl f'.l, .int f'.m, kv, .int f'.fi, .int f'.fa, .int f'.ba] none (some 5) = [V.int f'.p, .int f'.s, .int f'.g, .bl f'.l, .int f'.m] := rfl
    have l6 : cutV [V.int f'.p, .int f'.s, .int f'.g, .bl f'.l, .int f'.m, kv, .int f'.fi, .int f'.fa, .int f'.ba] (some 6) none = [.int f'.fi, .int f'.fa, .int f'.ba] := rfl
    have fin : ∀ H1 a, Same H H1 → SqT K H1 a (f'.ks.map V.int) → tRet (tOp (rCatT K) (tOp (rCatT K) (tSl (rSlT K) (tVar 0) tNoPart (tPart (tC (V.int 5)))) (tTup (tCons (tVar 1) tNil))) (tSl (rSlT K) (tVar 0) (tPart (tC (V.int 6))) tNoPart)) { nx := fun x H' => Q V.non H', rt := Q } [some (.ref t), some (.ref a)] H1 := fun H1 a s1 ha => by
      refine ⟨_, rfl, _, rfl, t, _, rfl, seqT_same s1 hT, (by show ¬ (HT.sIx 9 0 none = 0 ∧ HT.sIx 9 9 (some 5) = 9); decide), fun c1 n1 => ?_⟩
      refine ⟨_, rfl, (by show 1 ≤ sizeLine; decide), fun c2 n2 => ?_⟩
      refine ⟨c1, c2, _, _, rfl, rfl, SqT.of ((same_new n2) _ _ upd_same), SqT.of upd_same, (by rw [l5]; simp), (by show 5 + 1 ≤ sizeLine; decide), fun e => (nomatch e), fun _ c3 n3 => ?_⟩
      have s3 := fun o => ((s1.trans (same_new n1)).trans (same_new n2)).trans (same_new (o := o) n3)
      have u3 := fun o => ((same_new n1).trans (same_new n2)).trans (same_new (o := o) n3)
      refine ⟨_, rfl, _, rfl, t, _, rfl, seqT_same (s3 _) hT, (by show ¬ (HT.sIx 9 0 (some 6) = 0 ∧ HT.sIx 9 9 none = 9); decide), fun c4 n4 => ?_⟩
      refine ⟨c3, c4, _, _, rfl, rfl, SqT.of ((same_new n4) _ _ upd_same), SqT.of upd_same, (by rw [l5]; simp), (by show 6 + 3 ≤ sizeLine; decide), fun e => absurd (l6.symm.trans e) (by simp), fun _ w nw => ?_⟩
      have s5 := fun o => ((s3 _).trans (same_new n4)).trans (same_new (o := o) nw)
      have ha5 := fun o => seqT_same (((u3 _).trans (same_new n4)).trans (same_new (o := o) nw)) ha
      exact q _ w a (s5 _) ⟨SqT.of upd_same, hF, .all a (ha5 _) ok.len ok.bnd⟩ (ha5 _)
    refine ⟨_, rfl, t, _, _, _, rfl, rfl, hT, rfl, _, _, _, _, _, rfl, .ty _, ty_of_dp hk.dp, kit_d (T := "tuple") (by decide) _, _, rfl, ?_⟩
    cases hk with
    | all a h hl hb => exact iteT ⟨_, rfl, t, _, _, _, rfl, rfl, hT, rfl, fin H a (Same.refl H) h⟩
    | one k h0 h1 ek =>
      refine iteF ⟨_, rfl, t, _, _, _, rfl, rfl, hT, rfl, (by show 1 ≤ sizeLine; decide), fun u nu => ⟨_, rfl, t, _, _, _, rfl, rfl, seqT_same (same_new nu) hT, rfl, ?_⟩⟩
      by_cases hp1 : f'.p = 1
      · refine .inr ⟨u, [.int k], rfl, by rw [hp1], SqT.of upd_same, by simp, ?_⟩
        refine fin _ u (same_new nu) ?_
        rw [ek, hp1]
        exact SqT.of upd_same
      · have := hF.p0
        have := hF.p1
        refine .inl ⟨u, f'.p, [.int k], rfl, rfl, SqT.of upd_same, by simp, by omega, by omega, (by show 1 ≤ 1000; decide), fun t2 ht2 => ?_⟩
        refine fin _ t2 ((same_new nu).trans (same_new ht2)) (SqT.of ?_)
        rw [upd_same, rep1, ek, List.map_replicate]
/-! ### Rule___len__ -/
abbrev s_Rule___len__ : Stmt := inClass (topS 11) 4
abbrev N_Rule___len__ : List Str := ["self"]
theorem sc_Rule___len__ : FnScope N_Rule___len__ ["self"] (defScope s_Rule___len__) := ⟨rfl, rfl, rfl, by decide +kernel, rfl, by decide +kernel, by decide +kernel⟩
def sp_Rule___len__ (K : PySem.W.Frag) (C : Addr) : Sp := fun vs H Q _ => ∃ (r : Addr) (f : Fg), vs = [.ref r] ∧ RuleAt K H C r f ∧ Q (.int f.ks.length) H
theorem ok_Rule___len__ {f : Addr} {fd : FuncData} {CR : Addr} (TQ : TEq K mg CR "Rule") (T_Rule : TRule K mg CR) (m_len : mg "len" = none) (F : FunD K "__len__" "Rule.__len__" (defArgs s_Rule___len__) (defBody s_Rule___len__) (defScope s_Rule___len__) [] [] f fd) : FnOk P w K mg base CX0 1 f fd ["self"] (sp_Rule___len__ K CR) := by
  refine okD F sc_Rule___len__ (fun vs H Q E h => ?_) (fun cdv A outer s H vs Q E hr h => ?_)
  · first | (obtain ⟨_, rfl, _⟩ := h; rfl) | (obtain ⟨_, _, rfl, _⟩ := h; rfl) | (obtain ⟨_, _, _, rfl, _⟩ := h; rfl) | (obtain ⟨_, _, _, _, rfl, _⟩ := h; rfl) | (obtain ⟨_, _, _, _, _, rfl, _⟩ := h; rfl) | (obtain ⟨_, _, _, _, _, _, rfl, _⟩ := h; rfl) | (obtain ⟨_, _, _, _, _, _, _, rfl, _⟩ := h; rfl) | (obtain ⟨_, _, _, _, _, _, _, _, rfl, _⟩ := h; rfl) | (obtain ⟨_, _, _, _, _, _, _, _, _, rfl, _⟩ := h; rfl) | (obtain ⟨_, _, _, _, _, _, _, _, _, _, rfl, _⟩ := h; rfl) | (obtain ⟨_, _, _, _, _, _, _, _, _, _, _, rfl, _⟩ := h; rfl) | (obtain ⟨_, _, _, _, _, _, _, _, _, _, _, _, rfl, _⟩ := h; rfl) | (obtain ⟨_, _, _, _, _, _, _, _, _, _, _, _, _, rfl, _⟩ := h; rfl) | (obtain ⟨_, _, _, _, _, _, _, _, _, _, _, _, _, _, rfl, _⟩ := h; rfl) | (obtain ⟨_, _, _, _, _, _, _, _, _, _, _, _, _, _, _, rfl, _⟩ := h; rfl)
  · have hu64 := hr.units
    obtain ⟨r, f', rfl, ⟨dx, kt, h1, h2⟩, q⟩ := h
    refine ⟨_, (pss_one (ps_ret (pe_callB (kk_len K) (by rfl) m_len PySem.boot_len (pa_cons (pe_fld (pv 0) rfl) pa_nil)))), ?_⟩
    refine ⟨_, rfl, r, CR, dx, _, _, rfl, h1, T_Rule.cl, T_Rule.n6, lk6, kt, _, rfl, .inr h2, ?_⟩
    rw [List.length_map]
    exact q
/-! ### counted -/
abbrev s_counted : Stmt := topS 3
abbrev N_counted : List Str := ["word", "number"]
theorem sc_counted : FnScope N_counted ["word", "number"] (defScope s_counted) := ⟨rfl, rfl, rfl, by decide +kernel, rfl, by decide +kernel, by decide +kernel⟩
def cntT (w : Str) (n : Int) : Str := if n = 0 then "" else w ++ " " ++ Str.ofString (toString n)
def sp_counted (K : PySem.W.Frag) : Sp := fun vs H Q _ => ∃ (w : Str) (n : Int), vs = [.str w, .int n] ∧ w.length ≤ 100 ∧ 0 ≤ n ∧ n ≤ 1000 ∧ Q (.str (cntT w n)) H
theorem ok_counted {f : Addr} {fd : FuncData} (F : Fun K "counted" "counted" s_counted f fd) (g : mg "counted" = some (.ref f)) (bd : Binds K fd ["word", "number"] []) : CF P w K mg base 1 "counted" ["word", "number"] (sp_counted K) := by
  refine ⟨f, fd, F.ok sc_counted (fun vs H Q E h => ?_) (fun cdv A outer s H vs Q E hr h => ?_), g, F.kp, bd⟩
  · first | (obtain ⟨_, rfl, _⟩ := h; rfl) | (obtain ⟨_, _, rfl, _⟩ := h; rfl) | (obtain ⟨_, _, _, rfl, _⟩ := h; rfl) | (obtain ⟨_, _, _, _, rfl, _⟩ := h; rfl) | (obtain ⟨_, _, _, _, _, rfl, _⟩ := h; rfl) | (obtain ⟨_, _, _, _, _, _, rfl, _⟩ := h; rfl) | (obtain ⟨_, _, _, _, _, _, _, rfl, _⟩ := h; rfl) | (obtain ⟨_, _, _, _, _, _, _, _, rfl, _⟩ := h; rfl) | (obtain ⟨_, _, _, _, _, _, _, _, _, rfl, _⟩ := h; rfl) | (obtain ⟨_, _, _, _, _, _, _, _, _, _, rfl, _⟩ := h; rfl) | (obtain ⟨_, _, _, _, _, _, _, _, _, _, _, rfl, _⟩ := h; rfl) | (obtain ⟨_, _, _, _, _, _, _, _, _, _, _, _, rfl, _⟩ := h; rfl) | (obtain ⟨_, _, _, _, _, _, _, _, _, _, _, _, _, rfl, _⟩ := h; rfl) | (obtain ⟨_, _, _, _, _, _, _, _, _, _, _, _, _, _, rfl, _⟩ := h; rfl) | (obtain ⟨_, _, _, _, _, _, _, _, _, _, _, _, _, _, _, rfl, _⟩ := h; rfl)
  · have hu64 := hr.units
    obtain ⟨w, n, rfl, hw, n0, n1, q⟩ := h
    refine ⟨_, (pss_cons (ps_if (pt_cmpR op_eq (pv 1) pe_int (nomark _))
         (pss_one (ps_ret pe_str))
         pss_nil)
      (pss_one (ps_ret (pe_joined (PJ.cons (pe_fmt (pv 0)) (PJ.cons pe_str (PJ.cons (pe_fmt (pv 1)) PJ.nil))))))), ?_⟩
    have e0 : ∀ s : Str, Str.empty ++ s = s := fun s => by
      show Str.mk (#[] ++ s.cps) = s
      rw [Array.empty_append]
    have lt : (Str.ofString (toString n)).length ≤ 4 := PyProof.Rows.toString_length_le (v := n) n0 (k := 4) (by decide) (by show n < 10000; omega)
    have l1 : (Str.ofString " ").length = 1 := rfl
    refine ⟨_, rfl, rfl, _, rfl, ite2 (fun z => ?_) (fun z => ?_)⟩
    · have e : n = 0 := V.int.inj (of_decide_eq_true z)
      rw [cntT, if_pos e] at q
      exact q
    · have e : n ≠ 0 := fun e => z (decide_eq_true (by rw [e]))
      rw [cntT, if_neg e] at q
      have lg : n.natAbs.log2 < 1920 := by
        by_cases z : n.natAbs = 0
        · rw [z]
          decide
        · have : n.natAbs.log2 < 30 := (Nat.log2_lt z).mpr (by show n.natAbs < 1073741824; omega)
          omega
      refine ⟨_, rfl, .inl ⟨w, rfl, by rw [sizeLine_eq]; omega, w, rfl, by rw [e0, sizeLine_eq]; omega, _, rfl, by rw [e0, len_app, l1, sizeLine_eq]; omega, _, rfl, .inr ⟨n, rfl, lg, _, rfl, by rw [e0, len_app, len_app, l1, sizeLine_eq]; omega, ?_⟩⟩⟩
      rw [e0]
      exact q
/-! ### kept_clause -/
abbrev s_kept_clause : Stmt := topS 4
abbrev N_kept_clause : List Str := ["keep", "numbers", "number"]
theorem sc_kept_clause : FnScope N_kept_clause ["keep"] (defScope s_kept_clause) := ⟨rfl, rfl, rfl, by decide +kernel, rfl, by decide +kernel, by decide +kernel⟩
theorem small_log {n : Int} (h : 0 ≤ n ∧ n ≤ 100) : n.natAbs.log2 < 1920 := by
  by_cases z : n.natAbs = 0
  · rw [z]
    decide
  · have : n.natAbs.log2 < 30 := (Nat.log2_lt z).mpr (by show n.natAbs < 1073741824; omega)
    omega
def keptT (ks : List Int) : Str := if ks.all (fun k => decide (k = ks.headD 0)) = true then cntT "keep" (ks.headD 0) else Str.ofString "keep " ++ Txt.join " " (ks.map fun k => Str.ofString (toString k))
def sp_kept_clause (K : PySem.W.Frag) : Sp := fun vs H Q _ => ∃ (t : Addr) (ks : List Int), vs = [.ref t] ∧ SqT K H t (ks.map V.int) ∧ ks ≠ [] ∧ ks.length ≤ 6 ∧ (∀ k ∈ ks, 0 ≤ k ∧ k ≤ 100) ∧ ∀ H', Same H H' → Q (.str (keptT ks)) H'
theorem ok_kept_clause {f : Addr} {fd : FuncData} (F : Fun K "kept_clause" "kept_clause" s_kept_clause f fd) (g : mg "kept_clause" = some (.ref f)) (bd : Binds K fd ["keep"] []) (m_len : mg "len" = none) (m_set : mg "set" = none) (m_str : mg "str" = none) (C_counted : CF P w K mg base 1 "counted" ["word", "number"] (sp_counted K)) : CF P w K mg base 2 "kept_clause" ["keep"] (sp_kept_clause K) := by
  refine ⟨f, fd, F.ok sc_kept_clause (fun vs H Q E h => ?_) (fun cdv A outer s H vs Q E hr h => ?_), g, F.kp, bd⟩
  · first | (obtain ⟨_, rfl, _⟩ := h; rfl) | (obtain ⟨_, _, rfl, _⟩ := h; rfl) | (obtain ⟨_, _, _, rfl, _⟩ := h; rfl) | (obtain ⟨_, _, _, _, rfl, _⟩ := h; rfl) | (obtain ⟨_, _, _, _, _, rfl, _⟩ := h; rfl) | (obtain ⟨_, _, _, _, _, _, rfl, _⟩ := h; rfl) | (obtain ⟨_, _, _, _, _, _, _, rfl, _⟩ := h; rfl) | (obtain ⟨_, _, _, _, _, _, _, _, rfl, _⟩ := h; rfl) | (obtain ⟨_, _, _, _, _, _, _, _, _, rfl, _⟩ := h; rfl) | (obtain ⟨_, _, _, _, _, _, _, _, _, _, rfl, _⟩ := h; rfl) | (obtain ⟨_, _, _, _, _, _, _, _, _, _, _, rfl, _⟩ := h; rfl) | (obtain ⟨_, _, _, _, _, _, _, _, _, _, _, _, rfl, _⟩ := h; rfl) | (obtain ⟨_, _, _, _, _, _, _, _, _, _, _, _, _, rfl, _⟩ := h; rfl) | (obtain ⟨_, _, _, _, _, _, _, _, _, _, _, _, _, _, rfl, _⟩ := h; rfl) | (obtain ⟨_, _, _, _, _, _, _, _, _, _, _, _, _, _, _, rfl, _⟩ := h; rfl)
  · have hu64 := hr.units
    obtain ⟨t, ks, rfl, hS, hne, hl, hb, q⟩ := h
    refine ⟨_, (pss_cons (ps_if (pt_cmpR op_eq (pe_lenSetT (by rfl) m_len (by rfl) m_set (pv 0)) pe_int (nomark _))
         (pss_one (ps_ret (pe_cf C_counted (hr.mono (by decide)) (by rfl) (pa_cons pe_str (pa_cons (pe_ix (kk_ixt K) (pv 0) pe_int (fun _ _ => rfl)) pa_nil)))))
         pss_nil)
      (pss_cons (ps_set (i := 1) sc_kept_clause.nd rfl (.inl rfl) (pe_join pe_str (pe_lc (own := [("number", 2)]) (g := (gName 2)) (tt := tYes) rfl sc_kept_clause.nd (pi_tup (pv 0)) (blkOk_by (own := [("number", 2)]) (N := N_kept_clause) (sc := defScope s_kept_clause) (by decide +kernel)) (fun _ _ _ _ _ => pg_name (i := 2) sc_kept_clause.nd rfl (Or.inl rfl)) (fun _ _ _ _ _ => pts_nil) (fun _ _ _ _ _ => (pe_callTy call_str_int (by rfl) m_str (by decide +kernel) (pa_cons (pv 2) pa_nil))))))
      (pss_one (ps_ret (pe_joined (PJ.cons pe_str (PJ.cons (pe_fmt (pv 1)) PJ.nil))))))), ?_⟩
    obtain ⟨k0, r, rfl⟩ : ∃ k0 r, ks = k0 :: r := by
      cases ks with
      | nil => exact absurd rfl hne
      | cons a b => exact ⟨a, b, rfl⟩
    have hb0 := hb k0 List.mem_cons_self
    refine ⟨_, rfl, t, _, rfl, hS, by omega, fun c hc => ⟨rfl, _, rfl, ite2 (fun z => ?_) (fun z => ?_)⟩⟩
    · have e : c = 1 := by
        have := V.int.inj (of_decide_eq_true z)
        omega
      obtain ⟨k, hk⟩ := hc.mp e
      have k0e := (hk k0).mp List.mem_cons_self
      have al : (k0 :: r).all (fun k => decide (k = (k0 :: r).headD 0)) = true := List.all_eq_true.mpr fun j hj => decide_eq_true (by show j = k0; rw [(hk j).mp hj, k0e])
      have at0 : atI ((k0 :: r).map V.int) 0 = some (.int k0) := by
        unfold atI ixN
        rw [if_pos (by decide), if_pos (by rw [List.map_cons, List.length_cons]; omega)]
        rfl
      refine ⟨_, rfl, t, _, _, _, rfl, rfl, hS, at0, _, _, rfl, by decide, hb0.1, by omega, ?_⟩
      have := q H (Same.refl H)
      rw [keptT, if_pos al] at this
      exact this
    · have al : ¬ (k0 :: r).all (fun k => decide (k = (k0 :: r).headD 0)) = true := fun al => by
        refine z (decide_eq_true ?_)
        have : c = 1 := hc.mpr ⟨k0, fun j => ⟨fun hj => of_decide_eq_true (List.all_eq_true.mp al j hj), fun e => by rw [e]; exact List.mem_cons_self⟩⟩
        rw [this]
        rfl
      refine ⟨⟨_, rfl⟩, _, rfl, t, rfl, ⟨_, hS⟩, fun D hD => vals_lc (fun v => match v with | .int k => .str (Str.ofString (toString k)) | _ => .non) (jok_t (K := K) hS) (by rw [List.length_map]; omega) hD (fun x hx G s Y N h1 => ?_) (fun G s hG => ?_)⟩
      · obtain ⟨k, hk, rfl⟩ := List.mem_map.mp hx
        exact ⟨rfl, _, rfl, k, rfl, small_log (hb k hk), h1 G (Same.refl G)⟩
      · have hG2 : G D = some (.lst (((k0 :: r).map fun k => Str.ofString (toString k)).map V.str)) := by
          rw [hG, List.map_map, List.map_map]
          rfl
        have ln : ∀ l : List Int, (∀ k ∈ l, 0 ≤ k ∧ k ≤ 100) → ((l.map fun k => Str.ofString (toString k)).map fun x => x.length).sum ≤ 4 * l.length := fun l hb => by
          induction l with
          | nil => exact Nat.le_refl _
          | cons k l ih =>
            have a := ih fun x hx => hb x (List.mem_cons_of_mem _ hx)
            have b : (Str.ofString (toString k)).length ≤ 4 := PyProof.Rows.toString_length_le (v := k) (hb k List.mem_cons_self).1 (k := 4) (by decide) (by have := hb k List.mem_cons_self; show k < 10000; omega)
            rw [List.map_cons, List.map_cons, List.sum_cons, List.length_cons]
            omega
        have l1 := ln (k0 :: r) hb
        refine ⟨_, _, _, rfl, rfl, .inl (SqL.of hG2), ?_, _, rfl, ?_⟩
        · have e1 : (Str.ofString " ").length = 1 := rfl
          rw [e1, List.length_map]
          omega
        have jl := PySem.StrLaws.join_length_le (Str.ofString " ") ((k0 :: r).map fun k => Str.ofString (toString k))
        rw [← TL.join_eq] at jl
        have e1 : (Str.ofString " ").length = 1 := rfl
        have e5 : (Str.ofString "keep ").length = 5 := rfl
        have e0 : ∀ s : Str, Str.empty ++ s = s := fun s => by
          show Str.mk (#[] ++ s.cps) = s
          rw [Array.empty_append]
        rw [e1, List.length_map] at jl
        refine ⟨by rw [e0, e5, sizeLine_eq]; omega, _, rfl, .inl ⟨_, rfl, by rw [sizeLine_eq]; omega, _, rfl, by rw [e0, len_app, e5, sizeLine_eq]; omega, ?_⟩⟩
        have := q G s
        rw [keptT, if_neg al] at this
        rw [e0]
        exact this
/-! ### clauses_of -/
abbrev s_clauses_of : Stmt := topS 2
abbrev N_clauses_of : List Str := ["figures", "parts", "step", "grace", "last", "misses", "keep", "fine", "falls", "back", "clauses", "clause"]
theorem sc_clauses_of : FnScope N_clauses_of ["figures"] (defScope s_clauses_of) := ⟨rfl, rfl, rfl, by decide +kernel, rfl, by decide +kernel, by decide +kernel⟩
def partT (p s : Int) : Str := Str.ofString (toString p) ++ Str.ofString " parts by " ++ Str.ofString (toString s) ++ Str.ofString " days"
def allT (f : Fg) : List Str := [partT f.p f.s, cntT "grace" f.g, if f.l = true then Str.ofString "from last" else Str.ofString "", cntT "misses" f.m, keptT f.ks, cntT "fine" f.fi, cntT "falls" f.fa, cntT "back" f.ba]
def clsT (f : Fg) : List Str := (allT f).filter fun s => decide (s ≠ Str.ofString "")
def sp_clauses_of (K : PySem.W.Frag) : Sp := fun vs H Q _ => ∃ (t kt : Addr) (f : Fg), vs = [.ref t] ∧ SqT K H t [.int f.p, .int f.s, .int f.g, .bl f.l, .int f.m, .ref kt, .int f.fi, .int f.fa, .int f.ba] ∧ SqT K H kt (f.ks.map V.int) ∧ f.Ok ∧ ∀ H' L, Same H H' → H' L = some (.lst ((clsT f).map V.str)) → Q (.ref L) H'
theorem ok_clauses_of {f : Addr} {fd : FuncData} (F : Fun K "clauses_of" "clauses_of" s_clauses_of f fd) (g : mg "clauses_of" = some (.ref f)) (bd : Binds K fd ["figures"] []) (C_counted : CF P w K mg base 1 "counted" ["word", "number"] (sp_counted K)) (C_kept_clause : CF P w K mg base 2 "kept_clause" ["keep"] (sp_kept_clause K)) : CF P w K mg base 3 "clauses_of" ["figures"] (sp_clauses_of K) := by
  refine ⟨f, fd, F.ok sc_clauses_of (fun vs H Q E h => ?_) (fun cdv A outer s H vs Q E hr h => ?_), g, F.kp, bd⟩
  · first | (obtain ⟨_, rfl, _⟩ := h; rfl) | (obtain ⟨_, _, rfl, _⟩ := h; rfl) | (obtain ⟨_, _, _, rfl, _⟩ := h; rfl) | (obtain ⟨_, _, _, _, rfl, _⟩ := h; rfl) | (obtain ⟨_, _, _, _, _, rfl, _⟩ := h; rfl) | (obtain ⟨_, _, _, _, _, _, rfl, _⟩ := h; rfl) | (obtain ⟨_, _, _, _, _, _, _, rfl, _⟩ := h; rfl) | (obtain ⟨_, _, _, _, _, _, _, _, rfl, _⟩ := h; rfl) | (obtain ⟨_, _, _, _, _, _, _, _, _, rfl, _⟩ := h; rfl) | (obtain ⟨_, _, _, _, _, _, _, _, _, _, rfl, _⟩ := h; rfl) | (obtain ⟨_, _, _, _, _, _, _, _, _, _, _, rfl, _⟩ := h; rfl) | (obtain ⟨_, _, _, _, _, _, _, _, _, _, _, _, rfl, _⟩ := h; rfl) | (obtain ⟨_, _, _, _, _, _, _, _, _, _, _, _, _, rfl, _⟩ := h; rfl) | (obtain ⟨_, _, _, _, _, _, _, _, _, _, _, _, _, _, rfl, _⟩ := h; rfl) | (obtain ⟨_, _, _, _, _, _, _, _, _, _, _, _, _, _, _, rfl, _⟩ := h; rfl)
  · have hu64 := hr.units
    obtain ⟨t, kt, f', rfl, hS, hK, ok, q⟩ := h
    refine ⟨_, (pss_cons (ps_asg (pv 0) (pg_tup (by rfl) (pgs_cons (pg_name (i := 1) sc_clauses_of.nd rfl (.inl rfl)) (pgs_cons (pg_name (i := 2) sc_clauses_of.nd rfl (.inl rfl)) (pgs_cons (pg_name (i := 3) sc_clauses_of.nd rfl (.inl rfl)) (pgs_cons (pg_name (i := 4) sc_clauses_of.nd rfl (.inl rfl)) (pgs_cons (pg_name (i := 5) sc_clauses_of.nd rfl (.inl rfl)) (pgs_cons (pg_name (i := 6) sc_clauses_of.nd rfl (.inl rfl)) (pgs_cons (pg_name (i := 7) sc_clauses_of.nd rfl (.inl rfl)) (pgs_cons (pg_name (i := 8) sc_clauses_of.nd rfl (.inl rfl)) (pgs_cons (pg_name (i := 9) sc_clauses_of.nd rfl (.inl rfl)) pgs_nil)))))))))))
      (pss_cons (ps_set (i := 10) sc_clauses_of.nd rfl (.inl rfl) (pe_lst (pa_cons (pe_joined (PJ.cons (pe_fmt (pv 1)) (PJ.cons pe_str (PJ.cons (pe_fmt (pv 2)) (PJ.cons pe_str PJ.nil))))) (pa_cons (pe_cf C_counted (hr.mono (by decide)) (by rfl) (pa_cons pe_str (pa_cons (pv 3) pa_nil))) (pa_cons (pe_ifExp (pt_val (pv 4)) pe_str pe_str) (pa_cons (pe_cf C_counted (hr.mono (by decide)) (by rfl) (pa_cons pe_str (pa_cons (pv 5) pa_nil))) (pa_cons (pe_cf C_kept_clause (hr.mono (by decide)) (by rfl) (pa_cons (pv 6) pa_nil)) (pa_cons (pe_cf C_counted (hr.mono (by decide)) (by rfl) (pa_cons pe_str (pa_cons (pv 7) pa_nil))) (pa_cons (pe_cf C_counted (hr.mono (by decide)) (by rfl) (pa_cons pe_str (pa_cons (pv 8) pa_nil))) (pa_cons (pe_cf C_counted (hr.mono (by decide)) (by rfl) (pa_cons pe_str (pa_cons (pv 9) pa_nil))) pa_nil))))))))))
      (pss_one (ps_ret (pe_lc (own := [("clause", 11)]) (g := (gName 11)) rfl sc_clauses_of.nd (pi_list (pv 10)) (blkOk_by (own := [("clause", 11)]) (N := N_clauses_of) (sc := defScope s_clauses_of) (by decide +kernel)) (fun _ _ _ _ _ => pg_name (i := 11) sc_clauses_of.nd rfl (Or.inl rfl)) (fun _ _ _ _ _ => (pts_one (pt_cmpR op_ne (pv 11) pe_str (nomark _)))) (fun _ _ _ _ _ => (pv 11))))))), ?_⟩
    obtain ⟨p, sp, g', l, m, ks, fi, fa, ba⟩ := f'
    have F := ok.figs
    dsimp only at hS hK F
    have hlk : ks.length ≤ 6 := by
      have a : (ks.length : Int) = p := ok.len
      have := F.p1
      omega
    have hne : ks ≠ [] := fun e => by
      have a : (ks.length : Int) = p := ok.len
      have := F.p0
      rw [e, List.length_nil] at a
      omega
    have e0 : ∀ s : Str, Str.empty ++ s = s := fun s => by
      show Str.mk (#[] ++ s.cps) = s
      rw [Array.empty_append]
    have s8 : (8 : Nat) ≤ sizeLine := by rw [sizeLine_eq]; omega
    have lp : (Str.ofString (toString p)).length ≤ 4 := PyProof.Rows.toString_length_le (v := p) (by have := F.p0; omega) (k := 4) (by decide) (by have := F.p1; show p < 10000; omega)
    have ls : (Str.ofString (toString sp)).length ≤ 4 := PyProof.Rows.toString_length_le (v := sp) (by have := F.s0; omega) (k := 4) (by decide) (by have := F.s1; show sp < 10000; omega)
    have l1 : (Str.ofString " parts by ").length = 10 := rfl
    have l2 : (Str.ofString " days").length = 5 := rfl
    have last : ∀ (G : Hp) (L : Addr), Same H G → G L = some (.lst ((allT ⟨p, sp, g', l, m, ks, fi, fa, ba⟩).map V.str)) →
        tLc (iList K (tVar 10)) (gName 11) (tTest (tOp rNe (tVar 11) (tC (V.str (Str.ofString ""))))) (tVar 11) [11] [some (.ref t), some (.int p), some (.int sp), some (.int g'), some (.bl l), some (.int m), some (.ref kt), some (.int fi), some (.int fa), some (.int ba), some (.ref L), none] G Q := fun G L sG hL => by
      have hL2 : SqL K G L ((allT ⟨p, sp, g', l, m, ks, fi, fa, ba⟩).map V.str) := SqL.of hL
      refine ⟨_, rfl, L, rfl, ⟨_, hL2⟩, fun D hD => pass_lc (fun v => !decide (v = .str (Str.ofString ""))) (jok_l (K := K) hL2) (by rw [List.length_map]; show 8 ≤ 1000; decide) hD (fun x hx X sX Y N h1 h2 => ?_) (fun X sX hX => q X D (sG.trans sX) ?_)⟩
      · obtain ⟨z, _, rfl⟩ := List.mem_map.mp hx
        exact ⟨rfl, _, rfl, rfl, _, rfl, ite2 (fun c => ⟨_, rfl, h1 c X (Same.refl X)⟩) (fun c => h2 (by simpa using c) X (Same.refl X))⟩
      · rw [hX, List.filter_map]
        have : ((fun v => !decide (v = V.str (Str.ofString ""))) ∘ V.str) = fun s => decide (s ≠ Str.ofString "") := by
          funext s
          simp
        rw [this]
        rfl
    refine ⟨_, rfl, t, _, rfl, hS, rfl, _, _, rfl, _, _, rfl, _, _, rfl, _, _, rfl, _, _, rfl, _, _, rfl, _, _, rfl, _, _, rfl, _, _, rfl, rfl, ?_⟩
    refine ⟨_, rfl, .inr ⟨p, rfl, small_log ⟨by have := F.p0; omega, by have := F.p1; omega⟩, _, rfl, by rw [e0, sizeLine_eq]; omega, _, rfl, by rw [e0, len_app, l1, sizeLine_eq]; omega, _, rfl, .inr ⟨sp, rfl, small_log ⟨by have := F.s0; omega, by have := F.s1; omega⟩, _, rfl, by rw [e0, len_app, len_app, l1, sizeLine_eq]; omega, _, rfl, by rw [e0, len_app, len_app, len_app, l1, l2, sizeLine_eq]; omega, _, rfl, _, _, rfl, by decide, F.g0, by have := F.g1; omega, _, rfl, l, rfl, ?_⟩⟩⟩
    rw [e0]
    cases l with
    | true =>
      refine iteT ⟨_, rfl, _, _, rfl, by decide, F.m0, by have := F.m1; omega, _, rfl, kt, ks, rfl, hK, hne, hlk, ok.bnd, fun H1 s1 => ⟨_, rfl, _, _, rfl, by decide, F.fi0, by have := F.fi1; omega, _, rfl, _, _, rfl, by decide, F.fa0, by have := F.fa1; omega, _, rfl, _, _, rfl, by decide, F.ba0, by have := F.ba1; omega, s8, fun L nL => ?_⟩⟩
      exact last _ L (s1.trans (same_new nL)) upd_same
    | false =>
      refine iteF ⟨_, rfl, _, _, rfl, by decide, F.m0, by have := F.m1; omega, _, rfl, kt, ks, rfl, hK, hne, hlk, ok.bnd, fun H1 s1 => ⟨_, rfl, _, _, rfl, by decide, F.fi0, by have := F.fi1; omega, _, rfl, _, _, rfl, by decide, F.fa0, by have := F.fa1; omega, _, rfl, _, _, rfl, by decide, F.ba0, by have := F.ba1; omega, s8, fun L nL => ?_⟩⟩
      exact last _ L (s1.trans (same_new nL)) upd_same
/-- if test: found.append(text) -/
theorem app_if {K : PySem.W.Frag} {F : Addr} {l : List Str} {z : Str} {b : Bool} {test : TT} {targ : TE} {E1 : Ends} {σ : L2.St} {G : Hp} (hσ : σ[2]? = some (some (.ref F))) (hF : G F = some (.lst (l.map V.str))) (hl : l.length ≤ 100)
    (ht : ∀ Y : Bool → Hp → Prop, Y b G → test σ G Y) (ha : b = true → ∀ Y : VK, Y (.str z) G → targ σ G Y) (fin : E1.nx σ (if b = true then upd G F (.lst ((l ++ [z]).map V.str)) else G)) :
    tIfS test (tDrop (tBM K "list" rAppend (tVar 2) (tCons targ tNil))) tNext E1 σ G := by
  refine ht _ ?_
  cases b with
  | false => exact iteF fin
  | true =>
    refine iteT ⟨_, hσ, .inl ⟨rfl, _, SqL.of hF⟩, ha rfl _ ⟨F, _, _, rfl, rfl, hF, ?_, ?_⟩⟩
    · rw [List.length_map, sizeLine_eq]
      omega
    · rw [List.map_append] at fin
      exact fin
/-! ### Rule___str__ -/
abbrev s_Rule___str__ : Stmt := inClass (topS 11) 5
abbrev N_Rule___str__ : List Str := ["self"]
theorem sc_Rule___str__ : FnScope N_Rule___str__ ["self"] (defScope s_Rule___str__) := ⟨rfl, rfl, rfl, by decide +kernel, rfl, by decide +kernel, by decide +kernel⟩
theorem num_len {n : Int} (h0 : 0 ≤ n) (h1 : n ≤ 1000) : (Str.ofString (toString n)).length ≤ 4 := PyProof.Rows.toString_length_le (v := n) h0 (k := 4) (by decide) (by show n < 10000; omega)
theorem cnt_len {w : Str} {n : Int} (h0 : 0 ≤ n) (h1 : n ≤ 1000) (hw : w.length ≤ 10) : (cntT w n).length ≤ 60 := by
  unfold cntT
  have e : (Str.ofString " ").length = 1 := rfl
  have := num_len h0 h1
  split
  · exact Nat.zero_le _
  · rw [len_app, len_app, e]
    omega
theorem kept_len {ks : List Int} (hb : ∀ k ∈ ks, 0 ≤ k ∧ k ≤ 100) (hl : ks.length ≤ 6) : (keptT ks).length ≤ 60 := by
  unfold keptT
  split
  · refine cnt_len ?_ ?_ (by decide)
    · cases ks with
      | nil => exact Int.le_refl _
      | cons k r => exact (hb k List.mem_cons_self).1
    · cases ks with
      | nil => exact (by decide)
      | cons k r =>
        have := (hb k List.mem_cons_self).2
        show k ≤ 1000
        omega
  · have jl := PySem.StrLaws.join_length_le (Str.ofString " ") (ks.map fun k => Str.ofString (toString k))
    rw [← TL.join_eq] at jl
    have e1 : (Str.ofString " ").length = 1 := rfl
    have e5 : (Str.ofString "keep ").length = 5 := rfl
    have ln : ∀ l : List Int, (∀ k ∈ l, 0 ≤ k ∧ k ≤ 100) → ((l.map fun k => Str.ofString (toString k)).map fun x => x.length).sum ≤ 4 * l.length := fun l hb => by
      induction l with
      | nil => exact Nat.le_refl _
      | cons k l ih =>
        have a := ih fun x hx => hb x (List.mem_cons_of_mem _ hx)
        have c := hb k List.mem_cons_self
        have b := num_len (n := k) c.1 (by omega)
        rw [List.map_cons, List.map_cons, List.sum_cons, List.length_cons]
        omega
    have l1 := ln ks hb
    rw [e1, List.length_map] at jl
    rw [len_app, e5]
    omega
theorem cls_len {f : Fg} (ok : f.Ok) : ((clsT f).map fun x => x.length).sum ≤ 60 * (clsT f).length ∧ (clsT f).length ≤ 8 := by
  have F := ok.figs
  have hlk : f.ks.length ≤ 6 := by
    have a := ok.len
    have := F.p1
    omega
  have al : ∀ s ∈ allT f, s.length ≤ 60 := fun s hs => by
    unfold allT at hs
    simp only [List.mem_cons, List.not_mem_nil, or_false] at hs
    rcases hs with rfl | rfl | rfl | rfl | rfl | rfl | rfl | rfl
    · unfold partT
      have e1 : (Str.ofString " parts by ").length = 10 := rfl
      have e2 : (Str.ofString " days").length = 5 := rfl
      have a := num_len (n := f.p) (by have := F.p0; omega) (by have := F.p1; omega)
      have b := num_len (n := f.s) (by have := F.s0; omega) (by have := F.s1; omega)
      rw [len_app, len_app, len_app, e1, e2]
      omega
    · exact cnt_len F.g0 (by have := F.g1; omega) (by decide)
    · split <;> decide +kernel
    · exact cnt_len F.m0 (by have := F.m1; omega) (by decide)
    · exact kept_len ok.bnd hlk
    · exact cnt_len F.fi0 (by have := F.fi1; omega) (by decide)
    · exact cnt_len F.fa0 (by have := F.fa1; omega) (by decide)
    · exact cnt_len F.ba0 (by have := F.ba1; omega) (by decide)
  have sm : ∀ l : List Str, (∀ s ∈ l, s.length ≤ 60) → (l.map fun x => x.length).sum ≤ 60 * l.length := fun l h => by
    induction l with
    | nil => exact Nat.le_refl _
    | cons s l ih =>
      have a := ih fun x hx => h x (List.mem_cons_of_mem _ hx)
      have b := h s List.mem_cons_self
      rw [List.map_cons, List.sum_cons, List.length_cons]
      omega
  exact ⟨sm _ fun s hs => al s (List.mem_filter.mp hs).1, List.length_filter_le _ (allT f)⟩
def txtT (f : Fg) : Str := Txt.join ", " (clsT f)
def sp_Rule___str__ (K : PySem.W.Frag) (C : Addr) : Sp := fun vs H Q _ => ∃ (r : Addr) (f : Fg), vs = [.ref r] ∧ RuleAt K H C r f ∧ f.Ok ∧ ∀ H', Same H H' → Q (.str (txtT f)) H'
theorem ok_Rule___str__ {f : Addr} {fd : FuncData} {CR : Addr} (TQ : TEq K mg CR "Rule") (T_Rule : TRule K mg CR) (C_clauses_of : CF P w K mg base 3 "clauses_of" ["figures"] (sp_clauses_of K)) (C_Rule_figures_0 : CMt P w K mg base CR 1 "figures" ["self"] [] (sp_Rule_figures K CR)) (F : FunD K "__str__" "Rule.__str__" (defArgs s_Rule___str__) (defBody s_Rule___str__) (defScope s_Rule___str__) [] [] f fd) : FnOk P w K mg base CX0 4 f fd ["self"] (sp_Rule___str__ K CR) := by
  refine okD F sc_Rule___str__ (fun vs H Q E h => ?_) (fun cdv A outer s H vs Q E hr h => ?_)
  · first | (obtain ⟨_, rfl, _⟩ := h; rfl) | (obtain ⟨_, _, rfl, _⟩ := h; rfl) | (obtain ⟨_, _, _, rfl, _⟩ := h; rfl) | (obtain ⟨_, _, _, _, rfl, _⟩ := h; rfl) | (obtain ⟨_, _, _, _, _, rfl, _⟩ := h; rfl) | (obtain ⟨_, _, _, _, _, _, rfl, _⟩ := h; rfl) | (obtain ⟨_, _, _, _, _, _, _, rfl, _⟩ := h; rfl) | (obtain ⟨_, _, _, _, _, _, _, _, rfl, _⟩ := h; rfl) | (obtain ⟨_, _, _, _, _, _, _, _, _, rfl, _⟩ := h; rfl) | (obtain ⟨_, _, _, _, _, _, _, _, _, _, rfl, _⟩ := h; rfl) | (obtain ⟨_, _, _, _, _, _, _, _, _, _, _, rfl, _⟩ := h; rfl) | (obtain ⟨_, _, _, _, _, _, _, _, _, _, _, _, rfl, _⟩ := h; rfl) | (obtain ⟨_, _, _, _, _, _, _, _, _, _, _, _, _, rfl, _⟩ := h; rfl) | (obtain ⟨_, _, _, _, _, _, _, _, _, _, _, _, _, _, rfl, _⟩ := h; rfl) | (obtain ⟨_, _, _, _, _, _, _, _, _, _, _, _, _, _, _, rfl, _⟩ := h; rfl)
  · have hu64 := hr.units
    obtain ⟨r, f', rfl, hR, ok, q⟩ := h
    refine ⟨_, (pss_one (ps_ret (pe_join pe_str (pe_cf C_clauses_of (hr.mono (by decide)) (by rfl) (pa_cons (pe_mt0 C_Rule_figures_0 T_Rule.cl (hr.mono (by decide)) (pv 0)) pa_nil))))), ?_⟩
    have hR2 := hR
    obtain ⟨dx, kt, h1, h2⟩ := hR
    refine ⟨⟨_, rfl⟩, _, rfl, r, dx, _, rfl, h1, by rfl, r, f', rfl, hR2, fun H1 t kt2 nt s1 ht hk => ?_⟩
    refine ⟨t, kt2, f', rfl, SqT.of ht, hk, ok, fun H2 L s2 hL => ?_⟩
    obtain ⟨b1, b2⟩ := cls_len ok
    have e2 : (Str.ofString ", ").length = 2 := rfl
    refine ⟨_, _, _, rfl, rfl, .inl (SqL.of hL), ?_, q H2 (s1.trans s2)⟩
    rw [e2]
    omega
def figD (f : Fg) : PyData := .tuple [.int f.p, .int f.s, .int f.g, .bool f.l, .int f.m, .tuple (f.ks.map PyData.int), .int f.fi, .int f.fa, .int f.ba]
theorem fig_dp {K : PySem.W.Frag} {H : Hp} {t a : Addr} {f : Fg} (h : SqT K H t [.int f.p, .int f.s, .int f.g, .bl f.l, .int f.m, .ref a, .int f.fi, .int f.fa, .int f.ba]) (ha : SqT K H a (f.ks.map V.int)) : Dp K H (.ref t) (figD f) :=
  .tup h (.cons (.int _) (.cons (.int _) (.cons (.int _) (.cons (.bl _) (.cons (.int _) (.cons (dpAll_intsT ha) (.cons (.int _) (.cons (.int _) (.cons (.int _) .nil)))))))))
theorem fig_depth (f : Fg) : PyData.depth (figD f) ≤ 4 := by
  have := depth_ints f.ks
  simp only [figD, PyData.depth, PyData.depthAll]
  omega
theorem thin_ints : ∀ ns : List Int, thinAll (ns.map PyData.int) = true
  | [] => rfl
  | n :: r => by
    rw [List.map_cons]
    simp only [thinAll, thin, Bool.true_and]
    exact thin_ints r
theorem fig_thin {f : Fg} (ok : f.Ok) : thin (figD f) = true := by
  have h1 := ok.len
  have h2 := ok.figs.p1
  simp only [figD, thin, thinAll, thin_ints, List.length_map, Bool.and_true, Bool.true_and]
  rw [Bool.and_eq_true]
  exact ⟨rfl, decide_eq_true (by omega)⟩
theorem fig_shaped (f : Fg) : SeqAt.shaped (figD f) = true := by
  have h1 := fig_depth f
  have h2 := lay_ints f.ks
  show (PyData.canLay0 (figD f) && decide (PyData.depth (figD f) ≤ 64)) = true
  rw [Bool.and_eq_true]
  exact ⟨by simp only [figD, PyData.canLay0, PyData.canLayAll0, h2, Bool.and_true], decide_eq_true (by omega)⟩
theorem eqv_ints : ∀ {ks ls : List Int}, PyData.eqvAll (ks.map PyData.int) (ls.map PyData.int) = true → ks = ls
  | [], [], _ => rfl
  | [], _ :: _, h => by simp [PyData.eqvAll] at h
  | _ :: _, [], h => by simp [PyData.eqvAll] at h
  | k :: r, a :: b, h => by
    simp only [List.map_cons, PyData.eqvAll, PyData.eqv, Bool.and_eq_true, beq_iff_eq] at h
    rw [eqv_ints h.2, h.1]
def alike (f f2 : Fg) : Bool := PyData.eqv (figD f) (figD f2)
theorem alike_eq {f f2 : Fg} (h : alike f f2 = true) : f = f2 := by
  obtain ⟨p, s, g, l, m, ks, fi, fa, ba⟩ := f
  obtain ⟨p2, s2, g2, l2, m2, ks2, fi2, fa2, ba2⟩ := f2
  unfold alike figD at h
  simp only [PyData.eqvAll, PyData.eqv, Bool.and_eq_true, beq_iff_eq] at h
  obtain ⟨h1, h2, h3, h4, h5, h6, h7, h8, h9, _⟩ := h
  have := eqv_ints h6
  subst h1 h2 h3 h4 h5 this h7 h8 h9
  rfl
theorem alike_self (f : Fg) : alike f f = true := SeqAt.eqv_refl _ (SeqAt.canLay_of_shaped (fig_shaped f))
theorem unlike {f f2 : Fg} (h : f ≠ f2) : alike f f2 = false := by
  cases e : alike f f2 with
  | false => rfl
  | true => exact absurd (alike_eq e) h
/-! ### Rule___repr__ -/
abbrev s_Rule___repr__ : Stmt := inClass (topS 11) 6
abbrev N_Rule___repr__ : List Str := ["self"]
theorem sc_Rule___repr__ : FnScope N_Rule___repr__ ["self"] (defScope s_Rule___repr__) := ⟨rfl, rfl, rfl, by decide +kernel, rfl, by decide +kernel, by decide +kernel⟩
def sp_Rule___repr__ (K : PySem.W.Frag) (C : Addr) : Sp := fun vs H Q _ => ∃ (r : Addr) (f : Fg), vs = [.ref r] ∧ RuleAt K H C r f ∧ f.Ok ∧ ∀ H', Same H H' → Q (.str (Str.ofString "Rule(" ++ txtT f ++ Str.ofString ")")) H'
theorem ok_Rule___repr__ {f : Addr} {fd : FuncData} {CR : Addr} (TQ : TEq K mg CR "Rule") (T_Rule : TRule K mg CR) (C_Rule___str___0 : CTx P w K mg base CR 4 "__str__" (sp_Rule___str__ K CR)) (F : FunD K "__repr__" "Rule.__repr__" (defArgs s_Rule___repr__) (defBody s_Rule___repr__) (defScope s_Rule___repr__) [] [] f fd) : FnOk P w K mg base CX0 7 f fd ["self"] (sp_Rule___repr__ K CR) := by
  refine okD F sc_Rule___repr__ (fun vs H Q E h => ?_) (fun cdv A outer s H vs Q E hr h => ?_)
  · first | (obtain ⟨_, rfl, _⟩ := h; rfl) | (obtain ⟨_, _, rfl, _⟩ := h; rfl) | (obtain ⟨_, _, _, rfl, _⟩ := h; rfl) | (obtain ⟨_, _, _, _, rfl, _⟩ := h; rfl) | (obtain ⟨_, _, _, _, _, rfl, _⟩ := h; rfl) | (obtain ⟨_, _, _, _, _, _, rfl, _⟩ := h; rfl) | (obtain ⟨_, _, _, _, _, _, _, rfl, _⟩ := h; rfl) | (obtain ⟨_, _, _, _, _, _, _, _, rfl, _⟩ := h; rfl) | (obtain ⟨_, _, _, _, _, _, _, _, _, rfl, _⟩ := h; rfl) | (obtain ⟨_, _, _, _, _, _, _, _, _, _, rfl, _⟩ := h; rfl) | (obtain ⟨_, _, _, _, _, _, _, _, _, _, _, rfl, _⟩ := h; rfl) | (obtain ⟨_, _, _, _, _, _, _, _, _, _, _, _, rfl, _⟩ := h; rfl) | (obtain ⟨_, _, _, _, _, _, _, _, _, _, _, _, _, rfl, _⟩ := h; rfl) | (obtain ⟨_, _, _, _, _, _, _, _, _, _, _, _, _, _, rfl, _⟩ := h; rfl) | (obtain ⟨_, _, _, _, _, _, _, _, _, _, _, _, _, _, _, rfl, _⟩ := h; rfl)
  · have hu64 := hr.units
    obtain ⟨r, f', rfl, hR, ok, q⟩ := h
    refine ⟨_, (pss_one (ps_ret (pe_joined (PJ.cons pe_str (PJ.cons (pe_fmtSO C_Rule___str___0 (hr.mono (by decide)) (pv 0)) (PJ.cons pe_str PJ.nil)))))), ?_⟩
    obtain ⟨b1, b2⟩ := cls_len ok
    obtain ⟨dx, kt, h1, h2⟩ := id hR
    have jl := PySem.StrLaws.join_length_le (Str.ofString ", ") (clsT f')
    rw [← TL.join_eq] at jl
    have e2 : (Str.ofString ", ").length = 2 := rfl
    have e5 : (Str.ofString "Rule(").length = 5 := rfl
    have e1 : (Str.ofString ")").length = 1 := rfl
    have e0 : ∀ s : Str, Str.empty ++ s = s := fun s => by
      show Str.mk (#[] ++ s.cps) = s
      rw [Array.empty_append]
    rw [e2] at jl
    have tl : (txtT f').length ≤ 1000 := by
      show (Txt.join (Str.ofString ", ") (clsT f')).length ≤ 1000
      omega
    refine ⟨_, rfl, by rw [e0, e5, sizeLine_eq]; omega, _, rfl, r, dx, _, rfl, h1, r, f', rfl, hR, ok, fun H1 s1 => ⟨_, rfl, by rw [sizeLine_eq]; omega, _, rfl, by rw [e0, len_app, e5, sizeLine_eq]; omega, _, rfl, by rw [e0, len_app, len_app, e5, e1, sizeLine_eq]; omega, ?_⟩⟩
    rw [e0]
    exact q H1 s1
/-! ### Rule___eq__ -/
abbrev s_Rule___eq__ : Stmt := inClass (topS 11) 3
abbrev N_Rule___eq__ : List Str := ["self", "other"]
theorem sc_Rule___eq__ : FnScope N_Rule___eq__ ["self", "other"] (defScope s_Rule___eq__) := ⟨rfl, rfl, rfl, by decide +kernel, rfl, by decide +kernel, by decide +kernel⟩
def sp_Rule___eq__ (K : PySem.W.Frag) (C : Addr) : Sp := fun vs H Q _ => ∃ (r : Addr) (f : Fg) (y : V), vs = [.ref r, y] ∧ RuleAt K H C r f ∧ f.Ok ∧
  ((∃ (r2 : Addr) (f2 : Fg), y = .ref r2 ∧ RuleAt K H C r2 f2 ∧ f2.Ok ∧ ∀ H', Same H H' → Q (.bl (alike f f2)) H') ∨ ∃ tv, OEQ.TyV K C H y tv ∧ tv ≠ .ref C ∧ ∀ H', Same H H' → Q (.bl false) H')
theorem ok_Rule___eq__ {f : Addr} {fd : FuncData} {CR : Addr} (TQ : TEq K mg CR "Rule") (T_Rule : TRule K mg CR) (m_isinstance : mg "isinstance" = none) (C_Rule_figures_0 : CMt P w K mg base CR 1 "figures" ["self"] [] (sp_Rule_figures K CR)) (F : FunD K "__eq__" "Rule.__eq__" (defArgs s_Rule___eq__) (defBody s_Rule___eq__) (defScope s_Rule___eq__) [] [] f fd) : FnOk P w K mg base CX0 2 f fd ["self", "other"] (sp_Rule___eq__ K CR) := by
  refine okD F sc_Rule___eq__ (fun vs H Q E h => ?_) (fun cdv A outer s H vs Q E hr h => ?_)
  · first | (obtain ⟨_, rfl, _⟩ := h; rfl) | (obtain ⟨_, _, rfl, _⟩ := h; rfl) | (obtain ⟨_, _, _, rfl, _⟩ := h; rfl) | (obtain ⟨_, _, _, _, rfl, _⟩ := h; rfl) | (obtain ⟨_, _, _, _, _, rfl, _⟩ := h; rfl) | (obtain ⟨_, _, _, _, _, _, rfl, _⟩ := h; rfl) | (obtain ⟨_, _, _, _, _, _, _, rfl, _⟩ := h; rfl) | (obtain ⟨_, _, _, _, _, _, _, _, rfl, _⟩ := h; rfl) | (obtain ⟨_, _, _, _, _, _, _, _, _, rfl, _⟩ := h; rfl) | (obtain ⟨_, _, _, _, _, _, _, _, _, _, rfl, _⟩ := h; rfl) | (obtain ⟨_, _, _, _, _, _, _, _, _, _, _, rfl, _⟩ := h; rfl) | (obtain ⟨_, _, _, _, _, _, _, _, _, _, _, _, rfl, _⟩ := h; rfl) | (obtain ⟨_, _, _, _, _, _, _, _, _, _, _, _, _, rfl, _⟩ := h; rfl) | (obtain ⟨_, _, _, _, _, _, _, _, _, _, _, _, _, _, rfl, _⟩ := h; rfl) | (obtain ⟨_, _, _, _, _, _, _, _, _, _, _, _, _, _, _, rfl, _⟩ := h; rfl)
  · have hu64 := hr.units
    obtain ⟨r, f', y, rfl, hR, ok, q⟩ := h
    refine ⟨_, (pss_one (ps_ret (pe_and (pe_callB (kk_isi K) (by rfl) m_isinstance (by decide +kernel) (pa_cons (pv 1) (pa_cons (pe_glob (v := .ref CR) (by rfl) TQ.g rfl) pa_nil))) (pe_one (pe_cmpR (kk_eqD K hu64) (pe_mt0 C_Rule_figures_0 T_Rule.cl (hr.mono (by decide)) (pv 0)) (pe_mt0 C_Rule_figures_0 T_Rule.cl (hr.mono (by decide)) (pv 1)) (nomark _)))))), ?_⟩
    obtain ⟨dx, kt, h1, h2⟩ := id hR
    rcases q with ⟨r2, f2, rfl, hR2, ok2, q⟩ | ⟨tv, ty, hne, q⟩
    · obtain ⟨dx2, kt2, k1, k2⟩ := id hR2
      refine ⟨_, rfl, _, _, _, _, true, rfl, .own _, TQ.tyi T_Rule.cl k1, TQ.me, _, rfl, ?_⟩
      refine iteT ⟨_, rfl, r, dx, _, rfl, h1, by rfl, r, f', rfl, hR, fun H1 t1 a1 n1 s1 ht1 ha1 => ?_⟩
      refine ⟨_, rfl, r2, dx2, _, rfl, s1 _ _ k1, by rfl, r2, f2, rfl, hR2.same s1, fun H2 t2 a2 n2 s2 ht2 ha2 => ?_⟩
      exact ⟨figD f', figD f2, fig_dp (seqT_same s2 (SqT.of ht1)) (seqT_same s2 ha1), fig_dp (SqT.of ht2) ha2, fig_shaped _, fig_shaped _, q H2 (s1.trans s2)⟩
    · obtain ⟨T, rfl, hT, hx⟩ := ty.tyx hne
      refine ⟨_, rfl, _, _, _, _, false, rfl, .own _, hx, TQ.no T hT, _, rfl, ?_⟩
      exact iteF (q H (Same.refl H))
/-! ### _law_text -/
abbrev s__law_text : Stmt := topS 23
abbrev N__law_text : List Str := ["_law_some", "_law_whole_here", "_law_found", "_law_numbers", "_law_number", "_law_at", "_law_sort"]
theorem sc__law_text : FnScope N__law_text ["_law_some"] (defScope s__law_text) := ⟨rfl, rfl, rfl, by decide +kernel, rfl, by decide +kernel, by decide +kernel⟩
theorem cnt_is {w w2 : Str} {n : Int} (h : 0 < n) (e : w2 = w ++ Str.ofString " ") : w2 ++ Str.ofString (toString n) = cntT w n := by
  unfold cntT
  rw [if_neg (by omega), e]
theorem str_int_all : ∀ a b : Fin 101, Str.ofString (toString ((a : Nat) : Int)) = Str.ofString (toString ((b : Nat) : Int)) → a = b := by decide +kernel
theorem str_int_inj {a b : Int} (ha : 0 ≤ a ∧ a ≤ 100) (hb : 0 ≤ b ∧ b ≤ 100) (h : Str.ofString (toString a) = Str.ofString (toString b)) : a = b := by
  obtain ⟨i, rfl⟩ := Int.eq_ofNat_of_zero_le ha.1
  obtain ⟨j, rfl⟩ := Int.eq_ofNat_of_zero_le hb.1
  have e : i = j := congrArg Fin.val (str_int_all ⟨i, by omega⟩ ⟨j, by omega⟩ h)
  rw [e]
theorem filt {s z : Str} {l : List Str} {b : Bool} (h1 : b = true → s = z ∧ s ≠ Str.ofString "") (h2 : b = false → s = Str.ofString "") :
    (s :: l).filter (fun s => decide (s ≠ Str.ofString "")) = (if b = true then [z] else []) ++ l.filter (fun s => decide (s ≠ Str.ofString "")) := by
  cases b with
  | false =>
    rw [h2 rfl, List.filter_cons_of_neg (by simp)]
    rfl
  | true =>
    obtain ⟨e, n⟩ := h1 rfl
    rw [List.filter_cons_of_pos (by simpa using n), e]
    rfl
theorem str_ne {s : Str} (h : 0 < s.length) : s ≠ Str.ofString "" := fun e => by
  have : s.length = 0 := by rw [e]; rfl
  omega
theorem cnt_ne {w : Str} {n : Int} (h : n ≠ 0) : cntT w n ≠ Str.ofString "" := by
  refine str_ne ?_
  have e : (Str.ofString " ").length = 1 := rfl
  rw [cntT, if_neg h, len_app, len_app, e]
  omega
def opt (w : Str) (n : Int) : List Str := if decide (0 < n) = true then [cntT w n] else []
def lawT (f : Fg) : List Str := [partT f.p f.s] ++ (if decide (0 < f.g) = true then [cntT "grace" f.g] else []) ++ (if f.l = true then [Str.ofString "from last"] else []) ++ (if decide (0 < f.m) = true then [cntT "misses" f.m] else []) ++ (if f.ks.any (fun k => decide (0 < k)) = true then [keptT f.ks] else [])
def opts (f : Fg) : List (List Str) := [opt "fine" f.fi, opt "falls" f.fa, opt "back" f.ba]
theorem cls_is {f : Fg} (ok : f.Ok) : clsT f = lawT f ++ (opts f).flatten := by
  have F := ok.figs
  have hne : f.ks ≠ [] := fun e => by
    have a : (f.ks.length : Int) = f.p := ok.len
    have := F.p0
    rw [e, List.length_nil] at a
    omega
  have two : ∀ (w : Str) (n : Int) (l : List Str), 0 ≤ n → (cntT w n :: l).filter (fun s => decide (s ≠ Str.ofString "")) = (if decide (0 < n) = true then [cntT w n] else []) ++ l.filter (fun s => decide (s ≠ Str.ofString "")) := fun w n l h => by
    refine filt (fun h1 => ⟨rfl, cnt_ne (by have := of_decide_eq_true h1; omega)⟩) (fun h2 => ?_)
    have := of_decide_eq_false h2
    rw [cntT, if_pos (show n = 0 by omega)]
  have hp : partT f.p f.s ≠ Str.ofString "" := by
    unfold partT
    refine str_ne ?_
    have e2 : (Str.ofString " days").length = 5 := rfl
    rw [len_app, e2]
    omega
  have hl1 : f.l = true → (if f.l = true then Str.ofString "from last" else Str.ofString "") = Str.ofString "from last" ∧ (if f.l = true then Str.ofString "from last" else Str.ofString "") ≠ Str.ofString "" := fun e => by
    rw [if_pos e]
    exact ⟨rfl, by decide +kernel⟩
  have hl2 : f.l = false → (if f.l = true then Str.ofString "from last" else Str.ofString "") = Str.ofString "" := fun e => by
    rw [if_neg (by rw [e]; decide)]
  have hk1 : f.ks.any (fun k => decide (0 < k)) = true → keptT f.ks ≠ Str.ofString "" := fun e => by
    obtain ⟨j, hj, hp⟩ := List.any_eq_true.mp e
    unfold keptT
    split
    · rename_i al
      have h1 := of_decide_eq_true (List.all_eq_true.mp al j hj)
      have := of_decide_eq_true hp
      exact cnt_ne (by omega)
    · refine str_ne ?_
      have e5 : (Str.ofString "keep ").length = 5 := rfl
      rw [len_app, e5]
      omega
  have hk2 : f.ks.any (fun k => decide (0 < k)) = false → keptT f.ks = Str.ofString "" := fun e => by
    have z : ∀ k ∈ f.ks, k = 0 := fun k hk => by
      have h1 := List.any_eq_false.mp e k hk
      have h2 := (ok.bnd k hk).1
      simp only [decide_eq_true_eq] at h1
      omega
    have h0 : f.ks.headD 0 = 0 := by
      cases h : f.ks with
      | nil => rfl
      | cons a b => exact z a (by rw [h]; exact List.mem_cons_self)
    unfold keptT
    rw [if_pos (List.all_eq_true.mpr fun k hk => decide_eq_true (by rw [h0, z k hk])), h0, cntT, if_pos rfl]
  unfold clsT allT
  rw [filt (b := true) (z := partT f.p f.s) (fun _ => ⟨rfl, hp⟩) (fun e => nomatch e), two _ _ _ F.g0, filt (b := f.l) (z := Str.ofString "from last") hl1 hl2, two _ _ _ F.m0, filt (b := f.ks.any (fun k => decide (0 < k))) (z := keptT f.ks) (fun e => ⟨rfl, hk1 e⟩) hk2, two _ _ _ F.fi0, two _ _ _ F.fa0, two _ _ _ F.ba0]
  unfold lawT opts opt
  simp only [List.filter_nil, List.flatten_cons, List.flatten_nil, List.append_nil, List.append_assoc, if_true]
def sp__law_text (K : PySem.W.Frag) : Sp := fun vs H Q _ => ∃ (t : Addr) (f : Fg) (kv : V) (kd : PyData), vs = [.ref t] ∧ Drawn K H t f kv kd ∧ ∀ H', Same H H' → Q (.str (txtT f)) H'
theorem ok__law_text {f : Addr} {fd : FuncData} (F : Fun K "_law_text" "_law_text" s__law_text f fd) (g : mg "_law_text" = some (.ref f)) (bd : Binds K fd ["_law_some"] []) (m_str : mg "str" = none) (m_max : mg "max" = none) (m_len : mg "len" = none) (m_set : mg "set" = none) (m_int : mg "int" = none) (C__law_whole : CF P w K mg base 1 "_law_whole" ["_law_some"] (sp__law_whole K)) : CF P w K mg base 2 "_law_text" ["_law_some"] (sp__law_text K) := by
  refine ⟨f, fd, F.ok sc__law_text (fun vs H Q E h => ?_) (fun cdv A outer s H vs Q E hr h => ?_), g, F.kp, bd⟩
  · first | (obtain ⟨_, rfl, _⟩ := h; rfl) | (obtain ⟨_, _, rfl, _⟩ := h; rfl) | (obtain ⟨_, _, _, rfl, _⟩ := h; rfl) | (obtain ⟨_, _, _, _, rfl, _⟩ := h; rfl) | (obtain ⟨_, _, _, _, _, rfl, _⟩ := h; rfl) | (obtain ⟨_, _, _, _, _, _, rfl, _⟩ := h; rfl) | (obtain ⟨_, _, _, _, _, _, _, rfl, _⟩ := h; rfl) | (obtain ⟨_, _, _, _, _, _, _, _, rfl, _⟩ := h; rfl) | (obtain ⟨_, _, _, _, _, _, _, _, _, rfl, _⟩ := h; rfl) | (obtain ⟨_, _, _, _, _, _, _, _, _, _, rfl, _⟩ := h; rfl) | (obtain ⟨_, _, _, _, _, _, _, _, _, _, _, rfl, _⟩ := h; rfl) | (obtain ⟨_, _, _, _, _, _, _, _, _, _, _, _, rfl, _⟩ := h; rfl) | (obtain ⟨_, _, _, _, _, _, _, _, _, _, _, _, _, rfl, _⟩ := h; rfl) | (obtain ⟨_, _, _, _, _, _, _, _, _, _, _, _, _, _, rfl, _⟩ := h; rfl) | (obtain ⟨_, _, _, _, _, _, _, _, _, _, _, _, _, _, _, rfl, _⟩ := h; rfl)
  · have hu64 := hr.units
    obtain ⟨t, f', kv, kd, rfl, hD, q⟩ := h
    refine ⟨_, (pss_cons (ps_set (i := 1) sc__law_text.nd rfl (.inl rfl) (pe_cf C__law_whole (hr.mono (by decide)) (by rfl) (pa_cons (pv 0) pa_nil)))
      (pss_cons (ps_set (i := 2) sc__law_text.nd rfl (.inl rfl) (pe_lst (pa_cons (pe_op op_add_str (pe_op op_add_str (pe_op op_add_str (pe_callTy call_str_int (by rfl) m_str (by decide +kernel) (pa_cons (pe_ix (kk_ixt K) (pv 0) pe_int (fun _ _ => rfl)) pa_nil)) pe_str) (pe_callTy call_str_int (by rfl) m_str (by decide +kernel) (pa_cons (pe_ix (kk_ixt K) (pv 0) pe_int (fun _ _ => rfl)) pa_nil))) pe_str) pa_nil)))
      (pss_cons (ps_if (pt_cmpR op_gt (pe_ix (kk_ixt K) (pv 1) pe_int (fun _ _ => rfl)) pe_int (nomark _))
         (pss_one (ps_expr (pe_bm PySem.F.plainAttrs_list PySem.F.slot_list_append PySem.F.type_list_append mt_append (pv 2) (pa_cons (pe_op op_add_str pe_str (pe_callTy call_str_int (by rfl) m_str (by decide +kernel) (pa_cons (pe_ix (kk_ixt K) (pv 1) pe_int (fun _ _ => rfl)) pa_nil))) pa_nil))))
         pss_nil)
      (pss_cons (ps_if (pt_val (pe_ix (kk_ixt K) (pv 1) pe_int (fun _ _ => rfl)))
         (pss_one (ps_expr (pe_bm PySem.F.plainAttrs_list PySem.F.slot_list_append PySem.F.type_list_append mt_append (pv 2) (pa_cons pe_str pa_nil))))
         pss_nil)
      (pss_cons (ps_if (pt_cmpR op_gt (pe_ix (kk_ixt K) (pv 1) pe_int (fun _ _ => rfl)) pe_int (nomark _))
         (pss_one (ps_expr (pe_bm PySem.F.plainAttrs_list PySem.F.slot_list_append PySem.F.type_list_append mt_append (pv 2) (pa_cons (pe_op op_add_str pe_str (pe_callTy call_str_int (by rfl) m_str (by decide +kernel) (pa_cons (pe_ix (kk_ixt K) (pv 1) pe_int (fun _ _ => rfl)) pa_nil))) pa_nil))))
         pss_nil)
      (pss_cons (ps_setLc (i := 3) (own := [("_law_number", 4)]) (g := (gName 4)) (tt := tYes) rfl sc__law_text.nd rfl rfl (sw_true rfl rfl rfl (by decide +kernel)) (pi_tup (pe_ix (kk_ixt K) (pv 1) pe_int (fun _ _ => rfl))) (blkOk_by (own := [("_law_number", 4)]) (N := N__law_text) (sc := defScope s__law_text) (by decide +kernel)) (fun _ _ _ _ _ => pg_name (i := 4) sc__law_text.nd rfl (Or.inl rfl)) (fun _ _ _ _ _ => pts_nil) (fun _ _ _ _ _ => (pe_callTy call_str_int (by rfl) m_str (by decide +kernel) (pa_cons (pv 4) pa_nil))))
      (pss_cons (ps_if (pt_cmpR op_gt (pe_callB (call_maxT K rfl hu64) (by rfl) m_max (by decide +kernel) (pa_cons (pe_ix (kk_ixt K) (pv 1) pe_int (fun _ _ => rfl)) pa_nil)) pe_int (nomark _))
         (pss_one (ps_expr (pe_bm PySem.F.plainAttrs_list PySem.F.slot_list_append PySem.F.type_list_append mt_append (pv 2) (pa_cons (pe_op op_add_str pe_str (pe_ifExp (pt_cmpR op_eq (pe_lenSetS (by rfl) m_len (by rfl) m_set (pv 3)) pe_int (nomark _)) (pe_ix (kk_ixl K) (pv 3) pe_int (fun _ _ => rfl)) (pe_join pe_str (pv 3)))) pa_nil))))
         pss_nil)
      (pss_cons (ps_for PassesOwn.never rfl (pi_tup (pe_tup (pa_cons (pe_tup (pa_cons pe_int (pa_cons pe_str pa_nil))) (pa_cons (pe_tup (pa_cons pe_int (pa_cons pe_str pa_nil))) (pa_cons (pe_tup (pa_cons pe_int (pa_cons pe_str pa_nil))) pa_nil))))) (pg_tup (by rfl) (pgs_cons (pg_name (i := 5) sc__law_text.nd rfl (.inl rfl)) (pgs_cons (pg_name (i := 6) sc__law_text.nd rfl (.inl rfl)) pgs_nil)))
         (pss_one (ps_set (i := 2) sc__law_text.nd rfl (.inl rfl) (pe_op op_cat (pv 2) (pe_op op_rep (pe_lst (pa_cons (pe_op op_add_str (pe_op op_add_str (pv 6) pe_str) (pe_callTy call_str_int (by rfl) m_str (by decide +kernel) (pa_cons (pe_ix (kk_ixt K) (pv 1) (pv 5) (fun _ _ => rfl)) pa_nil))) pa_nil)) (pe_callTy call_int1 (by rfl) m_int (by decide +kernel) (pa_cons (pe_cmpR op_gt (pe_ix (kk_ixt K) (pv 1) (pv 5) (fun _ _ => rfl)) pe_int (nomark _)) pa_nil)))))))
      (pss_one (ps_ret (pe_join pe_str (pv 2)))))))))))), ?_⟩
    have ok := hD.ok
    have F := ok.figs
    have lp := num_len (n := f'.p) (by have := F.p0; omega) (by have := F.p1; omega)
    have ls := num_len (n := f'.s) (by have := F.s0; omega) (by have := F.s1; omega)
    have lg := num_len F.g0 (by have := F.g1; omega)
    have lm := num_len F.m0 (by have := F.m1; omega)
    have l1 : (Str.ofString " parts by ").length = 10 := rfl
    have l2 : (Str.ofString " days").length = 5 := rfl
    have l3 : (Str.ofString "grace ").length = 6 := rfl
    have l4 : (Str.ofString "misses ").length = 7 := rfl
    have s1' : (1 : Nat) ≤ sizeLine := by rw [sizeLine_eq]; omega
    refine ⟨_, rfl, t, f', kv, kd, rfl, hD, fun H1 w a s1 hW ha => ?_⟩
    refine ⟨_, rfl, t, _, _, _, rfl, rfl, seqT_same s1 hD.1, rfl, _, rfl, small_log ⟨by have := F.p0; omega, by have := F.p1; omega⟩, _, _, rfl, rfl, by rw [sizeLine_eq]; omega, _, rfl, t, _, _, _, rfl, rfl, seqT_same s1 hD.1, rfl, _, rfl, small_log ⟨by have := F.s0; omega, by have := F.s1; omega⟩, _, _, rfl, rfl, by rw [len_app, sizeLine_eq]; omega, _, _, rfl, rfl, by rw [len_app, len_app, sizeLine_eq]; omega, s1', fun L nL => ?_⟩
    have nL0 : H L = none := s1.free nL
    have hL : upd H1 L (.lst [.str (partT f'.p f'.s)]) L = some (.lst ([partT f'.p f'.s].map V.str)) := upd_same
    have sN := s1.trans (same_new (o := .lst [.str (partT f'.p f'.s)]) nL)
    have hW2 := (hW.same (same_new (o := .lst [.str (partT f'.p f'.s)]) nL)).1
    have upH : ∀ {G : Hp} {o : HO}, Same H G → Same H (upd G L o) := fun {G o} s c u e => by
      rw [upd_ne (ne_of_none e nL0)]
      exact s c u e
    show gName 2 (.ref L) _ (upd H1 L (.lst [.str (partT f'.p f'.s)])) _
    have ha2 := seqT_same (same_new (o := .lst [.str (partT f'.p f'.s)]) nL) ha
    generalize upd H1 L (.lst [.str (partT f'.p f'.s)]) = G0 at *
    dsimp only [gName, tSeq]
    refine app_if (l := [partT f'.p f'.s]) (b := decide (0 < f'.g)) (z := cntT "grace" f'.g) rfl hL (by show 1 ≤ 100; decide) (fun Y y => ⟨_, rfl, w, _, _, _, rfl, rfl, hW2, rfl, _, _, rfl, rfl, _, rfl, y⟩) (fun hb Y y => ?_) ?_
    · refine ⟨_, rfl, w, _, _, _, rfl, rfl, hW2, rfl, _, rfl, small_log ⟨F.g0, by have := F.g1; omega⟩, _, _, rfl, rfl, by rw [sizeLine_eq]; omega, ?_⟩
      rw [cnt_is (w := "grace") (of_decide_eq_true hb) (by decide +kernel)]
      exact y
    have tupL : ∀ {G : Hp} {x : Addr} {xs ys : List V} {o : HO}, G L = some (.lst ys) → SqT K G x xs → SqT K (upd G L o) x xs := fun {G x xs ys o} hL h => by
      rcases h with (h | ⟨u, h⟩) | h
      · exact .inl (.inl (by rw [upd_ne (ne_of h hL (by intro z; cases z))]; exact h))
      · exact .inl (.inr ⟨u, by rw [upd_ne (ne_of h hL (by intro z; cases z))]; exact h⟩)
      · exact .inr h
    have nextH : ∀ {G : Hp} {l : List Str} {z : Str} {b : Bool}, (Same H G ∧ SqT K G w [.int f'.p, .int f'.s, .int f'.g, .bl f'.l, .int f'.m, .ref a, .int f'.fi, .int f'.fa, .int f'.ba] ∧ SqT K G a (f'.ks.map V.int) ∧ G L = some (.lst (l.map V.str))) →
        ∃ G2, (if b = true then upd G L (.lst ((l ++ [z]).map V.str)) else G) = G2 ∧ Same H G2 ∧ SqT K G2 w [.int f'.p, .int f'.s, .int f'.g, .bl f'.l, .int f'.m, .ref a, .int f'.fi, .int f'.fa, .int f'.ba] ∧ SqT K G2 a (f'.ks.map V.int) ∧ G2 L = some (.lst ((l ++ if b = true then [z] else []).map V.str)) := fun {G l z b} h => by
      obtain ⟨h1, h2, h3, h4⟩ := h
      cases b with
      | true => exact ⟨_, rfl, upH h1, tupL h4 h2, tupL h4 h3, upd_same⟩
      | false => exact ⟨_, rfl, h1, h2, h3, by simpa using h4⟩
    have lenA : ∀ {l : List Str} {z : Str} {b : Bool}, (l ++ if b = true then [z] else []).length ≤ l.length + 1 := fun {l z b} => by cases b <;> simp
    obtain ⟨G1, eG1, g1, g2, g3, g4⟩ := nextH (z := cntT "grace" f'.g) (b := decide (0 < f'.g)) ⟨sN, hW2, ha2, hL⟩
    rw [eG1]
    dsimp only [tSeq]
    refine app_if (b := f'.l) (z := Str.ofString "from last") rfl g4 (Nat.le_trans lenA (by show 2 ≤ 100; decide)) (fun Y y => ⟨_, rfl, w, _, _, _, rfl, rfl, g2, rfl, _, rfl, y⟩) (fun hb Y y => y) ?_
    obtain ⟨G2, eG2, p1, p2, p3, p4⟩ := nextH (z := Str.ofString "from last") (b := f'.l) ⟨g1, g2, g3, g4⟩
    rw [eG2]
    dsimp only [tSeq]
    refine app_if (b := decide (0 < f'.m)) (z := cntT "misses" f'.m) rfl p4 (Nat.le_trans lenA (Nat.le_trans (Nat.succ_le_succ lenA) (by show 3 ≤ 100; decide))) (fun Y y => ⟨_, rfl, w, _, _, _, rfl, rfl, p2, rfl, _, _, rfl, rfl, _, rfl, y⟩) (fun hb Y y => ?_) ?_
    · refine ⟨_, rfl, w, _, _, _, rfl, rfl, p2, rfl, _, rfl, small_log ⟨F.m0, by have := F.m1; omega⟩, _, _, rfl, rfl, by rw [sizeLine_eq]; omega, ?_⟩
      rw [cnt_is (w := "misses") (of_decide_eq_true hb) (by decide +kernel)]
      exact y
    obtain ⟨G3, eG3, q1, q2, q3, q4⟩ := nextH (z := cntT "misses" f'.m) (b := decide (0 < f'.m)) ⟨p1, p2, p3, p4⟩
    rw [eG3]
    dsimp only [tSeq]
    have hlk : f'.ks.length ≤ 6 := by
      have a : (f'.ks.length : Int) = f'.p := ok.len
      have := F.p1
      omega
    have hne : f'.ks ≠ [] := fun e => by
      have a : (f'.ks.length : Int) = f'.p := ok.len
      have := F.p0
      rw [e, List.length_nil] at a
      omega
    refine ⟨_, rfl, w, _, _, _, rfl, rfl, q2, rfl, a, rfl, ⟨_, q3⟩, fun D hD => vals_lc (fun v => match v with | .int k => .str (Str.ofString (toString k)) | _ => .non) (jok_t (K := K) q3) (by rw [List.length_map]; omega) hD (fun x hx G s Y N h1 => ?_) (fun G4 s4 hG4 => ?_)⟩
    · obtain ⟨k, hk, rfl⟩ := List.mem_map.mp hx
      exact ⟨rfl, _, rfl, k, rfl, small_log (ok.bnd k hk), h1 G (Same.refl G)⟩
    have hG5 : G4 D = some (.lst ((f'.ks.map fun k => Str.ofString (toString k)).map V.str)) := by
      rw [hG4, List.map_map, List.map_map]
      rfl
    have hDL : D ≠ L := fun e => by rw [e, q4] at hD; cases hD
    have r1 : Same H G4 := q1.trans s4
    have r2 := seqT_same s4 q2
    have r3 := seqT_same s4 q3
    have r4 := s4 _ _ q4
    show gName 3 (.ref D) _ G4 _
    dsimp only [gName, tSeq]
    obtain ⟨k0, kr, hks⟩ : ∃ k0 kr, f'.ks = k0 :: kr := by
      cases h : f'.ks with
      | nil => exact absurd h hne
      | cons a b => exact ⟨a, b, rfl⟩
    refine app_if (b := f'.ks.any (fun k => decide (0 < k))) (z := keptT f'.ks) rfl r4 (Nat.le_trans lenA (Nat.le_trans (Nat.succ_le_succ lenA) (Nat.le_trans (Nat.succ_le_succ (Nat.succ_le_succ lenA)) (by show 4 ≤ 100; decide)))) (fun Y y => ?_) (fun hb Y y => ?_) ?_
    · refine ⟨_, rfl, w, _, _, _, rfl, rfl, r2, rfl, a, k0, kr, rfl, by rw [hks] at r3; exact r3, fun m hm hmax => ⟨_, _, rfl, rfl, _, rfl, ?_⟩⟩
      have e : decide (0 < m) = f'.ks.any (fun k => decide (0 < k)) := by
        rw [hks]
        by_cases c : 0 < m
        · rw [decide_eq_true c]
          exact (List.any_eq_true.mpr ⟨m, hm, decide_eq_true c⟩).symm
        · rw [decide_eq_false c]
          exact (List.any_eq_false.mpr fun k hk => by
            have := hmax k hk
            simp only [decide_eq_true_eq]
            omega).symm
      rw [e]
      exact y
    · have e5 : (Str.ofString "keep ").length = 5 := rfl
      refine ⟨_, rfl, D, _, rfl, SqL.of hG5, by rw [List.length_map]; omega, fun c hc => ⟨rfl, _, rfl, ite2 (fun z => ?_) (fun z => ?_)⟩⟩
      · have ec : c = 1 := by
          have := V.int.inj (of_decide_eq_true z)
          omega
        obtain ⟨zk, hzk⟩ := hc.mp ec
        have al : f'.ks.all (fun k => decide (k = f'.ks.headD 0)) = true := List.all_eq_true.mpr fun j hj => decide_eq_true (by
          have h1 := (hzk _).mp (List.mem_map.mpr ⟨j, hj, rfl⟩)
          have h2 := (hzk _).mp (List.mem_map.mpr ⟨k0, by rw [hks]; exact List.mem_cons_self, rfl⟩)
          rw [hks]
          show j = k0
          exact str_int_inj (ok.bnd j hj) (ok.bnd k0 (by rw [hks]; exact List.mem_cons_self)) (h1.trans h2.symm))
        have k0m : k0 ∈ f'.ks := by rw [hks]; exact List.mem_cons_self
        have p0 : 0 < k0 := by
          obtain ⟨j, hj, hp⟩ := List.any_eq_true.mp hb
          have h1 := of_decide_eq_true (List.all_eq_true.mp al j hj)
          rw [hks] at h1
          have h2 : j = k0 := h1
          have := of_decide_eq_true hp
          omega
        have at0 : atI ((f'.ks.map fun k => Str.ofString (toString k)).map V.str) 0 = some (.str (Str.ofString (toString k0))) := by
          rw [hks]
          unfold atI ixN
          rw [if_pos (by decide), if_pos (by rw [List.map_cons, List.map_cons, List.length_cons]; omega)]
          rfl
        have lk := num_len (n := k0) (by omega) (by have := ok.bnd k0 k0m; omega)
        refine ⟨_, rfl, D, _, _, _, rfl, rfl, SqL.of hG5, at0, _, _, rfl, rfl, by rw [e5, sizeLine_eq]; omega, ?_⟩
        have : keptT f'.ks = Str.ofString "keep " ++ Str.ofString (toString k0) := by
          rw [keptT, if_pos al, hks]
          show cntT "keep" k0 = _
          exact (cnt_is (w := "keep") p0 (by decide +kernel)).symm
        rw [← this]
        exact y
      · have al : ¬ f'.ks.all (fun k => decide (k = f'.ks.headD 0)) = true := fun al => by
          refine z (decide_eq_true ?_)
          have : c = 1 := hc.mpr ⟨Str.ofString (toString k0), fun j => ⟨fun hj => ?_, fun e => by rw [e]; exact List.mem_map.mpr ⟨k0, by rw [hks]; exact List.mem_cons_self, rfl⟩⟩⟩
          · rw [this]
            rfl
          · obtain ⟨i, hi, rfl⟩ := List.mem_map.mp hj
            have h1 := of_decide_eq_true (List.all_eq_true.mp al i hi)
            rw [hks] at h1
            rw [show i = k0 from h1]
        have ln : ∀ l : List Int, (∀ k ∈ l, 0 ≤ k ∧ k ≤ 100) → ((l.map fun k => Str.ofString (toString k)).map fun x => x.length).sum ≤ 4 * l.length := fun l hb => by
          induction l with
          | nil => exact Nat.le_refl _
          | cons k l ih =>
            have a := ih fun x hx => hb x (List.mem_cons_of_mem _ hx)
            have c := hb k List.mem_cons_self
            have b := num_len (n := k) c.1 (by omega)
            rw [List.map_cons, List.map_cons, List.sum_cons, List.length_cons]
            omega
        have l1' := ln f'.ks ok.bnd
        have jl := PySem.StrLaws.join_length_le (Str.ofString " ") (f'.ks.map fun k => Str.ofString (toString k))
        rw [← TL.join_eq] at jl
        have e1 : (Str.ofString " ").length = 1 := rfl
        rw [e1, List.length_map] at jl
        refine ⟨⟨_, rfl⟩, _, rfl, _, _, _, rfl, rfl, .inl (SqL.of hG5), ?_, _, _, rfl, rfl, by rw [e5, sizeLine_eq]; omega, ?_⟩
        · rw [e1, List.length_map]
          omega
        have : keptT f'.ks = Str.ofString "keep " ++ Txt.join " " (f'.ks.map fun k => Str.ofString (toString k)) := by rw [keptT, if_neg al]
        rw [← this]
        exact y
    obtain ⟨G5, eG5, t1, t2, t3, t4⟩ := nextH (z := keptT f'.ks) (b := f'.ks.any (fun k => decide (0 < k))) ⟨r1, r2, r3, r4⟩
    rw [eG5]
    dsimp only [tSeq]
    have lenA2 : ∀ {x : Str} {b : Bool}, (if b = true then [x] else []).length ≤ 1 := fun {x b} => by cases b <;> simp
    refine ⟨by show 2 ≤ sizeLine; decide, fun u1 n1 => ⟨by show 2 ≤ sizeLine; decide, fun u2 n2 => ⟨by show 2 ≤ sizeLine; decide, fun u3 n3 => ⟨by show 3 ≤ sizeLine; decide, fun tt ntt => ?_⟩⟩⟩⟩
    have eT1 := upd_same (H := G5) (a := u1) (o := .tup [.int 6, .str (Str.ofString "fine")])
    have eT2 := upd_same (H := upd G5 u1 (.tup [.int 6, .str (Str.ofString "fine")])) (a := u2) (o := .tup [.int 7, .str (Str.ofString "falls")])
    have eT3 := upd_same (H := upd (upd G5 u1 (.tup [.int 6, .str (Str.ofString "fine")])) u2 (.tup [.int 7, .str (Str.ofString "falls")])) (a := u3) (o := .tup [.int 8, .str (Str.ofString "back")])
    have eT4 := upd_same (H := upd (upd (upd G5 u1 (.tup [.int 6, .str (Str.ofString "fine")])) u2 (.tup [.int 7, .str (Str.ofString "falls")])) u3 (.tup [.int 8, .str (Str.ofString "back")])) (a := tt) (o := .tup [.ref u1, .ref u2, .ref u3])
    have w4 := same_new (o := .tup [.ref u1, .ref u2, .ref u3]) ntt
    have w3 := same_new (o := .tup [.int 8, .str (Str.ofString "back")]) n3
    have w2 := same_new (o := .tup [.int 7, .str (Str.ofString "falls")]) n2
    have w1 := same_new (o := .tup [.int 6, .str (Str.ofString "fine")]) n1
    have eT1 := w4 _ _ (w3 _ _ (w2 _ _ eT1))
    have eT2 := w4 _ _ (w3 _ _ eT2)
    have eT3 := w4 _ _ eT3
    have wA := ((w1.trans w2).trans w3).trans w4
    have hB : (lawT f').length ≤ 5 := by
      have a1 := lenA2 (x := cntT "grace" f'.g) (b := decide (0 < f'.g))
      have a2 := lenA2 (x := Str.ofString "from last") (b := f'.l)
      have a3 := lenA2 (x := cntT "misses" f'.m) (b := decide (0 < f'.m))
      have a4 := lenA2 (x := keptT f'.ks) (b := f'.ks.any (fun k => decide (0 < k)))
      unfold lawT
      rw [List.length_append, List.length_append, List.length_append, List.length_append]
      have a0 : [partT f'.p f'.s].length = 1 := rfl
      omega
    have t4' : G5 L = some (.lst ((lawT f').map V.str)) := t4
    have t5 := wA _ _ t4'
    generalize (upd (upd (upd (upd G5 u1 (.tup [.int 6, .str (Str.ofString "fine")])) u2 (.tup [.int 7, .str (Str.ofString "falls")])) u3 (.tup [.int 8, .str (Str.ofString "back")])) tt (.tup [.ref u1, .ref u2, .ref u3])) = HT at *
    have t2' := seqT_same wA t2
    have sH := t1.trans wA
    have oT : ∀ {x : Nat} {l : List Str}, (opts f')[x]? = some l → ∃ (u : Addr) (k : Int) (wd : Str) (v : Int), [V.ref u1, .ref u2, .ref u3][x]? = some (.ref u) ∧ HT u = some (.tup [.int k, .str wd]) ∧ atI ([.int f'.p, .int f'.s, .int f'.g, .bl f'.l, .int f'.m, .ref a, .int f'.fi, .int f'.fa, .int f'.ba] : List V) k = some (.int v) ∧ 0 ≤ v ∧ v ≤ 100 ∧ wd.length ≤ 10 ∧ l = opt wd v := fun {x l} h => by
      match x, h with
      | 0, h => cases h; exact ⟨u1, 6, "fine", f'.fi, rfl, eT1, rfl, F.fi0, F.fi1, by decide, rfl⟩
      | 1, h => cases h; exact ⟨u2, 7, "falls", f'.fa, rfl, eT2, rfl, F.fa0, by have := F.fa1; omega, by decide, rfl⟩
      | 2, h => cases h; exact ⟨u3, 8, "back", f'.ba, rfl, eT3, rfl, F.ba0, by have := F.ba1; omega, by decide, rfl⟩
      | n + 3, h => exact nomatch h
    refine ⟨tt, rfl, ⟨_, SqT.of eT4⟩, for_tup (K := K) (a := tt) (xs := [.ref u1, .ref u2, .ref u3]) (fun i σ H' => ∃ (L' : Addr) (s5 s6 : Option V), σ = [some (.ref t), some (.ref w), some (.ref L'), some (.ref D), none, s5, s6] ∧ Same HT H' ∧ (lawT f' ++ ((opts f').take i).flatten).length ≤ 5 + i ∧ H' L' = some (.lst ((lawT f' ++ ((opts f').take i).flatten).map V.str)))
      ⟨_, _, _, rfl, Same.refl _, by simpa using hB, by rw [List.take_zero, List.flatten_nil, List.append_nil]; exact t5⟩ (fun i σ H' _ h => by obtain ⟨_, _, _, _, h, _⟩ := h; exact SqT.of (h _ _ eT4)) (fun i x σ H' hx h => ?_) (fun σ H' h => ?_)⟩
    · obtain ⟨L', s5, s6, rfl, sT, hl, hL'⟩ := h
      have hi : i < 3 := by
        obtain ⟨h, _⟩ := List.getElem?_eq_some_iff.mp hx
        exact h
      have ho : (opts f')[i]? = some ((opts f')[i]'hi) := List.getElem?_eq_getElem hi
      obtain ⟨u, k, wd, v, hu, hHu, hat, v0, v1, lw, hop⟩ := oT ho
      rw [hx] at hu
      cases hu
      have lv := num_len (n := v) v0 (by omega)
      have l1s : (Str.ofString " ").length = 1 := rfl
      have tk : (opts f').take (i + 1) = (opts f').take i ++ [opt wd v] := by
        rw [← hop]
        exact take_snoc ho
      refine ⟨u, _, rfl, SqT.of (sT _ _ hHu), rfl, _, _, rfl, _, _, rfl, rfl, ?_⟩
      refine ⟨_, rfl, _, rfl, _, _, rfl, rfl, by rw [l1s, sizeLine_eq]; omega, _, rfl, _, rfl, w, _, _, _, rfl, rfl, seqT_same sT t2', hat, _, rfl, small_log ⟨v0, v1⟩, _, _, rfl, rfl, by rw [len_app, l1s, sizeLine_eq]; omega, by show 1 ≤ sizeLine; decide, fun l1 nl1 => ?_⟩
      refine ⟨_, rfl, _, rfl, w, _, _, _, rfl, rfl, seqT_same (sT.trans (same_new nl1)) t2', hat, _, _, rfl, rfl, .inr ⟨_, rfl, l1, _, _, rfl, rfl, upd_same, ?_, ?_, ?_, fun l2 nl2 => ?_⟩⟩
      · split <;> decide
      · split <;> decide
      · split
        · show 1 ≤ sizeLine
          decide
        · show 0 ≤ sizeLine
          decide
      have ez : (List.replicate (if decide (0 < v) = true then (1 : Int) else 0).toNat [V.str (wd ++ Str.ofString " " ++ Str.ofString (toString v))]).flatten = (opt wd v).map V.str := by
        unfold opt
        by_cases c : 0 < v
        · rw [decide_eq_true c, if_pos rfl, if_pos rfl, cnt_is c rfl]
          rfl
        · rw [decide_eq_false c, if_neg (by decide), if_neg (by decide)]
          rfl
      have lo : (opt wd v).length ≤ 1 := lenA2
      have hlen : (lawT f' ++ ((opts f').take (i + 1)).flatten).length ≤ 5 + (i + 1) := by
        rw [tk, List.flatten_append, ← List.append_assoc, List.length_append]
        have e1 : ([opt wd v].flatten).length = (opt wd v).length := by simp
        omega
      refine ⟨L', l2, _, _, rfl, rfl, (same_new nl2) _ _ ((same_new nl1) _ _ hL'), upd_same, ?_, fun L2 nL2 => ⟨L2, _, _, rfl, ((sT.trans (same_new nl1)).trans (same_new nl2)).trans (same_new nL2), hlen, ?_⟩⟩
      · rw [ez, List.length_map, List.length_map, sizeLine_eq]
        omega
      · rw [upd_same, ez, tk, List.flatten_append, List.map_append, List.map_append, List.map_append, List.append_assoc]
        simp
    · obtain ⟨L', s5, s6, rfl, sT, hl, hL'⟩ := h
      have e3 : (opts f').take ([V.ref u1, .ref u2, .ref u3].length) = opts f' := rfl
      rw [e3, ← cls_is ok] at hL'
      obtain ⟨b1, b2⟩ := cls_len ok
      have e2 : (Str.ofString ", ").length = 2 := rfl
      refine ⟨⟨_, rfl⟩, _, rfl, _, _, _, rfl, rfl, .inl (SqL.of hL'), ?_, q H' (sH.trans sT)⟩
      rw [e2]
      omega
/-! ### _law_changed -/
abbrev s__law_changed : Stmt := topS 24
abbrev N__law_changed : List Str := ["_law_left", "_law_some", "_law_at", "_law_found", "_law_least", "_law_most", "_law_row", "_law_spot", "_law_far"]
theorem sc__law_changed : FnScope N__law_changed ["_law_left", "_law_some", "_law_at"] (defScope s__law_changed) := ⟨rfl, rfl, rfl, by decide +kernel, rfl, by decide +kernel, by decide +kernel⟩
theorem kk_sla (K : PySem.W.Frag) {X : Cx} (h : X.K = K := by rfl) : SlR X (rSlA K) := h ▸ sl_tupA
theorem cut_take {xs : List V} {k : Int} (h0 : 0 ≤ k) (h1 : k ≤ xs.length) : cutV xs none (some k) = xs.take k.toNat := by
  obtain ⟨j, rfl⟩ := Int.eq_ofNat_of_zero_le h0
  unfold cutV
  rw [HT.sIx_nat, HT.sIx_none, Nat.min_eq_left (by omega)]
  simp
theorem rsla_take {K : PySem.W.Frag} {x : V} {a : Addr} {xs : List V} {k : Int} {H : Hp} {Q : VK} (hx : x = .ref a) (hS : SqT K H a xs) (h0 : 0 ≤ k) (h1 : k ≤ xs.length) (q : ∀ p G, Same H G → SqT K G p (xs.take k.toNat) → (H p = none ∧ G = upd H p (.tup (xs.take k.toNat)) ∨ G = H) → Q (.ref p) G) : rSlA K x none (some k) H Q := by
  refine ⟨a, xs, hx, hS, fun h => ?_, fun h p np => ?_⟩
  · have e : xs.take k.toNat = xs := by
      obtain ⟨j, rfl⟩ := Int.eq_ofNat_of_zero_le h0
      have h2 := h.2
      rw [HT.sIx_nat] at h2
      rw [Int.toNat_natCast]
      exact List.take_of_length_le (by omega)
    exact q a H (Same.refl H) (by rw [e]; exact hS) (.inr rfl)
  · refine q p _ (same_new np) ?_ (.inl ⟨np, by rw [cut_take h0 h1]⟩)
    rw [cut_take h0 h1]
    exact SqT.of upd_same
def valsF (f : Fg) (kv : V) : List V := [.int f.p, .int f.s, .int f.g, .bl f.l, .int f.m, kv, .int f.fi, .int f.fa, .int f.ba]
def bndsF : List (Int × Int) := [(1, 6), (1, 14), (0, 7), (0, 1), (0, 2), (0, 100), (0, 100), (0, 30), (0, 30)]
def putI (f : Fg) (ks : List Int) (j : Nat) (v : Int) : Fg := match j with
  | 0 => { f with p := v, ks := ks }
  | 1 => { f with s := v }
  | 2 => { f with g := v }
  | 4 => { f with m := v }
  | 6 => { f with fi := v }
  | 7 => { f with fa := v }
  | _ => { f with ba := v }
theorem else_put {f : Fg} {kv : V} {j : Nat} {lo hi : Int} (F : Figs f.p f.s f.g f.m f.fi f.fa f.ba) (hb : bndsF[j]? = some (lo, hi)) (h3 : j ≠ 3) (h5 : j ≠ 5) : ∃ v, atI (valsF f kv) (j : Int) = some (.int v) ∧ lo ≤ v ∧ v ≤ hi ∧ 0 ≤ lo ∧ lo < hi ∧ hi ≤ 100 ∧ ∀ ks v', lo ≤ v' → v' ≤ hi → v' ≠ v →
    (valsF f kv).set j (.int v') = valsF (putI f ks j v') kv ∧ Figs (putI f ks j v').p (putI f ks j v').s (putI f ks j v').g (putI f ks j v').m (putI f ks j v').fi (putI f ks j v').fa (putI f ks j v').ba ∧ putI f ks j v' ≠ f ∧ (j ≠ 0 → (putI f ks j v').p = f.p ∧ (putI f ks j v').ks = f.ks) ∧ (j = 0 → lo = 1 ∧ hi = 6 ∧ (putI f ks j v').p = v' ∧ (putI f ks j v').ks = ks) := by
  obtain ⟨p0, p1, s0, s1, g0, g1, m0, m1, fi0, fi1, fa0, fa1, ba0, ba1⟩ := F
  match j, hb, h3, h5 with
  | 0, hb, _, _ =>
    cases hb
    exact ⟨f.p, rfl, p0, p1, by decide, by decide, by decide, fun ks v' a b c => ⟨rfl, ⟨a, b, s0, s1, g0, g1, m0, m1, fi0, fi1, fa0, fa1, ba0, ba1⟩, fun e => c (congrArg Fg.p e), fun h => absurd rfl h, fun _ => ⟨rfl, rfl, rfl, rfl⟩⟩⟩
  | 1, hb, _, _ =>
    cases hb
    exact ⟨f.s, rfl, s0, s1, by decide, by decide, by decide, fun ks v' a b c => ⟨rfl, ⟨p0, p1, a, b, g0, g1, m0, m1, fi0, fi1, fa0, fa1, ba0, ba1⟩, fun e => c (congrArg Fg.s e), fun _ => ⟨rfl, rfl⟩, fun h => nomatch h⟩⟩
  | 2, hb, _, _ =>
    cases hb
    exact ⟨f.g, rfl, g0, g1, by decide, by decide, by decide, fun ks v' a b c => ⟨rfl, ⟨p0, p1, s0, s1, a, b, m0, m1, fi0, fi1, fa0, fa1, ba0, ba1⟩, fun e => c (congrArg Fg.g e), fun _ => ⟨rfl, rfl⟩, fun h => nomatch h⟩⟩
  | 3, _, h, _ => exact absurd rfl h
  | 4, hb, _, _ =>
    cases hb
    exact ⟨f.m, rfl, m0, m1, by decide, by decide, by decide, fun ks v' a b c => ⟨rfl, ⟨p0, p1, s0, s1, g0, g1, a, b, fi0, fi1, fa0, fa1, ba0, ba1⟩, fun e => c (congrArg Fg.m e), fun _ => ⟨rfl, rfl⟩, fun h => nomatch h⟩⟩
  | 5, _, _, h => exact absurd rfl h
  | 6, hb, _, _ =>
    cases hb
    exact ⟨f.fi, rfl, fi0, fi1, by decide, by decide, by decide, fun ks v' a b c => ⟨rfl, ⟨p0, p1, s0, s1, g0, g1, m0, m1, a, b, fa0, fa1, ba0, ba1⟩, fun e => c (congrArg Fg.fi e), fun _ => ⟨rfl, rfl⟩, fun h => nomatch h⟩⟩
  | 7, hb, _, _ =>
    cases hb
    exact ⟨f.fa, rfl, fa0, fa1, by decide, by decide, by decide, fun ks v' a b c => ⟨rfl, ⟨p0, p1, s0, s1, g0, g1, m0, m1, fi0, fi1, a, b, ba0, ba1⟩, fun e => c (congrArg Fg.fa e), fun _ => ⟨rfl, rfl⟩, fun h => nomatch h⟩⟩
  | 8, hb, _, _ =>
    cases hb
    exact ⟨f.ba, rfl, ba0, ba1, by decide, by decide, by decide, fun ks v' a b c => ⟨rfl, ⟨p0, p1, s0, s1, g0, g1, m0, m1, fi0, fi1, fa0, fa1, a, b⟩, fun e => c (congrArg Fg.ba e), fun _ => ⟨rfl, rfl⟩, fun h => nomatch h⟩⟩
  | n + 9, hb, _, _ => exact nomatch hb
def sp__law_changed (K : PySem.W.Frag) : Sp := fun vs H Q _ => ∃ (b c t : Addr) (i : Nat) (n : Int) (f : Fg) (kv : V) (kd : PyData), vs = [.ref b, .ref t, .int i] ∧ Left H b c n ∧ n < 999990000 ∧ Drawn K H t f kv kd ∧ i ≤ 8 ∧ ∀ H' t' f' kv' kd', Left H' b c (n + 4) → But b H H' → Drawn K H' t' f' kv' kd' → f' ≠ f → Q (.ref t') H'
theorem ok__law_changed {f : Addr} {fd : FuncData} (F : Fun K "_law_changed" "_law_changed" s__law_changed f fd) (g : mg "_law_changed" = some (.ref f)) (bd : Binds K fd ["_law_left", "_law_some", "_law_at"] []) (m_list : mg "list" = none) (m_len : mg "len" = none) (m_tuple : mg "tuple" = none) (m_isinstance : mg "isinstance" = none) (C__law_whole : CF P w K mg base 1 "_law_whole" ["_law_some"] (sp__law_whole K)) (C__law_pick : CF P w K mg base 2 "_law_pick" ["_law_left", "_law_many"] (sp__law_pick K)) : CF P w K mg base 3 "_law_changed" ["_law_left", "_law_some", "_law_at"] (sp__law_changed K) := by
  refine ⟨f, fd, F.ok sc__law_changed (fun vs H Q E h => ?_) (fun cdv A outer s H vs Q E hr h => ?_), g, F.kp, bd⟩
  · first | (obtain ⟨_, rfl, _⟩ := h; rfl) | (obtain ⟨_, _, rfl, _⟩ := h; rfl) | (obtain ⟨_, _, _, rfl, _⟩ := h; rfl) | (obtain ⟨_, _, _, _, rfl, _⟩ := h; rfl) | (obtain ⟨_, _, _, _, _, rfl, _⟩ := h; rfl) | (obtain ⟨_, _, _, _, _, _, rfl, _⟩ := h; rfl) | (obtain ⟨_, _, _, _, _, _, _, rfl, _⟩ := h; rfl) | (obtain ⟨_, _, _, _, _, _, _, _, rfl, _⟩ := h; rfl) | (obtain ⟨_, _, _, _, _, _, _, _, _, rfl, _⟩ := h; rfl) | (obtain ⟨_, _, _, _, _, _, _, _, _, _, rfl, _⟩ := h; rfl) | (obtain ⟨_, _, _, _, _, _, _, _, _, _, _, rfl, _⟩ := h; rfl) | (obtain ⟨_, _, _, _, _, _, _, _, _, _, _, _, rfl, _⟩ := h; rfl) | (obtain ⟨_, _, _, _, _, _, _, _, _, _, _, _, _, rfl, _⟩ := h; rfl) | (obtain ⟨_, _, _, _, _, _, _, _, _, _, _, _, _, _, rfl, _⟩ := h; rfl) | (obtain ⟨_, _, _, _, _, _, _, _, _, _, _, _, _, _, _, rfl, _⟩ := h; rfl)
  · have hu64 := hr.units
    obtain ⟨b, c, t, i, n, f', kv, kd, rfl, hL, hn, hD, hi, q⟩ := h
    refine ⟨_, (pss_cons (ps_set (i := 3) sc__law_changed.nd rfl (.inl rfl) (pe_callTy (kk_list K) (by rfl) m_list (by decide +kernel) (pa_cons (pv 1) pa_nil)))
      (pss_cons (ps_asg (pe_ix (kk_ixl K) (pe_lst (pa_cons (pe_tup (pa_cons pe_int (pa_cons pe_int pa_nil))) (pa_cons (pe_tup (pa_cons pe_int (pa_cons pe_int pa_nil))) (pa_cons (pe_tup (pa_cons pe_int (pa_cons pe_int pa_nil))) (pa_cons (pe_tup (pa_cons pe_int (pa_cons pe_int pa_nil))) (pa_cons (pe_tup (pa_cons pe_int (pa_cons pe_int pa_nil))) (pa_cons (pe_tup (pa_cons pe_int (pa_cons pe_int pa_nil))) (pa_cons (pe_tup (pa_cons pe_int (pa_cons pe_int pa_nil))) (pa_cons (pe_tup (pa_cons pe_int (pa_cons pe_int pa_nil))) (pa_cons (pe_tup (pa_cons pe_int (pa_cons pe_int pa_nil))) pa_nil)))))))))) (pv 2) (fun _ _ => rfl)) (pg_tup (by rfl) (pgs_cons (pg_name (i := 4) sc__law_changed.nd rfl (.inl rfl)) (pgs_cons (pg_name (i := 5) sc__law_changed.nd rfl (.inl rfl)) pgs_nil))))
      (pss_cons (ps_if (pt_cmpR op_eq (pv 2) pe_int (nomark _))
         (pss_one (ps_asg (pe_not (pe_ix (kk_ixt K) (pv 1) (pv 2) (fun _ _ => rfl))) (pg_sub (pv 3) (pv 2) set_list)))
         (pss_one (ps_if (pt_cmpR op_eq (pv 2) pe_int (nomark _))
             (pss_cons (ps_set (i := 6) sc__law_changed.nd rfl (.inl rfl) (pe_callTy (kk_list K) (by rfl) m_list (by decide +kernel) (pa_cons (pe_ix (kk_ixt K) (pe_cf C__law_whole (hr.mono (by decide)) (by rfl) (pa_cons (pv 1) pa_nil)) pe_int (fun _ _ => rfl)) pa_nil)))
              (pss_cons (ps_set (i := 7) sc__law_changed.nd rfl (.inl rfl) (pe_cf C__law_pick (hr.mono (by decide)) (by rfl) (pa_cons (pv 0) (pa_cons (pe_callB (kk_len K) (by rfl) m_len PySem.boot_len (pa_cons (pv 6) pa_nil)) pa_nil))))
              (pss_cons (ps_asg (pe_op op_mod (pe_op op_add (pe_op op_add (pe_ix (kk_ixl K) (pv 6) (pv 7) (fun _ _ => rfl)) pe_int) (pe_cf C__law_pick (hr.mono (by decide)) (by rfl) (pa_cons (pv 0) (pa_cons pe_int pa_nil)))) pe_int) (pg_sub (pv 6) (pv 7) set_list))
              (pss_one (ps_asg (pe_callTy (kk_tuple K) (by rfl) m_tuple (by decide +kernel) (pa_cons (pv 6) pa_nil)) (pg_sub (pv 3) (pv 2) set_list))))))
             (pss_cons (ps_set (i := 8) sc__law_changed.nd rfl (.inl rfl) (pe_op op_add (pe_op op_add (pe_op op_sub (pe_ix (kk_ixt K) (pv 1) (pv 2) (fun _ _ => rfl)) (pv 4)) pe_int) (pe_cf C__law_pick (hr.mono (by decide)) (by rfl) (pa_cons (pv 0) (pa_cons (pe_op op_sub (pv 5) (pv 4)) pa_nil)))))
              (pss_one (ps_asg (pe_op op_add (pv 4) (pe_op op_mod (pv 8) (pe_op op_add (pe_op op_sub (pv 5) (pv 4)) pe_int))) (pg_sub (pv 3) (pv 2) set_list)))))))
      (pss_cons (ps_if (PW.pt (pw_and (pt_cmpR op_eq (pv 2) pe_int (nomark _)) (pw_and1 (pt_val (pe_callB (kk_isi K) (by rfl) m_isinstance (by decide +kernel) (pa_cons (pe_ix (kk_ixt K) (pv 1) pe_int (fun _ _ => rfl)) (pa_cons (pe_bltn (v := .ty "tuple") (by rfl) m_tuple (by decide +kernel) rfl) pa_nil)))))))
         (pss_one (ps_asg (pe_slice (kk_sla K) (pe_op (kk_repA K) (pe_ix (kk_ixt K) (pv 1) pe_int (fun _ _ => rfl)) pe_int) po_none (po_some (pe_ix (kk_ixl K) (pv 3) pe_int (fun _ _ => rfl)))) (pg_sub (pv 3) pe_int set_list)))
         pss_nil)
      (pss_one (ps_ret (pe_callTy (kk_tuple K) (by rfl) m_tuple (by decide +kernel) (pa_cons (pv 3) pa_nil)))))))), ?_⟩
    obtain ⟨hT, F, hk⟩ := id hD
    refine ⟨_, rfl, t, _, rfl, .inr hT, fun l nl => ?_⟩
    have sl := same_new (o := .lst [.int f'.p, .int f'.s, .int f'.g, .bl f'.l, .int f'.m, kv, .int f'.fi, .int f'.fa, .int f'.ba]) nl
    have xl := upd_same (H := H) (a := l) (o := .lst [.int f'.p, .int f'.s, .int f'.g, .bl f'.l, .int f'.m, kv, .int f'.fi, .int f'.fa, .int f'.ba])
    generalize upd H l (.lst [.int f'.p, .int f'.s, .int f'.g, .bl f'.l, .int f'.m, kv, .int f'.fi, .int f'.fa, .int f'.ba]) = G0 at *
    refine ⟨by show 2 ≤ sizeLine; decide, fun u1 n1 => ?_⟩
    have c1 := same_new (o := .tup [.int 1, .int 6]) n1
    have x1 := upd_same (H := G0) (a := u1) (o := .tup [.int 1, .int 6])
    generalize upd G0 u1 (.tup [.int 1, .int 6]) = G1 at *
    refine ⟨by show 2 ≤ sizeLine; decide, fun u2 n2 => ?_⟩
    have c2 := same_new (o := .tup [.int 1, .int 14]) n2
    have x2 := upd_same (H := G1) (a := u2) (o := .tup [.int 1, .int 14])
    generalize upd G1 u2 (.tup [.int 1, .int 14]) = G2 at *
    have x1 := c2 _ _ x1
    refine ⟨by show 2 ≤ sizeLine; decide, fun u3 n3 => ?_⟩
    have c3 := same_new (o := .tup [.int 0, .int 7]) n3
    have x3 := upd_same (H := G2) (a := u3) (o := .tup [.int 0, .int 7])
    generalize upd G2 u3 (.tup [.int 0, .int 7]) = G3 at *
    have x1 := c3 _ _ x1
    have x2 := c3 _ _ x2
    refine ⟨by show 2 ≤ sizeLine; decide, fun u4 n4 => ?_⟩
    have c4 := same_new (o := .tup [.int 0, .int 1]) n4
    have x4 := upd_same (H := G3) (a := u4) (o := .tup [.int 0, .int 1])
    generalize upd G3 u4 (.tup [.int 0, .int 1]) = G4 at *
    have x1 := c4 _ _ x1
    have x2 := c4 _ _ x2
    have x3 := c4 _ _ x3
    refine ⟨by show 2 ≤ sizeLine; decide, fun u5 n5 => ?_⟩
    have c5 := same_new (o := .tup [.int 0, .int 2]) n5
    have x5 := upd_same (H := G4) (a := u5) (o := .tup [.int 0, .int 2])
    generalize upd G4 u5 (.tup [.int 0, .int 2]) = G5 at *
    have x1 := c5 _ _ x1
    have x2 := c5 _ _ x2
    have x3 := c5 _ _ x3
    have x4 := c5 _ _ x4
    refine ⟨by show 2 ≤ sizeLine; decide, fun u6 n6 => ?_⟩
    have c6 := same_new (o := .tup [.int 0, .int 100]) n6
    have x6 := upd_same (H := G5) (a := u6) (o := .tup [.int 0, .int 100])
    generalize upd G5 u6 (.tup [.int 0, .int 100]) = G6 at *
    have x1 := c6 _ _ x1
    have x2 := c6 _ _ x2
    have x3 := c6 _ _ x3
    have x4 := c6 _ _ x4
    have x5 := c6 _ _ x5
    refine ⟨by show 2 ≤ sizeLine; decide, fun u7 n7 => ?_⟩
    have c7 := same_new (o := .tup [.int 0, .int 100]) n7
    have x7 := upd_same (H := G6) (a := u7) (o := .tup [.int 0, .int 100])
    generalize upd G6 u7 (.tup [.int 0, .int 100]) = G7 at *
    have x1 := c7 _ _ x1
    have x2 := c7 _ _ x2
    have x3 := c7 _ _ x3
    have x4 := c7 _ _ x4
    have x5 := c7 _ _ x5
    have x6 := c7 _ _ x6
    refine ⟨by show 2 ≤ sizeLine; decide, fun u8 n8 => ?_⟩
    have c8 := same_new (o := .tup [.int 0, .int 30]) n8
    have x8 := upd_same (H := G7) (a := u8) (o := .tup [.int 0, .int 30])
    generalize upd G7 u8 (.tup [.int 0, .int 30]) = G8 at *
    have x1 := c8 _ _ x1
    have x2 := c8 _ _ x2
    have x3 := c8 _ _ x3
    have x4 := c8 _ _ x4
    have x5 := c8 _ _ x5
    have x6 := c8 _ _ x6
    have x7 := c8 _ _ x7
    refine ⟨by show 2 ≤ sizeLine; decide, fun u9 n9 => ?_⟩
    have c9 := same_new (o := .tup [.int 0, .int 30]) n9
    have x9 := upd_same (H := G8) (a := u9) (o := .tup [.int 0, .int 30])
    generalize upd G8 u9 (.tup [.int 0, .int 30]) = G9 at *
    have x1 := c9 _ _ x1
    have x2 := c9 _ _ x2
    have x3 := c9 _ _ x3
    have x4 := c9 _ _ x4
    have x5 := c9 _ _ x5
    have x6 := c9 _ _ x6
    have x7 := c9 _ _ x7
    have x8 := c9 _ _ x8
    refine ⟨by show 9 ≤ sizeLine; decide, fun L nL => ?_⟩
    have cL := same_new (o := .lst [.ref u1, .ref u2, .ref u3, .ref u4, .ref u5, .ref u6, .ref u7, .ref u8, .ref u9]) nL
    have xL := upd_same (H := G9) (a := L) (o := .lst [.ref u1, .ref u2, .ref u3, .ref u4, .ref u5, .ref u6, .ref u7, .ref u8, .ref u9])
    generalize upd G9 L (.lst [.ref u1, .ref u2, .ref u3, .ref u4, .ref u5, .ref u6, .ref u7, .ref u8, .ref u9]) = G at *
    have sG : Same H G := (((((((((sl.trans c1).trans c2).trans c3).trans c4).trans c5).trans c6).trans c7).trans c8).trans c9).trans cL
    have hl : G l = some (.lst (valsF f' kv)) := cL _ _ (c9 _ _ (c8 _ _ (c7 _ _ (c6 _ _ (c5 _ _ (c4 _ _ (c3 _ _ (c2 _ _ (c1 _ _ xl)))))))))
    obtain ⟨u, lo, hi', hat, hu, hbd⟩ : ∃ (u : Addr) (lo hi : Int), atI ([.ref u1, .ref u2, .ref u3, .ref u4, .ref u5, .ref u6, .ref u7, .ref u8, .ref u9] : List V) (i : Int) = some (.ref u) ∧ G u = some (.tup [.int lo, .int hi]) ∧ bndsF[i]? = some (lo, hi) := by
      match i, hi with
      | 0, _ => exact ⟨u1, 1, 6, rfl, cL _ _ x1, rfl⟩
      | 1, _ => exact ⟨u2, 1, 14, rfl, cL _ _ x2, rfl⟩
      | 2, _ => exact ⟨u3, 0, 7, rfl, cL _ _ x3, rfl⟩
      | 3, _ => exact ⟨u4, 0, 1, rfl, cL _ _ x4, rfl⟩
      | 4, _ => exact ⟨u5, 0, 2, rfl, cL _ _ x5, rfl⟩
      | 5, _ => exact ⟨u6, 0, 100, rfl, cL _ _ x6, rfl⟩
      | 6, _ => exact ⟨u7, 0, 100, rfl, cL _ _ x7, rfl⟩
      | 7, _ => exact ⟨u8, 0, 30, rfl, cL _ _ x8, rfl⟩
      | 8, _ => exact ⟨u9, 0, 30, rfl, cL _ _ x9, rfl⟩
      | n + 9, h => omega
    refine ⟨_, rfl, L, _, _, _, rfl, rfl, SqL.of xL, hat, ?_⟩
    refine ⟨u, _, rfl, SqT.of hu, rfl, _, _, rfl, _, _, rfl, rfl, ?_⟩
    have hT2 := seqT_same sG hT
    have hD2 := hD.same sG
    have hk2 := hk.same sG
    have LG := hL.same sG
    have tG : But b H G := But.of sG
    have nlb : l ≠ b := hL.ne nl
    have nlc : l ≠ c := hL.ne2 nl
    have last : ∀ {X : Hp} {f2 : Fg} {kv2 : V} {kd2 : PyData}, But b H X → Left X b c (n + 4) → Keep K X f2.p f2.ks kv2 kd2 → Figs f2.p f2.s f2.g f2.m f2.fi f2.fa f2.ba → f2 ≠ f' → ∀ t2, X t2 = none → Q (.ref t2) (upd X t2 (.tup (valsF f2 kv2))) := fun {X f2 kv2 kd2} tX LX kX FX ne t2 nt2 => by
      have sx := same_new (o := .tup (valsF f2 kv2)) nt2
      exact q _ t2 f2 kv2 kd2 (LX.same sx) (tX.trans (But.of sx)) ⟨SqT.of upd_same, FX, kX.same sx⟩ ne
    have butl : ∀ {X : Hp} {o : HO}, But b H X → But b H (upd X l o) := fun {X o} tX => fun x u nx hx => by
      rw [upd_ne (ne_of_none hx nl)]
      exact tX x u nx hx
    have kpl : ∀ {X : Hp} {o : HO}, But b H X → Keep K (upd X l o) f'.p f'.ks kv kd := fun {X o} tX => by
      cases hk with
      | one k h0 h1 e => exact .one k h0 h1 e
      | all a h hl' hb => exact .all a ((butl tX).seqT hL h) hl' hb
    have lt9 : ∀ {f2 : Fg} {kv2 : V}, (valsF f2 kv2).length = 9 := rfl
    have ok := hD.ok
    by_cases h3 : i = 3
    · subst h3
      refine ⟨_, rfl, rfl, _, rfl, iteY rfl ?_⟩
      refine ⟨_, rfl, _, rfl, t, _, _, _, rfl, rfl, hT2, rfl, _, rfl, _, rfl, _, rfl, l, _, _, 3, rfl, rfl, hl, rfl, ?_⟩
      refine ⟨_, rfl, rfl, _, rfl, iteN (by decide) ?_⟩
      have ne : ({ f' with l := !f'.l } : Fg) ≠ f' := fun e => by
        have := congrArg Fg.l e
        cases h : f'.l <;> rw [h] at this <;> cases this
      exact ⟨_, rfl, l, _, rfl, .inl ⟨SqL.of upd_same, last (f2 := { f' with l := !f'.l }) (butl tG) ((LG.mono (by omega)).upd nlb nlc) (kpl tG) F ne⟩⟩
    · have z3 : ¬ V.int (i : Int) = V.int 3 := fun e => h3 (by have := V.int.inj e; omega)
      refine ⟨_, rfl, rfl, _, rfl, iteN z3 ?_⟩
      by_cases h5 : i = 5
      · subst h5
        refine ⟨_, rfl, rfl, _, rfl, iteY rfl ?_⟩
        have hlk : f'.ks.length ≤ 6 := by
          have a : (f'.ks.length : Int) = f'.p := ok.len
          have := F.p1
          omega
        have hpos : 0 < f'.ks.length := by
          have a : (f'.ks.length : Int) = f'.p := ok.len
          have := F.p0
          omega
        refine ⟨_, rfl, t, f', kv, kd, rfl, hD2, fun H1 w a s1 hW ha => ⟨w, _, _, _, rfl, rfl, hW.1, rfl, a, _, rfl, .inr ha, fun row nrow => ?_⟩⟩
        have s2 := same_new (o := .lst (f'.ks.map V.int)) nrow
        have xr := upd_same (H := H1) (a := row) (o := .lst (f'.ks.map V.int))
        have nrl : row ≠ l := fun e => by rw [e, s1 _ _ hl] at nrow; cases nrow
        have nrb : row ≠ b := (LG.same s1).ne nrow
        have nrc : row ≠ c := (LG.same s1).ne2 nrow
        have nrH : H row = none := (sG.trans s1).free nrow
        have L1 := (LG.same s1).same s2
        have t1 := (tG.trans (But.of s1)).trans (But.of s2)
        have hl1 := s2 _ _ (s1 _ _ hl)
        generalize upd H1 row (.lst (f'.ks.map V.int)) = H2 at *
        refine ⟨_, rfl, _, rfl, row, _, rfl, .inl (SqL.of xr), b, c, _, n, rfl, L1, ?_, ?_, by omega, fun r H3 r0 r1 L3 t3 => ?_⟩
        · rw [List.length_map]
          omega
        · rw [List.length_map]
          omega
        rw [List.length_map] at r1
        obtain ⟨j, rfl⟩ := Int.eq_ofNat_of_zero_le r0
        have hj : j < f'.ks.length := by omega
        have hk0 := ok.bnd _ (List.getElem_mem hj)
        have at1 : atI (f'.ks.map V.int) (j : Int) = some (.int (f'.ks[j]'hj)) := atI_nat (by rw [List.getElem?_map, List.getElem?_eq_getElem hj]; rfl)
        have xr3 := t3 _ _ nrb xr
        refine ⟨_, rfl, _, rfl, row, _, _, _, rfl, rfl, SqL.of xr3, at1, _, _, rfl, rfl, _, rfl, b, c, 100, n + 1, rfl, L3, by decide, by decide, by omega, fun r2 H4 r20 r21 L4 t4 => ⟨_, _, rfl, rfl, _, _, rfl, rfl, by show (0 : Int) < 101; decide, ?_⟩⟩
        have xr4 := t4 _ _ nrb xr3
        have hl4 := t4 _ _ nlb (t3 _ _ nlb hl1)
        have tb4 := (t1.trans t3).trans t4
        refine ⟨_, rfl, _, rfl, row, _, _, j, rfl, rfl, xr4, ?_, ?_⟩
        · rw [List.length_map]
          unfold ixN
          rw [if_pos (by omega), if_pos (by omega)]
          simp
        have e2 := Int.emod_nonneg (f'.ks[j]'hj + 1 + r2) (show (101 : Int) ≠ 0 by omega)
        have e3 := Int.emod_lt_of_pos (f'.ks[j]'hj + 1 + r2) (show (0 : Int) < 101 by omega)
        have e4 : (f'.ks[j]'hj + 1 + r2) % 101 ≠ f'.ks[j]'hj := by omega
        have em : ((f'.ks.map V.int).set j (.int ((f'.ks[j]'hj + 1 + r2) % 101))) = (f'.ks.set j ((f'.ks[j]'hj + 1 + r2) % 101)).map V.int := by rw [List.map_set]
        refine ⟨_, rfl, row, _, rfl, .inl ⟨SqL.of upd_same, fun tt ntt => ⟨_, rfl, _, rfl, l, valsF f' kv, _, 5, rfl, rfl, ?_, rfl, ?_⟩⟩⟩
        · exact same_new ntt _ _ (by rw [upd_ne nrl.symm]; exact hl4)
        refine ⟨_, rfl, rfl, _, rfl, iteN (by decide) ?_⟩
        have ne : ({ f' with ks := f'.ks.set j ((f'.ks[j]'hj + 1 + r2) % 101) } : Fg) ≠ f' := fun e => by
          have e6 := congrArg Fg.ks e
          have e7 : (f'.ks.set j ((f'.ks[j]'hj + 1 + r2) % 101))[j]? = f'.ks[j]? := by rw [show f'.ks.set j ((f'.ks[j]'hj + 1 + r2) % 101) = f'.ks from e6]
          rw [List.getElem?_set_self hj, List.getElem?_eq_getElem hj] at e7
          exact e4 (Option.some.inj e7)
        have tb5 : But b H (upd H4 row (.lst (((f'.ks.map V.int).set j (.int ((f'.ks[j]'hj + 1 + r2) % 101)))))) := fun x o nx hx => by
          rw [upd_ne (ne_of_none hx nrH)]
          exact tb4 x o nx hx
        have L5 : Left (upd H4 row (.lst (((f'.ks.map V.int).set j (.int ((f'.ks[j]'hj + 1 + r2) % 101)))))) b c (n + 4) := (L4.mono (by omega)).upd nrb nrc
        have tb6 := butl (o := .lst ((valsF f' kv).set 5 (.ref tt))) (tb5.trans (But.new (o := .tup (((f'.ks.map V.int).set j (.int ((f'.ks[j]'hj + 1 + r2) % 101))))) ntt))
        have ntl : tt ≠ l := fun e => by rw [e, upd_ne nrl.symm, hl4] at ntt; cases ntt
        refine ⟨_, rfl, l, _, rfl, .inl ⟨SqL.of upd_same, last (f2 := { f' with ks := f'.ks.set j ((f'.ks[j]'hj + 1 + r2) % 101) }) (kv2 := .ref tt) (kd2 := .tuple ((f'.ks.set j ((f'.ks[j]'hj + 1 + r2) % 101)).map PyData.int)) tb6 ((L5.new ntt).upd nlb nlc) (.all tt (SqT.of (by rw [upd_ne ntl, upd_same, em])) ?_ ?_) F ne⟩⟩
        · rw [List.length_set]
          exact ok.len
        · intro k hk
          rcases List.mem_or_eq_of_mem_set hk with h | rfl
          · exact ok.bnd k h
          · omega
      · have z5 : ¬ V.int (i : Int) = V.int 5 := fun e => h5 (by have := V.int.inj e; omega)
        refine ⟨_, rfl, rfl, _, rfl, iteN z5 ?_⟩
        obtain ⟨v, hv, v0, v1, l0, l1, l2, hput⟩ := else_put (kv := kv) F hbd h3 h5
        refine ⟨_, rfl, _, rfl, t, _, _, _, rfl, rfl, hT2, hv, _, rfl, _, _, rfl, rfl, _, _, rfl, rfl, _, rfl, _, rfl, _, rfl, _, _, rfl, rfl, b, c, hi' - lo, n, rfl, LG, by omega, by omega, by omega, fun r H2 r0 r1 L2 t2 => ⟨_, _, rfl, rfl, ?_⟩⟩
        have e2 := Int.emod_nonneg (v - lo + 1 + r) (show hi' - lo + 1 ≠ 0 by omega)
        have e3 := Int.emod_lt_of_pos (v - lo + 1 + r) (show 0 < hi' - lo + 1 by omega)
        have e4 : lo + (v - lo + 1 + r) % (hi' - lo + 1) ≠ v := fun e => by
          have d := Int.mul_ediv_add_emod (v - lo + 1 + r) (hi' - lo + 1)
          have h1 : (hi' - lo + 1) * ((v - lo + 1 + r) / (hi' - lo + 1)) = 1 + r := by omega
          generalize (v - lo + 1 + r) / (hi' - lo + 1) = k at h1
          rcases Int.lt_or_le k 1 with hk1 | hk1
          · have : (hi' - lo + 1) * k ≤ (hi' - lo + 1) * 0 := Int.mul_le_mul_of_nonneg_left (by omega) (by omega)
            omega
          · have : (hi' - lo + 1) * 1 ≤ (hi' - lo + 1) * k := Int.mul_le_mul_of_nonneg_left hk1 (by omega)
            omega
        have hl2 := t2 _ _ nlb hl
        refine ⟨_, rfl, _, rfl, _, rfl, _, rfl, _, _, rfl, rfl, _, _, rfl, rfl, _, _, rfl, rfl, by omega, _, _, rfl, rfl, _, rfl, _, rfl, l, _, _, i, rfl, rfl, hl2, ?_, ?_⟩
        · rw [lt9]
          unfold ixN
          rw [if_pos (by omega), if_pos (by omega)]
          simp
        have tb2 := tG.trans t2
        have L2' := L2.mono (show n + 1 ≤ n + 4 by omega)
        by_cases h0 : i = 0
        · subst h0
          refine ⟨_, rfl, rfl, _, rfl, iteY rfl ?_⟩
          have hTX := (butl (o := .lst ((valsF f' kv).set 0 (.int (lo + (v - lo + 1 + r) % (hi' - lo + 1))))) tb2).seqT hL hT
          have v0' : lo ≤ lo + (v - lo + 1 + r) % (hi' - lo + 1) := by omega
          have v1' : lo + (v - lo + 1 + r) % (hi' - lo + 1) ≤ hi' := by omega
          generalize hv' : lo + (v - lo + 1 + r) % (hi' - lo + 1) = v' at *
          show tB _ _ (upd H2 l (.lst ((valsF f' kv).set 0 (.int (lo + (v - lo + 1 + r) % (hi' - lo + 1)))))) _
          rw [hv']
          have xl2 := upd_same (H := H2) (a := l) (o := .lst ((valsF f' kv).set 0 (.int v')))
          have tb3 := butl (o := .lst ((valsF f' kv).set 0 (.int v'))) tb2
          have L3 : Left (upd H2 l (.lst ((valsF f' kv).set 0 (.int v')))) b c (n + 4) := L2'.upd nlb nlc
          generalize upd H2 l (.lst ((valsF f' kv).set 0 (.int v'))) = H3 at *
          cases hk with
          | one k k0 k1 ek =>
            obtain ⟨q1, q2, q3, _, q5⟩ := hput (List.replicate v'.toNat k) v' v0' v1' e4
            obtain ⟨_, _, qp, qk⟩ := q5 rfl
            refine ⟨_, rfl, t, _, _, _, rfl, rfl, hTX, rfl, _, _, _, _, false, rfl, .ty _, .base (.int k), kit_ty (by decide +kernel), _, rfl, iteF ?_⟩
            exact ⟨_, rfl, l, _, rfl, .inl ⟨SqL.of (by rw [xl2, q1]), last tb3 L3 (.one k k0 k1 (by rw [qp, qk])) q2 q3⟩⟩
          | all a hA hl' hb =>
            obtain ⟨l01, h06, _⟩ := (hput f'.ks v' v0' v1' e4).2.2.2.2 rfl
            have hlk : f'.ks.length ≤ 6 := by
              have := F.p1
              omega
            have hpos : 0 < f'.ks.length := by
              have := F.p0
              omega
            have hA3 := tb3.seqT hL hA
            refine ⟨_, rfl, t, _, _, _, rfl, rfl, hTX, rfl, _, _, _, _, true, rfl, .ty _, ty_of_dp (dpAll_intsT hA3), kit_ty (a := "tuple") (by decide +kernel), _, rfl, iteT ?_⟩
            have e6 : (List.replicate (6 : Int).toNat (f'.ks.map V.int)).flatten = ((List.replicate 6 f'.ks).flatten).map V.int := by rw [List.map_flatten, List.map_replicate]; rfl
            refine ⟨_, rfl, t, _, _, _, rfl, rfl, hTX, rfl, .inl ⟨a, 6, _, rfl, rfl, hA3, ?_, by decide, by decide, ?_, fun p2 np2 => ?_⟩⟩
            · intro e
              rw [← List.length_eq_zero_iff, List.length_map] at e
              omega
            · rw [List.length_map]
              omega
            have s4 := same_new (o := .tup (List.replicate (6 : Int).toNat (f'.ks.map V.int)).flatten) np2
            have x4 := upd_same (H := H3) (a := p2) (o := .tup (List.replicate (6 : Int).toNat (f'.ks.map V.int)).flatten)
            have hl5 := s4 _ _ xl2
            have L5 := L3.same s4
            have tb5 := tb3.trans (But.of s4)
            generalize upd H3 p2 (.tup (List.replicate (6 : Int).toNat (f'.ks.map V.int)).flatten) = H5 at *
            rw [e6] at x4
            have hfl : ((List.replicate 6 f'.ks).flatten).length = 6 * f'.ks.length := by
              have : ∀ n : Nat, ((List.replicate n f'.ks).flatten).length = n * f'.ks.length := fun n => by
                induction n with
                | zero => simp
                | succ n ih => rw [List.replicate_succ, List.flatten_cons, List.length_append, ih, Nat.succ_mul, Nat.add_comm]
              exact this 6
            refine ⟨_, rfl, l, _, _, .int v', rfl, rfl, SqL.of hl5, rfl, _, rfl, rsla_take rfl (SqT.of x4) (by omega) (by rw [List.length_map, hfl]; omega) (fun p3 H6 s6 h6 _ => ?_)⟩
            have hl6 := s6 _ _ hl5
            obtain ⟨q1, q2, q3, _, q5⟩ := hput (((List.replicate 6 f'.ks).flatten).take v'.toNat) v' v0' v1' e4
            obtain ⟨_, _, qp, qk⟩ := q5 rfl
            rw [q1] at hl6
            have e7 : (valsF (putI f' (((List.replicate 6 f'.ks).flatten).take v'.toNat) 0 v') (.ref a)).set 5 (.ref p3) = valsF (putI f' (((List.replicate 6 f'.ks).flatten).take v'.toNat) 0 v') (.ref p3) := rfl
            refine ⟨_, rfl, l, _, _, 5, rfl, rfl, hl6, rfl, ?_⟩
            rw [e7]
            have h6' : SqT K (upd H6 l (.lst (valsF (putI f' (((List.replicate 6 f'.ks).flatten).take v'.toNat) 0 v') (.ref p3)))) p3 ((((List.replicate 6 f'.ks).flatten).take v'.toNat).map V.int) := by
              rw [List.map_take]
              rcases h6 with (h | ⟨o, h⟩) | h
              · exact .inl (.inl (by rw [upd_ne (ne_of h hl6 (by intro z; cases z))]; exact h))
              · exact .inl (.inr ⟨o, by rw [upd_ne (ne_of h hl6 (by intro z; cases z))]; exact h⟩)
              · exact .inr h
            have bnd6 : ∀ k ∈ ((List.replicate 6 f'.ks).flatten).take v'.toNat, 0 ≤ k ∧ k ≤ 100 := fun k hk => by
              obtain ⟨z, hz, hkz⟩ := List.mem_flatten.mp (List.mem_of_mem_take hk)
              rw [List.eq_of_mem_replicate hz] at hkz
              exact ok.bnd k hkz
            have len6 : ((((List.replicate 6 f'.ks).flatten).take v'.toNat).length : Int) = v' := by
              rw [List.length_take, hfl]
              omega
            have kX : Keep K (upd H6 l (.lst (valsF (putI f' (((List.replicate 6 f'.ks).flatten).take v'.toNat) 0 v') (.ref p3)))) v' (((List.replicate 6 f'.ks).flatten).take v'.toNat) (.ref p3) (.tuple ((((List.replicate 6 f'.ks).flatten).take v'.toNat).map PyData.int)) := .all p3 h6' len6 bnd6
            refine ⟨_, rfl, l, _, rfl, .inl ⟨SqL.of upd_same, last (butl (tb5.trans (But.of s6))) ((L5.same s6).upd nlb nlc) (by rw [qp, qk]; exact kX) q2 q3⟩⟩
        · have z0 : ¬ V.int (i : Int) = V.int 0 := fun e => h0 (by have := V.int.inj e; omega)
          refine ⟨_, rfl, rfl, _, rfl, iteN z0 ?_⟩
          obtain ⟨q1, q2, q3, q4, _⟩ := hput f'.ks _ (show lo ≤ lo + (v - lo + 1 + r) % (hi' - lo + 1) by omega) (by omega) e4
          obtain ⟨qp, qk⟩ := q4 h0
          refine ⟨_, rfl, l, _, rfl, .inl ⟨SqL.of (by rw [upd_same, q1]), last (butl tb2) (L2'.upd nlb nlc) (by rw [qp, qk]; exact kpl tb2) q2 q3⟩⟩
/-! ### _law_shown -/
abbrev s__law_shown : Stmt := topS 25
abbrev N__law_shown : List Str := ["_law_rule", "_law_some", "_law_text_here", "_law_found"]
theorem sc__law_shown : FnScope N__law_shown ["_law_rule", "_law_some"] (defScope s__law_shown) := ⟨rfl, rfl, rfl, by decide +kernel, rfl, by decide +kernel, by decide +kernel⟩
theorem fig_depth3 (f : Fg) : PyData.depth (figD f) ≤ 3 := by
  have := depth_ints f.ks
  simp only [figD, PyData.depth, PyData.depthAll]
  omega
def sp__law_shown (K : PySem.W.Frag) (C : Addr) : Sp := fun vs H Q _ => ∃ (r t : Addr) (f : Fg) (kv : V) (kd : PyData), vs = [.ref r, .ref t] ∧ RuleAt K H C r f ∧ Drawn K H t f kv kd ∧ ∀ H', Same H H' → Q (.bl true) H'
theorem ok__law_shown {f : Addr} {fd : FuncData} (F : Fun K "_law_shown" "_law_shown" s__law_shown f fd) (g : mg "_law_shown" = some (.ref f)) (bd : Binds K fd ["_law_rule", "_law_some"] []) {CR : Addr} (TQ : TEq K mg CR "Rule") (T_Rule : TRule K mg CR) (m_repr : mg "repr" = none) (m_str : mg "str" = none) (m_len : mg "len" = none) (C__law_text : CF P w K mg base 2 "_law_text" ["_law_some"] (sp__law_text K)) (C__law_same : CF P w K mg base 6 "_law_same" ["_law_found", "_law_due"] (sp__law_same K)) (C__law_whole : CF P w K mg base 1 "_law_whole" ["_law_some"] (sp__law_whole K)) (C_Rule_figures_0 : CMt P w K mg base CR 1 "figures" ["self"] [] (sp_Rule_figures K CR)) (C_Rule___repr___0 : CTx P w K mg base CR 7 "__repr__" (sp_Rule___repr__ K CR)) (C_Rule___str___0 : CTx P w K mg base CR 4 "__str__" (sp_Rule___str__ K CR)) (C_Rule___len___0 : CMt P w K mg base CR 1 "__len__" ["self"] [] (sp_Rule___len__ K CR)) : CF P w K mg base 10 "_law_shown" ["_law_rule", "_law_some"] (sp__law_shown K CR) := by
  refine ⟨f, fd, F.ok sc__law_shown (fun vs H Q E h => ?_) (fun cdv A outer s H vs Q E hr h => ?_), g, F.kp, bd⟩
  · first | (obtain ⟨_, rfl, _⟩ := h; rfl) | (obtain ⟨_, _, rfl, _⟩ := h; rfl) | (obtain ⟨_, _, _, rfl, _⟩ := h; rfl) | (obtain ⟨_, _, _, _, rfl, _⟩ := h; rfl) | (obtain ⟨_, _, _, _, _, rfl, _⟩ := h; rfl) | (obtain ⟨_, _, _, _, _, _, rfl, _⟩ := h; rfl) | (obtain ⟨_, _, _, _, _, _, _, rfl, _⟩ := h; rfl) | (obtain ⟨_, _, _, _, _, _, _, _, rfl, _⟩ := h; rfl) | (obtain ⟨_, _, _, _, _, _, _, _, _, rfl, _⟩ := h; rfl) | (obtain ⟨_, _, _, _, _, _, _, _, _, _, rfl, _⟩ := h; rfl) | (obtain ⟨_, _, _, _, _, _, _, _, _, _, _, rfl, _⟩ := h; rfl) | (obtain ⟨_, _, _, _, _, _, _, _, _, _, _, _, rfl, _⟩ := h; rfl) | (obtain ⟨_, _, _, _, _, _, _, _, _, _, _, _, _, rfl, _⟩ := h; rfl) | (obtain ⟨_, _, _, _, _, _, _, _, _, _, _, _, _, _, rfl, _⟩ := h; rfl) | (obtain ⟨_, _, _, _, _, _, _, _, _, _, _, _, _, _, _, rfl, _⟩ := h; rfl)
  · have hu64 := hr.units
    obtain ⟨r, t, f', kv, kd, rfl, hR, hD, q⟩ := h
    refine ⟨_, (pss_cons (ps_set (i := 2) sc__law_shown.nd rfl (.inl rfl) (pe_cf C__law_text (hr.mono (by decide)) (by rfl) (pa_cons (pv 1) pa_nil)))
      (pss_cons (ps_set (i := 3) sc__law_shown.nd rfl (.inl rfl) (pe_lst (pa_cons (pe_callB (call_lenO C_Rule___len___0 (hr.mono (by decide))) (by rfl) m_len PySem.boot_len (pa_cons (pv 0) pa_nil)) (pa_cons (pe_callTy (kk_strO C_Rule___str___0 (hr.mono (by decide))) (by rfl) m_str (by decide +kernel) (pa_cons (pv 0) pa_nil)) (pa_cons (pe_callB (kk_reprO C_Rule___repr___0 (hr.mono (by decide))) (by rfl) m_repr (by decide +kernel) (pa_cons (pv 0) pa_nil)) (pa_cons (pe_mt0 C_Rule_figures_0 T_Rule.cl (hr.mono (by decide)) (pv 0)) pa_nil))))))
      (pss_one (ps_ret (pe_cf C__law_same (hr.mono (by decide)) (by rfl) (pa_cons (pv 3) (pa_cons (pe_lst (pa_cons (pe_ix (kk_ixt K) (pv 1) pe_int (fun _ _ => rfl)) (pa_cons (pv 2) (pa_cons (pe_op op_add_str (pe_op op_add_str pe_str (pv 2)) pe_str) (pa_cons (pe_cf C__law_whole (hr.mono (by decide)) (by rfl) (pa_cons (pv 1) pa_nil)) pa_nil))))) pa_nil))))))), ?_⟩
    have ok := hD.ok
    have F := ok.figs
    have hlk : (f'.ks.length : Int) = f'.p := ok.len
    obtain ⟨b1, b2⟩ := cls_len ok
    have jl := PySem.StrLaws.join_length_le (Str.ofString ", ") (clsT f')
    rw [← TL.join_eq] at jl
    have e2 : (Str.ofString ", ").length = 2 := rfl
    have e5 : (Str.ofString "Rule(").length = 5 := rfl
    have e1 : (Str.ofString ")").length = 1 := rfl
    rw [e2] at jl
    have tl : (txtT f').length ≤ 1000 := by
      show (Txt.join (Str.ofString ", ") (clsT f')).length ≤ 1000
      omega
    obtain ⟨dx, kt, h1, h2⟩ := id hR
    refine ⟨_, rfl, t, f', kv, kd, rfl, hD, fun H1 s1 => ?_⟩
    refine ⟨_, rfl, r, dx, _, rfl, s1 _ _ h1, r, f', rfl, hR.same s1, _, rfl, by omega, by have := F.p1; omega, _, rfl, r, dx, _, rfl, s1 _ _ h1, r, f', rfl, hR.same s1, ok, fun H2 s2 => ⟨_, rfl, _, rfl, r, dx, _, rfl, s2 _ _ (s1 _ _ h1), r, f', rfl, (hR.same s1).same s2, ok, fun H3 s3 => ⟨_, rfl, _, rfl, r, dx, _, rfl, s3 _ _ (s2 _ _ (s1 _ _ h1)), by rfl, r, f', rfl, ((hR.same s1).same s2).same s3, fun H4 tf kf nf s4 hf hkf => ⟨by show 4 ≤ sizeLine; decide, fun L nL => ?_⟩⟩⟩⟩
    have sL := same_new (o := .lst [.int f'.ks.length, .str (txtT f'), .str (Str.ofString "Rule(" ++ txtT f' ++ Str.ofString ")"), .ref tf]) nL
    have xL := upd_same (H := H4) (a := L) (o := .lst [.int f'.ks.length, .str (txtT f'), .str (Str.ofString "Rule(" ++ txtT f' ++ Str.ofString ")"), .ref tf])
    generalize upd H4 L (.lst [.int f'.ks.length, .str (txtT f'), .str (Str.ofString "Rule(" ++ txtT f' ++ Str.ofString ")"), .ref tf]) = H5 at *
    have s5 := (((s1.trans s2).trans s3).trans s4).trans sL
    refine ⟨_, rfl, _, rfl, t, _, _, _, rfl, rfl, seqT_same s5 hD.1, rfl, _, rfl, _, rfl, _, _, rfl, rfl, by rw [e5, sizeLine_eq]; omega, _, _, rfl, rfl, by rw [len_app, e5, e1, sizeLine_eq]; omega, _, rfl, t, f', kv, kd, rfl, hD.same s5, fun H6 w a s6 hW ha => ⟨by show 4 ≤ sizeLine; decide, fun M nM => ?_⟩⟩
    have sM := same_new (o := .lst [.int f'.p, .str (txtT f'), .str (Str.ofString "Rule(" ++ txtT f' ++ Str.ofString ")"), .ref w]) nM
    refine ⟨_, _, .list [.int f'.p, .str (txtT f'), .str (Str.ofString "Rule(" ++ txtT f' ++ Str.ofString ")"), figD f'], rfl, ?_, ?_, ?_, ?_, fun H7 s7 => q H7 (((s5.trans s6).trans sM).trans s7)⟩
    · have dp := fig_dp (seqT_same ((sL.trans s6).trans sM) (SqT.of hf)) (seqT_same ((sL.trans s6).trans sM) hkf)
      rw [hlk] at xL
      exact .lst (SqL.of (sM _ _ (s6 _ _ xL))) (.cons (.int _) (.cons (.str _) (.cons (.str _) (.cons dp .nil))))
    · have dp := fig_dp (seqT_same sM hW.1) (seqT_same sM ha)
      exact .lst (SqL.of upd_same) (.cons (.int _) (.cons (.str _) (.cons (.str _) (.cons dp .nil))))
    · have := fig_depth3 f'
      simp only [PyData.depth, PyData.depthAll]
      omega
    · have := fig_thin ok
      simp only [thin, thinAll, this, Bool.and_true, Bool.true_and]
      exact decide_eq_true (by show 4 ≤ 1000; decide)
/-! ### law -/
abbrev s_law : Stmt := topS 26
abbrev N_law : List Str := ["_law_script", "_law_k", "_law_left", "_law_some", "_law_whole_here", "_law_rule", "_law_likes", "_law_others", "_law_at", "_law_like", "_law_other"]
theorem sc_law : FnScope N_law ["_law_script"] (defScope s_law) := ⟨rfl, rfl, rfl, by decide +kernel, rfl, by decide +kernel, by decide +kernel⟩
def sp_law (K : PySem.W.Frag) : Sp := fun vs H Q _ => ∃ (a : Addr) (ns : List Int), vs = [.ref a] ∧ SqL K H a (ns.map V.int) ∧ ns.length ≤ 63 ∧ ∀ H', Q (.bl true) H'
theorem RuleAt.but {K : PySem.W.Frag} {H H' : Hp} {C r b : Addr} {xs : List V} {f : Fg} (h : RuleAt K H C r f) (t : But b H H') (hb : H b = some (.lst xs)) : RuleAt K H' C r f := by
  obtain ⟨dx, kt, h1, h2⟩ := h
  refine ⟨dx, kt, t _ _ (ne_of h1 hb (by intro z; cases z)) h1, ?_⟩
  rcases h2 with (h | ⟨o, h⟩) | h
  · exact .inl (.inl (t _ _ (ne_of h hb (by intro z; cases z)) h))
  · exact .inl (.inr ⟨o, t _ _ (ne_of h hb (by intro z; cases z)) h⟩)
  · exact .inr h
def OthR (K : PySem.W.Frag) (H : Hp) (C r : Addr) (f : Fg) (o : Addr) : Prop := o ≠ r ∧ ∃ f', RuleAt K H C o f' ∧ f'.Ok ∧ f' ≠ f
theorem seqT_but {K : PySem.W.Frag} {H H' : Hp} {a b : Addr} {xs ys : List V} (h : SqT K H a xs) (t : But b H H') (hb : H b = some (.lst ys)) : SqT K H' a xs := by
  rcases h with (h | ⟨o, h⟩) | h
  · exact .inl (.inl (t _ _ (ne_of h hb (by intro z; cases z)) h))
  · exact .inl (.inr ⟨o, t _ _ (ne_of h hb (by intro z; cases z)) h⟩)
  · exact .inr h
theorem Drawn.butl {K : PySem.W.Frag} {H H' : Hp} {b t : Addr} {ys : List V} {f : Fg} {kv : V} {kd : PyData} (h : Drawn K H t f kv kd) (e : But b H H') (hb : H b = some (.lst ys)) : Drawn K H' t f kv kd := by
  obtain ⟨h1, h2, h3⟩ := h
  refine ⟨seqT_but h1 e hb, h2, ?_⟩
  cases h3 with
  | one k k0 k1 ek => exact .one k k0 k1 ek
  | all a h hl hb' => exact .all a (seqT_but h e hb) hl hb'
section
variable {K : PySem.W.Frag} {H : Hp} {C r r2 : Addr} {f : Fg} {x : V} {Q : VK}
theorem eq_kin (h : RuleAt K H C r f) (h2 : RuleAt K H C r2 f) (ok : f.Ok) (q : ∀ H', Same H H' → Q (.bl true) H') : OEQ.rEqO K C (sp_Rule___eq__ K C) (.ref r) (.ref r2) H Q := by
  obtain ⟨dx, kt, h1, _⟩ := id h
  obtain ⟨dy, ky, k1, _⟩ := id h2
  exact .inl ⟨r, dx, _, _, rfl, h1, .ins k1, r, f, _, rfl, h, ok, .inl ⟨r2, f, rfl, h2, ok, fun H' s => ⟨_, rfl, by rw [alike_self]; exact q H' s⟩⟩⟩
theorem ne_kin (h : RuleAt K H C r f) (h2 : RuleAt K H C r2 f) (ok : f.Ok) (q : ∀ H', Same H H' → Q (.bl false) H') : OEQ.rNeO K C (sp_Rule___eq__ K C) (.ref r) (.ref r2) H Q := by
  obtain ⟨dx, kt, h1, _⟩ := id h
  obtain ⟨dy, ky, k1, _⟩ := id h2
  exact ⟨r, dx, _, _, rfl, h1, .ins k1, r, f, _, rfl, h, ok, .inl ⟨r2, f, rfl, h2, ok, fun H' s => ⟨_, rfl, by rw [alike_self]; exact q H' s⟩⟩⟩
def Alien (K : PySem.W.Frag) (H : Hp) (C : Addr) (f : Fg) (x : V) : Prop := (∃ (o : Addr) (f' : Fg), x = .ref o ∧ RuleAt K H C o f' ∧ f'.Ok ∧ f' ≠ f) ∨ ∃ tv, OEQ.TyV K C H x tv ∧ tv ≠ .ref C
theorem TyV_same {H' : Hp} {tv : Value} (t : OEQ.TyV K C H x tv) (s : Same H H') : OEQ.TyV K C H' x tv := by
  cases t with
  | int i => exact .int i
  | bl b => exact .bl b
  | str x => exact .str x
  | non => exact .non
  | lst h => exact .lst (s.seq h)
  | tup h => exact .tup (seqT_same s h)
  | ins h => exact .ins (s _ _ h)
theorem Alien.same {H' : Hp} (a : Alien K H C f x) (s : Same H H') : Alien K H' C f x := by
  rcases a with ⟨o, f', rfl, h, ok, ne⟩ | ⟨tv, t, ne⟩
  · exact .inl ⟨o, f', rfl, h.same s, ok, ne⟩
  · exact .inr ⟨tv, TyV_same t s, ne⟩
theorem eq_alien (h : RuleAt K H C r f) (ok : f.Ok) (a : Alien K H C f x) (q : ∀ H', Same H H' → Q (.bl false) H') : OEQ.rEqO K C (sp_Rule___eq__ K C) (.ref r) x H Q := by
  obtain ⟨dx, kt, h1, _⟩ := id h
  rcases a with ⟨o, f', rfl, h2, ok2, ne⟩ | ⟨tv, t, ne⟩
  · obtain ⟨dy, ky, k1, _⟩ := id h2
    exact .inl ⟨r, dx, _, _, rfl, h1, .ins k1, r, f, _, rfl, h, ok, .inl ⟨o, f', rfl, h2, ok2, fun H' s => ⟨_, rfl, by rw [unlike ne.symm]; exact q H' s⟩⟩⟩
  · exact .inl ⟨r, dx, _, _, rfl, h1, t, r, f, _, rfl, h, ok, .inr ⟨tv, t, ne, fun H' s => ⟨_, rfl, q H' s⟩⟩⟩
theorem eq_back (h : RuleAt K H C r f) (ok : f.Ok) (a : Alien K H C f x) (q : ∀ H', Same H H' → Q (.bl false) H') : OEQ.rEqO K C (sp_Rule___eq__ K C) x (.ref r) H Q := by
  obtain ⟨dx, kt, h1, _⟩ := id h
  rcases a with ⟨o, f', rfl, h2, ok2, ne⟩ | ⟨tv, t, ne⟩
  · obtain ⟨dy, ky, k1, _⟩ := id h2
    exact .inl ⟨o, dy, _, _, rfl, k1, .ins h1, o, f', _, rfl, h2, ok2, .inl ⟨r, f, rfl, h, ok, fun H' s => ⟨_, rfl, by rw [unlike ne]; exact q H' s⟩⟩⟩
  · exact .inr ⟨r, dx, _, _, rfl, h1, t, ne, r, f, _, rfl, h, ok, .inr ⟨tv, t, ne, fun H' s => ⟨_, rfl, q H' s⟩⟩⟩
theorem ne_alien (h : RuleAt K H C r f) (ok : f.Ok) (a : Alien K H C f x) (q : ∀ H', Same H H' → Q (.bl true) H') : OEQ.rNeO K C (sp_Rule___eq__ K C) (.ref r) x H Q := by
  obtain ⟨dx, kt, h1, _⟩ := id h
  rcases a with ⟨o, f', rfl, h2, ok2, ne⟩ | ⟨tv, t, ne⟩
  · obtain ⟨dy, ky, k1, _⟩ := id h2
    exact ⟨r, dx, _, _, rfl, h1, .ins k1, r, f, _, rfl, h, ok, .inl ⟨o, f', rfl, h2, ok2, fun H' s => ⟨_, rfl, by rw [unlike ne.symm]; exact q H' s⟩⟩⟩
  · exact ⟨r, dx, _, _, rfl, h1, t, r, f, _, rfl, h, ok, .inr ⟨tv, t, ne, fun H' s => ⟨_, rfl, q H' s⟩⟩⟩
theorem asks_of {bs : List Addr} {e : Nat → Bool} (h : RuleAt K H C r f) (ok : f.Ok) (hb : ∀ i b, bs[i]? = some b → (e i = false ∧ OthR K H C r f b) ∨ (e i = true ∧ RuleAt K H C b f)) : OEQ.Asks C (sp_Rule___eq__ K C) r bs e H := fun i b hi H' x => by
  have h' := h.same x
  obtain ⟨dx, kt, h1, _⟩ := id h'
  rcases hb i b hi with ⟨e0, nr, f', h2, ok2, ne⟩ | ⟨e1, h2⟩
  · have h2' := h2.same x
    obtain ⟨dy, ky, k1, _⟩ := id h2'
    exact ⟨⟨dy, _, k1⟩, ⟨dx, _, h1⟩, fun z => absurd z nr, fun Q q => ⟨b, f', _, rfl, h2', ok2, .inl ⟨r, f, rfl, h', ok, fun H'' s => by rw [unlike ne, ← e0]; exact q H'' s⟩⟩⟩
  · have h2' := h2.same x
    obtain ⟨dy, ky, k1, _⟩ := id h2'
    exact ⟨⟨dy, _, k1⟩, ⟨dx, _, h1⟩, fun z => e1, fun Q q => ⟨b, f, _, rfl, h2', ok, .inl ⟨r, f, rfl, h', ok, fun H'' s => by rw [alike_self, ← e1]; exact q H'' s⟩⟩⟩
end
theorem ifs_by {test : TT} {body : TS} {D : Ends} {σ : L2.St} {G : Hp} (P : Hp → Prop) (fin : ∀ G', P G' → D.nx σ G') (h : (∀ G', P G' → D.nx σ G') → tIfS test body tNext D σ G) : tIfS test body tNext D σ G := h fin
theorem OthR.same {K : PySem.W.Frag} {H H' : Hp} {C r o : Addr} {f : Fg} (h : OthR K H C r f o) (e : Same H H') : OthR K H' C r f o := by
  obtain ⟨h1, f', h2, h3⟩ := h
  exact ⟨h1, f', h2.same e, h3⟩
theorem OthR.but {K : PySem.W.Frag} {H H' : Hp} {C r o b : Addr} {xs : List V} {f : Fg} (h : OthR K H C r f o) (t : But b H H') (hb : H b = some (.lst xs)) : OthR K H' C r f o := by
  obtain ⟨h1, f', h2, h3⟩ := h
  exact ⟨h1, f', h2.but t hb, h3⟩
theorem ok_law {f : Addr} {fd : FuncData} (F : Fun K "law" "law" s_law f fd) {CR : Addr} (TQ : TEq K mg CR "Rule") (T_Rule : TRule K mg CR) (m_range : mg "range" = none) (m_min : mg "min" = none) (m_len : mg "len" = none) (m_set : mg "set" = none) (C__law_drawn_from : CF P w K mg base 1 "_law_drawn_from" ["_law_script", "_law_k"] (sp__law_drawn_from K)) (C__law_some_rule : CF P w K mg base 4 "_law_some_rule" ["_law_left"] (sp__law_some_rule K)) (C__law_made : CF P w K mg base 6 "_law_made" ["_law_some"] (sp__law_made K CR)) (C__law_whole : CF P w K mg base 1 "_law_whole" ["_law_some"] (sp__law_whole K)) (C__law_changed : CF P w K mg base 3 "_law_changed" ["_law_left", "_law_some", "_law_at"] (sp__law_changed K)) (C__law_shown : CF P w K mg base 10 "_law_shown" ["_law_rule", "_law_some"] (sp__law_shown K CR)) (C__law_text : CF P w K mg base 2 "_law_text" ["_law_some"] (sp__law_text K)) (C_Rule___eq___1 : CEq P w K mg base CR 2 (sp_Rule___eq__ K CR)) : FnOk P w K mg base CX0 11 f fd ["_law_script"] (sp_law K) := by
  refine F.ok sc_law (fun vs H Q E h => ?_) (fun cdv A outer s H vs Q E hr h => ?_)
  · first | (obtain ⟨_, rfl, _⟩ := h; rfl) | (obtain ⟨_, _, rfl, _⟩ := h; rfl) | (obtain ⟨_, _, _, rfl, _⟩ := h; rfl) | (obtain ⟨_, _, _, _, rfl, _⟩ := h; rfl) | (obtain ⟨_, _, _, _, _, rfl, _⟩ := h; rfl) | (obtain ⟨_, _, _, _, _, _, rfl, _⟩ := h; rfl) | (obtain ⟨_, _, _, _, _, _, _, rfl, _⟩ := h; rfl) | (obtain ⟨_, _, _, _, _, _, _, _, rfl, _⟩ := h; rfl) | (obtain ⟨_, _, _, _, _, _, _, _, _, rfl, _⟩ := h; rfl) | (obtain ⟨_, _, _, _, _, _, _, _, _, _, rfl, _⟩ := h; rfl) | (obtain ⟨_, _, _, _, _, _, _, _, _, _, _, rfl, _⟩ := h; rfl) | (obtain ⟨_, _, _, _, _, _, _, _, _, _, _, _, rfl, _⟩ := h; rfl) | (obtain ⟨_, _, _, _, _, _, _, _, _, _, _, _, _, rfl, _⟩ := h; rfl) | (obtain ⟨_, _, _, _, _, _, _, _, _, _, _, _, _, _, rfl, _⟩ := h; rfl) | (obtain ⟨_, _, _, _, _, _, _, _, _, _, _, _, _, _, _, rfl, _⟩ := h; rfl)
  · have hu64 := hr.units
    obtain ⟨a, ns, rfl, hS, hlen, q⟩ := h
    refine ⟨_, (pss_cons (ps_for PassesOwn.never rfl (pi_range1 (by rfl) m_range (pa_cons (pe_op op_add pe_int (pe_callB (call_min2 rfl) (by rfl) m_min (by decide +kernel) (pa_cons pe_int (pa_cons (pe_callB (kk_len K) (by rfl) m_len PySem.boot_len (pa_cons (pv 0) pa_nil)) pa_nil)))) pa_nil)) (pg_name (i := 1) sc_law.nd rfl (.inl rfl))
         (pss_cons (ps_set (i := 2) sc_law.nd rfl (.inr rfl) (pe_cf C__law_drawn_from (hr.mono (by decide)) (by rfl) (pa_cons (pv 0) (pa_cons (pv 1) pa_nil))))
          (pss_cons (ps_set (i := 3) sc_law.nd rfl (.inr rfl) (pe_cf C__law_some_rule (hr.mono (by decide)) (by rfl) (pa_cons (pv 2) pa_nil)))
          (pss_cons (ps_par (i := 4) (j := 5) (by rfl) sc_law.nd rfl rfl (by decide) rfl rfl (pa_cons (pe_cf C__law_whole (hr.mono (by decide)) (by rfl) (pa_cons (pv 3) pa_nil)) (pa_cons (pe_cf C__law_made (hr.mono (by decide)) (by rfl) (pa_cons (pv 3) pa_nil)) pa_nil)) (by rfl))
          (pss_cons (ps_set (i := 6) sc_law.nd rfl (.inl rfl) (pe_lst (pa_cons (pe_cf C__law_made (hr.mono (by decide)) (by rfl) (pa_cons (pv 3) pa_nil)) (pa_cons (pe_cf C__law_made (hr.mono (by decide)) (by rfl) (pa_cons (pv 4) pa_nil)) pa_nil))))
          (pss_cons (ps_if (pt_cmpR op_eq (pe_lenSetT (by rfl) m_len (by rfl) m_set (pe_ix (kk_ixt K) (pv 4) pe_int (fun _ _ => rfl))) pe_int (nomark _))
             (pss_one (ps_expr (pe_bm PySem.F.plainAttrs_list PySem.F.slot_list_append PySem.F.type_list_append mt_append (pv 6) (pa_cons (pe_cf C__law_made (hr.mono (by decide)) (by rfl) (pa_cons (pe_op (kk_catT K) (pe_op (kk_catT K) (pe_slice (kk_slt K) (pv 4) po_none (po_some pe_int)) (pe_tup (pa_cons (pe_ix (kk_ixt K) (pe_ix (kk_ixt K) (pv 4) pe_int (fun _ _ => rfl)) pe_int (fun _ _ => rfl)) pa_nil))) (pe_slice (kk_slt K) (pv 4) (po_some pe_int) po_none)) pa_nil)) pa_nil))))
             pss_nil)
          (pss_cons (ps_setLc (i := 7) (own := [("_law_at", 8)]) (g := (gName 8)) (tt := tYes) rfl sc_law.nd rfl rfl (sw_true rfl rfl rfl (by decide +kernel)) (pi_range1 (by rfl) m_range (pa_cons pe_int pa_nil)) (blkOk_by (own := [("_law_at", 8)]) (N := N_law) (sc := defScope s_law) (by decide +kernel)) (fun _ _ _ _ _ => pg_name (i := 8) sc_law.nd rfl (Or.inl rfl)) (fun _ _ _ _ _ => pts_nil) (fun _ _ _ _ _ => (pe_cf C__law_made (hr.mono (by decide)) (by rfl) (pa_cons (pe_cf C__law_changed (hr.mono (by decide)) (by rfl) (pa_cons (pv 2) (pa_cons (pv 3) (pa_cons (pv 8) pa_nil)))) pa_nil))))
          (pss_cons (ps_for PassesOwn.never rfl (pi_list (pe_op op_cat (pv 6) (pe_lst (pa_cons (pv 5) pa_nil)))) (pg_name (i := 9) sc_law.nd rfl (.inl rfl))
             (pss_cons (ps_if (PW.pt (pw_or (pt_cmpR op_notBl (pe_cmpR (kk_eqO K C_Rule___eq___1 (hr.mono (by decide))) (pv 5) (pv 9) (nomark _)) pe_bl (nomark _)) (pw_or (pt_cmpR op_notBl (pe_cmpR (kk_eqO K C_Rule___eq___1 (hr.mono (by decide))) (pv 9) (pv 5) (nomark _)) pe_bl (nomark _)) (pw_or1 (pt_cmpR (kk_neO K C_Rule___eq___1 (hr.mono (by decide))) (pv 5) (pv 9) (nomark _))))))
                 (pss_one (ps_ret pe_bl))
                 pss_nil)
              (pss_one (ps_if (PW.pt (pw_or (pt_not (pt_val (pe_cf C__law_shown (hr.mono (by decide)) (by rfl) (pa_cons (pv 9) (pa_cons (pv 3) pa_nil))))) (pw_or1 (pt_not (pt_val (pe_cf C__law_shown (hr.mono (by decide)) (by rfl) (pa_cons (pv 5) (pa_cons (pv 3) pa_nil))))))))
                 (pss_one (ps_ret pe_bl))
                 pss_nil))))
          (pss_cons (ps_for PassesOwn.never rfl (pi_list (pe_op op_cat (pv 7) (pe_lst (pa_cons (pv 4) (pa_cons (pv 3) (pa_cons (pe_cf C__law_text (hr.mono (by decide)) (by rfl) (pa_cons (pv 3) pa_nil)) (pa_cons pe_non (pa_cons pe_bl (pa_cons (pe_lst (pa_cons (pv 5) pa_nil)) (pa_cons (pe_tup (pa_cons (pv 5) pa_nil)) (pa_cons pe_int pa_nil))))))))))) (pg_name (i := 10) sc_law.nd rfl (.inl rfl))
             (pss_one (ps_if (PW.pt (pw_or (pt_cmpR op_notBl (pe_cmpR (kk_eqO K C_Rule___eq___1 (hr.mono (by decide))) (pv 5) (pv 10) (nomark _)) pe_bl (nomark _)) (pw_or (pt_cmpR op_notBl (pe_cmpR (kk_eqO K C_Rule___eq___1 (hr.mono (by decide))) (pv 10) (pv 5) (nomark _)) pe_bl (nomark _)) (pw_or1 (pt_not (pt_cmpR (kk_neO K C_Rule___eq___1 (hr.mono (by decide))) (pv 5) (pv 10) (nomark _)))))))
                 (pss_one (ps_ret pe_bl))
                 pss_nil)))
          (pss_one (ps_if (PW.pt (pw_or (pt_cmpR op_ne (pe_bm PySem.F.plainAttrs_list PySem.F.slot_list_count PySem.F.type_list_count (mt_countO C_Rule___eq___1 (hr.mono (by decide))) (pv 7) (pa_cons (pv 5) pa_nil)) pe_int (nomark _)) (pw_or (pt_cmpR op_ne (pe_bm PySem.F.plainAttrs_list PySem.F.slot_list_index PySem.F.type_list_index (mt_indexO C_Rule___eq___1 (hr.mono (by decide))) (pe_op op_cat (pv 7) (pv 6)) (pa_cons (pv 5) pa_nil)) pe_int (nomark _)) (pw_or1 (pt_cmpR (kk_inO C_Rule___eq___1 (hr.mono (by decide))) (pv 5) (pv 7) (by rfl))))))
             (pss_one (ps_ret pe_bl))
             pss_nil)))))))))))
      (pss_one (ps_ret pe_bl))), ?_⟩
    refine ⟨_, rfl, a, _, rfl, .inl hS, _, _, rfl, _, _, rfl, rfl, _, rfl, ?_, ?_, for_range (fun i σ H' => ∃ s1 s2 s3 s4 s5 s6 s7 s8 s9 s10, σ = [some (.ref a), s1, s2, s3, s4, s5, s6, s7, s8, s9, s10] ∧ Same H H') ⟨_, _, _, _, _, _, _, _, _, _, rfl, Same.refl H⟩ (fun i σ H0 hi h => ?_) (fun σ H' h => ?_)⟩
    · split <;> omega
    · split <;> omega
    · obtain ⟨s1, s2, s3, s4, s5, s6, s7, s8, s9, s10, rfl, sm⟩ := h
      have hi7 : i < 7 := by
        split at hi <;> omega
      refine ⟨_, rfl, _, rfl, a, _, ns, rfl, sm.seq hS, hlen, by omega, by omega, fun H1 b c nb nc sa L1 => ?_⟩
      refine ⟨_, rfl, b, c, _, rfl, L1, by omega, fun H2 t f1 kv kd L2' t2 D1 => ?_⟩
      have ok := D1.ok
      have F := ok.figs
      have hlk : f1.ks.length ≤ 6 := by
        have a : (f1.ks.length : Int) = f1.p := ok.len
        have := F.p1
        omega
      have hne : f1.ks ≠ [] := fun e => by
        have a : (f1.ks.length : Int) = f1.p := ok.len
        have := F.p0
        rw [e, List.length_nil] at a
        omega
      refine ⟨_, rfl, t, f1, kv, kd, rfl, D1, fun H3 w aw s3 W1 Wa => ⟨_, rfl, t, f1, kv, kd, rfl, D1.same s3, fun H4 r nr s4 R1 => ⟨_, _, rfl, ?_⟩⟩⟩
      have s34 := s3.trans s4
      have D4 := D1.same s34
      have W4 := W1.same s4
      have Wa4 := seqT_same s4 Wa
      have L4 := L2'.same s34
      refine ⟨_, rfl, t, f1, kv, kd, rfl, D4, fun H5 r1 nr1 s5 R2 => ⟨_, rfl, w, f1, _, _, rfl, W4.same s5, fun H6 r2 nr2 s6 R3 => ⟨by show 2 ≤ sizeLine; decide, fun L6 nL6 => ?_⟩⟩⟩
      have s7 := same_new (o := .lst [.ref r1, .ref r2]) nL6
      have x7 := upd_same (H := H6) (a := L6) (o := .lst [.ref r1, .ref r2])
      have n46 : H4 L6 = none := (s5.trans s6).free nL6
      have s47 := (s5.trans s6).trans s7
      have R1 := R1.same s47
      have R2 := R2.same (s6.trans s7)
      have R3 := R3.same s7
      have D4 := D4.same s47
      have W4 := W4.same s47
      have Wa4 := seqT_same s47 Wa4
      have L4 := L4.same s47
      have h3H : H3 L6 = none := s4.free n46
      generalize upd H6 L6 (.lst [.ref r1, .ref r2]) = H7 at *
      have L6b : L6 ≠ b := fun e => by
        obtain ⟨_, _, _, h0, _⟩ := L2'.same s34
        rw [e, h0] at n46
        cases n46
      have L6c : L6 ≠ c := fun e => by
        obtain ⟨_, _, _, _, h0, _⟩ := L2'.same s34
        rw [e, h0] at n46
        cases n46
      have L4' : Left H7 b c (1009 * (i : Int) + 40) := L4.mono (by omega)
      show gName 6 (.ref L6) _ H7 _
      dsimp only [gName, tSeq]
      refine ifs_by (fun G => ∃ rs : List Addr, 2 ≤ rs.length ∧ rs.length ≤ 3 ∧ G L6 = some (.lst (rs.map V.ref)) ∧ (∀ x ∈ rs, RuleAt K G CR x f1) ∧ But L6 H7 G ∧ Left G b c (1009 * (i : Int) + 40)) (fun G hG => ?_) (fun fin => ?_)
      · obtain ⟨rs, l2, l3, hL6, hrs, tG, LG⟩ := hG
        have R1 := R1.but tG x7
        have D4 := D4.butl tG x7
        have W4 := W4.butl tG x7
        have nL0 := s34.free n46
        have sHG : ∀ {X : Hp}, But b G X → Same H X := fun {X} tX => by
          have sH7 := (same_but sa nb t2).trans (s34.trans s47)
          have nL : H0 L6 = none := by
            cases h : H0 L6 with
            | none => rfl
            | some o =>
              have := t2 _ _ L6b (sa _ _ h)
              rw [nL0] at this
              cases this
          exact sm.trans (same_but (same_but sH7 nL tG) nb tX)
        refine ⟨_, rfl, by decide, by decide, fun D hD => lc_range (lo := 0) (n := 9) (fun j X => But b G X ∧ Left X b c (1009 * (i : Int) + 40 + 4 * j) ∧ ∃ os : List Addr, os.length = j ∧ (∀ o ∈ os, OthR K X CR r f1 o) ∧ X D = some (.lst (os.map V.ref))) ⟨But.new hD, (LG.mono (by omega)).new hD, [], rfl, fun _ h => (nomatch h), upd_same⟩ (fun j X hj h => ?_) (fun X h => ?_)⟩
        · obtain ⟨tX, LX, os, hos, hoa, hXD⟩ := h
          have hDb : D ≠ b := LG.ne hD
          have hDc : D ≠ c := LG.ne2 hD
          obtain ⟨_, _, _, hGb, _⟩ := id LG
          obtain ⟨_, _, _, hXb, _⟩ := id LX
          have RX := R1.but tX hGb
          refine ⟨rfl, _, rfl, _, rfl, _, rfl, b, c, t, j, _, f1, kv, kd, by rw [Int.zero_add]; rfl, LX, by omega, D4.butl tX hGb, by omega, fun X1 t' f' kv' kd' LX1 tX1 D' ne => ⟨t', f', kv', kd', rfl, D', fun X2 o no sX2 Ro => ?_⟩⟩
          have RX2 := (RX.but tX1 hXb).same sX2
          have nor : o ≠ r := fun e => by
            obtain ⟨dx, kt, h1, _⟩ := RX.but tX1 hXb
            rw [e, h1] at no
            cases no
          have hD2 : X2 D = some (.lst (os.map V.ref)) := sX2 _ _ (tX1 _ _ hDb hXD)
          have hoa2 : ∀ o ∈ os, OthR K X2 CR r f1 o := fun o ho => ((hoa o ho).but tX1 hXb).same sX2
          have tb2 : But b G X2 := (tX.trans tX1).trans (But.of sX2)
          refine ⟨_, hD2, ?_, ?_, ?_, os ++ [o], ?_, ?_, ?_⟩
          · rw [List.length_map, hos]
            exact small1000 (by omega)
          · exact fun u v nu hu => by
              rw [upd_ne (ne_of_none hu hD)]
              exact tb2 u v nu hu
          · exact ((LX1.same sX2).mono (by omega)).upd hDb hDc
          · rw [List.length_append, hos]
            rfl
          · intro u hu
            have bD : But D X2 (upd X2 D (.lst (os.map V.ref ++ [.ref o]))) := But.upd
            rcases List.mem_append.mp hu with z | z
            · exact (hoa2 u z).but bD hD2
            · rw [List.mem_singleton.mp z]
              exact OthR.but (f := f1) (r := r) ⟨nor, f', Ro, D'.ok, ne⟩ bD hD2
          · rw [upd_same, List.map_append]
            rfl
        · obtain ⟨tX, LX, os, hos, hoa, hXD⟩ := h
          obtain ⟨_, _, _, hGb, _⟩ := id LG
          have R1 := R1.but tX hGb
          have D4 := D4.butl tX hGb
          have W4 := W4.butl tX hGb
          have hrs : ∀ x ∈ rs, RuleAt K X CR x f1 := fun x hx => (hrs x hx).but tX hGb
          have hL6 := tX _ _ L6b hL6
          have sHX := sHG tX
          refine ⟨_, rfl, _, rfl, by show 1 ≤ sizeLine; decide, fun l1 nl1 => ⟨L6, l1, _, _, rfl, rfl, (same_new nl1) _ _ hL6, upd_same, ?_, fun M nM => ?_⟩⟩
          · rw [List.length_map, sizeLine_eq]
            show rs.length + 1 ≤ _
            omega
          have sM := (same_new (o := .lst [.ref r]) nl1).trans (same_new (o := .lst (rs.map V.ref ++ [.ref r])) nM)
          have xM := upd_same (H := upd X l1 (.lst [.ref r])) (a := M) (o := .lst (rs.map V.ref ++ [.ref r]))
          generalize upd (upd X l1 (.lst [.ref r])) M (.lst (rs.map V.ref ++ [.ref r])) = Y at *
          have xM : Y M = some (.lst ((rs ++ [r]).map V.ref)) := by rw [xM, List.map_append]; rfl
          have hall : ∀ x ∈ rs ++ [r], RuleAt K Y CR x f1 := fun x hx => by
            rcases List.mem_append.mp hx with z | z
            · exact (hrs x z).same sM
            · rw [List.mem_singleton.mp z]
              exact R1.same sM
          refine ⟨M, rfl, ⟨_, SqL.of xM⟩, for_list (K := K) (a := M) (xs := (rs ++ [r]).map V.ref) (fun k σ Z => ∃ z8 z9 z10, σ = [some (.ref a), some (.int (0 + (i : Int))), some (.ref b), some (.ref t), some (.ref w), some (.ref r), some (.ref L6), some (.ref D), z8, z9, z10] ∧ Same Y Z) ⟨_, _, _, rfl, Same.refl _⟩ (fun k σ Z _ h => by obtain ⟨_, _, _, _, h⟩ := h; exact SqL.of (h _ _ xM)) (fun k x σ Z hx h => ?_) (fun σ Z h => ?_)⟩
          · obtain ⟨z8, z9, z10, rfl, sZ⟩ := h
            obtain ⟨y, hy, rfl⟩ := List.mem_map.mp (List.mem_of_getElem? hx)
            have ry := (hall y hy).same sZ
            have rr := (R1.same sM).same sZ
            have dt := (D4.same sM).same sZ
            refine ⟨_, rfl, _, rfl, eq_kin rr ry ok fun Z1 z1 => ⟨_, _, rfl, rfl, _, rfl, iteF ?_⟩⟩
            refine ⟨_, rfl, _, rfl, eq_kin (ry.same z1) (rr.same z1) ok fun Z2 z2 => ⟨_, _, rfl, rfl, _, rfl, iteF ?_⟩⟩
            refine ⟨_, rfl, _, rfl, ne_kin ((rr.same z1).same z2) ((ry.same z1).same z2) ok fun Z3 z3 => ⟨_, rfl, iteF ?_⟩⟩
            have z13 := (z1.trans z2).trans z3
            refine ⟨_, rfl, _, rfl, y, t, f1, kv, kd, rfl, ry.same z13, dt.same z13, fun Z4 z4 => ⟨_, rfl, iteF ?_⟩⟩
            refine ⟨_, rfl, _, rfl, r, t, f1, kv, kd, rfl, (rr.same z13).same z4, (dt.same z13).same z4, fun Z5 z5 => ⟨_, rfl, iteF ?_⟩⟩
            exact ⟨_, _, _, rfl, (sZ.trans z13).trans (z4.trans z5)⟩
          · obtain ⟨z8, z9, z10, rfl, sZ⟩ := h
            have sXZ := sM.trans sZ
            refine ⟨_, rfl, _, rfl, _, rfl, _, rfl, t, f1, kv, kd, rfl, D4.same sXZ, fun Z1 z1 => ⟨_, rfl, by show 1 ≤ sizeLine; decide, fun p1 np1 => ⟨_, rfl, by show 1 ≤ sizeLine; decide, fun p2 np2 => ⟨by show 8 ≤ sizeLine; decide, fun l2 nl2 => ⟨D, l2, _, _, rfl, rfl, (same_new nl2) _ _ ((same_new np2) _ _ ((same_new np1) _ _ (z1 _ _ (sXZ _ _ hXD)))), upd_same, ?_, fun M2 nM2 => ?_⟩⟩⟩⟩⟩
            · rw [List.length_map, sizeLine_eq]
              show os.length + 8 ≤ _
              omega
            have c1 := same_new (o := .lst [.ref r]) np1
            have c2 := same_new (o := .tup [.ref r]) np2
            have y1 := upd_same (H := Z1) (a := p1) (o := .lst [.ref r])
            have y2 := upd_same (H := upd Z1 p1 (.lst [.ref r])) (a := p2) (o := .tup [.ref r])
            have c3 := same_new (o := .lst [.ref w, .ref t, .str (txtT f1), .non, .bl true, .ref p1, .ref p2, .int 0]) nl2
            have c4 := same_new (o := .lst (os.map V.ref ++ [.ref w, .ref t, .str (txtT f1), .non, .bl true, .ref p1, .ref p2, .int 0])) nM2
            have y4 := upd_same (H := upd (upd (upd Z1 p1 (.lst [.ref r])) p2 (.tup [.ref r])) l2 (.lst [.ref w, .ref t, .str (txtT f1), .non, .bl true, .ref p1, .ref p2, .int 0])) (a := M2) (o := .lst (os.map V.ref ++ [.ref w, .ref t, .str (txtT f1), .non, .bl true, .ref p1, .ref p2, .int 0]))
            have y1 := c4 _ _ (c3 _ _ (c2 _ _ y1))
            have y2 := c4 _ _ (c3 _ _ y2)
            have sXV := sXZ.trans ((z1.trans c1).trans (c2.trans (c3.trans c4)))
            generalize upd (upd (upd (upd Z1 p1 (.lst [.ref r])) p2 (.tup [.ref r])) l2 (.lst [.ref w, .ref t, .str (txtT f1), .non, .bl true, .ref p1, .ref p2, .int 0])) M2 (.lst (os.map V.ref ++ [.ref w, .ref t, .str (txtT f1), .non, .bl true, .ref p1, .ref p2, .int 0])) = V2 at *
            have R1V := R1.same sXV
            have aliens : ∀ x ∈ os.map V.ref ++ [.ref w, .ref t, .str (txtT f1), .non, .bl true, .ref p1, .ref p2, .int 0], Alien K V2 CR f1 x := fun x hx => by
              rcases List.mem_append.mp hx with z | z
              · obtain ⟨o, ho, rfl⟩ := List.mem_map.mp z
                obtain ⟨_, f', h1, h2, h3⟩ := (hoa o ho).same sXV
                exact .inl ⟨o, f', rfl, h1, h2, h3⟩
              · simp only [List.mem_cons, List.not_mem_nil, or_false] at z
                rcases z with rfl | rfl | rfl | rfl | rfl | rfl | rfl | rfl
                · exact .inr ⟨_, .tup (seqT_same sXV W4.1), fun e => nomatch e⟩
                · exact .inr ⟨_, .tup (seqT_same sXV D4.1), fun e => nomatch e⟩
                · exact .inr ⟨_, .str _, fun e => nomatch e⟩
                · exact .inr ⟨_, .non, fun e => nomatch e⟩
                · exact .inr ⟨_, .bl _, fun e => nomatch e⟩
                · exact .inr ⟨_, .lst (SqL.of y1), fun e => nomatch e⟩
                · exact .inr ⟨_, .tup (SqT.of y2), fun e => nomatch e⟩
                · exact .inr ⟨_, .int _, fun e => nomatch e⟩
            refine ⟨M2, rfl, ⟨_, SqL.of y4⟩, for_list (K := K) (a := M2) (xs := os.map V.ref ++ [.ref w, .ref t, .str (txtT f1), .non, .bl true, .ref p1, .ref p2, .int 0]) (fun k σ Z => ∃ z8 z9 z10, σ = [some (.ref a), some (.int (0 + (i : Int))), some (.ref b), some (.ref t), some (.ref w), some (.ref r), some (.ref L6), some (.ref D), z8, z9, z10] ∧ Same V2 Z) ⟨_, _, _, rfl, Same.refl _⟩ (fun k σ Z _ h => by obtain ⟨_, _, _, _, h⟩ := h; exact SqL.of (h _ _ y4)) (fun k x σ Z hx h => ?_) (fun σ Z h => ?_)⟩
            · obtain ⟨z8, z9, z10, rfl, sV⟩ := h
              have ax := (aliens x (List.mem_of_getElem? hx)).same sV
              have rr := R1V.same sV
              refine ⟨_, rfl, _, rfl, eq_alien rr ok ax fun Z1 z1 => ⟨_, _, rfl, rfl, _, rfl, iteF ?_⟩⟩
              refine ⟨_, rfl, _, rfl, eq_back (rr.same z1) ok (ax.same z1) fun Z2 z2 => ⟨_, _, rfl, rfl, _, rfl, iteF ?_⟩⟩
              refine ⟨_, rfl, _, rfl, ne_alien ((rr.same z1).same z2) ok ((ax.same z1).same z2) fun Z3 z3 => ⟨_, rfl, iteF ?_⟩⟩
              exact ⟨_, _, _, rfl, sV.trans ((z1.trans z2).trans z3)⟩
            · obtain ⟨z8, z9, z10, rfl, sV⟩ := h
              have sXW := sXV.trans sV
              have rr := R1.same sXW
              have hD := sXW _ _ hXD
              have hL := sXW _ _ hL6
              have hoW : ∀ o ∈ os, OthR K Z CR r f1 o := fun o ho => (hoa o ho).same sXW
              have hrW : ∀ o ∈ rs, RuleAt K Z CR o f1 := fun o ho => (hrs o ho).same sXW
              refine ⟨_, rfl, .inl ⟨rfl, _, SqL.of hD⟩, _, rfl, r, D, os, rfl, rfl, hD, asks_of rr ok (fun j o ho => .inl ⟨rfl, hoW o (List.mem_of_getElem? ho)⟩), fun Z1 z1 => ⟨rfl, _, rfl, iteF ?_⟩⟩
              refine ⟨_, rfl, _, rfl, D, L6, _, _, rfl, rfl, z1 _ _ hD, z1 _ _ hL, ?_, fun M3 nM3 => ?_⟩
              · rw [List.length_map, List.length_map, sizeLine_eq]
                omega
              have zz := z1.trans (same_new (o := .lst (os.map V.ref ++ rs.map V.ref)) nM3)
              refine ⟨.inl ⟨rfl, _, SqL.of upd_same⟩, _, rfl, r, M3, os ++ rs, 9, fun j => decide (9 ≤ j), rfl, rfl, by rw [upd_same, List.map_append], by rw [List.length_append]; omega, by decide, rfl, fun j hj => decide_eq_false (by omega), asks_of (rr.same zz) ok (fun j o ho => ?_), fun Z2 z2 => ⟨rfl, _, rfl, iteF ?_⟩⟩
              · rcases Nat.lt_or_ge j 9 with c | c
                · rw [List.getElem?_append_left (by omega)] at ho
                  exact .inl ⟨decide_eq_false (by omega), (hoW o (List.mem_of_getElem? ho)).same zz⟩
                · rw [List.getElem?_append_right (by omega)] at ho
                  exact .inr ⟨decide_eq_true c, (hrW o (List.mem_of_getElem? ho)).same zz⟩
              have zzz := zz.trans z2
              refine ⟨_, rfl, _, rfl, r, D, os, rfl, rfl, zzz _ _ hD, asks_of (rr.same zzz) ok (fun j o ho => .inl ⟨rfl, (hoW o (List.mem_of_getElem? ho)).same zzz⟩), fun Z3 z3 => ⟨_, rfl, iteF ?_⟩⟩
              exact ⟨_, _, _, _, _, _, _, _, _, _, rfl, sHX.trans (sXW.trans (zzz.trans z3))⟩
      · obtain ⟨k0, kr, hks⟩ : ∃ k0 kr, f1.ks = k0 :: kr := by
          cases h : f1.ks with
          | nil => exact absurd h hne
          | cons a b => exact ⟨a, b, rfl⟩
        have two : ∀ x ∈ [r1, r2], RuleAt K H7 CR x f1 := fun x hx => by
          simp only [List.mem_cons, List.not_mem_nil, or_false] at hx
          rcases hx with rfl | rfl
          · exact R2
          · exact R3
        refine ⟨_, rfl, w, _, _, _, rfl, rfl, W4.1, rfl, aw, f1.ks, rfl, Wa4, by omega, fun c hc => ⟨rfl, _, rfl, ite2 (fun z => ?_) (fun z => ?_)⟩⟩
        · have ec : c = 1 := by
            have := V.int.inj (of_decide_eq_true z)
            omega
          obtain ⟨zk, hzk⟩ := hc.mp ec
          have eks : f1.ks = List.replicate f1.p.toNat k0 := by
            have h0 : ∀ j ∈ f1.ks, j = k0 := fun j hj => by
              have e1 := (hzk j).mp hj
              have e2 := (hzk k0).mp (by rw [hks]; exact List.mem_cons_self)
              rw [e1, e2]
            refine List.eq_replicate_iff.mpr ⟨?_, h0⟩
            have a : (f1.ks.length : Int) = f1.p := ok.len
            omega
          have hk0 := ok.bnd k0 (by rw [hks]; exact List.mem_cons_self)
          have at0 : atI (f1.ks.map V.int) 0 = some (.int k0) := by
            rw [hks]
            unfold atI ixN
            rw [if_pos (by decide), if_pos (by rw [List.map_cons, List.length_cons]; omega)]
            rfl
          have l5 : cutV [V.int f1.p, .int f1.s, .int f1.g, .bl f1.l, .int f1.m, .ref aw, .int f1.fi, .int f1.fa, .int f1.ba] none (some 5) = [V.int f1.p, .int f1.s, .int f1.g, .bl f1.l, .int f1.m] := rfl
          have l6 : cutV [V.int f1.p, .int f1.s, .int f1.g, .bl f1.l, .int f1.m, .ref aw, .int f1.fi, .int f1.fa, .int f1.ba] (some 6) none = [.int f1.fi, .int f1.fa, .int f1.ba] := rfl
          refine ⟨_, rfl, .inl ⟨rfl, _, SqL.of x7⟩, ?_⟩
          refine ⟨_, rfl, _, rfl, w, _, rfl, W4.1, (by show ¬ (HT.sIx 9 0 none = 0 ∧ HT.sIx 9 9 (some 5) = 9); decide), fun c1 n1 => ?_⟩
          refine ⟨_, rfl, w, _, _, _, rfl, rfl, seqT_same (same_new n1) W4.1, rfl, aw, _, _, _, rfl, rfl, seqT_same (same_new n1) Wa4, at0, (by show 1 ≤ sizeLine; decide), fun c2 n2 => ?_⟩
          refine ⟨c1, c2, _, _, rfl, rfl, SqT.of ((same_new n2) _ _ upd_same), SqT.of upd_same, (by rw [l5]; simp), (by show 5 + 1 ≤ sizeLine; decide), fun e => (nomatch e), fun _ c3 n3 => ?_⟩
          have u3 := fun o => ((same_new n1).trans (same_new n2)).trans (same_new (o := o) n3)
          refine ⟨_, rfl, _, rfl, w, _, rfl, seqT_same (u3 _) W4.1, (by show ¬ (HT.sIx 9 0 (some 6) = 0 ∧ HT.sIx 9 9 none = 9); decide), fun c4 n4 => ?_⟩
          refine ⟨c3, c4, _, _, rfl, rfl, SqT.of ((same_new n4) _ _ upd_same), SqT.of upd_same, (by rw [l5]; simp), (by show 6 + 3 ≤ sizeLine; decide), fun e => absurd (l6.symm.trans e) (by simp), fun _ w2 nw => ?_⟩
          have s5 := fun o => ((u3 _).trans (same_new n4)).trans (same_new (o := o) nw)
          refine ⟨w2, f1, .int k0, .int k0, rfl, ⟨SqT.of upd_same, F, .one k0 hk0.1 hk0.2 eks⟩, fun G r3 nr3 sr3 Rn => ?_⟩
          have s6 := (s5 _).trans sr3
          have hx := s6 _ _ x7
          have bL : But L6 G (upd G L6 (.lst ([.ref r1, .ref r2] ++ [.ref r3]))) := But.upd
          refine ⟨L6, _, .ref r3, rfl, rfl, hx, (by show 2 < sizeLine; decide), fin _ ⟨[r1, r2, r3], (by show 2 ≤ 3; decide), (by show 3 ≤ 3; decide), upd_same, fun x hx2 => ?_, (But.of s6).trans bL, (L4'.same s6).upd L6b L6c⟩⟩
          simp only [List.mem_cons, List.not_mem_nil, or_false] at hx2
          rcases hx2 with rfl | rfl | rfl
          · exact (R2.same s6).but bL hx
          · exact (R3.same s6).but bL hx
          · exact Rn.but bL hx
        · exact fin H7 ⟨[r1, r2], (by show 2 ≤ 2; decide), (by show 2 ≤ 3; decide), x7, two, But.refl _ _, L4'⟩
    · obtain ⟨s1, s2, s3, s4, s5, s6, s7, s8, s9, s10, rfl, sm⟩ := h
      exact q _
end
set_option maxHeartbeats 0 in
theorem all_mk {l : PySem.W.OpenLaw} {w : World} {K : PySem.W.Frag} {h : Heap} {mg : Str → Option Value} {fa f0 f1 f2 f3 f4 f5 f6 f7 f8 f9 f10 f11 f12 f13 f14 f15 f16 f17 f18 f19 f20 f21 f22 f23 CR : Addr} (X : K.In h) (G : h.Ns mainGlobals mg) (hfa : mg "law" = some (.ref fa))
    {od0 an0 od1 an1 od2 an2 od3 an3 od4 an4 od5 an5 od6 an6 od7 an7 od8 an8 od9 an9 od10 an10 od11 an11 od12 an12 od13 an13 od14 an14 od15 an15 od16 an16 od17 an17 od18 an18 od19 an19 od20 an20 od21 an21 od22 an22 od23 an23 : Option Addr} {sl0 sl1 sl2 sl3 sl4 sl5 sl6 sl7 sl8 sl9 sl10 sl11 sl12 sl13 sl14 sl15 sl16 sl17 sl18 sl19 sl20 sl21 sl22 sl23 : Array (Option Value)} {oc0 kV0 dc0 pm0 cd0 ct0 oc1 kV1 dc1 pm1 cd1 ct1 oc2 kV2 dc2 pm2 cd2 ct2 oc3 kV3 dc3 pm3 cd3 ct3 oc4 kV4 dc4 pm4 cd4 ct4 oc5 kV5 dc5 pm5 cd5 ct5 oc6 kV6 dc6 pm6 cd6 ct6 oc7 kV7 dc7 pm7 cd7 ct7 oc8 kV8 dc8 pm8 cd8 ct8 oc9 kV9 dc9 pm9 cd9 ct9 oc10 kV10 dc10 pm10 cd10 ct10 oc11 kV11 dc11 pm11 cd11 ct11 oc12 kV12 dc12 pm12 cd12 ct12 oc13 kV13 dc13 pm13 cd13 ct13 oc14 kV14 dc14 pm14 cd14 ct14 oc15 kV15 dc15 pm15 cd15 ct15 oc16 kV16 dc16 pm16 cd16 ct16 oc17 kV17 dc17 pm17 cd17 ct17 oc18 kV18 dc18 pm18 cd18 ct18 oc19 kV19 dc19 pm19 cd19 ct19 oc20 kV20 dc20 pm20 cd20 ct20 oc21 kV21 dc21 pm21 cd21 ct21 oc22 kV22 dc22 pm22 cd22 ct22 oc23 kV23 dc23 pm23 cd23 ct23 : Value}
    (aC : PySem.W.nsIn K mainGlobals "Rule" = some (some (.ref CR))) (pg : PySem.W.plainGet K CR Str.empty = true) (hd : PySem.W.hasDictIn K CR = true) (po : PySem.W.plainOver K CR = true) (sa : PySem.W.findIn K (.ref CR) "__setattr__" = some (some (.builtin "object.__setattr__"))) (mk : PySem.W.makesIn K CR = true) (kc : PySem.W.keepIn K (.ref CR) = true)
    (n1 : PySem.W.findIn K (.ref CR) "parts" = some none) (n2 : PySem.W.findIn K (.ref CR) "step" = some none) (n3 : PySem.W.findIn K (.ref CR) "grace" = some none) (n4 : PySem.W.findIn K (.ref CR) "last" = some none) (n5 : PySem.W.findIn K (.ref CR) "misses" = some none) (n6 : PySem.W.findIn K (.ref CR) "keep" = some none) (n7 : PySem.W.findIn K (.ref CR) "fine" = some none) (n8 : PySem.W.findIn K (.ref CR) "falls" = some none) (n9 : PySem.W.findIn K (.ref CR) "back" = some none)
    (q_ca : PySem.W.findIn K (.ref CR) "__class__" = some (some (.builtin "object.__class__")))
    (q_cn : PySem.W.specialIn K (.builtin "object.__class__") "__get__" = some (some (.builtin "getset_descriptor.__get__")))
    (q_ct : PySem.W.takesIn K (.builtin "object.__class__") = some true)
    (q_ob : PySem.W.mroIn K CR (.type "object") = some true)
    (q_ne : PySem.W.findIn K (.ref CR) "__ne__" = some (some (.builtin "object.__ne__")))
    (q_ty : PySem.W.typeIn K (.ref CR) = some (.type "type"))
    (q_ic : PySem.W.isClsIn K CR = true)
    (q_s0 : PySem.W.subIn K (.ref CR) (.type "int") = some false)
    (q_b0 : PySem.W.subIn K (.type "int") (.ref CR) = some false)
    (q_s1 : PySem.W.subIn K (.ref CR) (.type "bool") = some false)
    (q_b1 : PySem.W.subIn K (.type "bool") (.ref CR) = some false)
    (q_s2 : PySem.W.subIn K (.ref CR) (.type "str") = some false)
    (q_b2 : PySem.W.subIn K (.type "str") (.ref CR) = some false)
    (q_s3 : PySem.W.subIn K (.ref CR) (.type "NoneType") = some false)
    (q_b3 : PySem.W.subIn K (.type "NoneType") (.ref CR) = some false)
    (q_s4 : PySem.W.subIn K (.ref CR) (.type "list") = some false)
    (q_b4 : PySem.W.subIn K (.type "list") (.ref CR) = some false)
    (q_s5 : PySem.W.subIn K (.ref CR) (.type "tuple") = some false)
    (q_b5 : PySem.W.subIn K (.type "tuple") (.ref CR) = some false)
    (a0 : PySem.W.nsIn K mainGlobals "is_number_in" = some (some (.ref f0))) (l0 : K.lookup f0 = some ⟨oc0, od0, .func (PySem.W.fnOf "is_number_in" "is_number_in" (defArgs s_is_number_in) (defBody s_is_number_in) (defScope s_is_number_in) .none kV0 dc0 pm0 an0 cd0 ct0), sl0⟩) (c0 : PySem.W.codeIn K cd0 "is_number_in" = true) (k0 : PySem.W.keepIn K (.ref f0) = true)
    (a1 : PySem.W.nsIn K mainGlobals "may_be_kept" = some (some (.ref f1))) (l1 : K.lookup f1 = some ⟨oc1, od1, .func (PySem.W.fnOf "may_be_kept" "may_be_kept" (defArgs s_may_be_kept) (defBody s_may_be_kept) (defScope s_may_be_kept) .none kV1 dc1 pm1 an1 cd1 ct1), sl1⟩) (c1 : PySem.W.codeIn K cd1 "may_be_kept" = true) (k1 : PySem.W.keepIn K (.ref f1) = true)
    (a2 : PySem.W.nsIn K mainGlobals "wrong_figure" = some (some (.ref f2))) (l2 : K.lookup f2 = some ⟨oc2, od2, .func (PySem.W.fnOf "wrong_figure" "wrong_figure" (defArgs s_wrong_figure) (defBody s_wrong_figure) (defScope s_wrong_figure) .none kV2 dc2 pm2 an2 cd2 ct2), sl2⟩) (c2 : PySem.W.codeIn K cd2 "wrong_figure" = true) (k2 : PySem.W.keepIn K (.ref f2) = true)
    {D3 : Addr} {dod3 : Option Addr} {doc3 : Value} {dsl3 : Array (Option Value)} {dn3 : Nat} {u3_0 u3_2 u3_3 u3_4 u3_5 u3_6 : Tok}
    (a3 : PySem.W.findIn K (.ref CR) "__init__" = some (some (.ref f3))) (l3 : K.lookup f3 = some ⟨oc3, od3, .func (PySem.W.fnOf "__init__" "Rule.__init__" (defArgs s_Rule___init__) (defBody s_Rule___init__) (defScope s_Rule___init__) (.ref D3) kV3 dc3 pm3 an3 cd3 ct3), sl3⟩) (c3 : PySem.W.codeIn K cd3 "Rule.__init__" = true) (k3 : PySem.W.keepIn K (.ref f3) = true)
    (i3 : PySem.W.isFn K (.ref f3) = true) (d3 : K.lookup D3 = some ⟨doc3, dod3, .seq [.int 0 u3_0, .bool false, .int 0 u3_2, .int 0 u3_3, .int 0 u3_4, .int 0 u3_5, .int 0 u3_6].toArray dn3, dsl3⟩)
    (a4 : PySem.W.findIn K (.ref CR) "figures" = some (some (.ref f4))) (l4 : K.lookup f4 = some ⟨oc4, od4, .func (PySem.W.fnOf "figures" "Rule.figures" (defArgs s_Rule_figures) (defBody s_Rule_figures) (defScope s_Rule_figures) .none kV4 dc4 pm4 an4 cd4 ct4), sl4⟩) (c4 : PySem.W.codeIn K cd4 "Rule.figures" = true) (k4 : PySem.W.keepIn K (.ref f4) = true)
    (i4 : PySem.W.isFn K (.ref f4) = true)
    (a5 : PySem.W.nsIn K mainGlobals "_law_mix" = some (some (.ref f5))) (l5 : K.lookup f5 = some ⟨oc5, od5, .func (PySem.W.fnOf "_law_mix" "_law_mix" (defArgs s__law_mix) (defBody s__law_mix) (defScope s__law_mix) .none kV5 dc5 pm5 an5 cd5 ct5), sl5⟩) (c5 : PySem.W.codeIn K cd5 "_law_mix" = true) (k5 : PySem.W.keepIn K (.ref f5) = true)
    (a6 : PySem.W.nsIn K mainGlobals "_law_pick" = some (some (.ref f6))) (l6 : K.lookup f6 = some ⟨oc6, od6, .func (PySem.W.fnOf "_law_pick" "_law_pick" (defArgs s__law_pick) (defBody s__law_pick) (defScope s__law_pick) .none kV6 dc6 pm6 an6 cd6 ct6), sl6⟩) (c6 : PySem.W.codeIn K cd6 "_law_pick" = true) (k6 : PySem.W.keepIn K (.ref f6) = true)
    (a7 : PySem.W.nsIn K mainGlobals "_law_drawn_from" = some (some (.ref f7))) (l7 : K.lookup f7 = some ⟨oc7, od7, .func (PySem.W.fnOf "_law_drawn_from" "_law_drawn_from" (defArgs s__law_drawn_from) (defBody s__law_drawn_from) (defScope s__law_drawn_from) .none kV7 dc7 pm7 an7 cd7 ct7), sl7⟩) (c7 : PySem.W.codeIn K cd7 "_law_drawn_from" = true) (k7 : PySem.W.keepIn K (.ref f7) = true)
    (a8 : PySem.W.nsIn K mainGlobals "_law_keep" = some (some (.ref f8))) (l8 : K.lookup f8 = some ⟨oc8, od8, .func (PySem.W.fnOf "_law_keep" "_law_keep" (defArgs s__law_keep) (defBody s__law_keep) (defScope s__law_keep) .none kV8 dc8 pm8 an8 cd8 ct8), sl8⟩) (c8 : PySem.W.codeIn K cd8 "_law_keep" = true) (k8 : PySem.W.keepIn K (.ref f8) = true)
    (a9 : PySem.W.nsIn K mainGlobals "_law_some_rule" = some (some (.ref f9))) (l9 : K.lookup f9 = some ⟨oc9, od9, .func (PySem.W.fnOf "_law_some_rule" "_law_some_rule" (defArgs s__law_some_rule) (defBody s__law_some_rule) (defScope s__law_some_rule) .none kV9 dc9 pm9 an9 cd9 ct9), sl9⟩) (c9 : PySem.W.codeIn K cd9 "_law_some_rule" = true) (k9 : PySem.W.keepIn K (.ref f9) = true)
    (a10 : PySem.W.nsIn K mainGlobals "_law_same" = some (some (.ref f10))) (l10 : K.lookup f10 = some ⟨oc10, od10, .func (PySem.W.fnOf "_law_same" "_law_same" (defArgs s__law_same) (defBody s__law_same) (defScope s__law_same) .none kV10 dc10 pm10 an10 cd10 ct10), sl10⟩) (c10 : PySem.W.codeIn K cd10 "_law_same" = true) (k10 : PySem.W.keepIn K (.ref f10) = true)
    (a11 : PySem.W.nsIn K mainGlobals "_law_made" = some (some (.ref f11))) (l11 : K.lookup f11 = some ⟨oc11, od11, .func (PySem.W.fnOf "_law_made" "_law_made" (defArgs s__law_made) (defBody s__law_made) (defScope s__law_made) .none kV11 dc11 pm11 an11 cd11 ct11), sl11⟩) (c11 : PySem.W.codeIn K cd11 "_law_made" = true) (k11 : PySem.W.keepIn K (.ref f11) = true)
    (a12 : PySem.W.nsIn K mainGlobals "_law_whole" = some (some (.ref f12))) (l12 : K.lookup f12 = some ⟨oc12, od12, .func (PySem.W.fnOf "_law_whole" "_law_whole" (defArgs s__law_whole) (defBody s__law_whole) (defScope s__law_whole) .none kV12 dc12 pm12 an12 cd12 ct12), sl12⟩) (c12 : PySem.W.codeIn K cd12 "_law_whole" = true) (k12 : PySem.W.keepIn K (.ref f12) = true)
    (a13 : PySem.W.findIn K (.ref CR) "__len__" = some (some (.ref f13))) (l13 : K.lookup f13 = some ⟨oc13, od13, .func (PySem.W.fnOf "__len__" "Rule.__len__" (defArgs s_Rule___len__) (defBody s_Rule___len__) (defScope s_Rule___len__) .none kV13 dc13 pm13 an13 cd13 ct13), sl13⟩) (c13 : PySem.W.codeIn K cd13 "Rule.__len__" = true) (k13 : PySem.W.keepIn K (.ref f13) = true)
    (i13 : PySem.W.isFn K (.ref f13) = true)
    (a14 : PySem.W.nsIn K mainGlobals "counted" = some (some (.ref f14))) (l14 : K.lookup f14 = some ⟨oc14, od14, .func (PySem.W.fnOf "counted" "counted" (defArgs s_counted) (defBody s_counted) (defScope s_counted) .none kV14 dc14 pm14 an14 cd14 ct14), sl14⟩) (c14 : PySem.W.codeIn K cd14 "counted" = true) (k14 : PySem.W.keepIn K (.ref f14) = true)
    (a15 : PySem.W.nsIn K mainGlobals "kept_clause" = some (some (.ref f15))) (l15 : K.lookup f15 = some ⟨oc15, od15, .func (PySem.W.fnOf "kept_clause" "kept_clause" (defArgs s_kept_clause) (defBody s_kept_clause) (defScope s_kept_clause) .none kV15 dc15 pm15 an15 cd15 ct15), sl15⟩) (c15 : PySem.W.codeIn K cd15 "kept_clause" = true) (k15 : PySem.W.keepIn K (.ref f15) = true)
    (a16 : PySem.W.nsIn K mainGlobals "clauses_of" = some (some (.ref f16))) (l16 : K.lookup f16 = some ⟨oc16, od16, .func (PySem.W.fnOf "clauses_of" "clauses_of" (defArgs s_clauses_of) (defBody s_clauses_of) (defScope s_clauses_of) .none kV16 dc16 pm16 an16 cd16 ct16), sl16⟩) (c16 : PySem.W.codeIn K cd16 "clauses_of" = true) (k16 : PySem.W.keepIn K (.ref f16) = true)
    (a17 : PySem.W.findIn K (.ref CR) "__str__" = some (some (.ref f17))) (l17 : K.lookup f17 = some ⟨oc17, od17, .func (PySem.W.fnOf "__str__" "Rule.__str__" (defArgs s_Rule___str__) (defBody s_Rule___str__) (defScope s_Rule___str__) .none kV17 dc17 pm17 an17 cd17 ct17), sl17⟩) (c17 : PySem.W.codeIn K cd17 "Rule.__str__" = true) (k17 : PySem.W.keepIn K (.ref f17) = true)
    (i17 : PySem.W.isFn K (.ref f17) = true)
    (a18 : PySem.W.findIn K (.ref CR) "__repr__" = some (some (.ref f18))) (l18 : K.lookup f18 = some ⟨oc18, od18, .func (PySem.W.fnOf "__repr__" "Rule.__repr__" (defArgs s_Rule___repr__) (defBody s_Rule___repr__) (defScope s_Rule___repr__) .none kV18 dc18 pm18 an18 cd18 ct18), sl18⟩) (c18 : PySem.W.codeIn K cd18 "Rule.__repr__" = true) (k18 : PySem.W.keepIn K (.ref f18) = true)
    (i18 : PySem.W.isFn K (.ref f18) = true)
    (a19 : PySem.W.findIn K (.ref CR) "__eq__" = some (some (.ref f19))) (l19 : K.lookup f19 = some ⟨oc19, od19, .func (PySem.W.fnOf "__eq__" "Rule.__eq__" (defArgs s_Rule___eq__) (defBody s_Rule___eq__) (defScope s_Rule___eq__) .none kV19 dc19 pm19 an19 cd19 ct19), sl19⟩) (c19 : PySem.W.codeIn K cd19 "Rule.__eq__" = true) (k19 : PySem.W.keepIn K (.ref f19) = true)
    (i19 : PySem.W.isFn K (.ref f19) = true)
    (a20 : PySem.W.nsIn K mainGlobals "_law_text" = some (some (.ref f20))) (l20 : K.lookup f20 = some ⟨oc20, od20, .func (PySem.W.fnOf "_law_text" "_law_text" (defArgs s__law_text) (defBody s__law_text) (defScope s__law_text) .none kV20 dc20 pm20 an20 cd20 ct20), sl20⟩) (c20 : PySem.W.codeIn K cd20 "_law_text" = true) (k20 : PySem.W.keepIn K (.ref f20) = true)
    (a21 : PySem.W.nsIn K mainGlobals "_law_changed" = some (some (.ref f21))) (l21 : K.lookup f21 = some ⟨oc21, od21, .func (PySem.W.fnOf "_law_changed" "_law_changed" (defArgs s__law_changed) (defBody s__law_changed) (defScope s__law_changed) .none kV21 dc21 pm21 an21 cd21 ct21), sl21⟩) (c21 : PySem.W.codeIn K cd21 "_law_changed" = true) (k21 : PySem.W.keepIn K (.ref f21) = true)
    (a22 : PySem.W.nsIn K mainGlobals "_law_shown" = some (some (.ref f22))) (l22 : K.lookup f22 = some ⟨oc22, od22, .func (PySem.W.fnOf "_law_shown" "_law_shown" (defArgs s__law_shown) (defBody s__law_shown) (defScope s__law_shown) .none kV22 dc22 pm22 an22 cd22 ct22), sl22⟩) (c22 : PySem.W.codeIn K cd22 "_law_shown" = true) (k22 : PySem.W.keepIn K (.ref f22) = true)
    (a23 : PySem.W.nsIn K mainGlobals "law" = some (some (.ref f23))) (l23 : K.lookup f23 = some ⟨oc23, od23, .func (PySem.W.fnOf "law" "law" (defArgs s_law) (defBody s_law) (defScope s_law) .none kV23 dc23 pm23 an23 cd23 ct23), sl23⟩) (c23 : PySem.W.codeIn K cd23 "law" = true) (k23 : PySem.W.keepIn K (.ref f23) = true)
    (z_isinstance : PySem.W.nsIn K mainGlobals "isinstance" = some none) (z_bool : PySem.W.nsIn K mainGlobals "bool" = some none) (z_int : PySem.W.nsIn K mainGlobals "int" = some none) (z_tuple : PySem.W.nsIn K mainGlobals "tuple" = some none) (z_all : PySem.W.nsIn K mainGlobals "all" = some none) (z_len : PySem.W.nsIn K mainGlobals "len" = some none) (z_abs : PySem.W.nsIn K mainGlobals "abs" = some none) (z_range : PySem.W.nsIn K mainGlobals "range" = some none) (z_list : PySem.W.nsIn K mainGlobals "list" = some none) (z_zip : PySem.W.nsIn K mainGlobals "zip" = some none) (z_str : PySem.W.nsIn K mainGlobals "str" = some none) (z_set : PySem.W.nsIn K mainGlobals "set" = some none) (z_max : PySem.W.nsIn K mainGlobals "max" = some none) (z_repr : PySem.W.nsIn K mainGlobals "repr" = some none) (z_min : PySem.W.nsIn K mainGlobals "min" = some none) :
    ∃ fd : FuncData, (∀ (s : Shared) (v : Value), BindsTo s fd ⟨[v], []⟩ [("_law_script", v)]) ∧ ∀ base : Heap, K.In base → base.Ns mainGlobals mg → FnOk l.prog w K mg base CX0 11 fa fd ["_law_script"] (sp_law K) := by
  have e := hfa.symm.trans (PySem.W.mg_of X G a23)
  cases e
  have T_Rule : TRule K mg CR := ⟨⟨pg, hd, po, sa⟩, n1, n2, n3, n4, n5, n6, n7, n8, n9⟩
  have gC := PySem.W.mg_of X G aC
  have q_no : ∀ T ∈ (["int", "bool", "str", "NoneType", "list", "tuple"] : List String), PySem.W.kitOne K (.type T) (.ref CR) = some false := fun T h => by
    rcases six_of h with rfl | rfl | rfl | rfl | rfl | rfl
    · exact kit_tr q_ic q_ty q_b0
    · exact kit_tr q_ic q_ty q_b1
    · exact kit_tr q_ic q_ty q_b2
    · exact kit_tr q_ic q_ty q_b3
    · exact kit_tr q_ic q_ty q_b4
    · exact kit_tr q_ic q_ty q_b5
  have q_tys : ∀ T ∈ (["int", "bool", "str", "NoneType", "list", "tuple"] : List String), PySem.W.subIn K (.ref CR) (.type T) = some false ∧ PySem.W.subIn K (.type T) (.ref CR) = some false := fun T h => by
    rcases six_of h with rfl | rfl | rfl | rfl | rfl | rfl
    · exact ⟨q_s0, q_b0⟩
    · exact ⟨q_s1, q_b1⟩
    · exact ⟨q_s2, q_b2⟩
    · exact ⟨q_s3, q_b3⟩
    · exact ⟨q_s4, q_b4⟩
    · exact ⟨q_s5, q_b5⟩
  have TQ : TEq K mg CR "Rule" := ⟨gC, q_ca, q_cn, q_ct, q_ob, kit_self, q_no⟩
  have F0 := fun_mk (st := s_is_number_in) l0 c0 k0
  have b0 := F0.binds (ps := ["thing", "low", "high"]) fun _ _ _ _ _ _ us hl => match us, hl with | [_, _, _], _ => rfl
  have g0 := PySem.W.mg_of X G a0
  have F1 := fun_mk (st := s_may_be_kept) l1 c1 k1
  have b1 := F1.binds (ps := ["keep", "parts"]) fun _ _ _ _ _ _ us hl => match us, hl with | [_, _], _ => rfl
  have g1 := PySem.W.mg_of X G a1
  have F2 := fun_mk (st := s_wrong_figure) l2 c2 k2
  have b2 := F2.binds (ps := ["parts", "step", "grace", "last", "misses", "keep", "fine", "falls", "back"]) fun _ _ _ _ _ _ us hl => match us, hl with | [_, _, _, _, _, _, _, _, _], _ => rfl
  have g2 := PySem.W.mg_of X G a2
  have F3 : FunD K "__init__" "Rule.__init__" (defArgs s_Rule___init__) (defBody s_Rule___init__) (defScope s_Rule___init__) [.int 0, .bl false, .int 0, .int 0, .int 0, .int 0, .int 0] [] f3 _ := ⟨⟨oc3, od3, _, kV3, dc3, pm3, an3, cd3, ct3, sl3, rfl, l3, c3, .inr ⟨by simp, D3, _, _, dn3, rfl, d3, rfl, (.cons ⟨_, rfl⟩ (.cons rfl (.cons ⟨_, rfl⟩ (.cons ⟨_, rfl⟩ (.cons ⟨_, rfl⟩ (.cons ⟨_, rfl⟩ (.cons ⟨_, rfl⟩ .nil)))))))⟩, .inl rfl⟩, k3⟩
  have F4 : FunD K "figures" "Rule.figures" (defArgs s_Rule_figures) (defBody s_Rule_figures) (defScope s_Rule_figures) [] [] f4 _ := ⟨⟨oc4, od4, _, kV4, dc4, pm4, an4, cd4, ct4, sl4, rfl, l4, c4, .inl ⟨rfl, rfl⟩, .inl rfl⟩, k4⟩
  have F5 := fun_mk (st := s__law_mix) l5 c5 k5
  have b5 := F5.binds (ps := ["_law_cell", "_law_k"]) fun _ _ _ _ _ _ us hl => match us, hl with | [_, _], _ => rfl
  have g5 := PySem.W.mg_of X G a5
  have F6 := fun_mk (st := s__law_pick) l6 c6 k6
  have b6 := F6.binds (ps := ["_law_left", "_law_many"]) fun _ _ _ _ _ _ us hl => match us, hl with | [_, _], _ => rfl
  have g6 := PySem.W.mg_of X G a6
  have F7 := fun_mk (st := s__law_drawn_from) l7 c7 k7
  have b7 := F7.binds (ps := ["_law_script", "_law_k"]) fun _ _ _ _ _ _ us hl => match us, hl with | [_, _], _ => rfl
  have g7 := PySem.W.mg_of X G a7
  have F8 := fun_mk (st := s__law_keep) l8 c8 k8
  have b8 := F8.binds (ps := ["_law_left", "_law_many"]) fun _ _ _ _ _ _ us hl => match us, hl with | [_, _], _ => rfl
  have g8 := PySem.W.mg_of X G a8
  have F9 := fun_mk (st := s__law_some_rule) l9 c9 k9
  have b9 := F9.binds (ps := ["_law_left"]) fun _ _ _ _ _ _ us hl => match us, hl with | [_], _ => rfl
  have g9 := PySem.W.mg_of X G a9
  have F10 := fun_mk (st := s__law_same) l10 c10 k10
  have b10 := F10.binds (ps := ["_law_found", "_law_due"]) fun _ _ _ _ _ _ us hl => match us, hl with | [_, _], _ => rfl
  have g10 := PySem.W.mg_of X G a10
  have F11 := fun_mk (st := s__law_made) l11 c11 k11
  have b11 := F11.binds (ps := ["_law_some"]) fun _ _ _ _ _ _ us hl => match us, hl with | [_], _ => rfl
  have g11 := PySem.W.mg_of X G a11
  have F12 := fun_mk (st := s__law_whole) l12 c12 k12
  have b12 := F12.binds (ps := ["_law_some"]) fun _ _ _ _ _ _ us hl => match us, hl with | [_], _ => rfl
  have g12 := PySem.W.mg_of X G a12
  have F13 : FunD K "__len__" "Rule.__len__" (defArgs s_Rule___len__) (defBody s_Rule___len__) (defScope s_Rule___len__) [] [] f13 _ := ⟨⟨oc13, od13, _, kV13, dc13, pm13, an13, cd13, ct13, sl13, rfl, l13, c13, .inl ⟨rfl, rfl⟩, .inl rfl⟩, k13⟩
  have F14 := fun_mk (st := s_counted) l14 c14 k14
  have b14 := F14.binds (ps := ["word", "number"]) fun _ _ _ _ _ _ us hl => match us, hl with | [_, _], _ => rfl
  have g14 := PySem.W.mg_of X G a14
  have F15 := fun_mk (st := s_kept_clause) l15 c15 k15
  have b15 := F15.binds (ps := ["keep"]) fun _ _ _ _ _ _ us hl => match us, hl with | [_], _ => rfl
  have g15 := PySem.W.mg_of X G a15
  have F16 := fun_mk (st := s_clauses_of) l16 c16 k16
  have b16 := F16.binds (ps := ["figures"]) fun _ _ _ _ _ _ us hl => match us, hl with | [_], _ => rfl
  have g16 := PySem.W.mg_of X G a16
  have F17 : FunD K "__str__" "Rule.__str__" (defArgs s_Rule___str__) (defBody s_Rule___str__) (defScope s_Rule___str__) [] [] f17 _ := ⟨⟨oc17, od17, _, kV17, dc17, pm17, an17, cd17, ct17, sl17, rfl, l17, c17, .inl ⟨rfl, rfl⟩, .inl rfl⟩, k17⟩
  have F18 : FunD K "__repr__" "Rule.__repr__" (defArgs s_Rule___repr__) (defBody s_Rule___repr__) (defScope s_Rule___repr__) [] [] f18 _ := ⟨⟨oc18, od18, _, kV18, dc18, pm18, an18, cd18, ct18, sl18, rfl, l18, c18, .inl ⟨rfl, rfl⟩, .inl rfl⟩, k18⟩
  have F19 : FunD K "__eq__" "Rule.__eq__" (defArgs s_Rule___eq__) (defBody s_Rule___eq__) (defScope s_Rule___eq__) [] [] f19 _ := ⟨⟨oc19, od19, _, kV19, dc19, pm19, an19, cd19, ct19, sl19, rfl, l19, c19, .inl ⟨rfl, rfl⟩, .inl rfl⟩, k19⟩
  have F20 := fun_mk (st := s__law_text) l20 c20 k20
  have b20 := F20.binds (ps := ["_law_some"]) fun _ _ _ _ _ _ us hl => match us, hl with | [_], _ => rfl
  have g20 := PySem.W.mg_of X G a20
  have F21 := fun_mk (st := s__law_changed) l21 c21 k21
  have b21 := F21.binds (ps := ["_law_left", "_law_some", "_law_at"]) fun _ _ _ _ _ _ us hl => match us, hl with | [_, _, _], _ => rfl
  have g21 := PySem.W.mg_of X G a21
  have F22 := fun_mk (st := s__law_shown) l22 c22 k22
  have b22 := F22.binds (ps := ["_law_rule", "_law_some"]) fun _ _ _ _ _ _ us hl => match us, hl with | [_, _], _ => rfl
  have g22 := PySem.W.mg_of X G a22
  have F23 := fun_mk (st := s_law) l23 c23 k23
  have m_isinstance := PySem.W.mg_none_of X G z_isinstance
  have m_bool := PySem.W.mg_none_of X G z_bool
  have m_int := PySem.W.mg_none_of X G z_int
  have m_tuple := PySem.W.mg_none_of X G z_tuple
  have m_all := PySem.W.mg_none_of X G z_all
  have m_len := PySem.W.mg_none_of X G z_len
  have m_abs := PySem.W.mg_none_of X G z_abs
  have m_range := PySem.W.mg_none_of X G z_range
  have m_list := PySem.W.mg_none_of X G z_list
  have m_zip := PySem.W.mg_none_of X G z_zip
  have m_str := PySem.W.mg_none_of X G z_str
  have m_set := PySem.W.mg_none_of X G z_set
  have m_max := PySem.W.mg_none_of X G z_max
  have m_repr := PySem.W.mg_none_of X G z_repr
  have m_min := PySem.W.mg_none_of X G z_min
  refine ⟨PySem.W.fnOf "law" "law" (defArgs s_law) (defBody s_law) (defScope s_law) .none kV23 dc23 pm23 an23 cd23 ct23, fun s v => .of_eq rfl, fun base _ _ => ?_⟩
  have C_is_number_in := ok_is_number_in (P := l.prog) (w := w) (base := base) F0 g0 b0 m_isinstance m_bool m_int
  have C_may_be_kept := ok_may_be_kept (P := l.prog) (w := w) (base := base) F1 g1 b1 m_isinstance m_tuple m_all m_len C_is_number_in
  have C_wrong_figure := ok_wrong_figure (P := l.prog) (w := w) (base := base) F2 g2 b2 m_isinstance m_bool C_is_number_in C_may_be_kept
  have O3 := ok_Rule___init__ (P := l.prog) (w := w) (base := base) TQ T_Rule m_isinstance m_tuple C_wrong_figure F3
  obtain ⟨ds_M_Rule, v_M_Rule, b_M_Rule⟩ := F3.binds1 (ps := ["self", "parts", "step", "grace", "last", "misses", "keep", "fine", "falls", "back"]) 10 7 (by simp) rfl (fun T kV doc pm an cdv ct us its h1 h2 => match us, its, h1, h2 with | [_, _, _, _, _, _, _, _, _, _], [_, _, _, _, _, _, _], _, _ => ⟨_, rfl, rfl⟩)
  have M_Rule : CMk l.prog w K mg base CR 4 "Rule" ["self", "parts", "step", "grace", "last", "misses", "keep", "fine", "falls", "back"] [] (sp_Rule___init__ K CR) := ⟨_, _, ds_M_Rule, O3, ⟨mk, a3, i3, kc⟩, gC, v_M_Rule, b_M_Rule⟩
  have O4 := ok_Rule_figures (P := l.prog) (w := w) (base := base) TQ T_Rule F4
  have b_C_Rule_figures_0 := F4.bindsN (ps := ["self"]) fun kV doc pm an cdv ct us h => match us, h with | [_], _ => rfl
  have C_Rule_figures_0 : CMt l.prog w K mg base CR 1 "figures" ["self"] [] (sp_Rule_figures K CR) := ⟨_, _, [], O4, ⟨a4, i4, k4⟩, .nil, b_C_Rule_figures_0⟩
  have C__law_mix := ok__law_mix (P := l.prog) (w := w) (base := base) F5 g5 b5
  have C__law_pick := ok__law_pick (P := l.prog) (w := w) (base := base) F6 g6 b6 m_len C__law_mix
  have C__law_drawn_from := ok__law_drawn_from (P := l.prog) (w := w) (base := base) F7 g7 b7 m_len m_abs m_int
  have C__law_keep := ok__law_keep (P := l.prog) (w := w) (base := base) F8 g8 b8 m_tuple m_range C__law_pick
  have C__law_some_rule := ok__law_some_rule (P := l.prog) (w := w) (base := base) F9 g9 b9 m_tuple C__law_pick C__law_keep
  have C__law_same := ok__law_same (P := l.prog) (w := w) (base := base) F10 g10 b10 m_isinstance m_tuple m_list m_all m_zip m_len m_str m_bool m_int
  have C__law_made := ok__law_made (P := l.prog) (w := w) (base := base) F11 g11 b11 TQ T_Rule M_Rule
  have C__law_whole := ok__law_whole (P := l.prog) (w := w) (base := base) F12 g12 b12 m_isinstance m_tuple
  have O13 := ok_Rule___len__ (P := l.prog) (w := w) (base := base) TQ T_Rule m_len F13
  have b_C_Rule___len___0 := F13.bindsN (ps := ["self"]) fun kV doc pm an cdv ct us h => match us, h with | [_], _ => rfl
  have C_Rule___len___0 : CMt l.prog w K mg base CR 1 "__len__" ["self"] [] (sp_Rule___len__ K CR) := ⟨_, _, [], O13, ⟨a13, i13, k13⟩, .nil, b_C_Rule___len___0⟩
  have C_counted := ok_counted (P := l.prog) (w := w) (base := base) F14 g14 b14
  have C_kept_clause := ok_kept_clause (P := l.prog) (w := w) (base := base) F15 g15 b15 m_len m_set m_str C_counted
  have C_clauses_of := ok_clauses_of (P := l.prog) (w := w) (base := base) F16 g16 b16 C_counted C_kept_clause
  have O17 := ok_Rule___str__ (P := l.prog) (w := w) (base := base) TQ T_Rule C_clauses_of C_Rule_figures_0 F17
  have b_C_Rule___str___0 := F17.bindsN (ps := ["self"]) fun kV doc pm an cdv ct us h => match us, h with | [_], _ => rfl
  have C_Rule___str___0 : CTx l.prog w K mg base CR 4 "__str__" (sp_Rule___str__ K CR) := ⟨_, _, O17, ⟨a17, i17⟩, b_C_Rule___str___0⟩
  have O18 := ok_Rule___repr__ (P := l.prog) (w := w) (base := base) TQ T_Rule C_Rule___str___0 F18
  have b_C_Rule___repr___0 := F18.bindsN (ps := ["self"]) fun kV doc pm an cdv ct us h => match us, h with | [_], _ => rfl
  have C_Rule___repr___0 : CTx l.prog w K mg base CR 7 "__repr__" (sp_Rule___repr__ K CR) := ⟨_, _, O18, ⟨a18, i18⟩, b_C_Rule___repr___0⟩
  have O19 := ok_Rule___eq__ (P := l.prog) (w := w) (base := base) TQ T_Rule m_isinstance C_Rule_figures_0 F19
  have b_C_Rule___eq___1 := F19.bindsN (ps := ["self", "other"]) fun kV doc pm an cdv ct us h => match us, h with | [_, _], _ => rfl
  have C_Rule___eq___1 : CEq l.prog w K mg base CR 2 (sp_Rule___eq__ K CR) := ⟨_, _, O19, ⟨a19, i19, q_ne, q_ob, q_tys⟩, b_C_Rule___eq___1⟩
  have C__law_text := ok__law_text (P := l.prog) (w := w) (base := base) F20 g20 b20 m_str m_max m_len m_set m_int C__law_whole
  have C__law_changed := ok__law_changed (P := l.prog) (w := w) (base := base) F21 g21 b21 m_list m_len m_tuple m_isinstance C__law_whole C__law_pick
  have C__law_shown := ok__law_shown (P := l.prog) (w := w) (base := base) F22 g22 b22 TQ T_Rule m_repr m_str m_len C__law_text C__law_same C__law_whole C_Rule_figures_0 C_Rule___repr___0 C_Rule___str___0 C_Rule___len___0
  exact ok_law F23 TQ T_Rule m_range m_min m_len m_set C__law_drawn_from C__law_some_rule C__law_made C__law_whole C__law_changed C__law_shown C__law_text C_Rule___eq___1
end Pw
open PySem PySem.W PyProof.Rows
set_option maxHeartbeats 0 in
theorem PySem.Challenge.cw_partwares_k08_rules_alike_holds : PySem.Challenge.rw_partwares_k08_rules_alike.Holds := by
  w_on; o_law; k_head; (case hw => w_witness2)
  k_fill
  refine L2.walk_of (l := PySem.Challenge.rw_partwares_k08_rules_alike) (n := 63) (k := 11) (x := "_law_script") (CX := fun _ => L2.CX0) (sp := fun w => Pw.sp_law _) rfl (by decide) rfl ⟨rfl, by decide, by decide⟩ (fun w h Y => PySem.W.kIn_of Y) ?F (fun _ _ a ns hl _ hS => ⟨a, ns, rfl, hS, hl, fun _ => rfl⟩) (fun _ _ _ _ _ h => h)
  case F =>
    intro w mg fa h KX G hmg
    refine' Pw.all_mk KX G hmg ?aC ?pg ?hd ?po ?sa ?mk ?kc ?n1 ?n2 ?n3 ?n4 ?n5 ?n6 ?n7 ?n8 ?n9 ?q_ca ?q_cn ?q_ct ?q_ob ?q_ne ?q_ty ?q_ic ?q_s0 ?q_b0 ?q_s1 ?q_b1 ?q_s2 ?q_b2 ?q_s3 ?q_b3 ?q_s4 ?q_b4 ?q_s5 ?q_b5 ?a0 ?l0 ?c0 ?k0 ?a1 ?l1 ?c1 ?k1 ?a2 ?l2 ?c2 ?k2 ?a3 ?l3 ?c3 ?k3 ?i3 ?d3 ?a4 ?l4 ?c4 ?k4 ?i4 ?a5 ?l5 ?c5 ?k5 ?a6 ?l6 ?c6 ?k6 ?a7 ?l7 ?c7 ?k7 ?a8 ?l8 ?c8 ?k8 ?a9 ?l9 ?c9 ?k9 ?a10 ?l10 ?c10 ?k10 ?a11 ?l11 ?c11 ?k11 ?a12 ?l12 ?c12 ?k12 ?a13 ?l13 ?c13 ?k13 ?i13 ?a14 ?l14 ?c14 ?k14 ?a15 ?l15 ?c15 ?k15 ?a16 ?l16 ?c16 ?k16 ?a17 ?l17 ?c17 ?k17 ?i17 ?a18 ?l18 ?c18 ?k18 ?i18 ?a19 ?l19 ?c19 ?k19 ?i19 ?a20 ?l20 ?c20 ?k20 ?a21 ?l21 ?c21 ?k21 ?a22 ?l22 ?c22 ?k22 ?a23 ?l23 ?c23 ?k23 ?z_isinstance ?z_bool ?z_int ?z_tuple ?z_all ?z_len ?z_abs ?z_range ?z_list ?z_zip ?z_str ?z_set ?z_max ?z_repr ?z_min
    (case aC => k_is); (case pg => k_is); (case hd => k_is); (case po => k_is); (case sa => k_is); (case mk => k_is); (case kc => k_is); (case n1 => k_is); (case n2 => k_is); (case n3 => k_is); (case n4 => k_is); (case n5 => k_is); (case n6 => k_is); (case n7 => k_is); (case n8 => k_is); (case n9 => k_is); (case q_ca => k_is); (case q_cn => k_is); (case q_ct => k_is); (case q_ob => k_is); (case q_ne => k_is); (case q_ty => k_is); (case q_ic => k_is); (case q_s0 => k_is); (case q_b0 => k_is); (case q_s1 => k_is); (case q_b1 => k_is); (case q_s2 => k_is); (case q_b2 => k_is); (case q_s3 => k_is); (case q_b3 => k_is); (case q_s4 => k_is); (case q_b4 => k_is); (case q_s5 => k_is); (case q_b5 => k_is); (case a0 => k_is); (case l0 => k_is); (case c0 => k_is); (case k0 => k_is); (case a1 => k_is); (case l1 => k_is); (case c1 => k_is); (case k1 => k_is); (case a2 => k_is); (case l2 => k_is); (case c2 => k_is); (case k2 => k_is); (case a3 => k_is); (case l3 => k_is); (case c3 => k_is); (case k3 => k_is); (case i3 => k_is); (case d3 => k_is); (case a4 => k_is); (case l4 => k_is); (case c4 => k_is); (case k4 => k_is); (case i4 => k_is); (case a5 => k_is); (case l5 => k_is); (case c5 => k_is); (case k5 => k_is); (case a6 => k_is); (case l6 => k_is); (case c6 => k_is); (case k6 => k_is); (case a7 => k_is); (case l7 => k_is); (case c7 => k_is); (case k7 => k_is); (case a8 => k_is); (case l8 => k_is); (case c8 => k_is); (case k8 => k_is); (case a9 => k_is); (case l9 => k_is); (case c9 => k_is); (case k9 => k_is); (case a10 => k_is); (case l10 => k_is); (case c10 => k_is); (case k10 => k_is); (case a11 => k_is); (case l11 => k_is); (case c11 => k_is); (case k11 => k_is); (case a12 => k_is); (case l12 => k_is); (case c12 => k_is); (case k12 => k_is); (case a13 => k_is); (case l13 => k_is); (case c13 => k_is); (case k13 => k_is); (case i13 => k_is); (case a14 => k_is); (case l14 => k_is); (case c14 => k_is); (case k14 => k_is); (case a15 => k_is); (case l15 => k_is); (case c15 => k_is); (case k15 => k_is); (case a16 => k_is); (case l16 => k_is); (case c16 => k_is); (case k16 => k_is); (case a17 => k_is); (case l17 => k_is); (case c17 => k_is); (case k17 => k_is); (case i17 => k_is); (case a18 => k_is); (case l18 => k_is); (case c18 => k_is); (case k18 => k_is); (case i18 => k_is); (case a19 => k_is); (case l19 => k_is); (case c19 => k_is); (case k19 => k_is); (case i19 => k_is); (case a20 => k_is); (case l20 => k_is); (case c20 => k_is); (case k20 => k_is); (case a21 => k_is); (case l21 => k_is); (case c21 => k_is); (case k21 => k_is); (case a22 => k_is); (case l22 => k_is); (case c22 => k_is); (case k22 => k_is); (case a23 => k_is); (case l23 => k_is); (case c23 => k_is); (case k23 => k_is); (case z_isinstance => k_is); (case z_bool => k_is); (case z_int => k_is); (case z_tuple => k_is); (case z_all => k_is); (case z_len => k_is); (case z_abs => k_is); (case z_range => k_is); (case z_list => k_is); (case z_zip => k_is); (case z_str => k_is); (case z_set => k_is); (case z_max => k_is); (case z_repr => k_is); (case z_min => k_is)
