import PyProof.Rows.All
import Wide.All
import OpenK.AllK
import Wide.FinOn
import HandS.Base
import HandS.Call
import HandS.List
import HandS.Comp
import HandS.Ends
import HandS.Iter
import HandS.Text
import HandS.Words
import HandS.WordsList
import HandS.IsInst
import HandS.Style
import HandS.Walk
import HandS.Defaults
import HandS.TupMul
import HandS.Zip
import HandS.MakeKw
import HandS.Set
import HandS.Strs
import HandS.SetKeys
import HandS.FStr
import HandS.Text
import HandS.OwnEq
import HandS.SetFor
import HandS.SetBool
import HandS.SortInts
import HandS.More
import HandS.TupAny
import PyProof.Rows.SortShellAny
import HandS.SortKw
import KE.DatumOrd
import PyProof.InstNe
import KE.KCallOwn
import KE.KFmtOwn
import PyProof.FString
import HandS.Dict
import HandS.Exc
import PyProof.DictUpdate
import HandS.NoneIn
import HandS.Small
import HandS.WordsDict
import HandS.TupSets
import KE.KeyNested
import KE.GoesEnum
import KE.GoesMore
import KE.KDictZip
import KE.KItemsList
import HandS.ExcOwn
import HandS.ExcIs
import HandS.ExcField
import HandS.TryOnly
import HandS.TryMany
import HandS.RaiseMore
import HandS.ExcValue
import HandS.WordsExc
import HandS.Codes
import HandS.Nested
import HandS.ExcInit
import KE.KSuper
import KE.KExcSuper
import KE.KExcIs
import KE.RegKSuper
import PyProof.Rows.ReprOcc
import PyProof.CallStr
import PyProof.Rows.IntBool
import HandS.Star
import HandS.StrSplit
import PyProof.StrLawsTight
import PyProof.StrLawsOcc
import PyProof.StrLawsOccR
import HandS.Conv
import PySem.Challenge.RW_partwares_k68_deeds_as_texts
set_option Elab.async false
set_option linter.all false
set_option maxRecDepth 100000
namespace Pw
open PySem PySem.Spec PyProof.Rows L2
/-! ### a def of the text by its promise, its address left aside -/
structure CF (P : Program) (w : World) (K : PySem.W.Frag) (mg : Str → Option Value) (base : Heap) (k : Nat) (x : Str) (ps : List Str) (sp : Sp) : Prop where
  ex : ∃ (f : Addr) (fd : FuncData), FnOk P w K mg base CX0 k f fd ps sp ∧ mg x = some (.ref f) ∧ PySem.W.keepIn K (.ref f) = true ∧ Binds K fd ps []
theorem pe_cf {X : Cx} {k : Nat} {x : Str} {ps : List Str} {sp : Sp} {e : Expr} {es : List Expr} {t : TA} {p pos : Pos} (C : CF X.prog X.w X.K X.mg X.base k x ps sp) (hr : Room k X.A) (hg : Gl X x) (ha : PA X (e :: es) t)
    (hdb : (x == ("__debug__" : Str)) = false := by decide) (he : starEach (e :: es) X.env = (false, eval e X.env) :: starEach es X.env := by rfl) (hpl : (backTo pos (starEach es X.env)).any (·.1) = false := by rfl) :
    PE X (.Call (.Name x p) (e :: es) [] pos) (tCall sp [] E0 t) := by
  obtain ⟨f, fd, F, g, kp, b⟩ := C.ex
  exact pe_call F hr hg g kp b .nil pass0 ha hdb he hpl
theorem pe_cf0 {X : Cx} {k : Nat} {x : Str} {sp : Sp} {p pos : Pos} (C : CF X.prog X.w X.K X.mg X.base k x [] sp) (hr : Room k X.A) (hg : Gl X x) (hdb : (x == ("__debug__" : Str)) = false := by decide) : PE X (.Call (.Name x p) [] [] pos) (tCall sp [] E0 tNil) := by
  obtain ⟨f, fd, F, g, kp, b⟩ := C.ex
  exact pe_call0 F hr hg g kp b .nil pass0 hdb
/-! ### the rules with their written part named (within a comprehension it must not hang on the block) -/
section
variable (K : PySem.W.Frag) {X : Cx}
theorem kk_isi (h : X.K = K := by rfl) : CallR X (.builtin "isinstance") (rIsi K) := h ▸ call_isi
theorem kk_isiT (h : X.K = K := by rfl) : CallR X (.builtin "isinstance") (rIsiT K) := h ▸ call_isiT
theorem kk_len (h : X.K = K := by rfl) : CallR X (.builtin "len") (fun xs H Q => ∃ p ys, xs = [.ref p] ∧ (SqL K H p ys ∨ SqT K H p ys) ∧ Q (.int ys.length) H) := h ▸ call_len_seq
theorem kk_list (h : X.K = K := by rfl) : CallR X (.type "list") (fun xs H Q => ∃ p ys, xs = [.ref p] ∧ (SqL K H p ys ∨ SqT K H p ys) ∧ ∀ l, H l = none → Q (.ref l) (upd H l (.lst ys))) := h ▸ call_list_of
theorem kk_tuple (h : X.K = K := by rfl) : CallR X (.type "tuple") (fun xs H Q => ∃ p ys, xs = [.ref p] ∧ ((SqL K H p ys ∧ ∀ l, H l = none → Q (.ref l) (upd H l (.tup ys))) ∨ (SqT K H p ys ∧ Q (.ref p) H))) := h ▸ call_tuple_of
theorem kk_sum (hc : X.calm = true) (h : X.K = K := by rfl) : CallR X (.builtin "sum") (rSum K) := h ▸ cr_sum hc
theorem kk_max (hc : X.calm = true) (h : X.K = K := by rfl) : CallR X (.builtin "max") (rMax K) := h ▸ cr_max hc
theorem kk_min (hc : X.calm = true) (h : X.K = K := by rfl) : CallR X (.builtin "min") (rMin K) := h ▸ cr_min hc
theorem kk_any (hc : X.calm = true) (h : X.K = K := by rfl) : CallR X (.builtin "any") (rAny K) := h ▸ cr_any hc
theorem kk_all (hc : X.calm = true) (h : X.K = K := by rfl) : CallR X (.builtin "all") (rAll K) := h ▸ cr_all hc
theorem kk_sorted (h : X.K = K := by rfl) : CallR X (.builtin "sorted") (rSorted K) := h ▸ cr_sorted
theorem kk_ixl (h : X.K = K := by rfl) : IxR X (rIxL K) := h ▸ ix_list
theorem kk_ixt (h : X.K = K := by rfl) : IxR X (rIxT K) := h ▸ ix_tup
theorem kk_sll (h : X.K = K := by rfl) : SlR X (rSlL K) := h ▸ sl_list
theorem kk_slt (h : X.K = K := by rfl) : SlR X (rSlT K) := h ▸ sl_tup
theorem kk_in (h : X.K = K := by rfl) : OpR X (compareOp .In) (rIn K false) := h ▸ op_in_seq
theorem kk_nin (h : X.K = K := by rfl) : OpR X (compareOp .NotIn) (rIn K true) := h ▸ op_notIn_seq
theorem kk_catT (h : X.K = K := by rfl) : OpR X (binaryOp .Add) (rCatT K) := h ▸ op_catT
theorem kk_eqD (hu : X.A.units + 64 < cLine) (h : X.K = K := by rfl) : OpR X (compareOp .Eq) (rEqD K) := h ▸ op_eqD hu
theorem kk_neD (hu : X.A.units + 64 < cLine) (h : X.K = K := by rfl) : OpR X (compareOp .NotEq) (rNeD K) := h ▸ op_neD hu
theorem kk_revL {e : Expr} {te : TE} {k : Nat} {p1 p2 p3 pos : Pos} (he : PE X e te) (h : X.K = K := by rfl) : PE X (.Subscript e (.Slice none none (some (.UnaryOp .USub (.Constant (.int 1) k p1) p2)) p3) pos) (tRevL K te) := h ▸ pe_revL he
end
/-! ### heaps: all as it was, but one place -/
def But (b : Addr) (H H' : Hp) : Prop := ∀ c o, c ≠ b → H c = some o → H' c = some o
theorem But.refl (b : Addr) (H : Hp) : But b H H := fun _ _ _ h => h
theorem But.trans {b : Addr} {H H1 H2 : Hp} (x : But b H H1) (y : But b H1 H2) : But b H H2 := fun c o n h => y c o n (x c o n h)
theorem But.of {b : Addr} {H H1 : Hp} (x : Same H H1) : But b H H1 := fun c o _ h => x c o h
theorem But.upd {b : Addr} {H : Hp} {o : HO} : But b H (L2.upd H b o) := fun c u n h => by
  rw [upd_ne n]
  exact h
theorem But.new {b p : Addr} {H : Hp} {o : HO} (h : H p = none) : But b H (L2.upd H p o) := fun c u _ e => by
  rw [upd_ne (ne_of_none e h)]
  exact e
theorem same_new {H : Hp} {p : Addr} {o : HO} (h : H p = none) : Same H (upd H p o) := fun b x e => by
  rw [upd_ne (ne_of_none e h)]
  exact e
theorem But.seq {K : PySem.W.Frag} {b a : Addr} {H H' : Hp} {xs : List V} (e : But b H H') (n : a ≠ b) (h : SqL K H a xs) : SqL K H' a xs := by
  rcases h with (h | ⟨o, h⟩) | h
  · exact .inl (.inl (e _ _ n h))
  · exact .inl (.inr ⟨o, e _ _ n h⟩)
  · exact .inr h
/-! ### the law's box of three numbers -/
def Box (H : Hp) (b : Addr) (n : Int) : Prop := ∃ x y z : Int, H b = some (.lst [.int x, .int y, .int z]) ∧ 0 ≤ x ∧ 0 ≤ y ∧ y ≤ 3000000000 ∧ 0 ≤ z ∧ z ≤ n
theorem Box.mono {H : Hp} {b : Addr} {n m : Int} (h : Box H b n) (l : n ≤ m) : Box H b m := by
  obtain ⟨x, y, z, h0, h1, h2, h3, h4, h5⟩ := h
  exact ⟨x, y, z, h0, h1, h2, h3, h4, by omega⟩
theorem Box.same {H H' : Hp} {b : Addr} {n : Int} (e : Same H H') (h : Box H b n) : Box H' b n := by
  obtain ⟨x, y, z, h0, h1⟩ := h
  exact ⟨x, y, z, e _ _ h0, h1⟩
theorem Box.new {H : Hp} {b p : Addr} {o : HO} {n : Int} (h : Box H b n) (e : H p = none) : Box (upd H p o) b n := h.same (same_new e)
theorem Box.ne {H : Hp} {b p : Addr} {n : Int} (h : Box H b n) (e : H p = none) : p ≠ b := fun z => by
  obtain ⟨_, _, _, h0, _⟩ := h
  rw [z, h0] at e
  cases e
section
variable {K : PySem.W.Frag}
theorem at_int {ns : List Int} {k : Int} (h0 : 0 ≤ k) (h1 : k < ns.length) : ∃ c, atI (ns.map V.int) k = some (.int c) := by
  obtain ⟨j, rfl⟩ := Int.eq_ofNat_of_zero_le h0
  have hj : j < ns.length := by omega
  refine ⟨ns[j], atI_nat ?_⟩
  rw [List.getElem?_map, List.getElem?_eq_getElem hj]
  rfl
def partsL (p m : Int) : List Int := List.replicate (p % m).toNat (p / m + 1) ++ List.replicate (m - p % m).toNat (p / m)
theorem rep1 {α : Type} (k : Nat) (x : α) : (List.replicate k [x]).flatten = List.replicate k x := by
  induction k with
  | zero => rfl
  | succ n ih => rw [List.replicate_succ, List.flatten_cons, ih]; rfl
theorem size_small {n : Nat} (h : n ≤ 1000) : n ≤ sizeLine := Nat.le_of_lt (small1000 h)
theorem iteN {c A B : Prop} [Decidable c] (hc : ¬ c) (h : B) : if decide c = true then A else B := by
  rw [decide_eq_false hc]
  exact iteF h
theorem iteY {c A B : Prop} [Decidable c] (hc : c) (h : A) : if decide c = true then A else B := by
  rw [decide_eq_true hc]
  exact iteT h
theorem same_but {b : Addr} {H0 H1 H2 : Hp} (s : Same H0 H1) (n : H0 b = none) (t : But b H1 H2) : Same H0 H2 := fun c o h => t c o (fun e => by rw [e, n] at h; cases h) (s c o h)
theorem dpAll_ints {H : Hp} : ∀ ns : List Int, DpAll K H (ns.map V.int) (ns.map PyData.int)
  | [] => .nil
  | n :: r => .cons (.int n) (dpAll_ints r)
theorem dp_ints {H : Hp} {a : Addr} {ns : List Int} (h : SqL K H a (ns.map V.int)) : Dp K H (.ref a) (.list (ns.map PyData.int)) := .lst h (dpAll_ints ns)
theorem lay_ints : ∀ ns : List Int, PyData.canLayAll0 (ns.map PyData.int) = true
  | [] => by simp [PyData.canLayAll0]
  | n :: r => by simp [PyData.canLayAll0, PyData.canLay0, lay_ints r]
theorem depth_ints : ∀ ns : List Int, PyData.depthAll (ns.map PyData.int) ≤ 1
  | [] => by simp [PyData.depthAll]
  | n :: r => by
    have h := depth_ints r
    simp only [List.map_cons, PyData.depthAll, PyData.depth]
    omega
theorem sh_ints (ns : List Int) : SeqAt.shaped (.list (ns.map PyData.int)) = true := by
  have h1 := depth_ints ns
  have h2 : PyData.depth (.list (ns.map PyData.int)) ≤ 64 := by
    simp only [PyData.depth]
    omega
  show (PyData.canLay0 (.list (ns.map PyData.int)) && decide (PyData.depth (.list (ns.map PyData.int)) ≤ 64)) = true
  rw [Bool.and_eq_true]
  exact ⟨by simp only [PyData.canLay0]; exact lay_ints ns, decide_eq_true h2⟩
theorem eqv_same (ns : List Int) : PyData.eqv (.list (ns.map PyData.int)) (.list (ns.map PyData.int)) = true := SeqAt.eqv_refl _ (SeqAt.canLay_of_shaped (sh_ints ns))

theorem sum_rep (k : Nat) (x : Int) : (List.replicate k x).sum = k * x := by
  induction k with
  | zero => simp
  | succ n ih =>
    rw [List.replicate_succ, List.sum_cons, ih, Int.natCast_add, Int.add_mul]
    omega
theorem parts_len {p m : Int} (hm : 1 ≤ m) : ((partsL p m).length : Int) = m := by
  have hr0 := Int.emod_nonneg p (show m ≠ 0 by omega)
  have hr1 := Int.emod_lt_of_pos p (show 0 < m by omega)
  unfold partsL
  rw [List.length_append, List.length_replicate, List.length_replicate]
  omega
theorem parts_sum {p m : Int} (hm : 1 ≤ m) : (partsL p m).sum = p := by
  have hr0 := Int.emod_nonneg p (show m ≠ 0 by omega)
  have hr1 := Int.emod_lt_of_pos p (show 0 < m by omega)
  have e := Int.mul_ediv_add_emod p m
  unfold partsL
  rw [List.sum_append, sum_rep, sum_rep, Int.toNat_of_nonneg hr0, Int.toNat_of_nonneg (by omega), Int.sub_mul, Int.mul_add]
  omega
theorem parts_mem {p m x : Int} (h : x ∈ partsL p m) : x = p / m + 1 ∨ x = p / m := by
  unfold partsL at h
  rcases List.mem_append.mp h with h | h
  · exact .inl (List.eq_of_mem_replicate h)
  · exact .inr (List.eq_of_mem_replicate h)
theorem parts_fall (p m : Int) : (partsL p m).Pairwise (fun a b => b ≤ a) := by
  unfold partsL
  refine List.pairwise_append.mpr ⟨List.pairwise_replicate.mpr (.inr (Int.le_refl _)), List.pairwise_replicate.mpr (.inr (Int.le_refl _)), fun a ha b hb => ?_⟩
  rw [List.eq_of_mem_replicate ha, List.eq_of_mem_replicate hb]
  omega
theorem parts_sorted {p m : Int} {ns : List Int} (h : ns.Perm (partsL p m)) (hs : ns.Pairwise (· ≤ ·)) : ns.reverse = partsL p m := by
  refine List.Perm.eq_of_pairwise (le := fun a b => b ≤ a) (fun x y _ _ h1 h2 => Int.le_antisymm h2 h1) ?_ (parts_fall p m) ((List.reverse_perm ns).trans h)
  exact List.pairwise_reverse.mpr hs
theorem ends_of {ns : List Int} (h : 0 < ns.length) : ∃ x y, x ∈ ns ∧ y ∈ ns ∧ atI (ns.map V.int) 0 = some (.int x) ∧ atI (ns.map V.int) (-1) = some (.int y) := by
  cases ns with
  | nil => cases h
  | cons x r =>
    refine ⟨x, (x :: r).getLast (List.cons_ne_nil _ _), List.mem_cons_self, List.getLast_mem _, atI_nat (j := 0) rfl, ?_⟩
    have hz : ((x :: r).map V.int) = ((x :: r).dropLast.map V.int) ++ [.int ((x :: r).getLast (List.cons_ne_nil _ _))] := by
      rw [← List.map_singleton, ← List.map_append, List.dropLast_concat_getLast]
    rw [hz]
    exact atI_last _ _
theorem all_true (n : Nat) : (List.replicate n true).all id = true := by
  induction n with
  | zero => rfl
  | succ k ih => rw [List.replicate_succ, List.all_cons, ih]; rfl
theorem pick6 {r x : Int} (h0 : 0 ≤ r) (h1 : r < 6) (x0 : 0 ≤ x) (x1 : x ≤ 100) : ∃ c : Int, atI [V.int 0, .int 1, .int 50, .int 99, .int 100, .int x] r = some (.int c) ∧ 0 ≤ c ∧ c ≤ 100 := by
  have h : r = 0 ∨ r = 1 ∨ r = 2 ∨ r = 3 ∨ r = 4 ∨ r = 5 := by omega
  rcases h with rfl | rfl | rfl | rfl | rfl | rfl
  · exact ⟨0, rfl, by decide, by decide⟩
  · exact ⟨1, rfl, by decide, by decide⟩
  · exact ⟨50, rfl, by decide, by decide⟩
  · exact ⟨99, rfl, by decide, by decide⟩
  · exact ⟨100, rfl, by decide, by decide⟩
  · exact ⟨x, rfl, x0, x1⟩
end
end Pw
namespace Pw
open PySem PySem.Spec PyProof.Rows L2
/-! ### texts and data -/
theorem op_mul_str {X : Cx} : OpR X (binaryOp .Mult) (fun x y H Q => ∃ (z : Str) (k : Int), x = .str z ∧ y = .int k ∧ MulOk z k ∧ Q (.str (Txt.mul z k)) H) := by
  intro pins s σ H x y v u Q I rx ry h
  obtain ⟨z, k, rfl, rfl, ok, q⟩ := h
  obtain ⟨t, rfl⟩ := rx
  obtain ⟨t', rfl⟩ := ry
  exact SB.mul ok fun t' tk => ⟨.str _, H, I.tok _, ⟨_, rfl⟩, q⟩
theorem len_app (x y : Str) : (x ++ y).length = x.length + y.length := by
  rw [TL.len_tl, TL.tl_append, List.length_append, ← TL.len_tl, ← TL.len_tl]
def tyD : PyData → String
  | .none => "NoneType"
  | .bool _ => "bool"
  | .int _ => "int"
  | .str _ => "str"
  | .list _ => "list"
  | .tuple _ => "tuple"
  | .dict _ => "dict"
theorem ty_of_dp {K : PySem.W.Frag} {H : Hp} {x : V} {d : PyData} (h : Dp K H x d) : TyX K H x (.type (tyD d)) := by
  cases h with
  | non => exact .base .non
  | bl b => exact .base (.bl b)
  | int i => exact .base (.int i)
  | str z => exact .base (.str z)
  | lst a _ =>
    rcases a with (a | ⟨o, a⟩) | ⟨o, its, n, a, c, _⟩
    · exact .base (.lst a)
    · exact .base (.frz a)
    · exact .kList a c
  | tup a _ =>
    rcases a with (a | ⟨o, a⟩) | ⟨o, its, n, a, c, _⟩
    · exact .base (.tup a)
    · exact .fTuple a
    · exact .kTuple a c
theorem seqT_same {K : PySem.W.Frag} {H H' : Hp} {a : Addr} {xs : List V} (e : Same H H') (h : SqT K H a xs) : SqT K H' a xs := by
  rcases h with (h | ⟨o, h⟩) | h
  · exact .inl (.inl (e _ _ h))
  · exact .inl (.inr ⟨o, e _ _ h⟩)
  · exact .inr h
mutual
theorem dp_same {K : PySem.W.Frag} {H H' : Hp} (e : Same H H') : ∀ {x : V} {d : PyData}, Dp K H x d → Dp K H' x d
  | _, _, .non => .non
  | _, _, .bl b => .bl b
  | _, _, .int i => .int i
  | _, _, .str z => .str z
  | _, _, .lst a b => .lst (e.seq a) (dpAll_same e b)
  | _, _, .tup a b => .tup (seqT_same e a) (dpAll_same e b)
theorem dpAll_same {K : PySem.W.Frag} {H H' : Hp} (e : Same H H') : ∀ {xs : List V} {ds : List PyData}, DpAll K H xs ds → DpAll K H' xs ds
  | _, _, .nil => .nil
  | _, _, .cons a b => .cons (dp_same e a) (dpAll_same e b)
end
/-- the heap without the place b -/
def wo (b : Addr) (H : Hp) : Hp := fun c => if c = b then none else H c
theorem wo_sub (b : Addr) (H : Hp) : Same (wo b H) H := fun c o h => by
  unfold wo at h
  split at h
  · cases h
  · exact h
theorem wo_but {b : Addr} {H H' : Hp} (t : But b H H') : Same (wo b H) (wo b H') := fun c o h => by
  unfold wo at h ⊢
  split at h
  · cases h
  · rename_i n
    rw [if_neg n]
    exact t c o n h
theorem wo_same {b : Addr} {H H' : Hp} (t : Same H H') : Same (wo b H) (wo b H') := wo_but (But.of t)
theorem wo_at {b c : Addr} {H : Hp} {o : HO} (n : c ≠ b) (h : H c = some o) : wo b H c = some o := by
  unfold wo
  rw [if_neg n]
  exact h
def Asc (s : Str) : Prop := ∀ c ∈ TL.tl s, c < 128
theorem Asc.app {x y : Str} (hx : Asc x) (hy : Asc y) : Asc (x ++ y) := fun c hc => by
  rw [TL.tl_append] at hc
  rcases List.mem_append.mp hc with h | h
  · exact hx c h
  · exact hy c h
theorem Asc.cut {x : Str} {lo hi : Option Int} (hx : Asc x) : Asc (cutS x lo hi) := fun c hc => hx c (List.mem_of_mem_drop (List.mem_of_mem_take hc))
theorem Asc.one {c : Nat} (h : c < 128) : Asc ⟨#[c]⟩ := fun d hd => by
  rw [List.mem_singleton.mp (show d ∈ [c] from hd)]
  exact h
/-! ### kinds of data -/
def isT (T t : String) : Bool := decide (t = T) || (decide (T = "int") && decide (t = "bool"))
abbrev isK (T : String) (d : PyData) : Bool := isT T (tyD d)
theorem kit_t : ∀ t ∈ ["NoneType", "bool", "int", "str", "list", "tuple", "dict"], ∀ T ∈ ["int", "bool", "str", "list", "tuple"], kitB t T = some (isT T t) := by decide +kernel
theorem ty_mem (d : PyData) : tyD d ∈ ["NoneType", "bool", "int", "str", "list", "tuple", "dict"] := by
  cases d <;> simp [tyD]
theorem kit_d {K : PySem.W.Frag} {T : String} (hT : T ∈ ["int", "bool", "str", "list", "tuple"]) (d : PyData) : PySem.W.kitOne K (.type (tyD d)) (.type T) = some (isK T d) := kit_ty (kit_t _ (ty_mem d) T hT)
theorem sh_int (i : Int) : SeqAt.shaped (.int i) = true := by
  show (PyData.canLay0 (.int i) && decide (PyData.depth (.int i) ≤ 64)) = true
  simp [PyData.canLay0, PyData.depth]
theorem tuple_mul1 (l : Addr) (items : Array Value) (n : Nat) (dd : Option Addr) (sl : Array (Option Value)) (u : Tok) (hne : items.isEmpty = false) :
    Meets (Builtin.«tuple.__mul__» ⟨[.ref l, .int 1 u], []⟩) (fun _ R s => s.heap.get? l = some { cls := .type "tuple", dict := dd, data := .seq items n, slots := sl } ∧ R (.ok (.ret (Value.ref l))) s) :=
  .of_wp fun prog w A R s h => by
    obtain ⟨hp, g, d, tk, os⟩ := s
    obtain ⟨hl, h⟩ := h
    have f1 := AutoSeq1.idx_int
    wp_walk using wpAny_loadPart' hl
    exact ⟨_, rfl, h⟩
theorem op_rep1 {X : Cx} : OpR X (binaryOp .Mult) (fun x y H Q => ∃ (l : Addr) (xs : List V), x = .ref l ∧ y = .int 1 ∧ SqT X.K H l xs ∧ xs ≠ [] ∧ Q (.ref l) H) := by
  intro pins s σ H x y v u Q I rx ry h
  obtain ⟨l, xs, rfl, rfl, hT, hne, q⟩ := h
  cases rx
  obtain ⟨t, rfl⟩ := ry
  obtain ⟨its, r, ⟨⟨cls, dd, data, sl⟩, ho, hc, n, hd⟩, hs⟩ := I.tuple hT
  simp only at hc hd
  subst hc hd
  have hi : its.toArray.isEmpty = false := by
    cases its with
    | nil => exact absurd (List.eq_nil_of_length_eq_zero (r.length.trans rfl)) hne
    | cons a b => rfl
  refine wpAny_binaryOp_repeat_ref (T := "tuple") (U := "int") (by decide) ⟨_, ho, rfl⟩ (fun s' => typeIs_int s' 1 t) noFill_tuple_mul F.fills_int_mul F.slot_int_rmul repeat_tuple F.slot_int_index.lookup
    (call_meets F.slot_int_rmul (typeIs_int s 1 t) F.entry_int_rmul (F.args_int_rmul_2 _ _) (int_rmul_tuple 1 t l its.toArray n dd sl)
      ⟨ho, rfl, ⟨_, ho, rfl⟩, call_meets F.slot_tuple_mul ⟨_, ho, rfl⟩ F.entry_tuple_mul (F.args_tuple_mul_2 _ _) (tuple_mul1 l its.toArray n dd sl t hi) ⟨ho, ?_⟩⟩)
  exact ⟨.ref l, H, I, rfl, q⟩
def rRepA (K : PySem.W.Frag) : R2 := fun x y H Q => rRepT K x y H Q ∨ ∃ (l : Addr) (xs : List V), x = .ref l ∧ y = .int 1 ∧ SqT K H l xs ∧ xs ≠ [] ∧ Q (.ref l) H
theorem kk_repA (K : PySem.W.Frag) {X : Cx} (h : X.K = K := by rfl) : OpR X (binaryOp .Mult) (rRepA K) := h ▸ OpR.or op_repT op_rep1
/-! ### classes: a method, the making of an instance, by their promises -/
structure CMt (P : Program) (w : World) (K : PySem.W.Frag) (mg : Str → Option Value) (base : Heap) (C : Addr) (k : Nat) (m : Str) (ps : List Str) (dvs : List V) (sp : Sp) : Prop where
  ex : ∃ (f : Addr) (fd : FuncData) (ds : List Value), FnOk P w K mg base CX0 k f fd ps sp ∧ Meth K C m f ∧ Vals dvs ds ∧ Binds K fd ps ds
structure CMk (P : Program) (w : World) (K : PySem.W.Frag) (mg : Str → Option Value) (base : Heap) (C : Addr) (k : Nat) (x : Str) (ps : List Str) (dvs : List V) (sp : Sp) : Prop where
  ex : ∃ (f : Addr) (fd : FuncData) (ds : List Value), FnOk P w K mg base CX0 k f fd ps sp ∧ Mk K C f ∧ mg x = some (.ref C) ∧ Vals dvs ds ∧ Binds K fd ps ds
section
variable {X : Cx} {k : Nat} {C : Addr} {x m : Str} {ps : List Str} {dvs : List V} {sp : Sp} {p pos apos : Pos} {e o : Expr} {es : List Expr} {ta : TE} {t : TA}
theorem pe_mt {pl : Sem Bool} (M : CMt X.prog X.w X.K X.mg X.base C k m ps dvs sp) (c : Cls X.K C) (hr : Room k X.A) (he : PE X o ta) (ha : PA X (e :: es) t)
    (hst : starEach (e :: es) X.env = (false, eval e X.env) :: starEach es X.env := by rfl) (hpl : (backTo pos (starEach es X.env)).any (·.1) = false := by rfl)
    (ht : eval (.Call (.Attribute o m apos) (e :: es) [] pos) X.env = (do
      let ov ← eval o X.env
      standAt apos.atName
      let (f, first) ← holding [ov] (getMethod ov m pl)
      callWith pos f first (backTo pos (starEach (e :: es) X.env)) (backToKw pos (keywordEach [] X.env))) := by rfl) :
    PE X (.Call (.Attribute o m apos) (e :: es) [] pos) (tMeth C m sp dvs E0 ta t) := by
  obtain ⟨f, fd, ds, F, me, vd, b⟩ := M.ex
  exact pe_meth (pl := pl) he c me F hr b vd pass0 ha hst hpl ht
theorem pe_mt0 {pl : Sem Bool} (M : CMt X.prog X.w X.K X.mg X.base C k m ps dvs sp) (c : Cls X.K C) (hr : Room k X.A) (he : PE X o ta)
    (ht : eval (.Call (.Attribute o m apos) [] [] pos) X.env = (do
      let ov ← eval o X.env
      standAt apos.atName
      let (f, first) ← holding [ov] (getMethod ov m pl)
      callWith pos f first (backTo pos (starEach [] X.env)) (backToKw pos (keywordEach [] X.env))) := by rfl) :
    PE X (.Call (.Attribute o m apos) [] [] pos) (tMeth C m sp dvs E0 ta tNil) := by
  obtain ⟨f, fd, ds, F, me, vd, b⟩ := M.ex
  exact pe_meth0 (pl := pl) he c me F hr b vd pass0 ht
theorem pe_mkc (M : CMk X.prog X.w X.K X.mg X.base C k x ps dvs sp) (hr : Room (k + 1) X.A) (hg : Gl X x) (ha : PA X (e :: es) t)
    (hdb : (x == ("__debug__" : Str)) = false := by decide) (he : starEach (e :: es) X.env = (false, eval e X.env) :: starEach es X.env := by rfl) (hpl : (backTo pos (starEach es X.env)).any (·.1) = false := by rfl) :
    PE X (.Call (.Name x p) (e :: es) [] pos) (tMake C sp dvs E0 t) := by
  obtain ⟨f, fd, ds, F, mk, g, vd, b⟩ := M.ex
  exact pe_make mk F hr hg g b vd pass0 ha hdb he hpl
end
/-! ### o.m(e, .., k = v) -/
structure CMtK (P : Program) (w : World) (K : PySem.W.Frag) (mg : Str → Option Value) (base : Heap) (C : Addr) (k : Nat) (m : Str) (ps : List Str) (n : Nat) (ks : List Str) (gV : List V → List V → List V) (sp : Sp) : Prop where
  ex : ∃ (f : Addr) (fd : FuncData) (g : List Value → List Value → List Value), FnOk P w K mg base CX0 k f fd ps sp ∧ Meth K C m f ∧ KBn K fd ps n ks g gV
def tMethK (C : Addr) (m : Str) (n j : Nat) (sp : Sp) (gV : List V → List V → List V) (ta : TE) (t tk : TA) : TE := fun σ H Q => ta σ H fun x H1 => ∃ (a dx : Addr) (fs : List (Str × V)), x = .ref a ∧ H1 a = some (.ins C dx fs) ∧ fs.lookup m = none ∧
  t σ H1 fun vs H2 => tk σ H2 fun zs H3 => (x :: vs).length = n ∧ zs.length = j ∧ sp (gV (x :: vs) zs) H3 Q E0
theorem pe_mtK {X : Cx} {k n : Nat} {C : Addr} {m : Str} {ps ks : List Str} {sp : Sp} {gV : List V → List V → List V} {pos apos : Pos} {e o : Expr} {es : List Expr} {kws : List Keyword} {ta : TE} {t tk : TA} {pl : Sem Bool}
    (M : CMtK X.prog X.w X.K X.mg X.base C k m ps n ks gV sp) (c : Cls X.K C) (hr : Room k X.A) (he : PE X o ta) (ha : PA X (e :: es) t) (hkw : PK X kws tk)
    (hall : (backToKw pos (keywordEach kws X.env)).all (·.1.isSome) = true := by rfl) (hks : (backToKw pos (keywordEach kws X.env)).filterMap (·.1) = ks := by rfl)
    (hst : starEach (e :: es) X.env = (false, eval e X.env) :: starEach es X.env := by rfl)
    (hpl : ((backTo pos (starEach (e :: es) X.env)).any (·.1) || (backToKw pos (keywordEach kws X.env)).any (·.1.isNone)) = false := by rfl)
    (ht : eval (.Call (.Attribute o m apos) (e :: es) kws pos) X.env = (do
      let ov ← eval o X.env
      standAt apos.atName
      let (f, first) ← holding [ov] (getMethod ov m pl)
      callWith pos f first (backTo pos (starEach (e :: es) X.env)) (backToKw pos (keywordEach kws X.env))) := by rfl) :
    PE X (.Call (.Attribute o m apos) (e :: es) kws pos) (tMethK C m n ks.length sp gV ta t tk) := by
  obtain ⟨f, fd, g, F, me, b⟩ := M.ex
  constructor
  intro pins s σ H Q I h
  refine PySem.W.methodCall_KW (pl := pl) (thn (he.run pins s σ H _ I h) ?_) ht
  rintro u s1 ⟨x, H1, I1, rx, a, dx, fs, rfl, ea, l, q⟩
  cases (show u = Value.ref a from rx)
  refine getmeth_ok I1 ea c me l ?_
  refine PySem.W.callWith_KW (first := [.ref a]) (h₀ := X.base) I.ok.mod.kin me.kp hall (thn (ha.run pos pins s1 σ H1 _ I1 q) ?_) hpl hst
  rintro us s2 ⟨vs, H2, I2, r, q2⟩
  refine thn (hkw.run pos pins s2 σ H2 _ I2 q2) ?_
  rintro ws s3 ⟨zs, H3, I3, rz, l1, l2, q3⟩
  refine ⟨I3.kIn, ?_⟩
  rw [hks]
  exact run_fnN (us := .ref a :: us) (vs := .ref a :: vs) F hr b pass0 I3 (.cons rfl r) rz l1 l2 q3
theorem okD {P : Program} {w : World} {K : PySem.W.Frag} {mg : Str → Option Value} {base : Heap} {x qual : Str} {params : Arguments} {body : List Stmt} {scope : Scope} {dvs : List V} {kws : List (Str × V)} {f : Addr} {fd : FuncData} {N ps : List Str} {k : Nat} {sp : Sp}
    (F : FunD K x qual params body scope dvs kws f fd) (S : FnScope N ps scope) (len : ∀ vs H Q E, sp vs H Q E → vs.length = ps.length)
    (walk : ∀ (cdv : Value) (A : Around) (outer : List Env) (s : Shared) (H : Hp) (vs : List V) (Q : VK) (E : XK), Room k (A.deeper (envOfC qual scope s.heap.objs.size f cdv)) → sp vs H Q E →
      ∃ t, PSs (cxOf CX0 P w K mg base N qual scope f cdv A outer s H E).nox body t ∧ t { nx := fun _ H' => Q .non H', rt := Q } (start N vs) H) : FnOk P w K mg base CX0 (k + 1) f fd ps sp := by
  refine F.ok S len (fun cdv A outer s H vs Q E hr h => ?_)
  obtain ⟨t, ht, q⟩ := walk cdv A outer s H vs Q E hr h
  exact ⟨t, ht.nox, q⟩
/-! ### numbers in bounds, what is kept -/
def numIn : PyData → Int → Int → Bool
  | .int i, lo, hi => decide (lo ≤ i) && decide (i ≤ hi)
  | _, _, _ => false
def keptOk : PyData → PyData → Bool
  | .tuple ds, e => PyData.eqv (.int (ds.length : Int)) e && ds.all fun d => numIn d 0 100
  | d, _ => numIn d 0 100
def firstWrong (ws : List (Str × Bool)) : V := match ws.find? (fun p => !p.2) with
  | some p => .str p.1
  | none => .non
theorem firstWrong_at {ws : List (Str × Bool)} {i : Nat} {w : Str} (h : ∀ p ∈ ws.take i, p.2 = true) (hi : ws[i]? = some (w, false)) : firstWrong ws = .str w := by
  have hs : ws = ws.take i ++ (w, false) :: ws.drop (i + 1) := by
    obtain ⟨hl, he⟩ := List.getElem?_eq_some_iff.mp hi
    rw [← he, List.getElem_cons_drop, List.take_append_drop]
  unfold firstWrong
  rw [hs, List.find?_append, List.find?_eq_none.mpr (fun p hp => by rw [h p hp]; decide)]
  rfl
theorem firstWrong_none {ws : List (Str × Bool)} (h : ∀ p ∈ ws, p.2 = true) : firstWrong ws = .non := by
  unfold firstWrong
  rw [List.find?_eq_none.mpr (fun p hp => by rw [h p hp]; decide)]
theorem dpAll_len {K : PySem.W.Frag} {H : Hp} : ∀ {xs : List V} {ds : List PyData}, DpAll K H xs ds → xs.length = ds.length
  | _, _, .nil => rfl
  | _, _, .cons _ b => by rw [List.length_cons, List.length_cons, dpAll_len b]
theorem dpAll_get {K : PySem.W.Frag} {H : Hp} : ∀ {xs : List V} {ds : List PyData} {i : Nat} {x : V}, DpAll K H xs ds → xs[i]? = some x → ∃ d, ds[i]? = some d ∧ Dp K H x d
  | _, _, 0, _, .cons a _, h => ⟨_, rfl, by cases (Option.some.inj h); exact a⟩
  | _, _, i + 1, _, .cons _ b, h => dpAll_get (i := i) b h
  | _, _, _, _, .nil, h => by simp at h
/-! ### a block over an iterator of a known length; zip of two lists, of two tuples -/
theorem lc_gen {J : It} {n : Nat} {g : TG} {tt : TT} {te : TE} {vs : List Nat} {σ : L2.St} {H1 : Hp} {D : Addr} {Qd : Hp → Prop} (Pv : Nat → Hp → Prop) (first : Pv 0 (upd H1 D (.lst [])))
    (can : ∀ i H, Pv i H → (i < n → J.go i H) ∧ (i = n → J.stop i H))
    (turn : ∀ i H v H', i < n → Pv i H → J.yld i H v H' → g v (wipe σ vs) H' fun σ2 H2 => wipe σ2 vs = wipe σ vs ∧ tt σ2 H2 fun b H3 => if b = true then te σ2 H3 fun y H4 => ∃ acc, H4 D = some (.lst acc) ∧ acc.length < sizeLine ∧ Pv (i + 1) (upd H4 D (.lst (acc ++ [y]))) else Pv (i + 1) H3)
    (last : ∀ H, Pv n H → Qd H) :
    ∃ W : Nat → Nat → Hp → Prop, (∃ m, W 0 m (upd H1 D (.lst []))) ∧ ∀ i m H, W i m H → (J.stop i H ∧ Qd H) ∨ (J.go i H ∧ ∃ Nx : Hp → Prop, (∀ H', Nx H' → ∃ m', m' < m ∧ W (i + 1) m' H') ∧ ∀ x H', J.yld i H x H' → g x (wipe σ vs) H' fun σ2 H2 => wipe σ2 vs = wipe σ vs ∧ tt σ2 H2 fun b H3 => if b = true then te σ2 H3 fun y H4 => ∃ acc, H4 D = some (.lst acc) ∧ acc.length < sizeLine ∧ Nx (upd H4 D (.lst (acc ++ [y]))) else Nx H3) := by
  refine ⟨fun i m H => m + i = n ∧ Pv i H, ⟨n, by omega, first⟩, ?_⟩
  intro i m H hw
  obtain ⟨e, p⟩ := hw
  by_cases c : i < n
  · exact .inr ⟨(can i H p).1 c, Pv (i + 1), fun H' p' => ⟨n - (i + 1), by omega, by omega, p'⟩, fun v H' y => turn i H v H' c p y⟩
  · have z : i = n := by omega
    exact .inl ⟨(can i H p).2 z, last H (z ▸ p)⟩
section
variable {K : PySem.W.Frag} {a b : Addr} {xs ys : List V}
theorem canL {H : Hp} {i : Nat} (l : xs.length = ys.length) (x : SqL K H a xs) (y : SqL K H b ys) : (i < xs.length → (Itz K a b).go i H) ∧ (i = xs.length → (Itz K a b).stop i H) :=
  ⟨fun c => ⟨xs, ys, _, _, x, y, List.getElem?_eq_getElem c, List.getElem?_eq_getElem (l ▸ c)⟩, fun c => ⟨xs, ys, x, y, .inl (by omega)⟩⟩
theorem canT {H : Hp} {i : Nat} (l : xs.length = ys.length) (x : SqT K H a xs) (y : SqT K H b ys) : (i < xs.length → (RZ.ItzT K a b).go i H) ∧ (i = xs.length → (RZ.ItzT K a b).stop i H) :=
  ⟨fun c => ⟨xs, ys, _, _, x, y, List.getElem?_eq_getElem c, List.getElem?_eq_getElem (l ▸ c)⟩, fun c => ⟨xs, ys, x, y, .inl (by omega)⟩⟩
end
/-! ### data of short lists -/
mutual
def thin : PyData → Bool
  | .list xs => decide (xs.length ≤ 1000) && thinAll xs
  | .tuple xs => decide (xs.length ≤ 1000) && thinAll xs
  | _ => true
def thinAll : List PyData → Bool
  | [] => true
  | x :: r => thin x && thinAll r
end
theorem thin_at {d : PyData} : ∀ {ds : List PyData} {i : Nat}, thinAll ds = true → ds[i]? = some d → thin d = true
  | e :: r, 0, h, he => by
    cases he
    simp only [thinAll, Bool.and_eq_true] at h
    exact h.1
  | e :: r, i + 1, h, he => by
    simp only [thinAll, Bool.and_eq_true] at h
    exact thin_at (i := i) h.2 he
theorem depth_at {d : PyData} : ∀ {ds : List PyData} {i : Nat}, ds[i]? = some d → PyData.depth d ≤ PyData.depthAll ds
  | e :: r, 0, he => by
    cases he
    simp only [PyData.depthAll]
    omega
  | e :: r, i + 1, he => by
    have := depth_at (i := i) (ds := r) he
    simp only [PyData.depthAll]
    omega
theorem kitLT {K : PySem.W.Frag} (d : PyData) : PySem.W.kitAny K (.type (tyD d)) [.type "list", .type "tuple"] = some (isK "list" d || isK "tuple" d) := by
  unfold PySem.W.kitAny
  rw [kit_d (by decide)]
  cases isK "list" d with
  | true => rfl
  | false =>
    unfold PySem.W.kitAny
    rw [kit_d (by decide)]
    cases isK "tuple" d <;> rfl
theorem qY {c : Prop} [Decidable c] {Q : VK} {H : Hp} (hc : c) (q : Q (.bl true) H) : Q (.bl (decide c)) H := by
  rw [decide_eq_true hc]
  exact q
theorem rep_snoc (i : Nat) : (List.replicate i true).map V.bl ++ [V.bl true] = (List.replicate (i + 1) true).map V.bl := by
  rw [List.map_replicate, List.map_replicate, List.replicate_succ']
/-! ### len of an instance by its class's own def; a walk over a list or a tuple -/
theorem call_lenO {X : Cx} {C : Addr} {k : Nat} {sp : Sp} (M : CMt X.prog X.w X.K X.mg X.base C k "__len__" ["self"] [] sp) (hr : Room (k + 1) X.A) :
    CallR X (.builtin "len") (fun xs H Q => ∃ (r dx : Addr) (fs : List (Str × V)), xs = [.ref r] ∧ H r = some (.ins C dx fs) ∧ sp [.ref r] H (fun v H' => ∃ n : Int, v = .int n ∧ 0 ≤ n ∧ n < 1000000 ∧ Q (.int n) H') E0) := by
  intro pins s σ H xs us Q I rv h
  obtain ⟨r, dx, fs, rfl, ea, h⟩ := h
  obtain ⟨f, fd, ds, F, me, vd, hb⟩ := M.ex
  cases vd
  cases rv with
  | cons e rr =>
    cases rr
    cases e
    obtain ⟨mA, O, _⟩ := ins_get I.hok ea
    obtain ⟨od, J, _⟩ := O.look
    refine Calls.call_function_entry kind_len plain_len entry_len (args_len1 _) ?_
    unfold Builtin.«len»
    refine wpAny_bind (wpAny_pure ?_)
    refine wpAny_bind (PySem.W.special_fn (args := []) I.kIn J me.at_ (beq_iff_eq.mp me.fn) ?_)
    have hl : ([Value.ref r] ++ ([] : List Value)).length = (["self"] : List Str).length := rfl
    refine wpAny_call (codeAny_mono (F.run X.A.in1 X.stack s H ⟨[.ref r], []⟩ [.ref r] [.ref r] _ _ hr.in1 I.env0.in1 (hb s [.ref r] I.kIn hl) (.cons rfl .nil) h) fun x s' hq => ?_)
    cases x with
    | error e => exact pass0 pins σ H s e s' I hq
    | ok fl =>
      cases fl with
      | ret u =>
        obtain ⟨v, H', I', rv, n, rfl, n0, n1, q⟩ := I.after hq
        obtain ⟨t, rfl⟩ := rv
        refine wpAny_bind (wpAny_holding (wpAny_pure ?_))
        refine wpAny_bind (wpAny_letGo ?_)
        show wpAny _ _ (if n < 0 then _ else _) _ _ _
        rw [if_neg (by omega)]
        show wpAny _ _ (if n ≥ 2 ^ 63 then _ else _) _ _ _
        rw [if_neg (by omega)]
        exact wpAny_bind (wpAny_mkInt (wpAny_pure ⟨_, rfl, .int n, H', I'.tok _, ⟨_, rfl⟩, q⟩))
      | next => exact False.elim hq
      | brk => exact False.elim hq
      | cont => exact False.elim hq
theorem pi_or {X : Cx} {tg e : Expr} {w1 w2 : TI} (h : PI X tg e w1) (h' : PI X tg e w2) : PI X tg e (fun σ H R => w1 σ H R ∨ w2 σ H R) :=
  ⟨fun pins s σ H R I q => q.elim (h.run pins s σ H R I) (h'.run pins s σ H R I)⟩
/-! ### sets of numbers: in rising order, of a list, by a block -/
section
variable {P : Program} {w : World} {A : Around} {E : Value → Shared → Prop} {s : Shared}
theorem rise_set {a : Addr} {S : Int → Bool} {n : Nat} {Q : Value → Shared → Prop} (there : SetR w s.heap a S n) (free : A.handled = none)
    (then_ : ∀ (s' : Shared) (p : Addr) (out : Array Value) (c : Nat) (ns : List Int), (∀ b o, s.heap.get? b = some o → s'.heap.get? b = some o) → s'.gens = s.gens → s'.os = s.os → s.heap.objs.size ≤ p →
      s'.heap.get? p = some (seqObj "list" out c) → IntsAre out.toList ns → ns.Pairwise (· < ·) → (∀ k, k ∈ ns ↔ S k = true) → ns.length = n → n < scanBound → Q (.ref p) s') :
    wpAny (model P w) A (call (.builtin "sorted") [.ref a]) Q E s := by
  obtain ⟨ob, es, ep, tb, hob, hex, hdat, good, nodup, mem, small, fits, size, ris, led⟩ := there
  have big : n ≤ sizeLine := by rw [← size]; exact fits_of_scanBound small
  refine Calls.call_function_entry kind_sorted plain_sorted entry_sorted (args_sorted1 _) ?_
  unfold Builtin.«sorted»
  refine wpAny_bind (m := checkCount "sorted" 1 1 _) (wpAny_pure (wpAny_bind (collect_set (A := A.in1) free ⟨ob, hob, hex.1, hdat⟩ fits small ris led fun s1 vs k1 z1 g1 o1 pm => ?_)))
  have many : vs.length = n := by rw [pm.length_eq, List.length_map, Array.length_toList, size]
  have nums : IntsAre vs (vs.map Builtin.Re.reRawOf) := ints_of vs fun v hv => by
    obtain ⟨e, he, ev⟩ := List.mem_map.mp (pm.mem_iff.mp hv)
    obtain ⟨k, tk, ek, _⟩ := good e he
    exact ⟨k, tk, ev.symm.trans ek⟩
  have same : (vs.map Builtin.Re.reRawOf).Perm (es.toList.map keyOf) := by
    have := pm.map Builtin.Re.reRawOf
    rw [List.map_map] at this
    exact this
  refine wpAny_bind (wpAny_newList ?_ (by rw [many]; exact big))
  have laid : (s1.heap.push (seqObj "list" vs.toArray 0)).get? s1.heap.objs.size = some (seqObj "list" vs.toArray 0) := Heap.get?_push_size _ rfl
  refine wpAny_bind (wpAny_holding (wpAny_call_entry slot_list_sort ⟨_, laid, rfl⟩ entry_list_sort (list_sort_treeAny laid nums (by rw [many]; exact big) fun out ns' x1 x2 x3 => ⟨_, rfl, ?_⟩) (args_list_sort _)))
  obtain ⟨c, hc⟩ := sortedHeap_at (vs := vs) (out := out) laid
  have pn := x2.trans same
  refine wpAny_pure ⟨_, rfl, then_ _ s1.heap.objs.size out c ns' (fun b u e => ?_) g1 o1 z1 hc x1 (lt_of_le_nodup ns' x3 (pn.nodup_iff.mpr nodup)) (fun k => by rw [pn.mem_iff, mem k]) (by rw [pn.length_eq, List.length_map, Array.length_toList, size]) (by rw [← size]; exact small)⟩
  have old := k1 b u e
  have below := Heap.lt_size old
  show (sortedHeap (s1.heap.push (seqObj "list" vs.toArray 0)) s1.heap.objs.size vs out).get? b = some u
  rw [sortedHeap_old (Nat.ne_of_lt below) (by rw [size_push']; exact Nat.lt_succ_of_lt below)]
  exact Heap.get?_push_of_some _ old
end
section
variable {X : Cx}
def rSortedSN (w : World) : List V → Hp → VK → Prop := fun vs H Q => ∃ (a : Addr) (S : Int → Bool) (n : Nat), vs = [V.ref a] ∧ H a = some (SetO w a S n) ∧
  ∀ (ns : List Int) (p : Addr), ns.Pairwise (· < ·) → (∀ k : Int, k ∈ ns ↔ S k = true) → ns.length = n → H p = none → Q (.ref p) (upd H p (.lst (ns.map V.int)))
theorem cr_sortedSN (calm : X.calm = true) : CallR X (.builtin "sorted") (rSortedSN X.w) := fun pins s σ H vs us Q I r h => by
  obtain ⟨a, S, n, rfl, ha, q⟩ := h
  rw [Vals.ref1 r]
  refine rise_set (setO_get I ha) (I.ok.hd calm) fun s' p out c ns k g o hp hg hi hs hm hl hsm => ?_
  have fit : (ns.map V.int).length ≤ sizeLine := by rw [List.length_map, hl]; exact fits_of_scanBound hsm
  have new : H p = none := I.hok.fresh hp
  have J : Inv X pins σ (upd H p (.lst (ns.map V.int))) { s with heap := s'.heap, gens := s'.gens, drawn := s'.drawn, toks := s'.toks } :=
    I.call (ch := []) (Un.laid k hp new) (I.hok.laid k hp ⟨fit, out.toList, c, vals_of_ints hi, hg⟩) (by rw [g]; exact I.bare) (fun _ z => nomatch z)
  have whole : s' = { s with heap := s'.heap, gens := s'.gens, drawn := s'.drawn, toks := s'.toks } := by
    cases s'
    cases s
    cases o
    rfl
  rw [whole]
  exact ⟨.ref p, _, J, rfl, q ns p hs hm hl new⟩
/-- one number more -/
theorem add_num {pins : List (Addr × Obj)} {σ : L2.St} {H : Hp} {s : Shared} {E : Value → Shared → Prop} {D : Addr} {S : Int → Bool} {n : Nat} {y : Int} {tk : Tok} {Q : Value → Shared → Prop} (I : Inv X pins σ H s) (hD : H D = some (SetO X.w D S n)) (room : n + 1 < scanBound)
    (h : ∀ s', Inv X pins σ (upd H D (SetO X.w D (fun j => S j || decide (j = y)) (if S y = true then n else n + 1))) s' → Q .none s') : wpAny (model X.prog X.w) X.A (call (.builtin "set.add") [.ref D, .int y tk]) Q E s := by
  refine setR_add (setO_get I hD) room fun h' but new => h _ ?_
  obtain ⟨o, es, ep, tb, ho, rest⟩ := id new
  exact I.write (e := D) (t' := s.toks + 1) (by rw [hD]; trivial) (.inl rfl) (fun b u hb hu => (but.2 b hb).trans hu) ⟨o, ho⟩ (setO_new new)
/-- {elt for target in iter if ..}, elt a number; D the new set -/
def tScI (w : World) (wi : TI) (g : TG) (tt : TT) (te : TE) (vs : List Nat) : TE := fun σ H Q => wi σ H fun J G => ∀ D, G D = none → ∃ W : Nat → Nat → Hp → Prop, (∃ m, W 0 m (upd G D (SetO w D (fun _ => false) 0))) ∧ ∀ i m H, W i m H →
  (J.stop i H ∧ Q (.ref D) H) ∨ (J.go i H ∧ ∃ Nx : Hp → Prop, (∀ H', Nx H' → ∃ m', m' < m ∧ W (i + 1) m' H') ∧ ∀ x H', J.yld i H x H' → g x (wipe σ vs) H' fun σ2 H2 => wipe σ2 vs = wipe σ vs ∧ tt σ2 H2 fun b H3 =>
    if b = true then te σ2 H3 fun y H4 => ∃ (c : Int) (S : Int → Bool) (n : Nat), y = .int c ∧ H4 D = some (SetO w D S n) ∧ n + 1 < scanBound ∧ Nx (upd H4 D (SetO w D (fun j => S j || decide (j = c)) (if S c = true then n else n + 1))) else Nx H3)
abbrev emptyS (w : World) : Obj := { cls := .type "set", dict := none, data := .set #[] 0 (.fresh 0 0 (!w.params.followText "set-order")) }
theorem pe_scI {elt tg iter : Expr} {ifs : List Expr} {scope : Scope} {own : List (PySem.Str × Nat)} {pos : Pos} {wi : TI} {g : TG} {tt : TT} {te : TE} (calm : X.calm = true) (nd : X.N.Nodup) (walk : PI X tg iter wi) (ok : BlkOk X.N X.env.scope scope own)
    (hg : ∀ (s : Shared) (H : Hp) (C : Addr) (cl : List (PySem.Str × Addr)) (fp : List Addr), PG (X.blk s H scope (compEnvC scope cl C X.env) fp) tg g)
    (ht : ∀ (s : Shared) (H : Hp) (C : Addr) (cl : List (PySem.Str × Addr)) (fp : List Addr), PTs (X.blk s H scope (compEnvC scope cl C X.env) fp) ifs tt)
    (he : ∀ (s : Shared) (H : Hp) (C : Addr) (cl : List (PySem.Str × Addr)) (fp : List Addr), PE (X.blk s H scope (compEnvC scope cl C X.env) fp) elt te)
    (fold : ∀ x, foldedSetIterable iter X.env x = pure x := by intro _; rfl) :
    PE X (.SetComp elt [⟨tg, iter, ifs, 0⟩] scope pos) (tScI X.w wi g tt te (own.map (·.2))) := by
  refine ⟨fun pins s σ H Q I h => ?_⟩
  rw [PpSet.eval_SetComp]
  have captured : ∀ y ∈ scope.names, y.2 = .free → ∃ c, X.env.cells.lookup y.1 = some c := fun y hy e => (ok.free y hy e).elim (fun k => I.ok.has _ (.inl k)) (fun k => I.ok.has _ (.inr k))
  refine wpAny_comprehension_free (use := none) rfl fold (closure_ok captured) ok.kind (fun y hy e => by rw [ok.uniq y hy, e]) (thn (walk.run pins s σ H _ I h) fun xv s1 hx => thn hx fun itv s2 h2 => ?_)
  obtain ⟨it, fp, tn, J, H2, rfl, I2, T, st2, f2, q⟩ := h2
  refine PpSet.newSet_ok (newEnv_comp ?_)
  generalize atD : s2.heap.objs.size = D
  have freshD : H2 D = none := I2.hok.fresh (Nat.le_of_eq atD)
  obtain ⟨W, ⟨m0, w0⟩, turn⟩ := q D freshD
  generalize at3 : ({ s2 with heap := s2.heap.push (emptyS X.w) } : Shared) = s3
  have heap3 : s3.heap = s2.heap.push (emptyS X.w) := by rw [← at3]
  have I3 : Inv X pins σ (upd H2 D (SetO X.w D (fun _ => false) 0)) s3 := by
    rw [← at3]
    refine I2.laid (t' := s2.toks) (fun b o e => Heap.get?_push_of_some _ e) (Nat.le_of_eq atD) (setO_new ?_)
    rw [← atD]
    exact setR_fresh X.w
  have low : ∀ b ∈ fp, b < s2.heap.objs.size := fun b hb => by
    obtain ⟨o, e, _⟩ := T.obj _ _ st2 b hb
    exact Heap.lt_size e
  have f3 : ∀ b ∈ fp, FpOk X pins (upd H2 D (SetO X.w D (fun _ => false) 0)) b ∧ b < s3.heap.objs.size := fun b hb => by
    have lt := low b hb
    refine ⟨⟨?_, (f2 b hb).2⟩, by rw [heap3, Heap.size_push]; exact Nat.lt_succ_of_lt lt⟩
    rw [upd_ne (by rw [← atD]; exact Nat.ne_of_lt lt)]
    exact (f2 b hb).1
  have st3 : tn 0 s3.heap := T.keep _ _ _ st2 fun b _ o e => by rw [heap3]; exact Heap.get?_push_of_some _ e
  have I4 := block_start I3 ok nd f3
  generalize cells : cellsFrom (s3.heap.objs.size + 1) scope.names (cloFrom X.env.cells scope.names []) = cl at I4 ⊢
  have pg := hg s3 (upd H2 D (SetO X.w D (fun _ => false) 0)) s3.heap.objs.size cl fp
  have pt := ht s3 (upd H2 D (SetO X.w D (fun _ => false) 0)) s3.heap.objs.size cl fp
  have pe := he s3 (upd H2 D (SetO X.w D (fun _ => false) 0)) s3.heap.objs.size cl fp
  have none3 : ∀ b ∈ fp, (upd H2 D (SetO X.w D (fun _ => false) 0)) b = none := fun b hb => (f3 b hb).1.1
  show codeAny _ _ (.compStart (.SetComp elt [⟨tg, iter, ifs, 0⟩] scope pos) 0 (.ref it) (.ref D) (compEnvC scope cl s3.heap.objs.size X.env)) (compPost (model X.prog X.w) X.A X.xe none _ (.ref D) s3.heap.objs.size) { s3 with heap := pushCells (s3.heap.push { cls := .type "dict", data := .dict #[] }) scope.names }
  generalize inner : compEnvC scope cl s3.heap.objs.size X.env = ce at I4 pg pt pe ⊢
  have cL : ce.locals = s3.heap.objs.size := by rw [← inner]; rfl
  generalize upd H2 D (SetO X.w D (fun _ => false) 0) = H3 at I3 I4 pg pt pe w0 none3 f3
  generalize at4 : ({ s3 with heap := pushCells (s3.heap.push { cls := .type "dict", data := .dict #[] }) scope.names } : Shared) = s4 at I4 ⊢
  have st4 : tn 0 s4.heap := T.keep _ _ _ st3 fun b _ o e => by rw [← at4]; exact pushCells_keeps _ _ _ _ (Heap.get?_push_of_some _ e)
  have still : ∀ {σ' : L2.St} {H' : Hp} {s' : Shared}, Inv (X.blk s3 H3 scope ce fp) [] σ' H' s' → (∀ b ∈ fp, H' b = none) → ∀ b ∈ fp, FpOk (X.blk s3 H3 scope ce fp) [] H' b := fun {σ' H' s'} I' hn b hb =>
    ⟨hn b hb, (I'.ok.exf b hb).1, I'.ok.exfs b hb, .inl hb, fun x c e => (I'.ok.exf b hb).2 x c e, fun p hp => absurd (show p ∈ ([] : List (Addr × Obj)) ++ [] from hp) (by simp)⟩
  have loop : codeAny (model X.prog X.w) X.A (.compLoop (.SetComp elt [⟨tg, iter, ifs, 0⟩] scope pos) 0 (.ref it) (.ref D) ce) (compPost (model X.prog X.w) X.A X.xe none (fun u s' => ∃ v H', Inv X pins σ H' s' ∧ RelV v u ∧ Q v H') (.ref D) s3.heap.objs.size) s4 := by
    refine PpSet.compLoopS_any (fun n s' => ∃ i H', Inv (X.blk s3 H3 scope ce fp) [] (wipe σ (own.map (·.2))) H' s' ∧ tn i s'.heap ∧ (∀ b ∈ fp, H' b = none) ∧ W i n H') (fun n s5 now => ?_) m0 ⟨0, H3, I4, st4, none3, w0⟩
    obtain ⟨i, H5, I5, st5, n5, w5⟩ := now
    rcases turn i n H5 w5 with ⟨stop, fin⟩ | ⟨go, Nx, less, step⟩
    · refine thnF (T.done (X.blk s3 H3 scope ce fp) rfl rfl rfl calm i [] s5 _ H5 (fun _ _ => False) I5 (still I5 n5) st5 stop) fun r s6 ⟨er, I6⟩ => ?_
      subst er
      have I7 : Inv X pins σ H5 s6 := I3.call' (ch := fp) I6.os I6.base I6.hok I6.bare fun b hb => ⟨(f3 b hb).1.2.2.2.1, (f3 b hb).1.2.1, (f3 b hb).1.2.2.2.2.1, (f3 b hb).1.2.2.2.2.2⟩
      have gone : H5 s3.heap.objs.size = none := by
        have z : H5 ce.locals = none := I6.free
        rwa [cL] at z
      obtain ⟨m, hn, _⟩ := I6.loc
      have hn : s6.heap.Ns ce.locals m := hn
      rw [cL] at hn
      obtain ⟨f0, f1, f2', f3', f4, f5⟩ := I3.fpOk (Nat.le_refl _) gone
      exact ⟨m, hn, fun h'' sb => ⟨.ref D, H5, I7.turned (t' := s6.toks) (fun b o hb e => (sb.2 b hb).trans e) f0 f1 f3' f4 f5, rfl, fin⟩⟩
    · refine thnF (T.item (X.blk s3 H3 scope ce fp) rfl rfl rfl calm i [] s5 _ H5 (fun _ _ => False) I5 (still I5 n5) st5 go) fun r s6 ⟨u, er, h6⟩ => ?_
      subst er
      refine thnF h6 fun _ s7 ⟨x, H7, I7, r7, y7, st7, n7⟩ => ?_
      refine thnF (pg.run _ s7 _ H7 x u _ (I7.pinned (still I7 n7) (T.obj _ _ st7)) r7 (step x H7 y7)) fun _ s8 ⟨σ8, H8, I8, hw8, q8⟩ => ?_
      refine thnF (pt.run _ s8 σ8 H8 _ I8 q8) fun b s9 ⟨H9, I9, q9⟩ => ?_
      have close : ∀ {s' : Shared} {H' : Hp}, Inv (X.blk s3 H3 scope ce fp) ([] ++ pinsAt fp s7.heap) σ8 H' s' → Nx H' → ∃ m, m < n ∧ ∃ i H', Inv (X.blk s3 H3 scope ce fp) [] (wipe σ (own.map (·.2))) H' s' ∧ tn i s'.heap ∧ (∀ b ∈ fp, H' b = none) ∧ W i m H' := fun {s' H'} I' nx => by
        obtain ⟨m', lt, w'⟩ := less H' nx
        have pinned : ∀ b ∈ fp, ∀ o, s7.heap.get? b = some o → s'.heap.get? b = some o ∧ H' b = none := fun b hb o e =>
          let z := I'.pin (b, o) (List.mem_append_right _ (List.mem_append_right _ (mem_pinsAt hb e)))
          ⟨z.1, z.2.1⟩
        refine ⟨m', lt, i + 1, H', (I'.unpinned (pins := [])).weak (by rw [← hw8, wipe_length]) (fun j v e => ?_), T.keep _ _ _ st7 fun b hb o e => (pinned b hb o e).1, fun b hb => ?_, w'⟩
        · rw [← hw8] at e
          exact (wipe_some e).1
        · obtain ⟨o, e, _⟩ := T.obj _ _ st7 b hb
          exact (pinned b hb o e).2
      cases b with
      | false =>
        simp only [Bool.false_eq_true, if_false] at q9 ⊢
        exact close I9 q9
      | true =>
        simp only [if_true] at q9 ⊢
        refine thnF (pe.run _ s9 σ8 H9 _ I9 q9) fun z s10 ⟨yv, H10, I10, r10, c, S0, n0, ey, hD10, hz10, nx⟩ => ?_
        subst ey
        obtain ⟨tk, rfl⟩ := r10
        exact add_num (X := X.blk s3 H3 scope ce fp) I10 hD10 hz10 fun s11 I11 => close I11 nx
  exact PpSet.codeAny_compStart_set loop (T.self X.A 0 _ _ _ st4 loop)
end
/-! set(xs), xs a list of numbers -/
section
variable {P : Program} {w : World} {A : Around} {E : Value → Shared → Prop} {s : Shared}
set_option maxHeartbeats 6000000 in
theorem set_of_list {l : Addr} {items : Array Value} {ns : List Int} {Q : Value → Shared → Prop} (free : A.handled = none) (list : s.heap.IsList l items) (nums : IntsAre items.toList ns) (room : ns.length + 1 < scanBound)
    (then_ : ∀ (h' : Heap) (tk c : Nat), SetR w h' s.heap.objs.size (fun j => decide (j ∈ ns)) c → c ≤ ns.length → (∀ b o, s.heap.get? b = some o → h'.get? b = some o) → Q (.ref s.heap.objs.size) { s with heap := h', toks := tk }) :
    wpAny (model P w) A (call (.type "set") [.ref l]) Q E s := by
  have many : items.size = ns.length := by
    have := IntsAre.length nums
    rwa [Array.length_toList] at this
  obtain ⟨first, rest, mro⟩ := F.called_set.mro
  have made := F.called_set.made
  have sub := F.called_set.sub
  have notT := F.called_set.notType
  have can := F.called_set.canCreate
  have one := F.typeCall_set_1 (.ref l)
  refine wpAny_call (codeAny_of_tree ?_)
  show wpAny _ _ (callAny (.type "set") _) _ _ _
  refine wpAny_pure ⟨Code.quiet_builtin _ (by decide +kernel), codeAny_builtin F.entry_type_call ?_⟩
  rw [Around.under_plain (weight_type_call_type "set" [.ref l] []) rfl]
  repeat (any_goals (first | assumption | wp_step))
  refine codeAny_mono (code_set_led1 (.ref l) (E := E) (Q₁ := fun v s1 => v = .ref s.heap.objs.size ∧ s1 = { s with heap := s.heap.push (emptyS w) }) ⟨rfl, rfl⟩) fun r s1 hr => ?_
  match r, hr with
  | .error e, hr => exact hr
  | .ok (.ret _), ⟨e1, e2⟩ =>
    subst e1 e2
    have stands : (s.heap.push (emptyS w)).get? s.heap.objs.size = some (emptyS w) := Heap.get?_push_size _ rfl
    have typed : Shared.TypeIs { s with heap := s.heap.push (emptyS w) } (.ref s.heap.objs.size) "set" := ⟨_, stands, rfl⟩
    have look := F.called_set.init.lookup
    have bound := F.called_set.init.bind (.ref s.heap.objs.size)
    repeat (any_goals (first | assumption | wp_step))
    refine codeAny_mono (codeAny_call_builtin (R := wants (fun r s2 => r = .none ∧ ∃ h' tk c, s2 = { s with heap := h', toks := tk } ∧ SetR w h' s.heap.objs.size (fun j => decide (j ∈ ns)) c ∧ c ≤ ns.length ∧ (∀ b o, s.heap.get? b = some o → h'.get? b = some o)) E) F.called_set.init.plain F.entry_set_init (check_set_init_1 typed ?_)) fun r2 s2 hr2 => ?_
    · obtain ⟨⟨cl, dc, dt, sl⟩, at_, ecl, nl, edt⟩ := list
      simp only at ecl edt
      subst ecl edt
      have at2 : (s.heap.push (emptyS w)).get? l = some { cls := .type "list", dict := dc, data := .seq items nl, slots := sl } := Heap.get?_push_of_some _ at_
      have n1 := F.sub_list_set
      have n2 := F.sub_list_frozenset
      have n3 : (Value.type "list" == Value.type "dict") = false := by decide
      have list2 : (s.heap.push (emptyS w)).IsList l items := ⟨_, at2, rfl, nl, rfl⟩
      unfold Builtin.«set.__init__» noKeywords Builtin.Frozenset.updateFrom
      generalize iterAs : pyIter = PI
      wp_walk
      subst iterAs
      refine wpAny_pyIter_list list2 (wpAny_bind (wpAny_runValue ?_))
      have ll : l < s.heap.objs.size := Heap.lt_size at_
      have sz : (s.heap.push (emptyS w)).objs.size = s.heap.objs.size + 1 := Heap.size_push ..
      have free3 : A.in1.in1.in1.handled = none := by simp [free]
      have unlike : l ≠ (s.heap.push (emptyS w)).objs.size := by rw [sz]; exact Nat.ne_of_lt (Nat.lt_succ_of_lt ll)
      have out : s.heap.objs.size ∉ [(s.heap.push (emptyS w)).objs.size, l] := by
        rw [sz]
        simp only [List.mem_cons, List.mem_singleton, List.not_mem_nil, or_false, not_or]
        exact ⟨Nat.ne_of_lt (Nat.lt_succ_self _), Nat.ne_of_gt ll⟩
      have vals : ∀ (i : Nat) (v : Value), items[i]? = some v → ∃ k t, ns[i]? = some k ∧ v = .int k t := fun i v hv => by
        have hi : i < ns.length := by rw [← many]; exact (Array.getElem?_eq_some_iff.mp hv).1
        obtain ⟨t, e⟩ := PyProof.Rows.IntsAre.int_at nums i v (by rw [Array.getElem?_toList]; exact hv)
        exact ⟨ns[i], t, List.getElem?_eq_getElem hi, by rw [e, List.getD_eq_getElem?_getD, List.getElem?_eq_getElem hi] <;> rfl⟩
      refine set_update_ints ((Walks.list free3 _ l unlike items).toS) s.heap.objs.size out ns many room vals (items.size - 0) 0 _ (by omega) (Nat.zero_le _) ⟨⟨_, Heap.get?_push_size _ rfl, rfl, rfl⟩, (list2.push _)⟩ ⟨0, Nat.le_refl 0, setR_new_at (Heap.get?_push_of_some _ stands)⟩ fun s' c' mv hc' hS' => ?_
      obtain ⟨h', g2, d', tk', os'⟩ := s'
      have eg : g2 = s.gens := mv.gens
      have ed : d' = s.drawn := mv.drawn
      have eo : os' = s.os := mv.os
      subst eg ed eo
      show wpAny _ _ _ _ _ _
      refine wpAny_pure ?_
      show wpAny _ _ (ret Value.none) _ _ _
      rw [many] at hc'
      refine wpAny_pure ⟨rfl, h', tk', c', rfl, hS', hc', fun b o e => ?_⟩
      have below : b < s.heap.objs.size := Heap.lt_size e
      refine mv.heap b o ?_ (Heap.get?_push_of_some _ (Heap.get?_push_of_some _ e))
      simp only [List.mem_cons, List.mem_singleton, List.not_mem_nil, or_false, not_or]
      exact ⟨Nat.ne_of_lt below, by rw [sz]; exact Nat.ne_of_lt (Nat.lt_succ_of_lt below)⟩
    · match r2, hr2 with
      | .error e, hr2 => exact hr2
      | .ok (.ret _), ⟨e1, h', tk, c', e2, hS', hc', hk'⟩ =>
        subst e1 e2
        repeat (any_goals (first | assumption | wp_step))
        exact then_ _ _ _ hS' hc' hk'
end
section
variable {X : Cx}
def rSetI (K : PySem.W.Frag) (w : World) : List V → Hp → VK → Prop := fun xs H Q => ∃ (l : Addr) (ns : List Int), xs = [.ref l] ∧ SqL K H l (ns.map V.int) ∧ ns.length < 4000 ∧ ∀ p c, H p = none → c ≤ ns.length → Q (.ref p) (upd H p (SetO w p (fun j => decide (j ∈ ns)) c))
theorem cr_setI (calm : X.calm = true) : CallR X (.type "set") (rSetI X.K X.w) := fun pins s σ H xs us Q I r h => by
  obtain ⟨l, ns, rfl, hs, small, q⟩ := h
  rw [Vals.ref1 r]
  obtain ⟨its, rv, hl, _⟩ := I.list hs
  refine set_of_list (I.ok.hd calm) hl.isList (ints_of_vals rv) (by unfold scanBound; omega) fun h' tk c new hc keep => ?_
  exact ⟨.ref _, upd H s.heap.objs.size (SetO X.w s.heap.objs.size (fun j => decide (j ∈ ns)) c), I.laid (t' := tk) keep (Nat.le_refl _) (setO_new new), rfl, q _ c (I.hok.fresh (Nat.le_refl _)) hc⟩
theorem kk_sortedSN (w : World) (calm : X.calm = true) (h : X.w = w := by rfl) : CallR X (.builtin "sorted") (rSortedSN w) := h ▸ cr_sortedSN calm
theorem kk_setI (K : PySem.W.Frag) (w : World) (calm : X.calm = true) (h1 : X.K = K := by rfl) (h2 : X.w = w := by rfl) : CallR X (.type "set") (rSetI K w) := by
  subst h1 h2
  exact cr_setI calm
end
/-! ### lists of tuples: the addresses beside what stands there -/
abbrev refs {α : Type} (L : List (Addr × α)) : List V := L.map fun q => V.ref q.1
def RowsAt {α : Type} (f : α → List V) (H : Hp) (L : List (Addr × α)) : Prop := ∀ q ∈ L, H q.1 = some (.tup (f q.2))
section
variable {α : Type} {f : α → List V} {H H' : Hp} {L M : List (Addr × α)} {K : PySem.W.Frag}
theorem RowsAt.same (h : RowsAt f H L) (e : Same H H') : RowsAt f H' L := fun q hq => e _ _ (h q hq)
theorem RowsAt.sub (h : RowsAt f H L) (e : ∀ q ∈ M, q ∈ L) : RowsAt f H M := fun q hq => h q (e q hq)
theorem RowsAt.but {b : Addr} {xs : List V} (h : RowsAt f H L) (hb : H b = some (.lst xs)) (t : But b H H') : RowsAt f H' L := fun q hq => t _ _ (ne_of (h q hq) hb (by intro z; cases z)) (h q hq)
theorem RowsAt.updL {D : Addr} {xs : List V} {o : HO} (h : RowsAt f H L) (hD : H D = some (.lst xs)) : RowsAt f (upd H D o) L := fun q hq => by
  rw [upd_ne (ne_of (h q hq) hD (by intro z; cases z))]
  exact h q hq
theorem RowsAt.snoc {q : Addr × α} (h : RowsAt f H L) (hq : H q.1 = some (.tup (f q.2))) : RowsAt f H (L ++ [q]) := fun x hx => by
  rcases List.mem_append.mp hx with y | y
  · exact h x y
  · rw [List.mem_singleton.mp y]
    exact hq
theorem RowsAt.nil : RowsAt f H ([] : List (Addr × α)) := fun _ h => (nomatch h)
theorem refs_at {i : Nat} {x : V} (h : (refs L)[i]? = some x) : ∃ q, L[i]? = some q ∧ x = .ref q.1 ∧ q ∈ L := by
  rw [List.getElem?_map] at h
  obtain ⟨q, hq, rfl⟩ := Option.map_eq_some_iff.mp h
  exact ⟨q, hq, rfl, List.mem_of_getElem? hq⟩
end
theorem refs_snoc {α : Type} (S : List (Addr × α)) (q : Addr × α) : refs (S ++ [q]) = refs S ++ [V.ref q.1] := by
  unfold refs
  rw [List.map_append]
  rfl
/-! what walks a list or a tuple that stands still -/
def JOk (H : Hp) (J : It) (xs : List V) : Prop := ∀ i G, Same H G → (i < xs.length → J.go i G) ∧ (i = xs.length → J.stop i G) ∧ ∀ x G', J.yld i G x G' → G' = G ∧ xs[i]? = some x
section
variable {K : PySem.W.Frag} {H : Hp} {a : Addr} {xs : List V}
theorem jok_l (h : SqL K H a xs) : JOk H (Itl K a) xs := fun i G s => by
  have q := s.seq h
  exact ⟨fun c => ⟨xs, _, q, List.getElem?_eq_getElem c⟩, fun c => ⟨xs, q, by omega⟩, fun x G' y => ⟨y.1, y.2 xs q⟩⟩
theorem jok_t (h : SqT K H a xs) : JOk H (Itt K a) xs := fun i G s => by
  have q := seqT_same s h
  exact ⟨fun c => ⟨xs, _, q, List.getElem?_eq_getElem c⟩, fun c => ⟨xs, q, by omega⟩, fun x G' y => ⟨y.1, y.2 xs q⟩⟩
theorem walk_or {σ : L2.St} {j : Nat} {R : It → Hp → Prop} (hv : σ[j]? = some (some (.ref a))) (hS : SqL K H a xs ∨ SqT K H a xs) (h : ∀ J, JOk H J xs → R J H) : iList K (tVar j) σ H R ∨ iTup K (tVar j) σ H R := by
  rcases hS with hS | hS
  · exact .inl ⟨_, hv, a, rfl, ⟨_, hS⟩, h _ (jok_l hS)⟩
  · exact .inr ⟨_, hv, a, rfl, ⟨_, hS⟩, h _ (jok_t hS)⟩
theorem walk_l {σ : L2.St} {j : Nat} {R : It → Hp → Prop} (hv : σ[j]? = some (some (.ref a))) (hS : SqL K H a xs) (h : ∀ J, JOk H J xs → R J H) : iList K (tVar j) σ H R := ⟨_, hv, a, rfl, ⟨_, hS⟩, h _ (jok_l hS)⟩
end
section
variable {α : Type} {f : α → List V} {H : Hp} {L : List (Addr × α)} {J : It} {g : TG} {tt : TT} {te : TE} {vs : List Nat} {σ : L2.St} {D : Addr} {Qd : Hp → Prop}
theorem take_snoc {β : Type} {l : List β} {i : Nat} {x : β} (h : l[i]? = some x) : l.take (i + 1) = l.take i ++ [x] := by
  rw [List.take_add_one, h]
  rfl
theorem filt_snoc {β : Type} {p : β → Bool} {l : List β} {x : β} : (l ++ [x]).filter p = l.filter p ++ (if p x = true then [x] else []) := by
  rw [List.filter_append, List.filter_cons]
  rfl
/-- a block over rows that takes some thing of some rows -/
theorem rows_lc (p : α → Bool) (el : Addr × α → V) (ok : JOk H J (refs L)) (hR : RowsAt f H L) (small : L.length ≤ 1000) (hD : H D = none)
    (turn : ∀ q ∈ L, ∀ G, Same H G → G q.1 = some (.tup (f q.2)) → ∀ (Y : VK) (N : Hp → Prop), (p q.2 = true → Y (el q) G) → (p q.2 = false → N G) → g (.ref q.1) (wipe σ vs) G fun σ2 H2 => wipe σ2 vs = wipe σ vs ∧ tt σ2 H2 fun b H3 => if b = true then te σ2 H3 Y else N H3)
    (last : ∀ G, Same H G → G D = some (.lst ((L.filter fun q => p q.2).map el)) → Qd G) :
    ∃ W : Nat → Nat → Hp → Prop, (∃ m, W 0 m (upd H D (.lst []))) ∧ ∀ i m H, W i m H → (J.stop i H ∧ Qd H) ∨ (J.go i H ∧ ∃ Nx : Hp → Prop, (∀ H', Nx H' → ∃ m', m' < m ∧ W (i + 1) m' H') ∧ ∀ x H', J.yld i H x H' → g x (wipe σ vs) H' fun σ2 H2 => wipe σ2 vs = wipe σ vs ∧ tt σ2 H2 fun b H3 =>
      if b = true then te σ2 H3 fun y H4 => ∃ acc, H4 D = some (.lst acc) ∧ acc.length < sizeLine ∧ Nx (upd H4 D (.lst (acc ++ [y]))) else Nx H3) := by
  have ln : (refs L).length = L.length := List.length_map ..
  refine lc_gen (n := L.length) (fun i G => Same H G ∧ G D = some (.lst (((L.take i).filter fun q => p q.2).map el))) ⟨same_new hD, upd_same⟩ (fun i G h => ?_) (fun i G v G' hi h y => ?_) (fun G h => ?_)
  · have := ok i G h.1
    rw [ln] at this
    exact ⟨this.1, this.2.1⟩
  · obtain ⟨rfl, hx⟩ := (ok i G h.1).2.2 v G' y
    obtain ⟨q, hq, rfl, hm⟩ := refs_at hx
    have le : (((L.take i).filter fun q => p q.2).map el).length ≤ i := by
      rw [List.length_map]
      exact Nat.le_trans (List.length_filter_le _ _) (by rw [List.length_take]; omega)
    refine turn q hm G' h.1 (h.1 _ _ (hR q hm)) _ _ (fun hp => ⟨_, h.2, Nat.lt_of_le_of_lt le (small1000 (by omega)), fun c o e => ?_, ?_⟩) (fun hp => ⟨h.1, ?_⟩)
    · rw [upd_ne (ne_of_none e hD)]
      exact h.1 _ _ e
    · rw [upd_same, take_snoc hq, filt_snoc, if_pos hp, List.map_append]
      rfl
    · rw [h.2, take_snoc hq, filt_snoc, if_neg (by rw [hp]; decide), List.append_nil]
  · obtain ⟨s, e⟩ := h
    rw [List.take_of_length_le (Nat.le_refl _)] at e
    exact last G s e
/-- a block over rows that makes a new tuple of some rows -/
theorem rows_lcA {β : Type} {f2 : β → List V} (p : α → Bool) (el : α → β) (ok : JOk H J (refs L)) (hR : RowsAt f H L) (small : L.length ≤ 1000) (hD : H D = none)
    (turn : ∀ q ∈ L, ∀ G, Same H G → G q.1 = some (.tup (f q.2)) → ∀ (Y : VK) (N : Hp → Prop), (p q.2 = true → ∀ t, G t = none → Y (.ref t) (upd G t (.tup (f2 (el q.2))))) → (p q.2 = false → N G) → g (.ref q.1) (wipe σ vs) G fun σ2 H2 => wipe σ2 vs = wipe σ vs ∧ tt σ2 H2 fun b H3 => if b = true then te σ2 H3 Y else N H3)
    (last : ∀ G (S : List (Addr × β)), Same H G → G D = some (.lst (refs S)) → RowsAt f2 G S → S.map (·.2) = ((L.map (·.2)).filter p).map el → Qd G) :
    ∃ W : Nat → Nat → Hp → Prop, (∃ m, W 0 m (upd H D (.lst []))) ∧ ∀ i m H, W i m H → (J.stop i H ∧ Qd H) ∨ (J.go i H ∧ ∃ Nx : Hp → Prop, (∀ H', Nx H' → ∃ m', m' < m ∧ W (i + 1) m' H') ∧ ∀ x H', J.yld i H x H' → g x (wipe σ vs) H' fun σ2 H2 => wipe σ2 vs = wipe σ vs ∧ tt σ2 H2 fun b H3 =>
      if b = true then te σ2 H3 fun y H4 => ∃ acc, H4 D = some (.lst acc) ∧ acc.length < sizeLine ∧ Nx (upd H4 D (.lst (acc ++ [y]))) else Nx H3) := by
  have ln : (refs L).length = L.length := List.length_map ..
  refine lc_gen (n := L.length) (fun i G => Same H G ∧ ∃ S : List (Addr × β), G D = some (.lst (refs S)) ∧ RowsAt f2 G S ∧ S.map (·.2) = (((L.take i).map (·.2)).filter p).map el) ⟨same_new hD, [], upd_same, .nil, rfl⟩ (fun i G h => ?_) (fun i G v G' hi h y => ?_) (fun G h => ?_)
  · have := ok i G h.1
    rw [ln] at this
    exact ⟨this.1, this.2.1⟩
  · obtain ⟨s, S, e, hS, hm⟩ := h
    obtain ⟨rfl, hx⟩ := (ok i G s).2.2 v G' y
    obtain ⟨q, hq, rfl, hmem⟩ := refs_at hx
    have le : (refs S).length ≤ i := by
      rw [List.length_map, ← List.length_map (f := (·.2)) (as := S), hm, List.length_map]
      exact Nat.le_trans (List.length_filter_le _ _) (by rw [List.length_map, List.length_take]; omega)
    have e1 : ((L.take (i + 1)).map (·.2)) = (L.take i).map (·.2) ++ [q.2] := by
      rw [take_snoc hq, List.map_append]
      rfl
    refine turn q hmem G' s (s _ _ (hR q hmem)) _ _ (fun hp t ht => ⟨_, same_new ht _ _ e, Nat.lt_of_le_of_lt le (small1000 (by omega)), fun c o ec => ?_, S ++ [(t, el q.2)], ?_, ?_, ?_⟩) (fun hp => ⟨s, S, e, hS, ?_⟩)
    · rw [upd_ne (ne_of_none ec hD)]
      exact same_new ht _ _ (s _ _ ec)
    · rw [upd_same, refs_snoc]
    · refine ((hS.same (same_new ht)).updL (same_new ht _ _ e)).snoc ?_
      show (upd (upd G' t _) D _) t = _
      rw [upd_ne (fun z => by rw [z, e] at ht; cases ht), upd_same]
    · rw [List.map_append, hm, e1, filt_snoc, if_pos hp, List.map_append]
      rfl
    · rw [hm, e1, filt_snoc, if_neg (by rw [hp]; decide), List.append_nil]
  · obtain ⟨s, S, e, hS, hm⟩ := h
    rw [List.take_of_length_le (Nat.le_refl _)] at hm
    exact last G S s e hS hm
end
section
variable {α : Type} {f : α → List V} {H : Hp} {L : List (Addr × α)} {J : It} {g : TG} {tt : TT} {te : TE} {vs : List Nat} {σ : L2.St} {D : Addr} {Qd : Hp → Prop}
/-- a set by a block over rows -/
theorem rows_sc {w : World} (key : α → Int) (ok : JOk H J (refs L)) (hR : RowsAt f H L) (small : L.length ≤ 1000) (hD : H D = none)
    (turn : ∀ q ∈ L, ∀ G, Same H G → G q.1 = some (.tup (f q.2)) → ∀ (Y : VK) (N : Hp → Prop), Y (.int (key q.2)) G → g (.ref q.1) (wipe σ vs) G fun σ2 H2 => wipe σ2 vs = wipe σ vs ∧ tt σ2 H2 fun b H3 => if b = true then te σ2 H3 Y else N H3)
    (last : ∀ G n, Same H G → n ≤ L.length → G D = some (SetO w D (fun k => decide (k ∈ L.map fun q => key q.2)) n) → Qd G) :
    ∃ W : Nat → Nat → Hp → Prop, (∃ m, W 0 m (upd H D (SetO w D (fun _ => false) 0))) ∧ ∀ i m H, W i m H → (J.stop i H ∧ Qd H) ∨ (J.go i H ∧ ∃ Nx : Hp → Prop, (∀ H', Nx H' → ∃ m', m' < m ∧ W (i + 1) m' H') ∧ ∀ x H', J.yld i H x H' → g x (wipe σ vs) H' fun σ2 H2 => wipe σ2 vs = wipe σ vs ∧ tt σ2 H2 fun b H3 =>
      if b = true then te σ2 H3 fun y H4 => ∃ (c : Int) (S : Int → Bool) (n : Nat), y = .int c ∧ H4 D = some (SetO w D S n) ∧ n + 1 < scanBound ∧ Nx (upd H4 D (SetO w D (fun j => S j || decide (j = c)) (if S c = true then n else n + 1))) else Nx H3) := by
  have ln : (refs L).length = L.length := List.length_map ..
  refine ⟨fun i m G => m + i = L.length ∧ Same H G ∧ ∃ n, n ≤ i ∧ G D = some (SetO w D (fun k => decide (k ∈ (L.take i).map fun q => key q.2)) n), ⟨L.length, by omega, same_new hD, 0, Nat.le_refl _, ?_⟩, fun i m G now => ?_⟩
  · rw [upd_same]
    congr 2
  · obtain ⟨em, s, n, le, e⟩ := now
    obtain ⟨c1, c2, c3⟩ := ok i G s
    rw [ln] at c1 c2
    by_cases c : i < L.length
    · refine .inr ⟨c1 c, fun G' => Same H G' ∧ ∃ n, n ≤ i + 1 ∧ G' D = some (SetO w D (fun k => decide (k ∈ (L.take (i + 1)).map fun q => key q.2)) n), fun G' z => ⟨m - 1, by omega, by omega, z.1, z.2⟩, fun x G' y => ?_⟩
      obtain ⟨rfl, hx⟩ := c3 x G' y
      obtain ⟨q, hq, rfl, hmem⟩ := refs_at hx
      refine turn q hmem G' s (s _ _ (hR q hmem)) _ _ ⟨_, _, _, rfl, e, by unfold scanBound; omega, fun c o ec => ?_, (if decide (key q.2 ∈ (L.take i).map fun q => key q.2) = true then n else n + 1), ?_, ?_⟩
      · rw [upd_ne (ne_of_none ec hD)]
        exact s _ _ ec
      · split <;> omega
      · rw [upd_same]
        congr 2
        funext k
        rw [take_snoc hq, List.map_append, List.map_singleton]
        by_cases z : k = key q.2
        · simp [z]
        · simp [z]
    · have z : i = L.length := by omega
      rw [z, List.take_of_length_le (Nat.le_refl _)] at e
      exact .inl ⟨c2 z, last G n s (by omega) e⟩
end
/-! ### len(set(t)), t a tuple of numbers -/
section
variable {X : Cx}
theorem one_iff {l : List Int} (nd : l.Nodup) : l.length = 1 ↔ ∃ k, ∀ j, j ∈ l ↔ j = k := by
  constructor
  · intro h
    match l, h with
    | [k], _ => exact ⟨k, fun j => by simp⟩
  · rintro ⟨k, h⟩
    match l, nd, h with
    | [], _, h => exact absurd ((h k).mpr rfl) (by simp)
    | [_], _, _ => rfl
    | a :: b :: r, nd, h =>
      have e1 := (h a).mp (by simp)
      have e2 := (h b).mp (by simp)
      rw [List.nodup_cons] at nd
      exact absurd (show a ∈ b :: r by rw [e1, e2]; exact List.mem_cons_self) nd.1
def tLenSetT (K : PySem.W.Frag) (ta : TE) : TE := fun σ H Q => ta σ H fun x H1 => ∃ (l : Addr) (ns : List Int), x = .ref l ∧ SqT K H1 l (ns.map V.int) ∧ ns.length < 4000 ∧ ∀ c : Nat, (c = 1 ↔ ∃ k, ∀ j, j ∈ ns ↔ j = k) → Q (.int c) H1
theorem pe_lenSetT {a : Expr} {ta : TE} {p p2 q pos : Pos} (hg : Gl X "len") (hm : X.mg "len" = none) (hg2 : Gl X "set") (hm2 : X.mg "set" = none) (ha : PE X a ta) (hc : X.calm = true := by rfl)
    (na : starEach [a] X.env = (false, eval a X.env) :: starEach [] X.env := by rfl) : PE X (.Call (.Name "len" p) [.Call (.Name "set" p2) [a] [] q] [] pos) (tLenSetT X.K ta) := by
  refine ⟨fun pins s σ H Q I h => ?_⟩
  refine Call_ (ld_blt I hg hm boot_len ?_)
  refine PyProof.Rows.callWith_builtin1 (PyProof.Rows.args_cons ?_ rfl) rfl rfl
  refine Call_ (ld_blt I hg2 hm2 boot_set ?_)
  refine PyProof.Rows.callWith_type1 (PyProof.Rows.args_cons (thn (ha.run pins s σ H _ I h) fun v s1 ⟨x, H1, I1, r1, q1⟩ => PyProof.Rows.args_nil ?_) na) na rfl
  obtain ⟨l, ns, rfl, hq, hl, q1⟩ := q1
  cases r1
  obtain ⟨its, r, pl, hz⟩ := I1.tuple hq
  refine call_set_tupI ns (I1.ok.hd hc) pl (by simpa using intsAre_of r) (by unfold scanBound; omega) fun h' tk c hS hcn hk => ?_
  refine PyProof.Rows.args_nil ?_
  obtain ⟨o, es, ep, t, ho, hex, hd, _, nd, hmem, _, hf, hn, _⟩ := hS
  have I2 : Inv X pins σ H1 { s1 with heap := h', toks := tk } := I1.kept fun b o e => hk b o e
  have e1 := one_iff nd
  rw [List.length_map, Array.length_toList, hn] at e1
  refine call_len_set ho hex hd hf (by rw [hn]; omega) ⟨.int c, H1, I2.tok _, ⟨_, by rw [hn]⟩, q1 c (e1.trans ?_)⟩
  constructor
  · rintro ⟨k, hk⟩
    exact ⟨k, fun j => by rw [← hk j, ← hmem j, decide_eq_true_eq]⟩
  · rintro ⟨k, hk⟩
    exact ⟨k, fun j => by rw [← hk j, ← hmem j, decide_eq_true_eq]⟩
end
section
variable {H : Hp} {xs : List V} {J : It} {g : TG} {tt : TT} {te : TE} {vs : List Nat} {σ : L2.St} {D : Addr} {Qd : Hp → Prop}
/-- a block over the items of a list or a tuple, one item made of each -/
theorem vals_lc (el : V → V) (ok : JOk H J xs) (small : xs.length ≤ 1000) (hD : H D = none)
    (turn : ∀ x ∈ xs, ∀ G, Same H G → ∀ (Y : VK) (N : Hp → Prop), (∀ G', Same G G' → Y (el x) G') → g x (wipe σ vs) G fun σ2 H2 => wipe σ2 vs = wipe σ vs ∧ tt σ2 H2 fun b H3 => if b = true then te σ2 H3 Y else N H3)
    (last : ∀ G, Same H G → G D = some (.lst (xs.map el)) → Qd G) :
    ∃ W : Nat → Nat → Hp → Prop, (∃ m, W 0 m (upd H D (.lst []))) ∧ ∀ i m H, W i m H → (J.stop i H ∧ Qd H) ∨ (J.go i H ∧ ∃ Nx : Hp → Prop, (∀ H', Nx H' → ∃ m', m' < m ∧ W (i + 1) m' H') ∧ ∀ x H', J.yld i H x H' → g x (wipe σ vs) H' fun σ2 H2 => wipe σ2 vs = wipe σ vs ∧ tt σ2 H2 fun b H3 =>
      if b = true then te σ2 H3 fun y H4 => ∃ acc, H4 D = some (.lst acc) ∧ acc.length < sizeLine ∧ Nx (upd H4 D (.lst (acc ++ [y]))) else Nx H3) := by
  refine lc_gen (n := xs.length) (fun i G => Same H G ∧ G D = some (.lst ((xs.take i).map el))) ⟨same_new hD, upd_same⟩ (fun i G h => ⟨(ok i G h.1).1, (ok i G h.1).2.1⟩) (fun i G v G' hi h y => ?_) (fun G h => ?_)
  · obtain ⟨rfl, hx⟩ := (ok i G h.1).2.2 v G' y
    refine turn v (List.mem_of_getElem? hx) G' h.1 _ _ fun G2 s2 => ⟨_, s2 _ _ h.2, ?_, fun c o e => ?_, ?_⟩
    · rw [List.length_map, List.length_take]
      exact small1000 (by omega)
    · rw [upd_ne (ne_of_none e hD)]
      exact s2 _ _ (h.1 _ _ e)
    · rw [upd_same, take_snoc hx, List.map_append]
      rfl
  · obtain ⟨s, e⟩ := h
    rw [List.take_of_length_le (Nat.le_refl _)] at e
    exact last G s e
/-- a block over the items of a list or a tuple, those that pass kept -/
theorem pass_lc (p : V → Bool) (ok : JOk H J xs) (small : xs.length ≤ 1000) (hD : H D = none)
    (turn : ∀ x ∈ xs, ∀ G, Same H G → ∀ (Y : VK) (N : Hp → Prop), (p x = true → ∀ G', Same G G' → Y x G') → (p x = false → ∀ G', Same G G' → N G') → g x (wipe σ vs) G fun σ2 H2 => wipe σ2 vs = wipe σ vs ∧ tt σ2 H2 fun b H3 => if b = true then te σ2 H3 Y else N H3)
    (last : ∀ G, Same H G → G D = some (.lst (xs.filter p)) → Qd G) :
    ∃ W : Nat → Nat → Hp → Prop, (∃ m, W 0 m (upd H D (.lst []))) ∧ ∀ i m H, W i m H → (J.stop i H ∧ Qd H) ∨ (J.go i H ∧ ∃ Nx : Hp → Prop, (∀ H', Nx H' → ∃ m', m' < m ∧ W (i + 1) m' H') ∧ ∀ x H', J.yld i H x H' → g x (wipe σ vs) H' fun σ2 H2 => wipe σ2 vs = wipe σ vs ∧ tt σ2 H2 fun b H3 =>
      if b = true then te σ2 H3 fun y H4 => ∃ acc, H4 D = some (.lst acc) ∧ acc.length < sizeLine ∧ Nx (upd H4 D (.lst (acc ++ [y]))) else Nx H3) := by
  refine lc_gen (n := xs.length) (fun i G => Same H G ∧ G D = some (.lst ((xs.take i).filter p))) ⟨same_new hD, upd_same⟩ (fun i G h => ⟨(ok i G h.1).1, (ok i G h.1).2.1⟩) (fun i G v G' hi h y => ?_) (fun G h => ?_)
  · obtain ⟨rfl, hx⟩ := (ok i G h.1).2.2 v G' y
    have el : xs.take (i + 1) = xs.take i ++ [v] := take_snoc hx
    refine turn v (List.mem_of_getElem? hx) G' h.1 _ _ (fun hp G2 s2 => ⟨_, s2 _ _ h.2, ?_, fun c o e => ?_, ?_⟩) (fun hp G2 s2 => ⟨h.1.trans s2, ?_⟩)
    · have := List.length_filter_le p (xs.take i)
      rw [List.length_take] at this
      exact small1000 (by omega)
    · rw [upd_ne (ne_of_none e hD)]
      exact s2 _ _ (h.1 _ _ e)
    · rw [upd_same, el, List.filter_append, List.filter_cons_of_pos hp]
      rfl
    · rw [s2 _ _ h.2, el, List.filter_append, List.filter_cons_of_neg (by rw [hp]; decide)]
      simp
  · obtain ⟨s, e⟩ := h
    rw [List.take_of_length_le (Nat.le_refl _)] at e
    exact last G s e
end
/-! ### len(set(xs)), xs a list of texts -/
def Cnt {α : Type} (l : List α) (c : Nat) : Prop := (c = 0 ↔ l = []) ∧ (c = 1 ↔ ∃ k, ∀ j, j ∈ l ↔ j = k)
theorem cnt_nil {α : Type} : Cnt ([] : List α) 0 := ⟨by simp, by constructor
                                                                 · intro h
                                                                   cases h
                                                                 · rintro ⟨k, h⟩
                                                                   exact absurd ((h k).mpr rfl) (by simp)⟩
theorem cnt_snoc {α : Type} [DecidableEq α] {l : List α} {c : Nat} {x : α} (h : Cnt l c) : Cnt (l ++ [x]) (if x ∈ l then c else c + 1) := by
  by_cases m : x ∈ l
  · rw [if_pos m]
    have ne : l ≠ [] := fun e => by rw [e] at m; cases m
    refine ⟨⟨fun e => absurd (h.1.mp e) ne, fun e => absurd e (by simp)⟩, h.2.trans ?_⟩
    constructor
    · rintro ⟨k, hk⟩
      refine ⟨k, fun j => ?_⟩
      rw [List.mem_append, List.mem_singleton, hk j]
      have := (hk x).mp m
      constructor
      · rintro (e | e)
        · exact e
        · rw [e, this]
      · exact .inl
    · rintro ⟨k, hk⟩
      refine ⟨k, fun j => ?_⟩
      rw [← hk j, List.mem_append, List.mem_singleton]
      constructor
      · exact .inl
      · rintro (e | e)
        · exact e
        · rw [e]; exact m
  · rw [if_neg m]
    refine ⟨⟨fun e => by omega, fun e => absurd e (by simp)⟩, ?_⟩
    constructor
    · intro e
      have : l = [] := h.1.mp (by omega)
      rw [this]
      exact ⟨x, fun j => by simp⟩
    · rintro ⟨k, hk⟩
      have e1 := (hk x).mp (by simp)
      have : l = [] := by
        cases l with
        | nil => rfl
        | cons a r =>
          have e2 := (hk a).mp (by simp)
          exact absurd (show x ∈ a :: r by rw [e1, e2]; exact List.mem_cons_self) m
      have := h.1.mpr this
      omega
section
variable {P : Program} {w : World} {A : Around} {R : Result → Shared → Prop} {I : Addr} {fp wr : List Addr} {G : Array GenState → Array GenState → Prop} {n : Nat} {V' : Nat → Value → Prop} {St : Nat → Shared → Prop}
theorem grow_texts (W : WalksS P w A.in1 I fp wr G n V' St) (S : Addr) (out : S ∉ fp) (xs : List Str) (many : n = xs.length) (room : xs.length + 1 < scanBound) (vals : ∀ i v, V' i v → ∃ x t, xs[i]? = some x ∧ v = .str x t) :
    ∀ (k i : Nat) (s : Shared), n - i = k → i ≤ n → St i s → (∃ c, c ≤ i ∧ Cnt (xs.take i) c ∧ s.heap.SetOf (PySem.strKind P w) S (fun y => decide (y ∈ xs.take i)) c) →
      (∀ s' c, Moved (S :: wr) G s s' → Cnt xs c → s'.heap.SetOf (PySem.strKind P w) S (fun y => decide (y ∈ xs)) c → R (.ok (.ret .none)) s') →
      codeAny (model P w) A (.builtin "set.update.loop" ⟨[.ref S, .ref I], []⟩) R s := by
  have outw : S ∉ wr := fun z => out (W.sub _ z)
  have wide : ∀ b ∈ wr, b ∈ S :: wr := fun b hb => List.mem_cons_of_mem _ hb
  have kept : ∀ {s s' : Shared} {T : Str → Bool} {c : Nat}, Moved wr G s s' → s.heap.SetOf (PySem.strKind P w) S T c → s'.heap.SetOf (PySem.strKind P w) S T c := fun {s s' T c} mv h => by
    obtain ⟨o, es, ep, t, ho, rest⟩ := h
    exact ⟨o, es, ep, t, mv.heap S _ outw ho, rest⟩
  intro k
  induction k with
  | zero =>
    intro i s hk hi st now fin
    obtain ⟨c, _, hc, hS⟩ := now
    have e : xs.take i = xs := List.take_of_length_le (by omega)
    rw [e] at hc hS
    refine codeAny_builtin F.entry_set_update_loop ?_
    rw [Around.under_plainId F.plain_set_update_loop _]
    show wpAny _ A.in1 (pyNext (.ref I) >>= _) _ _ s
    have ei : i = n := by omega
    subst ei
    refine wpAny_bind (W.done s _ _ st fun s' mv => ?_)
    show wpAny _ A.in1 (ret Value.none) _ _ s'
    exact wpAny_pure (fin s' c (mv.mono wide) hc (kept mv hS))
  | succ k ih =>
    intro i s hk hi st now fin
    obtain ⟨c, ci, hc, hS⟩ := now
    have lt : i < n := by omega
    refine codeAny_builtin F.entry_set_update_loop ?_
    rw [Around.under_plainId F.plain_set_update_loop _]
    show wpAny _ A.in1 (pyNext (.ref I) >>= _) _ _ s
    refine wpAny_bind (W.item i s _ _ lt st fun v s' hP st' mv => ?_)
    obtain ⟨x, t, hx, rfl⟩ := vals i v hP
    have hS2 := kept mv hS
    show wpAny _ A.in1 (holding [Value.str x t] (setAdd S (.str x t)) >>= _) _ _ s'
    refine wpAny_bind (wpAny_holding ?_)
    unfold setAdd
    refine wpAny_holding (wpAny_bind ((PySem.strKind P w).pyHash (k := x) (strKind_is _ _ _ _) ?_))
    refine wpAny_setAddHashed_of (knd := PySem.strKind P w) (s := { s' with toks := s'.toks + 1 }) (strKind_is _ _ _ _) rfl hS2 (by omega) fun h' sb hS3 => ?_
    have et : xs.take (i + 1) = xs.take i ++ [x] := by rw [List.take_add_one, hx]; rfl
    have hc3 : Cnt (xs.take (i + 1)) (if decide (x ∈ xs.take i) = true then c else c + 1) := by
      rw [et]
      have := cnt_snoc (x := x) hc
      by_cases m : x ∈ xs.take i
      · rw [if_pos m] at this
        rw [if_pos (decide_eq_true m)]
        exact this
      · rw [if_neg m] at this
        rw [if_neg (by rw [decide_eq_false m]; decide)]
        exact this
    have hS4 : h'.SetOf (PySem.strKind P w) S (fun y => decide (y ∈ xs.take (i + 1))) (if decide (x ∈ xs.take i) = true then c else c + 1) := by
      refine PyProof.Rows.SetOf_congr hS3 (fun y => ?_) rfl
      rw [et]
      simp [List.mem_append, Bool.decide_or]
    refine wpAny_pure ⟨plainId_quiet F.plain_set_update_loop _, ih (i + 1) _ (by omega) lt (W.frame _ s' _ _ st' (Nat.le_succ _) fun b hb o e => ?_) ⟨_, by split <;> omega, hc3, hS4⟩ fun s2 c2 mv2 hc2 hS5 => ?_⟩
    · rw [sb.2 b (fun h : b = S => out (by rw [← h]; exact hb))]
      exact e
    · refine fin s2 c2 (Moved.trans W.gtrans ((mv.mono wide).then_heap (Nat.le_succ _) fun b o hb e => ?_) mv2) hc2 hS5
      rw [sb.2 b (fun h : b = S => hb (by rw [h]; exact List.mem_cons_self))]
      exact e
end
section
variable {P : Program} {w : World} {A : Around} {E : Value → Shared → Prop} {s : Shared}
set_option maxHeartbeats 6000000 in
theorem set_of_texts {l : Addr} {items : Array Value} {xs : List Str} {Q : Value → Shared → Prop} (free : A.handled = none) (list : s.heap.IsList l items) (nums : PyProof.Rows.StrsAre items.toList xs) (room : xs.length + 1 < scanBound)
    (then_ : ∀ (h' : Heap) (tk c : Nat), Cnt xs c → h'.SetOf (PySem.strKind P w) s.heap.objs.size (fun j => decide (j ∈ xs)) c → (∀ b o, s.heap.get? b = some o → h'.get? b = some o) → Q (.ref s.heap.objs.size) { s with heap := h', toks := tk }) :
    wpAny (model P w) A (call (.type "set") [.ref l]) Q E s := by
  have many : items.size = xs.length := by rw [← StrsAre.len_eq nums, Array.length_toList]
  obtain ⟨first, rest, mro⟩ := F.called_set.mro
  have made := F.called_set.made
  have sub := F.called_set.sub
  have notT := F.called_set.notType
  have can := F.called_set.canCreate
  have one := F.typeCall_set_1 (.ref l)
  refine wpAny_call (codeAny_of_tree ?_)
  show wpAny _ _ (callAny (.type "set") _) _ _ _
  refine wpAny_pure ⟨Code.quiet_builtin _ (by decide +kernel), codeAny_builtin F.entry_type_call ?_⟩
  rw [Around.under_plain (weight_type_call_type "set" [.ref l] []) rfl]
  repeat (any_goals (first | assumption | wp_step))
  refine codeAny_mono (code_set_led1 (.ref l) (E := E) (Q₁ := fun v s1 => v = .ref s.heap.objs.size ∧ s1 = { s with heap := s.heap.push (emptyS w) }) ⟨rfl, rfl⟩) fun r s1 hr => ?_
  match r, hr with
  | .error e, hr => exact hr
  | .ok (.ret _), ⟨e1, e2⟩ =>
    subst e1 e2
    have stands : (s.heap.push (emptyS w)).get? s.heap.objs.size = some (emptyS w) := Heap.get?_push_size _ rfl
    have typed : Shared.TypeIs { s with heap := s.heap.push (emptyS w) } (.ref s.heap.objs.size) "set" := ⟨_, stands, rfl⟩
    have look := F.called_set.init.lookup
    have bound := F.called_set.init.bind (.ref s.heap.objs.size)
    repeat (any_goals (first | assumption | wp_step))
    refine codeAny_mono (codeAny_call_builtin (R := wants (fun r s2 => r = .none ∧ ∃ h' tk c, s2 = { s with heap := h', toks := tk } ∧ Cnt xs c ∧ h'.SetOf (PySem.strKind P w) s.heap.objs.size (fun j => decide (j ∈ xs)) c ∧ (∀ b o, s.heap.get? b = some o → h'.get? b = some o)) E) F.called_set.init.plain F.entry_set_init (check_set_init_1 typed ?_)) fun r2 s2 hr2 => ?_
    · obtain ⟨⟨cl, dc, dt, sl⟩, at_, ecl, nl, edt⟩ := list
      simp only at ecl edt
      subst ecl edt
      have at2 : (s.heap.push (emptyS w)).get? l = some { cls := .type "list", dict := dc, data := .seq items nl, slots := sl } := Heap.get?_push_of_some _ at_
      have n1 := F.sub_list_set
      have n2 := F.sub_list_frozenset
      have n3 : (Value.type "list" == Value.type "dict") = false := by decide
      have list2 : (s.heap.push (emptyS w)).IsList l items := ⟨_, at2, rfl, nl, rfl⟩
      unfold Builtin.«set.__init__» noKeywords Builtin.Frozenset.updateFrom
      generalize iterAs : pyIter = PI
      wp_walk
      subst iterAs
      refine wpAny_pyIter_list list2 (wpAny_bind (wpAny_runValue ?_))
      have ll : l < s.heap.objs.size := Heap.lt_size at_
      have sz : (s.heap.push (emptyS w)).objs.size = s.heap.objs.size + 1 := Heap.size_push ..
      have free3 : A.in1.in1.in1.handled = none := by simp [free]
      have unlike : l ≠ (s.heap.push (emptyS w)).objs.size := by rw [sz]; exact Nat.ne_of_lt (Nat.lt_succ_of_lt ll)
      have out : s.heap.objs.size ∉ [(s.heap.push (emptyS w)).objs.size, l] := by
        rw [sz]
        simp only [List.mem_cons, List.mem_singleton, List.not_mem_nil, or_false, not_or]
        exact ⟨Nat.ne_of_lt (Nat.lt_succ_self _), Nat.ne_of_gt ll⟩
      have vals : ∀ (i : Nat) (v : Value), items[i]? = some v → ∃ x t, xs[i]? = some x ∧ v = .str x t := fun i v hv => by
        have hi : i < xs.length := by rw [← many]; exact (Array.getElem?_eq_some_iff.mp hv).1
        obtain ⟨t, e⟩ := SS.strs_at nums i v (by rw [Array.getElem?_toList]; exact hv)
        exact ⟨xs[i], t, List.getElem?_eq_getElem hi, by rw [e, List.getD_eq_getElem?_getD, List.getElem?_eq_getElem hi] <;> rfl⟩
      have fresh : ((s.heap.push (emptyS w)).push { cls := .type "list_iterator", data := .fields #[.ref l, .int 0 0] }).SetOf (PySem.strKind P w) s.heap.objs.size (fun y => decide (y ∈ xs.take 0)) 0 :=
        PyProof.Rows.SetOf_congr ((PyProof.Rows.setObjOf_fresh (knd := PySem.strKind P w) _).setOf (Heap.get?_push_of_some _ stands) (by unfold scanBound; omega)) (fun _ => rfl) rfl
      refine grow_texts ((Walks.list free3 _ l unlike items).toS) s.heap.objs.size out xs many room vals (items.size - 0) 0 _ (by omega) (Nat.zero_le _) ⟨⟨_, Heap.get?_push_size _ rfl, rfl, rfl⟩, (list2.push _)⟩ ⟨0, Nat.le_refl 0, cnt_nil, fresh⟩ fun s' c' mv hc' hS' => ?_
      obtain ⟨h', g2, d', tk', os'⟩ := s'
      have eg : g2 = s.gens := mv.gens
      have ed : d' = s.drawn := mv.drawn
      have eo : os' = s.os := mv.os
      subst eg ed eo
      show wpAny _ _ _ _ _ _
      refine wpAny_pure ?_
      show wpAny _ _ (ret Value.none) _ _ _
      refine wpAny_pure ⟨rfl, h', tk', c', rfl, hc', hS', fun b o e => ?_⟩
      have below : b < s.heap.objs.size := Heap.lt_size e
      refine mv.heap b o ?_ (Heap.get?_push_of_some _ (Heap.get?_push_of_some _ e))
      simp only [List.mem_cons, List.mem_singleton, List.not_mem_nil, or_false, not_or]
      exact ⟨Nat.ne_of_lt below, by rw [sz]; exact Nat.ne_of_lt (Nat.lt_succ_of_lt below)⟩
    · match r2, hr2 with
      | .error e, hr2 => exact hr2
      | .ok (.ret _), ⟨e1, h', tk, c', e2, hc', hS', hk'⟩ =>
        subst e1 e2
        repeat (any_goals (first | assumption | wp_step))
        exact then_ _ _ _ hc' hS' hk'
end
section
variable {X : Cx}
def tLenSetS (K : PySem.W.Frag) (ta : TE) : TE := fun σ H Q => ta σ H fun x H1 => ∃ (l : Addr) (xs : List Str), x = .ref l ∧ SqL K H1 l (xs.map V.str) ∧ xs.length < 4000 ∧ ∀ c : Nat, (c = 1 ↔ ∃ k, ∀ j, j ∈ xs ↔ j = k) → Q (.int c) H1
theorem pe_lenSetS {a : Expr} {ta : TE} {p p2 q pos : Pos} (hg : Gl X "len") (hm : X.mg "len" = none) (hg2 : Gl X "set") (hm2 : X.mg "set" = none) (ha : PE X a ta) (hc : X.calm = true := by rfl)
    (na : starEach [a] X.env = (false, eval a X.env) :: starEach [] X.env := by rfl) : PE X (.Call (.Name "len" p) [.Call (.Name "set" p2) [a] [] q] [] pos) (tLenSetS X.K ta) := by
  refine ⟨fun pins s σ H Q I h => ?_⟩
  refine Call_ (ld_blt I hg hm boot_len ?_)
  refine PyProof.Rows.callWith_builtin1 (PyProof.Rows.args_cons ?_ rfl) rfl rfl
  refine Call_ (ld_blt I hg2 hm2 boot_set ?_)
  refine PyProof.Rows.callWith_type1 (PyProof.Rows.args_cons (thn (ha.run pins s σ H _ I h) fun v s1 ⟨x, H1, I1, r1, q1⟩ => PyProof.Rows.args_nil ?_) na) na rfl
  obtain ⟨l, xs, rfl, hq, small, q1⟩ := q1
  cases r1
  obtain ⟨its, r, pl, hz⟩ := I1.list hq
  refine set_of_texts (I1.ok.hd hc) pl.isList (by simpa using strsAre_of r) (by unfold scanBound; omega) fun h' tk c cnt hS keep => ?_
  refine PyProof.Rows.args_nil ?_
  obtain ⟨o, es, ep, t, ho, hex, hd, _, _, hb, hf, hn⟩ := hS
  have I2 : Inv X pins σ H1 { s1 with heap := h', toks := tk } := I1.kept fun b o e => keep b o e
  have hs : es.size < 1000000 := by
    have : scanBound ≤ 1000000 := by decide
    omega
  exact call_len_set ho hex hd hf (by omega) ⟨.int c, H1, I2.tok _, ⟨_, by rw [hn]⟩, q1 c cnt.2⟩
end
/-! ### min of a list of numbers, None of none -/
theorem ints_hold {h : Heap} : ∀ {ns : List Int} {us : List Value}, Vals (ns.map V.int) us → PySem.W.HoldAll h us ns
  | [], _, .nil => PySem.W.HoldAll.nil
  | n :: r, _, .cons ⟨t, e⟩ rr => by
    rw [e]
    exact PySem.W.HoldAll.cons (PySem.W.holds_int n t) (ints_hold rr)
theorem minOf_mem (x : Int) : ∀ ys : List Int, PySem.W.minOf x ys ∈ x :: ys ∧ ∀ n ∈ x :: ys, PySem.W.minOf x ys ≤ n := fun ys => by
  induction ys generalizing x with
  | nil => exact ⟨List.mem_cons_self, fun n hn => by rw [List.mem_singleton.mp hn]; exact Int.le_refl _⟩
  | cons y r ih =>
    have e : PySem.W.minOf x (y :: r) = PySem.W.minOf (if PySem.W.DatumOrd.lt y x = true then y else x) r := rfl
    have hlt : PySem.W.DatumOrd.lt y x = decide (y < x) := rfl
    rw [e, hlt]
    by_cases c : y < x
    · rw [decide_eq_true c, if_pos rfl]
      obtain ⟨h1, h2⟩ := ih y
      refine ⟨List.mem_cons_of_mem _ h1, fun n hn => ?_⟩
      rcases List.mem_cons.mp hn with rfl | hn
      · have := h2 y List.mem_cons_self
        omega
      · exact h2 n hn
    · rw [decide_eq_false c, if_neg (by decide)]
      obtain ⟨h1, h2⟩ := ih x
      refine ⟨?_, fun n hn => ?_⟩
      · rcases List.mem_cons.mp h1 with h | h
        · rw [h]
          exact List.mem_cons_self
        · exact List.mem_cons_of_mem _ (List.mem_cons_of_mem _ h)
      · rcases List.mem_cons.mp hn with rfl | hn
        · exact h2 n List.mem_cons_self
        · rcases List.mem_cons.mp hn with rfl | hn
          · have := h2 x List.mem_cons_self
            omega
          · exact h2 n (List.mem_cons_of_mem _ hn)
def rMinD (K : PySem.W.Frag) : List V → List V → Hp → VK → Prop := fun xs zs H Q => ∃ (a : Addr) (ns : List Int), xs = [.ref a] ∧ zs = [.non] ∧ SqL K H a (ns.map V.int) ∧ (ns = [] → Q .non H) ∧ ∀ m, m ∈ ns → (∀ n ∈ ns, m ≤ n) → Q (.int m) H
theorem call_minD (K : PySem.W.Frag) {X : Cx} (hc : X.calm = true) (hu : X.A.units + 64 < cLine) (h : X.K = K := by rfl) : CallRK X (.builtin "min") ["default"] (rMinD K) := by
  subst h
  intro pins s σ H xs zs us ws Q I rx rz h
  obtain ⟨a, ns, rfl, rfl, hs, q0, q1⟩ := h
  obtain ⟨its, rv, hl, _⟩ := I.list hs
  rw [Vals.ref1 rx]
  cases rz with
  | cons e rr =>
    cases rr
    cases (show _ = Value.none from e)
    refine PySem.W.min_list_datum_default (I.ok.hd hc) hl.isList (ints_hold rv) (by show X.A.units + 1 + 0 < cLine; omega) (fun e h' tk hk => ⟨.non, H, I.kept hk, rfl, q0 e⟩) (fun y ys i v h' tk e hi hv hk => ?_)
    subst e
    obtain ⟨h1, h2⟩ := minOf_mem y ys
    obtain ⟨bs, r⟩ := hv
    have q2 := q1 _ h1 h2
    have e3 : PySem.W.Datum.toD (PySem.W.minOf y ys) = PyData.int (PySem.W.minOf y ys) := rfl
    rw [e3] at r
    generalize PySem.W.minOf y ys = m at r q2
    cases r
    exact ⟨.int m, H, I.kept hk, ⟨_, rfl⟩, q2⟩
/-! ### max of a tuple of numbers -/
theorem maxOf_mem (x : Int) : ∀ ys : List Int, PySem.W.maxOf x ys ∈ x :: ys ∧ ∀ n ∈ x :: ys, n ≤ PySem.W.maxOf x ys := fun ys => by
  induction ys generalizing x with
  | nil => exact ⟨List.mem_cons_self, fun n hn => by rw [List.mem_singleton.mp hn]; exact Int.le_refl _⟩
  | cons y r ih =>
    have e : PySem.W.maxOf x (y :: r) = PySem.W.maxOf (if PySem.W.DatumOrd.lt x y = true then y else x) r := rfl
    have hlt : PySem.W.DatumOrd.lt x y = decide (x < y) := rfl
    rw [e, hlt]
    by_cases c : x < y
    · rw [decide_eq_true c, if_pos rfl]
      obtain ⟨h1, h2⟩ := ih y
      refine ⟨List.mem_cons_of_mem _ h1, fun n hn => ?_⟩
      rcases List.mem_cons.mp hn with rfl | hn
      · have := h2 y List.mem_cons_self
        omega
      · exact h2 n hn
    · rw [decide_eq_false c, if_neg (by decide)]
      obtain ⟨h1, h2⟩ := ih x
      refine ⟨?_, fun n hn => ?_⟩
      · rcases List.mem_cons.mp h1 with h | h
        · rw [h]
          exact List.mem_cons_self
        · exact List.mem_cons_of_mem _ (List.mem_cons_of_mem _ h)
      · rcases List.mem_cons.mp hn with rfl | hn
        · exact h2 n List.mem_cons_self
        · rcases List.mem_cons.mp hn with rfl | hn
          · have := h2 x List.mem_cons_self
            omega
          · exact h2 n (List.mem_cons_of_mem _ hn)
def rMaxT (K : PySem.W.Frag) : List V → Hp → VK → Prop := fun xs H Q => ∃ (a : Addr) (n : Int) (ns : List Int), xs = [.ref a] ∧ SqT K H a ((n :: ns).map V.int) ∧ ∀ m, m ∈ n :: ns → (∀ k ∈ n :: ns, k ≤ m) → Q (.int m) H
theorem call_maxT (K : PySem.W.Frag) {X : Cx} (hc : X.calm = true) (hu : X.A.units + 64 < cLine) (h : X.K = K := by rfl) : CallR X (.builtin "max") (rMaxT K) := by
  subst h
  intro pins s σ H xs us Q I rx h
  obtain ⟨a, n, ns, rfl, hs, q1⟩ := h
  obtain ⟨its, rv, hl, _⟩ := I.tuple hs
  rw [Vals.ref1 rx]
  refine PySem.W.max_tuple_datum (x := n) (xs := ns) (I.ok.hd hc) hl (ints_hold rv) (by show X.A.units + 1 + 0 < cLine; omega) (fun i v h' tk hi hv hk => ?_)
  obtain ⟨h1, h2⟩ := maxOf_mem n ns
  obtain ⟨bs, r⟩ := hv
  have q2 := q1 _ h1 h2
  have e3 : PySem.W.Datum.toD (PySem.W.maxOf n ns) = PyData.int (PySem.W.maxOf n ns) := rfl
  rw [e3] at r
  generalize PySem.W.maxOf n ns = m at r q2
  cases r
  exact ⟨.int m, H, I.kept hk, ⟨_, rfl⟩, q2⟩
/-! ### == and != by a class's own __eq__, whatever it says; a list of such; repr, str and {x!s} by own defs -/
namespace OEQ
open PySem PySem.Spec PyProof.Rows L2 PySem.SeqAt
/-- what == and != ask of the class at C, whose __eq__ is at f -/
structure OEq (K : PySem.W.Frag) (C f : Addr) : Prop where
  at_ : PySem.W.findIn K (.ref C) "__eq__" = some (some (.ref f))
  fn : PySem.W.isFn K (.ref f) = true
  ne : PySem.W.findIn K (.ref C) "__ne__" = some (some (.builtin "object.__ne__"))
  ob : PySem.W.mroIn K C (.type "object") = some true
  tys : ∀ T ∈ (["int", "bool", "str", "NoneType", "list", "tuple"] : List String), PySem.W.subIn K (.ref C) (.type T) = some false ∧ PySem.W.subIn K (.type T) (.ref C) = some false
/-- what the other one is -/
inductive TyV (K : PySem.W.Frag) (C : Addr) (H : Hp) : V → Value → Prop
  | int (i : Int) : TyV K C H (.int i) (.type "int")
  | bl (b : Bool) : TyV K C H (.bl b) (.type "bool")
  | str (x : Str) : TyV K C H (.str x) (.type "str")
  | non : TyV K C H .non (.type "NoneType")
  | lst {a : Addr} {xs : List V} (h : SqL K H a xs) : TyV K C H (.ref a) (.type "list")
  | tup {a : Addr} {xs : List V} (h : SqT K H a xs) : TyV K C H (.ref a) (.type "tuple")
  | ins {a dx : Addr} {fs : List (Str × V)} (h : H a = some (.ins C dx fs)) : TyV K C H (.ref a) (.ref C)
section
variable {X : Cx} {pins : List (Addr × Obj)} {σ : L2.St} {H : Hp} {s : Shared} {C f a dx : Addr} {fs : List (Str × V)} {y : V} {u tv : Value} {n : Nat} {fd : FuncData} {ps : List Str} {sp : Sp} {A : Around}
theorem looks_ref {M : Model} {h : Heap} {a : Addr} {o : Obj} (e : h.get? a = some o) : PySem.W.Looks M h (typeOf (.ref a)) o.cls := (PySem.W.Looks.ld (part := some headPart) e).andThen PySem.W.Looks.now
theorem TyV.looks {M : Model} (I : Inv X pins σ H s) (t : TyV X.K C H y tv) (r : RelV y u) : PySem.W.Looks M s.heap (typeOf u) tv := by
  cases t with
  | int i => obtain ⟨t, rfl⟩ := (show ∃ t, u = Value.int i t from r); exact PySem.W.Looks.now
  | bl b => cases (show u = Value.bool b from r); exact PySem.W.Looks.now
  | str x => obtain ⟨t, rfl⟩ := (show ∃ t, u = Value.str x t from r); exact PySem.W.Looks.now
  | non => cases (show u = Value.none from r); exact PySem.W.Looks.now
  | lst h =>
    cases (show u = Value.ref _ from r)
    obtain ⟨its, rv, ⟨o, m, ho, hc, _⟩, _⟩ := I.list h
    exact hc ▸ looks_ref ho
  | tup h =>
    cases (show u = Value.ref _ from r)
    obtain ⟨its, rv, ⟨o, ho, hc, _⟩, _⟩ := I.tuple h
    exact hc ▸ looks_ref ho
  | ins h =>
    cases (show u = Value.ref _ from r)
    obtain ⟨mA, J, _⟩ := ins_get I.hok h
    obtain ⟨od, J, _⟩ := J.look
    exact J.type
theorem TyV.not_first (O : OEq X.K C f) (t : TyV X.K C H y tv) : PySem.W.notFirst X.K C tv = true := by
  cases t <;> first | (simp [PySem.W.notFirst]; done) | exact Bool.or_eq_true_iff.mpr (.inr (beq_iff_eq.mpr (O.tys _ (by decide)).2))
theorem TyV.back (O : OEq X.K C f) (t : TyV X.K C H y tv) (hne : tv ≠ .ref C) : PySem.W.subIn X.K (.ref C) tv = some false := by
  cases t <;> first | exact absurd rfl hne | exact (O.tys _ (by decide)).1
/-- the own __eq__ is called -/
theorem own_call (F : FnOk X.prog X.w X.K X.mg X.base CX0 n f fd ps sp) (hb : Binds X.K fd ps []) (sb : Sub X n A) (I : Inv X pins σ H s) (ry : RelV y u) {Q : VK} (q : sp [.ref a, y] H Q E0) :
    wpAny (model X.prog X.w) A (call (.ref f) [.ref a, u]) (EP X pins σ Q) X.xe s := by
  have e0 : Env0 X.prog X.w X.K X.mg X.base A X.stack s H := by
    have e := I.env0
    exact ⟨by rw [sb.fr]; exact e.frames, e.mod, e.bs, e.bsz, e.funs, e.frf, e.hok, e.bare⟩
  have hl := F.len _ _ _ _ q
  have r2 : Vals [V.ref a, y] [Value.ref a, u] := .cons rfl (.cons ry .nil)
  refine wpAny_call (codeAny_mono (F.run A X.stack s H ⟨[.ref a, u], []⟩ [.ref a, u] [.ref a, y] _ E0 sb.room e0 (by
    have := hb s [.ref a, u] I.kIn (by simpa using hl)
    simpa using this) r2 q) fun r s' hq => ?_)
  cases r with
  | error e => exact pass0 pins σ H s e s' I hq
  | ok fl =>
    cases fl with
    | ret w =>
      obtain ⟨z, H', I', rz, q⟩ := I.after hq
      exact ⟨z, H', I', rz, q⟩
    | next => exact False.elim hq
    | brk => exact False.elim hq
    | cont => exact False.elim hq
/-- x == y, x such an instance -/
theorem rc_own (O : OEq X.K C f) (F : FnOk X.prog X.w X.K X.mg X.base CX0 n f fd ps sp) (hb : Binds X.K fd ps []) (sb : Sub X n A) (I : Inv X pins σ H s) (ha : H a = some (.ins C dx fs)) (ty : TyV X.K C H y tv) (ry : RelV y u)
    {Q : Bool → Hp → Prop} (q : sp [.ref a, y] H (fun v H' => ∃ b, v = .bl b ∧ Q b H') E0) :
    wpAny (model X.prog X.w) A (richCompare .Eq (.ref a) u) (fun v s' => ∃ b, v = .bool b ∧ ∃ H', Inv X pins σ H' s' ∧ Q b H') X.xe s := by
  obtain ⟨mA, J, _⟩ := ins_get I.hok ha
  obtain ⟨od, J, _⟩ := J.look
  obtain ⟨m, hF⟩ := I.fr
  refine PySem.W.cmp_K (op := .Eq) (tb := tv) sb.room.units0 hF I.ok.mod.kin J (ty.looks I ry) (ty.not_first O) O.at_ O.fn ?_
  refine wpAny_mono (own_call F hb sb I ry q) (fun v s' h => ?_) fun _ _ x => x
  obtain ⟨z, H', I', rz, b, rfl, q⟩ := h
  cases (show v = Value.bool b from rz)
  exact ⟨b, rfl, H', I', q⟩
/-- x != y, x such an instance -/
theorem rc_ownNe (O : OEq X.K C f) (F : FnOk X.prog X.w X.K X.mg X.base CX0 n f fd ps sp) (hb : Binds X.K fd ps []) (sb : Sub X (n + 1) A) (I : Inv X pins σ H s) (ha : H a = some (.ins C dx fs)) (ty : TyV X.K C H y tv) (ry : RelV y u)
    {Q : Bool → Hp → Prop} (q : sp [.ref a, y] H (fun v H' => ∃ b, v = .bl b ∧ Q (!b) H') E0) :
    wpAny (model X.prog X.w) A (richCompare .NotEq (.ref a) u) (fun v s' => ∃ b, v = .bool b ∧ ∃ H', Inv X pins σ H' s' ∧ Q b H') X.xe s := by
  obtain ⟨mA, J, _⟩ := ins_get I.hok ha
  obtain ⟨od, J, _⟩ := J.look
  have hK := I.kIn
  have bindB : ∀ {M : Model} {A : Around} {E : Value → Shared → Prop} {args : List Value} {R : Option Value → Shared → Prop}, wpAny M A (call (.builtin "object.__ne__") (.ref a :: args)) (fun v => R (some v)) E s → wpAny M A (callSpecialIfBound? (.ref a) "__ne__" args) R E s := fun {M A E args R} h => by
    simp only [callSpecialIfBound?, bindSpecialIfBound?]
    refine wpAny_holding (wpAny_bind (wpAny_bind (wpAny_bind (J.type.here ((PySem.W.looks_findIn hK O.ne).here ?_)))))
    refine wpAny_bind (wpAny_askSetting (wpAny_ite ?_))
    have fin : wpAny M A (call (.builtin "object.__ne__") ([.ref a] ++ args) >>= fun v => pure (some v)) R E s := wpAny_bind (wpAny_mono h (fun v s' h' => wpAny_pure h') fun _ _ h' => h')
    split
    · exact wpAny_bind ((PySem.W.Looks.of_pure (PySem.F.cmp_object.ne.bind _)).here (wpAny_pure (by exact fin)))
    · exact wpAny_tryCatch (wpAny_bind ((PySem.W.Looks.of_pure (PySem.F.cmp_object.ne.bind _)).here (wpAny_pure (by exact fin))))
  have one : wpAny (model X.prog X.w) A (tryCompare (.ref a) "__ne__" u) (fun r s' => ∃ v, r = some v ∧ ∃ b, v = Value.bool b ∧ ∃ H', Inv X pins σ H' s' ∧ Q b H') X.xe s := by
    unfold tryCompare
    refine wpAny_bind (bindB (wpAny_call (codeAny_call_builtin PySem.F.cmp_object.ne.plain PySem.F.cmpEntry_ne (PySem.W.check_slot PySem.F.cmpKind_ne PySem.F.cmpSplit_ne (J.type.andThen (PySem.W.looks_mroIn hK O.ob)) (PySem.F.cmpArgs_ne _ _) ?_))))
    unfold Builtin.«object.__ne__»
    refine wpAny_bind (m := PySem.slotArgs "__ne__" 1 _) (wpAny_pure ?_)
    refine wpAny_bind (m := cRoomFor _ _) (wpAny_cRoomFor sb.in1.room.units0 ?_)
    refine wpAny_bind (m := callSpecialIfBound? (.ref a) (Str.ofString "__eq__") [u]) (PySem.W.ifBound_K hK J O.at_ O.fn (wpAny_mono (own_call F hb sb.in1 I ry q) (fun v s' h => ?_) fun _ _ x => x))
    obtain ⟨z, H', I', rz, b, rfl, q⟩ := h
    cases (show v = Value.bool b from rz)
    refine wpAny_bind (m := truthy (.bool b)) (wpAny_truthy_bool ?_)
    exact wpAny_pure (wpAny_pure ⟨_, rfl, !b, rfl, H', I', q⟩)
  unfold richCompare
  simp only [oneThing_ref]
  refine wpAny_holding (wpAny_bind (wpAny_cRoomFor sb.room.units0 ?_))
  rw [cmpInfo_NotEq]
  dsimp only
  refine wpAny_bind (J.type.here (wpAny_bind ((ty.looks I ry).here ?_)))
  have fin : wpAny (model X.prog X.w) A (tryCompare (.ref a) "__ne__" u) (fun r s' => ∃ v, r = some v ∧ ∃ b, v = Value.bool b ∧ ∃ H', Inv X pins σ H' s' ∧ Q b H') X.xe s := one
  split
  · rename_i q'
    have e : PySem.W.subIn X.K tv (.ref C) = some false := by
      rcases Bool.or_eq_true_iff.mp (ty.not_first O) with e | e
      · rw [beq_iff_eq.mp e] at q'; simp at q'
      · exact beq_iff_eq.mp e
    refine wpAny_bind ((PySem.W.looks_subIn hK e).here ?_)
    simp only [Bool.false_eq_true, if_false]
    refine wpAny_bind (wpAny_mono fin (fun r s' z => ?_) fun _ _ e => e)
    obtain ⟨v, rfl, hq⟩ := z
    exact wpAny_pure hq
  · refine wpAny_bind (wpAny_pure ?_)
    simp only [Bool.false_eq_true, if_false]
    refine wpAny_bind (wpAny_mono fin (fun r s' z => ?_) fun _ _ e => e)
    obtain ⟨v, rfl, hq⟩ := z
    exact wpAny_pure hq
end
/-! ### == of other kinds and such an instance: its __eq__ is asked second -/
section
variable {M : Model} {A : Around} {E : Value → Shared → Prop} {s : Shared}
theorem int_declines_ins (b : Int) (u : Tok) (l : Addr) (o : Obj) (hd : o.data = .plain) :
    Meets (Builtin.«int.__eq__» ⟨[.int b u, .ref l], []⟩) (fun _ R s => s.heap.get? l = some o ∧ R (.ok (.ret .notImplemented)) s) :=
  .of_wp fun prog w A R s h => by obtain ⟨hp, g, d, tk, os⟩ := s; obtain ⟨hl, h⟩ := h; obtain ⟨oc, od, oda, osl⟩ := o; cases hd; wp_walk using PySem.AutoSeq1.wpAny_loadPart' hl, wpAny_load hl; exact ⟨_, rfl, h⟩
theorem bool_declines_ins (b : Bool) (l : Addr) (o : Obj) (hd : o.data = .plain) :
    Meets (Builtin.«int.__eq__» ⟨[.bool b, .ref l], []⟩) (fun _ R s => s.heap.get? l = some o ∧ R (.ok (.ret .notImplemented)) s) :=
  .of_wp fun prog w A R s h => by obtain ⟨hp, g, d, tk, os⟩ := s; obtain ⟨hl, h⟩ := h; obtain ⟨oc, od, oda, osl⟩ := o; cases hd; wp_walk using PySem.AutoSeq1.wpAny_loadPart' hl, wpAny_load hl; exact ⟨_, rfl, h⟩
theorem str_declines_ins (b : Str) (u : Tok) (l : Addr) (o : Obj) (hd : o.data = .plain) :
    Meets (Builtin.«str.__eq__» ⟨[.str b u, .ref l], []⟩) (fun _ R s => s.heap.get? l = some o ∧ R (.ok (.ret .notImplemented)) s) :=
  .of_wp fun prog w A R s h => by obtain ⟨hp, g, d, tk, os⟩ := s; obtain ⟨hl, h⟩ := h; obtain ⟨oc, od, oda, osl⟩ := o; cases hd; wp_walk using PySem.AutoSeq1.wpAny_loadPart' hl, wpAny_load hl; exact ⟨_, rfl, h⟩
theorem list_declines_ins (l b : Addr) (items : Array Value) (n : Nat) (dd : Option Addr) (sl : Array (Option Value)) :
    Meets (Builtin.«list.__eq__» ⟨[.ref l, .ref b], []⟩) (fun _ R s => s.heap.get? l = some { cls := .type "list", dict := dd, data := .seq items n, slots := sl } ∧ (∀ (M : Model) (A : Around) (E : Value → Shared → Prop) (Q : Bool → Shared → Prop), Q false s → wpAny M A (isInstance (.ref b) (.type "list")) Q E s) ∧ R (.ok (.ret .notImplemented)) s) :=
  .of_wp fun prog w A R s h => by
    obtain ⟨hp, g, d, tk, os⟩ := s
    obtain ⟨hl, hi, h⟩ := h
    wp_walk using PySem.AutoSeq1.wpAny_loadPart' hl, hi _ _ _ _
    exact ⟨_, rfl, h⟩
theorem tuple_declines_ins (l b : Addr) (items : Array Value) (n : Nat) (dd : Option Addr) (sl : Array (Option Value)) :
    Meets (Builtin.«tuple.__eq__» ⟨[.ref l, .ref b], []⟩) (fun _ R s => s.heap.get? l = some { cls := .type "tuple", dict := dd, data := .seq items n, slots := sl } ∧ (∀ (M : Model) (A : Around) (E : Value → Shared → Prop) (Q : Bool → Shared → Prop), Q false s → wpAny M A (isInstance (.ref b) (.type "tuple")) Q E s) ∧ R (.ok (.ret .notImplemented)) s) :=
  .of_wp fun prog w A R s h => by
    obtain ⟨hp, g, d, tk, os⟩ := s
    obtain ⟨hl, hi, h⟩ := h
    wp_walk using PySem.AutoSeq1.wpAny_loadPart' hl, hi _ _ _ _
    exact ⟨_, rfl, h⟩
end
section
variable {X : Cx} {pins : List (Addr × Obj)} {σ : L2.St} {H : Hp} {s : Shared} {C f a dx : Addr} {fs : List (Str × V)} {y : V} {u tv : Value} {n : Nat} {fd : FuncData} {ps : List Str} {sp : Sp} {A : Around}
theorem rc_back_of {T id : String} (O : OEq X.K C f) (F : FnOk X.prog X.w X.K X.mg X.base CX0 n f fd ps sp) (hb : Binds X.K fd ps []) (sb : Sub X n A) (I : Inv X pins σ H s) (ha : H a = some (.ins C dx fs)) (ry : RelV y u)
    (hT : s.TypeIs u T) (hS : Slot T "__eq__" id) (hsub : PySem.W.subIn X.K (.ref C) (.type T) = some false)
    (dec : ∀ Q' : Value → Shared → Prop, Q' .notImplemented s → wpAny (model X.prog X.w) A (call (.builtin id) [u, .ref a]) Q' X.xe s)
    {Q : Bool → Hp → Prop} (q : sp [.ref a, y] H (fun v H' => ∃ b, v = .bl b ∧ Q b H') E0) :
    wpAny (model X.prog X.w) A (richCompare .Eq u (.ref a)) (fun v s' => ∃ b, v = .bool b ∧ ∃ H', Inv X pins σ H' s' ∧ Q b H') X.xe s := by
  obtain ⟨mA, J, _⟩ := ins_get I.hok ha
  obtain ⟨od, J, _⟩ := J.look
  have hK := I.kIn
  unfold richCompare
  simp only [hT.oneThing_none]
  refine wpAny_holding (wpAny_bind (wpAny_cRoomFor sb.room.units0 ?_))
  rw [cmpInfo_Eq]
  dsimp only
  refine wpAny_bind (wpAny_typeOf hT (wpAny_bind (J.type.here ?_)))
  rw [if_pos (show (Value.type T != Value.ref C) = true by simp)]
  refine wpAny_bind ((PySem.W.looks_subIn hK hsub).here ?_)
  simp only [Bool.false_eq_true, if_false, Bool.not_false, if_true]
  refine wpAny_bind (m := tryCompare u _ (.ref a)) (wpAny_tryCompare_declines hT hS (dec _ ⟨rfl, ?_⟩))
  have one : wpAny (model X.prog X.w) A (tryCompare (.ref a) "__eq__" u) (fun r s' => ∃ v, r = some v ∧ ∃ b, v = Value.bool b ∧ ∃ H', Inv X pins σ H' s' ∧ Q b H') X.xe s := by
    unfold tryCompare
    refine wpAny_bind (PySem.W.ifBound_K hK J O.at_ O.fn (wpAny_mono (own_call F hb sb I ry q) (fun v s' h => ?_) fun _ _ e => e))
    obtain ⟨z, H', I', rz, b, rfl, q⟩ := h
    cases (show v = Value.bool b from rz)
    exact wpAny_pure ⟨_, rfl, b, rfl, H', I', q⟩
  refine wpAny_bind (m := tryCompare (.ref a) _ u) (wpAny_mono one (fun r s' z => ?_) fun _ _ e => e)
  obtain ⟨v, rfl, hq⟩ := z
  exact wpAny_pure hq
/-- x == y, y such an instance, x of another kind -/
theorem rc_back (O : OEq X.K C f) (F : FnOk X.prog X.w X.K X.mg X.base CX0 n f fd ps sp) (hb : Binds X.K fd ps []) (sb : Sub X n A) (I : Inv X pins σ H s) (ha : H a = some (.ins C dx fs)) (ty : TyV X.K C H y tv) (hne : tv ≠ .ref C) (ry : RelV y u)
    {Q : Bool → Hp → Prop} (q : sp [.ref a, y] H (fun v H' => ∃ b, v = .bl b ∧ Q b H') E0) :
    wpAny (model X.prog X.w) A (richCompare .Eq u (.ref a)) (fun v s' => ∃ b, v = .bool b ∧ ∃ H', Inv X pins σ H' s' ∧ Q b H') X.xe s := by
  have hbk := ty.back O hne
  obtain ⟨mA, J, _⟩ := ins_get I.hok ha
  obtain ⟨od, J, _⟩ := J.look
  have hK := I.kIn
  have isi : ∀ {T : String}, PySem.W.subIn X.K (.ref C) (.type T) = some false → ∀ (M : Model) (A : Around) (E : Value → Shared → Prop) (Q : Bool → Shared → Prop), Q false s → wpAny M A (isInstance (.ref a) (.type T)) Q E s := fun {T} hs M A E Q q => by
    have L : PySem.W.Looks M s.heap (isInstance (.ref a) (.type T)) false := J.type.andThen (PySem.W.looks_subIn hK hs)
    exact L.here q
  cases ty with
  | int i =>
    obtain ⟨t, rfl⟩ := (show ∃ t, u = Value.int i t from ry)
    exact rc_back_of O F hb sb I ha ry (typeIs_int s i t) PySem.F.slot_int_eq hbk (fun Q' hq => call_meets PySem.F.slot_int_eq (typeIs_int s i t) PySem.F.entry_int_eq (PySem.F.args_int_eq_2 _ _) (int_declines_ins i t a _ rfl) ⟨J.at_, hq⟩) q
  | bl b =>
    cases (show u = Value.bool b from ry)
    exact rc_back_of O F hb sb I ha ry rfl PySem.F.slot_bool_eq hbk (fun Q' hq => call_meets PySem.F.slot_bool_eq rfl PySem.F.entry_int_eq (PySem.F.args_int_eq_2 _ _) (bool_declines_ins b a _ rfl) ⟨J.at_, hq⟩) q
  | str x =>
    obtain ⟨t, rfl⟩ := (show ∃ t, u = Value.str x t from ry)
    exact rc_back_of O F hb sb I ha ry (typeIs_str s x t) PySem.F.slot_str_eq hbk (fun Q' hq => call_meets PySem.F.slot_str_eq (typeIs_str s x t) PySem.F.entry_str_eq (PySem.F.args_str_eq_2 _ _) (str_declines_ins x t a _ rfl) ⟨J.at_, hq⟩) q
  | non =>
    cases (show u = Value.none from ry)
    exact rc_back_of O F hb sb I ha ry rfl PySem.F.slot_NoneType_eq hbk (fun Q' hq => call_gives PySem.F.slot_NoneType_eq rfl PySem.F.entry_NoneType_eq (PySem.F.args_NoneType_eq_2 _ _) (NoneType___eq___none_ref_0 a) hq) q
  | lst h =>
    cases (show u = Value.ref _ from ry)
    obtain ⟨its, rv, ⟨⟨cls, dd, data, sl⟩, m, ho, hc, hdn, hd⟩, _⟩ := I.list h
    simp only at hc hd
    subst hc hd
    exact rc_back_of O F hb sb I ha ry ⟨_, ho, rfl⟩ PySem.F.slot_list_eq hbk (fun Q' hq => call_meets PySem.F.slot_list_eq ⟨_, ho, rfl⟩ PySem.F.entry_list_eq (PySem.F.args_list_eq_2 _ _) (list_declines_ins _ a _ _ _ _) ⟨ho, isi hbk, hq⟩) q
  | tup h =>
    cases (show u = Value.ref _ from ry)
    obtain ⟨its, rv, ⟨⟨cls, dd, data, sl⟩, ho, hc, m, hd⟩, _⟩ := I.tuple h
    simp only at hc hd
    subst hc hd
    exact rc_back_of O F hb sb I ha ry ⟨_, ho, rfl⟩ PySem.F.slot_tuple_eq hbk (fun Q' hq => call_meets PySem.F.slot_tuple_eq ⟨_, ho, rfl⟩ PySem.F.entry_tuple_eq (PySem.F.args_tuple_eq_2 _ _) (tuple_declines_ins _ a _ _ _ _) ⟨ho, isi hbk, hq⟩) q
  | ins h => exact absurd rfl hne
end
/-! ### a list of such: in, count, index -/
section
variable {prog : Program} {w : World} {A : Around} {R : Result → Shared → Prop} {l : Addr} {items : Array Value} {x : Value} {e : Nat → Bool} {J : Shared → Prop}
open GQ MeetsSeq MeetsSeq2 MeetsSeq3
/-- l is the list of these items wherever J is; what == says is told by e -/
structure LJ (prog : Program) (w : World) (A : Around) (E : Value → Shared → Prop) (l : Addr) (items : Array Value) (x : Value) (e : Nat → Bool) (J : Shared → Prop) : Prop where
  at_ : ∀ s, J s → ∃ n, s.heap.get? l = some { cls := .type "list", data := .seq items n }
  eq : ∀ i (h : i < items.size) s, J s → wpAny (model prog w) A.in1 (eqBool items[i] x) (fun r s' => r = e i ∧ J s') E s
theorem contains_no (hj : LJ prog w A (fun e s' => R (.error e) s') l items x e J) (no : ∀ i, i < items.size → e i = false) (fin : ∀ s, J s → R (.ok (.ret (.bool false))) s) (k : Nat) :
    ∀ i : Nat, items.size - i = k → ∀ s, J s → wpAny (model prog w) A.in1 (Builtin.«list.__contains__.loop» ⟨[.ref l, x, rawInt i], []⟩) (FinOf prog w A R) (fun e s' => R (.error e) s') s := by
  induction k with
  | zero =>
    intro i hk s h
    obtain ⟨n, hl⟩ := hj.at_ _ h
    have hR := fin s h
    obtain ⟨hp, g, d, tk, os⟩ := s
    wp_walk using PySem.AutoSeq1.wpAny_loadPart' hl
    have hi : items[((i : Nat) : Int).toNat]? = none := by simp; omega
    rw [hi]
    wp_walk
    exact hR
  | succ k ih =>
    intro i hk s h
    obtain ⟨n, hl⟩ := hj.at_ _ h
    have hlt : i < items.size := by omega
    have ht := hj.eq i hlt s h
    obtain ⟨hp, g, d, tk, os⟩ := s
    wp_walk using PySem.AutoSeq1.wpAny_loadPart' hl
    have hi : items[((i : Nat) : Int).toNat]? = some items[i] := by simp [hlt]
    have hc : ((i : Int) + 1) = ((i + 1 : Nat) : Int) := by omega
    rw [hi]
    refine wpAny_bind (wpAny_mono ht (fun r s2 h2 => ?_) fun _ _ x => x)
    obtain ⟨hr, h2⟩ := h2
    rw [no i hlt] at hr
    subst hr
    have hrec := ih (i + 1) (by omega) s2 h2
    obtain ⟨hp2, g2, d2, tk2, os2⟩ := s2
    wp_walk
    rw [hc]
    exact ⟨plainId_quiet plain_contains_loop _, codeAny_builtin entry_contains_loop (by
      rw [Around.under_plainId plain_contains_loop _]
      exact hrec)⟩
theorem list_contains_no (hj : LJ prog w A (fun e s' => R (.error e) s') l items x e J) (no : ∀ i, i < items.size → e i = false) (fin : ∀ s, J s → R (.ok (.ret (.bool false))) s) {s : Shared} (h : J s) :
    wpAny (model prog w) A.in1 (Builtin.«list.__contains__» ⟨[.ref l, x], []⟩) (FinOf prog w A R) (fun e s' => R (.error e) s') s := by
  obtain ⟨n, hl⟩ := hj.at_ _ h
  have hrec := contains_no hj no fin _ 0 rfl s h
  obtain ⟨hp, g, d, tk, os⟩ := s
  wp_walk using PySem.AutoSeq1.wpAny_loadPart' hl
  wp_walk using PySem.AutoSeq1.wpAny_loadPart' hl
  exact ⟨plainId_quiet plain_contains_loop _, codeAny_builtin entry_contains_loop (by
    rw [Around.under_plainId plain_contains_loop _]
    exact hrec)⟩
theorem count_no (hj : LJ prog w A (fun e s' => R (.error e) s') l items x e J) (no : ∀ i, i < items.size → e i = false) (fin : ∀ s, J s → R (.ok (.ret (.int 0 s.toks))) { s with toks := s.toks + 1 }) (k : Nat) :
    ∀ i : Nat, items.size - i = k → ∀ s, J s → wpAny (model prog w) A.in1 (Builtin.«list.count.loop» ⟨[.ref l, x, rawInt i, rawInt 0], []⟩) (FinOf prog w A R) (fun e s' => R (.error e) s') s := by
  induction k with
  | zero =>
    intro i hk s h
    obtain ⟨n, hl⟩ := hj.at_ _ h
    have hR := fin s h
    obtain ⟨hp, g, d, tk, os⟩ := s
    wp_walk using PySem.AutoSeq1.wpAny_loadPart' hl
    have hi : items[((i : Nat) : Int).toNat]? = none := by simp; omega
    rw [hi]
    wp_walk
    exact hR
  | succ k ih =>
    intro i hk s h
    obtain ⟨n, hl⟩ := hj.at_ _ h
    have hlt : i < items.size := by omega
    have ht := hj.eq i hlt s h
    obtain ⟨hp, g, d, tk, os⟩ := s
    wp_walk using PySem.AutoSeq1.wpAny_loadPart' hl
    have hi : items[((i : Nat) : Int).toNat]? = some items[i] := by simp [hlt]
    have hc : ((i : Int) + 1) = ((i + 1 : Nat) : Int) := by omega
    rw [hi]
    refine wpAny_bind (wpAny_mono ht (fun r s2 h2 => ?_) fun _ _ x => x)
    obtain ⟨hr, h2⟩ := h2
    rw [no i hlt] at hr
    subst hr
    have hrec := ih (i + 1) (by omega) s2 h2
    obtain ⟨hp2, g2, d2, tk2, os2⟩ := s2
    wp_walk
    rw [hc]
    exact ⟨plainId_quiet plain_count_loop _, codeAny_builtin entry_count_loop (by
      rw [Around.under_plainId plain_count_loop _]
      exact hrec)⟩
theorem list_count_no (hj : LJ prog w A (fun e s' => R (.error e) s') l items x e J) (no : ∀ i, i < items.size → e i = false) (fin : ∀ s, J s → R (.ok (.ret (.int 0 s.toks))) { s with toks := s.toks + 1 }) {s : Shared} (h : J s) :
    wpAny (model prog w) A.in1 (Builtin.«list.count» ⟨[.ref l, x], []⟩) (FinOf prog w A R) (fun e s' => R (.error e) s') s := by
  obtain ⟨n, hl⟩ := hj.at_ _ h
  have hrec := count_no hj no fin _ 0 rfl s h
  obtain ⟨hp, g, d, tk, os⟩ := s
  wp_walk using PySem.AutoSeq1.wpAny_loadPart' hl
  exact ⟨plainId_quiet plain_count_loop _, codeAny_builtin entry_count_loop (by
    rw [Around.under_plainId plain_count_loop _]
    exact hrec)⟩
theorem index_loop (hj : LJ prog w A (fun e s' => R (.error e) s') l items x e J) {j : Nat} {upto : Int} (hjl : j < items.size) (hupto : (j : Int) < upto) (hit : e j = true) (no : ∀ i, i < j → e i = false)
    (fin : ∀ s, J s → R (.ok (.ret (.int j s.toks))) { s with toks := s.toks + 1 }) (k : Nat) :
    ∀ i : Nat, j - i = k → i ≤ j → ∀ s, J s → wpAny (model prog w) A.in1 (Builtin.«list.index.loop» ⟨[.ref l, x, rawInt i, rawInt upto], []⟩) (FinOf prog w A R) (fun e s' => R (.error e) s') s := by
  induction k with
  | zero =>
    intro i hk hij s h
    have hij' : i = j := by omega
    subst hij'
    obtain ⟨n, hl⟩ := hj.at_ _ h
    have ht := hj.eq i hjl s h
    obtain ⟨hp, g, d, tk, os⟩ := s
    wp_walk using PySem.AutoSeq1.wpAny_loadPart' hl
    have hi : (if (i : Int) < upto then items[((i : Nat) : Int).toNat]? else none) = some items[i] := by simp [hupto, hjl]
    rw [hi]
    refine wpAny_bind (wpAny_mono ht (fun r s2 h2 => ?_) fun _ _ x => x)
    obtain ⟨hr, h2⟩ := h2
    rw [hit] at hr
    subst hr
    have hR := fin s2 h2
    obtain ⟨hp2, g2, d2, tk2, os2⟩ := s2
    wp_walk
    exact hR
  | succ k ih =>
    intro i hk hij s h
    obtain ⟨n, hl⟩ := hj.at_ _ h
    have hlt : i < items.size := by omega
    have hst : (i : Int) < upto := by omega
    have ht := hj.eq i hlt s h
    obtain ⟨hp, g, d, tk, os⟩ := s
    wp_walk using PySem.AutoSeq1.wpAny_loadPart' hl
    have hi : (if (i : Int) < upto then items[((i : Nat) : Int).toNat]? else none) = some items[i] := by simp [hst, hlt]
    have hc : ((i : Int) + 1) = ((i + 1 : Nat) : Int) := by omega
    rw [hi]
    refine wpAny_bind (wpAny_mono ht (fun r s2 h2 => ?_) fun _ _ x => x)
    obtain ⟨hr, h2⟩ := h2
    rw [no i (by omega)] at hr
    subst hr
    have hrec := ih (i + 1) (by omega) (by omega) s2 h2
    obtain ⟨hp2, g2, d2, tk2, os2⟩ := s2
    wp_walk
    rw [hc]
    exact ⟨plainId_quiet plain_index_loop _, codeAny_builtin entry_index_loop (by
      rw [Around.under_plainId plain_index_loop _]
      exact hrec)⟩
theorem list_index_at (hj : LJ prog w A (fun e s' => R (.error e) s') l items x e J) {j : Nat} (hjl : j < items.size) (hsmall : (j : Int) < 2 ^ 63 - 1) (hit : e j = true) (no : ∀ i, i < j → e i = false)
    (fin : ∀ s, J s → R (.ok (.ret (.int j s.toks))) { s with toks := s.toks + 1 }) {s : Shared} (h : J s) :
    wpAny (model prog w) A.in1 (Builtin.«list.index» ⟨[.ref l, x], []⟩) (FinOf prog w A R) (fun e s' => R (.error e) s') s := by
  obtain ⟨n, hl⟩ := hj.at_ _ h
  have hrec := index_loop hj hjl hsmall hit no fin _ 0 rfl (Nat.zero_le _) s h
  obtain ⟨hp, g, d, tk, os⟩ := s
  wp_walk using PySem.AutoSeq1.wpAny_loadPart' hl
  have a1 : ((fun i : Int => if i < 0 then max 0 (i + (items.size : Int)) else i) ((none : Option Int).getD 0)) = ((0 : Nat) : Int) := by simp
  have a2 : ((fun i : Int => if i < 0 then max 0 (i + (items.size : Int)) else i) ((none : Option Int).getD (2 ^ 63 - 1))) = 2 ^ 63 - 1 := by simp
  rw [a1, a2]
  exact ⟨plainId_quiet plain_index_loop _, codeAny_builtin entry_index_loop (by
    rw [Around.under_plainId plain_index_loop _]
    exact hrec)⟩
end
section
variable {X : Cx} {C f : Addr} {n : Nat} {fd : FuncData} {ps : List Str} {sp : Sp}
/-- what == says of each of the list's and of a -/
def Asks (C : Addr) (sp : Sp) (a : Addr) (bs : List Addr) (e : Nat → Bool) (H : Hp) : Prop := ∀ i b, bs[i]? = some b → ∀ H', Ext H H' → (∃ dx fs, H' b = some (.ins C dx fs)) ∧ (∃ dx fs, H' a = some (.ins C dx fs)) ∧ (b = a → e i = true) ∧
  ∀ Q : VK, (∀ H'', Ext H' H'' → Q (.bl (e i)) H'') → sp [.ref b, .ref a] H' Q E0
theorem asks_lj (O : OEq X.K C f) (F : FnOk X.prog X.w X.K X.mg X.base CX0 n f fd ps sp) (hb : Binds X.K fd ps []) (hr : Room (n + 1) X.A) {pins : List (Addr × Obj)} {σ : L2.St} {H : Hp} {l a : Addr} {bs : List Addr} {e : Nat → Bool}
    (hl : H l = some (.lst (bs.map V.ref))) (h : Asks C sp a bs e H) : LJ X.prog X.w X.A X.xe l (bs.map Value.ref).toArray (.ref a) e (fun s' => ∃ H', Inv X pins σ H' s' ∧ Ext H H') := by
  refine ⟨fun s ⟨H', I, x⟩ => ?_, fun i hi s ⟨H', I, x⟩ => ?_⟩
  · obtain ⟨its, m, r, ho, hz⟩ := I.lst (x _ _ hl)
    have : its = bs.map Value.ref := by
      clear ho hl h hz
      induction bs generalizing its with
      | nil => cases r; rfl
      | cons b t ih =>
        cases r with
        | cons r1 r2 =>
          rw [List.map_cons, ← ih _ r2, (show _ = Value.ref b from r1)]
    exact ⟨m, by rw [ho, this]⟩
  · have hi' : i < bs.length := by simpa using hi
    have hg : bs[i]? = some bs[i] := List.getElem?_eq_getElem hi'
    obtain ⟨⟨dx, fs, eb⟩, ⟨dy, gs, ea⟩, same, q⟩ := h i bs[i] hg H' x
    have hv : (bs.map Value.ref).toArray[i] = .ref bs[i] := by simp
    rw [hv]
    by_cases hab : bs[i] = a
    · rw [hab]
      exact SeqAt.EqAt.same (A := X.A.in1) (s := s) (.ref a) X.prog X.w X.xe _ ⟨(same hab).symm, H', I, x⟩
    · refine GQ.eqBool_refG hab ?_
      refine wpAny_mono (rc_own O F hb (A := X.A.in1) ⟨hr.in1, rfl⟩ I eb (.ins ea) (u := .ref a) rfl (Q := fun b H'' => b = e i ∧ Ext H' H'') (q _ fun H'' x2 => ⟨_, rfl, rfl, x2⟩)) (fun v s' z => ?_) fun _ _ x => x
      obtain ⟨b, rfl, H'', I', rfl, x2⟩ := z
      exact ⟨_, rfl, rfl, H'', I', x.trans x2⟩
variable (K : PySem.W.Frag)
/-- x in l: none of the list's is alike -/
def rInO (C : Addr) (sp : Sp) : R2 := fun x y H Q => ∃ (a l : Addr) (bs : List Addr), x = .ref a ∧ y = .ref l ∧ H l = some (.lst (bs.map V.ref)) ∧ Asks C sp a bs (fun _ => false) H ∧ ∀ H', Ext H H' → Q (.bl false) H'
theorem op_inO (O : OEq X.K C f) (F : FnOk X.prog X.w X.K X.mg X.base CX0 n f fd ps sp) (hb : Binds X.K fd ps []) (hr : Room (n + 1) X.A) : OpR X (compareOp .In) (rInO C sp) := by
  intro pins s σ H x y v u Q I rx ry h
  obtain ⟨a, l, bs, rfl, rfl, hl, hA, q⟩ := h
  cases rx
  cases ry
  obtain ⟨its, m, r, ho, _⟩ := I.lst hl
  have hj := asks_lj (pins := pins) (σ := σ) O F hb hr hl hA
  show wpAny _ X.A (do return Value.bool (← contains (.ref l) (.ref a))) _ _ s
  refine wpAny_bind (wpAny_contains_slot ⟨_, ho, rfl⟩ PySem.F.slot_list_contains (GQ.call_here PySem.F.slot_list_contains ⟨_, ho, rfl⟩ PySem.F.entry_list_contains (PySem.F.args_list_contains_2 _ _) (list_contains_no (R := wants _ _) hj (fun _ _ => rfl) (fun s' ⟨H', I', x⟩ => ?_) ⟨H, I, fun _ _ h => h⟩)))
  exact wpAny_truthy_bool (wpAny_pure ⟨.bl false, H', I', rfl, q H' x⟩)
/-- l.count(x): none of the list's is alike -/
def rCountO (C : Addr) (sp : Sp) : V → List V → Hp → VK → Prop := fun x xs H Q => ∃ (a l : Addr) (bs : List Addr), x = .ref l ∧ xs = [.ref a] ∧ H l = some (.lst (bs.map V.ref)) ∧ Asks C sp a bs (fun _ => false) H ∧ ∀ H', Ext H H' → Q (.int 0) H'
theorem mt_countO (O : OEq X.K C f) (F : FnOk X.prog X.w X.K X.mg X.base CX0 n f fd ps sp) (hb : Binds X.K fd ps []) (hr : Room (n + 1) X.A) : MtR X "list.count" (rCountO C sp) := by
  intro pins s σ H x xs v us Q I rx rxs h
  obtain ⟨a, l, bs, rfl, rfl, hl, hA, q⟩ := h
  cases rx
  cases rxs with
  | cons ry rt =>
    cases rt
    cases ry
    obtain ⟨its, m, r, ho, _⟩ := I.lst hl
    have hj := asks_lj (pins := pins) (σ := σ) O F hb hr hl hA
    refine GQ.call_here PySem.F.slot_list_count ⟨_, ho, rfl⟩ PySem.F.entry_list_count (PySem.F.args_list_count_2 _ _) (list_count_no (R := wants _ _) hj (fun _ _ => rfl) (fun s' ⟨H', I', x⟩ => ?_) ⟨H, I, fun _ _ h => h⟩)
    exact ⟨.int 0, H', I'.tok _, ⟨_, rfl⟩, q H' x⟩
/-- l.index(x): the first alike one -/
def rIndexO (C : Addr) (sp : Sp) : V → List V → Hp → VK → Prop := fun x xs H Q => ∃ (a l : Addr) (bs : List Addr) (j : Nat) (e : Nat → Bool), x = .ref l ∧ xs = [.ref a] ∧ H l = some (.lst (bs.map V.ref)) ∧ j < bs.length ∧ j < 1000 ∧ e j = true ∧ (∀ i, i < j → e i = false) ∧ Asks C sp a bs e H ∧ ∀ H', Ext H H' → Q (.int (j : Nat)) H'
theorem mt_indexO (O : OEq X.K C f) (F : FnOk X.prog X.w X.K X.mg X.base CX0 n f fd ps sp) (hb : Binds X.K fd ps []) (hr : Room (n + 1) X.A) : MtR X "list.index" (rIndexO C sp) := by
  intro pins s σ H x xs v us Q I rx rxs h
  obtain ⟨a, l, bs, j, e, rfl, rfl, hl, hj1, hj2, hit, no, hA, q⟩ := h
  cases rx
  cases rxs with
  | cons ry rt =>
    cases rt
    cases ry
    obtain ⟨its, m, r, ho, _⟩ := I.lst hl
    have hj := asks_lj (pins := pins) (σ := σ) O F hb hr hl hA
    refine GQ.call_here PySem.F.slot_list_index ⟨_, ho, rfl⟩ PySem.F.entry_list_index (PySem.F.args_list_index_2 _ _) (list_index_at (R := wants _ _) hj (j := j) (by simpa using hj1) (by omega) hit no (fun s' ⟨H', I', x⟩ => ?_) ⟨H, I, fun _ _ h => h⟩)
    exact ⟨.int (j : Nat), H', I'.tok _, ⟨_, rfl⟩, q H' x⟩
end
/-! ### ==, != as expressions; repr(x), str(x), {x!s} by own defs -/
section
variable {X : Cx} {C f : Addr} {n : Nat} {fd : FuncData} {ps : List Str} {sp : Sp} {A : Around} {pins : List (Addr × Obj)} {σ : L2.St} {H : Hp} {s : Shared}
theorem own_callN {xs : List V} {us : List Value} (F : FnOk X.prog X.w X.K X.mg X.base CX0 n f fd ps sp) (hb : Binds X.K fd ps []) (sb : Sub X n A) (I : Inv X pins σ H s) (r2 : Vals xs us) {Q : VK} (q : sp xs H Q E0) :
    wpAny (model X.prog X.w) A (call (.ref f) us) (EP X pins σ Q) X.xe s := by
  have e0 : Env0 X.prog X.w X.K X.mg X.base A X.stack s H := by
    have e := I.env0
    exact ⟨by rw [sb.fr]; exact e.frames, e.mod, e.bs, e.bsz, e.funs, e.frf, e.hok, e.bare⟩
  have hl := F.len _ _ _ _ q
  refine wpAny_call (codeAny_mono (F.run A X.stack s H ⟨us, []⟩ us xs _ E0 sb.room e0 (by
    have := hb s us I.kIn (by rw [List.append_nil, ← r2.length]; exact hl)
    simpa using this) r2 q) fun r s' hq => ?_)
  cases r with
  | error e => exact pass0 pins σ H s e s' I hq
  | ok fl =>
    cases fl with
    | ret w =>
      obtain ⟨z, H', I', rz, q⟩ := I.after hq
      exact ⟨z, H', I', rz, q⟩
    | next => exact False.elim hq
    | brk => exact False.elim hq
    | cont => exact False.elim hq
def rEqO (K : PySem.W.Frag) (C : Addr) (sp : Sp) : R2 := fun x y H Q =>
  (∃ (a dx : Addr) (fs : List (Str × V)) (tv : Value), x = .ref a ∧ H a = some (.ins C dx fs) ∧ TyV K C H y tv ∧ sp [x, y] H (fun v H' => ∃ b, v = .bl b ∧ Q (.bl b) H') E0) ∨
  (∃ (a dx : Addr) (fs : List (Str × V)) (tv : Value), y = .ref a ∧ H a = some (.ins C dx fs) ∧ TyV K C H x tv ∧ tv ≠ .ref C ∧ sp [y, x] H (fun v H' => ∃ b, v = .bl b ∧ Q (.bl b) H') E0)
def rNeO (K : PySem.W.Frag) (C : Addr) (sp : Sp) : R2 := fun x y H Q =>
  ∃ (a dx : Addr) (fs : List (Str × V)) (tv : Value), x = .ref a ∧ H a = some (.ins C dx fs) ∧ TyV K C H y tv ∧ sp [x, y] H (fun v H' => ∃ b, v = .bl b ∧ Q (.bl (!b)) H') E0
theorem op_eqO (O : OEq X.K C f) (F : FnOk X.prog X.w X.K X.mg X.base CX0 n f fd ps sp) (hb : Binds X.K fd ps []) (hr : Room n X.A) : OpR X (compareOp .Eq) (rEqO X.K C sp) := by
  intro pins s σ H x y v u Q I rx ry h
  have fin : ∀ {v : Value} {s' : Shared}, (∃ b, v = Value.bool b ∧ ∃ H', Inv X pins σ H' s' ∧ Q (.bl b) H') → EP X pins σ Q v s' := fun h => by
    obtain ⟨b, rfl, H', I', q⟩ := h
    exact ⟨.bl b, H', I', rfl, q⟩
  rcases h with ⟨a, dx, fs, tv, rfl, ha, ty, q⟩ | ⟨a, dx, fs, tv, rfl, ha, ty, hne, q⟩
  · cases (show v = Value.ref a from rx)
    exact wpAny_mono (rc_own O F hb (A := X.A) ⟨hr, rfl⟩ I ha ty ry (Q := fun b H' => Q (.bl b) H') q) (fun v s' z => fin z) fun _ _ x => x
  · cases (show u = Value.ref a from ry)
    exact wpAny_mono (rc_back O F hb (A := X.A) ⟨hr, rfl⟩ I ha ty hne rx (Q := fun b H' => Q (.bl b) H') q) (fun v s' z => fin z) fun _ _ x => x
theorem op_neO (O : OEq X.K C f) (F : FnOk X.prog X.w X.K X.mg X.base CX0 n f fd ps sp) (hb : Binds X.K fd ps []) (hr : Room (n + 1) X.A) : OpR X (compareOp .NotEq) (rNeO X.K C sp) := by
  intro pins s σ H x y v u Q I rx ry h
  obtain ⟨a, dx, fs, tv, rfl, ha, ty, q⟩ := h
  cases (show v = Value.ref a from rx)
  refine wpAny_mono (rc_ownNe O F hb (A := X.A) ⟨hr, rfl⟩ I ha ty ry (Q := fun b H' => Q (.bl b) H') q) (fun v s' z => ?_) fun _ _ x => x
  obtain ⟨b, rfl, H', I', q⟩ := z
  exact ⟨.bl b, H', I', rfl, q⟩
/-- an own def that tells a text -/
structure OTx (K : PySem.W.Frag) (C f : Addr) (m : Str) : Prop where
  at_ : PySem.W.findIn K (.ref C) m = some (some (.ref f))
  fn : PySem.W.isFn K (.ref f) = true
def rTxO (C : Addr) (sp : Sp) : List V → Hp → VK → Prop := fun xs H Q => ∃ (a dx : Addr) (fs : List (Str × V)), xs = [.ref a] ∧ H a = some (.ins C dx fs) ∧ sp [.ref a] H (fun v H' => ∃ y : Str, v = .str y ∧ Q (.str y) H') E0
theorem strback {Q : VK} {v : Value} {s' : Shared} (h : EP X pins σ (fun v H' => ∃ y : Str, v = .str y ∧ Q (.str y) H') v s') : PySem.W.StrBack (EP X pins σ Q) v s' := by
  obtain ⟨z, H', I', rz, y, rfl, q⟩ := h
  obtain ⟨t, rfl⟩ := (show ∃ t, v = Value.str y t from rz)
  exact ⟨.str y, H', I', ⟨t, rfl⟩, q⟩
theorem call_reprO (O : OTx X.K C f "__repr__") (F : FnOk X.prog X.w X.K X.mg X.base CX0 n f fd ps sp) (hb : Binds X.K fd ps []) (hr : Room (n + 1) X.A) : CallR X (.builtin "repr") (rTxO C sp) := by
  intro pins s σ H xs us Q I rv h
  obtain ⟨a, dx, fs, rfl, ha, q⟩ := h
  cases rv with
  | cons e rr =>
    cases rr
    cases e
    obtain ⟨mA, J, _⟩ := ins_get I.hok ha
    obtain ⟨od, J, _⟩ := J.look
    obtain ⟨m, hF⟩ := I.fr
    exact PySem.W.repr_K hr.in1.units0 hF I.ok.mod.kin J O.at_ O.fn (wpAny_mono (own_callN F hb (A := X.A.in1) ⟨hr.in1, rfl⟩ (xs := [.ref a]) (us := [.ref a]) I (.cons rfl .nil) q) (fun v s' z => strback z) fun _ _ x => x)
theorem call_strO (O : OTx X.K C f "__str__") (F : FnOk X.prog X.w X.K X.mg X.base CX0 n f fd ps sp) (hb : Binds X.K fd ps []) (hr : Room (n + 2) X.A) : CallR X (.type "str") (rTxO C sp) := by
  intro pins s σ H xs us Q I rv h
  obtain ⟨a, dx, fs, rfl, ha, q⟩ := h
  cases rv with
  | cons e rr =>
    cases rr
    cases e
    obtain ⟨mA, J, _⟩ := ins_get I.hok ha
    obtain ⟨od, J, _⟩ := J.look
    have hr2 : Room n X.A.in1.in1 := (show Room (n + 1) X.A.in1 from Room.in1 hr).in1
    exact PySem.W.kso_call hr2.units0 I.kIn J O.at_ O.fn (wpAny_mono (own_callN F hb (A := X.A.in1.in1) ⟨hr2, rfl⟩ (xs := [.ref a]) (us := [.ref a]) I (.cons rfl .nil) q) (fun v s' z => strback z) fun _ _ x => x)
/-- {x!s} -/
def tFmtS (C : Addr) (sp : Sp) (te : TE) : TE := fun σ H Q => te σ H fun x H1 => ∃ (a dx : Addr) (fs : List (Str × V)), x = .ref a ∧ H1 a = some (.ins C dx fs) ∧ sp [.ref a] H1 (fun v H' => ∃ y : Str, v = .str y ∧ y.length ≤ sizeLine ∧ Q (.str y) H') E0
theorem pe_fmtS {e : Expr} {te : TE} {pos : Pos} (O : OTx X.K C f "__str__") (F : FnOk X.prog X.w X.K X.mg X.base CX0 n f fd ps sp) (hb : Binds X.K fd ps []) (hr : Room n X.A) (he : PE X e te) : PE X (.FormattedValue e 115 none pos) (tFmtS C sp te) := by
  refine ⟨fun pins s σ H Q I h => ?_⟩
  rw [arm_eval_FormattedValue]
  refine wpAny_bind (wpAny_mono (he.run pins s σ H _ I h) (fun v s1 hv => ?_) fun _ _ x => x)
  obtain ⟨x, H1, I1, r1, a, dx, fs, rfl, ha, q⟩ := hv
  cases (show v = Value.ref a from r1)
  refine wpAny_bind (wpAny_standAt ?_)
  show wpAny _ _ (do let v' ← holding [Value.ref a] (pyStrObj (Value.ref a)); formatField v' Str.empty) _ _ s1
  obtain ⟨mA, J, _⟩ := ins_get I1.hok ha
  obtain ⟨od, J, _⟩ := J.look
  refine wpAny_bind (wpAny_holding (PySem.W.kfo_str hr.units0 I1.kIn J O.at_ O.fn (wpAny_mono (own_callN F hb (A := X.A) ⟨hr, rfl⟩ (xs := [.ref a]) (us := [.ref a]) I1 (.cons rfl .nil) q) (fun v s' z => ?_) fun _ _ x => x)))
  obtain ⟨z, H', I', rz, y, rfl, hz, q⟩ := z
  obtain ⟨t, rfl⟩ := (show ∃ t, v = Value.str y t from rz)
  exact wpAny_formatField_str ⟨.str y, H', I', ⟨t, rfl⟩, q⟩ ⟨.str y, H', I'.tok _, ⟨_, rfl⟩, q⟩ hz
end
end OEQ
/-! ### an own __eq__, __str__, __repr__ by their promises; a class as a value -/
structure CEq (P : Program) (w : World) (K : PySem.W.Frag) (mg : Str → Option Value) (base : Heap) (C : Addr) (k : Nat) (sp : Sp) : Prop where
  ex : ∃ (f : Addr) (fd : FuncData), FnOk P w K mg base CX0 k f fd ["self", "other"] sp ∧ OEQ.OEq K C f ∧ Binds K fd ["self", "other"] []
structure CTx (P : Program) (w : World) (K : PySem.W.Frag) (mg : Str → Option Value) (base : Heap) (C : Addr) (k : Nat) (m : Str) (sp : Sp) : Prop where
  ex : ∃ (f : Addr) (fd : FuncData), FnOk P w K mg base CX0 k f fd ["self"] sp ∧ OEQ.OTx K C f m ∧ Binds K fd ["self"] []
section
variable (K : PySem.W.Frag) {X : Cx} {C : Addr} {k : Nat} {sp : Sp}
theorem kk_eqO (M : CEq X.prog X.w X.K X.mg X.base C k sp) (hr : Room k X.A) (h : X.K = K := by rfl) : OpR X (compareOp .Eq) (OEQ.rEqO K C sp) := by
  obtain ⟨f, fd, F, O, b⟩ := M.ex
  exact h ▸ OEQ.op_eqO O F b hr
theorem kk_neO (M : CEq X.prog X.w X.K X.mg X.base C k sp) (hr : Room (k + 1) X.A) (h : X.K = K := by rfl) : OpR X (compareOp .NotEq) (OEQ.rNeO K C sp) := by
  obtain ⟨f, fd, F, O, b⟩ := M.ex
  exact h ▸ OEQ.op_neO O F b hr
theorem kk_inO (M : CEq X.prog X.w X.K X.mg X.base C k sp) (hr : Room (k + 1) X.A) : OpR X (compareOp .In) (OEQ.rInO C sp) := by
  obtain ⟨f, fd, F, O, b⟩ := M.ex
  exact OEQ.op_inO O F b hr
theorem mt_countO (M : CEq X.prog X.w X.K X.mg X.base C k sp) (hr : Room (k + 1) X.A) : MtR X "list.count" (OEQ.rCountO C sp) := by
  obtain ⟨f, fd, F, O, b⟩ := M.ex
  exact OEQ.mt_countO O F b hr
theorem mt_indexO (M : CEq X.prog X.w X.K X.mg X.base C k sp) (hr : Room (k + 1) X.A) : MtR X "list.index" (OEQ.rIndexO C sp) := by
  obtain ⟨f, fd, F, O, b⟩ := M.ex
  exact OEQ.mt_indexO O F b hr
theorem kk_reprO (M : CTx X.prog X.w X.K X.mg X.base C k "__repr__" sp) (hr : Room (k + 1) X.A) : CallR X (.builtin "repr") (OEQ.rTxO C sp) := by
  obtain ⟨f, fd, F, O, b⟩ := M.ex
  exact OEQ.call_reprO O F b hr
theorem kk_strO (M : CTx X.prog X.w X.K X.mg X.base C k "__str__" sp) (hr : Room (k + 2) X.A) : CallR X (.type "str") (OEQ.rTxO C sp) := by
  obtain ⟨f, fd, F, O, b⟩ := M.ex
  exact OEQ.call_strO O F b hr
theorem pe_fmtSO {e : Expr} {te : TE} {pos : Pos} (M : CTx X.prog X.w X.K X.mg X.base C k "__str__" sp) (hr : Room k X.A) (he : PE X e te) : PE X (.FormattedValue e 115 none pos) (OEQ.tFmtS C sp te) := by
  obtain ⟨f, fd, F, O, b⟩ := M.ex
  exact OEQ.pe_fmtS O F b hr he
end
/-- the class at C, of the name x, as a value: what isinstance asks -/
structure TEq (K : PySem.W.Frag) (mg : Str → Option Value) (C : Addr) (x : Str) : Prop where
  g : mg x = some (.ref C)
  ca : PySem.W.findIn K (.ref C) "__class__" = some (some (.builtin "object.__class__"))
  cn : PySem.W.specialIn K (.builtin "object.__class__") "__get__" = some (some (.builtin "getset_descriptor.__get__"))
  ct : PySem.W.takesIn K (.builtin "object.__class__") = some true
  cm : PySem.W.mroIn K C (.type "object") = some true
  me : PySem.W.kitOne K (.ref C) (.ref C) = some true
  no : ∀ T ∈ (["int", "bool", "str", "NoneType", "list", "tuple"] : List String), PySem.W.kitOne K (.type T) (.ref C) = some false
theorem TEq.tyi {K : PySem.W.Frag} {mg : Str → Option Value} {C a dx : Addr} {x : Str} {H : Hp} {fs : List (Str × V)} (T : TEq K mg C x) (c : Cls K C) (h : H a = some (.ins C dx fs)) : TyX K H (.ref a) (.ref C) := .base (.ins h c T.ca T.cn T.ct T.cm)
theorem kit_self {K : PySem.W.Frag} {t : Addr} : PySem.W.kitOne K (.ref t) (.ref t) = some true := by
  unfold PySem.W.kitOne
  rw [if_pos (beq_self_eq_true _)]
theorem kit_tr {K : PySem.W.Frag} {T : String} {C : Addr} {b : Bool} (hc : PySem.W.isClsIn K C = true) (ht : PySem.W.typeIn K (.ref C) = some (.type "type")) (hs : PySem.W.subIn K (.type T) (.ref C) = some b) : PySem.W.kitOne K (.type T) (.ref C) = some b := by
  have h1 : (Value.type T == Value.ref C) = false := beq_eq_false_iff_ne.mpr fun e => nomatch e
  have h2 : ((PySem.W.clsIn K C).isSome && PySem.W.typeIn K (.ref C) == some (.type "type")) = true := by
    rw [show (PySem.W.clsIn K C).isSome = true from hc, ht]
    rfl
  unfold PySem.W.kitOne
  rw [h1, if_neg (by decide)]
  unfold PySem.W.kitCls
  dsimp only
  rw [if_pos h2]
  exact hs
theorem six_of {T : String} (h : T ∈ (["int", "bool", "str", "NoneType", "list", "tuple"] : List String)) : T = "int" ∨ T = "bool" ∨ T = "str" ∨ T = "NoneType" ∨ T = "list" ∨ T = "tuple" := by simpa using h
/-- of another kind: its type, and isinstance says no -/
theorem OEQ.TyV.tyx {K : PySem.W.Frag} {C : Addr} {H : Hp} {y : V} {tv : Value} (t : OEQ.TyV K C H y tv) (hne : tv ≠ .ref C) : ∃ T : String, tv = .type T ∧ T ∈ (["int", "bool", "str", "NoneType", "list", "tuple"] : List String) ∧ TyX K H y (.type T) := by
  cases t with
  | int i => exact ⟨_, rfl, by decide, .base (.int i)⟩
  | bl b => exact ⟨_, rfl, by decide, .base (.bl b)⟩
  | str x => exact ⟨_, rfl, by decide, .base (.str x)⟩
  | non => exact ⟨_, rfl, by decide, .base .non⟩
  | lst h =>
    rcases h with (h | ⟨o, h⟩) | ⟨o, its, n, hk, hc, _⟩
    · exact ⟨_, rfl, by decide, .base (.lst h)⟩
    · exact ⟨_, rfl, by decide, .base (.frz h)⟩
    · exact ⟨_, rfl, by decide, .kList hk hc⟩
  | tup h =>
    rcases h with (h | ⟨o, h⟩) | ⟨o, its, n, hk, hc, _⟩
    · exact ⟨_, rfl, by decide, .base (.tup h)⟩
    · exact ⟨_, rfl, by decide, .fTuple h⟩
    · exact ⟨_, rfl, by decide, .kTuple hk hc⟩
  | ins h => exact absurd rfl hne
/-! ### C(**d): the keywords out of a dict -/
namespace KWS
open PySem PySem.Spec PyProof.Rows L2
section
variable {prog : Program} {w : World} {K : Type} [DecidableEq K] {knd : KeyKind prog w K} {A : Around} {E : Value → Shared → Prop} {s : Shared}
theorem find_new {d : Addr} {kvs : List (K × Value)} {k : K} {key : Value} {Q : Option Nat → Shared → Prop} (hkey : knd.is k key = true) (hm : s.heap.DictOf knd d kvs) (fresh : k ∉ kvs.map (·.1)) (q : Q none s) :
    wpAny (model prog w) A (dictFind d key (knd.hash k)) Q E s := by
  obtain ⟨o, es, ep, ho, hc, hd, hk, hp, hn⟩ := hm
  refine wpAny_dictFind_of hkey ho hd hk ?_
  have hidx : (es.findIdx? fun e => knd.is k e.key) = kvs.findIdx? fun kv => decide (kv.1 = k) := by
    rw [← hp.findIdx k]; obtain ⟨l⟩ := es; simp
  have e : (kvs.findIdx? fun kv => decide (kv.1 = k)) = none := by
    rw [List.findIdx?_eq_none_iff]
    intro x hx
    exact decide_eq_false fun z => fresh (List.mem_map.mpr ⟨x, hx, z⟩)
  rw [hidx, e]
  exact q
theorem put_new {d : Addr} {kvs : List (K × Value)} {k : K} {key v : Value} {Q : Unit → Shared → Prop} (hkey : knd.is k key = true) (hm : s.heap.DictOf knd d kvs) (fresh : k ∉ kvs.map (·.1))
    (hQ : ∀ h', h'.DictOf knd d (kvs ++ [(k, v)]) → Heap.SameBut d s.heap h' → Q () { s with heap := h' }) (hsz : kvs.length ≤ sizeLine) :
    wpAny (model prog w) A (dictPut d (knd.hash k) key v) Q E s := by
  unfold dictPut
  refine wpAny_bind (find_new hkey hm fresh ?_)
  obtain ⟨o, es, ep, ho, hc, hd, hk, hp, hn⟩ := hm
  have hes : es.size ≤ sizeLine := by
    have e1 := hp.length
    have e2 : es.toList.length = es.size := by simp
    omega
  refine wpAny_updateDictKeys (hz := hes) ho hd (hQ _ ⟨_, _, ep + 1, Heap.get?_update_self _ ho (Obj.isFreed_of_dict (Obj.data_mapDictKeys hd _)),
    hc.mapDictKeys _, Obj.data_mapDictKeys hd _, hk.push hkey _, ?_, ?_⟩ (Heap.SameBut.update ..))
  · have := hp.append hkey (knd.hash k) v
    obtain ⟨l⟩ := es
    simpa using this
  · rw [List.map_append, List.nodup_append]
    refine ⟨hn, by simp, ?_⟩
    intro a ha b hb
    simp only [List.map_cons, List.map_nil, List.mem_singleton] at hb
    subst hb
    exact fun e => fresh (e ▸ ha)
/-- an empty dict d is merged with the dict o -/
theorem merge_map {d o : Addr} {more : List (K × Value)} {Q : Unit → Shared → Prop} (hdo : d ≠ o) (hoS : (o == sysModules) = false) (nr : ∀ k v, knd.is k v = true → ∀ a, v ≠ .ref a)
    (hd : s.heap.DictOf knd d []) (ho : s.heap.DictOf knd o more)
    (hQ : ∀ h', h'.DictOf knd d more → h'.DictOf knd o more → Heap.SameBut d s.heap h' → Q () { s with heap := h' }) (hsz : more.length ≤ sizeLine) :
    wpAny (model prog w) A (mergeMapping d (.ref o) true) Q E s := by
  obtain ⟨od, esd, epd, hod, hcd, hdd, hkd, hpd, hnd⟩ := id hd
  obtain ⟨oo, eso, epo, hoo, hco, hdo', hko, hpo, hno⟩ := id ho
  have hlen : more.length = eso.size := by rw [← hpo.length]; simp
  have h0 : esd = #[] := by
    have := hpd.length
    exact Array.eq_empty_of_size_eq_zero (by simpa using this)
  unfold mergeMapping
  refine wpAny_bind (m := isInstance (.ref o) (.type "dict")) (wpAny_isInstance ho.typeIs isSubtype_dict_dict ?_)
  dsimp only
  rw [if_pos rfl]
  refine wpAny_bind (m := specialOf (.ref o) (Str.ofString "__iter__")) (wpAny_specialOf ho.typeIs PySem.F.slot_dict_iter.lookup (wpAny_bind (wpAny_pure ?_)))
  simp only [beq_self_eq_true]
  rw [if_neg (by rw [hoS]; exact Bool.false_ne_true)]
  refine wpAny_bind (wpAny_dictEntries hod hdd ?_)
  rw [if_pos (by rw [h0]; rfl)]
  refine wpAny_bind (wpAny_dictEntries hoo hdo' ?_)
  have each : ∀ f : DictEntry → PUnit → Sem (ForInStep PUnit), (∀ e ∈ eso.toList, f e PUnit.unit = pure (.yield PUnit.unit)) → forIn eso PUnit.unit f = pure PUnit.unit := fun f hf => by
    rw [← Array.forIn_toList]
    exact forIn_yield_id _ fun e he c => hf e he
  refine wpAny_bind (wpAny_of_eq (each _ fun e he => ?_) ?_)
  · obtain ⟨k, hkey, _⟩ := hko e (Array.mem_toList_iff.mp he)
    have hn := nr k _ hkey
    cases h : e.key <;> first | rfl | exact absurd h (hn _)
  refine wpAny_bind (wpAny_dictEntries hoo hdo' ?_)
  refine wpAny_bind (wpAny_dictEpoch hoo hdo' ?_)
  refine wpAny_bind ?_
  refine wpAny_forIn_list _
    (fun rest _ s' => ∃ h' i, s' = { s with heap := h' } ∧ rest = List.range' i (eso.size - i) ∧ i ≤ eso.size ∧ h'.DictOf knd d (more.take i) ∧ h'.get? o = some oo ∧ Heap.SameBut d s.heap h')
    _ ?_ ?_ _ _ ⟨s.heap, 0, rfl, by simp [List.range_eq_range'], Nat.zero_le _, by simpa using hd, hoo, Heap.SameBut.refl _ _⟩
  · rintro x rest b s' ⟨h', i, rfl, hr, hi, hd', hoo', hs'⟩
    have hlt : i < eso.size := by
      rcases Nat.lt_or_ge i eso.size with h | h
      · exact h
      · rw [Nat.sub_eq_zero_of_le h] at hr; simp at hr
    obtain ⟨rfl, hrest⟩ : x = i ∧ rest = List.range' (i + 1) (eso.size - (i + 1)) := by
      have e : eso.size - i = (eso.size - (i + 1)) + 1 := by omega
      rw [e, List.range'_succ] at hr
      injection hr with h1 h2
      exact ⟨h1, h2⟩
    refine wpAny_bind (wpAny_dictEntries hoo' hdo' ?_)
    rw [Array.getElem?_eq_getElem hlt]
    have hml : x < more.length := by rw [hlen]; exact hlt
    obtain ⟨kv, hkv⟩ : ∃ kv, more[x]? = some kv := ⟨more[x]'hml, List.getElem?_eq_getElem _⟩
    obtain ⟨k, v⟩ := kv
    obtain ⟨hkey, hval⟩ := hpo.get? (e := eso[x]) (by simp [hlt]) hkv
    obtain ⟨k', hkey', hhash⟩ := hko eso[x] (Array.getElem_mem hlt)
    obtain rfl : k' = k := knd.inj _ _ _ hkey' hkey
    have tk : more.take (x + 1) = more.take x ++ [(k', v)] := by rw [List.take_add_one, hkv]; rfl
    have fresh : k' ∉ (more.take x).map (·.1) := by
      have h1 : ((more.take (x + 1)).map (·.1)).Nodup := List.Nodup.sublist ((List.take_sublist _ _).map _) hno
      rw [tk, List.map_append, List.nodup_append] at h1
      exact fun z => h1.2.2 k' z k' (by simp) rfl
    have hmx : (more.take x).length ≤ sizeLine := by
      rw [List.length_take]
      omega
    dsimp only
    rw [if_pos trivial, hhash, hval]
    refine wpAny_bind (wpAny_holding (wpAny_bind (find_new hkey hd' fresh ?_)))
    rw [if_neg (by simp)]
    refine put_new hkey hd' fresh (fun h'' hd'' hs'' => ?_) hmx
    have hoo'' : h''.get? o = some oo := (hs''.2 o (Ne.symm hdo)).trans hoo'
    refine wpAny_bind (wpAny_dictEpoch hoo'' hdo' ?_)
    rw [if_neg (by simp)]
    exact wpAny_pure ⟨h'', x + 1, rfl, hrest, hlt, by rw [tk]; exact hd'', hoo'', hs'.trans hs''⟩
  · rintro b s' ⟨h', i, rfl, hr, hi, hd', hoo', hs'⟩
    have hin : i = eso.size := by
      rcases Nat.lt_or_ge i eso.size with h | h
      · have e : eso.size - i = (eso.size - (i + 1)) + 1 := by omega
        rw [e, List.range'_succ] at hr; exact nomatch hr
      · exact Nat.le_antisymm hi h
    refine wpAny_pure (hQ h' ?_ ⟨oo, eso, epo, hoo', hco, hdo', hko, hpo, hno⟩ hs')
    rw [hin, ← hlen, List.take_length] at hd'; exact hd'
end
section
variable {prog : Program} {w : World} {A : Around} {E : Value → Shared → Prop} {s : Shared}
/-- the keywords that stand in a dict of texts -/
theorem kws_in {f : Value} {d : Addr} {nvs : List (Str × Value)} {Q : List (Str × Value) → Shared → Prop} (hd : s.heap.DictOf (mixKind prog w) d (nvs.map fun p => (Sum.inr p.1, p.2))) (q : Q nvs s) :
    wpAny (model prog w) A (keywordsIn f d) Q E s := by
  obtain ⟨o, es, ep, ho, hc, hdt, hk, hp, hn⟩ := hd
  unfold keywordsIn
  refine wpAny_bind (wpAny_dictEntries ho hdt ?_)
  have hlen : nvs.length = es.size := by
    have := hp.length
    rw [List.length_map] at this
    rw [← this]
    simp
  rw [← Array.forIn_toList]
  refine wpAny_bind (wpAny_forIn_list _ (fun rest b s' => s' = s ∧ ∃ i, rest = es.toList.drop i ∧ i ≤ es.size ∧ b = nvs.take i) _ ?_ ?_ _ _ ⟨rfl, 0, rfl, Nat.zero_le _, rfl⟩)
  · rintro e rest b s' ⟨rfl, i, hr, hi, rfl⟩
    have hlt : i < es.toList.length := by
      rcases Nat.lt_or_ge i es.toList.length with h | h
      · exact h
      · rw [List.drop_of_length_le h] at hr; cases hr
    rw [List.drop_eq_getElem_cons hlt] at hr
    injection hr with he hrest
    have hi' : i < nvs.length := by rw [hlen]; simpa using hlt
    obtain ⟨hkey, hval⟩ := hp.get? (e := e) (by rw [List.getElem?_eq_getElem hlt, he]) (show (nvs.map fun p => ((Sum.inr p.1 : Key), p.2))[i]? = some (Sum.inr (nvs[i]).1, (nvs[i]).2) by rw [List.getElem?_map, List.getElem?_eq_getElem hi']; rfl)
    rcases keyIs_shape (show keyIs (Sum.inr (nvs[i]).1) e.key = true from hkey) with ⟨j, t, h1, _⟩ | ⟨x, t, h1, h2⟩
    · exact nomatch h1
    · have hx := Sum.inr.inj h1
      rw [h2]
      have hz : es.toList.length = es.size := by simp
      refine wpAny_pure ⟨rfl, i + 1, hrest, (by omega), ?_⟩
      rw [List.take_add_one, List.getElem?_eq_getElem hi', hval, ← hx]
      rfl
  · rintro b s' ⟨rfl, i, hr, hi, rfl⟩
    have : es.size ≤ i := by
      rcases Nat.lt_or_ge i es.toList.length with h | h
      · rw [List.drop_eq_getElem_cons h] at hr; cases hr
      · simpa using h
    rw [List.take_of_length_le (by omega)]
    exact wpAny_pure q
/-- the keywords of C(**x) -/
theorem merged_one {f : Value} {x : Sem Value} {Q : Addr → Shared → Prop}
    (h : wpAny (model prog w) A x (fun v s1 => ∃ (o : Addr) (more : List (Key × Value)), v = .ref o ∧ s.heap.objs.size ≠ o ∧ (o == sysModules) = false ∧ s1.heap.DictOf (mixKind prog w) s.heap.objs.size [] ∧ s1.heap.DictOf (mixKind prog w) o more ∧ more.length ≤ sizeLine ∧
      ∀ h', h'.DictOf (mixKind prog w) s.heap.objs.size more → h'.DictOf (mixKind prog w) o more → Heap.SameBut s.heap.objs.size s1.heap h' → Q s.heap.objs.size { s1 with heap := h' }) E { s with heap := s.heap.push { cls := .type "dict", data := .dict #[] } }) :
    wpAny (model prog w) A (mergedKeywords f [(none, x)]) Q E s := by
  unfold mergedKeywords
  refine wpAny_bind (wpAny_alloc ?_)
  refine wpAny_bind (wpAny_holding ?_)
  dsimp only
  rw [List.forIn_cons]
  dsimp only
  refine wpAny_bind (wpAny_bind (wpAny_bind ?_))
  rw [if_pos (by rfl)]
  refine wpAny_pure (wpAny_bind (wpAny_mono h (fun v s1 hv => ?_) fun _ _ e => e))
  obtain ⟨o, more, rfl, hdo, hoS, hd, ho, hsz, q⟩ := hv
  refine wpAny_bind (wpAny_onRaise (wpAny_holding (wpAny_tryCatch (wpAny_onRaise (merge_map hdo hoS (fun k v hk a e => ?_) hd ho (fun h' h1 h2 h3 => ?_) hsz)))))
  · rw [e] at hk
    rcases keyIs_shape hk with ⟨j, t, _, h2⟩ | ⟨x, t, _, h2⟩ <;> exact nomatch h2
  · refine wpAny_pure ?_
    dsimp only
    rw [List.forIn_nil]
    refine wpAny_pure ?_
    rw [if_pos (by rfl)]
    exact wpAny_pure (wpAny_pure (q h' h1 h2 h3))
theorem lk_mem {α β : Type} [BEq α] [LawfulBEq α] : ∀ {l : List (α × β)} {p : α × β}, (l.map (·.1)).Nodup → p ∈ l → l.lookup p.1 = some p.2
  | (a, b) :: r, p, hn, hp => by
    rw [List.map_cons, List.nodup_cons] at hn
    rw [List.lookup_cons]
    rcases List.mem_cons.mp hp with rfl | hp
    · rw [beq_self_eq_true]
    · have : (p.1 == a) = false := beq_eq_false_iff_ne.mpr fun e => hn.1 (List.mem_map.mpr ⟨p, hp, e⟩)
      rw [this]
      exact lk_mem hn.2 hp
theorem lk_none {α β : Type} [BEq α] [LawfulBEq α] : ∀ {l : List (α × β)} {k : α}, k ∉ l.map (·.1) → l.lookup k = none
  | [], _, _ => rfl
  | (a, b) :: r, k, h => by
    rw [List.map_cons, List.mem_cons, not_or] at h
    rw [List.lookup_cons, beq_eq_false_iff_ne.mpr h.1]
    exact lk_none h.2
theorem fm_map {α β : Type} {f : α → Option β} {g : α → β} : ∀ {l : List α}, (∀ n ∈ l, f n = some (g n)) → l.filterMap f = l.map g
  | [], _ => rfl
  | a :: r, h => by
    rw [List.filterMap_cons, h a List.mem_cons_self, List.map_cons, fm_map fun n hn => h n (List.mem_cons_of_mem _ hn)]
theorem zip_fst {α β : Type} : ∀ {l : List α} {r : List β}, l.length = r.length → (l.zip r).map (·.1) = l
  | [], _, _ => rfl
  | a :: l, [], h => by simp at h
  | a :: l, b :: r, h => by
    rw [List.zip_cons_cons, List.map_cons, zip_fst (by simpa using h)]
/-- a def's parameters by one value and keywords -/
theorem binds_kw {qual x : Str} {params : Arguments} {body : List Stmt} {scope : Scope} {T : Addr} {o : Obj} {kV doc pm cdv ct u : Value} {an : Option Addr} {its ws : List Value} {self : Str} {req opts ks : List Str} {M : Model}
    (h1 : params.posonlyargs = []) (h2 : params.args.map (·.arg) = self :: (req ++ opts)) (h3 : params.kwonlyargs = []) (h4 : params.vararg.isNone = true) (h4' : params.vararg = none) (h5 : params.kwarg = none)
    (hT : s.heap.get? T = some o) (hl : its.length = opts.length) (hn : (self :: (req ++ opts)).Nodup) (hk : ks.Nodup) (hs : ∀ k ∈ ks, k ∈ req ++ opts) (hr : ∀ k ∈ req, k ∈ ks) (hw : ws.length = ks.length)
    (hit : ∀ (Q : Option (Array Value) → Shared → Prop), Q (some its.toArray) s → wpAny M A (seqItems? (.ref T)) Q E s) {Q : List (Str × Value) → Shared → Prop}
    (q : Q ((self, u) :: (req.map fun k => (k, ((ks.zip ws).lookup k).getD .none)) ++ (opts.zip its).map fun p => (p.1, ((ks.zip ws).lookup p.1).getD p.2)) s) :
    wpAny M A (bindArgs (PySem.W.fnOf x qual params body scope (.ref T) kV doc pm an cdv ct) ⟨[u], ks.zip ws⟩) Q E s := by
  unfold bindArgs
  simp only [PySem.W.fnOf, h1, h2, h3, h4', h5, List.map_nil, List.nil_append, List.append_nil]
  have kz : (ks.zip ws).map (·.1) = ks := zip_fst hw.symm
  have oz : (opts.zip its).map (·.1) = opts := zip_fst hl.symm
  rw [List.nodup_cons, List.nodup_append] at hn
  obtain ⟨hself, hreq, hopt, hdis⟩ := hn
  have self_k : self ∉ ks := fun h => hself (hs _ h)
  refine wpAny_bind (wpAny_forIn_list _ (fun rest b s' => s' = s ∧ ∃ i, rest = (ks.zip ws).drop i ∧ i ≤ ks.length ∧ b = ((self, u) :: (ks.zip ws).take i, [])) _ ?_ ?_ _ _ ⟨rfl, 0, rfl, Nat.zero_le _, by simp⟩)
  · rintro e rest b s' ⟨rfl, i, hr', hi, rfl⟩
    have hzl : (ks.zip ws).length = ks.length := by rw [List.length_zip, hw, Nat.min_self]
    have hlt : i < (ks.zip ws).length := by
      rcases Nat.lt_or_ge i (ks.zip ws).length with h | h
      · exact h
      · rw [List.drop_of_length_le h] at hr'; cases hr'
    rw [List.drop_eq_getElem_cons hlt] at hr'
    injection hr' with he hrest
    have hm : e.1 ∈ ks := by
      rw [← kz, he]
      exact List.mem_map.mpr ⟨_, List.getElem_mem hlt, rfl⟩
    have hc : ((self :: (req ++ opts)).contains e.1 || ([] : List Str).contains e.1) = true := by
      rw [Bool.or_eq_true]
      exact .inl (List.contains_iff_mem.mpr (List.mem_cons_of_mem _ (hs _ hm)))
    have hnd : ((ks.zip ws).map (·.1)).Nodup := by rw [kz]; exact hk
    have fresh : e.1 ∉ (((self, u) :: (ks.zip ws).take i).map (·.1)) := by
      rw [List.map_cons, List.mem_cons, not_or]
      refine ⟨fun z => self_k (by rw [← (show e.1 = self from z)]; exact hm), fun z => ?_⟩
      have h1 : (((ks.zip ws).take (i + 1)).map (·.1)).Nodup := List.Nodup.sublist ((List.take_sublist _ _).map _) hnd
      rw [List.take_add_one, List.getElem?_eq_getElem hlt, ← he, List.map_append, List.nodup_append] at h1
      exact h1.2.2 e.1 z e.1 (by simp) rfl
    dsimp only
    rw [if_pos hc, lk_none fresh, if_neg (by simp)]
    refine wpAny_pure ⟨rfl, i + 1, hrest, by omega, ?_⟩
    rw [List.take_add_one, List.getElem?_eq_getElem hlt, ← he]
    rfl
  · rintro b s' ⟨rfl, i, hr', hi, rfl⟩
    have hzl : (ks.zip ws).length = ks.length := by rw [List.length_zip, hw, Nat.min_self]
    have hge : (ks.zip ws).length ≤ i := by
      rcases Nat.lt_or_ge i (ks.zip ws).length with h | h
      · rw [List.drop_eq_getElem_cons h] at hr'; cases hr'
      · exact h
    rw [List.take_of_length_le hge]
    dsimp only
    refine wpAny_bind (hit _ ?_)
    have e1 : ((some its.toArray).getD #[]).toList = its := by simp
    have e2 : (self :: (req ++ opts)).length = 1 + req.length + opts.length := by simp; omega
    have e3 : its.length - (self :: (req ++ opts)).length = 0 := by omega
    have e4 : (self :: (req ++ opts)).length - its.length = (self :: req).length := by rw [e2, List.length_cons]; omega
    have e5 : (self :: (req ++ opts)).take (self :: req).length = self :: req := by
      rw [← List.cons_append]
      exact List.take_left
    have e6 : (self :: (req ++ opts)).drop (self :: req).length = opts := by
      rw [← List.cons_append]
      exact List.drop_left
    have e7 : (self :: req).filter (fun n => (List.lookup n ((self, u) :: ks.zip ws)).isNone) = [] := by
      rw [List.filter_eq_nil_iff]
      intro n hn
      rcases List.mem_cons.mp hn with rfl | hn
      · rw [List.lookup_cons, beq_self_eq_true]
        simp
      · have h1 : n ∈ (ks.zip ws).map (·.1) := by rw [kz]; exact hr n hn
        obtain ⟨p, hp, rfl⟩ := List.mem_map.mp h1
        rw [List.lookup_cons, beq_eq_false_iff_ne.mpr (fun z : p.1 = self => hself (z ▸ List.mem_append_left _ hn))]
        rw [lk_mem (by rw [kz]; exact hk) hp]
        simp
    simp only [e1, e3, List.drop_zero, e4, e5, e6, e7]
    rw [if_neg (by simp)]
    rw [if_neg (show ¬ ((!([] : List Str).isEmpty) = true) by decide)]
    have hnd : ((ks.zip ws).map (·.1)).Nodup := by rw [kz]; exact hk
    have ond : ((opts.zip its).map (·.1)).Nodup := by rw [oz]; exact hopt
    have look : ∀ (D : List (Str × Value)) (k : Str), k ≠ self → List.lookup k ((self, u) :: ks.zip ws ++ D) = ((ks.zip ws).lookup k).or (D.lookup k) := fun D k nk => by
      rw [List.lookup_append, List.lookup_cons, beq_eq_false_iff_ne.mpr nk]
    have inK : ∀ k, k ∈ ks → ∃ v, (ks.zip ws).lookup k = some v := fun k h => by
      rw [← kz] at h
      obtain ⟨p, hp, rfl⟩ := List.mem_map.mp h
      exact ⟨p.2, lk_mem hnd hp⟩
    have outK : ∀ k, k ∉ ks → (ks.zip ws).lookup k = none := fun k h => lk_none (by rw [kz]; exact h)
    have optn : ∀ p ∈ opts.zip its, p.1 ≠ self := fun p hp e => hself (List.mem_append_right _ (by
      rw [← oz, ← e]
      exact List.mem_map.mpr ⟨p, hp, rfl⟩))
    refine wpAny_bind (wpAny_forIn_list _ (fun rest b s2 => s2 = s' ∧ ∃ i, rest = (opts.zip its).drop i ∧ b = ((self, u) :: ks.zip ws) ++ ((opts.zip its).take i).filter (fun p => !ks.contains p.1)) _ ?_ ?_ _ _ ⟨rfl, 0, rfl, by simp⟩)
    · rintro e rest b s2 ⟨rfl, i, hr', rfl⟩
      have hlt : i < (opts.zip its).length := by
        rcases Nat.lt_or_ge i (opts.zip its).length with h | h
        · exact h
        · rw [List.drop_of_length_le h] at hr'; cases hr'
      rw [List.drop_eq_getElem_cons hlt] at hr'
      injection hr' with he hrest
      have em : e ∈ opts.zip its := by rw [he]; exact List.getElem_mem hlt
      have nse := optn e em
      have tk : (opts.zip its).take (i + 1) = (opts.zip its).take i ++ [e] := by
        rw [List.take_add_one, List.getElem?_eq_getElem hlt, ← he]
        rfl
      have hD : (((opts.zip its).take i).filter (fun p => !ks.contains p.1)).lookup e.1 = none := by
        refine lk_none fun z => ?_
        obtain ⟨p, hp, hpe⟩ := List.mem_map.mp z
        have h1 : (((opts.zip its).take (i + 1)).map (·.1)).Nodup := List.Nodup.sublist ((List.take_sublist _ _).map _) ond
        rw [tk, List.map_append, List.nodup_append] at h1
        exact h1.2.2 e.1 (List.mem_map.mpr ⟨p, (List.mem_filter.mp hp).1, hpe⟩) e.1 (by simp) rfl
      rw [look _ _ nse, hD]
      by_cases hk1 : e.1 ∈ ks
      · obtain ⟨v, hv⟩ := inK _ hk1
        rw [hv, if_neg (by simp)]
        refine wpAny_pure ⟨rfl, i + 1, hrest, ?_⟩
        rw [tk, List.filter_append, List.filter_cons_of_neg (by simp [hk1])]
        simp
      · rw [outK _ hk1, if_pos (by simp)]
        refine wpAny_pure ⟨rfl, i + 1, hrest, ?_⟩
        rw [tk, List.filter_append, List.filter_cons_of_pos (by simp [hk1])]
        simp
    · rintro b s2 ⟨rfl, i, hr', rfl⟩
      have hge : (opts.zip its).length ≤ i := by
        rcases Nat.lt_or_ge i (opts.zip its).length with h | h
        · rw [List.drop_eq_getElem_cons h] at hr'; cases hr'
        · exact h
      rw [List.take_of_length_le hge]
      rw [List.forIn_nil]
      refine wpAny_bind (wpAny_pure ?_)
      dsimp only
      rw [if_neg (show ¬ ((!([] : List Str).isEmpty) = true) by decide)]
      refine wpAny_pure ?_
      have hS : (self :: (req ++ opts)).filterMap (fun n => Option.map (fun x => (n, x)) (List.lookup n (((self, u) :: ks.zip ws) ++ (opts.zip its).filter (fun p => !ks.contains p.1)))) =
          (self, u) :: (req.map fun k => (k, ((ks.zip ws).lookup k).getD .none)) ++ (opts.zip its).map fun p => (p.1, ((ks.zip ws).lookup p.1).getD p.2) := by
        rw [List.filterMap_cons, List.filterMap_append]
        have a1 : List.lookup self (((self, u) :: ks.zip ws) ++ (opts.zip its).filter (fun p => !ks.contains p.1)) = some u := by
          rw [List.cons_append, List.lookup_cons, beq_self_eq_true]
        rw [a1]
        have a2 := fm_map (f := fun n => Option.map (fun x => (n, x)) (List.lookup n (((self, u) :: ks.zip ws) ++ (opts.zip its).filter (fun p => !ks.contains p.1)))) (g := fun k => (k, ((ks.zip ws).lookup k).getD Value.none)) (l := req) fun n hn => by
          have ns : n ≠ self := fun e => hself (e ▸ List.mem_append_left _ hn)
          obtain ⟨v, hv⟩ := inK n (hr n hn)
          rw [look _ _ ns, hv]
          rfl
        have a3 := fm_map (f := fun p : Str × Value => Option.map (fun x => (p.1, x)) (List.lookup p.1 (((self, u) :: ks.zip ws) ++ (opts.zip its).filter (fun p => !ks.contains p.1)))) (g := fun p => (p.1, ((ks.zip ws).lookup p.1).getD p.2)) (l := opts.zip its) fun p hp => by
          rw [look _ _ (optn p hp)]
          by_cases hk1 : p.1 ∈ ks
          · obtain ⟨v, hv⟩ := inK _ hk1
            rw [hv]
            rfl
          · rw [outK _ hk1, Option.none_or, lk_mem (List.Nodup.sublist (List.filter_sublist.map _) ond) (List.mem_filter.mpr ⟨hp, by simp [hk1]⟩)]
            rfl
        have a4 : opts.filterMap (fun n => Option.map (fun x => (n, x)) (List.lookup n (((self, u) :: ks.zip ws) ++ (opts.zip its).filter (fun p => !ks.contains p.1)))) = (opts.zip its).filterMap (fun p => Option.map (fun x => (p.1, x)) (List.lookup p.1 (((self, u) :: ks.zip ws) ++ (opts.zip its).filter (fun p => !ks.contains p.1)))) := by
          have := List.filterMap_map (f := fun p : Str × Value => p.1) (g := fun n => Option.map (fun x => (n, x)) (List.lookup n (((self, u) :: ks.zip ws) ++ (opts.zip its).filter (fun p => !ks.contains p.1)))) (l := opts.zip its)
          rw [oz] at this
          exact this
        rw [a2, a4, a3]
        rfl
      rw [hS]
      exact q
end
def vsK (req opts : List Str) (dvs : List V) (nvs : List (Str × V)) : List V := (req.map fun k => (nvs.lookup k).getD .non) ++ (opts.zip dvs).map fun p => (nvs.lookup p.1).getD p.2
structure CMkS (CX : CXT) (P : Program) (w : World) (K : PySem.W.Frag) (mg : Str → Option Value) (base : Heap) (C : Addr) (k : Nat) (x : Str) (me : Str) (req opts : List Str) (dvs : List V) (sp : Sp) : Prop where
  ex : ∃ (f : Addr) (fd : FuncData) (its : List Value), FnOk P w K mg base CX k f fd (me :: (req ++ opts)) sp ∧ Mk K C f ∧ mg x = some (.ref C) ∧ Vals dvs its ∧ dvs.length = opts.length ∧
    ∀ (s : Shared) (u : Value) (ks : List Str) (ws : List Value), K.In s.heap → ks.Nodup → (∀ k ∈ ks, k ∈ req ++ opts) → (∀ k ∈ req, k ∈ ks) → ws.length = ks.length →
      BindsTo s fd ⟨[u], ks.zip ws⟩ ((me :: (req ++ opts)).zip (u :: ((req.map fun k => ((ks.zip ws).lookup k).getD .none) ++ (opts.zip its).map fun p => ((ks.zip ws).lookup p.1).getD p.2)))
def tMakeS (C : Addr) (sp : Sp) (req opts : List Str) (dvs : List V) (E : XK) (te : TE) : TE := fun σ H Q => ∀ d, H d = none → te σ (upd H d (.dK [])) fun x H1 => ∃ (a : Addr) (nvs : List (Str × V)), x = .ref a ∧ a ≠ d ∧ H1 d = some (.dK []) ∧
  H1 a = some (.dK (nvs.map fun p => (Sum.inr p.1, p.2))) ∧ (nvs.map (·.1)).Nodup ∧ (∀ k ∈ nvs.map (·.1), k ∈ req ++ opts) ∧ (∀ k ∈ req, k ∈ nvs.map (·.1)) ∧
  ∀ x dx, upd H1 d (.dK (nvs.map fun p => (Sum.inr p.1, p.2))) x = none → upd H1 d (.dK (nvs.map fun p => (Sum.inr p.1, p.2))) dx = none → dx ≠ x →
    sp (.ref x :: vsK req opts dvs nvs) (upd (upd (upd H1 d (.dK (nvs.map fun p => (Sum.inr p.1, p.2)))) dx (.own x)) x (.ins C dx [])) (fun v H2 => v = .non ∧ Q (.ref x) H2) E
theorem kv_split {nvs : List (Str × V)} : ∀ {vs : List (Key × Value)}, KV (nvs.map fun p => ((Sum.inr p.1 : Key), p.2)) vs → ∃ ws : List Value, vs = ((nvs.map (·.1)).zip ws).map (fun p => (Sum.inr p.1, p.2)) ∧ ws.length = (nvs.map (·.1)).length ∧ Vals (nvs.map (·.2)) ws := by
  induction nvs with
  | nil =>
    intro vs h
    cases h
    exact ⟨[], rfl, rfl, .nil⟩
  | cons p r ih =>
    intro vs h
    cases h with
    | cons h1 h2 =>
      rename_i q t
      obtain ⟨ws, rfl, hl, hv⟩ := ih h2
      obtain ⟨k, v⟩ := q
      obtain ⟨e1, e2⟩ := h1
      simp only at e1 e2
      subst e1
      exact ⟨v :: ws, rfl, by simp [hl], .cons e2 hv⟩
theorem lk_rel {nvs : List (Str × V)} {ws : List Value} (k : Str) (hv : Vals (nvs.map (·.2)) ws) {d : V} {e : Value} (hd : RelV d e) : RelV ((nvs.lookup k).getD d) ((((nvs.map (·.1)).zip ws).lookup k).getD e) := by
  induction nvs generalizing ws with
  | nil =>
    cases hv
    exact hd
  | cons p r ih =>
    cases hv with
    | cons h1 h2 =>
      obtain ⟨n, v⟩ := p
      rw [List.map_cons, List.zip_cons_cons, List.lookup_cons, List.lookup_cons]
      by_cases c : (k == n) = true
      · rw [c]
        exact h1
      · rw [Bool.not_eq_true] at c
        rw [c]
        exact ih h2
theorem vs_rel {req opts : List Str} {dvs : List V} {its : List Value} {nvs : List (Str × V)} {ws : List Value} (hv : Vals (nvs.map (·.2)) ws) (hd : Vals dvs its) :
    Vals (vsK req opts dvs nvs) ((req.map fun k => (((nvs.map (·.1)).zip ws).lookup k).getD .none) ++ (opts.zip its).map fun p => (((nvs.map (·.1)).zip ws).lookup p.1).getD p.2) := by
  refine Vals.append ?_ ?_
  · induction req with
    | nil => exact .nil
    | cons k r ih => exact .cons (lk_rel k hv rfl) ih
  · induction opts generalizing dvs its with
    | nil => exact .nil
    | cons k r ih =>
      cases hd with
      | nil => exact .nil
      | cons h1 h2 => exact .cons (lk_rel k hv h1) (ih h2)
section
variable {X : Cx} {CX : CXT} {k : Nat} {C : Addr} {x me : Str} {req opts : List Str} {dvs : List V} {sp : Sp} {E : XK} {p pos kpos : Pos} {e : Expr} {te : TE}
theorem callWith_D {M : Model} {A : Around} {E : Value → Shared → Prop} {s : Shared} {K : PySem.W.Frag} {f : Value} {y : Sem Value} {pos : Pos} {Q : Value → Shared → Prop} (hk : PySem.W.keepIn K f = true)
    (h : wpAny M A (mergedKeywords f [(none, y)]) (fun d s1 => wpAny M A (keywordsIn f d) (fun kw s2 => K.In s2.heap ∧ wpAny M A (call f [] kw) Q E s2) E s1) E s) : wpAny M A (callWith pos f [] [] [(none, y)]) Q E s := by
  unfold callWith
  refine wpAny_bind (wpAny_holding ?_)
  have ev : wpAny M A (evalArgs f true [] [(none, y)]) (fun a s2 => a.pos = [] ∧ K.In s2.heap ∧ wpAny M A (call f [] a.kw) Q E s2) E s := by
    unfold evalArgs
    dsimp only
    refine wpAny_bind (wpAny_of_eq (show spliced [] = pure [] by rfl) (wpAny_bind (wpAny_pure ?_)))
    refine wpAny_holding ?_
    dsimp only
    rw [if_neg (by simp)]
    refine wpAny_bind (wpAny_mono h (fun d s1 h1 => ?_) fun _ _ e => e)
    refine wpAny_bind (wpAny_pure ?_)
    refine wpAny_bind (wpAny_holding (wpAny_mono h1 (fun kw s2 h2 => ?_) fun _ _ e => e))
    exact wpAny_pure ⟨rfl, h2⟩
  refine wpAny_mono ev (fun a s2 h2 => ?_) fun _ _ e => e
  obtain ⟨ep, hK, h2⟩ := h2
  refine wpAny_bind (wpAny_standAt ?_)
  obtain ⟨k, hk', L⟩ := PySem.W.keeps_K (M := M) hk _ hK
  rw [ep]
  simp only [List.any_nil, List.any_cons, Option.isNone_none, Bool.true_or, Bool.or_true, Bool.false_or]
  refine wpAny_bind (L.here ?_)
  have tail : ∀ {t : Sem Value}, wpAny M A t Q E s2 → wpAny M A (t >>= fun r => holding [r] point >>= fun _ => pure r) Q E s2 :=
    fun ht => wpAny_bind (wpAny_mono ht (fun r s₂ hr => wpAny_bind (wpAny_holding (wpAny_point (wpAny_pure hr)))) fun _ _ x => x)
  have marked (mk : Value) : wpAny M A (callMarked mk f [] a.kw) Q E s2 := by unfold callMarked; exact Calls.wpAny_keep h2
  rcases hk' with rfl | rfl | rfl <;> dsimp only <;> first | exact tail (marked _) | exact tail (PySem.W.wpAny_operating h2) | exact tail (wpAny_operating h2)
theorem pe_mkS (M : CMkS CX X.prog X.w X.K X.mg X.base C k x me req opts dvs sp) (hr : Room (k + 1) X.A) (hg : Gl X x) (hx : Passes CX X E) (he : PE X e te) (hdb : (x == ("__debug__" : Str)) = false := by decide) :
    PE X (.Call (.Name x p) [] [⟨none, e, kpos⟩] pos) (tMakeS C sp req opts dvs E te) := by
  obtain ⟨f, fd, its, F, Mk, hm, rd, hdl, hb⟩ := M.ex
  refine ⟨fun pins s σ H Q I h => ?_⟩
  refine wpAny_Call_Name_kw (ld_glob I hg hm ?_ hdb)
  have hkk : backToKw pos (keywordEach [⟨none, e, kpos⟩] X.env) = [(none, (do let v ← eval e X.env; standAt pos; pure v))] := by rfl
  have hss : backTo pos (starEach [] X.env) = [] := by rfl
  rw [hkk, hss]
  refine callWith_D Mk.kp (merged_one ?_)
  have hd0 : H s.heap.objs.size = none := I.hok.fresh (Nat.le_refl _)
  have big : (s.heap.objs.size == sysModules) = false := beq_eq_false_iff_ne.mpr (Nat.ne_of_gt I.big)
  have I0 := I.laid (a := s.heap.objs.size) (o := .dK []) (h' := s.heap.push { cls := .type "dict", data := .dict #[] }) (t' := s.toks) (fun b u q => Heap.get?_push_of_some _ q) (Nat.le_refl _) (dk_new (Nat.zero_le _) big .nil (Heap.DictOf.new s.heap))
  refine wpAny_bind (thn (he.run pins _ σ _ _ I0 (h _ hd0)) fun v s1 hv => wpAny_bind (wpAny_standAt (wpAny_pure ?_)))
  obtain ⟨y, H1, I1, ry, a, nvs, rfl, nad, hd1, ha, nd, sub, hreq, q⟩ := hv
  cases (show v = Value.ref a from ry)
  obtain ⟨_, _, vs0, r0, D0⟩ := dk_of I1.hok hd1
  cases r0
  obtain ⟨z, nsys, vs, rel, D1⟩ := dk_of I1.hok ha
  refine ⟨a, vs, rfl, nad.symm, nsys, D0, D1, by rw [← rel.length]; exact z, fun h' d1 d2 sb => ?_⟩
  have hex : ∃ q, h'.get? s.heap.objs.size = some q := let ⟨q, _, _, hq, _⟩ := d1; ⟨q, hq⟩
  have I2 := d_write (t' := s1.toks) I1 (by rw [hd1]; exact True.intro) sb hex (dk_new z big rel d1)
  have q2 := q
  obtain ⟨ws, rfl, hwl, hv⟩ := kv_split rel
  refine kws_in d1 ⟨I2.kIn, ?_⟩
  generalize upd H1 s.heap.objs.size (.dK (nvs.map fun p => (Sum.inr p.1, p.2))) = H2 at *
  generalize hs2 : ({ s1 with heap := h', toks := s1.toks } : Shared) = s2 at I2
  have hq := q (s2.heap.objs.size + 1) s2.heap.objs.size (I2.hok.fresh (Nat.le_succ _)) (I2.hok.fresh (Nat.le_refl _)) (Nat.ne_of_lt (Nat.lt_succ_self _))
  have I3 := Inv.made (C := C) I2
  have r2 : Vals (V.ref (s2.heap.objs.size + 1) :: vsK req opts dvs nvs) (Value.ref (s2.heap.objs.size + 1) :: ((req.map fun k => (((nvs.map (·.1)).zip ws).lookup k).getD .none) ++ (opts.zip its).map fun p => (((nvs.map (·.1)).zip ws).lookup p.1).getD p.2)) := .cons rfl (vs_rel hv rd)
  refine wpAny_call (make_map (f := f) I2.kIn Mk.makes Mk.init (beq_iff_eq.mp Mk.fn) (codeAny_mono (F.run _ X.stack _ _ ⟨[Value.ref (s2.heap.objs.size + 1)], (nvs.map (·.1)).zip ws⟩ _ _ _ E (hr.make C [] ((nvs.map (·.1)).zip ws))
    (I3.env0.make C [] ((nvs.map (·.1)).zip ws)) (hb _ _ _ _ I3.kIn nd sub hreq hwl) r2 hq) fun r s' hq' => ?_))
  cases r with
  | error e => exact hx pins σ _ _ e s' I3 hq'
  | ok fl =>
    cases fl with
    | ret u =>
      obtain ⟨v, H', I4, rv, ev, q3⟩ := I3.after hq'
      subst ev
      exact ⟨rv, ⟨V.ref (s2.heap.objs.size + 1), H', I4, rfl, q3⟩⟩
    | next => exact False.elim hq'
    | brk => exact False.elim hq'
    | cont => exact False.elim hq'
end
theorem zip_map {α β : Type} (f : α → β) : ∀ l : List α, l.zip (l.map f) = l.map fun a => (a, f a)
  | [] => rfl
  | a :: r => by rw [List.map_cons, List.zip_cons_cons, zip_map f r, List.map_cons]
theorem zip_map2 {α β γ : Type} (g : α × β → γ) : ∀ (l : List α) (r : List β), l.length = r.length → l.zip ((l.zip r).map g) = (l.zip r).map fun p => (p.1, g p)
  | [], _, _ => rfl
  | a :: l, [], h => by simp at h
  | a :: l, b :: r, h => by rw [List.zip_cons_cons, List.map_cons, List.zip_cons_cons, zip_map2 g l r (by simpa using h), List.map_cons]
theorem starK {K : PySem.W.Frag} {x qual : Str} {params : Arguments} {body : List Stmt} {scope : Scope} {dvs : List V} {kws : List (Str × V)} {f : Addr} {fd : FuncData} {me : Str} {req opts : List Str} (F : FunD K x qual params body scope dvs kws f fd) (hd : dvs ≠ [])
    (h1 : params.posonlyargs = []) (h2 : params.args.map (·.arg) = me :: (req ++ opts)) (h3 : params.kwonlyargs = []) (h4 : params.vararg = none) (h5 : params.kwarg = none) (hl : dvs.length = opts.length) (hn : (me :: (req ++ opts)).Nodup) :
    ∃ its : List Value, Vals dvs its ∧ dvs.length = opts.length ∧ ∀ (s : Shared) (u : Value) (ks : List Str) (ws : List Value), K.In s.heap → ks.Nodup → (∀ k ∈ ks, k ∈ req ++ opts) → (∀ k ∈ req, k ∈ ks) → ws.length = ks.length →
      BindsTo s fd ⟨[u], ks.zip ws⟩ ((me :: (req ++ opts)).zip (u :: ((req.map fun k => ((ks.zip ws).lookup k).getD .none) ++ (opts.zip its).map fun p => ((ks.zip ws).lookup p.1).getD p.2))) := by
  obtain ⟨oc, od, dV, kV, doc, pm, an, cdv, ct, osl, rfl, lk, hcd, hD, hK⟩ := F.ex
  rcases hD with ⟨e, _⟩ | ⟨_, T, o, its, m, rfl, lT, oT, rT⟩
  · exact absurd e hd
  · refine ⟨its, rT, hl, fun s u ks ws X nd sub hreq hw M A E Q q => ?_⟩
    have hil : its.length = opts.length := rT.length.symm.trans hl
    refine binds_kw (o := o) h1 h2 h3 (by rw [h4]; rfl) h4 h5 (X _ _ lT) hil hn nd sub hreq hw (fun R hR => ?_) ?_
    · have L : PySem.W.Looks M s.heap (seqItems? (.ref T) >>= fun r => pure r) (some its.toArray) := looks_items X lT oT (.of_pure rfl)
      rw [bind_pure] at L
      exact L.here hR
    · have e : (me :: (req ++ opts)).zip (u :: ((req.map fun k => ((ks.zip ws).lookup k).getD .none) ++ (opts.zip its).map fun p => ((ks.zip ws).lookup p.1).getD p.2)) = (me, u) :: (req.map fun k => (k, ((ks.zip ws).lookup k).getD .none)) ++ (opts.zip its).map fun p => (p.1, ((ks.zip ws).lookup p.1).getD p.2) := by
        rw [List.zip_cons_cons, List.zip_append (by rw [List.length_map]), zip_map, zip_map2 _ _ _ hil.symm]
        rfl
      rw [e] at q
      exact q
end KWS
/-! ### dict(d), d.update(e) -/
theorem call_dictD {X : Cx} : CallR X (.type "dict") (fun xs H Q => ∃ (a : Addr) (kvs : List (Key × V)), xs = [.ref a] ∧ H a = some (.dK kvs) ∧ ∀ p, H p = none → Q (.ref p) (upd H p (.dK kvs))) := by
  intro pins s σ H xs us Q I r h
  obtain ⟨a, kvs, rfl, ha, q⟩ := h
  obtain ⟨u, rfl, ru⟩ := r.one
  cases ru
  exact d_copyOf I (.inl ha) fun p s' hp I' => ⟨.ref p, _, I', rfl, q p hp⟩
def rUpdD : V → List V → Hp → VK → Prop := fun x xs H Q => ∃ (d o : Addr) (kvs more : List (Key × V)), x = .ref d ∧ xs = [.ref o] ∧ d ≠ o ∧ H d = some (.dK kvs) ∧ H o = some (.dK more) ∧ kvs.length + more.length ≤ sizeLine ∧ Q .non (upd H d (.dK (mergeK kvs more)))
theorem mt_update {X : Cx} : MtR X "dict.update" rUpdD := by
  intro pins s σ H x xs v us Q I rx rxs h
  obtain ⟨d, o, kvs, more, rfl, rfl, ne, hd, ho, hl, q⟩ := h
  cases rx
  obtain ⟨u, rfl, ru⟩ := rxs.one
  cases ru
  obtain ⟨z1, n1, vs, r1, D1⟩ := dk_of I.hok hd
  obtain ⟨z2, n2, ws, r2, D2⟩ := dk_of I.hok ho
  refine call_meetsIn PySem.F.slot_dict_update D1.typeIs PySem.F.entry_dict_update (PySem.F.args_dict_update_2 _ _) (meets_dict_update (mixKind X.prog X.w) d o ne n2) ⟨vs, ws, D1, D2, by rw [← r1.length, ← r2.length]; exact hl, fun h' d1 d2 sb => ?_⟩
  have he : ∃ q, h'.get? d = some q := let ⟨q, _, _, hq, _⟩ := d1; ⟨q, hq⟩
  refine ⟨.non, _, d_write (t' := s.toks) I (by rw [hd]; exact True.intro) sb he (dk_new (Nat.le_trans (length_mergeK more kvs) hl) n1 (r2.merge r1) d1), rfl, q⟩
/-! ### list.count(True) of truths -/
def isYes : Value → Bool
  | .bool b => b
  | _ => false
theorem vals_bl : ∀ {bs : List Bool} {us : List Value}, Vals (bs.map V.bl) us → us = bs.map Value.bool
  | [], _, .nil => rfl
  | b :: r, _, .cons e h => by
    cases e
    rw [vals_bl h]
    rfl
theorem count_yes : ∀ bs : List Bool, (bs.map Value.bool).countP isYes = bs.count true
  | [] => rfl
  | b :: r => by
    rw [List.map_cons, List.countP_cons, List.count_cons, count_yes r]
    cases b <;> rfl
def rCntB (K : PySem.W.Frag) : V → List V → Hp → VK → Prop := fun x xs H Q => ∃ (p : Addr) (bs : List Bool), x = .ref p ∧ xs = [.bl true] ∧ SqL K H p (bs.map V.bl) ∧ Q (.int (bs.count true : Nat)) H
theorem mt_countB (K : PySem.W.Frag) {X : Cx} (hK : X.K = K := by rfl) : MtR X "list.count" (rCntB K) := by
  subst hK
  intro pins s σ H x xs v us Q I rx rxs h
  obtain ⟨p, bs, rfl, rfl, hs, q⟩ := h
  cases rx
  obtain ⟨u, rfl, ru⟩ := rxs.one
  cases ru
  obtain ⟨its, rv, ⟨⟨cls, dd, data, sl⟩, n, ho, hc, hdn, hd⟩, hlen⟩ := I.list hs
  simp only at hc hd
  subst hc hd
  have ev := vals_bl rv
  subst ev
  refine call_meets PySem.F.slot_list_count ⟨_, ho, rfl⟩ PySem.F.entry_list_count (PySem.F.args_list_count_2 _ _) (SeqAt.list_countAt p (bs.map Value.bool).toArray n dd sl (.bool true) isYes) ⟨ho, fun y hy => ?_, ?_⟩
  · have hm : y ∈ bs.map Value.bool := by simpa using hy
    obtain ⟨b, _, rfl⟩ := List.mem_map.mp hm
    cases b with
    | true => exact SeqAt.EqAt.bool_bool true true
    | false => exact SeqAt.EqAt.bool_bool false true
  · refine ⟨.int (bs.count true : Nat), H, I.tok _, ⟨s.toks, ?_⟩, q⟩
    show Value.int (((bs.map Value.bool).toArray.toList.countP isYes : Nat) : Int) s.toks = Value.int ((bs.count true : Nat) : Int) s.toks
    rw [List.toList_toArray, count_yes]
theorem kk_sla (K : PySem.W.Frag) {X : Cx} (h : X.K = K := by rfl) : SlR X (rSlA K) := h ▸ sl_tupA
/-! ### a caught error that stays tracked behind its suite -/
def ErO (cls : Value) (d : Option Addr) (a : Addr) : HO := .ext fun h => ∃ (oe : Obj) (vs : Array Value), h.get? a = some oe ∧ Zc cls d oe ∧ oe.data = .fields vs
theorem erO_ok {P : Program} {w : World} {H : Hp} {h : Heap} {a : Addr} {cls : Value} {d : Option Addr} {oe : Obj} {vs : Array Value} (e : h.get? a = some oe) (z : Zc cls d oe) (f : oe.data = .fields vs) : ObjOk P w H h a (ErO cls d a) :=
  ⟨⟨oe, vs, e, z, f⟩, ⟨oe, e⟩, fun _ _ ⟨o, v, q, r⟩ k => ⟨o, v, k o q, r⟩⟩
section
variable {X : Cx} {pins : List (Addr × Obj)} {σ : L2.St} {H : Hp} {s : Shared}
/-- an object made since the entry, not tracked so far, is tracked from now on -/
theorem inv_track {a : Addr} {o : HO} (I : Inv X pins σ H s) (n0 : X.s_0.heap.get? a = none) (hn : H a = none) (nL : X.env.locals ≠ a) (nC : ∀ x c, X.env.cells.lookup x = some c → c ≠ a) (nP : ∀ p ∈ X.pn ++ pins, p.1 ≠ a) (new : ObjOk X.prog X.w (upd H a o) s.heap a o) : Inv X pins σ (upd H a o) s := by
  have ne0 : ∀ b ob, X.s_0.heap.get? b = some ob → b ≠ a := fun b ob e z => by
    rw [z, n0] at e
    cases e
  have neS : ∀ b u, H b = some u → b ≠ a := fun b u e z => by
    rw [z, hn] at e
    cases e
  constructor
  case ok => exact I.ok
  case os => exact I.os
  case bare => exact I.bare
  case base =>
    constructor
    case keep => exact I.base.keep
    case slot => exact I.base.slot
    case there => exact I.base.there
    case free =>
      intro b ob e n hx
      rw [upd_ne (ne0 b ob e)]
      exact I.base.free b ob e n hx
    case tups =>
      intro b xs e
      have q := I.base.tups b xs e
      rw [upd_ne (neS b _ q)]
      exact q
    case frzs =>
      intro b ob u e
      have q := I.base.frzs b ob u e
      rw [upd_ne (neS b _ q)]
      exact q
    case tbls =>
      intro b ps e
      obtain ⟨more, q⟩ := I.base.tbls b ps e
      exact ⟨more, by rw [upd_ne (neS b _ q)]; exact q⟩
  case loc => exact I.loc
  case cell => exact I.cell
  case free =>
    rw [upd_ne nL]
    exact I.free
  case freeC =>
    intro x c e
    rw [upd_ne (nC x c e)]
    exact I.freeC x c e
  case pin =>
    intro p hp
    obtain ⟨p1, p2, p3⟩ := I.pin p hp
    exact ⟨p1, by rw [upd_ne (nP p hp)]; exact p2, p3⟩
  case hok =>
    intro b u e
    by_cases hb : b = a
    · subst hb
      rw [upd_same] at e
      cases e
      exact new
    · rw [upd_ne hb] at e
      refine (I.hok b u e).stay (fun _ _ _ q => q) (fun c q => ?_) (fun c xs q => ?_)
      · rw [upd_ne (neS c _ q)]
        exact q
      · rw [upd_ne (neS c _ q)]
        exact q
  case len => exact I.len
end
/-- the wish of a clause whose suite goes on behind: the error stays known -/
def wKeep (K : PySem.W.Frag) (c : Value) (i : Nat) (ts : Addr → Value → Option Addr → TS) (D : Ends) : WX := fun cls d σ H =>
  PySem.W.exmOne K cls c = some true ∧ ∀ a, H a = none → ts a cls d { nx := fun τ G => D.nx (τ.set i none) (upd G a (ErO cls d a)), rt := fun _ _ => False, bk := fun _ _ => False, ct := fun _ _ => False } (σ.set i (some (.ref a))) H
section
variable {X : Cx} {x n : Str} {c : Value} {i : Nat} {body rest : List Stmt} {st0 : Stmt} {np p1 p2 : Pos} {tb : WX → TS} {ts : Addr → Value → Option Addr → TS}
theorem ps_try_keep (hs : X.stack = X.env :: X.outer) (hf : X.env.frame = some X.env.locals) (hx : X.ex = []) (hN : X.N.Nodup) (hi : X.N[i]? = some n) (hl : X.env.kindOf n = some .local) (hc : Names X x c)
    (hb : ∀ (W : WX) (pn : List (Addr × Obj)) (xe : Value → Shared → Prop), Takes (X.tr pn xe) W → PassesOwn (model X.prog X.w) X.A X.env xe → PSs (X.tr pn xe) body (tb W))
    (hsu : ∀ (a : Addr) (ob : Obj) (cls : Value) (d : Option Addr) (pn : List (Addr × Obj)), Zc cls d ob → (∃ vs, ob.data = .fields vs) → PSs (X.suite a ((a, ob) :: pn)) (st0 :: rest) (ts a cls d)) :
    PS X (.Try body [.ExceptHandler (some (.Name x np)) (some n) (st0 :: rest) p1] [] [] p2) (fun D σ H => tb (wKeep X.K c i ts D) D σ H) := by
  constructor
  intro pins s σ H D I h
  have fr : X.A.frames = some (X.env :: X.outer) := hs ▸ I.ok.frames
  refine wpAny_Try_except (wpAny_mono ((hb _ (X.pn ++ pins) _ (fun u s1 air => ?_) PassesOwn.looking).run [] s σ H D (I.toTry _) h) (fun fl s1 end1 => ?_) (fun _ _ z => z))
  · obtain ⟨a, B, s2, _, τ, G, cls, d, rfl, J0, ground, ups, sky, na, os, bare, yes, go⟩ := air
    have J : Inv X pins τ G s2 := J0.ofTry I.ok
    have sky1 : Sky B (X.env :: X.outer) a (Zc cls d) X.env.locals s1.heap := hs ▸ sky
    show wpAny (model X.prog X.w) X.A (noteFrame (.ref a) X.env) _ _ _
    refine Sky.land Zc.steady fr hf sky1 fun g1 fly1 up1 => ?_
    have J1 : Inv X pins τ G { s1 with heap := g1 } := J.landed ground fly1.1 (ups.trans up1) os bare
    obtain ⟨ob1, vs1, at1, z1, d1⟩ := fly1.there
    have nfr : a ∉ frs (X.env :: X.outer) := fun hm => by
      obtain ⟨_, o', e', nd⟩ := fly1.2.2.1.mem hm
      rw [at1] at e'
      cases e'
      exact nd _ d1
    have nL : X.env.locals ≠ a := fun z => nfr (by rw [← z]; exact List.mem_filterMap.mpr ⟨X.env, List.mem_cons_self, hf⟩)
    have nF : a ∉ X.fs := fun hm => by
      obtain ⟨e, he, q⟩ := List.mem_filterMap.mp hm
      exact nfr (List.mem_filterMap.mpr ⟨e, List.mem_cons_of_mem _ he, q⟩)
    have off : ∀ b, b ≠ X.env.locals → b ∉ X.fs → b ∉ frs X.stack := fun b h1 h2 hm => (List.mem_cons.mp (J.stkSub b hm)).elim h1 h2
    have nB : B.get? a = none := fly1.2.1
    have nI : s2.heap.get? a = none := by
      cases q : s2.heap.get? a with
      | none => rfl
      | some o =>
        have := ground a o q (off a nL.symm nF)
        rw [nB] at this
        cases this
    have n0 : X.s_0.heap.get? a = none := by
      cases q : X.s_0.heap.get? a with
      | none => rfl
      | some o =>
        obtain ⟨o', q'⟩ := J.base.there a o q (by rw [hx]; exact fun z => nomatch z)
        rw [nI] at q'
        cases q'
    have nP : ∀ p ∈ X.pn ++ pins, p.1 ≠ a := fun p hp z => by
      have := (J.pin p hp).1
      rw [z, nI] at this
      cases this
    have T1 := J1.suite at1 d1 na nL.symm nF
    refine wpAny_handleBy_cons (codeAny_handlers_test ?_) (fun q => nomatch q)
    have kind : PySem.W.Looks (model X.prog X.w) g1 (typeOf (.ref a)) cls := fun A' Q' E' s' k q => wpAny_typeOf_ref (k _ _ at1) (by rw [z1.1]; exact q)
    have hit := PySem.W.exm_one (M := model X.prog X.w) J1.kIn kind yes
    have named : ∀ {Q' : Value → Shared → Prop} {E' : Value → Shared → Prop}, Q' c { s1 with heap := g1 } → wpAny (model X.prog X.w) (X.A.mark (some (.ref a))) (eval (.Name x np) X.env) Q' E' { s1 with heap := g1 } := by
      intro Q' E' q
      obtain ⟨hg, hdb, hm | ⟨hm, hv, hnn⟩⟩ := hc
      · exact ld_glob (X := X.suite a ((a, ob1) :: (X.pn ++ pins))) T1 hg hm q hdb
      · exact ld_blt (X := X.suite a ((a, ob1) :: (X.pn ++ pins))) T1 hg hm hv q hnn hdb
    refine named (hit.here (codeAny_handlers_suite_as (HandSPX.lands_againZ fly1 fun g2 fly2 up2 => ?_)))
    have J2 : Inv X pins τ G { s1 with heap := g2 } := J.landed ground fly2.1 ((ups.trans up1).trans up2) os bare
    obtain ⟨ob2, vs2, at2, z2, d2⟩ := fly2.there
    refine store_ok (X := X.suite a ((a, ob2) :: (X.pn ++ pins))) (v := .ref a) (J2.suite at2 d2 na nL.symm nF) hN hi (.inl hl) rfl (fun s3 T3 => ?_) (.inr hl)
    refine wpAny_mono ((hsu a ob2 cls d (X.pn ++ pins) z2 ⟨_, d2⟩).run [] s3 _ G _ T3 (go a na)) (fun fl s4 end4 => ?_) (fun _ _ z => z.elim)
    cases fl with
    | next =>
      obtain ⟨τ4, G4, T4, q4⟩ := end4
      obtain ⟨at4, free4, _⟩ := T4.pin (a, ob2) (List.mem_append.mpr (.inl List.mem_cons_self))
      have nC : ∀ y c', X.env.cells.lookup y = some c' → c' ≠ a := fun y c' e z => by
        obtain ⟨v, o, ho, hd⟩ := T4.cell y c' e
        rw [z, at4] at ho
        cases ho
        rw [d2] at hd
        cases hd
      exact gone_ok (inv_track (o := ErO cls d a) (T4.unsuite I.ok) n0 free4 nL nC nP (erO_ok at4 z2 d2)) hN hi hl fun s5 J5 => ⟨_, _, J5, q4⟩
    | brk =>
      obtain ⟨_, _, _, z⟩ := end4
      exact z.elim
    | cont =>
      obtain ⟨_, _, _, z⟩ := end4
      exact z.elim
    | ret u =>
      obtain ⟨_, _, _, _, _, z⟩ := end4
      exact z.elim
  · cases fl with
    | next =>
      obtain ⟨τ, G, J, q⟩ := end1
      exact wpAny_execs_nil ⟨τ, G, J.ofTry I.ok, q⟩
    | brk =>
      obtain ⟨τ, G, J, q⟩ := end1
      exact ⟨τ, G, J.ofTry I.ok, q⟩
    | cont =>
      obtain ⟨τ, G, J, q⟩ := end1
      exact ⟨τ, G, J.ofTry I.ok, q⟩
    | ret u =>
      obtain ⟨v, τ, G, J, r, q⟩ := end1
      exact ⟨v, τ, G, J.ofTry I.ok, r, q⟩
end
/-! ### isinstance of such an error -/
section
variable {K : PySem.W.Frag}
theorem er_at {X : Cx} {pins : List (Addr × Obj)} {σ : L2.St} {H : Hp} {s : Shared} {a D : Addr} (I : Inv X pins σ H s) (h : H a = some (ErO (.ref D) none a)) : ∃ oe, PySem.W.InstAt s.heap a oe D none := by
  obtain ⟨⟨oe, vs, e, z, f⟩, _⟩ := I.hok a _ h
  refine ⟨oe, ?_⟩
  obtain ⟨oc, od, oda, osl⟩ := oe
  obtain ⟨z1, z2⟩ := z
  dsimp only at z1 z2 f
  subst z1 z2 f
  exact ⟨e, rfl, rfl, trivial⟩
def rIsEr (K : PySem.W.Frag) : List V → Hp → VK → Prop := fun xs H Q => ∃ (a D : Addr) (c : V) (cv : Value) (b : Bool), xs = [.ref a, c] ∧ ExcC K D ∧ H a = some (ErO (.ref D) none a) ∧ (∀ u, RelV c u → u = cv) ∧ PySem.W.kitOne K (.ref D) cv = some b ∧ Q (.bl b) H
theorem call_isEr {X : Cx} : CallR X (.builtin "isinstance") (rIsEr X.K) := by
  intro pins s σ H xs us Q I r h
  obtain ⟨a, D, c, cv, b, rfl, C, ha, hcv, e, q⟩ := h
  cases r with
  | cons rx rr =>
    cases rr with
    | cons rt rr =>
      cases rr
      cases rx
      have ec := hcv _ rt
      subst ec
      obtain ⟨oe, J⟩ := er_at I ha
      exact PySem.W.kia_one (PySem.W.handS_kitx_exc C.hg C.hk C.hs C.hd C.ha C.hn C.ht C.hm) I.kIn J e (fun z => nomatch z) fun tk => ⟨.bl b, H, I.kept (t' := tk) fun _ _ z => z, rfl, q⟩
def rIsErT (K : PySem.W.Frag) : List V → Hp → VK → Prop := fun xs H Q => ∃ (a D tp : Addr) (cs : List Addr) (b : Bool), xs = [.ref a, .ref tp] ∧ ExcC K D ∧ H a = some (ErO (.ref D) none a) ∧ SqT K H tp (cs.map V.ref) ∧ PySem.W.kitAny K (.ref D) (cs.map Value.ref) = some b ∧ Q (.bl b) H
theorem vals_refs : ∀ {cs : List Addr} {us : List Value}, Vals (cs.map V.ref) us → us = cs.map Value.ref
  | [], _, .nil => rfl
  | c :: r, _, .cons e h => by
    cases e
    rw [vals_refs h]
    rfl
theorem call_isErT {X : Cx} : CallR X (.builtin "isinstance") (rIsErT X.K) := by
  intro pins s σ H xs us Q I r h
  obtain ⟨a, D, tp, cs, b, rfl, C, ha, hT, e, q⟩ := h
  cases r with
  | cons rx rr =>
    cases rr with
    | cons rt rr =>
      cases rr
      cases rx
      cases rt
      obtain ⟨its, rv, ⟨⟨cls, dd, data, sl⟩, ho, hc, n, hd⟩, _⟩ := I.tuple hT
      simp only at hc hd
      subst hc hd
      have ev := vals_refs rv
      subst ev
      obtain ⟨oe, J⟩ := er_at I ha
      exact PySem.W.kia_tup (PySem.W.handS_kitx_exc C.hg C.hk C.hs C.hd C.ha C.hn C.ht C.hm) I.kIn J ho e (fun z => nomatch z) fun tk => ⟨.bl b, H, I.kept (t' := tk) fun _ _ z => z, rfl, q⟩
theorem kk_isEr (K : PySem.W.Frag) {X : Cx} (h : X.K = K := by rfl) : CallR X (.builtin "isinstance") (rIsEr K) := h ▸ call_isEr
theorem kk_isErT (K : PySem.W.Frag) {X : Cx} (h : X.K = K := by rfl) : CallR X (.builtin "isinstance") (rIsErT K) := h ▸ call_isErT
end
/-! ### methods that may raise -/
structure CMx (P : Program) (w : World) (K : PySem.W.Frag) (mg : Str → Option Value) (base : Heap) (C : Addr) (k : Nat) (m : Str) (ps : List Str) (sp : Sp) : Prop where
  ex : ∃ (f : Addr) (fd : FuncData), FnOk P w K mg base (L2.CX P w) k f fd ps sp ∧ Meth K C m f ∧ Binds K fd ps []
def tMethE (C : Addr) (m : Str) (sp : Sp) (E : L2.St → XK) (ta : TE) (t : TA) : TE := fun σ H Q => ta σ H fun x H1 => ∃ (a dx : Addr) (fs : List (Str × V)), x = .ref a ∧ H1 a = some (.ins C dx fs) ∧ fs.lookup m = none ∧ t σ H1 fun vs H2 => sp (x :: vs) H2 Q (E σ)
theorem pe_mtx {X : Cx} {k : Nat} {C : Addr} {m : Str} {ps : List Str} {sp : Sp} {W : WX} {pos apos : Pos} {e o : Expr} {es : List Expr} {ta : TE} {t : TA} {pl : Sem Bool}
    (M : CMx X.prog X.w X.K X.mg X.base C k m ps sp) (c : Cls X.K C) (hr : Room k X.A) (tk : Takes X W) (he : PE X o ta) (ha : PA X (e :: es) t)
    (hst : starEach (e :: es) X.env = (false, eval e X.env) :: starEach es X.env := by rfl) (hpl : (backTo pos (starEach es X.env)).any (·.1) = false := by rfl)
    (ht : eval (.Call (.Attribute o m apos) (e :: es) [] pos) X.env = (do
      let ov ← eval o X.env
      standAt apos.atName
      let (f, first) ← holding [ov] (getMethod ov m pl)
      callWith pos f first (backTo pos (starEach (e :: es) X.env)) (backToKw pos (keywordEach [] X.env))) := by rfl) :
    PE X (.Call (.Attribute o m apos) (e :: es) [] pos) (tMethE C m sp (WE W) ta t) := by
  obtain ⟨f, fd, F, me, b⟩ := M.ex
  constructor
  intro pins s σ H Q I h
  refine PySem.W.methodCall_KW (pl := pl) (thn (he.run pins s σ H _ I h) ?_) ht
  rintro u s1 ⟨x, H1, I1, rx, a, dx, fs, rfl, ea, l, q⟩
  cases (show u = Value.ref a from rx)
  refine getmeth_ok I1 ea c me l ?_
  refine PySem.W.callWith_K (first := [.ref a]) (h₀ := X.base) I.ok.mod.kin me.kp (thn (ha.run pos pins s1 σ H1 _ I1 q) ?_) hst hpl
  rintro us s2 ⟨vs, H2, I2, r, q2⟩
  exact ⟨I2.kIn, run_fnS (E := WE W) (us := .ref a :: us) (vs := .ref a :: vs) F hr b (passAt tk σ) I2 (.cons rfl r) q2⟩
/-! ### an error's own __init__ that hands a text to super().__init__ and keeps one field -/
def supBody (text fld : Str) (p0 p1 p2 p3 p4 p5 q1 q2 q3 q4 : Pos) (kk : Nat) : List Stmt :=
  [.Expr (.Call (.Attribute (.Call (.Name "super" p0) [] [] p1) "__init__" p2) [.Constant (.str text) kk p3] [] p4) p5,
   .Assign [.Attribute (.Name "self" q1) fld q2] (.Name fld q3) q4]
section
variable {CX : CXT} {P : Program} {w : World} {K : PySem.W.Frag} {mg : Str → Option Value} {base : Heap} {k : Nat} {f c cc C : Addr} {qual fld text file : Str} {params : Arguments} {scope : Scope} {dV kV doc pm ct oc ocl ccl : Value} {an od ocd cdd : Option Addr} {osl ocs ccs : Array (Option Value)} {p0 p1 p2 p3 p4 p5 q1 q2 q3 q4 : Pos} {kk : Nat} {ar : Arg} {vs : Array Value} {tf : Tok}
def spSup (C : Addr) (fld : Str) : Sp := fun vs H Q _ => ∃ (a : Addr) (y : V), vs = [.ref a, y] ∧ H a = some (exo a C none) ∧ ∀ dx, H dx = none → dx ≠ a → Q .non (upd (upd H dx (exd dx [(fld, y)])) a (exo a C (some dx)))
theorem cells_cc {s : Shared} {H : Hp} (hn : H cc = none) (hc : s.heap.IsCell cc (some (.ref C))) : NdefX.CellsAt [("__class__", cc)] ["__class__"] [none] s.heap H := by
  have one : ∀ (y : Str) (d : Addr), ([(("__class__" : Str), cc)] : List (Str × Addr)).lookup y = some d → y = "__class__" ∧ d = cc := fun y d e => by
    by_cases h : y = "__class__"
    · subst h
      rw [List.lookup_cons_self] at e
      exact ⟨rfl, (Option.some.inj e).symm⟩
    · rw [List.lookup_cons, beq_false_of_ne h] at e
      cases e
  refine ⟨rfl, fun y d e => ?_, fun x y d e1 e2 => ?_, fun i y e => ?_⟩
  · rw [(one y d e).2]
    exact ⟨hn, _, hc⟩
  · rw [(one x d e1).1, (one y d e2).1]
  · have hi : i < 1 := (List.getElem?_eq_some_iff.mp e).1
    have hi : i = 0 := by omega
    subst hi
    cases e
    exact ⟨cc, List.lookup_cons_self, fun v z => by cases z⟩
theorem sup_fn (lk : K.lookup f = some ⟨oc, od, .func (PySem.W.fnX "__init__" qual params (supBody text fld p0 p1 p2 p3 p4 p5 q1 q2 q3 q4 kk) scope [("__class__", cc)] dV kV doc pm an (.ref c) ct), osl⟩) (hcd : PySem.W.codeIn K (.ref c) qual = true)
    (S : NdefX.NScope ["self", fld, "__class__"] ["self", fld] ["__class__"] scope) (T : OexC K C) (hno : PySem.W.findIn K (.ref C) fld = some none)
    (hcell : K.lookup cc = some ⟨ocl, ocd, .cell (some (.ref C)), ocs⟩) (hcode : K.lookup c = some ⟨ccl, cdd, .fields vs, ccs⟩) (hvs : vs[2]? = some (.str file tf)) (hfile : ((P.main.file : Str) == file) = true)
    (hsup : mg "super" = none) (htop : (P.main.scope.names.lookup ("super" : Str)).isSome = false) (hks : scope.names.lookup ("super" : Str) = some .globalImplicit)
    (hpar : (params.posonlyargs ++ params.args).head? = some ar) (har : ar.arg = "self") (hop : PySem.W.nsIn K PySem.cStatics "thirdparty.any" = some none)
    (hev : ∀ env : Env, ∃ pl : Sem Bool, eval (.Call (.Attribute (.Call (.Name "super" p0) [] [] p1) "__init__" p2) [.Constant (.str text) kk p3] [] p4) env = (do
      let ov ← attributeBase (.Call (.Name "super" p0) [] [] p1) "__init__" env (eval (.Call (.Name "super" p0) [] [] p1) env)
      standAt p2.atName
      let (g, first) ← holding [ov] (getMethod ov "__init__" pl)
      callWith p4 g first (backTo p4 (starEach [.Constant (.str text) kk p3] env)) []))
    (hf1 : (fld == ("__debug__" : Str)) = false) (hf2 : (fld == ("__classdict__" : Str)) = false)
    (hsi : PySem.W.ks_superIn K C C "__init__" = some (some (.builtin "ValueError.__init__"))) :
    FnOk P w K mg base CX (k + 1) f (PySem.W.fnX "__init__" qual params (supBody text fld p0 p1 p2 p3 p4 p5 q1 q2 q3 q4 kk) scope [("__class__", cc)] dV kV doc pm an (.ref c) ct) ["self", fld] (spSup C fld) := by
  refine ⟨fun vs H Q E h => ?_, fun A outer s H args us vs' Q E hr e0 hb r hsp => ?_⟩
  · obtain ⟨a, y, rfl, _⟩ := h
    rfl
  obtain ⟨a, y, rfl, ha, q⟩ := hsp
  obtain ⟨u, rfl, ry⟩ : ∃ u, us = [.ref a, u] ∧ RelV y u := by
    cases r with
    | cons r1 r =>
      cases r with
      | cons r2 r =>
        cases r
        cases r1
        exact ⟨_, rfl, r2⟩
  have KX : K.In s.heap := e0.mod.kin.keeps fun b o e => (e0.bs b o e).1
  have lim : s.heap.NoLimit := e0.mod.nolimit.keeps fun b o e => (e0.bs b o e).1
  obtain ⟨F, hF⟩ : ∃ F : NdefX.NF, F = ⟨"__init__", qual, params, supBody text fld p0 p1 p2 p3 p4 p5 q1 q2 q3 q4 kk, scope, [("__class__", cc)], c⟩ := ⟨_, rfl⟩
  have CA : NdefX.CellsAt F.cl ["__class__"] [none] s.heap H := by
    rw [hF]
    exact cells_cc (e0.bs _ _ (e0.mod.kin _ _ hcell)).2 ⟨_, KX _ _ hcell, rfl⟩
  have S' : NdefX.NScope ["self", fld, "__class__"] ["self", fld] ["__class__"] F.scope := by rw [hF]; exact S
  refine PySem.ks_codeAny_call_defAt (body := supBody text fld p0 p1 p2 p3 p4 p5 q1 q2 q3 q4 kk) (binds := (["self", fld] : List Str).zip [.ref a, u]) hr.depth (KX _ _ lk) rfl lim (PySem.W.codeRec_of KX hcd) rfl hb S.nocell (fun x hx => S.par _ (List.of_mem_zip hx).1) (fun h₁ hns hk₁ => ?_) S.co S.gen S.kind
  have I := NdefX.inv_startN (CX := CX) (f := f) (E := E) (tk := s.toks + ((["self", fld] : List Str).zip [Value.ref a, u]).length) S' hr.hd e0 rfl r CA hns hk₁
  subst hF
  have KX1 : K.In h₁ := KX.keeps hk₁
  obtain ⟨nm, qn, N, bs, bm, sn, sub, ab, col, dd, k0, k1, k2, k3, k5, hC, hbm⟩ := T.cls
  have hcl : PySem.W.clsIn K C = some { name := nm, bases := bs, mro := .ref C :: bm, ns := N, qualname := qn, hasDict := true, slotNames := sn, subclasses := sub, abstract := ab, collection := col, hasDel := false } := by
    unfold PySem.W.clsIn
    rw [hC]
  obtain ⟨t1, hx1⟩ := exo_at I.hok ha
  have hint : interactive (callEnv (PySem.W.fnX "__init__" qual params (supBody text fld p0 p1 p2 p3 p4 p5 q1 q2 q3 q4 kk) scope [("__class__", cc)] dV kV doc pm an (.ref c) ct) s.heap.objs.size f) = false := by
    unfold interactive
    rw [show (callEnv (PySem.W.fnX "__init__" qual params (supBody text fld p0 p1 p2 p3 p4 p5 q1 q2 q3 q4 kk) scope [("__class__", cc)] dV kV doc pm an (.ref c) ct) s.heap.objs.size f).scope.kind = .function from S.kind]
    rfl
  obtain ⟨pl, hev⟩ := hev (callEnv (PySem.W.fnX "__init__" qual params (supBody text fld p0 p1 p2 p3 p4 p5 q1 q2 q3 q4 kk) scope [("__class__", cc)] dV kV doc pm an (.ref c) ct) s.heap.objs.size f)
  refine PySem.ks_wpAt_execs_cons (PySem.ks_wpAt_Expr_any (PySem.ks_wpAt_MethodCall (pl := pl) ?_ hev) hint)
  refine PySem.ks_wpAt_super_base hks (S.frk _ (List.mem_singleton_self _)) (by decide) rfl (KX1 _ _ lk) rfl hpar rfl (KX1 _ _ hcode) rfl hvs hfile htop ?_
  obtain ⟨mb, g1, g2⟩ := I.mod.blt
  refine PySem.W.ks_loadName_global S.kind hks (Calls.loadGlobal_builtin (I.mod.glob.keeps I.bk) hsup (g1.keeps I.bk) ((g2 "super" (by decide)).trans (by rfl)) ⟨rfl, ?_⟩)
  refine wpAny_loadName_free S.kind (S.frk _ (List.mem_singleton_self _)) List.lookup_cons_self ⟨_, KX1 _ _ hcell, rfl⟩ ?_
  have hself : scope.names.lookup ar.arg = some .local := by
    rw [har]
    exact S.par _ List.mem_cons_self
  have hmself : ((["self", fld] : List Str).zip [Value.ref a, u]).reverse.lookup ar.arg = some (.ref a) := by
    rw [har]
    have nd := S.nd
    have ne : (("self" : Str) == fld) = false := beq_false_of_ne (fun z => by
      rw [← z] at nd
      exact absurd nd (by decide))
    show List.lookup (Str.ofString "self") ([((fld : Str), u), (Str.ofString "self", Value.ref a)] : List (Str × Value)) = _
    rw [List.lookup_cons, ne, List.lookup_cons_self]
  refine wpAny_loadName_local S.kind hself hns hmself ?_
  refine PySem.ks_wpAny_isType_cls (KX1 _ _ hC) rfl ⟨rfl, ?_⟩
  have hsubC : PySem.W.mroIn K C (.ref C) = some true := by
    unfold PySem.W.mroIn
    rw [hcl]
    simp
  have hsubV : PySem.W.mroIn K C (.type "ValueError") = some true := by
    unfold PySem.W.mroIn
    rw [hcl]
    have : (Value.ref C :: bm).contains (.type "ValueError") = true := by
      rw [PySem.HandSPX.refsVE_contains "ValueError" (Value.ref C :: bm) hbm]
      decide +kernel
    simpa using this
  refine PySem.ks_wpAny_call_super (KX1 _ _ hC) rfl hx1 rfl (fun c z => nomatch z) (PySem.W.looks_mroIn KX1 hsubC) (fun h2 e2 k2 => ?_)
  have KX2 : K.In h2 := KX1.keeps k2
  have hx2 := k2 _ _ hx1
  have aC : a ≠ C := fun z => by
    have := (e0.bs _ _ (e0.mod.kin _ _ hC)).2
    rw [← z, ha] at this
    cases this
  have hal : PySem.W.alongIn K "__init__" bm = some (some (.builtin "ValueError.__init__")) := by
    unfold PySem.W.ks_superIn at hsi
    rw [hcl] at hsi
    simpa [List.dropWhile_cons] using hsi
  have hinst : PySem.W.InstAt h2 a { cls := .ref C, dict := none, data := .fields #[.ref t1, .none, .none, .none, .bool false, .none] } C none := ⟨hx2, rfl, rfl, trivial⟩
  refine PySem.W.kxs_getMethod PySem.W.kxs_ValueError e2 (PySem.W.looks_opaque KX2 hop) (l₀ := .ref C :: bm) (l := bm) ((PySem.W.looks_clsIn KX2 hcl).andThen .now) (by simp [List.dropWhile_cons]) KX2 hal (hinst.type.andThen (PySem.W.looks_mroIn KX2 hsubV)) aC (by decide) ?_
  have hu : (h2.push (PySem.W.kxs_mw "ValueError.__init__" a)).get? h2.objs.size = some (PySem.W.kxs_mw "ValueError.__init__" a) := Heap.get?_push_at rfl rfl
  have k3 : ∀ b o, h2.get? b = some o → (h2.push (PySem.W.kxs_mw "ValueError.__init__" a)).get? b = some o := fun b o e => Heap.get?_push_of_some _ e
  refine PySem.W.kxs_callWith (i := "ValueError.__init__") (x := a) (by rfl) (Calls.evalArgs_plain ?_)
  wp_walk
  have hx3 := k3 _ _ hx2
  have k13 : ∀ b o, h₁.get? b = some o → (h2.push (PySem.W.kxs_mw "ValueError.__init__" a)).get? b = some o := fun b o e => k3 b o (k2 b o e)
  have J := I.kept (t' := s.toks + ((["self", fld] : List Str).zip [Value.ref a, u]).length + 1 + 1) k13
  have hC3 := KX1.keeps k13 _ _ hC
  generalize h2.push (PySem.W.kxs_mw "ValueError.__init__" a) = h3 at *
  refine ⟨hu, wpAny_call (codeAny_of_tree ?_)⟩
  show wpAny _ (Around.in1 _) (callAny (.ref h2.objs.size) ⟨[.str text _], []⟩) _ _ _
  simp only [callAny]
  refine wpAny_bind (wpAny_load hu (?_ : _)); simp only [PySem.W.kxs_mw, show (Value.type "method-wrapper" == Value.type "method" || Value.type "method-wrapper" == Value.type "builtin_function_or_method" || Value.type "method-wrapper" == Value.type "method-wrapper") = true by decide, if_true]
  refine PySem.W.KFB.if_so (by decide) (wpAny_bind (PySem.W.check_bound_init F.excBase_ValueError.toExcCallFacts hC3 hx3 rfl (wpAny_bind (wpAny_pure (wpAny_pure ?_)))))
  refine ⟨plainId_quiet F.excBase_ValueError.init.plain _, codeAny_builtin F.excBase_ValueError.initEntry (PySem.W.exc_init_tree (cls := .ref C) (t0 := t1) (dv := none) (c2 := .none) (c3 := .none) (b4 := .bool false) hx3 (by show 1 ≤ sizeLine; decide) fun h4 k4 e4 _ => ?_)⟩
  have J4 := J.write (t' := s.toks + ((["self", fld] : List Str).zip [Value.ref a, u]).length + 1 + 1) (x := a) (e := a) (o := exo a C none) (by rw [ha]; exact True.intro) (.inl rfl) k4 ⟨_, e4⟩ (exo_ok e4)
  have eu : upd H a (exo a C none) = H := funext fun b => by
    by_cases hb : b = a
    · rw [hb, upd_same, ha]
    · rw [upd_ne hb]
  rw [eu] at J4
  have last : PSs (NdefX.ncx CX P w K mg base ["self", fld, "__class__"] ⟨"__init__", qual, params, supBody text fld p0 p1 p2 p3 p4 p5 q1 q2 q3 q4 kk, scope, [("__class__", cc)], c⟩ f A outer s H E) [.Assign [.Attribute (.Name "self" q1) fld q2] (.Name fld q3) q4] (tOst K fld (tVar 0) (tVar 1)) := by
    refine pss_one (ps_ost (pv 0 rfl (.inl (S.par _ List.mem_cons_self))) (pv 1 rfl (.inl (S.par _ (List.mem_cons_of_mem _ (List.mem_singleton_self _)))) hf1 hf2))
  refine wpAt_of_wpAny (wpAny_mono (last.run [] _ _ H { nx := fun _ H' => Q .non H', rt := Q } J4 ?_) (fun fl s' hs => ?_) fun e s' hs => hs)
  · exact ⟨_, rfl, _, rfl, a, C, rfl, T, hno, .inl ⟨ha, fun dx hdx ne => q dx hdx ne⟩⟩
  have fin : ∀ {σ' : L2.St} {H' : Hp} {v : V} {u : Value}, Inv (NdefX.ncx CX P w K mg base ["self", fld, "__class__"] ⟨"__init__", qual, params, supBody text fld p0 p1 p2 p3 p4 p5 q1 q2 q3 q4 kk, scope, [("__class__", cc)], c⟩ f A outer s H E) [] σ' H' s' → L2.RelV v u → Q v H' → CE outer P w H s Q u s' := fun {σ' H' v u} Z rv z => ⟨v, H', Z.os, Z.bare, Z.base, Z.hok, rv, z⟩
  cases fl with
  | next =>
    obtain ⟨σ', H', Z, z⟩ := hs
    exact fin (v := V.non) (u := Value.none) Z rfl z
  | ret v =>
    obtain ⟨v', σ', H', Z, rv, z⟩ := hs
    exact fin Z rv z
  | brk =>
    obtain ⟨_, _, _, z⟩ := hs
    exact False.elim z
  | cont =>
    obtain ⟨_, _, _, z⟩ := hs
    exact False.elim z
end
/-! ### defs and constructors that may raise -/
structure CFx (P : Program) (w : World) (K : PySem.W.Frag) (mg : Str → Option Value) (base : Heap) (k : Nat) (x : Str) (ps : List Str) (sp : Sp) : Prop where
  ex : ∃ (f : Addr) (fd : FuncData), FnOk P w K mg base (L2.CX P w) k f fd ps sp ∧ mg x = some (.ref f) ∧ PySem.W.keepIn K (.ref f) = true ∧ Binds K fd ps []
structure CMkx (P : Program) (w : World) (K : PySem.W.Frag) (mg : Str → Option Value) (base : Heap) (C : Addr) (k : Nat) (x : Str) (ps : List Str) (dvs : List V) (sp : Sp) : Prop where
  ex : ∃ (f : Addr) (fd : FuncData) (ds : List Value), FnOk P w K mg base (L2.CX P w) k f fd ps sp ∧ Mk K C f ∧ mg x = some (.ref C) ∧ Vals dvs ds ∧ Binds K fd ps ds
structure CMkk (P : Program) (w : World) (K : PySem.W.Frag) (mg : Str → Option Value) (base : Heap) (C : Addr) (k : Nat) (x : Str) (ps : List Str) (n : Nat) (ks : List Str) (gV : List V → List V → List V) (sp : Sp) : Prop where
  ex : ∃ (f : Addr) (fd : FuncData) (g : List Value → List Value → List Value), FnOk P w K mg base (L2.CX P w) k f fd ps sp ∧ Mk K C f ∧ mg x = some (.ref C) ∧ KBn K fd ps n ks g gV
/-- an error class with an own __init__ of one field -/
structure CEx (P : Program) (w : World) (K : PySem.W.Frag) (mg : Str → Option Value) (base : Heap) (C : Addr) (k : Nat) (x fld : Str) : Prop where
  ex : ∃ (f : Addr) (fd : FuncData), FnOk P w K mg base CX0 k f fd ["self", fld] (spSup C fld) ∧ OexC K C ∧ PySem.W.findIn K (.ref C) "__init__" = some (some (.ref f)) ∧ PySem.W.typeIn K (.ref f) = some (.type "function") ∧ Binds K fd ["self", fld] [] ∧ mg x = some (.ref C)
def tMakeE (C : Addr) (sp : Sp) (dvs : List V) (E : L2.St → XK) (t : TA) : TE := fun σ H Q => t σ H fun vs H1 => ∀ x dx, H1 x = none → H1 dx = none → dx ≠ x → sp (.ref x :: (vs ++ dvs)) (upd (upd H1 dx (.own x)) x (.ins C dx [])) (fun v H2 => v = .non ∧ Q (.ref x) H2) (E σ)
section
variable {X : Cx} {k : Nat} {C : Addr} {x fld : Str} {ps : List Str} {dvs : List V} {sp : Sp} {W : WX} {p pos : Pos} {e : Expr} {es : List Expr} {t : TA}
theorem pe_cfx (F : CFx X.prog X.w X.K X.mg X.base k x ps sp) (hr : Room k X.A) (tk : Takes X W) (hg : Gl X x) (ha : PA X (e :: es) t)
    (hdb : (x == ("__debug__" : Str)) = false := by decide) (he : starEach (e :: es) X.env = (false, eval e X.env) :: starEach es X.env := by rfl) (hpl : (backTo pos (starEach es X.env)).any (·.1) = false := by rfl) :
    PE X (.Call (.Name x p) (e :: es) [] pos) (tCallS sp (WE W) t) := by
  obtain ⟨f, fd, F1, g, kp, b⟩ := F.ex
  exact pe_callS F1 hr hg g kp b (fun σ => passAt tk σ) ha hdb he hpl
theorem never_at {σ : L2.St} : PassesAt (L2.CX X.prog X.w) X σ E0 := fun _ _ _ e s' I c => by
  obtain ⟨_, _, _, _, _, _, _, _, _, _, _, _, z⟩ := c
  exact z.elim
theorem pe_cfn (F : CFx X.prog X.w X.K X.mg X.base k x ps sp) (hr : Room k X.A) (hg : Gl X x) (ha : PA X (e :: es) t)
    (hdb : (x == ("__debug__" : Str)) = false := by decide) (he : starEach (e :: es) X.env = (false, eval e X.env) :: starEach es X.env := by rfl) (hpl : (backTo pos (starEach es X.env)).any (·.1) = false := by rfl) :
    PE X (.Call (.Name x p) (e :: es) [] pos) (tCallS sp (fun _ => E0) t) := by
  obtain ⟨f, fd, F1, g, kp, b⟩ := F.ex
  exact pe_callS F1 hr hg g kp b (fun σ => never_at) ha hdb he hpl
theorem run_mkx {CX : CXT} {f : Addr} {fd : FuncData} {ds : List Value} {E : XK} {pins : List (Addr × Obj)} {σ : L2.St} {H : Hp} {s : Shared} {Q : VK} {us : List Value} {vs : List V} (M : Mk X.K C f) (F : FnOk X.prog X.w X.K X.mg X.base CX k f fd ps sp) (hr : Room (k + 1) X.A) (hb : Binds X.K fd ps ds) (hd : Vals dvs ds) (hx : PassesAt CX X σ E) (I : Inv X pins σ H s) (r : Vals vs us)
    (h : ∀ x dx, H x = none → H dx = none → dx ≠ x → sp (.ref x :: (vs ++ dvs)) (upd (upd H dx (.own x)) x (.ins C dx [])) (fun v H2 => v = .non ∧ Q (.ref x) H2) E) : wpAny (model X.prog X.w) X.A (call (.ref C) us) (EP X pins σ Q) X.xe s := by
  have made := I.made (C := C)
  have big := h (s.heap.objs.size + 1) s.heap.objs.size (I.hok.fresh (Nat.le_add_right _ 1)) (I.hok.fresh (Nat.le_refl s.heap.objs.size)) (Nat.ne_of_lt (Nat.lt_add_one s.heap.objs.size))
  have rel : Vals (V.ref (s.heap.objs.size + 1) :: (vs ++ dvs)) (Value.ref (s.heap.objs.size + 1) :: (us ++ ds)) := .cons rfl (r.append hd)
  have many : (Value.ref (s.heap.objs.size + 1) :: us ++ ds).length = ps.length := (Paired.length rel).symm.trans (F.len _ _ _ _ big)
  have body := F.run _ X.stack _ _ ⟨Value.ref (s.heap.objs.size + 1) :: us, []⟩ (Value.ref (s.heap.objs.size + 1) :: (us ++ ds)) _ _ E (hr.make C us []) (made.env0.make C us []) (hb _ (Value.ref (s.heap.objs.size + 1) :: us) made.kIn many) rel big
  refine wpAny_call (make_map (f := f) I.kIn M.makes M.init (beq_iff_eq.mp M.fn) (codeAny_mono body fun res s' fin => ?_))
  match res, fin with
  | .error er, fin => exact hx pins _ _ er s' made fin
  | .ok (.ret u), fin =>
    obtain ⟨v, H', J, rv, ev, qq⟩ := made.after fin
    subst ev
    exact ⟨rv, ⟨V.ref (s.heap.objs.size + 1), H', J, rfl, qq⟩⟩
  | .ok .next, fin => exact fin.elim
  | .ok .brk, fin => exact fin.elim
  | .ok .cont, fin => exact fin.elim
theorem pe_mkx (M : CMkx X.prog X.w X.K X.mg X.base C k x ps dvs sp) (hr : Room (k + 1) X.A) (tk : Takes X W) (hg : Gl X x) (ha : PA X (e :: es) t)
    (hdb : (x == ("__debug__" : Str)) = false := by decide) (he : starEach (e :: es) X.env = (false, eval e X.env) :: starEach es X.env := by rfl) (hpl : (backTo pos (starEach es X.env)).any (·.1) = false := by rfl) :
    PE X (.Call (.Name x p) (e :: es) [] pos) (tMakeE C sp dvs (WE W) t) := by
  obtain ⟨f, fd, ds, F, mk, g, vd, b⟩ := M.ex
  constructor
  intro pins s σ H Q I h
  refine wpAny_Call_Name_kw (ld_glob I hg g (PySem.W.callWith_K (h₀ := X.base) I.ok.mod.kin mk.kp (thn (ha.run pos pins s σ H _ I h) fun us s1 ⟨vs, H1, I1, r, q⟩ => ⟨I1.kIn, run_mkx mk F hr b vd (passAt tk σ) I1 r q⟩) he hpl) hdb)
theorem never_all : Passes (L2.CX X.prog X.w) X E0 := fun _ _ _ _ e s' I c => by
  obtain ⟨_, _, _, _, _, _, _, _, _, _, _, _, z⟩ := c
  exact z.elim
theorem pe_mkn (M : CMkx X.prog X.w X.K X.mg X.base C k x ps dvs sp) (hr : Room (k + 1) X.A) (hg : Gl X x) (ha : PA X (e :: es) t)
    (hdb : (x == ("__debug__" : Str)) = false := by decide) (he : starEach (e :: es) X.env = (false, eval e X.env) :: starEach es X.env := by rfl) (hpl : (backTo pos (starEach es X.env)).any (·.1) = false := by rfl) :
    PE X (.Call (.Name x p) (e :: es) [] pos) (tMake C sp dvs E0 t) := by
  obtain ⟨f, fd, ds, F, mk, g, vd, b⟩ := M.ex
  exact pe_make mk F hr hg g b vd never_all ha hdb he hpl
theorem pe_mkk {n : Nat} {ks : List Str} {gV : List V → List V → List V} {kws : List Keyword} {tk : TA} (M : CMkk X.prog X.w X.K X.mg X.base C k x ps (n + 1) ks gV sp) (hr : Room (k + 1) X.A) (hg : Gl X x) (ha : PA X (e :: es) t) (hkw : PK X kws tk)
    (hall : (backToKw pos (keywordEach kws X.env)).all (·.1.isSome) = true := by rfl) (hks : (backToKw pos (keywordEach kws X.env)).filterMap (·.1) = ks := by rfl)
    (hdb : (x == ("__debug__" : Str)) = false := by decide) (he : starEach (e :: es) X.env = (false, eval e X.env) :: starEach es X.env := by rfl)
    (hpl : ((backTo pos (starEach (e :: es) X.env)).any (·.1) || (backToKw pos (keywordEach kws X.env)).any (·.1.isNone)) = false := by rfl) :
    PE X (.Call (.Name x p) (e :: es) kws pos) (tMakeN C n ks.length sp gV E0 t tk) := by
  obtain ⟨f, fd, gg, F, mk, g, b⟩ := M.ex
  exact pe_makeN mk F hr hg g b never_all ha hkw hall hks hdb he hpl
theorem pmk_cex (F : CEx X.prog X.w X.K X.mg X.base C k x fld) (hr : Room (k + 1) X.A) (hg : Gl X x) (ha : PA X (e :: es) t)
    (hdb : (x == ("__debug__" : Str)) = false := by decide) (he : starEach (e :: es) X.env = (false, eval e X.env) :: starEach es X.env := by rfl) (hpl : (backTo pos (starEach es X.env)).any (·.1) = false := by rfl) :
    PMk X (.Call (.Name x p) (e :: es) [] pos) (tMkO C (spSup C fld) [] t) := by
  obtain ⟨f, fd, F1, T, iC, tI, b, g⟩ := F.ex
  exact pmk_oex T iC tI F1 hr b .nil pass0 hg g ha hdb he hpl
end
/-! ### a kept error with its dict -/
section
variable {K : PySem.W.Frag}
theorem er_atD {X : Cx} {pins : List (Addr × Obj)} {σ : L2.St} {H : Hp} {s : Shared} {a D dx : Addr} {fs : List (Str × V)} (I : Inv X pins σ H s) (h : H a = some (ErO (.ref D) (some dx) a)) (hd : H dx = some (.xd fs)) : ∃ (oe od : Obj), PySem.W.InstAt s.heap a oe D (some od) ∧ ∀ (n : Str) (v : V), fs.lookup n = some v → ∃ u, RelV v u ∧ PySem.W.lookIn n od = some (some u) := by
  obtain ⟨⟨oe, vs, e, z, f⟩, _⟩ := I.hok a _ h
  obtain ⟨mA, hns, hr⟩ := (show ObjOk X.prog X.w H s.heap dx (.xd fs) from I.hok dx _ hd)
  obtain ⟨od, ho, hl⟩ := lookIn_ns hns
  refine ⟨oe, od, ⟨e, z.1, by unfold PySem.W.notCls; rw [f], by rw [z.2]; exact ho⟩, fun n v l => ?_⟩
  obtain ⟨u, hu, ru⟩ := RelO.some_of (v := v) (o := mA n) (by rw [← l]; exact hr n)
  exact ⟨u, ru, (hl n).trans (by rw [hu])⟩
def rIsErD (K : PySem.W.Frag) : List V → Hp → VK → Prop := fun xs H Q => ∃ (a D dx : Addr) (fs : List (Str × V)) (c : V) (cv : Value) (b : Bool), xs = [.ref a, c] ∧ ExcC K D ∧ H a = some (ErO (.ref D) (some dx) a) ∧ H dx = some (.xd fs) ∧ (∀ u, RelV c u → u = cv) ∧ PySem.W.kitOne K (.ref D) cv = some b ∧ Q (.bl b) H
theorem kk_isErD (K : PySem.W.Frag) {X : Cx} (hK : X.K = K := by rfl) : CallR X (.builtin "isinstance") (rIsErD K) := by
  subst hK
  intro pins s σ H xs us Q I r h
  obtain ⟨a, D, dx, fs, c, cv, b, rfl, C, ha, hdx, hcv, e, q⟩ := h
  cases r with
  | cons rx rr =>
    cases rr with
    | cons rt rr =>
      cases rr
      cases rx
      have ec := hcv _ rt
      subst ec
      obtain ⟨oe, od, J, _⟩ := er_atD I ha hdx
      have hcl : (PySem.W.clsIn X.K D).isSome = true := by
        have z := C.hd
        unfold PySem.W.hasDictIn at z
        cases hc : PySem.W.clsIn X.K D with
        | none => rw [hc] at z; cases z
        | some cd => rfl
      exact PySem.W.kia_one (PySem.W.kitx_exc hcl C.hg C.hk C.hs C.ha C.hn C.ht C.hm) I.kIn J e (fun z => nomatch z) fun tk => ⟨.bl b, H, I.kept (t' := tk) fun _ _ z => z, rfl, q⟩
def tErF (C : Addr) (n : Str) (te : TE) : TE := fun σ H Q => te σ H fun x H1 => ∃ (a dx : Addr) (fs : List (Str × V)) (v : V), x = .ref a ∧ H1 a = some (ErO (.ref C) (some dx) a) ∧ H1 dx = some (.xd fs) ∧ fs.lookup n = some v ∧ Q v H1
theorem pe_erF {X : Cx} {C : Addr} {e : Expr} {te : TE} {pos : Pos} {n : Str} (T : XfC X.K C) (hno : PySem.W.findIn X.K (.ref C) n = some none) (he : PE X e te) (hb : attributeBase e n X.env (eval e X.env) = eval e X.env := by rfl) : PE X (.Attribute e n pos) (tErF C n te) := by
  constructor
  intro pins s σ H Q I h
  refine attr_of hb (thn (he.run pins s σ H _ I h) fun u s1 hh => ?_)
  obtain ⟨x, H1, I1, rx, a, dx, fs, v, rfl, ha, hdx, l, q⟩ := hh
  cases (show u = Value.ref a from rx)
  obtain ⟨oe, od, J, look⟩ := er_atD I1 ha hdx
  obtain ⟨w, rw', hw⟩ := look n v l
  exact HandSPX.exc_get I1.kIn J T.ga T.gg T.exC (PySem.W.findObj_own T.hdC hno rfl hw) (handed_of rw') ⟨v, H1, I1.tok _, rw', q⟩
end
/-! ### an own error made as a value, by place or by its field's name -/
namespace EXV
open PySem.W PySem.Calls PyProof.Rows PySem.HandSPX
section
variable {M : Model} {A : Around} {E : Value → Shared → Prop} {h : Heap} {g : Array GenState} {d : Drawn} {t : Nat} {os : OsState}
variable {nm q : Str} {C N : Addr} {bs bm bmB : List Value} {hdct : Bool} {sn : List Str} {sub : List Value} {ab : Bool} {col : Option Bool} {dd : Option Addr} {k0 k1 k2 k3 k5 : Option Value} {B newId initId : String}
theorem check_new_kw (F : ExcBaseFacts B newId initId bmB) (hT : ∀ X : String, bm.contains (.type X) = bmB.contains (.type X)) {kn : Str} {kv : Value} {Q : Unit → Shared → Prop}
    (hC : h.get? C = some (excClassObj nm q C N bs bm hdct sn sub ab col dd k0 k1 k2 k3 k5 newId)) (hq : Q () ⟨h, g, d, t, os⟩) : wpAny M A (checkBuiltinCall newId ⟨[.ref C], [(kn, kv)]⟩) Q E ⟨h, g, d, t, os⟩ := by
  have hcont : (Value.ref C :: bm).contains (.type B) = true := by rw [List.contains_cons, hT, F.hasB, Bool.or_true]
  have hstar := F.noStar
  simp only [checkBuiltinCall, F.newKind, F.newSplit, F.newRow]
  repeat (first | refine wpAny_loadPart_at hC ?_ | (refine wpAny_isSubtype_exc hC ?_; rw [hcont]) | refine wpAny_staticBase_exc hC ?_ | refine wpAny_madeBy_exc hC ?_ | simp only [bne_self_eq_false, Bool.false_eq_true, if_false] | wp_step)
  exact hq
end
section
variable {prog : Program} {w : World} {A : Around} {E : Value → Shared → Prop} {R : Result → Shared → Prop} {h : Heap} {g : Array GenState} {d : Drawn} {t : Nat} {os : OsState}
variable {nm q : Str} {C N : Addr} {bs bm bmB : List Value} {hdct : Bool} {sn : List Str} {sub : List Value} {ab : Bool} {col : Option Bool} {dd : Option Addr} {k0 k1 k2 k3 k5 : Option Value} {B newId initId : String}
theorem new_kw (F : ExcBaseFacts B newId initId bmB) (hT : ∀ X : String, bm.contains (.type X) = bmB.contains (.type X)) {kn : Str} {kv : Value}
    (hC : h.get? C = some (excClassObj nm q C N bs bm hdct sn sub ab col dd k0 k1 k2 k3 k5 newId))
    (hq : R (.ok (.ret (.ref (h.objs.size + 1)))) ⟨(h.push { cls := .type "tuple", data := .seq #[] }).push
      { cls := .ref C, data := .fields #[.ref h.objs.size, .none, .none, .none, .bool false, .none] }, g, d, t, os⟩) :
    codeAny (model prog w) A (.builtin newId ⟨[.ref C], [(kn, kv)]⟩) R ⟨h, g, d, t, os⟩ := by
  have hends := F.ends
  have hcB : (Value.ref C :: bm).contains (.type B) = true := by rw [List.contains_cons, hT, F.hasB, Bool.or_true]
  have hcA : (Value.ref C :: bm).contains (.type "AttributeError") = false := by rw [List.contains_cons, hT, F.noAttr]; rfl
  have hcN : (Value.ref C :: bm).contains (.type "NameError") = false := by rw [List.contains_cons, hT, F.noName]; rfl
  refine codeAny_builtinAt F.entry ?_
  unfold Builtin.«BaseException.__new__»
  refine PySem.wpAt_bind ?_
  show PySem.wpAt _ _ _ (stack >>= _) _ _ _
  refine PySem.wpAt_bind (PySem.wpAt_stack fun p below => PySem.wpAt_of_wpAny ?_)
  wp_walk
  refine PySem.wpAt_of_wpAny ?_
  rw [F.owner]
  repeat (first | with_reducible refine wpAny_madeHere_exc F.canon hC ?_ | with_reducible refine wpAny_loadPart_at hC ?_ | (with_reducible refine wpAny_isSubtype_exc hC ?_; first | rw [hcB] | rw [hcA] | rw [hcN]) | wp_step)
  show R _ _
  rw [Heap.size_push]
  exact hq
theorem type_call_kw (F : ExcBaseFacts B newId initId bmB) (hT : ∀ X : String, bm.contains (.type X) = bmB.contains (.type X)) {kn : Str} {kv : Value} {fI : Addr} {Q : Fin → Shared → Prop}
    (hC : h.get? C = some (excClassObj nm q C N bs bm hdct sn sub ab col dd k0 k1 k2 k3 k5 newId))
    (hi : PySem.W.Looks (model prog w) h (typeLookup (.ref C) "__init__") (some (.ref fI))) (hb : ∀ self, PySem.W.Looks (model prog w) h (bindSpecial (.ref fI) self) (.ref fI, [self]))
    (hq : codeAny (model prog w) A (.call (.ref fI) ⟨[.ref (h.objs.size + 1)], [(kn, kv)]⟩)
      (fun r s' => match r with | .ok (.ret v) => v = .none ∧ Q (.done (.ret (.ref (h.objs.size + 1)))) s' | .ok _ => False | .error e => E e s')
      ⟨(h.push (PySem.W.kdv_tup [])).push (PySem.HandSPX.excO C h.objs.size), g, d, t, os⟩) :
    wpAny (model prog w) A (Builtin.«type.__call__» ⟨[.ref C], [(kn, kv)]⟩) Q E ⟨h, g, d, t, os⟩ := by
  repeat (first | with_reducible refine wpAny_loadPart_at hC ?_ | with_reducible refine wpAny_madeBy_exc hC ?_ | wp_step)
  refine codeAny_call_builtin_code (Code.quiet_builtin _ F.quiet) (check_new_kw F hT hC ?_)
  refine new_kw F hT hC ?_
  show wpAny _ _ _ _ _ _
  have k : ∀ b o, h.get? b = some o → ((h.push (PySem.W.kdv_tup [])).push (PySem.HandSPX.excO C h.objs.size)).get? b = some o := fun b o e => Heap.get?_push_of_some _ (Heap.get?_push_of_some _ e)
  have hC₁ := k _ _ hC
  have hget : ((h.push (PySem.W.kdv_tup [])).push (PySem.HandSPX.excO C h.objs.size)).get? (h.objs.size + 1) = some (PySem.HandSPX.excO C h.objs.size) := by heap_get
  have hcC : (Value.ref C :: bm).contains (.ref C) = true := by simp
  have i1 := hi.keeps k
  have b1 := (hb (.ref (h.objs.size + 1))).keeps k
  unfold isInstance
  repeat (first | with_reducible refine wpAny_loadPart_at hget ?_ | (with_reducible refine wpAny_isSubtype_exc hC₁ ?_; rw [hcC]) | wp_step)
  show wpAny _ _ (typeLookup (.ref C) _) _ _ _
  refine i1.at ?_
  refine wpAny_holding (wpAny_bind (b1.at ?_))
  refine wpAny_bind (wpAny_call (codeAny_mono hq fun r s' z => ?_))
  rcases r with e | (v | _ | _ | _) <;> first | exact z | exact z.elim | skip
  obtain ⟨rfl, z⟩ := z
  first
    | exact wpAny_pure (wpAny_pure z)
    | (wp_walk; exact z)
theorem check_tc_kw {M : Model} {kn : Str} {kv : Value} {Q : Unit → Shared → Prop} (hC : h.get? C = some (excClassObj nm q C N bs bm hdct sn sub ab col dd k0 k1 k2 k3 k5 newId))
    (hq : Q () ⟨h, g, d, t, os⟩) : wpAny M A (checkBuiltinCall "type.__call__" ⟨[.ref C], [(kn, kv)]⟩) Q E ⟨h, g, d, t, os⟩ := by
  have f3 := tc_sub
  have hT : (⟨h, g, d, t, os⟩ : Shared).TypeIs (.ref C) "type" := ⟨_, hC, rfl⟩
  simp only [checkBuiltinCall, tc_kind, tc_split]
  repeat (any_goals (first | assumption | with_reducible refine wpAny_loadPart_at hC ?_ | with_reducible refine wpAny_onRaise ?_ | with_reducible refine wpAny_map ?_ | wp_step))
theorem call_kw (F : ExcBaseFacts B newId initId bmB) (hT : ∀ X : String, bm.contains (.type X) = bmB.contains (.type X)) {kn : Str} {kv : Value} {fI : Addr}
    (hC : h.get? C = some (excClassObj nm q C N bs bm hdct sn sub ab col dd k0 k1 k2 k3 k5 newId))
    (hi : PySem.W.Looks (model prog w) h (typeLookup (.ref C) "__init__") (some (.ref fI))) (hb : ∀ self, PySem.W.Looks (model prog w) h (bindSpecial (.ref fI) self) (.ref fI, [self]))
    (hq : codeAny (model prog w) (A.under (.builtin "type.__call__" ⟨[.ref C], [(kn, kv)]⟩)) (.call (.ref fI) ⟨[.ref (h.objs.size + 1)], [(kn, kv)]⟩) (PySem.W.InitBack (h.objs.size + 1) R)
      ⟨(h.push (PySem.W.kdv_tup [])).push (PySem.HandSPX.excO C h.objs.size), g, d, t, os⟩) :
    codeAny (model prog w) A (.call (.ref C) ⟨[], [(kn, kv)]⟩) R ⟨h, g, d, t, os⟩ := by
  have f1 := tc_lookup
  have f2 := tc_bind (.ref C)
  have hTy : (⟨h, g, d, t, os⟩ : Shared).TypeIs (.ref C) "type" := ⟨_, hC, rfl⟩
  refine codeAny_of_tree ?_
  show wpAny _ _ (callAny (.ref C) _) _ _ _
  repeat (any_goals (first | assumption | with_reducible refine wpAny_loadPart_at hC ?_ | wp_step))
  refine ⟨rfl, ?_⟩
  refine codeAny_call_builtin_at (Code.quiet_builtin _ (by decide +kernel)) entry_typeCall (check_tc_kw hC (type_call_kw F hT hC hi hb ?_))
  refine codeAny_mono hq fun r s' z => ?_
  rcases r with e | (v | _ | _ | _) <;> exact z
end
end EXV
/-- an error class with an own __init__ of one field, made by place or by its field's name -/
structure CEv (P : Program) (w : World) (K : PySem.W.Frag) (mg : Str → Option Value) (base : Heap) (C : Addr) (k : Nat) (x fld : Str) : Prop where
  ex : ∃ (f : Addr) (fd : FuncData), FnOk P w K mg base CX0 k f fd ["self", fld] (spSup C fld) ∧ OexC K C ∧ PySem.W.findIn K (.ref C) "__init__" = some (some (.ref f)) ∧ PySem.W.typeIn K (.ref f) = some (.type "function") ∧ Binds K fd ["self", fld] [] ∧ mg x = some (.ref C) ∧ ∀ (s : Shared) (a u : Value), BindsTo s fd ⟨[a], [(fld, u)]⟩ [("self", a), (fld, u)]
theorem CEv.cex {P : Program} {w : World} {K : PySem.W.Frag} {mg : Str → Option Value} {base : Heap} {C : Addr} {k : Nat} {x fld : Str} (h : CEv P w K mg base C k x fld) : CEx P w K mg base C k x fld := by
  obtain ⟨f, fd, a, b, c, d, e, g, _⟩ := h.ex
  exact ⟨f, fd, a, b, c, d, e, g⟩
def tExV (C : Addr) (fld : Str) (t : TA) : TE := fun σ H Q => t σ H fun vs H1 => ∃ y, vs = [y] ∧ ∀ a dx, H1 a = none → H1 dx = none → dx ≠ a → Q (.ref a) (upd (upd (upd H1 a (exo a C none)) dx (exd dx [(fld, y)])) a (exo a C (some dx)))
section
variable {X : Cx} {k : Nat} {C : Addr} {x fld : Str} {p pos : Pos} {e : Expr} {es : List Expr} {t : TA}
theorem sp_exv {a : Addr} {y : V} {H1 : Hp} {Q : VK} {E : XK} (n : H1 a = none) (q : ∀ dx, H1 dx = none → dx ≠ a → Q (.ref a) (upd (upd (upd H1 a (exo a C none)) dx (exd dx [(fld, y)])) a (exo a C (some dx)))) : spSup C fld [.ref a, y] (upd H1 a (exo a C none)) (fun v H2 => v = .non ∧ Q (.ref a) H2) E := by
  refine ⟨a, y, rfl, upd_same, fun dx hd ne => ⟨rfl, q dx ?_ ne⟩⟩
  rw [upd_ne ne] at hd
  exact hd
theorem pe_exV (F : CEv X.prog X.w X.K X.mg X.base C k x fld) (hr : Room (k + 1) X.A) (hg : Gl X x) (ha : PA X (e :: es) t)
    (hdb : (x == ("__debug__" : Str)) = false := by decide) (he : starEach (e :: es) X.env = (false, eval e X.env) :: starEach es X.env := by rfl) (hpl : (backTo pos (starEach es X.env)).any (·.1) = false := by rfl) :
    PE X (.Call (.Name x p) (e :: es) [] pos) (tExV C fld t) := by
  obtain ⟨fI, fd, F1, T, iC, tI, hb, hm, _⟩ := F.ex
  obtain ⟨nm, q, N, bs, bm, sn, sub, ab, col, dd, k0, k1, k2, k3, k5, hC, hbm⟩ := T.cls
  refine ⟨fun pins s σ H Q I h => ?_⟩
  refine wpAny_Call_Name_kw (ld_glob I hg hm ?_ hdb)
  refine PySem.W.callWith_K (h₀ := X.base) I.ok.mod.kin T.kC (thn (ha.run pos pins s σ H _ I h) fun us s1 ⟨vs, H1, I1, r1, y, hv, q1⟩ => ⟨I1.kIn, ?_⟩) he hpl
  subst hv
  show wpAny _ _ (call (.ref C) us) _ _ _
  obtain ⟨hp, g, dr, tk, os⟩ := s1
  have hsz : hp.objs.size ≤ hp.objs.size + 1 := Nat.le_succ _
  have hn : H1 (hp.objs.size + 1) = none := I1.hok.fresh hsz
  have hq : spSup C fld [.ref (hp.objs.size + 1), y] (upd H1 (hp.objs.size + 1) (exo (hp.objs.size + 1) C none)) (fun v H2 => v = .non ∧ Q (.ref (hp.objs.size + 1)) H2) (fun _ _ _ => False) := sp_exv hn (fun dx hd ne => q1 _ dx hn hd ne)
  have kk : ∀ b o, hp.get? b = some o → ((hp.push (PySem.W.kdv_tup us)).push (PySem.HandSPX.excO C hp.objs.size)).get? b = some o := fun b o e => Heap.get?_push_of_some _ (Heap.get?_push_of_some _ e)
  have hget : ((hp.push (PySem.W.kdv_tup us)).push (PySem.HandSPX.excO C hp.objs.size)).get? (hp.objs.size + 1) = some (PySem.HandSPX.excO C hp.objs.size) := by heap_get
  have I2 : Inv X pins σ (upd H1 (hp.objs.size + 1) (exo (hp.objs.size + 1) C none)) ⟨(hp.push (PySem.W.kdv_tup us)).push (PySem.HandSPX.excO C hp.objs.size), g, dr, tk, os⟩ :=
    I1.laid (t' := tk) (a := hp.objs.size + 1) (o := exo (hp.objs.size + 1) C none) (h' := (hp.push (PySem.W.kdv_tup us)).push (PySem.HandSPX.excO C hp.objs.size)) kk hsz (exo_ok hget)
  have r2 : Vals [V.ref (hp.objs.size + 1), y] (Value.ref (hp.objs.size + 1) :: us) := .cons rfl r1
  have hl : (Value.ref (hp.objs.size + 1) :: us ++ []).length = (["self", fld] : List Str).length := by
    rw [List.append_nil]
    exact r2.length.symm
  have hus : us.length ≤ sizeLine := by
    rw [← Paired.length r1]
    show 1 ≤ sizeLine
    decide
  have bb := hb _ (Value.ref (hp.objs.size + 1) :: us) I2.kIn hl
  rw [List.append_nil] at bb
  refine wpAny_call (PySem.HandSPX.call_own PySem.F.excBase_ValueError (fun Y => PySem.HandSPX.refsVE_contains Y bm hbm) (I1.kIn _ _ hC) (PySem.W.looks_findIn I1.kIn iC) (fun self => PySem.W.bind_fn I1.kIn self tI) hus
    (codeAny_mono (F1.run _ X.stack _ _ ⟨Value.ref (hp.objs.size + 1) :: us, []⟩ (Value.ref (hp.objs.size + 1) :: us) _ _ (fun _ _ _ => False) (hr.make C us []) (I2.env0.make C us []) bb r2 hq) fun r s' hq' => ?_))
  match r, hq' with
  | .error er, fin => exact pass0 pins σ _ _ er s' I2 fin
  | .ok (.ret u), fin =>
    obtain ⟨v, H', J, rv, ev, qq⟩ := I2.after fin
    subst ev
    exact ⟨rv, ⟨V.ref (hp.objs.size + 1), H', J, rfl, qq⟩⟩
  | .ok .next, fin => exact fin.elim
  | .ok .brk, fin => exact fin.elim
  | .ok .cont, fin => exact fin.elim
def tExK (C : Addr) (fld : Str) (t : TA) : TE := tExV C fld t
theorem pe_exK {kws : List Keyword} {tk : TA} (F : CEv X.prog X.w X.K X.mg X.base C k x fld) (hr : Room (k + 1) X.A) (hg : Gl X x) (hkw : PK X kws tk)
    (hall : (backToKw pos (keywordEach kws X.env)).all (·.1.isSome) = true := by rfl) (hks : (backToKw pos (keywordEach kws X.env)).filterMap (·.1) = [fld] := by rfl)
    (hdb : (x == ("__debug__" : Str)) = false := by decide) (hpl : ((backTo pos (starEach [] X.env)).any (·.1) || (backToKw pos (keywordEach kws X.env)).any (·.1.isNone)) = false := by rfl) :
    PE X (.Call (.Name x p) [] kws pos) (tExK C fld tk) := by
  obtain ⟨fI, fd, F1, T, iC, tI, _, hm, hb⟩ := F.ex
  obtain ⟨nm, q, N, bs, bm, sn, sub, ab, col, dd, k0, k1, k2, k3, k5, hC, hbm⟩ := T.cls
  refine ⟨fun pins s σ H Q I h => ?_⟩
  refine wpAny_Call_Name_kw (ld_glob I hg hm ?_ hdb)
  refine PySem.W.callWith_KW0 (h₀ := X.base) I.ok.mod.kin T.kC hall (thn (hkw.run pos pins s σ H _ I h) fun us s1 ⟨vs, H1, I1, r1, y, hv, q1⟩ => ⟨I1.kIn, ?_⟩) hpl
  subst hv
  rw [hks]
  obtain ⟨u, rfl, ry⟩ : ∃ u, us = [u] ∧ RelV y u := by
    cases r1 with
    | cons r1 r =>
      cases r
      exact ⟨_, rfl, r1⟩
  show wpAny _ _ (call (.ref C) [] [(fld, u)]) _ _ _
  obtain ⟨hp, g, dr, tk, os⟩ := s1
  have hsz : hp.objs.size ≤ hp.objs.size + 1 := Nat.le_succ _
  have hn : H1 (hp.objs.size + 1) = none := I1.hok.fresh hsz
  have hq : spSup C fld [.ref (hp.objs.size + 1), y] (upd H1 (hp.objs.size + 1) (exo (hp.objs.size + 1) C none)) (fun v H2 => v = .non ∧ Q (.ref (hp.objs.size + 1)) H2) (fun _ _ _ => False) := sp_exv hn (fun dx hd ne => q1 _ dx hn hd ne)
  have kk : ∀ b o, hp.get? b = some o → ((hp.push (PySem.W.kdv_tup [])).push (PySem.HandSPX.excO C hp.objs.size)).get? b = some o := fun b o e => Heap.get?_push_of_some _ (Heap.get?_push_of_some _ e)
  have hget : ((hp.push (PySem.W.kdv_tup [])).push (PySem.HandSPX.excO C hp.objs.size)).get? (hp.objs.size + 1) = some (PySem.HandSPX.excO C hp.objs.size) := by heap_get
  have I2 : Inv X pins σ (upd H1 (hp.objs.size + 1) (exo (hp.objs.size + 1) C none)) ⟨(hp.push (PySem.W.kdv_tup [])).push (PySem.HandSPX.excO C hp.objs.size), g, dr, tk, os⟩ :=
    I1.laid (t' := tk) (a := hp.objs.size + 1) (o := exo (hp.objs.size + 1) C none) (h' := (hp.push (PySem.W.kdv_tup [])).push (PySem.HandSPX.excO C hp.objs.size)) kk hsz (exo_ok hget)
  have r2 : Vals [V.ref (hp.objs.size + 1), y] [Value.ref (hp.objs.size + 1), u] := .cons rfl (.cons ry .nil)
  refine wpAny_call (EXV.call_kw PySem.F.excBase_ValueError (fun Y => PySem.HandSPX.refsVE_contains Y bm hbm) (I1.kIn _ _ hC) (PySem.W.looks_findIn I1.kIn iC) (fun self => PySem.W.bind_fn I1.kIn self tI)
    (codeAny_mono (F1.run _ X.stack _ _ ⟨[Value.ref (hp.objs.size + 1)], [(fld, u)]⟩ [Value.ref (hp.objs.size + 1), u] _ _ (fun _ _ _ => False) (hr.make C [] [(fld, u)]) (I2.env0.make C [] [(fld, u)]) (hb _ _ _) r2 hq) fun r s' hq' => ?_))
  match r, hq' with
  | .error er, fin => exact pass0 pins σ _ _ er s' I2 fin
  | .ok (.ret u), fin =>
    obtain ⟨v, H', J, rv, ev, qq⟩ := I2.after fin
    subst ev
    exact ⟨rv, ⟨V.ref (hp.objs.size + 1), H', J, rfl, qq⟩⟩
  | .ok .next, fin => exact fin.elim
  | .ok .brk, fin => exact fin.elim
  | .ok .cont, fin => exact fin.elim
end
/-! ### what an error is and what it holds, however it came to be held -/
/-- an error of class D with the fields fs: made as a value or caught -/
inductive ErAt (H : Hp) (a D : Addr) : List (Str × V) → Prop where
  | own {dx : Addr} {fs : List (Str × V)} (h : H a = some (exo a D (some dx))) (hd : H dx = some (exd dx fs)) : ErAt H a D fs
  | bare (h : H a = some (ExO (.ref D) a)) : ErAt H a D []
  | cgt {dx : Addr} {fs : List (Str × V)} (h : H a = some (ErO (.ref D) (some dx) a)) (hd : H dx = some (.xd fs)) : ErAt H a D fs
  | cgt0 (h : H a = some (ErO (.ref D) none a)) : ErAt H a D []
theorem ErAt.same {H H' : Hp} {a D : Addr} {fs : List (Str × V)} (h : ErAt H a D fs) (s : Same H H') : ErAt H' a D fs := by
  cases h with
  | own h hd => exact .own (s _ _ h) (s _ _ hd)
  | bare h => exact .bare (s _ _ h)
  | cgt h hd => exact .cgt (s _ _ h) (s _ _ hd)
  | cgt0 h => exact .cgt0 (s _ _ h)
theorem ErAt.inst {X : Cx} {pins : List (Addr × Obj)} {σ : L2.St} {H : Hp} {s : Shared} {a D : Addr} {fs : List (Str × V)} (I : Inv X pins σ H s) (h : ErAt H a D fs) : ∃ (oe : Obj) (od : Option Obj), PySem.W.InstAt s.heap a oe D od ∧ ∀ (n : Str) (v : V), fs.lookup n = some v → ∃ o u, od = some o ∧ RelV v u ∧ PySem.W.lookIn n o = some (some u) := by
  cases h with
  | own h hd =>
    obtain ⟨t1, hx⟩ := exo_at I.hok h
    obtain ⟨⟨mA, hns, hr⟩, _⟩ := I.hok _ _ hd
    obtain ⟨od, ho, hl⟩ := lookIn_ns hns
    refine ⟨_, some od, ⟨hx, rfl, rfl, ho⟩, fun n v l => ?_⟩
    obtain ⟨u, hu, ru⟩ := RelO.some_of (v := v) (o := mA n) (by rw [← l]; exact hr n)
    exact ⟨od, u, rfl, ru, (hl n).trans (by rw [hu])⟩
  | bare h =>
    obtain ⟨⟨oe, vs, e, z, f, _⟩, _⟩ := I.hok a _ h
    exact ⟨oe, none, ⟨e, z.1, by unfold PySem.W.notCls; rw [f], by rw [z.2]; trivial⟩, fun n v l => by cases l⟩
  | cgt h hd =>
    obtain ⟨oe, od, J, look⟩ := er_atD I h hd
    refine ⟨oe, some od, J, fun n v l => ?_⟩
    obtain ⟨u, ru, hu⟩ := look n v l
    exact ⟨od, u, rfl, ru, hu⟩
  | cgt0 h =>
    obtain ⟨⟨oe, vs, e, z, f⟩, _⟩ := I.hok a _ h
    exact ⟨oe, none, ⟨e, z.1, by unfold PySem.W.notCls; rw [f], by rw [z.2]; trivial⟩, fun n v l => by cases l⟩
def rIsEa (K : PySem.W.Frag) : List V → Hp → VK → Prop := fun xs H Q => ∃ (a D : Addr) (fs : List (Str × V)) (c : V) (cv : Value) (b : Bool), xs = [.ref a, c] ∧ ExcC K D ∧ ErAt H a D fs ∧ (∀ u, RelV c u → u = cv) ∧ PySem.W.kitOne K (.ref D) cv = some b ∧ Q (.bl b) H
theorem kk_isEa (K : PySem.W.Frag) {X : Cx} (hK : X.K = K := by rfl) : CallR X (.builtin "isinstance") (rIsEa K) := by
  subst hK
  intro pins s σ H xs us Q I r h
  obtain ⟨a, D, fs, c, cv, b, rfl, C, ha, hcv, e, q⟩ := h
  cases r with
  | cons rx rr =>
    cases rr with
    | cons rt rr =>
      cases rr
      cases rx
      have ec := hcv _ rt
      subst ec
      obtain ⟨oe, od, J, _⟩ := ha.inst I
      have hcl : (PySem.W.clsIn X.K D).isSome = true := by
        have z := C.hd
        unfold PySem.W.hasDictIn at z
        cases hc : PySem.W.clsIn X.K D with
        | none => rw [hc] at z; cases z
        | some cd => rfl
      cases od with
      | some od => exact PySem.W.kia_one (PySem.W.kitx_exc hcl C.hg C.hk C.hs C.ha C.hn C.ht C.hm) I.kIn J e (fun z => nomatch z) fun tk => ⟨.bl b, H, I.kept (t' := tk) fun _ _ z => z, rfl, q⟩
      | none => exact PySem.W.kia_one (PySem.W.handS_kitx_exc C.hg C.hk C.hs C.hd C.ha C.hn C.ht C.hm) I.kIn J e (fun z => nomatch z) fun tk => ⟨.bl b, H, I.kept (t' := tk) fun _ _ z => z, rfl, q⟩
def tErG (C : Addr) (n : Str) (te : TE) : TE := fun σ H Q => te σ H fun x H1 => ∃ (a : Addr) (fs : List (Str × V)) (v : V), x = .ref a ∧ ErAt H1 a C fs ∧ fs.lookup n = some v ∧ Q v H1
theorem pe_erG {X : Cx} {C : Addr} {e : Expr} {te : TE} {pos : Pos} {n : Str} (T : XfC X.K C) (hno : PySem.W.findIn X.K (.ref C) n = some none) (he : PE X e te) (hb : attributeBase e n X.env (eval e X.env) = eval e X.env := by rfl) : PE X (.Attribute e n pos) (tErG C n te) := by
  constructor
  intro pins s σ H Q I h
  refine attr_of hb (thn (he.run pins s σ H _ I h) fun u s1 hh => ?_)
  obtain ⟨x, H1, I1, rx, a, fs, v, rfl, ha, l, q⟩ := hh
  cases (show u = Value.ref a from rx)
  obtain ⟨oe, od, J, look⟩ := ha.inst I1
  obtain ⟨o, w, rfl, rw', hw⟩ := look n v l
  exact HandSPX.exc_get I1.kIn J T.ga T.gg T.exC (PySem.W.findObj_own T.hdC hno rfl hw) (handed_of rw') ⟨v, H1, I1.tok _, rw', q⟩
/-! ### cls(**d) that may raise; the two errors of a rule -/
namespace KWX
open PySem PySem.Spec PyProof.Rows L2 KWS
def tMakeSx (C : Addr) (sp : Sp) (req opts : List Str) (dvs : List V) (W : WX) (te : TE) : TE := fun σ H Q => tMakeS C sp req opts dvs (WE W σ) te σ H Q
section
variable {X : Cx} {CX : CXT} {k : Nat} {C : Addr} {x me : Str} {req opts : List Str} {dvs : List V} {sp : Sp} {E : XK} {p pos kpos : Pos} {e : Expr} {te : TE}
theorem pe_mkSx {W : WX} (M : KWS.CMkS (L2.CX X.prog X.w) X.prog X.w X.K X.mg X.base C k x me req opts dvs sp) (hr : Room (k + 1) X.A) (tk : Takes X W) (hg : Gl X x) (he : PE X e te) (hdb : (x == ("__debug__" : Str)) = false := by decide) :
    PE X (.Call (.Name x p) [] [⟨none, e, kpos⟩] pos) (tMakeSx C sp req opts dvs W te) := by
  obtain ⟨f, fd, its, F, Mk, hm, rd, hdl, hb⟩ := M.ex
  refine ⟨fun pins s σ H Q I h => ?_⟩
  refine wpAny_Call_Name_kw (ld_glob I hg hm ?_ hdb)
  have hkk : backToKw pos (keywordEach [⟨none, e, kpos⟩] X.env) = [(none, (do let v ← eval e X.env; standAt pos; pure v))] := by rfl
  have hss : backTo pos (starEach [] X.env) = [] := by rfl
  rw [hkk, hss]
  refine callWith_D Mk.kp (merged_one ?_)
  have hd0 : H s.heap.objs.size = none := I.hok.fresh (Nat.le_refl _)
  have big : (s.heap.objs.size == sysModules) = false := beq_eq_false_iff_ne.mpr (Nat.ne_of_gt I.big)
  have I0 := I.laid (a := s.heap.objs.size) (o := .dK []) (h' := s.heap.push { cls := .type "dict", data := .dict #[] }) (t' := s.toks) (fun b u q => Heap.get?_push_of_some _ q) (Nat.le_refl _) (dk_new (Nat.zero_le _) big .nil (Heap.DictOf.new s.heap))
  refine wpAny_bind (thn (he.run pins _ σ _ _ I0 (h _ hd0)) fun v s1 hv => wpAny_bind (wpAny_standAt (wpAny_pure ?_)))
  obtain ⟨y, H1, I1, ry, a, nvs, rfl, nad, hd1, ha, nd, sub, hreq, q⟩ := hv
  cases (show v = Value.ref a from ry)
  obtain ⟨_, _, vs0, r0, D0⟩ := dk_of I1.hok hd1
  cases r0
  obtain ⟨z, nsys, vs, rel, D1⟩ := dk_of I1.hok ha
  refine ⟨a, vs, rfl, nad.symm, nsys, D0, D1, by rw [← rel.length]; exact z, fun h' d1 d2 sb => ?_⟩
  have hex : ∃ q, h'.get? s.heap.objs.size = some q := let ⟨q, _, _, hq, _⟩ := d1; ⟨q, hq⟩
  have I2 := d_write (t' := s1.toks) I1 (by rw [hd1]; exact True.intro) sb hex (dk_new z big rel d1)
  have q2 := q
  obtain ⟨ws, rfl, hwl, hv⟩ := kv_split rel
  refine kws_in d1 ⟨I2.kIn, ?_⟩
  generalize upd H1 s.heap.objs.size (.dK (nvs.map fun p => (Sum.inr p.1, p.2))) = H2 at *
  generalize hs2 : ({ s1 with heap := h', toks := s1.toks } : Shared) = s2 at I2
  have hq := q (s2.heap.objs.size + 1) s2.heap.objs.size (I2.hok.fresh (Nat.le_succ _)) (I2.hok.fresh (Nat.le_refl _)) (Nat.ne_of_lt (Nat.lt_succ_self _))
  have I3 := Inv.made (C := C) I2
  have r2 : Vals (V.ref (s2.heap.objs.size + 1) :: vsK req opts dvs nvs) (Value.ref (s2.heap.objs.size + 1) :: ((req.map fun k => (((nvs.map (·.1)).zip ws).lookup k).getD .none) ++ (opts.zip its).map fun p => (((nvs.map (·.1)).zip ws).lookup p.1).getD p.2)) := .cons rfl (vs_rel hv rd)
  refine wpAny_call (make_map (f := f) I2.kIn Mk.makes Mk.init (beq_iff_eq.mp Mk.fn) (codeAny_mono (F.run _ X.stack _ _ ⟨[Value.ref (s2.heap.objs.size + 1)], (nvs.map (·.1)).zip ws⟩ _ _ _ (WE W σ) (hr.make C [] ((nvs.map (·.1)).zip ws))
    (I3.env0.make C [] ((nvs.map (·.1)).zip ws)) (hb _ _ _ _ I3.kIn nd sub hreq hwl) r2 hq) fun r s' hq' => ?_))
  cases r with
  | error e => exact passAt tk σ pins _ _ e s' I3 hq'
  | ok fl =>
    cases fl with
    | ret u =>
      obtain ⟨v, H', I4, rv, ev, q3⟩ := I3.after hq'
      subst ev
      exact ⟨rv, ⟨V.ref (s2.heap.objs.size + 1), H', I4, rfl, q3⟩⟩
    | next => exact False.elim hq'
    | brk => exact False.elim hq'
    | cont => exact False.elim hq'
end
end KWX
structure CB2 where
  b : Addr
  c : Addr
structure TB2 (K : PySem.W.Frag) (mg : Str → Option Value) (C : CB2) : Prop where
  gb : mg "BadRule" = some (.ref C.b)
  gc : mg "BadClause" = some (.ref C.c)
  xb : PySem.W.exmOne K (.ref C.b) (.ref C.b) = some true
  xc : PySem.W.exmOne K (.ref C.c) (.ref C.c) = some true
/-! ### len(set(l)), l a list of numbers -/
section
variable {X : Cx}
theorem zero_iff {L ns : List Int} (_ : L.Nodup) (h : ∀ j, j ∈ L ↔ j ∈ ns) : L.length = 0 ↔ ns = [] := by
  rw [List.length_eq_zero_iff]
  constructor
  · rintro rfl
    exact List.eq_nil_iff_forall_not_mem.mpr fun j hj => (nomatch (h j).mpr hj)
  · rintro rfl
    exact List.eq_nil_iff_forall_not_mem.mpr fun j hj => (nomatch (h j).mp hj)
def tLenSetL (K : PySem.W.Frag) (ta : TE) : TE := fun σ H Q => ta σ H fun x H1 => ∃ (l : Addr) (ns : List Int), x = .ref l ∧ SqL K H1 l (ns.map V.int) ∧ ns.length < 4000 ∧ ∀ c : Nat, (c = 1 ↔ ∃ k, ∀ j, j ∈ ns ↔ j = k) → (c = 0 ↔ ns = []) → Q (.int c) H1
theorem pe_lenSetL {a : Expr} {ta : TE} {p p2 q pos : Pos} (hg : Gl X "len") (hm : X.mg "len" = none) (hg2 : Gl X "set") (hm2 : X.mg "set" = none) (ha : PE X a ta) (hc : X.calm = true := by rfl)
    (na : starEach [a] X.env = (false, eval a X.env) :: starEach [] X.env := by rfl) : PE X (.Call (.Name "len" p) [.Call (.Name "set" p2) [a] [] q] [] pos) (tLenSetL X.K ta) := by
  refine ⟨fun pins s σ H Q I h => ?_⟩
  refine Call_ (ld_blt I hg hm boot_len ?_)
  refine PyProof.Rows.callWith_builtin1 (PyProof.Rows.args_cons ?_ rfl) rfl rfl
  refine Call_ (ld_blt I hg2 hm2 boot_set ?_)
  refine PyProof.Rows.callWith_type1 (PyProof.Rows.args_cons (thn (ha.run pins s σ H _ I h) fun v s1 ⟨x, H1, I1, r1, q1⟩ => PyProof.Rows.args_nil ?_) na) na rfl
  obtain ⟨l, ns, rfl, hq, hl, q1⟩ := q1
  cases r1
  obtain ⟨its, r, pl, hz⟩ := I1.list hq
  refine set_of_list (I1.ok.hd hc) pl.isList (by simpa using intsAre_of r) (by unfold scanBound; omega) fun h' tk c hS hcn hk => ?_
  refine PyProof.Rows.args_nil ?_
  obtain ⟨o, es, ep, t, ho, hex, hd, _, nd, hmem, _, hf, hn, _⟩ := hS
  have I2 : Inv X pins σ H1 { s1 with heap := h', toks := tk } := I1.kept fun b o e => hk b o e
  have e1 := one_iff nd
  rw [List.length_map, Array.length_toList, hn] at e1
  refine call_len_set ho hex hd hf (by rw [hn]; omega) ⟨.int c, H1, I2.tok _, ⟨_, by rw [hn]⟩, q1 c (e1.trans ?_) ?_⟩
  · constructor
    · rintro ⟨k, hk⟩
      exact ⟨k, fun j => by rw [← hk j, ← hmem j, decide_eq_true_eq]⟩
    · rintro ⟨k, hk⟩
      exact ⟨k, fun j => by rw [← hk j, ← hmem j, decide_eq_true_eq]⟩
  · have e0 := zero_iff (ns := ns) nd (fun j => by rw [← hmem j, decide_eq_true_eq])
    rw [List.length_map, Array.length_toList, hn] at e0
    exact e0
end
/-- a small thing -/
structure Sm (k B : Nat) (d : PyData) : Prop where
  sh : d.showable = true
  di : d.hasDict = false
  de : d.depth ≤ k
  le : d.shown.length ≤ B
theorem Sm.mono {k m B C : Nat} {d : PyData} (h : Sm k B d) (l : k ≤ m) (r : B ≤ C) : Sm m C d := ⟨h.sh, h.di, Nat.le_trans h.de l, Nat.le_trans h.le r⟩
theorem sm_int {i : Int} (h0 : -1000002 ≤ i) (h1 : i ≤ 1000002) : Sm 1 11 (.int i) := by
  refine ⟨?_, rfl, by simp [PyData.depth], ?_⟩
  · have : i.natAbs.log2 < 1920 := by
      by_cases z : i.natAbs = 0
      · rw [z]
        decide
      · have : i.natAbs.log2 < 30 := (Nat.log2_lt z).mpr (by show i.natAbs < 1073741824; omega)
        omega
    simp [PyData.showable, this]
  · have e1 : PyData.shown (.int i) = Str.ofString (toString i) := by simp only [PyData.shown]
    rw [e1]
    by_cases c : 0 ≤ i
    · exact Nat.le_trans (PyProof.Rows.toString_length_le (v := i) c (k := 10) (by decide) (by show i < 10000000000; omega)) (by decide)
    · have a := PyProof.Rows.len_text_negI (n := i) (by omega)
      have b := PyProof.Rows.toString_length_le (v := 0 - i) (by omega) (k := 10) (by decide) (by show 0 - i < 10000000000; omega)
      omega
theorem join_len (sep : Str) : ∀ ts : List Str, (Str.join sep ts).length ≤ (ts.map (·.length)).sum + ts.length * sep.length
  | [] => Nat.zero_le _
  | [x] => by
    show x.length ≤ _
    simp only [List.map_cons, List.map_nil, List.sum_cons, List.sum_nil]
    omega
  | x :: y :: r => by
    have h := join_len sep (y :: r)
    show (x ++ sep ++ Str.join sep (y :: r)).length ≤ _
    rw [len_app, len_app, List.map_cons, List.sum_cons, List.length_cons, Nat.add_mul, Nat.one_mul]
    omega
theorem all_len {B : Nat} : ∀ {l : List PyData}, (∀ d ∈ l, (PyData.shown d).length ≤ B) → ((PyData.shownAll l).map (·.length)).sum ≤ B * l.length ∧ (PyData.shownAll l).length = l.length
  | [], _ => ⟨Nat.le_refl _, rfl⟩
  | d :: r, h => by
    obtain ⟨a, b⟩ := all_len (l := r) fun x hx => h x (List.mem_cons_of_mem _ hx)
    have c := h d List.mem_cons_self
    rw [PyData.shownAll_cons, List.map_cons, List.sum_cons, List.length_cons, List.length_cons, b, Nat.mul_add]
    exact ⟨by omega, rfl⟩
theorem all_seen {k : Nat} : ∀ {l : List PyData}, (∀ d ∈ l, d.showable = true ∧ d.hasDict = false ∧ d.depth ≤ k) → PyData.showableAll l = true ∧ PyData.hasDictAll l = false ∧ PyData.depthAll l ≤ k
  | [], _ => by simp [PyData.showableAll, PyData.hasDictAll, PyData.depthAll]
  | d :: r, h => by
    obtain ⟨a, b, c⟩ := h d List.mem_cons_self
    obtain ⟨a2, b2, c2⟩ := all_seen (l := r) fun x hx => h x (List.mem_cons_of_mem _ hx)
    simp only [PyData.showableAll, PyData.hasDictAll, PyData.depthAll, a, b, a2, b2, Bool.and_self, Bool.or_self]
    exact ⟨trivial, trivial, by omega⟩
theorem sm_seq {k B : Nat} {l : List PyData} (h : ∀ d ∈ l, Sm k B d) (hl : l.length ≤ 9) : Sm (k + 1) (B * 9 + 21) (.list l) ∧ Sm (k + 1) (B * 9 + 21) (.tuple l) := by
  obtain ⟨a, b, c⟩ := all_seen (k := k) fun d hd => ⟨(h d hd).sh, (h d hd).di, (h d hd).de⟩
  obtain ⟨u, v⟩ := all_len (B := B) fun d hd => (h d hd).le
  have w := join_len ", " (PyData.shownAll l)
  have e3 : (Str.ofString ", ").length = 2 := rfl
  rw [v, e3] at w
  have e1 : (Str.ofString "[").length = 1 := rfl
  have e2 : (Str.ofString "]").length = 1 := rfl
  have u2 : B * l.length ≤ B * 9 := Nat.mul_le_mul_left B hl
  refine ⟨⟨by simp [PyData.showable, a], by simp [PyData.hasDict, b], by simp only [PyData.depth]; omega, ?_⟩, ⟨by simp [PyData.showable, a], by simp [PyData.hasDict, b], by simp only [PyData.depth]; omega, ?_⟩⟩
  · rw [PyData.shown_list, len_app, len_app, e1, e2]
    omega
  · have e4 : (Str.ofString (if (l.length == 1) = true then ",)" else ")")).length ≤ 2 := by split <;> decide +kernel
    have e5 : (Str.ofString "(").length = 1 := rfl
    rw [PyData.shown_tuple, len_app, len_app, e5]
    omega
theorem sm_ints {ns : List Int} (h : ∀ n ∈ ns, -1000002 ≤ n ∧ n ≤ 1000002) (hl : ns.length ≤ 9) : Sm 2 120 (.list (ns.map PyData.int)) ∧ Sm 2 120 (.tuple (ns.map PyData.int)) := by
  refine sm_seq (k := 1) (B := 11) (fun d hd => ?_) (by rw [List.length_map]; exact hl)
  obtain ⟨n, hn, rfl⟩ := List.mem_map.mp hd
  exact sm_int (h n hn).1 (h n hn).2
/-! ### a block that makes a thing of each item; data beside their addresses -/
def JOkN (H : Hp) (J : It) (xs : List V) : Prop := ∀ i G, Same H G → (i < xs.length → J.go i G) ∧ (i = xs.length → J.stop i G) ∧ ∀ x G', i < xs.length → J.yld i G x G' → G' = G ∧ xs[i]? = some x
theorem JOk.n {H : Hp} {J : It} {xs : List V} (h : JOk H J xs) : JOkN H J xs := fun i G s => ⟨(h i G s).1, (h i G s).2.1, fun x G' _ y => (h i G s).2.2 x G' y⟩
section
variable {H : Hp} {xs : List V} {J : It} {g : TG} {tt : TT} {te : TE} {vs : List Nat} {σ : L2.St} {D : Addr} {Qd : Hp → Prop}
theorem acc_lc (P : Nat → Hp → V → Prop) (ok : JOkN H J xs) (small : xs.length ≤ 1000) (hD : H D = none)
    (turn : ∀ i x, xs[i]? = some x → ∀ G acc, Same H G → G D = some (.lst acc) → ∀ (Y : VK) (N : Hp → Prop), (∀ G' v, Same G G' → (∀ G2, But D G' G2 → P i G2 v) → Y v G') → g x (wipe σ vs) G fun σ2 H2 => wipe σ2 vs = wipe σ vs ∧ tt σ2 H2 fun b H3 => if b = true then te σ2 H3 Y else N H3)
    (last : ∀ G ws, Same H G → G D = some (.lst ws) → ws.length = xs.length → (∀ i v, ws[i]? = some v → P i G v) → Qd G) :
    ∃ W : Nat → Nat → Hp → Prop, (∃ m, W 0 m (upd H D (.lst []))) ∧ ∀ i m H, W i m H → (J.stop i H ∧ Qd H) ∨ (J.go i H ∧ ∃ Nx : Hp → Prop, (∀ H', Nx H' → ∃ m', m' < m ∧ W (i + 1) m' H') ∧ ∀ x H', J.yld i H x H' → g x (wipe σ vs) H' fun σ2 H2 => wipe σ2 vs = wipe σ vs ∧ tt σ2 H2 fun b H3 =>
      if b = true then te σ2 H3 fun y H4 => ∃ acc, H4 D = some (.lst acc) ∧ acc.length < sizeLine ∧ Nx (upd H4 D (.lst (acc ++ [y]))) else Nx H3) := by
  refine lc_gen (n := xs.length) (fun i G => Same H G ∧ ∃ ws : List V, G D = some (.lst ws) ∧ ws.length = i ∧ ∀ j v, ws[j]? = some v → ∀ G2, But D G G2 → P j G2 v) ⟨same_new hD, [], upd_same, rfl, fun j v h => (nomatch h)⟩ (fun i G h => ⟨(ok i G h.1).1, (ok i G h.1).2.1⟩) (fun i G v G' hi h y => ?_) (fun G h => ?_)
  · obtain ⟨s, ws, e, hl, hw⟩ := h
    obtain ⟨rfl, hx⟩ := (ok i G s).2.2 v G' hi y
    refine turn i v hx G' ws s e _ _ fun G2 y s2 hy => ⟨ws, s2 _ _ e, ?_, fun c o ec => ?_, ws ++ [y], upd_same, ?_, fun j v hj G3 t => ?_⟩
    · rw [hl]
      exact small1000 (by omega)
    · rw [upd_ne (ne_of_none ec hD)]
      exact s2 _ _ (s _ _ ec)
    · rw [List.length_append, hl]
      rfl
    · have t1 : But D G2 (upd G2 D (.lst (ws ++ [y]))) := fun a o ne ea => by
        rw [upd_ne ne]
        exact ea
      have t2 : But D G2 G3 := fun a o ne ea => t a o ne (t1 a o ne ea)
      rcases Nat.lt_or_ge j ws.length with z | z
      · rw [List.getElem?_append_left z] at hj
        exact hw j v hj G3 fun a o ne ea => t2 a o ne (s2 _ _ ea)
      · rw [List.getElem?_append_right z] at hj
        have z2 : j - ws.length = 0 := by
          have := (List.getElem?_eq_some_iff.mp hj).1
          have h1 : ([y] : List V).length = 1 := rfl
          omega
        rw [z2] at hj
        have e1 : v = y := (Option.some.inj hj).symm
        have e2 : j = i := by omega
        rw [e1, e2]
        exact hy G3 t2
  · obtain ⟨s, ws, e, hl, hw⟩ := h
    exact last G ws s e hl fun i v hi => hw i v hi G fun a o _ ea => ea
end
theorem jok_r {H : Hp} {n : Nat} : JOkN H (Itr 0 n) ((List.range n).map fun (i : Nat) => V.int (i : Int)) := fun i G _ => by
  rw [List.length_map, List.length_range]
  refine ⟨fun c => c, fun c => by show n ≤ i; omega, fun x G' hi y => ?_⟩
  obtain ⟨e1, e2⟩ := y
  refine ⟨e1, ?_⟩
  rw [e2, List.getElem?_map, List.getElem?_range hi, Int.zero_add]
  rfl
theorem dpAll_of {K : PySem.W.Frag} {G : Hp} : ∀ {ws : List V} {ds : List PyData}, ws.length = ds.length → (∀ (i : Nat) (v : V) (d : PyData), ws[i]? = some v → ds[i]? = some d → Dp K G v d) → DpAll K G ws ds
  | [], [], _, _ => .nil
  | [], _ :: _, h, _ => by cases h
  | _ :: _, [], h, _ => by cases h
  | w :: ws, d :: ds, h, f => .cons (f 0 w d rfl rfl) (dpAll_of (Nat.succ.inj h) fun i v e h1 h2 => f (i + 1) v e h1 h2)
/-! ### a dict at the module's top: texts, and tuples of texts that stand under them -/
/-- one entry: its key, the tuple that stands there -/
structure KRow (w : World) (K : PySem.W.Frag) (e : DictEntry) (r : Str × List Str) : Prop where
  ha : e.hash = hashStr w r.1
  ke : ∃ t, e.key = .str r.1 t
  va : ∃ a, e.val = .ref a ∧ ∃ (o : Obj) (its : Array Value) (n : Nat), K.lookup a = some o ∧ o.cls = .type "tuple" ∧ o.data = .seq its n ∧ its.size ≤ sizeLine ∧ Vals (r.2.map V.str) its.toList
inductive KRows (w : World) (K : PySem.W.Frag) : List DictEntry → List (Str × List Str) → Prop
  | nil : KRows w K [] []
  | cons {e : DictEntry} {r : Str × List Str} {es : List DictEntry} {rs : List (Str × List Str)} : KRow w K e r → KRows w K es rs → KRows w K (e :: es) (r :: rs)
structure KTab (w : World) (K : PySem.W.Frag) (a : Addr) (tab : List (Str × List Str)) : Prop where
  ns : (a == sysModules) = false
  ob : ∃ (o : Obj) (es : Array DictEntry) (ep : Nat), K.lookup a = some o ∧ o.ExactDict ∧ o.data = .dict es ep ∧ KRows w K es.toList tab
  nd : (tab.map (·.1)).Nodup
/-- what stands under the text k -/
def KUnder (K : PySem.W.Frag) (vs : List (Key × Value)) (tab : List (Str × List Str)) (k : Str) : Prop :=
  (tab.lookup k = none ∧ valueAt vs (Sum.inr k) = none) ∨ ∃ ss t, tab.lookup k = some ss ∧ valueAt vs (Sum.inr k) = some (.ref t) ∧ ∀ H, SqT K H t (ss.map V.str)
theorem KRows.made {P : Program} {w : World} {K : PySem.W.Frag} : ∀ {es : List DictEntry} {tab : List (Str × List Str)}, KRows w K es tab → ∃ vs : List (Key × Value), (∀ e ∈ es, ∃ k, (mixKind P w).is k e.key = true ∧ e.hash = (mixKind P w).hash k) ∧ Pairs (mixKind P w) es vs ∧ vs.map (·.1) = tab.map (fun r => (Sum.inr r.1 : Key)) ∧ ∀ k, KUnder K vs tab k
  | _, _, .nil => ⟨[], fun e h => (nomatch h), .nil, rfl, fun k => .inl ⟨rfl, rfl⟩⟩
  | e :: es, r :: tab, .cons h t => by
    obtain ⟨vs, a1, a2, a3, a4⟩ := KRows.made (P := P) t
    obtain ⟨tk, ek⟩ := h.ke
    obtain ⟨a, ea, o, its, n, k1, k2, k3, k4, k5⟩ := h.va
    have is1 : (mixKind P w).is (Sum.inr r.1) e.key = true := by
      rw [ek]
      exact mixKind_str P w r.1 tk
    refine ⟨(Sum.inr r.1, e.val) :: vs, fun x hx => ?_, .cons is1 rfl a2, by rw [List.map_cons, List.map_cons, a3], fun k => ?_⟩
    · rcases List.mem_cons.mp hx with z | z
      · rw [z]
        exact ⟨Sum.inr r.1, is1, h.ha⟩
      · exact a1 x z
    · by_cases c : r.1 = k
      · refine .inr ⟨r.2, a, ?_, ?_, fun H => .inr ⟨o, its, n, k1, k2, k3, k4, k5⟩⟩
        · rw [List.lookup_cons, c, beq_self_eq_true]
        · unfold valueAt
          rw [List.find?_cons, decide_eq_true (show (Sum.inr r.1 : Key) = Sum.inr k by rw [c])]
          show some e.val = _
          rw [ea]
      · have e1 : ((r.1, r.2) :: tab).lookup k = tab.lookup k := by
          rw [List.lookup_cons, beq_eq_false_iff_ne.mpr (fun z => c z.symm)]
        have e2 : valueAt ((Sum.inr r.1, e.val) :: vs) (Sum.inr k : Key) = valueAt vs (Sum.inr k) := by
          unfold valueAt
          rw [List.find?_cons, decide_eq_false (show ¬ (Sum.inr r.1 : Key) = Sum.inr k from fun z => c (Sum.inr.inj z))]
        unfold KUnder
        rw [show (r :: tab).lookup k = tab.lookup k from e1, e2]
        exact a4 k
theorem nodup_inr : ∀ {tab : List (Str × List Str)}, (tab.map (·.1)).Nodup → (tab.map fun r => (Sum.inr r.1 : Key)).Nodup
  | [], _ => List.nodup_nil
  | r :: tab, h => by
    rw [List.map_cons, List.nodup_cons] at h ⊢
    refine ⟨fun z => h.1 ?_, nodup_inr h.2⟩
    obtain ⟨q, hq, e⟩ := List.mem_map.mp z
    exact List.mem_map.mpr ⟨q, hq, Sum.inr.inj e⟩
section
variable {X : Cx} {o i : Expr} {pos : Pos} {ty : TE} {a : Addr} {tab : List (Str × List Str)}
theorem KTab.dict {pins : List (Addr × Obj)} {σ : L2.St} {H : Hp} {s : Shared} (T : KTab X.w X.K a tab) (I : Inv X pins σ H s) : ∃ vs : List (Key × Value), s.heap.DictOf (mixKind X.prog X.w) a vs ∧ ∀ k, KUnder X.K vs tab k := by
  obtain ⟨o, es, ep, h1, h2, h3, h4⟩ := T.ob
  obtain ⟨vs, a1, a2, a3, a4⟩ := KRows.made (P := X.prog) h4
  refine ⟨vs, ⟨o, es, ep, I.kIn a o h1, h2, h3, fun e he => a1 e (by simpa using he), a2, ?_⟩, a4⟩
  rw [a3]
  exact nodup_inr T.nd
def tTGet (K : PySem.W.Frag) (tab : List (Str × List Str)) (ty : TE) : TE := fun σ H Q => ty σ H fun y H1 => ∃ k ss, y = .str k ∧ tab.lookup k = some ss ∧ ∀ t, (∀ H', SqT K H' t (ss.map V.str)) → Q (.ref t) H1
theorem pe_tget (T : KTab X.w X.K a tab) (ho : PE X o (tC (.ref a))) (hi : PE X i ty) (hs : NoSl i) : PE X (.Subscript o i pos) (tTGet X.K tab ty) := by
  refine ⟨fun pins s σ H Q I h => ?_⟩
  refine subD_of PySem.F.slot_dict_getitem.lookup hs (thn (ho.run pins s σ H (fun x H1 => x = .ref a ∧ H1 = H) I ⟨rfl, rfl⟩) fun u s1 ⟨x, H1, I1, rx, q1⟩ => ?_)
  obtain ⟨rfl, rfl⟩ := q1
  obtain rfl : u = Value.ref a := rx
  refine thn (hi.run pins s1 σ H1 _ I1 h) fun iv s2 ⟨y, H2, I2, ry, k, ss, ey, hl, q2⟩ => ?_
  subst ey
  obtain ⟨vs, dd, un⟩ := T.dict I2
  rcases un k with ⟨z, _⟩ | ⟨ss2, t, z1, z2, z3⟩
  · rw [hl] at z
    cases z
  · rw [hl] at z1
    cases z1
    exact ⟨dd.typeIs, wpAny_getItem_of (kV_is (k := Sum.inr k) ry) dd.mapOf z2 ⟨.ref t, H2, I2.tok _, rfl, q2 t z3⟩⟩
def tTIn (tab : List (Str × List Str)) (ty : TE) : TE := fun σ H Q => ty σ H fun y H1 => ∃ k, y = .str k ∧ Q (.bl (tab.lookup k).isSome) H1
def tTNotIn (tab : List (Str × List Str)) (ty : TE) : TE := fun σ H Q => ty σ H fun y H1 => ∃ k, y = .str k ∧ Q (.bl (!(tab.lookup k).isSome)) H1
theorem KUnder.isSome {K : PySem.W.Frag} {vs : List (Key × Value)} {k : Str} (h : KUnder K vs tab k) : (valueAt vs (Sum.inr k)).isSome = (tab.lookup k).isSome := by
  rcases h with ⟨a, b⟩ | ⟨ss, t, a, b, _⟩
  · rw [a, b]
    rfl
  · rw [a, b]
    rfl
theorem pc_tnotin (T : KTab X.w X.K a tab) (hi : PE X i ty) (ho : PE X o (tC (.ref a))) : PC X .NotIn i o (tTNotIn tab ty) := by
  refine ⟨fun pins s σ H Q I h => ?_⟩
  refine thn (hi.run pins s σ H _ I h) fun iv s1 ⟨y, H1, I1, ry, k, ey, q1⟩ => thn (ho.run pins s1 σ H1 (fun x H2 => x = .ref a ∧ H2 = H1) I1 ⟨rfl, rfl⟩) fun u s2 ⟨x, H2, I2, rx, q2⟩ => ?_
  obtain ⟨rfl, rfl⟩ := q2
  obtain rfl : u = Value.ref a := rx
  subst ey
  obtain ⟨vs, dd, un⟩ := T.dict I2
  refine wpAny_notIn_of (kV_is (k := Sum.inr k) ry) T.ns dd.mapOf ⟨.bl (!(tab.lookup k).isSome), H2, I2.tok _, ?_, q1⟩
  rw [(un k).isSome]
  rfl
theorem pc_tin (T : KTab X.w X.K a tab) (hi : PE X i ty) (ho : PE X o (tC (.ref a))) : PC X .In i o (tTIn tab ty) := by
  refine ⟨fun pins s σ H Q I h => ?_⟩
  refine thn (hi.run pins s σ H _ I h) fun iv s1 ⟨y, H1, I1, ry, k, ey, q1⟩ => thn (ho.run pins s1 σ H1 (fun x H2 => x = .ref a ∧ H2 = H1) I1 ⟨rfl, rfl⟩) fun u s2 ⟨x, H2, I2, rx, q2⟩ => ?_
  obtain ⟨rfl, rfl⟩ := q2
  obtain rfl : u = Value.ref a := rx
  subst ey
  obtain ⟨vs, dd, un⟩ := T.dict I2
  refine wpAny_in_of (kV_is (k := Sum.inr k) ry) T.ns dd.mapOf ⟨.bl (tab.lookup k).isSome, H2, I2.tok _, ?_, q1⟩
  rw [(un k).isSome]
  rfl
end
/-! ### len(set(xs)), xs a list of texts: as many as the list just where no two are alike -/
def CnD {α : Type} (l : List α) (c : Nat) : Prop := c ≤ l.length ∧ (c = l.length ↔ l.Nodup)
theorem cnd_nil {α : Type} : CnD ([] : List α) 0 := ⟨Nat.le_refl _, by simp⟩
theorem cnd_snoc {α : Type} [DecidableEq α] {l : List α} {c : Nat} {x : α} (h : CnD l c) : CnD (l ++ [x]) (if x ∈ l then c else c + 1) := by
  have nd : (l ++ [x]).Nodup ↔ l.Nodup ∧ x ∉ l := by
    rw [List.nodup_append]
    constructor
    · rintro ⟨a, _, b⟩
      exact ⟨a, fun m => b x m x (by simp) rfl⟩
    · rintro ⟨a, b⟩
      exact ⟨a, by simp, fun y hy z hz e => b (by rw [← List.mem_singleton.mp hz, ← e]; exact hy)⟩
  have ln : (l ++ [x]).length = l.length + 1 := by rw [List.length_append]; rfl
  obtain ⟨h1, h2⟩ := h
  by_cases m : x ∈ l
  · rw [if_pos m]
    refine ⟨by omega, ⟨fun e => by omega, fun e => absurd m (nd.mp e).2⟩⟩
  · rw [if_neg m]
    refine ⟨by omega, ⟨fun e => nd.mpr ⟨h2.mp (by omega), m⟩, fun e => ?_⟩⟩
    have := h2.mpr (nd.mp e).1
    omega
section
variable {P : Program} {w : World} {A : Around} {R : Result → Shared → Prop} {I : Addr} {fp wr : List Addr} {G : Array GenState → Array GenState → Prop} {n : Nat} {V' : Nat → Value → Prop} {St : Nat → Shared → Prop}
theorem grow_textsD (W : WalksS P w A.in1 I fp wr G n V' St) (S : Addr) (out : S ∉ fp) (xs : List Str) (many : n = xs.length) (room : xs.length + 1 < scanBound) (vals : ∀ i v, V' i v → ∃ x t, xs[i]? = some x ∧ v = .str x t) :
    ∀ (k i : Nat) (s : Shared), n - i = k → i ≤ n → St i s → (∃ c, c ≤ i ∧ CnD (xs.take i) c ∧ s.heap.SetOf (PySem.strKind P w) S (fun y => decide (y ∈ xs.take i)) c) →
      (∀ s' c, Moved (S :: wr) G s s' → CnD xs c → s'.heap.SetOf (PySem.strKind P w) S (fun y => decide (y ∈ xs)) c → R (.ok (.ret .none)) s') →
      codeAny (model P w) A (.builtin "set.update.loop" ⟨[.ref S, .ref I], []⟩) R s := by
  have outw : S ∉ wr := fun z => out (W.sub _ z)
  have wide : ∀ b ∈ wr, b ∈ S :: wr := fun b hb => List.mem_cons_of_mem _ hb
  have kept : ∀ {s s' : Shared} {T : Str → Bool} {c : Nat}, Moved wr G s s' → s.heap.SetOf (PySem.strKind P w) S T c → s'.heap.SetOf (PySem.strKind P w) S T c := fun {s s' T c} mv h => by
    obtain ⟨o, es, ep, t, ho, rest⟩ := h
    exact ⟨o, es, ep, t, mv.heap S _ outw ho, rest⟩
  intro k
  induction k with
  | zero =>
    intro i s hk hi st now fin
    obtain ⟨c, _, hc, hS⟩ := now
    have e : xs.take i = xs := List.take_of_length_le (by omega)
    rw [e] at hc hS
    refine codeAny_builtin F.entry_set_update_loop ?_
    rw [Around.under_plainId F.plain_set_update_loop _]
    show wpAny _ A.in1 (pyNext (.ref I) >>= _) _ _ s
    have ei : i = n := by omega
    subst ei
    refine wpAny_bind (W.done s _ _ st fun s' mv => ?_)
    show wpAny _ A.in1 (ret Value.none) _ _ s'
    exact wpAny_pure (fin s' c (mv.mono wide) hc (kept mv hS))
  | succ k ih =>
    intro i s hk hi st now fin
    obtain ⟨c, ci, hc, hS⟩ := now
    have lt : i < n := by omega
    refine codeAny_builtin F.entry_set_update_loop ?_
    rw [Around.under_plainId F.plain_set_update_loop _]
    show wpAny _ A.in1 (pyNext (.ref I) >>= _) _ _ s
    refine wpAny_bind (W.item i s _ _ lt st fun v s' hP st' mv => ?_)
    obtain ⟨x, t, hx, rfl⟩ := vals i v hP
    have hS2 := kept mv hS
    show wpAny _ A.in1 (holding [Value.str x t] (setAdd S (.str x t)) >>= _) _ _ s'
    refine wpAny_bind (wpAny_holding ?_)
    unfold setAdd
    refine wpAny_holding (wpAny_bind ((PySem.strKind P w).pyHash (k := x) (strKind_is _ _ _ _) ?_))
    refine wpAny_setAddHashed_of (knd := PySem.strKind P w) (s := { s' with toks := s'.toks + 1 }) (strKind_is _ _ _ _) rfl hS2 (by omega) fun h' sb hS3 => ?_
    have et : xs.take (i + 1) = xs.take i ++ [x] := by rw [List.take_add_one, hx]; rfl
    have hc3 : CnD (xs.take (i + 1)) (if decide (x ∈ xs.take i) = true then c else c + 1) := by
      rw [et]
      have := cnd_snoc (x := x) hc
      by_cases m : x ∈ xs.take i
      · rw [if_pos m] at this
        rw [if_pos (decide_eq_true m)]
        exact this
      · rw [if_neg m] at this
        rw [if_neg (by rw [decide_eq_false m]; decide)]
        exact this
    have hS4 : h'.SetOf (PySem.strKind P w) S (fun y => decide (y ∈ xs.take (i + 1))) (if decide (x ∈ xs.take i) = true then c else c + 1) := by
      refine PyProof.Rows.SetOf_congr hS3 (fun y => ?_) rfl
      rw [et]
      simp [List.mem_append, Bool.decide_or]
    refine wpAny_pure ⟨plainId_quiet F.plain_set_update_loop _, ih (i + 1) _ (by omega) lt (W.frame _ s' _ _ st' (Nat.le_succ _) fun b hb o e => ?_) ⟨_, by split <;> omega, hc3, hS4⟩ fun s2 c2 mv2 hc2 hS5 => ?_⟩
    · rw [sb.2 b (fun h : b = S => out (by rw [← h]; exact hb))]
      exact e
    · refine fin s2 c2 (Moved.trans W.gtrans ((mv.mono wide).then_heap (Nat.le_succ _) fun b o hb e => ?_) mv2) hc2 hS5
      rw [sb.2 b (fun h : b = S => hb (by rw [h]; exact List.mem_cons_self))]
      exact e
end
section
variable {P : Program} {w : World} {A : Around} {E : Value → Shared → Prop} {s : Shared}
set_option maxHeartbeats 6000000 in
theorem set_of_textsD {l : Addr} {items : Array Value} {xs : List Str} {Q : Value → Shared → Prop} (free : A.handled = none) (list : s.heap.IsList l items) (nums : PyProof.Rows.StrsAre items.toList xs) (room : xs.length + 1 < scanBound)
    (then_ : ∀ (h' : Heap) (tk c : Nat), CnD xs c → h'.SetOf (PySem.strKind P w) s.heap.objs.size (fun j => decide (j ∈ xs)) c → (∀ b o, s.heap.get? b = some o → h'.get? b = some o) → Q (.ref s.heap.objs.size) { s with heap := h', toks := tk }) :
    wpAny (model P w) A (call (.type "set") [.ref l]) Q E s := by
  have many : items.size = xs.length := by rw [← StrsAre.len_eq nums, Array.length_toList]
  obtain ⟨first, rest, mro⟩ := F.called_set.mro
  have made := F.called_set.made
  have sub := F.called_set.sub
  have notT := F.called_set.notType
  have can := F.called_set.canCreate
  have one := F.typeCall_set_1 (.ref l)
  refine wpAny_call (codeAny_of_tree ?_)
  show wpAny _ _ (callAny (.type "set") _) _ _ _
  refine wpAny_pure ⟨Code.quiet_builtin _ (by decide +kernel), codeAny_builtin F.entry_type_call ?_⟩
  rw [Around.under_plain (weight_type_call_type "set" [.ref l] []) rfl]
  repeat (any_goals (first | assumption | wp_step))
  refine codeAny_mono (code_set_led1 (.ref l) (E := E) (Q₁ := fun v s1 => v = .ref s.heap.objs.size ∧ s1 = { s with heap := s.heap.push (emptyS w) }) ⟨rfl, rfl⟩) fun r s1 hr => ?_
  match r, hr with
  | .error e, hr => exact hr
  | .ok (.ret _), ⟨e1, e2⟩ =>
    subst e1 e2
    have stands : (s.heap.push (emptyS w)).get? s.heap.objs.size = some (emptyS w) := Heap.get?_push_size _ rfl
    have typed : Shared.TypeIs { s with heap := s.heap.push (emptyS w) } (.ref s.heap.objs.size) "set" := ⟨_, stands, rfl⟩
    have look := F.called_set.init.lookup
    have bound := F.called_set.init.bind (.ref s.heap.objs.size)
    repeat (any_goals (first | assumption | wp_step))
    refine codeAny_mono (codeAny_call_builtin (R := wants (fun r s2 => r = .none ∧ ∃ h' tk c, s2 = { s with heap := h', toks := tk } ∧ CnD xs c ∧ h'.SetOf (PySem.strKind P w) s.heap.objs.size (fun j => decide (j ∈ xs)) c ∧ (∀ b o, s.heap.get? b = some o → h'.get? b = some o)) E) F.called_set.init.plain F.entry_set_init (check_set_init_1 typed ?_)) fun r2 s2 hr2 => ?_
    · obtain ⟨⟨cl, dc, dt, sl⟩, at_, ecl, nl, edt⟩ := list
      simp only at ecl edt
      subst ecl edt
      have at2 : (s.heap.push (emptyS w)).get? l = some { cls := .type "list", dict := dc, data := .seq items nl, slots := sl } := Heap.get?_push_of_some _ at_
      have n1 := F.sub_list_set
      have n2 := F.sub_list_frozenset
      have n3 : (Value.type "list" == Value.type "dict") = false := by decide
      have list2 : (s.heap.push (emptyS w)).IsList l items := ⟨_, at2, rfl, nl, rfl⟩
      unfold Builtin.«set.__init__» noKeywords Builtin.Frozenset.updateFrom
      generalize iterAs : pyIter = PI
      wp_walk
      subst iterAs
      refine wpAny_pyIter_list list2 (wpAny_bind (wpAny_runValue ?_))
      have ll : l < s.heap.objs.size := Heap.lt_size at_
      have sz : (s.heap.push (emptyS w)).objs.size = s.heap.objs.size + 1 := Heap.size_push ..
      have free3 : A.in1.in1.in1.handled = none := by simp [free]
      have unlike : l ≠ (s.heap.push (emptyS w)).objs.size := by rw [sz]; exact Nat.ne_of_lt (Nat.lt_succ_of_lt ll)
      have out : s.heap.objs.size ∉ [(s.heap.push (emptyS w)).objs.size, l] := by
        rw [sz]
        simp only [List.mem_cons, List.mem_singleton, List.not_mem_nil, or_false, not_or]
        exact ⟨Nat.ne_of_lt (Nat.lt_succ_self _), Nat.ne_of_gt ll⟩
      have vals : ∀ (i : Nat) (v : Value), items[i]? = some v → ∃ x t, xs[i]? = some x ∧ v = .str x t := fun i v hv => by
        have hi : i < xs.length := by rw [← many]; exact (Array.getElem?_eq_some_iff.mp hv).1
        obtain ⟨t, e⟩ := SS.strs_at nums i v (by rw [Array.getElem?_toList]; exact hv)
        exact ⟨xs[i], t, List.getElem?_eq_getElem hi, by rw [e, List.getD_eq_getElem?_getD, List.getElem?_eq_getElem hi] <;> rfl⟩
      have fresh : ((s.heap.push (emptyS w)).push { cls := .type "list_iterator", data := .fields #[.ref l, .int 0 0] }).SetOf (PySem.strKind P w) s.heap.objs.size (fun y => decide (y ∈ xs.take 0)) 0 :=
        PyProof.Rows.SetOf_congr ((PyProof.Rows.setObjOf_fresh (knd := PySem.strKind P w) _).setOf (Heap.get?_push_of_some _ stands) (by unfold scanBound; omega)) (fun _ => rfl) rfl
      refine grow_textsD ((Walks.list free3 _ l unlike items).toS) s.heap.objs.size out xs many room vals (items.size - 0) 0 _ (by omega) (Nat.zero_le _) ⟨⟨_, Heap.get?_push_size _ rfl, rfl, rfl⟩, (list2.push _)⟩ ⟨0, Nat.le_refl 0, cnd_nil, fresh⟩ fun s' c' mv hc' hS' => ?_
      obtain ⟨h', g2, d', tk', os'⟩ := s'
      have eg : g2 = s.gens := mv.gens
      have ed : d' = s.drawn := mv.drawn
      have eo : os' = s.os := mv.os
      subst eg ed eo
      show wpAny _ _ _ _ _ _
      refine wpAny_pure ?_
      show wpAny _ _ (ret Value.none) _ _ _
      refine wpAny_pure ⟨rfl, h', tk', c', rfl, hc', hS', fun b o e => ?_⟩
      have below : b < s.heap.objs.size := Heap.lt_size e
      refine mv.heap b o ?_ (Heap.get?_push_of_some _ (Heap.get?_push_of_some _ e))
      simp only [List.mem_cons, List.mem_singleton, List.not_mem_nil, or_false, not_or]
      exact ⟨Nat.ne_of_lt below, by rw [sz]; exact Nat.ne_of_lt (Nat.lt_succ_of_lt below)⟩
    · match r2, hr2 with
      | .error e, hr2 => exact hr2
      | .ok (.ret _), ⟨e1, h', tk, c', e2, hc', hS', hk'⟩ =>
        subst e1 e2
        repeat (any_goals (first | assumption | wp_step))
        exact then_ _ _ _ hc' hS' hk'
end
section
variable {X : Cx}
def tLenSetD (K : PySem.W.Frag) (ta : TE) : TE := fun σ H Q => ta σ H fun x H1 => ∃ (l : Addr) (xs : List Str), x = .ref l ∧ SqL K H1 l (xs.map V.str) ∧ xs.length < 4000 ∧ ∀ c : Nat, c ≤ xs.length → (c = xs.length ↔ xs.Nodup) → Q (.int c) H1
theorem pe_lenSetD {a : Expr} {ta : TE} {p p2 q pos : Pos} (hg : Gl X "len") (hm : X.mg "len" = none) (hg2 : Gl X "set") (hm2 : X.mg "set" = none) (ha : PE X a ta) (hc : X.calm = true := by rfl)
    (na : starEach [a] X.env = (false, eval a X.env) :: starEach [] X.env := by rfl) : PE X (.Call (.Name "len" p) [.Call (.Name "set" p2) [a] [] q] [] pos) (tLenSetD X.K ta) := by
  refine ⟨fun pins s σ H Q I h => ?_⟩
  refine Call_ (ld_blt I hg hm boot_len ?_)
  refine PyProof.Rows.callWith_builtin1 (PyProof.Rows.args_cons ?_ rfl) rfl rfl
  refine Call_ (ld_blt I hg2 hm2 boot_set ?_)
  refine PyProof.Rows.callWith_type1 (PyProof.Rows.args_cons (thn (ha.run pins s σ H _ I h) fun v s1 ⟨x, H1, I1, r1, q1⟩ => PyProof.Rows.args_nil ?_) na) na rfl
  obtain ⟨l, xs, rfl, hq, small, q1⟩ := q1
  cases r1
  obtain ⟨its, r, pl, hz⟩ := I1.list hq
  refine set_of_textsD (I1.ok.hd hc) pl.isList (by simpa using strsAre_of r) (by unfold scanBound; omega) fun h' tk c cnt hS keep => ?_
  refine PyProof.Rows.args_nil ?_
  obtain ⟨o, es, ep, t, ho, hex, hd, _, _, hb, hf, hn⟩ := hS
  have I2 : Inv X pins σ H1 { s1 with heap := h', toks := tk } := I1.kept fun b o e => keep b o e
  have hs : es.size < 1000000 := by
    have : scanBound ≤ 1000000 := by decide
    omega
  exact call_len_set ho hex hd hf (by omega) ⟨.int c, H1, I2.tok _, ⟨_, by rw [hn]⟩, q1 c cnt.1 cnt.2⟩
end
/-! ### list(zip(a, b)), a and b lists or tuples, a the shorter one -/
namespace LZ
open PySem PySem.Spec PyProof.Rows L2
theorem zip_no_len : typeLookup (.type "zip") "__len__" = pure none := by rw [typeLookup_type, builtinLookup_eq_fast]; kernel_rfl
theorem zip_no_hint : typeLookup (.type "zip") "__length_hint__" = pure none := by rw [typeLookup_type, builtinLookup_eq_fast]; kernel_rfl
section
variable {prog : Program} {w : World} {A : Around} {E : Value → Shared → Prop} {s : Shared} {z TI TO i1 i2 T : Addr} {f : Bool} {oT : Obj} {fp1 fp2 : List Addr} {n1 n2 i : Nat} {P1 P2 : Nat → Value → Prop} {St1 St2 : Nat → Heap → Prop}
theorem held_item {Q : Value → Shared → Prop} (S : ZipSep2 z TI TO i1 i2 fp1 fp2) (D1 : Draws prog w A i1 fp1 n1 P1 St1) (D2 : Draws prog w A i2 fp2 n2 P2 St2)
    (hz : IsZipHeld s.heap z TI TO T f) (hT : s.heap.get? T = some oT) (hTI : IsTupOf2 s.heap TI (.ref i1) (.ref i2)) (st1 : St1 i s.heap) (st2 : St2 i s.heap) (hlt1 : i < n1) (hlt2 : i < n2)
    (hQ : ∀ x1 x2 h' tk, P1 i x1 → P2 i x2 → IsZipHeld h' z TI TO T true → St1 (i + 1) h' → St2 (i + 1) h' → IsTupOf2 h' s.heap.objs.size x1 x2 → h'.objs.size = s.heap.objs.size + 1 →
      (∀ c o, c ≠ z → c ≠ i1 → c ≠ i2 → s.heap.get? c = some o → h'.get? c = some o) → Q (.ref s.heap.objs.size) { s with heap := h', toks := tk }) :
    wpAny (model prog w) A (Builtin.«zip.__next__» ⟨[.ref z], []⟩) (fun fin s' => ∃ v, fin = .done (.ret v) ∧ Q v s') E s := by
  obtain ⟨hp, g, d, tk0, os⟩ := s
  show wpAny _ _ (field (.ref z) 2 >>= _) _ _ _
  refine wpAny_bind (wpAny_field hz rfl (x := .bool false) rfl ?_)
  show wpAny _ _ (field (.ref z) 3 >>= _) _ _ _
  refine wpAny_bind (wpAny_field hz rfl (x := .ref TI) rfl ?_)
  refine wpAny_bind (wpAny_seqItems hTI rfl ?_)
  show wpAny _ _ (Builtin.SmallTypes.ownedTupleIsFree (.ref z) >>= _) _ _ _
  refine wpAny_bind (wpAny_tupleHeld_zip hz hT fun h₁ hz₁ hs₁ => ?_)
  replace hs₁ : Heap.SameBut z hp h₁ := hs₁
  simp only [Bool.false_eq_true, if_false]
  refine wpAny_bind ?_
  rw [← Array.forIn_toList]
  simp only [List.forIn_cons, List.forIn_nil]
  refine wpAny_bind (wpAny_bind (wpAny_holding ?_))
  show wpAny _ _ (Builtin.SmallTypes.nextOf (.ref i1) >>= _) _ _ ⟨h₁, g, d, tk0, os⟩
  refine wpAny_bind (D1.item i _ _ _ hlt1 (D1.over st1 hs₁ S.zf1) fun x1 h₂ tk1 hx1 sn1 hs₂ => wpAny_pure ?_)
  replace hs₂ : Heap.SameBut i1 h₁ h₂ := hs₂
  refine wpAny_pure ?_
  refine wpAny_bind (wpAny_bind (wpAny_holding ?_))
  show wpAny _ _ (Builtin.SmallTypes.nextOf (.ref i2) >>= _) _ _ ⟨h₂, g, d, tk1, os⟩
  refine wpAny_bind (D2.item i _ _ _ hlt2 (D2.over (D2.over st2 hs₁ S.zf2) hs₂ S.sep1_2) fun x2 h₃ tk2 hx2 sn2 hs₃ => wpAny_pure ?_)
  replace hs₃ : Heap.SameBut i2 h₂ h₃ := hs₃
  refine wpAny_pure (wpAny_pure ?_)
  show wpAny _ _ (newTuple [x1, x2] >>= _) _ _ _
  refine wpAny_bind (wpAny_newTuple ?_)
  have hsz : h₃.objs.size = hp.objs.size := by rw [hs₃.1, hs₂.1, hs₁.1]
  have hz₃ : IsZipHeld h₃ z TI TO T true := hs₃.extBut _ _ S.zi2 (hs₂.extBut _ _ S.zi1 hz₁)
  have hk : ∀ c o, c ≠ z → c ≠ i1 → c ≠ i2 → hp.get? c = some o → h₃.get? c = some o := fun c o c1 c2 c3 e => hs₃.extBut _ _ c3 (hs₂.extBut _ _ c2 (hs₁.extBut _ _ c1 e))
  have hj1 : St1 (i + 1) h₃ := D1.over sn1 hs₃ S.sep2_1
  refine wpAny_pure ⟨_, rfl, ?_⟩
  show Q (.ref h₃.objs.size) ⟨h₃.push { cls := .type "tuple", data := .seq #[x1, x2] }, g, d, tk2, os⟩
  have hp4 : IsTupOf2 (h₃.push { cls := .type "tuple", data := .seq #[x1, x2] }) h₃.objs.size x1 x2 := Heap.get?_push_size _ rfl
  have hz4 : (h₃.push { cls := .type "tuple", data := .seq #[x1, x2] }).objs.size = h₃.objs.size + 1 := Heap.size_push ..
  rw [hsz] at hp4 hz4 ⊢
  exact hQ x1 x2 _ tk2 hx1 hx2 (Heap.get?_push_of_some _ hz₃) (D1.frame _ _ _ hj1 fun b _ o e => Heap.get?_push_of_some _ e) (D2.frame _ _ _ sn2 fun b _ o e => Heap.get?_push_of_some _ e) hp4 hz4 fun c o c1 c2 c3 e => Heap.get?_push_of_some _ (hk c o c1 c2 c3 e)

theorem held_end {Q : Fin → Shared → Prop} (S : ZipSep2 z TI TO i1 i2 fp1 fp2) (D1 : Draws prog w A i1 fp1 n1 P1 St1)
    (hz : IsZipHeld s.heap z TI TO T f) (hT : s.heap.get? T = some oT) (hTI : IsTupOf2 s.heap TI (.ref i1) (.ref i2)) (st1 : St1 n1 s.heap)
    (hE : ∀ h' e, (∀ c o, c ≠ z → c ≠ i1 → c ≠ i2 → s.heap.get? c = some o → h'.get? c = some o) → (∃ o, h'.get? e = some o ∧ o.cls = .type "StopIteration") → E (.ref e) { s with heap := h' }) :
    wpAny (model prog w) A (Builtin.«zip.__next__» ⟨[.ref z], []⟩) Q E s := by
  obtain ⟨hp, g, d, tk0, os⟩ := s
  show wpAny _ _ (field (.ref z) 2 >>= _) _ _ _
  refine wpAny_bind (wpAny_field hz rfl (x := .bool false) rfl ?_)
  show wpAny _ _ (field (.ref z) 3 >>= _) _ _ _
  refine wpAny_bind (wpAny_field hz rfl (x := .ref TI) rfl ?_)
  refine wpAny_bind (wpAny_seqItems hTI rfl ?_)
  show wpAny _ _ (Builtin.SmallTypes.ownedTupleIsFree (.ref z) >>= _) _ _ _
  refine wpAny_bind (wpAny_tupleHeld_zip hz hT fun h₁ hz₁ hs₁ => ?_)
  replace hs₁ : Heap.SameBut z hp h₁ := hs₁
  simp only [Bool.false_eq_true, if_false]
  refine wpAny_bind ?_
  rw [← Array.forIn_toList]
  simp only [List.forIn_cons, List.forIn_nil]
  refine wpAny_bind (wpAny_bind (wpAny_holding ?_))
  show wpAny _ _ (Builtin.SmallTypes.nextOf (.ref i1) >>= _) _ _ ⟨h₁, g, d, tk0, os⟩
  refine wpAny_bind (D1.done ⟨h₁, g, d, tk0, os⟩ _ _ (D1.over st1 hs₁ S.zf1) fun h₂ e hs₂ he => ?_)
  exact hE h₂ e (fun c o c1 c2 _ x => hs₂ _ _ c2 (hs₁.extBut _ _ c1 x)) he
end
/-- where a zip stands whose tuples are kept: S is the list that takes them -/
def ZSt (h : Heap) (z TI TO i1 i2 S : Addr) : Prop := (IsZip h z TI TO .none ∧ ∃ a b, IsTupOf2 h TO a b) ∨ ∃ T f oT, IsZipHeld h z TI TO T f ∧ h.get? T = some oT ∧ T ≠ z ∧ T ≠ i1 ∧ T ≠ i2 ∧ T ≠ S
theorem ZSt.keep {h h' : Heap} {z TI TO i1 i2 S : Addr} (x : ZSt h z TI TO i1 i2 S) (hk : ∀ b o, b ≠ S → h.get? b = some o → h'.get? b = some o) (hz : z ≠ S) (hTO : TO ≠ S) : ZSt h' z TI TO i1 i2 S := by
  rcases x with ⟨e, a, b, t⟩ | ⟨T, f, oT, e, t, r1, r2, r3, r4⟩
  · exact .inl ⟨hk _ _ hz e, a, b, hk _ _ hTO t⟩
  · exact .inr ⟨T, f, oT, hk _ _ hz e, hk _ _ r4 t, r1, r2, r3, r4⟩
section
variable {prog : Program} {w : World} {A : Around} {E : Value → Shared → Prop} {s : Shared} {z TI TO i1 i2 S : Addr} {fp1 fp2 : List Addr} {n n2 i : Nat} {P1 P2 : Nat → Value → Prop} {St1 St2 : Nat → Heap → Prop}
theorem zl_item {Q : Option Value → Shared → Prop} (Z : ZipSep2 z TI TO i1 i2 fp1 fp2) (D1 : Draws prog w A.in1 i1 fp1 n P1 St1) (D2 : Draws prog w A.in1 i2 fp2 n2 P2 St2) (hle : n ≤ n2)
    (hz : ZSt s.heap z TI TO i1 i2 S) (hS : S < s.heap.objs.size) (hTI : IsTupOf2 s.heap TI (.ref i1) (.ref i2)) (st1 : St1 i s.heap) (st2 : St2 i s.heap) (hlt : i < n)
    (hQ : ∀ x1 x2 h' tk, P1 i x1 → P2 i x2 → ZSt h' z TI TO i1 i2 S → IsTupOf2 h' TI (.ref i1) (.ref i2) → St1 (i + 1) h' → St2 (i + 1) h' → IsTupOf2 h' s.heap.objs.size x1 x2 → h'.objs.size = s.heap.objs.size + 1 →
      (∀ c o, c ≠ z → c ≠ TO → c ≠ i1 → c ≠ i2 → s.heap.get? c = some o → h'.get? c = some o) → Q (some (.ref s.heap.objs.size)) { s with heap := h', toks := tk }) :
    wpAny (model prog w) A (pyNext (.ref z)) Q E s := by
  have l1 : s.heap.objs.size ≠ i1 := by
    obtain ⟨o, e⟩ := D1.live _ _ st1
    exact Nat.ne_of_gt (Heap.lt_size e)
  have l2 : s.heap.objs.size ≠ i2 := by
    obtain ⟨o, e⟩ := D2.live _ _ st2
    exact Nat.ne_of_gt (Heap.lt_size e)
  rcases hz with ⟨hz, a, b, hTO⟩ | ⟨T, f, oT, hz, hT, r1, r2, r3, r4⟩
  · have lz : s.heap.objs.size ≠ z := Nat.ne_of_gt (Heap.lt_size hz)
    exact wpAny_pyNext_zipD2_item Z D1 D2 hz hTI hTO st1 st2 hlt (Nat.lt_of_lt_of_le hlt hle) fun x1 x2 h' tk p1 p2 q1 q2 q3 q4 q5 q6 k =>
      hQ x1 x2 h' tk p1 p2 (.inr ⟨_, false, _, q1, q5, lz, l1, l2, Nat.ne_of_gt hS⟩) (k _ _ Z.TIz Z.TITO Z.TIi1 Z.TIi2 hTI) q3 q4 q5 q6 k
  · have hTy : s.TypeIs (.ref z) "zip" := ⟨_, hz, rfl⟩
    unfold pyNext
    exact wpAny_bind (wpAny_attempt (wpAny_callSpecial?_slot (name := Str.ofString "__next__") hTy F.slot_zip_next
      (wpAny_call_entry F.slot_zip_next hTy F.entry_zip_next
        (held_item Z D1 D2 hz hT hTI st1 st2 hlt (Nat.lt_of_lt_of_le hlt hle) fun x1 x2 h' tk p1 p2 q1 q3 q4 q5 q6 k => wpAny_pure
          (hQ x1 x2 h' tk p1 p2 (.inr ⟨T, true, oT, q1, k _ _ r1 r2 r3 hT, r1, r2, r3, r4⟩) (k _ _ Z.TIz Z.TIi1 Z.TIi2 hTI) q3 q4 q5 q6 fun c o c1 _ c3 c4 e => k c o c1 c3 c4 e)) (F.args_zip_next_1 _))))
theorem zl_done {Q : Option Value → Shared → Prop} (Z : ZipSep2 z TI TO i1 i2 fp1 fp2) (D1 : Draws prog w A.in1 i1 fp1 n P1 St1) (D2 : Draws prog w A.in1 i2 fp2 n2 P2 St2) (hle : n ≤ n2)
    (hz : ZSt s.heap z TI TO i1 i2 S) (hTI : IsTupOf2 s.heap TI (.ref i1) (.ref i2)) (st1 : St1 n s.heap) (st2 : St2 n s.heap)
    (hQ : ∀ h' tk, (∀ c o, c ≠ z → c ≠ TO → c ≠ i1 → c ≠ i2 → s.heap.get? c = some o → h'.get? c = some o) → Q none { s with heap := h', toks := tk }) : wpAny (model prog w) A (pyNext (.ref z)) Q E s := by
  rcases hz with ⟨hz, a, b, hTO⟩ | ⟨T, f, oT, hz, hT, r1, r2, r3, r4⟩
  · exact wpAny_pyNext_zipD2_end Z D1 D2 hz hTI hTO st1 st2 (Nat.le_refl _) hle (.inl rfl) hQ
  · have hTy : s.TypeIs (.ref z) "zip" := ⟨_, hz, rfl⟩
    unfold pyNext
    refine wpAny_bind (wpAny_attempt (wpAny_callSpecial?_slot (name := Str.ofString "__next__") hTy F.slot_zip_next
      (wpAny_call_entry F.slot_zip_next hTy F.entry_zip_next (held_end Z D1 hz hT hTI st1 fun h' e hk he => ?_) (F.args_zip_next_1 _))))
    obtain ⟨o, ho, hc⟩ := he
    refine wpAny_bind (wpAny_isInstance (T := "StopIteration") (b := true) ⟨o, ho, hc⟩ isSubtype_stop ?_)
    exact wpAny_pure (hQ _ _ fun c o c1 _ c3 c4 e => hk c o c1 c3 c4 e)
end
/-- the pairs that were made -/
structure ZG (P1 P2 : Nat → Value → Prop) (lo : Addr) (h : Heap) (as : List Addr) : Prop where
  rise : as.Pairwise (· < ·)
  above : ∀ a ∈ as, lo ≤ a
  pairs : ∀ (j : Nat) (a : Addr), as[j]? = some a → ∃ x y, P1 j x ∧ P2 j y ∧ IsTupOf2 h a x y
theorem ZG.there {P1 P2 : Nat → Value → Prop} {lo : Addr} {h : Heap} {as : List Addr} (g : ZG P1 P2 lo h as) {a : Addr} (ha : a ∈ as) : a < h.objs.size := by
  obtain ⟨j, hj⟩ := List.mem_iff_getElem?.mp ha
  obtain ⟨_, _, _, _, e⟩ := g.pairs j a hj
  exact Heap.lt_size e
/-- all that lies below -/
structure Low (lo S z TI TO i1 i2 : Addr) (fp1 fp2 : List Addr) : Prop where
  lS : S < lo
  lz : z < lo
  lTO : TO < lo
  l1 : i1 < lo
  l2 : i2 < lo
  zS : z ≠ S
  TIS : TI ≠ S
  TOS : TO ≠ S
  S1 : S ∉ fp1
  S2 : S ∉ fp2
section
variable {prog : Program} {w : World} {A : Around} {s : Shared} {R : Result → Shared → Prop} {z TI TO i1 i2 S lo : Addr} {fp1 fp2 : List Addr} {n n2 : Nat} {P1 P2 : Nat → Value → Prop} {St1 St2 : Nat → Heap → Prop}
theorem zl_loop (Z : ZipSep2 z TI TO i1 i2 fp1 fp2) (D1 : Draws prog w A.in1.in1 i1 fp1 n P1 St1) (D2 : Draws prog w A.in1.in1 i2 fp2 n2 P2 St2) (hle : n ≤ n2) (L : Low lo S z TI TO i1 i2 fp1 fp2) (hn : n ≤ sizeLine) (res : Value) {h₁ : Heap}
    (hR : ∀ h' tk acc c as, (∀ b o, b ≠ S → b ≠ z → b ≠ TO → b ≠ i1 → b ≠ i2 → h₁.get? b = some o → h'.get? b = some o) → h'.get? S = some { cls := .type "list", dict := none, data := .seq acc c, slots := #[] } → as.length = n → ZG P1 P2 lo h' as →
      acc.toList = as.map Value.ref → R (.ok (.ret res)) { s with heap := h', toks := tk }) :
    ∀ (k i : Nat) (h : Heap) (tk c : Nat) (acc : Array Value) (as : List Addr), n - i = k → i ≤ n → ZSt h z TI TO i1 i2 S → IsTupOf2 h TI (.ref i1) (.ref i2) → St1 i h → St2 i h → (∀ b o, b ≠ S → b ≠ z → b ≠ TO → b ≠ i1 → b ≠ i2 → h₁.get? b = some o → h.get? b = some o) →
      h.get? S = some { cls := .type "list", dict := none, data := .seq acc c, slots := #[] } → acc.toList = as.map Value.ref → as.length = i → ZG P1 P2 lo h as → lo ≤ h.objs.size →
      codeAny (model prog w) A (.builtin "list.extend.loop" ⟨[.ref S, .ref z, res], []⟩) R { s with heap := h, toks := tk } := by
  have sz : S ≠ z := fun e => L.zS e.symm
  have sTO : S ≠ TO := fun e => L.TOS e.symm
  have s1 : S ≠ i1 := fun e => L.S1 (e ▸ Z.mem1)
  have s2 : S ≠ i2 := fun e => L.S2 (e ▸ Z.mem2)
  intro k
  induction k with
  | zero =>
    intro i h tk c acc as hk hi hst hTI st1 st2 hkeep hS hacc hal hG hIs
    have hin : i = n := by omega
    rw [hin] at st1 st2 hal
    refine codeAny_builtin PySem.F.entry_extend_loop ?_
    rw [Around.under_plainId PySem.F.plain_extend_loop _]
    show wpAny _ A.in1 (pyNext (.ref z) >>= _) _ _ _
    refine wpAny_bind (zl_done (s := { s with heap := h, toks := tk }) (A := A.in1) Z D1 D2 hle hst hTI st1 st2 fun h' tk' he => ?_)
    refine wpAny_pure (hR h' tk' acc c as (fun b o h1 h2 h3 h4 h5 e => he b o h2 h3 h4 h5 (hkeep b o h1 h2 h3 h4 h5 e)) (he S _ sz sTO s1 s2 hS) hal ⟨hG.rise, hG.above, fun j a hj => ?_⟩ hacc)
    obtain ⟨x, y, e1, e2, e3⟩ := hG.pairs j a hj
    have ab := hG.above a (List.mem_of_getElem? hj)
    exact ⟨x, y, e1, e2, he a _ (Nat.ne_of_gt (Nat.lt_of_lt_of_le L.lz ab)) (Nat.ne_of_gt (Nat.lt_of_lt_of_le L.lTO ab)) (Nat.ne_of_gt (Nat.lt_of_lt_of_le L.l1 ab)) (Nat.ne_of_gt (Nat.lt_of_lt_of_le L.l2 ab)) e3⟩
  | succ k ih =>
    intro i h tk c acc as hk hi hst hTI st1 st2 hkeep hS hacc hal hG hIs
    have hlt : i < n := by omega
    have hsz : acc.size = i := by rw [← Array.length_toList, hacc, List.length_map, hal]
    refine codeAny_builtin PySem.F.entry_extend_loop ?_
    rw [Around.under_plainId PySem.F.plain_extend_loop _]
    show wpAny _ A.in1 (pyNext (.ref z) >>= _) _ _ _
    refine wpAny_bind (zl_item (s := { s with heap := h, toks := tk }) (S := S) (A := A.in1) Z D1 D2 hle hst (Heap.lt_size hS) hTI st1 st2 hlt fun x1 x2 h' tk' p1 p2 hst' hTI' st1' st2' ht hz hkp => ?_)
    dsimp only at ht hz hkp ⊢
    have hS' := hkp S _ sz sTO s1 s2 hS
    have up : ∀ b o, b ≠ S → h'.get? b = some o → (h'.update S (Obj.mapSeq (·.push (Value.ref h.objs.size)))).get? b = some o := fun b o hb e => (Heap.get?_update_other _ _ (Ne.symm hb)).trans e
    have hSl : S < h.objs.size := Heap.lt_size hS
    show wpAny _ A.in1 (updateSeq S (·.push (Value.ref h.objs.size)) >>= _) _ _ _
    refine wpAny_bind ?_
    refine wpAny_updateSeq hS' rfl (wpAny_pure ⟨plainId_quiet PySem.F.plain_extend_loop _, ih (i + 1) _ tk' _ (acc.push (Value.ref h.objs.size)) (as ++ [h.objs.size]) (by omega) hlt (hst'.keep up L.zS L.TOS) (up _ _ L.TIS hTI')
      (D1.frame _ _ _ st1' fun b hb o e => up b o (fun q => L.S1 (q ▸ hb)) e) (D2.frame _ _ _ st2' fun b hb o e => up b o (fun q => L.S2 (q ▸ hb)) e)
      (fun b o h1 h2 h3 h4 h5 e => up b o h1 (hkp b o h2 h3 h4 h5 (hkeep b o h1 h2 h3 h4 h5 e))) (Heap.get?_update_self _ hS' rfl) (by rw [Array.toList_push, hacc, List.map_append]; rfl) (by rw [List.length_append, hal]; rfl) ⟨?_, ?_, ?_⟩ ?_⟩) (by rw [hsz]; omega) (by show (acc.push (Value.ref h.objs.size)).size ≤ sizeLine + 1; rw [Array.size_push, hsz]; omega)
    · refine List.pairwise_append.mpr ⟨hG.rise, List.pairwise_singleton _ _, fun a ha b hb => ?_⟩
      rw [List.mem_singleton.mp hb]
      exact hG.there ha
    · intro a ha
      rcases List.mem_append.mp ha with ha | ha
      · exact hG.above a ha
      · rw [List.mem_singleton.mp ha]; exact hIs
    · intro j b hj
      rcases Nat.lt_trichotomy j as.length with h1 | h1 | h1
      · rw [List.getElem?_append_left h1] at hj
        obtain ⟨x', y', e1, e2, e3⟩ := hG.pairs j b hj
        have ab := hG.above b (List.mem_of_getElem? hj)
        exact ⟨x', y', e1, e2, up b _ (Nat.ne_of_gt (Nat.lt_of_lt_of_le L.lS ab)) (hkp b _ (Nat.ne_of_gt (Nat.lt_of_lt_of_le L.lz ab)) (Nat.ne_of_gt (Nat.lt_of_lt_of_le L.lTO ab)) (Nat.ne_of_gt (Nat.lt_of_lt_of_le L.l1 ab)) (Nat.ne_of_gt (Nat.lt_of_lt_of_le L.l2 ab)) e3)⟩
      · subst h1
        have hb : h.objs.size = b := by simpa using hj
        subst hb
        exact ⟨x1, x2, by rw [hal]; exact p1, by rw [hal]; exact p2, up _ _ (Nat.ne_of_gt hSl) ht⟩
      · have hnone : (as ++ [h.objs.size])[j]? = none := List.getElem?_eq_none (by rw [List.length_append, List.length_singleton]; omega)
        rw [hnone] at hj; cases hj
    · have e : (h'.update S (Obj.mapSeq (·.push (Value.ref h.objs.size)))).get? h.objs.size = _ := up _ _ (Nat.ne_of_gt hSl) ht
      exact Nat.le_trans hIs (Nat.le_of_lt (Heap.lt_size e))
theorem zl_hint {E : Value → Shared → Prop} (hT : s.TypeIs (.ref z) "zip") {Q : Bool → Shared → Prop} (h : Q true s) : wpAny (model prog w) A (Builtin.List.listLengthHint (.ref z)) Q E s := by
  unfold Builtin.List.listLengthHint
  refine wpAny_bind (wpAny_specialOf hT zip_no_len ?_)
  show wpAny _ _ (specialOf (Value.ref z) (Str.ofString "__length_hint__") >>= _) _ _ _
  refine wpAny_bind (wpAny_specialOf hT zip_no_hint ?_)
  exact wpAny_pure h
theorem zl_extend (Z : ZipSep2 z TI TO i1 i2 fp1 fp2) (D1 : Draws prog w A.in1.in1 i1 fp1 n P1 St1) (D2 : Draws prog w A.in1.in1 i2 fp2 n2 P2 St2) (hle : n ≤ n2) (L : Low lo S z TI TO i1 i2 fp1 fp2) (hn : n ≤ sizeLine) (res : Value) {a b : Value}
    (hz : IsZip s.heap z TI TO .none) (hTI : IsTupOf2 s.heap TI (.ref i1) (.ref i2)) (hTO : IsTupOf2 s.heap TO a b) (st1 : St1 0 s.heap) (st2 : St2 0 s.heap) (hlo : lo ≤ s.heap.objs.size) (c₀ : Nat) (hS : s.heap.get? S = some { cls := .type "list", data := .seq #[] c₀ })
    (hR : ∀ h' tk acc c as, (∀ b o, b ≠ S → b ≠ z → b ≠ TO → b ≠ i1 → b ≠ i2 → s.heap.get? b = some o → h'.get? b = some o) → h'.get? S = some { cls := .type "list", dict := none, data := .seq acc c, slots := #[] } → as.length = n → ZG P1 P2 lo h' as →
      acc.toList = as.map Value.ref → R (.ok (.ret res)) { s with heap := h', toks := tk }) :
    wpAny (model prog w) A.in1 (Builtin.List.listExtendWith (.ref S) (.ref z) res)
      (fun fin s' => match fin with | .done f => R (.ok f) s' | .again c' => c'.quiet = true ∧ codeAny (model prog w) A c' R s') (fun e s' => R (.error e) s') s := by
  have hTy : s.TypeIs (.ref z) "zip" := ⟨_, hz, rfl⟩
  unfold Builtin.List.listExtendWith
  refine wpAny_bind (wpAny_typeOf (T := "zip") hTy ?_)
  have h1 : Builtin.List.listSameRef (.ref S) (.ref z) = false := by
    have : S ≠ z := fun e => L.zS e.symm
    simp [Builtin.List.listSameRef, this]
  have h2 : (Value.type "zip" == Value.type "list") = false := by decide
  have h3 : (Value.type "zip" == Value.type "tuple") = false := by decide
  simp only [h1, h2, h3, Bool.or_false, Bool.false_eq_true, if_false]
  refine wpAny_bind (wpAny_pyIter_zip hz ?_)
  refine wpAny_bind (wpAny_holding (zl_hint hTy ?_))
  have go : ∀ (h : Heap) (c₁ tk : Nat), h.objs.size = s.heap.objs.size → (∀ b o, b ≠ S → s.heap.get? b = some o → h.get? b = some o) → h.get? S = some { cls := .type "list", data := .seq #[] c₁ } → codeAny (model prog w) A (.builtin "list.extend.loop" ⟨[.ref S, .ref z, res], []⟩) R { s with heap := h, toks := tk } := by
    intro h c₁ tk hsz hk hS₁
    have e1 : ZSt h z TI TO i1 i2 S := .inl ⟨hk _ _ L.zS hz, a, b, hk _ _ L.TOS hTO⟩
    exact zl_loop (h₁ := s.heap) Z D1 D2 hle L hn res hR n 0 h tk c₁ #[] [] (Nat.sub_zero _) (Nat.zero_le _) e1 (hk _ _ L.TIS hTI) (D1.frame _ _ _ st1 fun b hb o e => hk b o (fun q => L.S1 (q ▸ hb)) e) (D2.frame _ _ _ st2 fun b hb o e => hk b o (fun q => L.S2 (q ▸ hb)) e)
      (fun b o h1 _ _ _ _ e => hk b o h1 e) hS₁ rfl rfl ⟨List.Pairwise.nil, (fun _ ha => nomatch ha), (fun j a hj => by simp at hj)⟩ (by rw [hsz]; exact hlo)
  refine wpAny_bind (wpAny_rule ?_)
  refine wpAny_bind ?_
  show wpAny _ _ (updateSeq S (·.push .none) >>= fun _ => updateSeq S (·.pop)) _ _ _
  refine wpAny_bind (wpAny_updateSeq hS rfl ?_)
  have hS₂ := Heap.get?_update_self (Obj.mapSeq (·.push Value.none)) hS rfl
  refine wpAny_updateSeq (hz := by seq_fits) hS₂ rfl ?_
  have hS₃ := Heap.get?_update_self (Obj.mapSeq (·.pop)) hS₂ rfl
  refine wpAny_pure ⟨plainId_quiet PySem.F.plain_extend_loop _, go _ _ _ (by rw [Heap.size_update, Heap.size_update]) (fun b o hb e => ?_) hS₃⟩
  exact (Heap.get?_update_other _ _ (Ne.symm hb)).trans ((Heap.get?_update_other _ _ (Ne.symm hb)).trans e)
theorem zl_init (Z : ZipSep2 z TI TO i1 i2 fp1 fp2) (D1 : Draws prog w A.in1.in1 i1 fp1 n P1 St1) (D2 : Draws prog w A.in1.in1 i2 fp2 n2 P2 St2) (hle : n ≤ n2) (L : Low lo S z TI TO i1 i2 fp1 fp2) (hn : n ≤ sizeLine) {a b : Value}
    (hz : IsZip s.heap z TI TO .none) (hTI : IsTupOf2 s.heap TI (.ref i1) (.ref i2)) (hTO : IsTupOf2 s.heap TO a b) (st1 : St1 0 s.heap) (st2 : St2 0 s.heap) (hlo : lo ≤ s.heap.objs.size) (hS : s.heap.get? S = some { cls := .type "list", data := .seq #[] })
    (hR : ∀ h' tk acc c as, (∀ b o, b ≠ S → b ≠ z → b ≠ TO → b ≠ i1 → b ≠ i2 → s.heap.get? b = some o → h'.get? b = some o) → h'.get? S = some { cls := .type "list", dict := none, data := .seq acc c, slots := #[] } → as.length = n → ZG P1 P2 lo h' as →
      acc.toList = as.map Value.ref → R (.ok (.ret .none)) { s with heap := h', toks := tk }) :
    wpAny (model prog w) A.in1 (Builtin.«list.__init__» ⟨[.ref S, .ref z], []⟩)
      (fun fin s' => match fin with | .done f => R (.ok f) s' | .again c' => c'.quiet = true ∧ codeAny (model prog w) A c' R s') (fun e s' => R (.error e) s') s := by
  show wpAny _ _ (do let old ← Builtin.List.listItems (.ref S); Builtin.List.listUpdate (.ref S) (fun _ => #[]); letGo old.toList.reverse; Builtin.List.listExtendWith (.ref S) (.ref z) .none) _ _ s
  refine wpAny_bind ?_
  unfold Builtin.List.listItems
  refine wpAny_bind (wpAny_seqItems hS rfl (wpAny_pure ?_))
  show wpAny _ _ (updateSeq S (fun _ => #[]) >>= fun _ => letGo (#[] : Array Value).toList.reverse >>= fun _ => Builtin.List.listExtendWith (.ref S) (.ref z) .none) _ _ s
  refine wpAny_bind (wpAny_updateSeq hS rfl ?_)
  have hS₂ := Heap.get?_update_self (Obj.mapSeq (fun _ => (#[] : Array Value))) hS rfl
  have oth : ∀ b o, b ≠ S → s.heap.get? b = some o → (s.heap.update S (Obj.mapSeq (fun _ => (#[] : Array Value)))).get? b = some o :=
    fun b o hb e => (Heap.get?_update_other _ _ (Ne.symm hb)).trans e
  refine wpAny_bind (wpAny_letGo ?_)
  refine zl_extend Z D1 D2 hle L hn .none (oth _ _ L.zS hz) (oth _ _ L.TIS hTI) (oth _ _ L.TOS hTO) (D1.frame _ _ _ st1 fun b hb o e => oth b o (fun q => L.S1 (q ▸ hb)) e) (D2.frame _ _ _ st2 fun b hb o e => oth b o (fun q => L.S2 (q ▸ hb)) e) (by rw [Heap.size_update]; exact hlo) _ hS₂ (fun h' tk acc c as hk hS' hl hG hacc => ?_)
  exact hR h' tk acc c as (fun b o h1 h2 h3 h4 h5 e => hk b o h1 h2 h3 h4 h5 (oth b o h1 e)) hS' hl hG hacc
theorem zl_call {E : Value → Shared → Prop} {Q : Value → Shared → Prop} (Z : ZipSep2 z TI TO i1 i2 fp1 fp2) (D1 : Draws prog w A.in1.in1.in1 i1 fp1 n P1 St1) (D2 : Draws prog w A.in1.in1.in1 i2 fp2 n2 P2 St2) (hle : n ≤ n2) (hn : n ≤ sizeLine) {a b : Value}
    (hz : IsZip s.heap z TI TO .none) (hTI : IsTupOf2 s.heap TI (.ref i1) (.ref i2)) (hTO : IsTupOf2 s.heap TO a b) (st1 : St1 0 s.heap) (st2 : St2 0 s.heap) (f1 : ∀ b ∈ fp1, b < s.heap.objs.size) (f2 : ∀ b ∈ fp2, b < s.heap.objs.size)
    (hQ : ∀ h' tk acc c as, (∀ b o, b ≠ z → b ≠ TO → b ≠ i1 → b ≠ i2 → s.heap.get? b = some o → h'.get? b = some o) → h'.get? s.heap.objs.size = some { cls := .type "list", dict := none, data := .seq acc c, slots := #[] } → as.length = n → ZG P1 P2 (s.heap.objs.size + 1) h' as →
      acc.toList = as.map Value.ref → Q (.ref s.heap.objs.size) { s with heap := h', toks := tk }) :
    wpAny (model prog w) A (call (.type "list") [.ref z]) Q E s := by
  refine callType_codes (Q₁ := fun obj s₁ => obj = .ref s.heap.objs.size ∧ s₁ = { s with heap := s.heap.push { cls := .type "list", data := .seq #[] } }) PySem.F.called_list (PySem.F.typeCall_list_1 _) PySem.F.entry_list_init
    (code_list_new _ ⟨rfl, rfl⟩) fun obj s₁ h₁ => ?_
  obtain ⟨rfl, rfl⟩ := h₁
  have hS : (s.heap.push { cls := .type "list", data := .seq #[] }).get? s.heap.objs.size = some { cls := .type "list", data := .seq #[] } := Heap.get?_push_size _ rfl
  have up : ∀ b o, s.heap.get? b = some o → (s.heap.push { cls := .type "list", data := .seq #[] }).get? b = some o := fun b o e => Heap.get?_push_of_some _ e
  have lz : z < s.heap.objs.size := Heap.lt_size hz
  have lTI : TI < s.heap.objs.size := Heap.lt_size hTI
  have lTO : TO < s.heap.objs.size := Heap.lt_size hTO
  have l1 : i1 < s.heap.objs.size := f1 _ Z.mem1
  have l2 : i2 < s.heap.objs.size := f2 _ Z.mem2
  have L : Low (s.heap.objs.size + 1) s.heap.objs.size z TI TO i1 i2 fp1 fp2 := ⟨Nat.lt_succ_self _, Nat.lt_succ_of_lt lz, Nat.lt_succ_of_lt lTO, Nat.lt_succ_of_lt l1, Nat.lt_succ_of_lt l2, Nat.ne_of_lt lz, Nat.ne_of_lt lTI, Nat.ne_of_lt lTO, fun q => Nat.lt_irrefl _ (f1 _ q), fun q => Nat.lt_irrefl _ (f2 _ q)⟩
  refine ⟨⟨_, hS, rfl⟩, PySem.F.args_list_init_2 _ _, zl_init (A := A.in1) Z D1 D2 hle L hn (up _ _ hz) (up _ _ hTI) (up _ _ hTO) (D1.frame _ _ _ st1 fun b _ o e => up b o e) (D2.frame _ _ _ st2 fun b _ o e => up b o e) (by show _ ≤ (s.heap.push _).objs.size; rw [Heap.size_push]; exact Nat.le_refl _) hS (fun h' tk acc c as hk hS' hl hG hacc => ?_)⟩
  exact ⟨rfl, hQ h' tk acc c as (fun b o h2 h3 h4 h5 e => hk b o (Nat.ne_of_lt (Heap.lt_size e)) h2 h3 h4 h5 (up b o e)) hS' hl hG hacc⟩
end
/-! ### over the layer -/
/-- the tuples tracked at their addresses -/
def putP : Hp → List Addr → List (V × V) → Hp
  | H, a :: as, p :: ps => putP (upd H a (.tup [p.1, p.2])) as ps
  | H, _, _ => H
theorem putP_off {b : Addr} : ∀ (as : List Addr) (ps : List (V × V)) (H : Hp), b ∉ as → putP H as ps b = H b
  | [], _, _, _ => rfl
  | _ :: _, [], _, _ => rfl
  | a :: as, p :: ps, H, h => by
    show putP (upd H a (.tup [p.1, p.2])) as ps b = H b
    rw [putP_off as ps _ (fun z => h (List.mem_cons_of_mem _ z)), upd_ne (fun z => h (by rw [z]; exact List.mem_cons_self))]
theorem putP_at : ∀ (as : List Addr) (ps : List (V × V)) (H : Hp), as.length = ps.length → as.Nodup → ∀ (j : Nat) (a : Addr) (p : V × V), as[j]? = some a → ps[j]? = some p → putP H as ps a = some (.tup [p.1, p.2])
  | [], [], _, _, _, j, _, _, h, _ => by simp at h
  | [], _ :: _, _, h, _, _, _, _, _, _ => by cases h
  | _ :: _, [], _, h, _, _, _, _, _, _ => by cases h
  | a :: as, p :: ps, H, h, hn, 0, a', p', h1, h2 => by
    have e1 : a = a' := Option.some.inj h1
    have e2 : p = p' := Option.some.inj h2
    subst e1
    subst e2
    show putP (upd H a (.tup [p.1, p.2])) as ps a = _
    rw [putP_off as ps _ (List.nodup_cons.mp hn).1, upd_same]
  | a :: as, p :: ps, H, h, hn, j + 1, a', p', h1, h2 => putP_at as ps (upd H a (.tup [p.1, p.2])) (Nat.succ.inj h) (List.nodup_cons.mp hn).2 j a' p' (by simpa using h1) (by simpa using h2)
theorem vals_refs : ∀ as : List Addr, Vals (as.map V.ref) (as.map Value.ref)
  | [] => .nil
  | _ :: as => .cons rfl (vals_refs as)
/-- what list(zip(..)) gives over us, vs -/
def ZipList (H H' : Hp) (p : Addr) (ts : List Addr) (us vs : List V) : Prop := (∀ b o, H b = some o → H' b = some o) ∧ H p = none ∧ (∀ t ∈ ts, H t = none) ∧ p ∉ ts ∧ ts.Nodup ∧ H' p = some (.lst (ts.map V.ref)) ∧ ts.length = us.length ∧ ∀ (j : Nat) (t : Addr) (x y : V), ts[j]? = some t → us[j]? = some x → vs[j]? = some y → H' t = some (.tup [x, y])
def tListZip (K : PySem.W.Frag) (ta : TA) : TE := fun σ H Q => ta σ H fun xs H2 => ∃ (a b : Addr) (us vs : List V), xs = [.ref a, .ref b] ∧ (SqL K H2 a us ∨ SqT K H2 a us) ∧ (SqL K H2 b vs ∨ SqT K H2 b vs) ∧ us.length ≤ vs.length ∧
  ∀ H' p ts, ZipList H2 H' p ts us vs → Q (.ref p) H'
section
variable {X : Cx} {pins : List (Addr × Obj)} {σ : L2.St} {H : Hp} {s : Shared}
theorem src {a : Addr} {us : List V} (I : Inv X pins σ H s) (h : SqL X.K H a us ∨ SqT X.K H a us) : ∃ (its : List Value) (o : Obj) (Hd : Heap → Prop), Vals us its ∧ us.length ≤ sizeLine ∧ a < s.heap.objs.size ∧ Begins (.ref a) o Hd ∧ Hd s.heap ∧
    ∀ (A : Around) (it : Addr), A.handled = none → a ≠ it → ∃ St : Nat → Heap → Prop, Draws X.prog X.w A it [it, a] its.toArray.size (fun i v => its.toArray[i]? = some v) St ∧ ∀ h', h'.get? it = some o → Hd h' → St 0 h' := by
  rcases h with h | h
  · obtain ⟨its, rv, p1, z⟩ := I.list h
    exact ⟨its, _, _, rv, z, p1.lt, begins_list a its.toArray, p1.isList, fun A it hh ne => ⟨_, Draws.list hh it a ne its.toArray, fun h' e d => ⟨⟨_, e, rfl, rfl⟩, d⟩⟩⟩
  · obtain ⟨its, rv, p1, z⟩ := I.tuple h
    have p2 : s.heap.IsTuple a its.toArray := p1
    obtain ⟨o1, ho1, _⟩ := id p1
    exact ⟨its, _, _, rv, z, Heap.lt_size ho1, begins_tuple a its.toArray, p2, fun A it hh ne => ⟨_, Draws.tuple hh it a ne its.toArray, fun h' e d => ⟨⟨_, e, rfl, rfl⟩, d⟩⟩⟩
theorem zip_laid {h' : Heap} {tk : Nat} {us vs : List V} {its its2 : List Value} {acc : Array Value} {c : Nat} {as : List Addr} {S : Addr} (I : Inv X pins σ H s) (hz : us.length ≤ sizeLine) (rv : Vals us its) (rv2 : Vals vs its2) (hl : us.length ≤ vs.length) (hsz : s.heap.objs.size ≤ S)
    (hk : ∀ b o, s.heap.get? b = some o → h'.get? b = some o) (hS : h'.get? S = some { cls := .type "list", dict := none, data := .seq acc c, slots := #[] }) (hla : as.length = us.length) (hG : ZG (fun i v => its.toArray[i]? = some v) (fun i v => its2.toArray[i]? = some v) (S + 1) h' as) (hacc : acc.toList = as.map Value.ref) :
    ∃ H' : Hp, ZipList H H' S as us vs ∧ Inv X pins σ H' { s with heap := h', toks := tk } := by
  have gt : ∀ a ∈ as, S < a := fun a ha => hG.above a ha
  have hSn : S ∉ as := fun z => Nat.lt_irrefl _ (gt _ z)
  have nd : as.Nodup := List.Pairwise.imp (fun {a b} (h : a < b) => Nat.ne_of_lt h) hG.rise
  have new : ∀ t ∈ as, H t = none := fun t ht => I.hok.fresh (Nat.le_trans hsz (Nat.le_of_lt (gt t ht)))
  have newS : H S = none := I.hok.fresh hsz
  have lps : as.length = (us.zip vs).length := by rw [List.length_zip, Nat.min_eq_left hl, hla]
  have atP := putP_at as (us.zip vs) (upd H S (.lst (as.map V.ref))) lps nd
  have off : ∀ b, b ∉ as → b ≠ S → putP (upd H S (.lst (as.map V.ref))) as (us.zip vs) b = H b := fun b h1 h2 => by rw [putP_off as _ _ h1, upd_ne h2]
  have low : ∀ b o, s.heap.get? b = some o → b ∉ as ∧ b ≠ S := fun b o e => ⟨fun z => absurd (Heap.lt_size e) (Nat.not_lt.mpr (Nat.le_trans hsz (Nat.le_of_lt (gt b z)))), fun z => absurd (Heap.lt_size e) (Nat.not_lt.mpr (by rw [z]; exact hsz))⟩
  have kp : ∀ b u, H b = some u → (putP (upd H S (.lst (as.map V.ref))) as (us.zip vs)) b = some u := fun b u e => by
    rw [off b (fun z => by rw [new b z] at e; cases e) (fun z => by rw [z, newS] at e; cases e)]
    exact e
  have eS : putP (upd H S (.lst (as.map V.ref))) as (us.zip vs) S = some (.lst (as.map V.ref)) := by rw [putP_off as _ _ hSn, upd_same]
  have two : ∀ (j : Nat) (x y : V), us[j]? = some x → vs[j]? = some y → (us.zip vs)[j]? = some (x, y) := fun j x y e1 e2 => List.getElem?_zip_eq_some.mpr ⟨e1, e2⟩
  refine ⟨putP (upd H S (.lst (as.map V.ref))) as (us.zip vs), ⟨kp, newS, new, hSn, nd, eS, hla, fun j t x y e1 e2 e3 => atP j t (x, y) e1 (two j x y e2 e3)⟩, ?_⟩
  refine I.call' (ch := []) rfl ⟨fun b o q _ _ _ => hk b o q, fun b o q _ _ _ => ⟨o.slots, hk b o q⟩, fun b o q n _ => ?_, fun b o q _ => ⟨o, hk b o q⟩, fun b xs q => kp b _ q, fun b o u q => kp b _ q, fun b ps q => ⟨#[], by rw [kp b _ q]; simp⟩⟩ (fun b u q => ?_) I.bare fun b z => by simp at z
  · obtain ⟨z1, z2⟩ := low b o q
    rw [off b z1 z2]
    exact n
  · by_cases hb : b ∈ as
    · obtain ⟨j, hj⟩ := List.mem_iff_getElem?.mp hb
      have lj : j < as.length := (List.getElem?_eq_some_iff.mp hj).1
      have ex : us[j]? = some us[j] := List.getElem?_eq_getElem (by omega)
      have ey : vs[j]? = some vs[j] := List.getElem?_eq_getElem (by omega)
      rw [atP j b (us[j], vs[j]) hj (two j _ _ ex ey)] at q
      cases q
      obtain ⟨x, y, f1, f2, f3⟩ := hG.pairs j b hj
      obtain ⟨u1, g1, r1⟩ := rv.get ex
      obtain ⟨u2, g2, r2⟩ := rv2.get ey
      have f1 : its[j]? = some x := by simpa using f1
      have f2 : its2[j]? = some y := by simpa using f2
      rw [f1] at g1
      rw [f2] at g2
      cases g1
      cases g2
      exact ⟨by show 2 ≤ sizeLine; decide, [x, y], .cons r1 (.cons r2 .nil), ⟨_, f3, rfl, _, rfl⟩⟩
    · by_cases hb2 : b = S
      · rw [hb2] at q ⊢
        rw [eS] at q
        cases q
        refine ⟨by rw [List.length_map, hla]; exact hz, acc.toList, c, by rw [hacc]; exact vals_refs as, ?_⟩
        rw [Array.toArray_toList]
        exact hS
      · rw [off b hb hb2] at q
        exact (I.hok b u q).stay (fun d v _ y => hk d v y) (fun d y => kp d _ y) fun d xs y => kp d _ y
theorem pe_listZip {e1 e2 : Expr} {ta : TA} {p p2 q pos : Pos} (hg : Gl X "list") (hm : X.mg "list" = none) (hg2 : Gl X "zip") (hm2 : X.mg "zip" = none) (ha : PA X [e1, e2] ta) (hc : X.calm = true := by rfl)
    (hs : starEach [e1, e2] X.env = (false, eval e1 X.env) :: starEach [e2] X.env := by rfl) (hpl : (backTo q (starEach [e2] X.env)).any (·.1) = false := by rfl)
    (hz : starEach [.Call (.Name "zip" p2) [e1, e2] [] q] X.env = (false, eval (.Call (.Name "zip" p2) [e1, e2] [] q) X.env) :: starEach [] X.env := by rfl) :
    PE X (.Call (.Name "list" p) [.Call (.Name "zip" p2) [e1, e2] [] q] [] pos) (tListZip X.K ta) := by
  refine ⟨fun pins s σ H Q I h => ?_⟩
  refine Call_ (ld_blt I hg hm (u := .type "list") (by decide +kernel) ?_)
  refine PyProof.Rows.callWith_type1 (PyProof.Rows.args_cons ?_ hz) hz rfl
  refine Call_ (ld_blt I hg2 hm2 PyProof.Rows.boot_zip ?_)
  refine PyProof.Rows.callWith_type1 (thn (ha.run q pins s σ H _ I h) fun us0 s1 ⟨xs, H1, I1, r1, q1⟩ => ?_) hs hpl
  obtain ⟨a, b, us, vs, rfl, hqx, hqy, hl, q1⟩ := q1
  cases r1 with
  | cons r rr =>
    cases rr with
    | cons r' rr =>
      cases rr
      cases r
      cases r'
      obtain ⟨its, o1, Hd1, rv, z1, la, B1, h1, mk1⟩ := src I1 hqx
      obtain ⟨its2, o2, Hd2, rv2, z2, lb, B2, h2, mk2⟩ := src I1 hqy
      refine zip_begins2 B1 B2 h1 h2 fun h' hz hTI hTO g1 g2 hsz hk => ?_
      refine PyProof.Rows.args_nil ?_
      have hd := I1.ok.hd hc
      obtain ⟨St1, D1, b1⟩ := mk1 X.A.in1.in1.in1 s1.heap.objs.size hd (Nat.ne_of_lt la)
      obtain ⟨St2, D2, b2⟩ := mk2 X.A.in1.in1.in1 (s1.heap.objs.size + 1) hd (Nat.ne_of_lt (Nat.lt_succ_of_lt lb))
      have Z := zip_sep2 (N := s1.heap.objs.size) (fp1 := [a]) (fp2 := [b]) (fun c hc => by rw [List.mem_singleton.mp hc]; exact la) (fun c hc => by rw [List.mem_singleton.mp hc]; exact lb)
      have n1 : its.length = us.length := rv.length.symm
      have n2 : its2.length = vs.length := rv2.length.symm
      have e1 : its.toArray.size = us.length := by rw [List.size_toArray, n1]
      have hle2 : us.length ≤ its2.toArray.size := by rw [List.size_toArray, n2]; exact hl
      rw [e1] at D1
      have lt5 : ∀ k, k < 5 → s1.heap.objs.size + k < h'.objs.size := fun k hk5 => by rw [hsz]; exact Nat.add_lt_add_left hk5 _
      have ltN : ∀ {c : Addr}, c < s1.heap.objs.size → c < h'.objs.size := fun h => Nat.lt_of_lt_of_le h (by rw [hsz]; exact Nat.le_add_right _ _)
      refine zl_call Z D1 D2 hle2 z1 hz hTI hTO (b1 h' g1 (B1.keeps _ _ h1 hk)) (b2 h' g2 (B2.keeps _ _ h2 hk)) (fun c hc => ?_) (fun c hc => ?_) fun h'' tk acc c as hk2 hS hla hG hacc => ?_
      · rcases List.mem_cons.mp hc with rfl | hc
        · exact lt5 0 (by decide)
        · rw [List.mem_singleton.mp hc]; exact ltN la
      · rcases List.mem_cons.mp hc with rfl | hc
        · exact lt5 1 (by decide)
        · rw [List.mem_singleton.mp hc]; exact ltN lb
      · have keep : ∀ c o, s1.heap.get? c = some o → h''.get? c = some o := fun c o e => by
          have lt : c < s1.heap.objs.size := Heap.lt_size e
          have no : ∀ k, c ≠ s1.heap.objs.size + k := fun k => Nat.ne_of_lt (Nat.lt_of_lt_of_le lt (Nat.le_add_right _ _))
          exact hk2 c o (no 4) (no 3) (no 0) (no 1) (hk c o e)
        obtain ⟨H', ZL, J⟩ := zip_laid (tk := tk) I1 z1 rv rv2 hl (by show s1.heap.objs.size ≤ h'.objs.size; rw [hsz]; exact Nat.le_add_right _ _) keep hS hla hG hacc
        exact ⟨.ref _, H', J, rfl, q1 H' _ as ZL⟩
end
end LZ
/-! ### a number that may be a bool: + 1, - 1, -, str -/
namespace NMB
open PySem PySem.Spec PyProof.Rows L2
def numOf : V → Option Int
  | .int i => some i
  | .bl k => some (if k = true then 1 else 0)
  | _ => none
def rNb (f : Int → Int → Int) : R2 := fun x y H Q => ∃ i j, numOf x = some i ∧ y = .int j ∧ Q (.int (f i j)) H
theorem numOf_or {x : V} {i : Int} (h : numOf x = some i) : x = .int i ∨ ∃ k : Bool, x = .bl k ∧ i = if k = true then 1 else 0 := by
  cases x with
  | int j => exact .inl (congrArg V.int (Option.some.inj h))
  | bl k => exact .inr ⟨k, rfl, (Option.some.inj h).symm⟩
  | _ => cases h
section
variable {X : Cx}
theorem op_addB : OpR X (binaryOp .Add) (rNb fun i j => i + j) := by
  intro pins s σ H x y v u Q I rx ry h
  obtain ⟨i, j, e, rfl, q⟩ := h
  obtain ⟨tu, rfl⟩ := ry
  rcases numOf_or e with rfl | ⟨k, rfl, rfl⟩
  · obtain ⟨t, rfl⟩ := rx
    exact add_int ⟨.int (i + j), H, I.tok _, ⟨_, rfl⟩, q⟩
  · cases rx
    exact PySem.IntBool.add_bool_int ⟨.int _, H, I.tok _, ⟨_, rfl⟩, q⟩
theorem op_subB : OpR X (binaryOp .Sub) (rNb fun i j => i - j) := by
  intro pins s σ H x y v u Q I rx ry h
  obtain ⟨i, j, e, rfl, q⟩ := h
  obtain ⟨tu, rfl⟩ := ry
  rcases numOf_or e with rfl | ⟨k, rfl, rfl⟩
  · obtain ⟨t, rfl⟩ := rx
    exact sub_int ⟨.int (i - j), H, I.tok _, ⟨_, rfl⟩, q⟩
  · cases rx
    exact PySem.IntBool.sub_bool_int ⟨.int _, H, I.tok _, ⟨_, rfl⟩, q⟩
theorem gives_neg_bool (b : Bool) : Gives (Builtin.«int.__neg__» ⟨[.bool b], []⟩) (.int (-(if b = true then (1 : Int) else 0))) := by
  cases b <;> exact .of_eq rfl
theorem un_negB : UnR X (unaryOp .USub) (fun x H Q => ∃ i, numOf x = some i ∧ Q (.int (-i)) H) := by
  intro pins s σ H x v Q I rx h
  obtain ⟨i, e, q⟩ := h
  rcases numOf_or e with rfl | ⟨k, rfl, rfl⟩
  · obtain ⟨t, rfl⟩ := rx
    exact neg_int ⟨.int (-i), H, I.tok _, ⟨_, rfl⟩, q⟩
  · cases rx
    exact unaryOp_gives (op := .USub) rfl rfl F.slot_bool_neg F.entry_int_neg (F.args_int_neg_1 _) (gives_neg_bool k) ⟨.int _, H, I.tok _, ⟨_, rfl⟩, q⟩
theorem asc_int (i : Int) : ∀ c ∈ TL.tl (Str.ofString (toString i)), c < 128 := fun c hc => by
  have hc : c ∈ (toString i).toList.map Char.toNat := by
    rw [← signs_ofString]
    exact hc
  obtain ⟨ch, h, rfl⟩ := List.mem_map.mp hc
  rcases int_sign i ch h with d | d
  · have := (digit_range d).2
    omega
  · rw [d]
    decide
theorem call_strB : CallR X (.type "str") (fun xs H Q => ∃ x i, xs = [x] ∧ numOf x = some i ∧ i.natAbs.log2 < 1920 ∧ ∀ z : Str, (∀ c ∈ TL.tl z, c < 128) → z.length ≤ (Str.ofString (toString i)).length + 4 → Q (.str z) H) := by
  intro pins s σ H xs us Q I r h
  obtain ⟨x, i, rfl, e, hz, q⟩ := h
  obtain ⟨u, rfl, ru⟩ := vals1 r
  rcases numOf_or e with rfl | ⟨k, rfl, rfl⟩
  · obtain ⟨t, rfl⟩ := ru
    exact PySem.P.str_of_int hz ⟨.str _, H, I.tok _, ⟨_, rfl⟩, q _ (asc_int i) (Nat.le_add_right _ _)⟩
  · cases ru
    refine PySem.P.str_of_bool ⟨.str _, H, I.tok _, ⟨_, rfl⟩, q _ ?_ ?_⟩
    · cases k <;> decide +kernel
    · cases k <;> decide +kernel
end
end NMB
theorem kk_catA (K : PySem.W.Frag) {X : L2.Cx} (h : X.K = K := by rfl) : L2.OpR X (PySem.binaryOp .Add) (L2.rCatA K) := h ▸ L2.op_catA
/-! ### {x:02d} -/
def two (i : Int) : Str := if decide (i < 10) = true then (⟨#[48]⟩ : Str) ++ Str.ofString (toString i) else Str.ofString (toString i)
def tFmt02 (te : TE) : TE := fun σ H Q => te σ H fun x H1 => ∃ i : Int, x = .int i ∧ 0 ≤ i ∧ i < 100 ∧ Q (.str (two i)) H1
theorem pe_fmt02 {X : Cx} {e : Expr} {te : TE} {k : Nat} {p1 p2 pos : Pos} (zD : PySem.W.nsIn X.K cStatics "sys.int_max_str_digits" = some none) (he : PE X e te) :
    PE X (.FormattedValue e (-1) (some (.JoinedStr [.Constant (.str (Str.ofString "02d")) k p1] p2)) pos) (tFmt02 te) := by
  constructor
  intro pins s σ H Q I h
  refine wpAny_FormattedValue_spec (thn (he.run pins s σ H _ I h) ?_)
  rintro v s1 ⟨x, H1, I1, r1, i, rfl, h0, h1, q⟩
  obtain ⟨t, rfl⟩ := r1
  refine thn ((pe_fs1 (pe_str (X := X))).run pins s1 σ H1 (fun y H2 => y = .str (Str.ofString "02d") ∧ H2 = H1) I1 ⟨rfl, rfl⟩) ?_
  rintro r s2 ⟨y, H2, I2, r2, rfl, rfl⟩
  obtain ⟨t2, rfl⟩ := r2
  refine ⟨_, t2, rfl, ?_⟩
  have nd : s2.heap.NoDigits := by
    obtain ⟨mc, n1, _⟩ := I2.nolimit
    exact ⟨mc, n1, PySem.W.ns_none_of I2.kIn n1 zD⟩
  refine PyProof.Rows.formatField_int_specOf nd (PyProof.Rows.lt_digitLimit_of_lt (by omega)) (by decide +kernel) (fun W hW f => ?_) (by decide)
  have hW2 : W = 2 := hW.trans (by decide +kernel)
  rw [f.pad2 (by decide +kernel) hW2 h0 h1]
  exact ⟨.str (two i), H2, I2.tok _, ⟨_, rfl⟩, q⟩
/-! ### a text cut at most so many times -/
section
open PySem.StrLaws PySem.Builtin PySem.Builtin.Str
theorem occ_stay (s sub : Str) (hi limit : Nat) : ∀ (l : List Nat) (st : Array Nat × Nat), limit ≤ st.fst.size → (forIn l st (occBody s sub hi limit)).run.fst = st.fst
  | [], st, h => rfl
  | a :: l, st, h => by
    rw [List.forIn_cons]
    unfold occBody
    split
    · rename_i hc
      have := hc.1.1.1
      omega
    · exact occ_stay s sub hi limit l st h
theorem occ_pre (s sub : Str) (hi limit : Nat) : ∀ (l : List Nat) (st : Array Nat × Nat), st.fst.toList <+: (forIn l st (occBody s sub hi limit)).run.fst.toList
  | [], st => List.prefix_refl _
  | a :: l, st => by
    rw [List.forIn_cons]
    unfold occBody
    split
    · refine List.IsPrefix.trans ?_ (occ_pre s sub hi limit l _)
      show st.fst.toList <+: (st.fst.push a).toList
      rw [Array.toList_push]
      exact List.prefix_append _ _
    · exact occ_pre s sub hi limit l st
theorem occ_take (s sub : Str) (hi : Nat) {n N : Nat} (h : n ≤ N) : ∀ (l : List Nat) (st : Array Nat × Nat), st.fst.size ≤ n →
    (forIn l st (occBody s sub hi n)).run.fst.toList = ((forIn l st (occBody s sub hi N)).run.fst.toList).take n
  | [], st, hs => by
    show st.fst.toList = st.fst.toList.take n
    rw [List.take_of_length_le (by rw [Array.length_toList]; exact hs)]
  | a :: l, st, hs => by
    by_cases e : st.fst.size = n
    · rw [occ_stay s sub hi n (a :: l) st (by omega)]
      obtain ⟨r, hr⟩ := occ_pre s sub hi N (a :: l) st
      rw [← hr, List.take_append_of_le_length (by rw [Array.length_toList]; omega), List.take_of_length_le (by rw [Array.length_toList]; omega)]
    · rw [List.forIn_cons, List.forIn_cons]
      unfold occBody
      split
      · rename_i hc
        rw [if_pos ⟨⟨⟨by have := hc.1.1.1; omega, hc.1.1.2⟩, hc.1.2⟩, hc.2⟩]
        refine occ_take s sub hi h l _ ?_
        show (st.fst.push a).size ≤ n
        rw [Array.size_push]
        omega
      · rename_i hc
        rw [if_neg (fun z => hc ⟨⟨⟨by omega, z.1.1.2⟩, z.1.2⟩, z.2⟩)]
        exact occ_take s sub hi h l st hs
theorem occ_cap (x y : Str) {n N : Nat} (h : n ≤ N) : occurrences x y 0 x.length n = (occurrences x y 0 x.length N).take n := by
  rw [occ_eq, occ_eq]
  exact occ_take x y x.length h _ _ (Nat.zero_le _)
/-- the first n parts, and the rest as one -/
def cap (y : Str) : Nat → List Str → List Str
  | 0, L => [Str.join y L]
  | _ + 1, [] => []
  | _ + 1, [a] => [a]
  | n + 1, a :: b :: r => a :: cap y n (b :: r)
theorem join_from (x y : Str) : ∀ (cuts : List Nat) (a f : Nat), ChainG x y x.length a cuts f → Str.join y (partsFrom x y.length a cuts) = strSub x a x.length
  | [], a, f, h => rfl
  | c :: r, a, f, h => by
    obtain ⟨h1, h2, h3, h4⟩ := h
    have ih := join_from x y r (c + y.length) f h4
    show Str.join y (strSub x a c :: partsFrom x y.length (c + y.length) r) = _
    obtain ⟨p, q, e⟩ := partsFrom_ne x y.length (c + y.length) r
    rw [e] at ih ⊢
    show strSub x a c ++ y ++ Str.join y (p :: q) = _
    rw [ih]
    exact sub_cat x y h1 h2
theorem parts_cap (x y : Str) : ∀ (n : Nat) (cuts : List Nat) (a f : Nat), ChainG x y x.length a cuts f → partsFrom x y.length a (cuts.take n) = cap y n (partsFrom x y.length a cuts)
  | 0, cuts, a, f, h => by
    rw [List.take_zero]
    show [strSub x a x.length] = [Str.join y (partsFrom x y.length a cuts)]
    rw [join_from x y cuts a f h]
  | n + 1, [], a, f, h => rfl
  | n + 1, c :: r, a, f, h => by
    obtain ⟨h1, h2, h3, h4⟩ := h
    have ih := parts_cap x y n r (c + y.length) f h4
    rw [List.take_succ_cons]
    show strSub x a c :: partsFrom x y.length (c + y.length) (r.take n) = cap y (n + 1) (strSub x a c :: partsFrom x y.length (c + y.length) r)
    obtain ⟨p, q, e⟩ := partsFrom_ne x y.length (c + y.length) r
    rw [ih, e]
    rfl
theorem splitMax_cap (x y : Str) (hy : 1 ≤ y.length) (n : Nat) (hn : 1 ≤ n) : Txt.splitMax x y (n : Int) = cap y n (Txt.split x y) := by
  have one : cap y n [x] = [x] := by
    cases n with
    | zero => omega
    | succ n => rfl
  have hl : PySem.limitOf x (n : Int) = n := by
    unfold PySem.limitOf
    rw [if_neg (by omega)]
    rfl
  unfold Txt.splitMax Txt.split
  rw [hl]
  split
  · exact one.symm
  · have e1 := occ_cap x y (n := n) (N := max n (x.length + 1)) (Nat.le_max_left _ _)
    have e2 := occ_cap x y (n := x.length + 1) (N := max n (x.length + 1)) (Nat.le_max_right _ _)
    rw [List.take_of_length_le (by have := occ_length_le_len x y 0 x.length (max n (x.length + 1)); omega)] at e2
    rw [← e2] at e1
    obtain ⟨f, g, hno⟩ := occ_tight x y hy
    rw [e1]
    generalize occurrences x y 0 x.length (x.length + 1) = cuts at *
    cases cuts with
    | nil => 
      rw [List.take_nil, if_pos (show ([] : List Nat).isEmpty = true from rfl), one]
    | cons c r =>
      rw [if_neg (show ¬ (List.take n (c :: r)).isEmpty = true from by cases n with | zero => omega | succ n => exact Bool.false_ne_true), if_neg (show ¬ (c :: r).isEmpty = true from Bool.false_ne_true), partsBetween_eq, partsBetween_eq]
      exact parts_cap x y n (c :: r) 0 f g
end
/-! ### pence as texts -/
def ptL (n : Nat) : List Nat := TL.numL (n / 60) ++ [47, 48 + n % 60 / 10, 48 + n % 60 % 10]
def ptS (n : Nat) : Str := ⟨(ptL n).toArray⟩
theorem log_small {i : Int} (h : i.natAbs < 2 ^ 64) : i.natAbs.log2 < 1920 := by
  by_cases h0 : i.natAbs = 0
  · rw [h0]
    decide
  · exact Nat.lt_of_lt_of_le ((Nat.log2_lt h0).mpr h) (by decide)
theorem tl_two {i : Int} (h0 : 0 ≤ i) (h1 : i < 100) : TL.tl (two i) = [48 + i.toNat / 10, 48 + i.toNat % 10] := by
  obtain ⟨n, rfl⟩ := Int.eq_ofNat_of_zero_le h0
  unfold two
  rw [Int.toNat_natCast]
  by_cases h : n < 10
  · rw [if_pos (decide_eq_true (by omega)), TL.tl_append, TL.tl_num, TL.numL_lt h]
    show [48, 48 + n] = _
    rw [show n / 10 = 0 by omega, show n % 10 = n by omega]
  · rw [if_neg (by rw [decide_eq_true_eq]; omega), TL.tl_num, TL.numL_step (by omega), TL.numL_lt (by omega)]
    rfl
theorem pcpt_made (n : Nat) : (Str.empty ++ Str.ofString (toString ((n : Int) / 60)) ++ Str.ofString "/" ++ two ((n : Int) % 60)) = ptS n := by
  have e1 : ((n : Int) / 60) = ((n / 60 : Nat) : Int) := by omega
  have e2 : ((n : Int) % 60) = ((n % 60 : Nat) : Int) := by omega
  refine TL.ext_tl ?_
  rw [TL.tl_append, TL.tl_append, TL.tl_append, tl_two (by omega) (by omega), e1, e2, TL.tl_num, Int.toNat_natCast]
  show [] ++ TL.numL (n / 60) ++ [47] ++ [48 + n % 60 / 10, 48 + n % 60 % 10] = ptL n
  unfold ptL
  simp
theorem pcpt_len {n : Nat} (h : n ≤ 1000000000) : (ptS n).length ≤ 30 := by
  rw [TL.len_tl]
  show (ptL n).length ≤ 30
  unfold ptL
  have h1 := TL.numL_len (n := n / 60) (k := 10) (by decide) (by omega)
  rw [List.length_append]
  show _ + 3 ≤ 30
  omega
theorem fst_cut : ∀ {a a' b b' : List Nat}, 47 ∉ a → 47 ∉ a' → a ++ 47 :: b = a' ++ 47 :: b' → a = a' ∧ b = b'
  | [], [], b, b', _, _, h => ⟨rfl, (List.cons.inj h).2⟩
  | [], c :: a', b, b', _, h2, h => by
    have e := (List.cons.inj h).1
    exact absurd (e ▸ List.mem_cons_self) h2
  | c :: a, [], b, b', h1, _, h => by
    have e := (List.cons.inj h).1
    exact absurd (e ▸ List.mem_cons_self) h1
  | c :: a, d :: a', b, b', h1, h2, h => by
    obtain ⟨e, r⟩ := List.cons.inj h
    obtain ⟨e2, e3⟩ := fst_cut (fun z => h1 (List.mem_cons_of_mem _ z)) (fun z => h2 (List.mem_cons_of_mem _ z)) r
    exact ⟨by rw [e, e2], e3⟩
theorem pcpt_cut {n : Nat} {a b : List Nat} (h : 47 ∉ a) (e : a ++ 47 :: b = ptL n) : a = TL.numL (n / 60) ∧ b = [48 + n % 60 / 10, 48 + n % 60 % 10] := by
  unfold ptL at e
  exact fst_cut h (TL.numL_free (by omega)) e
theorem pcpt_val {n : Nat} {a b : List Nat} (h : 47 ∉ a) (e : a ++ 47 :: b = ptL n) : NumText.digitsVal a * 60 + NumText.digitsVal b = n := by
  obtain ⟨e1, e2⟩ := pcpt_cut h e
  rw [e1, e2, TL.numL_val]
  show n / 60 * 60 + ((0 * 10 + (48 + n % 60 / 10 - 48)) * 10 + (48 + n % 60 % 10 - 48)) = n
  omega
theorem pcpt_inj {m n : Nat} (h : ptS m = ptS n) : m = n := by
  have e : ptL m = ptL n := congrArg TL.tl h
  have e2 := pcpt_val (n := n) (a := TL.numL (m / 60)) (b := [48 + m % 60 / 10, 48 + m % 60 % 10]) (TL.numL_free (by omega)) e
  have e3 := pcpt_val (n := m) (a := TL.numL (m / 60)) (b := [48 + m % 60 / 10, 48 + m % 60 % 10]) (TL.numL_free (by omega)) rfl
  omega
theorem first_47 : ∀ l : List Nat, 47 ∈ l → ∃ a b, l = a ++ 47 :: b ∧ 47 ∉ a
  | [], h => by cases h
  | c :: r, h => by
    by_cases e : c = 47
    · exact ⟨[], r, by rw [e]; rfl, fun z => (nomatch z)⟩
    · obtain ⟨a, b, e1, e2⟩ := first_47 r (by
        rcases List.mem_cons.mp h with z | z
        · exact absurd z.symm e
        · exact z)
      refine ⟨c :: a, b, by rw [e1]; rfl, fun z => ?_⟩
      rcases List.mem_cons.mp z with z | z
      · exact e z.symm
      · exact e2 z
theorem par_47 (l : List Nat) : (47 ∉ l ∧ TL.par [47] [] l = none) ∨ ∃ a b, 47 ∉ a ∧ l = a ++ 47 :: b ∧ TL.par [47] [] l = some (a, b) := by
  by_cases h : 47 ∈ l
  · obtain ⟨a, b, e, ha⟩ := first_47 l h
    exact .inr ⟨a, b, ha, e, by rw [e]; exact TL.par_part1 (S := []) ha⟩
  · exact .inl ⟨h, TL.par_none1 h⟩
/-! ### zip of a list and a tuple, of a text and a list -/
end Pw
namespace ZM
open PySem PySem.Spec PyProof.Rows L2
/-- what a zip draws of -/
structure Src (P : Program) (w : World) (K : PySem.W.Frag) (ad : List Addr) where
  St : Addr → Nat → Heap → Prop
  At : Nat → V → Hp → Prop
  End : Nat → Hp → Prop
  Fact : Nat → V → Hp → Prop
  obj : ∀ it i h, St it i h → ∃ o, h.get? it = some o ∧ ∀ v, o.data ≠ .cell v
  keep : ∀ it i h h', St it i h → (∀ o, h.get? it = some o → h'.get? it = some o) → St it i h'
  item : ∀ (X : Cx), X.prog = P → X.w = w → X.K = K → ∀ (pins : List (Addr × Obj)) (s : Shared) (σ : L2.St) (H : Hp), Inv X pins σ H s → ∀ (A : Around), A.handled = none → ∀ (it : Addr) (i : Nat) (x : V), (∀ a ∈ ad, a ≠ it) → St it i s.heap → At i x H →
    Fact i x H ∧ ∃ (n : Nat) (Pv : Nat → Value → Prop) (Sv : Nat → Heap → Prop), Draws P w A it (it :: ad) n Pv Sv ∧ i < n ∧ Sv i s.heap ∧ (∀ v, Pv i v → RelV x v) ∧ ∀ h, Sv (i + 1) h → St it (i + 1) h
  stop : ∀ (X : Cx), X.prog = P → X.w = w → X.K = K → ∀ (pins : List (Addr × Obj)) (s : Shared) (σ : L2.St) (H : Hp), Inv X pins σ H s → ∀ (A : Around), A.handled = none → ∀ (it : Addr) (i : Nat), (∀ a ∈ ad, a ≠ it) → St it i s.heap → End i H →
    ∃ (n : Nat) (Pv : Nat → Value → Prop) (Sv : Nat → Heap → Prop), Draws P w A it (it :: ad) n Pv Sv ∧ i = n ∧ Sv i s.heap
def itOf (A1 A2 F1 F2 : Nat → V → Hp → Prop) (E1 E2 : Nat → Hp → Prop) : It :=
  ⟨fun i H => ∃ x y, A1 i x H ∧ A2 i y H,
    fun i H v H' => ∃ T x y, v = .ref T ∧ H T = none ∧ H' = upd H T (.tup [x, y]) ∧ F1 i x H ∧ F2 i y H,
    fun i H => (E1 i H ∧ (E2 i H ∨ ∃ y, A2 i y H)) ∨ (E2 i H ∧ ∃ x, A1 i x H)⟩
theorem turn_zipM {P : Program} {w : World} {K : PySem.W.Frag} {elts : List Expr} {kk : Nat} {tpos : Pos} {ad1 ad2 : List Addr} (S1 : Src P w K ad1) (S2 : Src P w K ad2) {z TI TO i1 i2 : Addr} (D : ZipSep2 z TI TO i1 i2 (i1 :: ad1) (i2 :: ad2)) (q1 : ∀ a ∈ ad1, a ≠ i1) (q2 : ∀ a ∈ ad2, a ≠ i2) :
    Turn P w K (.Tuple elts kk tpos) (itOf S1.At S2.At S1.Fact S2.Fact S1.End S2.End) [z, TI, TO, i1, i2] z (fun i h => IsZip h z TI TO .none ∧ IsTupOf2 h TI (.ref i1) (.ref i2) ∧ (∃ x y, IsTupOf2 h TO x y) ∧ S1.St i1 i h ∧ S2.St i2 i h) where
  mem := by simp
  obj := fun i h st c hc => by
    obtain ⟨hz, hTI, ⟨x, y, hTO⟩, h1, h2⟩ := st
    have e' : c = z ∨ c = TI ∨ c = TO ∨ c = i1 ∨ c = i2 := by simpa using hc
    rcases e' with q | q | q | q | q
    · rw [q]; exact ⟨_, hz, fun v q => nomatch q⟩
    · rw [q]; exact ⟨_, hTI, fun v q => nomatch q⟩
    · rw [q]; exact ⟨_, hTO, fun v q => nomatch q⟩
    · rw [q]; exact S1.obj _ _ _ h1
    · rw [q]; exact S2.obj _ _ _ h2
  keep := fun i h h' st k => by
    obtain ⟨hz, hTI, ⟨x, y, hTO⟩, h1, h2⟩ := st
    exact ⟨k z (by simp) _ hz, k TI (by simp) _ hTI, ⟨x, y, k TO (by simp) _ hTO⟩, S1.keep _ _ _ _ h1 fun o q => k i1 (by simp) o q, S2.keep _ _ _ _ h2 fun o q => k i2 (by simp) o q⟩
  item := by
    intro X hP hw hK hc i pins s σ H E I hf st hg
    obtain ⟨hz, hTI, ⟨x0, y0, hTO⟩, h1, h2⟩ := st
    obtain ⟨x, y, hx, hy⟩ := hg
    have hd := I.ok.hd hc
    obtain ⟨f1, n1, P1, V1, D1, l1, e1, r1, b1⟩ := S1.item X hP hw hK pins s σ H I X.A.in1 hd i1 i x q1 h1 hx
    obtain ⟨f2, n2, P2, V2, D2, l2, e2, r2, b2⟩ := S2.item X hP hw hK pins s σ H I X.A.in1 hd i2 i y q2 h2 hy
    subst hP hw hK
    have hzl : z < s.heap.objs.size := Heap.lt_size hz
    refine wpAny_pyNext_zipD2_item D D1 D2 hz hTI hTO e1 e2 l1 l2 fun u u2 h' tk hu hu2 z' TO' g1 g2 hT hsz hk => ?_
    refine ⟨_, rfl, wpAny_letOwnedTupleGo_zip (s := { s with heap := h', toks := tk }) z' fun h'' z'' sb => ?_⟩
    have hT2 : h''.get? s.heap.objs.size = some { cls := .type "tuple", data := .seq #[u, u2] } := (sb.2 _ (Nat.ne_of_gt hzl)).trans hT
    have new : ObjOk X.prog X.w (upd H s.heap.objs.size (.tup [x, y])) h'' s.heap.objs.size (.tup [x, y]) :=
      ⟨by show 2 ≤ sizeLine; decide, [u, u2], .cons (r1 _ hu) (.cons (r2 _ hu2) .nil), ⟨_, hT2, rfl, _, rfl⟩⟩
    have I1 : Inv X pins σ (upd H s.heap.objs.size (.tup [x, y])) { s with heap := h'', toks := tk } :=
      I.turnedNew (t' := tk) (ch := [z, TI, TO, i1, i2]) (fun c o hb q => (sb.2 c (fun q' => hb (by simp [q']))).trans (hk c o (fun q' => hb (by simp [q'])) (fun q' => hb (by simp [q'])) (fun q' => hb (by simp [q'])) (fun q' => hb (by simp [q'])) q)) hf (Nat.le_refl _) new
    refine ⟨.ref s.heap.objs.size, _, I1, rfl, ⟨_, x, y, rfl, I.hok.fresh (Nat.le_refl _), rfl, f1, f2⟩, ⟨z'', ?_, ⟨u, u2, ?_⟩, ?_, ?_⟩, fun c hcm => ?_⟩
    · exact (sb.2 _ D.TIz).trans (hk _ _ D.TIz D.TITO D.TIi1 D.TIi2 hTI)
    · exact (sb.2 _ D.TOz).trans TO'
    · exact S1.keep _ _ _ _ (b1 _ g1) fun o q => (sb.2 _ D.zi1.symm).trans q
    · exact S2.keep _ _ _ _ (b2 _ g2) fun o q => (sb.2 _ D.zi2.symm).trans q
    · have hlt : c < s.heap.objs.size := by
        have e' : c = z ∨ c = TI ∨ c = TO ∨ c = i1 ∨ c = i2 := by simpa using hcm
        rcases e' with q | q | q | q | q
        · rw [q]; exact hzl
        · rw [q]; exact Heap.lt_size hTI
        · rw [q]; exact Heap.lt_size hTO
        · rw [q]; obtain ⟨_, e1, _⟩ := S1.obj _ _ _ h1; exact Heap.lt_size e1
        · rw [q]; obtain ⟨_, e2, _⟩ := S2.obj _ _ _ h2; exact Heap.lt_size e2
      rw [upd_ne (Nat.ne_of_lt hlt)]
      exact (hf c hcm).1
  done := by
    intro X hP hw hK hc i pins s σ H E I hf st hg
    obtain ⟨hz, hTI, ⟨x0, y0, hTO⟩, h1, h2⟩ := st
    have hd := I.ok.hd hc
    have fin : ∀ {n1 n2 : Nat} {P1 P2 : Nat → Value → Prop} {V1 V2 : Nat → Heap → Prop}, Draws P w X.A.in1 i1 (i1 :: ad1) n1 P1 V1 → Draws P w X.A.in1 i2 (i2 :: ad2) n2 P2 V2 → V1 i s.heap → V2 i s.heap → i ≤ n1 → i ≤ n2 → (i = n1 ∨ i = n2) →
        wpAny (model P w) X.A (pyNext (.ref z)) (fun r s1 => r = none ∧ Inv X pins σ H s1) E s := fun D1 D2 e1 e2 l1 l2 le => by
      refine wpAny_pyNext_zipD2_end D D1 D2 hz hTI hTO e1 e2 l1 l2 le fun h' tk hk => ⟨rfl, I.turnedL (t' := tk) (ch := [z, TI, TO, i1, i2]) (fun c o hb q =>
        hk c o (fun q' => hb (by simp [q'])) (fun q' => hb (by simp [q'])) (fun q' => hb (by simp [q'])) (fun q' => hb (by simp [q'])) q) hf⟩
    rcases hg with ⟨g1, g2 | ⟨y, g2⟩⟩ | ⟨g2, x, g1⟩
    · obtain ⟨n1, P1, V1, D1, l1, e1⟩ := S1.stop X hP hw hK pins s σ H I X.A.in1 hd i1 i q1 h1 g1
      obtain ⟨n2, P2, V2, D2, l2, e2⟩ := S2.stop X hP hw hK pins s σ H I X.A.in1 hd i2 i q2 h2 g2
      exact fin D1 D2 e1 e2 (Nat.le_of_eq l1) (Nat.le_of_eq l2) (.inl l1)
    · obtain ⟨n1, P1, V1, D1, l1, e1⟩ := S1.stop X hP hw hK pins s σ H I X.A.in1 hd i1 i q1 h1 g1
      obtain ⟨f2, n2, P2, V2, D2, l2, e2, r2, b2⟩ := S2.item X hP hw hK pins s σ H I X.A.in1 hd i2 i y q2 h2 g2
      exact fin D1 D2 e1 e2 (Nat.le_of_eq l1) (Nat.le_of_lt l2) (.inl l1)
    · obtain ⟨f1, n1, P1, V1, D1, l1, e1, r1, b1⟩ := S1.item X hP hw hK pins s σ H I X.A.in1 hd i1 i x q1 h1 g1
      obtain ⟨n2, P2, V2, D2, l2, e2⟩ := S2.stop X hP hw hK pins s σ H I X.A.in1 hd i2 i q2 h2 g2
      exact fin D1 D2 e1 e2 (Nat.le_of_lt l1) (Nat.le_of_eq l2) (.inr l2)
  self := fun A i s Q E st h => wpAny_pyIter_zip st.1 h
/-! the three sorts -/
section
variable {P : Program} {w : World} {K : PySem.W.Frag}
def AtL (K : PySem.W.Frag) (a : Addr) : Nat → V → Hp → Prop := fun i x H => ∃ xs, SqL K H a xs ∧ xs[i]? = some x
def EndL (K : PySem.W.Frag) (a : Addr) : Nat → Hp → Prop := fun i H => ∃ xs, SqL K H a xs ∧ xs.length = i
def FactL (K : PySem.W.Frag) (a : Addr) : Nat → V → Hp → Prop := fun i x H => ∀ xs, SqL K H a xs → xs[i]? = some x
def AtT (K : PySem.W.Frag) (a : Addr) : Nat → V → Hp → Prop := fun i x H => ∃ xs, SqT K H a xs ∧ xs[i]? = some x
def EndT (K : PySem.W.Frag) (a : Addr) : Nat → Hp → Prop := fun i H => ∃ xs, SqT K H a xs ∧ xs.length = i
def FactT (K : PySem.W.Frag) (a : Addr) : Nat → V → Hp → Prop := fun i x H => ∀ xs, SqT K H a xs → xs[i]? = some x
def AtS (z : Str) : Nat → V → Hp → Prop := fun i x _ => ∃ c, z.cps[i]? = some c ∧ x = .str ⟨#[c]⟩
def EndS (z : Str) : Nat → Hp → Prop := fun i _ => z.cps.size = i
def srcL (a : Addr) : Src P w K [a] where
  St := fun it i h => h.IsListIter it a i
  At := AtL K a
  End := EndL K a
  Fact := FactL K a
  obj := fun it i h st => by
    obtain ⟨o1, e1, _, d1⟩ := st
    exact ⟨o1, e1, fun v q => by rw [d1] at q; cases q⟩
  keep := fun it i h h' st k => st.at k
  item := fun X hP hw hK pins s σ H I A hh it i x ne st hx => by
    subst hP hw hK
    obtain ⟨xs, hq, hx⟩ := hx
    obtain ⟨its, rv, p, _⟩ := I.list hq
    obtain ⟨u, hu, ru⟩ := rv.get hx
    refine ⟨fun l hl => by rw [I.list_inj hl hq]; exact hx, _, _, _, Draws.list hh it a (ne a (by simp)) its.toArray, ?_, ⟨st, p.isList⟩, fun v hv => ?_, fun h st => st.1⟩
    · rw [List.size_toArray]
      exact (List.getElem?_eq_some_iff.mp hu).1
    · have hv : its[i]? = some v := by simpa using hv
      rw [hu] at hv
      cases hv
      exact ru
  stop := fun X hP hw hK pins s σ H I A hh it i ne st hx => by
    subst hP hw hK
    obtain ⟨xs, hq, hx⟩ := hx
    obtain ⟨its, rv, p, _⟩ := I.list hq
    exact ⟨_, _, _, Draws.list hh it a (ne a (by simp)) its.toArray, by rw [List.size_toArray, ← rv.length, hx], st, p.isList⟩
def srcT (a : Addr) : Src P w K [a] where
  St := fun it i h => h.IsTupleIter it a i
  At := AtT K a
  End := EndT K a
  Fact := FactT K a
  obj := fun it i h st => by
    obtain ⟨o1, e1, _, d1⟩ := st
    exact ⟨o1, e1, fun v q => by rw [d1] at q; cases q⟩
  keep := fun it i h h' st k => st.at k
  item := fun X hP hw hK pins s σ H I A hh it i x ne st hx => by
    subst hP hw hK
    obtain ⟨xs, hq, hx⟩ := hx
    obtain ⟨its, rv, p, _⟩ := I.tuple hq
    obtain ⟨u, hu, ru⟩ := rv.get hx
    have p2 : s.heap.IsTuple a its.toArray := p
    refine ⟨fun l hl => by rw [I.tuple_inj hl hq]; exact hx, _, _, _, Draws.tuple hh it a (ne a (by simp)) its.toArray, ?_, ⟨st, p2⟩, fun v hv => ?_, fun h st => st.1⟩
    · rw [List.size_toArray]
      exact (List.getElem?_eq_some_iff.mp hu).1
    · have hv : its[i]? = some v := by simpa using hv
      rw [hu] at hv
      cases hv
      exact ru
  stop := fun X hP hw hK pins s σ H I A hh it i ne st hx => by
    subst hP hw hK
    obtain ⟨xs, hq, hx⟩ := hx
    obtain ⟨its, rv, p, _⟩ := I.tuple hq
    have p2 : s.heap.IsTuple a its.toArray := p
    exact ⟨_, _, _, Draws.tuple hh it a (ne a (by simp)) its.toArray, by rw [List.size_toArray, ← rv.length, hx], st, p2⟩
def srcS (z : Str) : Src P w K [] where
  St := fun it i h => ∃ t, h.IsStrIter it (strIterType z) z t i
  At := AtS z
  End := EndS z
  Fact := AtS z
  obj := fun it i h st => by
    obtain ⟨t, o1, e1, _, d1⟩ := st
    exact ⟨o1, e1, fun v q => by rw [d1] at q; cases q⟩
  keep := fun it i h h' st k => by
    obtain ⟨t, o1, e1, r⟩ := st
    exact ⟨t, o1, k _ e1, r⟩
  item := fun X hP hw hK pins s σ H I A hh it i x ne st hx => by
    subst hP hw hK
    obtain ⟨c, hc, rfl⟩ := id hx
    obtain ⟨t, st⟩ := st
    refine ⟨hx, _, _, _, Draws.text hh it z t, (Array.getElem?_eq_some_iff.mp hc).1, st, fun v hv => ?_, fun h st => ⟨t, st⟩⟩
    obtain ⟨d, u, hd, rfl⟩ := hv
    rw [hc] at hd
    cases hd
    exact ⟨u, rfl⟩
  stop := fun X hP hw hK pins s σ H I A hh it i ne st hx => by
    subst hP hw hK
    obtain ⟨t, st⟩ := st
    exact ⟨_, _, _, Draws.text hh it z t, hx.symm, st⟩
end
def ItLT (K : PySem.W.Frag) (a b : Addr) : It := itOf (AtL K a) (AtT K b) (FactL K a) (FactT K b) (EndL K a) (EndT K b)
def ItSL (K : PySem.W.Frag) (z : Str) (b : Addr) : It := itOf (AtS z) (AtL K b) (AtS z) (FactL K b) (EndS z) (EndL K b)
def iZipLT (K : PySem.W.Frag) (ta : TA) : TI := fun σ H R => ta σ H fun vs H1 => ∃ a b xs ys, vs = [.ref a, .ref b] ∧ SqL K H1 a xs ∧ SqT K H1 b ys ∧ R (ItLT K a b) H1
def iZipSL (K : PySem.W.Frag) (ta : TA) : TI := fun σ H R => ta σ H fun vs H1 => ∃ z b ys, vs = [.str z, .ref b] ∧ SqL K H1 b ys ∧ R (ItSL K z b) H1
section
variable {X : Cx} {e e2 : Expr} {ta : TA} {p pos tpos : Pos} {elts : List Expr} {kk : Nat}
theorem pie_mix {pins : List (Addr × Obj)} {σ : L2.St} {H1 : Hp} {s1 : Shared} {R : It → Hp → Prop} {ad1 ad2 : List Addr} (I1 : Inv X pins σ H1 s1) (S1 : Src X.prog X.w X.K ad1) (S2 : Src X.prog X.w X.K ad2) {v1 v2 : Value} {o1 o2 : Obj} {P1 P2 : Heap → Prop} (B1 : Begins v1 o1 P1) (B2 : Begins v2 o2 P2) (h1 : P1 s1.heap) (h2 : P2 s1.heap)
    (l1 : ∀ a ∈ ad1, a < s1.heap.objs.size) (l2 : ∀ a ∈ ad2, a < s1.heap.objs.size) (b1 : ∀ it h', h'.get? it = some o1 → S1.St it 0 h') (b2 : ∀ it h', h'.get? it = some o2 → S2.St it 0 h') (q : R (itOf S1.At S2.At S1.Fact S2.Fact S1.End S2.End) H1) :
    wpAny (model X.prog X.w) X.A (call (.type "zip") [v1, v2]) (fun v s2 => wpAny (model X.prog X.w) X.A (pyIter v) (PIE X pins σ (.Tuple elts kk tpos) R) X.xe s2) X.xe s1 := by
  have fresh5 : ∀ c, c ∈ [s1.heap.objs.size + 4, s1.heap.objs.size + 2, s1.heap.objs.size + 3, s1.heap.objs.size, s1.heap.objs.size + 1] → FpOk X pins H1 c := fun c hcm => by
    have e' : c = s1.heap.objs.size + 4 ∨ c = s1.heap.objs.size + 2 ∨ c = s1.heap.objs.size + 3 ∨ c = s1.heap.objs.size ∨ c = s1.heap.objs.size + 1 := by simpa using hcm
    have hle : s1.heap.objs.size ≤ c := by
      rcases e' with z | z | z | z | z
      · rw [z]; exact Nat.le_add_right _ _
      · rw [z]; exact Nat.le_add_right _ _
      · rw [z]; exact Nat.le_add_right _ _
      · rw [z]; exact Nat.le_refl _
      · rw [z]; exact Nat.le_add_right _ _
    exact I1.fpOk hle (I1.hok.fresh hle)
  refine zip_begins2 B1 B2 h1 h2 fun h' hz hTI hTO g1 g2 hsz hk => wpAny_pyIter_zip hz ?_
  have I2 : Inv X pins σ H1 { s1 with heap := h' } := I1.kept (t' := s1.toks) hk
  exact ⟨s1.heap.objs.size + 4, [s1.heap.objs.size + 4, s1.heap.objs.size + 2, s1.heap.objs.size + 3, s1.heap.objs.size, s1.heap.objs.size + 1], _, _, H1, rfl, I2, turn_zipM S1 S2 (zip_sep2 l1 l2) (fun a ha => Nat.ne_of_lt (l1 a ha)) (fun a ha => Nat.ne_of_lt (Nat.lt_succ_of_lt (l2 a ha))), ⟨hz, hTI, ⟨_, _, hTO⟩, b1 _ _ g1, b2 _ _ g2⟩, fresh5, q⟩
theorem pi_zipLT (hg : Gl X "zip") (hm : X.mg "zip" = none) (ha : PA X [e, e2] ta)
    (hs : starEach [e, e2] X.env = (false, eval e X.env) :: starEach [e2] X.env := by rfl) (hpl : (backTo pos (starEach [e2] X.env)).any (·.1) = false := by rfl) :
    PI X (.Tuple elts kk tpos) (.Call (.Name "zip" p) [e, e2] [] pos) (iZipLT X.K ta) := by
  refine ⟨fun pins s σ H R I h => ?_⟩
  refine Call_ (ld_blt I hg hm PyProof.Rows.boot_zip (PyProof.Rows.callWith_type1 (thn (ha.run pos pins s σ H _ I h) fun us s1 ⟨vs, H1, I1, r1, q1⟩ => ?_) hs hpl))
  obtain ⟨a, b, xs, ys, ex, hqx, hqy, q⟩ := q1
  subst ex
  cases r1 with
  | cons r rr =>
    cases rr with
    | cons r' rr =>
      cases rr
      cases r
      cases r'
      obtain ⟨its, rv, p1, _⟩ := I1.list hqx
      obtain ⟨its2, rv2, p2, _⟩ := I1.tuple hqy
      have p3 : s1.heap.IsTuple b its2.toArray := p2
      obtain ⟨o2, ho2, _⟩ := id p2
      exact pie_mix I1 (srcL a) (srcT b) (begins_list a its.toArray) (begins_tuple b its2.toArray) p1.isList p3 (fun c hc => by rw [List.mem_singleton.mp hc]; exact p1.lt) (fun c hc => by rw [List.mem_singleton.mp hc]; exact Heap.lt_size ho2) (fun it h' e => ⟨_, e, rfl, rfl⟩) (fun it h' e => ⟨_, e, rfl, rfl⟩) q
theorem pi_zipSL (hg : Gl X "zip") (hm : X.mg "zip" = none) (ha : PA X [e, e2] ta)
    (hs : starEach [e, e2] X.env = (false, eval e X.env) :: starEach [e2] X.env := by rfl) (hpl : (backTo pos (starEach [e2] X.env)).any (·.1) = false := by rfl) :
    PI X (.Tuple elts kk tpos) (.Call (.Name "zip" p) [e, e2] [] pos) (iZipSL X.K ta) := by
  refine ⟨fun pins s σ H R I h => ?_⟩
  refine Call_ (ld_blt I hg hm PyProof.Rows.boot_zip (PyProof.Rows.callWith_type1 (thn (ha.run pos pins s σ H _ I h) fun us s1 ⟨vs, H1, I1, r1, q1⟩ => ?_) hs hpl))
  obtain ⟨z, b, ys, ex, hqy, q⟩ := q1
  subst ex
  cases r1 with
  | cons r rr =>
    cases rr with
    | cons r' rr =>
      cases rr
      obtain ⟨t, rfl⟩ := r
      cases r'
      obtain ⟨its2, rv2, p2, _⟩ := I1.list hqy
      exact pie_mix I1 (srcS z) (srcL b) (begins_text z t) (begins_list b its2.toArray) trivial p2.isList (fun c hc => nomatch hc) (fun c hc => by rw [List.mem_singleton.mp hc]; exact p2.lt) (fun it h' e => ⟨t, _, e, rfl, rfl⟩) (fun it h' e => ⟨_, e, rfl, rfl⟩) q
end
section
variable {K : PySem.W.Frag} {H : Hp} {a b : Addr} {xs ys : List V} {z : Str} {i : Nat}
theorem canLT (x : SqL K H a xs) (y : SqT K H b ys) : (i < min xs.length ys.length → (ItLT K a b).go i H) ∧ (i = min xs.length ys.length → (ItLT K a b).stop i H) := by
  refine ⟨fun c => ⟨_, _, ⟨xs, x, List.getElem?_eq_getElem (by omega)⟩, ⟨ys, y, List.getElem?_eq_getElem (by omega)⟩⟩, fun c => ?_⟩
  by_cases h : xs.length ≤ ys.length
  · refine .inl ⟨⟨xs, x, by omega⟩, ?_⟩
    by_cases h2 : xs.length = ys.length
    · exact .inl ⟨ys, y, by omega⟩
    · exact .inr ⟨_, ys, y, List.getElem?_eq_getElem (by omega)⟩
  · exact .inr ⟨⟨ys, y, by omega⟩, _, xs, x, List.getElem?_eq_getElem (by omega)⟩
theorem canSL (y : SqL K H b ys) : (i < min z.length ys.length → (ItSL K z b).go i H) ∧ (i = min z.length ys.length → (ItSL K z b).stop i H) := by
  have ez : z.length = z.cps.size := rfl
  refine ⟨fun c => ⟨_, _, ⟨z.cps[i]'(by omega), Array.getElem?_eq_getElem _, rfl⟩, ⟨ys, y, List.getElem?_eq_getElem (by omega)⟩⟩, fun c => ?_⟩
  by_cases h : z.length ≤ ys.length
  · refine .inl ⟨by show z.cps.size = i; omega, ?_⟩
    by_cases h2 : z.length = ys.length
    · exact .inl ⟨ys, y, by omega⟩
    · exact .inr ⟨_, ys, y, List.getElem?_eq_getElem (by omega)⟩
  · exact .inr ⟨⟨ys, y, by omega⟩, _, z.cps[i]'(by omega), Array.getElem?_eq_getElem _, rfl⟩
end
end ZM
namespace Pw
open PySem PySem.Spec PyProof.Rows L2
def topS (i : Nat) : Stmt := PySem.Challenge.pw_partwares_k68_deeds_as_texts.main.body.getD i (.Pass ⟨0, 0, 0, 0⟩)
section
variable {P : Program} {w : World} {K : PySem.W.Frag} {mg : Str → Option Value} {base : Heap}
/-! ### is_number_in -/
abbrev s_is_number_in : Stmt := topS 19
abbrev N_is_number_in : List Str := ["thing", "low", "high"]
theorem sc_is_number_in : FnScope N_is_number_in ["thing", "low", "high"] (defScope s_is_number_in) := ⟨rfl, rfl, rfl, by decide +kernel, rfl, by decide +kernel, by decide +kernel⟩
def sp_is_number_in (K : PySem.W.Frag) : Sp := fun vs H Q _ => ∃ (x : V) (d : PyData) (lo hi : Int), vs = [x, .int lo, .int hi] ∧ Dp K H x d ∧ Q (.bl (numIn d lo hi)) H
theorem ok_is_number_in {f : Addr} {fd : FuncData} (F : Fun K "is_number_in" "is_number_in" s_is_number_in f fd) (g : mg "is_number_in" = some (.ref f)) (bd : Binds K fd ["thing", "low", "high"] []) (m_isinstance : mg "isinstance" = none) (m_bool : mg "bool" = none) (m_int : mg "int" = none) : CF P w K mg base 1 "is_number_in" ["thing", "low", "high"] (sp_is_number_in K) := by
  refine ⟨f, fd, F.ok sc_is_number_in (fun vs H Q E h => ?_) (fun cdv A outer s H vs Q E hr h => ?_), g, F.kp, bd⟩
  · first | (obtain ⟨_, rfl, _⟩ := h; rfl) | (obtain ⟨_, _, rfl, _⟩ := h; rfl) | (obtain ⟨_, _, _, rfl, _⟩ := h; rfl) | (obtain ⟨_, _, _, _, rfl, _⟩ := h; rfl) | (obtain ⟨_, _, _, _, _, rfl, _⟩ := h; rfl) | (obtain ⟨_, _, _, _, _, _, rfl, _⟩ := h; rfl) | (obtain ⟨_, _, _, _, _, _, _, rfl, _⟩ := h; rfl) | (obtain ⟨_, _, _, _, _, _, _, _, rfl, _⟩ := h; rfl) | (obtain ⟨_, _, _, _, _, _, _, _, _, rfl, _⟩ := h; rfl) | (obtain ⟨_, _, _, _, _, _, _, _, _, _, rfl, _⟩ := h; rfl) | (obtain ⟨_, _, _, _, _, _, _, _, _, _, _, rfl, _⟩ := h; rfl) | (obtain ⟨_, _, _, _, _, _, _, _, _, _, _, _, rfl, _⟩ := h; rfl) | (obtain ⟨_, _, _, _, _, _, _, _, _, _, _, _, _, rfl, _⟩ := h; rfl) | (obtain ⟨_, _, _, _, _, _, _, _, _, _, _, _, _, _, rfl, _⟩ := h; rfl) | (obtain ⟨_, _, _, _, _, _, _, _, _, _, _, _, _, _, _, rfl, _⟩ := h; rfl)
  · have hu64 := hr.units
    obtain ⟨x, d, lo, hi, rfl, hd, q⟩ := h
    refine ⟨_, (pss_one (ps_ret (pe_and (pe_callB (kk_isi K) (by rfl) m_isinstance (by decide +kernel) (pa_cons (pv 0) (pa_cons (pe_bltn (v := .ty "int") (by rfl) m_int (by decide +kernel) rfl) pa_nil))) (pe_and (pe_not (pe_callB (kk_isi K) (by rfl) m_isinstance (by decide +kernel) (pa_cons (pv 0) (pa_cons (pe_bltn (v := .ty "bool") (by rfl) m_bool (by decide +kernel) rfl) pa_nil)))) (pe_one (pe_chain op_le op_le (pv 1) (pv 0) (pv 2))))))), ?_⟩
    have k1 := kit_d (K := K) (T := "int") (by decide) d
    have k2 := kit_d (K := K) (T := "bool") (by decide) d
    have ty := ty_of_dp hd
    refine ⟨_, rfl, _, _, _, _, _, rfl, .ty _, ty, k1, _, rfl, ?_⟩
    cases hd with
    | int i =>
      refine iteT ⟨_, rfl, _, _, _, _, _, rfl, .ty _, ty, k2, _, rfl, _, rfl, iteT ⟨_, rfl, _, rfl, _, _, rfl, rfl, _, rfl, ?_⟩⟩
      have e : numIn (.int i) lo hi = (decide (lo ≤ i) && decide (i ≤ hi)) := rfl
      rw [e] at q
      by_cases h1 : lo ≤ i
      · rw [decide_eq_true h1] at q ⊢
        exact iteT ⟨_, rfl, _, _, rfl, rfl, q⟩
      · rw [decide_eq_false h1] at q ⊢
        exact iteF q
    | bl b => exact iteT ⟨_, rfl, _, _, _, _, _, rfl, .ty _, ty, k2, _, rfl, _, rfl, iteF q⟩
    | non => exact iteF q
    | str z => exact iteF q
    | lst a b => exact iteF q
    | tup a b => exact iteF q
/-! ### may_be_kept -/
abbrev s_may_be_kept : Stmt := topS 26
abbrev N_may_be_kept : List Str := ["keep", "parts", "percent"]
theorem sc_may_be_kept : FnScope N_may_be_kept ["keep", "parts"] (defScope s_may_be_kept) := ⟨rfl, rfl, rfl, by decide +kernel, rfl, by decide +kernel, by decide +kernel⟩
def sp_may_be_kept (K : PySem.W.Frag) : Sp := fun vs H Q _ => ∃ (x y : V) (d e : PyData), vs = [x, y] ∧ Dp K H x d ∧ Dp K H y e ∧ SeqAt.shaped e = true ∧ (∀ ds, d = .tuple ds → ds.length ≤ 1000) ∧ ∀ H', Same H H' → Q (.bl (keptOk d e)) H'
theorem ok_may_be_kept {f : Addr} {fd : FuncData} (F : Fun K "may_be_kept" "may_be_kept" s_may_be_kept f fd) (g : mg "may_be_kept" = some (.ref f)) (bd : Binds K fd ["keep", "parts"] []) (m_isinstance : mg "isinstance" = none) (m_tuple : mg "tuple" = none) (m_all : mg "all" = none) (m_len : mg "len" = none) (C_is_number_in : CF P w K mg base 1 "is_number_in" ["thing", "low", "high"] (sp_is_number_in K)) : CF P w K mg base 2 "may_be_kept" ["keep", "parts"] (sp_may_be_kept K) := by
  refine ⟨f, fd, F.ok sc_may_be_kept (fun vs H Q E h => ?_) (fun cdv A outer s H vs Q E hr h => ?_), g, F.kp, bd⟩
  · first | (obtain ⟨_, rfl, _⟩ := h; rfl) | (obtain ⟨_, _, rfl, _⟩ := h; rfl) | (obtain ⟨_, _, _, rfl, _⟩ := h; rfl) | (obtain ⟨_, _, _, _, rfl, _⟩ := h; rfl) | (obtain ⟨_, _, _, _, _, rfl, _⟩ := h; rfl) | (obtain ⟨_, _, _, _, _, _, rfl, _⟩ := h; rfl) | (obtain ⟨_, _, _, _, _, _, _, rfl, _⟩ := h; rfl) | (obtain ⟨_, _, _, _, _, _, _, _, rfl, _⟩ := h; rfl) | (obtain ⟨_, _, _, _, _, _, _, _, _, rfl, _⟩ := h; rfl) | (obtain ⟨_, _, _, _, _, _, _, _, _, _, rfl, _⟩ := h; rfl) | (obtain ⟨_, _, _, _, _, _, _, _, _, _, _, rfl, _⟩ := h; rfl) | (obtain ⟨_, _, _, _, _, _, _, _, _, _, _, _, rfl, _⟩ := h; rfl) | (obtain ⟨_, _, _, _, _, _, _, _, _, _, _, _, _, rfl, _⟩ := h; rfl) | (obtain ⟨_, _, _, _, _, _, _, _, _, _, _, _, _, _, rfl, _⟩ := h; rfl) | (obtain ⟨_, _, _, _, _, _, _, _, _, _, _, _, _, _, _, rfl, _⟩ := h; rfl)
  · have hu64 := hr.units
    obtain ⟨x, y, d, e, rfl, hd, he, sh, hz, q⟩ := h
    refine ⟨_, (pss_cons (ps_if (pt_not (pt_val (pe_callB (kk_isi K) (by rfl) m_isinstance (by decide +kernel) (pa_cons (pv 0) (pa_cons (pe_bltn (v := .ty "tuple") (by rfl) m_tuple (by decide +kernel) rfl) pa_nil)))))
         (pss_one (ps_ret (pe_cf C_is_number_in (hr.mono (by decide)) (by rfl) (pa_cons (pv 0) (pa_cons pe_int (pa_cons pe_int pa_nil))))))
         pss_nil)
      (pss_one (ps_ret (pe_and (pe_cmpR (kk_eqD K hu64) (pe_callB (kk_len K) (by rfl) m_len PySem.boot_len (pa_cons (pv 0) pa_nil)) (pv 1) (nomark _)) (pe_one (pe_callB (kk_all K rfl) (by rfl) m_all (by decide +kernel) (pa_cons (pe_lc (own := [("percent", 2)]) (g := (gName 2)) (tt := tYes) rfl sc_may_be_kept.nd (pi_tup (pv 0)) (blkOk_by (own := [("percent", 2)]) (N := N_may_be_kept) (sc := defScope s_may_be_kept) (by decide +kernel)) (fun _ _ _ _ _ => pg_name (i := 2) sc_may_be_kept.nd rfl (Or.inl rfl)) (fun _ _ _ _ _ => pts_nil) (fun _ _ _ _ _ => (pe_cf C_is_number_in (hr.mono (by decide)) (by rfl) (pa_cons (pv 2) (pa_cons pe_int (pa_cons pe_int pa_nil)))))) pa_nil))))))), ?_⟩
    have k1 := kit_d (K := K) (T := "tuple") (by decide) d
    have ty := ty_of_dp hd
    refine ⟨_, rfl, _, _, _, _, _, rfl, .ty _, ty, k1, _, rfl, ?_⟩
    have other : isK "tuple" d = false → keptOk d e = numIn d 0 100 := fun h => by
      cases d with
      | tuple ds => cases h
      | _ => rfl
    cases hd with
    | @tup a xs ds hS hA =>
      refine iteF ?_
      have hlen := dpAll_len hA
      have hl := hz ds rfl
      refine ⟨_, rfl, a, _, rfl, .inr hS, _, rfl, _, _, .int _, he, sh_int _, sh, _, rfl, ?_⟩
      have e2 : keptOk (.tuple ds) e = (PyData.eqv (.int (xs.length : Int)) e && ds.all fun d => numIn d 0 100) := by
        rw [hlen]
        rfl
      rw [e2] at q
      cases hq : PyData.eqv (.int (xs.length : Int)) e with
      | false =>
        rw [hq] at q
        exact iteF (q H (Same.refl H))
      | true =>
        rw [hq] at q
        refine iteT ⟨_, rfl, a, rfl, ⟨_, hS⟩, fun D hD => lc_tup (K := K) (a := a) (xs := xs) (fun i H' => Same H H' ∧ H' D = some (.lst (((ds.take i).map fun d => numIn d 0 100).map V.bl))) ⟨same_new hD, upd_same⟩ (fun i H' _ h => seqT_same h.1 hS) (fun i x H' hx h => ?_) (fun H' h => ?_)⟩
        · obtain ⟨d, hd1, hd2⟩ := dpAll_get hA hx
          have hi : i < ds.length := (List.getElem?_eq_some_iff.mp hd1).1
          refine ⟨rfl, _, rfl, x, d, 0, 100, rfl, dp_same h.1 hd2, _, h.2, ?_, ?_, ?_⟩
          · rw [List.length_map, List.length_map, List.length_take]
            exact small1000 (by omega)
          · exact fun c o e => by
              rw [upd_ne (ne_of_none e hD)]
              exact h.1 _ _ e
          · rw [upd_same, List.take_add_one, hd1, Option.toList_some, List.map_append, List.map_append]
            rfl
        · obtain ⟨s1, h1⟩ := h
          rw [hlen, List.take_of_length_le (Nat.le_refl _)] at h1
          refine ⟨D, _, rfl, SqL.of h1, ?_⟩
          have e3 : (ds.map fun d => numIn d 0 100).all id = ds.all fun d => numIn d 0 100 := by
            rw [List.all_map]
            rfl
          rw [e3]
          exact q _ s1
    | non => exact iteT ⟨_, rfl, _, _, 0, 100, rfl, .non, by rw [← other rfl]; exact q H (Same.refl H)⟩
    | bl b => exact iteT ⟨_, rfl, _, _, 0, 100, rfl, .bl b, by rw [← other rfl]; exact q H (Same.refl H)⟩
    | int i => exact iteT ⟨_, rfl, _, _, 0, 100, rfl, .int i, by rw [← other rfl]; exact q H (Same.refl H)⟩
    | str z => exact iteT ⟨_, rfl, _, _, 0, 100, rfl, .str z, by rw [← other rfl]; exact q H (Same.refl H)⟩
    | lst a b => exact iteT ⟨_, rfl, _, _, 0, 100, rfl, .lst a b, by rw [← other rfl]; exact q H (Same.refl H)⟩
/-! ### wrong_figure -/
abbrev s_wrong_figure : Stmt := topS 25
abbrev N_wrong_figure : List Str := ["parts", "step", "grace", "last", "misses", "keep", "fine", "falls", "back", "checks", "word", "right"]
theorem sc_wrong_figure : FnScope N_wrong_figure ["parts", "step", "grace", "last", "misses", "keep", "fine", "falls", "back"] (defScope s_wrong_figure) := ⟨rfl, rfl, rfl, by decide +kernel, rfl, by decide +kernel, by decide +kernel⟩
def figChecks (d1 d2 d3 d4 d5 d6 d7 d8 d9 : PyData) : List (Str × Bool) :=
  [(Str.ofString "parts", numIn d1 1 6), (Str.ofString "step", numIn d2 1 14), (Str.ofString "grace", numIn d3 0 7), (Str.ofString "last", isK "bool" d4), (Str.ofString "misses", numIn d5 0 2), (Str.ofString "keep", keptOk d6 d1), (Str.ofString "fine", numIn d7 0 100), (Str.ofString "falls", numIn d8 0 30), (Str.ofString "back", numIn d9 0 30)]
def sp_wrong_figure (K : PySem.W.Frag) : Sp := fun vs H Q _ => ∃ (x1 x2 x3 x4 x5 x6 x7 x8 x9 : V) (d1 d2 d3 d4 d5 d6 d7 d8 d9 : PyData), vs = [x1, x2, x3, x4, x5, x6, x7, x8, x9] ∧ (Dp K H x1 d1 ∧ Dp K H x2 d2 ∧ Dp K H x3 d3 ∧ Dp K H x4 d4 ∧ Dp K H x5 d5 ∧ Dp K H x6 d6 ∧ Dp K H x7 d7 ∧ Dp K H x8 d8 ∧ Dp K H x9 d9) ∧ SeqAt.shaped d1 = true ∧ (∀ ds, d6 = .tuple ds → ds.length ≤ 1000) ∧ ∀ H', Same H H' → Q (firstWrong (figChecks d1 d2 d3 d4 d5 d6 d7 d8 d9)) H'
theorem at9_of {HH : Hp} {t1 t2 t3 t4 t5 t6 t7 t8 t9 : Addr} {p1 p2 p3 p4 p5 p6 p7 p8 p9 : Str × Bool} (c1 : HH t1 = some (.tup [.str p1.1, .bl p1.2])) (c2 : HH t2 = some (.tup [.str p2.1, .bl p2.2])) (c3 : HH t3 = some (.tup [.str p3.1, .bl p3.2])) (c4 : HH t4 = some (.tup [.str p4.1, .bl p4.2])) (c5 : HH t5 = some (.tup [.str p5.1, .bl p5.2])) (c6 : HH t6 = some (.tup [.str p6.1, .bl p6.2])) (c7 : HH t7 = some (.tup [.str p7.1, .bl p7.2])) (c8 : HH t8 = some (.tup [.str p8.1, .bl p8.2])) (c9 : HH t9 = some (.tup [.str p9.1, .bl p9.2])) : ∀ (j : Nat) (t : Addr) (p : Str × Bool), [t1, t2, t3, t4, t5, t6, t7, t8, t9][j]? = some t → [p1, p2, p3, p4, p5, p6, p7, p8, p9][j]? = some p → HH t = some (.tup [.str p.1, .bl p.2]) := fun j t p ht hp => by
  match j, ht, hp with
  | 0, ht, hp => cases ht; cases hp; exact c1
  | 1, ht, hp => cases ht; cases hp; exact c2
  | 2, ht, hp => cases ht; cases hp; exact c3
  | 3, ht, hp => cases ht; cases hp; exact c4
  | 4, ht, hp => cases ht; cases hp; exact c5
  | 5, ht, hp => cases ht; cases hp; exact c6
  | 6, ht, hp => cases ht; cases hp; exact c7
  | 7, ht, hp => cases ht; cases hp; exact c8
  | 8, ht, hp => cases ht; cases hp; exact c9
  | n + 9, ht, hp => cases ht
theorem pick9 {ts : List Addr} {ws : List (Str × Bool)} {H : Hp} {i : Nat} {x : V} (hl : ts.length = ws.length) (h : ∀ (j : Nat) (t : Addr) (p : Str × Bool), ts[j]? = some t → ws[j]? = some p → H t = some (.tup [.str p.1, .bl p.2])) (hx : (ts.map V.ref)[i]? = some x) : ∃ t p, x = .ref t ∧ ws[i]? = some p ∧ H t = some (.tup [.str p.1, .bl p.2]) := by
  rw [List.getElem?_map] at hx
  obtain ⟨t, ht, rfl⟩ := Option.map_eq_some_iff.mp hx
  have hi : i < ws.length := by
    rw [← hl]
    exact (List.getElem?_eq_some_iff.mp ht).1
  exact ⟨t, ws[i], rfl, List.getElem?_eq_getElem hi, h i t _ ht (List.getElem?_eq_getElem hi)⟩
theorem ok_wrong_figure {f : Addr} {fd : FuncData} (F : Fun K "wrong_figure" "wrong_figure" s_wrong_figure f fd) (g : mg "wrong_figure" = some (.ref f)) (bd : Binds K fd ["parts", "step", "grace", "last", "misses", "keep", "fine", "falls", "back"] []) (m_isinstance : mg "isinstance" = none) (m_bool : mg "bool" = none) (C_is_number_in : CF P w K mg base 1 "is_number_in" ["thing", "low", "high"] (sp_is_number_in K)) (C_may_be_kept : CF P w K mg base 2 "may_be_kept" ["keep", "parts"] (sp_may_be_kept K)) : CF P w K mg base 3 "wrong_figure" ["parts", "step", "grace", "last", "misses", "keep", "fine", "falls", "back"] (sp_wrong_figure K) := by
  refine ⟨f, fd, F.ok sc_wrong_figure (fun vs H Q E h => ?_) (fun cdv A outer s H vs Q E hr h => ?_), g, F.kp, bd⟩
  · first | (obtain ⟨_, rfl, _⟩ := h; rfl) | (obtain ⟨_, _, rfl, _⟩ := h; rfl) | (obtain ⟨_, _, _, rfl, _⟩ := h; rfl) | (obtain ⟨_, _, _, _, rfl, _⟩ := h; rfl) | (obtain ⟨_, _, _, _, _, rfl, _⟩ := h; rfl) | (obtain ⟨_, _, _, _, _, _, rfl, _⟩ := h; rfl) | (obtain ⟨_, _, _, _, _, _, _, rfl, _⟩ := h; rfl) | (obtain ⟨_, _, _, _, _, _, _, _, rfl, _⟩ := h; rfl) | (obtain ⟨_, _, _, _, _, _, _, _, _, rfl, _⟩ := h; rfl) | (obtain ⟨_, _, _, _, _, _, _, _, _, _, rfl, _⟩ := h; rfl) | (obtain ⟨_, _, _, _, _, _, _, _, _, _, _, rfl, _⟩ := h; rfl) | (obtain ⟨_, _, _, _, _, _, _, _, _, _, _, _, rfl, _⟩ := h; rfl) | (obtain ⟨_, _, _, _, _, _, _, _, _, _, _, _, _, rfl, _⟩ := h; rfl) | (obtain ⟨_, _, _, _, _, _, _, _, _, _, _, _, _, _, rfl, _⟩ := h; rfl) | (obtain ⟨_, _, _, _, _, _, _, _, _, _, _, _, _, _, _, rfl, _⟩ := h; rfl) | (obtain ⟨_, _, _, _, _, _, _, _, _, _, _, _, _, _, _, _, rfl, _⟩ := h; rfl) | (obtain ⟨_, _, _, _, _, _, _, _, _, _, _, _, _, _, _, _, _, rfl, _⟩ := h; rfl) | (obtain ⟨_, _, _, _, _, _, _, _, _, _, _, _, _, _, _, _, _, _, rfl, _⟩ := h; rfl) | (obtain ⟨_, _, _, _, _, _, _, _, _, _, _, _, _, _, _, _, _, _, _, rfl, _⟩ := h; rfl) | (obtain ⟨_, _, _, _, _, _, _, _, _, _, _, _, _, _, _, _, _, _, _, _, rfl, _⟩ := h; rfl) | (obtain ⟨_, _, _, _, _, _, _, _, _, _, _, _, _, _, _, _, _, _, _, _, _, rfl, _⟩ := h; rfl) | (obtain ⟨_, _, _, _, _, _, _, _, _, _, _, _, _, _, _, _, _, _, _, _, _, _, rfl, _⟩ := h; rfl) | (obtain ⟨_, _, _, _, _, _, _, _, _, _, _, _, _, _, _, _, _, _, _, _, _, _, _, rfl, _⟩ := h; rfl)
  · have hu64 := hr.units
    obtain ⟨x1, x2, x3, x4, x5, x6, x7, x8, x9, d1, d2, d3, d4, d5, d6, d7, d8, d9, rfl, ⟨h1, h2, h3, h4, h5, h6, h7, h8, h9⟩, sh, hz, q⟩ := h
    refine ⟨_, (pss_cons (ps_set (i := 9) sc_wrong_figure.nd rfl (.inl rfl) (pe_lst (pa_cons (pe_tup (pa_cons pe_str (pa_cons (pe_cf C_is_number_in (hr.mono (by decide)) (by rfl) (pa_cons (pv 0) (pa_cons pe_int (pa_cons pe_int pa_nil)))) pa_nil))) (pa_cons (pe_tup (pa_cons pe_str (pa_cons (pe_cf C_is_number_in (hr.mono (by decide)) (by rfl) (pa_cons (pv 1) (pa_cons pe_int (pa_cons pe_int pa_nil)))) pa_nil))) (pa_cons (pe_tup (pa_cons pe_str (pa_cons (pe_cf C_is_number_in (hr.mono (by decide)) (by rfl) (pa_cons (pv 2) (pa_cons pe_int (pa_cons pe_int pa_nil)))) pa_nil))) (pa_cons (pe_tup (pa_cons pe_str (pa_cons (pe_callB (kk_isi K) (by rfl) m_isinstance (by decide +kernel) (pa_cons (pv 3) (pa_cons (pe_bltn (v := .ty "bool") (by rfl) m_bool (by decide +kernel) rfl) pa_nil))) pa_nil))) (pa_cons (pe_tup (pa_cons pe_str (pa_cons (pe_cf C_is_number_in (hr.mono (by decide)) (by rfl) (pa_cons (pv 4) (pa_cons pe_int (pa_cons pe_int pa_nil)))) pa_nil))) (pa_cons (pe_tup (pa_cons pe_str (pa_cons (pe_cf C_may_be_kept (hr.mono (by decide)) (by rfl) (pa_cons (pv 5) (pa_cons (pv 0) pa_nil))) pa_nil))) (pa_cons (pe_tup (pa_cons pe_str (pa_cons (pe_cf C_is_number_in (hr.mono (by decide)) (by rfl) (pa_cons (pv 6) (pa_cons pe_int (pa_cons pe_int pa_nil)))) pa_nil))) (pa_cons (pe_tup (pa_cons pe_str (pa_cons (pe_cf C_is_number_in (hr.mono (by decide)) (by rfl) (pa_cons (pv 7) (pa_cons pe_int (pa_cons pe_int pa_nil)))) pa_nil))) (pa_cons (pe_tup (pa_cons pe_str (pa_cons (pe_cf C_is_number_in (hr.mono (by decide)) (by rfl) (pa_cons (pv 8) (pa_cons pe_int (pa_cons pe_int pa_nil)))) pa_nil))) pa_nil)))))))))))
      (pss_cons (ps_for PassesOwn.never rfl (pi_list (pv 9)) (pg_tup (by rfl) (pgs_cons (pg_name (i := 10) sc_wrong_figure.nd rfl (.inl rfl)) (pgs_cons (pg_name (i := 11) sc_wrong_figure.nd rfl (.inl rfl)) pgs_nil)))
         (pss_one (ps_if (pt_not (pt_val (pv 11)))
             (pss_one (ps_ret (pv 10)))
             pss_nil)))
      (pss_one (ps_ret pe_non)))), ?_⟩
    have k4 := kit_d (K := K) (T := "bool") (by decide) d4
    refine ⟨_, rfl, x1, d1, 1, 6, rfl, h1, (by show 2 ≤ sizeLine; decide), fun t1 n1 => ?_⟩
    have s1 := same_new (o := .tup [.str (Str.ofString "parts"), .bl (numIn d1 1 6)]) n1
    refine ⟨_, rfl, x2, d2, 1, 14, rfl, dp_same s1 h2, (by show 2 ≤ sizeLine; decide), fun t2 n2 => ?_⟩
    have s2 := s1.trans (same_new (o := .tup [.str (Str.ofString "step"), .bl (numIn d2 1 14)]) n2)
    refine ⟨_, rfl, x3, d3, 0, 7, rfl, dp_same s2 h3, (by show 2 ≤ sizeLine; decide), fun t3 n3 => ?_⟩
    have s3 := s2.trans (same_new (o := .tup [.str (Str.ofString "grace"), .bl (numIn d3 0 7)]) n3)
    refine ⟨_, rfl, _, _, _, _, _, rfl, .ty _, ty_of_dp (dp_same s3 h4), k4, (by show 2 ≤ sizeLine; decide), fun t4 n4 => ?_⟩
    have s4 := s3.trans (same_new (o := .tup [.str (Str.ofString "last"), .bl (isK "bool" d4)]) n4)
    refine ⟨_, rfl, x5, d5, 0, 2, rfl, dp_same s4 h5, (by show 2 ≤ sizeLine; decide), fun t5 n5 => ?_⟩
    have s5 := s4.trans (same_new (o := .tup [.str (Str.ofString "misses"), .bl (numIn d5 0 2)]) n5)
    refine ⟨_, rfl, _, rfl, x6, x1, d6, d1, rfl, dp_same s5 h6, dp_same s5 h1, sh, hz, fun G g => ⟨(by show 2 ≤ sizeLine; decide), fun t6 n6 => ?_⟩⟩
    have s6 := (s5.trans g).trans (same_new (o := .tup [.str (Str.ofString "keep"), .bl (keptOk d6 d1)]) n6)
    refine ⟨_, rfl, x7, d7, 0, 100, rfl, dp_same s6 h7, (by show 2 ≤ sizeLine; decide), fun t7 n7 => ?_⟩
    have s7 := s6.trans (same_new (o := .tup [.str (Str.ofString "fine"), .bl (numIn d7 0 100)]) n7)
    refine ⟨_, rfl, x8, d8, 0, 30, rfl, dp_same s7 h8, (by show 2 ≤ sizeLine; decide), fun t8 n8 => ?_⟩
    have s8 := s7.trans (same_new (o := .tup [.str (Str.ofString "falls"), .bl (numIn d8 0 30)]) n8)
    refine ⟨_, rfl, x9, d9, 0, 30, rfl, dp_same s8 h9, (by show 2 ≤ sizeLine; decide), fun t9 n9 => ?_⟩
    have s9 := s8.trans (same_new (o := .tup [.str (Str.ofString "back"), .bl (numIn d9 0 30)]) n9)
    refine ⟨(by show 9 ≤ sizeLine; decide), fun L nL => ?_⟩
    have sL := same_new (o := .lst [.ref t1, .ref t2, .ref t3, .ref t4, .ref t5, .ref t6, .ref t7, .ref t8, .ref t9]) nL
    have c9 := sL _ _ (upd_same (a := t9) (o := .tup [.str (Str.ofString "back"), .bl (numIn d9 0 30)]))
    have m9 := (same_new (o := .tup [.str (Str.ofString "back"), .bl (numIn d9 0 30)]) n9).trans sL
    have c8 := m9 _ _ (upd_same (a := t8) (o := .tup [.str (Str.ofString "falls"), .bl (numIn d8 0 30)]))
    have m8 := (same_new (o := .tup [.str (Str.ofString "falls"), .bl (numIn d8 0 30)]) n8).trans m9
    have c7 := m8 _ _ (upd_same (a := t7) (o := .tup [.str (Str.ofString "fine"), .bl (numIn d7 0 100)]))
    have m7 := (same_new (o := .tup [.str (Str.ofString "fine"), .bl (numIn d7 0 100)]) n7).trans m8
    have c6 := m7 _ _ (upd_same (a := t6) (o := .tup [.str (Str.ofString "keep"), .bl (keptOk d6 d1)]))
    have m6 := (g.trans (same_new (o := .tup [.str (Str.ofString "keep"), .bl (keptOk d6 d1)]) n6)).trans m7
    have c5 := m6 _ _ (upd_same (a := t5) (o := .tup [.str (Str.ofString "misses"), .bl (numIn d5 0 2)]))
    have m5 := (same_new (o := .tup [.str (Str.ofString "misses"), .bl (numIn d5 0 2)]) n5).trans m6
    have c4 := m5 _ _ (upd_same (a := t4) (o := .tup [.str (Str.ofString "last"), .bl (isK "bool" d4)]))
    have m4 := (same_new (o := .tup [.str (Str.ofString "last"), .bl (isK "bool" d4)]) n4).trans m5
    have c3 := m4 _ _ (upd_same (a := t3) (o := .tup [.str (Str.ofString "grace"), .bl (numIn d3 0 7)]))
    have m3 := (same_new (o := .tup [.str (Str.ofString "grace"), .bl (numIn d3 0 7)]) n3).trans m4
    have c2 := m3 _ _ (upd_same (a := t2) (o := .tup [.str (Str.ofString "step"), .bl (numIn d2 1 14)]))
    have m2 := (same_new (o := .tup [.str (Str.ofString "step"), .bl (numIn d2 1 14)]) n2).trans m3
    have c1 := m2 _ _ (upd_same (a := t1) (o := .tup [.str (Str.ofString "parts"), .bl (numIn d1 1 6)]))
    have at9 := at9_of (p1 := (Str.ofString "parts", numIn d1 1 6)) (p2 := (Str.ofString "step", numIn d2 1 14)) (p3 := (Str.ofString "grace", numIn d3 0 7)) (p4 := (Str.ofString "last", isK "bool" d4)) (p5 := (Str.ofString "misses", numIn d5 0 2)) (p6 := (Str.ofString "keep", keptOk d6 d1)) (p7 := (Str.ofString "fine", numIn d7 0 100)) (p8 := (Str.ofString "falls", numIn d8 0 30)) (p9 := (Str.ofString "back", numIn d9 0 30)) c1 c2 c3 c4 c5 c6 c7 c8 c9
    have sAll := s9.trans sL
    refine ⟨_, rfl, L, rfl, ⟨_, SqL.of upd_same⟩, for_list (K := K) (a := L) (xs := [t1, t2, t3, t4, t5, t6, t7, t8, t9].map V.ref) (fun i σ H' => ∃ s10 s11, σ = [some x1, some x2, some x3, some x4, some x5, some x6, some x7, some x8, some x9, some (.ref L), s10, s11] ∧ Same H H' ∧ H' L = some (.lst [.ref t1, .ref t2, .ref t3, .ref t4, .ref t5, .ref t6, .ref t7, .ref t8, .ref t9]) ∧ (∀ (j : Nat) (t : Addr) (p : Str × Bool), [t1, t2, t3, t4, t5, t6, t7, t8, t9][j]? = some t → (figChecks d1 d2 d3 d4 d5 d6 d7 d8 d9)[j]? = some p → H' t = some (.tup [.str p.1, .bl p.2])) ∧ ∀ p ∈ (figChecks d1 d2 d3 d4 d5 d6 d7 d8 d9).take i, p.2 = true) ⟨_, _, rfl, sAll, upd_same, at9, fun p hp => (nomatch hp)⟩ (fun i σ H' _ h => by obtain ⟨_, _, _, _, h, _⟩ := h; exact SqL.of h) (fun i x σ H' hx h => ?_) (fun σ H' h => ?_)⟩
    · obtain ⟨s10, s11, rfl, sm, eL, hat, hall⟩ := h
      obtain ⟨t, p, rfl, hp, ht⟩ := pick9 (ws := figChecks d1 d2 d3 d4 d5 d6 d7 d8 d9) rfl hat hx
      refine ⟨t, _, rfl, .inl (.inl ht), rfl, _, _, rfl, _, _, rfl, rfl, ?_⟩
      obtain ⟨w', b⟩ := p
      cases b with
      | false =>
        refine ⟨_, rfl, _, rfl, iteT ⟨_, rfl, ?_⟩⟩
        rw [← firstWrong_at hall hp]
        exact q _ sm
      | true =>
        refine ⟨_, rfl, _, rfl, iteF ⟨_, _, rfl, sm, eL, hat, fun p' hp' => ?_⟩⟩
        rw [List.take_add_one, hp] at hp'
        rcases List.mem_append.mp hp' with z | z
        · exact hall p' z
        · rw [List.mem_singleton.mp z]
    · obtain ⟨s10, s11, rfl, sm, _, _, hall⟩ := h
      have hf : firstWrong (figChecks d1 d2 d3 d4 d5 d6 d7 d8 d9) = .non := firstWrong_none fun p hp => hall p hp
      rw [hf] at q
      exact q _ sm
/-! ### a rule in the heap -/
structure TRule (K : PySem.W.Frag) (mg : Str → Option Value) (C : Addr) : Prop where
  cl : Cls K C
  n1 : NoAttr K C "parts"
  n2 : NoAttr K C "step"
  n3 : NoAttr K C "grace"
  n4 : NoAttr K C "last"
  n5 : NoAttr K C "misses"
  n6 : NoAttr K C "keep"
  n7 : NoAttr K C "fine"
  n8 : NoAttr K C "falls"
  n9 : NoAttr K C "back"
def ruleF (p s g : Int) (l : Bool) (m : Int) (kt : Addr) (fi fa ba : Int) : List (Str × V) := [("parts", .int p), ("step", .int s), ("grace", .int g), ("last", .bl l), ("misses", .int m), ("keep", .ref kt), ("fine", .int fi), ("falls", .int fa), ("back", .int ba)]
theorem putF_new {f : Str} {v : V} : ∀ {fs : List (Str × V)}, (∀ q ∈ fs, q.1 ≠ f) → putF f v fs = fs ++ [(f, v)]
  | [], _ => rfl
  | (g, x) :: r, h => by
    show (if g = f then (g, v) :: r else (g, x) :: putF f v r) = _
    rw [if_neg (h (g, x) List.mem_cons_self), putF_new fun q hq => h q (List.mem_cons_of_mem _ hq)]
    rfl
theorem unlike9 : (["parts", "step", "grace", "last", "misses", "keep", "fine", "falls", "back"] : List Str).Nodup := by decide +kernel
theorem putF_len (f : Str) (v : V) : ∀ fs : List (Str × V), (putF f v fs).length ≤ fs.length + 1
  | [] => Nat.le_refl _
  | (g, x) :: r => by
    show (if g = f then (g, v) :: r else (g, x) :: putF f v r).length ≤ _
    have := putF_len f v r
    split
    · simp
    · rw [List.length_cons, List.length_cons]
      omega
theorem put_lt {f : Str} {v : V} {fs : List (Str × V)} {n : Nat} (h : fs.length ≤ n) : (putF f v fs).length ≤ n + 1 := Nat.le_trans (putF_len f v fs) (by omega)
theorem ruleF_eq (p s g : Int) (l : Bool) (m : Int) (kt : Addr) (fi fa ba : Int) : putF "back" (.int ba) (putF "falls" (.int fa) (putF "fine" (.int fi) (putF "keep" (.ref kt) (putF "misses" (.int m) (putF "last" (.bl l) (putF "grace" (.int g) (putF "step" (.int s) (putF "parts" (.int p) [])))))))) = ruleF p s g l m kt fi fa ba := by
  have nd := unlike9
  simp only [List.nodup_cons, List.mem_cons, List.not_mem_nil, or_false, not_or] at nd
  obtain ⟨⟨a1, a2, a3, a4, a5, a6, a7, a8⟩, ⟨b1, b2, b3, b4, b5, b6, b7⟩, ⟨c1, c2, c3, c4, c5, c6⟩, ⟨d1, d2, d3, d4, d5⟩, ⟨e1, e2, e3, e4⟩, ⟨f1, f2, f3⟩, ⟨g1, g2⟩, h1, _⟩ := nd
  simp only [putF, if_neg a1, if_neg a2, if_neg a3, if_neg a4, if_neg a5, if_neg a6, if_neg a7, if_neg a8, if_neg b1, if_neg b2, if_neg b3, if_neg b4, if_neg b5, if_neg b6, if_neg b7, if_neg c1, if_neg c2, if_neg c3, if_neg c4, if_neg c5, if_neg c6, if_neg d1, if_neg d2, if_neg d3, if_neg d4, if_neg d5, if_neg e1, if_neg e2, if_neg e3, if_neg e4, if_neg f1, if_neg f2, if_neg f3, if_neg g1, if_neg g2, if_neg h1]
  rfl
/-- what is kept as it is handed in: one number, or a tuple of as many as parts -/
inductive Keep (K : PySem.W.Frag) (H : Hp) (p : Int) (ks : List Int) : V → PyData → Prop where
  | one (k : Int) (h0 : 0 ≤ k) (h1 : k ≤ 100) (e : ks = List.replicate p.toNat k) : Keep K H p ks (.int k) (.int k)
  | all (a : Addr) (h : SqT K H a (ks.map V.int)) (hl : (ks.length : Int) = p) (hb : ∀ k ∈ ks, 0 ≤ k ∧ k ≤ 100) : Keep K H p ks (.ref a) (.tuple (ks.map PyData.int))
structure Figs (p s g m fi fa ba : Int) : Prop where
  p0 : 1 ≤ p
  p1 : p ≤ 6
  s0 : 1 ≤ s
  s1 : s ≤ 14
  g0 : 0 ≤ g
  g1 : g ≤ 7
  m0 : 0 ≤ m
  m1 : m ≤ 2
  fi0 : 0 ≤ fi
  fi1 : fi ≤ 100
  fa0 : 0 ≤ fa
  fa1 : fa ≤ 30
  ba0 : 0 ≤ ba
  ba1 : ba ≤ 30
theorem dpAll_intsT {K : PySem.W.Frag} {H : Hp} {a : Addr} {ns : List Int} (h : SqT K H a (ns.map V.int)) : Dp K H (.ref a) (.tuple (ns.map PyData.int)) := .tup h (dpAll_ints ns)
theorem Keep.dp {K : PySem.W.Frag} {H : Hp} {p : Int} {ks : List Int} {v : V} {d : PyData} (h : Keep K H p ks v d) : Dp K H v d := by
  cases h with
  | one k _ _ _ => exact .int k
  | all a h _ _ => exact dpAll_intsT h
theorem Keep.ok {K : PySem.W.Frag} {H : Hp} {p : Int} {ks : List Int} {v : V} {d : PyData} (h : Keep K H p ks v d) : keptOk d (.int p) = true := by
  cases h with
  | one k h0 h1 _ =>
    show (decide (0 ≤ k) && decide (k ≤ 100)) = true
    rw [decide_eq_true h0, decide_eq_true h1]
    rfl
  | all a _ hl hb =>
    show (PyData.eqv (.int (((ks.map PyData.int).length : Nat) : Int)) (.int p) && (ks.map PyData.int).all fun d => numIn d 0 100) = true
    rw [Bool.and_eq_true]
    refine ⟨?_, ?_⟩
    · rw [List.length_map, hl]
      simp [PyData.eqv]
    · rw [List.all_map, List.all_eq_true]
      intro k hk
      show (decide (0 ≤ k) && decide (k ≤ 100)) = true
      rw [decide_eq_true (hb k hk).1, decide_eq_true (hb k hk).2]
      rfl
theorem right_all {p s g m fi fa ba : Int} {l : Bool} {d6 : PyData} (F : Figs p s g m fi fa ba) (h6 : keptOk d6 (.int p) = true) : firstWrong (figChecks (.int p) (.int s) (.int g) (.bool l) (.int m) d6 (.int fi) (.int fa) (.int ba)) = .non := by
  refine firstWrong_none fun q hq => ?_
  have two : ∀ {i lo hi : Int}, lo ≤ i → i ≤ hi → numIn (.int i) lo hi = true := fun {i lo hi} a b => by
    show (decide (lo ≤ i) && decide (i ≤ hi)) = true
    rw [decide_eq_true a, decide_eq_true b]
    rfl
  unfold figChecks at hq
  simp only [List.mem_cons, List.not_mem_nil, or_false] at hq
  rcases hq with rfl | rfl | rfl | rfl | rfl | rfl | rfl | rfl | rfl
  · exact two F.p0 F.p1
  · exact two F.s0 F.s1
  · exact two F.g0 F.g1
  · rfl
  · exact two F.m0 F.m1
  · exact h6
  · exact two F.fi0 F.fi1
  · exact two F.fa0 F.fa1
  · exact two F.ba0 F.ba1
theorem hu_none : True := trivial
/-! ### Rule___init__ -/
abbrev s_Rule___init__ : Stmt := inClass (topS 24) 0
abbrev N_Rule___init__ : List Str := ["self", "parts", "step", "grace", "last", "misses", "keep", "fine", "falls", "back", "word"]
theorem sc_Rule___init__ : FnScope N_Rule___init__ ["self", "parts", "step", "grace", "last", "misses", "keep", "fine", "falls", "back"] (defScope s_Rule___init__) := ⟨rfl, rfl, rfl, by decide +kernel, rfl, by decide +kernel, by decide +kernel⟩
theorem back_none {H H' : Hp} {p : Addr} (s : Same H H') (h : H' p = none) : H p = none := by
  cases e : H p with
  | none => rfl
  | some o =>
    rw [s _ _ e] at h
    cases h
/-- nine things of any make, the first of them that may not be -/
def Nine (K : PySem.W.Frag) (H : Hp) (xs : List V) (w : Str) : Prop := ∃ (x1 x2 x3 x4 x5 x6 x7 x8 x9 : V) (d1 d2 d3 d4 d5 d6 d7 d8 d9 : PyData), xs = [x1, x2, x3, x4, x5, x6, x7, x8, x9] ∧ (Dp K H x1 d1 ∧ Dp K H x2 d2 ∧ Dp K H x3 d3 ∧ Dp K H x4 d4 ∧ Dp K H x5 d5 ∧ Dp K H x6 d6 ∧ Dp K H x7 d7 ∧ Dp K H x8 d8 ∧ Dp K H x9 d9) ∧ SeqAt.shaped d1 = true ∧ (∀ ds, d6 = .tuple ds → ds.length ≤ 1000) ∧ firstWrong (figChecks d1 d2 d3 d4 d5 d6 d7 d8 d9) = .str w
theorem Nine.same {K : PySem.W.Frag} {H H' : Hp} {xs : List V} {w : Str} (h : Nine K H xs w) (s : Same H H') : Nine K H' xs w := by
  obtain ⟨x1, x2, x3, x4, x5, x6, x7, x8, x9, d1, d2, d3, d4, d5, d6, d7, d8, d9, rfl, ⟨h1, h2, h3, h4, h5, h6, h7, h8, h9⟩, sh, hz, e⟩ := h
  exact ⟨x1, x2, x3, x4, x5, x6, x7, x8, x9, d1, d2, d3, d4, d5, d6, d7, d8, d9, rfl, ⟨dp_same s h1, dp_same s h2, dp_same s h3, dp_same s h4, dp_same s h5, dp_same s h6, dp_same s h7, dp_same s h8, dp_same s h9⟩, sh, hz, e⟩
def sp_Rule___init__ (K : PySem.W.Frag) (C2 : CB2) (CR : Addr) : Sp := fun vs H Q E => ∃ (x dx : Addr) (x1 x2 x3 x4 x5 x6 x7 x8 x9 : V), vs = [.ref x, x1, x2, x3, x4, x5, x6, x7, x8, x9] ∧ H x = some (.ins CR dx []) ∧
  ((∃ (p s g : Int) (l : Bool) (m : Int) (kd : PyData) (ks : List Int) (fi fa ba : Int), [x1, x2, x3, x4, x5, x7, x8, x9] = [.int p, .int s, .int g, .bl l, .int m, .int fi, .int fa, .int ba] ∧ Figs p s g m fi fa ba ∧ Keep K H p ks x6 kd ∧
      ∀ H' kt, But x H H' → H' x = some (.ins CR dx (ruleF p s g l m kt fi fa ba)) → SqT K H' kt (ks.map V.int) → Q .non H') ∨
    (∃ w, Nine K H [x1, x2, x3, x4, x5, x6, x7, x8, x9] w ∧ ∀ H' d, Same H H' → H d = none → H' d = some (.xd [("word", .str w)]) → E (.ref C2.b) (some d) H'))
theorem ok_Rule___init__ {f : Addr} {fd : FuncData} {C2 : CB2} (TB : TB2 K mg C2) (XR : CEv P w K mg base C2.b 1 "BadRule" "word") (XC : CEv P w K mg base C2.c 1 "BadClause" "place") {CR : Addr} (TQ : TEq K mg CR "Rule") (T_Rule : TRule K mg CR) (m_isinstance : mg "isinstance" = none) (m_tuple : mg "tuple" = none) (C_wrong_figure : CF P w K mg base 3 "wrong_figure" ["parts", "step", "grace", "last", "misses", "keep", "fine", "falls", "back"] (sp_wrong_figure K)) (F : FunD K "__init__" "Rule.__init__" (defArgs s_Rule___init__) (defBody s_Rule___init__) (defScope s_Rule___init__) [.int 0, .bl false, .int 0, .int 0, .int 0, .int 0, .int 0] [] f fd) : FnOk P w K mg base (L2.CX P w) 4 f fd ["self", "parts", "step", "grace", "last", "misses", "keep", "fine", "falls", "back"] (sp_Rule___init__ K C2 CR) := by
  refine F.ok sc_Rule___init__ (fun vs H Q E h => ?_) (fun cdv A outer s H vs Q E hr h => ?_)
  · first | (obtain ⟨_, rfl, _⟩ := h; rfl) | (obtain ⟨_, _, rfl, _⟩ := h; rfl) | (obtain ⟨_, _, _, rfl, _⟩ := h; rfl) | (obtain ⟨_, _, _, _, rfl, _⟩ := h; rfl) | (obtain ⟨_, _, _, _, _, rfl, _⟩ := h; rfl) | (obtain ⟨_, _, _, _, _, _, rfl, _⟩ := h; rfl) | (obtain ⟨_, _, _, _, _, _, _, rfl, _⟩ := h; rfl) | (obtain ⟨_, _, _, _, _, _, _, _, rfl, _⟩ := h; rfl) | (obtain ⟨_, _, _, _, _, _, _, _, _, rfl, _⟩ := h; rfl) | (obtain ⟨_, _, _, _, _, _, _, _, _, _, rfl, _⟩ := h; rfl) | (obtain ⟨_, _, _, _, _, _, _, _, _, _, _, rfl, _⟩ := h; rfl) | (obtain ⟨_, _, _, _, _, _, _, _, _, _, _, _, rfl, _⟩ := h; rfl) | (obtain ⟨_, _, _, _, _, _, _, _, _, _, _, _, _, rfl, _⟩ := h; rfl) | (obtain ⟨_, _, _, _, _, _, _, _, _, _, _, _, _, _, rfl, _⟩ := h; rfl) | (obtain ⟨_, _, _, _, _, _, _, _, _, _, _, _, _, _, _, rfl, _⟩ := h; rfl) | (obtain ⟨_, _, _, _, _, _, _, _, _, _, _, _, _, _, _, _, rfl, _⟩ := h; rfl) | (obtain ⟨_, _, _, _, _, _, _, _, _, _, _, _, _, _, _, _, _, rfl, _⟩ := h; rfl) | (obtain ⟨_, _, _, _, _, _, _, _, _, _, _, _, _, _, _, _, _, _, rfl, _⟩ := h; rfl) | (obtain ⟨_, _, _, _, _, _, _, _, _, _, _, _, _, _, _, _, _, _, _, rfl, _⟩ := h; rfl) | (obtain ⟨_, _, _, _, _, _, _, _, _, _, _, _, _, _, _, _, _, _, _, _, rfl, _⟩ := h; rfl) | (obtain ⟨_, _, _, _, _, _, _, _, _, _, _, _, _, _, _, _, _, _, _, _, _, rfl, _⟩ := h; rfl) | (obtain ⟨_, _, _, _, _, _, _, _, _, _, _, _, _, _, _, _, _, _, _, _, _, _, rfl, _⟩ := h; rfl) | (obtain ⟨_, _, _, _, _, _, _, _, _, _, _, _, _, _, _, _, _, _, _, _, _, _, _, rfl, _⟩ := h; rfl)
  · have hu64 := hr.units
    obtain ⟨x, dx, x1, x2, x3, x4, x5, kv, x7, x8, x9, rfl, hx, h⟩ := h
    refine ⟨_, (pss_cons (ps_set (i := 10) sc_Rule___init__.nd rfl (.inl rfl) (pe_cf C_wrong_figure (hr.mono (by decide)) (by rfl) (pa_cons (pv 1) (pa_cons (pv 2) (pa_cons (pv 3) (pa_cons (pv 4) (pa_cons (pv 5) (pa_cons (pv 6) (pa_cons (pv 7) (pa_cons (pv 8) (pa_cons (pv 9) pa_nil)))))))))))
      (pss_cons (ps_if (pt_cmpR op_notN (pv 10) pe_non (nomark _))
         (pss_one (ps_raise rfl (takes_of rfl rfl rfl rfl) (pmk_cex XR.cex (hr.mono (by decide)) (by rfl) (pa_cons (pv 10) pa_nil))))
         pss_nil)
      (pss_cons (ps_fld (pv 0) (pv 1) rfl)
      (pss_cons (ps_fld (pv 0) (pv 2) rfl)
      (pss_cons (ps_fld (pv 0) (pv 3) rfl)
      (pss_cons (ps_fld (pv 0) (pv 4) rfl)
      (pss_cons (ps_fld (pv 0) (pv 5) rfl)
      (pss_cons (ps_fld (pv 0) (pe_ifExp (pt_val (pe_callB (kk_isi K) (by rfl) m_isinstance (by decide +kernel) (pa_cons (pv 6) (pa_cons (pe_bltn (v := .ty "tuple") (by rfl) m_tuple (by decide +kernel) rfl) pa_nil)))) (pv 6) (pe_op (kk_repA K) (pe_tup (pa_cons (pv 6) pa_nil)) (pv 1))) rfl)
      (pss_cons (ps_fld (pv 0) (pv 7) rfl)
      (pss_cons (ps_fld (pv 0) (pv 8) rfl)
      (pss_one (ps_fld (pv 0) (pv 9) rfl)))))))))))), ?_⟩
    rcases h with ⟨p, s', g, l, m, kd, ks, fi, fa, ba, e, F, hk, q⟩ | ⟨wd, hN, q⟩
    · cases e
      have hz : ∀ ds, kd = .tuple ds → ds.length ≤ 1000 := fun ds e => by
        cases hk with
        | one k _ _ _ => cases e
        | all a h hl hb =>
          cases e
          rw [List.length_map]
          have := F.p1
          omega
      refine ⟨_, rfl, _, rfl, _, rfl, _, rfl, _, rfl, _, rfl, _, rfl, _, rfl, _, rfl, _, _, _, _, _, _, _, _, _, .int p, .int s', .int g, .bool l, .int m, kd, .int fi, .int fa, .int ba, rfl, ⟨.int _, .int _, .int _, .bl _, .int _, hk.dp, .int _, .int _, .int _⟩, sh_int _, hz, fun H1 s1 => ?_⟩
      rw [right_all F hk.ok]
      refine ⟨_, rfl, rfl, _, rfl, iteF ?_⟩
      refine ⟨_, rfl, _, rfl, x, CR, dx, _, rfl, s1 _ _ hx, T_Rule.cl, T_Rule.n1, by decide, ?_⟩
      refine ⟨_, rfl, _, rfl, x, CR, dx, _, rfl, upd_same, T_Rule.cl, T_Rule.n2, Nat.lt_of_le_of_lt (put_lt (Nat.le_refl 0)) (by decide), ?_⟩
      refine ⟨_, rfl, _, rfl, x, CR, dx, _, rfl, upd_same, T_Rule.cl, T_Rule.n3, Nat.lt_of_le_of_lt (put_lt (put_lt (Nat.le_refl 0))) (by decide), ?_⟩
      refine ⟨_, rfl, _, rfl, x, CR, dx, _, rfl, upd_same, T_Rule.cl, T_Rule.n4, Nat.lt_of_le_of_lt (put_lt (put_lt (put_lt (Nat.le_refl 0)))) (by decide), ?_⟩
      refine ⟨_, rfl, _, rfl, x, CR, dx, _, rfl, upd_same, T_Rule.cl, T_Rule.n5, Nat.lt_of_le_of_lt (put_lt (put_lt (put_lt (put_lt (Nat.le_refl 0))))) (by decide), ?_⟩
      have b5 : But x H (upd (upd (upd (upd (upd H1 x (.ins CR dx (putF "parts" (.int p) []))) x (.ins CR dx (putF "step" (.int s') (putF "parts" (.int p) [])))) x (.ins CR dx (putF "grace" (.int g) (putF "step" (.int s') (putF "parts" (.int p) []))))) x (.ins CR dx (putF "last" (.bl l) (putF "grace" (.int g) (putF "step" (.int s') (putF "parts" (.int p) [])))))) x (.ins CR dx (putF "misses" (.int m) (putF "last" (.bl l) (putF "grace" (.int g) (putF "step" (.int s') (putF "parts" (.int p) []))))))) := (((((But.of s1).trans But.upd).trans But.upd).trans But.upd).trans But.upd).trans But.upd
      have e5 := upd_same (H := (upd (upd (upd (upd H1 x (.ins CR dx (putF "parts" (.int p) []))) x (.ins CR dx (putF "step" (.int s') (putF "parts" (.int p) [])))) x (.ins CR dx (putF "grace" (.int g) (putF "step" (.int s') (putF "parts" (.int p) []))))) x (.ins CR dx (putF "last" (.bl l) (putF "grace" (.int g) (putF "step" (.int s') (putF "parts" (.int p) []))))))) (a := x) (o := .ins CR dx (putF "misses" (.int m) (putF "last" (.bl l) (putF "grace" (.int g) (putF "step" (.int s') (putF "parts" (.int p) []))))))
      cases hk with
      | all a hA hl hb =>
        have hax : ∀ {G : Hp}, But x H G → SqT K G a (ks.map V.int) := fun t => by
          rcases hA with (h | ⟨o, h⟩) | h
          · exact .inl (.inl (t _ _ (ne_of h hx (by intro z; cases z)) h))
          · exact .inl (.inr ⟨o, t _ _ (ne_of h hx (by intro z; cases z)) h⟩)
          · exact .inr h
        refine ⟨_, rfl, _, _, _, _, true, rfl, .ty _, ty_of_dp (dpAll_intsT (hax b5)), kit_ty (a := "tuple") (by decide +kernel), _, rfl, iteT ⟨_, rfl, ?_⟩⟩
        refine ⟨_, rfl, x, CR, dx, _, rfl, e5, T_Rule.cl, T_Rule.n6, Nat.lt_of_le_of_lt (put_lt (put_lt (put_lt (put_lt (put_lt (Nat.le_refl 0)))))) (by decide), ?_⟩
        refine ⟨_, rfl, _, rfl, x, CR, dx, _, rfl, upd_same, T_Rule.cl, T_Rule.n7, Nat.lt_of_le_of_lt (put_lt (put_lt (put_lt (put_lt (put_lt (put_lt (Nat.le_refl 0))))))) (by decide), ?_⟩
        refine ⟨_, rfl, _, rfl, x, CR, dx, _, rfl, upd_same, T_Rule.cl, T_Rule.n8, Nat.lt_of_le_of_lt (put_lt (put_lt (put_lt (put_lt (put_lt (put_lt (put_lt (Nat.le_refl 0)))))))) (by decide), ?_⟩
        refine ⟨_, rfl, _, rfl, x, CR, dx, _, rfl, upd_same, T_Rule.cl, T_Rule.n9, Nat.lt_of_le_of_lt (put_lt (put_lt (put_lt (put_lt (put_lt (put_lt (put_lt (put_lt (Nat.le_refl 0))))))))) (by decide), ?_⟩
        refine q _ a ((((b5.trans But.upd).trans But.upd).trans But.upd).trans But.upd) (by rw [upd_same, ruleF_eq]) (hax ((((b5.trans But.upd).trans But.upd).trans But.upd).trans But.upd))
      | one k h0 h1 ek =>
        refine ⟨_, rfl, _, _, _, _, false, rfl, .ty _, .base (.int k), kit_ty (by decide +kernel), _, rfl, iteF ⟨_, rfl, (by show 1 ≤ sizeLine; decide), fun t ht => ⟨_, rfl, ?_⟩⟩⟩
        have nt : t ≠ x := (ne_of_none e5 ht).symm
        by_cases hp1 : p = 1
        · subst hp1
          refine .inr ⟨t, [.int k], rfl, rfl, SqT.of upd_same, by simp, ?_⟩
          have ek2 : ks = [k] := ek
          refine ⟨_, rfl, x, CR, dx, _, rfl, (by rw [upd_ne nt.symm]; exact e5), T_Rule.cl, T_Rule.n6, Nat.lt_of_le_of_lt (put_lt (put_lt (put_lt (put_lt (put_lt (Nat.le_refl 0)))))) (by decide), ?_⟩
          refine ⟨_, rfl, _, rfl, x, CR, dx, _, rfl, upd_same, T_Rule.cl, T_Rule.n7, Nat.lt_of_le_of_lt (put_lt (put_lt (put_lt (put_lt (put_lt (put_lt (Nat.le_refl 0))))))) (by decide), ?_⟩
          refine ⟨_, rfl, _, rfl, x, CR, dx, _, rfl, upd_same, T_Rule.cl, T_Rule.n8, Nat.lt_of_le_of_lt (put_lt (put_lt (put_lt (put_lt (put_lt (put_lt (put_lt (Nat.le_refl 0)))))))) (by decide), ?_⟩
          refine ⟨_, rfl, _, rfl, x, CR, dx, _, rfl, upd_same, T_Rule.cl, T_Rule.n9, Nat.lt_of_le_of_lt (put_lt (put_lt (put_lt (put_lt (put_lt (put_lt (put_lt (put_lt (Nat.le_refl 0))))))))) (by decide), ?_⟩
          refine q _ t ((((b5.trans (But.new ht)).trans But.upd).trans But.upd).trans But.upd |>.trans But.upd) (by rw [upd_same, ruleF_eq]) (by rw [ek2]; exact SqT.of (by rw [upd_ne nt, upd_ne nt, upd_ne nt, upd_ne nt, upd_same]; rfl))
        · have hp2 : 2 ≤ p := by have := F.p0; omega
          have hp6 : p ≤ 1000 := by have := F.p1; omega
          refine .inl ⟨t, p, [.int k], rfl, rfl, SqT.of upd_same, by simp, hp2, hp6, (by show 1 ≤ 1000; decide), fun t2 ht2 => ?_⟩
          have e6 : (upd (upd (upd (upd (upd (upd H1 x (.ins CR dx (putF "parts" (.int p) []))) x (.ins CR dx (putF "step" (.int s') (putF "parts" (.int p) [])))) x (.ins CR dx (putF "grace" (.int g) (putF "step" (.int s') (putF "parts" (.int p) []))))) x (.ins CR dx (putF "last" (.bl l) (putF "grace" (.int g) (putF "step" (.int s') (putF "parts" (.int p) [])))))) x (.ins CR dx (putF "misses" (.int m) (putF "last" (.bl l) (putF "grace" (.int g) (putF "step" (.int s') (putF "parts" (.int p) []))))))) t (.tup [.int k])) x = _ := (upd_ne nt.symm).trans e5
          have nt2 : t2 ≠ x := (ne_of_none e6 ht2).symm
          refine ⟨_, rfl, x, CR, dx, _, rfl, (by rw [upd_ne nt2.symm]; exact e6), T_Rule.cl, T_Rule.n6, Nat.lt_of_le_of_lt (put_lt (put_lt (put_lt (put_lt (put_lt (Nat.le_refl 0)))))) (by decide), ?_⟩
          refine ⟨_, rfl, _, rfl, x, CR, dx, _, rfl, upd_same, T_Rule.cl, T_Rule.n7, Nat.lt_of_le_of_lt (put_lt (put_lt (put_lt (put_lt (put_lt (put_lt (Nat.le_refl 0))))))) (by decide), ?_⟩
          refine ⟨_, rfl, _, rfl, x, CR, dx, _, rfl, upd_same, T_Rule.cl, T_Rule.n8, Nat.lt_of_le_of_lt (put_lt (put_lt (put_lt (put_lt (put_lt (put_lt (put_lt (Nat.le_refl 0)))))))) (by decide), ?_⟩
          refine ⟨_, rfl, _, rfl, x, CR, dx, _, rfl, upd_same, T_Rule.cl, T_Rule.n9, Nat.lt_of_le_of_lt (put_lt (put_lt (put_lt (put_lt (put_lt (put_lt (put_lt (put_lt (Nat.le_refl 0))))))))) (by decide), ?_⟩
          refine q _ t2 ((((b5.trans (But.new ht)).trans (But.new ht2)).trans But.upd).trans But.upd |>.trans But.upd |>.trans But.upd) (by rw [upd_same, ruleF_eq]) (SqT.of (by rw [upd_ne nt2, upd_ne nt2, upd_ne nt2, upd_ne nt2, upd_same, ek, rep1, List.map_replicate]))
    · obtain ⟨y1, y2, y3, y4, y5, y6, y7, y8, y9, d1, d2, d3, d4, d5, d6, d7, d8, d9, e, hd, sh, hz, ew⟩ := hN
      cases e
      refine ⟨_, rfl, _, rfl, _, rfl, _, rfl, _, rfl, _, rfl, _, rfl, _, rfl, _, rfl, _, _, _, _, _, _, _, _, _, d1, d2, d3, d4, d5, d6, d7, d8, d9, rfl, hd, sh, hz, fun H1 s1 => ?_⟩
      rw [ew]
      refine ⟨_, rfl, rfl, _, rfl, iteT ?_⟩
      refine ⟨_, rfl, (by show 1 ≤ 1000; decide), fun a na => ⟨a, _, rfl, upd_same, fun d nd ne => ⟨rfl, d, [(Str.ofString "word", .str wd)], upd_same, ?_, ?_, ?_⟩⟩⟩
      · rw [upd_ne ne, upd_same]
      · rw [upd_ne ne] at nd
        exact nd
      · rw [upd_ne ne] at nd
        refine q _ d (fun c o hc => ?_) (back_none s1 nd) upd_same
        have c1 := s1 _ _ hc
        have ca : c ≠ a := ne_of_none c1 na
        have cd : c ≠ d := ne_of_none c1 nd
        rw [upd_ne cd, del_ne ca, upd_ne ca, upd_ne cd, upd_ne ca]
        exact c1
structure Fg where
  p : Int
  s : Int
  g : Int
  l : Bool
  m : Int
  ks : List Int
  fi : Int
  fa : Int
  ba : Int
structure Fg.Ok (f : Fg) : Prop where
  figs : Figs f.p f.s f.g f.m f.fi f.fa f.ba
  len : (f.ks.length : Int) = f.p
  bnd : ∀ k ∈ f.ks, 0 ≤ k ∧ k ≤ 100
def RuleAt (K : PySem.W.Frag) (H : Hp) (C r : Addr) (f : Fg) : Prop := ∃ dx kt, H r = some (.ins C dx (ruleF f.p f.s f.g f.l f.m kt f.fi f.fa f.ba)) ∧ SqT K H kt (f.ks.map V.int)
theorem RuleAt.same {K : PySem.W.Frag} {H H' : Hp} {C r : Addr} {f : Fg} (h : RuleAt K H C r f) (e : Same H H') : RuleAt K H' C r f := by
  obtain ⟨dx, kt, h1, h2⟩ := h
  exact ⟨dx, kt, e _ _ h1, seqT_same e h2⟩
section
variable {p s g : Int} {l : Bool} {m : Int} {kt : Addr} {fi fa ba : Int}
theorem lk_ne {x y : Str} {v : V} {r : List (Str × V)} (h : x ≠ y) : List.lookup x ((y, v) :: r) = List.lookup x r := by
  rw [List.lookup_cons, beq_false_of_ne h]
theorem lk_eq {x : Str} {v : V} {r : List (Str × V)} : List.lookup x ((x, v) :: r) = some v := by
  rw [List.lookup_cons, beq_self_eq_true]
theorem lk1 : (ruleF p s g l m kt fi fa ba).lookup ("parts" : Str) = some (V.int p) := lk_eq
theorem lk2 : (ruleF p s g l m kt fi fa ba).lookup ("step" : Str) = some (V.int s) := by
  unfold ruleF
  rw [lk_ne (by decide +kernel), lk_eq]
theorem lk3 : (ruleF p s g l m kt fi fa ba).lookup ("grace" : Str) = some (V.int g) := by
  unfold ruleF
  rw [lk_ne (by decide +kernel), lk_ne (by decide +kernel), lk_eq]
theorem lk4 : (ruleF p s g l m kt fi fa ba).lookup ("last" : Str) = some (V.bl l) := by
  unfold ruleF
  rw [lk_ne (by decide +kernel), lk_ne (by decide +kernel), lk_ne (by decide +kernel), lk_eq]
theorem lk5 : (ruleF p s g l m kt fi fa ba).lookup ("misses" : Str) = some (V.int m) := by
  unfold ruleF
  rw [lk_ne (by decide +kernel), lk_ne (by decide +kernel), lk_ne (by decide +kernel), lk_ne (by decide +kernel), lk_eq]
theorem lk6 : (ruleF p s g l m kt fi fa ba).lookup ("keep" : Str) = some (V.ref kt) := by
  unfold ruleF
  rw [lk_ne (by decide +kernel), lk_ne (by decide +kernel), lk_ne (by decide +kernel), lk_ne (by decide +kernel), lk_ne (by decide +kernel), lk_eq]
theorem lk7 : (ruleF p s g l m kt fi fa ba).lookup ("fine" : Str) = some (V.int fi) := by
  unfold ruleF
  rw [lk_ne (by decide +kernel), lk_ne (by decide +kernel), lk_ne (by decide +kernel), lk_ne (by decide +kernel), lk_ne (by decide +kernel), lk_ne (by decide +kernel), lk_eq]
theorem lk8 : (ruleF p s g l m kt fi fa ba).lookup ("falls" : Str) = some (V.int fa) := by
  unfold ruleF
  rw [lk_ne (by decide +kernel), lk_ne (by decide +kernel), lk_ne (by decide +kernel), lk_ne (by decide +kernel), lk_ne (by decide +kernel), lk_ne (by decide +kernel), lk_ne (by decide +kernel), lk_eq]
theorem lk9 : (ruleF p s g l m kt fi fa ba).lookup ("back" : Str) = some (V.int ba) := by
  unfold ruleF
  rw [lk_ne (by decide +kernel), lk_ne (by decide +kernel), lk_ne (by decide +kernel), lk_ne (by decide +kernel), lk_ne (by decide +kernel), lk_ne (by decide +kernel), lk_ne (by decide +kernel), lk_ne (by decide +kernel), lk_eq]
theorem lk0 {x : Str} (h : x ∉ (["parts", "step", "grace", "last", "misses", "keep", "fine", "falls", "back"] : List Str)) : (ruleF p s g l m kt fi fa ba).lookup x = none := by
  simp only [List.mem_cons, List.not_mem_nil, or_false, not_or] at h
  obtain ⟨h1, h2, h3, h4, h5, h6, h7, h8, h9⟩ := h
  unfold ruleF
  rw [lk_ne h1, lk_ne h2, lk_ne h3, lk_ne h4, lk_ne h5, lk_ne h6, lk_ne h7, lk_ne h8, lk_ne h9]
  rfl
end
def keptV (f : Fg) (k : Int) (gone : Bool) : Int := if gone then (if k + f.fi < 100 then k + f.fi else 100) else k
/-! ### Rule_figures -/
abbrev s_Rule_figures : Stmt := inClass (topS 24) 2
abbrev N_Rule_figures : List Str := ["self"]
theorem sc_Rule_figures : FnScope N_Rule_figures ["self"] (defScope s_Rule_figures) := ⟨rfl, rfl, rfl, by decide +kernel, rfl, by decide +kernel, by decide +kernel⟩
def sp_Rule_figures (K : PySem.W.Frag) (C : Addr) : Sp := fun vs H Q _ => ∃ (r : Addr) (f : Fg), vs = [.ref r] ∧ RuleAt K H C r f ∧ ∀ H' t kt, H t = none → Same H H' → H' t = some (.tup [.int f.p, .int f.s, .int f.g, .bl f.l, .int f.m, .ref kt, .int f.fi, .int f.fa, .int f.ba]) → SqT K H' kt (f.ks.map V.int) → Q (.ref t) H'
theorem ok_Rule_figures {f : Addr} {fd : FuncData} {CR : Addr} (TQ : TEq K mg CR "Rule") (T_Rule : TRule K mg CR) (F : FunD K "figures" "Rule.figures" (defArgs s_Rule_figures) (defBody s_Rule_figures) (defScope s_Rule_figures) [] [] f fd) : FnOk P w K mg base CX0 1 f fd ["self"] (sp_Rule_figures K CR) := by
  refine okD F sc_Rule_figures (fun vs H Q E h => ?_) (fun cdv A outer s H vs Q E hr h => ?_)
  · first | (obtain ⟨_, rfl, _⟩ := h; rfl) | (obtain ⟨_, _, rfl, _⟩ := h; rfl) | (obtain ⟨_, _, _, rfl, _⟩ := h; rfl) | (obtain ⟨_, _, _, _, rfl, _⟩ := h; rfl) | (obtain ⟨_, _, _, _, _, rfl, _⟩ := h; rfl) | (obtain ⟨_, _, _, _, _, _, rfl, _⟩ := h; rfl) | (obtain ⟨_, _, _, _, _, _, _, rfl, _⟩ := h; rfl) | (obtain ⟨_, _, _, _, _, _, _, _, rfl, _⟩ := h; rfl) | (obtain ⟨_, _, _, _, _, _, _, _, _, rfl, _⟩ := h; rfl) | (obtain ⟨_, _, _, _, _, _, _, _, _, _, rfl, _⟩ := h; rfl) | (obtain ⟨_, _, _, _, _, _, _, _, _, _, _, rfl, _⟩ := h; rfl) | (obtain ⟨_, _, _, _, _, _, _, _, _, _, _, _, rfl, _⟩ := h; rfl) | (obtain ⟨_, _, _, _, _, _, _, _, _, _, _, _, _, rfl, _⟩ := h; rfl) | (obtain ⟨_, _, _, _, _, _, _, _, _, _, _, _, _, _, rfl, _⟩ := h; rfl) | (obtain ⟨_, _, _, _, _, _, _, _, _, _, _, _, _, _, _, rfl, _⟩ := h; rfl)
  · have hu64 := hr.units
    obtain ⟨r, f', rfl, ⟨dx, kt, h1, h2⟩, q⟩ := h
    refine ⟨_, (pss_one (ps_ret (pe_tup (pa_cons (pe_fld (pv 0) rfl) (pa_cons (pe_fld (pv 0) rfl) (pa_cons (pe_fld (pv 0) rfl) (pa_cons (pe_fld (pv 0) rfl) (pa_cons (pe_fld (pv 0) rfl) (pa_cons (pe_fld (pv 0) rfl) (pa_cons (pe_fld (pv 0) rfl) (pa_cons (pe_fld (pv 0) rfl) (pa_cons (pe_fld (pv 0) rfl) pa_nil)))))))))))), ?_⟩
    refine ⟨_, rfl, r, CR, dx, _, _, rfl, h1, T_Rule.cl, T_Rule.n1, lk1, ?_⟩
    refine ⟨_, rfl, r, CR, dx, _, _, rfl, h1, T_Rule.cl, T_Rule.n2, lk2, ?_⟩
    refine ⟨_, rfl, r, CR, dx, _, _, rfl, h1, T_Rule.cl, T_Rule.n3, lk3, ?_⟩
    refine ⟨_, rfl, r, CR, dx, _, _, rfl, h1, T_Rule.cl, T_Rule.n4, lk4, ?_⟩
    refine ⟨_, rfl, r, CR, dx, _, _, rfl, h1, T_Rule.cl, T_Rule.n5, lk5, ?_⟩
    refine ⟨_, rfl, r, CR, dx, _, _, rfl, h1, T_Rule.cl, T_Rule.n6, lk6, ?_⟩
    refine ⟨_, rfl, r, CR, dx, _, _, rfl, h1, T_Rule.cl, T_Rule.n7, lk7, ?_⟩
    refine ⟨_, rfl, r, CR, dx, _, _, rfl, h1, T_Rule.cl, T_Rule.n8, lk8, ?_⟩
    refine ⟨_, rfl, r, CR, dx, _, _, rfl, h1, T_Rule.cl, T_Rule.n9, lk9, (by show 9 ≤ sizeLine; decide), fun t ht => ?_⟩
    exact q _ t kt ht (same_new ht) upd_same (seqT_same (same_new ht) h2)
/-! ### what is left to draw of -/
def Left (H : Hp) (b c : Addr) (n : Int) : Prop := ∃ (x z : Int) (ns : List Int), H b = some (.lst [.int x, .ref c, .int z]) ∧ H c = some (.lst (ns.map V.int)) ∧ 0 ≤ x ∧ 0 ≤ z ∧ z ≤ n ∧ 1 ≤ ns.length ∧ ns.length ≤ 63
section
variable {H H' : Hp} {b c p : Addr} {n m : Int} {o : HO}
theorem Left.mono (h : Left H b c n) (l : n ≤ m) : Left H b c m := by
  obtain ⟨x, z, ns, h0, h1, h2, h3, h4, h5⟩ := h
  exact ⟨x, z, ns, h0, h1, h2, h3, by omega, h5⟩
theorem Left.same (e : Same H H') (h : Left H b c n) : Left H' b c n := by
  obtain ⟨x, z, ns, h0, h1, h2⟩ := h
  exact ⟨x, z, ns, e _ _ h0, e _ _ h1, h2⟩
theorem Left.new (h : Left H b c n) (e : H p = none) : Left (upd H p o) b c n := h.same (same_new e)
theorem Left.ne (h : Left H b c n) (e : H p = none) : p ≠ b := fun z => by
  obtain ⟨_, _, _, h0, _⟩ := h
  rw [z, h0] at e
  cases e
theorem Left.ne2 (h : Left H b c n) (e : H p = none) : p ≠ c := fun z => by
  obtain ⟨_, _, _, _, h0, _⟩ := h
  rw [z, h0] at e
  cases e
theorem Left.upd (h : Left H b c n) (e1 : p ≠ b) (e2 : p ≠ c) : Left (upd H p o) b c n := by
  obtain ⟨x, z, ns, h0, h1, h2⟩ := h
  exact ⟨x, z, ns, by rw [upd_ne e1.symm]; exact h0, by rw [upd_ne e2.symm]; exact h1, h2⟩
theorem Left.net (h : Left H b c n) {xs : List V} (e : H p = some (.tup xs)) : p ≠ b := fun z => by
  obtain ⟨_, _, _, h0, _⟩ := h
  rw [z, h0] at e
  cases e
theorem left_cells {x z : Int} {ns : List Int} (h0 : H b = some (.lst [.int x, .ref c, .int z])) (h1 : H c = some (.lst (ns.map V.int))) : c ≠ b := fun e => by
  rw [e, h0] at h1
  have h2 := HO.lst.inj (Option.some.inj h1)
  match ns, h2 with
  | [], h2 => cases h2
  | [_], h2 => cases h2
  | _ :: _ :: _, h2 => cases (List.cons.inj (List.cons.inj h2).2).1
theorem But.seqT {K : PySem.W.Frag} {a : Addr} {xs : List V} (t : But b H H') (hb : Left H b c n) (h : SqT K H a xs) : SqT K H' a xs := by
  obtain ⟨_, _, _, hx, _⟩ := hb
  rcases h with (h | ⟨o, h⟩) | h
  · exact .inl (.inl (t _ _ (ne_of h hx (by intro z; cases z)) h))
  · exact .inl (.inr ⟨o, t _ _ (ne_of h hx (by intro z; cases z)) h⟩)
  · exact .inr h
end
theorem none_of {H H' : Hp} {p : Addr} (s : Same H H') (h : H' p = none) : H p = none := by
  cases e : H p with
  | none => rfl
  | some o =>
    rw [s _ _ e] at h
    cases h
theorem cut_to {xs : List V} {k : Nat} (h : xs.length ≤ k) : cutV xs none (some (k : Int)) = xs := by
  unfold cutV
  rw [HT.sIx_nat, HT.sIx_none, Nat.min_eq_right h]
  simp
theorem pick3v {r : Int} {x y z : V} (h0 : 0 ≤ r) (h1 : r < 3) : ∃ v, atI [x, y, z] r = some v ∧ (v = x ∨ v = y ∨ v = z) := by
  have h : r = 0 ∨ r = 1 ∨ r = 2 := by omega
  rcases h with rfl | rfl | rfl
  · exact ⟨x, rfl, .inl rfl⟩
  · exact ⟨y, rfl, .inr (.inl rfl)⟩
  · exact ⟨z, rfl, .inr (.inr rfl)⟩
theorem pick3i {r x y z lo hi : Int} (h0 : 0 ≤ r) (h1 : r < 3) (hx : lo ≤ x ∧ x ≤ hi) (hy : lo ≤ y ∧ y ≤ hi) (hz : lo ≤ z ∧ z ≤ hi) : ∃ v : Int, atI [V.int x, .int y, .int z] r = some (.int v) ∧ lo ≤ v ∧ v ≤ hi := by
  have h : r = 0 ∨ r = 1 ∨ r = 2 := by omega
  rcases h with rfl | rfl | rfl
  · exact ⟨x, rfl, hx⟩
  · exact ⟨y, rfl, hy⟩
  · exact ⟨z, rfl, hz⟩
theorem pick4i {r x y z u lo hi : Int} (h0 : 0 ≤ r) (h1 : r < 4) (hx : lo ≤ x ∧ x ≤ hi) (hy : lo ≤ y ∧ y ≤ hi) (hz : lo ≤ z ∧ z ≤ hi) (hu : lo ≤ u ∧ u ≤ hi) : ∃ v : Int, atI [V.int x, .int y, .int z, .int u] r = some (.int v) ∧ lo ≤ v ∧ v ≤ hi := by
  have h : r = 0 ∨ r = 1 ∨ r = 2 ∨ r = 3 := by omega
  rcases h with rfl | rfl | rfl | rfl
  · exact ⟨x, rfl, hx⟩
  · exact ⟨y, rfl, hy⟩
  · exact ⟨z, rfl, hz⟩
  · exact ⟨u, rfl, hu⟩
def Drawn (K : PySem.W.Frag) (H : Hp) (t : Addr) (f : Fg) (kv : V) (kd : PyData) : Prop := SqT K H t [.int f.p, .int f.s, .int f.g, .bl f.l, .int f.m, kv, .int f.fi, .int f.fa, .int f.ba] ∧ Figs f.p f.s f.g f.m f.fi f.fa f.ba ∧ Keep K H f.p f.ks kv kd
theorem Keep.same {K : PySem.W.Frag} {H H' : Hp} {p : Int} {ks : List Int} {v : V} {d : PyData} (h : Keep K H p ks v d) (e : Same H H') : Keep K H' p ks v d := by
  cases h with
  | one k h0 h1 e => exact .one k h0 h1 e
  | all a h hl hb => exact .all a (seqT_same e h) hl hb
theorem Keep.but {K : PySem.W.Frag} {H H' : Hp} {b c : Addr} {n p : Int} {ks : List Int} {v : V} {d : PyData} (h : Keep K H p ks v d) (e : But b H H') (l : Left H b c n) : Keep K H' p ks v d := by
  cases h with
  | one k h0 h1 e => exact .one k h0 h1 e
  | all a h hl hb => exact .all a (e.seqT l h) hl hb
theorem Drawn.same {K : PySem.W.Frag} {H H' : Hp} {t : Addr} {f : Fg} {kv : V} {kd : PyData} (h : Drawn K H t f kv kd) (e : Same H H') : Drawn K H' t f kv kd := ⟨seqT_same e h.1, h.2.1, h.2.2.same e⟩
theorem Drawn.but {K : PySem.W.Frag} {H H' : Hp} {b c t : Addr} {n : Int} {f : Fg} {kv : V} {kd : PyData} (h : Drawn K H t f kv kd) (e : But b H H') (l : Left H b c n) : Drawn K H' t f kv kd := ⟨e.seqT l h.1, h.2.1, h.2.2.but e l⟩
theorem Drawn.ok {K : PySem.W.Frag} {H : Hp} {t : Addr} {f : Fg} {kv : V} {kd : PyData} (h : Drawn K H t f kv kd) : f.Ok := by
  obtain ⟨_, F, k⟩ := h
  refine ⟨F, ?_, ?_⟩
  · cases k with
    | one k h0 h1 e =>
      have := F.p0
      rw [e, List.length_replicate]
      omega
    | all a h hl hb => exact hl
  · cases k with
    | one k h0 h1 e =>
      intro x hx
      rw [e] at hx
      rw [List.eq_of_mem_replicate hx]
      exact ⟨h0, h1⟩
    | all a h hl hb => exact hb
def mostN : Nat → Int
  | 0 => 100
  | _ => 30
theorem most_at {i : Nat} {x : V} (h : [V.int 100, .int 30, .int 30][i]? = some x) : i < 3 ∧ x = .int (mostN i) ∧ 30 ≤ mostN i ∧ mostN i ≤ 100 := by
  match i, h with
  | 0, h => cases h; exact ⟨by decide, rfl, by decide, by decide⟩
  | 1, h => cases h; exact ⟨by decide, rfl, by decide, by decide⟩
  | 2, h => cases h; exact ⟨by decide, rfl, by decide, by decide⟩
  | n + 3, h => cases h
/-! ### counted -/
abbrev s_counted : Stmt := topS 8
abbrev N_counted : List Str := ["word", "number"]
theorem sc_counted : FnScope N_counted ["word", "number"] (defScope s_counted) := ⟨rfl, rfl, rfl, by decide +kernel, rfl, by decide +kernel, by decide +kernel⟩
def cntT (w : Str) (n : Int) : Str := if n = 0 then "" else w ++ " " ++ Str.ofString (toString n)
def sp_counted (K : PySem.W.Frag) : Sp := fun vs H Q _ => ∃ (w : Str) (n : Int), vs = [.str w, .int n] ∧ w.length ≤ 100 ∧ 0 ≤ n ∧ n ≤ 1000 ∧ Q (.str (cntT w n)) H
theorem ok_counted {f : Addr} {fd : FuncData} (F : Fun K "counted" "counted" s_counted f fd) (g : mg "counted" = some (.ref f)) (bd : Binds K fd ["word", "number"] []) : CF P w K mg base 1 "counted" ["word", "number"] (sp_counted K) := by
  refine ⟨f, fd, F.ok sc_counted (fun vs H Q E h => ?_) (fun cdv A outer s H vs Q E hr h => ?_), g, F.kp, bd⟩
  · first | (obtain ⟨_, rfl, _⟩ := h; rfl) | (obtain ⟨_, _, rfl, _⟩ := h; rfl) | (obtain ⟨_, _, _, rfl, _⟩ := h; rfl) | (obtain ⟨_, _, _, _, rfl, _⟩ := h; rfl) | (obtain ⟨_, _, _, _, _, rfl, _⟩ := h; rfl) | (obtain ⟨_, _, _, _, _, _, rfl, _⟩ := h; rfl) | (obtain ⟨_, _, _, _, _, _, _, rfl, _⟩ := h; rfl) | (obtain ⟨_, _, _, _, _, _, _, _, rfl, _⟩ := h; rfl) | (obtain ⟨_, _, _, _, _, _, _, _, _, rfl, _⟩ := h; rfl) | (obtain ⟨_, _, _, _, _, _, _, _, _, _, rfl, _⟩ := h; rfl) | (obtain ⟨_, _, _, _, _, _, _, _, _, _, _, rfl, _⟩ := h; rfl) | (obtain ⟨_, _, _, _, _, _, _, _, _, _, _, _, rfl, _⟩ := h; rfl) | (obtain ⟨_, _, _, _, _, _, _, _, _, _, _, _, _, rfl, _⟩ := h; rfl) | (obtain ⟨_, _, _, _, _, _, _, _, _, _, _, _, _, _, rfl, _⟩ := h; rfl) | (obtain ⟨_, _, _, _, _, _, _, _, _, _, _, _, _, _, _, rfl, _⟩ := h; rfl)
  · have hu64 := hr.units
    obtain ⟨w, n, rfl, hw, n0, n1, q⟩ := h
    refine ⟨_, (pss_cons (ps_if (pt_cmpR op_eq (pv 1) pe_int (nomark _))
         (pss_one (ps_ret pe_str))
         pss_nil)
      (pss_one (ps_ret (pe_joined (PJ.cons (pe_fmt (pv 0)) (PJ.cons pe_str (PJ.cons (pe_fmt (pv 1)) PJ.nil))))))), ?_⟩
    have e0 : ∀ s : Str, Str.empty ++ s = s := fun s => by
      show Str.mk (#[] ++ s.cps) = s
      rw [Array.empty_append]
    have lt : (Str.ofString (toString n)).length ≤ 4 := PyProof.Rows.toString_length_le (v := n) n0 (k := 4) (by decide) (by show n < 10000; omega)
    have l1 : (Str.ofString " ").length = 1 := rfl
    refine ⟨_, rfl, rfl, _, rfl, ite2 (fun z => ?_) (fun z => ?_)⟩
    · have e : n = 0 := V.int.inj (of_decide_eq_true z)
      rw [cntT, if_pos e] at q
      exact q
    · have e : n ≠ 0 := fun e => z (decide_eq_true (by rw [e]))
      rw [cntT, if_neg e] at q
      have lg : n.natAbs.log2 < 1920 := by
        by_cases z : n.natAbs = 0
        · rw [z]
          decide
        · have : n.natAbs.log2 < 30 := (Nat.log2_lt z).mpr (by show n.natAbs < 1073741824; omega)
          omega
      refine ⟨_, rfl, .inl ⟨w, rfl, by rw [sizeLine_eq]; omega, w, rfl, by rw [e0, sizeLine_eq]; omega, _, rfl, by rw [e0, len_app, l1, sizeLine_eq]; omega, _, rfl, .inr ⟨n, rfl, lg, _, rfl, by rw [e0, len_app, len_app, l1, sizeLine_eq]; omega, ?_⟩⟩⟩
      rw [e0]
      exact q
/-! ### kept_clause -/
abbrev s_kept_clause : Stmt := topS 9
abbrev N_kept_clause : List Str := ["keep", "numbers", "number"]
theorem sc_kept_clause : FnScope N_kept_clause ["keep"] (defScope s_kept_clause) := ⟨rfl, rfl, rfl, by decide +kernel, rfl, by decide +kernel, by decide +kernel⟩
theorem small_log {n : Int} (h : 0 ≤ n ∧ n ≤ 100) : n.natAbs.log2 < 1920 := by
  by_cases z : n.natAbs = 0
  · rw [z]
    decide
  · have : n.natAbs.log2 < 30 := (Nat.log2_lt z).mpr (by show n.natAbs < 1073741824; omega)
    omega
def keptT (ks : List Int) : Str := if ks.all (fun k => decide (k = ks.headD 0)) = true then cntT "keep" (ks.headD 0) else Str.ofString "keep " ++ Txt.join " " (ks.map fun k => Str.ofString (toString k))
def sp_kept_clause (K : PySem.W.Frag) : Sp := fun vs H Q _ => ∃ (t : Addr) (ks : List Int), vs = [.ref t] ∧ SqT K H t (ks.map V.int) ∧ ks ≠ [] ∧ ks.length ≤ 6 ∧ (∀ k ∈ ks, 0 ≤ k ∧ k ≤ 100) ∧ ∀ H', Same H H' → Q (.str (keptT ks)) H'
theorem ok_kept_clause {f : Addr} {fd : FuncData} (F : Fun K "kept_clause" "kept_clause" s_kept_clause f fd) (g : mg "kept_clause" = some (.ref f)) (bd : Binds K fd ["keep"] []) (m_len : mg "len" = none) (m_set : mg "set" = none) (m_str : mg "str" = none) (C_counted : CF P w K mg base 1 "counted" ["word", "number"] (sp_counted K)) : CF P w K mg base 2 "kept_clause" ["keep"] (sp_kept_clause K) := by
  refine ⟨f, fd, F.ok sc_kept_clause (fun vs H Q E h => ?_) (fun cdv A outer s H vs Q E hr h => ?_), g, F.kp, bd⟩
  · first | (obtain ⟨_, rfl, _⟩ := h; rfl) | (obtain ⟨_, _, rfl, _⟩ := h; rfl) | (obtain ⟨_, _, _, rfl, _⟩ := h; rfl) | (obtain ⟨_, _, _, _, rfl, _⟩ := h; rfl) | (obtain ⟨_, _, _, _, _, rfl, _⟩ := h; rfl) | (obtain ⟨_, _, _, _, _, _, rfl, _⟩ := h; rfl) | (obtain ⟨_, _, _, _, _, _, _, rfl, _⟩ := h; rfl) | (obtain ⟨_, _, _, _, _, _, _, _, rfl, _⟩ := h; rfl) | (obtain ⟨_, _, _, _, _, _, _, _, _, rfl, _⟩ := h; rfl) | (obtain ⟨_, _, _, _, _, _, _, _, _, _, rfl, _⟩ := h; rfl) | (obtain ⟨_, _, _, _, _, _, _, _, _, _, _, rfl, _⟩ := h; rfl) | (obtain ⟨_, _, _, _, _, _, _, _, _, _, _, _, rfl, _⟩ := h; rfl) | (obtain ⟨_, _, _, _, _, _, _, _, _, _, _, _, _, rfl, _⟩ := h; rfl) | (obtain ⟨_, _, _, _, _, _, _, _, _, _, _, _, _, _, rfl, _⟩ := h; rfl) | (obtain ⟨_, _, _, _, _, _, _, _, _, _, _, _, _, _, _, rfl, _⟩ := h; rfl)
  · have hu64 := hr.units
    obtain ⟨t, ks, rfl, hS, hne, hl, hb, q⟩ := h
    refine ⟨_, (pss_cons (ps_if (pt_cmpR op_eq (pe_lenSetT (by rfl) m_len (by rfl) m_set (pv 0)) pe_int (nomark _))
         (pss_one (ps_ret (pe_cf C_counted (hr.mono (by decide)) (by rfl) (pa_cons pe_str (pa_cons (pe_ix (kk_ixt K) (pv 0) pe_int (fun _ _ => rfl)) pa_nil)))))
         pss_nil)
      (pss_cons (ps_set (i := 1) sc_kept_clause.nd rfl (.inl rfl) (pe_join pe_str (pe_lc (own := [("number", 2)]) (g := (gName 2)) (tt := tYes) rfl sc_kept_clause.nd (pi_tup (pv 0)) (blkOk_by (own := [("number", 2)]) (N := N_kept_clause) (sc := defScope s_kept_clause) (by decide +kernel)) (fun _ _ _ _ _ => pg_name (i := 2) sc_kept_clause.nd rfl (Or.inl rfl)) (fun _ _ _ _ _ => pts_nil) (fun _ _ _ _ _ => (pe_callTy call_str_int (by rfl) m_str (by decide +kernel) (pa_cons (pv 2) pa_nil))))))
      (pss_one (ps_ret (pe_joined (PJ.cons pe_str (PJ.cons (pe_fmt (pv 1)) PJ.nil))))))), ?_⟩
    obtain ⟨k0, r, rfl⟩ : ∃ k0 r, ks = k0 :: r := by
      cases ks with
      | nil => exact absurd rfl hne
      | cons a b => exact ⟨a, b, rfl⟩
    have hb0 := hb k0 List.mem_cons_self
    refine ⟨_, rfl, t, _, rfl, hS, by omega, fun c hc => ⟨rfl, _, rfl, ite2 (fun z => ?_) (fun z => ?_)⟩⟩
    · have e : c = 1 := by
        have := V.int.inj (of_decide_eq_true z)
        omega
      obtain ⟨k, hk⟩ := hc.mp e
      have k0e := (hk k0).mp List.mem_cons_self
      have al : (k0 :: r).all (fun k => decide (k = (k0 :: r).headD 0)) = true := List.all_eq_true.mpr fun j hj => decide_eq_true (by show j = k0; rw [(hk j).mp hj, k0e])
      have at0 : atI ((k0 :: r).map V.int) 0 = some (.int k0) := by
        unfold atI ixN
        rw [if_pos (by decide), if_pos (by rw [List.map_cons, List.length_cons]; omega)]
        rfl
      refine ⟨_, rfl, t, _, _, _, rfl, rfl, hS, at0, _, _, rfl, by decide, hb0.1, by omega, ?_⟩
      have := q H (Same.refl H)
      rw [keptT, if_pos al] at this
      exact this
    · have al : ¬ (k0 :: r).all (fun k => decide (k = (k0 :: r).headD 0)) = true := fun al => by
        refine z (decide_eq_true ?_)
        have : c = 1 := hc.mpr ⟨k0, fun j => ⟨fun hj => of_decide_eq_true (List.all_eq_true.mp al j hj), fun e => by rw [e]; exact List.mem_cons_self⟩⟩
        rw [this]
        rfl
      refine ⟨⟨_, rfl⟩, _, rfl, t, rfl, ⟨_, hS⟩, fun D hD => vals_lc (fun v => match v with | .int k => .str (Str.ofString (toString k)) | _ => .non) (jok_t (K := K) hS) (by rw [List.length_map]; omega) hD (fun x hx G s Y N h1 => ?_) (fun G s hG => ?_)⟩
      · obtain ⟨k, hk, rfl⟩ := List.mem_map.mp hx
        exact ⟨rfl, _, rfl, k, rfl, small_log (hb k hk), h1 G (Same.refl G)⟩
      · have hG2 : G D = some (.lst (((k0 :: r).map fun k => Str.ofString (toString k)).map V.str)) := by
          rw [hG, List.map_map, List.map_map]
          rfl
        have ln : ∀ l : List Int, (∀ k ∈ l, 0 ≤ k ∧ k ≤ 100) → ((l.map fun k => Str.ofString (toString k)).map fun x => x.length).sum ≤ 4 * l.length := fun l hb => by
          induction l with
          | nil => exact Nat.le_refl _
          | cons k l ih =>
            have a := ih fun x hx => hb x (List.mem_cons_of_mem _ hx)
            have b : (Str.ofString (toString k)).length ≤ 4 := PyProof.Rows.toString_length_le (v := k) (hb k List.mem_cons_self).1 (k := 4) (by decide) (by have := hb k List.mem_cons_self; show k < 10000; omega)
            rw [List.map_cons, List.map_cons, List.sum_cons, List.length_cons]
            omega
        have l1 := ln (k0 :: r) hb
        refine ⟨_, _, _, rfl, rfl, .inl (SqL.of hG2), ?_, _, rfl, ?_⟩
        · have e1 : (Str.ofString " ").length = 1 := rfl
          rw [e1, List.length_map]
          omega
        have jl := PySem.StrLaws.join_length_le (Str.ofString " ") ((k0 :: r).map fun k => Str.ofString (toString k))
        rw [← TL.join_eq] at jl
        have e1 : (Str.ofString " ").length = 1 := rfl
        have e5 : (Str.ofString "keep ").length = 5 := rfl
        have e0 : ∀ s : Str, Str.empty ++ s = s := fun s => by
          show Str.mk (#[] ++ s.cps) = s
          rw [Array.empty_append]
        rw [e1, List.length_map] at jl
        refine ⟨by rw [e0, e5, sizeLine_eq]; omega, _, rfl, .inl ⟨_, rfl, by rw [sizeLine_eq]; omega, _, rfl, by rw [e0, len_app, e5, sizeLine_eq]; omega, ?_⟩⟩
        have := q G s
        rw [keptT, if_neg al] at this
        rw [e0]
        exact this
/-! ### clauses_of -/
abbrev s_clauses_of : Stmt := topS 7
abbrev N_clauses_of : List Str := ["figures", "parts", "step", "grace", "last", "misses", "keep", "fine", "falls", "back", "clauses", "clause"]
theorem sc_clauses_of : FnScope N_clauses_of ["figures"] (defScope s_clauses_of) := ⟨rfl, rfl, rfl, by decide +kernel, rfl, by decide +kernel, by decide +kernel⟩
def partT (p s : Int) : Str := Str.ofString (toString p) ++ Str.ofString " parts by " ++ Str.ofString (toString s) ++ Str.ofString " days"
def allT (f : Fg) : List Str := [partT f.p f.s, cntT "grace" f.g, if f.l = true then Str.ofString "from last" else Str.ofString "", cntT "misses" f.m, keptT f.ks, cntT "fine" f.fi, cntT "falls" f.fa, cntT "back" f.ba]
def clsT (f : Fg) : List Str := (allT f).filter fun s => decide (s ≠ Str.ofString "")
def sp_clauses_of (K : PySem.W.Frag) : Sp := fun vs H Q _ => ∃ (t kt : Addr) (f : Fg), vs = [.ref t] ∧ SqT K H t [.int f.p, .int f.s, .int f.g, .bl f.l, .int f.m, .ref kt, .int f.fi, .int f.fa, .int f.ba] ∧ SqT K H kt (f.ks.map V.int) ∧ f.Ok ∧ ∀ H' L, Same H H' → H' L = some (.lst ((clsT f).map V.str)) → Q (.ref L) H'
theorem ok_clauses_of {f : Addr} {fd : FuncData} (F : Fun K "clauses_of" "clauses_of" s_clauses_of f fd) (g : mg "clauses_of" = some (.ref f)) (bd : Binds K fd ["figures"] []) (C_counted : CF P w K mg base 1 "counted" ["word", "number"] (sp_counted K)) (C_kept_clause : CF P w K mg base 2 "kept_clause" ["keep"] (sp_kept_clause K)) : CF P w K mg base 3 "clauses_of" ["figures"] (sp_clauses_of K) := by
  refine ⟨f, fd, F.ok sc_clauses_of (fun vs H Q E h => ?_) (fun cdv A outer s H vs Q E hr h => ?_), g, F.kp, bd⟩
  · first | (obtain ⟨_, rfl, _⟩ := h; rfl) | (obtain ⟨_, _, rfl, _⟩ := h; rfl) | (obtain ⟨_, _, _, rfl, _⟩ := h; rfl) | (obtain ⟨_, _, _, _, rfl, _⟩ := h; rfl) | (obtain ⟨_, _, _, _, _, rfl, _⟩ := h; rfl) | (obtain ⟨_, _, _, _, _, _, rfl, _⟩ := h; rfl) | (obtain ⟨_, _, _, _, _, _, _, rfl, _⟩ := h; rfl) | (obtain ⟨_, _, _, _, _, _, _, _, rfl, _⟩ := h; rfl) | (obtain ⟨_, _, _, _, _, _, _, _, _, rfl, _⟩ := h; rfl) | (obtain ⟨_, _, _, _, _, _, _, _, _, _, rfl, _⟩ := h; rfl) | (obtain ⟨_, _, _, _, _, _, _, _, _, _, _, rfl, _⟩ := h; rfl) | (obtain ⟨_, _, _, _, _, _, _, _, _, _, _, _, rfl, _⟩ := h; rfl) | (obtain ⟨_, _, _, _, _, _, _, _, _, _, _, _, _, rfl, _⟩ := h; rfl) | (obtain ⟨_, _, _, _, _, _, _, _, _, _, _, _, _, _, rfl, _⟩ := h; rfl) | (obtain ⟨_, _, _, _, _, _, _, _, _, _, _, _, _, _, _, rfl, _⟩ := h; rfl)
  · have hu64 := hr.units
    obtain ⟨t, kt, f', rfl, hS, hK, ok, q⟩ := h
    refine ⟨_, (pss_cons (ps_asg (pv 0) (pg_tup (by rfl) (pgs_cons (pg_name (i := 1) sc_clauses_of.nd rfl (.inl rfl)) (pgs_cons (pg_name (i := 2) sc_clauses_of.nd rfl (.inl rfl)) (pgs_cons (pg_name (i := 3) sc_clauses_of.nd rfl (.inl rfl)) (pgs_cons (pg_name (i := 4) sc_clauses_of.nd rfl (.inl rfl)) (pgs_cons (pg_name (i := 5) sc_clauses_of.nd rfl (.inl rfl)) (pgs_cons (pg_name (i := 6) sc_clauses_of.nd rfl (.inl rfl)) (pgs_cons (pg_name (i := 7) sc_clauses_of.nd rfl (.inl rfl)) (pgs_cons (pg_name (i := 8) sc_clauses_of.nd rfl (.inl rfl)) (pgs_cons (pg_name (i := 9) sc_clauses_of.nd rfl (.inl rfl)) pgs_nil)))))))))))
      (pss_cons (ps_set (i := 10) sc_clauses_of.nd rfl (.inl rfl) (pe_lst (pa_cons (pe_joined (PJ.cons (pe_fmt (pv 1)) (PJ.cons pe_str (PJ.cons (pe_fmt (pv 2)) (PJ.cons pe_str PJ.nil))))) (pa_cons (pe_cf C_counted (hr.mono (by decide)) (by rfl) (pa_cons pe_str (pa_cons (pv 3) pa_nil))) (pa_cons (pe_ifExp (pt_val (pv 4)) pe_str pe_str) (pa_cons (pe_cf C_counted (hr.mono (by decide)) (by rfl) (pa_cons pe_str (pa_cons (pv 5) pa_nil))) (pa_cons (pe_cf C_kept_clause (hr.mono (by decide)) (by rfl) (pa_cons (pv 6) pa_nil)) (pa_cons (pe_cf C_counted (hr.mono (by decide)) (by rfl) (pa_cons pe_str (pa_cons (pv 7) pa_nil))) (pa_cons (pe_cf C_counted (hr.mono (by decide)) (by rfl) (pa_cons pe_str (pa_cons (pv 8) pa_nil))) (pa_cons (pe_cf C_counted (hr.mono (by decide)) (by rfl) (pa_cons pe_str (pa_cons (pv 9) pa_nil))) pa_nil))))))))))
      (pss_one (ps_ret (pe_lc (own := [("clause", 11)]) (g := (gName 11)) rfl sc_clauses_of.nd (pi_list (pv 10)) (blkOk_by (own := [("clause", 11)]) (N := N_clauses_of) (sc := defScope s_clauses_of) (by decide +kernel)) (fun _ _ _ _ _ => pg_name (i := 11) sc_clauses_of.nd rfl (Or.inl rfl)) (fun _ _ _ _ _ => (pts_one (pt_cmpR op_ne (pv 11) pe_str (nomark _)))) (fun _ _ _ _ _ => (pv 11))))))), ?_⟩
    obtain ⟨p, sp, g', l, m, ks, fi, fa, ba⟩ := f'
    have F := ok.figs
    dsimp only at hS hK F
    have hlk : ks.length ≤ 6 := by
      have a : (ks.length : Int) = p := ok.len
      have := F.p1
      omega
    have hne : ks ≠ [] := fun e => by
      have a : (ks.length : Int) = p := ok.len
      have := F.p0
      rw [e, List.length_nil] at a
      omega
    have e0 : ∀ s : Str, Str.empty ++ s = s := fun s => by
      show Str.mk (#[] ++ s.cps) = s
      rw [Array.empty_append]
    have s8 : (8 : Nat) ≤ sizeLine := by rw [sizeLine_eq]; omega
    have lp : (Str.ofString (toString p)).length ≤ 4 := PyProof.Rows.toString_length_le (v := p) (by have := F.p0; omega) (k := 4) (by decide) (by have := F.p1; show p < 10000; omega)
    have ls : (Str.ofString (toString sp)).length ≤ 4 := PyProof.Rows.toString_length_le (v := sp) (by have := F.s0; omega) (k := 4) (by decide) (by have := F.s1; show sp < 10000; omega)
    have l1 : (Str.ofString " parts by ").length = 10 := rfl
    have l2 : (Str.ofString " days").length = 5 := rfl
    have last : ∀ (G : Hp) (L : Addr), Same H G → G L = some (.lst ((allT ⟨p, sp, g', l, m, ks, fi, fa, ba⟩).map V.str)) →
        tLc (iList K (tVar 10)) (gName 11) (tTest (tOp rNe (tVar 11) (tC (V.str (Str.ofString ""))))) (tVar 11) [11] [some (.ref t), some (.int p), some (.int sp), some (.int g'), some (.bl l), some (.int m), some (.ref kt), some (.int fi), some (.int fa), some (.int ba), some (.ref L), none] G Q := fun G L sG hL => by
      have hL2 : SqL K G L ((allT ⟨p, sp, g', l, m, ks, fi, fa, ba⟩).map V.str) := SqL.of hL
      refine ⟨_, rfl, L, rfl, ⟨_, hL2⟩, fun D hD => pass_lc (fun v => !decide (v = .str (Str.ofString ""))) (jok_l (K := K) hL2) (by rw [List.length_map]; show 8 ≤ 1000; decide) hD (fun x hx X sX Y N h1 h2 => ?_) (fun X sX hX => q X D (sG.trans sX) ?_)⟩
      · obtain ⟨z, _, rfl⟩ := List.mem_map.mp hx
        exact ⟨rfl, _, rfl, rfl, _, rfl, ite2 (fun c => ⟨_, rfl, h1 c X (Same.refl X)⟩) (fun c => h2 (by simpa using c) X (Same.refl X))⟩
      · rw [hX, List.filter_map]
        have : ((fun v => !decide (v = V.str (Str.ofString ""))) ∘ V.str) = fun s => decide (s ≠ Str.ofString "") := by
          funext s
          simp
        rw [this]
        rfl
    refine ⟨_, rfl, t, _, rfl, hS, rfl, _, _, rfl, _, _, rfl, _, _, rfl, _, _, rfl, _, _, rfl, _, _, rfl, _, _, rfl, _, _, rfl, _, _, rfl, rfl, ?_⟩
    refine ⟨_, rfl, .inr ⟨p, rfl, small_log ⟨by have := F.p0; omega, by have := F.p1; omega⟩, _, rfl, by rw [e0, sizeLine_eq]; omega, _, rfl, by rw [e0, len_app, l1, sizeLine_eq]; omega, _, rfl, .inr ⟨sp, rfl, small_log ⟨by have := F.s0; omega, by have := F.s1; omega⟩, _, rfl, by rw [e0, len_app, len_app, l1, sizeLine_eq]; omega, _, rfl, by rw [e0, len_app, len_app, len_app, l1, l2, sizeLine_eq]; omega, _, rfl, _, _, rfl, by decide, F.g0, by have := F.g1; omega, _, rfl, l, rfl, ?_⟩⟩⟩
    rw [e0]
    cases l with
    | true =>
      refine iteT ⟨_, rfl, _, _, rfl, by decide, F.m0, by have := F.m1; omega, _, rfl, kt, ks, rfl, hK, hne, hlk, ok.bnd, fun H1 s1 => ⟨_, rfl, _, _, rfl, by decide, F.fi0, by have := F.fi1; omega, _, rfl, _, _, rfl, by decide, F.fa0, by have := F.fa1; omega, _, rfl, _, _, rfl, by decide, F.ba0, by have := F.ba1; omega, s8, fun L nL => ?_⟩⟩
      exact last _ L (s1.trans (same_new nL)) upd_same
    | false =>
      refine iteF ⟨_, rfl, _, _, rfl, by decide, F.m0, by have := F.m1; omega, _, rfl, kt, ks, rfl, hK, hne, hlk, ok.bnd, fun H1 s1 => ⟨_, rfl, _, _, rfl, by decide, F.fi0, by have := F.fi1; omega, _, rfl, _, _, rfl, by decide, F.fa0, by have := F.fa1; omega, _, rfl, _, _, rfl, by decide, F.ba0, by have := F.ba1; omega, s8, fun L nL => ?_⟩⟩
      exact last _ L (s1.trans (same_new nL)) upd_same
/-- if test: found.append(text) -/
theorem app_if {K : PySem.W.Frag} {F : Addr} {l : List Str} {z : Str} {b : Bool} {test : TT} {targ : TE} {E1 : Ends} {σ : L2.St} {G : Hp} (hσ : σ[2]? = some (some (.ref F))) (hF : G F = some (.lst (l.map V.str))) (hl : l.length ≤ 100)
    (ht : ∀ Y : Bool → Hp → Prop, Y b G → test σ G Y) (ha : b = true → ∀ Y : VK, Y (.str z) G → targ σ G Y) (fin : E1.nx σ (if b = true then upd G F (.lst ((l ++ [z]).map V.str)) else G)) :
    tIfS test (tDrop (tBM K "list" rAppend (tVar 2) (tCons targ tNil))) tNext E1 σ G := by
  refine ht _ ?_
  cases b with
  | false => exact iteF fin
  | true =>
    refine iteT ⟨_, hσ, .inl ⟨rfl, _, SqL.of hF⟩, ha rfl _ ⟨F, _, _, rfl, rfl, hF, ?_, ?_⟩⟩
    · rw [List.length_map, sizeLine_eq]
      omega
    · rw [List.map_append] at fin
      exact fin
/-! ### Rule___str__ -/
abbrev s_Rule___str__ : Stmt := inClass (topS 24) 5
abbrev N_Rule___str__ : List Str := ["self"]
theorem sc_Rule___str__ : FnScope N_Rule___str__ ["self"] (defScope s_Rule___str__) := ⟨rfl, rfl, rfl, by decide +kernel, rfl, by decide +kernel, by decide +kernel⟩
theorem num_len {n : Int} (h0 : 0 ≤ n) (h1 : n ≤ 1000) : (Str.ofString (toString n)).length ≤ 4 := PyProof.Rows.toString_length_le (v := n) h0 (k := 4) (by decide) (by show n < 10000; omega)
theorem cnt_len {w : Str} {n : Int} (h0 : 0 ≤ n) (h1 : n ≤ 1000) (hw : w.length ≤ 10) : (cntT w n).length ≤ 60 := by
  unfold cntT
  have e : (Str.ofString " ").length = 1 := rfl
  have := num_len h0 h1
  split
  · exact Nat.zero_le _
  · rw [len_app, len_app, e]
    omega
theorem kept_len {ks : List Int} (hb : ∀ k ∈ ks, 0 ≤ k ∧ k ≤ 100) (hl : ks.length ≤ 6) : (keptT ks).length ≤ 60 := by
  unfold keptT
  split
  · refine cnt_len ?_ ?_ (by decide)
    · cases ks with
      | nil => exact Int.le_refl _
      | cons k r => exact (hb k List.mem_cons_self).1
    · cases ks with
      | nil => exact (by decide)
      | cons k r =>
        have := (hb k List.mem_cons_self).2
        show k ≤ 1000
        omega
  · have jl := PySem.StrLaws.join_length_le (Str.ofString " ") (ks.map fun k => Str.ofString (toString k))
    rw [← TL.join_eq] at jl
    have e1 : (Str.ofString " ").length = 1 := rfl
    have e5 : (Str.ofString "keep ").length = 5 := rfl
    have ln : ∀ l : List Int, (∀ k ∈ l, 0 ≤ k ∧ k ≤ 100) → ((l.map fun k => Str.ofString (toString k)).map fun x => x.length).sum ≤ 4 * l.length := fun l hb => by
      induction l with
      | nil => exact Nat.le_refl _
      | cons k l ih =>
        have a := ih fun x hx => hb x (List.mem_cons_of_mem _ hx)
        have c := hb k List.mem_cons_self
        have b := num_len (n := k) c.1 (by omega)
        rw [List.map_cons, List.map_cons, List.sum_cons, List.length_cons]
        omega
    have l1 := ln ks hb
    rw [e1, List.length_map] at jl
    rw [len_app, e5]
    omega
theorem cls_len {f : Fg} (ok : f.Ok) : ((clsT f).map fun x => x.length).sum ≤ 60 * (clsT f).length ∧ (clsT f).length ≤ 8 := by
  have F := ok.figs
  have hlk : f.ks.length ≤ 6 := by
    have a := ok.len
    have := F.p1
    omega
  have al : ∀ s ∈ allT f, s.length ≤ 60 := fun s hs => by
    unfold allT at hs
    simp only [List.mem_cons, List.not_mem_nil, or_false] at hs
    rcases hs with rfl | rfl | rfl | rfl | rfl | rfl | rfl | rfl
    · unfold partT
      have e1 : (Str.ofString " parts by ").length = 10 := rfl
      have e2 : (Str.ofString " days").length = 5 := rfl
      have a := num_len (n := f.p) (by have := F.p0; omega) (by have := F.p1; omega)
      have b := num_len (n := f.s) (by have := F.s0; omega) (by have := F.s1; omega)
      rw [len_app, len_app, len_app, e1, e2]
      omega
    · exact cnt_len F.g0 (by have := F.g1; omega) (by decide)
    · split <;> decide +kernel
    · exact cnt_len F.m0 (by have := F.m1; omega) (by decide)
    · exact kept_len ok.bnd hlk
    · exact cnt_len F.fi0 (by have := F.fi1; omega) (by decide)
    · exact cnt_len F.fa0 (by have := F.fa1; omega) (by decide)
    · exact cnt_len F.ba0 (by have := F.ba1; omega) (by decide)
  have sm : ∀ l : List Str, (∀ s ∈ l, s.length ≤ 60) → (l.map fun x => x.length).sum ≤ 60 * l.length := fun l h => by
    induction l with
    | nil => exact Nat.le_refl _
    | cons s l ih =>
      have a := ih fun x hx => h x (List.mem_cons_of_mem _ hx)
      have b := h s List.mem_cons_self
      rw [List.map_cons, List.sum_cons, List.length_cons]
      omega
  exact ⟨sm _ fun s hs => al s (List.mem_filter.mp hs).1, List.length_filter_le _ (allT f)⟩
def txtT (f : Fg) : Str := Txt.join ", " (clsT f)
def sp_Rule___str__ (K : PySem.W.Frag) (C : Addr) : Sp := fun vs H Q _ => ∃ (r : Addr) (f : Fg), vs = [.ref r] ∧ RuleAt K H C r f ∧ f.Ok ∧ ∀ H', Same H H' → Q (.str (txtT f)) H'
theorem ok_Rule___str__ {f : Addr} {fd : FuncData} {CR : Addr} (TQ : TEq K mg CR "Rule") (T_Rule : TRule K mg CR) (C_clauses_of : CF P w K mg base 3 "clauses_of" ["figures"] (sp_clauses_of K)) (C_Rule_figures_0 : CMt P w K mg base CR 1 "figures" ["self"] [] (sp_Rule_figures K CR)) (F : FunD K "__str__" "Rule.__str__" (defArgs s_Rule___str__) (defBody s_Rule___str__) (defScope s_Rule___str__) [] [] f fd) : FnOk P w K mg base CX0 4 f fd ["self"] (sp_Rule___str__ K CR) := by
  refine okD F sc_Rule___str__ (fun vs H Q E h => ?_) (fun cdv A outer s H vs Q E hr h => ?_)
  · first | (obtain ⟨_, rfl, _⟩ := h; rfl) | (obtain ⟨_, _, rfl, _⟩ := h; rfl) | (obtain ⟨_, _, _, rfl, _⟩ := h; rfl) | (obtain ⟨_, _, _, _, rfl, _⟩ := h; rfl) | (obtain ⟨_, _, _, _, _, rfl, _⟩ := h; rfl) | (obtain ⟨_, _, _, _, _, _, rfl, _⟩ := h; rfl) | (obtain ⟨_, _, _, _, _, _, _, rfl, _⟩ := h; rfl) | (obtain ⟨_, _, _, _, _, _, _, _, rfl, _⟩ := h; rfl) | (obtain ⟨_, _, _, _, _, _, _, _, _, rfl, _⟩ := h; rfl) | (obtain ⟨_, _, _, _, _, _, _, _, _, _, rfl, _⟩ := h; rfl) | (obtain ⟨_, _, _, _, _, _, _, _, _, _, _, rfl, _⟩ := h; rfl) | (obtain ⟨_, _, _, _, _, _, _, _, _, _, _, _, rfl, _⟩ := h; rfl) | (obtain ⟨_, _, _, _, _, _, _, _, _, _, _, _, _, rfl, _⟩ := h; rfl) | (obtain ⟨_, _, _, _, _, _, _, _, _, _, _, _, _, _, rfl, _⟩ := h; rfl) | (obtain ⟨_, _, _, _, _, _, _, _, _, _, _, _, _, _, _, rfl, _⟩ := h; rfl)
  · have hu64 := hr.units
    obtain ⟨r, f', rfl, hR, ok, q⟩ := h
    refine ⟨_, (pss_one (ps_ret (pe_join pe_str (pe_cf C_clauses_of (hr.mono (by decide)) (by rfl) (pa_cons (pe_mt0 C_Rule_figures_0 T_Rule.cl (hr.mono (by decide)) (pv 0)) pa_nil))))), ?_⟩
    have hR2 := hR
    obtain ⟨dx, kt, h1, h2⟩ := hR
    refine ⟨⟨_, rfl⟩, _, rfl, r, dx, _, rfl, h1, by rfl, r, f', rfl, hR2, fun H1 t kt2 nt s1 ht hk => ?_⟩
    refine ⟨t, kt2, f', rfl, SqT.of ht, hk, ok, fun H2 L s2 hL => ?_⟩
    obtain ⟨b1, b2⟩ := cls_len ok
    have e2 : (Str.ofString ", ").length = 2 := rfl
    refine ⟨_, _, _, rfl, rfl, .inl (SqL.of hL), ?_, q H2 (s1.trans s2)⟩
    rw [e2]
    omega
def figD (f : Fg) : PyData := .tuple [.int f.p, .int f.s, .int f.g, .bool f.l, .int f.m, .tuple (f.ks.map PyData.int), .int f.fi, .int f.fa, .int f.ba]
theorem fig_dp {K : PySem.W.Frag} {H : Hp} {t a : Addr} {f : Fg} (h : SqT K H t [.int f.p, .int f.s, .int f.g, .bl f.l, .int f.m, .ref a, .int f.fi, .int f.fa, .int f.ba]) (ha : SqT K H a (f.ks.map V.int)) : Dp K H (.ref t) (figD f) :=
  .tup h (.cons (.int _) (.cons (.int _) (.cons (.int _) (.cons (.bl _) (.cons (.int _) (.cons (dpAll_intsT ha) (.cons (.int _) (.cons (.int _) (.cons (.int _) .nil)))))))))
theorem fig_depth (f : Fg) : PyData.depth (figD f) ≤ 4 := by
  have := depth_ints f.ks
  simp only [figD, PyData.depth, PyData.depthAll]
  omega
theorem thin_ints : ∀ ns : List Int, thinAll (ns.map PyData.int) = true
  | [] => rfl
  | n :: r => by
    rw [List.map_cons]
    simp only [thinAll, thin, Bool.true_and]
    exact thin_ints r
theorem fig_thin {f : Fg} (ok : f.Ok) : thin (figD f) = true := by
  have h1 := ok.len
  have h2 := ok.figs.p1
  simp only [figD, thin, thinAll, thin_ints, List.length_map, Bool.and_true, Bool.true_and]
  rw [Bool.and_eq_true]
  exact ⟨rfl, decide_eq_true (by omega)⟩
theorem fig_shaped (f : Fg) : SeqAt.shaped (figD f) = true := by
  have h1 := fig_depth f
  have h2 := lay_ints f.ks
  show (PyData.canLay0 (figD f) && decide (PyData.depth (figD f) ≤ 64)) = true
  rw [Bool.and_eq_true]
  exact ⟨by simp only [figD, PyData.canLay0, PyData.canLayAll0, h2, Bool.and_true], decide_eq_true (by omega)⟩
theorem eqv_ints : ∀ {ks ls : List Int}, PyData.eqvAll (ks.map PyData.int) (ls.map PyData.int) = true → ks = ls
  | [], [], _ => rfl
  | [], _ :: _, h => by simp [PyData.eqvAll] at h
  | _ :: _, [], h => by simp [PyData.eqvAll] at h
  | k :: r, a :: b, h => by
    simp only [List.map_cons, PyData.eqvAll, PyData.eqv, Bool.and_eq_true, beq_iff_eq] at h
    rw [eqv_ints h.2, h.1]
def alike (f f2 : Fg) : Bool := PyData.eqv (figD f) (figD f2)
theorem alike_eq {f f2 : Fg} (h : alike f f2 = true) : f = f2 := by
  obtain ⟨p, s, g, l, m, ks, fi, fa, ba⟩ := f
  obtain ⟨p2, s2, g2, l2, m2, ks2, fi2, fa2, ba2⟩ := f2
  unfold alike figD at h
  simp only [PyData.eqvAll, PyData.eqv, Bool.and_eq_true, beq_iff_eq] at h
  obtain ⟨h1, h2, h3, h4, h5, h6, h7, h8, h9, _⟩ := h
  have := eqv_ints h6
  subst h1 h2 h3 h4 h5 this h7 h8 h9
  rfl
theorem alike_self (f : Fg) : alike f f = true := SeqAt.eqv_refl _ (SeqAt.canLay_of_shaped (fig_shaped f))
theorem unlike {f f2 : Fg} (h : f ≠ f2) : alike f f2 = false := by
  cases e : alike f f2 with
  | false => rfl
  | true => exact absurd (alike_eq e) h
/-! ### Rule___eq__ -/
abbrev s_Rule___eq__ : Stmt := inClass (topS 24) 3
abbrev N_Rule___eq__ : List Str := ["self", "other"]
theorem sc_Rule___eq__ : FnScope N_Rule___eq__ ["self", "other"] (defScope s_Rule___eq__) := ⟨rfl, rfl, rfl, by decide +kernel, rfl, by decide +kernel, by decide +kernel⟩
def sp_Rule___eq__ (K : PySem.W.Frag) (C : Addr) : Sp := fun vs H Q _ => ∃ (r : Addr) (f : Fg) (y : V), vs = [.ref r, y] ∧ RuleAt K H C r f ∧ f.Ok ∧
  ((∃ (r2 : Addr) (f2 : Fg), y = .ref r2 ∧ RuleAt K H C r2 f2 ∧ f2.Ok ∧ ∀ H', Same H H' → Q (.bl (alike f f2)) H') ∨ ∃ tv, OEQ.TyV K C H y tv ∧ tv ≠ .ref C ∧ ∀ H', Same H H' → Q (.bl false) H')
theorem ok_Rule___eq__ {f : Addr} {fd : FuncData} {CR : Addr} (TQ : TEq K mg CR "Rule") (T_Rule : TRule K mg CR) (m_isinstance : mg "isinstance" = none) (C_Rule_figures_0 : CMt P w K mg base CR 1 "figures" ["self"] [] (sp_Rule_figures K CR)) (F : FunD K "__eq__" "Rule.__eq__" (defArgs s_Rule___eq__) (defBody s_Rule___eq__) (defScope s_Rule___eq__) [] [] f fd) : FnOk P w K mg base CX0 2 f fd ["self", "other"] (sp_Rule___eq__ K CR) := by
  refine okD F sc_Rule___eq__ (fun vs H Q E h => ?_) (fun cdv A outer s H vs Q E hr h => ?_)
  · first | (obtain ⟨_, rfl, _⟩ := h; rfl) | (obtain ⟨_, _, rfl, _⟩ := h; rfl) | (obtain ⟨_, _, _, rfl, _⟩ := h; rfl) | (obtain ⟨_, _, _, _, rfl, _⟩ := h; rfl) | (obtain ⟨_, _, _, _, _, rfl, _⟩ := h; rfl) | (obtain ⟨_, _, _, _, _, _, rfl, _⟩ := h; rfl) | (obtain ⟨_, _, _, _, _, _, _, rfl, _⟩ := h; rfl) | (obtain ⟨_, _, _, _, _, _, _, _, rfl, _⟩ := h; rfl) | (obtain ⟨_, _, _, _, _, _, _, _, _, rfl, _⟩ := h; rfl) | (obtain ⟨_, _, _, _, _, _, _, _, _, _, rfl, _⟩ := h; rfl) | (obtain ⟨_, _, _, _, _, _, _, _, _, _, _, rfl, _⟩ := h; rfl) | (obtain ⟨_, _, _, _, _, _, _, _, _, _, _, _, rfl, _⟩ := h; rfl) | (obtain ⟨_, _, _, _, _, _, _, _, _, _, _, _, _, rfl, _⟩ := h; rfl) | (obtain ⟨_, _, _, _, _, _, _, _, _, _, _, _, _, _, rfl, _⟩ := h; rfl) | (obtain ⟨_, _, _, _, _, _, _, _, _, _, _, _, _, _, _, rfl, _⟩ := h; rfl)
  · have hu64 := hr.units
    obtain ⟨r, f', y, rfl, hR, ok, q⟩ := h
    refine ⟨_, (pss_one (ps_ret (pe_and (pe_callB (kk_isi K) (by rfl) m_isinstance (by decide +kernel) (pa_cons (pv 1) (pa_cons (pe_glob (v := .ref CR) (by rfl) TQ.g rfl) pa_nil))) (pe_one (pe_cmpR (kk_eqD K hu64) (pe_mt0 C_Rule_figures_0 T_Rule.cl (hr.mono (by decide)) (pv 0)) (pe_mt0 C_Rule_figures_0 T_Rule.cl (hr.mono (by decide)) (pv 1)) (nomark _)))))), ?_⟩
    obtain ⟨dx, kt, h1, h2⟩ := id hR
    rcases q with ⟨r2, f2, rfl, hR2, ok2, q⟩ | ⟨tv, ty, hne, q⟩
    · obtain ⟨dx2, kt2, k1, k2⟩ := id hR2
      refine ⟨_, rfl, _, _, _, _, true, rfl, .own _, TQ.tyi T_Rule.cl k1, TQ.me, _, rfl, ?_⟩
      refine iteT ⟨_, rfl, r, dx, _, rfl, h1, by rfl, r, f', rfl, hR, fun H1 t1 a1 n1 s1 ht1 ha1 => ?_⟩
      refine ⟨_, rfl, r2, dx2, _, rfl, s1 _ _ k1, by rfl, r2, f2, rfl, hR2.same s1, fun H2 t2 a2 n2 s2 ht2 ha2 => ?_⟩
      exact ⟨figD f', figD f2, fig_dp (seqT_same s2 (SqT.of ht1)) (seqT_same s2 ha1), fig_dp (SqT.of ht2) ha2, fig_shaped _, fig_shaped _, q H2 (s1.trans s2)⟩
    · obtain ⟨T, rfl, hT, hx⟩ := ty.tyx hne
      refine ⟨_, rfl, _, _, _, _, false, rfl, .own _, hx, TQ.no T hT, _, rfl, ?_⟩
      exact iteF (q H (Same.refl H))
theorem hu1_of {n : Nat} (h : n + 64 < cLine) : n + 1 < cLine := by omega
def madeOf (t sg : Str) : Bool := !decide (V.str t = V.str (Str.ofString "")) && (TL.tl t).all fun c => decide (c ∈ TL.tl sg)
/-- what number_in tells of a text, with 100 the most -/
def numV (t : Str) : V := if (decide (t.length ≤ 3) && madeOf t (Str.ofString "0123456789")) = true then (if ((NumText.digitsVal (TL.tl t) : Nat) : Int) ≤ 100 ∧ Str.ofString (toString ((NumText.digitsVal (TL.tl t) : Nat) : Int)) = t then .int ((NumText.digitsVal (TL.tl t) : Nat) : Int) else .non) else .non
/-! ### is_made_of -/
abbrev s_is_made_of : Stmt := topS 18
abbrev N_is_made_of : List Str := ["text", "signs", "sign"]
theorem sc_is_made_of : FnScope N_is_made_of ["text", "signs"] (defScope s_is_made_of) := ⟨rfl, rfl, rfl, by decide +kernel, rfl, by decide +kernel, by decide +kernel⟩
def sp_is_made_of (K : PySem.W.Frag) : Sp := fun vs H Q _ => ∃ (t sg : Str), vs = [.str t, .str sg] ∧ t.length ≤ 100000 ∧ ∀ H', Same H H' → Q (.bl (madeOf t sg)) H'
theorem ok_is_made_of {f : Addr} {fd : FuncData} (F : Fun K "is_made_of" "is_made_of" s_is_made_of f fd) (g : mg "is_made_of" = some (.ref f)) (bd : Binds K fd ["text", "signs"] []) (m_all : mg "all" = none) : CF P w K mg base 1 "is_made_of" ["text", "signs"] (sp_is_made_of K) := by
  refine ⟨f, fd, F.ok sc_is_made_of (fun vs H Q E h => ?_) (fun cdv A outer s H vs Q E hr h => ?_), g, F.kp, bd⟩
  · first | (obtain ⟨_, rfl, _⟩ := h; rfl) | (obtain ⟨_, _, rfl, _⟩ := h; rfl) | (obtain ⟨_, _, _, rfl, _⟩ := h; rfl) | (obtain ⟨_, _, _, _, rfl, _⟩ := h; rfl) | (obtain ⟨_, _, _, _, _, rfl, _⟩ := h; rfl) | (obtain ⟨_, _, _, _, _, _, rfl, _⟩ := h; rfl) | (obtain ⟨_, _, _, _, _, _, _, rfl, _⟩ := h; rfl) | (obtain ⟨_, _, _, _, _, _, _, _, rfl, _⟩ := h; rfl) | (obtain ⟨_, _, _, _, _, _, _, _, _, rfl, _⟩ := h; rfl) | (obtain ⟨_, _, _, _, _, _, _, _, _, _, rfl, _⟩ := h; rfl) | (obtain ⟨_, _, _, _, _, _, _, _, _, _, _, rfl, _⟩ := h; rfl) | (obtain ⟨_, _, _, _, _, _, _, _, _, _, _, _, rfl, _⟩ := h; rfl) | (obtain ⟨_, _, _, _, _, _, _, _, _, _, _, _, _, rfl, _⟩ := h; rfl) | (obtain ⟨_, _, _, _, _, _, _, _, _, _, _, _, _, _, rfl, _⟩ := h; rfl) | (obtain ⟨_, _, _, _, _, _, _, _, _, _, _, _, _, _, _, rfl, _⟩ := h; rfl)
  · have hu64 := hr.units
    obtain ⟨t, sg, rfl, hz, q⟩ := h
    refine ⟨_, (pss_one (ps_ret (pe_and (pe_cmpR op_ne (pv 0) pe_str (nomark _)) (pe_one (pe_callB (kk_all K rfl) (by rfl) m_all (by decide +kernel) (pa_cons (pe_lc (own := [("sign", 2)]) (g := (gName 2)) (tt := tYes) rfl sc_is_made_of.nd (pi_str (pv 0)) (blkOk_by (own := [("sign", 2)]) (N := N_is_made_of) (sc := defScope s_is_made_of) (by decide +kernel)) (fun _ _ _ _ _ => pg_name (i := 2) sc_is_made_of.nd rfl (Or.inl rfl)) (fun _ _ _ _ _ => pts_nil) (fun _ _ _ _ _ => (pe_cmpR op_in_sign (pv 2) (pv 1) (by rfl)))) pa_nil)))))), ?_⟩
    refine ⟨_, rfl, rfl, _, rfl, ?_⟩
    by_cases ht : V.str t = V.str (Str.ofString "")
    · have e : madeOf t sg = false := by
        unfold madeOf
        rw [decide_eq_true ht]
        rfl
      rw [e] at q
      rw [decide_eq_true ht]
      exact iteF (q H (Same.refl H))
    · rw [decide_eq_false ht]
      refine iteT ⟨_, rfl, t, rfl, fun D hD => lc_it walk_str (fun i H' => Same H H' ∧ H' D = some (.lst ((((TL.tl t).take i).map fun c => decide (c ∈ TL.tl sg)).map V.bl))) ⟨same_new hD, upd_same⟩ (fun _ _ _ _ => trivial) (fun i x H1 H2 hi h hy => ?_) (fun H' h => ?_)⟩
      · obtain ⟨rfl, c, hc, rfl⟩ := hy
        have hc2 : (TL.tl t)[i]? = some c := by simpa using hc
        refine ⟨rfl, _, rfl, _, rfl, c, sg, rfl, rfl, _, h.2, ?_, ?_, ?_⟩
        · rw [List.length_map, List.length_map, List.length_take]
          have : (TL.tl t).length = t.length := (TL.len_tl t).symm
          exact Nat.lt_of_le_of_lt (Nat.min_le_right _ _) (Nat.lt_of_le_of_lt (by rw [this]; exact hz) (by decide))
        · exact fun b o e => by
            rw [upd_ne (ne_of_none e hD)]
            exact h.1 _ _ e
        · rw [upd_same, List.take_add_one, hc2, Option.toList_some, List.map_append, List.map_append]
          rfl
      · obtain ⟨s1, h1⟩ := h
        have hn : (TL.tl t).take t.cps.size = TL.tl t := List.take_of_length_le (by simp [TL.tl])
        rw [hn] at h1
        refine ⟨D, _, rfl, SqL.of h1, ?_⟩
        have e : madeOf t sg = ((TL.tl t).map fun c => decide (c ∈ TL.tl sg)).all id := by
          unfold madeOf
          rw [decide_eq_false ht, List.all_map]
          rfl
        rw [← e]
        exact q _ s1
/-! ### number_in -/
abbrev s_number_in : Stmt := topS 20
abbrev N_number_in : List Str := ["text", "most", "number"]
theorem sc_number_in : FnScope N_number_in ["text", "most"] (defScope s_number_in) := ⟨rfl, rfl, rfl, by decide +kernel, rfl, by decide +kernel, by decide +kernel⟩
theorem figs_in (c : Nat) : c ∈ TL.tl (Str.ofString "0123456789") ↔ 48 ≤ c ∧ c ≤ 57 := by
  have e : TL.tl (Str.ofString "0123456789") = [48, 49, 50, 51, 52, 53, 54, 55, 56, 57] := by decide +kernel
  rw [e]
  simp only [List.mem_cons, List.not_mem_nil, or_false]
  omega
theorem empty_iff (t : Str) : V.str t = V.str (Str.ofString "") ↔ TL.tl t = [] :=
  ⟨fun h => by cases h; rfl, fun h => congrArg V.str (TL.ext_tl (y := Str.ofString "") (h.trans rfl))⟩
theorem made_of_figs {t : Str} : madeOf t (Str.ofString "0123456789") = true ↔ TL.tl t ≠ [] ∧ NumText.AllDigits (TL.tl t) := by
  unfold madeOf
  rw [Bool.and_eq_true, Bool.not_eq_true', decide_eq_false_iff_not, empty_iff, List.all_eq_true]
  constructor
  · rintro ⟨h1, h2⟩
    exact ⟨h1, fun c hc => (figs_in c).mp (of_decide_eq_true (h2 c hc))⟩
  · rintro ⟨h1, h2⟩
    exact ⟨h1, fun c hc => decide_eq_true ((figs_in c).mpr (h2 c hc))⟩
theorem int_of_figs {t : Str} (h0 : TL.tl t ≠ []) (hd : NumText.AllDigits (TL.tl t)) (hz : t.length ≤ 640) : PySem.intText? t = some ((NumText.digitsVal (TL.tl t) : Nat) : Int) := PySem.intText_digits hd h0 (by omega)
def sp_number_in (K : PySem.W.Frag) : Sp := fun vs H Q _ => ∃ (t : Str), vs = [.str t, .int 100] ∧ t.length ≤ 100000 ∧ ∀ H', Same H H' → Q (numV t) H'
theorem ok_number_in {f : Addr} {fd : FuncData} (F : Fun K "number_in" "number_in" s_number_in f fd) (g : mg "number_in" = some (.ref f)) (bd : Binds K fd ["text", "most"] []) (m_len : mg "len" = none) (m_str : mg "str" = none) (m_int : mg "int" = none) {t_FIGURES : Tok} (g_FIGURES : mg "FIGURES" = some (.str (Str.ofString "0123456789") t_FIGURES)) (C_is_made_of : CF P w K mg base 1 "is_made_of" ["text", "signs"] (sp_is_made_of K)) : CF P w K mg base 2 "number_in" ["text", "most"] (sp_number_in K) := by
  refine ⟨f, fd, F.ok sc_number_in (fun vs H Q E h => ?_) (fun cdv A outer s H vs Q E hr h => ?_), g, F.kp, bd⟩
  · first | (obtain ⟨_, rfl, _⟩ := h; rfl) | (obtain ⟨_, _, rfl, _⟩ := h; rfl) | (obtain ⟨_, _, _, rfl, _⟩ := h; rfl) | (obtain ⟨_, _, _, _, rfl, _⟩ := h; rfl) | (obtain ⟨_, _, _, _, _, rfl, _⟩ := h; rfl) | (obtain ⟨_, _, _, _, _, _, rfl, _⟩ := h; rfl) | (obtain ⟨_, _, _, _, _, _, _, rfl, _⟩ := h; rfl) | (obtain ⟨_, _, _, _, _, _, _, _, rfl, _⟩ := h; rfl) | (obtain ⟨_, _, _, _, _, _, _, _, _, rfl, _⟩ := h; rfl) | (obtain ⟨_, _, _, _, _, _, _, _, _, _, rfl, _⟩ := h; rfl) | (obtain ⟨_, _, _, _, _, _, _, _, _, _, _, rfl, _⟩ := h; rfl) | (obtain ⟨_, _, _, _, _, _, _, _, _, _, _, _, rfl, _⟩ := h; rfl) | (obtain ⟨_, _, _, _, _, _, _, _, _, _, _, _, _, rfl, _⟩ := h; rfl) | (obtain ⟨_, _, _, _, _, _, _, _, _, _, _, _, _, _, rfl, _⟩ := h; rfl) | (obtain ⟨_, _, _, _, _, _, _, _, _, _, _, _, _, _, _, rfl, _⟩ := h; rfl)
  · have hu64 := hr.units
    obtain ⟨t, rfl, hz, q⟩ := h
    refine ⟨_, (pss_cons (ps_if (PW.pt (pw_or (pt_cmpR op_gt (pe_callB call_len_str (by rfl) m_len PySem.boot_len (pa_cons (pv 0) pa_nil)) (pe_callB call_len_str (by rfl) m_len PySem.boot_len (pa_cons (pe_callTy call_str_int (by rfl) m_str (by decide +kernel) (pa_cons (pv 1) pa_nil)) pa_nil)) (nomark _)) (pw_or1 (pt_not (pt_val (pe_cf C_is_made_of (hr.mono (by decide)) (by rfl) (pa_cons (pv 0) (pa_cons (pe_glob (v := .str (Str.ofString "0123456789")) (by rfl) g_FIGURES ⟨_, rfl⟩) pa_nil))))))))
         (pss_one (ps_ret pe_non))
         pss_nil)
      (pss_cons (ps_set (i := 2) sc_number_in.nd rfl (.inl rfl) (pe_callTy call_int_str (by rfl) m_int (by decide +kernel) (pa_cons (pv 0) pa_nil)))
      (pss_cons (ps_if (PW.pt (pw_or (pt_cmpR op_gt (pv 2) (pv 1) (nomark _)) (pw_or1 (pt_cmpR op_ne (pe_callTy call_str_int (by rfl) m_str (by decide +kernel) (pa_cons (pv 2) pa_nil)) (pv 0) (nomark _)))))
         (pss_one (ps_ret pe_non))
         pss_nil)
      (pss_one (ps_ret (pv 2)))))), ?_⟩
    have h100 : (Str.ofString (toString (100 : Int))).length = 3 := by decide +kernel
    have hsl : t.length ≤ sizeLine := by rw [sizeLine_eq]; omega
    refine ⟨_, rfl, t, rfl, hsl, _, rfl, 100, rfl, by decide, _, rfl, by decide +kernel, _, _, rfl, rfl, _, rfl, ?_⟩
    rw [h100]
    by_cases c1 : t.length ≤ 3
    · rw [decide_eq_false (show ¬ ((3 : Nat) : Int) < (t.length : Int) by omega)]
      refine iteF ⟨_, rfl, t, _, rfl, hz, fun H1 s1 => ⟨_, rfl, ?_⟩⟩
      cases c2 : madeOf t (Str.ofString "0123456789") with
      | false =>
        have e : numV t = .non := by
          unfold numV
          rw [c2, Bool.and_false]
          rfl
        rw [e] at q
        exact iteT (q H1 s1)
      | true =>
        obtain ⟨h0, hd⟩ := made_of_figs.mp c2
        refine iteF ⟨_, rfl, t, _, rfl, int_of_figs h0 hd (by omega), by omega, ?_⟩
        generalize hn : ((NumText.digitsVal (TL.tl t) : Nat) : Int) = n
        have en : numV t = if n ≤ 100 ∧ Str.ofString (toString n) = t then .int n else .non := by
          unfold numV
          rw [c2, decide_eq_true c1, hn]
          rfl
        have n0 : 0 ≤ n := by omega
        refine ⟨_, rfl, _, rfl, _, _, rfl, rfl, _, rfl, ?_⟩
        by_cases c3 : n ≤ 100
        · rw [decide_eq_false (show ¬ 100 < n by omega)]
          refine iteF ⟨_, rfl, n, rfl, small_log ⟨n0, c3⟩, _, rfl, rfl, _, rfl, ?_⟩
          by_cases c4 : Str.ofString (toString n) = t
          · rw [en, if_pos ⟨c3, c4⟩] at q
            rw [decide_eq_true (show V.str (Str.ofString (toString n)) = V.str t by rw [c4])]
            exact iteF ⟨_, rfl, q H1 s1⟩
          · rw [en, if_neg (fun z => c4 z.2)] at q
            rw [decide_eq_false (fun z : V.str (Str.ofString (toString n)) = V.str t => c4 (V.str.inj z))]
            exact iteT (q H1 s1)
        · rw [en, if_neg (fun z => c3 z.1)] at q
          rw [decide_eq_true (show 100 < n by omega)]
          exact iteT (q H1 s1)
    · have e : numV t = .non := by
        unfold numV
        rw [decide_eq_false c1]
        rfl
      rw [e] at q
      rw [decide_eq_true (show ((3 : Nat) : Int) < (t.length : Int) by omega)]
      exact iteT (q H (Same.refl H))
theorem num_all : ∀ n : Fin 101, numV (Str.ofString (toString ((n : Nat) : Int))) = .int ((n : Nat) : Int) := by decide +kernel
theorem num_at {n : Int} (h : 0 ≤ n ∧ n ≤ 100) : numV (Str.ofString (toString n)) = .int n := by
  obtain ⟨i, rfl⟩ := Int.eq_ofNat_of_zero_le h.1
  exact num_all ⟨i, by omega⟩
/-! ### rule_text -/
abbrev s_rule_text : Stmt := topS 30
abbrev N_rule_text : List Str := ["rule"]
theorem sc_rule_text : FnScope N_rule_text ["rule"] (defScope s_rule_text) := ⟨rfl, rfl, rfl, by decide +kernel, rfl, by decide +kernel, by decide +kernel⟩
def sp_rule_text (K : PySem.W.Frag) (C : Addr) : Sp := fun vs H Q _ => ∃ (r : Addr) (f : Fg), vs = [.ref r] ∧ RuleAt K H C r f ∧ f.Ok ∧ ∀ H', Same H H' → Q (.str (txtT f)) H'
theorem ok_rule_text {f : Addr} {fd : FuncData} (F : Fun K "rule_text" "rule_text" s_rule_text f fd) (g : mg "rule_text" = some (.ref f)) (bd : Binds K fd ["rule"] []) {CR : Addr} (TQ : TEq K mg CR "Rule") (T_Rule : TRule K mg CR) (m_str : mg "str" = none) (C_Rule___str___0 : CTx P w K mg base CR 4 "__str__" (sp_Rule___str__ K CR)) : CF P w K mg base 7 "rule_text" ["rule"] (sp_rule_text K CR) := by
  refine ⟨f, fd, F.ok sc_rule_text (fun vs H Q E h => ?_) (fun cdv A outer s H vs Q E hr h => ?_), g, F.kp, bd⟩
  · first | (obtain ⟨_, rfl, _⟩ := h; rfl) | (obtain ⟨_, _, rfl, _⟩ := h; rfl) | (obtain ⟨_, _, _, rfl, _⟩ := h; rfl) | (obtain ⟨_, _, _, _, rfl, _⟩ := h; rfl) | (obtain ⟨_, _, _, _, _, rfl, _⟩ := h; rfl) | (obtain ⟨_, _, _, _, _, _, rfl, _⟩ := h; rfl) | (obtain ⟨_, _, _, _, _, _, _, rfl, _⟩ := h; rfl) | (obtain ⟨_, _, _, _, _, _, _, _, rfl, _⟩ := h; rfl) | (obtain ⟨_, _, _, _, _, _, _, _, _, rfl, _⟩ := h; rfl) | (obtain ⟨_, _, _, _, _, _, _, _, _, _, rfl, _⟩ := h; rfl) | (obtain ⟨_, _, _, _, _, _, _, _, _, _, _, rfl, _⟩ := h; rfl) | (obtain ⟨_, _, _, _, _, _, _, _, _, _, _, _, rfl, _⟩ := h; rfl) | (obtain ⟨_, _, _, _, _, _, _, _, _, _, _, _, _, rfl, _⟩ := h; rfl) | (obtain ⟨_, _, _, _, _, _, _, _, _, _, _, _, _, _, rfl, _⟩ := h; rfl) | (obtain ⟨_, _, _, _, _, _, _, _, _, _, _, _, _, _, _, rfl, _⟩ := h; rfl)
  · have hu64 := hr.units
    obtain ⟨r, f', rfl, hR, ok, q⟩ := h
    refine ⟨_, (pss_one (ps_ret (pe_callTy (kk_strO C_Rule___str___0 (hr.mono (by decide))) (by rfl) m_str (by decide +kernel) (pa_cons (pv 0) pa_nil)))), ?_⟩
    obtain ⟨dx, kt, h1, h2⟩ := id hR
    exact ⟨_, rfl, r, dx, _, rfl, h1, r, f', rfl, hR, ok, fun H1 s1 => ⟨_, rfl, q H1 s1⟩⟩
/-! ### the figures that stand in the dict behind the first clauses -/
theorem ne_parts_step : Str.ofString "parts" ≠ Str.ofString "step" := by decide +kernel
theorem ne_parts_grace : Str.ofString "parts" ≠ Str.ofString "grace" := by decide +kernel
theorem ne_parts_last : Str.ofString "parts" ≠ Str.ofString "last" := by decide +kernel
theorem ne_parts_misses : Str.ofString "parts" ≠ Str.ofString "misses" := by decide +kernel
theorem ne_parts_keep : Str.ofString "parts" ≠ Str.ofString "keep" := by decide +kernel
theorem ne_parts_fine : Str.ofString "parts" ≠ Str.ofString "fine" := by decide +kernel
theorem ne_parts_falls : Str.ofString "parts" ≠ Str.ofString "falls" := by decide +kernel
theorem ne_parts_back : Str.ofString "parts" ≠ Str.ofString "back" := by decide +kernel
theorem ne_step_parts : Str.ofString "step" ≠ Str.ofString "parts" := by decide +kernel
theorem ne_step_grace : Str.ofString "step" ≠ Str.ofString "grace" := by decide +kernel
theorem ne_step_last : Str.ofString "step" ≠ Str.ofString "last" := by decide +kernel
theorem ne_step_misses : Str.ofString "step" ≠ Str.ofString "misses" := by decide +kernel
theorem ne_step_keep : Str.ofString "step" ≠ Str.ofString "keep" := by decide +kernel
theorem ne_step_fine : Str.ofString "step" ≠ Str.ofString "fine" := by decide +kernel
theorem ne_step_falls : Str.ofString "step" ≠ Str.ofString "falls" := by decide +kernel
theorem ne_step_back : Str.ofString "step" ≠ Str.ofString "back" := by decide +kernel
theorem ne_grace_parts : Str.ofString "grace" ≠ Str.ofString "parts" := by decide +kernel
theorem ne_grace_step : Str.ofString "grace" ≠ Str.ofString "step" := by decide +kernel
theorem ne_grace_last : Str.ofString "grace" ≠ Str.ofString "last" := by decide +kernel
theorem ne_grace_misses : Str.ofString "grace" ≠ Str.ofString "misses" := by decide +kernel
theorem ne_grace_keep : Str.ofString "grace" ≠ Str.ofString "keep" := by decide +kernel
theorem ne_grace_fine : Str.ofString "grace" ≠ Str.ofString "fine" := by decide +kernel
theorem ne_grace_falls : Str.ofString "grace" ≠ Str.ofString "falls" := by decide +kernel
theorem ne_grace_back : Str.ofString "grace" ≠ Str.ofString "back" := by decide +kernel
theorem ne_last_parts : Str.ofString "last" ≠ Str.ofString "parts" := by decide +kernel
theorem ne_last_step : Str.ofString "last" ≠ Str.ofString "step" := by decide +kernel
theorem ne_last_grace : Str.ofString "last" ≠ Str.ofString "grace" := by decide +kernel
theorem ne_last_misses : Str.ofString "last" ≠ Str.ofString "misses" := by decide +kernel
theorem ne_last_keep : Str.ofString "last" ≠ Str.ofString "keep" := by decide +kernel
theorem ne_last_fine : Str.ofString "last" ≠ Str.ofString "fine" := by decide +kernel
theorem ne_last_falls : Str.ofString "last" ≠ Str.ofString "falls" := by decide +kernel
theorem ne_last_back : Str.ofString "last" ≠ Str.ofString "back" := by decide +kernel
theorem ne_misses_parts : Str.ofString "misses" ≠ Str.ofString "parts" := by decide +kernel
theorem ne_misses_step : Str.ofString "misses" ≠ Str.ofString "step" := by decide +kernel
theorem ne_misses_grace : Str.ofString "misses" ≠ Str.ofString "grace" := by decide +kernel
theorem ne_misses_last : Str.ofString "misses" ≠ Str.ofString "last" := by decide +kernel
theorem ne_misses_keep : Str.ofString "misses" ≠ Str.ofString "keep" := by decide +kernel
theorem ne_misses_fine : Str.ofString "misses" ≠ Str.ofString "fine" := by decide +kernel
theorem ne_misses_falls : Str.ofString "misses" ≠ Str.ofString "falls" := by decide +kernel
theorem ne_misses_back : Str.ofString "misses" ≠ Str.ofString "back" := by decide +kernel
theorem ne_keep_parts : Str.ofString "keep" ≠ Str.ofString "parts" := by decide +kernel
theorem ne_keep_step : Str.ofString "keep" ≠ Str.ofString "step" := by decide +kernel
theorem ne_keep_grace : Str.ofString "keep" ≠ Str.ofString "grace" := by decide +kernel
theorem ne_keep_last : Str.ofString "keep" ≠ Str.ofString "last" := by decide +kernel
theorem ne_keep_misses : Str.ofString "keep" ≠ Str.ofString "misses" := by decide +kernel
theorem ne_keep_fine : Str.ofString "keep" ≠ Str.ofString "fine" := by decide +kernel
theorem ne_keep_falls : Str.ofString "keep" ≠ Str.ofString "falls" := by decide +kernel
theorem ne_keep_back : Str.ofString "keep" ≠ Str.ofString "back" := by decide +kernel
theorem ne_fine_parts : Str.ofString "fine" ≠ Str.ofString "parts" := by decide +kernel
theorem ne_fine_step : Str.ofString "fine" ≠ Str.ofString "step" := by decide +kernel
theorem ne_fine_grace : Str.ofString "fine" ≠ Str.ofString "grace" := by decide +kernel
theorem ne_fine_last : Str.ofString "fine" ≠ Str.ofString "last" := by decide +kernel
theorem ne_fine_misses : Str.ofString "fine" ≠ Str.ofString "misses" := by decide +kernel
theorem ne_fine_keep : Str.ofString "fine" ≠ Str.ofString "keep" := by decide +kernel
theorem ne_fine_falls : Str.ofString "fine" ≠ Str.ofString "falls" := by decide +kernel
theorem ne_fine_back : Str.ofString "fine" ≠ Str.ofString "back" := by decide +kernel
theorem ne_falls_parts : Str.ofString "falls" ≠ Str.ofString "parts" := by decide +kernel
theorem ne_falls_step : Str.ofString "falls" ≠ Str.ofString "step" := by decide +kernel
theorem ne_falls_grace : Str.ofString "falls" ≠ Str.ofString "grace" := by decide +kernel
theorem ne_falls_last : Str.ofString "falls" ≠ Str.ofString "last" := by decide +kernel
theorem ne_falls_misses : Str.ofString "falls" ≠ Str.ofString "misses" := by decide +kernel
theorem ne_falls_keep : Str.ofString "falls" ≠ Str.ofString "keep" := by decide +kernel
theorem ne_falls_fine : Str.ofString "falls" ≠ Str.ofString "fine" := by decide +kernel
theorem ne_falls_back : Str.ofString "falls" ≠ Str.ofString "back" := by decide +kernel
theorem ne_back_parts : Str.ofString "back" ≠ Str.ofString "parts" := by decide +kernel
theorem ne_back_step : Str.ofString "back" ≠ Str.ofString "step" := by decide +kernel
theorem ne_back_grace : Str.ofString "back" ≠ Str.ofString "grace" := by decide +kernel
theorem ne_back_last : Str.ofString "back" ≠ Str.ofString "last" := by decide +kernel
theorem ne_back_misses : Str.ofString "back" ≠ Str.ofString "misses" := by decide +kernel
theorem ne_back_keep : Str.ofString "back" ≠ Str.ofString "keep" := by decide +kernel
theorem ne_back_fine : Str.ofString "back" ≠ Str.ofString "fine" := by decide +kernel
theorem ne_back_falls : Str.ofString "back" ≠ Str.ofString "falls" := by decide +kernel
def seg (b : Bool) (n : Str) (v : V) : List (Str × V) := if b = true then [(n, v)] else []
theorem lk_seg_ne {k n : Str} {b : Bool} {v : V} {l : List (Str × V)} (h : k ≠ n) : (seg b n v ++ l).lookup k = l.lookup k := by
  unfold seg
  cases b with
  | false => rfl
  | true =>
    rw [if_pos rfl, List.cons_append, List.nil_append, List.lookup_cons, beq_eq_false_iff_ne.mpr h]
theorem lk_seg_eq {n : Str} {b : Bool} {v : V} {l : List (Str × V)} : (seg b n v ++ l).lookup n = if b = true then some v else l.lookup n := by
  unfold seg
  cases b with
  | false => rfl
  | true => rw [if_pos rfl, if_pos rfl, List.cons_append, List.nil_append, List.lookup_cons, beq_self_eq_true]
theorem lk_cons_ne {k n : Str} {v : V} {l : List (Str × V)} (h : k ≠ n) : ((n, v) :: l).lookup k = l.lookup k := by
  rw [List.lookup_cons, beq_eq_false_iff_ne.mpr h]
theorem lk_cons_eq {n : Str} {v : V} {l : List (Str × V)} : ((n, v) :: l).lookup n = some v := by
  rw [List.lookup_cons, beq_self_eq_true]
def dictJ (f : Fg) (kv : V) (j : Nat) : List (Str × V) := ("parts", .int f.p) :: ("step", .int f.s) :: (seg (decide (1 < j) && decide (f.g ≠ 0)) "grace" (.int f.g) ++ (seg (decide (2 < j) && f.l) "last" (.bl true) ++ (seg (decide (3 < j) && decide (f.m ≠ 0)) "misses" (.int f.m) ++ (seg (decide (4 < j) && f.ks.any (fun k => decide (0 < k))) "keep" (kv) ++ (seg (decide (5 < j) && decide (f.fi ≠ 0)) "fine" (.int f.fi) ++ (seg (decide (6 < j) && decide (f.fa ≠ 0)) "falls" (.int f.fa) ++ (seg (decide (7 < j) && decide (f.ba ≠ 0)) "back" (.int f.ba) ++ ([]))))))))
def cutF (f : Fg) (j : Nat) : Fg := { p := f.p, s := f.s, g := if 1 < j then f.g else 0, l := decide (2 < j) && f.l, m := if 3 < j then f.m else 0, ks := if 4 < j then f.ks else List.replicate f.p.toNat 0, fi := if 5 < j then f.fi else 0, fa := if 6 < j then f.fa else 0, ba := if 7 < j then f.ba else 0 }
theorem cut_ok {f : Fg} (ok : f.Ok) (j : Nat) : (cutF f j).Ok := by
  have F := ok.figs
  obtain ⟨p0, p1, s0, s1, g0, g1, m0, m1, fi0, fi1, fa0, fa1, ba0, ba1⟩ := F
  have sp : ∀ {c : Prop} [Decidable c] {x hi : Int}, 0 ≤ x → x ≤ hi → 0 ≤ (if c then x else 0) ∧ (if c then x else 0) ≤ hi := fun {c _ x hi} h0 h1 => by
    split <;> omega
  refine ⟨⟨p0, p1, s0, s1, (sp g0 g1).1, (sp g0 g1).2, (sp m0 m1).1, (sp m0 m1).2, (sp fi0 fi1).1, (sp fi0 fi1).2, (sp fa0 fa1).1, (sp fa0 fa1).2, (sp ba0 ba1).1, (sp ba0 ba1).2⟩, ?_, ?_⟩
  · show (((if 4 < j then f.ks else List.replicate f.p.toNat 0).length : Nat) : Int) = f.p
    split
    · exact ok.len
    · rw [List.length_replicate]
      omega
  · show ∀ k ∈ (if 4 < j then f.ks else List.replicate f.p.toNat 0), 0 ≤ k ∧ k ≤ 100
    split
    · exact ok.bnd
    · intro k hk
      rw [List.eq_of_mem_replicate hk]
      omega
def keepV (f : Fg) (kv : V) (j : Nat) : V := if (decide (4 < j) && f.ks.any (fun k => decide (0 < k))) = true then kv else .int 0
theorem opt_int {c : Prop} [Decidable c] {x : Int} : (if (decide c && decide (x ≠ 0)) = true then some (V.int x) else none).getD (.int 0) = .int (if c then x else 0) := by
  by_cases h : c
  · rw [decide_eq_true h, if_pos h]
    by_cases z : x = 0
    · rw [z]
      rfl
    · rw [decide_eq_true z]
      rfl
  · rw [decide_eq_false h, if_neg h]
    rfl
theorem vs_dict (f : Fg) (kv : V) (j : Nat) : KWS.vsK ["parts", "step"] ["grace", "last", "misses", "keep", "fine", "falls", "back"] [.int 0, .bl false, .int 0, .int 0, .int 0, .int 0, .int 0] (dictJ f kv j) =
    [.int f.p, .int f.s, .int (cutF f j).g, .bl (cutF f j).l, .int (cutF f j).m, keepV f kv j, .int (cutF f j).fi, .int (cutF f j).fa, .int (cutF f j).ba] := by
  have h_parts : (dictJ f kv j).lookup (Str.ofString "parts") = some (.int f.p) := by
    unfold dictJ
    rw [lk_cons_eq]
  have h_step : (dictJ f kv j).lookup (Str.ofString "step") = some (.int f.s) := by
    unfold dictJ
    rw [lk_cons_ne ne_step_parts, lk_cons_eq]
  have h_grace : (dictJ f kv j).lookup (Str.ofString "grace") = if (decide (1 < j) && decide (f.g ≠ 0)) = true then some (.int f.g) else none := by
    unfold dictJ
    rw [lk_cons_ne ne_grace_parts, lk_cons_ne ne_grace_step, lk_seg_eq, lk_seg_ne ne_grace_last, lk_seg_ne ne_grace_misses, lk_seg_ne ne_grace_keep, lk_seg_ne ne_grace_fine, lk_seg_ne ne_grace_falls, lk_seg_ne ne_grace_back]
    rfl
  have h_last : (dictJ f kv j).lookup (Str.ofString "last") = if (decide (2 < j) && f.l) = true then some (.bl true) else none := by
    unfold dictJ
    rw [lk_cons_ne ne_last_parts, lk_cons_ne ne_last_step, lk_seg_ne ne_last_grace, lk_seg_eq, lk_seg_ne ne_last_misses, lk_seg_ne ne_last_keep, lk_seg_ne ne_last_fine, lk_seg_ne ne_last_falls, lk_seg_ne ne_last_back]
    rfl
  have h_misses : (dictJ f kv j).lookup (Str.ofString "misses") = if (decide (3 < j) && decide (f.m ≠ 0)) = true then some (.int f.m) else none := by
    unfold dictJ
    rw [lk_cons_ne ne_misses_parts, lk_cons_ne ne_misses_step, lk_seg_ne ne_misses_grace, lk_seg_ne ne_misses_last, lk_seg_eq, lk_seg_ne ne_misses_keep, lk_seg_ne ne_misses_fine, lk_seg_ne ne_misses_falls, lk_seg_ne ne_misses_back]
    rfl
  have h_keep : (dictJ f kv j).lookup (Str.ofString "keep") = if (decide (4 < j) && f.ks.any (fun k => decide (0 < k))) = true then some (kv) else none := by
    unfold dictJ
    rw [lk_cons_ne ne_keep_parts, lk_cons_ne ne_keep_step, lk_seg_ne ne_keep_grace, lk_seg_ne ne_keep_last, lk_seg_ne ne_keep_misses, lk_seg_eq, lk_seg_ne ne_keep_fine, lk_seg_ne ne_keep_falls, lk_seg_ne ne_keep_back]
    rfl
  have h_fine : (dictJ f kv j).lookup (Str.ofString "fine") = if (decide (5 < j) && decide (f.fi ≠ 0)) = true then some (.int f.fi) else none := by
    unfold dictJ
    rw [lk_cons_ne ne_fine_parts, lk_cons_ne ne_fine_step, lk_seg_ne ne_fine_grace, lk_seg_ne ne_fine_last, lk_seg_ne ne_fine_misses, lk_seg_ne ne_fine_keep, lk_seg_eq, lk_seg_ne ne_fine_falls, lk_seg_ne ne_fine_back]
    rfl
  have h_falls : (dictJ f kv j).lookup (Str.ofString "falls") = if (decide (6 < j) && decide (f.fa ≠ 0)) = true then some (.int f.fa) else none := by
    unfold dictJ
    rw [lk_cons_ne ne_falls_parts, lk_cons_ne ne_falls_step, lk_seg_ne ne_falls_grace, lk_seg_ne ne_falls_last, lk_seg_ne ne_falls_misses, lk_seg_ne ne_falls_keep, lk_seg_ne ne_falls_fine, lk_seg_eq, lk_seg_ne ne_falls_back]
    rfl
  have h_back : (dictJ f kv j).lookup (Str.ofString "back") = if (decide (7 < j) && decide (f.ba ≠ 0)) = true then some (.int f.ba) else none := by
    unfold dictJ
    rw [lk_cons_ne ne_back_parts, lk_cons_ne ne_back_step, lk_seg_ne ne_back_grace, lk_seg_ne ne_back_last, lk_seg_ne ne_back_misses, lk_seg_ne ne_back_keep, lk_seg_ne ne_back_fine, lk_seg_ne ne_back_falls, lk_seg_eq]
    rfl
  unfold KWS.vsK
  simp only [List.map_cons, List.map_nil, List.zip_cons_cons, List.zip_nil_right, List.cons_append, List.nil_append]
  rw [h_parts, h_step, h_grace, h_last, h_misses, h_keep, h_fine, h_falls, h_back]
  rw [opt_int, opt_int, opt_int, opt_int, opt_int]
  have e1 : (if (decide (2 < j) && f.l) = true then some (V.bl true) else none).getD (.bl false) = .bl (decide (2 < j) && f.l) := by
    cases decide (2 < j) && f.l <;> rfl
  have e2 : (if (decide (4 < j) && f.ks.any (fun k => decide (0 < k))) = true then some kv else none).getD (.int 0) = keepV f kv j := by
    unfold keepV
    cases decide (4 < j) && f.ks.any (fun k => decide (0 < k)) <;> rfl
  rw [e1, e2]
  rfl
theorem seg_sub {b : Bool} {n : Str} {v : V} {l : List (Str × V)} {ns : List Str} (h : (l.map (·.1)).Sublist ns) : ((seg b n v ++ l).map (·.1)).Sublist (n :: ns) := by
  unfold seg
  cases b with
  | false => exact .cons _ h
  | true => exact .cons₂ _ h
theorem dict_sub (f : Fg) (kv : V) (j : Nat) : ((dictJ f kv j).map (·.1)).Sublist (["parts", "step", "grace", "last", "misses", "keep", "fine", "falls", "back"] : List Str) :=
  .cons₂ _ (.cons₂ _ (seg_sub (seg_sub (seg_sub (seg_sub (seg_sub (seg_sub (seg_sub (l := []) .slnil))))))))
/-! ### rule_of -/
abbrev s_rule_of : Stmt := topS 33
abbrev N_rule_of : List Str := ["figures"]
theorem sc_rule_of : FnScope N_rule_of ["figures"] (defScope s_rule_of) := ⟨rfl, rfl, rfl, by decide +kernel, rfl, by decide +kernel, by decide +kernel⟩
/-- what may stand in a dict of figures: data by the nine names -/
structure Nvs (K : PySem.W.Frag) (H : Hp) (nvs : List (Str × V)) : Prop where
  nd : (nvs.map (·.1)).Nodup
  sub : ∀ k ∈ nvs.map (·.1), k ∈ (["parts", "step", "grace", "last", "misses", "keep", "fine", "falls", "back"] : List Str)
  both : Str.ofString "parts" ∈ nvs.map (·.1) → Str.ofString "step" ∈ nvs.map (·.1)
abbrev nineV (nvs : List (Str × V)) : List V := KWS.vsK ["parts", "step"] ["grace", "last", "misses", "keep", "fine", "falls", "back"] [.int 0, .bl false, .int 0, .int 0, .int 0, .int 0, .int 0] nvs
/-- the nine are right: a rule's figures -/
def RightV (K : PySem.W.Frag) (H : Hp) (xs : List V) (f : Fg) : Prop := f.Ok ∧ ∃ kv kd, xs = [.int f.p, .int f.s, .int f.g, .bl f.l, .int f.m, kv, .int f.fi, .int f.fa, .int f.ba] ∧ Keep K H f.p f.ks kv kd
def sp_rule_of (K : PySem.W.Frag) (C2 : CB2) (CR : Addr) : Sp := fun vs H Q _ => ∃ (d : Addr) (nvs : List (Str × V)), vs = [.ref d] ∧ H d = some (.dK (nvs.map fun p => (Sum.inr p.1, p.2))) ∧ Nvs K H nvs ∧
  ((Str.ofString "parts" ∉ nvs.map (·.1) ∧ ∀ H', Same H H' → Q .non H') ∨ (Str.ofString "parts" ∈ nvs.map (·.1) ∧ ((∃ w, Nine K H (nineV nvs) w) ∧ (∀ H', Same H H' → Q .non H') ∨ ∃ f, RightV K H (nineV nvs) f ∧ ∀ H' r, Same H H' → RuleAt K H' CR r f → Q (.ref r) H')))
theorem valV_none {nvs : List (Str × V)} {k : Str} (h : k ∉ nvs.map (·.1)) : valV (nvs.map fun p => ((Sum.inr p.1 : Key), p.2)) (Sum.inr k) = none := by
  unfold valV
  rw [List.find?_eq_none.mpr]
  · rfl
  · intro q hq
    obtain ⟨p, hp, rfl⟩ := List.mem_map.mp hq
    simp only [decide_eq_true_eq]
    exact fun e => h (List.mem_map.mpr ⟨p, hp, Sum.inr.inj e⟩)
theorem valV_some {nvs : List (Str × V)} {k : Str} (h : k ∈ nvs.map (·.1)) : ∃ v, valV (nvs.map fun p => ((Sum.inr p.1 : Key), p.2)) (Sum.inr k) = some v := by
  unfold valV
  obtain ⟨p, hp, rfl⟩ := List.mem_map.mp h
  cases e : (nvs.map fun p => ((Sum.inr p.1 : Key), p.2)).find? fun kv => decide (kv.1 = Sum.inr p.1) with
  | some q => exact ⟨q.2, rfl⟩
  | none =>
    have := List.find?_eq_none.mp e (Sum.inr p.1, p.2) (List.mem_map.mpr ⟨p, hp, rfl⟩)
    simp at this
theorem ok_rule_of {f : Addr} {fd : FuncData} (F : Fun K "rule_of" "rule_of" s_rule_of f fd) (g : mg "rule_of" = some (.ref f)) (bd : Binds K fd ["figures"] []) {C2 : CB2} (TB : TB2 K mg C2) (XR : CEv P w K mg base C2.b 1 "BadRule" "word") (XC : CEv P w K mg base C2.c 1 "BadClause" "place") {CR : Addr} (TQ : TEq K mg CR "Rule") (T_Rule : TRule K mg CR) (S_Rule : KWS.CMkS (L2.CX P w) P w K mg base CR 4 "Rule" "self" ["parts", "step"] ["grace", "last", "misses", "keep", "fine", "falls", "back"] [.int 0, .bl false, .int 0, .int 0, .int 0, .int 0, .int 0] (sp_Rule___init__ K C2 CR)) : CF P w K mg base 6 "rule_of" ["figures"] (sp_rule_of K C2 CR) := by
  refine ⟨f, fd, F.ok sc_rule_of (fun vs H Q E h => ?_) (fun cdv A outer s H vs Q E hr h => ?_), g, F.kp, bd⟩
  · first | (obtain ⟨_, rfl, _⟩ := h; rfl) | (obtain ⟨_, _, rfl, _⟩ := h; rfl) | (obtain ⟨_, _, _, rfl, _⟩ := h; rfl) | (obtain ⟨_, _, _, _, rfl, _⟩ := h; rfl) | (obtain ⟨_, _, _, _, _, rfl, _⟩ := h; rfl) | (obtain ⟨_, _, _, _, _, _, rfl, _⟩ := h; rfl) | (obtain ⟨_, _, _, _, _, _, _, rfl, _⟩ := h; rfl) | (obtain ⟨_, _, _, _, _, _, _, _, rfl, _⟩ := h; rfl) | (obtain ⟨_, _, _, _, _, _, _, _, _, rfl, _⟩ := h; rfl) | (obtain ⟨_, _, _, _, _, _, _, _, _, _, rfl, _⟩ := h; rfl) | (obtain ⟨_, _, _, _, _, _, _, _, _, _, _, rfl, _⟩ := h; rfl) | (obtain ⟨_, _, _, _, _, _, _, _, _, _, _, _, rfl, _⟩ := h; rfl) | (obtain ⟨_, _, _, _, _, _, _, _, _, _, _, _, _, rfl, _⟩ := h; rfl) | (obtain ⟨_, _, _, _, _, _, _, _, _, _, _, _, _, _, rfl, _⟩ := h; rfl) | (obtain ⟨_, _, _, _, _, _, _, _, _, _, _, _, _, _, _, rfl, _⟩ := h; rfl)
  · have hu64 := hr.units
    have hu1 := hu1_of hu64
    obtain ⟨d, nvs, rfl, hd, hN, h⟩ := h
    refine ⟨_, (pss_cons (ps_if (pt_cmp (pc_dnotin hu1 pe_str (pv 0)) (by rfl))
         (pss_one (ps_ret pe_non))
         pss_nil)
      (pss_one (ps_try_only rfl rfl ⟨rfl, by decide, .inl TB.gb⟩ takes_none5 (fun W pn xe tk _ =>
          (pss_one (ps_ret (KWX.pe_mkSx S_Rule (hr.mono (by decide)) tk (by rfl) (pv 0)))))
          (fun _ _ _ _ _ _ _ => (pss_one (ps_ret pe_non)))))), ?_⟩
    obtain ⟨nd, sub, both⟩ := hN
    refine ⟨_, rfl, d, _, rfl, .inl ⟨_, Sum.inr (Str.ofString "parts"), .inl hd, rfl, rfl⟩, ?_⟩
    rcases h with ⟨hp, q⟩ | ⟨hp, h⟩
    · rw [valV_none hp]
      exact ⟨_, rfl, iteT (q H (Same.refl H))⟩
    obtain ⟨v, ev⟩ := valV_some hp
    rw [ev]
    refine ⟨_, rfl, iteF fun d2 nd2 => ⟨_, rfl, d, nvs, rfl, ne_of_none hd nd2, upd_same, same_new nd2 _ _ hd, nd, sub, ?_, fun x dx nx ndx hne => ?_⟩⟩
    · intro k hk
      simp only [List.mem_cons, List.not_mem_nil, or_false] at hk
      rcases hk with rfl | rfl
      · exact hp
      · exact both hp
    generalize hG : upd (upd H d2 (.dK [])) d2 (.dK (nvs.map fun p => (Sum.inr p.1, p.2))) = G at *
    have sG : Same H G := by
      rw [← hG]
      exact fun a o e => by rw [upd_ne (ne_of_none e nd2), upd_ne (ne_of_none e nd2)]; exact e
    have s1 := same_new (o := .own x) ndx
    have nx2 : upd G dx (.own x) x = none := by rw [upd_ne hne.symm]; exact nx
    have s2 := same_new (o := .ins CR dx []) nx2
    have sA := (sG.trans s1).trans s2
    have hX := upd_same (H := upd G dx (.own x)) (a := x) (o := .ins CR dx [])
    generalize upd (upd G dx (.own x)) x (.ins CR dx []) = G2 at *
    have hxH : H x = none := (sG.trans s1).free nx2
    rcases h with ⟨⟨w9, hw⟩, q⟩ | ⟨f', ⟨ok, kv, kd, ex, hk⟩, q⟩
    · obtain ⟨x1, x2, x3, x4, x5, x6, x7, x8, x9, d1, d2', d3, d4, d5, d6, d7, d8, d9, e, hh, sh, hz, ew⟩ := hw
      refine ⟨x, dx, x1, x2, x3, x4, x5, x6, x7, x8, x9, congrArg (List.cons (V.ref x)) e, hX, .inr ⟨w9, Nine.same ⟨x1, x2, x3, x4, x5, x6, x7, x8, x9, d1, d2', d3, d4, d5, d6, d7, d8, d9, rfl, hh, sh, hz, ew⟩ sA, fun H' dd t nd' hd' => ⟨true, TB.xb, fun _ a na => q _ (sA.trans t), fun h => nomatch h⟩⟩⟩
    · refine ⟨x, dx, _, _, _, _, _, _, _, _, _, congrArg (List.cons (V.ref x)) ex, hX, .inl ⟨f'.p, f'.s, f'.g, f'.l, f'.m, kd, f'.ks, f'.fi, f'.fa, f'.ba, rfl, ok.figs, hk.same sA, fun H' kt t hr hkt => ⟨rfl, q H' x ?_ ⟨dx, kt, hr, hkt⟩⟩⟩⟩
      exact fun a o e => t _ _ (ne_of_none e hxH) (sA _ _ e)
abbrev tn (n : Int) : Str := Str.ofString (toString n)
theorem tn_signs : ∀ n : Fin 101, 32 ∉ TL.tl (tn ((n : Nat) : Int)) ∧ 44 ∉ TL.tl (tn ((n : Nat) : Int)) := by decide +kernel
theorem tn_free {n : Int} (h : 0 ≤ n ∧ n ≤ 100) : 32 ∉ TL.tl (tn n) ∧ 44 ∉ TL.tl (tn n) := by
  obtain ⟨i, rfl⟩ := Int.eq_ofNat_of_zero_le h.1
  exact tn_signs ⟨i, by omega⟩
theorem tn_oks : ∀ n : Fin 101, PyData.strOk (tn ((n : Nat) : Int)) = true ∧ tn ((n : Nat) : Int) ≠ Str.ofString "parts" := by decide +kernel
theorem tn_ok {n : Int} (h : 0 ≤ n ∧ n ≤ 100) : PyData.strOk (tn n) = true ∧ tn n ≠ Str.ofString "parts" := by
  obtain ⟨i, rfl⟩ := Int.eq_ofNat_of_zero_le h.1
  exact tn_oks ⟨i, by omega⟩
theorem join2 (a b : Str) : Txt.join " " [a, b] = a ++ Str.ofString " " ++ b := by
  rw [TL.join_eq]
  rfl
theorem join_more (a b : Str) (r : List Str) : Txt.join " " (a :: b :: r) = a ++ Str.ofString " " ++ Txt.join " " (b :: r) := by
  rw [TL.join_eq, TL.join_eq]
  rfl
theorem app_assoc (a b c : Str) : a ++ b ++ c = a ++ (b ++ c) := TL.ext_tl (by rw [TL.tl_append, TL.tl_append, TL.tl_append, TL.tl_append, List.append_assoc])
theorem part_join (p s : Int) : partT p s = Txt.join " " [tn p, "parts", "by", tn s, "days"] := by
  rw [join_more, join_more, join_more, join2]
  unfold partT
  refine TL.ext_tl ?_
  have e1 : TL.tl (Str.ofString " parts by ") = TL.tl (Str.ofString " ") ++ (TL.tl (Str.ofString "parts") ++ (TL.tl (Str.ofString " ") ++ (TL.tl (Str.ofString "by") ++ TL.tl (Str.ofString " ")))) := by decide +kernel
  have e2 : TL.tl (Str.ofString " days") = TL.tl (Str.ofString " ") ++ TL.tl (Str.ofString "days") := by decide +kernel
  simp only [TL.tl_append, List.append_assoc, e1, e2]
theorem cnt_join {w : Str} {n : Int} (h : n ≠ 0) : cntT w n = Txt.join " " [w, tn n] := by
  rw [join2, cntT, if_neg h]
theorem keep_join {k : Int} {r : List Int} (h : ¬ (k :: r).all (fun x => decide (x = (k :: r).headD 0)) = true) : keptT (k :: r) = Txt.join " " ("keep" :: (k :: r).map tn) := by
  rw [keptT, if_neg h, List.map_cons, join_more]
  have e : Str.ofString "keep " = Str.ofString "keep" ++ Str.ofString " " := by decide +kernel
  rw [e]
theorem split_pieces {pcs : List Str} (hne : pcs ≠ []) (h : ∀ p ∈ pcs, 32 ∉ TL.tl p) : Txt.split (Txt.join " " pcs) " " = pcs := TL.split_join (s := 32) (S := []) (by decide +kernel) (by decide +kernel) hne h
theorem last_join : Str.ofString "from last" = Txt.join " " ["from", "last"] := by decide +kernel
theorem not_last {pcs : List Str} (hne : pcs ≠ []) (h : ∀ p ∈ pcs, 32 ∉ TL.tl p) (hl : pcs ≠ ([Str.ofString "from", Str.ofString "last"] : List Str)) : Txt.join " " pcs ≠ Str.ofString "from last" := fun e => by
  have h1 := split_pieces hne h
  rw [e, last_join, split_pieces (by decide) (by decide +kernel)] at h1
  exact hl h1.symm
theorem cut_one (v : V) (l : List V) : cutV (v :: l) (some 1) none = l := by
  unfold cutV
  have e1 : HT.sIx (v :: l).length 0 (some 1) = 1 := by
    show min 1 (l.length + 1) = 1
    omega
  have e2 : HT.sIx (v :: l).length (v :: l).length none = l.length + 1 := rfl
  rw [e1, e2, Nat.add_sub_cancel, List.drop_succ_cons, List.drop_zero, List.take_length]
def itemJ (f : Fg) (kv : V) (i : Nat) : List (Str × V) := match i with
  | 0 => [("parts", .int f.p), ("step", .int f.s)]
  | 1 => [("grace", .int f.g)]
  | 2 => [("last", .bl true)]
  | 3 => [("misses", .int f.m)]
  | 4 => [("keep", kv)]
  | 5 => [("fine", .int f.fi)]
  | 6 => [("falls", .int f.fa)]
  | _ => [("back", .int f.ba)]
abbrev six : List Str := ["grace", "misses", "keep", "fine", "falls", "back"]
def ShapeC (f : Fg) (i : Nat) (c : Str) : Prop := ∃ pcs : List Str, c = Txt.join (Str.ofString " ") pcs ∧ (∀ p ∈ pcs, 32 ∉ TL.tl p) ∧ ((∀ p ∈ pcs, p.length ≤ 6) ∧ pcs.length ≤ 7) ∧ pcs ≠ [] ∧ pcs ≠ ([Str.ofString "from", Str.ofString "last"] : List Str) ∧
    ((i = 0 ∧ pcs = [tn f.p, "parts", "by", tn f.s, "days"]) ∨ (∃ (w : Str) (n : Int), pcs = [w, tn n] ∧ 0 ≤ n ∧ n ≤ 100 ∧ w ∈ six ∧ itemJ f (.int n) i = [(w, .int n)] ∧ (i = 4 → f.ks = List.replicate f.p.toNat n)) ∨
      (i = 4 ∧ pcs = Str.ofString "keep" :: f.ks.map tn ∧ 2 ≤ f.ks.length))
theorem shape {f : Fg} {i : Nat} {c : Str} (ok : f.Ok) (hi : (allT f)[i]? = some c) (hc : c ≠ Str.ofString "") (i8 : i < 8) (i2 : i ≠ 2) : ShapeC f i c := by
  have F := ok.figs
  have tl3 : ∀ {n : Int}, 0 ≤ n → n ≤ 100 → (tn n).length ≤ 6 := fun {n} h0 h1 => by
    have := num_len (n := n) h0 (by omega)
    show (Str.ofString (toString n)).length ≤ 6
    omega
  have word : ∀ (w : Str) (n : Int), w ∈ six → 0 ≤ n → n ≤ 100 → (∀ p ∈ ([w, tn n] : List Str), 32 ∉ TL.tl p) ∧ ((∀ p ∈ ([w, tn n] : List Str), p.length ≤ 6) ∧ ([w, tn n] : List Str).length ≤ 7) ∧ ([w, tn n] : List Str) ≠ [] ∧ ([w, tn n] : List Str) ≠ ([Str.ofString "from", Str.ofString "last"] : List Str) := fun w n hw h0 h1 => by
    have hw6 : ∀ w ∈ six, 32 ∉ TL.tl w ∧ w.length ≤ 6 ∧ w ≠ Str.ofString "from" := by decide +kernel
    obtain ⟨a1, a2, a3⟩ := hw6 w hw
    refine ⟨fun p hp => ?_, ⟨fun p hp => ?_, by show 2 ≤ 7; decide⟩, by simp, fun e => a3 (List.cons.inj e).1⟩
    · simp only [List.mem_cons, List.not_mem_nil, or_false] at hp
      rcases hp with rfl | rfl
      · exact a1
      · exact (tn_free ⟨h0, h1⟩).1
    · simp only [List.mem_cons, List.not_mem_nil, or_false] at hp
      rcases hp with rfl | rfl
      · exact a2
      · exact tl3 h0 h1
  have one : ∀ (w : Str) (n : Int), w ∈ six → 0 ≤ n → n ≤ 100 → cntT w n = c → itemJ f (.int n) i = [(w, .int n)] → (i = 4 → f.ks = List.replicate f.p.toNat n) → ShapeC f i c := fun w n hw h0 h1 e hit hk => by
    have n0 : n ≠ 0 := fun z => hc (by rw [← e, cntT, if_pos z])
    obtain ⟨a1, a2, a3, a4⟩ := word w n hw h0 h1
    exact ⟨[w, tn n], by rw [← e, cnt_join n0], a1, a2, a3, a4, .inr (.inl ⟨w, n, rfl, h0, h1, hw, hit, hk⟩)⟩
  match i, hi, i8, i2, one with
  | 0, hi, _, _, _ =>
    have e : partT f.p f.s = c := Option.some.inj hi
    refine ⟨[tn f.p, "parts", "by", tn f.s, "days"], by rw [← e, part_join], fun p hp => ?_, ⟨fun p hp => ?_, by show 5 ≤ 7; decide⟩, by simp, by simp, .inl ⟨rfl, rfl⟩⟩
    · simp only [List.mem_cons, List.not_mem_nil, or_false] at hp
      rcases hp with rfl | rfl | rfl | rfl | rfl
      · exact (tn_free ⟨by have := F.p0; omega, by have := F.p1; omega⟩).1
      · decide +kernel
      · decide +kernel
      · exact (tn_free ⟨by have := F.s0; omega, by have := F.s1; omega⟩).1
      · decide +kernel
    · simp only [List.mem_cons, List.not_mem_nil, or_false] at hp
      rcases hp with rfl | rfl | rfl | rfl | rfl
      · exact tl3 (by have := F.p0; omega) (by have := F.p1; omega)
      · decide +kernel
      · decide +kernel
      · exact tl3 (by have := F.s0; omega) (by have := F.s1; omega)
      · decide +kernel
  | 1, hi, _, _, one => exact one "grace" f.g (by decide +kernel) F.g0 (by have := F.g1; omega) (Option.some.inj hi) rfl (fun e => nomatch e)
  | 2, _, _, h, _ => exact absurd rfl h
  | 3, hi, _, _, one => exact one "misses" f.m (by decide +kernel) F.m0 (by have := F.m1; omega) (Option.some.inj hi) rfl (fun e => nomatch e)
  | 4, hi, _, _, one =>
    have e : keptT f.ks = c := Option.some.inj hi
    by_cases al : f.ks.all (fun k => decide (k = f.ks.headD 0)) = true
    · have h0 : ∀ k ∈ f.ks, k = f.ks.headD 0 := fun k hk => of_decide_eq_true (List.all_eq_true.mp al k hk)
      have hb : 0 ≤ f.ks.headD 0 ∧ f.ks.headD 0 ≤ 100 := by
        cases h : f.ks with
        | nil => exact ⟨Int.le_refl _, by decide⟩
        | cons a r => exact ok.bnd a (by rw [h]; exact List.mem_cons_self)
      refine one "keep" (f.ks.headD 0) (by decide +kernel) hb.1 hb.2 ?_ rfl (fun _ => List.eq_replicate_iff.mpr ⟨?_, h0⟩)
      · rw [← e, keptT, if_pos al]
      · have a : (f.ks.length : Int) = f.p := ok.len
        omega
    · have hks : f.ks ≠ [] := fun z => al (by rw [z]; rfl)
      obtain ⟨k, r, hkr⟩ : ∃ k r, f.ks = k :: r := by
        cases h : f.ks with
        | nil => exact absurd h hks
        | cons a b => exact ⟨a, b, rfl⟩
      have h6 : f.ks.length ≤ 6 := by
        have a : (f.ks.length : Int) = f.p := ok.len
        have := F.p1
        omega
      refine ⟨Str.ofString "keep" :: f.ks.map tn, ?_, fun p hp => ?_, ⟨fun p hp => ?_, ?_⟩, by simp, ?_, .inr (.inr ⟨rfl, rfl, ?_⟩)⟩
      · rw [← e, hkr, keep_join (by rw [← hkr]; exact al)]
      · rcases List.mem_cons.mp hp with rfl | hp
        · decide +kernel
        · obtain ⟨n, hn, rfl⟩ := List.mem_map.mp hp
          exact (tn_free (ok.bnd n hn)).1
      · rcases List.mem_cons.mp hp with rfl | hp
        · decide +kernel
        · obtain ⟨n, hn, rfl⟩ := List.mem_map.mp hp
          exact tl3 (ok.bnd n hn).1 (ok.bnd n hn).2
      · rw [List.length_cons, List.length_map]
        omega
      · exact fun z => absurd (List.cons.inj z).1 (by decide +kernel)
      · rcases Nat.lt_or_ge f.ks.length 2 with c2 | c2
        · refine absurd ?_ al
          rw [hkr] at c2 ⊢
          have : r = [] := List.length_eq_zero_iff.mp (by rw [List.length_cons] at c2; omega)
          rw [this]
          simp
        · exact c2
  | 5, hi, _, _, one => exact one "fine" f.fi (by decide +kernel) F.fi0 F.fi1 (Option.some.inj hi) rfl (fun e => nomatch e)
  | 6, hi, _, _, one => exact one "falls" f.fa (by decide +kernel) F.fa0 (by have := F.fa1; omega) (Option.some.inj hi) rfl (fun e => nomatch e)
  | 7, hi, _, _, one => exact one "back" f.ba (by decide +kernel) F.ba0 (by have := F.ba1; omega) (Option.some.inj hi) rfl (fun e => nomatch e)
  | n + 8, _, h, _, _ => omega
abbrev emp : Str := Str.ofString ""
def clause (f : Fg) (i : Nat) : Str := (allT f)[i]?.getD emp
def neC (f : Fg) (i : Nat) : Bool := decide (clause f i ≠ emp)
/-- which clauses are told -/
def idx (f : Fg) : List Nat := (List.range 8).filter (neC f)
theorem filter_idx {α : Type} (l : List α) (d : α) (p : α → Bool) : l.filter p = ((List.range l.length).filter fun i => p (l[i]?.getD d)).map fun i => l[i]?.getD d := by
  have e : l = (List.range l.length).map fun i => l[i]?.getD d := by
    refine List.ext_getElem? fun i => ?_
    rw [List.getElem?_map]
    by_cases h : i < l.length
    · rw [List.getElem?_range h]
      simp [h]
    · rw [List.getElem?_eq_none (by omega), List.getElem?_eq_none (by rw [List.length_range]; omega)]
      rfl
  conv => lhs; rw [e, List.filter_map]
  rfl
theorem cls_idx (f : Fg) : clsT f = (idx f).map (clause f) := filter_idx (allT f) emp _
theorem take_filter {p : Nat → Bool} : ∀ {n t j : Nat}, ((List.range n).filter p)[t]? = some j → ((List.range n).filter p).take t = (List.range j).filter p ∧ j < n ∧ p j = true
  | 0, t, j, h => by simp at h
  | n + 1, t, j, h => by
    rw [List.range_succ, List.filter_append] at h ⊢
    by_cases hp : p n = true
    · rw [List.filter_cons_of_pos hp, List.filter_nil] at h ⊢
      by_cases ht : t < ((List.range n).filter p).length
      · rw [List.getElem?_append_left ht] at h
        obtain ⟨h1, h2, h3⟩ := take_filter h
        exact ⟨by rw [List.take_append_of_le_length (by omega)]; exact h1, by omega, h3⟩
      · have hl : t < ((List.range n).filter p ++ [n]).length := (List.getElem?_eq_some_iff.mp h).1
        rw [List.length_append, List.length_singleton] at hl
        have e : t = ((List.range n).filter p).length := by omega
        rw [e, List.getElem?_append_right (Nat.le_refl _), Nat.sub_self] at h
        have ej : n = j := Option.some.inj h
        subst ej
        exact ⟨by rw [e, List.take_left], by omega, hp⟩
    · rw [List.filter_cons_of_neg hp, List.filter_nil, List.append_nil] at h ⊢
      obtain ⟨h1, h2, h3⟩ := take_filter h
      exact ⟨h1, by omega, h3⟩
theorem filter_lt {p : Nat → Bool} {m : Nat} : ∀ {n : Nat}, m ≤ n → (List.range n).filter (fun i => decide (i < m) && p i) = (List.range m).filter p
  | 0, h => by
    have : m = 0 := by omega
    subst this
    rfl
  | n + 1, h => by
    by_cases e : m = n + 1
    · subst e
      refine List.filter_congr fun i hi => ?_
      rw [decide_eq_true (List.mem_range.mp hi), Bool.true_and]
    · rw [List.range_succ, List.filter_append, filter_lt (n := n) (by omega), List.filter_cons_of_neg (by rw [decide_eq_false (by omega)]; simp), List.filter_nil, List.append_nil]
theorem cntB {w : Str} {n : Int} (hw : w ≠ emp) : decide (cntT w n ≠ emp) = decide (n ≠ 0) := by
  by_cases h : n = 0
  · rw [cntT, if_pos h, decide_eq_false (by simp), decide_eq_false (by simp [h])]
  · rw [cntT, if_neg h, decide_eq_true h]
    refine decide_eq_true fun e => ?_
    have h1 := congrArg TL.tl e
    rw [TL.tl_append, TL.tl_append] at h1
    have h2 := List.append_eq_nil_iff.mp h1
    exact absurd (List.append_eq_nil_iff.mp h2.1).2 (by decide +kernel)
theorem kept_ne {ks : List Int} (hb : ∀ k ∈ ks, 0 ≤ k ∧ k ≤ 100) (hne : ks ≠ []) : decide (keptT ks ≠ emp) = ks.any fun k => decide (0 < k) := by
  have ha : ks.headD 0 ∈ ks := by
    cases ks with
    | nil => exact absurd rfl hne
    | cons a r => exact List.mem_cons_self
  by_cases al : ks.all (fun k => decide (k = ks.headD 0)) = true
  · have e0 : keptT ks = cntT "keep" (ks.headD 0) := if_pos al
    rw [e0, cntB (by decide +kernel)]
    have h0 : ∀ k ∈ ks, k = ks.headD 0 := fun k hk => of_decide_eq_true (List.all_eq_true.mp al k hk)
    by_cases z : ks.headD 0 = 0
    · rw [decide_eq_false (fun e => e z)]
      refine (List.any_eq_false.mpr fun k hk => ?_).symm
      have := h0 k hk
      simp only [decide_eq_true_eq]
      omega
    · rw [decide_eq_true z]
      refine (List.any_eq_true.mpr ⟨_, ha, decide_eq_true ?_⟩).symm
      have := (hb _ ha).1
      omega
  · have h1 : decide (keptT ks ≠ emp) = true := by
      rw [keptT, if_neg al]
      refine decide_eq_true fun e => ?_
      have h1 := congrArg TL.tl e
      rw [TL.tl_append] at h1
      exact absurd (List.append_eq_nil_iff.mp h1).1 (by decide +kernel)
    rw [h1]
    cases h : ks.any fun k => decide (0 < k) with
    | true => rfl
    | false =>
      have h0 : ∀ k ∈ ks, k = 0 := fun k hk => by
        have a := List.any_eq_false.mp h k hk
        have b := (hb k hk).1
        simp only [decide_eq_true_eq] at a
        omega
      refine absurd (List.all_eq_true.mpr fun k hk => decide_eq_true ?_) al
      rw [h0 k hk, h0 _ ha]
theorem ks_ne {f : Fg} (ok : f.Ok) : f.ks ≠ [] := fun z => by
  have a : (f.ks.length : Int) = f.p := ok.len
  have := ok.figs.p0
  rw [z] at a
  exact absurd a (by simp; omega)
theorem ne_0 (f : Fg) : neC f 0 = true := by
  refine decide_eq_true fun e => ?_
  have h1 : partT f.p f.s = emp := e
  have h2 := congrArg TL.tl h1
  unfold partT at h2
  rw [TL.tl_append] at h2
  exact absurd (List.append_eq_nil_iff.mp h2).2 (by decide +kernel)
theorem ne_1 (f : Fg) : neC f 1 = decide (f.g ≠ 0) := cntB (by decide +kernel)
theorem ne_2 (f : Fg) : neC f 2 = f.l := by
  show decide ((if f.l = true then Str.ofString "from last" else Str.ofString "") ≠ emp) = f.l
  cases f.l <;> decide +kernel
theorem ne_3 (f : Fg) : neC f 3 = decide (f.m ≠ 0) := cntB (by decide +kernel)
theorem ne_4 {f : Fg} (ok : f.Ok) : neC f 4 = f.ks.any fun k => decide (0 < k) := kept_ne ok.bnd (ks_ne ok)
theorem ne_5 (f : Fg) : neC f 5 = decide (f.fi ≠ 0) := cntB (by decide +kernel)
theorem ne_6 (f : Fg) : neC f 6 = decide (f.fa ≠ 0) := cntB (by decide +kernel)
theorem ne_7 (f : Fg) : neC f 7 = decide (f.ba ≠ 0) := cntB (by decide +kernel)
theorem seg_if {b : Bool} {n : Str} {v : V} : seg b n v = if b = true then [(n, v)] else [] := rfl
theorem dict_step {f : Fg} (ok : f.Ok) (kv : V) : ∀ {j : Nat}, 1 ≤ j → j < 8 → dictJ f kv (j + 1) = dictJ f kv j ++ (if neC f j = true then itemJ f kv j else [])
  | 0, h, _ => absurd h (by omega)
  | 1, _, _ => by rw [ne_1]; simp only [dictJ, seg_if, itemJ]; simp
  | 2, _, _ => by rw [ne_2]; simp only [dictJ, seg_if, itemJ]; simp
  | 3, _, _ => by rw [ne_3]; simp only [dictJ, seg_if, itemJ]; simp
  | 4, _, _ => by rw [ne_4 ok]; simp only [dictJ, seg_if, itemJ]; simp
  | 5, _, _ => by rw [ne_5]; simp only [dictJ, seg_if, itemJ]; simp
  | 6, _, _ => by rw [ne_6]; simp only [dictJ, seg_if, itemJ]; simp
  | 7, _, _ => by rw [ne_7]; simp only [dictJ, seg_if, itemJ]; simp
  | n + 8, _, h => absurd h (by omega)
theorem dict_idx {f : Fg} (ok : f.Ok) (kv : V) : ∀ {j : Nat}, j < 8 → ((List.range (j + 1)).filter (neC f)).flatMap (itemJ f kv) = dictJ f kv (j + 1)
  | 0, _ => by
    rw [show List.range (0 + 1) = [0] from rfl, List.filter_cons_of_pos (ne_0 f)]
    rfl
  | j + 1, h => by
    rw [List.range_succ, List.filter_append, List.flatMap_append, dict_idx ok kv (by omega), dict_step ok kv (j := j + 1) (by omega) h]
    congr 1
    by_cases c : neC f (j + 1) = true
    · rw [List.filter_cons_of_pos c, if_pos c]
      simp
    · rw [List.filter_cons_of_neg c, if_neg c]
      rfl
theorem kept_zero {n : Nat} : keptT (List.replicate n 0) = emp := by
  have h0 : (List.replicate n (0 : Int)).headD 0 = 0 := by cases n <;> rfl
  rw [keptT, if_pos (List.all_eq_true.mpr fun k hk => decide_eq_true (by rw [h0]; exact List.eq_of_mem_replicate hk)), h0]
  rfl
theorem cnt_if {c : Prop} [Decidable c] {w : Str} {n : Int} : cntT w (if c then n else 0) = if c then cntT w n else emp := by
  split
  · rfl
  · rfl
theorem cut_clause (f : Fg) (j : Nat) : ∀ {i : Nat}, i < 8 → clause (cutF f (j + 1)) i = if i < j + 1 then clause f i else emp
  | 0, _ => by rw [if_pos (by omega)]; rfl
  | 1, _ => cnt_if
  | 2, _ => by
    show (if (decide (2 < j + 1) && f.l) = true then Str.ofString "from last" else Str.ofString "") = _
    by_cases c : 2 < j + 1
    · rw [decide_eq_true c, Bool.true_and, if_pos c]
      rfl
    · rw [decide_eq_false c, Bool.false_and, if_neg c]
      rfl
  | 3, _ => cnt_if
  | 4, _ => by
    show keptT (if 4 < j + 1 then f.ks else List.replicate f.p.toNat 0) = _
    split
    · rfl
    · exact kept_zero
  | 5, _ => cnt_if
  | 6, _ => cnt_if
  | 7, _ => cnt_if
  | n + 8, h => absurd h (by omega)
theorem cls_cut {f : Fg} {j : Nat} (h : j < 8) : clsT (cutF f (j + 1)) = ((List.range (j + 1)).filter (neC f)).map (clause f) := by
  rw [cls_idx]
  have e : idx (cutF f (j + 1)) = (List.range (j + 1)).filter (neC f) := by
    rw [← filter_lt (show j + 1 ≤ 8 by omega)]
    refine List.filter_congr fun i hi => ?_
    unfold neC
    rw [cut_clause f j (List.mem_range.mp hi)]
    by_cases c : i < j + 1
    · rw [if_pos c, decide_eq_true c, Bool.true_and]
    · rw [if_neg c, decide_eq_false c, Bool.false_and]
      exact decide_eq_false (by simp)
  rw [e]
  refine List.map_congr_left fun i hi => ?_
  have h1 := List.mem_range.mp (List.mem_filter.mp hi).1
  rw [cut_clause f j (by omega), if_pos h1]
theorem cut_end {f : Fg} (ok : f.Ok) {j : Nat} (h : ∀ i, j < i → i < 8 → neC f i = false) : cutF f (j + 1) = f := by
  have h1 : ∀ {i : Nat} {x : Int}, i < 8 → neC f i = decide (x ≠ 0) → (if i < j + 1 then x else 0) = x := fun {i x} i8 e => by
    split
    · rfl
    · rename_i c
      have := h i (by omega) i8
      rw [e] at this
      have := of_decide_eq_false this
      omega
  have hk : (if 4 < j + 1 then f.ks else List.replicate f.p.toNat 0) = f.ks := by
    split
    · rfl
    · rename_i c
      have e := h 4 (by omega) (by omega)
      rw [ne_4 ok] at e
      refine (List.eq_replicate_iff.mpr ⟨?_, fun k hk => ?_⟩).symm
      · have a : (f.ks.length : Int) = f.p := ok.len
        omega
      · have a := List.any_eq_false.mp e k hk
        have b := (ok.bnd k hk).1
        simp only [decide_eq_true_eq] at a
        omega
  have hl : (decide (2 < j + 1) && f.l) = f.l := by
    by_cases c : 2 < j + 1
    · rw [decide_eq_true c, Bool.true_and]
    · have e := h 2 (by omega) (by omega)
      rw [ne_2] at e
      rw [e, Bool.and_false]
  show Fg.mk _ _ _ _ _ _ _ _ _ = f
  rw [h1 (by omega) (ne_1 f), hl, h1 (by omega) (ne_3 f), hk, h1 (by omega) (ne_5 f), h1 (by omega) (ne_6 f), h1 (by omega) (ne_7 f)]
theorem idx_nil {f : Fg} : idx f ≠ [] := fun e => by
  have : 0 ∈ idx f := List.mem_filter.mpr ⟨by simp, ne_0 f⟩
  rw [e] at this
  cases this
theorem no44 {f : Fg} (ok : f.Ok) : ∀ c ∈ clsT f, 44 ∉ TL.tl c := by
  have F := ok.figs
  have cn : ∀ (w : Str) (n : Int), 44 ∉ TL.tl w → 0 ≤ n → n ≤ 100 → 44 ∉ TL.tl (cntT w n) := fun w n hw h0 h1 => by
    unfold cntT
    split
    · decide +kernel
    · rw [TL.tl_append, TL.tl_append]
      simp only [List.mem_append, not_or]
      exact ⟨⟨hw, by decide +kernel⟩, (tn_free ⟨h0, h1⟩).2⟩
  have jn : ∀ l : List Str, (∀ p ∈ l, 44 ∉ TL.tl p) → 44 ∉ TL.tl (Txt.join (Str.ofString " ") l) := fun l => by
    induction l with
    | nil => intro _; decide +kernel
    | cons a r ih =>
      intro h
      cases r with
      | nil => exact h a List.mem_cons_self
      | cons b r =>
        rw [join_more, TL.tl_append, TL.tl_append]
        simp only [List.mem_append, not_or]
        exact ⟨⟨h a List.mem_cons_self, by decide +kernel⟩, ih fun p hp => h p (List.mem_cons_of_mem _ hp)⟩
  intro c hc
  have hc := (List.mem_filter.mp hc).1
  simp only [allT, List.mem_cons, List.not_mem_nil, or_false] at hc
  rcases hc with rfl | rfl | rfl | rfl | rfl | rfl | rfl | rfl
  · unfold partT
    rw [TL.tl_append, TL.tl_append, TL.tl_append]
    simp only [List.mem_append, not_or]
    exact ⟨⟨⟨(tn_free ⟨by have := F.p0; omega, by have := F.p1; omega⟩).2, by decide +kernel⟩, (tn_free ⟨by have := F.s0; omega, by have := F.s1; omega⟩).2⟩, by decide +kernel⟩
  · exact cn _ _ (by decide +kernel) F.g0 (by have := F.g1; omega)
  · split <;> decide +kernel
  · exact cn _ _ (by decide +kernel) F.m0 (by have := F.m1; omega)
  · unfold keptT
    split
    · have hb : 0 ≤ f.ks.headD 0 ∧ f.ks.headD 0 ≤ 100 := by
        cases h : f.ks with
        | nil => exact ⟨Int.le_refl _, by decide⟩
        | cons a r => exact ok.bnd a (by rw [h]; exact List.mem_cons_self)
      exact cn _ _ (by decide +kernel) hb.1 hb.2
    · rw [TL.tl_append]
      simp only [List.mem_append, not_or]
      refine ⟨by decide +kernel, jn _ fun p hp => ?_⟩
      obtain ⟨n, hn, rfl⟩ := List.mem_map.mp hp
      exact (tn_free (ok.bnd n hn)).2
  · exact cn _ _ (by decide +kernel) F.fi0 F.fi1
  · exact cn _ _ (by decide +kernel) F.fa0 (by have := F.fa1; omega)
  · exact cn _ _ (by decide +kernel) F.ba0 (by have := F.ba1; omega)
theorem split_cls {f : Fg} (ok : f.Ok) : Txt.split (txtT f) (Str.ofString ", ") = clsT f := TL.split_join (s := 44) (S := [32]) (by decide +kernel) (by decide +kernel) (by rw [cls_idx]; exact fun e => idx_nil (List.map_eq_nil_iff.mp e)) (no44 ok)
/-! ### a dict that gets new names at its end -/
theorem put_new {l : List (Key × V)} {k : Key} {v : V} (h : k ∉ l.map (·.1)) : putK l k v = l ++ [(k, v)] := by
  unfold putK
  rw [if_neg]
  intro z
  obtain ⟨q, hq, e⟩ := List.any_eq_true.mp z
  exact h (List.mem_map.mpr ⟨q, hq, of_decide_eq_true e⟩)
theorem merge_new : ∀ {more l : List (Key × V)}, ((l ++ more).map (·.1)).Nodup → mergeK l more = l ++ more
  | [], l, _ => by rw [List.append_nil]; rfl
  | p :: r, l, h => by
    have h1 : p.1 ∉ l.map (·.1) := by
      rw [List.map_append, List.nodup_append] at h
      exact fun z => h.2.2 _ z _ (by simp) rfl
    show mergeK (putK l p.1 p.2) r = _
    rw [put_new h1, merge_new (by rw [List.append_assoc]; exact h), List.append_assoc]
    rfl
theorem take_next {f : Fg} {t j : Nat} (h : (idx f)[t]? = some j) : (idx f).take (t + 1) = (List.range (j + 1)).filter (neC f) := by
  obtain ⟨h1, _, h3⟩ := take_filter h
  rw [List.take_succ, h, List.range_succ, List.filter_append, List.filter_cons_of_pos h3]
  unfold idx
  rw [h1]
  rfl
theorem item_ne {f : Fg} {a b : V} : ∀ {i : Nat}, i ≠ 4 → itemJ f a i = itemJ f b i
  | 0, _ => rfl
  | 1, _ => rfl
  | 2, _ => rfl
  | 3, _ => rfl
  | 4, h => absurd rfl h
  | 5, _ => rfl
  | 6, _ => rfl
  | _ + 7, _ => rfl
theorem Keep.dict {K : PySem.W.Frag} {H : Hp} {D : Addr} {p : Int} {ks : List Int} {v : V} {d : PyData} {a : List (Key × V)} {o : HO} (h : Keep K H p ks v d) (hD : H D = some (.dK a)) : Keep K (upd H D o) p ks v d := by
  cases h with
  | one k k0 k1 ek => exact .one k k0 k1 ek
  | all t h hl hb =>
    refine .all t ?_ hl hb
    rcases h with (h | ⟨z, h⟩) | h
    · exact .inl (.inl (by rw [upd_ne (fun e => by rw [e, hD] at h; cases h)]; exact h))
    · exact .inl (.inr ⟨z, by rw [upd_ne (fun e => by rw [e, hD] at h; cases h)]; exact h⟩)
    · exact .inr h
theorem cut_take (l : List V) (n : Nat) : cutV l none (some ((n : Int) + 1)) = l.take (n + 1) := by
  unfold cutV
  have e1 : HT.sIx l.length 0 none = 0 := rfl
  have e2 : HT.sIx l.length l.length (some ((n : Int) + 1)) = min (n + 1) l.length := by
    show (if (n : Int) + 1 < 0 then (((n : Int) + 1) + (l.length : Int)).toNat else min ((n : Int) + 1).toNat l.length) = _
    rw [if_neg (by omega)]
    have : ((n : Int) + 1).toNat = n + 1 := by omega
    rw [this]
  rw [e1, e2, List.drop_zero, Nat.sub_zero]
  by_cases h : n + 1 ≤ l.length
  · rw [Nat.min_eq_left h]
  · rw [Nat.min_eq_right (by omega), List.take_length, List.take_of_length_le (by omega)]
theorem for_enum {K : PySem.W.Frag} {a : Addr} {xs : List V} {g : TG} {tb : TS} {D : Ends} {σ : _root_.L2.St} {H : Hp} (Pv : Nat → _root_.L2.St → Hp → Prop) (h0 : Pv 0 σ H) (hl : ∀ i σ H, i ≤ xs.length → Pv i σ H → SqL K H a xs)
    (hs : ∀ i x σ H T, xs[i]? = some x → Pv i σ H → H T = none → g (.ref T) σ (upd H T (.tup [.int (i : Nat), x])) fun σ2 H2 => tb { D with nx := Pv (i + 1), ct := Pv (i + 1), bk := D.nx } σ2 H2) (hd : ∀ σ H, Pv xs.length σ H → D.nx σ H) :
    ∃ W : Nat → Nat → _root_.L2.St → Hp → Prop, (∃ m, W 0 m σ H) ∧ ∀ i m σ H, W i m σ H →
      ((Ite K a).stop i H ∧ D.nx σ H) ∨ ((Ite K a).go i H ∧ ∃ N : _root_.L2.St → Hp → Prop, (∀ σ' H', N σ' H' → ∃ m', m' < m ∧ W (i + 1) m' σ' H') ∧ ∀ x H', (Ite K a).yld i H x H' → g x σ H' fun σ2 H2 => tb { D with nx := N, ct := N, bk := D.nx } σ2 H2) := by
  refine ⟨fun i m σ H => m = xs.length - i ∧ i ≤ xs.length ∧ Pv i σ H, ⟨xs.length, by simp, Nat.zero_le _, h0⟩, ?_⟩
  rintro i m σ H ⟨rfl, hi, p⟩
  have q := hl i σ H hi p
  by_cases hlt : i < xs.length
  · refine .inr ⟨⟨xs, xs[i], q, by simp [hlt]⟩, Pv (i + 1), fun σ' H' p' => ⟨xs.length - (i + 1), by omega, rfl, hlt, p'⟩, fun x H' y => ?_⟩
    obtain ⟨T, z, rfl, nT, rfl, hz⟩ := y
    exact hs i z σ H T (hz xs q) p nT
  · have e : i = xs.length := by omega
    subst e
    exact .inl ⟨⟨xs, q, Nat.le_refl _⟩, hd σ H p⟩
/-! ### a rule's text tells its figures -/
theorem tn_inj {a b : Int} (ha : 0 ≤ a ∧ a ≤ 100) (hb : 0 ≤ b ∧ b ≤ 100) (h : tn a = tn b) : a = b := by
  have h0 : Str.ofString (toString a) = Str.ofString (toString b) := h
  have h1 := num_at ha
  rw [h0, num_at hb] at h1
  exact (V.int.inj h1).symm
theorem app_cancel {a b c : Str} (h : a ++ b = a ++ c) : b = c := by
  have h1 := congrArg TL.tl h
  rw [TL.tl_append, TL.tl_append] at h1
  exact TL.ext_tl (List.append_cancel_left h1)
theorem cnt_inj {w : Str} {a b : Int} (ha : 0 ≤ a ∧ a ≤ 100) (hb : 0 ≤ b ∧ b ≤ 100) (hw : w ≠ emp) (h : cntT w a = cntT w b) : a = b := by
  have h1 : decide (a ≠ 0) = decide (b ≠ 0) := by rw [← cntB hw, ← cntB hw, h]
  by_cases z : a = 0
  · have z2 : b = 0 := by
      rw [decide_eq_false (fun e => e z)] at h1
      have := of_decide_eq_false h1.symm
      omega
    rw [z, z2]
  · have z2 : b ≠ 0 := by
      rw [decide_eq_true z] at h1
      exact of_decide_eq_true h1.symm
    unfold cntT at h
    rw [if_neg z, if_neg z2] at h
    exact tn_inj ha hb (app_cancel h)
theorem tn_map {ks : List Int} (hb : ∀ k ∈ ks, 0 ≤ k ∧ k ≤ 100) : (ks.map tn).map numV = ks.map V.int := by
  rw [List.map_map]
  exact List.map_congr_left fun k hk => num_at (hb k hk)
theorem ints_inj : ∀ {a b : List Int}, a.map V.int = b.map V.int → a = b
  | [], [], _ => rfl
  | [], _ :: _, h => by cases h
  | _ :: _, [], h => by cases h
  | x :: a, y :: b, h => by
    obtain ⟨h1, h2⟩ := List.cons.inj h
    rw [V.int.inj h1, ints_inj h2]
theorem tns_inj {a b : List Int} (ha : ∀ k ∈ a, 0 ≤ k ∧ k ≤ 100) (hb : ∀ k ∈ b, 0 ≤ k ∧ k ≤ 100) (h : a.map tn = b.map tn) : a = b := by
  have h1 := tn_map ha
  rw [h, tn_map hb] at h1
  exact (ints_inj h1).symm
theorem tns_free {a : List Int} (ha : ∀ k ∈ a, 0 ≤ k ∧ k ≤ 100) : ∀ p ∈ a.map tn, 32 ∉ TL.tl p := fun p hp => by
  obtain ⟨k, hk, rfl⟩ := List.mem_map.mp hp
  exact (tn_free (ha k hk)).1
theorem kept_mix {a b : List Int} (ha : ∀ k ∈ a, 0 ≤ k ∧ k ≤ 100) (hb : ∀ k ∈ b, 0 ≤ k ∧ k ≤ 100) (na : a ≠ []) (nb : b ≠ []) (c1 : a.all (fun k => decide (k = a.headD 0)) = true) (c2 : ¬ b.all (fun k => decide (k = b.headD 0)) = true) (h : keptT a = keptT b) : False := by
  have ha0 : 0 ≤ a.headD 0 ∧ a.headD 0 ≤ 100 := by
    cases a with
    | nil => exact absurd rfl na
    | cons x r => exact ha x List.mem_cons_self
  unfold keptT at h
  rw [if_pos c1, if_neg c2] at h
  by_cases z : a.headD 0 = 0
  · rw [cntT, if_pos z] at h
    have h1 := congrArg TL.tl h
    rw [TL.tl_append] at h1
    exact absurd (List.append_eq_nil_iff.mp h1.symm).1 (by decide +kernel)
  · rw [cntT, if_neg z] at h
    have e : Str.ofString "keep " = Str.ofString "keep" ++ Str.ofString " " := by decide +kernel
    rw [e] at h
    have h1 : tn (a.headD 0) = Txt.join (Str.ofString " ") (b.map tn) := app_cancel h
    have h2 := split_pieces (pcs := b.map tn) (by simpa using nb) (tns_free hb)
    have h3 : Txt.split (tn (a.headD 0)) " " = [tn (a.headD 0)] := by
      have := split_pieces (pcs := [tn (a.headD 0)]) (by simp) (fun p hp => by rw [List.mem_singleton.mp hp]; exact (tn_free ha0).1)
      have e1 : Txt.join " " [tn (a.headD 0)] = tn (a.headD 0) := by rw [TL.join_eq]; rfl
      rw [e1] at this
      exact this
    rw [← h1, h3] at h2
    match b, h2, c2 with
    | [], h2, _ => cases h2
    | [x], _, c2 => exact c2 (by simp)
    | _ :: _ :: _, h2, _ => exact absurd (List.cons.inj h2).2 (by simp)
theorem kept_inj {a b : List Int} (ha : ∀ k ∈ a, 0 ≤ k ∧ k ≤ 100) (hb : ∀ k ∈ b, 0 ≤ k ∧ k ≤ 100) (na : a ≠ []) (nb : b ≠ []) (hl : a.length = b.length) (h : keptT a = keptT b) : a = b := by
  by_cases c1 : a.all (fun k => decide (k = a.headD 0)) = true
  · by_cases c2 : b.all (fun k => decide (k = b.headD 0)) = true
    · have h0 := h
      unfold keptT at h0
      rw [if_pos c1, if_pos c2] at h0
      have ha0 : 0 ≤ a.headD 0 ∧ a.headD 0 ≤ 100 := by
        cases a with
        | nil => exact absurd rfl na
        | cons x r => exact ha x List.mem_cons_self
      have hb0 : 0 ≤ b.headD 0 ∧ b.headD 0 ≤ 100 := by
        cases b with
        | nil => exact absurd rfl nb
        | cons x r => exact hb x List.mem_cons_self
      have e := cnt_inj ha0 hb0 (by decide +kernel) h0
      have r1 : a = List.replicate a.length (a.headD 0) := List.eq_replicate_iff.mpr ⟨rfl, fun k hk => of_decide_eq_true (List.all_eq_true.mp c1 k hk)⟩
      have r2 : b = List.replicate b.length (b.headD 0) := List.eq_replicate_iff.mpr ⟨rfl, fun k hk => of_decide_eq_true (List.all_eq_true.mp c2 k hk)⟩
      rw [r1, r2, hl, e]
    · exact (kept_mix ha hb na nb c1 c2 h).elim
  · by_cases c2 : b.all (fun k => decide (k = b.headD 0)) = true
    · exact (kept_mix hb ha nb na c2 c1 h.symm).elim
    · unfold keptT at h
      rw [if_neg c1, if_neg c2] at h
      have h1 := app_cancel h
      have h2 := split_pieces (pcs := a.map tn) (by simpa using na) (tns_free ha)
      have h3 := split_pieces (pcs := b.map tn) (by simpa using nb) (tns_free hb)
      have h4 : Txt.join " " (a.map tn) = Txt.join " " (b.map tn) := h1
      rw [h4, h3] at h2
      exact (tns_inj hb ha h2).symm
theorem part_inj {p s p' s' : Int} (hp : 0 ≤ p ∧ p ≤ 100) (hs : 0 ≤ s ∧ s ≤ 100) (hp' : 0 ≤ p' ∧ p' ≤ 100) (hs' : 0 ≤ s' ∧ s' ≤ 100) (h : partT p s = partT p' s') : p = p' ∧ s = s' := by
  have fr : ∀ {a b : Int}, 0 ≤ a ∧ a ≤ 100 → 0 ≤ b ∧ b ≤ 100 → ∀ x ∈ ([tn a, "parts", "by", tn b, "days"] : List Str), 32 ∉ TL.tl x := fun {a b} ha hb x hx => by
    simp only [List.mem_cons, List.not_mem_nil, or_false] at hx
    rcases hx with rfl | rfl | rfl | rfl | rfl
    · exact (tn_free ha).1
    · decide +kernel
    · decide +kernel
    · exact (tn_free hb).1
    · decide +kernel
  have h1 := split_pieces (pcs := [tn p, "parts", "by", tn s, "days"]) (by simp) (fr hp hs)
  rw [← part_join, h, part_join, split_pieces (by simp) (fr hp' hs')] at h1
  simp only [List.cons.injEq, and_true, true_and] at h1
  exact ⟨(tn_inj hp' hp h1.1).symm, (tn_inj hs' hs h1.2).symm⟩
/-- the word that a clause begins with -/
def word (i : Nat) : Str := match i with
  | 1 => "grace"
  | 2 => "from"
  | 3 => "misses"
  | 4 => "keep"
  | 5 => "fine"
  | 6 => "falls"
  | 7 => "back"
  | _ => ""
def hdW (c : Str) : Str := (Txt.split c " ").headD emp
def kind (c : Str) : Nat := ((List.range 8).find? fun i => decide (i ≠ 0) && decide (word i = hdW c)).getD 0
theorem tn_words : ∀ n : Fin 101, (List.range 8).find? (fun i => decide (i ≠ 0) && decide (word i = tn ((n : Nat) : Int))) = none := by decide +kernel
theorem kind_word : ∀ i : Fin 8, (i : Nat) ≠ 0 → (((List.range 8).find? fun k => decide (k ≠ 0) && decide (word k = word i)).getD 0) = (i : Nat) := by decide +kernel
theorem hit_word {f : Fg} {w : Str} {n : Int} : ∀ {i : Nat}, i < 8 → i ≠ 2 → itemJ f (.int n) i = [(w, .int n)] → i ≠ 0 ∧ w = word i
  | 0, _, _, h => by
    have h : [(Str.ofString "parts", V.int f.p), (Str.ofString "step", V.int f.s)] = [(w, V.int n)] := h
    exact absurd (List.cons.inj h).2 (by simp)
  | 1, _, _, h => ⟨by decide, (congrArg Prod.fst (List.cons.inj (show [(Str.ofString "grace", V.int f.g)] = [(w, V.int n)] from h)).1).symm⟩
  | 2, _, h, _ => absurd rfl h
  | 3, _, _, h => ⟨by decide, (congrArg Prod.fst (List.cons.inj (show [(Str.ofString "misses", V.int f.m)] = [(w, V.int n)] from h)).1).symm⟩
  | 4, _, _, h => ⟨by decide, (congrArg Prod.fst (List.cons.inj (show [(Str.ofString "keep", V.int n)] = [(w, V.int n)] from h)).1).symm⟩
  | 5, _, _, h => ⟨by decide, (congrArg Prod.fst (List.cons.inj (show [(Str.ofString "fine", V.int f.fi)] = [(w, V.int n)] from h)).1).symm⟩
  | 6, _, _, h => ⟨by decide, (congrArg Prod.fst (List.cons.inj (show [(Str.ofString "falls", V.int f.fa)] = [(w, V.int n)] from h)).1).symm⟩
  | 7, _, _, h => ⟨by decide, (congrArg Prod.fst (List.cons.inj (show [(Str.ofString "back", V.int f.ba)] = [(w, V.int n)] from h)).1).symm⟩
  | k + 8, h, _, _ => absurd h (by omega)
theorem kind_at {f : Fg} (ok : f.Ok) {i : Nat} (i8 : i < 8) (hn : neC f i = true) : kind (clause f i) = i := by
  have hc := of_decide_eq_true hn
  have hcl : (allT f)[i]? = some (clause f i) := by
    unfold clause
    have : i < (allT f).length := i8
    rw [List.getElem?_eq_getElem this]
    rfl
  by_cases i2 : i = 2
  · subst i2
    rw [ne_2] at hn
    have e : clause f 2 = Str.ofString "from last" := by
      show (if f.l = true then Str.ofString "from last" else Str.ofString "") = _
      rw [if_pos hn]
    rw [e]
    decide +kernel
  obtain ⟨pcs, hj, hfree, _, hne, _, hsh⟩ := shape ok hcl hc i8 i2
  have hs : Txt.split (clause f i) " " = pcs := by rw [hj]; exact split_pieces hne hfree
  unfold kind hdW
  rw [hs]
  rcases hsh with ⟨rfl, rfl⟩ | ⟨w, n, rfl, m0, m1, hw, hit, _⟩ | ⟨rfl, rfl, _⟩
  · have F := ok.figs
    obtain ⟨m, hm⟩ := Int.eq_ofNat_of_zero_le (show 0 ≤ f.p by have := F.p0; omega)
    have := tn_words ⟨m, by have := F.p1; omega⟩
    show (List.find? (fun i => decide (i ≠ 0) && decide (word i = tn f.p)) (List.range 8)).getD 0 = 0
    rw [hm, this]
    rfl
  · obtain ⟨i0, rfl⟩ := hit_word i8 i2 hit
    show (((List.range 8).find? fun k => decide (k ≠ 0) && decide (word k = word i)).getD 0) = i
    exact kind_word ⟨i, i8⟩ i0
  · show (((List.range 8).find? fun k => decide (k ≠ 0) && decide (word k = word 4)).getD 0) = 4
    exact kind_word ⟨4, by decide⟩ (by decide)
theorem idx_kind {f : Fg} (ok : f.Ok) : (clsT f).map kind = idx f := by
  rw [cls_idx, List.map_map]
  conv => rhs; rw [← List.map_id (idx f)]
  refine List.map_congr_left fun i hi => ?_
  obtain ⟨h1, h2⟩ := List.mem_filter.mp hi
  exact kind_at ok (List.mem_range.mp h1) h2
theorem txt_inj {f g : Fg} (okf : f.Ok) (okg : g.Ok) (h : txtT f = txtT g) : f = g := by
  have h1 := split_cls okf
  rw [h, split_cls okg] at h1
  have hi : idx f = idx g := by rw [← idx_kind okf, ← idx_kind okg, h1]
  have hc : ∀ i, i < 8 → clause f i = clause g i := fun i i8 => by
    by_cases m : i ∈ idx f
    · have h2 := h1
      rw [cls_idx, cls_idx, hi] at h2
      rw [hi] at m
      exact (List.map_inj_left.mp h2 i m).symm
    · have m2 : i ∉ idx g := by rw [← hi]; exact m
      have nn : ∀ {x : Fg}, i ∉ idx x → clause x i = emp := fun {x} hx => by
        cases e : neC x i with
        | true => exact absurd (List.mem_filter.mpr ⟨List.mem_range.mpr i8, e⟩) hx
        | false =>
          have := of_decide_eq_false e
          exact Classical.not_not.mp this
      rw [nn m, nn m2]
  have F := okf.figs
  have G := okg.figs
  obtain ⟨e0, e1⟩ := part_inj ⟨by have := F.p0; omega, by have := F.p1; omega⟩ ⟨by have := F.s0; omega, by have := F.s1; omega⟩ ⟨by have := G.p0; omega, by have := G.p1; omega⟩ ⟨by have := G.s0; omega, by have := G.s1; omega⟩ (hc 0 (by decide))
  have e2 : f.g = g.g := cnt_inj ⟨F.g0, by have := F.g1; omega⟩ ⟨G.g0, by have := G.g1; omega⟩ (by decide +kernel) (hc 1 (by decide))
  have e3 : f.l = g.l := by rw [← ne_2, ← ne_2]; unfold neC; rw [hc 2 (by decide)]
  have e4 : f.m = g.m := cnt_inj ⟨F.m0, by have := F.m1; omega⟩ ⟨G.m0, by have := G.m1; omega⟩ (by decide +kernel) (hc 3 (by decide))
  have e5 : f.ks = g.ks := kept_inj okf.bnd okg.bnd (ks_ne okf) (ks_ne okg) (by have a : (f.ks.length : Int) = f.p := okf.len; have b : (g.ks.length : Int) = g.p := okg.len; omega) (hc 4 (by decide))
  have e6 : f.fi = g.fi := cnt_inj ⟨F.fi0, F.fi1⟩ ⟨G.fi0, G.fi1⟩ (by decide +kernel) (hc 5 (by decide))
  have e7 : f.fa = g.fa := cnt_inj ⟨F.fa0, by have := F.fa1; omega⟩ ⟨G.fa0, by have := G.fa1; omega⟩ (by decide +kernel) (hc 6 (by decide))
  have e8 : f.ba = g.ba := cnt_inj ⟨F.ba0, by have := F.ba1; omega⟩ ⟨G.ba0, by have := G.ba1; omega⟩ (by decide +kernel) (hc 7 (by decide))
  obtain ⟨p, s', g', l, m, ks, fi, fa, ba⟩ := f
  obtain ⟨p2, s2, g2, l2, m2, ks2, fi2, fa2, ba2⟩ := g
  simp only at e0 e1 e2 e3 e4 e5 e6 e7 e8
  subst e0 e1 e2 e3 e4 e5 e6 e7 e8
  rfl
/-- a rule's text is short -/
theorem txt_200 {f : Fg} (ok : f.Ok) : (txtT f).length ≤ 200 := by
  have F := ok.figs
  have n4 : ∀ {n : Int}, 0 ≤ n → n ≤ 100 → (tn n).length ≤ 4 := fun {n} h0 h1 => PyProof.Rows.toString_length_le (v := n) h0 (k := 4) (by decide) (by show n < 10000; omega)
  have ap : ∀ a b : Str, (a ++ b).length = a.length + b.length := Str.length_append
  have l1 : (Str.ofString " ").length = 1 := rfl
  have ct : ∀ (w : Str) (n : Int), w.length ≤ 6 → 0 ≤ n → n ≤ 100 → (cntT w n).length ≤ 11 := fun w n hw h0 h1 => by
    unfold cntT
    split
    · exact Nat.zero_le _
    · rw [ap, ap, l1]
      have := n4 h0 h1
      show w.length + 1 + (tn n).length ≤ 11
      omega
  have pt : (partT f.p f.s).length ≤ 23 := by
    unfold partT
    rw [ap, ap, ap]
    have a := n4 (n := f.p) (by have := F.p0; omega) (by have := F.p1; omega)
    have b := n4 (n := f.s) (by have := F.s0; omega) (by have := F.s1; omega)
    have c : (Str.ofString " parts by ").length = 10 := rfl
    have d : (Str.ofString " days").length = 5 := rfl
    show (tn f.p).length + _ + (tn f.s).length + _ ≤ 23
    omega
  have kt : (keptT f.ks).length ≤ 40 := by
    unfold keptT
    split
    · have hb : 0 ≤ f.ks.headD 0 ∧ f.ks.headD 0 ≤ 100 := by
        cases h : f.ks with
        | nil => exact ⟨Int.le_refl _, by decide⟩
        | cons a r => exact ok.bnd a (by rw [h]; exact List.mem_cons_self)
      have := ct "keep" (f.ks.headD 0) (by decide +kernel) hb.1 hb.2
      omega
    · have jl := PySem.StrLaws.join_length_le (Str.ofString " ") (f.ks.map tn)
      rw [← TL.join_eq, l1, List.length_map] at jl
      have sm : ∀ l : List Int, (∀ k ∈ l, 0 ≤ k ∧ k ≤ 100) → ((l.map tn).map (·.length)).sum ≤ l.length * 4 := fun l => by
        induction l with
        | nil => intro _; exact Nat.zero_le _
        | cons a l ih =>
          intro hb
          have i1 := ih fun x hx => hb x (List.mem_cons_of_mem _ hx)
          have i2 := hb a List.mem_cons_self
          have i3 := n4 i2.1 i2.2
          rw [List.map_cons, List.map_cons, List.sum_cons, List.length_cons]
          omega
      have := sm f.ks ok.bnd
      have a : (f.ks.length : Int) = f.p := ok.len
      have := F.p1
      have d : (Str.ofString "keep ").length = 5 := rfl
      rw [ap, d]
      show 5 + (Txt.join (Str.ofString " ") (f.ks.map tn)).length ≤ 40
      omega
  have lt : (if f.l = true then Str.ofString "from last" else Str.ofString "").length ≤ 9 := by
    split <;> decide +kernel
  have jl := PySem.StrLaws.join_length_le (Str.ofString ", ") (clsT f)
  rw [← TL.join_eq] at jl
  have e2 : (Str.ofString ", ").length = 2 := rfl
  rw [e2] at jl
  have fl : ∀ l : List Str, ((l.filter fun s => decide (s ≠ Str.ofString "")).map (·.length)).sum ≤ (l.map (·.length)).sum := fun l => by
    induction l with
    | nil => exact Nat.le_refl _
    | cons a l ih =>
      rw [List.filter_cons]
      split
      · rw [List.map_cons, List.map_cons, List.sum_cons, List.sum_cons]
        omega
      · rw [List.map_cons, List.sum_cons]
        omega
  have h1 := fl (allT f)
  have h2 : ((allT f).map (·.length)).sum = (partT f.p f.s).length + ((cntT "grace" f.g).length + ((if f.l = true then Str.ofString "from last" else Str.ofString "").length + ((cntT "misses" f.m).length + ((keptT f.ks).length + ((cntT "fine" f.fi).length + ((cntT "falls" f.fa).length + ((cntT "back" f.ba).length + 0))))))) := rfl
  have c1 := ct "grace" f.g (by decide +kernel) F.g0 (by have := F.g1; omega)
  have c2 := ct "misses" f.m (by decide +kernel) F.m0 (by have := F.m1; omega)
  have c3 := ct "fine" f.fi (by decide +kernel) F.fi0 F.fi1
  have c4 := ct "falls" f.fa (by decide +kernel) F.fa0 (by have := F.fa1; omega)
  have c5 := ct "back" f.ba (by decide +kernel) F.ba0 (by have := F.ba1; omega)
  have h3 : (clsT f).length ≤ 8 := (cls_len ok).2
  have h4 : ((clsT f).map (·.length)).sum ≤ ((allT f).map (·.length)).sum := h1
  show (Txt.join (Str.ofString ", ") (clsT f)).length ≤ 200
  omega
/-! ### the pieces of a text -/
theorem join_mr (y a b : Str) (r : List Str) : Txt.join y (a :: b :: r) = a ++ y ++ Txt.join y (b :: r) := by
  rw [TL.join_eq, TL.join_eq]
  rfl
theorem join_one (y a : Str) : Txt.join y [a] = a := by
  rw [TL.join_eq]
  rfl
theorem join_mem {y p : Str} : ∀ {l : List Str}, p ∈ l → (∀ x ∈ TL.tl p, x ∈ TL.tl (Txt.join y l)) ∧ p.length ≤ (Txt.join y l).length
  | [], h => by cases h
  | [a], h => by
    rw [List.mem_singleton.mp h, join_one]
    exact ⟨fun x hx => hx, Nat.le_refl _⟩
  | a :: b :: r, h => by
    rw [join_mr]
    rcases List.mem_cons.mp h with rfl | h
    · refine ⟨fun x hx => ?_, ?_⟩
      · rw [TL.tl_append, TL.tl_append]
        exact List.mem_append_left _ (List.mem_append_left _ hx)
      · rw [len_app, len_app]
        omega
    · obtain ⟨h1, h2⟩ := join_mem (y := y) h
      refine ⟨fun x hx => ?_, ?_⟩
      · rw [TL.tl_append]
        exact List.mem_append_right _ (h1 x hx)
      · rw [len_app]
        omega
theorem split_back (x y : Str) : Txt.join y (Txt.split x y) = x := by rw [TL.join_eq, PySem.StrLaws.join_split]
theorem piece_of {c y p : Str} (h : p ∈ Txt.split c y) : (∀ x ∈ TL.tl p, x ∈ TL.tl c) ∧ p.length ≤ c.length := by
  have := join_mem (y := y) h
  rw [split_back] at this
  exact this
theorem piece_asc {c y p : Str} (hc : Asc c) (h : p ∈ Txt.split c y) : Asc p := fun x hx => hc x ((piece_of h).1 x hx)
theorem asc_ok {p : Str} (h : Asc p) : PyData.strOk p = true := by
  unfold PyData.strOk
  rw [← Array.all_toList, List.all_eq_true]
  intro x hx
  exact decide_eq_true (Nat.lt_trans (h x hx) (by decide))
/-! ### the figures of any clause -/
abbrev pcsOf (c : Str) : List Str := Txt.split c " "
abbrev IsPart (ps : List Str) (a b : Str) : Prop := ps = [a, "parts", "by", b, "days"]
def FigIt (K : PySem.W.Frag) (H : Hp) (c : Str) (its : List (Str × V)) : Prop :=
  (c = Str.ofString "from last" ∧ its = [(Str.ofString "last", .bl true)]) ∨ (c ≠ Str.ofString "from last" ∧
    ((∃ a b, IsPart (pcsOf c) a b ∧ its = [(Str.ofString "parts", numV a), (Str.ofString "step", numV b)]) ∨
      (∃ w a, pcsOf c = [w, a] ∧ w ∈ six ∧ its = [(w, numV a)]) ∨
      (∃ r t, pcsOf c = Str.ofString "keep" :: r ∧ r.length ≠ 1 ∧ its = [(Str.ofString "keep", .ref t)] ∧ SqT K H t (r.map numV)) ∨
      (its = [] ∧ (¬ ∃ a b, IsPart (pcsOf c) a b) ∧ (¬ ∃ w a, pcsOf c = [w, a] ∧ w ∈ six) ∧ ¬ ∃ r, pcsOf c = Str.ofString "keep" :: r)))
theorem FigIt.same {K : PySem.W.Frag} {H H' : Hp} {c : Str} {its : List (Str × V)} (h : FigIt K H c its) (s : Same H H') : FigIt K H' c its := by
  rcases h with h | ⟨h0, h | h | ⟨r, t, h1, h2, h3, h4⟩ | h⟩
  · exact .inl h
  · exact .inr ⟨h0, .inl h⟩
  · exact .inr ⟨h0, .inr (.inl h)⟩
  · exact .inr ⟨h0, .inr (.inr (.inl ⟨r, t, h1, h2, h3, seqT_same s h4⟩))⟩
  · exact .inr ⟨h0, .inr (.inr (.inr h))⟩
theorem in_strs (w : Str) : ∀ l : List Str, inV (.str w) (l.map V.str) = decide (w ∈ l)
  | [] => by
    show false = _
    exact (decide_eq_false (by simp)).symm
  | a :: r => by
    show (eqV (.str a) (.str w) || inV (.str w) (r.map V.str)) = _
    rw [in_strs w r]
    show ((a == w) || decide (w ∈ r)) = decide (w ∈ a :: r)
    by_cases h : w = a
    · rw [h, beq_self_eq_true, Bool.true_or]
      exact (decide_eq_true List.mem_cons_self).symm
    · rw [beq_eq_false_iff_ne.mpr (Ne.symm h), Bool.false_or]
      exact decide_eq_decide.mpr ⟨fun z => List.mem_cons_of_mem _ z, fun z => (List.mem_cons.mp z).resolve_left h⟩
theorem six_in {w : Str} : inV (.str w) [.str (Str.ofString "grace"), .str (Str.ofString "misses"), .str (Str.ofString "keep"), .str (Str.ofString "fine"), .str (Str.ofString "falls"), .str (Str.ofString "back")] = decide (w ∈ six) := by
  have e : ([.str (Str.ofString "grace"), .str (Str.ofString "misses"), .str (Str.ofString "keep"), .str (Str.ofString "fine"), .str (Str.ofString "falls"), .str (Str.ofString "back")] : List V) = six.map V.str := rfl
  rw [e]
  exact in_strs w six
/-! ### figures_in -/
abbrev s_figures_in : Stmt := topS 32
abbrev N_figures_in : List Str := ["clause", "pieces", "numbers", "piece"]
theorem sc_figures_in : FnScope N_figures_in ["clause"] (defScope s_figures_in) := ⟨rfl, rfl, rfl, by decide +kernel, rfl, by decide +kernel, by decide +kernel⟩
def sp_figures_in (K : PySem.W.Frag) : Sp := fun vs H Q _ => ∃ (c : Str), vs = [.str c] ∧ Asc c ∧ c.length ≤ 500 ∧
  ∀ H' D its, Same H H' → H D = none → H' D = some (.dK (its.map fun p => (Sum.inr p.1, p.2))) → FigIt K H' c its → Q (.ref D) H'
theorem ok_figures_in {f : Addr} {fd : FuncData} (F : Fun K "figures_in" "figures_in" s_figures_in f fd) (g : mg "figures_in" = some (.ref f)) (bd : Binds K fd ["clause"] []) (m_len : mg "len" = none) (m_tuple : mg "tuple" = none) {t_MOST_FIGURE : Tok} (g_MOST_FIGURE : mg "MOST_FIGURE" = some (.int 100 t_MOST_FIGURE)) {A_COUNTED_WORDS : Addr} (g_COUNTED_WORDS : mg "COUNTED_WORDS" = some (.ref A_COUNTED_WORDS)) (q_COUNTED_WORDS : ∀ H, SqT K H A_COUNTED_WORDS [.str (Str.ofString "grace"), .str (Str.ofString "misses"), .str (Str.ofString "keep"), .str (Str.ofString "fine"), .str (Str.ofString "falls"), .str (Str.ofString "back")]) (C_number_in : CF P w K mg base 2 "number_in" ["text", "most"] (sp_number_in K)) : CF P w K mg base 3 "figures_in" ["clause"] (sp_figures_in K) := by
  refine ⟨f, fd, F.ok sc_figures_in (fun vs H Q E h => ?_) (fun cdv A outer s H vs Q E hr h => ?_), g, F.kp, bd⟩
  · first | (obtain ⟨_, rfl, _⟩ := h; rfl) | (obtain ⟨_, _, rfl, _⟩ := h; rfl) | (obtain ⟨_, _, _, rfl, _⟩ := h; rfl) | (obtain ⟨_, _, _, _, rfl, _⟩ := h; rfl) | (obtain ⟨_, _, _, _, _, rfl, _⟩ := h; rfl) | (obtain ⟨_, _, _, _, _, _, rfl, _⟩ := h; rfl) | (obtain ⟨_, _, _, _, _, _, _, rfl, _⟩ := h; rfl) | (obtain ⟨_, _, _, _, _, _, _, _, rfl, _⟩ := h; rfl) | (obtain ⟨_, _, _, _, _, _, _, _, _, rfl, _⟩ := h; rfl) | (obtain ⟨_, _, _, _, _, _, _, _, _, _, rfl, _⟩ := h; rfl) | (obtain ⟨_, _, _, _, _, _, _, _, _, _, _, rfl, _⟩ := h; rfl) | (obtain ⟨_, _, _, _, _, _, _, _, _, _, _, _, rfl, _⟩ := h; rfl) | (obtain ⟨_, _, _, _, _, _, _, _, _, _, _, _, _, rfl, _⟩ := h; rfl) | (obtain ⟨_, _, _, _, _, _, _, _, _, _, _, _, _, _, rfl, _⟩ := h; rfl) | (obtain ⟨_, _, _, _, _, _, _, _, _, _, _, _, _, _, _, rfl, _⟩ := h; rfl)
  · have hu64 := hr.units
    obtain ⟨c, rfl, hA, hz, q⟩ := h
    refine ⟨_, (pss_cons (ps_if (pt_cmpR op_eq (pv 0) pe_str (nomark _))
         (pss_one (ps_ret (pe_disp (pps_cons pe_str pe_bl pps_nil) (by rfl) (by rfl) (by simp) (by decide))))
         pss_nil)
      (pss_cons (ps_set (i := 1) sc_figures_in.nd rfl (.inl rfl) (pe_split (pv 0) pe_str))
      (pss_cons (ps_setLc (i := 2) (own := [("piece", 3)]) (g := (gName 3)) (tt := tYes) rfl sc_figures_in.nd rfl rfl (sw_true rfl rfl rfl (by decide +kernel)) (pi_list (pv 1)) (blkOk_by (own := [("piece", 3)]) (N := N_figures_in) (sc := defScope s_figures_in) (by decide +kernel)) (fun _ _ _ _ _ => pg_name (i := 3) sc_figures_in.nd rfl (Or.inl rfl)) (fun _ _ _ _ _ => pts_nil) (fun _ _ _ _ _ => (pe_cf C_number_in (hr.mono (by decide)) (by rfl) (pa_cons (pv 3) (pa_cons (pe_glob (v := .int 100) (by rfl) g_MOST_FIGURE ⟨_, rfl⟩) pa_nil)))))
      (pss_cons (ps_if (PW.pt (pw_and (pt_cmpR op_eq (pe_callB (kk_len K) (by rfl) m_len PySem.boot_len (pa_cons (pv 1) pa_nil)) pe_int (nomark _)) (pw_and1 (pt_cmpR (kk_eqD K hu64) (pe_lst (pa_cons (pe_ix (kk_ixl K) (pv 1) pe_int (fun _ _ => rfl)) (pa_cons (pe_ix (kk_ixl K) (pv 1) pe_int (fun _ _ => rfl)) (pa_cons (pe_ix (kk_ixl K) (pv 1) pe_int (fun _ _ => rfl)) pa_nil)))) (pe_lst (pa_cons pe_str (pa_cons pe_str (pa_cons pe_str pa_nil)))) (nomark _)))))
         (pss_one (ps_ret (pe_disp (pps_cons pe_str (pe_ix (kk_ixl K) (pv 2) pe_int (fun _ _ => rfl)) (pps_cons pe_str (pe_ix (kk_ixl K) (pv 2) pe_int (fun _ _ => rfl)) pps_nil)) (by rfl) (by rfl) (by simp) (by decide))))
         pss_nil)
      (pss_cons (ps_if (PW.pt (pw_and (pt_cmpR op_eq (pe_callB (kk_len K) (by rfl) m_len PySem.boot_len (pa_cons (pv 1) pa_nil)) pe_int (nomark _)) (pw_and1 (pt_cmpR (kk_in K) (pe_ix (kk_ixl K) (pv 1) pe_int (fun _ _ => rfl)) (pe_glob (v := .ref A_COUNTED_WORDS) (by rfl) g_COUNTED_WORDS rfl) (by rfl)))))
         (pss_one (ps_ret (pe_disp (pps_cons (pe_ix (kk_ixl K) (pv 1) pe_int (fun _ _ => rfl)) (pe_ix (kk_ixl K) (pv 2) pe_int (fun _ _ => rfl)) pps_nil) (by rfl) (by rfl) (by simp) (by decide))))
         pss_nil)
      (pss_cons (ps_if (pt_cmpR op_eq (pe_ix (kk_ixl K) (pv 1) pe_int (fun _ _ => rfl)) pe_str (nomark _))
         (pss_one (ps_ret (pe_disp (pps_cons pe_str (pe_callTy (kk_tuple K) (by rfl) m_tuple (by decide +kernel) (pa_cons (pe_slice (kk_sll K) (pv 2) (po_some pe_int) po_none) pa_nil)) pps_nil) (by rfl) (by rfl) (by simp) (by decide))))
         pss_nil)
      (pss_one (ps_ret pe_dnewK)))))))), ?_⟩
    have fin : ∀ (G : Hp) (D : Addr) (its : List (Str × V)), (∀ a o, H a = some o → G a = some o) → H D = none → mergeK [] (its.map fun p => ((Sum.inr p.1 : Key), p.2)) = its.map (fun p => ((Sum.inr p.1 : Key), p.2)) → FigIt K (upd G D (.dK (mergeK [] (its.map fun p => ((Sum.inr p.1 : Key), p.2))))) c its → Q (.ref D) (upd G D (.dK (mergeK [] (its.map fun p => ((Sum.inr p.1 : Key), p.2))))) := fun G D its sG nD hm hk =>
      q _ D its (fun a o e => by rw [upd_ne (ne_of_none e nD)]; exact sG a o e) nD (by rw [upd_same, hm]) hk
    by_cases c0 : c = Str.ofString "from last"
    · subst c0
      exact ⟨_, rfl, rfl, _, rfl, iteY rfl fun D nD => ⟨upd_same, [(Sum.inr (Str.ofString "last"), .bl true)], rfl, by decide, fin _ D [(Str.ofString "last", .bl true)] (same_new nD) nD rfl (.inl ⟨rfl, rfl⟩)⟩⟩
    have hp : ∀ p ∈ pcsOf c, Asc p ∧ p.length ≤ 500 := fun p h => ⟨piece_asc hA h, Nat.le_trans (piece_of h).2 hz⟩
    have hpl : (pcsOf c).length ≤ 502 := by
      have : (pcsOf c).length ≤ c.length + 2 := PyProof.Rows.split_le c " "
      omega
    refine ⟨_, rfl, rfl, _, rfl, iteN (fun e => c0 (V.str.inj e)) ?_⟩
    refine ⟨_, rfl, ⟨_, rfl⟩, _, _, rfl, rfl, by decide +kernel, by rw [sizeLine_eq]; omega, fun L1 n1 => ?_⟩
    have e0 : Txt.split c (Str.ofString " ") = pcsOf c := rfl
    rw [e0]
    have s1 := same_new (o := .lst ((pcsOf c).map V.str)) n1
    have x1 := upd_same (H := H) (a := L1) (o := .lst ((pcsOf c).map V.str))
    generalize upd H L1 (.lst ((pcsOf c).map V.str)) = H1 at *
    have hS1 : SqL K H1 L1 ((pcsOf c).map V.str) := SqL.of x1
    refine ⟨_, rfl, L1, rfl, ⟨_, hS1⟩, fun L2 n2 => vals_lc (fun v => match v with | .str t => numV t | _ => .non) (jok_l (K := K) hS1) (by rw [List.length_map]; omega) n2 (fun x hx G sG Y N h1 => ?_) (fun G sG hG => ?_)⟩
    · obtain ⟨t, ht, rfl⟩ := List.mem_map.mp hx
      exact ⟨rfl, _, rfl, t, rfl, by have := (hp t ht).2; omega, fun G' s' => h1 G' s'⟩
    have hG2 : G L2 = some (.lst ((pcsOf c).map numV)) := by
      rw [hG, List.map_map]
      rfl
    have hG1 : SqL K G L1 ((pcsOf c).map V.str) := sG.seq hS1
    have hS2 : SqL K G L2 ((pcsOf c).map numV) := SqL.of hG2
    have sHG := s1.trans sG
    show gName 2 (.ref L2) _ G _
    dsimp only [gName, tSeq]
    have pos : 1 ≤ (pcsOf c).length := PyProof.Rows.split_pos c " "
    generalize hps : pcsOf c = ps at *
    have lenP : (ps.map V.str).length = ps.length := List.length_map _
    have lay : ∀ a b d : Str, a ∈ ps → b ∈ ps → d ∈ ps → SeqAt.shaped (.list [.str a, .str b, .str d]) = true := fun a b d ha hb hd => by
      have h1 := asc_ok (hp a ha).1
      have h2 := asc_ok (hp b hb).1
      have h3 := asc_ok (hp d hd).1
      show (PyData.canLay0 _ && decide (PyData.depth _ ≤ 64)) = true
      rw [Bool.and_eq_true]
      exact ⟨by simp [PyData.canLay0, PyData.canLayAll0, h1, h2, h3], decide_eq_true (by simp [PyData.depth, PyData.depthAll])⟩
    refine ⟨_, rfl, L1, _, rfl, .inl hG1, rfl, _, rfl, ?_⟩
    by_cases c5 : V.int ((ps.map V.str).length : Int) = V.int 5
    case' pos =>
      obtain ⟨a, b, cc, d, e, e5⟩ : ∃ a b cc d e, ps = [a, b, cc, d, e] := by
        have c6 := V.int.inj c5
        rw [lenP] at c6
        match ps, c6 with
        | [a, b, cc, d, e], _ => exact ⟨a, b, cc, d, e, rfl⟩
        | [], c6 => exact absurd c6 (by decide)
        | [_], c6 => simp at c6
        | [_, _], c6 => simp at c6
        | [_, _, _], c6 => simp at c6
        | [_, _, _, _], c6 => simp at c6
        | _ :: _ :: _ :: _ :: _ :: _ :: r, c6 =>
          simp only [List.length_cons] at c6
          omega
      have hG1' := hG1
      rw [e5] at hG1'
      refine iteY c5 ⟨_, rfl, L1, _, _, _, rfl, rfl, hG1', rfl, _, rfl, L1, _, _, _, rfl, rfl, hG1', rfl, _, rfl, L1, _, _, _, rfl, rfl, hG1', rfl, by show 3 ≤ sizeLine; decide, fun l3 n3 => ⟨by show 3 ≤ sizeLine; decide, fun l4 n4 => ?_⟩⟩
      have d3 : Dp K (upd (upd G l3 (.lst [.str b, .str cc, .str e])) l4 (.lst [.str (Str.ofString "parts"), .str (Str.ofString "by"), .str (Str.ofString "days")])) (.ref l3) (.list [.str b, .str cc, .str e]) := .lst (SqL.of (by rw [upd_ne (ne_of_none (a := l3) upd_same n4)]; exact upd_same)) (.cons (.str _) (.cons (.str _) (.cons (.str _) .nil)))
      have d4 : Dp K (upd (upd G l3 (.lst [.str b, .str cc, .str e])) l4 (.lst [.str (Str.ofString "parts"), .str (Str.ofString "by"), .str (Str.ofString "days")])) (.ref l4) (.list [.str (Str.ofString "parts"), .str (Str.ofString "by"), .str (Str.ofString "days")]) := .lst (SqL.of upd_same) (.cons (.str _) (.cons (.str _) (.cons (.str _) .nil)))
      have s4 := ((same_new (o := .lst [.str b, .str cc, .str e]) n3).trans (same_new (o := .lst [.str (Str.ofString "parts"), .str (Str.ofString "by"), .str (Str.ofString "days")]) n4))
      refine ⟨_, _, d3, d4, lay b cc e (by rw [e5]; simp) (by rw [e5]; simp) (by rw [e5]; simp), by decide +kernel, _, rfl, ?_⟩
      rw [show PyData.eqv (.list [.str b, .str cc, .str e]) (.list [.str (Str.ofString "parts"), .str (Str.ofString "by"), .str (Str.ofString "days")]) = ((b == Str.ofString "parts") && ((cc == Str.ofString "by") && ((e == Str.ofString "days") && true))) by simp [PyData.eqv, PyData.eqvAll]]
      generalize upd (upd G l3 (.lst [.str b, .str cc, .str e])) l4 (.lst [.str (Str.ofString "parts"), .str (Str.ofString "by"), .str (Str.ofString "days")]) = G4 at *
      by_cases cp : b = Str.ofString "parts" ∧ cc = Str.ofString "by" ∧ e = Str.ofString "days"
      case' pos =>
        obtain ⟨rfl, rfl, rfl⟩ := cp
        rw [beq_self_eq_true, beq_self_eq_true, beq_self_eq_true]
        refine iteT fun D nD => ?_
        have sD := same_new (o := .dK []) nD
        rw [e5] at hS2
        exact ⟨_, rfl, L2, _, _, _, rfl, rfl, (s4.trans sD).seq hS2, rfl, _, rfl, L2, _, _, _, rfl, rfl, (s4.trans sD).seq hS2, rfl, upd_same, [(Sum.inr (Str.ofString "parts"), numV a), (Sum.inr (Str.ofString "step"), numV d)], rfl, by show 2 ≤ 15; decide, fin _ D [(Str.ofString "parts", numV a), (Str.ofString "step", numV d)] ((sHG.trans s4).trans sD) ((sHG.trans s4).free nD) rfl (.inr ⟨c0, .inl ⟨a, d, by rw [hps, e5], rfl⟩⟩)⟩
      case' neg =>
        rw [show ((b == Str.ofString "parts") && ((cc == Str.ofString "by") && ((e == Str.ofString "days") && true))) = false by
          rw [Bool.eq_false_iff]
          intro z
          simp only [Bool.and_eq_true, beq_iff_eq, and_true] at z
          exact cp z]
        refine iteF ?_
        have hnp : ¬ ∃ a b, IsPart ps a b := fun ⟨x, y, z⟩ => by
          rw [e5] at z
          simp only [IsPart, List.cons.injEq, and_true] at z
          exact cp ⟨z.2.1, z.2.2.1, z.2.2.2.2⟩
    case' neg =>
      refine iteN c5 (iteF ?_)
      obtain ⟨G4, eG4⟩ : ∃ G4, G4 = G := ⟨G, rfl⟩
      have s4 : Same G G4 := eG4 ▸ Same.refl G
      rw [← eG4]
      have hnp : ¬ ∃ a b, IsPart ps a b := fun ⟨x, y, z⟩ => c5 (by rw [z]; rfl)
    all_goals
      have hG4 := s4.seq hG1
      have hS4 := s4.seq hS2
      have none2 : (its : List (Str × V)) → (¬ ∃ w a, ps = [w, a] ∧ w ∈ six) → (¬ ∃ r, ps = Str.ofString "keep" :: r) → ∀ D, G4 D = none → Q (.ref D) (upd G4 D (.dK [])) := fun _ h1 h2 D nD =>
        fin G4 D [] (fun a o e => s4 _ _ (sHG _ _ e)) ((sHG.trans s4).free nD) rfl (.inr ⟨c0, .inr (.inr (.inr ⟨rfl, by rw [hps]; exact hnp, by rw [hps]; exact h1, by rw [hps]; exact h2⟩))⟩)
      refine ⟨_, rfl, L1, _, rfl, .inl hG4, rfl, _, rfl, ?_⟩
      by_cases c2 : V.int ((ps.map V.str).length : Int) = V.int 2
      · obtain ⟨w, a, e2⟩ : ∃ w a, ps = [w, a] := by
          have c6 := V.int.inj c2
          rw [lenP] at c6
          match ps, c6 with
          | [w, a], _ => exact ⟨w, a, rfl⟩
          | [], c6 => exact absurd c6 (by decide)
          | [_], c6 => simp at c6
          | _ :: _ :: _ :: r, c6 =>
            simp only [List.length_cons] at c6
            omega
        have hG4' := hG4
        rw [e2] at hG4'
        have hS4' := hS4
        rw [e2] at hS4'
        refine iteY c2 ⟨_, rfl, L1, _, _, _, rfl, rfl, hG4', rfl, A_COUNTED_WORDS, _, rfl, .inr (q_COUNTED_WORDS G4), rfl, by decide +kernel, _, rfl, ?_⟩
        rw [if_neg Bool.false_ne_true, six_in]
        by_cases cw : w ∈ six
        · rw [decide_eq_true cw]
          refine iteT fun D nD => ?_
          have sD := same_new (o := .dK []) nD
          exact ⟨_, rfl, L1, _, _, _, rfl, rfl, sD.seq hG4', rfl, _, rfl, L2, _, _, _, rfl, rfl, sD.seq hS4', rfl, upd_same, [(Sum.inr w, numV a)], rfl, by show 1 ≤ 15; decide, fin _ D [(w, numV a)] ((sHG.trans s4).trans sD) ((sHG.trans s4).free nD) rfl (.inr ⟨c0, .inr (.inl ⟨w, a, by rw [hps, e2], cw, rfl⟩)⟩)⟩
        · rw [decide_eq_false cw]
          have wk : w ≠ Str.ofString "keep" := fun z => cw (by rw [z]; decide +kernel)
          refine iteF ⟨_, rfl, L1, _, _, _, rfl, rfl, hG4', atI_nat (j := 0) rfl, rfl, _, rfl, iteN (fun z => wk (V.str.inj z)) ?_⟩
          exact none2 [] (fun ⟨x, y, z, z2⟩ => by rw [e2] at z; cases z; exact cw z2) (fun ⟨x, z⟩ => by rw [e2] at z; exact wk (List.cons.inj z).1)
      · refine iteN c2 (iteF ?_)
        obtain ⟨w, r, e2⟩ : ∃ w r, ps = w :: r := by
          match ps, pos with
          | w :: r, _ => exact ⟨w, r, rfl⟩
        have l2 : ¬ ∃ w a, ps = [w, a] ∧ w ∈ six := fun ⟨x, y, z, _⟩ => c2 (by rw [z]; rfl)
        have hG4' := hG4
        rw [e2] at hG4'
        have hS4' := hS4
        rw [e2] at hS4'
        by_cases ck : w = Str.ofString "keep"
        · refine ⟨_, rfl, L1, _, _, _, rfl, rfl, hG4', atI_nat (j := 0) rfl, rfl, _, rfl, iteY (congrArg V.str ck) fun D nD => ?_⟩
          have sD := same_new (o := .dK []) nD
          refine ⟨_, rfl, 1, rfl, L2, _, rfl, sD.seq hS4', fun l nl => ?_⟩
          rw [List.map_cons, cut_one]
          refine ⟨l, _, rfl, .inl ⟨SqL.of upd_same, fun t nt => ?_⟩⟩
          have sl := same_new (o := .lst (r.map numV)) nl
          have st := same_new (o := .tup (r.map numV)) nt
          have xD := (sl.trans st) _ _ (upd_same (H := G4) (a := D) (o := .dK []))
          have ne : t ≠ D := (ne_of_none (sl _ _ (upd_same (H := G4) (a := D) (o := .dK []))) nt).symm
          exact ⟨xD, [(Sum.inr (Str.ofString "keep"), .ref t)], rfl, by show 1 ≤ 15; decide, fin _ D [(Str.ofString "keep", .ref t)] ((((sHG.trans s4).trans sD).trans sl).trans st) ((sHG.trans s4).free nD) rfl (.inr ⟨c0, .inr (.inr (.inl ⟨r, t, by rw [hps, e2, ck], fun z => l2 ⟨w, r.head (by intro y; rw [y] at z; cases z), by rw [e2]; match r, z with | [y], _ => rfl, by rw [ck]; decide +kernel⟩, rfl, .of (by rw [upd_ne ne]; exact upd_same)⟩))⟩)⟩
        · refine ⟨_, rfl, L1, _, _, _, rfl, rfl, hG4', atI_nat (j := 0) rfl, rfl, _, rfl, iteN (fun z => ck (V.str.inj z)) ?_⟩
          exact none2 [] l2 (fun ⟨x, z⟩ => by rw [e2] at z; exact ck (List.cons.inj z).1)
/-! ### clauses that are a rule's -/
def Good (l : List Str) : Prop := ∃ f : Fg, f.Ok ∧ clsT f = l
def BadAt (cs : List Str) (k : Nat) : Prop := k < cs.length ∧ (k = 0 ∨ Good (cs.take k)) ∧ ¬ Good (cs.take (k + 1))
theorem idx_lt {f : Fg} {i : Nat} (h : i ∈ idx f) : i < 8 ∧ neC f i = true := by
  obtain ⟨h1, h2⟩ := List.mem_filter.mp h
  exact ⟨List.mem_range.mp h1, h2⟩
theorem cls_inj {f g : Fg} (okf : f.Ok) (okg : g.Ok) (h : clsT f = clsT g) : f = g := txt_inj okf okg (congrArg (Txt.join (Str.ofString ", ")) h)
theorem cut_of {f : Fg} {t j : Nat} (h : (idx f)[t]? = some j) : clsT (cutF f (j + 1)) = (clsT f).take (t + 1) := by
  obtain ⟨_, j8, _⟩ := take_filter h
  rw [cls_cut j8, cls_idx, ← List.map_take, take_next h]
theorem good_pre {l : List Str} {m : Nat} (h : Good l) (h1 : 1 ≤ m) (h2 : m ≤ l.length) : Good (l.take m) := by
  obtain ⟨f, ok, rfl⟩ := h
  have il : (idx f).length = (clsT f).length := by rw [cls_idx, List.length_map]
  obtain ⟨j, hj⟩ : ∃ j, (idx f)[m - 1]? = some j := ⟨_, List.getElem?_eq_getElem (by omega)⟩
  refine ⟨cutF f (j + 1), cut_ok ok _, ?_⟩
  rw [cut_of hj, show m - 1 + 1 = m by omega]
theorem bad_one {cs : List Str} {k j : Nat} (h1 : BadAt cs k) (h2 : BadAt cs j) : k = j := by
  have key : ∀ {a b : Nat}, BadAt cs a → BadAt cs b → ¬ a < b := fun {a b} ha hb lt => by
    rcases hb.2.1 with z | z
    · omega
    · refine ha.2.2 ?_
      have := good_pre (m := a + 1) z (by omega) (by rw [List.length_take]; have := hb.1; omega)
      rw [List.take_take, Nat.min_eq_left (by omega)] at this
      exact this
  have a := key h1 h2
  have b := key h2 h1
  omega
theorem good_or (cs : List Str) (h : cs ≠ []) : Good cs ∨ ∃ k, BadAt cs k := by
  by_cases g : Good cs
  · exact .inl g
  · refine .inr ?_
    have step : ∀ n, n ≤ cs.length → 1 ≤ n → ¬ Good (cs.take n) → ∃ k, BadAt cs k := by
      intro n
      induction n with
      | zero => intro _ h; omega
      | succ n ih =>
        intro h1 _ h3
        by_cases z : n = 0
        · subst z
          exact ⟨0, by omega, .inl rfl, h3⟩
        · by_cases g2 : Good (cs.take n)
          · exact ⟨n, by omega, .inr g2, h3⟩
          · exact ih (by omega) (by omega) g2
    have hl : 1 ≤ cs.length := List.length_pos_iff.mpr h
    exact step cs.length (Nat.le_refl _) hl (by rw [List.take_length]; exact g)
/-! ### the commas of a text -/

def Sp2 (p : List Nat) : Prop := ∀ u v : List Nat, p ≠ u ++ 44 :: 32 :: v
theorem spl_sp2 : ∀ (l acc : List Nat), Sp2 acc → (∀ u, acc = u ++ [44] → ∀ r, l ≠ 32 :: r) → ∀ p ∈ TL.spl [44, 32] 0 acc l, Sp2 p
  | [], acc, h1, _ => fun p hp => by
    rw [TL.spl_nil] at hp
    rw [List.mem_singleton.mp hp]
    exact h1
  | [c], acc, h1, h2 => fun p hp => by
    have hm : TL.pre [44, 32] [c] = false := by
      show ([c].take 2 == [44, 32]) = false
      rw [beq_eq_false_iff_ne]
      simp
    rw [TL.spl_miss hm, TL.spl_nil] at hp
    rw [List.mem_singleton.mp hp]
    intro u v e
    rcases List.eq_nil_or_concat v with rfl | ⟨v', x, rfl⟩
    · have e1 : acc ++ [c] = (u ++ [44]) ++ [32] := by rw [e]; simp
      obtain ⟨e2, e3⟩ := List.append_inj' e1 rfl
      exact h2 u e2 [] (by rw [List.cons.inj e3 |>.1])
    · have e1 : acc ++ [c] = (u ++ 44 :: 32 :: v') ++ [x] := by rw [e]; simp
      exact h1 u v' (List.append_inj' e1 rfl).1
  | c :: d :: r, acc, h1, h2 => fun p hp => by
    by_cases hh : c = 44 ∧ d = 32
    · obtain ⟨rfl, rfl⟩ := hh
      rw [TL.spl_hit (S := [44, 32]) (acc := acc) (c := 44) (r := 32 :: r) (by show ((44 :: 32 :: r).take 2 == [44, 32]) = true; simp)] at hp
      rcases List.mem_cons.mp hp with rfl | hp
      · exact h1
      · have e : TL.spl [44, 32] ([44, 32].length - 1) [] (32 :: r) = TL.spl [44, 32] 0 [] r := by rw [TL.spl_pass]; rfl
        rw [e] at hp
        exact spl_sp2 r [] (fun u v z => by cases u <;> cases z) (fun u z => by cases u <;> cases z) p hp
    · have hm : TL.pre [44, 32] (c :: d :: r) = false := by
        show ((c :: d :: r).take 2 == [44, 32]) = false
        rw [beq_eq_false_iff_ne]
        intro z
        simp only [List.take_succ_cons, List.take_zero, List.cons.injEq, and_true] at z
        exact hh z
      rw [TL.spl_miss hm] at hp
      refine spl_sp2 (d :: r) (acc ++ [c]) (fun u v e => ?_) (fun u e r' z => ?_) p hp
      · rcases List.eq_nil_or_concat v with rfl | ⟨v', x, rfl⟩
        · have e1 : acc ++ [c] = (u ++ [44]) ++ [32] := by rw [e]; simp
          obtain ⟨e2, e3⟩ := List.append_inj' e1 rfl
          exact h2 u e2 (d :: r) (by rw [List.cons.inj e3 |>.1])
        · have e1 : acc ++ [c] = (u ++ 44 :: 32 :: v') ++ [x] := by rw [e]; simp
          exact h1 u v' (List.append_inj' e1 rfl).1
      · obtain ⟨_, e3⟩ := List.append_inj' e rfl
        exact hh ⟨(List.cons.inj e3).1, (List.cons.inj z).1⟩
theorem piece_sp2 {t p : Str} (h : p ∈ Txt.split t ", ") : Sp2 (TL.tl p) := by
  have e := TL.split_spl t ", " (by decide +kernel) (by
    have h1 : Builtin.Str.strKind (Str.ofString ", ") = 1 := by decide +kernel
    rw [h1]
    have := PyProof.Rows.strKind_pos t
    omega)
  have hm : TL.tl p ∈ (Txt.split t ", ").map TL.tl := List.mem_map.mpr ⟨p, h, rfl⟩
  rw [e] at hm
  exact spl_sp2 (TL.tl t) [] (fun u v z => by cases u <;> cases z) (fun u z => by cases u <;> cases z) _ hm
/-- a text that is a rule's has commas at its seams alone -/
theorem comma_join : ∀ {l : List Str}, (∀ p ∈ l, 44 ∉ TL.tl p) → ∀ u v : List Nat, TL.tl (Txt.join ", " l) = u ++ 44 :: v → ∃ v', v = 32 :: v'
  | [], _, u, v, h => by
    have e : TL.tl (Txt.join ", " []) = [] := by decide +kernel
    rw [e] at h
    cases u <;> cases h
  | [a], hl, u, v, h => by
    rw [join_one] at h
    exact absurd (by rw [h]; simp) (hl a List.mem_cons_self)
  | a :: b :: r, hl, u, v, h => by
    have e2 : TL.tl (Str.ofString ", ") = [44, 32] := by decide +kernel
    rw [join_mr, TL.tl_append, TL.tl_append, e2, List.append_assoc] at h
    have ha := hl a List.mem_cons_self
    rcases List.append_eq_append_iff.mp h with ⟨w, e3, e4⟩ | ⟨w, e3, e4⟩
    · match w, e4 with
      | [], e4 => exact ⟨_, (List.cons.inj e4).2.symm⟩
      | [x], e4 =>
        have := (List.cons.inj (List.cons.inj e4).2).1
        exact absurd this (by decide)
      | x :: y :: w', e4 =>
        have e5 := (List.cons.inj (List.cons.inj e4).2).2
        exact comma_join (fun p hp => hl p (List.mem_cons_of_mem _ hp)) w' v e5
    · match w, e3, e4 with
      | [], _, e4 => exact ⟨_, (List.cons.inj e4).2⟩
      | x :: w', e3, e4 =>
        have e5 := (List.cons.inj e4).1
        rw [← e5] at e3
        exact absurd (by rw [e3]; simp) ha
theorem join_at {b : Str} : ∀ {l : List Str}, b ∈ l → ∃ p q : List Nat, TL.tl (Txt.join ", " l) = p ++ (TL.tl b ++ q) ∧ (q = [] ∨ ∃ q', q = 44 :: q')
  | [], h => by cases h
  | [a], h => by
    rw [List.mem_singleton.mp h, join_one]
    exact ⟨[], [], by simp, .inl rfl⟩
  | a :: c :: r, h => by
    have e2 : TL.tl (Str.ofString ", ") = [44, 32] := by decide +kernel
    rw [join_mr, TL.tl_append, TL.tl_append, e2, List.append_assoc]
    rcases List.mem_cons.mp h with rfl | h
    · exact ⟨[], [44, 32] ++ TL.tl (Txt.join ", " (c :: r)), rfl, .inr ⟨_, rfl⟩⟩
    · obtain ⟨p, q, e, hq⟩ := join_at h
      exact ⟨TL.tl a ++ ([44, 32] ++ p), q, by rw [e]; simp, hq⟩
theorem cls_of_join {f : Fg} (ok : f.Ok) {t : Str} {k : Nat} (hk : 1 ≤ k) (h : txtT f = Txt.join ", " ((Txt.split t ", ").take k)) : clsT f = (Txt.split t ", ").take k := by
  have hB : ∀ b ∈ (Txt.split t ", ").take k, 44 ∉ TL.tl b := fun b hb hm => by
    obtain ⟨u, v, e⟩ := List.append_of_mem hm
    obtain ⟨p, q, e2, hq⟩ := join_at hb
    rw [← h, e] at e2
    obtain ⟨v', e3⟩ := comma_join (no44 ok) (p ++ u) (v ++ q) (by show TL.tl (txtT f) = _; rw [e2]; simp)
    cases v with
    | nil =>
      rw [List.nil_append] at e3
      rcases hq with z | ⟨q', z⟩
      · rw [z] at e3
        cases e3
      · rw [z] at e3
        exact absurd (List.cons.inj e3).1 (by decide)
    | cons x v2 =>
      have e4 := (List.cons.inj e3).1
      rw [e4] at e
      exact piece_sp2 (List.mem_of_mem_take hb) u v2 e
  have hne : (Txt.split t ", ").take k ≠ [] := by
    have h1 : 1 ≤ (Txt.split t ", ").length := PyProof.Rows.split_pos t ", "
    intro z
    have := congrArg List.length z
    rw [List.length_take, List.length_nil] at this
    omega
  have h1 := split_cls ok
  rw [h] at h1
  rw [← h1]
  exact TL.split_join (s := 44) (S := [32]) (by decide +kernel) (by decide +kernel) hne hB
/-! ### what a clause of a rule tells -/
theorem numV_cases (t : Str) : numV t = .non ∨ ∃ n, numV t = .int n ∧ 0 ≤ n ∧ n ≤ 100 := by
  unfold numV
  split
  · split
    · rename_i h
      exact .inr ⟨_, rfl, by omega, h.1⟩
    · exact .inl rfl
  · exact .inl rfl
theorem fig_item {K : PySem.W.Frag} {H : Hp} {f : Fg} {i : Nat} {its : List (Str × V)} (ok : f.Ok) (i8 : i < 8) (hn : neC f i = true) (h : FigIt K H (clause f i) its) : ∃ kv kd, its = itemJ f kv i ∧ (i = 4 → Keep K H f.p f.ks kv kd) := by
  have hc : clause f i ≠ emp := of_decide_eq_true hn
  have hi : (allT f)[i]? = some (clause f i) := by
    unfold clause
    have : i < (allT f).length := i8
    rw [List.getElem?_eq_getElem this]
    rfl
  by_cases i2 : i = 2
  · subst i2
    have e : clause f 2 = Str.ofString "from last" := by
      have e : clause f 2 = if f.l = true then Str.ofString "from last" else Str.ofString "" := rfl
      rw [e]
      have hl : f.l = true := by rw [← ne_2]; exact hn
      rw [if_pos hl]
    rcases h with ⟨_, rfl⟩ | ⟨z, _⟩
    · exact ⟨.non, .none, rfl, fun e => nomatch e⟩
    · exact absurd e z
  obtain ⟨pcs, ej, hfree, _, hne, hnl, hsh⟩ := shape ok hi hc i8 i2
  have ep : pcsOf (clause f i) = pcs := by rw [ej]; exact split_pieces hne hfree
  have F := ok.figs
  rcases h with ⟨z, _⟩ | ⟨_, h⟩
  · rw [ej] at z
    exact absurd z (not_last hne hfree hnl)
  rw [ep] at h
  rcases hsh with ⟨rfl, rfl⟩ | ⟨w, n, rfl, m0, m1, hw, hit, hk4⟩ | ⟨rfl, rfl, hk2⟩
  · have np : numV (tn f.p) = .int f.p := num_at ⟨by have := F.p0; omega, by have := F.p1; omega⟩
    have ns : numV (tn f.s) = .int f.s := num_at ⟨by have := F.s0; omega, by have := F.s1; omega⟩
    rcases h with ⟨a, b, e1, rfl⟩ | ⟨w, a, e1, _⟩ | ⟨r, t, e1, _⟩ | ⟨_, h1, _⟩
    · simp only [IsPart, List.cons.injEq, and_true] at e1
      obtain ⟨rfl, _, _, rfl, _⟩ := e1
      rw [np, ns]
      exact ⟨.non, .none, rfl, fun e => nomatch e⟩
    · simp at e1
    · have e2 := (List.cons.inj e1).1
      rw [e2, show numV (Str.ofString "keep") = .non by decide +kernel] at np
      cases np
    · exact absurd ⟨_, _, rfl⟩ h1
  · have nn : numV (tn n) = .int n := num_at ⟨m0, m1⟩
    rcases h with ⟨a, b, e1, _⟩ | ⟨w2, a, e1, _, rfl⟩ | ⟨r, t, e1, e2, _⟩ | ⟨_, _, h1, _⟩
    · simp [IsPart] at e1
    · simp only [List.cons.injEq, and_true] at e1
      obtain ⟨rfl, rfl⟩ := e1
      rw [nn]
      exact ⟨.int n, .int n, hit.symm, fun e => .one n m0 m1 (hk4 e)⟩
    · refine absurd ?_ e2
      have := (List.cons.inj e1).2
      rw [← this]
      rfl
    · exact absurd ⟨_, _, rfl, hw⟩ h1
  · have eks : (f.ks.map tn).map numV = f.ks.map V.int := by
      rw [List.map_map]
      exact List.map_congr_left fun k hk => num_at (ok.bnd k hk)
    rcases h with ⟨a, b, e1, _⟩ | ⟨w, a, e1, _⟩ | ⟨r, t, e1, e2, rfl, h4⟩ | ⟨_, _, _, h1⟩
    · obtain ⟨k, r, hkr⟩ : ∃ k r, f.ks = k :: r := by
        cases z : f.ks with
        | nil => rw [z] at hk2; exact absurd hk2 (by decide)
        | cons k r => exact ⟨k, r, rfl⟩
      rw [hkr] at e1
      simp only [IsPart, List.map_cons, List.cons.injEq] at e1
      exact absurd e1.2.1 (tn_ok (ok.bnd k (by rw [hkr]; exact List.mem_cons_self))).2
    · have := congrArg List.length e1
      rw [List.length_cons, List.length_map] at this
      simp at this
      omega
    · have e3 := (List.cons.inj e1).2
      rw [← e3, eks] at h4
      exact ⟨.ref t, _, rfl, fun _ => .all t h4 ok.len ok.bnd⟩
    · exact absurd ⟨_, rfl⟩ h1
/-! ### nine things that may stand in a dict of figures -/
def DV (K : PySem.W.Frag) (H : Hp) (v : V) : Prop := ∃ d, Dp K H v d ∧ SeqAt.shaped d = true ∧ ∀ ds, d = .tuple ds → ds.length ≤ 1000
theorem lk_dv {K : PySem.W.Frag} {H : Hp} {nvs : List (Str × V)} {k : Str} {d : V} (h : ∀ p ∈ nvs, DV K H p.2) (hd : DV K H d) : DV K H ((nvs.lookup k).getD d) := by
  cases e : nvs.lookup k with
  | none => exact hd
  | some v =>
    obtain ⟨l1, l2, rfl, _⟩ := List.lookup_eq_some_iff.mp e
    exact h (k, v) (by simp)
theorem dv_int {K : PySem.W.Frag} {H : Hp} (i : Int) : DV K H (.int i) := ⟨.int i, .int i, by simp [SeqAt.shaped, PyData.canLay0, PyData.depth], fun _ e => nomatch e⟩
theorem dv_bl {K : PySem.W.Frag} {H : Hp} (b : Bool) : DV K H (.bl b) := ⟨.bool b, .bl b, by simp [SeqAt.shaped, PyData.canLay0, PyData.depth], fun _ e => nomatch e⟩
theorem dv_non {K : PySem.W.Frag} {H : Hp} : DV K H .non := ⟨.none, .non, by simp [SeqAt.shaped, PyData.canLay0, PyData.depth], fun _ e => nomatch e⟩
theorem numIn_inv {d : PyData} {lo hi : Int} (h : numIn d lo hi = true) : ∃ i, d = .int i ∧ lo ≤ i ∧ i ≤ hi := by
  cases d with
  | int i =>
    have h : (decide (lo ≤ i) && decide (i ≤ hi)) = true := h
    rw [Bool.and_eq_true, decide_eq_true_eq, decide_eq_true_eq] at h
    exact ⟨i, rfl, h⟩
  | _ => exact absurd (show false = true from h) (by decide)
theorem bool_inv {d : PyData} (h : isK "bool" d = true) : ∃ b, d = .bool b := by
  cases d with
  | bool b => exact ⟨b, rfl⟩
  | none => exact absurd (show isT "bool" "NoneType" = true from h) (by decide +kernel)
  | int i => exact absurd (show isT "bool" "int" = true from h) (by decide +kernel)
  | str i => exact absurd (show isT "bool" "str" = true from h) (by decide +kernel)
  | list i => exact absurd (show isT "bool" "list" = true from h) (by decide +kernel)
  | tuple i => exact absurd (show isT "bool" "tuple" = true from h) (by decide +kernel)
  | dict i => exact absurd (show isT "bool" "dict" = true from h) (by decide +kernel)
theorem dp_int_inv {K : PySem.W.Frag} {H : Hp} {x : V} {i : Int} (h : Dp K H x (.int i)) : x = .int i := by
  cases h
  rfl
theorem dp_bool_inv {K : PySem.W.Frag} {H : Hp} {x : V} {b : Bool} (h : Dp K H x (.bool b)) : x = .bl b := by
  cases h
  rfl
theorem dp_ints_inv {K : PySem.W.Frag} {H : Hp} : ∀ {xs : List V} {ds : List PyData}, DpAll K H xs ds → (∀ d ∈ ds, numIn d 0 100 = true) → ∃ ks : List Int, xs = ks.map V.int ∧ ds = ks.map PyData.int ∧ ∀ k ∈ ks, 0 ≤ k ∧ k ≤ 100
  | _, _, .nil, _ => ⟨[], rfl, rfl, fun k hk => nomatch hk⟩
  | _, _, .cons a b, h => by
    obtain ⟨i, e, h0, h1⟩ := numIn_inv (h _ List.mem_cons_self)
    subst e
    have e2 := dp_int_inv a
    subst e2
    obtain ⟨ks, rfl, rfl, hk⟩ := dp_ints_inv b fun d hd => h d (List.mem_cons_of_mem _ hd)
    refine ⟨i :: ks, rfl, rfl, fun k hk2 => ?_⟩
    rcases List.mem_cons.mp hk2 with rfl | hk2
    · exact ⟨h0, h1⟩
    · exact hk k hk2
theorem kept_inv {K : PySem.W.Frag} {H : Hp} {x : V} {d : PyData} {p : Int} (hp : 1 ≤ p) (h : keptOk d (.int p) = true) (hx : Dp K H x d) : ∃ ks : List Int, Keep K H p ks x d ∧ (ks.length : Int) = p ∧ ∀ k ∈ ks, 0 ≤ k ∧ k ≤ 100 := by
  cases hx with
  | tup a b =>
    rename_i t xs ds
    have h : (PyData.eqv (.int (ds.length : Int)) (.int p) && ds.all fun d => numIn d 0 100) = true := h
    rw [Bool.and_eq_true, List.all_eq_true] at h
    obtain ⟨ks, rfl, rfl, hk⟩ := dp_ints_inv b h.2
    have hl : (ks.length : Int) = p := by
      have := h.1
      rw [List.length_map] at this
      simpa [PyData.eqv] using this
    exact ⟨ks, .all t a hl hk, hl, hk⟩
  | int i =>
    obtain ⟨j, e, h0, h1⟩ := numIn_inv (show numIn (.int i) 0 100 = true from h)
    cases e
    refine ⟨List.replicate p.toNat i, .one i h0 h1 rfl, by rw [List.length_replicate]; omega, fun k hk => ?_⟩
    rw [List.eq_of_mem_replicate hk]
    exact ⟨h0, h1⟩
  | non => exact absurd (show false = true from h) (by decide)
  | bl b => exact absurd (show false = true from h) (by decide)
  | str z => exact absurd (show false = true from h) (by decide)
  | lst a b => exact absurd (show false = true from h) (by decide)
theorem right_or {K : PySem.W.Frag} {H : Hp} {nvs : List (Str × V)} (h : ∀ p ∈ nvs, DV K H p.2) : (∃ w, Nine K H (nineV nvs) w) ∨ ∃ f, RightV K H (nineV nvs) f := by
  have e9 : nineV nvs = [(nvs.lookup (Str.ofString "parts")).getD .non, (nvs.lookup (Str.ofString "step")).getD .non, (nvs.lookup (Str.ofString "grace")).getD (.int 0), (nvs.lookup (Str.ofString "last")).getD (.bl false), (nvs.lookup (Str.ofString "misses")).getD (.int 0), (nvs.lookup (Str.ofString "keep")).getD (.int 0), (nvs.lookup (Str.ofString "fine")).getD (.int 0), (nvs.lookup (Str.ofString "falls")).getD (.int 0), (nvs.lookup (Str.ofString "back")).getD (.int 0)] := rfl
  rw [e9]
  obtain ⟨d1, h1, s1, _⟩ := lk_dv (k := Str.ofString "parts") h dv_non
  obtain ⟨d2, h2, _, _⟩ := lk_dv (k := Str.ofString "step") h dv_non
  obtain ⟨d3, h3, _, _⟩ := lk_dv (k := Str.ofString "grace") h (dv_int 0)
  obtain ⟨d4, h4, _, _⟩ := lk_dv (k := Str.ofString "last") h (dv_bl false)
  obtain ⟨d5, h5, _, _⟩ := lk_dv (k := Str.ofString "misses") h (dv_int 0)
  obtain ⟨d6, h6, _, z6⟩ := lk_dv (k := Str.ofString "keep") h (dv_int 0)
  obtain ⟨d7, h7, _, _⟩ := lk_dv (k := Str.ofString "fine") h (dv_int 0)
  obtain ⟨d8, h8, _, _⟩ := lk_dv (k := Str.ofString "falls") h (dv_int 0)
  obtain ⟨d9, h9, _, _⟩ := lk_dv (k := Str.ofString "back") h (dv_int 0)
  cases e : (figChecks d1 d2 d3 d4 d5 d6 d7 d8 d9).find? (fun p => !p.2) with
  | some q => exact .inl ⟨q.1, _, _, _, _, _, _, _, _, _, d1, d2, d3, d4, d5, d6, d7, d8, d9, rfl, ⟨h1, h2, h3, h4, h5, h6, h7, h8, h9⟩, s1, z6, by unfold firstWrong; rw [e]⟩
  | none =>
    have al : ∀ q ∈ figChecks d1 d2 d3 d4 d5 d6 d7 d8 d9, q.2 = true := fun q hq => by
      have := List.find?_eq_none.mp e q hq
      cases z : q.2 with
      | true => rfl
      | false => rw [z] at this; exact absurd rfl this
    unfold figChecks at al
    simp only [List.mem_cons, List.not_mem_nil, or_false, forall_eq_or_imp, forall_eq] at al
    obtain ⟨c1, c2, c3, c4, c5, c6, c7, c8, c9⟩ := al
    obtain ⟨p, rfl, p0, p1⟩ := numIn_inv c1
    obtain ⟨s', rfl, s0, s1⟩ := numIn_inv c2
    obtain ⟨g, rfl, g0, g1⟩ := numIn_inv c3
    obtain ⟨l, rfl⟩ := bool_inv c4
    obtain ⟨m, rfl, m0, m1⟩ := numIn_inv c5
    obtain ⟨fi, rfl, fi0, fi1⟩ := numIn_inv c7
    obtain ⟨fa, rfl, fa0, fa1⟩ := numIn_inv c8
    obtain ⟨ba, rfl, ba0, ba1⟩ := numIn_inv c9
    obtain ⟨ks, hk, hl, hb⟩ := kept_inv p0 c6 h6
    refine .inr ⟨⟨p, s', g, l, m, ks, fi, fa, ba⟩, ⟨⟨p0, p1, s0, s1, g0, g1, m0, m1, fi0, fi1, fa0, fa1, ba0, ba1⟩, hl, hb⟩, _, d6, ?_, hk⟩
    rw [dp_int_inv h1, dp_int_inv h2, dp_int_inv h3, dp_bool_inv h4, dp_int_inv h5, dp_int_inv h7, dp_int_inv h8, dp_int_inv h9]
/-! ### a dict of names that takes more -/
theorem put_ex {P : V → Prop} {l : List (Str × V)} {k : Str} {v : V} (nd : (l.map (·.1)).Nodup) (hl : ∀ p ∈ l, P p.2) (hv : P v) :
    ∃ l' : List (Str × V), putK (l.map fun p => ((Sum.inr p.1 : Key), p.2)) (Sum.inr k) v = l'.map (fun p => ((Sum.inr p.1 : Key), p.2)) ∧ (l'.map (·.1)).Nodup ∧ (∀ n, n ∈ l'.map (·.1) ↔ n = k ∨ n ∈ l.map (·.1)) ∧ (∀ p ∈ l', P p.2) ∧ l'.length ≤ l.length + 1 := by
  by_cases h : k ∈ l.map (·.1)
  · refine ⟨l.map fun p => if p.1 = k then (k, v) else p, ?_, ?_, ?_, ?_, ?_⟩
    · unfold putK
      rw [if_pos]
      · rw [List.map_map, List.map_map]
        refine List.map_congr_left fun p _ => ?_
        simp only [Function.comp]
        by_cases c : p.1 = k
        · rw [if_pos c, if_pos (by rw [c]), c]
        · rw [if_neg c, if_neg (fun z => c (Sum.inr.inj z))]
      · obtain ⟨p, hp, e⟩ := List.mem_map.mp h
        refine List.any_eq_true.mpr ⟨(Sum.inr p.1, p.2), List.mem_map.mpr ⟨p, hp, rfl⟩, ?_⟩
        rw [e]
        simp
    · have e : (l.map fun p => if p.1 = k then (k, v) else p).map (·.1) = l.map (·.1) := by
        rw [List.map_map]
        refine List.map_congr_left fun p _ => ?_
        simp only [Function.comp]
        split
        · rename_i c
          exact c.symm
        · rfl
      rw [e]
      exact nd
    · intro n
      have e : (l.map fun p => if p.1 = k then (k, v) else p).map (·.1) = l.map (·.1) := by
        rw [List.map_map]
        refine List.map_congr_left fun p _ => ?_
        simp only [Function.comp]
        split
        · rename_i c
          exact c.symm
        · rfl
      rw [e]
      refine ⟨.inr, fun z => ?_⟩
      rcases z with rfl | z
      · exact h
      · exact z
    · intro p hp
      obtain ⟨q, hq, rfl⟩ := List.mem_map.mp hp
      split
      · exact hv
      · exact hl q hq
    · rw [List.length_map]
      omega
  · refine ⟨l ++ [(k, v)], ?_, ?_, ?_, ?_, by simp⟩
    · rw [put_new, List.map_append]
      · rfl
      · intro z
        rw [List.map_map] at z
        obtain ⟨p, hp, e⟩ := List.mem_map.mp z
        exact h (List.mem_map.mpr ⟨p, hp, Sum.inr.inj e⟩)
    · rw [List.map_append]
      refine List.nodup_append.mpr ⟨nd, by simp, fun a ha b hb e => h ?_⟩
      have : b = k := by simpa using hb
      rw [← this, ← e]
      exact ha
    · intro n
      rw [List.map_append, List.mem_append]
      simp only [List.map_cons, List.map_nil, List.mem_singleton]
      exact ⟨fun z => z.symm, fun z => z.symm⟩
    · intro p hp
      rcases List.mem_append.mp hp with z | z
      · exact hl p z
      · rw [List.mem_singleton.mp z]
        exact hv
theorem merge_ex {P : V → Prop} : ∀ {its l : List (Str × V)}, (l.map (·.1)).Nodup → (∀ p ∈ l, P p.2) → (∀ p ∈ its, P p.2) →
    ∃ l' : List (Str × V), mergeK (l.map fun p => ((Sum.inr p.1 : Key), p.2)) (its.map fun p => ((Sum.inr p.1 : Key), p.2)) = l'.map (fun p => ((Sum.inr p.1 : Key), p.2)) ∧ (l'.map (·.1)).Nodup ∧ (∀ n, n ∈ l'.map (·.1) ↔ n ∈ l.map (·.1) ∨ n ∈ its.map (·.1)) ∧ ∀ p ∈ l', P p.2
  | [], l, nd, hl, _ => ⟨l, rfl, nd, fun n => by simp, hl⟩
  | q :: r, l, nd, hl, hr => by
    obtain ⟨l1, e1, nd1, m1, h1, _⟩ := put_ex (k := q.1) (v := q.2) nd hl (hr q List.mem_cons_self)
    obtain ⟨l2, e2, nd2, m2, h2⟩ := merge_ex (its := r) nd1 h1 fun p hp => hr p (List.mem_cons_of_mem _ hp)
    refine ⟨l2, ?_, nd2, fun n => ?_, h2⟩
    · show mergeK (putK (l.map fun p => ((Sum.inr p.1 : Key), p.2)) (Sum.inr q.1) q.2) (r.map fun p => ((Sum.inr p.1 : Key), p.2)) = _
      rw [e1, e2]
    · rw [m2, m1, List.map_cons, List.mem_cons]
      constructor
      · rintro ((z | z) | z)
        · exact .inr (.inl z)
        · exact .inl z
        · exact .inr (.inr z)
      · rintro (z | z | z)
        · exact .inl (.inr z)
        · exact .inl (.inl z)
        · exact .inr z
/-! ### what a clause gives is data by the nine names -/
def numD (t : Str) : PyData := match numV t with
  | .int n => .int n
  | _ => .none
theorem numD_dp {K : PySem.W.Frag} {H : Hp} (t : Str) : Dp K H (numV t) (numD t) := by
  unfold numD
  rcases numV_cases t with e | ⟨n, e, _⟩
  · rw [e]
    exact .non
  · rw [e]
    exact .int n
theorem nums_dp {K : PySem.W.Frag} {H : Hp} : ∀ r : List Str, DpAll K H (r.map numV) (r.map numD)
  | [] => .nil
  | t :: r => .cons (numD_dp t) (nums_dp r)
theorem nums_lay : ∀ r : List Str, PyData.canLayAll0 (r.map numD) = true ∧ PyData.depthAll (r.map numD) ≤ 1
  | [] => by simp [PyData.canLayAll0, PyData.depthAll]
  | t :: r => by
    obtain ⟨a, b⟩ := nums_lay r
    have h : PyData.canLay0 (numD t) = true ∧ PyData.depth (numD t) ≤ 1 := by
      unfold numD
      split <;> simp [PyData.canLay0, PyData.depth]
    simp only [List.map_cons, PyData.canLayAll0, PyData.depthAll, h.1, a, Bool.and_self, true_and]
    omega
theorem dv_num {K : PySem.W.Frag} {H : Hp} (t : Str) : DV K H (numV t) := by
  rcases numV_cases t with e | ⟨n, e, _⟩
  · rw [e]
    exact dv_non
  · rw [e]
    exact dv_int n
theorem dv_nums {K : PySem.W.Frag} {H : Hp} {t : Addr} {r : List Str} (h : SqT K H t (r.map numV)) (hl : r.length ≤ 1000) : DV K H (.ref t) := by
  obtain ⟨a, b⟩ := nums_lay r
  refine ⟨.tuple (r.map numD), .tup h (nums_dp r), ?_, fun ds e => ?_⟩
  · show (PyData.canLay0 _ && decide (PyData.depth _ ≤ 64)) = true
    rw [Bool.and_eq_true]
    refine ⟨by simp only [PyData.canLay0]; exact a, decide_eq_true ?_⟩
    simp only [PyData.depth]
    omega
  · cases e
    rw [List.length_map]
    exact hl
theorem dv_keep {K : PySem.W.Frag} {H : Hp} {p : Int} {ks : List Int} {v : V} {d : PyData} (h : Keep K H p ks v d) (hl : ks.length ≤ 1000) : DV K H v := by
  cases h with
  | one k _ _ _ => exact dv_int k
  | all t h _ _ =>
    refine ⟨_, dpAll_intsT h, ?_, fun ds e => ?_⟩
    · have h1 := depth_ints ks
      show (PyData.canLay0 _ && decide (PyData.depth _ ≤ 64)) = true
      rw [Bool.and_eq_true]
      refine ⟨by simp only [PyData.canLay0]; exact lay_ints ks, decide_eq_true ?_⟩
      simp only [PyData.depth]
      omega
    · cases e
      rw [List.length_map]
      exact hl
abbrev nineN : List Str := ["parts", "step", "grace", "last", "misses", "keep", "fine", "falls", "back"]
theorem fig_names {K : PySem.W.Frag} {H : Hp} {c : Str} {its : List (Str × V)} (h : FigIt K H c its) (hc : c.length ≤ 500) : (∀ k ∈ its.map (·.1), k ∈ nineN) ∧ (Str.ofString "parts" ∈ its.map (·.1) → Str.ofString "step" ∈ its.map (·.1)) ∧ ∀ p ∈ its, DV K H p.2 := by
  rcases h with ⟨_, rfl⟩ | ⟨_, ⟨a, b, _, rfl⟩ | ⟨w, a, _, hw, rfl⟩ | ⟨r, t, hr, _, rfl, ht⟩ | ⟨rfl, _⟩⟩
  · refine ⟨fun k hk => ?_, fun z => ?_, fun p hp => ?_⟩
    · rw [List.mem_singleton.mp hk]
      decide +kernel
    · exact absurd (List.mem_singleton.mp z) (by decide +kernel)
    · rw [List.mem_singleton.mp hp]
      exact dv_bl true
  · refine ⟨fun k hk => ?_, fun z => by simp, fun p hp => ?_⟩
    · simp only [List.map_cons, List.map_nil, List.mem_cons, List.not_mem_nil, or_false] at hk
      rcases hk with rfl | rfl <;> decide +kernel
    · simp only [List.mem_cons, List.not_mem_nil, or_false] at hp
      rcases hp with rfl | rfl <;> exact dv_num _
  · refine ⟨fun k hk => ?_, fun z => ?_, fun p hp => ?_⟩
    · rw [List.mem_singleton.mp hk]
      have : ∀ w ∈ six, w ∈ nineN := by decide +kernel
      exact this w hw
    · have e : Str.ofString "parts" = w := List.mem_singleton.mp z
      rw [← e] at hw
      exact absurd hw (by decide +kernel)
    · rw [List.mem_singleton.mp hp]
      exact dv_num a
  · refine ⟨fun k hk => ?_, fun z => ?_, fun p hp => ?_⟩
    · rw [List.mem_singleton.mp hk]
      show Str.ofString "keep" ∈ nineN
      decide +kernel
    · exact absurd (show Str.ofString "parts" = Str.ofString "keep" from List.mem_singleton.mp z) (by decide +kernel)
    · rw [List.mem_singleton.mp hp]
      refine dv_nums ht ?_
      have h1 : (pcsOf c).length ≤ c.length + 2 := PyProof.Rows.split_le c " "
      rw [hr, List.length_cons] at h1
      omega
  · exact ⟨fun k hk => (nomatch hk), fun z => (nomatch z), fun p hp => (nomatch hp)⟩
theorem sql_dict {K : PySem.W.Frag} {H : Hp} {D a : Addr} {o : List (Key × V)} {o' : HO} {xs : List V} (hD : H D = some (.dK o)) (h : SqL K H a xs) : SqL K (upd H D o') a xs := by
  rcases h with (h | ⟨z, h⟩) | h
  · exact .inl (.inl (by rw [upd_ne (fun e => by rw [e, hD] at h; cases h)]; exact h))
  · exact .inl (.inr ⟨z, by rw [upd_ne (fun e => by rw [e, hD] at h; cases h)]; exact h⟩)
  · exact .inr h
theorem sqt_dict {K : PySem.W.Frag} {H : Hp} {D a : Addr} {o : List (Key × V)} {o' : HO} {xs : List V} (hD : H D = some (.dK o)) (h : SqT K H a xs) : SqT K (upd H D o') a xs := by
  rcases h with (h | ⟨z, h⟩) | h
  · exact .inl (.inl (by rw [upd_ne (fun e => by rw [e, hD] at h; cases h)]; exact h))
  · exact .inl (.inr ⟨z, by rw [upd_ne (fun e => by rw [e, hD] at h; cases h)]; exact h⟩)
  · exact .inr h
mutual
theorem dp_dict {K : PySem.W.Frag} {H : Hp} {D : Addr} {o : List (Key × V)} {o' : HO} (hD : H D = some (.dK o)) : ∀ {x : V} {d : PyData}, Dp K H x d → Dp K (upd H D o') x d
  | _, _, .non => .non
  | _, _, .bl b => .bl b
  | _, _, .int i => .int i
  | _, _, .str z => .str z
  | _, _, .lst a b => .lst (sql_dict hD a) (dpAll_dict hD b)
  | _, _, .tup a b => .tup (sqt_dict hD a) (dpAll_dict hD b)
theorem dpAll_dict {K : PySem.W.Frag} {H : Hp} {D : Addr} {o : List (Key × V)} {o' : HO} (hD : H D = some (.dK o)) : ∀ {xs : List V} {ds : List PyData}, DpAll K H xs ds → DpAll K (upd H D o') xs ds
  | _, _, .nil => .nil
  | _, _, .cons a b => .cons (dp_dict hD a) (dpAll_dict hD b)
end
/-! ### one clause more -/
theorem idx_cut {f : Fg} {j : Nat} (h : j < 8) : idx (cutF f (j + 1)) = (List.range (j + 1)).filter (neC f) := by
  rw [← filter_lt (show j + 1 ≤ 8 by omega)]
  refine List.filter_congr fun i hi => ?_
  unfold neC
  rw [cut_clause f j (List.mem_range.mp hi)]
  by_cases c : i < j + 1
  · rw [if_pos c, decide_eq_true c, Bool.true_and]
  · rw [if_neg c, decide_eq_false c, Bool.false_and]
    exact decide_eq_false (by simp)
theorem item_cut {f : Fg} {kv : V} {j : Nat} : ∀ {i : Nat}, i < j + 1 → i < 8 → itemJ (cutF f (j + 1)) kv i = itemJ f kv i
  | 0, _, _ => rfl
  | 1, h, _ => by show [(_, V.int (if 1 < j + 1 then f.g else 0))] = _; rw [if_pos h]; rfl
  | 2, _, _ => rfl
  | 3, h, _ => by show [(_, V.int (if 3 < j + 1 then f.m else 0))] = _; rw [if_pos h]; rfl
  | 4, _, _ => rfl
  | 5, h, _ => by show [(_, V.int (if 5 < j + 1 then f.fi else 0))] = _; rw [if_pos h]; rfl
  | 6, h, _ => by show [(_, V.int (if 6 < j + 1 then f.fa else 0))] = _; rw [if_pos h]; rfl
  | 7, h, _ => by show [(_, V.int (if 7 < j + 1 then f.ba else 0))] = _; rw [if_pos h]; rfl
  | n + 8, _, h => absurd h (by omega)
theorem dict_all {f : Fg} (ok : f.Ok) (kv : V) : (idx f).flatMap (itemJ f kv) = dictJ f kv 8 := dict_idx ok kv (j := 7) (by omega)
theorem cut_8 {f : Fg} (ok : f.Ok) : cutF f 8 = f := cut_end ok (j := 7) fun i a b => by omega
/-- the dict and what stands beside it behind t good clauses -/
def CI (K : PySem.W.Frag) (CR : Addr) (cs : List Str) (t : Nat) (G : Hp) (L0 : List (Str × V)) (s3 : Option V) : Prop := (t = 0 ∧ L0 = []) ∨ ∃ f kv kd r, 1 ≤ t ∧ Fg.Ok f ∧ clsT f = cs.take t ∧ L0 = dictJ f kv 8 ∧ (4 ∈ idx f → Keep K G f.p f.ks kv kd) ∧ s3 = some (V.ref r) ∧ RuleAt K G CR r f
theorem step_good {K : PySem.W.Frag} {CR : Addr} {cs : List Str} {t : Nat} {G G2 : Hp} {L0 its : List (Str × V)} {s3 : Option V} {c : Str} {f2 : Fg} (h : CI K CR cs t G L0 s3) (s : Same G G2) (hc : cs[t]? = some c) (ok2 : f2.Ok) (h2 : clsT f2 = cs.take (t + 1)) (hF : FigIt K G2 c its) :
    ∃ kv kd, L0 ++ its = dictJ f2 kv 8 ∧ (4 ∈ idx f2 → Keep K G2 f2.p f2.ks kv kd) := by
  have ht : t < cs.length := (List.getElem?_eq_some_iff.mp hc).1
  have il : (idx f2).length = t + 1 := by
    have : (clsT f2).length = t + 1 := by rw [h2, List.length_take]; omega
    rw [cls_idx, List.length_map] at this
    exact this
  obtain ⟨j, hj⟩ : ∃ j, (idx f2)[t]? = some j := ⟨_, List.getElem?_eq_getElem (by omega)⟩
  have hjm := List.mem_of_getElem? hj
  obtain ⟨j8, hn⟩ := idx_lt hjm
  have ec : clause f2 j = c := by
    have e1 : (clsT f2)[t]? = some c := by rw [h2, List.getElem?_take, if_pos (by omega)]; exact hc
    rw [cls_idx, List.getElem?_map, hj] at e1
    exact Option.some.inj e1
  rw [← ec] at hF
  obtain ⟨kv2, kd2, e2, hk2⟩ := fig_item ok2 j8 hn hF
  have etake : idx f2 = (idx f2).take t ++ [j] := by
    have : (idx f2).take (t + 1) = (idx f2).take t ++ [j] := by rw [List.take_succ, hj]; rfl
    rw [← this, List.take_of_length_le (by omega)]
  obtain ⟨kv, kd, e0, hk0⟩ : ∃ kv kd, L0 = ((idx f2).take t).flatMap (itemJ f2 kv) ∧ (4 ∈ (idx f2).take t → Keep K G2 f2.p f2.ks kv kd) := by
    rcases h with ⟨rfl, rfl⟩ | ⟨f, kv, kd, r, t1, ok, hcl, rfl, hk, _, _⟩
    · exact ⟨.non, .none, rfl, fun z => by simp at z⟩
    · obtain ⟨jp, hjp⟩ : ∃ jp, (idx f2)[t - 1]? = some jp := ⟨_, List.getElem?_eq_getElem (by omega)⟩
      obtain ⟨jp8, _⟩ := idx_lt (List.mem_of_getElem? hjp)
      have ef : f = cutF f2 (jp + 1) := by
        refine cls_inj ok (cut_ok ok2 _) ?_
        rw [cut_of hjp, h2, hcl, List.take_take]
        congr 1
        omega
      have ei : idx f = (idx f2).take t := by
        rw [ef, idx_cut jp8, ← take_next hjp]
        congr 1
        omega
      refine ⟨kv, kd, ?_, fun h4 => ?_⟩
      · rw [← dict_all ok, ei, List.flatMap_def, List.flatMap_def]
        congr 1
        refine List.map_congr_left fun i hi => ?_
        have e3 : (idx f2).take (t - 1 + 1) = (List.range (jp + 1)).filter (neC f2) := take_next hjp
        rw [show t - 1 + 1 = t by omega] at e3
        rw [e3] at hi
        have hi2 := List.mem_range.mp (List.mem_filter.mp hi).1
        rw [ef]
        exact item_cut hi2 (by omega)
      · have h5 := hk (by rw [ei]; exact h4)
        have e3 : (idx f2).take (t - 1 + 1) = (List.range (jp + 1)).filter (neC f2) := take_next hjp
        rw [show t - 1 + 1 = t by omega] at e3
        rw [e3] at h4
        have h6 := List.mem_range.mp (List.mem_filter.mp h4).1
        have e4 : f.ks = f2.ks := by rw [ef]; exact if_pos h6
        have e5 : f.p = f2.p := by rw [ef]; rfl
        rw [← e4, ← e5]
        exact h5.same s
  by_cases c4 : j = 4
  · refine ⟨kv2, kd2, ?_, fun _ => hk2 c4⟩
    rw [← dict_all ok2, etake, List.flatMap_append, e0, e2]
    congr 1
    · rw [List.flatMap_def, List.flatMap_def]
      congr 1
      refine List.map_congr_left fun i hi => item_ne fun e => ?_
      obtain ⟨e6, _⟩ := take_filter hj
      have e7 : (idx f2).take t = (List.range j).filter (neC f2) := e6
      rw [e7] at hi
      have := List.mem_range.mp (List.mem_filter.mp hi).1
      omega
    · show _ = itemJ f2 kv2 j ++ []
      rw [List.append_nil]
  · refine ⟨kv, kd, ?_, fun h4 => hk0 ?_⟩
    · rw [← dict_all ok2, etake, List.flatMap_append, e0, e2]
      congr 1
      show _ = itemJ f2 kv j ++ []
      rw [List.append_nil]
      exact item_ne c4
    · rw [etake] at h4
      rcases List.mem_append.mp h4 with z | z
      · exact z
      · exact absurd (List.mem_singleton.mp z).symm c4
theorem ci_vals {K : PySem.W.Frag} {CR : Addr} {cs : List Str} {t : Nat} {G : Hp} {L0 : List (Str × V)} {s3 : Option V} (h : CI K CR cs t G L0 s3) : (L0.map (·.1)).Nodup ∧ (∀ k ∈ L0.map (·.1), k ∈ nineN) ∧ (Str.ofString "parts" ∈ L0.map (·.1) → Str.ofString "step" ∈ L0.map (·.1)) ∧ (∀ p ∈ L0, DV K G p.2) ∧ L0.length ≤ 9 := by
  rcases h with ⟨_, rfl⟩ | ⟨f, kv, kd, r, _, ok, _, rfl, hk, _, _⟩
  · exact ⟨List.nodup_nil, fun k hk => (nomatch hk), fun z => (nomatch z), fun p hp => (nomatch hp), by decide⟩
  · have hs := dict_sub f kv 8
    refine ⟨hs.nodup unlike9, fun k hk => hs.subset hk, fun _ => ?_, fun p hp => ?_, ?_⟩
    · unfold dictJ
      rw [List.map_cons, List.map_cons]
      exact List.mem_cons_of_mem _ List.mem_cons_self
    · rw [← dict_all ok] at hp
      obtain ⟨i, hi, hp⟩ := List.mem_flatMap.mp hp
      have h1000 : f.ks.length ≤ 1000 := by
        have a : (f.ks.length : Int) = f.p := ok.len
        have := ok.figs.p1
        omega
      have sing : ∀ {n : Str} {v : V}, DV K G v → p ∈ [(n, v)] → DV K G p.2 := fun {n v} hv hp => by
        rw [List.mem_singleton.mp hp]
        exact hv
      have i8 := (idx_lt hi).1
      match i, i8, hi, hp with
      | 0, _, _, hp =>
        simp only [itemJ, List.mem_cons, List.not_mem_nil, or_false] at hp
        rcases hp with rfl | rfl <;> exact dv_int _
      | 1, _, _, hp => exact sing (dv_int _) hp
      | 2, _, _, hp => exact sing (dv_bl _) hp
      | 3, _, _, hp => exact sing (dv_int _) hp
      | 4, _, hi, hp => exact sing (dv_keep (hk hi) h1000) hp
      | 5, _, _, hp => exact sing (dv_int _) hp
      | 6, _, _, hp => exact sing (dv_int _) hp
      | 7, _, _, hp => exact sing (dv_int _) hp
      | n + 8, h, _, _ => omega
    · have h9 := hs.length_le
      rw [List.length_map] at h9
      exact h9
/-! ### read_rule -/
abbrev s_read_rule : Stmt := topS 31
abbrev N_read_rule : List Str := ["text", "clauses", "figures", "rule", "place", "clause"]
theorem sc_read_rule : FnScope N_read_rule ["text"] (defScope s_read_rule) := ⟨rfl, rfl, rfl, by decide +kernel, rfl, by decide +kernel, by decide +kernel⟩
def sp_read_rule (K : PySem.W.Frag) (C2 : CB2) (CR : Addr) : Sp := fun vs H Q E => ∃ (t : Str), vs = [.str t] ∧ Asc t ∧ t.length ≤ 500 ∧ (∀ f, f.Ok → clsT f = Txt.split t ", " → ∀ H' r, Same H H' → RuleAt K H' CR r f → Q (.ref r) H') ∧
  ∀ k : Nat, BadAt (Txt.split t ", ") k → ∀ H' d, Same H H' → H d = none → H' d = some (.xd [("place", .int (k : Int))]) → E (.ref C2.c) (some d) H'
theorem ok_read_rule {f : Addr} {fd : FuncData} (F : Fun K "read_rule" "read_rule" s_read_rule f fd) (g : mg "read_rule" = some (.ref f)) (bd : Binds K fd ["text"] []) {C2 : CB2} (TB : TB2 K mg C2) (XR : CEv P w K mg base C2.b 1 "BadRule" "word") (XC : CEv P w K mg base C2.c 1 "BadClause" "place") {CR : Addr} (TQ : TEq K mg CR "Rule") (T_Rule : TRule K mg CR) (m_enumerate : mg "enumerate" = none) (C_figures_in : CF P w K mg base 3 "figures_in" ["clause"] (sp_figures_in K)) (C_rule_of : CF P w K mg base 6 "rule_of" ["figures"] (sp_rule_of K C2 CR)) (C_rule_text : CF P w K mg base 7 "rule_text" ["rule"] (sp_rule_text K CR)) : CFx P w K mg base 8 "read_rule" ["text"] (sp_read_rule K C2 CR) := by
  refine ⟨f, fd, F.okX sc_read_rule (fun vs H Q E h => ?_) (fun cdv A outer s H vs Q E hr h => ?_), g, F.kp, bd⟩
  · first | (obtain ⟨_, rfl, _⟩ := h; rfl) | (obtain ⟨_, _, rfl, _⟩ := h; rfl) | (obtain ⟨_, _, _, rfl, _⟩ := h; rfl) | (obtain ⟨_, _, _, _, rfl, _⟩ := h; rfl) | (obtain ⟨_, _, _, _, _, rfl, _⟩ := h; rfl) | (obtain ⟨_, _, _, _, _, _, rfl, _⟩ := h; rfl) | (obtain ⟨_, _, _, _, _, _, _, rfl, _⟩ := h; rfl) | (obtain ⟨_, _, _, _, _, _, _, _, rfl, _⟩ := h; rfl) | (obtain ⟨_, _, _, _, _, _, _, _, _, rfl, _⟩ := h; rfl) | (obtain ⟨_, _, _, _, _, _, _, _, _, _, rfl, _⟩ := h; rfl) | (obtain ⟨_, _, _, _, _, _, _, _, _, _, _, rfl, _⟩ := h; rfl) | (obtain ⟨_, _, _, _, _, _, _, _, _, _, _, _, rfl, _⟩ := h; rfl) | (obtain ⟨_, _, _, _, _, _, _, _, _, _, _, _, _, rfl, _⟩ := h; rfl) | (obtain ⟨_, _, _, _, _, _, _, _, _, _, _, _, _, _, rfl, _⟩ := h; rfl) | (obtain ⟨_, _, _, _, _, _, _, _, _, _, _, _, _, _, _, rfl, _⟩ := h; rfl)
  · have hu64 := hr.units
    obtain ⟨t, rfl, hA, hz, qG, qB⟩ := h
    refine ⟨_, (pss_cons (ps_set (i := 1) sc_read_rule.nd rfl (.inl rfl) (pe_split (pv 0) pe_str))
      (pss_cons (ps_set (i := 2) sc_read_rule.nd rfl (.inl rfl) pe_dnewK)
      (pss_cons (ps_set (i := 3) sc_read_rule.nd rfl (.inl rfl) pe_non)
      (pss_cons (ps_for (passes_of rfl) rfl (pi_enum (by rfl) m_enumerate (pa_cons (pv 1) pa_nil)) (pg_tup (by rfl) (pgs_cons (pg_name (i := 4) sc_read_rule.nd rfl (.inl rfl)) (pgs_cons (pg_name (i := 5) sc_read_rule.nd rfl (.inl rfl)) pgs_nil)))
         (pss_cons (ps_expr (pe_bm PySem.F.plainAttrs_dict PySem.F.slot_dict_update PySem.F.type_dict_update mt_update (pv 2) (pa_cons (pe_cf C_figures_in (hr.mono (by decide)) (by rfl) (pa_cons (pv 5) pa_nil)) pa_nil)))
          (pss_cons (ps_set (i := 3) sc_read_rule.nd rfl (.inl rfl) (pe_cf C_rule_of (hr.mono (by decide)) (by rfl) (pa_cons (pv 2) pa_nil)))
          (pss_one (ps_if (PW.pt (pw_or (pt_cmpR op_isN (pv 3) pe_non (nomark _)) (pw_or1 (pt_cmpR op_ne (pe_cf C_rule_text (hr.mono (by decide)) (by rfl) (pa_cons (pv 3) pa_nil)) (pe_join pe_str (pe_slice (kk_sll K) (pv 1) po_none (po_some (pe_op op_add (pv 4) pe_int)))) (nomark _)))))
             (pss_one (ps_raise rfl (takes_of rfl rfl rfl rfl) (pmk_cex XC.cex (hr.mono (by decide)) (by rfl) (pa_cons (pv 4) pa_nil))))
             pss_nil)))))
      (pss_one (ps_ret (pv 3))))))), ?_⟩
    have hp : ∀ c ∈ Txt.split t ", ", Asc c ∧ c.length ≤ 500 := fun c h => ⟨piece_asc hA h, Nat.le_trans (piece_of h).2 hz⟩
    have hw : ((Txt.split t ", ").map (·.length)).sum + (Txt.split t ", ").length ≤ t.length + 1 := PyProof.Rows.split_weight t ", " (by decide +kernel)
    have hpos : 1 ≤ (Txt.split t ", ").length := PyProof.Rows.split_pos t ", "
    refine ⟨_, rfl, ⟨_, rfl⟩, _, _, rfl, rfl, by decide +kernel, by rw [sizeLine_eq]; omega, fun L1 n1 => ?_⟩
    have e0 : Txt.split t (Str.ofString ", ") = Txt.split t ", " := rfl
    rw [e0]
    have hjoin : ∀ {f : Fg} {k : Nat}, f.Ok → 1 ≤ k → txtT f = Txt.join (Str.ofString ", ") ((Txt.split t ", ").take k) → clsT f = (Txt.split t ", ").take k := fun ok hk h => cls_of_join ok hk h
    generalize hcs : Txt.split t ", " = cs at *
    have s1 := same_new (o := .lst (cs.map V.str)) n1
    have x1 := upd_same (H := H) (a := L1) (o := .lst (cs.map V.str))
    generalize upd H L1 (.lst (cs.map V.str)) = H1 at *
    intro D nD
    have hS1 : SqL K H1 L1 (cs.map V.str) := SqL.of x1
    have nDH : H D = none := s1.free nD
    have sD := same_new (o := .dK []) nD
    refine ⟨_, rfl, L1, _, rfl, sD.seq hS1, for_enum (K := K) (a := L1) (xs := cs.map V.str) (fun k σ G => ∃ (L0 : List (Str × V)) (s3 s4 s5 : Option V), σ = [some (.str t), some (.ref L1), some (.ref D), s3, s4, s5] ∧ Same H1 G ∧ G D = some (.dK (L0.map fun p => (Sum.inr p.1, p.2))) ∧ CI K CR cs k G L0 s3)
      ⟨[], _, _, _, rfl, sD, upd_same, .inl ⟨rfl, rfl⟩⟩ (fun k σ G _ h => by obtain ⟨_, _, _, _, _, h, _⟩ := h; exact h.seq hS1) (fun k x σ G T hx h nT => ?_) (fun σ G h => ?_)⟩
    case refine_2 =>
      obtain ⟨L0, s3, s4, s5, rfl, sG, hD, hC⟩ := h
      rw [List.length_map] at hC
      rcases hC with ⟨z, _⟩ | ⟨f', kv, kd, r, _, ok, hcl, _, _, rfl, hR⟩
      · omega
      · exact ⟨_, rfl, qG f' ok (by rw [hcl, List.take_length]) G r (s1.trans sG) hR⟩
    obtain ⟨L0, s3, s4, s5, rfl, sG, hD, hC⟩ := h
    rw [List.getElem?_map] at hx
    obtain ⟨c, hc, rfl⟩ := Option.map_eq_some_iff.mp hx
    have hcm := List.mem_of_getElem? hc
    have hk : k < cs.length := (List.getElem?_eq_some_iff.mp hc).1
    have sT := same_new (o := .tup [.int (k : Nat), .str c]) nT
    have hDT := sT _ _ hD
    refine ⟨T, _, rfl, SqT.of upd_same, rfl, _, _, rfl, _, _, rfl, rfl, ?_⟩
    generalize upd G T (.tup [.int (k : Nat), .str c]) = G1 at *
    refine ⟨_, rfl, .inr (.inr (.inl ⟨rfl, .inl ⟨_, hDT⟩⟩)), _, rfl, c, rfl, (hp c hcm).1, (hp c hcm).2, fun G2 D2 its s2 nD2 hD2 hF => ?_⟩
    have sGG := sT.trans s2
    have hDG := s2 _ _ hDT
    obtain ⟨v1, v2, v3, v4, v5⟩ := ci_vals hC
    obtain ⟨f1, f2, f3⟩ := fig_names hF (hp c hcm).2
    have lits : its.length ≤ 2 := by
      rcases hF with ⟨_, rfl⟩ | ⟨_, ⟨a, b, _, rfl⟩ | ⟨w, a, _, _, rfl⟩ | ⟨r, t, _, _, rfl, _⟩ | ⟨rfl, _⟩⟩ <;> simp
    have v4' : ∀ p ∈ L0, DV K G2 p.2 := fun p hp => by
      obtain ⟨d, h1, h2, h3⟩ := v4 p hp
      exact ⟨d, dp_same sGG h1, h2, h3⟩
    have dvD : ∀ {v : V} {o : List (Key × V)}, DV K G2 v → DV K (upd G2 D (.dK o)) v := fun {v o} h => by
      obtain ⟨d, h1, h2, h3⟩ := h
      exact ⟨d, dp_dict hDG h1, h2, h3⟩
    refine ⟨D, D2, _, _, rfl, rfl, ne_of_none hDT nD2, hDG, hD2, ?_, ?_⟩
    · rw [List.length_map, List.length_map, sizeLine_eq]
      omega
    have notD : ∀ G3 : Hp, (∀ a o, a ≠ D → G2 a = some o → G3 a = some o) → Same H1 G3 := fun G3 h a o e => h a o (ne_of_none e nD) ((sG.trans sGG) _ _ e)
    have hbad : ¬ Good (cs.take (k + 1)) → BadAt cs k := fun h => ⟨hk, by
      rcases hC with ⟨z, _⟩ | ⟨f', _, _, _, _, ok, hcl, _⟩
      · exact .inl z
      · exact .inr ⟨f', ok, hcl⟩, h⟩
    have hsum : ((cs.take (k + 1)).map fun x => x.length).sum + (cs.take (k + 1)).length * (Str.ofString ", ").length ≤ 16777216 := by
      have h1 : ((cs.take (k + 1)).map fun x => x.length).sum ≤ (cs.map fun x => x.length).sum := by
        conv => rhs; rw [← List.take_append_drop (k + 1) cs]
        rw [List.map_append, List.sum_append]
        omega
      have h2 : (cs.take (k + 1)).length ≤ cs.length := by
        rw [List.length_take]
        omega
      have e2 : (Str.ofString ", ").length = 2 := rfl
      rw [e2]
      omega
    by_cases gd : Good (cs.take (k + 1))
    · obtain ⟨f2, ok2, hcl2⟩ := gd
      obtain ⟨kv, kd, eM, hkeep⟩ := step_good hC sGG hc ok2 hcl2 hF
      have eL : (L0.map fun p => ((Sum.inr p.1 : Key), p.2)) ++ (its.map fun p => ((Sum.inr p.1 : Key), p.2)) = (dictJ f2 kv 8).map fun p => ((Sum.inr p.1 : Key), p.2) := by
        rw [← List.map_append, eM]
      have hs9 := dict_sub f2 kv 8
      have hnd : (((dictJ f2 kv 8).map fun p => ((Sum.inr p.1 : Key), p.2)).map (·.1)).Nodup := by
        rw [List.map_map]
        have h10 : ((dictJ f2 kv 8).map (·.1)).Nodup := hs9.nodup unlike9
        have h11 : ((dictJ f2 kv 8).map ((·.1) ∘ fun p => ((Sum.inr p.1 : Key), p.2))) = ((dictJ f2 kv 8).map (·.1)).map (fun n => (Sum.inr n : Key)) := by
          rw [List.map_map]
          rfl
        rw [h11]
        exact List.Pairwise.map _ (fun a b h e => h (Sum.inr.inj e)) h10
      rw [merge_new (by rw [eL]; exact hnd), eL]
      have hkG : 4 ∈ idx f2 → Keep K (upd G2 D (.dK ((dictJ f2 kv 8).map fun p => ((Sum.inr p.1 : Key), p.2)))) f2.p f2.ks kv kd := fun h => (hkeep h).dict hDG
      have s3' : Same H1 (upd G2 D (.dK ((dictJ f2 kv 8).map fun p => ((Sum.inr p.1 : Key), p.2)))) := notD _ fun a o ne e => by
        rw [upd_ne ne]
        exact e
      have x3 := upd_same (H := G2) (a := D) (o := .dK ((dictJ f2 kv 8).map fun p => ((Sum.inr p.1 : Key), p.2)))
      generalize upd G2 D (.dK ((dictJ f2 kv 8).map fun p => ((Sum.inr p.1 : Key), p.2))) = G3 at *
      have hparts : Str.ofString "parts" ∈ (dictJ f2 kv 8).map (·.1) := by
        unfold dictJ
        rw [List.map_cons]
        exact List.mem_cons_self
      refine ⟨_, rfl, D, _, rfl, x3, ⟨hs9.nodup unlike9, fun k hk => hs9.subset hk, fun _ => ?_⟩, .inr ⟨hparts, .inr ⟨f2, ⟨ok2, keepV f2 kv 8, ?_⟩, fun G4 r s4 hR => ⟨_, rfl, rfl, _, rfl, ?_⟩⟩⟩⟩
      · unfold dictJ
        rw [List.map_cons, List.map_cons]
        exact List.mem_cons_of_mem _ List.mem_cons_self
      · have ev : nineV (dictJ f2 kv 8) = [.int f2.p, .int f2.s, .int f2.g, .bl f2.l, .int f2.m, keepV f2 kv 8, .int f2.fi, .int f2.fa, .int f2.ba] := by
          have := vs_dict f2 kv 8
          rw [cut_8 ok2] at this
          exact this
        rw [ev]
        unfold keepV
        cases c2 : f2.ks.any (fun k => decide (0 < k)) with
        | true =>
          refine ⟨kd, rfl, ?_⟩
          rw [decide_eq_true (show 4 < 8 by decide), Bool.true_and, if_pos rfl]
          exact hkG (List.mem_filter.mpr ⟨by simp, by rw [ne_4 ok2]; exact c2⟩)
        | false =>
          refine ⟨.int 0, rfl, ?_⟩
          rw [Bool.and_false, if_neg (by decide)]
          refine .one 0 (by decide) (by decide) (List.eq_replicate_iff.mpr ⟨?_, fun k hk2 => ?_⟩)
          · have a : (f2.ks.length : Int) = f2.p := ok2.len
            omega
          · have h1 := List.any_eq_false.mp c2 k hk2
            have h2 := (ok2.bnd k hk2).1
            simp only [decide_eq_true_eq] at h1
            omega
      refine iteF ⟨_, rfl, r, f2, rfl, hR, ok2, fun G5 s5 => ?_⟩
      have s15 : Same H1 G5 := (s3'.trans s4).trans s5
      refine ⟨⟨_, rfl⟩, _, rfl, _, rfl, _, _, rfl, rfl, _, rfl, L1, _, rfl, s15.seq hS1, fun l nl => ?_⟩
      rw [cut_take, ← List.map_take]
      refine ⟨_, _, _, rfl, rfl, .inl (SqL.of upd_same), ?_, ?_⟩
      · exact hsum
      have et : txtT f2 = Txt.join (Str.ofString ", ") (cs.take (k + 1)) := by
        show Txt.join (Str.ofString ", ") (clsT f2) = _
        rw [hcl2]
      rw [et]
      have sl := same_new (o := .lst ((cs.take (k + 1)).map V.str)) nl
      refine ⟨rfl, _, rfl, ?_⟩
      rw [decide_eq_true rfl]
      exact iteF ⟨dictJ f2 kv 8, _, _, _, rfl, s15.trans sl, sl _ _ (s5 _ _ (s4 _ _ x3)), .inr ⟨f2, kv, kd, r, by omega, ok2, hcl2, rfl, fun h => (((hkG h).same s4).same s5).same sl, rfl, (hR.same s5).same sl⟩⟩
    · obtain ⟨nvs, eM, nd', hnm, hdv⟩ := merge_ex (P := DV K G2) (its := its) (l := L0) v1 v4' f3
      rw [eM]
      have s3' : Same H1 (upd G2 D (.dK (nvs.map fun p => ((Sum.inr p.1 : Key), p.2)))) := notD _ fun a o ne e => by
        rw [upd_ne ne]
        exact e
      have hdv3 : ∀ p ∈ nvs, DV K (upd G2 D (.dK (nvs.map fun p => ((Sum.inr p.1 : Key), p.2)))) p.2 := fun p hp => dvD (hdv p hp)
      have x3 := upd_same (H := G2) (a := D) (o := .dK (nvs.map fun p => ((Sum.inr p.1 : Key), p.2)))
      generalize upd G2 D (.dK (nvs.map fun p => ((Sum.inr p.1 : Key), p.2))) = G3 at *
      have hN : Nvs K G3 nvs := ⟨nd', fun n hn => by
        rcases (hnm n).mp hn with z | z
        · exact v2 n z
        · exact f1 n z, fun z => by
        refine (hnm _).mpr ?_
        rcases (hnm _).mp z with z | z
        · exact .inl (v3 z)
        · exact .inr (f2 z)⟩
      refine ⟨_, rfl, D, nvs, rfl, x3, hN, ?_⟩
      have alt : (Str.ofString "parts" ∉ nvs.map (·.1) ∨ Str.ofString "parts" ∈ nvs.map (·.1) ∧ ∃ w, Nine K G3 (nineV nvs) w) ∨ (Str.ofString "parts" ∈ nvs.map (·.1) ∧ ∃ f, RightV K G3 (nineV nvs) f) := by
        by_cases hpn : Str.ofString "parts" ∈ nvs.map (·.1)
        · rcases right_or hdv3 with z | z
          · exact .inl (.inr ⟨hpn, z⟩)
          · exact .inr ⟨hpn, z⟩
        · exact .inl (.inl hpn)
      rcases alt with alt | ⟨hpn, f3', hR3⟩
      · refine (fun cont => alt.elim (fun z => .inl ⟨z, cont⟩) (fun z => .inr ⟨z.1, .inl ⟨z.2, cont⟩⟩)) ?_
        intro G4 s4
        have s14 : Same H G4 := (s1.trans s3').trans s4
        refine ⟨_, rfl, rfl, _, rfl, iteT ?_⟩
        refine ⟨_, rfl, (by show 1 ≤ 1000; decide), fun a na => ⟨a, _, rfl, upd_same, fun d nd ne => ⟨rfl, d, [(Str.ofString "place", .int (k : Int))], upd_same, ?_, ?_, ?_⟩⟩⟩
        · rw [upd_ne ne, upd_same]
        · rw [upd_ne ne] at nd
          exact nd
        · rw [upd_ne ne] at nd
          refine qB k (hbad gd) _ d (fun c o hc => ?_) (back_none s14 nd) upd_same
          have c1 := s14 _ _ hc
          have ca : c ≠ a := ne_of_none c1 na
          have cd : c ≠ d := ne_of_none c1 nd
          rw [upd_ne cd, del_ne ca, upd_ne ca, upd_ne cd, upd_ne ca]
          exact c1
      · refine .inr ⟨hpn, .inr ⟨f3', hR3, fun G4 r s4 hR => ⟨_, rfl, rfl, _, rfl, ?_⟩⟩⟩
        refine iteF ⟨_, rfl, r, f3', rfl, hR, hR3.1, fun G5 s5 => ?_⟩
        have s15 : Same H1 G5 := (s3'.trans s4).trans s5
        refine ⟨⟨_, rfl⟩, _, rfl, _, rfl, _, _, rfl, rfl, _, rfl, L1, _, rfl, s15.seq hS1, fun l nl => ?_⟩
        rw [cut_take, ← List.map_take]
        refine ⟨_, _, _, rfl, rfl, .inl (SqL.of upd_same), hsum, ?_⟩
        have sl := same_new (o := .lst ((cs.take (k + 1)).map V.str)) nl
        refine ⟨rfl, _, rfl, ?_⟩
        rw [decide_eq_false (p := V.str (txtT f3') = V.str (Txt.join (Str.ofString ", ") (cs.take (k + 1)))) (fun z => gd ⟨f3', hR3.1, hjoin hR3.1 (by omega) (V.str.inj z)⟩)]
        refine iteT ?_
        have s14 : Same H (upd G5 l (.lst ((cs.take (k + 1)).map V.str))) := (s1.trans s15).trans sl
        generalize upd G5 l (.lst ((cs.take (k + 1)).map V.str)) = G6 at *
        refine ⟨_, rfl, (by show 1 ≤ 1000; decide), fun a na => ⟨a, _, rfl, upd_same, fun d nd ne => ⟨rfl, d, [(Str.ofString "place", .int (k : Int))], upd_same, ?_, ?_, ?_⟩⟩⟩
        · rw [upd_ne ne, upd_same]
        · rw [upd_ne ne] at nd
          exact nd
        · rw [upd_ne ne] at nd
          refine qB k (hbad gd) _ d (fun c o hc => ?_) (back_none s14 nd) upd_same
          have c1 := s14 _ _ hc
          have ca : c ≠ a := ne_of_none c1 na
          have cd : c ≠ d := ne_of_none c1 nd
          rw [upd_ne cd, del_ne ca, upd_ne ca, upd_ne cd, upd_ne ca]
          exact c1
theorem dig1 : ∀ i : Fin 10, Str.ofString (toString ((NumText.digitsVal [48 + (i : Nat)] : Nat) : Int)) = ⟨#[48 + (i : Nat)]⟩ := by decide +kernel
theorem dig2 : ∀ i j : Fin 10, Str.ofString (toString ((NumText.digitsVal [48 + (i : Nat), 48 + (j : Nat)] : Nat) : Int)) = ⟨#[48 + (i : Nat), 48 + (j : Nat)]⟩ ↔ (i : Nat) ≠ 0 := by decide +kernel
theorem dig3 : ∀ i j k : Fin 10, Str.ofString (toString ((NumText.digitsVal [48 + (i : Nat), 48 + (j : Nat), 48 + (k : Nat)] : Nat) : Int)) = ⟨#[48 + (i : Nat), 48 + (j : Nat), 48 + (k : Nat)]⟩ ↔ (i : Nat) ≠ 0 := by decide +kernel
theorem fin_of {c : Nat} (h : 48 ≤ c ∧ c ≤ 57) : ∃ i : Fin 10, c = 48 + (i : Nat) := ⟨⟨c - 48, by omega⟩, by simp; omega⟩
theorem shows_iff {w : Str} (h0 : TL.tl w ≠ []) (hd : NumText.AllDigits (TL.tl w)) (h3 : w.length ≤ 3) : Str.ofString (toString ((NumText.digitsVal (TL.tl w) : Nat) : Int)) = w ↔ ¬ ((TL.tl w).head? = some 48 ∧ 1 < w.length) := by
  have hl : w.length = (TL.tl w).length := TL.len_tl w
  obtain ⟨⟨l⟩⟩ := w
  have e : TL.tl (⟨⟨l⟩⟩ : Str) = l := rfl
  rw [e] at h0 hd hl ⊢
  match l, h0, hd, hl with
  | [], h0, _, _ => exact absurd rfl h0
  | [a], _, hd, hl =>
    obtain ⟨i, rfl⟩ := fin_of (hd a (by simp))
    refine ⟨fun _ z => ?_, fun _ => dig1 i⟩
    rw [hl] at z
    exact absurd z.2 (by simp)
  | [a, b], _, hd, hl =>
    obtain ⟨i, rfl⟩ := fin_of (hd a (by simp))
    obtain ⟨j, rfl⟩ := fin_of (hd b (by simp))
    refine (dig2 i j).trans ?_
    rw [hl]
    simp
  | [a, b, c], _, hd, hl =>
    obtain ⟨i, rfl⟩ := fin_of (hd a (by simp))
    obtain ⟨j, rfl⟩ := fin_of (hd b (by simp))
    obtain ⟨k, rfl⟩ := fin_of (hd c (by simp))
    refine (dig3 i j k).trans ?_
    rw [hl]
    simp
  | _ :: _ :: _ :: _ :: r, _, _, hl =>
    rw [hl] at h3
    simp at h3
/-- a number from lo to hi, if the text is just that -/
def numL (w : Str) (lo hi : Int) : V := match numV w with
  | .int n => if lo ≤ n ∧ n ≤ hi then .int n else .non
  | _ => .non
theorem numL_non {w : Str} {lo hi : Int} (h : numV w = .non) : numL w lo hi = .non := by
  unfold numL
  rw [h]
/-! ### the clauses behind the first, one by one -/
inductive CV where
  | n (i : Int)
  | l
  | k (ks : List Int)
def clauseOf : Nat → CV → Str
  | 1, .n i => cntT (Str.ofString "grace") i
  | 2, .l => Str.ofString "from last"
  | 3, .n i => cntT (Str.ofString "misses") i
  | 4, .k ks => keptT ks
  | 5, .n i => cntT (Str.ofString "fine") i
  | 6, .n i => cntT (Str.ofString "falls") i
  | 7, .n i => cntT (Str.ofString "back") i
  | _, _ => emp
def ValC (m : Int) : Nat → CV → Prop
  | 1, .n i => 1 ≤ i ∧ i ≤ 7
  | 2, .l => True
  | 3, .n i => 1 ≤ i ∧ i ≤ 2
  | 4, .k ks => (ks.length : Int) = m ∧ (∀ k ∈ ks, 0 ≤ k ∧ k ≤ 100) ∧ ks.any (fun k => decide (0 < k)) = true
  | 5, .n i => 1 ≤ i ∧ i ≤ 100
  | 6, .n i => 1 ≤ i ∧ i ≤ 30
  | 7, .n i => 1 ≤ i ∧ i ≤ 30
  | _, _ => False
def cw : List (Str × Nat × Int) := [("grace", 1, 7), ("misses", 3, 2), ("fine", 5, 100), ("falls", 6, 30), ("back", 7, 30)]
abbrev AllEq (ks : List Int) : Prop := ks.all (fun k => decide (k = ks.headD 0)) = true
theorem cw_free : ∀ e ∈ cw, 32 ∉ TL.tl e.1 ∧ e.1 ≠ Str.ofString "from" ∧ e.1 ≠ Str.ofString "keep" ∧ e.2.2 ≤ 100 := by decide +kernel
theorem numV_text {t : Str} {n : Int} (h : numV t = .int n) : t = tn n ∧ 0 ≤ n ∧ n ≤ 100 := by
  unfold numV at h
  split at h
  · split at h
    · rename_i z
      have e := V.int.inj h
      rw [← e]
      exact ⟨z.2.symm, by omega, z.1⟩
    · cases h
  · cases h
theorem cnt_pcs {w : Str} {n : Int} (hw : 32 ∉ TL.tl w) (h : 1 ≤ n ∧ n ≤ 100) : pcsOf (cntT w n) = [w, tn n] := by
  rw [cnt_join (by omega)]
  refine split_pieces (by simp) fun p hp => ?_
  simp only [List.mem_cons, List.not_mem_nil, or_false] at hp
  rcases hp with rfl | rfl
  · exact hw
  · exact (tn_free ⟨by omega, h.2⟩).1
theorem any_head {ks : List Int} (h : ks.any (fun k => decide (0 < k)) = true) (al : AllEq ks) (hb : ∀ k ∈ ks, 0 ≤ k ∧ k ≤ 100) : 1 ≤ ks.headD 0 ∧ ks.headD 0 ≤ 100 ∧ ks = List.replicate ks.length (ks.headD 0) := by
  have h0 : ∀ k ∈ ks, k = ks.headD 0 := fun k hk => of_decide_eq_true (List.all_eq_true.mp al k hk)
  obtain ⟨k, hk, hp⟩ := List.any_eq_true.mp h
  have e := h0 k hk
  have := of_decide_eq_true hp
  have := hb k hk
  exact ⟨by omega, by omega, List.eq_replicate_iff.mpr ⟨rfl, h0⟩⟩
theorem kept_eq {k : Int} {n : Nat} (hn : 1 ≤ n) : keptT (List.replicate n k) = cntT "keep" k := by
  have h0 : (List.replicate n k).headD 0 = k := by
    cases n with
    | zero => omega
    | succ n => rfl
  rw [keptT, if_pos (List.all_eq_true.mpr fun x hx => decide_eq_true (by rw [h0]; exact List.eq_of_mem_replicate hx)), h0]
theorem kept_pcs {ks : List Int} (hb : ∀ k ∈ ks, 0 ≤ k ∧ k ≤ 100) (al : ¬ AllEq ks) : pcsOf (keptT ks) = Str.ofString "keep" :: ks.map tn := by
  cases ks with
  | nil => exact absurd rfl al
  | cons k r =>
    rw [keep_join al]
    refine split_pieces (by simp) fun p hp => ?_
    rcases List.mem_cons.mp hp with rfl | hp
    · decide +kernel
    · obtain ⟨n, hn, rfl⟩ := List.mem_map.mp hp
      exact (tn_free (hb n hn)).1
/-- what the pieces of a right clause are -/
theorem pcs_of {m : Int} (hm : 1 ≤ m) {i : Nat} {v : CV} (h : ValC m i v) : (∃ w mx n, (w, i, mx) ∈ cw ∧ v = .n n ∧ 1 ≤ n ∧ n ≤ mx ∧ clauseOf i v = cntT w n ∧ pcsOf (clauseOf i v) = [w, tn n]) ∨ (i = 2 ∧ v = .l ∧ pcsOf (clauseOf i v) = [Str.ofString "from", Str.ofString "last"]) ∨
    (i = 4 ∧ ∃ k, v = .k (List.replicate m.toNat k) ∧ 1 ≤ k ∧ k ≤ 100 ∧ pcsOf (clauseOf i v) = [Str.ofString "keep", tn k]) ∨ (i = 4 ∧ ∃ ks, v = .k ks ∧ (ks.length : Int) = m ∧ (∀ k ∈ ks, 0 ≤ k ∧ k ≤ 100) ∧ ¬ AllEq ks ∧ pcsOf (clauseOf i v) = Str.ofString "keep" :: ks.map tn) := by
  match i, v, h with
  | 1, .n n, h => exact .inl ⟨"grace", 7, n, by simp [cw], rfl, h.1, h.2, rfl, cnt_pcs (by decide +kernel) ⟨h.1, by have := h.2; omega⟩⟩
  | 2, .l, _ => exact .inr (.inl ⟨rfl, rfl, by decide +kernel⟩)
  | 3, .n n, h => exact .inl ⟨"misses", 2, n, by simp [cw], rfl, h.1, h.2, rfl, cnt_pcs (by decide +kernel) ⟨h.1, by have := h.2; omega⟩⟩
  | 5, .n n, h => exact .inl ⟨"fine", 100, n, by simp [cw], rfl, h.1, h.2, rfl, cnt_pcs (by decide +kernel) ⟨h.1, by have := h.2; omega⟩⟩
  | 6, .n n, h => exact .inl ⟨"falls", 30, n, by simp [cw], rfl, h.1, h.2, rfl, cnt_pcs (by decide +kernel) ⟨h.1, by have := h.2; omega⟩⟩
  | 7, .n n, h => exact .inl ⟨"back", 30, n, by simp [cw], rfl, h.1, h.2, rfl, cnt_pcs (by decide +kernel) ⟨h.1, by have := h.2; omega⟩⟩
  | 4, .k ks, ⟨hl, hb, ha⟩ =>
    by_cases al : AllEq ks
    · obtain ⟨h1, h2, h3⟩ := any_head ha al hb
      have hm2 : m.toNat = ks.length := by omega
      refine .inr (.inr (.inl ⟨rfl, ks.headD 0, by rw [hm2, ← h3], h1, h2, ?_⟩))
      show pcsOf (keptT ks) = _
      rw [h3, kept_eq (by omega)]
      have : (List.replicate ks.length (ks.headD 0)).headD 0 = ks.headD 0 := by rw [← h3]
      rw [this]
      exact cnt_pcs (by decide +kernel) ⟨h1, h2⟩
    · exact .inr (.inr (.inr ⟨rfl, ks, rfl, hl, hb, al, kept_pcs hb al⟩))
theorem eqv_strs : ∀ ws us : List Str, PyData.eqvAll (ws.map PyData.str) (us.map PyData.str) = decide (ws = us)
  | [], [] => by simp [PyData.eqvAll]
  | [], u :: us => by simp [PyData.eqvAll]
  | w :: ws, [] => by simp [PyData.eqvAll]
  | w :: ws, u :: us => by
    rw [List.map_cons, List.map_cons]
    simp only [PyData.eqvAll, PyData.eqv, eqv_strs ws us]
    by_cases h : w = u
    · rw [h, beq_self_eq_true, Bool.true_and]
      simp
    · rw [beq_eq_false_iff_ne.mpr h, Bool.false_and]
      exact (decide_eq_false (fun z => h (List.cons.inj z).1)).symm
theorem lay_strs : ∀ {ws : List Str}, (∀ w ∈ ws, Asc w) → PyData.canLayAll0 (ws.map PyData.str) = true ∧ PyData.depthAll (ws.map PyData.str) ≤ 1
  | [], _ => by simp [PyData.canLayAll0, PyData.depthAll]
  | w :: r, h => by
    obtain ⟨a, b⟩ := lay_strs (ws := r) fun x hx => h x (List.mem_cons_of_mem _ hx)
    have h1 := asc_ok (h w List.mem_cons_self)
    simp only [List.map_cons, PyData.canLayAll0, PyData.canLay0, PyData.depthAll, PyData.depth, h1, a, Bool.and_self, true_and]
    omega
theorem sh_strs {ws : List Str} (h : ∀ w ∈ ws, Asc w) : SeqAt.shaped (.list (ws.map PyData.str)) = true := by
  obtain ⟨a, b⟩ := lay_strs h
  show (PyData.canLay0 _ && decide (PyData.depth _ ≤ 64)) = true
  rw [Bool.and_eq_true]
  refine ⟨by simp only [PyData.canLay0]; exact a, decide_eq_true ?_⟩
  simp only [PyData.depth]
  omega
theorem strs_dp {K : PySem.W.Frag} {H : Hp} : ∀ (ws : List Str), DpAll K H (ws.map V.str) (ws.map PyData.str)
  | [] => .nil
  | w :: ws => .cons (.str w) (strs_dp ws)
def mostD : List (Key × V) := [(.inr "grace", .int 7), (.inr "misses", .int 2), (.inr "fine", .int 100), (.inr "falls", .int 30), (.inr "back", .int 30)]
theorem mostW_at (w : Str) : (∃ i mx, (w, i, mx) ∈ cw ∧ valV mostD (.inr w) = some (.int mx)) ∨ ((∀ e ∈ cw, e.1 ≠ w) ∧ valV mostD (.inr w) = none) := by
  have hit : ∀ e ∈ cw, valV mostD (.inr e.1) = some (.int e.2.2) := by decide +kernel
  by_cases h : ∃ e ∈ cw, e.1 = w
  · obtain ⟨⟨w', i, mx⟩, he, rfl⟩ := h
    exact .inl ⟨i, mx, he, hit _ he⟩
  · have hno : ∀ e ∈ cw, e.1 ≠ w := fun e he z => h ⟨e, he, z⟩
    refine .inr ⟨hno, ?_⟩
    have names : mostD.map (·.1) = cw.map (fun e => (Sum.inr e.1 : Key)) := by decide +kernel
    unfold valV
    rw [List.find?_eq_none.mpr]
    · rfl
    · intro q hq
      simp only [decide_eq_true_eq]
      intro e
      have : q.1 ∈ mostD.map (·.1) := List.mem_map.mpr ⟨q, hq, rfl⟩
      rw [names, e] at this
      obtain ⟨e2, he2, e3⟩ := List.mem_map.mp this
      exact hno e2 he2 (Sum.inr.inj e3)
theorem val_cw {m n : Int} {w : Str} {i : Nat} {mx : Int} (h : (w, i, mx) ∈ cw) (h1 : 1 ≤ n) (h2 : n ≤ mx) : ValC m i (.n n) ∧ clauseOf i (.n n) = cntT w n ∧ 1 ≤ i := by
  simp only [cw, List.mem_cons, Prod.mk.injEq, List.not_mem_nil, or_false] at h
  rcases h with ⟨rfl, rfl, rfl⟩ | ⟨rfl, rfl, rfl⟩ | ⟨rfl, rfl, rfl⟩ | ⟨rfl, rfl, rfl⟩ | ⟨rfl, rfl, rfl⟩ <;> exact ⟨⟨h1, h2⟩, rfl, by decide⟩
def sortsL : List Str := ["grace", "", "misses", "", "fine", "falls", "back"]
theorem sorts_at : ∀ e ∈ cw, sortsL[e.2.1 - 1]? = some e.1 ∧ (sortsL.take (e.2.1 - 1)).all (fun s => decide (s ≠ e.1)) = true := by decide +kernel
theorem tn_list {as bs : List Int} (ha : ∀ a ∈ as, 0 ≤ a ∧ a ≤ 100) (hb : ∀ b ∈ bs, 0 ≤ b ∧ b ≤ 100) (h : as.map tn = bs.map tn) : as = bs := by
  induction as generalizing bs with
  | nil =>
    cases bs with
    | nil => rfl
    | cons b r => cases h
  | cons a r ih =>
    cases bs with
    | nil => cases h
    | cons b t =>
      obtain ⟨e1, e2⟩ := List.cons.inj h
      rw [tn_inj (ha a List.mem_cons_self) (hb b List.mem_cons_self) e1, ih (fun x hx => ha x (List.mem_cons_of_mem _ hx)) (fun x hx => hb x (List.mem_cons_of_mem _ hx)) e2]
theorem keep_only {m : Int} (hm : 1 ≤ m) {i : Nat} {v : CV} (h : ValC m i v) {r : List Str} (e : pcsOf (clauseOf i v) = Str.ofString "keep" :: r) : (∃ k, 1 ≤ k ∧ k ≤ 100 ∧ r = [tn k]) ∨ ∃ ks : List Int, (ks.length : Int) = m ∧ (∀ k ∈ ks, 0 ≤ k ∧ k ≤ 100) ∧ ¬ AllEq ks ∧ r = ks.map tn := by
  rcases pcs_of hm h with ⟨w2, mx2, n2, h1, rfl, h3, h4, _, h6⟩ | ⟨rfl, rfl, h6⟩ | ⟨rfl, k, rfl, k1, k2, h6⟩ | ⟨rfl, ks, rfl, k1, k2, k3, h6⟩
  · rw [h6] at e
    exact absurd (List.cons.inj e).1 (cw_free _ h1).2.2.1
  · rw [h6] at e
    exact absurd (List.cons.inj e).1 (by decide +kernel)
  · rw [h6] at e
    exact .inl ⟨k, k1, k2, (List.cons.inj e).2.symm⟩
  · rw [h6] at e
    exact .inr ⟨ks, k1, k2, k3, (List.cons.inj e).2.symm⟩
theorem not_any {m : Int} (hm : 1 ≤ m) {i : Nat} {v : CV} (h : ValC m i v) {w : Str} {r : List Str} (e : pcsOf (clauseOf i v) = w :: r) (h1 : w ≠ Str.ofString "keep") (h2 : ∀ i mx, (w, i, mx) ∈ cw → (w :: r).length ≠ 2) (h3 : w :: r ≠ [Str.ofString "from", Str.ofString "last"]) : False := by
  rcases pcs_of hm h with ⟨w2, mx2, n2, g1, rfl, _, _, _, h6⟩ | ⟨rfl, rfl, h6⟩ | ⟨rfl, k, rfl, k1, k2, h6⟩ | ⟨rfl, ks, rfl, k1, k2, k3, h6⟩
  · rw [h6] at e
    obtain ⟨rfl, rfl⟩ := List.cons.inj e
    exact h2 _ _ g1 rfl
  · rw [h6] at e
    exact h3 e.symm
  · rw [h6] at e
    exact h1 (List.cons.inj e).1.symm
  · rw [h6] at e
    exact h1 (List.cons.inj e).1.symm
theorem ints_of : ∀ {r : List Str}, (∀ t ∈ r, numV t ≠ .non) → ∃ ns : List Int, r = ns.map tn ∧ r.map numV = ns.map V.int ∧ ∀ n ∈ ns, 0 ≤ n ∧ n ≤ 100
  | [], _ => ⟨[], rfl, rfl, fun n hn => nomatch hn⟩
  | t :: r, h => by
    obtain ⟨ns, e1, e2, e3⟩ := ints_of (r := r) fun x hx => h x (List.mem_cons_of_mem _ hx)
    rcases numV_cases t with e | ⟨n, e, h0, h1⟩
    · exact absurd e (h t List.mem_cons_self)
    · refine ⟨n :: ns, by rw [List.map_cons, ← e1, ← (numV_text e).1], by rw [List.map_cons, List.map_cons, e2, e], fun k hk => ?_⟩
      rcases List.mem_cons.mp hk with rfl | hk
      · exact ⟨h0, h1⟩
      · exact e3 k hk
theorem non_in (r : List Str) : inV .non (r.map numV) = decide (∃ t ∈ r, numV t = .non) := by
  induction r with
  | nil => simp [inV]
  | cons t r ih =>
    show (eqV (numV t) .non || inV .non (r.map numV)) = _
    rw [ih]
    rcases numV_cases t with e | ⟨n, e, _⟩
    · rw [e]
      simp [eqV, e]
    · rw [e]
      simp [eqV, e]
theorem flat_nums : ∀ r : List Str, (r.map numV).all flatV = true
  | [] => rfl
  | t :: r => by
    rw [List.map_cons, List.all_cons, flat_nums r, Bool.and_true]
    rcases numV_cases t with e | ⟨n, e, _⟩ <;> rw [e] <;> rfl
def CVal (K : PySem.W.Frag) (H : Hp) : CV → V → Prop
  | .n i, x => x = .int i
  | .l, x => x = .bl true
  | .k ks, x => ∃ t, x = .ref t ∧ SqT K H t (ks.map V.int)
theorem numL_text {t : Str} {n lo hi : Int} (h : numL t lo hi = .int n) : t = tn n ∧ lo ≤ n ∧ n ≤ hi ∧ 0 ≤ n ∧ n ≤ 100 := by
  unfold numL at h
  rcases numV_cases t with e | ⟨k, e, h0, h1⟩
  · rw [e] at h
    cases h
  · rw [e] at h
    dsimp only at h
    split at h
    · rename_i z
      have e2 := V.int.inj h
      subst e2
      exact ⟨(numV_text e).1, z.1, z.2, h0, h1⟩
    · cases h
theorem numL_at {n lo hi : Int} (h0 : 0 ≤ n ∧ n ≤ 100) (h : lo ≤ n ∧ n ≤ hi) : numL (tn n) lo hi = .int n := by
  unfold numL
  rw [num_at h0]
  exact if_pos h
theorem numL_or (t : Str) (lo hi : Int) : numL t lo hi = .non ∨ ∃ n, numL t lo hi = .int n := by
  unfold numL
  rcases numV_cases t with e | ⟨k, e, h0, h1⟩
  · rw [e]
    exact .inl rfl
  · rw [e]
    dsimp only
    split
    · exact .inr ⟨_, rfl⟩
    · exact .inl rfl
theorem numL_all (t : Str) : numL t 0 100 = numV t := by
  unfold numL
  rcases numV_cases t with e | ⟨k, e, h0, h1⟩
  · rw [e]
  · rw [e]
    exact if_pos ⟨h0, h1⟩
/-! ### a good clause more, seen from the reader's side -/
def valAt (f : Fg) : Nat → CV
  | 1 => .n f.g
  | 2 => .l
  | 3 => .n f.m
  | 4 => .k f.ks
  | 5 => .n f.fi
  | 6 => .n f.fa
  | _ => .n f.ba
def setF (f : Fg) : Nat → CV → Fg
  | 1, .n i => { f with g := i }
  | 2, .l => { f with l := true }
  | 3, .n i => { f with m := i }
  | 4, .k ks => { f with ks := ks }
  | 5, .n i => { f with fi := i }
  | 6, .n i => { f with fa := i }
  | 7, .n i => { f with ba := i }
  | _, _ => f
theorem val_at {f : Fg} (ok : f.Ok) : ∀ {j : Nat}, 1 ≤ j → j < 8 → neC f j = true → ValC f.p j (valAt f j) ∧ clause f j = clauseOf j (valAt f j)
  | 0, h, _, _ => absurd h (by omega)
  | 1, _, _, h => by
    rw [ne_1] at h
    have := of_decide_eq_true h
    exact ⟨⟨by have := ok.figs.g0; show 1 ≤ f.g; omega, ok.figs.g1⟩, rfl⟩
  | 2, _, _, h => by
    rw [ne_2] at h
    refine ⟨trivial, ?_⟩
    show (if f.l = true then Str.ofString "from last" else Str.ofString "") = _
    rw [if_pos h]
    rfl
  | 3, _, _, h => by
    rw [ne_3] at h
    have := of_decide_eq_true h
    exact ⟨⟨by have := ok.figs.m0; show 1 ≤ f.m; omega, ok.figs.m1⟩, rfl⟩
  | 4, _, _, h => by
    rw [ne_4 ok] at h
    exact ⟨⟨ok.len, ok.bnd, h⟩, rfl⟩
  | 5, _, _, h => by
    rw [ne_5] at h
    have := of_decide_eq_true h
    exact ⟨⟨by have := ok.figs.fi0; show 1 ≤ f.fi; omega, ok.figs.fi1⟩, rfl⟩
  | 6, _, _, h => by
    rw [ne_6] at h
    have := of_decide_eq_true h
    exact ⟨⟨by have := ok.figs.fa0; show 1 ≤ f.fa; omega, ok.figs.fa1⟩, rfl⟩
  | 7, _, _, h => by
    rw [ne_7] at h
    have := of_decide_eq_true h
    exact ⟨⟨by have := ok.figs.ba0; show 1 ≤ f.ba; omega, ok.figs.ba1⟩, rfl⟩
  | n + 8, _, h, _ => absurd h (by omega)
/-- the last clause of f stands at a -/
structure Last (f : Fg) (a : Nat) : Prop where
  lt : a < 8
  at_ : neC f a = true
  no : ∀ j, a < j → j < 8 → neC f j = false
theorem good_next {f f2 : Fg} {a : Nat} {c : Str} (ok : f.Ok) (ok2 : f2.Ok) (la : Last f a) (h : clsT f2 = clsT f ++ [c]) : ∃ j, a < j ∧ j < 8 ∧ neC f2 j = true ∧ c = clause f2 j ∧ f2.p = f.p := by
  have il : (idx f2).length = (idx f).length + 1 := by
    have : (clsT f2).length = (clsT f).length + 1 := by rw [h, List.length_append]; rfl
    rw [cls_idx, cls_idx, List.length_map, List.length_map] at this
    exact this
  have hpos : 0 < (idx f).length := List.length_pos_iff.mpr idx_nil
  obtain ⟨j, hj⟩ : ∃ j, (idx f2)[(idx f).length]? = some j := ⟨_, List.getElem?_eq_getElem (by omega)⟩
  obtain ⟨jp, hjp⟩ : ∃ j, (idx f2)[(idx f).length - 1]? = some j := ⟨_, List.getElem?_eq_getElem (by omega)⟩
  obtain ⟨h1, j8, hn⟩ := take_filter hj
  have cl : (clsT f).length = (idx f).length := by rw [cls_idx, List.length_map]
  have ef : f = cutF f2 (jp + 1) := by
    refine cls_inj ok (cut_ok ok2 _) ?_
    rw [cut_of hjp, h, show (idx f).length - 1 + 1 = (clsT f).length by omega, List.take_left]
  have jp8 := (idx_lt (List.mem_of_getElem? hjp)).1
  have ei : idx f = (idx f2).take (idx f).length := by
    conv => lhs; rw [ef, idx_cut jp8, ← take_next hjp]
    rw [show (idx f).length - 1 + 1 = (idx f).length by omega]
  refine ⟨j, ?_, j8, hn, ?_, by rw [ef]; rfl⟩
  · have ha : a ∈ idx f := List.mem_filter.mpr ⟨List.mem_range.mpr la.lt, la.at_⟩
    rw [ei] at ha
    have h1 : (idx f2).take (idx f).length = (List.range j).filter (neC f2) := h1
    rw [h1] at ha
    exact List.mem_range.mp (List.mem_filter.mp ha).1
  · have e1 : (clsT f2)[(idx f).length]? = some c := by
      rw [h, ← cl, List.getElem?_append_right (Nat.le_refl _), Nat.sub_self]
      rfl
    rw [cls_idx, List.getElem?_map, hj] at e1
    exact (Option.some.inj e1).symm
set_option maxHeartbeats 4000000 in
theorem set_clause {f : Fg} {m : Int} {i : Nat} {v : CV} (hv : ValC m i v) : i < 8 ∧ 1 ≤ i ∧ (setF f i v).p = f.p ∧ (setF f i v).s = f.s ∧ ∀ j, j < 8 → clause (setF f i v) j = if j = i then clauseOf i v else clause f j := by
  match i, v, hv with
  | 1, .n n, _ => exact ⟨by decide, by decide, rfl, rfl, fun j hj => by
      by_cases e : j = 1
      · rw [if_pos e, e]
        rfl
      · rw [if_neg e]
        match j, hj, e with
        | 0, _, e => rfl
        | 1, _, e => exact absurd rfl e
        | 2, _, e => rfl
        | 3, _, e => rfl
        | 4, _, e => rfl
        | 5, _, e => rfl
        | 6, _, e => rfl
        | 7, _, e => rfl
        | n + 8, h, _ => omega⟩
  | 2, .l, _ => exact ⟨by decide, by decide, rfl, rfl, fun j hj => by
      by_cases e : j = 2
      · rw [if_pos e, e]
        rfl
      · rw [if_neg e]
        match j, hj, e with
        | 0, _, e => rfl
        | 1, _, e => rfl
        | 2, _, e => exact absurd rfl e
        | 3, _, e => rfl
        | 4, _, e => rfl
        | 5, _, e => rfl
        | 6, _, e => rfl
        | 7, _, e => rfl
        | n + 8, h, _ => omega⟩
  | 3, .n n, _ => exact ⟨by decide, by decide, rfl, rfl, fun j hj => by
      by_cases e : j = 3
      · rw [if_pos e, e]
        rfl
      · rw [if_neg e]
        match j, hj, e with
        | 0, _, e => rfl
        | 1, _, e => rfl
        | 2, _, e => rfl
        | 3, _, e => exact absurd rfl e
        | 4, _, e => rfl
        | 5, _, e => rfl
        | 6, _, e => rfl
        | 7, _, e => rfl
        | n + 8, h, _ => omega⟩
  | 4, .k ks, _ => exact ⟨by decide, by decide, rfl, rfl, fun j hj => by
      by_cases e : j = 4
      · rw [if_pos e, e]
        rfl
      · rw [if_neg e]
        match j, hj, e with
        | 0, _, e => rfl
        | 1, _, e => rfl
        | 2, _, e => rfl
        | 3, _, e => rfl
        | 4, _, e => exact absurd rfl e
        | 5, _, e => rfl
        | 6, _, e => rfl
        | 7, _, e => rfl
        | n + 8, h, _ => omega⟩
  | 5, .n n, _ => exact ⟨by decide, by decide, rfl, rfl, fun j hj => by
      by_cases e : j = 5
      · rw [if_pos e, e]
        rfl
      · rw [if_neg e]
        match j, hj, e with
        | 0, _, e => rfl
        | 1, _, e => rfl
        | 2, _, e => rfl
        | 3, _, e => rfl
        | 4, _, e => rfl
        | 5, _, e => exact absurd rfl e
        | 6, _, e => rfl
        | 7, _, e => rfl
        | n + 8, h, _ => omega⟩
  | 6, .n n, _ => exact ⟨by decide, by decide, rfl, rfl, fun j hj => by
      by_cases e : j = 6
      · rw [if_pos e, e]
        rfl
      · rw [if_neg e]
        match j, hj, e with
        | 0, _, e => rfl
        | 1, _, e => rfl
        | 2, _, e => rfl
        | 3, _, e => rfl
        | 4, _, e => rfl
        | 5, _, e => rfl
        | 6, _, e => exact absurd rfl e
        | 7, _, e => rfl
        | n + 8, h, _ => omega⟩
  | 7, .n n, _ => exact ⟨by decide, by decide, rfl, rfl, fun j hj => by
      by_cases e : j = 7
      · rw [if_pos e, e]
        rfl
      · rw [if_neg e]
        match j, hj, e with
        | 0, _, e => rfl
        | 1, _, e => rfl
        | 2, _, e => rfl
        | 3, _, e => rfl
        | 4, _, e => rfl
        | 5, _, e => rfl
        | 6, _, e => rfl
        | 7, _, e => exact absurd rfl e
        | n + 8, h, _ => omega⟩
theorem set_ok {f : Fg} (ok : f.Ok) {i : Nat} {v : CV} (hv : ValC f.p i v) : (setF f i v).Ok ∧ clauseOf i v ≠ emp := by
  have F := ok.figs
  have cn : ∀ (w : Str) (n : Int), w ≠ emp → 1 ≤ n → cntT w n ≠ emp := fun w n hw hn => by
    have := cntB (n := n) hw
    rw [decide_eq_true (show n ≠ 0 by omega)] at this
    exact of_decide_eq_true this
  obtain ⟨⟨p0, p1, s0, s1, g0, g1, m0, m1, fi0, fi1, fa0, fa1, ba0, ba1⟩, hl, hb⟩ := ok
  match i, v, hv with
  | 1, .n n, hv => exact ⟨⟨⟨p0, p1, s0, s1, by have := hv.1; show 0 ≤ n; omega, hv.2, m0, m1, fi0, fi1, fa0, fa1, ba0, ba1⟩, hl, hb⟩, cn _ _ (by decide +kernel) hv.1⟩
  | 2, .l, _ => exact ⟨⟨⟨p0, p1, s0, s1, g0, g1, m0, m1, fi0, fi1, fa0, fa1, ba0, ba1⟩, hl, hb⟩, by decide +kernel⟩
  | 3, .n n, hv => exact ⟨⟨⟨p0, p1, s0, s1, g0, g1, by have := hv.1; show 0 ≤ n; omega, hv.2, fi0, fi1, fa0, fa1, ba0, ba1⟩, hl, hb⟩, cn _ _ (by decide +kernel) hv.1⟩
  | 4, .k ks, hv =>
    refine ⟨⟨⟨p0, p1, s0, s1, g0, g1, m0, m1, fi0, fi1, fa0, fa1, ba0, ba1⟩, hv.1, hv.2.1⟩, ?_⟩
    have h3 := hv.2.2
    have := kept_ne hv.2.1 (fun z => by rw [z] at h3; cases h3)
    rw [h3] at this
    exact of_decide_eq_true this
  | 5, .n n, hv => exact ⟨⟨⟨p0, p1, s0, s1, g0, g1, m0, m1, by have := hv.1; show 0 ≤ n; omega, hv.2, fa0, fa1, ba0, ba1⟩, hl, hb⟩, cn _ _ (by decide +kernel) hv.1⟩
  | 6, .n n, hv => exact ⟨⟨⟨p0, p1, s0, s1, g0, g1, m0, m1, fi0, fi1, by have := hv.1; show 0 ≤ n; omega, hv.2, ba0, ba1⟩, hl, hb⟩, cn _ _ (by decide +kernel) hv.1⟩
  | 7, .n n, hv => exact ⟨⟨⟨p0, p1, s0, s1, g0, g1, m0, m1, fi0, fi1, fa0, fa1, by have := hv.1; show 0 ≤ n; omega, hv.2⟩, hl, hb⟩, cn _ _ (by decide +kernel) hv.1⟩
theorem filter_one {p p' : Nat → Bool} {i n : Nat} (hi : i < n) (h1 : ∀ j, j < i → p' j = p j) (h2 : p' i = true) (h3 : ∀ j, i ≤ j → j < n → p j = false) (h4 : ∀ j, i < j → j < n → p' j = false) : (List.range n).filter p' = (List.range n).filter p ++ [i] := by
  have e1 : (List.range n).filter p = (List.range i).filter p := by
    rw [← filter_lt (show i ≤ n by omega)]
    refine List.filter_congr fun j hj => ?_
    have := List.mem_range.mp hj
    by_cases c : j < i
    · rw [decide_eq_true c, Bool.true_and]
    · rw [decide_eq_false c, Bool.false_and, h3 j (by omega) this]
  have e2 : (List.range n).filter p' = (List.range (i + 1)).filter p' := by
    rw [← filter_lt (show i + 1 ≤ n by omega)]
    refine List.filter_congr fun j hj => ?_
    have := List.mem_range.mp hj
    by_cases c : j < i + 1
    · rw [decide_eq_true c, Bool.true_and]
    · rw [decide_eq_false c, Bool.false_and, h4 j (by omega) this]
  rw [e2, e1, List.range_succ, List.filter_append, List.filter_cons_of_pos h2, List.filter_nil]
  congr 1
  exact List.filter_congr fun j hj => h1 j (List.mem_range.mp hj)
theorem set_next {f : Fg} {a i : Nat} {v : CV} (ok : f.Ok) (la : Last f a) (hv : ValC f.p i v) (hai : a < i) : (setF f i v).Ok ∧ clsT (setF f i v) = clsT f ++ [clauseOf i v] ∧ Last (setF f i v) i := by
  obtain ⟨i8, _, _, _, hc⟩ := set_clause (f := f) hv
  obtain ⟨ok', hne⟩ := set_ok ok hv
  generalize setF f i v = g at *
  have n' : ∀ j, j < 8 → neC g j = if j = i then true else neC f j := fun j hj => by
    by_cases e : j = i
    · rw [if_pos e]
      unfold neC
      rw [hc j hj, if_pos e]
      exact decide_eq_true hne
    · rw [if_neg e]
      unfold neC
      rw [hc j hj, if_neg e]
  have lst : Last g i := ⟨i8, by rw [n' i i8, if_pos rfl], fun j h1 h2 => by rw [n' j h2, if_neg (by omega)]; exact la.no j (by omega) h2⟩
  have ei : idx g = idx f ++ [i] := filter_one i8 (fun j hj => by rw [n' j (by omega), if_neg (by omega)]) lst.at_ (fun j h1 h2 => la.no j (by omega) h2) lst.no
  refine ⟨ok', ?_, lst⟩
  rw [cls_idx, cls_idx, ei, List.map_append, List.map_cons, List.map_nil, hc i i8, if_pos rfl]
  refine congrArg (fun l => l ++ [clauseOf i v]) (List.map_congr_left fun j hj => ?_)
  have hj2 := idx_lt hj
  have hji : j ≤ a := by
    rcases Nat.lt_or_ge a j with z | z
    · rw [la.no j z hj2.1] at hj2
      exact absurd hj2.2 (by decide)
    · exact z
  rw [hc j hj2.1, if_neg (by omega)]
theorem clause_one {m : Int} (hm : 1 ≤ m) {i j : Nat} {v u : CV} (hv : ValC m i v) (hu : ValC m j u) (h : clauseOf i v = clauseOf j u) : i = j := by
  have key : pcsOf (clauseOf i v) = pcsOf (clauseOf j u) := by rw [h]
  have uq : ∀ e1 ∈ cw, ∀ e2 ∈ cw, e1.1 = e2.1 → e1.2.1 = e2.2.1 := by decide +kernel
  rcases pcs_of hm hv with ⟨w, mx, n, h1, rfl, _, _, _, h6⟩ | ⟨rfl, rfl, h6⟩ | ⟨rfl, k, rfl, _, _, h6⟩ | ⟨rfl, ks, rfl, _, _, _, h6⟩ <;>
  rcases pcs_of hm hu with ⟨w2, mx2, n2, g1, rfl, _, _, _, g6⟩ | ⟨rfl, rfl, g6⟩ | ⟨rfl, k2, rfl, _, _, g6⟩ | ⟨rfl, ks2, rfl, _, _, _, g6⟩ <;> have k0 := (List.cons.inj (h6.symm.trans (key.trans g6))).1
  · exact uq _ h1 _ g1 k0
  · exact absurd k0 (cw_free _ h1).2.1
  · exact absurd k0 (cw_free _ h1).2.2.1
  · exact absurd k0 (cw_free _ h1).2.2.1
  · exact absurd k0.symm (cw_free _ g1).2.1
  · rfl
  · exact absurd k0 (by decide +kernel)
  · exact absurd k0 (by decide +kernel)
  · exact absurd k0.symm (cw_free _ g1).2.2.1
  · exact absurd k0.symm (by decide +kernel)
  · rfl
  · rfl
  · exact absurd k0.symm (cw_free _ g1).2.2.1
  · exact absurd k0.symm (by decide +kernel)
  · rfl
  · rfl
/-- a rule of parts and days alone -/
def onlyF (p s : Int) : Fg := ⟨p, s, 0, false, 0, List.replicate p.toNat 0, 0, 0, 0⟩
theorem only_ok {p s : Int} (hp : 1 ≤ p ∧ p ≤ 6) (hs : 1 ≤ s ∧ s ≤ 14) : (onlyF p s).Ok ∧ clsT (onlyF p s) = [partT p s] ∧ Last (onlyF p s) 0 := by
  have ok : (onlyF p s).Ok := ⟨⟨hp.1, hp.2, hs.1, hs.2, Int.le_refl 0, (by show (0 : Int) ≤ 7; decide), Int.le_refl 0, (by show (0 : Int) ≤ 2; decide), Int.le_refl 0, (by show (0 : Int) ≤ 100; decide), Int.le_refl 0, (by show (0 : Int) ≤ 30; decide), Int.le_refl 0, (by show (0 : Int) ≤ 30; decide)⟩, by show (((List.replicate p.toNat (0 : Int)).length : Nat) : Int) = p; rw [List.length_replicate]; omega, fun k hk => by rw [List.eq_of_mem_replicate hk]; decide⟩
  have no : ∀ j, 0 < j → j < 8 → neC (onlyF p s) j = false := fun j h1 h2 => by
    have hz : ((List.replicate p.toNat (0 : Int)).any fun k => decide (0 < k)) = false := List.any_eq_false.mpr fun k hk => by rw [List.eq_of_mem_replicate hk]; decide
    match j, h1, h2 with
    | 1, _, _ => rw [ne_1]; rfl
    | 2, _, _ => rw [ne_2]; rfl
    | 3, _, _ => rw [ne_3]; rfl
    | 4, _, _ => rw [ne_4 ok]; exact hz
    | 5, _, _ => rw [ne_5]; rfl
    | 6, _, _ => rw [ne_6]; rfl
    | 7, _, _ => rw [ne_7]; rfl
    | n + 8, _, h => omega
  have ei : idx (onlyF p s) = [0] := by
    have h1 : (List.range 8).filter (neC (onlyF p s)) = (List.range 8).filter (fun _ => false) ++ [0] := filter_one (by decide) (fun j hj => absurd hj (by omega)) (ne_0 _) (fun _ _ _ => rfl) (fun j h1 h2 => no j (by omega) h2)
    unfold idx
    rw [h1]
    rfl
  refine ⟨ok, ?_, ⟨by decide, ne_0 _, no⟩⟩
  rw [cls_idx, ei]
  rfl
theorem good_first {c : Str} (h : Good [c]) : ∃ p s : Int, 1 ≤ p ∧ p ≤ 6 ∧ 1 ≤ s ∧ s ≤ 14 ∧ pcsOf c = [tn p, Str.ofString "parts", Str.ofString "by", tn s, Str.ofString "days"] := by
  obtain ⟨f, ok, e⟩ := h
  have F := ok.figs
  have il : (idx f).length = 1 := by
    have := congrArg List.length e
    rw [cls_idx, List.length_map] at this
    exact this
  have h0 : 0 ∈ idx f := List.mem_filter.mpr ⟨by simp, ne_0 f⟩
  have ei : idx f = [0] := by
    match h : idx f, il with
    | [a], _ =>
      rw [h] at h0
      rw [← List.mem_singleton.mp h0]
  rw [cls_idx, ei] at e
  have ec : partT f.p f.s = c := (List.cons.inj e).1
  refine ⟨f.p, f.s, F.p0, F.p1, F.s0, F.s1, ?_⟩
  rw [← ec, part_join]
  refine split_pieces (by simp) fun p hp => ?_
  simp only [List.mem_cons, List.not_mem_nil, or_false] at hp
  rcases hp with rfl | rfl | rfl | rfl | rfl
  · exact (tn_free ⟨by have := F.p0; omega, by have := F.p1; omega⟩).1
  · decide +kernel
  · decide +kernel
  · exact (tn_free ⟨by have := F.s0; omega, by have := F.s1; omega⟩).1
  · decide +kernel
theorem sqt_lst {K : PySem.W.Frag} {H : Hp} {D a : Addr} {o : List V} {o' : HO} {xs : List V} (hD : H D = some (.lst o)) (h : SqT K H a xs) : SqT K (upd H D o') a xs := by
  rcases h with (h | ⟨z, h⟩) | h
  · exact .inl (.inl (by rw [upd_ne (fun e => by rw [e, hD] at h; cases h)]; exact h))
  · exact .inl (.inr ⟨z, by rw [upd_ne (fun e => by rw [e, hD] at h; cases h)]; exact h⟩)
  · exact .inr h
def sevenV (f : Fg) (kt : Addr) : List V := [.int f.g, .bl f.l, .int f.m, .ref kt, .int f.fi, .int f.fa, .int f.ba]
theorem seven {K : PySem.W.Frag} {H : Hp} {f : Fg} {m : Int} {i : Nat} {v : CV} {x : V} {kt : Addr} (hv : ValC m i v) (hx : CVal K H v x) (hk : SqT K H kt (f.ks.map V.int)) :
    ixN 7 ((i : Int) - 1) = some (i - 1) ∧ ∃ kt', (sevenV f kt).set (i - 1) x = sevenV (setF f i v) kt' ∧ SqT K H kt' ((setF f i v).ks.map V.int) := by
  match i, v, hv with
  | 1, .n n, _ => cases hx; exact ⟨rfl, kt, rfl, hk⟩
  | 2, .l, _ => cases hx; exact ⟨rfl, kt, rfl, hk⟩
  | 3, .n n, _ => cases hx; exact ⟨rfl, kt, rfl, hk⟩
  | 4, .k ks, _ =>
    obtain ⟨t, rfl, ht⟩ := hx
    exact ⟨rfl, t, rfl, ht⟩
  | 5, .n n, _ => cases hx; exact ⟨rfl, kt, rfl, hk⟩
  | 6, .n n, _ => cases hx; exact ⟨rfl, kt, rfl, hk⟩
  | 7, .n n, _ => cases hx; exact ⟨rfl, kt, rfl, hk⟩
/-! ### texts that are bent somehow -/
abbrev AscL (ws : List Str) : Prop := ∀ w ∈ ws, Asc w
def wt (ws : List Str) : Nat := (ws.map (·.length)).sum + ws.length
theorem wt_sub {xs ys : List Str} (h : xs.Sublist ys) : wt xs ≤ wt ys := by
  induction h with
  | slnil => exact Nat.le_refl _
  | cons a _ ih =>
    unfold wt at *
    rw [List.map_cons, List.sum_cons, List.length_cons]
    omega
  | cons_cons a _ ih =>
    unfold wt at *
    rw [List.map_cons, List.map_cons, List.sum_cons, List.sum_cons, List.length_cons, List.length_cons]
    omega
theorem wt_app (xs ys : List Str) : wt (xs ++ ys) = wt xs + wt ys := by
  unfold wt
  rw [List.map_append, List.sum_append, List.length_append]
  omega
theorem wt_mem {xs : List Str} {x : Str} (h : x ∈ xs) : x.length + 1 ≤ wt xs := by
  have := wt_sub (List.singleton_sublist.mpr h)
  exact Nat.le_trans (by unfold wt; simp) this
theorem wt_set : ∀ {xs : List Str} {i : Nat} {x : Str}, wt (xs.set i x) ≤ wt xs + x.length
  | [], _, _ => by simp [wt]
  | a :: r, 0, x => by
    show wt (x :: r) ≤ wt (a :: r) + x.length
    unfold wt
    rw [List.map_cons, List.map_cons, List.sum_cons, List.sum_cons, List.length_cons, List.length_cons]
    omega
  | a :: r, i + 1, x => by
    have ih := wt_set (xs := r) (i := i) (x := x)
    show wt (a :: r.set i x) ≤ wt (a :: r) + x.length
    unfold wt at *
    rw [List.map_cons, List.map_cons, List.sum_cons, List.sum_cons, List.length_cons, List.length_cons]
    omega
theorem cut_str (ws : List Str) (lo hi : Option Int) : ∃ ys : List Str, cutV (ws.map V.str) lo hi = ys.map V.str ∧ ys.Sublist ws := by
  unfold cutV
  rw [← List.map_drop, ← List.map_take]
  exact ⟨_, rfl, (List.take_sublist _ _).trans (List.drop_sublist _ _)⟩
theorem asc_join {y : Str} (hy : Asc y) : ∀ {ws : List Str}, AscL ws → Asc (Txt.join y ws)
  | [], _ => fun c hc => by
    rw [TL.join_eq] at hc
    cases hc
  | [a], h => by
    rw [TL.join_eq]
    exact h a List.mem_cons_self
  | a :: b :: r, h => by
    have e : Txt.join y (a :: b :: r) = a ++ y ++ Txt.join y (b :: r) := by
      rw [TL.join_eq, TL.join_eq]
      rfl
    rw [e]
    exact ((h a List.mem_cons_self).app hy).app (asc_join hy fun w hw => h w (List.mem_cons_of_mem _ hw))
theorem join_wt (y : Str) (ws : List Str) : (Txt.join y ws).length ≤ (ws.map (·.length)).sum + ws.length * y.length := by
  have := PySem.StrLaws.join_length_le y ws
  rw [← TL.join_eq] at this
  exact this
theorem sub_asc {xs ys : List Str} (h : xs.Sublist ys) (hy : AscL ys) : AscL xs := fun w hw => hy w (h.subset hw)
theorem asc_all (l : List Str) (h : l.all (fun s => (TL.tl s).all (fun c => decide (c < 128)) && decide (s.length ≤ 12)) = true) : ∀ w ∈ l, Asc w ∧ w.length ≤ 12 := fun w hw => by
  have := List.all_eq_true.mp h w hw
  rw [Bool.and_eq_true, List.all_eq_true] at this
  exact ⟨fun c hc => of_decide_eq_true (this.1 c hc), of_decide_eq_true this.2⟩
theorem get_str {ws : List Str} {k : Int} (h0 : 0 ≤ k) (h1 : k < ws.length) : ∃ w, atI (ws.map V.str) k = some (.str w) ∧ w ∈ ws ∧ ∃ j, k = (j : Nat) ∧ ws[j]? = some w := by
  obtain ⟨j, rfl⟩ := Int.eq_ofNat_of_zero_le h0
  have hj : j < ws.length := by omega
  exact ⟨ws[j], atI_nat (by rw [List.getElem?_map, List.getElem?_eq_getElem hj]; rfl), List.getElem_mem hj, j, rfl, List.getElem?_eq_getElem hj⟩
def someW : List Str := ["0", "1", "2", "3", "6", "7", "8", "14", "15", "30", "31", "100", "101", "00", "07", "-1", "", "keep"]
def someX : List Str := ["back", "fine", "falls", "grace", "misses", "from", "last", "parts", "days", "by", "0,", "5,"]
def someY : List Str := ["keep 0", "1 1"]
def someZ : List Str := ["grace 1", "from last", "misses 1", "keep 5", "keep 5 6", "keep 0 1 2", "fine 3", "falls 4", "back 5", ""]
abbrev BentQ (H : Hp) (Q : VK) (b c : Addr) (n : Int) (t : Str) : Prop := ∀ H' t', Left H' b c (n + 12) → But b H H' → Asc t' → t'.length ≤ 6 * t.length + 40 → Q (.str t') H'
theorem asc_dec (s : Str) (h : (TL.tl s).all (fun c => decide (c < 128)) = true) : Asc s := fun c hc => of_decide_eq_true (List.all_eq_true.mp h c hc)
theorem asc_tn {n : Int} (h : 0 ≤ n ∧ n ≤ 100) : Asc (tn n) := by
  obtain ⟨k, rfl⟩ := Int.eq_ofNat_of_zero_le h.1
  have hk : k < 101 := by omega
  have all : ∀ i : Fin 101, (TL.tl (tn ((i : Nat) : Int))).all (fun c => decide (c < 128)) = true := by decide +kernel
  exact asc_dec _ (all ⟨k, hk⟩)
theorem asc_txt {f : Fg} (ok : f.Ok) : Asc (txtT f) := by
  have F := ok.figs
  have cn : ∀ (w : Str) (n : Int), Asc w → 0 ≤ n → n ≤ 100 → Asc (cntT w n) := fun w n hw h0 h1 => by
    unfold cntT
    split
    · exact asc_dec _ (by decide +kernel)
    · exact (hw.app (asc_dec _ (by decide +kernel))).app (asc_tn ⟨h0, h1⟩)
  refine asc_join (asc_dec _ (by decide +kernel)) fun c hc => ?_
  have hc := (List.mem_filter.mp hc).1
  simp only [allT, List.mem_cons, List.not_mem_nil, or_false] at hc
  rcases hc with rfl | rfl | rfl | rfl | rfl | rfl | rfl | rfl
  · exact (((asc_tn ⟨by have := F.p0; omega, by have := F.p1; omega⟩).app (asc_dec _ (by decide +kernel))).app (asc_tn ⟨by have := F.s0; omega, by have := F.s1; omega⟩)).app (asc_dec _ (by decide +kernel))
  · exact cn _ _ (asc_dec _ (by decide +kernel)) F.g0 (by have := F.g1; omega)
  · split <;> exact asc_dec _ (by decide +kernel)
  · exact cn _ _ (asc_dec _ (by decide +kernel)) F.m0 (by have := F.m1; omega)
  · unfold keptT
    split
    · have hb : 0 ≤ f.ks.headD 0 ∧ f.ks.headD 0 ≤ 100 := by
        cases h : f.ks with
        | nil => exact ⟨Int.le_refl _, by decide⟩
        | cons a r => exact ok.bnd a (by rw [h]; exact List.mem_cons_self)
      exact cn _ _ (asc_dec _ (by decide +kernel)) hb.1 hb.2
    · refine (asc_dec _ (by decide +kernel)).app (asc_join (asc_dec _ (by decide +kernel)) fun w hw => ?_)
      obtain ⟨k, hk, rfl⟩ := List.mem_map.mp hw
      exact asc_tn (ok.bnd k hk)
  · exact cn _ _ (asc_dec _ (by decide +kernel)) F.fi0 (by have := F.fi1; omega)
  · exact cn _ _ (asc_dec _ (by decide +kernel)) F.fa0 (by have := F.fa1; omega)
  · exact cn _ _ (asc_dec _ (by decide +kernel)) F.ba0 (by have := F.ba1; omega)
def lows : List Nat := TL.tl (Str.ofString "abcdefghijklmnopqrstuvwxyz")
def nameS (s : Str) : Bool := decide ((s.length : Int) ≤ 8) && madeOf s (Str.ofString "abcdefghijklmnopqrstuvwxyz")
def nameD : PyData → Bool
  | .str s => nameS s
  | _ => false
abbrev strOk (d : PyData) : Prop := ∀ s, d = .str s → s.length ≤ 100000
theorem kit_str {d : PyData} (h : tyD d ≠ "str") : ∀ {K : PySem.W.Frag}, PySem.W.kitOne K (.type (tyD d)) (.type "str") = some false := by
  intro K
  cases d with
  | str s => exact absurd rfl h
  | none => exact kit_ty (a := "NoneType") (by decide +kernel)
  | bool b => exact kit_ty (a := "bool") (by decide +kernel)
  | int i => exact kit_ty (a := "int") (by decide +kernel)
  | list xs => exact kit_ty (a := "list") (by decide +kernel)
  | tuple xs => exact kit_ty (a := "tuple") (by decide +kernel)
  | dict xs => exact kit_ty (a := "dict") (by decide +kernel)
theorem ty_str {d : PyData} : (∃ s, d = .str s) ∨ (tyD d ≠ "str" ∧ nameD d = false) := by
  cases d with
  | str s => exact .inl ⟨s, rfl⟩
  | none => exact .inr ⟨by decide, rfl⟩
  | bool b => exact .inr ⟨by show "bool" ≠ "str"; decide, rfl⟩
  | int i => exact .inr ⟨by show "int" ≠ "str"; decide, rfl⟩
  | list xs => exact .inr ⟨by show "list" ≠ "str"; decide, rfl⟩
  | tuple xs => exact .inr ⟨by show "tuple" ≠ "str"; decide, rfl⟩
  | dict xs => exact .inr ⟨by show "dict" ≠ "str"; decide, rfl⟩
/-! ### is_name -/
abbrev s_is_name : Stmt := topS 17
abbrev N_is_name : List Str := ["thing"]
theorem sc_is_name : FnScope N_is_name ["thing"] (defScope s_is_name) := ⟨rfl, rfl, rfl, by decide +kernel, rfl, by decide +kernel, by decide +kernel⟩
def sp_is_name (K : PySem.W.Frag) : Sp := fun vs H Q _ => ∃ (x : V) (d : PyData), vs = [x] ∧ Dp K H x d ∧ strOk d ∧ ∀ H', Same H H' → Q (.bl (nameD d)) H'
theorem ok_is_name {f : Addr} {fd : FuncData} (F : Fun K "is_name" "is_name" s_is_name f fd) (g : mg "is_name" = some (.ref f)) (bd : Binds K fd ["thing"] []) (m_len : mg "len" = none) (m_isinstance : mg "isinstance" = none) (m_str : mg "str" = none) {t_LETTERS : Tok} (g_LETTERS : mg "LETTERS" = some (.str (Str.ofString "abcdefghijklmnopqrstuvwxyz") t_LETTERS)) {t_LONGEST_NAME : Tok} (g_LONGEST_NAME : mg "LONGEST_NAME" = some (.int 8 t_LONGEST_NAME)) (C_is_made_of : CF P w K mg base 1 "is_made_of" ["text", "signs"] (sp_is_made_of K)) : CF P w K mg base 2 "is_name" ["thing"] (sp_is_name K) := by
  refine ⟨f, fd, F.ok sc_is_name (fun vs H Q E h => ?_) (fun cdv A outer s H vs Q E hr h => ?_), g, F.kp, bd⟩
  · first | (obtain ⟨_, rfl, _⟩ := h; rfl) | (obtain ⟨_, _, rfl, _⟩ := h; rfl) | (obtain ⟨_, _, _, rfl, _⟩ := h; rfl) | (obtain ⟨_, _, _, _, rfl, _⟩ := h; rfl) | (obtain ⟨_, _, _, _, _, rfl, _⟩ := h; rfl) | (obtain ⟨_, _, _, _, _, _, rfl, _⟩ := h; rfl) | (obtain ⟨_, _, _, _, _, _, _, rfl, _⟩ := h; rfl) | (obtain ⟨_, _, _, _, _, _, _, _, rfl, _⟩ := h; rfl) | (obtain ⟨_, _, _, _, _, _, _, _, _, rfl, _⟩ := h; rfl) | (obtain ⟨_, _, _, _, _, _, _, _, _, _, rfl, _⟩ := h; rfl) | (obtain ⟨_, _, _, _, _, _, _, _, _, _, _, rfl, _⟩ := h; rfl) | (obtain ⟨_, _, _, _, _, _, _, _, _, _, _, _, rfl, _⟩ := h; rfl) | (obtain ⟨_, _, _, _, _, _, _, _, _, _, _, _, _, rfl, _⟩ := h; rfl) | (obtain ⟨_, _, _, _, _, _, _, _, _, _, _, _, _, _, rfl, _⟩ := h; rfl) | (obtain ⟨_, _, _, _, _, _, _, _, _, _, _, _, _, _, _, rfl, _⟩ := h; rfl)
  · have hu64 := hr.units
    obtain ⟨x, d, rfl, hd, hz, q⟩ := h
    refine ⟨_, (pss_one (ps_ret (pe_and (pe_callB (kk_isi K) (by rfl) m_isinstance (by decide +kernel) (pa_cons (pv 0) (pa_cons (pe_bltn (v := .ty "str") (by rfl) m_str (by decide +kernel) rfl) pa_nil))) (pe_and (pe_cmpR op_le (pe_callB call_len_str (by rfl) m_len PySem.boot_len (pa_cons (pv 0) pa_nil)) (pe_glob (v := .int 8) (by rfl) g_LONGEST_NAME ⟨_, rfl⟩) (nomark _)) (pe_one (pe_cf C_is_made_of (hr.mono (by decide)) (by rfl) (pa_cons (pv 0) (pa_cons (pe_glob (v := .str (Str.ofString "abcdefghijklmnopqrstuvwxyz")) (by rfl) g_LETTERS ⟨_, rfl⟩) pa_nil)))))))), ?_⟩
    rcases ty_str (d := d) with ⟨s, rfl⟩ | ⟨n1, n2⟩
    · cases hd
      have hz' := hz s rfl
      refine ⟨_, rfl, _, _, _, _, true, rfl, .ty _, .base (.str s), kit_ty (by decide +kernel), _, rfl, iteT ?_⟩
      refine ⟨_, rfl, s, rfl, Nat.le_trans hz' (by decide), _, _, rfl, rfl, _, rfl, ?_⟩
      have e : nameD (.str s) = (decide ((s.length : Int) ≤ 8) && madeOf s (Str.ofString "abcdefghijklmnopqrstuvwxyz")) := rfl
      rw [e] at q
      by_cases h8 : (s.length : Int) ≤ 8
      · rw [decide_eq_true h8] at q ⊢
        exact iteT ⟨_, rfl, s, _, rfl, hz', fun H' s' => q H' s'⟩
      · rw [decide_eq_false h8] at q ⊢
        exact iteF (q H (Same.refl H))
    · rw [n2] at q
      exact ⟨_, rfl, _, _, _, _, false, rfl, .ty _, ty_of_dp hd, kit_str n1, _, rfl, iteF (q H (Same.refl H))⟩
set_option maxHeartbeats 2000000
def tab_FORMS : List (Str × List Str) := [("house", ["house", "text"]), ("price", ["house", "kind", "price"]), ("ware", ["ware", "kind", "house"]), ("put", ["house", "kind", "who"]), ("pay", ["ware", "who"]), ("up", ["ware"]), ("leave", ["house", "kind", "who"]), ("bring", ["ware"]), ("hand", ["house", "house"]), ("settle", ["house", "house", "debt"])]
/-- what stands in a deed behind its word: a name, a rule's text, pence -/
inductive Arg where
  | nm (s : Str)
  | tx (f : Fg)
  | pn (n : Int)
def Arg.v : Arg → V
  | .nm s => .str s
  | .tx f => .str (txtT f)
  | .pn n => .int n
def namedS : List Str := ["house", "kind", "ware", "who"]
def fits (s : Str) : Arg → Prop
  | .nm x => nameS x = true ∧ s ∈ namedS
  | .tx f => f.Ok ∧ s = Str.ofString "text"
  | .pn n => 1 ≤ n ∧ ((s = Str.ofString "price" ∧ n ≤ 1000000) ∨ (s = Str.ofString "debt" ∧ n ≤ 100000000))
def namesOf : List Str → List Arg → List (Str × Str)
  | s :: ss, .nm x :: xs => (s, x) :: namesOf ss xs
  | _ :: ss, .tx _ :: xs => namesOf ss xs
  | _ :: ss, .pn _ :: xs => namesOf ss xs
  | _, _ => []
abbrev housesOf (ps : List (Str × Str)) : List Str := (ps.filter fun p => decide (p.1 = Str.ofString "house")).map (·.2)
abbrev pairS (p : Str × Str) : List V := [.str p.1, .str p.2]
/-- a deed's word, what stands behind it, the sorts of these -/
structure Deed (w : Str) (xs : List Arg) (ss : List Str) : Prop where
  look : tab_FORMS.lookup w = some ss
  len : xs.length = ss.length
  fit : ∀ (i : Nat) (x : Arg) (s : Str), xs[i]? = some x → ss[i]? = some s → fits s x
  nd : (housesOf (namesOf ss xs)).Nodup
def Arg.d : Arg → PyData
  | .nm s => .str s
  | .tx f => .str (txtT f)
  | .pn n => .int n
def deedD (w : Str) (xs : List Arg) : PyData := .tuple (.str w :: xs.map Arg.d)
theorem args_dp {K : PySem.W.Frag} {H : Hp} : ∀ (xs : List Arg), DpAll K H (xs.map Arg.v) (xs.map Arg.d)
  | [] => .nil
  | .nm _ :: xs => .cons (.str _) (args_dp xs)
  | .tx _ :: xs => .cons (.str _) (args_dp xs)
  | .pn _ :: xs => .cons (.int _) (args_dp xs)
theorem deed_dp {K : PySem.W.Frag} {H : Hp} {t : Addr} {w : Str} {xs : List Arg} (h : SqT K H t (.str w :: xs.map Arg.v)) : Dp K H (.ref t) (deedD w xs) := .tup h (.cons (.str w) (args_dp xs))
theorem name_len {s : Str} (h : nameS s = true) : s.length ≤ 8 ∧ 1 ≤ s.length := by
  unfold nameS at h
  rw [Bool.and_eq_true, decide_eq_true_eq] at h
  refine ⟨by omega, ?_⟩
  have h2 := h.2
  unfold madeOf at h2
  rw [Bool.and_eq_true, Bool.not_eq_true', decide_eq_false_iff_not] at h2
  by_cases z : s.length = 0
  · exact absurd (congrArg V.str (TL.ext_tl (y := Str.ofString "") (by
      have : (TL.tl s).length = 0 := by rw [← TL.len_tl]; exact z
      rw [List.length_eq_zero_iff.mp this]
      rfl))) h2.1
  · omega
/-! ### names_in -/
abbrev s_names_in : Stmt := topS 41
abbrev N_names_in : List Str := ["deed", "sort", "name"]
theorem sc_names_in : FnScope N_names_in ["deed"] (defScope s_names_in) := ⟨rfl, rfl, rfl, by decide +kernel, rfl, by decide +kernel, by decide +kernel⟩
theorem namesOf_nil : ∀ {ss : List Str}, namesOf ss [] = []
  | [] => rfl
  | _ :: _ => rfl
theorem namesOf_snoc {s : Str} {x : Arg} : ∀ {i : Nat} {ss : List Str} {xs : List Arg}, ss[i]? = some s → xs[i]? = some x → namesOf (ss.take (i + 1)) (xs.take (i + 1)) = namesOf (ss.take i) (xs.take i) ++ namesOf [s] [x]
  | _, [], _, h, _ => by cases h
  | _, _ :: _, [], _, h => by cases h
  | 0, s2 :: ss, x2 :: xs, h1, h2 => by
    cases h1
    cases h2
    rfl
  | i + 1, s2 :: ss, x2 :: xs, h1, h2 => by
    have ih := namesOf_snoc (i := i) (ss := ss) (xs := xs) h1 h2
    cases x2 with
    | nm n =>
      show (s2, n) :: namesOf (ss.take (i + 1)) (xs.take (i + 1)) = ((s2, n) :: namesOf (ss.take i) (xs.take i)) ++ _
      rw [ih]
      rfl
    | tx f => exact ih
    | pn n => exact ih
theorem named_in {s : Str} (h : s ∈ namedS) : inV (.str s) (namedS.map V.str) = true := by
  unfold namedS at h
  simp only [List.mem_cons, List.not_mem_nil, or_false] at h
  rcases h with rfl | rfl | rfl | rfl <;> decide +kernel
theorem named_out {s : Str} (h : s = Str.ofString "text" ∨ s = Str.ofString "price" ∨ s = Str.ofString "debt") : inV (.str s) (namedS.map V.str) = false := by
  rcases h with rfl | rfl | rfl <;> decide +kernel
theorem namesOf_len : ∀ (ss : List Str) (xs : List Arg), (namesOf ss xs).length ≤ xs.length
  | [], [] => Nat.le_refl _
  | [], _ :: _ => Nat.zero_le _
  | _ :: _, [] => Nat.le_refl _
  | s :: ss, .nm x :: xs => Nat.succ_le_succ (namesOf_len ss xs)
  | s :: ss, .tx _ :: xs => Nat.le_succ_of_le (namesOf_len ss xs)
  | s :: ss, .pn _ :: xs => Nat.le_succ_of_le (namesOf_len ss xs)
theorem at0 {x : V} {l : List V} : atI (x :: l) 0 = some x := by
  show atI (x :: l) ((0 : Nat) : Int) = some x
  exact atI_nat rfl
def sp_names_in (K : PySem.W.Frag) : Sp := fun vs H Q _ => ∃ (t : Addr) (w : Str) (xs : List Arg) (ss : List Str), vs = [.ref t] ∧ SqT K H t (.str w :: xs.map Arg.v) ∧ tab_FORMS.lookup w = some ss ∧ xs.length = ss.length ∧ xs.length ≤ 5 ∧ (∀ (i : Nat) (x : Arg) (s : Str), xs[i]? = some x → ss[i]? = some s → fits s x) ∧
  ∀ H' L (S : List (Addr × (Str × Str))), Same H H' → H L = none → H' L = some (.lst (refs S)) → RowsAt pairS H' S → S.map (·.2) = namesOf ss xs → Q (.ref L) H'
theorem ok_names_in {f : Addr} {fd : FuncData} (F : Fun K "names_in" "names_in" s_names_in f fd) (g : mg "names_in" = some (.ref f)) (bd : Binds K fd ["deed"] []) (m_zip : mg "zip" = none) {A_FORMS : Addr} (g_FORMS : mg "FORMS" = some (.ref A_FORMS)) (q_FORMS : KTab w K A_FORMS tab_FORMS) {A_NAMED_SORTS : Addr} (g_NAMED_SORTS : mg "NAMED_SORTS" = some (.ref A_NAMED_SORTS)) (q_NAMED_SORTS : ∀ H, SqT K H A_NAMED_SORTS [.str (Str.ofString "house"), .str (Str.ofString "kind"), .str (Str.ofString "ware"), .str (Str.ofString "who")]) : CF P w K mg base 1 "names_in" ["deed"] (sp_names_in K) := by
  refine ⟨f, fd, F.ok sc_names_in (fun vs H Q E h => ?_) (fun cdv A outer s H vs Q E hr h => ?_), g, F.kp, bd⟩
  · first | (obtain ⟨_, rfl, _⟩ := h; rfl) | (obtain ⟨_, _, rfl, _⟩ := h; rfl) | (obtain ⟨_, _, _, rfl, _⟩ := h; rfl) | (obtain ⟨_, _, _, _, rfl, _⟩ := h; rfl) | (obtain ⟨_, _, _, _, _, rfl, _⟩ := h; rfl) | (obtain ⟨_, _, _, _, _, _, rfl, _⟩ := h; rfl) | (obtain ⟨_, _, _, _, _, _, _, rfl, _⟩ := h; rfl) | (obtain ⟨_, _, _, _, _, _, _, _, rfl, _⟩ := h; rfl) | (obtain ⟨_, _, _, _, _, _, _, _, _, rfl, _⟩ := h; rfl) | (obtain ⟨_, _, _, _, _, _, _, _, _, _, rfl, _⟩ := h; rfl) | (obtain ⟨_, _, _, _, _, _, _, _, _, _, _, rfl, _⟩ := h; rfl) | (obtain ⟨_, _, _, _, _, _, _, _, _, _, _, _, rfl, _⟩ := h; rfl) | (obtain ⟨_, _, _, _, _, _, _, _, _, _, _, _, _, rfl, _⟩ := h; rfl) | (obtain ⟨_, _, _, _, _, _, _, _, _, _, _, _, _, _, rfl, _⟩ := h; rfl) | (obtain ⟨_, _, _, _, _, _, _, _, _, _, _, _, _, _, _, rfl, _⟩ := h; rfl)
  · have hu64 := hr.units
    obtain ⟨t, w9, xs, ss, rfl, hT, look, hlen, h5, fit, q⟩ := h
    refine ⟨_, (pss_one (ps_ret (pe_lc (own := [("sort", 1), ("name", 2)]) (g := (gTup K 2 (gCons (gName 1) (gCons (gName 2) gNil)))) rfl sc_names_in.nd (RZ.pi_zipA (by rfl) m_zip (pa_cons (pe_tget q_FORMS (pe_glob (v := .ref A_FORMS) (by rfl) g_FORMS rfl) (pe_ix (kk_ixt K) (pv 0) pe_int (fun _ _ => rfl)) (fun _ _ => rfl)) (pa_cons (pe_slice (kk_slt K) (pv 0) (po_some pe_int) po_none) pa_nil))) (blkOk_by (own := [("sort", 1), ("name", 2)]) (N := N_names_in) (sc := defScope s_names_in) (by decide +kernel)) (fun _ _ _ _ _ => (pg_tup (by rfl) (pgs_cons (pg_name (i := 1) sc_names_in.nd rfl (.inl rfl)) (pgs_cons (pg_name (i := 2) sc_names_in.nd rfl (.inl rfl)) pgs_nil)))) (fun _ _ _ _ _ => (pts_one (pt_cmpR (kk_in K) (pv 1) (pe_glob (v := .ref A_NAMED_SORTS) (by rfl) g_NAMED_SORTS rfl) (by rfl)))) (fun _ _ _ _ _ => (pe_tup (pa_cons (pv 1) (pa_cons (pv 2) pa_nil))))))), ?_⟩
    refine ⟨_, rfl, t, _, _, _, rfl, rfl, hT, at0, w9, ss, rfl, look, fun tS hS => ?_⟩
    refine ⟨_, rfl, _, rfl, t, _, rfl, hT, ?_, fun u nu => ?_⟩
    · rintro ⟨z, _⟩
      have e1 : HT.sIx (V.str w9 :: xs.map Arg.v).length 0 (some 1) = 1 := by
        show min 1 ((xs.map Arg.v).length + 1) = 1
        omega
      rw [e1] at z
      cases z
    rw [cut_one]
    have su := same_new (o := .tup (xs.map Arg.v)) nu
    refine ⟨tS, u, _, _, rfl, .inr ⟨hS _, SqT.of upd_same, fun D nD => lc_gen (n := ss.length) (fun i G => Same (upd H u (.tup (xs.map Arg.v))) G ∧ ∃ S : List (Addr × (Str × Str)), G D = some (.lst (refs S)) ∧ RowsAt pairS G S ∧ S.map (·.2) = namesOf (ss.take i) (xs.take i)) ⟨same_new nD, [], upd_same, .nil, rfl⟩ (fun i G h => ?_) (fun i G v G2 hi h hy => ?_) (fun G h => ?_)⟩⟩
    · have := canT (i := i) (xs := ss.map V.str) (ys := xs.map Arg.v) (by rw [List.length_map, List.length_map, hlen]) (hS G) (SqT.of (h.1 _ _ upd_same))
      rw [List.length_map] at this
      exact this
    · obtain ⟨T, x', y', rfl, hT2, rfl, f1, f2⟩ := hy
      obtain ⟨h1, S, h2, h3, h4⟩ := h
      have g1 := f1 _ (hS G)
      have g2 := f2 _ (SqT.of (h1 _ _ upd_same))
      rw [List.getElem?_map] at g1 g2
      obtain ⟨s9, hs9, rfl⟩ := Option.map_eq_some_iff.mp g1
      obtain ⟨x9, hx9, rfl⟩ := Option.map_eq_some_iff.mp g2
      have ft := fit i x9 s9 hx9 hs9
      have sT := same_new (o := .tup [.str s9, x9.v]) hT2
      refine ⟨T, _, rfl, SqT.of upd_same, rfl, _, _, rfl, _, _, rfl, rfl, rfl, ?_⟩
      have lS : (refs S).length ≤ 5 := by
        rw [List.length_map, ← List.length_map (f := (·.2)) (as := S), h4]
        have := namesOf_len (ss.take i) (xs.take i)
        rw [List.length_take] at this
        omega
      have stay : namesOf [s9] [x9] = [] → Same (upd H u (.tup (xs.map Arg.v))) (upd G T (.tup [.str s9, x9.v])) ∧ ∃ S : List (Addr × (Str × Str)), upd G T (.tup [.str s9, x9.v]) D = some (.lst (refs S)) ∧ RowsAt pairS (upd G T (.tup [.str s9, x9.v])) S ∧ S.map (·.2) = namesOf (ss.take (i + 1)) (xs.take (i + 1)) := fun e => ⟨h1.trans sT, S, sT _ _ h2, h3.same sT, by rw [h4, namesOf_snoc hs9 hx9, e, List.append_nil]⟩
      refine ⟨_, rfl, A_NAMED_SORTS, namedS.map V.str, rfl, .inr (q_NAMED_SORTS _), rfl, by decide +kernel, _, rfl, ?_⟩
      cases x9 with
      | nm y =>
        obtain ⟨_, hs⟩ := ft
        rw [if_neg Bool.false_ne_true, named_in hs]
        refine iteT ⟨_, rfl, _, rfl, by show 2 ≤ sizeLine; decide, fun p np => ⟨_, same_new np _ _ (sT _ _ h2), small1000 (by omega), fun c o ec => ?_, S ++ [(p, (s9, y))], ?_, ?_, ?_⟩⟩
        · rw [upd_ne (ne_of_none ec nD)]
          exact same_new np _ _ (sT _ _ (h1 _ _ ec))
        · rw [upd_same, refs_snoc]
        · have hD2 := same_new (o := .tup [.str s9, .str y]) np _ _ (sT _ _ h2)
          have nDp : p ≠ D := fun e => by
            rw [e, sT _ _ h2] at np
            cases np
          refine ((((h3.same sT).same (same_new np)).updL hD2)).snoc ?_
          show (upd (upd _ p _) D _) p = _
          rw [upd_ne nDp, upd_same]
        · rw [List.map_append, h4, namesOf_snoc hs9 hx9]
          rfl
      | tx f' =>
        rw [if_neg Bool.false_ne_true, named_out (.inl ft.2)]
        exact iteF (stay rfl)
      | pn n =>
        rw [if_neg Bool.false_ne_true, named_out (by rcases ft.2 with z | z; exact .inr (.inl z.1); exact .inr (.inr z.1))]
        exact iteF (stay rfl)
    · obtain ⟨h1, S, h2, h3, h4⟩ := h
      refine q G D S (su.trans h1) (none_of su nD) h2 h3 ?_
      rw [h4, List.take_of_length_le (Nat.le_refl _), List.take_of_length_le (by omega)]
def wordsL : List Str := ["house", "price", "ware", "put", "pay", "up", "leave", "bring", "hand", "settle"]
/-- texts of one sign, of letters -/
def ltr (i : Nat) : Str := ⟨#[97 + i]⟩
theorem ltr_at {i : Int} (h0 : 0 ≤ i) (h1 : i < 26) : atI (Str.ofString "abcdefghijklmnopqrstuvwxyz").cps.toList i = some (97 + i.toNat) := by
  obtain ⟨k, rfl⟩ := Int.eq_ofNat_of_zero_le h0
  have hk : k < 26 := by omega
  have all : ∀ k : Fin 26, atI (Str.ofString "abcdefghijklmnopqrstuvwxyz").cps.toList ((k : Nat) : Int) = some (97 + (k : Nat)) := by decide +kernel
  exact all ⟨k, hk⟩
/-- a text of letters, of at most k signs -/
def Low (s : Str) (k : Nat) : Prop := s.length ≤ k ∧ ∀ c ∈ TL.tl s, 97 ≤ c ∧ c ≤ 122
theorem letters_in (c : Nat) : c ∈ TL.tl (Str.ofString "abcdefghijklmnopqrstuvwxyz") ↔ 97 ≤ c ∧ c ≤ 122 := by
  have e : TL.tl (Str.ofString "abcdefghijklmnopqrstuvwxyz") = [97, 98, 99, 100, 101, 102, 103, 104, 105, 106, 107, 108, 109, 110, 111, 112, 113, 114, 115, 116, 117, 118, 119, 120, 121, 122] := by decide +kernel
  rw [e]
  simp only [List.mem_cons, List.not_mem_nil, or_false]
  omega
theorem low_name {s : Str} (h : Low s 8) (h1 : 1 ≤ s.length) : nameS s = true := by
  unfold nameS
  rw [Bool.and_eq_true, decide_eq_true_eq]
  refine ⟨by have := h.1; omega, ?_⟩
  unfold madeOf
  rw [Bool.and_eq_true, Bool.not_eq_true', decide_eq_false_iff_not, empty_iff, List.all_eq_true]
  refine ⟨fun e => ?_, fun c hc => decide_eq_true ((letters_in c).mpr (h.2 c hc))⟩
  rw [TL.len_tl, e] at h1
  cases h1
theorem low_ltr {i : Nat} (h : i < 26) : Low (ltr i) 1 := ⟨Nat.le_refl _, fun c hc => by
  have e : TL.tl (ltr i) = [97 + i] := rfl
  rw [e, List.mem_singleton] at hc
  omega⟩
theorem low_app {s t : Str} {j k : Nat} (h1 : Low s j) (h2 : Low t k) : Low (s ++ t) (j + k) := ⟨by
  rw [len_app]
  have := h1.1
  have := h2.1
  omega, fun c hc => by
  rw [TL.tl_append] at hc
  rcases List.mem_append.mp hc with z | z
  · exact h1.2 c z
  · exact h2.2 c z⟩
theorem low_join : ∀ {l : List Str}, (∀ s ∈ l, Low s 1) → Low (Txt.join "" l) l.length
  | [], _ => ⟨by decide +kernel, fun c hc => by
    have e : TL.tl (Txt.join "" []) = [] := by decide +kernel
    rw [e] at hc
    cases hc⟩
  | [s], h => by
    have e : Txt.join "" [s] = s := by rw [TL.join_eq]; rfl
    rw [e]
    exact h s List.mem_cons_self
  | s :: t :: r, h => by
    have ih := low_join (l := t :: r) fun x hx => h x (List.mem_cons_of_mem _ hx)
    have e : Txt.join "" (s :: t :: r) = s ++ Txt.join "" (t :: r) := by
      rw [TL.join_eq, TL.join_eq]
      show s ++ Str.ofString "" ++ Str.join _ (t :: r) = _
      refine TL.ext_tl ?_
      rw [TL.tl_append, TL.tl_append, TL.tl_append, show TL.tl (Str.ofString "") = [] by decide +kernel, List.append_nil]
    rw [e]
    have := low_app (h s List.mem_cons_self) ih
    refine ⟨?_, this.2⟩
    have h1 := this.1
    simp only [List.length_cons] at h1 ⊢
    omega
theorem low_cut {s : Str} {k : Nat} {lo hi : Option Int} (h : Low s k) : Low (cutS s lo hi) k := by
  have sub : ∀ c ∈ TL.tl (cutS s lo hi), c ∈ TL.tl s := fun c hc => by
    have : TL.tl (cutS s lo hi) = ((TL.tl s).drop (HT.sIx s.length 0 lo)).take (HT.sIx s.length s.length hi - HT.sIx s.length 0 lo) := rfl
    rw [this] at hc
    exact List.mem_of_mem_drop (List.mem_of_mem_take hc)
  refine ⟨?_, fun c hc => h.2 c (sub c hc)⟩
  rw [TL.len_tl]
  have : TL.tl (cutS s lo hi) = ((TL.tl s).drop (HT.sIx s.length 0 lo)).take (HT.sIx s.length s.length hi - HT.sIx s.length 0 lo) := rfl
  rw [this, List.length_take, List.length_drop]
  have h1 := h.1
  rw [TL.len_tl] at h1
  omega
theorem Left.off {H G : Hp} {b c F : Addr} {n : Int} (h : Left H b c n) (t : But F H G) (e1 : F ≠ b) (e2 : F ≠ c) : Left G b c n := by
  obtain ⟨x, z, ns, h0, h1, h2⟩ := h
  exact ⟨x, z, ns, t _ _ e1.symm h0, t _ _ e2.symm h1, h2⟩
def two26 (m : Nat) : List Str := (List.range m).map fun k => ltr (k / 26) ++ ltr (k % 26)
theorem two_ok : ∀ m : Fin 27, (two26 m).Nodup ∧ (two26 m).length = (m : Nat) ∧ ∀ s ∈ two26 m, nameS s = true := by decide +kernel
theorem words_ok : ∀ s ∈ wordsL ++ [Str.ofString "free"], nameS s = true := by decide +kernel
theorem cut_tk {l : List V} {m : Nat} (h : m ≤ l.length) : cutV l none (some (m : Int)) = l.take m := by
  unfold cutV
  rw [HT.sIx_nat, HT.sIx_none, Nat.min_eq_left h]
  simp
/-- eight letters apart by five, and all pieces of them -/
def stemL (f : Nat) : List Str := (List.range 8).map fun k => ltr ((f + 5 * k) % 26)
def stemT (f : Nat) : Str := Txt.join (Str.ofString "") (stemL f)
def cutRow (f z : Nat) : List Str := (List.range (8 - z)).map fun (k : Nat) => cutS (stemT f) (some (0 + (k : Int))) (some (0 + (k : Int) + (1 + (z : Int))))
def cutsN (f z : Nat) : List Str := (List.range z).flatMap (cutRow f)
theorem cuts_ok : ∀ f : Fin 26, (cutsN f 8).Nodup ∧ (cutsN f 8).length = 36 ∧ (∀ s ∈ cutsN f 8, nameS s = true) ∧ (stemT f).length = 8 := by decide +kernel
theorem cuts_len : ∀ (f : Fin 26) (z : Fin 9), (cutsN f z).length ≤ 36 := by decide +kernel
theorem cuts_succ (f z : Nat) : cutsN f (z + 1) = cutsN f z ++ cutRow f z := by
  unfold cutsN
  rw [List.range_succ, List.flatMap_append]
  simp
theorem low_sum : ∀ {l : List Str}, (∀ s ∈ l, Low s 1) → (l.map (·.length)).sum ≤ l.length
  | [], _ => Nat.le_refl _
  | s :: r, h => by
    have ih := low_sum (l := r) fun x hx => h x (List.mem_cons_of_mem _ hx)
    have := (h s List.mem_cons_self).1
    rw [List.map_cons, List.sum_cons, List.length_cons]
    omega
theorem fit1 {s : Str} {x : Arg} (h1 : fits s x) : ∀ (i : Nat) (a : Arg) (u : Str), [x][i]? = some a → [s][i]? = some u → fits u a
  | 0, _, _, e1, e2 => by cases e1; cases e2; exact h1
  | _ + 1, _, _, e1, _ => by cases e1
theorem fit2 {s t : Str} {x y : Arg} (h1 : fits s x) (h2 : fits t y) : ∀ (i : Nat) (a : Arg) (u : Str), [x, y][i]? = some a → [s, t][i]? = some u → fits u a
  | 0, _, _, e1, e2 => by cases e1; cases e2; exact h1
  | 1, _, _, e1, e2 => by cases e1; cases e2; exact h2
  | _ + 2, _, _, e1, _ => by cases e1
theorem fit3 {s t r : Str} {x y z : Arg} (h1 : fits s x) (h2 : fits t y) (h3 : fits r z) : ∀ (i : Nat) (a : Arg) (u : Str), [x, y, z][i]? = some a → [s, t, r][i]? = some u → fits u a
  | 0, _, _, e1, e2 => by cases e1; cases e2; exact h1
  | 1, _, _, e1, e2 => by cases e1; cases e2; exact h2
  | 2, _, _, e1, e2 => by cases e1; cases e2; exact h3
  | _ + 3, _, _, e1, _ => by cases e1
theorem other_len {ns : List Str} {a : Str} (nd : ns.Nodup) (m : a ∈ ns) : (ns.filter fun x => decide (x ≠ a)).length + 1 = ns.length := by
  induction ns with
  | nil => cases m
  | cons x r ih =>
    rw [List.nodup_cons] at nd
    rw [List.filter_cons]
    by_cases c : x = a
    · rw [if_neg (by rw [decide_eq_true_eq]; exact fun z => z c)]
      have : r.filter (fun x => decide (x ≠ a)) = r := List.filter_eq_self.mpr fun y hy => decide_eq_true (fun z => nd.1 (by rw [c, ← z]; exact hy))
      rw [this]
      rfl
    · rw [if_pos (decide_eq_true c), List.length_cons, ih nd.2 (by
        rcases List.mem_cons.mp m with z | z
        · exact absurd z.symm c
        · exact z)]
      rfl
theorem house_cons {a : Str} {r : List (Str × Str)} : housesOf ((Str.ofString "house", a) :: r) = a :: housesOf r := by
  unfold housesOf
  rw [List.filter_cons, if_pos (decide_eq_true rfl), List.map_cons]
theorem house_skip {s a : Str} {r : List (Str × Str)} (h : s ≠ Str.ofString "house") : housesOf ((s, a) :: r) = housesOf r := by
  unfold housesOf
  rw [List.filter_cons, if_neg (by rw [decide_eq_true_eq]; exact h)]
theorem house_nil : housesOf [] = [] := rfl
theorem pick_str {ns : List Str} {r : Int} (h0 : 0 ≤ r) (h1 : r < ns.length) : ∃ y ∈ ns, atI (ns.map V.str) r = some (.str y) := by
  obtain ⟨i, rfl⟩ := Int.eq_ofNat_of_zero_le h0
  have hi : i < ns.length := by omega
  refine ⟨ns[i], List.getElem_mem hi, atI_nat ?_⟩
  rw [List.getElem?_map, List.getElem?_eq_getElem hi]
  rfl
/-- the names in xs are of the list ns -/
def FromN (ns : List Str) (xs : List Arg) : Prop := ∀ s, Arg.nm s ∈ xs → s ∈ ns
theorem fnN {ns : List Str} : FromN ns [] := fun _ h => (nomatch h)
theorem fnC {ns : List Str} {a : Str} {xs : List Arg} (h : a ∈ ns) (t : FromN ns xs) : FromN ns (.nm a :: xs) := fun s hs => by
  rcases List.mem_cons.mp hs with e | e
  · rw [Arg.nm.inj e]
    exact h
  · exact t s e
theorem fnT {ns : List Str} {f : Fg} {xs : List Arg} (t : FromN ns xs) : FromN ns (.tx f :: xs) := fun s hs => by
  rcases List.mem_cons.mp hs with e | e
  · cases e
  · exact t s e
theorem fnP {ns : List Str} {n : Int} {xs : List Arg} (t : FromN ns xs) : FromN ns (.pn n :: xs) := fun s hs => by
  rcases List.mem_cons.mp hs with e | e
  · cases e
  · exact t s e
theorem letters_tl : TL.tl (Str.ofString "abcdefghijklmnopqrstuvwxyz") = List.range' 97 26 := by decide +kernel
theorem name_iff (s : Str) : nameS s = (decide ((0 : Int) < s.length) && decide ((s.length : Int) < 9) && (TL.tl s).all fun c => decide (97 ≤ c ∧ c ≤ 122)) := by
  unfold nameS madeOf
  have e1 : (!decide (V.str s = V.str (Str.ofString ""))) = decide ((0 : Int) < s.length) := by
    by_cases h : V.str s = V.str (Str.ofString "")
    · have hs : s = Str.ofString "" := V.str.inj h
      rw [decide_eq_true h, hs]
      rfl
    · rw [decide_eq_false h]
      have : 0 < s.length := by
        rcases Nat.eq_zero_or_pos s.length with z | z
        · refine absurd (congrArg V.str (TL.ext_tl ?_)) h
          have : (TL.tl s).length = 0 := by rw [← TL.len_tl]; exact z
          rw [List.length_eq_zero_iff.mp this]
          rfl
        · exact z
      exact (decide_eq_true (show (0 : Int) < s.length by omega)).symm
  have e2 : ((TL.tl s).all fun c => decide (c ∈ TL.tl (Str.ofString "abcdefghijklmnopqrstuvwxyz"))) = ((TL.tl s).all fun c => decide (97 ≤ c ∧ c ≤ 122)) := by
    rw [letters_tl]
    refine congrArg (TL.tl s).all (funext fun c => ?_)
    refine decide_eq_decide.mpr ?_
    rw [List.mem_range'_1]
    omega
  show (decide ((s.length : Int) ≤ 8) && (!decide (V.str s = V.str (Str.ofString "")) && (TL.tl s).all fun c => decide (c ∈ TL.tl (Str.ofString "abcdefghijklmnopqrstuvwxyz")))) = _
  rw [e1, e2, ← Bool.and_assoc, Bool.and_comm (decide ((s.length : Int) ≤ 8))]
  rw [show decide ((s.length : Int) ≤ 8) = decide ((s.length : Int) < 9) from decide_eq_decide.mpr (by omega)]
/-! ### any thing as a deed -/
def okS (d : PyData) : Prop := ∀ s, d = .str s → Asc s ∧ s.length ≤ 500
structure Tame (d : PyData) : Prop where
  s : okS d
  t : ∀ ds, d = .tuple ds → ds.length ≤ 20 ∧ ∀ e ∈ ds, okS e
noncomputable def ruleB (t : Str) : Bool := @decide (Good (Txt.split t ", ")) (Classical.propDecidable _)
theorem ruleB_t {t : Str} (h : Good (Txt.split t ", ")) : ruleB t = true := @decide_eq_true _ (Classical.propDecidable _) h
theorem ruleB_f {t : Str} (h : ¬ Good (Txt.split t ", ")) : ruleB t = false := @decide_eq_false _ (Classical.propDecidable _) h
theorem ruleB_of {t : Str} (h : ruleB t = true) : Good (Txt.split t ", ") := @of_decide_eq_true _ (Classical.propDecidable _) h
noncomputable def textD : PyData → Bool
  | .str t => ruleB t
  | _ => false
noncomputable def sortD (s : Str) (d : PyData) : Bool := if s = Str.ofString "text" then textD d else if s = Str.ofString "price" then numIn d 1 1000000 else if s = Str.ofString "debt" then numIn d 1 100000000 else nameD d
noncomputable def sortsB : List Str → List PyData → Bool
  | s :: ss, d :: ds => sortD s d && sortsB ss ds
  | _, _ => true
def housesL : List Str → List PyData → List Str
  | s :: ss, .str x :: ds => if s = Str.ofString "house" then x :: housesL ss ds else housesL ss ds
  | _ :: ss, _ :: ds => housesL ss ds
  | _, _ => []
noncomputable def deedB : PyData → Bool
  | .tuple (.str w :: ds) => match tab_FORMS.lookup w with
    | some ss => decide (ds.length = ss.length) && sortsB ss ds && decide (housesL ss ds).Nodup
    | none => false
  | _ => false
theorem cls_split {t : Str} {f : Fg} (h : clsT f = Txt.split t ", ") : t = txtT f := by
  have := split_back t ", "
  rw [← h] at this
  exact this.symm
theorem bad_not {cs : List Str} {k : Nat} (b : BadAt cs k) : ¬ Good cs := fun h => b.2.2 (good_pre h (by omega) (by have := b.1; omega))
theorem textD_str {d : PyData} (h : textD d = true) : ∃ f : Fg, f.Ok ∧ d = .str (txtT f) := by
  cases d with
  | str t =>
    obtain ⟨f, ok, e⟩ := ruleB_of h
    exact ⟨f, ok, congrArg PyData.str (cls_split e)⟩
  | _ => cases h
theorem nameD_str {d : PyData} (h : nameD d = true) : ∃ s, d = .str s ∧ nameS s = true := by
  cases d with
  | str s => exact ⟨s, rfl, h⟩
  | _ => cases h
def allS : List Str := ["house", "kind", "ware", "who", "text", "price", "debt"]
/-- a thing of a sort of the table is an argument that fits -/
theorem sort_arg {s : Str} {d : PyData} (hs : s ∈ allS) (h : sortD s d = true) : ∃ x : Arg, d = x.d ∧ fits s x := by
  unfold sortD at h
  by_cases c1 : s = Str.ofString "text"
  · rw [if_pos c1] at h
    obtain ⟨f, ok, rfl⟩ := textD_str h
    exact ⟨.tx f, rfl, ok, c1⟩
  rw [if_neg c1] at h
  by_cases c2 : s = Str.ofString "price"
  · rw [if_pos c2] at h
    obtain ⟨i, rfl, h1, h2⟩ := numIn_inv h
    exact ⟨.pn i, rfl, h1, .inl ⟨c2, h2⟩⟩
  rw [if_neg c2] at h
  by_cases c3 : s = Str.ofString "debt"
  · rw [if_pos c3] at h
    obtain ⟨i, rfl, h1, h2⟩ := numIn_inv h
    exact ⟨.pn i, rfl, h1, .inr ⟨c3, h2⟩⟩
  rw [if_neg c3] at h
  obtain ⟨x, rfl, hx⟩ := nameD_str h
  refine ⟨.nm x, rfl, hx, ?_⟩
  unfold allS at hs
  unfold namedS
  simp only [List.mem_cons, List.not_mem_nil, or_false] at hs ⊢
  rcases hs with z | z | z | z | z | z | z
  · exact .inl z
  · exact .inr (.inl z)
  · exact .inr (.inr (.inl z))
  · exact .inr (.inr (.inr z))
  · exact absurd z c1
  · exact absurd z c2
  · exact absurd z c3
theorem sorts_args : ∀ {ss : List Str} {ds : List PyData}, (∀ s ∈ ss, s ∈ allS) → ds.length = ss.length → sortsB ss ds = true → ∃ xs : List Arg, ds = xs.map Arg.d ∧ xs.length = ss.length ∧ (∀ (i : Nat) (x : Arg) (s : Str), xs[i]? = some x → ss[i]? = some s → fits s x) ∧ housesOf (namesOf ss xs) = housesL ss ds
  | [], [], _, _, _ => ⟨[], rfl, rfl, fun _ _ _ h => by simp at h, rfl⟩
  | s :: ss, [], _, h, _ => by cases h
  | [], d :: ds, _, h, _ => by cases h
  | s :: ss, d :: ds, hs, hl, h => by
    rw [sortsB, Bool.and_eq_true] at h
    obtain ⟨x, rfl, hx⟩ := sort_arg (hs s List.mem_cons_self) h.1
    obtain ⟨xs, rfl, l, ft, hh⟩ := sorts_args (fun z hz => hs z (List.mem_cons_of_mem _ hz)) (by simpa using hl) h.2
    refine ⟨x :: xs, rfl, by rw [List.length_cons, List.length_cons, l], fun i y z h1 h2 => ?_, ?_⟩
    · cases i with
      | zero => cases h1; cases h2; exact hx
      | succ i => exact ft i y z h1 h2
    · cases x with
      | nm n =>
        show housesOf ((s, n) :: namesOf ss xs) = if s = Str.ofString "house" then n :: housesL ss (xs.map Arg.d) else housesL ss (xs.map Arg.d)
        rw [← hh]
        by_cases c : s = Str.ofString "house"
        · rw [if_pos c, c]
          exact house_cons
        · rw [if_neg c]
          exact house_skip c
      | tx f =>
        show housesOf (namesOf ss xs) = if s = Str.ofString "house" then txtT f :: housesL ss (xs.map Arg.d) else housesL ss (xs.map Arg.d)
        rw [if_neg (by rw [hx.2]; decide +kernel)]
        exact hh
      | pn n => exact hh
theorem dp_args {K : PySem.W.Frag} {H : Hp} : ∀ {xs : List Arg} {vs : List V}, DpAll K H vs (xs.map Arg.d) → vs = xs.map Arg.v
  | [], _, h => by cases h; rfl
  | .nm s :: xs, _, h => by cases h with | cons a b => cases a; rw [dp_args b]; rfl
  | .tx f :: xs, _, h => by cases h with | cons a b => cases a; rw [dp_args b]; rfl
  | .pn n :: xs, _, h => by cases h with | cons a b => cases a; rw [dp_args b]; rfl
theorem tab_sorts : ∀ p ∈ tab_FORMS, ∀ s ∈ p.2, s ∈ allS := by decide +kernel
theorem shape_ss : ∀ p ∈ tab_FORMS, p.2.length ≤ 3 ∧ 1 ≤ p.2.length := by decide +kernel
theorem look_mem : ∀ {tab : List (Str × List Str)} {k : Str} {ss : List Str}, tab.lookup k = some ss → (k, ss) ∈ tab
  | [], _, _, h => by cases h
  | (a, b) :: r, k, ss, h => by
    rw [List.lookup_cons] at h
    by_cases c : k = a
    · subst c
      rw [beq_self_eq_true] at h
      cases h
      exact List.mem_cons_self
    · rw [beq_eq_false_iff_ne.mpr c] at h
      exact List.mem_cons_of_mem _ (look_mem h)
/-! ### what deeds are shown as is short -/
def Sml (s : Str) : Prop := ∀ c ∈ TL.tl s, c < 16 ^ 8
theorem sml_app {s t : Str} (h1 : Sml s) (h2 : Sml t) : Sml (s ++ t) := fun c hc => by
  rw [TL.tl_append] at hc
  rcases List.mem_append.mp hc with z | z
  · exact h1 c z
  · exact h2 c z
theorem sml_join {sep : Str} (h : Sml sep) : ∀ {l : List Str}, (∀ s ∈ l, Sml s) → Sml (Txt.join sep l)
  | [], _ => fun c hc => by
    rw [TL.join_eq] at hc
    cases hc
  | [s], hs => by
    rw [TL.join_eq]
    exact hs s List.mem_cons_self
  | s :: t :: r, hs => by
    have ih := sml_join h (l := t :: r) fun x hx => hs x (List.mem_cons_of_mem _ hx)
    rw [TL.join_eq] at ih ⊢
    exact sml_app (sml_app (hs s List.mem_cons_self) h) ih
theorem sml_nums : ∀ n : Fin 101, ∀ c ∈ TL.tl (tn ((n : Nat) : Int)), c < 128 := by decide +kernel
theorem sml_tn {n : Int} (h : 0 ≤ n ∧ n ≤ 100) : Sml (Str.ofString (toString n)) := fun c hc => by
  obtain ⟨i, rfl⟩ := Int.eq_ofNat_of_zero_le h.1
  have := sml_nums ⟨i, by omega⟩ c hc
  exact Nat.lt_trans this (by decide)
theorem sml_lit (s : Str) (h : (TL.tl s).all (fun c => decide (c < 128)) = true) : Sml s := fun c hc => Nat.lt_trans (of_decide_eq_true (List.all_eq_true.mp h c hc)) (by decide)
theorem sml_cnt {w : Str} {n : Int} (hw : Sml w) (h : 0 ≤ n ∧ n ≤ 100) : Sml (cntT w n) := by
  unfold cntT
  split
  · exact sml_lit _ (by decide +kernel)
  · exact sml_app (sml_app hw (sml_lit _ (by decide +kernel))) (sml_tn h)
theorem sml_kept {ks : List Int} (h : ∀ k ∈ ks, 0 ≤ k ∧ k ≤ 100) : Sml (keptT ks) := by
  unfold keptT
  split
  · refine sml_cnt (sml_lit _ (by decide +kernel)) ?_
    cases ks with
    | nil => decide
    | cons k r => exact h k List.mem_cons_self
  · refine sml_app (sml_lit _ (by decide +kernel)) (sml_join (sml_lit _ (by decide +kernel)) fun s hs => ?_)
    obtain ⟨k, hk, rfl⟩ := List.mem_map.mp hs
    exact sml_tn (h k hk)
theorem sml_txt {f : Fg} (ok : f.Ok) : Sml (txtT f) := by
  obtain ⟨p0, p1, s0, s1, g0, g1, m0, m1, fi0, fi1, fa0, fa1, ba0, ba1⟩ := ok.figs
  refine sml_join (sml_lit _ (by decide +kernel)) fun s hs => ?_
  have hs := (List.mem_filter.mp hs).1
  unfold allT at hs
  simp only [List.mem_cons, List.not_mem_nil, or_false] at hs
  rcases hs with rfl | rfl | rfl | rfl | rfl | rfl | rfl | rfl
  · unfold partT
    exact sml_app (sml_app (sml_app (sml_tn ⟨by omega, by omega⟩) (sml_lit _ (by decide +kernel))) (sml_tn ⟨by omega, by omega⟩)) (sml_lit _ (by decide +kernel))
  · exact sml_cnt (sml_lit _ (by decide +kernel)) ⟨by omega, by omega⟩
  · split
    · exact sml_lit _ (by decide +kernel)
    · exact sml_lit _ (by decide +kernel)
  · exact sml_cnt (sml_lit _ (by decide +kernel)) ⟨by omega, by omega⟩
  · exact sml_kept ok.bnd
  · exact sml_cnt (sml_lit _ (by decide +kernel)) ⟨by omega, by omega⟩
  · exact sml_cnt (sml_lit _ (by decide +kernel)) ⟨by omega, by omega⟩
  · exact sml_cnt (sml_lit _ (by decide +kernel)) ⟨by omega, by omega⟩
theorem sml_name {s : Str} (h : nameS s = true) : Sml s := fun c hc => by
  unfold nameS at h
  rw [Bool.and_eq_true] at h
  have h2 := h.2
  unfold madeOf at h2
  rw [Bool.and_eq_true, List.all_eq_true] at h2
  have := (letters_in c).mp (of_decide_eq_true (h2.2 c hc))
  exact Nat.lt_of_le_of_lt this.2 (by decide)
theorem sm_str {s : Str} (h : Sml s) (l : s.length ≤ 200) : Sm 1 2002 (.str s) := by
  refine ⟨by simp [PyData.showable], rfl, by simp [PyData.depth], ?_⟩
  rw [PyData.shown_str]
  have := PySem.StrLaws.reprText_len s h
  omega
theorem sm_many {k B N : Nat} {l : List PyData} (h : ∀ d ∈ l, Sm k B d) (hl : l.length ≤ N) : Sm (k + 1) (B * N + 2 * N + 3) (.list l) ∧ Sm (k + 1) (B * N + 2 * N + 3) (.tuple l) := by
  obtain ⟨a, b, c⟩ := all_seen (k := k) fun d hd => ⟨(h d hd).sh, (h d hd).di, (h d hd).de⟩
  obtain ⟨u, v⟩ := all_len (B := B) fun d hd => (h d hd).le
  have w := join_len ", " (PyData.shownAll l)
  have e3 : (Str.ofString ", ").length = 2 := rfl
  rw [v, e3] at w
  have e1 : (Str.ofString "[").length = 1 := rfl
  have e2 : (Str.ofString "]").length = 1 := rfl
  have u2 : B * l.length ≤ B * N := Nat.mul_le_mul_left B hl
  refine ⟨⟨by simp [PyData.showable, a], by simp [PyData.hasDict, b], by simp only [PyData.depth]; omega, ?_⟩, ⟨by simp [PyData.showable, a], by simp [PyData.hasDict, b], by simp only [PyData.depth]; omega, ?_⟩⟩
  · rw [PyData.shown_list, len_app, len_app, e1, e2]
    omega
  · have e4 : (Str.ofString (if (l.length == 1) = true then ",)" else ")")).length ≤ 2 := by split <;> decide +kernel
    have e5 : (Str.ofString "(").length = 1 := rfl
    rw [PyData.shown_tuple, len_app, len_app, e5]
    omega
theorem word_sml : ∀ p ∈ tab_FORMS, (TL.tl p.1).all (fun c => decide (c < 128)) = true ∧ p.1.length ≤ 6 := by decide +kernel
theorem arg_sm {s : Str} {x : Arg} (h : fits s x) : Sm 1 2002 x.d := by
  cases x with
  | nm y =>
    have := name_len h.1
    exact sm_str (sml_name h.1) (by omega)
  | tx f => exact sm_str (sml_txt h.1) (by have := txt_200 h.1; omega)
  | pn n =>
    obtain ⟨h1, h2⟩ := h
    have : n ≤ 100000000 := by omega
    refine ⟨?_, rfl, by simp [Arg.d, PyData.depth], ?_⟩
    · have : n.natAbs.log2 < 1920 := by
        have : n.natAbs.log2 < 30 := (Nat.log2_lt (by omega)).mpr (by show n.natAbs < 1073741824; omega)
        omega
      simp [Arg.d, PyData.showable, this]
    · have e1 : PyData.shown (.int n) = Str.ofString (toString n) := by simp only [PyData.shown]
      show (PyData.shown (.int n)).length ≤ 2002
      rw [e1]
      exact Nat.le_trans (PyProof.Rows.toString_length_le (v := n) (by omega) (k := 10) (by decide) (by show n < 10000000000; omega)) (by decide)
theorem deed_sm {w : Str} {xs : List Arg} {ss : List Str} (dd : Deed w xs ss) : Sm 2 9000 (deedD w xs) := by
  have l3 : ss.length ≤ 3 := (shape_ss _ (look_mem dd.look)).1
  obtain ⟨w1, w2⟩ := word_sml _ (look_mem dd.look)
  have hl := dd.len
  refine (sm_many (k := 1) (B := 2002) (N := 4) (fun d hd => ?_) (by rw [List.length_cons, List.length_map]; omega)).2.mono (Nat.le_refl _) (by decide)
  rcases List.mem_cons.mp hd with z | z
  · rw [z]
    exact sm_str (sml_lit _ w1) (Nat.le_trans w2 (by decide))
  · obtain ⟨x, hx, rfl⟩ := List.mem_map.mp z
    obtain ⟨i, hi, e⟩ := List.mem_iff_getElem.mp hx
    have h1 : xs[i]? = some x := by rw [List.getElem?_eq_getElem hi, e]
    have h2 : ss[i]? = some ss[i] := List.getElem?_eq_getElem (by omega)
    exact arg_sm (dd.fit i x _ h1 h2)
def pairD (p : Str × Str) : PyData := .tuple [.str p.1, .str p.2]
theorem pairs_dp {K : PySem.W.Frag} {H : Hp} : ∀ {S : List (Addr × (Str × Str))}, RowsAt pairS H S → DpAll K H (refs S) ((S.map (·.2)).map pairD)
  | [], _ => .nil
  | q :: r, h => .cons (.tup (SqT.of (h q List.mem_cons_self)) (.cons (.str _) (.cons (.str _) .nil))) (pairs_dp (S := r) fun x hx => h x (List.mem_cons_of_mem _ hx))
theorem sort_sml : ∀ p ∈ tab_FORMS, ∀ s ∈ p.2, (TL.tl s).all (fun c => decide (c < 128)) = true ∧ s.length ≤ 6 := by decide +kernel
theorem pairs_thin : ∀ ps : List (Str × Str), PyData.depthAll (ps.map pairD) ≤ 2 ∧ thinAll (ps.map pairD) = true
  | [] => ⟨by simp [PyData.depthAll], rfl⟩
  | p :: r => by
    obtain ⟨a, b⟩ := pairs_thin r
    rw [List.map_cons]
    refine ⟨?_, ?_⟩
    · simp only [pairD, PyData.depthAll, PyData.depth]
      omega
    · simp only [pairD, thinAll, thin, b, Bool.and_true]
      exact decide_eq_true (by show 2 ≤ 1000; decide)
/-! ### is_rule_text -/
abbrev s_is_rule_text : Stmt := topS 40
abbrev N_is_rule_text : List Str := ["text"]
theorem sc_is_rule_text : FnScope N_is_rule_text ["text"] (defScope s_is_rule_text) := ⟨rfl, rfl, rfl, by decide +kernel, rfl, by decide +kernel, by decide +kernel⟩
def sp_is_rule_text (K : PySem.W.Frag) (C2 : CB2) (CR : Addr) : Sp := fun vs H Q _ => ∃ (t : Str), vs = [.str t] ∧ Asc t ∧ t.length ≤ 500 ∧ ∀ H', Same H H' → Q (.bl (ruleB t)) H'
theorem ok_is_rule_text {f : Addr} {fd : FuncData} (F : Fun K "is_rule_text" "is_rule_text" s_is_rule_text f fd) (g : mg "is_rule_text" = some (.ref f)) (bd : Binds K fd ["text"] []) {C2 : CB2} (TB : TB2 K mg C2) (XR : CEv P w K mg base C2.b 1 "BadRule" "word") (XC : CEv P w K mg base C2.c 1 "BadClause" "place") {CR : Addr} (TQ : TEq K mg CR "Rule") (T_Rule : TRule K mg CR) (C_read_rule : CFx P w K mg base 8 "read_rule" ["text"] (sp_read_rule K C2 CR)) : CF P w K mg base 9 "is_rule_text" ["text"] (sp_is_rule_text K C2 CR) := by
  refine ⟨f, fd, F.ok sc_is_rule_text (fun vs H Q E h => ?_) (fun cdv A outer s H vs Q E hr h => ?_), g, F.kp, bd⟩
  · first | (obtain ⟨_, rfl, _⟩ := h; rfl) | (obtain ⟨_, _, rfl, _⟩ := h; rfl) | (obtain ⟨_, _, _, rfl, _⟩ := h; rfl) | (obtain ⟨_, _, _, _, rfl, _⟩ := h; rfl) | (obtain ⟨_, _, _, _, _, rfl, _⟩ := h; rfl) | (obtain ⟨_, _, _, _, _, _, rfl, _⟩ := h; rfl) | (obtain ⟨_, _, _, _, _, _, _, rfl, _⟩ := h; rfl) | (obtain ⟨_, _, _, _, _, _, _, _, rfl, _⟩ := h; rfl) | (obtain ⟨_, _, _, _, _, _, _, _, _, rfl, _⟩ := h; rfl) | (obtain ⟨_, _, _, _, _, _, _, _, _, _, rfl, _⟩ := h; rfl) | (obtain ⟨_, _, _, _, _, _, _, _, _, _, _, rfl, _⟩ := h; rfl) | (obtain ⟨_, _, _, _, _, _, _, _, _, _, _, _, rfl, _⟩ := h; rfl) | (obtain ⟨_, _, _, _, _, _, _, _, _, _, _, _, _, rfl, _⟩ := h; rfl) | (obtain ⟨_, _, _, _, _, _, _, _, _, _, _, _, _, _, rfl, _⟩ := h; rfl) | (obtain ⟨_, _, _, _, _, _, _, _, _, _, _, _, _, _, _, rfl, _⟩ := h; rfl)
  · have hu64 := hr.units
    obtain ⟨t, rfl, hA, hz, q⟩ := h
    refine ⟨_, (pss_cons (ps_try_only rfl rfl ⟨rfl, by decide, .inl TB.gc⟩ takes_none5 (fun W pn xe tk _ =>
          (pss_one (ps_expr (pe_cfx C_read_rule (hr.mono (by decide)) tk (by rfl) (pa_cons (pv 0) pa_nil)))))
          (fun _ _ _ _ _ _ _ => (pss_one (ps_ret pe_bl))))
      (pss_one (ps_ret pe_bl))), ?_⟩
    refine ⟨_, rfl, t, rfl, hA, hz, fun f ok hc H2 r s2 R2 => ?_, fun k hk H2 d s2 nd hd => ?_⟩
    · have := q H2 s2
      rw [ruleB_t ⟨f, ok, hc⟩] at this
      exact this
    · have := fun G s => q G s
      rw [ruleB_f (bad_not hk)] at this
      exact ⟨true, TB.xc, fun _ a na => this _ s2, fun h => nomatch h⟩
/-! ### is_of_sort -/
abbrev s_is_of_sort : Stmt := topS 39
abbrev N_is_of_sort : List Str := ["thing", "sort"]
theorem sc_is_of_sort : FnScope N_is_of_sort ["thing", "sort"] (defScope s_is_of_sort) := ⟨rfl, rfl, rfl, by decide +kernel, rfl, by decide +kernel, by decide +kernel⟩
def sp_is_of_sort (K : PySem.W.Frag) (C2 : CB2) (CR : Addr) : Sp := fun vs H Q _ => ∃ (x : V) (d : PyData) (s : Str), vs = [x, .str s] ∧ Dp K H x d ∧ okS d ∧ ∀ H', Same H H' → Q (.bl (sortD s d)) H'
theorem ok_is_of_sort {f : Addr} {fd : FuncData} (F : Fun K "is_of_sort" "is_of_sort" s_is_of_sort f fd) (g : mg "is_of_sort" = some (.ref f)) (bd : Binds K fd ["thing", "sort"] []) {C2 : CB2} (TB : TB2 K mg C2) (XR : CEv P w K mg base C2.b 1 "BadRule" "word") (XC : CEv P w K mg base C2.c 1 "BadClause" "place") {CR : Addr} (TQ : TEq K mg CR "Rule") (T_Rule : TRule K mg CR) (m_isinstance : mg "isinstance" = none) (m_str : mg "str" = none) {t_MOST_PRICE : Tok} (g_MOST_PRICE : mg "MOST_PRICE" = some (.int 1000000 t_MOST_PRICE)) {t_MOST_DEBT : Tok} (g_MOST_DEBT : mg "MOST_DEBT" = some (.int 100000000 t_MOST_DEBT)) (C_is_rule_text : CF P w K mg base 9 "is_rule_text" ["text"] (sp_is_rule_text K C2 CR)) (C_is_number_in : CF P w K mg base 1 "is_number_in" ["thing", "low", "high"] (sp_is_number_in K)) (C_is_name : CF P w K mg base 2 "is_name" ["thing"] (sp_is_name K)) : CF P w K mg base 10 "is_of_sort" ["thing", "sort"] (sp_is_of_sort K C2 CR) := by
  refine ⟨f, fd, F.ok sc_is_of_sort (fun vs H Q E h => ?_) (fun cdv A outer s H vs Q E hr h => ?_), g, F.kp, bd⟩
  · first | (obtain ⟨_, rfl, _⟩ := h; rfl) | (obtain ⟨_, _, rfl, _⟩ := h; rfl) | (obtain ⟨_, _, _, rfl, _⟩ := h; rfl) | (obtain ⟨_, _, _, _, rfl, _⟩ := h; rfl) | (obtain ⟨_, _, _, _, _, rfl, _⟩ := h; rfl) | (obtain ⟨_, _, _, _, _, _, rfl, _⟩ := h; rfl) | (obtain ⟨_, _, _, _, _, _, _, rfl, _⟩ := h; rfl) | (obtain ⟨_, _, _, _, _, _, _, _, rfl, _⟩ := h; rfl) | (obtain ⟨_, _, _, _, _, _, _, _, _, rfl, _⟩ := h; rfl) | (obtain ⟨_, _, _, _, _, _, _, _, _, _, rfl, _⟩ := h; rfl) | (obtain ⟨_, _, _, _, _, _, _, _, _, _, _, rfl, _⟩ := h; rfl) | (obtain ⟨_, _, _, _, _, _, _, _, _, _, _, _, rfl, _⟩ := h; rfl) | (obtain ⟨_, _, _, _, _, _, _, _, _, _, _, _, _, rfl, _⟩ := h; rfl) | (obtain ⟨_, _, _, _, _, _, _, _, _, _, _, _, _, _, rfl, _⟩ := h; rfl) | (obtain ⟨_, _, _, _, _, _, _, _, _, _, _, _, _, _, _, rfl, _⟩ := h; rfl)
  · have hu64 := hr.units
    obtain ⟨x, d, s9, rfl, hd, hz, q⟩ := h
    refine ⟨_, (pss_cons (ps_if (pt_cmpR op_eq (pv 1) pe_str (nomark _))
         (pss_one (ps_ret (pe_and (pe_callB (kk_isi K) (by rfl) m_isinstance (by decide +kernel) (pa_cons (pv 0) (pa_cons (pe_bltn (v := .ty "str") (by rfl) m_str (by decide +kernel) rfl) pa_nil))) (pe_one (pe_cf C_is_rule_text (hr.mono (by decide)) (by rfl) (pa_cons (pv 0) pa_nil))))))
         pss_nil)
      (pss_cons (ps_if (pt_cmpR op_eq (pv 1) pe_str (nomark _))
         (pss_one (ps_ret (pe_cf C_is_number_in (hr.mono (by decide)) (by rfl) (pa_cons (pv 0) (pa_cons pe_int (pa_cons (pe_glob (v := .int 1000000) (by rfl) g_MOST_PRICE ⟨_, rfl⟩) pa_nil))))))
         pss_nil)
      (pss_cons (ps_if (pt_cmpR op_eq (pv 1) pe_str (nomark _))
         (pss_one (ps_ret (pe_cf C_is_number_in (hr.mono (by decide)) (by rfl) (pa_cons (pv 0) (pa_cons pe_int (pa_cons (pe_glob (v := .int 100000000) (by rfl) g_MOST_DEBT ⟨_, rfl⟩) pa_nil))))))
         pss_nil)
      (pss_one (ps_ret (pe_cf C_is_name (hr.mono (by decide)) (by rfl) (pa_cons (pv 0) pa_nil))))))), ?_⟩
    have st : ∀ z : Str, V.str s9 = V.str z ↔ s9 = z := fun z => ⟨V.str.inj, congrArg V.str⟩
    refine ⟨_, rfl, rfl, _, rfl, ?_⟩
    by_cases c1 : V.str s9 = V.str (Str.ofString "text")
    · have e : sortD s9 d = textD d := if_pos (V.str.inj c1)
      rw [e] at q
      refine iteY c1 ⟨_, rfl, _, _, _, _, _, rfl, .ty _, ty_of_dp hd, kit_d (T := "str") (by decide) _, _, rfl, ?_⟩
      cases hd with
      | str t => exact iteT ⟨_, rfl, t, rfl, (hz t rfl).1, (hz t rfl).2, fun H1 s1 => q H1 s1⟩
      | non => exact iteF (q H (Same.refl H))
      | bl b => exact iteF (q H (Same.refl H))
      | int i => exact iteF (q H (Same.refl H))
      | lst a b => exact iteF (q H (Same.refl H))
      | tup a b => exact iteF (q H (Same.refl H))
    refine iteN c1 ⟨_, rfl, rfl, _, rfl, ?_⟩
    have n1 : s9 ≠ Str.ofString "text" := fun z => c1 (congrArg V.str z)
    by_cases c2 : V.str s9 = V.str (Str.ofString "price")
    · have e : sortD s9 d = numIn d 1 1000000 := by unfold sortD; rw [if_neg n1, if_pos (V.str.inj c2)]
      rw [e] at q
      exact iteY c2 ⟨_, rfl, x, d, 1, 1000000, rfl, hd, q H (Same.refl H)⟩
    refine iteN c2 ⟨_, rfl, rfl, _, rfl, ?_⟩
    have n2 : s9 ≠ Str.ofString "price" := fun z => c2 (congrArg V.str z)
    by_cases c3 : V.str s9 = V.str (Str.ofString "debt")
    · have e : sortD s9 d = numIn d 1 100000000 := by unfold sortD; rw [if_neg n1, if_neg n2, if_pos (V.str.inj c3)]
      rw [e] at q
      exact iteY c3 ⟨_, rfl, x, d, 1, 100000000, rfl, hd, q H (Same.refl H)⟩
    have n3 : s9 ≠ Str.ofString "debt" := fun z => c3 (congrArg V.str z)
    have e : sortD s9 d = nameD d := by unfold sortD; rw [if_neg n1, if_neg n2, if_neg n3]
    rw [e] at q
    exact iteN c3 ⟨_, rfl, x, d, rfl, hd, fun s z => by have := (hz s z).2; omega, q⟩
/-! ### is_deed -/
abbrev s_is_deed : Stmt := topS 38
abbrev N_is_deed : List Str := ["thing", "sorts", "things", "one", "sort", "houses", "name"]
theorem sc_is_deed : FnScope N_is_deed ["thing"] (defScope s_is_deed) := ⟨rfl, rfl, rfl, by decide +kernel, rfl, by decide +kernel, by decide +kernel⟩
theorem sortsB_snoc {s : Str} {d : PyData} : ∀ {i : Nat} {ss : List Str} {ds : List PyData}, ss[i]? = some s → ds[i]? = some d → sortsB (ss.take (i + 1)) (ds.take (i + 1)) = (sortsB (ss.take i) (ds.take i) && sortD s d)
  | _, [], _, h, _ => by simp at h
  | _, _ :: _, [], _, h => by simp at h
  | 0, s2 :: ss, d2 :: ds, h1, h2 => by
    cases h1
    cases h2
    simp [sortsB]
  | i + 1, s2 :: ss, d2 :: ds, h1, h2 => by
    have ih := sortsB_snoc (i := i) (ss := ss) (ds := ds) h1 h2
    show (sortD s2 d2 && sortsB (ss.take (i + 1)) (ds.take (i + 1))) = ((sortD s2 d2 && sortsB (ss.take i) (ds.take i)) && sortD s d)
    rw [ih, Bool.and_assoc]
def sp_is_deed (K : PySem.W.Frag) (C2 : CB2) (CR : Addr) : Sp := fun vs H Q _ => ∃ (x : V) (d : PyData), vs = [x] ∧ Dp K H x d ∧ Tame d ∧ ∀ H', Same H H' → Q (.bl (deedB d)) H'
theorem ok_is_deed {f : Addr} {fd : FuncData} (F : Fun K "is_deed" "is_deed" s_is_deed f fd) (g : mg "is_deed" = some (.ref f)) (bd : Binds K fd ["thing"] []) {C2 : CB2} (TB : TB2 K mg C2) (XR : CEv P w K mg base C2.b 1 "BadRule" "word") (XC : CEv P w K mg base C2.c 1 "BadClause" "place") {CR : Addr} (TQ : TEq K mg CR "Rule") (T_Rule : TRule K mg CR) (m_isinstance : mg "isinstance" = none) (m_str : mg "str" = none) (m_len : mg "len" = none) (m_tuple : mg "tuple" = none) (m_all : mg "all" = none) (m_zip : mg "zip" = none) (m_set : mg "set" = none) {A_FORMS : Addr} (g_FORMS : mg "FORMS" = some (.ref A_FORMS)) (q_FORMS : KTab w K A_FORMS tab_FORMS) (C_is_of_sort : CF P w K mg base 10 "is_of_sort" ["thing", "sort"] (sp_is_of_sort K C2 CR)) (C_names_in : CF P w K mg base 1 "names_in" ["deed"] (sp_names_in K)) : CF P w K mg base 11 "is_deed" ["thing"] (sp_is_deed K C2 CR) := by
  refine ⟨f, fd, F.ok sc_is_deed (fun vs H Q E h => ?_) (fun cdv A outer s H vs Q E hr h => ?_), g, F.kp, bd⟩
  · first | (obtain ⟨_, rfl, _⟩ := h; rfl) | (obtain ⟨_, _, rfl, _⟩ := h; rfl) | (obtain ⟨_, _, _, rfl, _⟩ := h; rfl) | (obtain ⟨_, _, _, _, rfl, _⟩ := h; rfl) | (obtain ⟨_, _, _, _, _, rfl, _⟩ := h; rfl) | (obtain ⟨_, _, _, _, _, _, rfl, _⟩ := h; rfl) | (obtain ⟨_, _, _, _, _, _, _, rfl, _⟩ := h; rfl) | (obtain ⟨_, _, _, _, _, _, _, _, rfl, _⟩ := h; rfl) | (obtain ⟨_, _, _, _, _, _, _, _, _, rfl, _⟩ := h; rfl) | (obtain ⟨_, _, _, _, _, _, _, _, _, _, rfl, _⟩ := h; rfl) | (obtain ⟨_, _, _, _, _, _, _, _, _, _, _, rfl, _⟩ := h; rfl) | (obtain ⟨_, _, _, _, _, _, _, _, _, _, _, _, rfl, _⟩ := h; rfl) | (obtain ⟨_, _, _, _, _, _, _, _, _, _, _, _, _, rfl, _⟩ := h; rfl) | (obtain ⟨_, _, _, _, _, _, _, _, _, _, _, _, _, _, rfl, _⟩ := h; rfl) | (obtain ⟨_, _, _, _, _, _, _, _, _, _, _, _, _, _, _, rfl, _⟩ := h; rfl)
  · have hu64 := hr.units
    obtain ⟨x, d, rfl, hd, tm, q⟩ := h
    refine ⟨_, (pss_cons (ps_if (PW.pt (pw_or (pt_not (pt_val (pe_callB (kk_isi K) (by rfl) m_isinstance (by decide +kernel) (pa_cons (pv 0) (pa_cons (pe_bltn (v := .ty "tuple") (by rfl) m_tuple (by decide +kernel) rfl) pa_nil))))) (pw_or (pt_cmpR op_eq (pe_callB (kk_len K) (by rfl) m_len PySem.boot_len (pa_cons (pv 0) pa_nil)) pe_int (nomark _)) (pw_or (pt_not (pt_val (pe_callB (kk_isi K) (by rfl) m_isinstance (by decide +kernel) (pa_cons (pe_ix (kk_ixt K) (pv 0) pe_int (fun _ _ => rfl)) (pa_cons (pe_bltn (v := .ty "str") (by rfl) m_str (by decide +kernel) rfl) pa_nil))))) (pw_or1 (pt_cmp (pc_tnotin q_FORMS (pe_ix (kk_ixt K) (pv 0) pe_int (fun _ _ => rfl)) (pe_glob (v := .ref A_FORMS) (by rfl) g_FORMS rfl)) (by rfl)))))))
         (pss_one (ps_ret pe_bl))
         pss_nil)
      (pss_cons (ps_set (i := 1) sc_is_deed.nd rfl (.inl rfl) (pe_tget q_FORMS (pe_glob (v := .ref A_FORMS) (by rfl) g_FORMS rfl) (pe_ix (kk_ixt K) (pv 0) pe_int (fun _ _ => rfl)) (fun _ _ => rfl)))
      (pss_cons (ps_set (i := 2) sc_is_deed.nd rfl (.inl rfl) (pe_slice (kk_slt K) (pv 0) (po_some pe_int) po_none))
      (pss_cons (ps_if (PW.pt (pw_or (pt_cmpR op_ne (pe_callB (kk_len K) (by rfl) m_len PySem.boot_len (pa_cons (pv 2) pa_nil)) (pe_callB (kk_len K) (by rfl) m_len PySem.boot_len (pa_cons (pv 1) pa_nil)) (nomark _)) (pw_or1 (pt_not (pt_val (pe_callB (kk_all K rfl) (by rfl) m_all (by decide +kernel) (pa_cons (pe_lc (own := [("one", 3), ("sort", 4)]) (g := (gTup K 2 (gCons (gName 3) (gCons (gName 4) gNil)))) (tt := tYes) rfl sc_is_deed.nd (RZ.pi_zipA (by rfl) m_zip (pa_cons (pv 2) (pa_cons (pv 1) pa_nil))) (blkOk_by (own := [("one", 3), ("sort", 4)]) (N := N_is_deed) (sc := defScope s_is_deed) (by decide +kernel)) (fun _ _ _ _ _ => (pg_tup (by rfl) (pgs_cons (pg_name (i := 3) sc_is_deed.nd rfl (.inl rfl)) (pgs_cons (pg_name (i := 4) sc_is_deed.nd rfl (.inl rfl)) pgs_nil)))) (fun _ _ _ _ _ => pts_nil) (fun _ _ _ _ _ => (pe_cf C_is_of_sort (hr.mono (by decide)) (by rfl) (pa_cons (pv 3) (pa_cons (pv 4) pa_nil))))) pa_nil)))))))
         (pss_one (ps_ret pe_bl))
         pss_nil)
      (pss_cons (ps_setLc (i := 5) (own := [("sort", 4), ("name", 6)]) (g := (gTup K 2 (gCons (gName 4) (gCons (gName 6) gNil)))) rfl sc_is_deed.nd rfl rfl (sw_true rfl rfl rfl (by decide +kernel)) (pi_list (pe_cf C_names_in (hr.mono (by decide)) (by rfl) (pa_cons (pv 0) pa_nil))) (blkOk_by (own := [("sort", 4), ("name", 6)]) (N := N_is_deed) (sc := defScope s_is_deed) (by decide +kernel)) (fun _ _ _ _ _ => (pg_tup (by rfl) (pgs_cons (pg_name (i := 4) sc_is_deed.nd rfl (.inl rfl)) (pgs_cons (pg_name (i := 6) sc_is_deed.nd rfl (.inl rfl)) pgs_nil)))) (fun _ _ _ _ _ => (pts_one (pt_cmpR op_eq (pv 4) pe_str (nomark _)))) (fun _ _ _ _ _ => (pv 6)))
      (pss_one (ps_ret (pe_cmpR op_eq (pe_lenSetD (by rfl) m_len (by rfl) m_set (pv 5)) (pe_callB (kk_len K) (by rfl) m_len PySem.boot_len (pa_cons (pv 5) pa_nil)) (nomark _))))))))), ?_⟩
    have q0 : deedB d = false → ∀ G, Same H G → Q (.bl false) G := fun e G s => by
      have := q G s
      rw [e] at this
      exact this
    refine ⟨_, rfl, _, _, _, _, _, rfl, .ty _, ty_of_dp hd, kit_d (T := "tuple") (by decide) _, _, rfl, ?_⟩
    cases hd with
    | str t => exact iteT (q0 rfl H (Same.refl H))
    | non => exact iteT (q0 rfl H (Same.refl H))
    | bl b => exact iteT (q0 rfl H (Same.refl H))
    | int i => exact iteT (q0 rfl H (Same.refl H))
    | lst a b => exact iteT (q0 rfl H (Same.refl H))
    | @tup t vs ds hT hA =>
      obtain ⟨l20, oks⟩ := tm.t ds rfl
      have hlen := dpAll_len hA
      refine iteF ⟨_, rfl, t, _, rfl, .inr hT, rfl, _, rfl, ?_⟩
      match vs, ds, hA with
      | [], _, .nil => exact iteY rfl (q0 rfl H (Same.refl H))
      | v0 :: vr, d0 :: dr, .cons h0 hr =>
        rw [decide_eq_false (fun z : V.int (((v0 :: vr).length : Nat) : Int) = V.int 0 => by
          have := V.int.inj z
          rw [List.length_cons] at this
          omega)]
        refine iteF ⟨_, rfl, t, _, _, _, rfl, rfl, hT, at0, _, _, _, _, _, rfl, .ty _, ty_of_dp h0, kit_d (T := "str") (by decide) _, _, rfl, ?_⟩
        cases h0 with
        | non => exact iteT (q0 rfl H (Same.refl H))
        | bl b => exact iteT (q0 rfl H (Same.refl H))
        | int i => exact iteT (q0 rfl H (Same.refl H))
        | lst a b => exact iteT (q0 rfl H (Same.refl H))
        | tup a b => exact iteT (q0 rfl H (Same.refl H))
        | str w9 =>
          refine iteF ⟨_, rfl, t, _, _, _, rfl, rfl, hT, at0, w9, rfl, _, rfl, ?_⟩
          cases look : tab_FORMS.lookup w9 with
          | none => exact iteT (q0 (by show (match tab_FORMS.lookup w9 with | some ss => _ | none => false) = false; rw [look]) H (Same.refl H))
          | some ss =>
            have eD : deedB (.tuple (.str w9 :: dr)) = (decide (dr.length = ss.length) && sortsB ss dr && decide (housesL ss dr).Nodup) := by
              show (match tab_FORMS.lookup w9 with | some ss => _ | none => false) = _
              rw [look]
            have mm := look_mem look
            have l3 : ss.length ≤ 3 := (shape_ss _ mm).1
            have l1 : 1 ≤ ss.length := (shape_ss _ mm).2
            have hlen2 : vr.length = dr.length := dpAll_len hr
            refine iteF ⟨_, rfl, t, _, _, _, rfl, rfl, hT, at0, w9, ss, rfl, look, fun tS hS => ?_⟩
            refine ⟨_, rfl, _, rfl, t, _, rfl, hT, ?_, fun u nu => ?_⟩
            · rintro ⟨z, _⟩
              have e1 : HT.sIx (V.str w9 :: vr).length 0 (some 1) = 1 := by
                show min 1 (vr.length + 1) = 1
                omega
              rw [e1] at z
              cases z
            rw [cut_one]
            have su := same_new (o := .tup vr) nu
            have hu := upd_same (H := H) (a := u) (o := .tup vr)
            have hT1 := seqT_same su hT
            have hr1 := dpAll_same su hr
            generalize upd H u (.tup vr) = H1 at *
            refine ⟨_, rfl, u, _, rfl, .inr (SqT.of hu), _, rfl, tS, _, rfl, .inr (hS _), rfl, _, rfl, ?_⟩
            rw [List.length_map]
            by_cases cl : V.int ((vr.length : Nat) : Int) = V.int ((ss.length : Nat) : Int)
            case neg =>
              rw [decide_eq_false cl]
              refine iteT (q0 ?_ H1 su)
              rw [eD, decide_eq_false (fun z => cl (by rw [hlen2, z])), Bool.false_and, Bool.false_and]
            have hl : vr.length = ss.length := by have := V.int.inj cl; omega
            have ll : (ss.map V.str).length = vr.length := by rw [List.length_map, hl]
            rw [decide_eq_true cl]
            refine iteF ⟨_, rfl, _, rfl, u, tS, _, _, rfl, .inr ⟨SqT.of hu, hS _, fun D nD => lc_gen (n := vr.length) (fun i G => Same H1 G ∧ ∃ bs : List Bool, bs.length = i ∧ G D = some (.lst (bs.map V.bl)) ∧ bs.all id = sortsB (ss.take i) (dr.take i)) ⟨same_new nD, [], rfl, upd_same, rfl⟩ (fun i G h => ?_) (fun i G v G2 hi h hy => ?_) (fun G h => ?_)⟩⟩
            · exact canT (i := i) (xs := vr) (ys := ss.map V.str) ll.symm (SqT.of (h.1 _ _ hu)) (hS G)
            · obtain ⟨T, x', y', rfl, hT2, rfl, f1, f2⟩ := hy
              obtain ⟨h1, bs, hbl, h2, h3⟩ := h
              have g1 := f1 _ (SqT.of (h1 _ _ hu))
              have g2 := f2 _ (hS G)
              rw [List.getElem?_map] at g2
              obtain ⟨s9, hs9, rfl⟩ := Option.map_eq_some_iff.mp g2
              obtain ⟨d9, hd9, hdp⟩ := dpAll_get hr1 g1
              have sT := same_new (o := .tup [x', .str s9]) hT2
              refine ⟨T, _, rfl, SqT.of upd_same, rfl, _, _, rfl, _, _, rfl, rfl, rfl, _, rfl, _, rfl, x', d9, s9, rfl, dp_same (h1.trans sT) hdp, oks _ (List.mem_cons_of_mem _ (List.mem_of_getElem? hd9)), fun G3 s3 => ?_⟩
              refine ⟨_, s3 _ _ (sT _ _ h2), ?_, ?_, bs ++ [sortD s9 d9], ?_, ?_, ?_⟩
              · rw [List.length_map, hbl]
                exact small1000 (by omega)
              · exact fun c o e => by
                  rw [upd_ne (ne_of_none e nD)]
                  exact s3 _ _ (sT _ _ (h1 _ _ e))
              · rw [List.length_append, hbl]
                rfl
              · rw [upd_same, List.map_append]
                rfl
              · rw [List.all_append, h3, sortsB_snoc hs9 hd9]
                simp
            obtain ⟨h1, bs, hbl, h2, h3⟩ := h
            rw [hl, List.take_of_length_le (Nat.le_refl _), List.take_of_length_le (by omega)] at h3
            refine ⟨D, _, rfl, SqL.of h2, ?_⟩
            rw [h3]
            cases hB : sortsB ss dr with
            | false =>
              refine ⟨_, rfl, iteT (q0 ?_ G (su.trans h1))⟩
              rw [eD, hB, Bool.and_false, Bool.false_and]
            | true =>
            refine ⟨_, rfl, iteF ?_⟩
            obtain ⟨xs, rfl, hlx, fit, hh⟩ := sorts_args (ss := ss) (tab_sorts _ mm) (by omega) hB
            have ev := dp_args hr
            subst ev
            refine ⟨_, rfl, t, w9, xs, ss, rfl, seqT_same h1 hT1, look, hlx, by omega, fit, fun H5 L S s5 nL hL hRS hm => ?_⟩
            have lS : S.length ≤ 3 := by
              rw [← List.length_map (f := (·.2)) (as := S), hm]
              have := namesOf_len ss xs
              omega
            refine ⟨L, rfl, ⟨_, SqL.of hL⟩, fun D2 nD2 => rows_lc (fun p : Str × Str => decide (p.1 = Str.ofString "house")) (fun q => V.str q.2.2) (jok_l (K := K) (SqL.of hL)) hRS (by omega) nD2 (fun q hq G sG hG Y N hy hn => ?_) (fun G sG hG => ?_)⟩
            · refine ⟨q.1, _, rfl, SqT.of hG, rfl, _, _, rfl, _, _, rfl, rfl, rfl, ?_⟩
              refine ⟨_, rfl, rfl, _, rfl, ?_⟩
              by_cases c : q.2.1 = Str.ofString "house"
              · rw [decide_eq_true (congrArg V.str c)]
                exact iteT ⟨_, rfl, hy (decide_eq_true c)⟩
              · rw [decide_eq_false (fun z => c (V.str.inj z))]
                exact iteF (hn (decide_eq_false c))
            have eh : (S.filter fun q => decide (q.2.1 = Str.ofString "house")).map (fun q => V.str q.2.2) = (housesOf (namesOf ss xs)).map V.str := by
              rw [← hm]
              unfold housesOf
              clear hm lS hL hRS hG
              induction S with
              | nil => rfl
              | cons q r ih =>
                rw [List.map_cons, List.filter_cons, List.filter_cons]
                by_cases c : q.2.1 = Str.ofString "house"
                · rw [if_pos (decide_eq_true c), if_pos (decide_eq_true c), List.map_cons, ih]
                  rfl
                · rw [if_neg (by rw [decide_eq_false c]; decide), if_neg (by rw [decide_eq_false c]; decide), ih]
            rw [eh, hh] at hG
            have lh : (housesL ss (xs.map Arg.d)).length ≤ 3 := by
              rw [← hh, List.length_map]
              have a := List.length_filter_le (fun p : Str × Str => decide (p.1 = Str.ofString "house")) (namesOf ss xs)
              have := namesOf_len ss xs
              omega
            refine ⟨_, rfl, D2, _, rfl, SqL.of hG, by omega, fun c c1 c2 => ⟨_, rfl, D2, _, rfl, .inl (SqL.of hG), rfl, ?_⟩⟩
            have qq := q G (((su.trans h1).trans s5).trans sG)
            rw [eD, hB, List.length_map, decide_eq_true hlx, Bool.true_and, Bool.true_and] at qq
            rw [List.length_map]
            by_cases nd : (housesL ss (xs.map Arg.d)).Nodup
            · rw [decide_eq_true nd] at qq
              rw [c2.mpr nd, decide_eq_true rfl]
              exact qq
            · rw [decide_eq_false nd] at qq
              rw [decide_eq_false (fun z => nd (c2.mp (by have := V.int.inj z; omega)))]
              exact qq
/-! ### parts of a deed that is spoilt -/
def grow (s : Str) : Nat := if 32 ∈ TL.tl s then s.length + 9 else 2 * s.length + 9
def BaseD (z : Nat) (m : Int) : PyData → Prop
  | .str s => Asc s ∧ s.length ≤ z
  | .int i => -m ≤ i ∧ i ≤ m
  | .bool _ => True
  | .none => True
  | _ => False
def InD (z : Nat) (m : Int) : PyData → Prop
  | .str s => Asc s ∧ grow s ≤ z
  | .int i => -m ≤ i ∧ i ≤ m
  | .bool _ => True
  | _ => False
def OutD (z : Nat) (m : Int) (d : PyData) : Prop := BaseD z m d ∨ ∃ e, BaseD z m e ∧ (d = .list [e] ∨ d = .tuple [e])
theorem cutS_le (s : Str) (lo hi : Option Int) : (cutS s lo hi).length ≤ s.length := by
  rw [TL.len_tl, TL.len_tl]
  show (List.take _ (List.drop _ (TL.tl s))).length ≤ _
  rw [List.length_take, List.length_drop]
  omega
theorem cut_sum (s : Str) {a : Int} (h : 0 ≤ a) : (cutS s none (some a)).length + (cutS s (some a) none).length ≤ s.length := by
  obtain ⟨k, rfl⟩ := Int.eq_ofNat_of_zero_le h
  rw [TL.len_tl, TL.len_tl, TL.len_tl]
  show (List.take (HT.sIx s.length s.length (some (k : Int)) - HT.sIx s.length 0 none) (List.drop (HT.sIx s.length 0 none) (TL.tl s))).length + (List.take (HT.sIx s.length s.length none - HT.sIx s.length 0 (some (k : Int))) (List.drop (HT.sIx s.length 0 (some (k : Int))) (TL.tl s))).length ≤ _
  rw [HT.sIx_nat, HT.sIx_nat, HT.sIx_none, HT.sIx_none, List.length_take, List.length_take, List.length_drop, List.length_drop, ← TL.len_tl]
  omega
theorem cut_sum2 (s : Str) {a : Int} (h : 0 ≤ a) : (cutS s none (some a)).length + (cutS s (some (a + 1)) none).length ≤ s.length := by
  obtain ⟨k, rfl⟩ := Int.eq_ofNat_of_zero_le h
  rw [show ((k : Int) + 1) = ((k + 1 : Nat) : Int) by omega]
  rw [TL.len_tl, TL.len_tl, TL.len_tl]
  show (List.take (HT.sIx s.length s.length (some (k : Int)) - HT.sIx s.length 0 none) (List.drop (HT.sIx s.length 0 none) (TL.tl s))).length + (List.take (HT.sIx s.length s.length none - HT.sIx s.length 0 (some ((k + 1 : Nat) : Int))) (List.drop (HT.sIx s.length 0 (some ((k + 1 : Nat) : Int))) (TL.tl s))).length ≤ _
  rw [HT.sIx_nat, HT.sIx_nat, HT.sIx_none, HT.sIx_none, List.length_take, List.length_take, List.length_drop, List.length_drop, ← TL.len_tl]
  omega
theorem pick_all {P : V → Prop} {xs : List V} {r : Int} (h : ∀ v ∈ xs, P v) (h0 : 0 ≤ r) (h1 : r < xs.length) : ∃ v, atI xs r = some v ∧ P v := by
  obtain ⟨k, rfl⟩ := Int.eq_ofNat_of_zero_le h0
  have hk : k < xs.length := by omega
  exact ⟨xs[k], atI_nat (List.getElem?_eq_getElem hk), h _ (List.getElem_mem hk)⟩
theorem fa {P : V → Prop} {a : V} {l : List V} (h : P a) (t : ∀ v ∈ l, P v) : ∀ v ∈ a :: l, P v := List.forall_mem_cons.mpr ⟨h, t⟩
theorem fn {P : V → Prop} : ∀ v ∈ ([] : List V), P v := fun _ h => nomatch h
def PO (K : PySem.W.Frag) (b : Addr) (z : Nat) (m : Int) (H : Hp) (v : V) : Prop := ∃ e, Dp K (wo b H) v e ∧ OutD z m e
section
variable {K : PySem.W.Frag} {b : Addr} {z : Nat} {m : Int} {H : Hp}
theorem po_i {i : Int} (h1 : -m ≤ i) (h2 : i ≤ m) : PO K b z m H (.int i) := ⟨_, .int i, .inl ⟨h1, h2⟩⟩
theorem po_b (k : Bool) : PO K b z m H (.bl k) := ⟨_, .bl k, .inl trivial⟩
theorem po_n : PO K b z m H .non := ⟨_, .non, .inl trivial⟩
theorem po_s {s : Str} (h1 : Asc s) (h2 : s.length ≤ z) : PO K b z m H (.str s) := ⟨_, .str s, .inl ⟨h1, h2⟩⟩
theorem po_t {T : Addr} {v : V} {e : PyData} (n : T ≠ b) (h : H T = some (.tup [v])) (hv : Dp K (wo b H) v e) (hb : BaseD z m e) : PO K b z m H (.ref T) := ⟨.tuple [e], .tup (SqT.of (wo_at n h)) (.cons hv .nil), .inr ⟨e, hb, .inr rfl⟩⟩
theorem po_l {T : Addr} {v : V} {e : PyData} (n : T ≠ b) (h : H T = some (.lst [v])) (hv : Dp K (wo b H) v e) (hb : BaseD z m e) : PO K b z m H (.ref T) := ⟨.list [e], .lst (SqL.of (wo_at n h)) (.cons hv .nil), .inr ⟨e, hb, .inl rfl⟩⟩
end
theorem name_asc {s : Str} (h : nameS s = true) : Asc s := fun c hc => by
  rw [name_iff, Bool.and_eq_true, List.all_eq_true] at h
  have := of_decide_eq_true (h.2 c hc)
  omega
theorem Asc.up {x : Str} (hx : Asc x) : Asc (Txt.upper x) ∧ (Txt.upper x).length = x.length := by
  rw [PyProof.Rows.upper_ascii hx]
  constructor
  · intro c hc
    have hc' : c ∈ (x.cps.map PyProof.Rows.up1).toList := hc
    rw [Array.toList_map] at hc'
    obtain ⟨d, hd, rfl⟩ := List.mem_map.mp hc'
    have := hx d hd
    unfold PyProof.Rows.up1
    split <;> omega
  · show (x.cps.map PyProof.Rows.up1).size = x.cps.size
    exact Array.size_map
/-! ### pence_text -/
abbrev s_pence_text : Stmt := topS 21
abbrev N_pence_text : List Str := ["pence", "crowns", "left"]
theorem sc_pence_text : FnScope N_pence_text ["pence"] (defScope s_pence_text) := ⟨rfl, rfl, rfl, by decide +kernel, rfl, by decide +kernel, by decide +kernel⟩
def sp_pence_text (K : PySem.W.Frag) : Sp := fun vs H Q _ => ∃ n : Nat, vs = [.int (n : Int)] ∧ n ≤ 1000000000 ∧ ∀ H', Same H H' → Q (.str (ptS n)) H'
theorem ok_pence_text {f : Addr} {fd : FuncData} (F : Fun K "pence_text" "pence_text" s_pence_text f fd) (g : mg "pence_text" = some (.ref f)) (bd : Binds K fd ["pence"] []) (zD : PySem.W.nsIn K cStatics "sys.int_max_str_digits" = some none) (m_divmod : mg "divmod" = none) {t_CROWN : Tok} (g_CROWN : mg "CROWN" = some (.int 60 t_CROWN)) : CF P w K mg base 1 "pence_text" ["pence"] (sp_pence_text K) := by
  refine ⟨f, fd, F.ok sc_pence_text (fun vs H Q E h => ?_) (fun cdv A outer s H vs Q E hr h => ?_), g, F.kp, bd⟩
  · first | (obtain ⟨_, rfl, _⟩ := h; rfl) | (obtain ⟨_, _, rfl, _⟩ := h; rfl) | (obtain ⟨_, _, _, rfl, _⟩ := h; rfl) | (obtain ⟨_, _, _, _, rfl, _⟩ := h; rfl) | (obtain ⟨_, _, _, _, _, rfl, _⟩ := h; rfl) | (obtain ⟨_, _, _, _, _, _, rfl, _⟩ := h; rfl) | (obtain ⟨_, _, _, _, _, _, _, rfl, _⟩ := h; rfl) | (obtain ⟨_, _, _, _, _, _, _, _, rfl, _⟩ := h; rfl) | (obtain ⟨_, _, _, _, _, _, _, _, _, rfl, _⟩ := h; rfl) | (obtain ⟨_, _, _, _, _, _, _, _, _, _, rfl, _⟩ := h; rfl) | (obtain ⟨_, _, _, _, _, _, _, _, _, _, _, rfl, _⟩ := h; rfl) | (obtain ⟨_, _, _, _, _, _, _, _, _, _, _, _, rfl, _⟩ := h; rfl) | (obtain ⟨_, _, _, _, _, _, _, _, _, _, _, _, _, rfl, _⟩ := h; rfl) | (obtain ⟨_, _, _, _, _, _, _, _, _, _, _, _, _, _, rfl, _⟩ := h; rfl) | (obtain ⟨_, _, _, _, _, _, _, _, _, _, _, _, _, _, _, rfl, _⟩ := h; rfl)
  · have hu64 := hr.units
    obtain ⟨n, rfl, hn, q⟩ := h
    refine ⟨_, (pss_cons (ps_asg (pe_callB call_divmod (by rfl) m_divmod (by decide +kernel) (pa_cons (pv 0) (pa_cons (pe_glob (v := .int 60) (by rfl) g_CROWN ⟨_, rfl⟩) pa_nil))) (pg_tup (by rfl) (pgs_cons (pg_name (i := 1) sc_pence_text.nd rfl (.inl rfl)) (pgs_cons (pg_name (i := 2) sc_pence_text.nd rfl (.inl rfl)) pgs_nil))))
      (pss_one (ps_ret (pe_joined (PJ.cons (pe_fmt (pv 1)) (PJ.cons pe_str (PJ.cons (pe_fmt02 zD (pv 2)) PJ.nil))))))), ?_⟩
    refine ⟨_, rfl, _, _, rfl, ⟨by decide, by decide⟩, fun t ht => ?_⟩
    refine ⟨t, _, rfl, .inl (.inl upd_same), rfl, _, _, rfl, _, _, rfl, rfl, ?_⟩
    have hz : ∀ x y : Str, x.length ≤ 100 → y.length ≤ 100 → (x ++ y).length ≤ sizeLine := fun x y h1 h2 => by
      rw [len_app]
      exact size_small (by omega)
    have l1 : (Str.ofString (toString ((n : Int) / 60))).length ≤ 20 := by
      have e1 : ((n : Int) / 60) = ((n / 60 : Nat) : Int) := by omega
      rw [e1, TL.len_tl, TL.tl_num]
      have := TL.numL_len (n := n / 60) (k := 10) (by decide) (by omega)
      omega
    have l2 : (two ((n : Int) % 60)).length = 2 := by
      rw [TL.len_tl, tl_two (by omega) (by omega)]
      rfl
    refine ⟨_, rfl, .inr ⟨_, rfl, log_small (by omega), _, rfl, hz _ _ (by decide) (by omega), _, rfl, hz _ _ (by rw [len_app]; show 0 + _ ≤ 100; omega) (by decide), _, rfl, _, rfl, by omega, by omega, _, rfl, hz _ _ (by rw [len_app, len_app]; show 0 + _ + 1 ≤ 100; omega) (by omega), ?_⟩⟩
    rw [pcpt_made]
    exact q _ (same_new ht)
/-! ### pence_in -/
abbrev s_pence_in : Stmt := topS 22
abbrev N_pence_in : List Str := ["text", "crowns", "stroke", "left", "pence"]
theorem sc_pence_in : FnScope N_pence_in ["text"] (defScope s_pence_in) := ⟨rfl, rfl, rfl, by decide +kernel, rfl, by decide +kernel, by decide +kernel⟩
def sp_pence_in (K : PySem.W.Frag) : Sp := fun vs H Q _ => ∃ t : Str, vs = [.str t] ∧ t.length ≤ 1000 ∧ (∀ (n : Nat) H', n ≤ 1000000000 → t = ptS n → Same H H' → Q (.int (n : Int)) H') ∧ (∀ H', (∀ n : Nat, n ≤ 1000000000 → t ≠ ptS n) → Same H H' → Q .non H')
theorem ok_pence_in {f : Addr} {fd : FuncData} (F : Fun K "pence_in" "pence_in" s_pence_in f fd) (g : mg "pence_in" = some (.ref f)) (bd : Binds K fd ["text"] []) (m_len : mg "len" = none) (m_int : mg "int" = none) {t_LONGEST_SUM : Tok} (g_LONGEST_SUM : mg "LONGEST_SUM" = some (.int 60 t_LONGEST_SUM)) {t_FIGURES : Tok} (g_FIGURES : mg "FIGURES" = some (.str (Str.ofString "0123456789") t_FIGURES)) {t_CROWN : Tok} (g_CROWN : mg "CROWN" = some (.int 60 t_CROWN)) {t_MOST_PENCE : Tok} (g_MOST_PENCE : mg "MOST_PENCE" = some (.int 1000000000 t_MOST_PENCE)) (C_is_made_of : CF P w K mg base 1 "is_made_of" ["text", "signs"] (sp_is_made_of K)) (C_pence_text : CF P w K mg base 1 "pence_text" ["pence"] (sp_pence_text K)) : CF P w K mg base 2 "pence_in" ["text"] (sp_pence_in K) := by
  refine ⟨f, fd, F.ok sc_pence_in (fun vs H Q E h => ?_) (fun cdv A outer s H vs Q E hr h => ?_), g, F.kp, bd⟩
  · first | (obtain ⟨_, rfl, _⟩ := h; rfl) | (obtain ⟨_, _, rfl, _⟩ := h; rfl) | (obtain ⟨_, _, _, rfl, _⟩ := h; rfl) | (obtain ⟨_, _, _, _, rfl, _⟩ := h; rfl) | (obtain ⟨_, _, _, _, _, rfl, _⟩ := h; rfl) | (obtain ⟨_, _, _, _, _, _, rfl, _⟩ := h; rfl) | (obtain ⟨_, _, _, _, _, _, _, rfl, _⟩ := h; rfl) | (obtain ⟨_, _, _, _, _, _, _, _, rfl, _⟩ := h; rfl) | (obtain ⟨_, _, _, _, _, _, _, _, _, rfl, _⟩ := h; rfl) | (obtain ⟨_, _, _, _, _, _, _, _, _, _, rfl, _⟩ := h; rfl) | (obtain ⟨_, _, _, _, _, _, _, _, _, _, _, rfl, _⟩ := h; rfl) | (obtain ⟨_, _, _, _, _, _, _, _, _, _, _, _, rfl, _⟩ := h; rfl) | (obtain ⟨_, _, _, _, _, _, _, _, _, _, _, _, _, rfl, _⟩ := h; rfl) | (obtain ⟨_, _, _, _, _, _, _, _, _, _, _, _, _, _, rfl, _⟩ := h; rfl) | (obtain ⟨_, _, _, _, _, _, _, _, _, _, _, _, _, _, _, rfl, _⟩ := h; rfl)
  · have hu64 := hr.units
    obtain ⟨t, rfl, hz0, q1, q2⟩ := h
    refine ⟨_, (pss_cons (ps_if (pt_cmpR op_gt (pe_callB call_len_str (by rfl) m_len PySem.boot_len (pa_cons (pv 0) pa_nil)) (pe_glob (v := .int 60) (by rfl) g_LONGEST_SUM ⟨_, rfl⟩) (nomark _))
         (pss_one (ps_ret pe_non))
         pss_nil)
      (pss_cons (ps_asg (pe_partition (pv 0) pe_str) (pg_tup (by rfl) (pgs_cons (pg_name (i := 1) sc_pence_in.nd rfl (.inl rfl)) (pgs_cons (pg_name (i := 2) sc_pence_in.nd rfl (.inl rfl)) (pgs_cons (pg_name (i := 3) sc_pence_in.nd rfl (.inl rfl)) pgs_nil)))))
      (pss_cons (ps_if (PW.pt (pw_or (pt_not (pt_val (pe_cf C_is_made_of (hr.mono (by decide)) (by rfl) (pa_cons (pv 1) (pa_cons (pe_glob (v := .str (Str.ofString "0123456789")) (by rfl) g_FIGURES ⟨_, rfl⟩) pa_nil))))) (pw_or1 (pt_not (pt_val (pe_cf C_is_made_of (hr.mono (by decide)) (by rfl) (pa_cons (pv 3) (pa_cons (pe_glob (v := .str (Str.ofString "0123456789")) (by rfl) g_FIGURES ⟨_, rfl⟩) pa_nil))))))))
         (pss_one (ps_ret pe_non))
         pss_nil)
      (pss_cons (ps_set (i := 4) sc_pence_in.nd rfl (.inl rfl) (pe_op op_add (pe_op op_mul (pe_callTy call_int_str (by rfl) m_int (by decide +kernel) (pa_cons (pv 1) pa_nil)) (pe_glob (v := .int 60) (by rfl) g_CROWN ⟨_, rfl⟩)) (pe_callTy call_int_str (by rfl) m_int (by decide +kernel) (pa_cons (pv 3) pa_nil))))
      (pss_cons (ps_if (PW.pt (pw_or (pt_cmpR op_gt (pv 4) (pe_glob (v := .int 1000000000) (by rfl) g_MOST_PENCE ⟨_, rfl⟩) (nomark _)) (pw_or1 (pt_cmpR op_ne (pe_cf C_pence_text (hr.mono (by decide)) (by rfl) (pa_cons (pv 4) pa_nil)) (pv 0) (nomark _)))))
         (pss_one (ps_ret pe_non))
         pss_nil)
      (pss_one (ps_ret (pv 4)))))))), ?_⟩
    have fit : ∀ {m : Nat}, m ≤ 1000 → m ≤ sizeLine := size_small
    refine ⟨_, rfl, t, rfl, fit hz0, _, _, rfl, rfl, _, rfl, ?_⟩
    by_cases h60 : (60 : Int) < t.length
    · exact iteY h60 (q2 _ (fun n hn e => by have := pcpt_len hn; rw [e] at h60; omega) (Same.refl _))
    have hz : t.length ≤ 60 := by omega
    have htl : (TL.tl t).length ≤ 60 := by
      rw [← TL.len_tl]
      exact hz
    refine iteN h60 ?_
    refine ⟨_, rfl, ⟨_, rfl⟩, t, _, rfl, rfl, by decide, fit (by omega), fun p hp => ?_⟩
    refine ⟨p, _, rfl, .inl (.inl upd_same), rfl, _, _, rfl, _, _, rfl, _, _, rfl, rfl, ?_⟩
    have hpar := TL.partition_par t (Str.ofString "/") (by decide)
    have s0 := same_new (o := .tup [.str (Txt.partition t (Str.ofString "/")).1, .str (Txt.partition t (Str.ofString "/")).2.1, .str (Txt.partition t (Str.ofString "/")).2.2]) hp
    rcases par_47 (TL.tl t) with ⟨hno, hnone⟩ | ⟨a, b, ha, hl, hsome⟩
    · have hp1 : Txt.partition t (Str.ofString "/") = (t, Str.empty, Str.empty) := by
        rw [hpar, show TL.tl (Str.ofString "/") = [47] from by decide +kernel, hnone]
      have none_ : ∀ n : Nat, n ≤ 1000000000 → t ≠ ptS n := fun n _ e => hno (by
        rw [e]
        show 47 ∈ ptL n
        unfold ptL
        simp)
      have e1 : (Txt.partition t (Str.ofString "/")).1 = t := by rw [hp1]
      have e2 : (Txt.partition t (Str.ofString "/")).2.2 = Str.empty := by rw [hp1]
      refine ⟨_, rfl, _, _, rfl, by rw [e1]; omega, fun H1 s1 => ?_⟩
      refine ⟨_, rfl, ?_⟩
      rw [e1]
      cases hm : madeOf t (Str.ofString "0123456789") with
      | false => exact iteT (iteT (q2 _ none_ (s0.trans s1)))
      | true =>
        refine iteF ⟨_, rfl, _, _, rfl, by rw [e2]; decide, fun H2 s2 => ?_⟩
        refine ⟨_, rfl, ?_⟩
        rw [e2, show madeOf Str.empty (Str.ofString "0123456789") = false from by decide +kernel]
        exact iteT (q2 _ none_ ((s0.trans s1).trans s2))
    · have hp1 : Txt.partition t (Str.ofString "/") = (⟨a.toArray⟩, Str.ofString "/", ⟨b.toArray⟩) := by
        rw [hpar, show TL.tl (Str.ofString "/") = [47] from by decide +kernel, hsome]
      have e1 : (Txt.partition t (Str.ofString "/")).1 = ⟨a.toArray⟩ := by rw [hp1]
      have e2 : (Txt.partition t (Str.ofString "/")).2.2 = ⟨b.toArray⟩ := by rw [hp1]
      have la : (⟨a.toArray⟩ : Str).length = a.length := TL.len_tl _
      have lb : (⟨b.toArray⟩ : Str).length = b.length := TL.len_tl _
      have hab : a.length + b.length + 1 ≤ 60 := by
        rw [hl, List.length_append, List.length_cons] at htl
        omega
      have back : ∀ n : Nat, t = ptS n → a ++ 47 :: b = ptL n := fun n e => by
        rw [← hl, e]
        rfl
      have digA : ∀ n : Nat, t = ptS n → madeOf ⟨a.toArray⟩ (Str.ofString "0123456789") = true := fun n e => by
        rw [made_of_figs]
        obtain ⟨z1, z2⟩ := pcpt_cut ha (back n e)
        show a ≠ [] ∧ NumText.AllDigits a
        rw [z1]
        exact ⟨TL.numL_ne _, TL.numL_digits _⟩
      have digB : ∀ n : Nat, t = ptS n → madeOf ⟨b.toArray⟩ (Str.ofString "0123456789") = true := fun n e => by
        rw [made_of_figs]
        obtain ⟨z1, z2⟩ := pcpt_cut ha (back n e)
        show b ≠ [] ∧ NumText.AllDigits b
        rw [z2]
        refine ⟨by simp, fun c hc => ?_⟩
        simp only [List.mem_cons, List.not_mem_nil, or_false] at hc
        omega
      refine ⟨_, rfl, _, _, rfl, by rw [e1, la]; omega, fun H1 s1 => ?_⟩
      refine ⟨_, rfl, ?_⟩
      rw [e1]
      cases hmA : madeOf ⟨a.toArray⟩ (Str.ofString "0123456789") with
      | false =>
        exact iteT (iteT (q2 _ (fun n _ e => by rw [digA n e] at hmA; cases hmA) (s0.trans s1)))
      | true =>
        refine iteF ⟨_, rfl, _, _, rfl, by rw [e2, lb]; omega, fun H2 s2 => ?_⟩
        refine ⟨_, rfl, ?_⟩
        rw [e2]
        cases hmB : madeOf ⟨b.toArray⟩ (Str.ofString "0123456789") with
        | false =>
          exact iteT (q2 _ (fun n _ e => by rw [digB n e] at hmB; cases hmB) ((s0.trans s1).trans s2))
        | true =>
          obtain ⟨a0, aD⟩ := made_of_figs.mp hmA
          obtain ⟨b0, bD⟩ := made_of_figs.mp hmB
          refine iteF ⟨_, rfl, _, _, rfl, int_of_figs a0 aD (by rw [la]; omega), by rw [la]; omega, _, _, rfl, rfl, .inr ⟨by decide, by decide⟩, _, rfl, _, _, rfl, int_of_figs b0 bD (by rw [lb]; omega), by rw [lb]; omega, _, _, rfl, rfl, ?_⟩
          have val : ∀ n : Nat, t = ptS n → NumText.digitsVal a * 60 + NumText.digitsVal b = n := fun n e => pcpt_val ha (back n e)
          have sAll := (s0.trans s1).trans s2
          have hA : NumText.digitsVal (TL.tl ⟨a.toArray⟩) = NumText.digitsVal a := rfl
          have hB : NumText.digitsVal (TL.tl ⟨b.toArray⟩) = NumText.digitsVal b := rfl
          rw [hA, hB]
          generalize NumText.digitsVal a = va at *
          generalize NumText.digitsVal b = vb at *
          refine ⟨_, rfl, _, _, rfl, rfl, _, rfl, ite2 (fun e => ?_) (fun e => ?_)⟩
          · have e' := of_decide_eq_true e
            refine iteT (q2 _ (fun n hn z => ?_) sAll)
            have := val n z
            omega
          · have e' : ¬ ((1000000000 : Int) < (va : Int) * 60 + (vb : Int)) := fun z => e (decide_eq_true z)
            refine ⟨_, rfl, va * 60 + vb, by rw [Int.natCast_add, Int.natCast_mul]; rfl, by omega, fun H3 s3 => ?_⟩
            refine ⟨_, rfl, rfl, _, rfl, ?_⟩
            by_cases ht : V.str (ptS (va * 60 + vb)) = V.str t
            · rw [decide_eq_true ht]
              refine iteF ⟨_, rfl, ?_⟩
              have := q1 (va * 60 + vb) H3 (by omega) (V.str.inj ht).symm (sAll.trans s3)
              rw [Int.natCast_add, Int.natCast_mul] at this
              exact this
            · rw [decide_eq_false ht]
              refine iteT (q2 _ (fun n hn z => ?_) (sAll.trans s3))
              have := val n z
              subst this
              exact ht (congrArg V.str z.symm)
/-! ### deeds as texts -/
def Arg.t : Arg → Str
  | .nm s => s
  | .tx f => txtT f
  | .pn n => ptS n.toNat
def deedT (w : Str) (xs : List Arg) : Str := Txt.join " " (w :: xs.map Arg.t)
theorem arg_fit {w : Str} {xs : List Arg} {ss : List Str} (dd : Deed w xs ss) : ∀ x ∈ xs, ∃ s, fits s x := fun x hx => by
  obtain ⟨i, hi, e⟩ := List.mem_iff_getElem.mp hx
  have hl := dd.len
  exact ⟨_, dd.fit i x _ (by rw [List.getElem?_eq_getElem hi, e]) (List.getElem?_eq_getElem (by omega))⟩
theorem fit_len {s : Str} {x : Arg} (h : fits s x) : x.t.length ≤ 200 := by
  cases x with
  | nm y => exact Nat.le_trans (name_len h.1).1 (by decide)
  | tx f => exact txt_200 h.1
  | pn n => exact Nat.le_trans (pcpt_len (n := n.toNat) (by have := h.1; have := h.2; omega)) (by decide)
theorem sum_le {B : Nat} : ∀ {ts : List Str}, (∀ s ∈ ts, s.length ≤ B) → (ts.map (·.length)).sum ≤ B * ts.length
  | [], _ => Nat.le_refl _
  | s :: r, h => by
    have := sum_le (ts := r) fun x hx => h x (List.mem_cons_of_mem _ hx)
    have := h s List.mem_cons_self
    rw [List.map_cons, List.sum_cons, List.length_cons, Nat.mul_add]
    omega
theorem word_le {w : Str} {ss : List Str} (h : tab_FORMS.lookup w = some ss) : w.length ≤ 6 := (word_sml _ (look_mem h)).2
/-! ### deed_text -/
abbrev s_deed_text : Stmt := topS 44
abbrev N_deed_text : List Str := ["deed", "things", "thing"]
theorem sc_deed_text : FnScope N_deed_text ["deed"] (defScope s_deed_text) := ⟨rfl, rfl, rfl, by decide +kernel, rfl, by decide +kernel, by decide +kernel⟩
def sp_deed_text (K : PySem.W.Frag) : Sp := fun vs H Q _ => ∃ (t : Addr) (w : Str) (xs : List Arg) (ss : List Str), vs = [.ref t] ∧ SqT K H t (.str w :: xs.map Arg.v) ∧ Deed w xs ss ∧ ∀ H', Same H H' → Q (.str (deedT w xs)) H'
theorem ok_deed_text {f : Addr} {fd : FuncData} (F : Fun K "deed_text" "deed_text" s_deed_text f fd) (g : mg "deed_text" = some (.ref f)) (bd : Binds K fd ["deed"] []) (m_isinstance : mg "isinstance" = none) (m_int : mg "int" = none) (C_pence_text : CF P w K mg base 1 "pence_text" ["pence"] (sp_pence_text K)) : CF P w K mg base 2 "deed_text" ["deed"] (sp_deed_text K) := by
  refine ⟨f, fd, F.ok sc_deed_text (fun vs H Q E h => ?_) (fun cdv A outer s H vs Q E hr h => ?_), g, F.kp, bd⟩
  · first | (obtain ⟨_, rfl, _⟩ := h; rfl) | (obtain ⟨_, _, rfl, _⟩ := h; rfl) | (obtain ⟨_, _, _, rfl, _⟩ := h; rfl) | (obtain ⟨_, _, _, _, rfl, _⟩ := h; rfl) | (obtain ⟨_, _, _, _, _, rfl, _⟩ := h; rfl) | (obtain ⟨_, _, _, _, _, _, rfl, _⟩ := h; rfl) | (obtain ⟨_, _, _, _, _, _, _, rfl, _⟩ := h; rfl) | (obtain ⟨_, _, _, _, _, _, _, _, rfl, _⟩ := h; rfl) | (obtain ⟨_, _, _, _, _, _, _, _, _, rfl, _⟩ := h; rfl) | (obtain ⟨_, _, _, _, _, _, _, _, _, _, rfl, _⟩ := h; rfl) | (obtain ⟨_, _, _, _, _, _, _, _, _, _, _, rfl, _⟩ := h; rfl) | (obtain ⟨_, _, _, _, _, _, _, _, _, _, _, _, rfl, _⟩ := h; rfl) | (obtain ⟨_, _, _, _, _, _, _, _, _, _, _, _, _, rfl, _⟩ := h; rfl) | (obtain ⟨_, _, _, _, _, _, _, _, _, _, _, _, _, _, rfl, _⟩ := h; rfl) | (obtain ⟨_, _, _, _, _, _, _, _, _, _, _, _, _, _, _, rfl, _⟩ := h; rfl)
  · have hu64 := hr.units
    obtain ⟨t, w9, xs, ss, rfl, hT, dd, q⟩ := h
    refine ⟨_, (pss_cons (ps_setLc (i := 1) (own := [("thing", 2)]) (g := (gName 2)) (tt := tYes) rfl sc_deed_text.nd rfl rfl (sw_true rfl rfl rfl (by decide +kernel)) (pi_tup (pv 0)) (blkOk_by (own := [("thing", 2)]) (N := N_deed_text) (sc := defScope s_deed_text) (by decide +kernel)) (fun _ _ _ _ _ => pg_name (i := 2) sc_deed_text.nd rfl (Or.inl rfl)) (fun _ _ _ _ _ => pts_nil) (fun _ _ _ _ _ => (pe_ifExp (pt_val (pe_callB (kk_isi K) (by rfl) m_isinstance (by decide +kernel) (pa_cons (pv 2) (pa_cons (pe_bltn (v := .ty "int") (by rfl) m_int (by decide +kernel) rfl) pa_nil)))) (pe_cf C_pence_text (hr.mono (by decide)) (by rfl) (pa_cons (pv 2) pa_nil)) (pv 2))))
      (pss_one (ps_ret (pe_join pe_str (pv 1))))), ?_⟩
    have l3 : ss.length ≤ 3 := (shape_ss _ (look_mem dd.look)).1
    have hlen := dd.len
    have each : ∀ (i : Nat) (x : V), (V.str w9 :: xs.map Arg.v)[i]? = some x → ∃ s, (w9 :: xs.map Arg.t)[i]? = some s ∧ (x = .str s ∨ ∃ n : Nat, x = .int (n : Int) ∧ n ≤ 1000000000 ∧ s = ptS n) := fun i x hx => by
      cases i with
      | zero => cases hx; exact ⟨w9, rfl, .inl rfl⟩
      | succ i =>
        rw [List.getElem?_cons_succ, List.getElem?_map] at hx
        obtain ⟨y, hy, rfl⟩ := Option.map_eq_some_iff.mp hx
        refine ⟨y.t, by rw [List.getElem?_cons_succ, List.getElem?_map, hy]; rfl, ?_⟩
        obtain ⟨s, hf⟩ := arg_fit dd y (List.mem_of_getElem? hy)
        cases y with
        | nm s => exact .inl rfl
        | tx f => exact .inl rfl
        | pn n =>
          obtain ⟨k, rfl⟩ := Int.eq_ofNat_of_zero_le (show 0 ≤ n by have := hf.1; omega)
          exact .inr ⟨k, rfl, by have := hf.2; omega, rfl⟩
    have tl : (w9 :: xs.map Arg.t).length ≤ 4 := by rw [List.length_cons, List.length_map]; omega
    refine ⟨_, rfl, t, rfl, ⟨_, hT⟩, fun D nD => lc_tup (K := K) (a := t) (xs := V.str w9 :: xs.map Arg.v) (fun i G => Same H G ∧ G D = some (.lst (((w9 :: xs.map Arg.t).take i).map V.str))) ⟨same_new nD, upd_same⟩ (fun i G _ h => seqT_same h.1 hT) (fun i x G hx h => ?_) (fun G h => ?_)⟩
    · obtain ⟨s, hs, hxs⟩ := each i x hx
      refine ⟨rfl, ?_⟩
      have done : ∀ G2, Same G G2 → ∃ acc, G2 D = some (.lst acc) ∧ acc.length < sizeLine ∧ Same H (upd G2 D (.lst (acc ++ [.str s]))) ∧ upd G2 D (.lst (acc ++ [.str s])) D = some (.lst (((w9 :: xs.map Arg.t).take (i + 1)).map V.str)) := fun G2 s2 => by
        refine ⟨_, s2 _ _ h.2, ?_, ?_, ?_⟩
        · rw [List.length_map, List.length_take]
          exact small1000 (by omega)
        · exact fun c o e => by
            rw [upd_ne (ne_of_none e nD)]
            exact s2 _ _ (h.1 _ _ e)
        · rw [upd_same, List.take_add_one, hs, Option.toList_some, List.map_append]
          rfl
      rcases hxs with rfl | ⟨n, rfl, hn, rfl⟩
      · exact ⟨_, rfl, _, _, _, _, _, rfl, .ty _, ty_of_dp (K := K) (.str s), kit_d (T := "int") (by decide) _, _, rfl, iteF ⟨_, rfl, done G (Same.refl G)⟩⟩
      · exact ⟨_, rfl, _, _, _, _, _, rfl, .ty _, ty_of_dp (K := K) (.int _), kit_d (T := "int") (by decide) _, _, rfl, iteT ⟨_, rfl, n, rfl, hn, fun G2 s2 => done G2 s2⟩⟩
    · obtain ⟨s1, h1⟩ := h
      have e : (w9 :: xs.map Arg.t).take (V.str w9 :: xs.map Arg.v).length = w9 :: xs.map Arg.t := List.take_of_length_le (by rw [List.length_cons, List.length_cons, List.length_map, List.length_map]; exact Nat.le_refl _)
      rw [e] at h1
      refine ⟨⟨_, rfl⟩, _, rfl, _, D, w9 :: xs.map Arg.t, rfl, rfl, .inl (SqL.of h1), ?_, q G s1⟩
      have sl := sum_le (B := 200) (ts := w9 :: xs.map Arg.t) (List.forall_mem_cons.mpr ⟨by have := word_le dd.look; omega, fun s hs => by
        obtain ⟨x, hx, rfl⟩ := List.mem_map.mp hs
        obtain ⟨s, hf⟩ := arg_fit dd x hx
        exact fit_len hf⟩)
      have : (Str.ofString " ").length = 1 := rfl
      rw [this]
      omega
/-! ### what a deed's text tells -/
theorem join_sub (y : Str) : ∀ {L : List Str} {n : Nat} {p : Str}, p ∈ cap y n L → (∀ c ∈ TL.tl p, c ∈ TL.tl (Str.join y L)) ∧ p.length ≤ (Str.join y L).length
  | L, 0, p, h => by
    rw [List.mem_singleton.mp h]
    exact ⟨fun _ h => h, Nat.le_refl _⟩
  | [], n + 1, p, h => nomatch h
  | [a], n + 1, p, h => by
    rw [List.mem_singleton.mp h]
    exact ⟨fun _ h => h, Nat.le_refl _⟩
  | a :: b :: r, n + 1, p, h => by
    have e : Str.join y (a :: b :: r) = a ++ y ++ Str.join y (b :: r) := rfl
    rw [e]
    rcases List.mem_cons.mp h with rfl | h
    · refine ⟨fun c hc => ?_, by rw [len_app, len_app]; omega⟩
      rw [TL.tl_append, TL.tl_append]
      exact List.mem_append_left _ (List.mem_append_left _ hc)
    · obtain ⟨h1, h2⟩ := join_sub y (L := b :: r) (n := n) h
      refine ⟨fun c hc => ?_, by rw [len_app, len_app]; omega⟩
      rw [TL.tl_append]
      exact List.mem_append_right _ (h1 c hc)
theorem split_join_back (t y : Str) : Str.join y (Txt.split t y) = t := by
  have := split_back t y
  rw [TL.join_eq] at this
  exact this
theorem split_ne (t : Str) : ∃ w r, Txt.split t " " = w :: r := by
  cases h : Txt.split t " " with
  | cons w r => exact ⟨w, r, rfl⟩
  | nil =>
    have e := TL.split_spl t " " (by decide +kernel) (TL.kind_ok (by decide +kernel))
    have h2 : Txt.split t (Str.ofString " ") = [] := h
    rw [h2, List.map_nil] at e
    have key : ∀ (S acc l : List Nat) (k : Nat), TL.spl S k acc l ≠ [] := fun S acc l => by
      induction l generalizing acc with
      | nil => intro k; rw [TL.spl_nil]; exact List.cons_ne_nil _ _
      | cons c r ih =>
        intro k
        cases k with
        | zero =>
          cases hp : TL.pre S (c :: r) with
          | true => rw [TL.spl_hit hp]; exact List.cons_ne_nil _ _
          | false => rw [TL.spl_miss hp]; exact ih _ _
        | succ k => exact ih _ k
    exact absurd e.symm (key _ _ _ _)
theorem split_head {a x : Str} (h : 32 ∉ TL.tl a) : Txt.split (a ++ " " ++ x) " " = a :: Txt.split x " " := by
  refine TL.map_tl_inj ?_
  rw [List.map_cons, TL.split_spl _ _ (by decide +kernel) (TL.kind_ok (by decide +kernel)), TL.split_spl _ _ (by decide +kernel) (TL.kind_ok (by decide +kernel)), TL.tl_append, TL.tl_append]
  have e : TL.tl (Str.ofString " ") = [32] := by decide +kernel
  show TL.spl (TL.tl (Str.ofString " ")) 0 [] (TL.tl a ++ TL.tl (Str.ofString " ") ++ TL.tl x) = TL.tl a :: TL.spl (TL.tl (Str.ofString " ")) 0 [] (TL.tl x)
  rw [e, List.append_assoc]
  exact TL.spl_part1 (S := []) (acc := []) h
theorem cap_own : ∀ {init : List Str} {last : Str}, (∀ a ∈ init, 32 ∉ TL.tl a) → cap " " init.length (Txt.split (Str.join " " (init ++ [last])) " ") = init ++ [last]
  | [], last, _ => by
    show [Str.join " " (Txt.split last " ")] = [last]
    rw [split_join_back]
  | a :: init, last, h => by
    have ih := cap_own (init := init) (last := last) fun x hx => h x (List.mem_cons_of_mem _ hx)
    obtain ⟨b, r, e⟩ : ∃ b r, init ++ [last] = b :: r := by
      cases init with
      | nil => exact ⟨_, _, rfl⟩
      | cons b r => exact ⟨_, _, rfl⟩
    show cap " " (init.length + 1) (Txt.split (Str.join " " (a :: (init ++ [last]))) " ") = a :: (init ++ [last])
    rw [e] at ih ⊢
    have e2 : Str.join " " (a :: b :: r) = a ++ " " ++ Str.join " " (b :: r) := rfl
    rw [e2, split_head (h a List.mem_cons_self)]
    obtain ⟨p, q, e3⟩ := split_ne (Str.join " " (b :: r))
    rw [e3] at ih ⊢
    show a :: cap " " init.length (p :: q) = _
    rw [ih]
noncomputable def penceV (p : Str) : V := @dite _ (∃ n : Nat, n ≤ 1000000000 ∧ p = ptS n) (Classical.propDecidable _) (fun h => .int (h.choose : Nat)) fun _ => .non
noncomputable def penceD (p : Str) : PyData := @dite _ (∃ n : Nat, n ≤ 1000000000 ∧ p = ptS n) (Classical.propDecidable _) (fun h => .int (h.choose : Nat)) fun _ => .none
theorem pence_some {p : Str} {n : Nat} (h1 : n ≤ 1000000000) (h2 : p = ptS n) : penceV p = .int (n : Int) ∧ penceD p = .int (n : Int) := by
  have h : ∃ n : Nat, n ≤ 1000000000 ∧ p = ptS n := ⟨n, h1, h2⟩
  have e : h.choose = n := pcpt_inj (h.choose_spec.2.symm.trans h2)
  unfold penceV penceD
  rw [dif_pos h, dif_pos h, e]
  exact ⟨rfl, rfl⟩
theorem pence_none {p : Str} (h : ∀ n : Nat, n ≤ 1000000000 → p ≠ ptS n) : penceV p = .non ∧ penceD p = .none := by
  have h : ¬ ∃ n : Nat, n ≤ 1000000000 ∧ p = ptS n := fun ⟨n, h1, h2⟩ => h n h1 h2
  unfold penceV penceD
  rw [dif_neg h, dif_neg h]
  exact ⟨rfl, rfl⟩
def isPence (s : Str) : Bool := decide (s = Str.ofString "price" ∨ s = Str.ofString "debt")
noncomputable def thingV (p s : Str) : V := if isPence s = true then penceV p else .str p
noncomputable def thingD (p s : Str) : PyData := if isPence s = true then penceD p else .str p
theorem thing_dp {K : PySem.W.Frag} {H : Hp} (p s : Str) : Dp K H (thingV p s) (thingD p s) := by
  unfold thingV thingD
  cases isPence s with
  | true =>
    by_cases h : ∃ n : Nat, n ≤ 1000000000 ∧ p = ptS n
    · obtain ⟨n, h1, h2⟩ := h
      obtain ⟨e1, e2⟩ := pence_some h1 h2
      rw [if_pos rfl, if_pos rfl, e1, e2]
      exact .int _
    · obtain ⟨e1, e2⟩ := pence_none (p := p) fun n h1 h2 => h ⟨n, h1, h2⟩
      rw [if_pos rfl, if_pos rfl, e1, e2]
      exact .non
  | false => exact .str p
theorem things_dp {K : PySem.W.Frag} {H : Hp} : ∀ (ps ss : List Str), DpAll K H (List.zipWith thingV ps ss) (List.zipWith thingD ps ss)
  | [], _ => .nil
  | _ :: _, [] => .nil
  | p :: ps, s :: ss => .cons (thing_dp p s) (things_dp ps ss)
def penceSorts : List Str := ["price", "debt"]
theorem pence_in {s : Str} (hs : s ∈ allS) : inV (.str s) (penceSorts.map V.str) = isPence s := by
  unfold allS at hs
  simp only [List.mem_cons, List.not_mem_nil, or_false] at hs
  rcases hs with rfl | rfl | rfl | rfl | rfl | rfl | rfl <;> decide +kernel
def piecesOf (t : Str) (n : Nat) : List Str := (cap " " n (Txt.split t " ")).tail
noncomputable def readW (t w : Str) (ss : List Str) : PyData := .tuple (.str w :: List.zipWith thingD (piecesOf t ss.length) ss)
noncomputable def deedOf (t : Str) : Option PyData := match tab_FORMS.lookup ((Txt.split t " ").headD "") with
  | none => none
  | some ss => if deedB (readW t ((Txt.split t " ").headD "") ss) = true then some (readW t ((Txt.split t " ").headD "") ss) else none
theorem deedOf_some {t : Str} {ss : List Str} (h : tab_FORMS.lookup ((Txt.split t " ").headD "") = some ss) : deedOf t = if deedB (readW t ((Txt.split t " ").headD "") ss) = true then some (readW t ((Txt.split t " ").headD "") ss) else none := by
  unfold deedOf
  rw [h]
theorem deedOf_none {t : Str} (h : tab_FORMS.lookup ((Txt.split t " ").headD "") = none) : deedOf t = none := by
  unfold deedOf
  rw [h]
theorem piece_ok {t p : Str} {n : Nat} (h : p ∈ piecesOf t n) (hA : Asc t) : Asc p ∧ p.length ≤ t.length := by
  have h1 := join_sub " " (List.mem_of_mem_tail h)
  rw [split_join_back] at h1
  exact ⟨fun c hc => hA c (h1.1 c hc), h1.2⟩
theorem thing_ok {p s : Str} (h : Asc p) (l : p.length ≤ 500) : okS (thingD p s) := fun z e => by
  unfold thingD at e
  split at e
  · by_cases h : ∃ n : Nat, n ≤ 1000000000 ∧ p = ptS n
    · obtain ⟨n, h1, h2⟩ := h
      rw [(pence_some h1 h2).2] at e
      cases e
    · rw [(pence_none (p := p) fun n h1 h2 => h ⟨n, h1, h2⟩).2] at e
      cases e
  · cases e
    exact ⟨h, l⟩
theorem things_ok : ∀ {ps ss : List Str}, (∀ p ∈ ps, Asc p ∧ p.length ≤ 500) → ∀ d ∈ List.zipWith thingD ps ss, okS d
  | [], _, _, _, h => nomatch h
  | _ :: _, [], _, _, h => nomatch h
  | p :: ps, s :: ss, hp, d, h => by
    rcases List.mem_cons.mp h with rfl | h
    · exact thing_ok (hp p List.mem_cons_self).1 (hp p List.mem_cons_self).2
    · exact things_ok (fun x hx => hp x (List.mem_cons_of_mem _ hx)) d h
/-! ### deed_in -/
abbrev s_deed_in : Stmt := topS 45
abbrev N_deed_in : List Str := ["text", "word", "sorts", "pieces", "things", "piece", "sort", "deed"]
theorem sc_deed_in : FnScope N_deed_in ["text"] (defScope s_deed_in) := ⟨rfl, rfl, rfl, by decide +kernel, rfl, by decide +kernel, by decide +kernel⟩
def sp_deed_in (K : PySem.W.Frag) (C2 : CB2) (CR : Addr) : Sp := fun vs H Q _ => ∃ (t : Str), vs = [.str t] ∧ Asc t ∧ t.length ≤ 500 ∧ (∀ H' y d, deedOf t = some d → Same H H' → Dp K H' y d → Q y H') ∧ (deedOf t = none → ∀ H', Same H H' → Q .non H')
theorem ok_deed_in {f : Addr} {fd : FuncData} (F : Fun K "deed_in" "deed_in" s_deed_in f fd) (g : mg "deed_in" = some (.ref f)) (bd : Binds K fd ["text"] []) {C2 : CB2} (TB : TB2 K mg C2) (XR : CEv P w K mg base C2.b 1 "BadRule" "word") (XC : CEv P w K mg base C2.c 1 "BadClause" "place") {CR : Addr} (TQ : TEq K mg CR "Rule") (T_Rule : TRule K mg CR) (m_len : mg "len" = none) (m_zip : mg "zip" = none) {A_FORMS : Addr} (g_FORMS : mg "FORMS" = some (.ref A_FORMS)) (q_FORMS : KTab w K A_FORMS tab_FORMS) {A_PENCE_SORTS : Addr} (g_PENCE_SORTS : mg "PENCE_SORTS" = some (.ref A_PENCE_SORTS)) (q_PENCE_SORTS : ∀ H, SqT K H A_PENCE_SORTS [.str (Str.ofString "price"), .str (Str.ofString "debt")]) (C_pence_in : CF P w K mg base 2 "pence_in" ["text"] (sp_pence_in K)) (C_is_deed : CF P w K mg base 11 "is_deed" ["thing"] (sp_is_deed K C2 CR)) : CF P w K mg base 12 "deed_in" ["text"] (sp_deed_in K C2 CR) := by
  refine ⟨f, fd, F.ok sc_deed_in (fun vs H Q E h => ?_) (fun cdv A outer s H vs Q E hr h => ?_), g, F.kp, bd⟩
  · first | (obtain ⟨_, rfl, _⟩ := h; rfl) | (obtain ⟨_, _, rfl, _⟩ := h; rfl) | (obtain ⟨_, _, _, rfl, _⟩ := h; rfl) | (obtain ⟨_, _, _, _, rfl, _⟩ := h; rfl) | (obtain ⟨_, _, _, _, _, rfl, _⟩ := h; rfl) | (obtain ⟨_, _, _, _, _, _, rfl, _⟩ := h; rfl) | (obtain ⟨_, _, _, _, _, _, _, rfl, _⟩ := h; rfl) | (obtain ⟨_, _, _, _, _, _, _, _, rfl, _⟩ := h; rfl) | (obtain ⟨_, _, _, _, _, _, _, _, _, rfl, _⟩ := h; rfl) | (obtain ⟨_, _, _, _, _, _, _, _, _, _, rfl, _⟩ := h; rfl) | (obtain ⟨_, _, _, _, _, _, _, _, _, _, _, rfl, _⟩ := h; rfl) | (obtain ⟨_, _, _, _, _, _, _, _, _, _, _, _, rfl, _⟩ := h; rfl) | (obtain ⟨_, _, _, _, _, _, _, _, _, _, _, _, _, rfl, _⟩ := h; rfl) | (obtain ⟨_, _, _, _, _, _, _, _, _, _, _, _, _, _, rfl, _⟩ := h; rfl) | (obtain ⟨_, _, _, _, _, _, _, _, _, _, _, _, _, _, _, rfl, _⟩ := h; rfl)
  · have hu64 := hr.units
    obtain ⟨t, rfl, hA, hl, q1, q2⟩ := h
    refine ⟨_, (pss_cons (ps_set (i := 1) sc_deed_in.nd rfl (.inl rfl) (pe_ix (kk_ixl K) (pe_split (pv 0) pe_str) pe_int (fun _ _ => rfl)))
      (pss_cons (ps_if (pt_cmp (pc_tnotin q_FORMS (pv 1) (pe_glob (v := .ref A_FORMS) (by rfl) g_FORMS rfl)) (by rfl))
         (pss_one (ps_ret pe_non))
         pss_nil)
      (pss_cons (ps_set (i := 2) sc_deed_in.nd rfl (.inl rfl) (pe_tget q_FORMS (pe_glob (v := .ref A_FORMS) (by rfl) g_FORMS rfl) (pv 1) (fun _ _ => rfl)))
      (pss_cons (ps_set (i := 3) sc_deed_in.nd rfl (.inl rfl) (pe_slice (kk_sll K) (pe_bm PySem.F.plainAttrs_str PySem.F.slot_str_split PySem.F.type_str_split mt_splitMax (pv 0) (pa_cons pe_str (pa_cons (pe_callB (kk_len K) (by rfl) m_len PySem.boot_len (pa_cons (pv 2) pa_nil)) pa_nil))) (po_some pe_int) po_none))
      (pss_cons (ps_setLc (i := 4) (own := [("piece", 5), ("sort", 6)]) (g := (gTup K 2 (gCons (gName 5) (gCons (gName 6) gNil)))) (tt := tYes) rfl sc_deed_in.nd rfl rfl (sw_true rfl rfl rfl (by decide +kernel)) (ZM.pi_zipLT (by rfl) m_zip (pa_cons (pv 3) (pa_cons (pv 2) pa_nil))) (blkOk_by (own := [("piece", 5), ("sort", 6)]) (N := N_deed_in) (sc := defScope s_deed_in) (by decide +kernel)) (fun _ _ _ _ _ => (pg_tup (by rfl) (pgs_cons (pg_name (i := 5) sc_deed_in.nd rfl (.inl rfl)) (pgs_cons (pg_name (i := 6) sc_deed_in.nd rfl (.inl rfl)) pgs_nil)))) (fun _ _ _ _ _ => pts_nil) (fun _ _ _ _ _ => (pe_ifExp (pt_cmpR (kk_in K) (pv 6) (pe_glob (v := .ref A_PENCE_SORTS) (by rfl) g_PENCE_SORTS rfl) (by rfl)) (pe_cf C_pence_in (hr.mono (by decide)) (by rfl) (pa_cons (pv 5) pa_nil)) (pv 5))))
      (pss_cons (ps_set (i := 7) sc_deed_in.nd rfl (.inl rfl) (pe_tup (pa_cons (pv 1) (StX.pa_star (pv 4) pa_nil))))
      (pss_one (ps_ret (pe_ifExp (pt_val (pe_cf C_is_deed (hr.mono (by decide)) (by rfl) (pa_cons (pv 7) pa_nil))) (pv 7) pe_non))))))))), ?_⟩
    obtain ⟨w9, wr, hsp⟩ := split_ne t
    have hhd : (Txt.split t " ").headD "" = w9 := by rw [hsp]; rfl
    refine ⟨_, rfl, ⟨_, rfl⟩, t, _, rfl, rfl, by decide +kernel, size_small (by omega), fun p1 n1 => ?_⟩
    have s1 := same_new (o := .lst ((Txt.split t (Str.ofString " ")).map V.str)) n1
    refine ⟨p1, _, _, _, rfl, rfl, SqL.of upd_same, (show atI ((Txt.split t (Str.ofString " ")).map V.str) 0 = some (.str w9) from by rw [show Txt.split t (Str.ofString " ") = w9 :: wr from hsp]; exact at0), ?_⟩
    generalize upd H p1 (.lst ((Txt.split t (Str.ofString " ")).map V.str)) = H1 at *
    refine ⟨_, rfl, w9, rfl, _, rfl, ?_⟩
    cases look : tab_FORMS.lookup w9 with
    | none => exact iteT (q2 (deedOf_none (by rw [hhd]; exact look)) H1 s1)
    | some ss =>
    have mm := look_mem look
    have l3 : ss.length ≤ 3 := (shape_ss _ mm).1
    have l1 : 1 ≤ ss.length := (shape_ss _ mm).2
    have eD := deedOf_some (t := t) (ss := ss) (by rw [hhd]; exact look)
    rw [hhd] at eD
    refine iteF ⟨_, rfl, w9, ss, rfl, look, fun tS hS => ?_⟩
    refine ⟨_, rfl, rfl, _, rfl, tS, _, rfl, .inr (hS _), t, Str.ofString " ", _, rfl, rfl, by decide +kernel, by omega, by rw [List.length_map]; omega, size_small (by omega), fun p2 n2 => ?_⟩
    have s2 := same_new (o := .lst ((Txt.splitMax t (Str.ofString " ") ((ss.map V.str).length : Nat)).map V.str)) n2
    refine ⟨_, rfl, p2, _, rfl, SqL.of upd_same, fun p3 n3 => ?_⟩
    have s3 := same_new (o := .lst (cutV ((Txt.splitMax t (Str.ofString " ") ((ss.map V.str).length : Nat)).map V.str) (some 1) none)) n3
    have x3 := upd_same (H := upd H1 p2 (.lst ((Txt.splitMax t (Str.ofString " ") ((ss.map V.str).length : Nat)).map V.str))) (a := p3) (o := .lst (cutV ((Txt.splitMax t (Str.ofString " ") ((ss.map V.str).length : Nat)).map V.str) (some 1) none))
    have s13 := (s1.trans s2).trans s3
    generalize upd (upd H1 p2 (.lst ((Txt.splitMax t (Str.ofString " ") ((ss.map V.str).length : Nat)).map V.str))) p3 (.lst (cutV ((Txt.splitMax t (Str.ofString " ") ((ss.map V.str).length : Nat)).map V.str) (some 1) none)) = H3 at *
    have ep : cutV ((Txt.splitMax t (Str.ofString " ") ((ss.map V.str).length : Nat)).map V.str) (some 1) none = (piecesOf t ss.length).map V.str := by
      rw [List.length_map, splitMax_cap t (Str.ofString " ") (by decide +kernel) ss.length l1]
      unfold piecesOf
      rw [hsp]
      cases hc : cap (Str.ofString " ") ss.length (w9 :: wr) with
      | nil => rfl
      | cons c r => exact cut_one _ _
    rw [ep] at x3
    generalize hps : piecesOf t ss.length = ps at *
    have lz : (List.zipWith thingV ps ss).length ≤ 3 := by rw [List.length_zipWith]; omega
    refine ⟨_, rfl, _, rfl, p3, tS, _, _, rfl, SqL.of x3, hS _, fun D nD => lc_gen (n := min ps.length ss.length) (fun i G => Same H3 G ∧ G D = some (.lst ((List.zipWith thingV ps ss).take i))) ⟨same_new nD, upd_same⟩ (fun i G h => ?_) (fun i G v G2 hi h hy => ?_) (fun G h => ?_)⟩
    · have := ZM.canLT (K := K) (i := i) (SqL.of (h.1 _ _ x3)) (hS G)
      rw [List.length_map, List.length_map] at this
      exact this
    · obtain ⟨T, x', y', rfl, hT2, rfl, f1, f2⟩ := hy
      obtain ⟨h1, h2⟩ := h
      have g1 := f1 _ (SqL.of (h1 _ _ x3))
      have g2 := f2 _ (hS G)
      rw [List.getElem?_map] at g1 g2
      obtain ⟨p9, hp9, rfl⟩ := Option.map_eq_some_iff.mp g1
      obtain ⟨s9, hs9, rfl⟩ := Option.map_eq_some_iff.mp g2
      have sT := same_new (o := .tup [.str p9, .str s9]) hT2
      have pok := piece_ok (t := t) (n := ss.length) (p := p9) (by rw [hps]; exact List.mem_of_getElem? hp9) hA
      have done : ∀ G3, Same (upd G T (.tup [.str p9, .str s9])) G3 → ∃ acc, G3 D = some (.lst acc) ∧ acc.length < sizeLine ∧ Same H3 (upd G3 D (.lst (acc ++ [thingV p9 s9]))) ∧ upd G3 D (.lst (acc ++ [thingV p9 s9])) D = some (.lst ((List.zipWith thingV ps ss).take (i + 1))) := fun G3 s3 => by
        refine ⟨_, s3 _ _ (sT _ _ h2), ?_, ?_, ?_⟩
        · rw [List.length_take]
          exact small1000 (by omega)
        · exact fun c o e => by
            rw [upd_ne (ne_of_none e nD)]
            exact s3 _ _ (sT _ _ (h1 _ _ e))
        · rw [upd_same, List.take_add_one, List.getElem?_zipWith, hp9, hs9]
          rfl
      refine ⟨T, _, rfl, SqT.of upd_same, rfl, _, _, rfl, _, _, rfl, rfl, rfl, ?_⟩
      refine ⟨_, rfl, A_PENCE_SORTS, penceSorts.map V.str, rfl, .inr (q_PENCE_SORTS _), rfl, by decide +kernel, _, rfl, ?_⟩
      rw [if_neg Bool.false_ne_true, pence_in (tab_sorts _ mm s9 (List.mem_of_getElem? hs9))]
      cases c : isPence s9 with
      | true =>
        have e : thingV p9 s9 = penceV p9 := by unfold thingV; rw [if_pos c]
        rw [e] at done
        refine iteT ⟨_, rfl, p9, rfl, by omega, fun n G3 hn en s3 => ?_, fun G3 hno s3 => ?_⟩
        · have := done G3 s3
          rw [(pence_some hn en).1] at this
          exact this
        · have := done G3 s3
          rw [(pence_none hno).1] at this
          exact this
      | false =>
        have e : thingV p9 s9 = .str p9 := by unfold thingV; rw [if_neg (by rw [c]; decide)]
        rw [e] at done
        exact iteF ⟨_, rfl, done _ (Same.refl _)⟩
    obtain ⟨s4, h4⟩ := h
    rw [List.take_of_length_le (by rw [List.length_zipWith]; exact Nat.le_refl _)] at h4
    refine ⟨_, rfl, _, rfl, D, _, rfl, .inr (SqL.of h4), (by show (List.zipWith thingV ps ss ++ []).length + 1 ≤ sizeLine; rw [List.append_nil]; exact size_small (by omega)), fun T nT => ?_⟩
    have sT := same_new (o := .tup (V.str w9 :: (List.zipWith thingV ps ss ++ []))) nT
    have xT := upd_same (H := G) (a := T) (o := .tup (V.str w9 :: (List.zipWith thingV ps ss ++ [])))
    generalize upd G T (.tup (V.str w9 :: (List.zipWith thingV ps ss ++ []))) = G2 at *
    rw [List.append_nil] at xT
    have dT : Dp K G2 (.ref T) (readW t w9 ss) := by
      unfold readW
      rw [hps]
      exact .tup (SqT.of xT) (.cons (.str w9) (things_dp ps ss))
    have w6 := (word_sml _ mm)
    have wA : Asc w9 := fun c hc => of_decide_eq_true (List.all_eq_true.mp w6.1 c hc)
    refine ⟨_, rfl, .ref T, readW t w9 ss, rfl, dT, ⟨fun s e => (nomatch e), fun ds e => ?_⟩, fun H5 s5 => ⟨_, rfl, ?_⟩⟩
    · unfold readW at e
      cases e
      rw [hps]
      refine ⟨by rw [List.length_cons, List.length_zipWith]; omega, List.forall_mem_cons.mpr ⟨fun s e => by cases e; exact ⟨wA, Nat.le_trans w6.2 (by decide)⟩, things_ok fun p hp => ?_⟩⟩
      have := piece_ok (t := t) (n := ss.length) (p := p) (by rw [hps]; exact hp) hA
      exact ⟨this.1, by omega⟩
    have s05 := ((s13.trans s4).trans sT).trans s5
    cases hB : deedB (readW t w9 ss) with
    | true =>
      rw [hB, if_pos rfl] at eD
      exact iteT ⟨_, rfl, q1 H5 _ _ eD s05 (dp_same s5 dT)⟩
    | false =>
      rw [hB, if_neg Bool.false_ne_true] at eD
      exact iteF (q2 eD H5 s05)
/-! ### _law_take -/
abbrev s__law_take : Stmt := topS 48
abbrev N__law_take : List Str := ["_law_box_here", "_law_many", "_law_found", "_law_once"]
theorem sc__law_take : FnScope N__law_take ["_law_box_here", "_law_many"] (defScope s__law_take) := ⟨rfl, rfl, rfl, by decide +kernel, rfl, by decide +kernel, by decide +kernel⟩
def sp__law_take (K : PySem.W.Frag) : Sp := fun vs H Q _ => ∃ (b : Addr) (m n : Int), vs = [.ref b, .int m] ∧ Box H b n ∧ 0 < m ∧ m < 1073741824 ∧ n < 1000000000 ∧ ∀ (r : Int) H', 0 ≤ r → r < m → Box H' b (n + 1) → But b H H' → Q (.int r) H'
theorem ok__law_take {f : Addr} {fd : FuncData} (F : Fun K "_law_take" "_law_take" s__law_take f fd) (g : mg "_law_take" = some (.ref f)) (bd : Binds K fd ["_law_box_here", "_law_many"] []) : CF P w K mg base 1 "_law_take" ["_law_box_here", "_law_many"] (sp__law_take K) := by
  refine ⟨f, fd, F.ok sc__law_take (fun vs H Q E h => ?_) (fun cdv A outer s H vs Q E hr h => ?_), g, F.kp, bd⟩
  · first | (obtain ⟨_, rfl, _⟩ := h; rfl) | (obtain ⟨_, _, rfl, _⟩ := h; rfl) | (obtain ⟨_, _, _, rfl, _⟩ := h; rfl) | (obtain ⟨_, _, _, _, rfl, _⟩ := h; rfl) | (obtain ⟨_, _, _, _, _, rfl, _⟩ := h; rfl) | (obtain ⟨_, _, _, _, _, _, rfl, _⟩ := h; rfl) | (obtain ⟨_, _, _, _, _, _, _, rfl, _⟩ := h; rfl) | (obtain ⟨_, _, _, _, _, _, _, _, rfl, _⟩ := h; rfl) | (obtain ⟨_, _, _, _, _, _, _, _, _, rfl, _⟩ := h; rfl) | (obtain ⟨_, _, _, _, _, _, _, _, _, _, rfl, _⟩ := h; rfl) | (obtain ⟨_, _, _, _, _, _, _, _, _, _, _, rfl, _⟩ := h; rfl) | (obtain ⟨_, _, _, _, _, _, _, _, _, _, _, _, rfl, _⟩ := h; rfl) | (obtain ⟨_, _, _, _, _, _, _, _, _, _, _, _, _, rfl, _⟩ := h; rfl) | (obtain ⟨_, _, _, _, _, _, _, _, _, _, _, _, _, _, rfl, _⟩ := h; rfl) | (obtain ⟨_, _, _, _, _, _, _, _, _, _, _, _, _, _, _, rfl, _⟩ := h; rfl)
  · have hu64 := hr.units
    obtain ⟨b, m, n, rfl, ⟨x, y, z, hb, hx, hy, hy2, hz, hz2⟩, hm, hm2, hn, q⟩ := h
    refine ⟨_, (pss_cons (ps_if (pt_cmpR op_gt (pe_ix (kk_ixl K) (pv 0) pe_int (fun _ _ => rfl)) pe_int (nomark _))
         (pss_cons (ps_set (i := 2) sc__law_take.nd rfl (.inl rfl) (pe_op op_mod (pe_ix (kk_ixl K) (pv 0) pe_int (fun _ _ => rfl)) (pv 1)))
          (pss_cons (ps_asg (pe_op op_fdiv (pe_ix (kk_ixl K) (pv 0) pe_int (fun _ _ => rfl)) (pv 1)) (pg_sub (pv 0) pe_int set_list))
          (pss_one (ps_ret (pv 2)))))
         pss_nil)
      (pss_cons (ps_asg (pe_op op_add (pe_ix (kk_ixl K) (pv 0) pe_int (fun _ _ => rfl)) pe_int) (pg_sub (pv 0) pe_int set_list))
      (pss_cons (ps_set (i := 3) sc__law_take.nd rfl (.inl rfl) (pe_op op_mod (pe_op op_pow (pe_op op_add (pe_ix (kk_ixl K) (pv 0) pe_int (fun _ _ => rfl)) (pe_op op_mul pe_int (pe_ix (kk_ixl K) (pv 0) pe_int (fun _ _ => rfl)))) pe_int) pe_int))
      (pss_one (ps_ret (pe_op op_mod (pe_op op_fdiv (pe_op op_mod (pe_op op_add (pe_op op_mul (pv 3) (pe_op op_add (pe_op op_mod (pv 3) pe_int) pe_int)) (pe_op op_mul (pe_ix (kk_ixl K) (pv 0) pe_int (fun _ _ => rfl)) pe_int)) pe_int) pe_int) (pv 1))))))), ?_⟩
    refine ⟨_, rfl, b, _, _, _, rfl, rfl, SqL.of hb, rfl, _, _, rfl, rfl, _, rfl, ite2 (fun e => ?_) (fun e => ?_)⟩
    · refine ⟨_, rfl, b, _, _, _, rfl, rfl, SqL.of hb, rfl, _, rfl, _, _, rfl, rfl, hm, ?_⟩
      refine ⟨_, rfl, b, _, _, _, rfl, rfl, SqL.of hb, rfl, _, rfl, _, _, rfl, rfl, ⟨hm, hm2⟩, _, rfl, b, _, _, _, rfl, rfl, hb, rfl, ?_⟩
      refine ⟨_, rfl, q _ _ (Int.emod_nonneg _ (by omega)) (Int.emod_lt_of_pos _ hm) ⟨x / m, y, z, upd_same, Int.ediv_nonneg hx (by omega), hy, hy2, hz, by omega⟩ But.upd⟩
    · refine ⟨_, rfl, b, _, _, _, rfl, rfl, SqL.of hb, rfl, _, _, rfl, rfl, _, rfl, b, _, _, _, rfl, rfl, hb, rfl, ?_⟩
      have h1 : (upd H b (.lst [.int x, .int y, .int (z + 1)])) b = some (.lst [.int x, .int y, .int (z + 1)]) := upd_same
      refine ⟨_, rfl, b, _, _, _, rfl, rfl, SqL.of h1, rfl, _, rfl, b, _, _, _, rfl, rfl, SqL.of h1, rfl, _, _, rfl, rfl, .inl ⟨by decide, by decide⟩, _, _, rfl, rfl, _, _, rfl, rfl, ⟨by decide, by decide, ?_⟩, _, _, rfl, rfl, (by show (0 : Int) < 2147483647; decide), ?_⟩
      · show (y + 39373 * (z + 1)).natAbs < 2 ^ 64
        omega
      · have o0 : 0 ≤ (y + 39373 * (z + 1)) ^ (5 : Int).toNat % 2147483647 := Int.emod_nonneg _ (by decide)
        have o1 : (y + 39373 * (z + 1)) ^ (5 : Int).toNat % 2147483647 < 2147483647 := Int.emod_lt_of_pos _ (by decide)
        refine ⟨_, rfl, _, rfl, _, _, rfl, rfl, (by show (0 : Int) < 40009; decide), _, _, rfl, rfl, _, _, rfl, rfl, .inl ⟨?_, ?_⟩, _, rfl, b, _, _, _, rfl, rfl, SqL.of h1, rfl, _, _, rfl, rfl, .inl ⟨?_, ?_⟩, _, _, rfl, rfl, _, _, rfl, rfl, (by show (0 : Int) < 2147483629; decide), _, _, rfl, rfl, ⟨by decide, by decide⟩, _, rfl, _, _, rfl, rfl, hm, ?_⟩
        · omega
        · omega
        · omega
        · omega
        · exact q _ _ (Int.emod_nonneg _ (by omega)) (Int.emod_lt_of_pos _ hm) ⟨x, y, z + 1, h1, hx, hy, hy2, by omega, by omega⟩ But.upd
/-! ### _law_box -/
abbrev s__law_box : Stmt := topS 47
abbrev N__law_box : List Str := ["_law_script", "_law_k", "_law_cell"]
theorem sc__law_box : FnScope N__law_box ["_law_script", "_law_k"] (defScope s__law_box) := ⟨rfl, rfl, rfl, by decide +kernel, rfl, by decide +kernel, by decide +kernel⟩
def sp__law_box (K : PySem.W.Frag) : Sp := fun vs H Q _ => ∃ (a : Addr) (k : Int) (ns : List Int), vs = [.ref a, .int k] ∧ SqL K H a (ns.map V.int) ∧ 0 ≤ k ∧ k ≤ 63 ∧ ∀ H' b, H b = none → Same H H' → Box H' b 0 → Q (.ref b) H'
theorem ok__law_box {f : Addr} {fd : FuncData} (F : Fun K "_law_box" "_law_box" s__law_box f fd) (g : mg "_law_box" = some (.ref f)) (bd : Binds K fd ["_law_script", "_law_k"] []) (m_len : mg "len" = none) (m_abs : mg "abs" = none) (m_int : mg "int" = none) : CF P w K mg base 1 "_law_box" ["_law_script", "_law_k"] (sp__law_box K) := by
  refine ⟨f, fd, F.ok sc__law_box (fun vs H Q E h => ?_) (fun cdv A outer s H vs Q E hr h => ?_), g, F.kp, bd⟩
  · first | (obtain ⟨_, rfl, _⟩ := h; rfl) | (obtain ⟨_, _, rfl, _⟩ := h; rfl) | (obtain ⟨_, _, _, rfl, _⟩ := h; rfl) | (obtain ⟨_, _, _, _, rfl, _⟩ := h; rfl) | (obtain ⟨_, _, _, _, _, rfl, _⟩ := h; rfl) | (obtain ⟨_, _, _, _, _, _, rfl, _⟩ := h; rfl) | (obtain ⟨_, _, _, _, _, _, _, rfl, _⟩ := h; rfl) | (obtain ⟨_, _, _, _, _, _, _, _, rfl, _⟩ := h; rfl) | (obtain ⟨_, _, _, _, _, _, _, _, _, rfl, _⟩ := h; rfl) | (obtain ⟨_, _, _, _, _, _, _, _, _, _, rfl, _⟩ := h; rfl) | (obtain ⟨_, _, _, _, _, _, _, _, _, _, _, rfl, _⟩ := h; rfl) | (obtain ⟨_, _, _, _, _, _, _, _, _, _, _, _, rfl, _⟩ := h; rfl) | (obtain ⟨_, _, _, _, _, _, _, _, _, _, _, _, _, rfl, _⟩ := h; rfl) | (obtain ⟨_, _, _, _, _, _, _, _, _, _, _, _, _, _, rfl, _⟩ := h; rfl) | (obtain ⟨_, _, _, _, _, _, _, _, _, _, _, _, _, _, _, rfl, _⟩ := h; rfl)
  · have hu64 := hr.units
    obtain ⟨a, k, ns, rfl, hS, hk0, hk, q⟩ := h
    refine ⟨_, (pss_cons (ps_set (i := 2) sc__law_box.nd rfl (.inl rfl) pe_int)
      (pss_cons (ps_if (pt_cmpR op_lt (pv 1) (pe_callB (kk_len K) (by rfl) m_len PySem.boot_len (pa_cons (pv 0) pa_nil)) (nomark _))
         (pss_one (ps_set (i := 2) sc__law_box.nd rfl (.inl rfl) (pe_ix (kk_ixl K) (pv 0) (pv 1) (fun _ _ => rfl))))
         pss_nil)
      (pss_one (ps_ret (pe_lst (pa_cons (pe_op op_mul (pe_callB call_abs (by rfl) m_abs (by decide +kernel) (pa_cons (pv 2) pa_nil)) (pe_callTy call_int1 (by rfl) m_int (by decide +kernel) (pa_cons (pe_cmpR op_ge (pe_callB call_abs (by rfl) m_abs (by decide +kernel) (pa_cons (pv 2) pa_nil)) (pe_op op_pow pe_int pe_int) (nomark _)) pa_nil))) (pa_cons (pe_op op_add (pe_op op_add (pe_op op_mod (pv 2) pe_int) (pe_op op_mul pe_int (pv 1))) pe_int) (pa_cons pe_int pa_nil)))))))), ?_⟩
    refine ⟨_, rfl, _, rfl, a, _, rfl, .inl hS, _, _, rfl, rfl, _, rfl, ite2 (fun e => ?_) (fun e => ?_)⟩
    · have e1 := of_decide_eq_true e
      rw [List.length_map] at e1
      obtain ⟨c, hc⟩ := at_int hk0 e1
      refine ⟨_, rfl, _, rfl, a, _, _, _, rfl, rfl, hS, hc, ?_⟩
      refine ⟨_, rfl, _, rfl, _, rfl, _, rfl, _, _, rfl, rfl, ⟨by decide, by decide, by decide⟩, _, _, rfl, rfl, .inr ⟨_, rfl, _, _, rfl, rfl, .inr ⟨?_, ?_⟩, _, rfl, _, _, rfl, rfl, (by show (0 : Int) < 2147483629; decide), _, rfl, _, _, rfl, rfl, .inl ⟨by decide, by decide⟩, _, _, rfl, rfl, _, _, rfl, rfl, (by show 3 ≤ sizeLine; decide), fun p hp => ?_⟩⟩
      · split <;> omega
      · split <;> omega
      · refine q _ p hp (same_new hp) ⟨_, _, _, upd_same, ?_, ?_, ?_, by omega, by omega⟩
        · refine Int.mul_nonneg ?_ ?_ <;> split <;> omega
        · have := Int.emod_nonneg c (show (2147483629 : Int) ≠ 0 by decide)
          omega
        · have := Int.emod_lt_of_pos c (show (0 : Int) < 2147483629 by decide)
          omega
    · refine ⟨_, rfl, _, rfl, _, rfl, _, rfl, _, _, rfl, rfl, ⟨by decide, by decide, by decide⟩, _, _, rfl, rfl, .inr ⟨_, rfl, _, _, rfl, rfl, .inr ⟨?_, ?_⟩, _, rfl, _, _, rfl, rfl, (by show (0 : Int) < 2147483629; decide), _, rfl, _, _, rfl, rfl, .inl ⟨by decide, by decide⟩, _, _, rfl, rfl, _, _, rfl, rfl, (by show 3 ≤ sizeLine; decide), fun p hp => ?_⟩⟩
      · split <;> omega
      · split <;> omega
      · refine q _ p hp (same_new hp) ⟨_, _, _, upd_same, ?_, ?_, ?_, by omega, by omega⟩
        · refine Int.mul_nonneg ?_ ?_ <;> split <;> omega
        · omega
        · omega
/-- all as it was but two places -/
def K2 (b T : Addr) (H H' : Hp) : Prop := ∀ c o, c ≠ b → c ≠ T → H c = some o → H' c = some o
theorem join_st {α β : Type} {C : α → β → Prop} {G : Prop} (P : α → β → Prop) (h : (∀ σ H, P σ H → C σ H) → G) (rest : ∀ σ H, P σ H → C σ H) : G := h rest
theorem K2.refl (b T : Addr) (H : Hp) : K2 b T H H := fun _ _ _ _ h => h
theorem K2.step {b T : Addr} {H H1 H2 : Hp} (x : K2 b T H H1) (y : But b H1 H2) : K2 b T H H2 := fun c o n m h => y c o n (x c o n m h)
theorem K2.upd {b T : Addr} {H H1 : Hp} {o : HO} (x : K2 b T H H1) : K2 b T H (upd H1 T o) := fun c u n m h => by
  rw [upd_ne m]
  exact x c u n m h
theorem Box.upd {H : Hp} {b p : Addr} {n : Int} {o : HO} (h : Box H b n) (e : p ≠ b) : Box (L2.upd H p o) b n := by
  obtain ⟨x, y, z, h0, h1⟩ := h
  exact ⟨x, y, z, by rw [upd_ne e.symm]; exact h0, h1⟩
theorem Box.at {H : Hp} {b : Addr} {n : Int} (h : Box H b n) : ∃ l, H b = some (.lst l) := by
  obtain ⟨x, y, z, h0, _⟩ := h
  exact ⟨_, h0⟩
theorem sub_len {α : Type} [DecidableEq α] : ∀ {l m : List α}, l.Nodup → (∀ x ∈ l, x ∈ m) → l.length ≤ m.length
  | [], _, _, _ => Nat.zero_le _
  | x :: l, m, h, hs => by
    obtain ⟨h1, h2⟩ := List.nodup_cons.mp h
    have hx := hs x List.mem_cons_self
    have ih := sub_len (l := l) (m := m.erase x) h2 fun y hy => (List.mem_erase_of_ne fun e => h1 (by rw [← e]; exact hy)).mpr (hs y (List.mem_cons_of_mem _ hy))
    rw [List.length_erase_of_mem hx] at ih
    have : 0 < m.length := List.length_pos_of_mem hx
    rw [List.length_cons]
    omega
def words16 : List Str := ["house", "price", "ware", "put", "pay", "up", "leave", "bring", "hand", "settle", "strike", "undo", "keep", "fine", "falls", "back"]
theorem words16_low : ∀ w ∈ words16, Low w 8 ∧ 1 ≤ w.length := by
  intro w hw
  have h : ∀ w ∈ words16, (w.length ≤ 8 ∧ 1 ≤ w.length) ∧ (TL.tl w).all (fun c => decide (97 ≤ c ∧ c ≤ 122)) = true := by decide +kernel
  obtain ⟨⟨a, b⟩, c⟩ := h w hw
  exact ⟨⟨a, fun x hx => of_decide_eq_true (List.all_eq_true.mp c x hx)⟩, b⟩
def candL (s : Str) : List Str := (TL.tl (Str.ofString "abcdefghijklmnopqrstuvwxyz")).map fun c => s ++ ⟨#[c]⟩
theorem cand_nodup (s : Str) : (candL s).Nodup := by
  refine List.pairwise_map.mpr (List.Pairwise.imp ?_ (show (TL.tl (Str.ofString "abcdefghijklmnopqrstuvwxyz")).Pairwise (· ≠ ·) by decide +kernel))
  intro a b h e
  have e2 := congrArg TL.tl e
  rw [TL.tl_append, TL.tl_append] at e2
  exact h (List.cons.inj (List.append_cancel_left e2)).1
theorem cand_low {s w : Str} (hs : Low s 7) (h : w ∈ candL s) : Low w 8 ∧ 1 ≤ w.length := by
  obtain ⟨c, hc, rfl⟩ := List.mem_map.mp h
  have h1 := (letters_in c).mp hc
  refine ⟨low_app (j := 7) (k := 1) hs ⟨Nat.le_refl _, fun d hd => by rw [List.mem_singleton.mp (show d ∈ [c] from hd)]; exact h1⟩, ?_⟩
  rw [len_app]
  show 1 ≤ s.length + 1
  omega
theorem cand_free (s : Str) {ns : List Str} (h : ns.length ≤ 25) : ∃ w, w ∈ candL s ∧ w ∉ ns := by
  by_cases hc : ∀ w ∈ candL s, w ∈ ns
  · have := sub_len (cand_nodup s) hc
    have e : (candL s).length = 26 := by rw [candL, List.length_map]; decide +kernel
    omega
  · obtain ⟨w, hw⟩ := Classical.not_forall.mp hc
    exact ⟨w, Classical.byContradiction fun z => hw fun a => absurd a z, fun z => hw fun _ => z⟩
theorem low_cut7 {s : Str} (h : Low s 8) : Low (cutS s none (some 7)) 7 := by
  refine ⟨?_, (low_cut h).2⟩
  rw [TL.len_tl]
  show (List.take (HT.sIx s.length s.length (some 7) - HT.sIx s.length 0 none) (List.drop (HT.sIx s.length 0 none) (TL.tl s))).length ≤ 7
  rw [show (some (7 : Int)) = some ((7 : Nat) : Int) from rfl, HT.sIx_nat, HT.sIx_none, List.length_take]
  omega
theorem low_seven {s : Str} (h : nameS s = true) : Low (cutS s none (some 7)) 7 := by
  refine low_cut7 ⟨(name_len h).1, fun c hc => ?_⟩
  rw [name_iff, Bool.and_eq_true, List.all_eq_true] at h
  exact of_decide_eq_true (h.2 c hc)
theorem flat_strs (ns : List Str) : (ns.map V.str).all flatV = true := by
  rw [List.all_eq_true]
  intro v hv
  obtain ⟨s, _, rfl⟩ := List.mem_map.mp hv
  rfl
/-! ### _law_names -/
abbrev s__law_names : Stmt := topS 49
abbrev N__law_names : List Str := ["_law_box_here", "_law_many", "_law_letters", "_law_found", "_law_words", "_law_k", "_law_size", "_law_name", "_law_j", "_law_way", "_law_one"]
theorem sc__law_names : FnScope N__law_names ["_law_box_here", "_law_many"] (defScope s__law_names) := ⟨rfl, rfl, rfl, by decide +kernel, rfl, by decide +kernel, by decide +kernel⟩
def NmS (b L wl : Addr) (m : Nat) (s5 s6 : Option V) (H2 : Hp) (n : Int) (ns : List Str) (σ : L2.St) (G : Hp) : Prop := ∃ (nm : Str) (s8 s10 : Option V) (way : Int), σ = [some (.ref b), some (.int m), some (.str (Str.ofString "abcdefghijklmnopqrstuvwxyz")), some (.ref L), some (.ref wl), s5, s6, some (.str nm), s8, some (.int way), s10] ∧ Low nm 8 ∧ 1 ≤ nm.length ∧ Box G b n ∧ K2 b L H2 G ∧ G L = some (.lst (ns.map V.str))
def sp__law_names (K : PySem.W.Frag) : Sp := fun vs H Q _ => ∃ (b : Addr) (n : Int) (m : Nat), vs = [.ref b, .int m] ∧ Box H b n ∧ m ≤ 20 ∧ n < 999900000 ∧ ∀ H' L (ns : List Str), Box H' b (n + 20 * m) → But b H H' → H L = none → H' L = some (.lst (ns.map V.str)) → ns.length = m → ns.Nodup → (∀ s ∈ ns, nameS s = true) → Q (.ref L) H'
theorem ok__law_names {f : Addr} {fd : FuncData} (F : Fun K "_law_names" "_law_names" s__law_names f fd) (g : mg "_law_names" = some (.ref f)) (bd : Binds K fd ["_law_box_here", "_law_many"] []) (m_range : mg "range" = none) (m_len : mg "len" = none) (C__law_take : CF P w K mg base 1 "_law_take" ["_law_box_here", "_law_many"] (sp__law_take K)) : CF P w K mg base 2 "_law_names" ["_law_box_here", "_law_many"] (sp__law_names K) := by
  refine ⟨f, fd, F.ok sc__law_names (fun vs H Q E h => ?_) (fun cdv A outer s H vs Q E hr h => ?_), g, F.kp, bd⟩
  · first | (obtain ⟨_, rfl, _⟩ := h; rfl) | (obtain ⟨_, _, rfl, _⟩ := h; rfl) | (obtain ⟨_, _, _, rfl, _⟩ := h; rfl) | (obtain ⟨_, _, _, _, rfl, _⟩ := h; rfl) | (obtain ⟨_, _, _, _, _, rfl, _⟩ := h; rfl) | (obtain ⟨_, _, _, _, _, _, rfl, _⟩ := h; rfl) | (obtain ⟨_, _, _, _, _, _, _, rfl, _⟩ := h; rfl) | (obtain ⟨_, _, _, _, _, _, _, _, rfl, _⟩ := h; rfl) | (obtain ⟨_, _, _, _, _, _, _, _, _, rfl, _⟩ := h; rfl) | (obtain ⟨_, _, _, _, _, _, _, _, _, _, rfl, _⟩ := h; rfl) | (obtain ⟨_, _, _, _, _, _, _, _, _, _, _, rfl, _⟩ := h; rfl) | (obtain ⟨_, _, _, _, _, _, _, _, _, _, _, _, rfl, _⟩ := h; rfl) | (obtain ⟨_, _, _, _, _, _, _, _, _, _, _, _, _, rfl, _⟩ := h; rfl) | (obtain ⟨_, _, _, _, _, _, _, _, _, _, _, _, _, _, rfl, _⟩ := h; rfl) | (obtain ⟨_, _, _, _, _, _, _, _, _, _, _, _, _, _, _, rfl, _⟩ := h; rfl)
  · have hu64 := hr.units
    obtain ⟨b, n, m, rfl, hB, m1, hn, q⟩ := h
    refine ⟨_, (pss_cons (ps_asg (pe_tup (pa_cons pe_str (pa_cons (pe_lst pa_nil) pa_nil))) (pg_tup (by rfl) (pgs_cons (pg_name (i := 2) sc__law_names.nd rfl (.inr rfl)) (pgs_cons (pg_name (i := 3) sc__law_names.nd rfl (.inr rfl)) pgs_nil))))
      (pss_cons (ps_set (i := 4) sc__law_names.nd rfl (.inl rfl) (pe_split pe_str pe_str))
      (pss_cons (ps_for PassesOwn.never rfl (pi_range1 (by rfl) m_range (pa_cons (pv 1) pa_nil)) (pg_name (i := 5) sc__law_names.nd rfl (.inl rfl))
         (pss_cons (ps_set (i := 6) sc__law_names.nd rfl (.inl rfl) (pe_ix (kk_ixl K) (pe_lst (pa_cons pe_int (pa_cons pe_int (pa_cons pe_int pa_nil)))) (pe_cf C__law_take (hr.mono (by decide)) (by rfl) (pa_cons (pv 0) (pa_cons pe_int pa_nil))) (fun _ _ => rfl)))
          (pss_cons (ps_set (i := 7) sc__law_names.nd rfl (.inr rfl) (pe_join pe_str (pe_lc (own := [("_law_j", 8)]) (g := (gName 8)) (tt := tYes) rfl sc__law_names.nd (pi_range1 (by rfl) m_range (pa_cons (pv 6) pa_nil)) (blkOk_by (own := [("_law_j", 8)]) (N := N__law_names) (sc := defScope s__law_names) (by decide +kernel)) (fun _ _ _ _ _ => pg_name (i := 8) sc__law_names.nd rfl (Or.inl rfl)) (fun _ _ _ _ _ => pts_nil) (fun _ _ _ _ _ => (pe_ix ix_str (pv 2) (pe_cf C__law_take (hr.mono (by decide)) (by rfl) (pa_cons (pv 0) (pa_cons pe_int pa_nil))) (fun _ _ => rfl))))))
          (pss_cons (ps_set (i := 9) sc__law_names.nd rfl (.inl rfl) (pe_cf C__law_take (hr.mono (by decide)) (by rfl) (pa_cons (pv 0) (pa_cons pe_int pa_nil))))
          (pss_cons (ps_if (PW.pt (pw_and (pt_cmpR op_lt (pv 9) pe_int (nomark _)) (pw_and1 (pt_cmpR (kk_neD K hu64) (pv 3) (pe_lst pa_nil) (nomark _)))))
             (pss_one (ps_set (i := 7) sc__law_names.nd rfl (.inr rfl) (pe_op op_add_str (pe_slice sl_str (pe_ix (kk_ixl K) (pv 3) (pe_cf C__law_take (hr.mono (by decide)) (by rfl) (pa_cons (pv 0) (pa_cons (pe_callB (kk_len K) (by rfl) m_len PySem.boot_len (pa_cons (pv 3) pa_nil)) pa_nil))) (fun _ _ => rfl)) po_none (po_some pe_int)) (pe_ix ix_str (pv 2) (pe_cf C__law_take (hr.mono (by decide)) (by rfl) (pa_cons (pv 0) (pa_cons pe_int pa_nil))) (fun _ _ => rfl)))))
             pss_nil)
          (pss_cons (ps_if (pt_cmpR op_eq (pv 9) pe_int (nomark _))
             (pss_one (ps_set (i := 7) sc__law_names.nd rfl (.inr rfl) (pe_ix (kk_ixl K) (pv 4) (pe_cf C__law_take (hr.mono (by decide)) (by rfl) (pa_cons (pv 0) (pa_cons (pe_callB (kk_len K) (by rfl) m_len PySem.boot_len (pa_cons (pv 4) pa_nil)) pa_nil))) (fun _ _ => rfl))))
             pss_nil)
          (pss_one (ps_expr (pe_bm PySem.F.plainAttrs_list PySem.F.slot_list_append PySem.F.type_list_append mt_append (pv 3) (pa_cons (pe_ix (kk_ixl K) (pe_lc (own := [("_law_one", 10)]) (g := (gName 10)) rfl sc__law_names.nd (pi_list (pe_op op_cat (pe_lst (pa_cons (pv 7) pa_nil)) (pe_lc (own := [("_law_one", 10)]) (g := (gName 10)) (tt := tYes) rfl sc__law_names.nd (pi_str (pv 2)) (blkOk_by (own := [("_law_one", 10)]) (N := N__law_names) (sc := defScope s__law_names) (by decide +kernel)) (fun _ _ _ _ _ => pg_name (i := 10) sc__law_names.nd rfl (Or.inl rfl)) (fun _ _ _ _ _ => pts_nil) (fun _ _ _ _ _ => (pe_op op_add_str (pe_slice sl_str (pv 7) po_none (po_some pe_int)) (pv 10)))))) (blkOk_by (own := [("_law_one", 10)]) (N := N__law_names) (sc := defScope s__law_names) (by decide +kernel)) (fun _ _ _ _ _ => pg_name (i := 10) sc__law_names.nd rfl (Or.inl rfl)) (fun _ _ _ _ _ => (pts_one (pt_cmpR (kk_nin K) (pv 10) (pv 3) (by rfl)))) (fun _ _ _ _ _ => (pv 10))) pe_int (fun _ _ => rfl)) pa_nil))))))))))
      (pss_one (ps_ret (pv 3)))))), ?_⟩
    refine ⟨(by show 0 ≤ sizeLine; decide), fun L nL => ⟨(by show 2 ≤ sizeLine; decide), fun T nT => ⟨T, _, rfl, SqT.of upd_same, rfl, _, _, rfl, _, _, rfl, rfl, ?_⟩⟩⟩
    have s1 := same_new (o := .lst []) nL
    have x1 := upd_same (H := H) (a := L) (o := .lst [])
    have Lb := hB.ne nL
    have B1 := hB.new (o := .lst []) nL
    generalize upd H L (.lst []) = H1 at *
    have s2 := same_new (o := .tup [.str (Str.ofString "abcdefghijklmnopqrstuvwxyz"), .ref L]) nT
    have B2 := B1.new (o := .tup [.str (Str.ofString "abcdefghijklmnopqrstuvwxyz"), .ref L]) nT
    have x2 := s2 _ _ x1
    generalize upd H1 T (.tup [.str (Str.ofString "abcdefghijklmnopqrstuvwxyz"), .ref L]) = H2 at *
    refine ⟨⟨_, rfl⟩, _, _, rfl, rfl, by decide +kernel, by decide +kernel, fun wl nwl => ?_⟩
    rw [show Txt.split (Str.ofString "house price ware put pay up leave bring hand settle strike undo keep fine falls back") (Str.ofString " ") = words16 by decide +kernel]
    have s3 := same_new (o := .lst (words16.map V.str)) nwl
    have B3 := B2.new (o := .lst (words16.map V.str)) nwl
    have wb := B2.ne nwl
    have wL : wl ≠ L := (ne_of_none x2 nwl).symm
    have x3 := s3 _ _ x2
    have hW := upd_same (H := H2) (a := wl) (o := .lst (words16.map V.str))
    generalize upd H2 wl (.lst (words16.map V.str)) = H3 at *
    have s03 := (s1.trans s2).trans s3
    refine ⟨_, rfl, _, rfl, by omega, by omega, for_range (lo := 0) (n := m) (fun i σ G => ∃ s5 s6 s7 s8 s9 s10, σ = [some (.ref b), some (.int m), some (.str (Str.ofString "abcdefghijklmnopqrstuvwxyz")), some (.ref L), some (.ref wl), s5, s6, s7, s8, s9, s10] ∧ Box G b (n + 20 * i) ∧ K2 b L H3 G ∧ ∃ ns : List Str, G L = some (.lst (ns.map V.str)) ∧ ns.length = i ∧ ns.Nodup ∧ ∀ s ∈ ns, nameS s = true) ⟨_, _, _, _, _, _, rfl, B3.mono (by omega), K2.refl _ _ _, [], x3, rfl, List.nodup_nil, fun _ h => (nomatch h)⟩ (fun i σ G hi h => ?_) (fun σ G h => ?_)⟩
    · obtain ⟨s5, s6, s7, s8, s9, s10, rfl, BG, KG, ns, hL, lns, nd, hns⟩ := h
      refine ⟨(by show 3 ≤ sizeLine; decide), fun p np => ⟨_, rfl, b, 3, _, rfl, BG.new np, by decide, by decide, by omega, fun r1 G1 r10 r11 B4 t4 => ?_⟩⟩
      have pb := BG.ne np
      obtain ⟨sz, hsz, sz0, sz1⟩ := pick3i (lo := 1) (hi := 8) r10 r11 (x := 1) (y := 8) (z := 2) ⟨by decide, by decide⟩ ⟨by decide, by decide⟩ ⟨by decide, by decide⟩
      refine ⟨p, _, _, _, rfl, rfl, SqL.of (t4 _ _ pb upd_same), hsz, ?_⟩
      have t04 : But b G G1 := (But.new np).trans t4
      refine ⟨⟨_, rfl⟩, _, rfl, _, rfl, by omega, by omega, fun D nD => lc_range (lo := 0) (n := sz.toNat) (fun j G2 => But b G1 G2 ∧ Box G2 b (n + 20 * i + 1 + j) ∧ ∃ ls : List Str, ls.length = j ∧ (∀ s ∈ ls, Low s 1 ∧ s.length = 1) ∧ G2 D = some (.lst (ls.map V.str))) ⟨But.new nD, (B4.mono (by omega)).new nD, [], rfl, fun _ h => (nomatch h), upd_same⟩ (fun j G2 hj h => ?_) (fun G2 h => ?_)⟩
      · obtain ⟨t5, B5, ls, hls, hlb, hD⟩ := h
        have hDb : D ≠ b := B4.ne nD
        refine ⟨rfl, _, rfl, _, rfl, b, 26, _, rfl, B5, by decide, by decide, by omega, fun r2 G3 r20 r21 B6 t6 => ⟨_, _, _, rfl, rfl, by decide +kernel, ltr_at r20 r21, ?_⟩⟩
        refine ⟨_, t6 _ _ hDb hD, ?_, fun e o ne he => ?_, (B6.mono (by omega)).upd hDb, ls ++ [ltr r2.toNat], by rw [List.length_append, hls]; rfl, fun y hy => ?_, ?_⟩
        · rw [List.length_map, hls]
          exact small1000 (by omega)
        · rw [upd_ne (ne_of_none he nD)]
          exact t6 _ _ ne (t5 _ _ ne he)
        · rcases List.mem_append.mp hy with z | z
          · exact hlb y z
          · rw [List.mem_singleton.mp z]
            exact ⟨low_ltr (by omega), rfl⟩
        · rw [upd_same, List.map_append]
          rfl
      obtain ⟨t5, B5, ls, hls, hlb, hD⟩ := h
      have hlb1 : ∀ s ∈ ls, s.length = 1 := fun s hs => (hlb s hs).2
      have hlb : ∀ s ∈ ls, Low s 1 := fun s hs => (hlb s hs).1
      have hsum := low_sum hlb
      have lnm := low_join hlb
      have lnl : (Txt.join (Str.ofString "") ls).length = ls.length := by
        have key : ∀ {l : List Str}, (∀ s ∈ l, s.length = 1) → (Str.join (Str.ofString "") l).length = l.length := fun {l} => by
          induction l with
          | nil => intro _; rfl
          | cons a r ih =>
            intro h
            cases r with
            | nil => exact h a List.mem_cons_self
            | cons c r =>
              show (a ++ Str.ofString "" ++ Str.join (Str.ofString "") (c :: r)).length = _
              rw [len_app, len_app, ih fun s hs => h s (List.mem_cons_of_mem _ hs), h a List.mem_cons_self]
              show 1 + 0 + _ = _
              simp only [List.length_cons]
              omega
        rw [TL.join_eq]
        exact key fun s hs => hlb1 s hs
      refine ⟨_, D, ls, rfl, rfl, .inl (SqL.of hD), by rw [show (Str.ofString "").length = 0 from rfl]; omega, ?_⟩
      have nm8 : Low (Txt.join (Str.ofString "") ls) 8 := ⟨by have := lnm.1; omega, lnm.2⟩
      have nm1 : 1 ≤ (Txt.join (Str.ofString "") ls).length := by omega
      generalize Txt.join (Str.ofString "") ls = nm at *
      refine ⟨_, rfl, b, 6, _, rfl, B5, by decide, by decide, by omega, fun way G3 w0 w1 B6 t6 => ?_⟩
      have tG3 := (t04.trans t5).trans t6
      have KG3 := KG.step tG3
      have hL3 := tG3 _ _ Lb hL
      have nsA : ∀ s ∈ ns, Asc s := fun s hs => name_asc (hns s hs)
      apply join_st (NmS b L wl m (some (.int (0 + (i : Int)))) (some (.int sz)) H3 (n + 20 * i + 14) ns)
      case h =>
        intro go
        refine ⟨_, rfl, _, _, rfl, rfl, _, rfl, ?_⟩
        by_cases w2 : way < 2
        case neg =>
          rw [decide_eq_false w2]
          exact iteF (iteF (go _ _ ⟨nm, s8, s10, way, rfl, nm8, nm1, B6.mono (by omega), KG3, hL3⟩))
        rw [decide_eq_true w2]
        refine iteT ⟨_, rfl, (by show 0 ≤ sizeLine; decide), fun E nE => ?_⟩
        have sE := same_new (o := .lst []) nE
        refine ⟨.list (ns.map PyData.str), .list [], .lst (SqL.of (sE _ _ hL3)) (strs_dp ns), .lst (SqL.of upd_same) .nil, sh_strs nsA, by decide +kernel, _, rfl, ?_⟩
        have hL4 := sE _ _ hL3
        have B7 := B6.new (o := .lst []) nE
        have KG4 := KG3.step (But.of sE)
        generalize upd G3 E (.lst []) = G4 at *
        cases ns with
        | nil =>
          rw [show (!PyData.eqv (.list (([] : List Str).map PyData.str)) (.list [])) = false from by simp [PyData.eqv, PyData.eqvAll]]
          exact iteF (go _ _ ⟨nm, s8, s10, way, rfl, nm8, nm1, B7.mono (by omega), KG4, hL4⟩)
        | cons n0 nr =>
          rw [show (!PyData.eqv (.list ((n0 :: nr).map PyData.str)) (.list [])) = true from by simp [PyData.eqv, PyData.eqvAll]]
          refine iteT ⟨_, rfl, _, rfl, _, rfl, L, _, rfl, .inl (SqL.of hL4), b, _, _, rfl, B7, by rw [List.length_map, List.length_cons]; omega, by rw [List.length_map]; omega, by omega, fun r3 G5 r30 r31 B8 t8 => ?_⟩
          obtain ⟨x, hx, hP⟩ := pick_all (P := fun v => ∃ s, v = .str s ∧ nameS s = true) (xs := (n0 :: nr).map V.str) (r := r3) (fun v hv => by
            obtain ⟨s, hs, rfl⟩ := List.mem_map.mp hv
            exact ⟨s, rfl, hns s hs⟩) r30 r31
          obtain ⟨s0, rfl, hs0⟩ := hP
          have hL5 := t8 _ _ Lb hL4
          have l0 := (name_len hs0).1
          refine ⟨L, _, _, _, rfl, rfl, SqL.of hL5, hx, _, rfl, s0, rfl, size_small (by omega), _, rfl, _, rfl, b, 26, _, rfl, B8, by decide, by decide, by omega, fun r4 G6 r40 r41 B9 t9 => ⟨_, _, _, rfl, rfl, by decide +kernel, ltr_at r40 r41, _, _, rfl, rfl, ?_, ?_⟩⟩
          · have := cutS_le s0 none (some 7)
            show (cutS s0 none (some 7)).length + 1 ≤ sizeLine
            exact size_small (by omega)
          have l7 : Low (cutS s0 none (some 7)) 7 := low_seven hs0
          exact go _ _ ⟨_, s8, s10, way, rfl, low_app (j := 7) (k := 1) l7 (low_ltr (by omega)), by rw [len_app]; show 1 ≤ _ + 1; omega, B9.mono (by omega), (KG4.step t8).step t9, t9 _ _ Lb hL5⟩
      case rest =>
        intro σ G4 h
        obtain ⟨nm2, s8', s10', way2, rfl, nm28, nm21, B7, KG4, hL4⟩ := h
        apply join_st (NmS b L wl m (some (.int (0 + (i : Int)))) (some (.int sz)) H3 (n + 20 * i + 15) ns)
        case h =>
          intro go
          refine ⟨_, rfl, rfl, _, rfl, ?_⟩
          by_cases w2 : V.int way2 = V.int 2
          case neg => exact iteN w2 (go _ _ ⟨nm2, s8', s10', way2, rfl, nm28, nm21, B7.mono (by omega), KG4, hL4⟩)
          refine iteY w2 ⟨_, rfl, _, rfl, _, rfl, wl, _, rfl, .inl (SqL.of (KG4 _ _ wb wL hW)), b, _, _, rfl, B7, by decide, by decide, by omega, fun r3 G5 r30 r31 B8 t8 => ?_⟩
          obtain ⟨x, hx, hP⟩ := pick_all (P := fun v => ∃ s, v = .str s ∧ Low s 8 ∧ 1 ≤ s.length) (xs := words16.map V.str) (r := r3) (fun v hv => by
            obtain ⟨s, hs, rfl⟩ := List.mem_map.mp hv
            exact ⟨s, rfl, words16_low s hs⟩) r30 r31
          obtain ⟨s0, rfl, hs0, hs1⟩ := hP
          exact ⟨wl, _, _, _, rfl, rfl, SqL.of ((KG4.step t8) _ _ wb wL hW), hx, go _ _ ⟨s0, s8', s10', way2, rfl, hs0, hs1, B8.mono (by omega), KG4.step t8, t8 _ _ Lb hL4⟩⟩
        case rest =>
          intro σ G5 h
          obtain ⟨nm3, s8', s10', way2, rfl, nm38, nm31, B7, KG5, hL5⟩ := h
          refine ⟨_, rfl, .inl ⟨rfl, _, SqL.of hL5⟩, _, rfl, (by show 1 ≤ sizeLine; decide), fun P1 nP1 => ?_⟩
          have z1 := same_new (o := .lst [.str nm3]) nP1
          have xP1 := upd_same (H := G5) (a := P1) (o := .lst [.str nm3])
          generalize upd G5 P1 (.lst [.str nm3]) = G6 at *
          have ll : (TL.tl (Str.ofString "abcdefghijklmnopqrstuvwxyz")).length = 26 := by decide +kernel
          have e26 : (Str.ofString "abcdefghijklmnopqrstuvwxyz").cps.size = 26 := by decide +kernel
          have l7 : Low (cutS nm3 none (some 7)) 7 := low_cut7 nm38
          refine ⟨_, rfl, _, rfl, fun D2 nD2 => lc_it walk_str (fun j G => Same G6 G ∧ G D2 = some (.lst (((candL (cutS nm3 none (some 7))).take j).map V.str))) ⟨same_new nD2, upd_same⟩ (fun _ _ _ _ => trivial) (fun j x G7 G8 hj h hy => ?_) (fun G7 h => ?_)⟩
          · obtain ⟨rfl, c, hc, rfl⟩ := hy
            have hc2 : (TL.tl (Str.ofString "abcdefghijklmnopqrstuvwxyz"))[j]? = some c := by simpa using hc
            refine ⟨rfl, _, rfl, _, rfl, nm3, rfl, size_small (by have := nm38.1; omega), _, rfl, _, _, rfl, rfl, ?_, ?_⟩
            · have := l7.1
              show (cutS nm3 none (some 7)).length + 1 ≤ sizeLine
              exact size_small (by omega)
            refine ⟨_, h.2, ?_, ?_, ?_⟩
            · rw [List.length_map, List.length_take]
              refine small1000 ?_
              rw [candL, List.length_map, ll]
              omega
            · exact fun o u e => by
                rw [upd_ne (ne_of_none e nD2)]
                exact h.1 _ _ e
            · rw [upd_same, List.take_add_one, candL, List.getElem?_map, hc2, ← candL, Option.map_some, Option.toList_some, List.map_append]
              rfl
          obtain ⟨z2, hD2⟩ := h
          rw [List.take_of_length_le (by rw [candL, List.length_map, ll, e26]; exact Nat.le_refl _)] at hD2
          have cl : (candL (cutS nm3 none (some 7))).length = 26 := by rw [candL, List.length_map, ll]
          refine ⟨P1, D2, _, _, rfl, rfl, z2 _ _ xP1, hD2, (by rw [List.length_map, cl]; show 1 + 26 ≤ sizeLine; decide), fun C nC => ?_⟩
          have z3 := same_new (o := .lst ([.str nm3] ++ (candL (cutS nm3 none (some 7))).map V.str)) nC
          have xC := upd_same (H := G7) (a := C) (o := .lst ([.str nm3] ++ (candL (cutS nm3 none (some 7))).map V.str))
          generalize upd G7 C (.lst ([.str nm3] ++ (candL (cutS nm3 none (some 7))).map V.str)) = G8 at *
          have z03 := (z1.trans z2).trans z3
          have eC : ([V.str nm3] ++ (candL (cutS nm3 none (some 7))).map V.str) = (nm3 :: candL (cutS nm3 none (some 7))).map V.str := rfl
          rw [eC] at xC
          have hL8 := z03 _ _ hL5
          refine ⟨C, rfl, ⟨_, SqL.of xC⟩, fun D3 nD3 => lc_list (K := K) (a := C) (xs := (nm3 :: candL (cutS nm3 none (some 7))).map V.str) (fun j G => Same G8 G ∧ G D3 = some (.lst ((((nm3 :: candL (cutS nm3 none (some 7))).take j).filter fun s => decide (s ∉ ns)).map V.str))) ⟨same_new nD3, upd_same⟩ (fun j G _ h => SqL.of (h.1 _ _ xC)) (fun j x G hx h => ?_) (fun G h => ?_)⟩
          · rw [List.getElem?_map] at hx
            obtain ⟨w, hw, rfl⟩ := Option.map_eq_some_iff.mp hx
            refine ⟨rfl, _, rfl, _, rfl, L, _, rfl, .inl (SqL.of (h.1 _ _ hL8)), rfl, flat_strs ns, _, rfl, ?_⟩
            rw [if_pos rfl, in_strs]
            have ht : (nm3 :: candL (cutS nm3 none (some 7))).take (j + 1) = (nm3 :: candL (cutS nm3 none (some 7))).take j ++ [w] := by rw [List.take_add_one, hw]; rfl
            by_cases hn : w ∈ ns
            · rw [decide_eq_true hn]
              refine iteF ⟨h.1, ?_⟩
              rw [h.2, ht, List.filter_append, List.filter_cons, if_neg (by rw [decide_eq_true_eq]; exact fun z => z hn), List.filter_nil, List.append_nil]
            · rw [decide_eq_false hn]
              refine iteT ⟨_, rfl, _, h.2, ?_, ?_, ?_⟩
              · rw [List.length_map]
                refine small1000 (Nat.le_trans (List.length_filter_le _ _) ?_)
                rw [List.length_take, List.length_cons, cl]
                omega
              · exact fun o u e => by
                  rw [upd_ne (ne_of_none e nD3)]
                  exact h.1 _ _ e
              · rw [upd_same, ht, List.filter_append, List.filter_cons, if_pos (by rw [decide_eq_true_eq]; exact hn), List.filter_nil, List.map_append]
                rfl
          obtain ⟨z4, hD3⟩ := h
          rw [List.length_map, List.take_of_length_le (Nat.le_refl _)] at hD3
          obtain ⟨wf, wf1, wf2⟩ := cand_free (cutS nm3 none (some 7)) (ns := ns) (by omega)
          have mem : wf ∈ (nm3 :: candL (cutS nm3 none (some 7))).filter fun s => decide (s ∉ ns) := List.mem_filter.mpr ⟨List.mem_cons_of_mem _ wf1, decide_eq_true wf2⟩
          obtain ⟨c0, cr, hcr⟩ : ∃ c0 cr, ((nm3 :: candL (cutS nm3 none (some 7))).filter fun s => decide (s ∉ ns)) = c0 :: cr := by
            cases hh : ((nm3 :: candL (cutS nm3 none (some 7))).filter fun s => decide (s ∉ ns)) with
            | nil => rw [hh] at mem; cases mem
            | cons a r => exact ⟨a, r, rfl⟩
          have c0m : c0 ∈ (nm3 :: candL (cutS nm3 none (some 7))).filter fun s => decide (s ∉ ns) := by rw [hcr]; exact List.mem_cons_self
          obtain ⟨c1, c2⟩ := List.mem_filter.mp c0m
          have c2 := of_decide_eq_true c2
          have c0n : nameS c0 = true := by
            rcases List.mem_cons.mp c1 with rfl | c1
            · exact low_name nm38 nm31
            · exact low_name (cand_low l7 c1).1 (cand_low l7 c1).2
          rw [hcr] at hD3
          have z5 := z03.trans z4
          have hL9 := z4 _ _ hL8
          refine ⟨D3, _, _, _, rfl, rfl, SqL.of hD3, at0, L, _, _, rfl, rfl, hL9, by rw [List.length_map]; exact small1000 (by omega), _, _, _, _, _, _, rfl, ((B7.same z5).upd Lb).mono (by omega), (KG5.step (But.of z5)).upd, ns ++ [c0], by rw [upd_same, List.map_append]; rfl, by rw [List.length_append, lns]; rfl, ?_, fun s hs => ?_⟩
          · refine List.nodup_append.mpr ⟨nd, by simp, fun x hx y hy => ?_⟩
            rw [List.mem_singleton.mp hy]
            exact fun e => c2 (e ▸ hx)
          · rcases List.mem_append.mp hs with z | z
            · exact hns s z
            · rw [List.mem_singleton.mp z]
              exact c0n
    · obtain ⟨s5, s6, s7, s8, s9, s10, rfl, BG, KG, ns, hL, lns, nd, hns⟩ := h
      refine ⟨_, rfl, q G L ns (BG.mono (by omega)) (fun c o ne e => KG c o ne (ne_of_none e nL) (s03 _ _ e)) nL hL lns nd hns⟩
/-! ### a rule's clauses, one by one -/
def nz (l : List Str) : List Str := l.filter fun s => decide (s ≠ Str.ofString "")
theorem nz_app (l m : List Str) : nz (l ++ m) = nz l ++ nz m := List.filter_append ..
theorem nz_one {t : Str} (h : t ≠ Str.ofString "") : nz [t] = [t] := by
  unfold nz
  rw [List.filter_cons, if_pos (decide_eq_true h), List.filter_nil]
theorem nz_none : nz [Str.ofString ""] = [] := by
  unfold nz
  rw [List.filter_cons, if_neg (by decide +kernel), List.filter_nil]
theorem nz_len (l : List Str) : (nz l).length ≤ l.length := List.length_filter_le ..
theorem cnt_ne {w : Str} {n : Int} (h : 0 < n) : cntT w n ≠ Str.ofString "" := fun e => by
  unfold cntT at e
  rw [if_neg (by omega)] at e
  have := congrArg Str.length e
  rw [len_app, len_app] at this
  have e1 : (Str.ofString " ").length = 1 := rfl
  have e2 : (Str.ofString "").length = 0 := rfl
  rw [e1, e2] at this
  omega
theorem cnt_zero (w : Str) : cntT w 0 = Str.ofString "" := if_pos rfl
theorem nz_cnt0 (l : List Str) (w : Str) : nz (l ++ [cntT w 0]) = nz l := by rw [nz_app, cnt_zero, nz_none, List.append_nil]
theorem nz_cnt {l : List Str} {w : Str} {n : Int} (h : 0 < n) : nz (l ++ [cntT w n]) = nz l ++ [cntT w n] := by rw [nz_app, nz_one (cnt_ne h)]
def ClS (b L : Addr) (p s : Int) (s4 s5 s6 s7 s8 : Option V) (H1 : Hp) (n : Int) (ts : List Str) (σ : L2.St) (G : Hp) : Prop := σ = [some (.ref b), some (.int p), some (.int s), some (.ref L), s4, s5, s6, s7, s8] ∧ Box G b n ∧ K2 b L H1 G ∧ G L = some (.lst (ts.map V.str)) ∧ ts.length ≤ 20
def lastT (l : Bool) : Str := if l = true then Str.ofString "from last" else Str.ofString ""
def SrtS : List (Str × Int) := [("fine", 100), ("falls", 30), ("back", 30)]
def srtT : List (Str × Int) → List Int → List Str
  | p :: ps, v :: vs => cntT p.1 v :: srtT ps vs
  | _, _ => []
theorem srt_snoc {p : Str × Int} {v : Int} : ∀ {i : Nat} {ps : List (Str × Int)} {vs : List Int}, ps[i]? = some p → vs.length = i → srtT ps (vs ++ [v]) = srtT ps vs ++ [cntT p.1 v]
  | 0, q :: ps, [], h, _ => by cases h; cases ps <;> rfl
  | i + 1, q :: ps, u :: vs, h, hl => by
    show cntT q.1 u :: srtT ps (vs ++ [v]) = (cntT q.1 u :: srtT ps vs) ++ _
    rw [srt_snoc (i := i) h (by simpa using hl)]
    rfl
  | _, [], _, h, _ => by simp at h
  | i + 1, _ :: _, [], _, hl => by cases hl
theorem cnt_w {w w2 : Str} {n : Int} (h : 0 < n) (e : w2 = w ++ Str.ofString " ") : w2 ++ Str.ofString (toString n) = cntT w n := by
  unfold cntT
  rw [if_neg (by omega), e]
theorem part_ne (p s : Int) : partT p s ≠ Str.ofString "" := fun e => by
  have := congrArg Str.length e
  unfold partT at this
  rw [len_app, len_app, len_app, show (Str.ofString " parts by ").length = 10 from rfl, show (Str.ofString "").length = 0 from rfl] at this
  omega
theorem eqv_intsL : ∀ as bs : List Int, PyData.eqv (.list (as.map PyData.int)) (.list (bs.map PyData.int)) = decide (as = bs) := by
  have key : ∀ as bs : List Int, PyData.eqvAll (as.map PyData.int) (bs.map PyData.int) = decide (as = bs) := fun as => by
    induction as with
    | nil => intro bs; cases bs <;> simp [PyData.eqvAll]
    | cons a r ih =>
      intro bs
      cases bs with
      | nil => simp [PyData.eqvAll]
      | cons b t =>
        simp only [List.map_cons, PyData.eqvAll, PyData.eqv, ih t]
        by_cases c : a = b <;> by_cases d : r = t <;> simp [c, d]
  intro as bs
  simp only [PyData.eqv]
  exact key as bs
/-! ### _law_clauses -/
abbrev s__law_clauses : Stmt := topS 50
abbrev N__law_clauses : List Str := ["_law_box_here", "_law_parts", "_law_step", "_law_found", "_law_keep", "_law_part", "_law_number", "_law_word", "_law_most"]
theorem sc__law_clauses : FnScope N__law_clauses ["_law_box_here"] (defScope s__law_clauses) := ⟨rfl, rfl, rfl, by decide +kernel, rfl, by decide +kernel, by decide +kernel⟩
def sp__law_clauses (K : PySem.W.Frag) : Sp := fun vs H Q _ => ∃ (b : Addr) (n : Int), vs = [.ref b] ∧ Box H b n ∧ n < 999900000 ∧ ∀ H' L f, Box H' b (n + 40) → But b H H' → H' L = some (.lst ((clsT f).map V.str)) → f.Ok → Q (.ref L) H'
theorem ok__law_clauses {f : Addr} {fd : FuncData} (F : Fun K "_law_clauses" "_law_clauses" s__law_clauses f fd) (g : mg "_law_clauses" = some (.ref f)) (bd : Binds K fd ["_law_box_here"] []) (m_str : mg "str" = none) (m_range : mg "range" = none) (m_len : mg "len" = none) (m_set : mg "set" = none) (C__law_take : CF P w K mg base 1 "_law_take" ["_law_box_here", "_law_many"] (sp__law_take K)) : CF P w K mg base 2 "_law_clauses" ["_law_box_here"] (sp__law_clauses K) := by
  refine ⟨f, fd, F.ok sc__law_clauses (fun vs H Q E h => ?_) (fun cdv A outer s H vs Q E hr h => ?_), g, F.kp, bd⟩
  · first | (obtain ⟨_, rfl, _⟩ := h; rfl) | (obtain ⟨_, _, rfl, _⟩ := h; rfl) | (obtain ⟨_, _, _, rfl, _⟩ := h; rfl) | (obtain ⟨_, _, _, _, rfl, _⟩ := h; rfl) | (obtain ⟨_, _, _, _, _, rfl, _⟩ := h; rfl) | (obtain ⟨_, _, _, _, _, _, rfl, _⟩ := h; rfl) | (obtain ⟨_, _, _, _, _, _, _, rfl, _⟩ := h; rfl) | (obtain ⟨_, _, _, _, _, _, _, _, rfl, _⟩ := h; rfl) | (obtain ⟨_, _, _, _, _, _, _, _, _, rfl, _⟩ := h; rfl) | (obtain ⟨_, _, _, _, _, _, _, _, _, _, rfl, _⟩ := h; rfl) | (obtain ⟨_, _, _, _, _, _, _, _, _, _, _, rfl, _⟩ := h; rfl) | (obtain ⟨_, _, _, _, _, _, _, _, _, _, _, _, rfl, _⟩ := h; rfl) | (obtain ⟨_, _, _, _, _, _, _, _, _, _, _, _, _, rfl, _⟩ := h; rfl) | (obtain ⟨_, _, _, _, _, _, _, _, _, _, _, _, _, _, rfl, _⟩ := h; rfl) | (obtain ⟨_, _, _, _, _, _, _, _, _, _, _, _, _, _, _, rfl, _⟩ := h; rfl)
  · have hu64 := hr.units
    obtain ⟨b, n, rfl, hB, hn, q⟩ := h
    refine ⟨_, (pss_cons (ps_par (i := 1) (j := 2) (by rfl) sc__law_clauses.nd rfl rfl (by decide) rfl rfl (pa_cons (pe_ix (kk_ixl K) (pe_lst (pa_cons pe_int (pa_cons pe_int (pa_cons (pe_op op_add pe_int (pe_cf C__law_take (hr.mono (by decide)) (by rfl) (pa_cons (pv 0) (pa_cons pe_int pa_nil)))) pa_nil)))) (pe_cf C__law_take (hr.mono (by decide)) (by rfl) (pa_cons (pv 0) (pa_cons pe_int pa_nil))) (fun _ _ => rfl)) (pa_cons (pe_ix (kk_ixl K) (pe_lst (pa_cons pe_int (pa_cons pe_int (pa_cons (pe_op op_add pe_int (pe_cf C__law_take (hr.mono (by decide)) (by rfl) (pa_cons (pv 0) (pa_cons pe_int pa_nil)))) pa_nil)))) (pe_cf C__law_take (hr.mono (by decide)) (by rfl) (pa_cons (pv 0) (pa_cons pe_int pa_nil))) (fun _ _ => rfl)) pa_nil)) (by rfl))
      (pss_cons (ps_set (i := 3) sc__law_clauses.nd rfl (.inl rfl) (pe_lst (pa_cons (pe_op op_add_str (pe_op op_add_str (pe_op op_add_str (pe_callTy call_str_int (by rfl) m_str (by decide +kernel) (pa_cons (pv 1) pa_nil)) pe_str) (pe_callTy call_str_int (by rfl) m_str (by decide +kernel) (pa_cons (pv 2) pa_nil))) pe_str) pa_nil)))
      (pss_cons (ps_if (pt_cmpR op_eq (pe_cf C__law_take (hr.mono (by decide)) (by rfl) (pa_cons (pv 0) (pa_cons pe_int pa_nil))) pe_int (nomark _))
         (pss_one (ps_expr (pe_bm PySem.F.plainAttrs_list PySem.F.slot_list_append PySem.F.type_list_append mt_append (pv 3) (pa_cons (pe_op op_add_str pe_str (pe_callTy call_str_int (by rfl) m_str (by decide +kernel) (pa_cons (pe_op op_add pe_int (pe_cf C__law_take (hr.mono (by decide)) (by rfl) (pa_cons (pv 0) (pa_cons pe_int pa_nil)))) pa_nil))) pa_nil))))
         pss_nil)
      (pss_cons (ps_if (pt_cmpR op_eq (pe_cf C__law_take (hr.mono (by decide)) (by rfl) (pa_cons (pv 0) (pa_cons pe_int pa_nil))) pe_int (nomark _))
         (pss_one (ps_expr (pe_bm PySem.F.plainAttrs_list PySem.F.slot_list_append PySem.F.type_list_append mt_append (pv 3) (pa_cons pe_str pa_nil))))
         pss_nil)
      (pss_cons (ps_if (pt_cmpR op_eq (pe_cf C__law_take (hr.mono (by decide)) (by rfl) (pa_cons (pv 0) (pa_cons pe_int pa_nil))) pe_int (nomark _))
         (pss_one (ps_expr (pe_bm PySem.F.plainAttrs_list PySem.F.slot_list_append PySem.F.type_list_append mt_append (pv 3) (pa_cons (pe_op op_add_str pe_str (pe_callTy call_str_int (by rfl) m_str (by decide +kernel) (pa_cons (pe_op op_add pe_int (pe_cf C__law_take (hr.mono (by decide)) (by rfl) (pa_cons (pv 0) (pa_cons pe_int pa_nil)))) pa_nil))) pa_nil))))
         pss_nil)
      (pss_cons (ps_setLc (i := 4) (own := [("_law_part", 5)]) (g := (gName 5)) (tt := tYes) rfl sc__law_clauses.nd rfl rfl (sw_true rfl rfl rfl (by decide +kernel)) (pi_range1 (by rfl) m_range (pa_cons (pv 1) pa_nil)) (blkOk_by (own := [("_law_part", 5)]) (N := N__law_clauses) (sc := defScope s__law_clauses) (by decide +kernel)) (fun _ _ _ _ _ => pg_name (i := 5) sc__law_clauses.nd rfl (Or.inl rfl)) (fun _ _ _ _ _ => pts_nil) (fun _ _ _ _ _ => (pe_cf C__law_take (hr.mono (by decide)) (by rfl) (pa_cons (pv 0) (pa_cons (pe_ix (kk_ixl K) (pe_lst (pa_cons pe_int (pa_cons pe_int pa_nil))) (pe_cf C__law_take (hr.mono (by decide)) (by rfl) (pa_cons (pv 0) (pa_cons pe_int pa_nil))) (fun _ _ => rfl)) pa_nil)))))
      (pss_cons (ps_set (i := 4) sc__law_clauses.nd rfl (.inl rfl) (pe_ifExp (pt_cmpR op_eq (pe_lenSetL (by rfl) m_len (by rfl) m_set (pv 4)) pe_int (nomark _)) (pe_slice (kk_sll K) (pv 4) po_none (po_some pe_int)) (pv 4)))
      (pss_cons (ps_if (PW.pt (pw_and (pt_cmpR (kk_neD K hu64) (pv 4) (pe_lst (pa_cons pe_int pa_nil)) (nomark _)) (pw_and1 (pt_cmpR op_gt (pe_cf C__law_take (hr.mono (by decide)) (by rfl) (pa_cons (pv 0) (pa_cons pe_int pa_nil))) pe_int (nomark _)))))
         (pss_one (ps_expr (pe_bm PySem.F.plainAttrs_list PySem.F.slot_list_append PySem.F.type_list_append mt_append (pv 3) (pa_cons (pe_op op_add_str pe_str (pe_join pe_str (pe_lc (own := [("_law_number", 6)]) (g := (gName 6)) (tt := tYes) rfl sc__law_clauses.nd (pi_list (pv 4)) (blkOk_by (own := [("_law_number", 6)]) (N := N__law_clauses) (sc := defScope s__law_clauses) (by decide +kernel)) (fun _ _ _ _ _ => pg_name (i := 6) sc__law_clauses.nd rfl (Or.inl rfl)) (fun _ _ _ _ _ => pts_nil) (fun _ _ _ _ _ => (pe_callTy call_str_int (by rfl) m_str (by decide +kernel) (pa_cons (pv 6) pa_nil)))))) pa_nil))))
         pss_nil)
      (pss_cons (ps_for PassesOwn.never rfl (pi_tup (pe_tup (pa_cons (pe_tup (pa_cons pe_str (pa_cons pe_int pa_nil))) (pa_cons (pe_tup (pa_cons pe_str (pa_cons pe_int pa_nil))) (pa_cons (pe_tup (pa_cons pe_str (pa_cons pe_int pa_nil))) pa_nil))))) (pg_tup (by rfl) (pgs_cons (pg_name (i := 7) sc__law_clauses.nd rfl (.inl rfl)) (pgs_cons (pg_name (i := 8) sc__law_clauses.nd rfl (.inl rfl)) pgs_nil)))
         (pss_one (ps_if (pt_cmpR op_eq (pe_cf C__law_take (hr.mono (by decide)) (by rfl) (pa_cons (pv 0) (pa_cons pe_int pa_nil))) pe_int (nomark _))
             (pss_one (ps_expr (pe_bm PySem.F.plainAttrs_list PySem.F.slot_list_append PySem.F.type_list_append mt_append (pv 3) (pa_cons (pe_op op_add_str (pe_op op_add_str (pv 7) pe_str) (pe_callTy call_str_int (by rfl) m_str (by decide +kernel) (pa_cons (pe_op op_sub (pv 8) (pe_cf C__law_take (hr.mono (by decide)) (by rfl) (pa_cons (pv 0) (pa_cons (pe_ix (kk_ixl K) (pe_lst (pa_cons pe_int (pa_cons (pv 8) pa_nil))) (pe_cf C__law_take (hr.mono (by decide)) (by rfl) (pa_cons (pv 0) (pa_cons pe_int pa_nil))) (fun _ _ => rfl)) pa_nil)))) pa_nil))) pa_nil))))
             pss_nil)))
      (pss_one (ps_ret (pv 3)))))))))))), ?_⟩
    have mem : ∀ (c : Nat), c ≤ 1000 → c ≤ sizeLine := fun _ h => size_small h
    -- the first figures
    refine ⟨_, rfl, b, 6, _, rfl, hB, by decide, by decide, by omega, fun r1 G1 r10 r11 B1 t1 => ⟨_, _, rfl, rfl, (by show 3 ≤ sizeLine; decide), fun q1 m1 => ⟨_, rfl, b, 3, _, rfl, B1.new m1, by decide, by decide, by omega, fun r2 G2 r20 r21 B2 t2 => ?_⟩⟩⟩
    obtain ⟨p, hp, p0, p1⟩ := pick3i (lo := 1) (hi := 6) r20 r21 (x := 1) (y := 6) (z := 1 + r1) ⟨by decide, by decide⟩ ⟨by decide, by decide⟩ ⟨by omega, by omega⟩
    refine ⟨q1, _, _, _, rfl, rfl, SqL.of (t2 _ _ (B1.ne m1) upd_same), hp, ?_⟩
    refine ⟨_, rfl, b, 14, _, rfl, B2, by decide, by decide, by omega, fun r3 G3 r30 r31 B3 t3 => ⟨_, _, rfl, rfl, (by show 3 ≤ sizeLine; decide), fun q2 m2 => ⟨_, rfl, b, 3, _, rfl, B3.new m2, by decide, by decide, by omega, fun r4 G4 r40 r41 B4 t4 => ?_⟩⟩⟩
    obtain ⟨st, hst, st0, st1⟩ := pick3i (lo := 1) (hi := 14) r40 r41 (x := 1) (y := 14) (z := 1 + r3) ⟨by decide, by decide⟩ ⟨by decide, by decide⟩ ⟨by omega, by omega⟩
    refine ⟨q2, _, _, _, rfl, rfl, SqL.of (t4 _ _ (B3.ne m2) upd_same), hst, _, _, rfl, ?_⟩
    have tH4 : But b H G4 := (((t1.trans (But.new m1)).trans t2).trans (t3.trans (But.new m2))).trans t4
    -- the list
    have lp := num_len (n := p) (by omega) (by omega)
    have ls := num_len (n := st) (by omega) (by omega)
    have l10 : (Str.ofString " parts by ").length = 10 := rfl
    have l5 : (Str.ofString " days").length = 5 := rfl
    refine ⟨_, rfl, _, rfl, small_log ⟨by omega, by omega⟩, _, _, rfl, rfl, mem _ (by omega), _, rfl, _, rfl, small_log ⟨by omega, by omega⟩, _, _, rfl, rfl, mem _ (by rw [len_app]; omega), _, _, rfl, rfl, mem _ (by rw [len_app, len_app]; omega), (by show 1 ≤ sizeLine; decide), fun L nL => ?_⟩
    have x5 := upd_same (H := G4) (a := L) (o := .lst [.str (partT p st)])
    have Lb := B4.ne nL
    have B5 := B4.new (o := .lst [.str (partT p st)]) nL
    have s5 := same_new (o := .lst [.str (partT p st)]) nL
    have tH5 := tH4.trans (But.of s5)
    have nLH : H L = none := by
      cases e : H L with
      | none => rfl
      | some o =>
        have := tH4 _ _ Lb e
        rw [nL] at this
        cases this
    show gName 3 (V.ref L) _ (upd G4 L (.lst [.str (partT p st)])) _
    generalize upd G4 L (.lst [.str (partT p st)]) = G5 at *
    have hL5 : G5 L = some (.lst ((nz [partT p st]).map V.str)) := by
      rw [nz_one (part_ne p st)]
      exact x5
    have le20 : ∀ l : List Str, l.length ≤ 20 → (nz l).length ≤ 20 := fun l h => Nat.le_trans (nz_len l) h
    have sm20 : ∀ l : List Str, l.length ≤ 20 → (l.map V.str).length < sizeLine := fun l h => by rw [List.length_map]; exact small1000 (by omega)
    have l6 : (Str.ofString "grace ").length = 6 := rfl
    have l7 : (Str.ofString "misses ").length = 7 := rfl
    apply join_st (fun σ G => ∃ g : Int, 0 ≤ g ∧ g ≤ 7 ∧ ClS b L p st none none none none none G5 (n + 6) (nz ([partT p st] ++ [cntT "grace" g])) σ G)
    case h =>
      intro go
      refine ⟨_, rfl, b, 2, _, rfl, B5, by decide, by decide, by omega, fun r5 G6 r50 r51 B6 t6 => ⟨rfl, _, rfl, ?_⟩⟩
      have hL6 := t6 _ _ Lb hL5
      by_cases c : V.int r5 = V.int 0
      case neg => exact iteN c (go _ _ ⟨0, by decide, by decide, rfl, B6.mono (by omega), (K2.refl _ _ _).step t6, by rw [nz_cnt0]; exact hL6, le20 _ (by show 2 ≤ 20; decide)⟩)
      refine iteY c ⟨_, rfl, .inl ⟨rfl, _, SqL.of hL6⟩, _, rfl, b, 7, _, rfl, B6, by decide, by decide, by omega, fun r6 G7 r60 r61 B7 t7 => ⟨_, _, rfl, rfl, _, rfl, small_log ⟨by omega, by omega⟩, _, _, rfl, rfl, ?_, L, _, _, rfl, rfl, t7 _ _ Lb hL6, sm20 _ (le20 _ (by show 1 ≤ 20; decide)), ?_⟩⟩
      · have := num_len (n := 1 + r6) (by omega) (by omega)
        exact mem _ (by omega)
      refine go _ _ ⟨1 + r6, by omega, by omega, rfl, (B7.upd Lb).mono (by omega), (((K2.refl _ _ _).step t6).step t7).upd, ?_, le20 _ (by show 2 ≤ 20; decide)⟩
      rw [upd_same, nz_cnt (by omega), List.map_append, ← cnt_w (w := "grace") (w2 := "grace ") (by omega) (by decide +kernel)]
      rfl
    case rest =>
    rintro _ G6 ⟨g, g0, g1, rfl, B6, K6, hL6, ll6⟩
    apply join_st (fun σ G => ∃ l : Bool, ClS b L p st none none none none none G5 (n + 8) (nz ([partT p st] ++ [cntT "grace" g] ++ [lastT l])) σ G)
    case h =>
      intro go
      refine ⟨_, rfl, b, 2, _, rfl, B6, by decide, by decide, by omega, fun r5 G7 r50 r51 B7 t7 => ⟨rfl, _, rfl, ?_⟩⟩
      have hL7 := t7 _ _ Lb hL6
      by_cases c : V.int r5 = V.int 0
      case neg => exact iteN c (go _ _ ⟨false, rfl, B7.mono (by omega), K6.step t7, by rw [nz_app _ [lastT false], show lastT false = Str.ofString "" from rfl, nz_none, List.append_nil]; exact hL7, le20 _ (by show 3 ≤ 20; decide)⟩)
      refine iteY c ⟨_, rfl, .inl ⟨rfl, _, SqL.of hL7⟩, L, _, _, rfl, rfl, hL7, sm20 _ ll6, ?_⟩
      refine go _ _ ⟨true, rfl, (B7.upd Lb).mono (by omega), (K6.step t7).upd, ?_, le20 _ (by show 3 ≤ 20; decide)⟩
      rw [upd_same, nz_app _ [lastT true], show lastT true = Str.ofString "from last" from rfl, nz_one (by decide +kernel), List.map_append]
      rfl
    case rest =>
    rintro _ G7 ⟨l, rfl, B7, K7, hL7, ll7⟩
    apply join_st (fun σ G => ∃ m : Int, 0 ≤ m ∧ m ≤ 2 ∧ ClS b L p st none none none none none G5 (n + 10) (nz ([partT p st] ++ [cntT "grace" g] ++ [lastT l] ++ [cntT "misses" m])) σ G)
    case h =>
      intro go
      refine ⟨_, rfl, b, 2, _, rfl, B7, by decide, by decide, by omega, fun r5 G8 r50 r51 B8 t8 => ⟨rfl, _, rfl, ?_⟩⟩
      have hL8 := t8 _ _ Lb hL7
      by_cases c : V.int r5 = V.int 0
      case neg => exact iteN c (go _ _ ⟨0, by decide, by decide, rfl, B8.mono (by omega), K7.step t8, by rw [nz_cnt0]; exact hL8, le20 _ (by show 4 ≤ 20; decide)⟩)
      refine iteY c ⟨_, rfl, .inl ⟨rfl, _, SqL.of hL8⟩, _, rfl, b, 2, _, rfl, B8, by decide, by decide, by omega, fun r6 G9 r60 r61 B9 t9 => ⟨_, _, rfl, rfl, _, rfl, small_log ⟨by omega, by omega⟩, _, _, rfl, rfl, ?_, L, _, _, rfl, rfl, t9 _ _ Lb hL8, sm20 _ ll7, ?_⟩⟩
      · have := num_len (n := 1 + r6) (by omega) (by omega)
        exact mem _ (by omega)
      refine go _ _ ⟨1 + r6, by omega, by omega, rfl, (B9.upd Lb).mono (by omega), ((K7.step t8).step t9).upd, ?_, le20 _ (by show 4 ≤ 20; decide)⟩
      rw [upd_same, nz_cnt (by omega), List.map_append, ← cnt_w (w := "misses") (w2 := "misses ") (by omega) (by decide +kernel)]
      rfl
    case rest =>
    rintro _ G8 ⟨m, m0, m1', rfl, B8, K8, hL8, ll8⟩
    generalize hbase : [partT p st] ++ [cntT "grace" g] ++ [lastT l] ++ [cntT "misses" m] = base4 at *
    have lb4 : base4.length = 4 := by rw [← hbase]; rfl
    -- what is kept
    refine ⟨_, rfl, _, rfl, by omega, by omega, fun D nD => lc_range (lo := 0) (n := p.toNat) (fun j G => But b G8 G ∧ Box G b (n + 10 + 2 * j) ∧ ∃ ks : List Int, ks.length = j ∧ (∀ k ∈ ks, 0 ≤ k ∧ k ≤ 100) ∧ G D = some (.lst (ks.map V.int))) ⟨But.new nD, (B8.mono (by omega)).new nD, [], rfl, fun _ h => (nomatch h), upd_same⟩ (fun j G hj h => ?_) (fun G h => ?_)⟩
    · obtain ⟨tk, Bk, ks, lk, hk, hD⟩ := h
      have Db : D ≠ b := B8.ne nD
      refine ⟨rfl, _, rfl, (by show 2 ≤ sizeLine; decide), fun pp npp => ⟨_, rfl, b, 2, _, rfl, Bk.new npp, by decide, by decide, by omega, fun r G1 r0 r1 B1 t1 => ?_⟩⟩
      obtain ⟨v, hv, v0, v1⟩ : ∃ v : Int, atI [V.int 2, .int 101] r = some (.int v) ∧ 2 ≤ v ∧ v ≤ 101 := by
        have : r = 0 ∨ r = 1 := by omega
        rcases this with rfl | rfl
        · exact ⟨2, rfl, by decide, by decide⟩
        · exact ⟨101, rfl, by decide, by decide⟩
      refine ⟨pp, _, _, _, rfl, rfl, SqL.of (t1 _ _ (Bk.ne npp) upd_same), hv, b, v, _, rfl, B1, by omega, by omega, by omega, fun r2 G2 r20 r21 B2 t2 => ?_⟩
      have tG2 : But b G G2 := ((But.new npp).trans t1).trans t2
      refine ⟨_, tG2 _ _ Db hD, ?_, fun c o ne e => ?_, (B2.upd Db).mono (by omega), ks ++ [r2], by rw [List.length_append, lk]; rfl, fun k hk2 => ?_, ?_⟩
      · rw [List.length_map, lk]
        exact small1000 (by omega)
      · rw [upd_ne (ne_of_none e nD)]
        exact tG2 _ _ ne (tk _ _ ne e)
      · rcases List.mem_append.mp hk2 with z | z
        · exact hk k z
        · rw [List.mem_singleton.mp z]
          omega
      · rw [upd_same, List.map_append]
        rfl
    obtain ⟨tk, B9, ks, lk, hk, hD⟩ := h
    have Db : D ≠ b := B8.ne nD
    have K9 := K8.step tk
    have hL9 := tk _ _ Lb hL8
    have DL : D ≠ L := (ne_of_none hL8 nD).symm
    have B9 := B9.mono (show n + 10 + 2 * (p.toNat : Int) ≤ n + 22 by omega)
    -- as it is shown
    apply join_st (fun σ G2 => ∃ (X : Addr) (kp : List Int), σ = [some (V.ref b), some (V.int p), some (V.int st), some (V.ref L), some (V.ref X), none, none, none, none] ∧ Same G G2 ∧ G2 X = some (.lst (kp.map V.int)) ∧ X ≠ b ∧ X ≠ L ∧ kp.length ≤ 6 ∧ (∀ k ∈ kp, 0 ≤ k ∧ k ≤ 100) ∧ (kp ≠ [0] → keptT ks = Str.ofString "keep " ++ Txt.join " " (kp.map fun k => Str.ofString (toString k))))
    case h =>
      intro go
      refine ⟨_, rfl, D, ks, rfl, SqL.of hD, by omega, fun c c1 c0 => ⟨rfl, _, rfl, ?_⟩⟩
      by_cases ec : V.int (c : Int) = V.int 1
      · have ec1 : c = 1 := by have := V.int.inj ec; omega
        obtain ⟨k0, hk0⟩ := c1.mp ec1
        obtain ⟨kh, kr, rfl⟩ : ∃ a r, ks = a :: r := by
          cases ks with
          | nil => rw [List.length_nil] at lk; omega
          | cons a r => exact ⟨a, r, rfl⟩
        have eh : kh = k0 := (hk0 kh).mp List.mem_cons_self
        refine iteY ec ⟨_, rfl, _, rfl, D, _, rfl, SqL.of hD, fun X nX => go _ _ ⟨X, [kh], rfl, same_new nX, ?_, B9.ne nX, (ne_of_none hL9 nX).symm, by show 1 ≤ 6; decide, fun k hk2 => ?_, fun ne => ?_⟩⟩
        · rw [upd_same]
          rfl
        · rw [List.mem_singleton.mp hk2]
          exact hk kh List.mem_cons_self
        · have kh0 : kh ≠ 0 := fun z => ne (by rw [z])
          have bk := hk kh List.mem_cons_self
          unfold keptT
          rw [if_pos (List.all_eq_true.mpr fun k hk2 => decide_eq_true (by rw [(hk0 k).mp hk2, ← eh]; rfl))]
          show cntT "keep" kh = Str.ofString "keep " ++ Txt.join " " [Str.ofString (toString kh)]
          rw [TL.join_eq]
          exact (cnt_w (w := "keep") (w2 := "keep ") (by omega) (by decide +kernel)).symm
      · refine iteN ec ⟨_, rfl, go _ _ ⟨D, ks, rfl, Same.refl _, hD, Db, DL, by omega, hk, fun _ => ?_⟩⟩
        unfold keptT
        rw [if_neg fun z => ec ?_]
        refine congrArg V.int ?_
        have : c = 1 := c1.mpr ⟨ks.headD 0, fun k => ⟨fun hk2 => of_decide_eq_true (List.all_eq_true.mp z k hk2), fun e => ?_⟩⟩
        · omega
        · rw [e]
          cases ks with
          | nil => rw [List.length_nil] at lk; omega
          | cons a r => exact List.mem_cons_self
    case rest =>
    rintro _ G10 ⟨X, kp, rfl, s10, hX, Xb, XL, lkp, hkp, ekp⟩
    have B10 := B9.same s10
    have K10 := K9.step (But.of s10)
    have hL10 := s10 _ _ hL9
    have p6 : p.toNat ≤ 6 := by omega
    apply join_st (fun σ G2 => ∃ (ks2 : List Int) (s6 : Option V), (ks2.length : Int) = p ∧ (∀ k ∈ ks2, 0 ≤ k ∧ k ≤ 100) ∧ ClS b L p st (some (.ref X)) none s6 none none G5 (n + 24) (nz (base4 ++ [keptT ks2])) σ G2)
    case h =>
      intro go
      have zero : keptT (List.replicate p.toNat 0) = Str.ofString "" := by
        unfold keptT
        have e : (List.replicate p.toNat (0 : Int)).headD 0 = 0 := by cases p.toNat <;> rfl
        rw [e, if_pos (List.all_eq_true.mpr fun k hk2 => decide_eq_true (List.eq_of_mem_replicate hk2))]
        exact cnt_zero _
      have none_ : ∀ G2, But b G10 G2 → Box G2 b (n + 24) → ∃ (ks2 : List Int) (s6 : Option V), (ks2.length : Int) = p ∧ (∀ k ∈ ks2, 0 ≤ k ∧ k ≤ 100) ∧ ClS b L p st (some (.ref X)) none s6 none none G5 (n + 24) (nz (base4 ++ [keptT ks2])) [some (V.ref b), some (V.int p), some (V.int st), some (V.ref L), some (V.ref X), none, none, none, none] G2 := fun G2 t2 B2 =>
        ⟨List.replicate p.toNat 0, none, by rw [List.length_replicate]; omega, fun k hk2 => by rw [List.eq_of_mem_replicate hk2]; decide, rfl, B2, K10.step t2, by rw [nz_app, zero, nz_none, List.append_nil]; exact t2 _ _ Lb hL10, le20 _ (by rw [List.length_append, lb4]; show 5 ≤ 20; decide)⟩
      refine ⟨_, rfl, (by show 1 ≤ sizeLine; decide), fun E nE => ?_⟩
      have sE := same_new (o := .lst [.int 0]) nE
      refine ⟨_, .list ([0].map PyData.int), dp_ints (SqL.of (sE _ _ hX)), dp_ints (SqL.of upd_same), sh_ints kp, sh_ints [0], _, rfl, ?_⟩
      rw [eqv_intsL kp [0]]
      have B11 := B10.same sE
      have hX11 := sE _ _ hX
      have tE : But b G10 _ := But.of sE
      generalize upd G10 E (.lst [.int 0]) = G11 at *
      by_cases ek : kp = [0]
      · rw [decide_eq_true ek]
        exact iteF (iteF (go _ _ (none_ G11 tE (B11.mono (by omega)))))
      rw [decide_eq_false ek]
      refine iteT ⟨_, rfl, b, 4, _, rfl, B11, by decide, by decide, by omega, fun r G12 r0 r1 B12 t12 => ⟨_, _, rfl, rfl, _, rfl, ?_⟩⟩
      have t02 := tE.trans t12
      by_cases er : (0 : Int) < r
      case neg => exact iteN er (go _ _ (none_ G12 t02 (B12.mono (by omega))))
      have hL12 := t02 _ _ Lb hL10
      have hX12 := t12 _ _ Xb hX11
      refine iteY er ⟨_, rfl, .inl ⟨rfl, _, SqL.of hL12⟩, ⟨_, rfl⟩, _, rfl, X, rfl, ⟨_, SqL.of hX12⟩, fun D3 nD3 => lc_list (K := K) (a := X) (xs := kp.map V.int) (fun j G => Same G12 G ∧ G D3 = some (.lst (((kp.take j).map fun k => Str.ofString (toString k)).map V.str))) ⟨same_new nD3, upd_same⟩ (fun j G _ h => SqL.of (h.1 _ _ hX12)) (fun j x G hx h => ?_) (fun G h => ?_)⟩
      · rw [List.getElem?_map] at hx
        obtain ⟨k, hkj, rfl⟩ := Option.map_eq_some_iff.mp hx
        refine ⟨rfl, _, rfl, k, rfl, small_log (hkp k (List.mem_of_getElem? hkj)), _, h.2, ?_, ?_, ?_⟩
        · rw [List.length_map, List.length_map, List.length_take]
          exact small1000 (by omega)
        · exact fun c o e => by
            rw [upd_ne (ne_of_none e nD3)]
            exact h.1 _ _ e
        · rw [upd_same, List.take_add_one, hkj, Option.toList_some, List.map_append, List.map_append]
          rfl
      obtain ⟨s13, hD3⟩ := h
      rw [List.length_map, List.take_of_length_le (Nat.le_refl _)] at hD3
      have hsum := sum_le (B := 4) (ts := kp.map fun k => Str.ofString (toString k)) (fun s hs => by
        obtain ⟨k, hk2, rfl⟩ := List.mem_map.mp hs
        exact num_len (hkp k hk2).1 (by have := (hkp k hk2).2; omega))
      have l1 : (Str.ofString " ").length = 1 := rfl
      rw [List.length_map] at hsum
      have l5k : (Str.ofString "keep ").length = 5 := rfl
      have jl := join_len " " (kp.map fun k => Str.ofString (toString k))
      rw [List.length_map] at jl
      have l1' : (Str.ofString " ").length = 1 := rfl
      refine ⟨_, D3, _, rfl, rfl, .inl (SqL.of hD3), by rw [List.length_map, l1]; omega, _, _, rfl, rfl, ?_, L, _, _, rfl, rfl, s13 _ _ hL12, sm20 _ ll8, ?_⟩
      · rw [TL.join_eq]
        have jl2 : (Str.join (Str.ofString " ") (kp.map fun k => Str.ofString (toString k))).length ≤ 4 * kp.length + kp.length * 1 := Nat.le_trans jl (by rw [l1']; omega)
        exact mem _ (by rw [l5k]; omega)
      refine go _ _ ⟨ks, _, by rw [lk]; omega, hk, rfl, ((B12.same s13).upd Lb).mono (by omega), ((K10.step t02).step (But.of s13)).upd, ?_, le20 _ (by rw [List.length_append, lb4]; show 5 ≤ 20; decide)⟩
      rw [upd_same, nz_app, ekp ek, nz_one (fun e => by
        have := congrArg Str.length e
        rw [len_app, l5k, show (Str.ofString "").length = 0 from rfl] at this
        omega), List.map_append]
      rfl
    case rest =>
    rintro _ G11 ⟨ks2, s6, lk2, hk2, rfl, B11, K11, hL11, ll11⟩
    generalize hbase5 : base4 ++ [keptT ks2] = base5 at *
    have lb5 : base5.length = 5 := by rw [← hbase5, List.length_append, lb4]; rfl
    -- the last three
    refine ⟨(by show 2 ≤ sizeLine; decide), fun u1 n1 => ⟨(by show 2 ≤ sizeLine; decide), fun u2 n2 => ⟨(by show 2 ≤ sizeLine; decide), fun u3 n3 => ⟨(by show 3 ≤ sizeLine; decide), fun tt ntt => ?_⟩⟩⟩⟩
    have z1 := same_new (o := .tup [.str (Str.ofString "fine"), .int 100]) n1
    have y1 := upd_same (H := G11) (a := u1) (o := .tup [.str (Str.ofString "fine"), .int 100])
    generalize upd G11 u1 (.tup [.str (Str.ofString "fine"), .int 100]) = G12 at *
    have z2 := same_new (o := .tup [.str (Str.ofString "falls"), .int 30]) n2
    have y2 := upd_same (H := G12) (a := u2) (o := .tup [.str (Str.ofString "falls"), .int 30])
    generalize upd G12 u2 (.tup [.str (Str.ofString "falls"), .int 30]) = G13 at *
    have z3 := same_new (o := .tup [.str (Str.ofString "back"), .int 30]) n3
    have y3 := upd_same (H := G13) (a := u3) (o := .tup [.str (Str.ofString "back"), .int 30])
    generalize upd G13 u3 (.tup [.str (Str.ofString "back"), .int 30]) = G14 at *
    have z4 := same_new (o := .tup [.ref u1, .ref u2, .ref u3]) ntt
    have y4 := upd_same (H := G14) (a := tt) (o := .tup [.ref u1, .ref u2, .ref u3])
    have z04 := ((z1.trans z2).trans z3).trans z4
    have B15 := B11.same z04
    have nb : ∀ {u : Addr} {xs : List V} {G : Hp}, Same G (upd G14 tt (.tup [.ref u1, .ref u2, .ref u3])) → G u = some (.tup xs) → u ≠ b ∧ u ≠ L := fun {u xs G} sg e => by
      obtain ⟨lx, hlx⟩ := B15.at
      refine ⟨fun z => ?_, fun z => ?_⟩
      · have := sg _ _ e
        rw [z, hlx] at this
        cases this
      · have := sg _ _ e
        rw [z, z04 _ _ hL11] at this
        cases this
    have w1 := nb ((z2.trans z3).trans z4) y1
    have w2 := nb (z3.trans z4) y2
    have w3 := nb z4 y3
    have w4 := nb (Same.refl _) y4
    have y1 := ((z2.trans z3).trans z4) _ _ y1
    have y2 := (z3.trans z4) _ _ y2
    have y3 := z4 _ _ y3
    have hL15 := z04 _ _ hL11
    have K15 := K11.step (But.of z04)
    generalize upd G14 tt (.tup [.ref u1, .ref u2, .ref u3]) = G15 at *
    have oT : ∀ {x : Nat} {v : V}, [V.ref u1, .ref u2, .ref u3][x]? = some v → ∃ (u : Addr) (w : Str) (mo : Int), v = .ref u ∧ G15 u = some (.tup [.str w, .int mo]) ∧ u ≠ b ∧ u ≠ L ∧ SrtS[x]? = some (w, mo) ∧ 30 ≤ mo ∧ mo ≤ 100 ∧ w.length ≤ 6 := fun {x v} h =>
      match x, h with
      | 0, h => by cases h; exact ⟨u1, _, _, rfl, y1, w1.1, w1.2, rfl, by decide, by decide, by decide +kernel⟩
      | 1, h => by cases h; exact ⟨u2, _, _, rfl, y2, w2.1, w2.2, rfl, by decide, by decide, by decide +kernel⟩
      | 2, h => by cases h; exact ⟨u3, _, _, rfl, y3, w3.1, w3.2, rfl, by decide, by decide, by decide +kernel⟩
      | n + 3, h => nomatch h
    refine ⟨tt, rfl, ⟨_, SqT.of y4⟩, for_tup (K := K) (a := tt) (xs := [.ref u1, .ref u2, .ref u3]) (fun j σ G => ∃ (s7 s8 : Option V) (vs : List Int), vs.length = j ∧ (∀ (i : Nat) (v : Int) (q : Str × Int), vs[i]? = some v → SrtS[i]? = some q → 0 ≤ v ∧ v ≤ q.2) ∧ (nz (base5 ++ srtT SrtS vs)).length ≤ 5 + j ∧ σ = [some (.ref b), some (.int p), some (.int st), some (.ref L), some (.ref X), none, s6, s7, s8] ∧ Box G b (n + 24 + 4 * j) ∧ K2 b L G15 G ∧ G L = some (.lst ((nz (base5 ++ srtT SrtS vs)).map V.str))) ⟨_, _, [], rfl, fun i v q h => (nomatch h), by rw [show srtT SrtS [] = [] from rfl, List.append_nil]; exact Nat.le_trans (nz_len _) (by omega), rfl, B15.mono (by omega), K2.refl _ _ _, by rw [show srtT SrtS [] = [] from rfl, List.append_nil]; exact hL15⟩ (fun j σ G _ h => ?_) (fun j x σ G hx h => ?_) (fun σ G h => ?_)⟩
    · obtain ⟨_, _, _, _, _, _, rfl, _, kk, _⟩ := h
      exact SqT.of (kk _ _ w4.1 w4.2 y4)
    · obtain ⟨s7, s8, vs, lv, hv, lnz, rfl, BG, KG, hLG⟩ := h
      obtain ⟨u, w, mo, rfl, hu, ub, uL, hs, mo0, mo1, lw⟩ := oT hx
      have hj : j < 3 := (List.getElem?_eq_some_iff.mp hx).1
      refine ⟨u, _, rfl, SqT.of (KG _ _ ub uL hu), rfl, _, _, rfl, _, _, rfl, rfl, ?_⟩
      refine ⟨_, rfl, b, 2, _, rfl, BG, by decide, by decide, by omega, fun r1 G1 r10 r11 B1 t1 => ⟨rfl, _, rfl, ?_⟩⟩
      have nxt : ∀ v : Int, 0 ≤ v → v ≤ mo → ∀ (i : Nat) (v2 : Int) (q : Str × Int), (vs ++ [v])[i]? = some v2 → SrtS[i]? = some q → 0 ≤ v2 ∧ v2 ≤ q.2 := fun v v0 v1 i v2 q h1 h2 => by
        rcases Nat.lt_or_ge i vs.length with z | z
        · rw [List.getElem?_append_left z] at h1
          exact hv i v2 q h1 h2
        · rw [List.getElem?_append_right z] at h1
          have e0 : i - vs.length = 0 := by
            have := (List.getElem?_eq_some_iff.mp h1).1
            have e1 : ([v] : List Int).length = 1 := rfl
            omega
          rw [e0] at h1
          cases h1
          have e2 : i = j := by omega
          rw [e2, hs] at h2
          cases h2
          exact ⟨v0, v1⟩
      by_cases c : V.int r1 = V.int 0
      case neg =>
        refine iteN c ⟨_, _, vs ++ [0], by rw [List.length_append, lv]; rfl, nxt 0 (by decide) (by omega), ?_, rfl, B1.mono (by omega), KG.step t1, ?_⟩
        · rw [srt_snoc hs lv, ← List.append_assoc, nz_cnt0]
          omega
        · rw [srt_snoc hs lv, ← List.append_assoc, nz_cnt0]
          exact t1 _ _ Lb hLG
      have hL1 := t1 _ _ Lb hLG
      refine iteY c ⟨_, rfl, .inl ⟨rfl, _, SqL.of hL1⟩, _, rfl, _, _, rfl, rfl, mem _ (by show w.length + 1 ≤ 1000; omega), _, rfl, _, rfl, _, rfl, (by show 2 ≤ sizeLine; decide), fun pp npp => ⟨_, rfl, b, 2, _, rfl, B1.new npp, by decide, by decide, by omega, fun r2 G2 r20 r21 B2 t2 => ?_⟩⟩
      obtain ⟨v, hvv, v0, v1⟩ : ∃ v : Int, atI [V.int 2, .int mo] r2 = some (.int v) ∧ 2 ≤ v ∧ v ≤ mo := by
        have : r2 = 0 ∨ r2 = 1 := by omega
        rcases this with rfl | rfl
        · exact ⟨2, rfl, by decide, by omega⟩
        · exact ⟨mo, rfl, by omega, by omega⟩
      refine ⟨pp, _, _, _, rfl, rfl, SqL.of (t2 _ _ (B1.ne npp) upd_same), hvv, b, v, _, rfl, B2, by omega, by omega, by omega, fun r3 G3 r30 r31 B3 t3 => ?_⟩
      have t13 : But b G1 G3 := ((But.new npp).trans t2).trans t3
      have ln := num_len (n := mo - r3) (by omega) (by omega)
      have hL3 := t13 _ _ Lb hL1
      refine ⟨_, _, rfl, rfl, _, rfl, small_log ⟨by omega, by omega⟩, _, _, rfl, rfl, mem _ (by rw [len_app]; show w.length + 1 + _ ≤ 1000; omega), L, _, _, rfl, rfl, hL3, by rw [List.length_map]; exact small1000 (by omega), ?_⟩
      have enz : nz (base5 ++ srtT SrtS (vs ++ [mo - r3])) = nz (base5 ++ srtT SrtS vs) ++ [cntT w (mo - r3)] := by
        rw [srt_snoc hs lv, ← List.append_assoc, nz_cnt (by omega)]
      refine ⟨_, _, vs ++ [mo - r3], by rw [List.length_append, lv]; rfl, nxt _ (by omega) (by omega), ?_, rfl, (B3.upd Lb).mono (by omega), ((KG.step t1).step t13).upd, ?_⟩
      · rw [enz, List.length_append]
        show _ + 1 ≤ _
        omega
      · rw [upd_same, enz, List.map_append, ← cnt_w (w := w) (by omega) rfl]
        rfl
    · obtain ⟨s7, s8, vs, lv, hv, lnz, rfl, BG, KG, hLG⟩ := h
      obtain ⟨fi, fa', ba, rfl⟩ : ∃ x y z, vs = [x, y, z] := by
        have lv : vs.length = 3 := lv
        match vs, lv with
        | [x, y, z], _ => exact ⟨x, y, z, rfl⟩
      have h1 := hv 0 fi _ rfl rfl
      have h2 := hv 1 fa' _ rfl rfl
      have h3 := hv 2 ba _ rfl rfl
      refine ⟨_, rfl, q G L ⟨p, st, g, l, m, ks2, fi, fa', ba⟩ (BG.mono (by show n + 24 + 4 * 3 ≤ _; omega)) (fun c o ne e => KG c o ne (ne_of_none e nLH) (K15 c o ne (ne_of_none e nLH) (tH5 _ _ ne e))) ?_ ⟨⟨p0, p1, st0, st1, g0, g1, m0, m1', h1.1, h1.2, h2.1, h2.2, h3.1, h3.2⟩, lk2, hk2⟩⟩
      rw [hLG, ← hbase5, ← hbase]
      rfl
/-! ### _law_pick -/
abbrev s__law_pick : Stmt := topS 52
abbrev N__law_pick : List Str := ["_law_box_here", "_law_some"]
theorem sc__law_pick : FnScope N__law_pick ["_law_box_here", "_law_some"] (defScope s__law_pick) := ⟨rfl, rfl, rfl, by decide +kernel, rfl, by decide +kernel, by decide +kernel⟩
def sp__law_pick (K : PySem.W.Frag) : Sp := fun vs H Q _ => ∃ (b X : Addr) (n : Int) (xs : List V), vs = [.ref b, .ref X] ∧ Box H b n ∧ SqL K H X xs ∧ X ≠ b ∧ 1 ≤ xs.length ∧ xs.length ≤ 1000 ∧ n < 999999990 ∧ ∀ H' v, Box H' b (n + 1) → But b H H' → v ∈ xs → Q v H'
theorem ok__law_pick {f : Addr} {fd : FuncData} (F : Fun K "_law_pick" "_law_pick" s__law_pick f fd) (g : mg "_law_pick" = some (.ref f)) (bd : Binds K fd ["_law_box_here", "_law_some"] []) (m_len : mg "len" = none) (C__law_take : CF P w K mg base 1 "_law_take" ["_law_box_here", "_law_many"] (sp__law_take K)) : CF P w K mg base 2 "_law_pick" ["_law_box_here", "_law_some"] (sp__law_pick K) := by
  refine ⟨f, fd, F.ok sc__law_pick (fun vs H Q E h => ?_) (fun cdv A outer s H vs Q E hr h => ?_), g, F.kp, bd⟩
  · first | (obtain ⟨_, rfl, _⟩ := h; rfl) | (obtain ⟨_, _, rfl, _⟩ := h; rfl) | (obtain ⟨_, _, _, rfl, _⟩ := h; rfl) | (obtain ⟨_, _, _, _, rfl, _⟩ := h; rfl) | (obtain ⟨_, _, _, _, _, rfl, _⟩ := h; rfl) | (obtain ⟨_, _, _, _, _, _, rfl, _⟩ := h; rfl) | (obtain ⟨_, _, _, _, _, _, _, rfl, _⟩ := h; rfl) | (obtain ⟨_, _, _, _, _, _, _, _, rfl, _⟩ := h; rfl) | (obtain ⟨_, _, _, _, _, _, _, _, _, rfl, _⟩ := h; rfl) | (obtain ⟨_, _, _, _, _, _, _, _, _, _, rfl, _⟩ := h; rfl) | (obtain ⟨_, _, _, _, _, _, _, _, _, _, _, rfl, _⟩ := h; rfl) | (obtain ⟨_, _, _, _, _, _, _, _, _, _, _, _, rfl, _⟩ := h; rfl) | (obtain ⟨_, _, _, _, _, _, _, _, _, _, _, _, _, rfl, _⟩ := h; rfl) | (obtain ⟨_, _, _, _, _, _, _, _, _, _, _, _, _, _, rfl, _⟩ := h; rfl) | (obtain ⟨_, _, _, _, _, _, _, _, _, _, _, _, _, _, _, rfl, _⟩ := h; rfl)
  · have hu64 := hr.units
    obtain ⟨b, X, n, xs, rfl, hB, hX, Xb, l1, l2, hn, q⟩ := h
    refine ⟨_, (pss_one (ps_ret (pe_ix (kk_ixl K) (pv 1) (pe_cf C__law_take (hr.mono (by decide)) (by rfl) (pa_cons (pv 0) (pa_cons (pe_callB (kk_len K) (by rfl) m_len PySem.boot_len (pa_cons (pv 1) pa_nil)) pa_nil))) (fun _ _ => rfl)))), ?_⟩
    refine ⟨_, rfl, _, rfl, _, rfl, X, _, rfl, .inl hX, b, _, _, rfl, hB, by omega, by omega, by omega, fun r H1 r0 r1 B1 t1 => ?_⟩
    obtain ⟨v, hv, hm⟩ := pick_all (P := fun v => v ∈ xs) (xs := xs) (fun v h => h) r0 r1
    exact ⟨X, _, _, v, rfl, rfl, t1.seq Xb hX, hv, q _ _ B1 t1 hm⟩
/-! ### _law_forms -/
abbrev s__law_forms : Stmt := topS 53
abbrev N__law_forms : List Str := []
theorem sc__law_forms : FnScope N__law_forms [] (defScope s__law_forms) := ⟨rfl, rfl, rfl, by decide +kernel, rfl, by decide +kernel, by decide +kernel⟩
def formsK : List (Key × V) := [(.inr "house", .str "nt"), (.inr "price", .str "nnp"), (.inr "ware", .str "nnn"), (.inr "put", .str "nnn"), (.inr "pay", .str "nn"), (.inr "up", .str "n"), (.inr "leave", .str "nnn"), (.inr "bring", .str "n"), (.inr "hand", .str "nn"), (.inr "settle", .str "nns")]
def sp__law_forms (K : PySem.W.Frag) : Sp := fun vs H Q _ => ∃ u : Unit, vs = [] ∧ u = u ∧ ∀ H' D, Same H H' → H D = none → H' D = some (.dK formsK) → Q (.ref D) H'
theorem ok__law_forms {f : Addr} {fd : FuncData} (F : Fun K "_law_forms" "_law_forms" s__law_forms f fd) (g : mg "_law_forms" = some (.ref f)) (bd : Binds K fd [] []) : CF P w K mg base 1 "_law_forms" [] (sp__law_forms K) := by
  refine ⟨f, fd, F.ok sc__law_forms (fun vs H Q E h => ?_) (fun cdv A outer s H vs Q E hr h => ?_), g, F.kp, bd⟩
  · first | (obtain ⟨_, rfl, _⟩ := h; rfl) | (obtain ⟨_, _, rfl, _⟩ := h; rfl) | (obtain ⟨_, _, _, rfl, _⟩ := h; rfl) | (obtain ⟨_, _, _, _, rfl, _⟩ := h; rfl) | (obtain ⟨_, _, _, _, _, rfl, _⟩ := h; rfl) | (obtain ⟨_, _, _, _, _, _, rfl, _⟩ := h; rfl) | (obtain ⟨_, _, _, _, _, _, _, rfl, _⟩ := h; rfl) | (obtain ⟨_, _, _, _, _, _, _, _, rfl, _⟩ := h; rfl) | (obtain ⟨_, _, _, _, _, _, _, _, _, rfl, _⟩ := h; rfl) | (obtain ⟨_, _, _, _, _, _, _, _, _, _, rfl, _⟩ := h; rfl) | (obtain ⟨_, _, _, _, _, _, _, _, _, _, _, rfl, _⟩ := h; rfl) | (obtain ⟨_, _, _, _, _, _, _, _, _, _, _, _, rfl, _⟩ := h; rfl) | (obtain ⟨_, _, _, _, _, _, _, _, _, _, _, _, _, rfl, _⟩ := h; rfl) | (obtain ⟨_, _, _, _, _, _, _, _, _, _, _, _, _, _, rfl, _⟩ := h; rfl) | (obtain ⟨_, _, _, _, _, _, _, _, _, _, _, _, _, _, _, rfl, _⟩ := h; rfl)
  · have hu64 := hr.units
    obtain ⟨_, rfl, _, q⟩ := h
    refine ⟨_, (pss_one (ps_ret (pe_disp (pps_cons pe_str pe_str (pps_cons pe_str pe_str (pps_cons pe_str pe_str (pps_cons pe_str pe_str (pps_cons pe_str pe_str (pps_cons pe_str pe_str (pps_cons pe_str pe_str (pps_cons pe_str pe_str (pps_cons pe_str pe_str (pps_cons pe_str pe_str pps_nil)))))))))) (by rfl) (by rfl) (by simp) (by decide)))), ?_⟩
    refine fun a na => ⟨upd_same, formsK, rfl, by decide, q _ a (fun c o e => ?_) na (by rw [upd_same]; rfl)⟩
    have ca := ne_of_none e na
    rw [upd_ne ca, upd_ne ca]
    exact e
theorem at1 {a b : V} {l : List V} : atI (a :: b :: l) 1 = some b := by
  show atI (a :: b :: l) ((1 : Nat) : Int) = some b
  exact atI_nat rfl
theorem fits_n {s x : Str} (hx : nameS x = true) (hs : s ∈ namedS) : fits s (.nm x) := ⟨hx, hs⟩
/-- what the words of plain names come to -/
theorem plain_deed {w a1 a2 a3 : Str} (hw : w ∈ wordsL) (n1 : w ≠ Str.ofString "house") (n2 : w ≠ Str.ofString "price") (n3 : w ≠ Str.ofString "settle") (o1 : nameS a1 = true) (o2 : nameS a2 = true) (o3 : nameS a3 = true) (ne : w = Str.ofString "hand" → a1 ≠ a2) :
    ∃ (code : Str) (k : Nat) (xs : List Arg) (ss : List Str), valV formsK (.inr w) = some (.str code) ∧ code.length = k ∧ k ≤ 3 ∧ cutV [.str a1, .str a2, .str a3] none (some ((k : Nat) : Int)) = xs.map Arg.v ∧ xs ≠ [] ∧ xs.length ≤ 3 ∧ Deed w xs ss := by
  unfold wordsL at hw
  simp only [List.mem_cons, List.not_mem_nil, or_false] at hw
  rcases hw with rfl | rfl | rfl | rfl | rfl | rfl | rfl | rfl | rfl | rfl
  · exact absurd rfl n1
  · exact absurd rfl n2
  · refine ⟨"nnn", 3, [.nm a1, .nm a2, .nm a3], ["ware", "kind", "house"], by rfl, rfl, by decide, rfl, by simp, by simp, by decide +kernel, rfl, fit3 (fits_n o1 (by decide +kernel)) (fits_n o2 (by decide +kernel)) (fits_n o3 (by decide +kernel)), ?_⟩
    show (housesOf [(Str.ofString "ware", a1), (Str.ofString "kind", a2), (Str.ofString "house", a3)]).Nodup
    rw [house_skip (by decide +kernel), house_skip (by decide +kernel), house_cons, house_nil]
    simp
  · refine ⟨"nnn", 3, [.nm a1, .nm a2, .nm a3], ["house", "kind", "who"], by rfl, rfl, by decide, rfl, by simp, by simp, by decide +kernel, rfl, fit3 (fits_n o1 (by decide +kernel)) (fits_n o2 (by decide +kernel)) (fits_n o3 (by decide +kernel)), ?_⟩
    show (housesOf [(Str.ofString "house", a1), (Str.ofString "kind", a2), (Str.ofString "who", a3)]).Nodup
    rw [house_cons, house_skip (by decide +kernel), house_skip (by decide +kernel), house_nil]
    simp
  · refine ⟨"nn", 2, [.nm a1, .nm a2], ["ware", "who"], by rfl, rfl, by decide, rfl, by simp, by simp, by decide +kernel, rfl, fit2 (fits_n o1 (by decide +kernel)) (fits_n o2 (by decide +kernel)), ?_⟩
    show (housesOf [(Str.ofString "ware", a1), (Str.ofString "who", a2)]).Nodup
    rw [house_skip (by decide +kernel), house_skip (by decide +kernel), house_nil]
    simp
  · refine ⟨"n", 1, [.nm a1], ["ware"], by rfl, rfl, by decide, rfl, by simp, by simp, by decide +kernel, rfl, fit1 (fits_n o1 (by decide +kernel)), ?_⟩
    show (housesOf [(Str.ofString "ware", a1)]).Nodup
    rw [house_skip (by decide +kernel), house_nil]
    simp
  · refine ⟨"nnn", 3, [.nm a1, .nm a2, .nm a3], ["house", "kind", "who"], by rfl, rfl, by decide, rfl, by simp, by simp, by decide +kernel, rfl, fit3 (fits_n o1 (by decide +kernel)) (fits_n o2 (by decide +kernel)) (fits_n o3 (by decide +kernel)), ?_⟩
    show (housesOf [(Str.ofString "house", a1), (Str.ofString "kind", a2), (Str.ofString "who", a3)]).Nodup
    rw [house_cons, house_skip (by decide +kernel), house_skip (by decide +kernel), house_nil]
    simp
  · refine ⟨"n", 1, [.nm a1], ["ware"], by rfl, rfl, by decide, rfl, by simp, by simp, by decide +kernel, rfl, fit1 (fits_n o1 (by decide +kernel)), ?_⟩
    show (housesOf [(Str.ofString "ware", a1)]).Nodup
    rw [house_skip (by decide +kernel), house_nil]
    simp
  · refine ⟨"nn", 2, [.nm a1, .nm a2], ["house", "house"], by rfl, rfl, by decide, rfl, by simp, by simp, by decide +kernel, rfl, fit2 (fits_n o1 (by decide +kernel)) (fits_n o2 (by decide +kernel)), ?_⟩
    show (housesOf [(Str.ofString "house", a1), (Str.ofString "house", a2)]).Nodup
    rw [house_cons, house_cons, house_nil]
    simp only [List.nodup_cons, List.mem_singleton, List.not_mem_nil, not_false_eq_true, List.nodup_nil, and_true]
    exact ne rfl
  · exact absurd rfl n3
/-! ### _law_deed -/
abbrev s__law_deed : Stmt := topS 51
abbrev N__law_deed : List Str := ["_law_box_here", "_law_names_here", "_law_word", "_law_some", "_law_turn", "_law_pence", "_law_name"]
theorem sc__law_deed : FnScope N__law_deed ["_law_box_here", "_law_names_here"] (defScope s__law_deed) := ⟨rfl, rfl, rfl, by decide +kernel, rfl, by decide +kernel, by decide +kernel⟩
def sp__law_deed (K : PySem.W.Frag) : Sp := fun vs H Q _ => ∃ (b X : Addr) (n : Int) (ns : List Str), vs = [.ref b, .ref X] ∧ Box H b n ∧ n < 999800000 ∧ H X = some (.lst (ns.map V.str)) ∧ X ≠ b ∧ ns.Nodup ∧ 2 ≤ ns.length ∧ ns.length ≤ 25 ∧ (∀ s ∈ ns, nameS s = true) ∧
  ∀ H' t w xs ss, Box H' b (n + 60) → But b H H' → SqT K H' t (.str w :: xs.map Arg.v) → Deed w xs ss → Q (.ref t) H'
theorem ok__law_deed {f : Addr} {fd : FuncData} (F : Fun K "_law_deed" "_law_deed" s__law_deed f fd) (g : mg "_law_deed" = some (.ref f)) (bd : Binds K fd ["_law_box_here", "_law_names_here"] []) (m_list : mg "list" = none) (m_range : mg "range" = none) (m_tuple : mg "tuple" = none) (m_len : mg "len" = none) (C__law_pick : CF P w K mg base 2 "_law_pick" ["_law_box_here", "_law_some"] (sp__law_pick K)) (C__law_clauses : CF P w K mg base 2 "_law_clauses" ["_law_box_here"] (sp__law_clauses K)) (C__law_take : CF P w K mg base 1 "_law_take" ["_law_box_here", "_law_many"] (sp__law_take K)) (C__law_forms : CF P w K mg base 1 "_law_forms" [] (sp__law_forms K)) : CF P w K mg base 3 "_law_deed" ["_law_box_here", "_law_names_here"] (sp__law_deed K) := by
  refine ⟨f, fd, F.ok sc__law_deed (fun vs H Q E h => ?_) (fun cdv A outer s H vs Q E hr h => ?_), g, F.kp, bd⟩
  · first | (obtain ⟨_, rfl, _⟩ := h; rfl) | (obtain ⟨_, _, rfl, _⟩ := h; rfl) | (obtain ⟨_, _, _, rfl, _⟩ := h; rfl) | (obtain ⟨_, _, _, _, rfl, _⟩ := h; rfl) | (obtain ⟨_, _, _, _, _, rfl, _⟩ := h; rfl) | (obtain ⟨_, _, _, _, _, _, rfl, _⟩ := h; rfl) | (obtain ⟨_, _, _, _, _, _, _, rfl, _⟩ := h; rfl) | (obtain ⟨_, _, _, _, _, _, _, _, rfl, _⟩ := h; rfl) | (obtain ⟨_, _, _, _, _, _, _, _, _, rfl, _⟩ := h; rfl) | (obtain ⟨_, _, _, _, _, _, _, _, _, _, rfl, _⟩ := h; rfl) | (obtain ⟨_, _, _, _, _, _, _, _, _, _, _, rfl, _⟩ := h; rfl) | (obtain ⟨_, _, _, _, _, _, _, _, _, _, _, _, rfl, _⟩ := h; rfl) | (obtain ⟨_, _, _, _, _, _, _, _, _, _, _, _, _, rfl, _⟩ := h; rfl) | (obtain ⟨_, _, _, _, _, _, _, _, _, _, _, _, _, _, rfl, _⟩ := h; rfl) | (obtain ⟨_, _, _, _, _, _, _, _, _, _, _, _, _, _, _, rfl, _⟩ := h; rfl)
  · have hu64 := hr.units
    have hu1 := hu1_of hu64
    obtain ⟨b, X, n, ns, rfl, hB, hn, hX, Xb, nd, n2, n25, hns, q⟩ := h
    refine ⟨_, (pss_cons (ps_set (i := 2) sc__law_deed.nd rfl (.inl rfl) (pe_cf C__law_pick (hr.mono (by decide)) (by rfl) (pa_cons (pv 0) (pa_cons (pe_callTy (call_list_dK rfl) (by rfl) m_list (by decide +kernel) (pa_cons (pe_cf0 C__law_forms (hr.mono (by decide)) (by rfl)) pa_nil)) pa_nil))))
      (pss_cons (ps_set (i := 3) sc__law_deed.nd rfl (.inr rfl) (pe_lc (own := [("_law_turn", 4)]) (g := (gName 4)) (tt := tYes) rfl sc__law_deed.nd (pi_range1 (by rfl) m_range (pa_cons pe_int pa_nil)) (blkOk_by (own := [("_law_turn", 4)]) (N := N__law_deed) (sc := defScope s__law_deed) (by decide +kernel)) (fun _ _ _ _ _ => pg_name (i := 4) sc__law_deed.nd rfl (Or.inl rfl)) (fun _ _ _ _ _ => pts_nil) (fun _ _ _ _ _ => (pe_cf C__law_pick (hr.mono (by decide)) (by rfl) (pa_cons (pv 0) (pa_cons (pv 1) pa_nil))))))
      (pss_cons (ps_if (pt_cmpR op_eq (pv 2) pe_str (nomark _))
         (pss_one (ps_ret (pe_tup (pa_cons pe_str (pa_cons (pe_ix (kk_ixl K) (pv 3) pe_int (fun _ _ => rfl)) (pa_cons (pe_join pe_str (pe_cf C__law_clauses (hr.mono (by decide)) (by rfl) (pa_cons (pv 0) pa_nil))) pa_nil))))))
         pss_nil)
      (pss_cons (ps_if (pt_cmpR op_eq (pv 2) pe_str (nomark _))
         (pss_cons (ps_set (i := 5) sc__law_deed.nd rfl (.inl rfl) (pe_ix (kk_ixl K) (pe_lst (pa_cons (pe_op op_pow pe_int pe_int) (pa_cons (pe_op op_add pe_int (pe_cf C__law_take (hr.mono (by decide)) (by rfl) (pa_cons (pv 0) (pa_cons pe_int pa_nil)))) (pa_cons (pe_op op_add pe_int (pe_cf C__law_take (hr.mono (by decide)) (by rfl) (pa_cons (pv 0) (pa_cons (pe_op op_pow pe_int pe_int) pa_nil)))) pa_nil)))) (pe_cf C__law_take (hr.mono (by decide)) (by rfl) (pa_cons (pv 0) (pa_cons pe_int pa_nil))) (fun _ _ => rfl)))
          (pss_one (ps_ret (pe_tup (pa_cons pe_str (pa_cons (pe_ix (kk_ixl K) (pv 3) pe_int (fun _ _ => rfl)) (pa_cons (pe_ix (kk_ixl K) (pv 3) pe_int (fun _ _ => rfl)) (pa_cons (pv 5) pa_nil))))))))
         pss_nil)
      (pss_cons (ps_if (pt_cmpR (kk_in K) (pv 2) (pe_tup (pa_cons pe_str (pa_cons pe_str pa_nil))) (by rfl))
         (pss_one (ps_asg (pe_cf C__law_pick (hr.mono (by decide)) (by rfl) (pa_cons (pv 0) (pa_cons (pe_lc (own := [("_law_name", 6)]) (g := (gName 6)) rfl sc__law_deed.nd (pi_list (pv 1)) (blkOk_by (own := [("_law_name", 6)]) (N := N__law_deed) (sc := defScope s__law_deed) (by decide +kernel)) (fun _ _ _ _ _ => pg_name (i := 6) sc__law_deed.nd rfl (Or.inl rfl)) (fun _ _ _ _ _ => (pts_one (pt_cmpR op_ne (pv 6) (pe_ix (kk_ixl K) (pv 3) pe_int (fun _ _ => rfl)) (nomark _)))) (fun _ _ _ _ _ => (pv 6))) pa_nil))) (pg_sub (pv 3) pe_int set_list)))
         pss_nil)
      (pss_cons (ps_if (pt_cmpR op_eq (pv 2) pe_str (nomark _))
         (pss_cons (ps_set (i := 5) sc__law_deed.nd rfl (.inl rfl) (pe_ix (kk_ixl K) (pe_lst (pa_cons (pe_op op_pow pe_int pe_int) (pa_cons (pe_op op_add pe_int (pe_cf C__law_take (hr.mono (by decide)) (by rfl) (pa_cons (pv 0) (pa_cons pe_int pa_nil)))) (pa_cons (pe_op op_add pe_int (pe_cf C__law_take (hr.mono (by decide)) (by rfl) (pa_cons (pv 0) (pa_cons (pe_op op_pow pe_int pe_int) pa_nil)))) pa_nil)))) (pe_cf C__law_take (hr.mono (by decide)) (by rfl) (pa_cons (pv 0) (pa_cons pe_int pa_nil))) (fun _ _ => rfl)))
          (pss_one (ps_ret (pe_tup (pa_cons pe_str (pa_cons (pe_ix (kk_ixl K) (pv 3) pe_int (fun _ _ => rfl)) (pa_cons (pe_ix (kk_ixl K) (pv 3) pe_int (fun _ _ => rfl)) (pa_cons (pv 5) pa_nil))))))))
         pss_nil)
      (pss_one (ps_ret (pe_op (kk_catT K) (pe_tup (pa_cons (pv 2) pa_nil)) (pe_callTy (kk_tuple K) (by rfl) m_tuple (by decide +kernel) (pa_cons (pe_slice (kk_sll K) (pv 3) po_none (po_some (pe_callB call_len_str (by rfl) m_len PySem.boot_len (pa_cons (pe_dget hu1 (pe_cf0 C__law_forms (hr.mono (by decide)) (by rfl)) (pv 2) (fun _ _ => rfl)) pa_nil)))) pa_nil))))))))))), ?_⟩
    refine ⟨_, rfl, (), rfl, rfl, fun H1 D s1 nD hD => ⟨D, _, rfl, hD, fun W nW => ?_⟩⟩
    have sW := same_new (o := .lst (formsK.map fun kv => kV kv.1)) nW
    have xW := upd_same (H := H1) (a := W) (o := .lst (formsK.map fun kv => kV kv.1))
    have Wb := (hB.same s1).ne nW
    have B2 := (hB.same s1).same sW
    have s2 := s1.trans sW
    have eW : (formsK.map fun kv => kV kv.1) = wordsL.map V.str := rfl
    generalize upd H1 W (.lst (formsK.map fun kv => kV kv.1)) = H2 at *
    rw [eW] at xW
    refine ⟨b, W, _, _, rfl, B2, SqL.of xW, Wb, by decide, by decide, by omega, fun H3 v B3 t3 hv => ?_⟩
    obtain ⟨w9, hw, rfl⟩ := List.mem_map.mp hv
    have t03 : But b H H3 := (But.of s2).trans t3
    have hX3 := t03 _ _ Xb hX
    -- three names
    refine ⟨_, rfl, by decide, by decide, fun S nS => lc_range (lo := 0) (n := 3) (fun i G => But b H3 G ∧ Box G b (n + 1 + i) ∧ ∃ ls : List Str, ls.length = i ∧ (∀ s ∈ ls, s ∈ ns) ∧ G S = some (.lst (ls.map V.str))) ⟨But.new nS, (B3.mono (by omega)).new nS, [], rfl, fun _ h => (nomatch h), upd_same⟩ (fun i G hi h => ?_) (fun G h => ?_)⟩
    · obtain ⟨tG, BG, ls, hls, hlm, hG⟩ := h
      have Sb : S ≠ b := B3.ne nS
      refine ⟨rfl, _, rfl, _, rfl, b, X, _, _, rfl, BG, SqL.of (tG _ _ Xb hX3), Xb, by rw [List.length_map]; omega, by rw [List.length_map]; omega, by omega, fun G2 v B4 t4 hv2 => ?_⟩
      obtain ⟨s, hs, rfl⟩ := List.mem_map.mp hv2
      refine ⟨_, t4 _ _ Sb hG, ?_, fun c o ne e => ?_, (B4.upd Sb).mono (by omega), ls ++ [s], by rw [List.length_append, hls]; rfl, fun z hz => ?_, ?_⟩
      · rw [List.length_map, hls]
        exact small1000 (by omega)
      · rw [upd_ne (ne_of_none e nS)]
        exact t4 _ _ ne (tG _ _ ne e)
      · rcases List.mem_append.mp hz with u | u
        · exact hlm z u
        · rw [List.mem_singleton.mp u]
          exact hs
      · rw [upd_same, List.map_append]
        rfl
    obtain ⟨tG, BG, ls, hls, hlm, hS⟩ := h
    have Sb : S ≠ b := B3.ne nS
    have nSH : H S = none := by
      cases e : H S with
      | none => rfl
      | some o =>
        have := t03 _ _ Sb e
        rw [nS] at this
        cases this
    have SX : X ≠ S := ne_of_none hX nSH
    obtain ⟨a1, a2, a3, rfl⟩ : ∃ a1 a2 a3, ls = [a1, a2, a3] := by
      match ls, hls with
      | [a1, a2, a3], _ => exact ⟨a1, a2, a3, rfl⟩
    have m1 := hlm a1 (by simp)
    have m2 := hlm a2 (by simp)
    have m3 := hlm a3 (by simp)
    have t0G := t03.trans tG
    have BG := BG.mono (show n + 1 + ((3 : Nat) : Int) ≤ n + 4 by omega)
    have st : ∀ z : Str, V.str w9 = V.str z ↔ w9 = z := fun z => ⟨V.str.inj, congrArg V.str⟩
    refine ⟨_, rfl, rfl, _, rfl, ?_⟩
    by_cases c1 : V.str w9 = V.str (Str.ofString "house")
    · have e1 := V.str.inj c1
      subst e1
      refine iteY c1 ⟨_, rfl, S, _, _, _, rfl, rfl, SqL.of hS, at0, ⟨_, rfl⟩, _, rfl, b, _, rfl, BG, by omega, fun G4 L f B4 t4 hL ok => ?_⟩
      obtain ⟨cl1, cl2⟩ := cls_len ok
      have e2 : (Str.ofString ", ").length = 2 := rfl
      refine ⟨_, L, clsT f, rfl, rfl, .inl (SqL.of hL), (by rw [e2]; omega), (by show 3 ≤ sizeLine; decide), fun T nT => ?_⟩
      refine q _ T "house" [.nm a1, .tx f] ["house", "text"] ((B4.new nT).mono (by omega)) ((t0G.trans t4).trans (But.new nT)) (SqT.of upd_same) ⟨by decide +kernel, rfl, fit2 (fits_n (hns _ m1) (by decide +kernel)) ⟨ok, rfl⟩, ?_⟩
      show (housesOf [(Str.ofString "house", a1)]).Nodup
      rw [house_cons, house_nil]
      simp
    refine iteN c1 ⟨_, rfl, rfl, _, rfl, ?_⟩
    by_cases c2 : V.str w9 = V.str (Str.ofString "price")
    · have e2 := V.str.inj c2
      subst e2
      refine iteY c2 ⟨_, _, rfl, rfl, ⟨by decide, by decide, by decide⟩, _, rfl, b, 130, _, rfl, BG, by decide, by decide, by omega, fun r1 G1 r10 r11 B1 t1 => ⟨_, _, rfl, rfl, _, rfl, _, _, rfl, rfl, ⟨by decide, by decide, by decide⟩, b, _, _, rfl, B1, by decide, by decide, by omega, fun r2 G2 r20 r21 B2 t2 => ⟨_, _, rfl, rfl, (by show 3 ≤ sizeLine; decide), fun pp npp => ⟨_, rfl, b, 3, _, rfl, B2.new npp, by decide, by decide, by omega, fun r3 G3 r30 r31 B3 t3 => ?_⟩⟩⟩⟩
      have r21 : r2 < 1000000 := r21
      obtain ⟨v, hv, v0, v1⟩ := pick3i (lo := 1) (hi := 1000000) r30 r31 (x := (10 : Int) ^ (6 : Int).toNat) (y := 1 + r1) (z := 1 + r2) ⟨by decide, by decide⟩ ⟨by omega, by omega⟩ ⟨by omega, by omega⟩
      have t13 : But b G G3 := ((t1.trans t2).trans (But.new npp)).trans t3
      have hS3 := t13 _ _ Sb hS
      refine ⟨pp, _, _, _, rfl, rfl, SqL.of (t3 _ _ (B2.ne npp) upd_same), hv, _, rfl, S, _, _, _, rfl, rfl, SqL.of hS3, at0, _, rfl, S, _, _, _, rfl, rfl, SqL.of hS3, at1, _, rfl, (by show 4 ≤ sizeLine; decide), fun T nT => ?_⟩
      refine q _ T "price" [.nm a1, .nm a2, .pn v] ["house", "kind", "price"] ((B3.new nT).mono (by omega)) ((t0G.trans t13).trans (But.new nT)) (SqT.of upd_same) ⟨by decide +kernel, rfl, fit3 (fits_n (hns _ m1) (by decide +kernel)) (fits_n (hns _ m2) (by decide +kernel)) ⟨v0, .inl ⟨rfl, v1⟩⟩, ?_⟩
      show (housesOf [(Str.ofString "house", a1), (Str.ofString "kind", a2)]).Nodup
      rw [house_cons, house_skip (by decide +kernel), house_nil]
      simp
    have n1 : w9 ≠ Str.ofString "house" := fun z => c1 (congrArg V.str z)
    have n2' : w9 ≠ Str.ofString "price" := fun z => c2 (congrArg V.str z)
    refine iteN c2 ?_
    apply join_st (fun σ G2 => ∃ (x2 : Str) (s6 : Option V), σ = [some (V.ref b), some (V.ref X), some (V.str w9), some (V.ref S), none, none, s6] ∧ Box G2 b (n + 10) ∧ But b H G2 ∧ G2 S = some (.lst ([a1, x2, a3].map V.str)) ∧ x2 ∈ ns ∧ (w9 = Str.ofString "hand" ∨ w9 = Str.ofString "settle" → a1 ≠ x2))
    case h =>
      intro go
      refine ⟨_, rfl, (by show 2 ≤ sizeLine; decide), fun T0 nT0 => ⟨T0, _, rfl, .inr (SqT.of upd_same), rfl, by decide +kernel, _, rfl, ?_⟩⟩
      have sT := same_new (o := .tup [.str (Str.ofString "hand"), .str (Str.ofString "settle")]) nT0
      have BT := BG.same sT
      have hST := sT _ _ hS
      have hXT := sT _ _ (tG _ _ Xb hX3)
      have t0T := t0G.trans (But.of sT)
      generalize upd G T0 (.tup [.str (Str.ofString "hand"), .str (Str.ofString "settle")]) = G1 at *
      rw [if_neg Bool.false_ne_true, show ([.str (Str.ofString "hand"), .str (Str.ofString "settle")] : List V) = [Str.ofString "hand", Str.ofString "settle"].map V.str from rfl, in_strs]
      by_cases c3 : w9 ∈ [Str.ofString "hand", Str.ofString "settle"]
      case neg =>
        rw [decide_eq_false c3]
        refine iteF (go _ _ ⟨a2, none, rfl, BT.mono (by omega), t0T, hST, m2, fun z => absurd ?_ c3⟩)
        rcases z with z | z <;> simp [z]
      rw [decide_eq_true c3]
      refine iteT ⟨_, rfl, _, rfl, X, rfl, ⟨_, SqL.of hXT⟩, fun D2 nD2 => pass_lc (fun v => match v with | .str z => decide (z ≠ a1) | _ => false) (jok_l (K := K) (SqL.of hXT)) (by rw [List.length_map]; omega) nD2 (fun v hv G2 s2 Y N hY hN2 => ?_) (fun G2 s2 hD2 => ?_)⟩
      · obtain ⟨z, hz, rfl⟩ := List.mem_map.mp hv
        refine ⟨rfl, _, rfl, _, rfl, S, _, _, _, rfl, rfl, SqL.of (s2 _ _ hST), at0, rfl, _, rfl, ?_⟩
        by_cases e : z = a1
        · rw [decide_eq_true (congrArg V.str e)]
          exact iteF (hN2 (decide_eq_false (fun u => u e)) _ (Same.refl _))
        · rw [decide_eq_false (fun u : V.str z = V.str a1 => e (V.str.inj u))]
          exact iteT ⟨_, rfl, hY (decide_eq_true e) _ (Same.refl _)⟩
      have ef : (ns.map V.str).filter (fun v => match v with | .str z => decide (z ≠ a1) | _ => false) = (ns.filter fun z => decide (z ≠ a1)).map V.str := by
        rw [List.filter_map]
        rfl
      rw [ef] at hD2
      have ol := other_len nd m1
      have B5 := BT.same s2
      have D2b : D2 ≠ b := BT.ne nD2
      refine ⟨b, D2, _, _, rfl, B5, SqL.of hD2, D2b, by rw [List.length_map]; omega, by rw [List.length_map]; omega, by omega, fun G3 v B6 t6 hv => ?_⟩
      obtain ⟨d, hd, rfl⟩ := List.mem_map.mp hv
      obtain ⟨md, hda⟩ := List.mem_filter.mp hd
      have hda := of_decide_eq_true hda
      have hS6 := t6 _ _ Sb (s2 _ _ hST)
      refine ⟨_, rfl, S, _, _, _, rfl, rfl, hS6, rfl, go _ _ ⟨d, none, rfl, (B6.upd Sb).mono (by omega), fun c o ne e => ?_, upd_same, md, fun _ => hda.symm⟩⟩
      rw [upd_ne (ne_of_none e nSH)]
      exact t6 _ _ ne (s2 _ _ (t0T _ _ ne e))
    case rest =>
    rintro _ G2 ⟨x2, s6, rfl, B2, t2, hS2, mx, hne⟩
    refine ⟨_, rfl, rfl, _, rfl, ?_⟩
    by_cases c3 : V.str w9 = V.str (Str.ofString "settle")
    · have e3 := V.str.inj c3
      subst e3
      have ne := hne (.inr rfl)
      refine iteY c3 ⟨_, _, rfl, rfl, ⟨by decide, by decide, by decide⟩, _, rfl, b, 130, _, rfl, B2, by decide, by decide, by omega, fun r1 G3 r10 r11 B3 t3 => ⟨_, _, rfl, rfl, _, rfl, _, _, rfl, rfl, ⟨by decide, by decide, by decide⟩, b, _, _, rfl, B3, by decide, by decide, by omega, fun r2 G4 r20 r21 B4 t4 => ⟨_, _, rfl, rfl, (by show 3 ≤ sizeLine; decide), fun pp npp => ⟨_, rfl, b, 3, _, rfl, B4.new npp, by decide, by decide, by omega, fun r3 G5 r30 r31 B5 t5 => ?_⟩⟩⟩⟩
      have r21 : r2 < 100000000 := r21
      obtain ⟨v, hv, v0, v1⟩ := pick3i (lo := 1) (hi := 100000000) r30 r31 (x := (10 : Int) ^ (8 : Int).toNat) (y := 1 + r1) (z := 1 + r2) ⟨by decide, by decide⟩ ⟨by omega, by omega⟩ ⟨by omega, by omega⟩
      have t25 : But b G2 G5 := ((t3.trans t4).trans (But.new npp)).trans t5
      have hS5 := t25 _ _ Sb hS2
      refine ⟨pp, _, _, _, rfl, rfl, SqL.of (t5 _ _ (B4.ne npp) upd_same), hv, _, rfl, S, _, _, _, rfl, rfl, SqL.of hS5, at0, _, rfl, S, _, _, _, rfl, rfl, SqL.of hS5, at1, _, rfl, (by show 4 ≤ sizeLine; decide), fun T nT => ?_⟩
      refine q _ T "settle" [.nm a1, .nm x2, .pn v] ["house", "house", "debt"] ((B5.new nT).mono (by omega)) ((t2.trans t25).trans (But.new nT)) (SqT.of upd_same) ⟨by decide +kernel, rfl, fit3 (fits_n (hns _ m1) (by decide +kernel)) (fits_n (hns _ mx) (by decide +kernel)) ⟨v0, .inr ⟨rfl, v1⟩⟩, ?_⟩
      show (housesOf [(Str.ofString "house", a1), (Str.ofString "house", x2)]).Nodup
      rw [house_cons, house_cons, house_nil]
      simp only [List.nodup_cons, List.mem_singleton, List.not_mem_nil, not_false_eq_true, List.nodup_nil, and_true]
      exact ne
    have n3 : w9 ≠ Str.ofString "settle" := fun z => c3 (congrArg V.str z)
    obtain ⟨code, k, xs, ss, g1, g2, g3, g4, g5, g6, dd⟩ := plain_deed (a1 := a1) (a2 := x2) (a3 := a3) hw n1 n2' n3 (hns _ m1) (hns _ mx) (hns _ m3) fun z => hne (.inl z)
    refine iteN c3 ⟨_, rfl, (by show 1 ≤ sizeLine; decide), fun T1 nT1 => ?_⟩
    have sT1 := same_new (o := .tup [.str w9]) nT1
    have xT1 := upd_same (H := G2) (a := T1) (o := .tup [.str w9])
    have hS3 := sT1 _ _ hS2
    have B3 := B2.same sT1
    generalize upd G2 T1 (.tup [.str w9]) = G3 at *
    refine ⟨_, rfl, (), rfl, rfl, fun G4 D3 s4 nD3 hD3 => ⟨_, rfl, D3, _, rfl, (by have := DGet.k (k := Sum.inr w9) hD3; rw [g1] at this; exact this), code, rfl, size_small (by omega), _, rfl, ?_⟩⟩
    rw [g2]
    have hS4 := s4 _ _ hS3
    have B4 := B3.same s4
    refine ⟨S, _, rfl, SqL.of hS4, fun S2 nS2 => ⟨S2, _, rfl, .inl ⟨SqL.of upd_same, fun U nU => ?_⟩⟩⟩
    have e4 : cutV (([a1, x2, a3] : List Str).map V.str) none (some ((k : Nat) : Int)) = xs.map Arg.v := g4
    rw [e4] at nU ⊢
    have s5 := same_new (o := .lst (xs.map Arg.v)) nS2
    have s6 := same_new (o := .tup (xs.map Arg.v)) nU
    have xU := upd_same (H := upd G4 S2 (.lst (xs.map Arg.v))) (a := U) (o := .tup (xs.map Arg.v))
    have s36 := (s4.trans s5).trans s6
    generalize upd (upd G4 S2 (.lst (xs.map Arg.v))) U (.tup (xs.map Arg.v)) = G6 at *
    have B6 := B3.same s36
    refine ⟨T1, U, _, _, rfl, rfl, SqT.of (s36 _ _ xT1), SqT.of xU, by simp, ?_, fun z => absurd (List.map_eq_nil_iff.mp z) g5, fun _ T nT => ?_⟩
    · rw [List.length_map]
      show 1 + _ ≤ _
      exact size_small (by omega)
    exact q _ T w9 xs ss ((B6.new nT).mono (by omega)) ((t2.trans (But.of (sT1.trans s36))).trans (But.new nT)) (SqT.of upd_same) dd
/-! ### _law_same -/
abbrev s__law_same : Stmt := topS 55
abbrev N__law_same : List Str := ["_law_found", "_law_due", "_law_one", "_law_other"]
theorem sc__law_same : FnScope N__law_same ["_law_found", "_law_due"] (defScope s__law_same) := ⟨rfl, rfl, rfl, by decide +kernel, rfl, by decide +kernel, by decide +kernel⟩
def spr__law_same (K : PySem.W.Frag) : Nat → Sp
  | 0 => fun _ _ _ _ => False
  | n + 1 => fun vs H Q _ => ∃ (x y : V) (d : PyData), vs = [x, y] ∧ Dp K H x d ∧ Dp K H y d ∧ PyData.depth d ≤ n ∧ thin d = true ∧ ∀ H', Same H H' → Q (.bl true) H'
def sp__law_same (K : PySem.W.Frag) : Sp := spr__law_same K 5
theorem st__law_same (n : Nat) {f : Addr} {fd : FuncData} (F : Fun K "_law_same" "_law_same" s__law_same f fd) (g : mg "_law_same" = some (.ref f)) (bd : Binds K fd ["_law_found", "_law_due"] []) (m_isinstance : mg "isinstance" = none) (m_bool : mg "bool" = none) (m_tuple : mg "tuple" = none) (m_list : mg "list" = none) (m_all : mg "all" = none) (m_zip : mg "zip" = none) (m_len : mg "len" = none) (m_str : mg "str" = none) (m_int : mg "int" = none) (C__law_same : CF P w K mg base (1 + n) "_law_same" ["_law_found", "_law_due"] (spr__law_same K n)) : CF P w K mg base (1 + n + 1) "_law_same" ["_law_found", "_law_due"] (spr__law_same K (n + 1)) := by
  refine ⟨f, fd, F.ok sc__law_same (fun vs H Q E h => ?_) (fun cdv A outer s H vs Q E hr h => ?_), g, F.kp, bd⟩
  · first | (obtain ⟨_, rfl, _⟩ := h; rfl) | (obtain ⟨_, _, rfl, _⟩ := h; rfl) | (obtain ⟨_, _, _, rfl, _⟩ := h; rfl) | (obtain ⟨_, _, _, _, rfl, _⟩ := h; rfl) | (obtain ⟨_, _, _, _, _, rfl, _⟩ := h; rfl) | (obtain ⟨_, _, _, _, _, _, rfl, _⟩ := h; rfl) | (obtain ⟨_, _, _, _, _, _, _, rfl, _⟩ := h; rfl) | (obtain ⟨_, _, _, _, _, _, _, _, rfl, _⟩ := h; rfl) | (obtain ⟨_, _, _, _, _, _, _, _, _, rfl, _⟩ := h; rfl) | (obtain ⟨_, _, _, _, _, _, _, _, _, _, rfl, _⟩ := h; rfl) | (obtain ⟨_, _, _, _, _, _, _, _, _, _, _, rfl, _⟩ := h; rfl) | (obtain ⟨_, _, _, _, _, _, _, _, _, _, _, _, rfl, _⟩ := h; rfl) | (obtain ⟨_, _, _, _, _, _, _, _, _, _, _, _, _, rfl, _⟩ := h; rfl) | (obtain ⟨_, _, _, _, _, _, _, _, _, _, _, _, _, _, rfl, _⟩ := h; rfl) | (obtain ⟨_, _, _, _, _, _, _, _, _, _, _, _, _, _, _, rfl, _⟩ := h; rfl)
  · have hu64 := hr.units
    obtain ⟨x, y, d, rfl, hx, hy, hd, ht, q⟩ := h
    refine ⟨_, (pss_cons (ps_if (pt_cmpR op_isN (pv 1) pe_non (nomark _))
         (pss_one (ps_ret (pe_cmpR op_isN (pv 0) pe_non (nomark _))))
         pss_nil)
      (pss_cons (ps_if (pt_val (pe_callB (kk_isi K) (by rfl) m_isinstance (by decide +kernel) (pa_cons (pv 1) (pa_cons (pe_bltn (v := .ty "bool") (by rfl) m_bool (by decide +kernel) rfl) pa_nil))))
         (pss_one (ps_ret (pe_and (pe_callB (kk_isi K) (by rfl) m_isinstance (by decide +kernel) (pa_cons (pv 0) (pa_cons (pe_bltn (v := .ty "bool") (by rfl) m_bool (by decide +kernel) rfl) pa_nil))) (pe_one (pe_cmpR op_eq (pv 0) (pv 1) (nomark _))))))
         pss_nil)
      (pss_cons (ps_if (pt_val (pe_callB (kk_isiT K) (by rfl) m_isinstance (by decide +kernel) (pa_cons (pv 1) (pa_cons (pe_tup (pa_cons (pe_bltn (v := .ty "list") (by rfl) m_list (by decide +kernel) rfl) (pa_cons (pe_bltn (v := .ty "tuple") (by rfl) m_tuple (by decide +kernel) rfl) pa_nil))) pa_nil))))
         (pss_cons (ps_if (PW.pt (pw_or (pt_cmpR op_ne (pe_callB (kk_isi K) (by rfl) m_isinstance (by decide +kernel) (pa_cons (pv 0) (pa_cons (pe_bltn (v := .ty "list") (by rfl) m_list (by decide +kernel) rfl) pa_nil))) (pe_callB (kk_isi K) (by rfl) m_isinstance (by decide +kernel) (pa_cons (pv 1) (pa_cons (pe_bltn (v := .ty "list") (by rfl) m_list (by decide +kernel) rfl) pa_nil))) (nomark _)) (pw_or1 (pt_cmpR op_ne (pe_callB (kk_isi K) (by rfl) m_isinstance (by decide +kernel) (pa_cons (pv 0) (pa_cons (pe_bltn (v := .ty "tuple") (by rfl) m_tuple (by decide +kernel) rfl) pa_nil))) (pe_callB (kk_isi K) (by rfl) m_isinstance (by decide +kernel) (pa_cons (pv 1) (pa_cons (pe_bltn (v := .ty "tuple") (by rfl) m_tuple (by decide +kernel) rfl) pa_nil))) (nomark _)))))
             (pss_one (ps_ret pe_bl))
             pss_nil)
          (pss_one (ps_ret (pe_and (pe_cmpR op_eq (pe_callB (kk_len K) (by rfl) m_len PySem.boot_len (pa_cons (pv 0) pa_nil)) (pe_callB (kk_len K) (by rfl) m_len PySem.boot_len (pa_cons (pv 1) pa_nil)) (nomark _)) (pe_one (pe_callB (kk_all K rfl) (by rfl) m_all (by decide +kernel) (pa_cons (pe_lc (own := [("_law_one", 2), ("_law_other", 3)]) (g := (gTup K 2 (gCons (gName 2) (gCons (gName 3) gNil)))) (tt := tYes) rfl sc__law_same.nd (RZ.pi_zipA (by rfl) m_zip (pa_cons (pv 0) (pa_cons (pv 1) pa_nil))) (blkOk_by (own := [("_law_one", 2), ("_law_other", 3)]) (N := N__law_same) (sc := defScope s__law_same) (by decide +kernel)) (fun _ _ _ _ _ => (pg_tup (by rfl) (pgs_cons (pg_name (i := 2) sc__law_same.nd rfl (.inl rfl)) (pgs_cons (pg_name (i := 3) sc__law_same.nd rfl (.inl rfl)) pgs_nil)))) (fun _ _ _ _ _ => pts_nil) (fun _ _ _ _ _ => (pe_cf C__law_same hr (by rfl) (pa_cons (pv 2) (pa_cons (pv 3) pa_nil))))) pa_nil)))))))
         pss_nil)
      (pss_cons (ps_if (pt_val (pe_callB (kk_isi K) (by rfl) m_isinstance (by decide +kernel) (pa_cons (pv 1) (pa_cons (pe_bltn (v := .ty "str") (by rfl) m_str (by decide +kernel) rfl) pa_nil))))
         (pss_one (ps_ret (pe_and (pe_callB (kk_isi K) (by rfl) m_isinstance (by decide +kernel) (pa_cons (pv 0) (pa_cons (pe_bltn (v := .ty "str") (by rfl) m_str (by decide +kernel) rfl) pa_nil))) (pe_one (pe_cmpR op_eq (pv 0) (pv 1) (nomark _))))))
         pss_nil)
      (pss_one (ps_ret (pe_and (pe_callB (kk_isi K) (by rfl) m_isinstance (by decide +kernel) (pa_cons (pv 0) (pa_cons (pe_bltn (v := .ty "int") (by rfl) m_int (by decide +kernel) rfl) pa_nil))) (pe_and (pe_not (pe_callB (kk_isi K) (by rfl) m_isinstance (by decide +kernel) (pa_cons (pv 0) (pa_cons (pe_bltn (v := .ty "bool") (by rfl) m_bool (by decide +kernel) rfl) pa_nil)))) (pe_one (pe_cmpR op_eq (pv 0) (pv 1) (nomark _))))))))))), ?_⟩
    have hx0 := hx
    have hy0 := hy
    have q0 := q _ (Same.refl H)
    have tx0 := ty_of_dp hx
    have ty0 := ty_of_dp hy
    cases hx with
    | non =>
      cases hy
      exact ⟨_, rfl, rfl, _, rfl, iteT ⟨_, rfl, rfl, q0⟩⟩
    | bl b =>
      cases hy
      exact ⟨_, rfl, rfl, _, rfl, iteF ⟨_, rfl, _, _, _, _, _, rfl, .ty _, ty0, kit_d (T := "bool") (by decide) _, _, rfl, iteT ⟨_, rfl, _, _, _, _, _, rfl, .ty _, tx0, kit_d (T := "bool") (by decide) _, _, rfl, iteT ⟨_, rfl, _, rfl, rfl, qY rfl q0⟩⟩⟩⟩
    | str z =>
      cases hy
      refine ⟨_, rfl, rfl, _, rfl, iteF ⟨_, rfl, _, _, _, _, _, rfl, .ty _, ty0, kit_d (T := "bool") (by decide) _, _, rfl, iteF ⟨_, rfl, (by show 2 ≤ sizeLine; decide), fun tp ntp => ⟨_, tp, _, _, _, _, rfl, upd_same, .cons (.ty _) (.cons (.ty _) .nil), ty_of_dp (dp_same (same_new ntp) hy0), kitLT _, _, rfl, ?_⟩⟩⟩⟩
      have s1 := same_new (o := .tup [.ty "list", .ty "tuple"]) ntp
      have q1 := q _ s1
      have tx := ty_of_dp (dp_same s1 hx0)
      have ty := ty_of_dp (dp_same s1 hy0)
      exact iteF ⟨_, rfl, _, _, _, _, _, rfl, .ty _, ty, kit_d (T := "str") (by decide) _, _, rfl, iteT ⟨_, rfl, _, _, _, _, _, rfl, .ty _, tx, kit_d (T := "str") (by decide) _, _, rfl, iteT ⟨_, rfl, _, rfl, rfl, qY rfl q1⟩⟩⟩
    | int i =>
      cases hy
      refine ⟨_, rfl, rfl, _, rfl, iteF ⟨_, rfl, _, _, _, _, _, rfl, .ty _, ty0, kit_d (T := "bool") (by decide) _, _, rfl, iteF ⟨_, rfl, (by show 2 ≤ sizeLine; decide), fun tp ntp => ⟨_, tp, _, _, _, _, rfl, upd_same, .cons (.ty _) (.cons (.ty _) .nil), ty_of_dp (dp_same (same_new ntp) hy0), kitLT _, _, rfl, ?_⟩⟩⟩⟩
      have s1 := same_new (o := .tup [.ty "list", .ty "tuple"]) ntp
      have q1 := q _ s1
      have tx := ty_of_dp (dp_same s1 hx0)
      have ty := ty_of_dp (dp_same s1 hy0)
      exact iteF ⟨_, rfl, _, _, _, _, _, rfl, .ty _, ty, kit_d (T := "str") (by decide) _, _, rfl, iteF ⟨_, rfl, _, _, _, _, _, rfl, .ty _, tx, kit_d (T := "int") (by decide) _, _, rfl, iteT ⟨_, rfl, _, _, _, _, _, rfl, .ty _, tx, kit_d (T := "bool") (by decide) _, _, rfl, _, rfl, iteT ⟨_, rfl, _, rfl, rfl, qY rfl q1⟩⟩⟩⟩
    | @lst a xs ds hS hA =>
      obtain ⟨m, rfl⟩ : ∃ m, n = m + 1 := ⟨n - 1, by simp only [PyData.depth] at hd; omega⟩
      cases hy with
      | @lst a2 ys _ hS2 hA2 =>
        refine ⟨_, rfl, rfl, _, rfl, iteF ⟨_, rfl, _, _, _, _, _, rfl, .ty _, ty0, kit_d (T := "bool") (by decide) _, _, rfl, iteF ⟨_, rfl, (by show 2 ≤ sizeLine; decide), fun tp ntp => ⟨_, tp, _, _, _, _, rfl, upd_same, .cons (.ty _) (.cons (.ty _) .nil), ty_of_dp (dp_same (same_new ntp) hy0), kitLT _, _, rfl, ?_⟩⟩⟩⟩
        have s1 := same_new (o := .tup [.ty "list", .ty "tuple"]) ntp
        have q1 := q _ s1
        have tx := ty_of_dp (dp_same s1 hx0)
        have ty := ty_of_dp (dp_same s1 hy0)
        have hlen : xs.length = ys.length := (dpAll_len hA).trans (dpAll_len hA2).symm
        simp only [thin, Bool.and_eq_true, decide_eq_true_eq] at ht
        obtain ⟨ht1, ht2⟩ := ht
        have hxl := dpAll_len hA
        refine iteT ⟨_, rfl, _, _, _, _, _, rfl, .ty _, tx, kit_d (T := "list") (by decide) _, _, rfl, _, _, _, _, _, rfl, .ty _, ty, kit_d (T := "list") (by decide) _, rfl, _, rfl, iteF ⟨_, rfl, _, _, _, _, _, rfl, .ty _, tx, kit_d (T := "tuple") (by decide) _, _, rfl, _, _, _, _, _, rfl, .ty _, ty, kit_d (T := "tuple") (by decide) _, rfl, _, rfl, iteF ?_⟩⟩
        refine ⟨_, rfl, a, _, rfl, .inl (s1.seq hS), _, rfl, a2, _, rfl, .inl (s1.seq hS2), rfl, _, rfl, iteY (by rw [hlen]) ?_⟩
        refine ⟨_, rfl, _, rfl, a, a2, _, _, rfl, .inl ⟨s1.seq hS, s1.seq hS2, fun D hD => lc_gen (n := xs.length) (fun i H' => Same (upd H tp (.tup [.ty "list", .ty "tuple"])) H' ∧ H' D = some (.lst ((List.replicate i true).map V.bl))) ⟨same_new hD, upd_same⟩ (fun i H' h => canL hlen ((s1.trans h.1).seq hS) ((s1.trans h.1).seq hS2)) (fun i H' v H'' hi h hyl => ?_) (fun H' h => ?_)⟩⟩
        · obtain ⟨T, x', y', rfl, hT, rfl, f1, f2⟩ := hyl
          obtain ⟨h1, h2⟩ := h
          have g1 := f1 xs ((s1.trans h1).seq hS)
          have g2 := f2 ys ((s1.trans h1).seq hS2)
          obtain ⟨d1, e1, p1⟩ := dpAll_get hA g1
          obtain ⟨d2, e2, p2⟩ := dpAll_get hA2 g2
          cases (Option.some.inj (e1.symm.trans e2))
          have sT := same_new (o := .tup [x', y']) hT
          have dd := depth_at e1
          simp only [PyData.depth] at hd
          refine ⟨T, _, rfl, SqT.of upd_same, rfl, _, _, rfl, _, _, rfl, rfl, rfl, _, rfl, _, rfl, x', y', d1, rfl, dp_same ((s1.trans h1).trans sT) p1, dp_same ((s1.trans h1).trans sT) p2, by omega, thin_at ht2 e1, fun H3 s3 => ?_⟩
          refine ⟨_, s3 _ _ (sT _ _ h2), ?_, ?_, ?_⟩
          · rw [List.length_map, List.length_replicate]
            exact small1000 (by omega)
          · exact fun c o e => by
              rw [upd_ne (ne_of_none e hD)]
              exact s3 _ _ (sT _ _ (h1 _ _ e))
          · rw [upd_same, rep_snoc]
        · obtain ⟨h1, h2⟩ := h
          refine ⟨D, _, rfl, SqL.of h2, ?_⟩
          rw [all_true]
          exact q _ (s1.trans h1)
    | @tup a xs ds hS hA =>
      obtain ⟨m, rfl⟩ : ∃ m, n = m + 1 := ⟨n - 1, by simp only [PyData.depth] at hd; omega⟩
      cases hy with
      | @tup a2 ys _ hS2 hA2 =>
        refine ⟨_, rfl, rfl, _, rfl, iteF ⟨_, rfl, _, _, _, _, _, rfl, .ty _, ty0, kit_d (T := "bool") (by decide) _, _, rfl, iteF ⟨_, rfl, (by show 2 ≤ sizeLine; decide), fun tp ntp => ⟨_, tp, _, _, _, _, rfl, upd_same, .cons (.ty _) (.cons (.ty _) .nil), ty_of_dp (dp_same (same_new ntp) hy0), kitLT _, _, rfl, ?_⟩⟩⟩⟩
        have s1 := same_new (o := .tup [.ty "list", .ty "tuple"]) ntp
        have q1 := q _ s1
        have tx := ty_of_dp (dp_same s1 hx0)
        have ty := ty_of_dp (dp_same s1 hy0)
        have hlen : xs.length = ys.length := (dpAll_len hA).trans (dpAll_len hA2).symm
        simp only [thin, Bool.and_eq_true, decide_eq_true_eq] at ht
        obtain ⟨ht1, ht2⟩ := ht
        have hxl := dpAll_len hA
        refine iteT ⟨_, rfl, _, _, _, _, _, rfl, .ty _, tx, kit_d (T := "list") (by decide) _, _, rfl, _, _, _, _, _, rfl, .ty _, ty, kit_d (T := "list") (by decide) _, rfl, _, rfl, iteF ⟨_, rfl, _, _, _, _, _, rfl, .ty _, tx, kit_d (T := "tuple") (by decide) _, _, rfl, _, _, _, _, _, rfl, .ty _, ty, kit_d (T := "tuple") (by decide) _, rfl, _, rfl, iteF ?_⟩⟩
        refine ⟨_, rfl, a, _, rfl, .inr (seqT_same s1 hS), _, rfl, a2, _, rfl, .inr (seqT_same s1 hS2), rfl, _, rfl, iteY (by rw [hlen]) ?_⟩
        refine ⟨_, rfl, _, rfl, a, a2, _, _, rfl, .inr ⟨seqT_same s1 hS, seqT_same s1 hS2, fun D hD => lc_gen (n := xs.length) (fun i H' => Same (upd H tp (.tup [.ty "list", .ty "tuple"])) H' ∧ H' D = some (.lst ((List.replicate i true).map V.bl))) ⟨same_new hD, upd_same⟩ (fun i H' h => canT hlen (seqT_same (s1.trans h.1) hS) (seqT_same (s1.trans h.1) hS2)) (fun i H' v H'' hi h hyl => ?_) (fun H' h => ?_)⟩⟩
        · obtain ⟨T, x', y', rfl, hT, rfl, f1, f2⟩ := hyl
          obtain ⟨h1, h2⟩ := h
          have g1 := f1 xs (seqT_same (s1.trans h1) hS)
          have g2 := f2 ys (seqT_same (s1.trans h1) hS2)
          obtain ⟨d1, e1, p1⟩ := dpAll_get hA g1
          obtain ⟨d2, e2, p2⟩ := dpAll_get hA2 g2
          cases (Option.some.inj (e1.symm.trans e2))
          have sT := same_new (o := .tup [x', y']) hT
          have dd := depth_at e1
          simp only [PyData.depth] at hd
          refine ⟨T, _, rfl, SqT.of upd_same, rfl, _, _, rfl, _, _, rfl, rfl, rfl, _, rfl, _, rfl, x', y', d1, rfl, dp_same ((s1.trans h1).trans sT) p1, dp_same ((s1.trans h1).trans sT) p2, by omega, thin_at ht2 e1, fun H3 s3 => ?_⟩
          refine ⟨_, s3 _ _ (sT _ _ h2), ?_, ?_, ?_⟩
          · rw [List.length_map, List.length_replicate]
            exact small1000 (by omega)
          · exact fun c o e => by
              rw [upd_ne (ne_of_none e hD)]
              exact s3 _ _ (sT _ _ (h1 _ _ e))
          · rw [upd_same, rep_snoc]
        · obtain ⟨h1, h2⟩ := h
          refine ⟨D, _, rfl, SqL.of h2, ?_⟩
          rw [all_true]
          exact q _ (s1.trans h1)
theorem ok__law_same {f : Addr} {fd : FuncData} (F : Fun K "_law_same" "_law_same" s__law_same f fd) (g : mg "_law_same" = some (.ref f)) (bd : Binds K fd ["_law_found", "_law_due"] []) (m_isinstance : mg "isinstance" = none) (m_bool : mg "bool" = none) (m_tuple : mg "tuple" = none) (m_list : mg "list" = none) (m_all : mg "all" = none) (m_zip : mg "zip" = none) (m_len : mg "len" = none) (m_str : mg "str" = none) (m_int : mg "int" = none) : CF P w K mg base (6) "_law_same" ["_law_found", "_law_due"] (sp__law_same K) := by
  have all : ∀ n, CF P w K mg base (1 + n) "_law_same" ["_law_found", "_law_due"] (spr__law_same K n) := fun n => by
    induction n with
    | zero => exact ⟨f, fd, F.ok (k := 0) sc__law_same (fun vs H Q E h => h.elim) (fun cdv A outer s H vs Q E hr h => h.elim), g, F.kp, bd⟩
    | succ n ih => exact st__law_same n F g bd m_isinstance m_bool m_tuple m_list m_all m_zip m_len m_str m_int ih
  exact all 5
/-! ### a deed's own text read back -/
theorem blank_free {s : Str} (h : nameS s = true) : 32 ∉ TL.tl s ∧ Asc s := by
  rw [name_iff, Bool.and_eq_true, List.all_eq_true] at h
  exact ⟨fun z => by have := of_decide_eq_true (h.2 32 z); omega, fun c hc => by have := of_decide_eq_true (h.2 c hc); omega⟩
theorem pt_char {n : Nat} : ∀ c ∈ TL.tl (ptS n), 47 ≤ c ∧ c ≤ 57 := fun c hc => by
  have hc : c ∈ ptL n := hc
  unfold ptL at hc
  rcases List.mem_append.mp hc with h | h
  · have := TL.numL_digits (n / 60) c h
    omega
  · simp only [List.mem_cons, List.not_mem_nil, or_false] at h
    omega
theorem arg_free {s : Str} {x : Arg} (h : fits s x) (ht : s ≠ Str.ofString "text") : 32 ∉ TL.tl x.t := by
  cases x with
  | nm y => exact (blank_free h.1).1
  | tx f => exact absurd h.2 ht
  | pn n => exact fun z => by have := pt_char 32 z; omega
theorem arg_asc {s : Str} {x : Arg} (h : fits s x) : Asc x.t := by
  cases x with
  | nm y => exact (blank_free h.1).2
  | tx f => exact asc_txt h.1
  | pn n => exact fun c z => by have := pt_char c z; omega
theorem fit_sum {s : Str} {x : Arg} (h : fits s x) : x.t.length ≤ 30 ∨ s = Str.ofString "text" := by
  cases x with
  | nm y => exact .inl (Nat.le_trans (name_len h.1).1 (by decide))
  | tx f => exact .inr h.2
  | pn n => exact .inl (pcpt_len (n := n.toNat) (by have := h.1; have := h.2; omega))
theorem tab_last : ∀ p ∈ tab_FORMS, ∀ s ∈ p.2.dropLast, s ≠ Str.ofString "text" := by decide +kernel
theorem tab_free : ∀ p ∈ tab_FORMS, 32 ∉ TL.tl p.1 := by decide +kernel
theorem get_last_drop {α : Type} (l : List α) (i : Nat) (h : i + 1 < l.length) : l[i]? = l.dropLast[i]? := by
  rw [List.dropLast_eq_take, List.getElem?_take]
  rw [if_pos (by omega)]
theorem deed_split {w : Str} {xs : List Arg} {ss : List Str} (dd : Deed w xs ss) : ∃ (x : Arg) (r : List Arg), xs = r ++ [x] ∧ (∀ y ∈ r, 32 ∉ TL.tl y.t) ∧ r.length + 1 = ss.length := by
  have mm := look_mem dd.look
  have l1 : 1 ≤ ss.length := (shape_ss _ mm).2
  have hl := dd.len
  have ne : xs ≠ [] := fun e => by rw [e] at hl; exact absurd hl (by rw [List.length_nil]; omega)
  refine ⟨xs.getLast ne, xs.dropLast, (List.dropLast_concat_getLast ne).symm, fun y hy => ?_, by rw [List.length_dropLast]; omega⟩
  obtain ⟨i, hi, e⟩ := List.mem_iff_getElem.mp hy
  have hi2 : i + 1 < xs.length := by rw [List.length_dropLast] at hi; omega
  have e1 : xs[i]? = some y := by rw [get_last_drop _ _ hi2, List.getElem?_eq_getElem hi, e]
  have e2 : ss[i]? = some (ss[i]'(by omega)) := List.getElem?_eq_getElem (by omega)
  refine arg_free (dd.fit i y _ e1 e2) (tab_last _ mm _ ?_)
  have e3 := get_last_drop ss i (by omega)
  rw [e2] at e3
  exact List.mem_of_getElem? e3.symm
theorem thing_own {s : Str} {x : Arg} (h : fits s x) : thingD x.t s = x.d := by
  unfold thingD
  cases x with
  | nm y =>
    have : isPence s = false := by
      have h2 := h.2
      unfold namedS at h2
      simp only [List.mem_cons, List.not_mem_nil, or_false] at h2
      rcases h2 with rfl | rfl | rfl | rfl <;> decide +kernel
    rw [this]
    rfl
  | tx f =>
    rw [h.2, show isPence (Str.ofString "text") = false from by decide +kernel]
    rfl
  | pn n =>
    obtain ⟨n0, c⟩ := h
    obtain ⟨k, rfl⟩ := Int.eq_ofNat_of_zero_le (show 0 ≤ n by omega)
    have : isPence s = true := by
      rcases c with ⟨rfl, _⟩ | ⟨rfl, _⟩ <;> decide +kernel
    rw [if_pos this]
    exact (pence_some (n := k) (by omega) rfl).2
theorem things_own : ∀ {ss : List Str} {xs : List Arg}, xs.length = ss.length → (∀ (i : Nat) (x : Arg) (s : Str), xs[i]? = some x → ss[i]? = some s → fits s x) → List.zipWith thingD (xs.map Arg.t) ss = xs.map Arg.d
  | [], [], _, _ => rfl
  | s :: ss, x :: xs, hl, h => by
    show thingD x.t s :: List.zipWith thingD (xs.map Arg.t) ss = x.d :: xs.map Arg.d
    rw [thing_own (h 0 x s rfl rfl), things_own (by simpa using hl) fun i y z h1 h2 => h (i + 1) y z h1 h2]
theorem sort_own {s : Str} {x : Arg} (h : fits s x) : sortD s x.d = true := by
  unfold sortD
  cases x with
  | nm y =>
    have h2 := h.2
    have : s ≠ Str.ofString "text" ∧ s ≠ Str.ofString "price" ∧ s ≠ Str.ofString "debt" := by
      unfold namedS at h2
      simp only [List.mem_cons, List.not_mem_nil, or_false] at h2
      rcases h2 with rfl | rfl | rfl | rfl <;> decide +kernel
    rw [if_neg this.1, if_neg this.2.1, if_neg this.2.2]
    exact h.1
  | tx f =>
    rw [if_pos h.2]
    exact ruleB_t ⟨f, h.1, (split_cls h.1).symm⟩
  | pn n =>
    obtain ⟨n0, c⟩ := h
    rcases c with ⟨rfl, n1⟩ | ⟨rfl, n1⟩
    · rw [if_neg (by decide +kernel), if_pos rfl]
      show (decide (1 ≤ n) && decide (n ≤ 1000000)) = true
      rw [decide_eq_true n0, decide_eq_true n1]
      rfl
    · rw [if_neg (by decide +kernel), if_neg (by decide +kernel), if_pos rfl]
      show (decide (1 ≤ n) && decide (n ≤ 100000000)) = true
      rw [decide_eq_true n0, decide_eq_true n1]
      rfl
theorem sorts_own : ∀ {ss : List Str} {xs : List Arg}, xs.length = ss.length → (∀ (i : Nat) (x : Arg) (s : Str), xs[i]? = some x → ss[i]? = some s → fits s x) → sortsB ss (xs.map Arg.d) = true ∧ housesL ss (xs.map Arg.d) = housesOf (namesOf ss xs)
  | [], [], _, _ => ⟨rfl, rfl⟩
  | s :: ss, x :: xs, hl, h => by
    obtain ⟨h1, h2⟩ := sorts_own (ss := ss) (xs := xs) (by simpa using hl) fun i y z h1 h2 => h (i + 1) y z h1 h2
    have hx := h 0 x s rfl rfl
    refine ⟨?_, ?_⟩
    · show (sortD s x.d && sortsB ss (xs.map Arg.d)) = true
      rw [sort_own hx, h1]
      rfl
    · cases x with
      | nm n =>
        show (if s = Str.ofString "house" then n :: housesL ss (xs.map Arg.d) else housesL ss (xs.map Arg.d)) = housesOf ((s, n) :: namesOf ss xs)
        rw [h2]
        by_cases c : s = Str.ofString "house"
        · rw [if_pos c, c]
          exact house_cons.symm
        · rw [if_neg c]
          exact (house_skip c).symm
      | tx f =>
        show (if s = Str.ofString "house" then txtT f :: housesL ss (xs.map Arg.d) else housesL ss (xs.map Arg.d)) = housesOf (namesOf ss xs)
        rw [if_neg (by rw [hx.2]; decide +kernel)]
        exact h2
      | pn n => exact h2
theorem deedB_own {w : Str} {xs : List Arg} {ss : List Str} (dd : Deed w xs ss) : deedB (deedD w xs) = true := by
  obtain ⟨h1, h2⟩ := sorts_own dd.len dd.fit
  show (match tab_FORMS.lookup w with | some ss => decide ((xs.map Arg.d).length = ss.length) && sortsB ss (xs.map Arg.d) && decide (housesL ss (xs.map Arg.d)).Nodup | none => false) = true
  rw [dd.look]
  show (decide ((xs.map Arg.d).length = ss.length) && sortsB ss (xs.map Arg.d) && decide (housesL ss (xs.map Arg.d)).Nodup) = true
  rw [h1, h2, decide_eq_true dd.nd, decide_eq_true (by rw [List.length_map, dd.len])]
  rfl
theorem deed_cap {w : Str} {xs : List Arg} {ss : List Str} (dd : Deed w xs ss) : cap " " ss.length (Txt.split (deedT w xs) " ") = w :: xs.map Arg.t := by
  obtain ⟨x, r, rfl, hr, hl⟩ := deed_split dd
  have := cap_own (init := w :: r.map Arg.t) (last := x.t) (List.forall_mem_cons.mpr ⟨tab_free _ (look_mem dd.look), fun a ha => by
    obtain ⟨y, hy, rfl⟩ := List.mem_map.mp ha
    exact hr y hy⟩)
  rw [List.length_cons, List.length_map, hl] at this
  unfold deedT
  rw [TL.join_eq, List.map_append]
  exact this
theorem deedOf_own {w : Str} {xs : List Arg} {ss : List Str} (dd : Deed w xs ss) : deedOf (deedT w xs) = some (deedD w xs) := by
  have hc := deed_cap dd
  have l1 : 1 ≤ ss.length := (shape_ss _ (look_mem dd.look)).2
  obtain ⟨a, b, hsp⟩ := split_ne (deedT w xs)
  have ha : a = w := by
    rw [hsp] at hc
    obtain ⟨k, hk⟩ : ∃ k, ss.length = k + 1 := ⟨ss.length - 1, by omega⟩
    rw [hk] at hc
    cases b with
    | cons b1 b2 => exact (List.cons.inj hc).1
    | nil => exact (List.cons.inj hc).1
  have hd : (Txt.split (deedT w xs) " ").headD "" = w := by rw [hsp]; exact ha
  have hr : readW (deedT w xs) w ss = deedD w xs := by
    unfold readW deedD piecesOf
    rw [hc]
    show PyData.tuple (.str w :: List.zipWith thingD (xs.map Arg.t) ss) = _
    rw [things_own dd.len dd.fit]
  rw [deedOf_some (ss := ss) (by rw [hd]; exact dd.look), hd, hr, if_pos (deedB_own dd)]
theorem deed_small {w : Str} {xs : List Arg} {ss : List Str} (dd : Deed w xs ss) : Asc (deedT w xs) ∧ (deedT w xs).length ≤ 500 := by
  have mm := look_mem dd.look
  have l3 : ss.length ≤ 3 := (shape_ss _ mm).1
  have hl := dd.len
  refine ⟨asc_join (asc_dec _ (by decide +kernel)) fun s hs => ?_, ?_⟩
  · rcases List.mem_cons.mp hs with rfl | hs
    · exact fun c hc => of_decide_eq_true (List.all_eq_true.mp (word_sml _ mm).1 c hc)
    · obtain ⟨x, hx, rfl⟩ := List.mem_map.mp hs
      obtain ⟨s, hf⟩ := arg_fit dd x hx
      exact arg_asc hf
  · have jw := join_wt " " (w :: xs.map Arg.t)
    have w6 := word_le dd.look
    have hb : ((xs.map Arg.t).map (·.length)).sum ≤ 400 := by
      by_cases ht : Str.ofString "text" ∈ ss
      · have l2 : ss.length ≤ 2 := (by decide +kernel : ∀ p ∈ tab_FORMS, Str.ofString "text" ∈ p.2 → p.2.length ≤ 2) _ mm ht
        have := sum_le (B := 200) (ts := xs.map Arg.t) fun s hs => by
          obtain ⟨x, hx, rfl⟩ := List.mem_map.mp hs
          obtain ⟨s, hf⟩ := arg_fit dd x hx
          exact fit_len hf
        rw [List.length_map] at this
        omega
      · have := sum_le (B := 30) (ts := xs.map Arg.t) fun s hs => by
          obtain ⟨x, hx, rfl⟩ := List.mem_map.mp hs
          obtain ⟨i, hi, e⟩ := List.mem_iff_getElem.mp hx
          have hf := dd.fit i x _ (by rw [List.getElem?_eq_getElem hi, e]) (List.getElem?_eq_getElem (by omega))
          rcases fit_sum hf with z | z
          · exact z
          · exact absurd (by rw [← z]; exact List.getElem_mem _) ht
        rw [List.length_map] at this
        omega
    unfold deedT
    have e1 : (Str.ofString " ").length = 1 := rfl
    rw [List.map_cons, List.sum_cons, List.length_cons, List.length_map, e1] at jw
    omega
def txD : PyData → Str
  | .str s => s
  | .int n => ptS n.toNat
  | _ => ""
theorem tx_d (x : Arg) : x.t = txD x.d := by cases x <;> rfl
theorem deed_eq {w w2 : Str} {xs xs2 : List Arg} {ss ss2 : List Str} (dd : Deed w xs ss) (dd2 : Deed w2 xs2 ss2) : deedD w xs = deedD w2 xs2 ↔ deedT w xs = deedT w2 xs2 := by
  refine ⟨fun h => ?_, fun h => ?_⟩
  · have h := List.cons.inj (PyData.tuple.inj h)
    have e : ∀ xs : List Arg, xs.map Arg.t = (xs.map Arg.d).map txD := fun xs => by
      rw [List.map_map]
      exact List.map_congr_left fun x _ => tx_d x
    unfold deedT
    rw [e xs, e xs2, PyData.str.inj h.1, h.2]
  · have h1 := deedOf_own dd
    rw [h, deedOf_own dd2] at h1
    exact (Option.some.inj h1).symm
theorem eqv_arg (x y : Arg) : PyData.eqv x.d y.d = true ↔ x.d = y.d := by
  cases x <;> cases y <;> simp [Arg.d, PyData.eqv]
theorem eqv_args : ∀ xs ys : List Arg, PyData.eqvAll (xs.map Arg.d) (ys.map Arg.d) = true ↔ xs.map Arg.d = ys.map Arg.d
  | [], [] => by simp [PyData.eqvAll]
  | [], _ :: _ => by simp [PyData.eqvAll]
  | _ :: _, [] => by simp [PyData.eqvAll]
  | x :: xs, y :: ys => by
    simp only [List.map_cons, PyData.eqvAll, Bool.and_eq_true, eqv_arg, eqv_args xs ys, List.cons.injEq]
theorem eqv_deed {w w2 : Str} {xs xs2 : List Arg} {ss ss2 : List Str} (dd : Deed w xs ss) (dd2 : Deed w2 xs2 ss2) : PyData.eqv (deedD w xs) (deedD w2 xs2) = decide (deedT w xs = deedT w2 xs2) := by
  have h := eqv_args (.nm w :: xs) (.nm w2 :: xs2)
  have h : PyData.eqv (deedD w xs) (deedD w2 xs2) = true ↔ PyData.str w :: xs.map Arg.d = PyData.str w2 :: xs2.map Arg.d := by
    unfold deedD
    simp only [PyData.eqv]
    exact h
  by_cases c : deedT w xs = deedT w2 xs2
  · rw [decide_eq_true c]
    exact h.mpr (PyData.tuple.inj ((deed_eq dd dd2).mpr c))
  · rw [decide_eq_false c]
    cases e : PyData.eqv (deedD w xs) (deedD w2 xs2) with
    | false => rfl
    | true => exact absurd ((deed_eq dd dd2).mp (congrArg PyData.tuple (h.mp e))) c
theorem join_snoc (y s : Str) : ∀ (a : Str) (r : List Str), Txt.join y (a :: (r ++ [s])) = Txt.join y (a :: r) ++ y ++ s
  | a, [] => by
    rw [TL.join_eq, TL.join_eq]
    rfl
  | a, b :: r => by
    have ih := join_snoc y s b r
    rw [TL.join_eq, TL.join_eq] at ih ⊢
    show a ++ y ++ Str.join y (b :: (r ++ [s])) = a ++ y ++ Str.join y (b :: r) ++ y ++ s
    rw [ih]
    simp only [app_assoc]
theorem cut_two {k : Nat} (h : k < 60) : cutS (Str.ofString (toString (100 + (k : Int)))) (some 1) none = ⟨#[48 + k / 10, 48 + k % 10]⟩ := by
  have key : ∀ k : Fin 60, cutS (Str.ofString (toString (100 + ((k.1 : Nat) : Int)))) (some 1) none = ⟨#[48 + k.1 / 10, 48 + k.1 % 10]⟩ := by decide +kernel
  exact key ⟨k, h⟩
theorem pt_plus (n : Nat) : Str.ofString (toString ((n : Int) / 60)) ++ Str.ofString "/" ++ cutS (Str.ofString (toString (100 + (n : Int) % 60))) (some 1) none = ptS n := by
  have e1 : ((n : Int) / 60) = ((n / 60 : Nat) : Int) := by omega
  have e2 : ((n : Int) % 60) = ((n % 60 : Nat) : Int) := by omega
  rw [e1, e2, cut_two (by omega)]
  refine TL.ext_tl ?_
  rw [TL.tl_append, TL.tl_append, TL.tl_num]
  show TL.numL (n / 60) ++ [47] ++ [48 + n % 60 / 10, 48 + n % 60 % 10] = ptL n
  unfold ptL
  simp
/-! ### _law_written -/
abbrev s__law_written : Stmt := topS 54
abbrev N__law_written : List Str := ["_law_deed_here", "_law_found", "_law_thing", "_law_word"]
theorem sc__law_written : FnScope N__law_written ["_law_deed_here"] (defScope s__law_written) := ⟨rfl, rfl, rfl, by decide +kernel, rfl, by decide +kernel, by decide +kernel⟩
def sp__law_written (K : PySem.W.Frag) : Sp := fun vs H Q _ => ∃ (t : Addr) (w : Str) (xs : List Arg) (ss : List Str), vs = [.ref t] ∧ SqT K H t (.str w :: xs.map Arg.v) ∧ Deed w xs ss ∧ ∀ H', Same H H' → Q (.str (deedT w xs)) H'
theorem ok__law_written {f : Addr} {fd : FuncData} (F : Fun K "_law_written" "_law_written" s__law_written f fd) (g : mg "_law_written" = some (.ref f)) (bd : Binds K fd ["_law_deed_here"] []) (m_isinstance : mg "isinstance" = none) (m_str : mg "str" = none) : CF P w K mg base 1 "_law_written" ["_law_deed_here"] (sp__law_written K) := by
  refine ⟨f, fd, F.ok sc__law_written (fun vs H Q E h => ?_) (fun cdv A outer s H vs Q E hr h => ?_), g, F.kp, bd⟩
  · first | (obtain ⟨_, rfl, _⟩ := h; rfl) | (obtain ⟨_, _, rfl, _⟩ := h; rfl) | (obtain ⟨_, _, _, rfl, _⟩ := h; rfl) | (obtain ⟨_, _, _, _, rfl, _⟩ := h; rfl) | (obtain ⟨_, _, _, _, _, rfl, _⟩ := h; rfl) | (obtain ⟨_, _, _, _, _, _, rfl, _⟩ := h; rfl) | (obtain ⟨_, _, _, _, _, _, _, rfl, _⟩ := h; rfl) | (obtain ⟨_, _, _, _, _, _, _, _, rfl, _⟩ := h; rfl) | (obtain ⟨_, _, _, _, _, _, _, _, _, rfl, _⟩ := h; rfl) | (obtain ⟨_, _, _, _, _, _, _, _, _, _, rfl, _⟩ := h; rfl) | (obtain ⟨_, _, _, _, _, _, _, _, _, _, _, rfl, _⟩ := h; rfl) | (obtain ⟨_, _, _, _, _, _, _, _, _, _, _, _, rfl, _⟩ := h; rfl) | (obtain ⟨_, _, _, _, _, _, _, _, _, _, _, _, _, rfl, _⟩ := h; rfl) | (obtain ⟨_, _, _, _, _, _, _, _, _, _, _, _, _, _, rfl, _⟩ := h; rfl) | (obtain ⟨_, _, _, _, _, _, _, _, _, _, _, _, _, _, _, rfl, _⟩ := h; rfl)
  · have hu64 := hr.units
    obtain ⟨t, w9, xs, ss, rfl, hT, dd, q⟩ := h
    refine ⟨_, (pss_cons (ps_set (i := 1) sc__law_written.nd rfl (.inl rfl) (pe_ix (kk_ixt K) (pv 0) pe_int (fun _ _ => rfl)))
      (pss_cons (ps_for PassesOwn.never rfl (pi_tup (pe_slice (kk_slt K) (pv 0) (po_some pe_int) po_none)) (pg_name (i := 2) sc__law_written.nd rfl (.inl rfl))
         (pss_cons (ps_set (i := 3) sc__law_written.nd rfl (.inl rfl) (pe_ifExp (pt_val (pe_callB (kk_isi K) (by rfl) m_isinstance (by decide +kernel) (pa_cons (pv 2) (pa_cons (pe_bltn (v := .ty "str") (by rfl) m_str (by decide +kernel) rfl) pa_nil)))) (pv 2) (pe_op op_add_str (pe_op op_add_str (pe_callTy call_str_int (by rfl) m_str (by decide +kernel) (pa_cons (pe_op op_fdiv (pv 2) pe_int) pa_nil)) pe_str) (pe_slice sl_str (pe_callTy call_str_int (by rfl) m_str (by decide +kernel) (pa_cons (pe_op op_add pe_int (pe_op op_mod (pv 2) pe_int)) pa_nil)) (po_some pe_int) po_none))))
          (pss_one (ps_set (i := 1) sc__law_written.nd rfl (.inl rfl) (pe_op op_add_str (pe_op op_add_str (pv 1) pe_str) (pv 3))))))
      (pss_one (ps_ret (pv 1))))), ?_⟩
    have l3 : ss.length ≤ 3 := (shape_ss _ (look_mem dd.look)).1
    have hlen := dd.len
    have w6 := word_le dd.look
    have e1 : (Str.ofString " ").length = 1 := rfl
    have jl : ∀ j, (Txt.join " " (w9 :: (xs.map Arg.t).take j)).length ≤ 620 := fun j => by
      have jw := join_wt " " (w9 :: (xs.map Arg.t).take j)
      have sl := sum_le (B := 200) (ts := (xs.map Arg.t).take j) fun s hs => by
        obtain ⟨x, hx, rfl⟩ := List.mem_map.mp (List.mem_of_mem_take hs)
        obtain ⟨s, hf⟩ := arg_fit dd x hx
        exact fit_len hf
      rw [List.length_take, List.length_map] at sl
      rw [List.map_cons, List.sum_cons, List.length_cons, List.length_take, List.length_map, e1] at jw
      have : min j xs.length ≤ 3 := by omega
      generalize min j xs.length = m at *
      have : 200 * m ≤ 600 := by omega
      omega
    refine ⟨_, rfl, t, _, _, _, rfl, rfl, hT, at0, _, rfl, _, rfl, t, _, rfl, hT, ?_, fun u nu => ?_⟩
    · rintro ⟨z, _⟩
      have e1 : HT.sIx (V.str w9 :: xs.map Arg.v).length 0 (some 1) = 1 := by
        show min 1 ((xs.map Arg.v).length + 1) = 1
        omega
      rw [e1] at z
      cases z
    rw [cut_one]
    have su := same_new (o := .tup (xs.map Arg.v)) nu
    have hu := upd_same (H := H) (a := u) (o := .tup (xs.map Arg.v))
    generalize upd H u (.tup (xs.map Arg.v)) = H1 at *
    refine ⟨u, rfl, ⟨_, SqT.of hu⟩, for_tup (K := K) (a := u) (xs := xs.map Arg.v) (fun j σ G => ∃ s2 s3, σ = [some (.ref t), some (.str (Txt.join " " (w9 :: (xs.map Arg.t).take j))), s2, s3] ∧ Same H1 G) ⟨none, none, by rw [List.take_zero, show Txt.join (Str.ofString " ") [w9] = w9 from by rw [TL.join_eq]; rfl]; rfl, Same.refl _⟩ (fun j σ G _ h => ?_) (fun j x σ G hx h => ?_) (fun σ G h => ?_)⟩
    · obtain ⟨s2, s3, rfl, sm⟩ := h
      exact SqT.of (sm _ _ hu)
    · obtain ⟨s2, s3, rfl, sm⟩ := h
      rw [List.getElem?_map] at hx
      obtain ⟨y, hy, rfl⟩ := Option.map_eq_some_iff.mp hx
      have step : Txt.join " " (w9 :: (xs.map Arg.t).take (j + 1)) = Txt.join " " (w9 :: (xs.map Arg.t).take j) ++ Str.ofString " " ++ y.t := by
        rw [List.take_add_one, List.getElem?_map, hy]
        exact join_snoc _ _ _ _
      obtain ⟨s, hf⟩ := arg_fit dd y (List.mem_of_getElem? hy)
      have l2 := fit_len hf
      have lj := jl j
      have z1 : (Txt.join (Str.ofString " ") (w9 :: (xs.map Arg.t).take j)).length + (Str.ofString " ").length ≤ sizeLine := size_small (by rw [e1]; omega)
      have z2 : ∀ {m : Nat}, m ≤ 200 → (Txt.join (Str.ofString " ") (w9 :: (xs.map Arg.t).take j) ++ Str.ofString " ").length + m ≤ sizeLine := fun h => size_small (by rw [len_app, e1]; omega)
      cases y with
      | nm z => exact ⟨_, rfl, _, _, _, _, _, rfl, .ty _, ty_of_dp (K := K) (.str z), kit_d (T := "str") (by decide) _, _, rfl, iteT ⟨_, rfl, _, rfl, _, _, rfl, rfl, z1, _, rfl, _, _, rfl, rfl, z2 l2, _, _, by rw [step]; rfl, sm⟩⟩
      | tx f => exact ⟨_, rfl, _, _, _, _, _, rfl, .ty _, ty_of_dp (K := K) (.str (txtT f)), kit_d (T := "str") (by decide) _, _, rfl, iteT ⟨_, rfl, _, rfl, _, _, rfl, rfl, z1, _, rfl, _, _, rfl, rfl, z2 l2, _, _, by rw [step]; rfl, sm⟩⟩
      | pn n =>
        obtain ⟨n0, n1⟩ := hf
        obtain ⟨k, rfl⟩ := Int.eq_ofNat_of_zero_le (show 0 ≤ n by omega)
        have k9 : k ≤ 1000000000 := by omega
        have a1 : (Str.ofString (toString ((k : Int) / 60))).length ≤ 20 := by
          have e1 : ((k : Int) / 60) = ((k / 60 : Nat) : Int) := by omega
          rw [e1, TL.len_tl, TL.tl_num]
          have := TL.numL_len (n := k / 60) (k := 10) (by decide) (by omega)
          omega
        have a2 : (Str.ofString (toString (100 + (k : Int) % 60))).length ≤ 20 := by
          have e1 : (100 + (k : Int) % 60) = ((100 + k % 60 : Nat) : Int) := by omega
          rw [e1, TL.len_tl, TL.tl_num]
          have := TL.numL_len (n := 100 + k % 60) (k := 10) (by decide) (by omega)
          omega
        have a3 := cutS_le (Str.ofString (toString (100 + (k : Int) % 60))) (some 1) none
        have a4 : (Str.ofString "/").length = 1 := rfl
        refine ⟨_, rfl, _, _, _, _, _, rfl, .ty _, ty_of_dp (K := K) (.int (k : Int)), kit_d (T := "str") (by decide) _, _, rfl, iteF ?_⟩
        refine ⟨_, rfl, _, _, rfl, rfl, ⟨by decide, by decide⟩, _, rfl, log_small (by omega), _, _, rfl, rfl, size_small (by rw [a4]; omega), _, rfl, _, _, rfl, rfl, (by show (0 : Int) < 60; decide), _, _, rfl, rfl, _, rfl, log_small (by omega), _, rfl, _, rfl, size_small (by omega), _, _, rfl, rfl, size_small (by rw [len_app, a4]; omega), ?_⟩
        rw [pt_plus]
        exact ⟨_, rfl, _, _, rfl, rfl, z1, _, rfl, _, _, rfl, rfl, z2 l2, _, _, by rw [step]; rfl, sm⟩
    · obtain ⟨s2, s3, rfl, sm⟩ := h
      rw [List.take_of_length_le (by rw [List.length_map, List.length_map]; exact Nat.le_refl _)]
      exact ⟨_, rfl, q G (su.trans sm)⟩
theorem butT {K : PySem.W.Frag} {b t : Addr} {H G : Hp} {n : Int} {us : List V} (e : But b H G) (hb : Box H b n) (h : SqT K H t us) : SqT K G t us := by
  obtain ⟨l, hl⟩ := hb.at
  rcases h with (h | ⟨o, h⟩) | h
  · exact .inl (.inl (e _ _ (ne_of h hl (by intro z; cases z)) h))
  · exact .inl (.inr ⟨o, e _ _ (ne_of h hl (by intro z; cases z)) h⟩)
  · exact .inr h
/-- what stands ahead: none, or a deed with its text -/
def Ahd (K : PySem.W.Frag) (H : Hp) (s : Option V) : Prop := s = some V.non ∨ ∃ (p t : Addr) (w : Str) (xs : List Arg) (ss : List Str), s = some (V.ref p) ∧ SqT K H p [.ref t, .str (deedT w xs)] ∧ SqT K H t (.str w :: xs.map Arg.v) ∧ Deed w xs ss
theorem Ahd.but {K : PySem.W.Frag} {b : Addr} {H G : Hp} {n : Int} {s : Option V} (h : Ahd K H s) (hb : Box H b n) (e : But b H G) : Ahd K G s := by
  rcases h with h | ⟨p, t, w, xs, ss, h1, h2, h3, h4⟩
  · exact .inl h
  · exact .inr ⟨p, t, w, xs, ss, h1, butT e hb h2, butT e hb h3, h4⟩
theorem Ahd.same {K : PySem.W.Frag} {H G : Hp} {s : Option V} (h : Ahd K H s) (e : Same H G) : Ahd K G s := by
  rcases h with h | ⟨p, t, w, xs, ss, h1, h2, h3, h4⟩
  · exact .inl h
  · exact .inr ⟨p, t, w, xs, ss, h1, seqT_same e h2, seqT_same e h3, h4⟩
theorem args_thin : ∀ xs : List Arg, PyData.depthAll (xs.map Arg.d) ≤ 1 ∧ thinAll (xs.map Arg.d) = true
  | [] => ⟨by simp [PyData.depthAll], rfl⟩
  | x :: r => by
    obtain ⟨a, b⟩ := args_thin r
    rw [List.map_cons]
    refine ⟨?_, ?_⟩
    · cases x <;> simp only [Arg.d, PyData.depthAll, PyData.depth] <;> omega
    · cases x <;> simp only [Arg.d, thinAll, thin, b, Bool.and_true]
theorem deed_thin {w : Str} {xs : List Arg} {ss : List Str} (dd : Deed w xs ss) : PyData.depth (deedD w xs) ≤ 4 ∧ thin (deedD w xs) = true := by
  have l3 : ss.length ≤ 3 := (shape_ss _ (look_mem dd.look)).1
  have hl := dd.len
  obtain ⟨a, b⟩ := args_thin (.nm w :: xs)
  have a : PyData.depthAll (.str w :: xs.map Arg.d) ≤ 1 := a
  have b : thinAll (.str w :: xs.map Arg.d) = true := b
  unfold deedD
  refine ⟨?_, ?_⟩
  · simp only [PyData.depth]
    omega
  · simp only [thin]
    rw [b, Bool.and_true]
    exact decide_eq_true (by rw [List.length_cons, List.length_map]; omega)
theorem lay_args : ∀ {xs : List Arg}, (∀ x ∈ xs, Asc x.t) → PyData.canLayAll0 (xs.map Arg.d) = true
  | [], _ => by simp [PyData.canLayAll0]
  | x :: r, h => by
    have a := lay_args (xs := r) fun y hy => h y (List.mem_cons_of_mem _ hy)
    have hx := h x List.mem_cons_self
    cases x with
    | nm y =>
      have h1 := asc_ok (p := y) hx
      simp only [List.map_cons, Arg.d, PyData.canLayAll0, PyData.canLay0, h1, a, Bool.and_self]
    | tx f =>
      have h1 := asc_ok (p := txtT f) hx
      simp only [List.map_cons, Arg.d, PyData.canLayAll0, PyData.canLay0, h1, a, Bool.and_self]
    | pn n => simp only [List.map_cons, Arg.d, PyData.canLayAll0, PyData.canLay0, a, Bool.and_self]
theorem deed_shaped {w : Str} {xs : List Arg} {ss : List Str} (dd : Deed w xs ss) : SeqAt.shaped (deedD w xs) = true := by
  have mm := look_mem dd.look
  have a := lay_args (xs := .nm w :: xs) (List.forall_mem_cons.mpr ⟨fun c hc => of_decide_eq_true (List.all_eq_true.mp (word_sml _ mm).1 c hc), fun x hx => by
    obtain ⟨s, hf⟩ := arg_fit dd x hx
    exact arg_asc hf⟩)
  have b := (args_thin (.nm w :: xs)).1
  have a : PyData.canLayAll0 (.str w :: xs.map Arg.d) = true := a
  have b : PyData.depthAll (.str w :: xs.map Arg.d) ≤ 1 := b
  unfold deedD
  show (PyData.canLay0 _ && decide (PyData.depth _ ≤ 64)) = true
  rw [Bool.and_eq_true]
  refine ⟨by simp only [PyData.canLay0]; exact a, decide_eq_true ?_⟩
  simp only [PyData.depth]
  omega
/-! ### law -/
abbrev s_law : Stmt := topS 56
abbrev N_law : List Str := ["_law_script", "_law_k", "_law_box_here", "_law_ahead", "_law_names_here", "_law_turn", "_law_deed_here", "_law_found"]
theorem sc_law : FnScope N_law ["_law_script"] (defScope s_law) := ⟨rfl, rfl, rfl, by decide +kernel, rfl, by decide +kernel, by decide +kernel⟩
def sp_law (K : PySem.W.Frag) : Sp := fun vs H Q _ => ∃ (a : Addr) (ns : List Int), vs = [.ref a] ∧ SqL K H a (ns.map V.int) ∧ ns.length ≤ 63 ∧ ∀ H', Q (.bl true) H'
theorem ok_law {f : Addr} {fd : FuncData} (F : Fun K "law" "law" s_law f fd) {C2 : CB2} (TB : TB2 K mg C2) (XR : CEv P w K mg base C2.b 1 "BadRule" "word") (XC : CEv P w K mg base C2.c 1 "BadClause" "place") {CR : Addr} (TQ : TEq K mg CR "Rule") (T_Rule : TRule K mg CR) (m_range : mg "range" = none) (m_min : mg "min" = none) (m_len : mg "len" = none) (m_isinstance : mg "isinstance" = none) (m_str : mg "str" = none) (C__law_box : CF P w K mg base 1 "_law_box" ["_law_script", "_law_k"] (sp__law_box K)) (C__law_names : CF P w K mg base 2 "_law_names" ["_law_box_here", "_law_many"] (sp__law_names K)) (C__law_deed : CF P w K mg base 3 "_law_deed" ["_law_box_here", "_law_names_here"] (sp__law_deed K)) (C_deed_text : CF P w K mg base 2 "deed_text" ["deed"] (sp_deed_text K)) (C__law_same : CF P w K mg base 6 "_law_same" ["_law_found", "_law_due"] (sp__law_same K)) (C_deed_in : CF P w K mg base 12 "deed_in" ["text"] (sp_deed_in K C2 CR)) (C__law_written : CF P w K mg base 1 "_law_written" ["_law_deed_here"] (sp__law_written K)) : FnOk P w K mg base CX0 13 f fd ["_law_script"] (sp_law K) := by
  refine F.ok sc_law (fun vs H Q E h => ?_) (fun cdv A outer s H vs Q E hr h => ?_)
  · first | (obtain ⟨_, rfl, _⟩ := h; rfl) | (obtain ⟨_, _, rfl, _⟩ := h; rfl) | (obtain ⟨_, _, _, rfl, _⟩ := h; rfl) | (obtain ⟨_, _, _, _, rfl, _⟩ := h; rfl) | (obtain ⟨_, _, _, _, _, rfl, _⟩ := h; rfl) | (obtain ⟨_, _, _, _, _, _, rfl, _⟩ := h; rfl) | (obtain ⟨_, _, _, _, _, _, _, rfl, _⟩ := h; rfl) | (obtain ⟨_, _, _, _, _, _, _, _, rfl, _⟩ := h; rfl) | (obtain ⟨_, _, _, _, _, _, _, _, _, rfl, _⟩ := h; rfl) | (obtain ⟨_, _, _, _, _, _, _, _, _, _, rfl, _⟩ := h; rfl) | (obtain ⟨_, _, _, _, _, _, _, _, _, _, _, rfl, _⟩ := h; rfl) | (obtain ⟨_, _, _, _, _, _, _, _, _, _, _, _, rfl, _⟩ := h; rfl) | (obtain ⟨_, _, _, _, _, _, _, _, _, _, _, _, _, rfl, _⟩ := h; rfl) | (obtain ⟨_, _, _, _, _, _, _, _, _, _, _, _, _, _, rfl, _⟩ := h; rfl) | (obtain ⟨_, _, _, _, _, _, _, _, _, _, _, _, _, _, _, rfl, _⟩ := h; rfl)
  · have hu64 := hr.units
    obtain ⟨a, ns, rfl, hS, hlen, q⟩ := h
    refine ⟨_, (pss_cons (ps_for PassesOwn.never rfl (pi_range1 (by rfl) m_range (pa_cons (pe_op op_add pe_int (pe_callB (call_min2 rfl) (by rfl) m_min (by decide +kernel) (pa_cons pe_int (pa_cons (pe_callB (kk_len K) (by rfl) m_len PySem.boot_len (pa_cons (pv 0) pa_nil)) pa_nil)))) pa_nil)) (pg_name (i := 1) sc_law.nd rfl (.inl rfl))
         (pss_cons (ps_par (i := 2) (j := 3) (by rfl) sc_law.nd rfl rfl (by decide) rfl rfl (pa_cons (pe_cf C__law_box (hr.mono (by decide)) (by rfl) (pa_cons (pv 0) (pa_cons (pv 1) pa_nil))) (pa_cons pe_non pa_nil)) (by rfl))
          (pss_cons (ps_set (i := 4) sc_law.nd rfl (.inl rfl) (pe_cf C__law_names (hr.mono (by decide)) (by rfl) (pa_cons (pv 2) (pa_cons pe_int pa_nil))))
          (pss_one (ps_for PassesOwn.never rfl (pi_range1 (by rfl) m_range (pa_cons pe_int pa_nil)) (pg_name (i := 5) sc_law.nd rfl (.inl rfl))
             (pss_cons (ps_set (i := 6) sc_law.nd rfl (.inl rfl) (pe_cf C__law_deed (hr.mono (by decide)) (by rfl) (pa_cons (pv 2) (pa_cons (pv 4) pa_nil))))
              (pss_cons (ps_set (i := 7) sc_law.nd rfl (.inl rfl) (pe_cf C_deed_text (hr.mono (by decide)) (by rfl) (pa_cons (pv 6) pa_nil)))
              (pss_cons (ps_if (PW.pt (pw_or (pt_not (pt_val (pe_callB (kk_isi K) (by rfl) m_isinstance (by decide +kernel) (pa_cons (pv 7) (pa_cons (pe_bltn (v := .ty "str") (by rfl) m_str (by decide +kernel) rfl) pa_nil))))) (pw_or (pt_cmpR op_ne (pv 7) (pe_cf C__law_written (hr.mono (by decide)) (by rfl) (pa_cons (pv 6) pa_nil)) (nomark _)) (pw_or1 (pt_not (pt_val (pe_cf C__law_same (hr.mono (by decide)) (by rfl) (pa_cons (pe_cf C_deed_in (hr.mono (by decide)) (by rfl) (pa_cons (pv 7) pa_nil)) (pa_cons (pv 6) pa_nil)))))))))
                 (pss_one (ps_ret pe_bl))
                 pss_nil)
              (pss_cons (ps_if (PW.pt (pw_and (pt_cmpR op_notN (pv 3) pe_non (nomark _)) (pw_and1 (pt_cmpR op_ne (pe_cmpR (kk_eqD K hu64) (pe_ix (kk_ixt K) (pv 3) pe_int (fun _ _ => rfl)) (pv 6) (nomark _)) (pe_cmpR op_eq (pe_ix (kk_ixt K) (pv 3) pe_int (fun _ _ => rfl)) (pv 7) (nomark _)) (nomark _)))))
                 (pss_one (ps_ret pe_bl))
                 pss_nil)
              (pss_one (ps_set (i := 3) sc_law.nd rfl (.inl rfl) (pe_tup (pa_cons (pv 6) (pa_cons (pv 7) pa_nil))))))))))))))
      (pss_one (ps_ret pe_bl))), ?_⟩
    refine ⟨_, rfl, a, _, rfl, .inl hS, _, _, rfl, _, _, rfl, rfl, _, rfl, ?_, ?_, for_range (fun i σ H' => ∃ s1 s2 s3 s4 s5 s6 s7, σ = [some (.ref a), s1, s2, s3, s4, s5, s6, s7] ∧ Same H H') ⟨_, _, _, _, _, _, _, rfl, Same.refl H⟩ (fun i σ H0 hi h => ?_) (fun σ H' h => ?_)⟩
    · split <;> omega
    · split <;> omega
    · obtain ⟨s1, s2, s3, s4, s5, s6, s7, rfl, sm⟩ := h
      have hi7 : i < 7 := by
        split at hi <;> omega
      refine ⟨_, rfl, _, rfl, a, _, ns, rfl, sm.seq hS, by omega, by omega, fun H1 b nb sb hb => ⟨_, _, rfl, ?_⟩⟩
      have nb0 : H b = none := sm.free nb
      refine ⟨_, rfl, b, _, 5, rfl, hb, by decide, by decide, fun H2 L nms B2 t2 nL hL ln nd okn => ?_⟩
      have Lb : L ≠ b := hb.ne nL
      refine ⟨_, rfl, by decide, by decide, for_range (lo := 0) (n := 12) (fun j σ G => ∃ s3 s5 s6 s7, σ = [some (.ref a), some (.int (0 + i)), some (.ref b), s3, some (.ref L), s5, s6, s7] ∧ Box G b (100 + 60 * j) ∧ But b H2 G ∧ Ahd K G s3) ⟨_, _, _, _, rfl, B2.mono (by omega), But.refl _ _, .inl rfl⟩ (fun j σ G hj h => ?_) (fun σ G h => ?_)⟩
      · obtain ⟨s3, s5, s6, s7, rfl, BG, tG, hA⟩ := h
        refine ⟨_, rfl, _, rfl, b, L, _, nms, rfl, BG, by omega, tG _ _ Lb hL, Lb, nd, by omega, by omega, okn, fun G1 t w xs ss B1 t1 hT dd => ?_⟩
        have hA1 := hA.but BG t1
        refine ⟨_, rfl, t, w, xs, ss, rfl, hT, dd, fun G2 s2 => ⟨_, rfl, ?_⟩⟩
        have hA2 := hA1.same s2
        have hT2 := seqT_same s2 hT
        have tG2 : But b H2 G2 := (tG.trans t1).trans (But.of s2)
        have B2' := B1.same s2
        refine ⟨_, _, _, _, _, rfl, .ty _, ty_of_dp (K := K) (Dp.str (deedT w xs)), kit_d (T := "str") (by decide) _, _, rfl, ?_⟩
        refine iteF ?_
        refine ⟨_, rfl, _, rfl, t, w, xs, ss, rfl, hT2, dd, fun G3 s3' => ?_⟩
        have hA3 := hA2.same s3'
        have hT3 := seqT_same s3' hT2
        obtain ⟨sa, sl⟩ := deed_small dd
        have eo := deedOf_own dd
        refine ⟨rfl, _, rfl, ?_⟩
        rw [decide_eq_true rfl]
        refine iteF ?_
        refine ⟨_, rfl, deedT w xs, rfl, sa, sl, fun G4 y d e s4 dp => ?_, fun e => ?_⟩
        · have ed : d = deedD w xs := Option.some.inj (e.symm.trans eo)
          subst ed
          have hA4 := hA3.same s4
          have hT4 := seqT_same s4 hT3
          refine ⟨_, rfl, y, _, deedD w xs, rfl, dp, deed_dp hT4, (deed_thin dd).1, (deed_thin dd).2, fun G5 s5' => ⟨_, rfl, iteF ?_⟩⟩
          have hA5 := hA4.same s5'
          have hT5 := seqT_same s5' hT4
          have s25 := (s3'.trans s4).trans s5'
          have B5 := B2'.same s25
          have t5 := tG2.trans (But.of s25)
          rcases hA5 with rfl | ⟨p, t2, w2, xs2, ss2, rfl, hp, ht2, dd2⟩
          · refine ⟨_, rfl, rfl, _, rfl, ?_⟩
            refine iteF (iteF ?_)
            exact ⟨_, rfl, _, rfl, (by show 2 ≤ sizeLine; decide), fun T nT => ⟨_, _, _, _, rfl, (B5.new nT).mono (by omega), t5.trans (But.new nT), .inr ⟨T, t, w, xs, ss, rfl, SqT.of upd_same, seqT_same (same_new nT) hT5, dd⟩⟩⟩
          · refine ⟨_, rfl, rfl, _, rfl, ?_⟩
            refine iteT ?_
            refine ⟨_, rfl, p, _, _, _, rfl, rfl, hp, at0, _, rfl, deedD w2 xs2, deedD w xs, deed_dp ht2, deed_dp hT5, deed_shaped dd2, deed_shaped dd, ?_⟩
            rw [eqv_deed dd2 dd]
            refine ⟨_, rfl, p, _, _, _, rfl, rfl, hp, at1, _, rfl, rfl, ?_⟩
            have ee : (decide (deedT w2 xs2 = deedT w xs)) = decide (V.str (deedT w2 xs2) = V.str (deedT w xs)) := by
              by_cases c : deedT w2 xs2 = deedT w xs
              · rw [decide_eq_true c, decide_eq_true (congrArg V.str c)]
              · rw [decide_eq_false c, decide_eq_false fun z => c (V.str.inj z)]
            rw [ee]
            refine ⟨rfl, _, rfl, ?_⟩
            rw [decide_eq_true rfl]
            refine iteF ?_
            exact ⟨_, rfl, _, rfl, (by show 2 ≤ sizeLine; decide), fun T nT => ⟨_, _, _, _, rfl, (B5.new nT).mono (by omega), t5.trans (But.new nT), .inr ⟨T, t, w, xs, ss, rfl, SqT.of upd_same, seqT_same (same_new nT) hT5, dd⟩⟩⟩
        · rw [eo] at e
          cases e
      · obtain ⟨s3, s5, s6, s7, rfl, BG, tG, hA⟩ := h
        exact ⟨_, _, _, _, _, _, _, rfl, same_but (sm.trans sb) nb0 (t2.trans tG)⟩
    · exact q H'
end
abbrev s_B0 : Stmt := inClass (topS 4) 0
theorem sc_B0 : NdefX.NScope ["self", "word", "__class__"] ["self", "word"] ["__class__"] (defScope s_B0) := NdefX.nscope_by (by decide +kernel)
abbrev s_B1 : Stmt := inClass (topS 5) 0
theorem sc_B1 : NdefX.NScope ["self", "place", "__class__"] ["self", "place"] ["__class__"] (defScope s_B1) := NdefX.nscope_by (by decide +kernel)
set_option maxHeartbeats 0 in
theorem all_mk {l : PySem.W.OpenLaw} {w : World} {K : PySem.W.Frag} {h : Heap} {mg : Str → Option Value} {fa f0 f1 f2 f3 f4 f5 f6 f7 f8 f9 f10 f11 f12 f13 f14 f15 f16 f17 f18 f19 f20 f21 f22 f23 f24 f25 f26 f27 f28 f29 f30 f31 f32 f33 f34 CR CE0 fB0 ccB0 cdB0 NB0 CE1 fB1 ccB1 cdB1 NB1 : Addr} (X : K.In h) (G : h.Ns mainGlobals mg) (hfa : mg "law" = some (.ref fa))
    {od0 an0 od1 an1 od2 an2 od3 an3 od4 an4 od5 an5 od6 an6 od7 an7 od8 an8 od9 an9 od10 an10 od11 an11 od12 an12 od13 an13 od14 an14 od15 an15 od16 an16 od17 an17 od18 an18 od19 an19 od20 an20 od21 an21 od22 an22 od23 an23 od24 an24 od25 an25 od26 an26 od27 an27 od28 an28 od29 an29 od30 an30 od31 an31 od32 an32 od33 an33 od34 an34 : Option Addr} {sl0 sl1 sl2 sl3 sl4 sl5 sl6 sl7 sl8 sl9 sl10 sl11 sl12 sl13 sl14 sl15 sl16 sl17 sl18 sl19 sl20 sl21 sl22 sl23 sl24 sl25 sl26 sl27 sl28 sl29 sl30 sl31 sl32 sl33 sl34 : Array (Option Value)} {oc0 kV0 dc0 pm0 cd0 ct0 oc1 kV1 dc1 pm1 cd1 ct1 oc2 kV2 dc2 pm2 cd2 ct2 oc3 kV3 dc3 pm3 cd3 ct3 oc4 kV4 dc4 pm4 cd4 ct4 oc5 kV5 dc5 pm5 cd5 ct5 oc6 kV6 dc6 pm6 cd6 ct6 oc7 kV7 dc7 pm7 cd7 ct7 oc8 kV8 dc8 pm8 cd8 ct8 oc9 kV9 dc9 pm9 cd9 ct9 oc10 kV10 dc10 pm10 cd10 ct10 oc11 kV11 dc11 pm11 cd11 ct11 oc12 kV12 dc12 pm12 cd12 ct12 oc13 kV13 dc13 pm13 cd13 ct13 oc14 kV14 dc14 pm14 cd14 ct14 oc15 kV15 dc15 pm15 cd15 ct15 oc16 kV16 dc16 pm16 cd16 ct16 oc17 kV17 dc17 pm17 cd17 ct17 oc18 kV18 dc18 pm18 cd18 ct18 oc19 kV19 dc19 pm19 cd19 ct19 oc20 kV20 dc20 pm20 cd20 ct20 oc21 kV21 dc21 pm21 cd21 ct21 oc22 kV22 dc22 pm22 cd22 ct22 oc23 kV23 dc23 pm23 cd23 ct23 oc24 kV24 dc24 pm24 cd24 ct24 oc25 kV25 dc25 pm25 cd25 ct25 oc26 kV26 dc26 pm26 cd26 ct26 oc27 kV27 dc27 pm27 cd27 ct27 oc28 kV28 dc28 pm28 cd28 ct28 oc29 kV29 dc29 pm29 cd29 ct29 oc30 kV30 dc30 pm30 cd30 ct30 oc31 kV31 dc31 pm31 cd31 ct31 oc32 kV32 dc32 pm32 cd32 ct32 oc33 kV33 dc33 pm33 cd33 ct33 oc34 kV34 dc34 pm34 cd34 ct34 : Value}
    (aC : PySem.W.nsIn K mainGlobals "Rule" = some (some (.ref CR))) (pg : PySem.W.plainGet K CR Str.empty = true) (hd : PySem.W.hasDictIn K CR = true) (po : PySem.W.plainOver K CR = true) (sa : PySem.W.findIn K (.ref CR) "__setattr__" = some (some (.builtin "object.__setattr__"))) (mk : PySem.W.makesIn K CR = true) (kc : PySem.W.keepIn K (.ref CR) = true)
    (n1 : PySem.W.findIn K (.ref CR) "parts" = some none) (n2 : PySem.W.findIn K (.ref CR) "step" = some none) (n3 : PySem.W.findIn K (.ref CR) "grace" = some none) (n4 : PySem.W.findIn K (.ref CR) "last" = some none) (n5 : PySem.W.findIn K (.ref CR) "misses" = some none) (n6 : PySem.W.findIn K (.ref CR) "keep" = some none) (n7 : PySem.W.findIn K (.ref CR) "fine" = some none) (n8 : PySem.W.findIn K (.ref CR) "falls" = some none) (n9 : PySem.W.findIn K (.ref CR) "back" = some none)
    (q_ca : PySem.W.findIn K (.ref CR) "__class__" = some (some (.builtin "object.__class__")))
    (q_cn : PySem.W.specialIn K (.builtin "object.__class__") "__get__" = some (some (.builtin "getset_descriptor.__get__")))
    (q_ct : PySem.W.takesIn K (.builtin "object.__class__") = some true)
    (q_ob : PySem.W.mroIn K CR (.type "object") = some true)
    (q_ne : PySem.W.findIn K (.ref CR) "__ne__" = some (some (.builtin "object.__ne__")))
    (q_ty : PySem.W.typeIn K (.ref CR) = some (.type "type"))
    (q_ic : PySem.W.isClsIn K CR = true)
    (q_s0 : PySem.W.subIn K (.ref CR) (.type "int") = some false)
    (q_b0 : PySem.W.subIn K (.type "int") (.ref CR) = some false)
    (q_s1 : PySem.W.subIn K (.ref CR) (.type "bool") = some false)
    (q_b1 : PySem.W.subIn K (.type "bool") (.ref CR) = some false)
    (q_s2 : PySem.W.subIn K (.ref CR) (.type "str") = some false)
    (q_b2 : PySem.W.subIn K (.type "str") (.ref CR) = some false)
    (q_s3 : PySem.W.subIn K (.ref CR) (.type "NoneType") = some false)
    (q_b3 : PySem.W.subIn K (.type "NoneType") (.ref CR) = some false)
    (q_s4 : PySem.W.subIn K (.ref CR) (.type "list") = some false)
    (q_b4 : PySem.W.subIn K (.type "list") (.ref CR) = some false)
    (q_s5 : PySem.W.subIn K (.ref CR) (.type "tuple") = some false)
    (q_b5 : PySem.W.subIn K (.type "tuple") (.ref CR) = some false)
    (e_0 : PySem.W.nsIn K mainGlobals "BadRule" = some (some (.ref CE0)))
    (e_1 : PySem.W.nsIn K mainGlobals "BadClause" = some (some (.ref CE1)))
    (e_0_ty : PySem.W.typeIn K (.ref CE0) = some (.type "type"))
    (e_0_sb : PySem.W.subIn K (.ref CE0) (.type "BaseException") = some true)
    (e_0_hd : PySem.W.hasDictIn K CE0 = true)
    (e_0_kp : PySem.W.keepIn K (.ref CE0) = true)
    (e_0_s0 : PySem.W.subIn K (.ref CE0) (.ref CE0) = some true)
    (e_1_ty : PySem.W.typeIn K (.ref CE1) = some (.type "type"))
    (e_1_sb : PySem.W.subIn K (.ref CE1) (.type "BaseException") = some true)
    (e_1_hd : PySem.W.hasDictIn K CE1 = true)
    (e_1_kp : PySem.W.keepIn K (.ref CE1) = true)
    (e_1_s1 : PySem.W.subIn K (.ref CE1) (.ref CE1) = some true)
    (hopB : PySem.W.nsIn K PySem.cStatics "thirdparty.any" = some none)
    (htopB : (l.prog.main.scope.names.lookup ("super" : Str)).isSome = false)
    (e_0_sa : PySem.W.findIn K (.ref CE0) "__setattr__" = some (some (.builtin "object.__setattr__")))
    (e_0_nwf : PySem.W.findIn K (.ref CE0) "word" = some none)
    (e_0_ini : PySem.W.findIn K (.ref CE0) "__init__" = some (some (.ref fB0)))
    (e_0_tf : PySem.W.typeIn K (.ref fB0) = some (.type "function"))
    {nmB0 qB0 : Str} {bsB0 bmB0 subB0 : List Value} {snB0 : List Str} {abB0 : Bool} {colB0 : Option Bool} {ddB0 : Option Addr} {k0B0 k1B0 k2B0 k3B0 k5B0 : Option Value}
    (xoB0 : K.lookup CE0 = some (excClassObj nmB0 qB0 CE0 NB0 bsB0 bmB0 true snB0 subB0 abB0 colB0 ddB0 k0B0 k1B0 k2B0 k3B0 k5B0 "ValueError.__new__"))
    (xrB0 : PySem.HandSPX.refsVE bmB0 = true)
    {ocB0 kVB0 dcB0 pmB0 ctB0 oclB0 cclB0 : Value} {odB0 anB0 ocdB0 cddB0 : Option Addr} {slB0 ocsB0 ccsB0 : Array (Option Value)} {vsB0 : Array Value} {fileB0 : Str} {tfB0 : Tok}
    (lB0 : K.lookup fB0 = some ⟨ocB0, odB0, .func (PySem.W.fnX "__init__" "BadRule.__init__" (defArgs s_B0) (defBody s_B0) (defScope s_B0) [("__class__", ccB0)] .none kVB0 dcB0 pmB0 anB0 (.ref cdB0) ctB0), slB0⟩)
    (cB0 : PySem.W.codeIn K (.ref cdB0) "BadRule.__init__" = true)
    (hcellB0 : K.lookup ccB0 = some ⟨oclB0, ocdB0, .cell (some (.ref CE0)), ocsB0⟩)
    (hcodeB0 : K.lookup cdB0 = some ⟨cclB0, cddB0, .fields vsB0, ccsB0⟩)
    (hvsB0 : vsB0[2]? = some (.str fileB0 tfB0))
    (hfileB0 : ((l.prog.main.file : Str) == fileB0) = true)
    (hsiB0 : PySem.W.ks_superIn K CE0 CE0 "__init__" = some (some (.builtin "ValueError.__init__")))
    (e_1_sa : PySem.W.findIn K (.ref CE1) "__setattr__" = some (some (.builtin "object.__setattr__")))
    (e_1_nwf : PySem.W.findIn K (.ref CE1) "place" = some none)
    (e_1_ini : PySem.W.findIn K (.ref CE1) "__init__" = some (some (.ref fB1)))
    (e_1_tf : PySem.W.typeIn K (.ref fB1) = some (.type "function"))
    {nmB1 qB1 : Str} {bsB1 bmB1 subB1 : List Value} {snB1 : List Str} {abB1 : Bool} {colB1 : Option Bool} {ddB1 : Option Addr} {k0B1 k1B1 k2B1 k3B1 k5B1 : Option Value}
    (xoB1 : K.lookup CE1 = some (excClassObj nmB1 qB1 CE1 NB1 bsB1 bmB1 true snB1 subB1 abB1 colB1 ddB1 k0B1 k1B1 k2B1 k3B1 k5B1 "ValueError.__new__"))
    (xrB1 : PySem.HandSPX.refsVE bmB1 = true)
    {ocB1 kVB1 dcB1 pmB1 ctB1 oclB1 cclB1 : Value} {odB1 anB1 ocdB1 cddB1 : Option Addr} {slB1 ocsB1 ccsB1 : Array (Option Value)} {vsB1 : Array Value} {fileB1 : Str} {tfB1 : Tok}
    (lB1 : K.lookup fB1 = some ⟨ocB1, odB1, .func (PySem.W.fnX "__init__" "BadClause.__init__" (defArgs s_B1) (defBody s_B1) (defScope s_B1) [("__class__", ccB1)] .none kVB1 dcB1 pmB1 anB1 (.ref cdB1) ctB1), slB1⟩)
    (cB1 : PySem.W.codeIn K (.ref cdB1) "BadClause.__init__" = true)
    (hcellB1 : K.lookup ccB1 = some ⟨oclB1, ocdB1, .cell (some (.ref CE1)), ocsB1⟩)
    (hcodeB1 : K.lookup cdB1 = some ⟨cclB1, cddB1, .fields vsB1, ccsB1⟩)
    (hvsB1 : vsB1[2]? = some (.str fileB1 tfB1))
    (hfileB1 : ((l.prog.main.file : Str) == fileB1) = true)
    (hsiB1 : PySem.W.ks_superIn K CE1 CE1 "__init__" = some (some (.builtin "ValueError.__init__")))
    (a0 : PySem.W.nsIn K mainGlobals "is_number_in" = some (some (.ref f0))) (l0 : K.lookup f0 = some ⟨oc0, od0, .func (PySem.W.fnOf "is_number_in" "is_number_in" (defArgs s_is_number_in) (defBody s_is_number_in) (defScope s_is_number_in) .none kV0 dc0 pm0 an0 cd0 ct0), sl0⟩) (c0 : PySem.W.codeIn K cd0 "is_number_in" = true) (k0 : PySem.W.keepIn K (.ref f0) = true)
    (a1 : PySem.W.nsIn K mainGlobals "may_be_kept" = some (some (.ref f1))) (l1 : K.lookup f1 = some ⟨oc1, od1, .func (PySem.W.fnOf "may_be_kept" "may_be_kept" (defArgs s_may_be_kept) (defBody s_may_be_kept) (defScope s_may_be_kept) .none kV1 dc1 pm1 an1 cd1 ct1), sl1⟩) (c1 : PySem.W.codeIn K cd1 "may_be_kept" = true) (k1 : PySem.W.keepIn K (.ref f1) = true)
    (a2 : PySem.W.nsIn K mainGlobals "wrong_figure" = some (some (.ref f2))) (l2 : K.lookup f2 = some ⟨oc2, od2, .func (PySem.W.fnOf "wrong_figure" "wrong_figure" (defArgs s_wrong_figure) (defBody s_wrong_figure) (defScope s_wrong_figure) .none kV2 dc2 pm2 an2 cd2 ct2), sl2⟩) (c2 : PySem.W.codeIn K cd2 "wrong_figure" = true) (k2 : PySem.W.keepIn K (.ref f2) = true)
    {D3 : Addr} {dod3 : Option Addr} {doc3 : Value} {dsl3 : Array (Option Value)} {dn3 : Nat} {u3_0 u3_2 u3_3 u3_4 u3_5 u3_6 : Tok}
    (a3 : PySem.W.findIn K (.ref CR) "__init__" = some (some (.ref f3))) (l3 : K.lookup f3 = some ⟨oc3, od3, .func (PySem.W.fnOf "__init__" "Rule.__init__" (defArgs s_Rule___init__) (defBody s_Rule___init__) (defScope s_Rule___init__) (.ref D3) kV3 dc3 pm3 an3 cd3 ct3), sl3⟩) (c3 : PySem.W.codeIn K cd3 "Rule.__init__" = true) (k3 : PySem.W.keepIn K (.ref f3) = true)
    (i3 : PySem.W.isFn K (.ref f3) = true) (d3 : K.lookup D3 = some ⟨doc3, dod3, .seq [.int 0 u3_0, .bool false, .int 0 u3_2, .int 0 u3_3, .int 0 u3_4, .int 0 u3_5, .int 0 u3_6].toArray dn3, dsl3⟩)
    (a4 : PySem.W.findIn K (.ref CR) "figures" = some (some (.ref f4))) (l4 : K.lookup f4 = some ⟨oc4, od4, .func (PySem.W.fnOf "figures" "Rule.figures" (defArgs s_Rule_figures) (defBody s_Rule_figures) (defScope s_Rule_figures) .none kV4 dc4 pm4 an4 cd4 ct4), sl4⟩) (c4 : PySem.W.codeIn K cd4 "Rule.figures" = true) (k4 : PySem.W.keepIn K (.ref f4) = true)
    (i4 : PySem.W.isFn K (.ref f4) = true)
    (a5 : PySem.W.nsIn K mainGlobals "counted" = some (some (.ref f5))) (l5 : K.lookup f5 = some ⟨oc5, od5, .func (PySem.W.fnOf "counted" "counted" (defArgs s_counted) (defBody s_counted) (defScope s_counted) .none kV5 dc5 pm5 an5 cd5 ct5), sl5⟩) (c5 : PySem.W.codeIn K cd5 "counted" = true) (k5 : PySem.W.keepIn K (.ref f5) = true)
    (a6 : PySem.W.nsIn K mainGlobals "kept_clause" = some (some (.ref f6))) (l6 : K.lookup f6 = some ⟨oc6, od6, .func (PySem.W.fnOf "kept_clause" "kept_clause" (defArgs s_kept_clause) (defBody s_kept_clause) (defScope s_kept_clause) .none kV6 dc6 pm6 an6 cd6 ct6), sl6⟩) (c6 : PySem.W.codeIn K cd6 "kept_clause" = true) (k6 : PySem.W.keepIn K (.ref f6) = true)
    (a7 : PySem.W.nsIn K mainGlobals "clauses_of" = some (some (.ref f7))) (l7 : K.lookup f7 = some ⟨oc7, od7, .func (PySem.W.fnOf "clauses_of" "clauses_of" (defArgs s_clauses_of) (defBody s_clauses_of) (defScope s_clauses_of) .none kV7 dc7 pm7 an7 cd7 ct7), sl7⟩) (c7 : PySem.W.codeIn K cd7 "clauses_of" = true) (k7 : PySem.W.keepIn K (.ref f7) = true)
    (a8 : PySem.W.findIn K (.ref CR) "__str__" = some (some (.ref f8))) (l8 : K.lookup f8 = some ⟨oc8, od8, .func (PySem.W.fnOf "__str__" "Rule.__str__" (defArgs s_Rule___str__) (defBody s_Rule___str__) (defScope s_Rule___str__) .none kV8 dc8 pm8 an8 cd8 ct8), sl8⟩) (c8 : PySem.W.codeIn K cd8 "Rule.__str__" = true) (k8 : PySem.W.keepIn K (.ref f8) = true)
    (i8 : PySem.W.isFn K (.ref f8) = true)
    (a9 : PySem.W.findIn K (.ref CR) "__eq__" = some (some (.ref f9))) (l9 : K.lookup f9 = some ⟨oc9, od9, .func (PySem.W.fnOf "__eq__" "Rule.__eq__" (defArgs s_Rule___eq__) (defBody s_Rule___eq__) (defScope s_Rule___eq__) .none kV9 dc9 pm9 an9 cd9 ct9), sl9⟩) (c9 : PySem.W.codeIn K cd9 "Rule.__eq__" = true) (k9 : PySem.W.keepIn K (.ref f9) = true)
    (i9 : PySem.W.isFn K (.ref f9) = true)
    (a10 : PySem.W.nsIn K mainGlobals "is_made_of" = some (some (.ref f10))) (l10 : K.lookup f10 = some ⟨oc10, od10, .func (PySem.W.fnOf "is_made_of" "is_made_of" (defArgs s_is_made_of) (defBody s_is_made_of) (defScope s_is_made_of) .none kV10 dc10 pm10 an10 cd10 ct10), sl10⟩) (c10 : PySem.W.codeIn K cd10 "is_made_of" = true) (k10 : PySem.W.keepIn K (.ref f10) = true)
    (a11 : PySem.W.nsIn K mainGlobals "number_in" = some (some (.ref f11))) (l11 : K.lookup f11 = some ⟨oc11, od11, .func (PySem.W.fnOf "number_in" "number_in" (defArgs s_number_in) (defBody s_number_in) (defScope s_number_in) .none kV11 dc11 pm11 an11 cd11 ct11), sl11⟩) (c11 : PySem.W.codeIn K cd11 "number_in" = true) (k11 : PySem.W.keepIn K (.ref f11) = true)
    (a12 : PySem.W.nsIn K mainGlobals "rule_text" = some (some (.ref f12))) (l12 : K.lookup f12 = some ⟨oc12, od12, .func (PySem.W.fnOf "rule_text" "rule_text" (defArgs s_rule_text) (defBody s_rule_text) (defScope s_rule_text) .none kV12 dc12 pm12 an12 cd12 ct12), sl12⟩) (c12 : PySem.W.codeIn K cd12 "rule_text" = true) (k12 : PySem.W.keepIn K (.ref f12) = true)
    (a13 : PySem.W.nsIn K mainGlobals "rule_of" = some (some (.ref f13))) (l13 : K.lookup f13 = some ⟨oc13, od13, .func (PySem.W.fnOf "rule_of" "rule_of" (defArgs s_rule_of) (defBody s_rule_of) (defScope s_rule_of) .none kV13 dc13 pm13 an13 cd13 ct13), sl13⟩) (c13 : PySem.W.codeIn K cd13 "rule_of" = true) (k13 : PySem.W.keepIn K (.ref f13) = true)
    (a14 : PySem.W.nsIn K mainGlobals "figures_in" = some (some (.ref f14))) (l14 : K.lookup f14 = some ⟨oc14, od14, .func (PySem.W.fnOf "figures_in" "figures_in" (defArgs s_figures_in) (defBody s_figures_in) (defScope s_figures_in) .none kV14 dc14 pm14 an14 cd14 ct14), sl14⟩) (c14 : PySem.W.codeIn K cd14 "figures_in" = true) (k14 : PySem.W.keepIn K (.ref f14) = true)
    (a15 : PySem.W.nsIn K mainGlobals "read_rule" = some (some (.ref f15))) (l15 : K.lookup f15 = some ⟨oc15, od15, .func (PySem.W.fnOf "read_rule" "read_rule" (defArgs s_read_rule) (defBody s_read_rule) (defScope s_read_rule) .none kV15 dc15 pm15 an15 cd15 ct15), sl15⟩) (c15 : PySem.W.codeIn K cd15 "read_rule" = true) (k15 : PySem.W.keepIn K (.ref f15) = true)
    (a16 : PySem.W.nsIn K mainGlobals "is_name" = some (some (.ref f16))) (l16 : K.lookup f16 = some ⟨oc16, od16, .func (PySem.W.fnOf "is_name" "is_name" (defArgs s_is_name) (defBody s_is_name) (defScope s_is_name) .none kV16 dc16 pm16 an16 cd16 ct16), sl16⟩) (c16 : PySem.W.codeIn K cd16 "is_name" = true) (k16 : PySem.W.keepIn K (.ref f16) = true)
    (a17 : PySem.W.nsIn K mainGlobals "names_in" = some (some (.ref f17))) (l17 : K.lookup f17 = some ⟨oc17, od17, .func (PySem.W.fnOf "names_in" "names_in" (defArgs s_names_in) (defBody s_names_in) (defScope s_names_in) .none kV17 dc17 pm17 an17 cd17 ct17), sl17⟩) (c17 : PySem.W.codeIn K cd17 "names_in" = true) (k17 : PySem.W.keepIn K (.ref f17) = true)
    (a18 : PySem.W.nsIn K mainGlobals "is_rule_text" = some (some (.ref f18))) (l18 : K.lookup f18 = some ⟨oc18, od18, .func (PySem.W.fnOf "is_rule_text" "is_rule_text" (defArgs s_is_rule_text) (defBody s_is_rule_text) (defScope s_is_rule_text) .none kV18 dc18 pm18 an18 cd18 ct18), sl18⟩) (c18 : PySem.W.codeIn K cd18 "is_rule_text" = true) (k18 : PySem.W.keepIn K (.ref f18) = true)
    (a19 : PySem.W.nsIn K mainGlobals "is_of_sort" = some (some (.ref f19))) (l19 : K.lookup f19 = some ⟨oc19, od19, .func (PySem.W.fnOf "is_of_sort" "is_of_sort" (defArgs s_is_of_sort) (defBody s_is_of_sort) (defScope s_is_of_sort) .none kV19 dc19 pm19 an19 cd19 ct19), sl19⟩) (c19 : PySem.W.codeIn K cd19 "is_of_sort" = true) (k19 : PySem.W.keepIn K (.ref f19) = true)
    (a20 : PySem.W.nsIn K mainGlobals "is_deed" = some (some (.ref f20))) (l20 : K.lookup f20 = some ⟨oc20, od20, .func (PySem.W.fnOf "is_deed" "is_deed" (defArgs s_is_deed) (defBody s_is_deed) (defScope s_is_deed) .none kV20 dc20 pm20 an20 cd20 ct20), sl20⟩) (c20 : PySem.W.codeIn K cd20 "is_deed" = true) (k20 : PySem.W.keepIn K (.ref f20) = true)
    (a21 : PySem.W.nsIn K mainGlobals "pence_text" = some (some (.ref f21))) (l21 : K.lookup f21 = some ⟨oc21, od21, .func (PySem.W.fnOf "pence_text" "pence_text" (defArgs s_pence_text) (defBody s_pence_text) (defScope s_pence_text) .none kV21 dc21 pm21 an21 cd21 ct21), sl21⟩) (c21 : PySem.W.codeIn K cd21 "pence_text" = true) (k21 : PySem.W.keepIn K (.ref f21) = true)
    (a22 : PySem.W.nsIn K mainGlobals "pence_in" = some (some (.ref f22))) (l22 : K.lookup f22 = some ⟨oc22, od22, .func (PySem.W.fnOf "pence_in" "pence_in" (defArgs s_pence_in) (defBody s_pence_in) (defScope s_pence_in) .none kV22 dc22 pm22 an22 cd22 ct22), sl22⟩) (c22 : PySem.W.codeIn K cd22 "pence_in" = true) (k22 : PySem.W.keepIn K (.ref f22) = true)
    (a23 : PySem.W.nsIn K mainGlobals "deed_text" = some (some (.ref f23))) (l23 : K.lookup f23 = some ⟨oc23, od23, .func (PySem.W.fnOf "deed_text" "deed_text" (defArgs s_deed_text) (defBody s_deed_text) (defScope s_deed_text) .none kV23 dc23 pm23 an23 cd23 ct23), sl23⟩) (c23 : PySem.W.codeIn K cd23 "deed_text" = true) (k23 : PySem.W.keepIn K (.ref f23) = true)
    (a24 : PySem.W.nsIn K mainGlobals "deed_in" = some (some (.ref f24))) (l24 : K.lookup f24 = some ⟨oc24, od24, .func (PySem.W.fnOf "deed_in" "deed_in" (defArgs s_deed_in) (defBody s_deed_in) (defScope s_deed_in) .none kV24 dc24 pm24 an24 cd24 ct24), sl24⟩) (c24 : PySem.W.codeIn K cd24 "deed_in" = true) (k24 : PySem.W.keepIn K (.ref f24) = true)
    (a25 : PySem.W.nsIn K mainGlobals "_law_take" = some (some (.ref f25))) (l25 : K.lookup f25 = some ⟨oc25, od25, .func (PySem.W.fnOf "_law_take" "_law_take" (defArgs s__law_take) (defBody s__law_take) (defScope s__law_take) .none kV25 dc25 pm25 an25 cd25 ct25), sl25⟩) (c25 : PySem.W.codeIn K cd25 "_law_take" = true) (k25 : PySem.W.keepIn K (.ref f25) = true)
    (a26 : PySem.W.nsIn K mainGlobals "_law_box" = some (some (.ref f26))) (l26 : K.lookup f26 = some ⟨oc26, od26, .func (PySem.W.fnOf "_law_box" "_law_box" (defArgs s__law_box) (defBody s__law_box) (defScope s__law_box) .none kV26 dc26 pm26 an26 cd26 ct26), sl26⟩) (c26 : PySem.W.codeIn K cd26 "_law_box" = true) (k26 : PySem.W.keepIn K (.ref f26) = true)
    (a27 : PySem.W.nsIn K mainGlobals "_law_names" = some (some (.ref f27))) (l27 : K.lookup f27 = some ⟨oc27, od27, .func (PySem.W.fnOf "_law_names" "_law_names" (defArgs s__law_names) (defBody s__law_names) (defScope s__law_names) .none kV27 dc27 pm27 an27 cd27 ct27), sl27⟩) (c27 : PySem.W.codeIn K cd27 "_law_names" = true) (k27 : PySem.W.keepIn K (.ref f27) = true)
    (a28 : PySem.W.nsIn K mainGlobals "_law_clauses" = some (some (.ref f28))) (l28 : K.lookup f28 = some ⟨oc28, od28, .func (PySem.W.fnOf "_law_clauses" "_law_clauses" (defArgs s__law_clauses) (defBody s__law_clauses) (defScope s__law_clauses) .none kV28 dc28 pm28 an28 cd28 ct28), sl28⟩) (c28 : PySem.W.codeIn K cd28 "_law_clauses" = true) (k28 : PySem.W.keepIn K (.ref f28) = true)
    (a29 : PySem.W.nsIn K mainGlobals "_law_pick" = some (some (.ref f29))) (l29 : K.lookup f29 = some ⟨oc29, od29, .func (PySem.W.fnOf "_law_pick" "_law_pick" (defArgs s__law_pick) (defBody s__law_pick) (defScope s__law_pick) .none kV29 dc29 pm29 an29 cd29 ct29), sl29⟩) (c29 : PySem.W.codeIn K cd29 "_law_pick" = true) (k29 : PySem.W.keepIn K (.ref f29) = true)
    (a30 : PySem.W.nsIn K mainGlobals "_law_forms" = some (some (.ref f30))) (l30 : K.lookup f30 = some ⟨oc30, od30, .func (PySem.W.fnOf "_law_forms" "_law_forms" (defArgs s__law_forms) (defBody s__law_forms) (defScope s__law_forms) .none kV30 dc30 pm30 an30 cd30 ct30), sl30⟩) (c30 : PySem.W.codeIn K cd30 "_law_forms" = true) (k30 : PySem.W.keepIn K (.ref f30) = true)
    (a31 : PySem.W.nsIn K mainGlobals "_law_deed" = some (some (.ref f31))) (l31 : K.lookup f31 = some ⟨oc31, od31, .func (PySem.W.fnOf "_law_deed" "_law_deed" (defArgs s__law_deed) (defBody s__law_deed) (defScope s__law_deed) .none kV31 dc31 pm31 an31 cd31 ct31), sl31⟩) (c31 : PySem.W.codeIn K cd31 "_law_deed" = true) (k31 : PySem.W.keepIn K (.ref f31) = true)
    (a32 : PySem.W.nsIn K mainGlobals "_law_same" = some (some (.ref f32))) (l32 : K.lookup f32 = some ⟨oc32, od32, .func (PySem.W.fnOf "_law_same" "_law_same" (defArgs s__law_same) (defBody s__law_same) (defScope s__law_same) .none kV32 dc32 pm32 an32 cd32 ct32), sl32⟩) (c32 : PySem.W.codeIn K cd32 "_law_same" = true) (k32 : PySem.W.keepIn K (.ref f32) = true)
    (a33 : PySem.W.nsIn K mainGlobals "_law_written" = some (some (.ref f33))) (l33 : K.lookup f33 = some ⟨oc33, od33, .func (PySem.W.fnOf "_law_written" "_law_written" (defArgs s__law_written) (defBody s__law_written) (defScope s__law_written) .none kV33 dc33 pm33 an33 cd33 ct33), sl33⟩) (c33 : PySem.W.codeIn K cd33 "_law_written" = true) (k33 : PySem.W.keepIn K (.ref f33) = true)
    (a34 : PySem.W.nsIn K mainGlobals "law" = some (some (.ref f34))) (l34 : K.lookup f34 = some ⟨oc34, od34, .func (PySem.W.fnOf "law" "law" (defArgs s_law) (defBody s_law) (defScope s_law) .none kV34 dc34 pm34 an34 cd34 ct34), sl34⟩) (c34 : PySem.W.codeIn K cd34 "law" = true) (k34 : PySem.W.keepIn K (.ref f34) = true)
    (z_isinstance : PySem.W.nsIn K mainGlobals "isinstance" = some none) (z_bool : PySem.W.nsIn K mainGlobals "bool" = some none) (z_int : PySem.W.nsIn K mainGlobals "int" = some none) (z_tuple : PySem.W.nsIn K mainGlobals "tuple" = some none) (z_all : PySem.W.nsIn K mainGlobals "all" = some none) (z_len : PySem.W.nsIn K mainGlobals "len" = some none) (z_set : PySem.W.nsIn K mainGlobals "set" = some none) (z_str : PySem.W.nsIn K mainGlobals "str" = some none) (z_enumerate : PySem.W.nsIn K mainGlobals "enumerate" = some none) (z_zip : PySem.W.nsIn K mainGlobals "zip" = some none) (z_divmod : PySem.W.nsIn K mainGlobals "divmod" = some none) (z_abs : PySem.W.nsIn K mainGlobals "abs" = some none) (z_range : PySem.W.nsIn K mainGlobals "range" = some none) (z_list : PySem.W.nsIn K mainGlobals "list" = some none) (z_min : PySem.W.nsIn K mainGlobals "min" = some none) (z_super : PySem.W.nsIn K mainGlobals "super" = some none)
    {t_FIGURES : Tok} (y_FIGURES : PySem.W.nsIn K mainGlobals "FIGURES" = some (some (.str (Str.ofString "0123456789") t_FIGURES)))
    {t_MOST_FIGURE : Tok} (y_MOST_FIGURE : PySem.W.nsIn K mainGlobals "MOST_FIGURE" = some (some (.int 100 t_MOST_FIGURE)))
    {A_COUNTED_WORDS : Addr} {u_COUNTED_WORDS_0 u_COUNTED_WORDS_1 u_COUNTED_WORDS_2 u_COUNTED_WORDS_3 u_COUNTED_WORDS_4 u_COUNTED_WORDS_5 : Tok} {gd_COUNTED_WORDS : Option Addr} {gn_COUNTED_WORDS : Nat} {gs_COUNTED_WORDS : Array (Option Value)} (y_COUNTED_WORDS : PySem.W.nsIn K mainGlobals "COUNTED_WORDS" = some (some (.ref A_COUNTED_WORDS))) (x_COUNTED_WORDS : K.lookup A_COUNTED_WORDS = some ⟨.type "tuple", gd_COUNTED_WORDS, .seq [.str (Str.ofString "grace") u_COUNTED_WORDS_0, .str (Str.ofString "misses") u_COUNTED_WORDS_1, .str (Str.ofString "keep") u_COUNTED_WORDS_2, .str (Str.ofString "fine") u_COUNTED_WORDS_3, .str (Str.ofString "falls") u_COUNTED_WORDS_4, .str (Str.ofString "back") u_COUNTED_WORDS_5].toArray gn_COUNTED_WORDS, gs_COUNTED_WORDS⟩)
    {t_LETTERS : Tok} (y_LETTERS : PySem.W.nsIn K mainGlobals "LETTERS" = some (some (.str (Str.ofString "abcdefghijklmnopqrstuvwxyz") t_LETTERS)))
    {t_LONGEST_NAME : Tok} (y_LONGEST_NAME : PySem.W.nsIn K mainGlobals "LONGEST_NAME" = some (some (.int 8 t_LONGEST_NAME)))
    {A_FORMS : Addr} {ep_FORMS : Nat} {u_FORMS_0 u_FORMS_1 u_FORMS_2 u_FORMS_3 u_FORMS_4 u_FORMS_5 u_FORMS_6 u_FORMS_7 u_FORMS_8 u_FORMS_9 : Tok} {F_FORMS_0 F_FORMS_1 F_FORMS_2 F_FORMS_3 F_FORMS_4 F_FORMS_5 F_FORMS_6 F_FORMS_7 F_FORMS_8 F_FORMS_9 : Addr} (y_FORMS : PySem.W.nsIn K mainGlobals "FORMS" = some (some (.ref A_FORMS))) (s_FORMS : (A_FORMS == sysModules) = false) (x_FORMS : K.lookup A_FORMS = some ⟨.type "dict", none, .dict #[⟨PyData.keyHash w.params (Str.ofString "house"), .str (Str.ofString "house") u_FORMS_0, .ref F_FORMS_0⟩, ⟨PyData.keyHash w.params (Str.ofString "price"), .str (Str.ofString "price") u_FORMS_1, .ref F_FORMS_1⟩, ⟨PyData.keyHash w.params (Str.ofString "ware"), .str (Str.ofString "ware") u_FORMS_2, .ref F_FORMS_2⟩, ⟨PyData.keyHash w.params (Str.ofString "put"), .str (Str.ofString "put") u_FORMS_3, .ref F_FORMS_3⟩, ⟨PyData.keyHash w.params (Str.ofString "pay"), .str (Str.ofString "pay") u_FORMS_4, .ref F_FORMS_4⟩, ⟨PyData.keyHash w.params (Str.ofString "up"), .str (Str.ofString "up") u_FORMS_5, .ref F_FORMS_5⟩, ⟨PyData.keyHash w.params (Str.ofString "leave"), .str (Str.ofString "leave") u_FORMS_6, .ref F_FORMS_6⟩, ⟨PyData.keyHash w.params (Str.ofString "bring"), .str (Str.ofString "bring") u_FORMS_7, .ref F_FORMS_7⟩, ⟨PyData.keyHash w.params (Str.ofString "hand"), .str (Str.ofString "hand") u_FORMS_8, .ref F_FORMS_8⟩, ⟨PyData.keyHash w.params (Str.ofString "settle"), .str (Str.ofString "settle") u_FORMS_9, .ref F_FORMS_9⟩] ep_FORMS, #[]⟩)
    {u_FORMS_0_0 u_FORMS_0_1 : Tok} {gd_FORMS_0 : Option Addr} {gn_FORMS_0 : Nat} {gs_FORMS_0 : Array (Option Value)} (x_FORMS_0 : K.lookup F_FORMS_0 = some ⟨.type "tuple", gd_FORMS_0, .seq [.str (Str.ofString "house") u_FORMS_0_0, .str (Str.ofString "text") u_FORMS_0_1].toArray gn_FORMS_0, gs_FORMS_0⟩)
    {u_FORMS_1_0 u_FORMS_1_1 u_FORMS_1_2 : Tok} {gd_FORMS_1 : Option Addr} {gn_FORMS_1 : Nat} {gs_FORMS_1 : Array (Option Value)} (x_FORMS_1 : K.lookup F_FORMS_1 = some ⟨.type "tuple", gd_FORMS_1, .seq [.str (Str.ofString "house") u_FORMS_1_0, .str (Str.ofString "kind") u_FORMS_1_1, .str (Str.ofString "price") u_FORMS_1_2].toArray gn_FORMS_1, gs_FORMS_1⟩)
    {u_FORMS_2_0 u_FORMS_2_1 u_FORMS_2_2 : Tok} {gd_FORMS_2 : Option Addr} {gn_FORMS_2 : Nat} {gs_FORMS_2 : Array (Option Value)} (x_FORMS_2 : K.lookup F_FORMS_2 = some ⟨.type "tuple", gd_FORMS_2, .seq [.str (Str.ofString "ware") u_FORMS_2_0, .str (Str.ofString "kind") u_FORMS_2_1, .str (Str.ofString "house") u_FORMS_2_2].toArray gn_FORMS_2, gs_FORMS_2⟩)
    {u_FORMS_3_0 u_FORMS_3_1 u_FORMS_3_2 : Tok} {gd_FORMS_3 : Option Addr} {gn_FORMS_3 : Nat} {gs_FORMS_3 : Array (Option Value)} (x_FORMS_3 : K.lookup F_FORMS_3 = some ⟨.type "tuple", gd_FORMS_3, .seq [.str (Str.ofString "house") u_FORMS_3_0, .str (Str.ofString "kind") u_FORMS_3_1, .str (Str.ofString "who") u_FORMS_3_2].toArray gn_FORMS_3, gs_FORMS_3⟩)
    {u_FORMS_4_0 u_FORMS_4_1 : Tok} {gd_FORMS_4 : Option Addr} {gn_FORMS_4 : Nat} {gs_FORMS_4 : Array (Option Value)} (x_FORMS_4 : K.lookup F_FORMS_4 = some ⟨.type "tuple", gd_FORMS_4, .seq [.str (Str.ofString "ware") u_FORMS_4_0, .str (Str.ofString "who") u_FORMS_4_1].toArray gn_FORMS_4, gs_FORMS_4⟩)
    {u_FORMS_5_0 : Tok} {gd_FORMS_5 : Option Addr} {gn_FORMS_5 : Nat} {gs_FORMS_5 : Array (Option Value)} (x_FORMS_5 : K.lookup F_FORMS_5 = some ⟨.type "tuple", gd_FORMS_5, .seq [.str (Str.ofString "ware") u_FORMS_5_0].toArray gn_FORMS_5, gs_FORMS_5⟩)
    {u_FORMS_6_0 u_FORMS_6_1 u_FORMS_6_2 : Tok} {gd_FORMS_6 : Option Addr} {gn_FORMS_6 : Nat} {gs_FORMS_6 : Array (Option Value)} (x_FORMS_6 : K.lookup F_FORMS_6 = some ⟨.type "tuple", gd_FORMS_6, .seq [.str (Str.ofString "house") u_FORMS_6_0, .str (Str.ofString "kind") u_FORMS_6_1, .str (Str.ofString "who") u_FORMS_6_2].toArray gn_FORMS_6, gs_FORMS_6⟩)
    {u_FORMS_7_0 : Tok} {gd_FORMS_7 : Option Addr} {gn_FORMS_7 : Nat} {gs_FORMS_7 : Array (Option Value)} (x_FORMS_7 : K.lookup F_FORMS_7 = some ⟨.type "tuple", gd_FORMS_7, .seq [.str (Str.ofString "ware") u_FORMS_7_0].toArray gn_FORMS_7, gs_FORMS_7⟩)
    {u_FORMS_8_0 u_FORMS_8_1 : Tok} {gd_FORMS_8 : Option Addr} {gn_FORMS_8 : Nat} {gs_FORMS_8 : Array (Option Value)} (x_FORMS_8 : K.lookup F_FORMS_8 = some ⟨.type "tuple", gd_FORMS_8, .seq [.str (Str.ofString "house") u_FORMS_8_0, .str (Str.ofString "house") u_FORMS_8_1].toArray gn_FORMS_8, gs_FORMS_8⟩)
    {u_FORMS_9_0 u_FORMS_9_1 u_FORMS_9_2 : Tok} {gd_FORMS_9 : Option Addr} {gn_FORMS_9 : Nat} {gs_FORMS_9 : Array (Option Value)} (x_FORMS_9 : K.lookup F_FORMS_9 = some ⟨.type "tuple", gd_FORMS_9, .seq [.str (Str.ofString "house") u_FORMS_9_0, .str (Str.ofString "house") u_FORMS_9_1, .str (Str.ofString "debt") u_FORMS_9_2].toArray gn_FORMS_9, gs_FORMS_9⟩)
    {A_NAMED_SORTS : Addr} {u_NAMED_SORTS_0 u_NAMED_SORTS_1 u_NAMED_SORTS_2 u_NAMED_SORTS_3 : Tok} {gd_NAMED_SORTS : Option Addr} {gn_NAMED_SORTS : Nat} {gs_NAMED_SORTS : Array (Option Value)} (y_NAMED_SORTS : PySem.W.nsIn K mainGlobals "NAMED_SORTS" = some (some (.ref A_NAMED_SORTS))) (x_NAMED_SORTS : K.lookup A_NAMED_SORTS = some ⟨.type "tuple", gd_NAMED_SORTS, .seq [.str (Str.ofString "house") u_NAMED_SORTS_0, .str (Str.ofString "kind") u_NAMED_SORTS_1, .str (Str.ofString "ware") u_NAMED_SORTS_2, .str (Str.ofString "who") u_NAMED_SORTS_3].toArray gn_NAMED_SORTS, gs_NAMED_SORTS⟩)
    {t_MOST_PRICE : Tok} (y_MOST_PRICE : PySem.W.nsIn K mainGlobals "MOST_PRICE" = some (some (.int 1000000 t_MOST_PRICE)))
    {t_MOST_DEBT : Tok} (y_MOST_DEBT : PySem.W.nsIn K mainGlobals "MOST_DEBT" = some (some (.int 100000000 t_MOST_DEBT)))
    {t_CROWN : Tok} (y_CROWN : PySem.W.nsIn K mainGlobals "CROWN" = some (some (.int 60 t_CROWN)))
    {t_LONGEST_SUM : Tok} (y_LONGEST_SUM : PySem.W.nsIn K mainGlobals "LONGEST_SUM" = some (some (.int 60 t_LONGEST_SUM)))
    {t_MOST_PENCE : Tok} (y_MOST_PENCE : PySem.W.nsIn K mainGlobals "MOST_PENCE" = some (some (.int 1000000000 t_MOST_PENCE)))
    {A_PENCE_SORTS : Addr} {u_PENCE_SORTS_0 u_PENCE_SORTS_1 : Tok} {gd_PENCE_SORTS : Option Addr} {gn_PENCE_SORTS : Nat} {gs_PENCE_SORTS : Array (Option Value)} (y_PENCE_SORTS : PySem.W.nsIn K mainGlobals "PENCE_SORTS" = some (some (.ref A_PENCE_SORTS))) (x_PENCE_SORTS : K.lookup A_PENCE_SORTS = some ⟨.type "tuple", gd_PENCE_SORTS, .seq [.str (Str.ofString "price") u_PENCE_SORTS_0, .str (Str.ofString "debt") u_PENCE_SORTS_1].toArray gn_PENCE_SORTS, gs_PENCE_SORTS⟩)
    (zD : PySem.W.nsIn K cStatics "sys.int_max_str_digits" = some none) :
    ∃ fd : FuncData, (∀ (s : Shared) (v : Value), BindsTo s fd ⟨[v], []⟩ [("_law_script", v)]) ∧ ∀ base : Heap, K.In base → base.Ns mainGlobals mg → FnOk l.prog w K mg base CX0 13 fa fd ["_law_script"] (sp_law K) := by
  have e := hfa.symm.trans (PySem.W.mg_of X G a34)
  cases e
  have T_Rule : TRule K mg CR := ⟨⟨pg, hd, po, sa⟩, n1, n2, n3, n4, n5, n6, n7, n8, n9⟩
  have gC := PySem.W.mg_of X G aC
  have q_no : ∀ T ∈ (["int", "bool", "str", "NoneType", "list", "tuple"] : List String), PySem.W.kitOne K (.type T) (.ref CR) = some false := fun T h => by
    rcases six_of h with rfl | rfl | rfl | rfl | rfl | rfl
    · exact kit_tr q_ic q_ty q_b0
    · exact kit_tr q_ic q_ty q_b1
    · exact kit_tr q_ic q_ty q_b2
    · exact kit_tr q_ic q_ty q_b3
    · exact kit_tr q_ic q_ty q_b4
    · exact kit_tr q_ic q_ty q_b5
  have q_tys : ∀ T ∈ (["int", "bool", "str", "NoneType", "list", "tuple"] : List String), PySem.W.subIn K (.ref CR) (.type T) = some false ∧ PySem.W.subIn K (.type T) (.ref CR) = some false := fun T h => by
    rcases six_of h with rfl | rfl | rfl | rfl | rfl | rfl
    · exact ⟨q_s0, q_b0⟩
    · exact ⟨q_s1, q_b1⟩
    · exact ⟨q_s2, q_b2⟩
    · exact ⟨q_s3, q_b3⟩
    · exact ⟨q_s4, q_b4⟩
    · exact ⟨q_s5, q_b5⟩
  have TQ : TEq K mg CR "Rule" := ⟨gC, q_ca, q_cn, q_ct, q_ob, kit_self, q_no⟩
  have OxB0 : OexC K CE0 := ⟨⟨_, _, _, _, _, _, _, _, _, _, _, _, _, _, _, xoB0, xrB0⟩, e_0_sa, e_0_sb, e_0_ty, e_0_kp⟩
  have OxB1 : OexC K CE1 := ⟨⟨_, _, _, _, _, _, _, _, _, _, _, _, _, _, _, xoB1, xrB1⟩, e_1_sa, e_1_sb, e_1_ty, e_1_kp⟩
  have TB : TB2 K mg (⟨CE0, CE1⟩ : CB2) := ⟨PySem.W.mg_of X G e_0, PySem.W.mg_of X G e_1, PySem.W.exm_ref e_0_sb e_0_hd e_0_ty e_0_s0, PySem.W.exm_ref e_1_sb e_1_hd e_1_ty e_1_s1⟩
  have F0 := fun_mk (st := s_is_number_in) l0 c0 k0
  have b0 := F0.binds (ps := ["thing", "low", "high"]) fun _ _ _ _ _ _ us hl => match us, hl with | [_, _, _], _ => rfl
  have g0 := PySem.W.mg_of X G a0
  have F1 := fun_mk (st := s_may_be_kept) l1 c1 k1
  have b1 := F1.binds (ps := ["keep", "parts"]) fun _ _ _ _ _ _ us hl => match us, hl with | [_, _], _ => rfl
  have g1 := PySem.W.mg_of X G a1
  have F2 := fun_mk (st := s_wrong_figure) l2 c2 k2
  have b2 := F2.binds (ps := ["parts", "step", "grace", "last", "misses", "keep", "fine", "falls", "back"]) fun _ _ _ _ _ _ us hl => match us, hl with | [_, _, _, _, _, _, _, _, _], _ => rfl
  have g2 := PySem.W.mg_of X G a2
  have F3 : FunD K "__init__" "Rule.__init__" (defArgs s_Rule___init__) (defBody s_Rule___init__) (defScope s_Rule___init__) [.int 0, .bl false, .int 0, .int 0, .int 0, .int 0, .int 0] [] f3 _ := ⟨⟨oc3, od3, _, kV3, dc3, pm3, an3, cd3, ct3, sl3, rfl, l3, c3, .inr ⟨by simp, D3, _, _, dn3, rfl, d3, rfl, (.cons ⟨_, rfl⟩ (.cons rfl (.cons ⟨_, rfl⟩ (.cons ⟨_, rfl⟩ (.cons ⟨_, rfl⟩ (.cons ⟨_, rfl⟩ (.cons ⟨_, rfl⟩ .nil)))))))⟩, .inl rfl⟩, k3⟩
  have F4 : FunD K "figures" "Rule.figures" (defArgs s_Rule_figures) (defBody s_Rule_figures) (defScope s_Rule_figures) [] [] f4 _ := ⟨⟨oc4, od4, _, kV4, dc4, pm4, an4, cd4, ct4, sl4, rfl, l4, c4, .inl ⟨rfl, rfl⟩, .inl rfl⟩, k4⟩
  have F5 := fun_mk (st := s_counted) l5 c5 k5
  have b5 := F5.binds (ps := ["word", "number"]) fun _ _ _ _ _ _ us hl => match us, hl with | [_, _], _ => rfl
  have g5 := PySem.W.mg_of X G a5
  have F6 := fun_mk (st := s_kept_clause) l6 c6 k6
  have b6 := F6.binds (ps := ["keep"]) fun _ _ _ _ _ _ us hl => match us, hl with | [_], _ => rfl
  have g6 := PySem.W.mg_of X G a6
  have F7 := fun_mk (st := s_clauses_of) l7 c7 k7
  have b7 := F7.binds (ps := ["figures"]) fun _ _ _ _ _ _ us hl => match us, hl with | [_], _ => rfl
  have g7 := PySem.W.mg_of X G a7
  have F8 : FunD K "__str__" "Rule.__str__" (defArgs s_Rule___str__) (defBody s_Rule___str__) (defScope s_Rule___str__) [] [] f8 _ := ⟨⟨oc8, od8, _, kV8, dc8, pm8, an8, cd8, ct8, sl8, rfl, l8, c8, .inl ⟨rfl, rfl⟩, .inl rfl⟩, k8⟩
  have F9 : FunD K "__eq__" "Rule.__eq__" (defArgs s_Rule___eq__) (defBody s_Rule___eq__) (defScope s_Rule___eq__) [] [] f9 _ := ⟨⟨oc9, od9, _, kV9, dc9, pm9, an9, cd9, ct9, sl9, rfl, l9, c9, .inl ⟨rfl, rfl⟩, .inl rfl⟩, k9⟩
  have F10 := fun_mk (st := s_is_made_of) l10 c10 k10
  have b10 := F10.binds (ps := ["text", "signs"]) fun _ _ _ _ _ _ us hl => match us, hl with | [_, _], _ => rfl
  have g10 := PySem.W.mg_of X G a10
  have F11 := fun_mk (st := s_number_in) l11 c11 k11
  have b11 := F11.binds (ps := ["text", "most"]) fun _ _ _ _ _ _ us hl => match us, hl with | [_, _], _ => rfl
  have g11 := PySem.W.mg_of X G a11
  have F12 := fun_mk (st := s_rule_text) l12 c12 k12
  have b12 := F12.binds (ps := ["rule"]) fun _ _ _ _ _ _ us hl => match us, hl with | [_], _ => rfl
  have g12 := PySem.W.mg_of X G a12
  have F13 := fun_mk (st := s_rule_of) l13 c13 k13
  have b13 := F13.binds (ps := ["figures"]) fun _ _ _ _ _ _ us hl => match us, hl with | [_], _ => rfl
  have g13 := PySem.W.mg_of X G a13
  have F14 := fun_mk (st := s_figures_in) l14 c14 k14
  have b14 := F14.binds (ps := ["clause"]) fun _ _ _ _ _ _ us hl => match us, hl with | [_], _ => rfl
  have g14 := PySem.W.mg_of X G a14
  have F15 := fun_mk (st := s_read_rule) l15 c15 k15
  have b15 := F15.binds (ps := ["text"]) fun _ _ _ _ _ _ us hl => match us, hl with | [_], _ => rfl
  have g15 := PySem.W.mg_of X G a15
  have F16 := fun_mk (st := s_is_name) l16 c16 k16
  have b16 := F16.binds (ps := ["thing"]) fun _ _ _ _ _ _ us hl => match us, hl with | [_], _ => rfl
  have g16 := PySem.W.mg_of X G a16
  have F17 := fun_mk (st := s_names_in) l17 c17 k17
  have b17 := F17.binds (ps := ["deed"]) fun _ _ _ _ _ _ us hl => match us, hl with | [_], _ => rfl
  have g17 := PySem.W.mg_of X G a17
  have F18 := fun_mk (st := s_is_rule_text) l18 c18 k18
  have b18 := F18.binds (ps := ["text"]) fun _ _ _ _ _ _ us hl => match us, hl with | [_], _ => rfl
  have g18 := PySem.W.mg_of X G a18
  have F19 := fun_mk (st := s_is_of_sort) l19 c19 k19
  have b19 := F19.binds (ps := ["thing", "sort"]) fun _ _ _ _ _ _ us hl => match us, hl with | [_, _], _ => rfl
  have g19 := PySem.W.mg_of X G a19
  have F20 := fun_mk (st := s_is_deed) l20 c20 k20
  have b20 := F20.binds (ps := ["thing"]) fun _ _ _ _ _ _ us hl => match us, hl with | [_], _ => rfl
  have g20 := PySem.W.mg_of X G a20
  have F21 := fun_mk (st := s_pence_text) l21 c21 k21
  have b21 := F21.binds (ps := ["pence"]) fun _ _ _ _ _ _ us hl => match us, hl with | [_], _ => rfl
  have g21 := PySem.W.mg_of X G a21
  have F22 := fun_mk (st := s_pence_in) l22 c22 k22
  have b22 := F22.binds (ps := ["text"]) fun _ _ _ _ _ _ us hl => match us, hl with | [_], _ => rfl
  have g22 := PySem.W.mg_of X G a22
  have F23 := fun_mk (st := s_deed_text) l23 c23 k23
  have b23 := F23.binds (ps := ["deed"]) fun _ _ _ _ _ _ us hl => match us, hl with | [_], _ => rfl
  have g23 := PySem.W.mg_of X G a23
  have F24 := fun_mk (st := s_deed_in) l24 c24 k24
  have b24 := F24.binds (ps := ["text"]) fun _ _ _ _ _ _ us hl => match us, hl with | [_], _ => rfl
  have g24 := PySem.W.mg_of X G a24
  have F25 := fun_mk (st := s__law_take) l25 c25 k25
  have b25 := F25.binds (ps := ["_law_box_here", "_law_many"]) fun _ _ _ _ _ _ us hl => match us, hl with | [_, _], _ => rfl
  have g25 := PySem.W.mg_of X G a25
  have F26 := fun_mk (st := s__law_box) l26 c26 k26
  have b26 := F26.binds (ps := ["_law_script", "_law_k"]) fun _ _ _ _ _ _ us hl => match us, hl with | [_, _], _ => rfl
  have g26 := PySem.W.mg_of X G a26
  have F27 := fun_mk (st := s__law_names) l27 c27 k27
  have b27 := F27.binds (ps := ["_law_box_here", "_law_many"]) fun _ _ _ _ _ _ us hl => match us, hl with | [_, _], _ => rfl
  have g27 := PySem.W.mg_of X G a27
  have F28 := fun_mk (st := s__law_clauses) l28 c28 k28
  have b28 := F28.binds (ps := ["_law_box_here"]) fun _ _ _ _ _ _ us hl => match us, hl with | [_], _ => rfl
  have g28 := PySem.W.mg_of X G a28
  have F29 := fun_mk (st := s__law_pick) l29 c29 k29
  have b29 := F29.binds (ps := ["_law_box_here", "_law_some"]) fun _ _ _ _ _ _ us hl => match us, hl with | [_, _], _ => rfl
  have g29 := PySem.W.mg_of X G a29
  have F30 := fun_mk (st := s__law_forms) l30 c30 k30
  have b30 := F30.binds (ps := []) fun _ _ _ _ _ _ us hl => match us, hl with | [], _ => rfl
  have g30 := PySem.W.mg_of X G a30
  have F31 := fun_mk (st := s__law_deed) l31 c31 k31
  have b31 := F31.binds (ps := ["_law_box_here", "_law_names_here"]) fun _ _ _ _ _ _ us hl => match us, hl with | [_, _], _ => rfl
  have g31 := PySem.W.mg_of X G a31
  have F32 := fun_mk (st := s__law_same) l32 c32 k32
  have b32 := F32.binds (ps := ["_law_found", "_law_due"]) fun _ _ _ _ _ _ us hl => match us, hl with | [_, _], _ => rfl
  have g32 := PySem.W.mg_of X G a32
  have F33 := fun_mk (st := s__law_written) l33 c33 k33
  have b33 := F33.binds (ps := ["_law_deed_here"]) fun _ _ _ _ _ _ us hl => match us, hl with | [_], _ => rfl
  have g33 := PySem.W.mg_of X G a33
  have F34 := fun_mk (st := s_law) l34 c34 k34
  have m_isinstance := PySem.W.mg_none_of X G z_isinstance
  have m_bool := PySem.W.mg_none_of X G z_bool
  have m_int := PySem.W.mg_none_of X G z_int
  have m_tuple := PySem.W.mg_none_of X G z_tuple
  have m_all := PySem.W.mg_none_of X G z_all
  have m_len := PySem.W.mg_none_of X G z_len
  have m_set := PySem.W.mg_none_of X G z_set
  have m_str := PySem.W.mg_none_of X G z_str
  have m_enumerate := PySem.W.mg_none_of X G z_enumerate
  have m_zip := PySem.W.mg_none_of X G z_zip
  have m_divmod := PySem.W.mg_none_of X G z_divmod
  have m_abs := PySem.W.mg_none_of X G z_abs
  have m_range := PySem.W.mg_none_of X G z_range
  have m_list := PySem.W.mg_none_of X G z_list
  have m_min := PySem.W.mg_none_of X G z_min
  have m_super := PySem.W.mg_none_of X G z_super
  have g_FIGURES := PySem.W.mg_of X G y_FIGURES
  have g_MOST_FIGURE := PySem.W.mg_of X G y_MOST_FIGURE
  have g_COUNTED_WORDS := PySem.W.mg_of X G y_COUNTED_WORDS
  have q_COUNTED_WORDS : ∀ H, SqT K H A_COUNTED_WORDS [.str (Str.ofString "grace"), .str (Str.ofString "misses"), .str (Str.ofString "keep"), .str (Str.ofString "fine"), .str (Str.ofString "falls"), .str (Str.ofString "back")] := fun H => .inr ⟨_, _, _, x_COUNTED_WORDS, rfl, rfl, (by show 6 ≤ sizeLine; decide), (.cons ⟨_, rfl⟩ (.cons ⟨_, rfl⟩ (.cons ⟨_, rfl⟩ (.cons ⟨_, rfl⟩ (.cons ⟨_, rfl⟩ (.cons ⟨_, rfl⟩ .nil))))))⟩
  have g_LETTERS := PySem.W.mg_of X G y_LETTERS
  have g_LONGEST_NAME := PySem.W.mg_of X G y_LONGEST_NAME
  have g_FORMS := PySem.W.mg_of X G y_FORMS
  have q_FORMS : KTab w K A_FORMS tab_FORMS := ⟨s_FORMS, ⟨_, _, _, x_FORMS, ⟨rfl, rfl, rfl⟩, rfl, (.cons ⟨rfl, ⟨_, rfl⟩, ⟨_, rfl, _, _, _, x_FORMS_0, rfl, rfl, (by show 2 ≤ sizeLine; decide), (.cons ⟨_, rfl⟩ (.cons ⟨_, rfl⟩ .nil))⟩⟩ (.cons ⟨rfl, ⟨_, rfl⟩, ⟨_, rfl, _, _, _, x_FORMS_1, rfl, rfl, (by show 3 ≤ sizeLine; decide), (.cons ⟨_, rfl⟩ (.cons ⟨_, rfl⟩ (.cons ⟨_, rfl⟩ .nil)))⟩⟩ (.cons ⟨rfl, ⟨_, rfl⟩, ⟨_, rfl, _, _, _, x_FORMS_2, rfl, rfl, (by show 3 ≤ sizeLine; decide), (.cons ⟨_, rfl⟩ (.cons ⟨_, rfl⟩ (.cons ⟨_, rfl⟩ .nil)))⟩⟩ (.cons ⟨rfl, ⟨_, rfl⟩, ⟨_, rfl, _, _, _, x_FORMS_3, rfl, rfl, (by show 3 ≤ sizeLine; decide), (.cons ⟨_, rfl⟩ (.cons ⟨_, rfl⟩ (.cons ⟨_, rfl⟩ .nil)))⟩⟩ (.cons ⟨rfl, ⟨_, rfl⟩, ⟨_, rfl, _, _, _, x_FORMS_4, rfl, rfl, (by show 2 ≤ sizeLine; decide), (.cons ⟨_, rfl⟩ (.cons ⟨_, rfl⟩ .nil))⟩⟩ (.cons ⟨rfl, ⟨_, rfl⟩, ⟨_, rfl, _, _, _, x_FORMS_5, rfl, rfl, (by show 1 ≤ sizeLine; decide), (.cons ⟨_, rfl⟩ .nil)⟩⟩ (.cons ⟨rfl, ⟨_, rfl⟩, ⟨_, rfl, _, _, _, x_FORMS_6, rfl, rfl, (by show 3 ≤ sizeLine; decide), (.cons ⟨_, rfl⟩ (.cons ⟨_, rfl⟩ (.cons ⟨_, rfl⟩ .nil)))⟩⟩ (.cons ⟨rfl, ⟨_, rfl⟩, ⟨_, rfl, _, _, _, x_FORMS_7, rfl, rfl, (by show 1 ≤ sizeLine; decide), (.cons ⟨_, rfl⟩ .nil)⟩⟩ (.cons ⟨rfl, ⟨_, rfl⟩, ⟨_, rfl, _, _, _, x_FORMS_8, rfl, rfl, (by show 2 ≤ sizeLine; decide), (.cons ⟨_, rfl⟩ (.cons ⟨_, rfl⟩ .nil))⟩⟩ (.cons ⟨rfl, ⟨_, rfl⟩, ⟨_, rfl, _, _, _, x_FORMS_9, rfl, rfl, (by show 3 ≤ sizeLine; decide), (.cons ⟨_, rfl⟩ (.cons ⟨_, rfl⟩ (.cons ⟨_, rfl⟩ .nil)))⟩⟩ .nil))))))))))⟩, by decide +kernel⟩
  have g_NAMED_SORTS := PySem.W.mg_of X G y_NAMED_SORTS
  have q_NAMED_SORTS : ∀ H, SqT K H A_NAMED_SORTS [.str (Str.ofString "house"), .str (Str.ofString "kind"), .str (Str.ofString "ware"), .str (Str.ofString "who")] := fun H => .inr ⟨_, _, _, x_NAMED_SORTS, rfl, rfl, (by show 4 ≤ sizeLine; decide), (.cons ⟨_, rfl⟩ (.cons ⟨_, rfl⟩ (.cons ⟨_, rfl⟩ (.cons ⟨_, rfl⟩ .nil))))⟩
  have g_MOST_PRICE := PySem.W.mg_of X G y_MOST_PRICE
  have g_MOST_DEBT := PySem.W.mg_of X G y_MOST_DEBT
  have g_CROWN := PySem.W.mg_of X G y_CROWN
  have g_LONGEST_SUM := PySem.W.mg_of X G y_LONGEST_SUM
  have g_MOST_PENCE := PySem.W.mg_of X G y_MOST_PENCE
  have g_PENCE_SORTS := PySem.W.mg_of X G y_PENCE_SORTS
  have q_PENCE_SORTS : ∀ H, SqT K H A_PENCE_SORTS [.str (Str.ofString "price"), .str (Str.ofString "debt")] := fun H => .inr ⟨_, _, _, x_PENCE_SORTS, rfl, rfl, (by show 2 ≤ sizeLine; decide), (.cons ⟨_, rfl⟩ (.cons ⟨_, rfl⟩ .nil))⟩
  refine ⟨PySem.W.fnOf "law" "law" (defArgs s_law) (defBody s_law) (defScope s_law) .none kV34 dc34 pm34 an34 cd34 ct34, fun s v => .of_eq rfl, fun base _ _ => ?_⟩
  have OB0 := sup_fn (P := l.prog) (w := w) (mg := mg) (base := base) (CX := CX0) (k := 0) (fld := "word") lB0 cB0 sc_B0 OxB0 e_0_nwf hcellB0 hcodeB0 hvsB0 hfileB0 m_super htopB (by rfl) rfl rfl hopB (fun env => ⟨_, rfl⟩) (by decide) (by decide) hsiB0
  have X0 : CEv l.prog w K mg base CE0 1 "BadRule" "word" := ⟨fB0, _, OB0, OxB0, e_0_ini, e_0_tf, Binds.all (fun us hl => match us, hl with | [_, _], _ => rfl), PySem.W.mg_of X G e_0, fun s a u => .of_eq rfl⟩
  have OB1 := sup_fn (P := l.prog) (w := w) (mg := mg) (base := base) (CX := CX0) (k := 0) (fld := "place") lB1 cB1 sc_B1 OxB1 e_1_nwf hcellB1 hcodeB1 hvsB1 hfileB1 m_super htopB (by rfl) rfl rfl hopB (fun env => ⟨_, rfl⟩) (by decide) (by decide) hsiB1
  have X1 : CEv l.prog w K mg base CE1 1 "BadClause" "place" := ⟨fB1, _, OB1, OxB1, e_1_ini, e_1_tf, Binds.all (fun us hl => match us, hl with | [_, _], _ => rfl), PySem.W.mg_of X G e_1, fun s a u => .of_eq rfl⟩
  have C_is_number_in := ok_is_number_in (P := l.prog) (w := w) (base := base) F0 g0 b0 m_isinstance m_bool m_int
  have C_may_be_kept := ok_may_be_kept (P := l.prog) (w := w) (base := base) F1 g1 b1 m_isinstance m_tuple m_all m_len C_is_number_in
  have C_wrong_figure := ok_wrong_figure (P := l.prog) (w := w) (base := base) F2 g2 b2 m_isinstance m_bool C_is_number_in C_may_be_kept
  have O3 := ok_Rule___init__ (P := l.prog) (w := w) (base := base) (C2 := (⟨CE0, CE1⟩ : CB2)) TB X0 X1 TQ T_Rule m_isinstance m_tuple C_wrong_figure F3
  obtain ⟨its_S_Rule, rd_S_Rule, hl_S_Rule, sb_S_Rule⟩ := KWS.starK F3 (me := "self") (req := ["parts", "step"]) (opts := ["grace", "last", "misses", "keep", "fine", "falls", "back"]) (by simp) rfl rfl rfl rfl rfl rfl (by decide +kernel)
  have S_Rule : KWS.CMkS (L2.CX l.prog w) l.prog w K mg base CR 4 "Rule" "self" ["parts", "step"] ["grace", "last", "misses", "keep", "fine", "falls", "back"] [.int 0, .bl false, .int 0, .int 0, .int 0, .int 0, .int 0] (sp_Rule___init__ K (⟨CE0, CE1⟩ : CB2) CR) := ⟨_, _, its_S_Rule, O3, ⟨mk, a3, i3, kc⟩, gC, rd_S_Rule, hl_S_Rule, sb_S_Rule⟩
  have O4 := ok_Rule_figures (P := l.prog) (w := w) (base := base) TQ T_Rule F4
  have b_C_Rule_figures_0 := F4.bindsN (ps := ["self"]) fun kV doc pm an cdv ct us h => match us, h with | [_], _ => rfl
  have C_Rule_figures_0 : CMt l.prog w K mg base CR 1 "figures" ["self"] [] (sp_Rule_figures K CR) := ⟨_, _, [], O4, ⟨a4, i4, k4⟩, .nil, b_C_Rule_figures_0⟩
  have C_counted := ok_counted (P := l.prog) (w := w) (base := base) F5 g5 b5
  have C_kept_clause := ok_kept_clause (P := l.prog) (w := w) (base := base) F6 g6 b6 m_len m_set m_str C_counted
  have C_clauses_of := ok_clauses_of (P := l.prog) (w := w) (base := base) F7 g7 b7 C_counted C_kept_clause
  have O8 := ok_Rule___str__ (P := l.prog) (w := w) (base := base) TQ T_Rule C_clauses_of C_Rule_figures_0 F8
  have b_C_Rule___str___0 := F8.bindsN (ps := ["self"]) fun kV doc pm an cdv ct us h => match us, h with | [_], _ => rfl
  have C_Rule___str___0 : CTx l.prog w K mg base CR 4 "__str__" (sp_Rule___str__ K CR) := ⟨_, _, O8, ⟨a8, i8⟩, b_C_Rule___str___0⟩
  have O9 := ok_Rule___eq__ (P := l.prog) (w := w) (base := base) TQ T_Rule m_isinstance C_Rule_figures_0 F9
  have C_is_made_of := ok_is_made_of (P := l.prog) (w := w) (base := base) F10 g10 b10 m_all
  have C_number_in := ok_number_in (P := l.prog) (w := w) (base := base) F11 g11 b11 m_len m_str m_int g_FIGURES C_is_made_of
  have C_rule_text := ok_rule_text (P := l.prog) (w := w) (base := base) F12 g12 b12 TQ T_Rule m_str C_Rule___str___0
  have C_rule_of := ok_rule_of (P := l.prog) (w := w) (base := base) (C2 := (⟨CE0, CE1⟩ : CB2)) F13 g13 b13 TB X0 X1 TQ T_Rule S_Rule
  have C_figures_in := ok_figures_in (P := l.prog) (w := w) (base := base) F14 g14 b14 m_len m_tuple g_MOST_FIGURE g_COUNTED_WORDS q_COUNTED_WORDS C_number_in
  have C_read_rule := ok_read_rule (P := l.prog) (w := w) (base := base) (C2 := (⟨CE0, CE1⟩ : CB2)) F15 g15 b15 TB X0 X1 TQ T_Rule m_enumerate C_figures_in C_rule_of C_rule_text
  have C_is_name := ok_is_name (P := l.prog) (w := w) (base := base) F16 g16 b16 m_len m_isinstance m_str g_LETTERS g_LONGEST_NAME C_is_made_of
  have C_names_in := ok_names_in (P := l.prog) (w := w) (base := base) F17 g17 b17 m_zip g_FORMS q_FORMS g_NAMED_SORTS q_NAMED_SORTS
  have C_is_rule_text := ok_is_rule_text (P := l.prog) (w := w) (base := base) (C2 := (⟨CE0, CE1⟩ : CB2)) F18 g18 b18 TB X0 X1 TQ T_Rule C_read_rule
  have C_is_of_sort := ok_is_of_sort (P := l.prog) (w := w) (base := base) (C2 := (⟨CE0, CE1⟩ : CB2)) F19 g19 b19 TB X0 X1 TQ T_Rule m_isinstance m_str g_MOST_PRICE g_MOST_DEBT C_is_rule_text C_is_number_in C_is_name
  have C_is_deed := ok_is_deed (P := l.prog) (w := w) (base := base) (C2 := (⟨CE0, CE1⟩ : CB2)) F20 g20 b20 TB X0 X1 TQ T_Rule m_isinstance m_str m_len m_tuple m_all m_zip m_set g_FORMS q_FORMS C_is_of_sort C_names_in
  have C_pence_text := ok_pence_text (P := l.prog) (w := w) (base := base) F21 g21 b21 zD m_divmod g_CROWN
  have C_pence_in := ok_pence_in (P := l.prog) (w := w) (base := base) F22 g22 b22 m_len m_int g_LONGEST_SUM g_FIGURES g_CROWN g_MOST_PENCE C_is_made_of C_pence_text
  have C_deed_text := ok_deed_text (P := l.prog) (w := w) (base := base) F23 g23 b23 m_isinstance m_int C_pence_text
  have C_deed_in := ok_deed_in (P := l.prog) (w := w) (base := base) (C2 := (⟨CE0, CE1⟩ : CB2)) F24 g24 b24 TB X0 X1 TQ T_Rule m_len m_zip g_FORMS q_FORMS g_PENCE_SORTS q_PENCE_SORTS C_pence_in C_is_deed
  have C__law_take := ok__law_take (P := l.prog) (w := w) (base := base) F25 g25 b25
  have C__law_box := ok__law_box (P := l.prog) (w := w) (base := base) F26 g26 b26 m_len m_abs m_int
  have C__law_names := ok__law_names (P := l.prog) (w := w) (base := base) F27 g27 b27 m_range m_len C__law_take
  have C__law_clauses := ok__law_clauses (P := l.prog) (w := w) (base := base) F28 g28 b28 m_str m_range m_len m_set C__law_take
  have C__law_pick := ok__law_pick (P := l.prog) (w := w) (base := base) F29 g29 b29 m_len C__law_take
  have C__law_forms := ok__law_forms (P := l.prog) (w := w) (base := base) F30 g30 b30
  have C__law_deed := ok__law_deed (P := l.prog) (w := w) (base := base) F31 g31 b31 m_list m_range m_tuple m_len C__law_pick C__law_clauses C__law_take C__law_forms
  have C__law_same := ok__law_same (P := l.prog) (w := w) (base := base) F32 g32 b32 m_isinstance m_bool m_tuple m_list m_all m_zip m_len m_str m_int
  have C__law_written := ok__law_written (P := l.prog) (w := w) (base := base) F33 g33 b33 m_isinstance m_str
  exact ok_law (C2 := (⟨CE0, CE1⟩ : CB2)) F34 TB X0 X1 TQ T_Rule m_range m_min m_len m_isinstance m_str C__law_box C__law_names C__law_deed C_deed_text C__law_same C_deed_in C__law_written
end Pw
open PySem PySem.W PyProof.Rows
set_option maxHeartbeats 0 in
theorem PySem.Challenge.cw_partwares_k68_deeds_as_texts_holds : PySem.Challenge.rw_partwares_k68_deeds_as_texts.Holds := by
  w_on; o_law; k_head; (case hw => w_witness2)
  k_fill
  refine L2.walk_of (l := PySem.Challenge.rw_partwares_k68_deeds_as_texts) (n := 63) (k := 13) (x := "_law_script") (CX := fun _ => L2.CX0) (sp := fun w => Pw.sp_law _) rfl (by decide) rfl ⟨rfl, by decide, by decide⟩ (fun w h Y => PySem.W.kIn_of Y) ?F (fun _ _ a ns hl _ hS => ⟨a, ns, rfl, hS, hl, fun _ => rfl⟩) (fun _ _ _ _ _ h => h)
  case F =>
    intro w mg fa h KX G hmg
    refine' Pw.all_mk KX G hmg ?aC ?pg ?hd ?po ?sa ?mk ?kc ?n1 ?n2 ?n3 ?n4 ?n5 ?n6 ?n7 ?n8 ?n9 ?q_ca ?q_cn ?q_ct ?q_ob ?q_ne ?q_ty ?q_ic ?q_s0 ?q_b0 ?q_s1 ?q_b1 ?q_s2 ?q_b2 ?q_s3 ?q_b3 ?q_s4 ?q_b4 ?q_s5 ?q_b5 ?e_0 ?e_1 ?e_0_ty ?e_0_sb ?e_0_hd ?e_0_kp ?e_0_s0 ?e_1_ty ?e_1_sb ?e_1_hd ?e_1_kp ?e_1_s1 ?hopB ?htopB ?e_0_sa ?e_0_nwf ?e_0_ini ?e_0_tf ?xoB0 ?xrB0 ?lB0 ?cB0 ?hcellB0 ?hcodeB0 ?hvsB0 ?hfileB0 ?hsiB0 ?e_1_sa ?e_1_nwf ?e_1_ini ?e_1_tf ?xoB1 ?xrB1 ?lB1 ?cB1 ?hcellB1 ?hcodeB1 ?hvsB1 ?hfileB1 ?hsiB1 ?a0 ?l0 ?c0 ?k0 ?a1 ?l1 ?c1 ?k1 ?a2 ?l2 ?c2 ?k2 ?a3 ?l3 ?c3 ?k3 ?i3 ?d3 ?a4 ?l4 ?c4 ?k4 ?i4 ?a5 ?l5 ?c5 ?k5 ?a6 ?l6 ?c6 ?k6 ?a7 ?l7 ?c7 ?k7 ?a8 ?l8 ?c8 ?k8 ?i8 ?a9 ?l9 ?c9 ?k9 ?i9 ?a10 ?l10 ?c10 ?k10 ?a11 ?l11 ?c11 ?k11 ?a12 ?l12 ?c12 ?k12 ?a13 ?l13 ?c13 ?k13 ?a14 ?l14 ?c14 ?k14 ?a15 ?l15 ?c15 ?k15 ?a16 ?l16 ?c16 ?k16 ?a17 ?l17 ?c17 ?k17 ?a18 ?l18 ?c18 ?k18 ?a19 ?l19 ?c19 ?k19 ?a20 ?l20 ?c20 ?k20 ?a21 ?l21 ?c21 ?k21 ?a22 ?l22 ?c22 ?k22 ?a23 ?l23 ?c23 ?k23 ?a24 ?l24 ?c24 ?k24 ?a25 ?l25 ?c25 ?k25 ?a26 ?l26 ?c26 ?k26 ?a27 ?l27 ?c27 ?k27 ?a28 ?l28 ?c28 ?k28 ?a29 ?l29 ?c29 ?k29 ?a30 ?l30 ?c30 ?k30 ?a31 ?l31 ?c31 ?k31 ?a32 ?l32 ?c32 ?k32 ?a33 ?l33 ?c33 ?k33 ?a34 ?l34 ?c34 ?k34 ?z_isinstance ?z_bool ?z_int ?z_tuple ?z_all ?z_len ?z_set ?z_str ?z_enumerate ?z_zip ?z_divmod ?z_abs ?z_range ?z_list ?z_min ?z_super ?y_FIGURES ?y_MOST_FIGURE ?y_COUNTED_WORDS ?x_COUNTED_WORDS ?y_LETTERS ?y_LONGEST_NAME ?y_FORMS ?s_FORMS ?x_FORMS ?x_FORMS_0 ?x_FORMS_1 ?x_FORMS_2 ?x_FORMS_3 ?x_FORMS_4 ?x_FORMS_5 ?x_FORMS_6 ?x_FORMS_7 ?x_FORMS_8 ?x_FORMS_9 ?y_NAMED_SORTS ?x_NAMED_SORTS ?y_MOST_PRICE ?y_MOST_DEBT ?y_CROWN ?y_LONGEST_SUM ?y_MOST_PENCE ?y_PENCE_SORTS ?x_PENCE_SORTS ?zD
    (case aC => k_is); (case pg => k_is); (case hd => k_is); (case po => k_is); (case sa => k_is); (case mk => k_is); (case kc => k_is); (case n1 => k_is); (case n2 => k_is); (case n3 => k_is); (case n4 => k_is); (case n5 => k_is); (case n6 => k_is); (case n7 => k_is); (case n8 => k_is); (case n9 => k_is); (case q_ca => k_is); (case q_cn => k_is); (case q_ct => k_is); (case q_ob => k_is); (case q_ne => k_is); (case q_ty => k_is); (case q_ic => k_is); (case q_s0 => k_is); (case q_b0 => k_is); (case q_s1 => k_is); (case q_b1 => k_is); (case q_s2 => k_is); (case q_b2 => k_is); (case q_s3 => k_is); (case q_b3 => k_is); (case q_s4 => k_is); (case q_b4 => k_is); (case q_s5 => k_is); (case q_b5 => k_is); (case e_0 => k_is); (case e_1 => k_is); (case e_0_ty => k_is); (case e_0_sb => k_is); (case e_0_hd => k_is); (case e_0_kp => k_is); (case e_0_s0 => k_is); (case e_1_ty => k_is); (case e_1_sb => k_is); (case e_1_hd => k_is); (case e_1_kp => k_is); (case e_1_s1 => k_is); (case hopB => k_is); (case htopB => (first | rfl | decide +kernel)); (case e_0_sa => k_is); (case e_0_nwf => k_is); (case e_0_ini => k_is); (case e_0_tf => k_is); (case xoB0 => k_is); (case xrB0 => decide +kernel); (case lB0 => k_is); (case cB0 => k_is); (case hcellB0 => k_is); (case hcodeB0 => k_is); (case hvsB0 => rfl); (case hfileB0 => (first | rfl | decide +kernel)); (case hsiB0 => ks_is); (case e_1_sa => k_is); (case e_1_nwf => k_is); (case e_1_ini => k_is); (case e_1_tf => k_is); (case xoB1 => k_is); (case xrB1 => decide +kernel); (case lB1 => k_is); (case cB1 => k_is); (case hcellB1 => k_is); (case hcodeB1 => k_is); (case hvsB1 => rfl); (case hfileB1 => (first | rfl | decide +kernel)); (case hsiB1 => ks_is); (case a0 => k_is); (case l0 => k_is); (case c0 => k_is); (case k0 => k_is); (case a1 => k_is); (case l1 => k_is); (case c1 => k_is); (case k1 => k_is); (case a2 => k_is); (case l2 => k_is); (case c2 => k_is); (case k2 => k_is); (case a3 => k_is); (case l3 => k_is); (case c3 => k_is); (case k3 => k_is); (case i3 => k_is); (case d3 => k_is); (case a4 => k_is); (case l4 => k_is); (case c4 => k_is); (case k4 => k_is); (case i4 => k_is); (case a5 => k_is); (case l5 => k_is); (case c5 => k_is); (case k5 => k_is); (case a6 => k_is); (case l6 => k_is); (case c6 => k_is); (case k6 => k_is); (case a7 => k_is); (case l7 => k_is); (case c7 => k_is); (case k7 => k_is); (case a8 => k_is); (case l8 => k_is); (case c8 => k_is); (case k8 => k_is); (case i8 => k_is); (case a9 => k_is); (case l9 => k_is); (case c9 => k_is); (case k9 => k_is); (case i9 => k_is); (case a10 => k_is); (case l10 => k_is); (case c10 => k_is); (case k10 => k_is); (case a11 => k_is); (case l11 => k_is); (case c11 => k_is); (case k11 => k_is); (case a12 => k_is); (case l12 => k_is); (case c12 => k_is); (case k12 => k_is); (case a13 => k_is); (case l13 => k_is); (case c13 => k_is); (case k13 => k_is); (case a14 => k_is); (case l14 => k_is); (case c14 => k_is); (case k14 => k_is); (case a15 => k_is); (case l15 => k_is); (case c15 => k_is); (case k15 => k_is); (case a16 => k_is); (case l16 => k_is); (case c16 => k_is); (case k16 => k_is); (case a17 => k_is); (case l17 => k_is); (case c17 => k_is); (case k17 => k_is); (case a18 => k_is); (case l18 => k_is); (case c18 => k_is); (case k18 => k_is); (case a19 => k_is); (case l19 => k_is); (case c19 => k_is); (case k19 => k_is); (case a20 => k_is); (case l20 => k_is); (case c20 => k_is); (case k20 => k_is); (case a21 => k_is); (case l21 => k_is); (case c21 => k_is); (case k21 => k_is); (case a22 => k_is); (case l22 => k_is); (case c22 => k_is); (case k22 => k_is); (case a23 => k_is); (case l23 => k_is); (case c23 => k_is); (case k23 => k_is); (case a24 => k_is); (case l24 => k_is); (case c24 => k_is); (case k24 => k_is); (case a25 => k_is); (case l25 => k_is); (case c25 => k_is); (case k25 => k_is); (case a26 => k_is); (case l26 => k_is); (case c26 => k_is); (case k26 => k_is); (case a27 => k_is); (case l27 => k_is); (case c27 => k_is); (case k27 => k_is); (case a28 => k_is); (case l28 => k_is); (case c28 => k_is); (case k28 => k_is); (case a29 => k_is); (case l29 => k_is); (case c29 => k_is); (case k29 => k_is); (case a30 => k_is); (case l30 => k_is); (case c30 => k_is); (case k30 => k_is); (case a31 => k_is); (case l31 => k_is); (case c31 => k_is); (case k31 => k_is); (case a32 => k_is); (case l32 => k_is); (case c32 => k_is); (case k32 => k_is); (case a33 => k_is); (case l33 => k_is); (case c33 => k_is); (case k33 => k_is); (case a34 => k_is); (case l34 => k_is); (case c34 => k_is); (case k34 => k_is); (case z_isinstance => k_is); (case z_bool => k_is); (case z_int => k_is); (case z_tuple => k_is); (case z_all => k_is); (case z_len => k_is); (case z_set => k_is); (case z_str => k_is); (case z_enumerate => k_is); (case z_zip => k_is); (case z_divmod => k_is); (case z_abs => k_is); (case z_range => k_is); (case z_list => k_is); (case z_min => k_is); (case z_super => k_is); (case y_FIGURES => k_is); (case y_MOST_FIGURE => k_is); (case y_COUNTED_WORDS => k_is); (case x_COUNTED_WORDS => k_is); (case y_LETTERS => k_is); (case y_LONGEST_NAME => k_is); (case y_FORMS => k_is); (case s_FORMS => rfl); (case x_FORMS => k_is); (case x_FORMS_0 => k_is); (case x_FORMS_1 => k_is); (case x_FORMS_2 => k_is); (case x_FORMS_3 => k_is); (case x_FORMS_4 => k_is); (case x_FORMS_5 => k_is); (case x_FORMS_6 => k_is); (case x_FORMS_7 => k_is); (case x_FORMS_8 => k_is); (case x_FORMS_9 => k_is); (case y_NAMED_SORTS => k_is); (case x_NAMED_SORTS => k_is); (case y_MOST_PRICE => k_is); (case y_MOST_DEBT => k_is); (case y_CROWN => k_is); (case y_LONGEST_SUM => k_is); (case y_MOST_PENCE => k_is); (case y_PENCE_SORTS => k_is); (case x_PENCE_SORTS => k_is); (case zD => k_is)
