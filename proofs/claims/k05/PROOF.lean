import PyProof.Rows.All
import Wide.All
import OpenK.AllK
import Wide.FinOn
import HandS.Base
import HandS.Call
import HandS.List
import HandS.Comp
import HandS.Ends
import HandS.Iter
import HandS.Text
import HandS.Words
import HandS.WordsList
import HandS.IsInst
import HandS.Style
import PySem.Challenge.RW_partwares_k05_parts_paid_down
set_option Elab.async false
set_option linter.all false
set_option maxRecDepth 100000
namespace Pw
open PySem PySem.Spec PyProof.Rows L2
/-! ### a def of the text by its promise, its address left aside -/
structure CF (P : Program) (w : World) (K : PySem.W.Frag) (mg : Str → Option Value) (base : Heap) (k : Nat) (x : Str) (ps : List Str) (sp : Sp) : Prop where
  ex : ∃ (f : Addr) (fd : FuncData), FnOk P w K mg base CX0 k f fd ps sp ∧ mg x = some (.ref f) ∧ PySem.W.keepIn K (.ref f) = true ∧ Binds K fd ps []
theorem pe_cf {X : Cx} {k : Nat} {x : Str} {ps : List Str} {sp : Sp} {e : Expr} {es : List Expr} {t : TA} {p pos : Pos} (C : CF X.prog X.w X.K X.mg X.base k x ps sp) (hr : Room k X.A) (hg : Gl X x) (ha : PA X (e :: es) t)
    (hdb : (x == ("__debug__" : Str)) = false := by decide) (he : starEach (e :: es) X.env = (false, eval e X.env) :: starEach es X.env := by rfl) (hpl : (backTo pos (starEach es X.env)).any (·.1) = false := by rfl) :
    PE X (.Call (.Name x p) (e :: es) [] pos) (tCall sp [] E0 t) := by
  obtain ⟨f, fd, F, g, kp, b⟩ := C.ex
  exact pe_call F hr hg g kp b .nil pass0 ha hdb he hpl
/-! ### the rules with their written part named (within a comprehension it must not hang on the block) -/
section
variable (K : PySem.W.Frag) {X : Cx}
theorem kk_isi (h : X.K = K := by rfl) : CallR X (.builtin "isinstance") (rIsi K) := h ▸ call_isi
theorem kk_isiT (h : X.K = K := by rfl) : CallR X (.builtin "isinstance") (rIsiT K) := h ▸ call_isiT
theorem kk_len (h : X.K = K := by rfl) : CallR X (.builtin "len") (fun xs H Q => ∃ p ys, xs = [.ref p] ∧ (SqL K H p ys ∨ SqT K H p ys) ∧ Q (.int ys.length) H) := h ▸ call_len_seq
theorem kk_list (h : X.K = K := by rfl) : CallR X (.type "list") (fun xs H Q => ∃ p ys, xs = [.ref p] ∧ (SqL K H p ys ∨ SqT K H p ys) ∧ ∀ l, H l = none → Q (.ref l) (upd H l (.lst ys))) := h ▸ call_list_of
theorem kk_tuple (h : X.K = K := by rfl) : CallR X (.type "tuple") (fun xs H Q => ∃ p ys, xs = [.ref p] ∧ ((SqL K H p ys ∧ ∀ l, H l = none → Q (.ref l) (upd H l (.tup ys))) ∨ (SqT K H p ys ∧ Q (.ref p) H))) := h ▸ call_tuple_of
theorem kk_sum (hc : X.calm = true) (h : X.K = K := by rfl) : CallR X (.builtin "sum") (rSum K) := h ▸ cr_sum hc
theorem kk_max (hc : X.calm = true) (h : X.K = K := by rfl) : CallR X (.builtin "max") (rMax K) := h ▸ cr_max hc
theorem kk_min (hc : X.calm = true) (h : X.K = K := by rfl) : CallR X (.builtin "min") (rMin K) := h ▸ cr_min hc
theorem kk_any (hc : X.calm = true) (h : X.K = K := by rfl) : CallR X (.builtin "any") (rAny K) := h ▸ cr_any hc
theorem kk_all (hc : X.calm = true) (h : X.K = K := by rfl) : CallR X (.builtin "all") (rAll K) := h ▸ cr_all hc
theorem kk_sorted (h : X.K = K := by rfl) : CallR X (.builtin "sorted") (rSorted K) := h ▸ cr_sorted
theorem kk_ixl (h : X.K = K := by rfl) : IxR X (rIxL K) := h ▸ ix_list
theorem kk_ixt (h : X.K = K := by rfl) : IxR X (rIxT K) := h ▸ ix_tup
theorem kk_sll (h : X.K = K := by rfl) : SlR X (rSlL K) := h ▸ sl_list
theorem kk_slt (h : X.K = K := by rfl) : SlR X (rSlT K) := h ▸ sl_tup
theorem kk_in (h : X.K = K := by rfl) : OpR X (compareOp .In) (rIn K false) := h ▸ op_in_seq
theorem kk_nin (h : X.K = K := by rfl) : OpR X (compareOp .NotIn) (rIn K true) := h ▸ op_notIn_seq
theorem kk_catT (h : X.K = K := by rfl) : OpR X (binaryOp .Add) (rCatT K) := h ▸ op_catT
theorem kk_eqD (hu : X.A.units + 64 < cLine) (h : X.K = K := by rfl) : OpR X (compareOp .Eq) (rEqD K) := h ▸ op_eqD hu
theorem kk_neD (hu : X.A.units + 64 < cLine) (h : X.K = K := by rfl) : OpR X (compareOp .NotEq) (rNeD K) := h ▸ op_neD hu
theorem kk_revL {e : Expr} {te : TE} {k : Nat} {p1 p2 p3 pos : Pos} (he : PE X e te) (h : X.K = K := by rfl) : PE X (.Subscript e (.Slice none none (some (.UnaryOp .USub (.Constant (.int 1) k p1) p2)) p3) pos) (tRevL K te) := h ▸ pe_revL he
end
/-! ### heaps: all as it was, but one place -/
def But (b : Addr) (H H' : Hp) : Prop := ∀ c o, c ≠ b → H c = some o → H' c = some o
theorem But.refl (b : Addr) (H : Hp) : But b H H := fun _ _ _ h => h
theorem But.trans {b : Addr} {H H1 H2 : Hp} (x : But b H H1) (y : But b H1 H2) : But b H H2 := fun c o n h => y c o n (x c o n h)
theorem But.of {b : Addr} {H H1 : Hp} (x : Same H H1) : But b H H1 := fun c o _ h => x c o h
theorem But.upd {b : Addr} {H : Hp} {o : HO} : But b H (L2.upd H b o) := fun c u n h => by
  rw [upd_ne n]
  exact h
theorem But.new {b p : Addr} {H : Hp} {o : HO} (h : H p = none) : But b H (L2.upd H p o) := fun c u _ e => by
  rw [upd_ne (ne_of_none e h)]
  exact e
theorem same_new {H : Hp} {p : Addr} {o : HO} (h : H p = none) : Same H (upd H p o) := fun b x e => by
  rw [upd_ne (ne_of_none e h)]
  exact e
theorem But.seq {K : PySem.W.Frag} {b a : Addr} {H H' : Hp} {xs : List V} (e : But b H H') (n : a ≠ b) (h : SqL K H a xs) : SqL K H' a xs := by
  rcases h with (h | ⟨o, h⟩) | h
  · exact .inl (.inl (e _ _ n h))
  · exact .inl (.inr ⟨o, e _ _ n h⟩)
  · exact .inr h
/-! ### the law's box of three numbers -/
def Box (H : Hp) (b : Addr) (n : Int) : Prop := ∃ x y z : Int, H b = some (.lst [.int x, .int y, .int z]) ∧ 0 ≤ x ∧ 0 ≤ y ∧ y ≤ 3000000000 ∧ 0 ≤ z ∧ z ≤ n
theorem Box.mono {H : Hp} {b : Addr} {n m : Int} (h : Box H b n) (l : n ≤ m) : Box H b m := by
  obtain ⟨x, y, z, h0, h1, h2, h3, h4, h5⟩ := h
  exact ⟨x, y, z, h0, h1, h2, h3, h4, by omega⟩
theorem Box.same {H H' : Hp} {b : Addr} {n : Int} (e : Same H H') (h : Box H b n) : Box H' b n := by
  obtain ⟨x, y, z, h0, h1⟩ := h
  exact ⟨x, y, z, e _ _ h0, h1⟩
theorem Box.new {H : Hp} {b p : Addr} {o : HO} {n : Int} (h : Box H b n) (e : H p = none) : Box (upd H p o) b n := h.same (same_new e)
theorem Box.ne {H : Hp} {b p : Addr} {n : Int} (h : Box H b n) (e : H p = none) : p ≠ b := fun z => by
  obtain ⟨_, _, _, h0, _⟩ := h
  rw [z, h0] at e
  cases e
section
variable {K : PySem.W.Frag}
theorem at_int {ns : List Int} {k : Int} (h0 : 0 ≤ k) (h1 : k < ns.length) : ∃ c, atI (ns.map V.int) k = some (.int c) := by
  obtain ⟨j, rfl⟩ := Int.eq_ofNat_of_zero_le h0
  have hj : j < ns.length := by omega
  refine ⟨ns[j], atI_nat ?_⟩
  rw [List.getElem?_map, List.getElem?_eq_getElem hj]
  rfl
def partsL (p m : Int) : List Int := List.replicate (p % m).toNat (p / m + 1) ++ List.replicate (m - p % m).toNat (p / m)
theorem rep1 {α : Type} (k : Nat) (x : α) : (List.replicate k [x]).flatten = List.replicate k x := by
  induction k with
  | zero => rfl
  | succ n ih => rw [List.replicate_succ, List.flatten_cons, ih]; rfl
theorem size_small {n : Nat} (h : n ≤ 1000) : n ≤ sizeLine := Nat.le_of_lt (small1000 h)
theorem iteN {c A B : Prop} [Decidable c] (hc : ¬ c) (h : B) : if decide c = true then A else B := by
  rw [decide_eq_false hc]
  exact iteF h
theorem iteY {c A B : Prop} [Decidable c] (hc : c) (h : A) : if decide c = true then A else B := by
  rw [decide_eq_true hc]
  exact iteT h
theorem same_but {b : Addr} {H0 H1 H2 : Hp} (s : Same H0 H1) (n : H0 b = none) (t : But b H1 H2) : Same H0 H2 := fun c o h => t c o (fun e => by rw [e, n] at h; cases h) (s c o h)
theorem dpAll_ints {H : Hp} : ∀ ns : List Int, DpAll K H (ns.map V.int) (ns.map PyData.int)
  | [] => .nil
  | n :: r => .cons (.int n) (dpAll_ints r)
theorem dp_ints {H : Hp} {a : Addr} {ns : List Int} (h : SqL K H a (ns.map V.int)) : Dp K H (.ref a) (.list (ns.map PyData.int)) := .lst h (dpAll_ints ns)
theorem lay_ints : ∀ ns : List Int, PyData.canLayAll0 (ns.map PyData.int) = true
  | [] => by simp [PyData.canLayAll0]
  | n :: r => by simp [PyData.canLayAll0, PyData.canLay0, lay_ints r]
theorem depth_ints : ∀ ns : List Int, PyData.depthAll (ns.map PyData.int) ≤ 1
  | [] => by simp [PyData.depthAll]
  | n :: r => by
    have h := depth_ints r
    simp only [List.map_cons, PyData.depthAll, PyData.depth]
    omega
theorem sh_ints (ns : List Int) : SeqAt.shaped (.list (ns.map PyData.int)) = true := by
  have h1 := depth_ints ns
  have h2 : PyData.depth (.list (ns.map PyData.int)) ≤ 64 := by
    simp only [PyData.depth]
    omega
  show (PyData.canLay0 (.list (ns.map PyData.int)) && decide (PyData.depth (.list (ns.map PyData.int)) ≤ 64)) = true
  rw [Bool.and_eq_true]
  exact ⟨by simp only [PyData.canLay0]; exact lay_ints ns, decide_eq_true h2⟩
theorem eqv_same (ns : List Int) : PyData.eqv (.list (ns.map PyData.int)) (.list (ns.map PyData.int)) = true := SeqAt.eqv_refl _ (SeqAt.canLay_of_shaped (sh_ints ns))

theorem sum_rep (k : Nat) (x : Int) : (List.replicate k x).sum = k * x := by
  induction k with
  | zero => simp
  | succ n ih =>
    rw [List.replicate_succ, List.sum_cons, ih, Int.natCast_add, Int.add_mul]
    omega
theorem parts_len {p m : Int} (hm : 1 ≤ m) : ((partsL p m).length : Int) = m := by
  have hr0 := Int.emod_nonneg p (show m ≠ 0 by omega)
  have hr1 := Int.emod_lt_of_pos p (show 0 < m by omega)
  unfold partsL
  rw [List.length_append, List.length_replicate, List.length_replicate]
  omega
theorem parts_sum {p m : Int} (hm : 1 ≤ m) : (partsL p m).sum = p := by
  have hr0 := Int.emod_nonneg p (show m ≠ 0 by omega)
  have hr1 := Int.emod_lt_of_pos p (show 0 < m by omega)
  have e := Int.mul_ediv_add_emod p m
  unfold partsL
  rw [List.sum_append, sum_rep, sum_rep, Int.toNat_of_nonneg hr0, Int.toNat_of_nonneg (by omega), Int.sub_mul, Int.mul_add]
  omega
theorem parts_mem {p m x : Int} (h : x ∈ partsL p m) : x = p / m + 1 ∨ x = p / m := by
  unfold partsL at h
  rcases List.mem_append.mp h with h | h
  · exact .inl (List.eq_of_mem_replicate h)
  · exact .inr (List.eq_of_mem_replicate h)
theorem parts_fall (p m : Int) : (partsL p m).Pairwise (fun a b => b ≤ a) := by
  unfold partsL
  refine List.pairwise_append.mpr ⟨List.pairwise_replicate.mpr (.inr (Int.le_refl _)), List.pairwise_replicate.mpr (.inr (Int.le_refl _)), fun a ha b hb => ?_⟩
  rw [List.eq_of_mem_replicate ha, List.eq_of_mem_replicate hb]
  omega
theorem parts_sorted {p m : Int} {ns : List Int} (h : ns.Perm (partsL p m)) (hs : ns.Pairwise (· ≤ ·)) : ns.reverse = partsL p m := by
  refine List.Perm.eq_of_pairwise (le := fun a b => b ≤ a) (fun x y _ _ h1 h2 => Int.le_antisymm h2 h1) ?_ (parts_fall p m) ((List.reverse_perm ns).trans h)
  exact List.pairwise_reverse.mpr hs
theorem ends_of {ns : List Int} (h : 0 < ns.length) : ∃ x y, x ∈ ns ∧ y ∈ ns ∧ atI (ns.map V.int) 0 = some (.int x) ∧ atI (ns.map V.int) (-1) = some (.int y) := by
  cases ns with
  | nil => cases h
  | cons x r =>
    refine ⟨x, (x :: r).getLast (List.cons_ne_nil _ _), List.mem_cons_self, List.getLast_mem _, atI_nat (j := 0) rfl, ?_⟩
    have hz : ((x :: r).map V.int) = ((x :: r).dropLast.map V.int) ++ [.int ((x :: r).getLast (List.cons_ne_nil _ _))] := by
      rw [← List.map_singleton, ← List.map_append, List.dropLast_concat_getLast]
    rw [hz]
    exact atI_last _ _
theorem all_true (n : Nat) : (List.replicate n true).all id = true := by
  induction n with
  | zero => rfl
  | succ k ih => rw [List.replicate_succ, List.all_cons, ih]; rfl
theorem pick6 {r x : Int} (h0 : 0 ≤ r) (h1 : r < 6) (x0 : 0 ≤ x) (x1 : x ≤ 100) : ∃ c : Int, atI [V.int 0, .int 1, .int 50, .int 99, .int 100, .int x] r = some (.int c) ∧ 0 ≤ c ∧ c ≤ 100 := by
  have h : r = 0 ∨ r = 1 ∨ r = 2 ∨ r = 3 ∨ r = 4 ∨ r = 5 := by omega
  rcases h with rfl | rfl | rfl | rfl | rfl | rfl
  · exact ⟨0, rfl, by decide, by decide⟩
  · exact ⟨1, rfl, by decide, by decide⟩
  · exact ⟨50, rfl, by decide, by decide⟩
  · exact ⟨99, rfl, by decide, by decide⟩
  · exact ⟨100, rfl, by decide, by decide⟩
  · exact ⟨x, rfl, x0, x1⟩
end
end Pw
namespace Pw
open PySem PySem.Spec PyProof.Rows L2
def topS (i : Nat) : Stmt := PySem.Challenge.pw_partwares_k05_parts_paid_down.main.body.getD i (.Pass ⟨0, 0, 0, 0⟩)
section
variable {P : Program} {w : World} {K : PySem.W.Frag} {mg : Str → Option Value} {base : Heap}
/-! ### _law_take -/
abbrev s__law_take : Stmt := topS 5
abbrev N__law_take : List Str := ["_law_box_here", "_law_many", "_law_found", "_law_once"]
theorem sc__law_take : FnScope N__law_take ["_law_box_here", "_law_many"] (defScope s__law_take) := ⟨rfl, rfl, rfl, by decide +kernel, rfl, by decide +kernel, by decide +kernel⟩
def sp__law_take (K : PySem.W.Frag) : Sp := fun vs H Q _ => ∃ (b : Addr) (m n : Int), vs = [.ref b, .int m] ∧ Box H b n ∧ 0 < m ∧ m < 1073741824 ∧ n < 1000000000 ∧ ∀ (r : Int) H', 0 ≤ r → r < m → Box H' b (n + 1) → But b H H' → Q (.int r) H'
theorem ok__law_take {f : Addr} {fd : FuncData} (F : Fun K "_law_take" "_law_take" s__law_take f fd) (g : mg "_law_take" = some (.ref f)) (bd : Binds K fd ["_law_box_here", "_law_many"] []) : CF P w K mg base 1 "_law_take" ["_law_box_here", "_law_many"] (sp__law_take K) := by
  refine ⟨f, fd, F.ok sc__law_take (fun vs H Q E h => ?_) (fun cdv A outer s H vs Q E hr h => ?_), g, F.kp, bd⟩
  · first | (obtain ⟨_, rfl, _⟩ := h; rfl) | (obtain ⟨_, _, rfl, _⟩ := h; rfl) | (obtain ⟨_, _, _, rfl, _⟩ := h; rfl) | (obtain ⟨_, _, _, _, rfl, _⟩ := h; rfl) | (obtain ⟨_, _, _, _, _, rfl, _⟩ := h; rfl) | (obtain ⟨_, _, _, _, _, _, rfl, _⟩ := h; rfl) | (obtain ⟨_, _, _, _, _, _, _, rfl, _⟩ := h; rfl)
  · have hu64 := hr.units
    obtain ⟨b, m, n, rfl, ⟨x, y, z, hb, hx, hy, hy2, hz, hz2⟩, hm, hm2, hn, q⟩ := h
    refine ⟨_, (pss_cons (ps_if (pt_cmpR op_gt (pe_ix (kk_ixl K) (pv 0) pe_int (fun _ _ => rfl)) pe_int (nomark _))
         (pss_cons (ps_set (i := 2) sc__law_take.nd rfl (.inl rfl) (pe_op op_mod (pe_ix (kk_ixl K) (pv 0) pe_int (fun _ _ => rfl)) (pv 1)))
          (pss_cons (ps_asg (pe_op op_fdiv (pe_ix (kk_ixl K) (pv 0) pe_int (fun _ _ => rfl)) (pv 1)) (pg_sub (pv 0) pe_int set_list))
          (pss_one (ps_ret (pv 2)))))
         pss_nil)
      (pss_cons (ps_asg (pe_op op_add (pe_ix (kk_ixl K) (pv 0) pe_int (fun _ _ => rfl)) pe_int) (pg_sub (pv 0) pe_int set_list))
      (pss_cons (ps_set (i := 3) sc__law_take.nd rfl (.inl rfl) (pe_op op_mod (pe_op op_pow (pe_op op_add (pe_ix (kk_ixl K) (pv 0) pe_int (fun _ _ => rfl)) (pe_op op_mul pe_int (pe_ix (kk_ixl K) (pv 0) pe_int (fun _ _ => rfl)))) pe_int) pe_int))
      (pss_one (ps_ret (pe_op op_mod (pe_op op_fdiv (pe_op op_mod (pe_op op_add (pe_op op_mul (pv 3) (pe_op op_add (pe_op op_mod (pv 3) pe_int) pe_int)) (pe_op op_mul (pe_ix (kk_ixl K) (pv 0) pe_int (fun _ _ => rfl)) pe_int)) pe_int) pe_int) (pv 1))))))), ?_⟩
    refine ⟨_, rfl, b, _, _, _, rfl, rfl, SqL.of hb, rfl, _, _, rfl, rfl, _, rfl, ite2 (fun e => ?_) (fun e => ?_)⟩
    · refine ⟨_, rfl, b, _, _, _, rfl, rfl, SqL.of hb, rfl, _, rfl, _, _, rfl, rfl, hm, ?_⟩
      refine ⟨_, rfl, b, _, _, _, rfl, rfl, SqL.of hb, rfl, _, rfl, _, _, rfl, rfl, ⟨hm, hm2⟩, _, rfl, b, _, _, _, rfl, rfl, hb, rfl, ?_⟩
      refine ⟨_, rfl, q _ _ (Int.emod_nonneg _ (by omega)) (Int.emod_lt_of_pos _ hm) ⟨x / m, y, z, upd_same, Int.ediv_nonneg hx (by omega), hy, hy2, hz, by omega⟩ But.upd⟩
    · refine ⟨_, rfl, b, _, _, _, rfl, rfl, SqL.of hb, rfl, _, _, rfl, rfl, _, rfl, b, _, _, _, rfl, rfl, hb, rfl, ?_⟩
      have h1 : (upd H b (.lst [.int x, .int y, .int (z + 1)])) b = some (.lst [.int x, .int y, .int (z + 1)]) := upd_same
      refine ⟨_, rfl, b, _, _, _, rfl, rfl, SqL.of h1, rfl, _, rfl, b, _, _, _, rfl, rfl, SqL.of h1, rfl, _, _, rfl, rfl, .inl ⟨by decide, by decide⟩, _, _, rfl, rfl, _, _, rfl, rfl, ⟨by decide, by decide, ?_⟩, _, _, rfl, rfl, (by show (0 : Int) < 2147483647; decide), ?_⟩
      · show (y + 39373 * (z + 1)).natAbs < 2 ^ 64
        omega
      · have o0 : 0 ≤ (y + 39373 * (z + 1)) ^ (5 : Int).toNat % 2147483647 := Int.emod_nonneg _ (by decide)
        have o1 : (y + 39373 * (z + 1)) ^ (5 : Int).toNat % 2147483647 < 2147483647 := Int.emod_lt_of_pos _ (by decide)
        refine ⟨_, rfl, _, rfl, _, _, rfl, rfl, (by show (0 : Int) < 40009; decide), _, _, rfl, rfl, _, _, rfl, rfl, .inl ⟨?_, ?_⟩, _, rfl, b, _, _, _, rfl, rfl, SqL.of h1, rfl, _, _, rfl, rfl, .inl ⟨?_, ?_⟩, _, _, rfl, rfl, _, _, rfl, rfl, (by show (0 : Int) < 2147483629; decide), _, _, rfl, rfl, ⟨by decide, by decide⟩, _, rfl, _, _, rfl, rfl, hm, ?_⟩
        · omega
        · omega
        · omega
        · omega
        · exact q _ _ (Int.emod_nonneg _ (by omega)) (Int.emod_lt_of_pos _ hm) ⟨x, y, z + 1, h1, hx, hy, hy2, by omega, by omega⟩ But.upd
/-! ### _law_box -/
abbrev s__law_box : Stmt := topS 4
abbrev N__law_box : List Str := ["_law_script", "_law_k", "_law_cell"]
theorem sc__law_box : FnScope N__law_box ["_law_script", "_law_k"] (defScope s__law_box) := ⟨rfl, rfl, rfl, by decide +kernel, rfl, by decide +kernel, by decide +kernel⟩
def sp__law_box (K : PySem.W.Frag) : Sp := fun vs H Q _ => ∃ (a : Addr) (k : Int) (ns : List Int), vs = [.ref a, .int k] ∧ SqL K H a (ns.map V.int) ∧ 0 ≤ k ∧ k ≤ 63 ∧ ∀ H' b, H b = none → Same H H' → Box H' b 0 → Q (.ref b) H'
theorem ok__law_box {f : Addr} {fd : FuncData} (F : Fun K "_law_box" "_law_box" s__law_box f fd) (g : mg "_law_box" = some (.ref f)) (bd : Binds K fd ["_law_script", "_law_k"] []) (m_len : mg "len" = none) (m_abs : mg "abs" = none) (m_int : mg "int" = none) : CF P w K mg base 1 "_law_box" ["_law_script", "_law_k"] (sp__law_box K) := by
  refine ⟨f, fd, F.ok sc__law_box (fun vs H Q E h => ?_) (fun cdv A outer s H vs Q E hr h => ?_), g, F.kp, bd⟩
  · first | (obtain ⟨_, rfl, _⟩ := h; rfl) | (obtain ⟨_, _, rfl, _⟩ := h; rfl) | (obtain ⟨_, _, _, rfl, _⟩ := h; rfl) | (obtain ⟨_, _, _, _, rfl, _⟩ := h; rfl) | (obtain ⟨_, _, _, _, _, rfl, _⟩ := h; rfl) | (obtain ⟨_, _, _, _, _, _, rfl, _⟩ := h; rfl) | (obtain ⟨_, _, _, _, _, _, _, rfl, _⟩ := h; rfl)
  · have hu64 := hr.units
    obtain ⟨a, k, ns, rfl, hS, hk0, hk, q⟩ := h
    refine ⟨_, (pss_cons (ps_set (i := 2) sc__law_box.nd rfl (.inl rfl) pe_int)
      (pss_cons (ps_if (pt_cmpR op_lt (pv 1) (pe_callB (kk_len K) (by rfl) m_len PySem.boot_len (pa_cons (pv 0) pa_nil)) (nomark _))
         (pss_one (ps_set (i := 2) sc__law_box.nd rfl (.inl rfl) (pe_ix (kk_ixl K) (pv 0) (pv 1) (fun _ _ => rfl))))
         pss_nil)
      (pss_one (ps_ret (pe_lst (pa_cons (pe_op op_mul (pe_callB call_abs (by rfl) m_abs (by decide +kernel) (pa_cons (pv 2) pa_nil)) (pe_callTy call_int1 (by rfl) m_int (by decide +kernel) (pa_cons (pe_cmpR op_ge (pe_callB call_abs (by rfl) m_abs (by decide +kernel) (pa_cons (pv 2) pa_nil)) (pe_op op_pow pe_int pe_int) (nomark _)) pa_nil))) (pa_cons (pe_op op_add (pe_op op_add (pe_op op_mod (pv 2) pe_int) (pe_op op_mul pe_int (pv 1))) pe_int) (pa_cons pe_int pa_nil)))))))), ?_⟩
    refine ⟨_, rfl, _, rfl, a, _, rfl, .inl hS, _, _, rfl, rfl, _, rfl, ite2 (fun e => ?_) (fun e => ?_)⟩
    · have e1 := of_decide_eq_true e
      rw [List.length_map] at e1
      obtain ⟨c, hc⟩ := at_int hk0 e1
      refine ⟨_, rfl, _, rfl, a, _, _, _, rfl, rfl, hS, hc, ?_⟩
      refine ⟨_, rfl, _, rfl, _, rfl, _, rfl, _, _, rfl, rfl, ⟨by decide, by decide, by decide⟩, _, _, rfl, rfl, .inr ⟨_, rfl, _, _, rfl, rfl, .inr ⟨?_, ?_⟩, _, rfl, _, _, rfl, rfl, (by show (0 : Int) < 2147483629; decide), _, rfl, _, _, rfl, rfl, .inl ⟨by decide, by decide⟩, _, _, rfl, rfl, _, _, rfl, rfl, (by show 3 ≤ sizeLine; decide), fun p hp => ?_⟩⟩
      · split <;> omega
      · split <;> omega
      · refine q _ p hp (same_new hp) ⟨_, _, _, upd_same, ?_, ?_, ?_, by omega, by omega⟩
        · refine Int.mul_nonneg ?_ ?_ <;> split <;> omega
        · have := Int.emod_nonneg c (show (2147483629 : Int) ≠ 0 by decide)
          omega
        · have := Int.emod_lt_of_pos c (show (0 : Int) < 2147483629 by decide)
          omega
    · refine ⟨_, rfl, _, rfl, _, rfl, _, rfl, _, _, rfl, rfl, ⟨by decide, by decide, by decide⟩, _, _, rfl, rfl, .inr ⟨_, rfl, _, _, rfl, rfl, .inr ⟨?_, ?_⟩, _, rfl, _, _, rfl, rfl, (by show (0 : Int) < 2147483629; decide), _, rfl, _, _, rfl, rfl, .inl ⟨by decide, by decide⟩, _, _, rfl, rfl, _, _, rfl, rfl, (by show 3 ≤ sizeLine; decide), fun p hp => ?_⟩⟩
      · split <;> omega
      · split <;> omega
      · refine q _ p hp (same_new hp) ⟨_, _, _, upd_same, ?_, ?_, ?_, by omega, by omega⟩
        · refine Int.mul_nonneg ?_ ?_ <;> split <;> omega
        · omega
        · omega
/-! ### share_up -/
abbrev s_share_up : Stmt := topS 2
abbrev N_share_up : List Str := ["pence", "percent"]
theorem sc_share_up : FnScope N_share_up ["pence", "percent"] (defScope s_share_up) := ⟨rfl, rfl, rfl, by decide +kernel, rfl, by decide +kernel, by decide +kernel⟩
def sp_share_up (K : PySem.W.Frag) : Sp := fun vs H Q _ => ∃ p c : Int, vs = [.int p, .int c] ∧ 0 ≤ p ∧ p ≤ 1000000000 ∧ 0 ≤ c ∧ c ≤ 100 ∧ Q (.int ((p * c + 99) / 100)) H
theorem ok_share_up {f : Addr} {fd : FuncData} (F : Fun K "share_up" "share_up" s_share_up f fd) (g : mg "share_up" = some (.ref f)) (bd : Binds K fd ["pence", "percent"] []) : CF P w K mg base 1 "share_up" ["pence", "percent"] (sp_share_up K) := by
  refine ⟨f, fd, F.ok sc_share_up (fun vs H Q E h => ?_) (fun cdv A outer s H vs Q E hr h => ?_), g, F.kp, bd⟩
  · first | (obtain ⟨_, rfl, _⟩ := h; rfl) | (obtain ⟨_, _, rfl, _⟩ := h; rfl) | (obtain ⟨_, _, _, rfl, _⟩ := h; rfl) | (obtain ⟨_, _, _, _, rfl, _⟩ := h; rfl) | (obtain ⟨_, _, _, _, _, rfl, _⟩ := h; rfl) | (obtain ⟨_, _, _, _, _, _, rfl, _⟩ := h; rfl) | (obtain ⟨_, _, _, _, _, _, _, rfl, _⟩ := h; rfl)
  · have hu64 := hr.units
    obtain ⟨p, c, rfl, hp, hp2, hc, hc2, q⟩ := h
    refine ⟨_, (pss_one (ps_ret (pe_op op_fdiv (pe_op op_add (pe_op op_mul (pv 0) (pv 1)) pe_int) pe_int))), ?_⟩
    exact ⟨_, rfl, _, rfl, _, _, rfl, rfl, .inl ⟨by omega, by omega⟩, _, _, rfl, rfl, _, _, rfl, rfl, ⟨by decide, by decide⟩, q⟩
/-! ### parts_of -/
abbrev s_parts_of : Stmt := topS 1
abbrev N_parts_of : List Str := ["pence", "many", "least", "over"]
theorem sc_parts_of : FnScope N_parts_of ["pence", "many"] (defScope s_parts_of) := ⟨rfl, rfl, rfl, by decide +kernel, rfl, by decide +kernel, by decide +kernel⟩
def sp_parts_of (K : PySem.W.Frag) : Sp := fun vs H Q _ => ∃ p m : Int, vs = [.int p, .int m] ∧ 0 ≤ p ∧ p ≤ 1000000000 ∧ 1 ≤ m ∧ m ≤ 12 ∧ ∀ H' l, H l = none → Same H H' → H' l = some (.lst ((partsL p m).map V.int)) → Q (.ref l) H'
theorem ok_parts_of {f : Addr} {fd : FuncData} (F : Fun K "parts_of" "parts_of" s_parts_of f fd) (g : mg "parts_of" = some (.ref f)) (bd : Binds K fd ["pence", "many"] []) (m_divmod : mg "divmod" = none) : CF P w K mg base 1 "parts_of" ["pence", "many"] (sp_parts_of K) := by
  refine ⟨f, fd, F.ok sc_parts_of (fun vs H Q E h => ?_) (fun cdv A outer s H vs Q E hr h => ?_), g, F.kp, bd⟩
  · first | (obtain ⟨_, rfl, _⟩ := h; rfl) | (obtain ⟨_, _, rfl, _⟩ := h; rfl) | (obtain ⟨_, _, _, rfl, _⟩ := h; rfl) | (obtain ⟨_, _, _, _, rfl, _⟩ := h; rfl) | (obtain ⟨_, _, _, _, _, rfl, _⟩ := h; rfl) | (obtain ⟨_, _, _, _, _, _, rfl, _⟩ := h; rfl) | (obtain ⟨_, _, _, _, _, _, _, rfl, _⟩ := h; rfl)
  · have hu64 := hr.units
    obtain ⟨p, m, rfl, hp, hp2, hm, hm2, q⟩ := h
    refine ⟨_, (pss_cons (ps_if (pt_cmpR op_lt (pv 1) pe_int (nomark _))
         (pss_one (ps_ret (pe_lst pa_nil)))
         pss_nil)
      (pss_cons (ps_asg (pe_callB call_divmod (by rfl) m_divmod (by decide +kernel) (pa_cons (pv 0) (pa_cons (pv 1) pa_nil))) (pg_tup (by rfl) (pgs_cons (pg_name (i := 2) sc_parts_of.nd rfl (.inl rfl)) (pgs_cons (pg_name (i := 3) sc_parts_of.nd rfl (.inl rfl)) pgs_nil))))
      (pss_one (ps_ret (pe_op op_cat (pe_op op_rep (pe_lst (pa_cons (pe_op op_add (pv 2) pe_int) pa_nil)) (pv 3)) (pe_op op_rep (pe_lst (pa_cons (pv 2) pa_nil)) (pe_op op_sub (pv 1) (pv 3)))))))), ?_⟩
    have hr0 := Int.emod_nonneg p (show m ≠ 0 by omega)
    have hr1 := Int.emod_lt_of_pos p (show 0 < m by omega)
    refine ⟨_, rfl, _, _, rfl, rfl, _, rfl, ite2 (fun e => absurd (of_decide_eq_true e) (by omega)) (fun e => ?_)⟩
    refine ⟨_, rfl, _, rfl, _, _, rfl, ⟨by omega, by omega⟩, fun t ht => ?_⟩
    refine ⟨t, [.int (p / m), .int (p % m)], rfl, .inl (.inl upd_same), rfl, _, _, rfl, _, _, rfl, rfl, ?_⟩
    refine ⟨_, rfl, _, _, rfl, rfl, (by show 1 ≤ sizeLine; decide), fun l1 h1 => ?_⟩
    refine ⟨_, rfl, l1, _, _, rfl, rfl, upd_same, by omega, by omega, ?_, fun l2 h2 => ?_⟩
    · show 1 * (p % m).toNat ≤ sizeLine
      exact size_small (by omega)
    refine ⟨_, rfl, (by show 1 ≤ sizeLine; decide), fun l3 h3 => ?_⟩
    refine ⟨_, rfl, _, rfl, _, _, rfl, rfl, l3, _, _, rfl, rfl, upd_same, by omega, by omega, ?_, fun l4 h4 => ?_⟩
    · show 1 * (m - p % m).toNat ≤ sizeLine
      exact size_small (by omega)
    have s1 : Same H _ := same_new (o := .tup [.int (p / m), .int (p % m)]) ht
    have s2 := s1.trans (same_new (o := .lst [.int (p / m + 1)]) h1)
    have s3 := s2.trans (same_new (o := .lst (List.replicate (p % m).toNat [V.int (p / m + 1)]).flatten) h2)
    have e2 := (same_new (o := .lst [.int (p / m)]) h3) _ _ (upd_same (H := upd (upd H t (.tup [.int (p / m), .int (p % m)])) l1 (.lst [.int (p / m + 1)])) (a := l2) (o := .lst (List.replicate (p % m).toNat [V.int (p / m + 1)]).flatten))
    have s4 := s3.trans (same_new (o := .lst [.int (p / m)]) h3)
    have e3 := (same_new (o := .lst (List.replicate (m - p % m).toNat [V.int (p / m)]).flatten) h4) _ _ e2
    have s5 := s4.trans (same_new (o := .lst (List.replicate (m - p % m).toNat [V.int (p / m)]).flatten) h4)
    refine ⟨l2, l4, _, _, rfl, rfl, e3, upd_same, ?_, fun l5 h5 => ?_⟩
    · rw [rep1, rep1, List.length_replicate, List.length_replicate]
      exact size_small (by omega)
    · refine q _ l5 (s5.free h5) (s5.trans (same_new h5)) ?_
      rw [upd_same, rep1, rep1]
      unfold partsL
      rw [List.map_append, List.map_replicate, List.map_replicate]
theorem parts_head {L j : Int} (hL : 0 ≤ L) (hj : 1 ≤ j) : ∃ f r, partsL L j = f :: r ∧ 0 ≤ f ∧ f ≤ L ∧ (j = 1 → f = L) ∧ (2 ≤ j → r = partsL (L - f) (j - 1)) := by
  have hr0 := Int.emod_nonneg L (show j ≠ 0 by omega)
  have hr1 := Int.emod_lt_of_pos L (show 0 < j by omega)
  have e := Int.mul_ediv_add_emod L j
  have hq : 0 ≤ L / j := Int.ediv_nonneg hL (by omega)
  generalize hQ : L / j = q at *
  generalize hR : L % j = r at *
  have hqj : q ≤ j * q := by
    have := Int.mul_le_mul_of_nonneg_right hj hq
    omega
  unfold partsL
  rw [hQ, hR]
  by_cases h : 0 < r
  · obtain ⟨k, rfl⟩ := Int.eq_ofNat_of_zero_le hr0
    obtain ⟨k, rfl⟩ : ∃ k', k = k' + 1 := ⟨k - 1, by omega⟩
    refine ⟨q + 1, List.replicate k (q + 1) ++ List.replicate (j - ((k + 1 : Nat) : Int)).toNat q, ?_, by omega, by omega, fun z => by omega, fun z => ?_⟩
    · rw [Int.toNat_natCast, List.replicate_succ]
      rfl
    · have e2 : L - (q + 1) = (k : Int) + (j - 1) * q := by
        rw [Int.sub_mul]
        omega
      have d2 : (L - (q + 1)) / (j - 1) = q := by
        rw [e2, Int.add_mul_ediv_left _ _ (by omega), Int.ediv_eq_zero_of_lt (by omega) (by omega)]
        omega
      have m2 : (L - (q + 1)) % (j - 1) = k := by
        rw [e2, Int.add_mul_emod_self_left, Int.emod_eq_of_lt (by omega) (by omega)]
      rw [d2, m2, Int.toNat_natCast]
      congr 2
      omega
  · have h0 : r = 0 := by omega
    subst h0
    obtain ⟨k, hk⟩ : ∃ k : Nat, j = k + 1 := ⟨(j - 1).toNat, by omega⟩
    refine ⟨q, List.replicate k q, ?_, hq, by omega, fun z => ?_, fun z => ?_⟩
    · rw [hk, Int.toNat_zero, List.replicate_zero, List.nil_append, show ((k : Int) + 1 - 0).toNat = k + 1 by omega, List.replicate_succ]
    · rw [z] at e
      omega
    · have e2 : L - q = 0 + (j - 1) * q := by
        rw [Int.sub_mul]
        omega
      have d2 : (L - q) / (j - 1) = q := by
        rw [e2, Int.add_mul_ediv_left _ _ (by omega)]
        simp
      have m2 : (L - q) % (j - 1) = 0 := by
        rw [e2, Int.add_mul_emod_self_left]
        simp
      rw [d2, m2, Int.toNat_zero, List.replicate_zero, List.nil_append]
      congr 1
      omega
theorem cut_from {xs : List V} {k : Nat} (h : k ≤ xs.length) : cutV xs (some (k : Int)) none = xs.drop k := by
  unfold cutV
  rw [HT.sIx_nat, HT.sIx_none, Nat.min_eq_left h]
  exact List.take_of_length_le (by rw [List.length_drop]; omega)
theorem share_sum {c : Int} (hc : 0 ≤ c) : ∀ xs : List Int, c * xs.sum ≤ 100 * (xs.map fun x => (x * c + 99) / 100).sum ∧ 100 * (xs.map fun x => (x * c + 99) / 100).sum ≤ c * xs.sum + 99 * xs.length
  | [] => by simp
  | x :: r => by
    obtain ⟨h1, h2⟩ := share_sum hc r
    rw [List.map_cons, List.sum_cons, List.sum_cons, List.length_cons, Int.mul_add, Int.mul_comm c x]
    generalize x * c = t at *
    generalize c * r.sum = u at *
    generalize (List.map (fun x => (x * c + 99) / 100) r).sum = v at *
    omega
/-! ### _law_paid -/
abbrev s__law_paid : Stmt := topS 6
abbrev N__law_paid : List Str := ["_law_box_here", "_law_pence", "_law_many", "_law_falls", "_law_left", "_law_whole", "_law_k", "_law_told", "_law_first"]
theorem sc__law_paid : FnScope N__law_paid ["_law_box_here", "_law_pence", "_law_many", "_law_falls"] (defScope s__law_paid) := ⟨rfl, rfl, rfl, by decide +kernel, rfl, by decide +kernel, by decide +kernel⟩
def sp__law_paid (K : PySem.W.Frag) : Sp := fun vs H Q _ => ∃ (b : Addr) (p m : Int) (fl : Bool) (n : Int), vs = [.ref b, .int p, .int m, .bl fl] ∧ Box H b n ∧ n < 1000000 ∧ 0 ≤ p ∧ p ≤ 1000000000 ∧ 1 ≤ m ∧ m ≤ 12 ∧ ∀ H', Box H' b (n + 12) → But b H H' → Q (.bl true) H'
theorem ok__law_paid {f : Addr} {fd : FuncData} (F : Fun K "_law_paid" "_law_paid" s__law_paid f fd) (g : mg "_law_paid" = some (.ref f)) (bd : Binds K fd ["_law_box_here", "_law_pence", "_law_many", "_law_falls"] []) (m_range : mg "range" = none) (m_sum : mg "sum" = none) (m_len : mg "len" = none) (C_parts_of : CF P w K mg base 1 "parts_of" ["pence", "many"] (sp_parts_of K)) (C__law_take : CF P w K mg base 1 "_law_take" ["_law_box_here", "_law_many"] (sp__law_take K)) : CF P w K mg base 2 "_law_paid" ["_law_box_here", "_law_pence", "_law_many", "_law_falls"] (sp__law_paid K) := by
  refine ⟨f, fd, F.ok sc__law_paid (fun vs H Q E h => ?_) (fun cdv A outer s H vs Q E hr h => ?_), g, F.kp, bd⟩
  · first | (obtain ⟨_, rfl, _⟩ := h; rfl) | (obtain ⟨_, _, rfl, _⟩ := h; rfl) | (obtain ⟨_, _, _, rfl, _⟩ := h; rfl) | (obtain ⟨_, _, _, _, rfl, _⟩ := h; rfl) | (obtain ⟨_, _, _, _, _, rfl, _⟩ := h; rfl) | (obtain ⟨_, _, _, _, _, _, rfl, _⟩ := h; rfl) | (obtain ⟨_, _, _, _, _, _, _, rfl, _⟩ := h; rfl)
  · have hu64 := hr.units
    obtain ⟨b, p, m, fl, n, rfl, hb, hn, hp, hp2, hm, hm2, q⟩ := h
    refine ⟨_, (pss_cons (ps_set (i := 4) sc__law_paid.nd rfl (.inl rfl) (pv 1))
      (pss_cons (ps_set (i := 5) sc__law_paid.nd rfl (.inl rfl) (pe_cf C_parts_of (hr.mono (by decide)) (by rfl) (pa_cons (pv 1) (pa_cons (pv 2) pa_nil))))
      (pss_cons (ps_for PassesOwn.never rfl (pi_range1 (by rfl) m_range (pa_cons (pv 2) pa_nil)) (pg_name (i := 6) sc__law_paid.nd rfl (.inl rfl))
         (pss_cons (ps_set (i := 7) sc__law_paid.nd rfl (.inl rfl) (pe_cf C_parts_of (hr.mono (by decide)) (by rfl) (pa_cons (pv 4) (pa_cons (pe_op op_sub (pv 2) (pv 6)) pa_nil))))
          (pss_cons (ps_if (PW.pt (pw_or (pt_cmpR op_ne (pe_callB (kk_len K) (by rfl) m_len PySem.boot_len (pa_cons (pv 7) pa_nil)) (pe_op op_sub (pv 2) (pv 6)) (nomark _)) (pw_or (pt_cmpR op_ne (pe_callB (kk_sum K rfl) (by rfl) m_sum (by decide +kernel) (pa_cons (pv 7) pa_nil)) (pv 4) (nomark _)) (pw_or1 (PW.pt (pw_and (pt_not (pt_val (pv 3))) (pw_and1 (pt_cmpR (kk_neD K hu64) (pv 7) (pe_slice (kk_sll K) (pv 5) (po_some (pv 6)) po_none) (nomark _)))))))))
             (pss_one (ps_ret pe_bl))
             pss_nil)
          (pss_cons (ps_set (i := 8) sc__law_paid.nd rfl (.inl rfl) (pe_ix (kk_ixl K) (pv 7) pe_int (fun _ _ => rfl)))
          (pss_cons (ps_expr (pe_bm0 PySem.F.plainAttrs_list PySem.F.slot_list_clear PySem.F.type_list_clear mt_clear (pv 7)))
          (pss_cons (ps_set (i := 4) sc__law_paid.nd rfl (.inl rfl) (pe_op op_sub (pv 4) (pv 8)))
          (pss_one (ps_if (PW.pt (pw_and (pt_val (pv 3)) (pw_and1 (pt_cmpR op_eq (pe_op op_mod (pv 6) pe_int) pe_int (nomark _)))))
             (pss_one (ps_set (i := 4) sc__law_paid.nd rfl (.inl rfl) (pe_op op_sub (pv 4) (pe_cf C__law_take (hr.mono (by decide)) (by rfl) (pa_cons (pv 0) (pa_cons (pe_op op_add (pv 4) pe_int) pa_nil))))))
             pss_nil))))))))
      (pss_one (ps_ret (pe_and (pe_cmpR op_eq (pv 4) pe_int (nomark _)) (pe_one (pe_cmpR op_eq (pe_callB (kk_sum K rfl) (by rfl) m_sum (by decide +kernel) (pa_cons (pv 5) pa_nil)) (pv 1) (nomark _))))))))), ?_⟩
    refine ⟨_, rfl, _, rfl, _, rfl, p, m, rfl, hp, hp2, hm, hm2, fun H1 l nl s1 hl => ?_⟩
    have nlb : l ≠ b := hb.ne nl
    have hlen := parts_len (p := p) hm
    refine ⟨_, rfl, _, rfl, by omega, by omega, for_range (fun i σ H' => ∃ L s6 s7 s8, σ = [some (.ref b), some (.int p), some (.int m), some (.bl fl), some (.int L), some (.ref l), s6, s7, s8] ∧ But b H1 H' ∧ Box H' b (n + i) ∧ 0 ≤ L ∧ L ≤ 1000000000 ∧ ((i : Int) = m → L = 0) ∧ (fl = false → (i : Int) < m → partsL L (m - i) = (partsL p m).drop i))
      ⟨p, _, _, _, rfl, But.refl b H1, (hb.same s1).mono (by omega), hp, hp2, fun z => by omega, fun _ _ => by simp⟩ (fun i σ H' hi h => ?_) (fun σ H' h => ?_)⟩
    · obtain ⟨L, s6, s7, s8, rfl, t1, hb1, hL, hL2, hend, hdrop⟩ := h
      have him : (i : Int) < m := by omega
      rw [Int.zero_add]
      obtain ⟨f, r, ef, f0, f1, f2, f3⟩ := parts_head (L := L) (j := m - i) hL (by omega)
      have hln := parts_len (p := L) (m := m - i) (by omega)
      have hsm := parts_sum (p := L) (m := m - i) (by omega)
      refine ⟨_, rfl, _, rfl, _, rfl, _, _, rfl, rfl, L, m - i, rfl, hL, hL2, by omega, by omega, fun H2 t nt st ht => ?_⟩
      have hl2 : H2 l = some (.lst ((partsL p m).map V.int)) := st _ _ (t1 _ _ nlb hl)
      have e0 : atI ((partsL L (m - i)).map V.int) 0 = some (.int f) := by
        rw [ef]
        exact atI_nat (j := 0) rfl
      refine ⟨_, rfl, t, _, rfl, .inl (SqL.of ht), _, rfl, _, rfl, _, _, rfl, rfl, rfl, _, rfl, iteNS (by rw [List.length_map, hln]) ?_⟩
      refine ⟨_, rfl, t, _, rfl, SqL.of ht, _, rfl, rfl, _, rfl, iteNS (by rw [hsm]) ?_⟩
      have ntb : t ≠ b := hb1.ne nt
      cases fl with
      | true =>
        refine ⟨_, rfl, _, rfl, iteF (iteF ?_)⟩
        refine ⟨_, rfl, t, _, _, _, rfl, rfl, SqL.of ht, e0, ?_⟩
        refine ⟨_, rfl, .inl ⟨rfl, _, SqL.of ht⟩, t, _, rfl, rfl, ht, ?_⟩
        have t3 : But b H1 (upd H2 t (.lst [])) := fun c o nc e => by
          rw [upd_ne (ne_of_none (t1 c o nc e) nt)]
          exact st _ _ (t1 c o nc e)
        have b3 : Box (upd H2 t (.lst [])) b (n + i) := by
          obtain ⟨x, y, z, h0, h1⟩ := hb1.same st
          exact ⟨x, y, z, by rw [upd_ne ntb.symm]; exact h0, h1⟩
        refine ⟨_, rfl, _, rfl, _, _, rfl, rfl, ?_⟩
        refine ⟨_, rfl, _, rfl, iteT ?_⟩
        refine ⟨_, rfl, _, _, rfl, rfl, (by show (0 : Int) < 2; decide), rfl, _, rfl, ite2 (fun e => ?_) (fun e => ?_)⟩
        · refine ⟨_, rfl, _, rfl, _, rfl, _, _, rfl, rfl, b, L - f + 1, n + i, rfl, b3, by omega, by omega, by omega, fun r2 H4 r20 r21 b4 t4 => ?_⟩
          refine ⟨_, _, rfl, rfl, _, _, _, _, rfl, t3.trans t4, b4.mono (by omega), by omega, by omega, fun z => ?_, fun z => by cases z⟩
          have := f2 (by omega)
          omega
        · exact ⟨_, _, _, _, rfl, t3, b3.mono (by omega), by omega, by omega, fun z => by have := f2 (by omega); omega, fun z => by cases z⟩
      | false =>
        have hd := hdrop rfl him
        refine ⟨_, rfl, _, rfl, iteT ?_⟩
        refine ⟨_, rfl, _, rfl, _, rfl, _, rfl, l, _, rfl, SqL.of hl2, fun c nc => ?_⟩
        have htc := (same_new (o := .lst (cutV ((partsL p m).map V.int) (some (i : Int)) none)) nc) _ _ ht
        have ec : (upd H2 c (.lst (cutV ((partsL p m).map V.int) (some (i : Int)) none))) c = some (.lst ((partsL L (m - i)).map V.int)) := by
          rw [upd_same, cut_from (by rw [List.length_map]; omega), hd, List.map_drop]
        refine ⟨_, _, dp_ints (SqL.of htc), dp_ints (SqL.of ec), sh_ints _, sh_ints _, _, rfl, ?_⟩
        rw [eqv_same]
        refine iteF ?_
        refine ⟨_, rfl, t, _, _, _, rfl, rfl, SqL.of htc, e0, ?_⟩
        refine ⟨_, rfl, .inl ⟨rfl, _, SqL.of htc⟩, t, _, rfl, rfl, htc, ?_⟩
        have t3 : But b H1 (upd (upd H2 c (.lst (cutV ((partsL p m).map V.int) (some (i : Int)) none))) t (.lst [])) := fun d o nd e => by
          rw [upd_ne (ne_of_none (t1 d o nd e) nt)]
          exact (same_new nc) _ _ (st _ _ (t1 d o nd e))
        have b3 : Box (upd (upd H2 c (.lst (cutV ((partsL p m).map V.int) (some (i : Int)) none))) t (.lst [])) b (n + i) := by
          obtain ⟨x, y, z, h0, h1⟩ := (hb1.same st).new (o := .lst (cutV ((partsL p m).map V.int) (some (i : Int)) none)) nc
          exact ⟨x, y, z, by rw [upd_ne ntb.symm]; exact h0, h1⟩
        refine ⟨_, rfl, _, rfl, _, _, rfl, rfl, ?_⟩
        refine ⟨_, rfl, _, rfl, iteF (iteF ?_)⟩
        refine ⟨_, _, _, _, rfl, t3, b3.mono (by omega), by omega, by omega, fun z => by have := f2 (by omega); omega, fun _ z => ?_⟩
        have h3 := f3 (by omega)
        rw [ef] at hd
        have h4 : (partsL p m).drop (i + 1) = r := by
          rw [← List.drop_drop, ← hd]
          rfl
        rw [h4, h3]
        congr 1
        omega
    · obtain ⟨L, s6, s7, s8, rfl, t1, hb1, hL, hL2, hend, hdrop⟩ := h
      have h0 : L = 0 := hend (by omega)
      subst h0
      refine ⟨_, rfl, rfl, _, rfl, iteT ?_⟩
      refine ⟨_, rfl, l, _, rfl, SqL.of (t1 _ _ nlb hl), _, rfl, rfl, ?_⟩
      rw [parts_sum hm, decide_eq_true rfl]
      exact q _ (hb1.mono (by omega)) ((But.of s1).trans t1)
/-! ### law -/
abbrev s_law : Stmt := topS 7
abbrev N_law : List Str := ["_law_script", "_law_k", "_law_box_here", "_law_turn", "_law_pence", "_law_many", "_law_percent", "_law_told", "_law_part"]
theorem sc_law : FnScope N_law ["_law_script"] (defScope s_law) := ⟨rfl, rfl, rfl, by decide +kernel, rfl, by decide +kernel, by decide +kernel⟩
def sp_law (K : PySem.W.Frag) : Sp := fun vs H Q _ => ∃ (a : Addr) (ns : List Int), vs = [.ref a] ∧ SqL K H a (ns.map V.int) ∧ ns.length ≤ 63 ∧ ∀ H', Q (.bl true) H'
theorem pick3 {r x y z : Int} (h0 : 0 ≤ r) (h1 : r < 3) : ∃ c : Int, atI [V.int x, .int y, .int z] r = some (.int c) ∧ (c = x ∨ c = y ∨ c = z) := by
  have h : r = 0 ∨ r = 1 ∨ r = 2 := by omega
  rcases h with rfl | rfl | rfl
  · exact ⟨x, rfl, .inl rfl⟩
  · exact ⟨y, rfl, .inr (.inl rfl)⟩
  · exact ⟨z, rfl, .inr (.inr rfl)⟩
theorem pick2 {r x y : Int} (h0 : 0 ≤ r) (h1 : r < 2) : ∃ c : Int, atI [V.int x, .int y] r = some (.int c) ∧ (c = x ∨ c = y) := by
  have h : r = 0 ∨ r = 1 := by omega
  rcases h with rfl | rfl
  · exact ⟨x, rfl, .inl rfl⟩
  · exact ⟨y, rfl, .inr rfl⟩
theorem ok_law {f : Addr} {fd : FuncData} (F : Fun K "law" "law" s_law f fd) (m_range : mg "range" = none) (m_min : mg "min" = none) (m_len : mg "len" = none) (m_sum : mg "sum" = none) (C__law_box : CF P w K mg base 1 "_law_box" ["_law_script", "_law_k"] (sp__law_box K)) (C__law_take : CF P w K mg base 1 "_law_take" ["_law_box_here", "_law_many"] (sp__law_take K)) (C__law_paid : CF P w K mg base 2 "_law_paid" ["_law_box_here", "_law_pence", "_law_many", "_law_falls"] (sp__law_paid K)) (C_parts_of : CF P w K mg base 1 "parts_of" ["pence", "many"] (sp_parts_of K)) (C_share_up : CF P w K mg base 1 "share_up" ["pence", "percent"] (sp_share_up K)) : FnOk P w K mg base CX0 3 f fd ["_law_script"] (sp_law K) := by
  refine F.ok sc_law (fun vs H Q E h => ?_) (fun cdv A outer s H vs Q E hr h => ?_)
  · first | (obtain ⟨_, rfl, _⟩ := h; rfl) | (obtain ⟨_, _, rfl, _⟩ := h; rfl) | (obtain ⟨_, _, _, rfl, _⟩ := h; rfl) | (obtain ⟨_, _, _, _, rfl, _⟩ := h; rfl) | (obtain ⟨_, _, _, _, _, rfl, _⟩ := h; rfl) | (obtain ⟨_, _, _, _, _, _, rfl, _⟩ := h; rfl) | (obtain ⟨_, _, _, _, _, _, _, rfl, _⟩ := h; rfl)
  · have hu64 := hr.units
    obtain ⟨a, ns, rfl, hS, hlen, q⟩ := h
    refine ⟨_, (pss_cons (ps_for PassesOwn.never rfl (pi_range1 (by rfl) m_range (pa_cons (pe_op op_add pe_int (pe_callB (call_min2 rfl) (by rfl) m_min (by decide +kernel) (pa_cons pe_int (pa_cons (pe_callB (kk_len K) (by rfl) m_len PySem.boot_len (pa_cons (pv 0) pa_nil)) pa_nil)))) pa_nil)) (pg_name (i := 1) sc_law.nd rfl (.inl rfl))
         (pss_cons (ps_set (i := 2) sc_law.nd rfl (.inl rfl) (pe_cf C__law_box (hr.mono (by decide)) (by rfl) (pa_cons (pv 0) (pa_cons (pv 1) pa_nil))))
          (pss_one (ps_for PassesOwn.never rfl (pi_range1 (by rfl) m_range (pa_cons pe_int pa_nil)) (pg_name (i := 3) sc_law.nd rfl (.inl rfl))
             (pss_cons (ps_set (i := 4) sc_law.nd rfl (.inl rfl) (pe_ix (kk_ixl K) (pe_lst (pa_cons (pe_cf C__law_take (hr.mono (by decide)) (by rfl) (pa_cons (pv 2) (pa_cons pe_int pa_nil))) (pa_cons (pe_cf C__law_take (hr.mono (by decide)) (by rfl) (pa_cons (pv 2) (pa_cons (pe_op op_add (pe_op op_pow pe_int pe_int) pe_int) pa_nil))) (pa_cons (pe_cf C__law_take (hr.mono (by decide)) (by rfl) (pa_cons (pv 2) (pa_cons (pe_op op_add (pe_op op_pow pe_int pe_int) pe_int) pa_nil))) pa_nil)))) (pe_cf C__law_take (hr.mono (by decide)) (by rfl) (pa_cons (pv 2) (pa_cons pe_int pa_nil))) (fun _ _ => rfl)))
              (pss_cons (ps_asg (pe_tup (pa_cons (pe_ix (kk_ixl K) (pe_lst (pa_cons pe_int (pa_cons (pe_op op_add pe_int (pe_cf C__law_take (hr.mono (by decide)) (by rfl) (pa_cons (pv 2) (pa_cons pe_int pa_nil)))) pa_nil))) (pe_cf C__law_take (hr.mono (by decide)) (by rfl) (pa_cons (pv 2) (pa_cons pe_int pa_nil))) (fun _ _ => rfl)) (pa_cons (pe_cf C__law_take (hr.mono (by decide)) (by rfl) (pa_cons (pv 2) (pa_cons pe_int pa_nil))) pa_nil))) (pg_tup (by rfl) (pgs_cons (pg_name (i := 5) sc_law.nd rfl (.inl rfl)) (pgs_cons (pg_name (i := 6) sc_law.nd rfl (.inr rfl)) pgs_nil))))
              (pss_cons (ps_if (pt_not (pt_val (pe_cf C__law_paid (hr.mono (by decide)) (by rfl) (pa_cons (pv 2) (pa_cons (pv 4) (pa_cons (pv 5) (pa_cons (pe_cmpR op_eq (pe_cf C__law_take (hr.mono (by decide)) (by rfl) (pa_cons (pv 2) (pa_cons pe_int pa_nil))) pe_int (nomark _)) pa_nil)))))))
                 (pss_one (ps_ret pe_bl))
                 pss_nil)
              (pss_cons (ps_set (i := 7) sc_law.nd rfl (.inl rfl) (pe_callB (kk_sum K rfl) (by rfl) m_sum (by decide +kernel) (pa_cons (pe_lc (own := [("_law_part", 8)]) (g := (gName 8)) (tt := tYes) rfl sc_law.nd (pi_list (pe_cf C_parts_of (hr.mono (by decide)) (by rfl) (pa_cons (pv 4) (pa_cons (pv 5) pa_nil)))) (blkOk_by (own := [("_law_part", 8)]) (N := N_law) (sc := defScope s_law) (by decide +kernel)) (fun _ _ _ _ _ => pg_name (i := 8) sc_law.nd rfl (Or.inl rfl)) (fun _ _ _ _ _ => pts_nil) (fun _ _ _ _ _ => (pe_cf C_share_up (hr.mono (by decide)) (by rfl) (pa_cons (pv 8) (pa_cons (pv 6) pa_nil))))) pa_nil)))
              (pss_one (ps_if (pt_not (pt_chain op_le op_lt pe_int (pe_op op_sub (pv 7) (pe_cf C_share_up (hr.mono (by decide)) (by rfl) (pa_cons (pv 4) (pa_cons (pv 6) pa_nil)))) (pv 5)))
                 (pss_one (ps_ret pe_bl))
                 pss_nil))))))))))
      (pss_one (ps_ret pe_bl))), ?_⟩
    refine ⟨_, rfl, a, _, rfl, .inl hS, _, _, rfl, _, _, rfl, rfl, _, rfl, ?_, ?_, for_range (fun i σ H' => ∃ s1 s2 s3 s4 s5 s6 s7 s8, σ = [some (.ref a), s1, s2, s3, s4, s5, s6, s7, s8] ∧ Same H H') ⟨_, _, _, _, _, _, _, _, rfl, Same.refl H⟩ (fun i σ H' hi h => ?_) (fun σ H' _ => q _)⟩
    · split <;> omega
    · split <;> omega
    · obtain ⟨s1, s2, s3, s4, s5, s6, s7, s8, rfl, sm⟩ := h
      have hi2 : i < 10 := by
        have h1 : (1 + if (((ns.map V.int).length : Nat) : Int) < 6 then (((ns.map V.int).length : Nat) : Int) else 6) ≤ 7 := by split <;> omega
        omega
      refine ⟨_, rfl, _, rfl, a, _, ns, rfl, sm.seq hS, by omega, by omega, fun H1 b nb sb hb => ?_⟩
      have nb0 : H b = none := sm.free nb
      refine ⟨_, rfl, by decide, by decide, for_range (fun j σ H2 => ∃ s3 s4 s5 s6 s7 s8, σ = [some (.ref a), some (.int (0 + i)), some (.ref b), s3, s4, s5, s6, s7, s8] ∧ Same H H2 ∧ Box H2 b (24 * j)) ⟨_, _, _, _, _, _, rfl, sm.trans sb, hb.mono (by omega)⟩ (fun j σ H2 hj h => ?_) (fun σ H2 h => ?_)⟩
      · obtain ⟨s3, s4, s5, s6, s7, s8, rfl, sm2, hb2⟩ := h
        have hj2 : j < 6 := hj
        refine ⟨_, rfl, b, 40, _, rfl, hb2, by decide, by decide, by omega, fun x1 G1 x10 x11 b1 t1 => ?_⟩
        refine ⟨_, rfl, _, _, rfl, rfl, ⟨by decide, by decide, by decide⟩, _, _, rfl, rfl, b, _, _, rfl, b1, by decide, by decide, by omega, fun x2 G2 x20 x21 b2 t2 => ?_⟩
        refine ⟨_, rfl, _, _, rfl, rfl, ⟨by decide, by decide, by decide⟩, _, _, rfl, rfl, b, _, _, rfl, b2, by decide, by decide, by omega, fun x3 G3 x30 x31 b3 t3 => ?_⟩
        have x21' : x2 < 1000001 := x21
        have x31' : x3 < 1000000001 := x31
        refine ⟨(by show 3 ≤ sizeLine; decide), fun l hl => ?_⟩
        have b4 := b3.new (o := .lst [.int x1, .int x2, .int x3]) hl
        have t4 : But b _ _ := But.new (b := b) (o := .lst [.int x1, .int x2, .int x3]) hl
        refine ⟨_, rfl, b, 3, _, rfl, b4, by decide, by decide, by omega, fun r H5 r0 r1 b5 t5 => ?_⟩
        obtain ⟨p, hpk, hp⟩ := pick3 (x := x1) (y := x2) (z := x3) r0 r1
        refine ⟨l, _, _, _, rfl, rfl, SqL.of (t5 _ _ (b3.ne hl) upd_same), hpk, ?_⟩
        have sm5 : Same H H5 := same_but (same_but (same_but (same_but (same_but sm2 nb0 t1) nb0 t2) nb0 t3) nb0 t4) nb0 t5
        have hp0 : 0 ≤ p := by omega
        have hp1 : p ≤ 1000000000 := by omega
        -- many, percent
        refine ⟨_, rfl, b, 12, _, rfl, b5, by decide, by decide, by omega, fun y1 H6 y10 y11 b6 t6 => ?_⟩
        refine ⟨_, _, rfl, rfl, (by show 2 ≤ sizeLine; decide), fun l2 hl2 => ?_⟩
        have b7 := b6.new (o := .lst [.int 12, .int (1 + y1)]) hl2
        have t7 : But b _ _ := But.new (b := b) (o := .lst [.int 12, .int (1 + y1)]) hl2
        refine ⟨_, rfl, b, 2, _, rfl, b7, by decide, by decide, by omega, fun y2 H8 y20 y21 b8 t8 => ?_⟩
        obtain ⟨m, hmk, hm⟩ := pick2 (x := 12) (y := 1 + y1) y20 y21
        refine ⟨l2, _, _, _, rfl, rfl, SqL.of (t8 _ _ (b6.ne hl2) upd_same), hmk, ?_⟩
        refine ⟨_, rfl, b, 101, _, rfl, b8, by decide, by decide, by omega, fun c H9 c0 c1 b9 t9 => ?_⟩
        have sm9 : Same H H9 := same_but (same_but (same_but (same_but sm5 nb0 t6) nb0 t7) nb0 t8) nb0 t9
        have hm0 : 1 ≤ m := by omega
        have hm1 : m ≤ 12 := by omega
        refine ⟨(by show 2 ≤ sizeLine; decide), fun tu htu => ?_⟩
        refine ⟨tu, [.int m, .int c], rfl, .inl (.inl upd_same), rfl, _, _, rfl, _, _, rfl, rfl, ?_⟩
        have b10 := b9.new (o := .tup [.int m, .int c]) htu
        have sm10 := sm9.trans (same_new (o := .tup [.int m, .int c]) htu)
        -- _law_paid
        refine ⟨_, rfl, _, rfl, _, rfl, _, rfl, b, 3, _, rfl, b10, by decide, by decide, by omega, fun z H11 z0 z1 b11 t11 => ?_⟩
        refine ⟨rfl, b, p, m, _, _, rfl, b11, by omega, hp0, hp1, hm0, hm1, fun H12 b12 t12 => ?_⟩
        have sm12 : Same H H12 := same_but (same_but sm10 nb0 t11) nb0 t12
        refine ⟨_, rfl, iteF ?_⟩
        -- the shares
        refine ⟨_, rfl, _, rfl, p, m, rfl, hp0, hp1, hm0, hm1, fun H13 pl npl s13 hpl => ?_⟩
        have hln := parts_len (p := p) hm0
        refine ⟨pl, rfl, ⟨_, SqL.of hpl⟩, fun D hD => lc_list (K := K) (a := pl) (xs := (partsL p m).map V.int) (fun i H' => Same H13 H' ∧ H' D = some (.lst ((((partsL p m).take i).map fun x => (x * c + 99) / 100).map V.int))) ⟨same_new hD, upd_same⟩ (fun i H' _ h => h.1.seq (SqL.of hpl)) (fun i x H' hx h => ?_) (fun H' h => ?_)⟩
        · rw [List.getElem?_map] at hx
          obtain ⟨x, hx2, rfl⟩ := Option.map_eq_some_iff.mp hx
          clear hx
          have hq0 : 0 ≤ p / m := Int.ediv_nonneg hp0 (by omega)
          have hq1 : p / m ≤ p := Int.ediv_le_self _ hp0
          have hxm := parts_mem (List.mem_of_getElem? hx2)
          have hxp : 0 ≤ x := by omega
          have hxq : x ≤ 1000000000 := by
            by_cases hp' : p = 1000000000
            · subst hp'
              have hm' : m = 1 ∨ 2 ≤ m := by omega
              rcases hm' with rfl | hm'
              · have : (partsL 1000000000 1) = [1000000000] := by decide
                rw [this] at hx2
                have := List.mem_of_getElem? hx2
                simp at this
                omega
              · have : (1000000000 : Int) / m ≤ 1000000000 / 2 := by
                  have := Int.mul_ediv_add_emod 1000000000 m
                  have h0 := Int.emod_nonneg 1000000000 (show m ≠ 0 by omega)
                  have h2 : 2 * ((1000000000 : Int) / m) ≤ m * (1000000000 / m) := Int.mul_le_mul_of_nonneg_right hm' hq0
                  omega
                omega
            · omega
          refine ⟨rfl, _, rfl, _, rfl, x, c, rfl, hxp, hxq, c0, by omega, _, h.2, ?_, ?_, ?_⟩
          · rw [List.length_map, List.length_map, List.length_take]
            exact small1000 (by omega)
          · exact fun d o e => by
              rw [upd_ne (ne_of_none e hD)]
              exact h.1 _ _ e
          · rw [upd_same, List.take_add_one, hx2, Option.toList_some, List.map_append, List.map_append]
            rfl
        · obtain ⟨s14, h14⟩ := h
          rw [List.length_map, List.take_of_length_le (Nat.le_refl _)] at h14
          refine ⟨D, _, rfl, SqL.of h14, ?_⟩
          obtain ⟨g1, g2⟩ := share_sum (c := c) c0 (partsL p m)
          rw [parts_sum hm0, hln, Int.mul_comm c p] at g2
          rw [parts_sum hm0, Int.mul_comm c p] at g1
          generalize hv : ((partsL p m).map fun x => (x * c + 99) / 100).sum = v at *
          have k1 : 0 ≤ v - (p * c + 99) / 100 := by omega
          have k2 : v - (p * c + 99) / 100 < m := by omega
          refine ⟨_, rfl, _, rfl, _, rfl, p, c, rfl, hp0, hp1, c0, by omega, _, _, rfl, rfl, _, _, rfl, rfl, _, rfl, iteY k1 ⟨_, rfl, _, _, rfl, rfl, _, rfl, iteNS k2 ?_⟩⟩
          exact ⟨_, _, _, _, _, _, rfl, (sm12.trans s13).trans s14, ((b12.same s13).same s14).mono (by omega)⟩
      · obtain ⟨s3, s4, s5, s6, s7, s8, rfl, sm2, _⟩ := h
        exact ⟨_, _, _, _, _, _, _, _, rfl, sm2⟩
end
theorem all_mk {l : PySem.W.OpenLaw} {w : World} {K : PySem.W.Frag} {h : Heap} {mg : Str → Option Value} {fa f0 f1 f2 f3 f4 f5 : Addr} (X : K.In h) (G : h.Ns mainGlobals mg) (hfa : mg "law" = some (.ref fa))
    {od0 an0 od1 an1 od2 an2 od3 an3 od4 an4 od5 an5 : Option Addr} {sl0 sl1 sl2 sl3 sl4 sl5 : Array (Option Value)} {oc0 kV0 dc0 pm0 cd0 ct0 oc1 kV1 dc1 pm1 cd1 ct1 oc2 kV2 dc2 pm2 cd2 ct2 oc3 kV3 dc3 pm3 cd3 ct3 oc4 kV4 dc4 pm4 cd4 ct4 oc5 kV5 dc5 pm5 cd5 ct5 : Value}
    (a0 : PySem.W.nsIn K mainGlobals "_law_take" = some (some (.ref f0))) (l0 : K.lookup f0 = some ⟨oc0, od0, .func (PySem.W.fnOf "_law_take" "_law_take" (defArgs s__law_take) (defBody s__law_take) (defScope s__law_take) .none kV0 dc0 pm0 an0 cd0 ct0), sl0⟩) (c0 : PySem.W.codeIn K cd0 "_law_take" = true) (k0 : PySem.W.keepIn K (.ref f0) = true)
    (a1 : PySem.W.nsIn K mainGlobals "_law_box" = some (some (.ref f1))) (l1 : K.lookup f1 = some ⟨oc1, od1, .func (PySem.W.fnOf "_law_box" "_law_box" (defArgs s__law_box) (defBody s__law_box) (defScope s__law_box) .none kV1 dc1 pm1 an1 cd1 ct1), sl1⟩) (c1 : PySem.W.codeIn K cd1 "_law_box" = true) (k1 : PySem.W.keepIn K (.ref f1) = true)
    (a2 : PySem.W.nsIn K mainGlobals "share_up" = some (some (.ref f2))) (l2 : K.lookup f2 = some ⟨oc2, od2, .func (PySem.W.fnOf "share_up" "share_up" (defArgs s_share_up) (defBody s_share_up) (defScope s_share_up) .none kV2 dc2 pm2 an2 cd2 ct2), sl2⟩) (c2 : PySem.W.codeIn K cd2 "share_up" = true) (k2 : PySem.W.keepIn K (.ref f2) = true)
    (a3 : PySem.W.nsIn K mainGlobals "parts_of" = some (some (.ref f3))) (l3 : K.lookup f3 = some ⟨oc3, od3, .func (PySem.W.fnOf "parts_of" "parts_of" (defArgs s_parts_of) (defBody s_parts_of) (defScope s_parts_of) .none kV3 dc3 pm3 an3 cd3 ct3), sl3⟩) (c3 : PySem.W.codeIn K cd3 "parts_of" = true) (k3 : PySem.W.keepIn K (.ref f3) = true)
    (a4 : PySem.W.nsIn K mainGlobals "_law_paid" = some (some (.ref f4))) (l4 : K.lookup f4 = some ⟨oc4, od4, .func (PySem.W.fnOf "_law_paid" "_law_paid" (defArgs s__law_paid) (defBody s__law_paid) (defScope s__law_paid) .none kV4 dc4 pm4 an4 cd4 ct4), sl4⟩) (c4 : PySem.W.codeIn K cd4 "_law_paid" = true) (k4 : PySem.W.keepIn K (.ref f4) = true)
    (a5 : PySem.W.nsIn K mainGlobals "law" = some (some (.ref f5))) (l5 : K.lookup f5 = some ⟨oc5, od5, .func (PySem.W.fnOf "law" "law" (defArgs s_law) (defBody s_law) (defScope s_law) .none kV5 dc5 pm5 an5 cd5 ct5), sl5⟩) (c5 : PySem.W.codeIn K cd5 "law" = true) (k5 : PySem.W.keepIn K (.ref f5) = true)
    (z_len : PySem.W.nsIn K mainGlobals "len" = some none) (z_abs : PySem.W.nsIn K mainGlobals "abs" = some none) (z_int : PySem.W.nsIn K mainGlobals "int" = some none) (z_divmod : PySem.W.nsIn K mainGlobals "divmod" = some none) (z_range : PySem.W.nsIn K mainGlobals "range" = some none) (z_sum : PySem.W.nsIn K mainGlobals "sum" = some none) (z_min : PySem.W.nsIn K mainGlobals "min" = some none) :
    ∃ fd : FuncData, (∀ (s : Shared) (v : Value), BindsTo s fd ⟨[v], []⟩ [("_law_script", v)]) ∧ ∀ base : Heap, K.In base → base.Ns mainGlobals mg → FnOk l.prog w K mg base CX0 3 fa fd ["_law_script"] (sp_law K) := by
  have e := hfa.symm.trans (PySem.W.mg_of X G a5)
  cases e
  have F0 := fun_mk (st := s__law_take) l0 c0 k0
  have b0 := F0.binds (ps := ["_law_box_here", "_law_many"]) fun _ _ _ _ _ _ us hl => match us, hl with | [_, _], _ => rfl
  have g0 := PySem.W.mg_of X G a0
  have F1 := fun_mk (st := s__law_box) l1 c1 k1
  have b1 := F1.binds (ps := ["_law_script", "_law_k"]) fun _ _ _ _ _ _ us hl => match us, hl with | [_, _], _ => rfl
  have g1 := PySem.W.mg_of X G a1
  have F2 := fun_mk (st := s_share_up) l2 c2 k2
  have b2 := F2.binds (ps := ["pence", "percent"]) fun _ _ _ _ _ _ us hl => match us, hl with | [_, _], _ => rfl
  have g2 := PySem.W.mg_of X G a2
  have F3 := fun_mk (st := s_parts_of) l3 c3 k3
  have b3 := F3.binds (ps := ["pence", "many"]) fun _ _ _ _ _ _ us hl => match us, hl with | [_, _], _ => rfl
  have g3 := PySem.W.mg_of X G a3
  have F4 := fun_mk (st := s__law_paid) l4 c4 k4
  have b4 := F4.binds (ps := ["_law_box_here", "_law_pence", "_law_many", "_law_falls"]) fun _ _ _ _ _ _ us hl => match us, hl with | [_, _, _, _], _ => rfl
  have g4 := PySem.W.mg_of X G a4
  have F5 := fun_mk (st := s_law) l5 c5 k5
  have m_len := PySem.W.mg_none_of X G z_len
  have m_abs := PySem.W.mg_none_of X G z_abs
  have m_int := PySem.W.mg_none_of X G z_int
  have m_divmod := PySem.W.mg_none_of X G z_divmod
  have m_range := PySem.W.mg_none_of X G z_range
  have m_sum := PySem.W.mg_none_of X G z_sum
  have m_min := PySem.W.mg_none_of X G z_min
  refine ⟨PySem.W.fnOf "law" "law" (defArgs s_law) (defBody s_law) (defScope s_law) .none kV5 dc5 pm5 an5 cd5 ct5, fun s v => .of_eq rfl, fun base _ _ => ?_⟩
  have C__law_take := ok__law_take (P := l.prog) (w := w) (base := base) F0 g0 b0
  have C__law_box := ok__law_box (P := l.prog) (w := w) (base := base) F1 g1 b1 m_len m_abs m_int
  have C_share_up := ok_share_up (P := l.prog) (w := w) (base := base) F2 g2 b2
  have C_parts_of := ok_parts_of (P := l.prog) (w := w) (base := base) F3 g3 b3 m_divmod
  have C__law_paid := ok__law_paid (P := l.prog) (w := w) (base := base) F4 g4 b4 m_range m_sum m_len C_parts_of C__law_take
  exact ok_law F5 m_range m_min m_len m_sum C__law_box C__law_take C__law_paid C_parts_of C_share_up
end Pw
open PySem PySem.W PyProof.Rows
set_option maxHeartbeats 0 in
theorem PySem.Challenge.cw_partwares_k05_parts_paid_down_holds : PySem.Challenge.rw_partwares_k05_parts_paid_down.Holds := by
  w_on; o_law; k_head; (case hw => w_witness2)
  k_fill
  refine L2.walk_of (l := PySem.Challenge.rw_partwares_k05_parts_paid_down) (n := 63) (k := 3) (x := "_law_script") (CX := fun _ => L2.CX0) (sp := fun w => Pw.sp_law _) rfl (by decide) rfl ⟨rfl, by decide, by decide⟩ (fun w h Y => PySem.W.kIn_of Y) ?F (fun _ _ a ns hl _ hS => ⟨a, ns, rfl, hS, hl, fun _ => rfl⟩) (fun _ _ _ _ _ h => h)
  case F =>
    intro w mg fa h KX G hmg
    refine' Pw.all_mk KX G hmg ?a0 ?l0 ?c0 ?k0 ?a1 ?l1 ?c1 ?k1 ?a2 ?l2 ?c2 ?k2 ?a3 ?l3 ?c3 ?k3 ?a4 ?l4 ?c4 ?k4 ?a5 ?l5 ?c5 ?k5 ?z_len ?z_abs ?z_int ?z_divmod ?z_range ?z_sum ?z_min
    (case a0 => k_is); (case l0 => k_is); (case c0 => k_is); (case k0 => k_is); (case a1 => k_is); (case l1 => k_is); (case c1 => k_is); (case k1 => k_is); (case a2 => k_is); (case l2 => k_is); (case c2 => k_is); (case k2 => k_is); (case a3 => k_is); (case l3 => k_is); (case c3 => k_is); (case k3 => k_is); (case a4 => k_is); (case l4 => k_is); (case c4 => k_is); (case k4 => k_is); (case a5 => k_is); (case l5 => k_is); (case c5 => k_is); (case k5 => k_is); (case z_len => k_is); (case z_abs => k_is); (case z_int => k_is); (case z_divmod => k_is); (case z_range => k_is); (case z_sum => k_is); (case z_min => k_is)
