import PyProof.Rows.All
import Wide.All
import OpenK.AllK
import Wide.FinOn
import HandS.Base
import HandS.Call
import HandS.List
import HandS.Comp
import HandS.Ends
import HandS.Iter
import HandS.Text
import HandS.Words
import HandS.WordsList
import HandS.IsInst
import HandS.Style
import PySem.Challenge.RW_partwares_k04_parts_and_shares
set_option Elab.async false
set_option linter.all false
set_option maxRecDepth 100000
namespace Pw
open PySem PySem.Spec PyProof.Rows L2
/-! ### a def of the text by its promise, its address left aside -/
structure CF (P : Program) (w : World) (K : PySem.W.Frag) (mg : Str → Option Value) (base : Heap) (k : Nat) (x : Str) (ps : List Str) (sp : Sp) : Prop where
  ex : ∃ (f : Addr) (fd : FuncData), FnOk P w K mg base CX0 k f fd ps sp ∧ mg x = some (.ref f) ∧ PySem.W.keepIn K (.ref f) = true ∧ Binds K fd ps []
theorem pe_cf {X : Cx} {k : Nat} {x : Str} {ps : List Str} {sp : Sp} {e : Expr} {es : List Expr} {t : TA} {p pos : Pos} (C : CF X.prog X.w X.K X.mg X.base k x ps sp) (hr : Room k X.A) (hg : Gl X x) (ha : PA X (e :: es) t)
    (hdb : (x == ("__debug__" : Str)) = false := by decide) (he : starEach (e :: es) X.env = (false, eval e X.env) :: starEach es X.env := by rfl) (hpl : (backTo pos (starEach es X.env)).any (·.1) = false := by rfl) :
    PE X (.Call (.Name x p) (e :: es) [] pos) (tCall sp [] E0 t) := by
  obtain ⟨f, fd, F, g, kp, b⟩ := C.ex
  exact pe_call F hr hg g kp b .nil pass0 ha hdb he hpl
/-! ### the rules with their written part named (within a comprehension it must not hang on the block) -/
section
variable (K : PySem.W.Frag) {X : Cx}
theorem kk_isi (h : X.K = K := by rfl) : CallR X (.builtin "isinstance") (rIsi K) := h ▸ call_isi
theorem kk_isiT (h : X.K = K := by rfl) : CallR X (.builtin "isinstance") (rIsiT K) := h ▸ call_isiT
theorem kk_len (h : X.K = K := by rfl) : CallR X (.builtin "len") (fun xs H Q => ∃ p ys, xs = [.ref p] ∧ (SqL K H p ys ∨ SqT K H p ys) ∧ Q (.int ys.length) H) := h ▸ call_len_seq
theorem kk_list (h : X.K = K := by rfl) : CallR X (.type "list") (fun xs H Q => ∃ p ys, xs = [.ref p] ∧ (SqL K H p ys ∨ SqT K H p ys) ∧ ∀ l, H l = none → Q (.ref l) (upd H l (.lst ys))) := h ▸ call_list_of
theorem kk_tuple (h : X.K = K := by rfl) : CallR X (.type "tuple") (fun xs H Q => ∃ p ys, xs = [.ref p] ∧ ((SqL K H p ys ∧ ∀ l, H l = none → Q (.ref l) (upd H l (.tup ys))) ∨ (SqT K H p ys ∧ Q (.ref p) H))) := h ▸ call_tuple_of
theorem kk_sum (hc : X.calm = true) (h : X.K = K := by rfl) : CallR X (.builtin "sum") (rSum K) := h ▸ cr_sum hc
theorem kk_max (hc : X.calm = true) (h : X.K = K := by rfl) : CallR X (.builtin "max") (rMax K) := h ▸ cr_max hc
theorem kk_min (hc : X.calm = true) (h : X.K = K := by rfl) : CallR X (.builtin "min") (rMin K) := h ▸ cr_min hc
theorem kk_any (hc : X.calm = true) (h : X.K = K := by rfl) : CallR X (.builtin "any") (rAny K) := h ▸ cr_any hc
theorem kk_all (hc : X.calm = true) (h : X.K = K := by rfl) : CallR X (.builtin "all") (rAll K) := h ▸ cr_all hc
theorem kk_sorted (h : X.K = K := by rfl) : CallR X (.builtin "sorted") (rSorted K) := h ▸ cr_sorted
theorem kk_ixl (h : X.K = K := by rfl) : IxR X (rIxL K) := h ▸ ix_list
theorem kk_ixt (h : X.K = K := by rfl) : IxR X (rIxT K) := h ▸ ix_tup
theorem kk_sll (h : X.K = K := by rfl) : SlR X (rSlL K) := h ▸ sl_list
theorem kk_slt (h : X.K = K := by rfl) : SlR X (rSlT K) := h ▸ sl_tup
theorem kk_in (h : X.K = K := by rfl) : OpR X (compareOp .In) (rIn K false) := h ▸ op_in_seq
theorem kk_nin (h : X.K = K := by rfl) : OpR X (compareOp .NotIn) (rIn K true) := h ▸ op_notIn_seq
theorem kk_catT (h : X.K = K := by rfl) : OpR X (binaryOp .Add) (rCatT K) := h ▸ op_catT
theorem kk_eqD (hu : X.A.units + 64 < cLine) (h : X.K = K := by rfl) : OpR X (compareOp .Eq) (rEqD K) := h ▸ op_eqD hu
theorem kk_neD (hu : X.A.units + 64 < cLine) (h : X.K = K := by rfl) : OpR X (compareOp .NotEq) (rNeD K) := h ▸ op_neD hu
theorem kk_revL {e : Expr} {te : TE} {k : Nat} {p1 p2 p3 pos : Pos} (he : PE X e te) (h : X.K = K := by rfl) : PE X (.Subscript e (.Slice none none (some (.UnaryOp .USub (.Constant (.int 1) k p1) p2)) p3) pos) (tRevL K te) := h ▸ pe_revL he
end
/-! ### heaps: all as it was, but one place -/
def But (b : Addr) (H H' : Hp) : Prop := ∀ c o, c ≠ b → H c = some o → H' c = some o
theorem But.refl (b : Addr) (H : Hp) : But b H H := fun _ _ _ h => h
theorem But.trans {b : Addr} {H H1 H2 : Hp} (x : But b H H1) (y : But b H1 H2) : But b H H2 := fun c o n h => y c o n (x c o n h)
theorem But.of {b : Addr} {H H1 : Hp} (x : Same H H1) : But b H H1 := fun c o _ h => x c o h
theorem But.upd {b : Addr} {H : Hp} {o : HO} : But b H (L2.upd H b o) := fun c u n h => by
  rw [upd_ne n]
  exact h
theorem But.new {b p : Addr} {H : Hp} {o : HO} (h : H p = none) : But b H (L2.upd H p o) := fun c u _ e => by
  rw [upd_ne (ne_of_none e h)]
  exact e
theorem same_new {H : Hp} {p : Addr} {o : HO} (h : H p = none) : Same H (upd H p o) := fun b x e => by
  rw [upd_ne (ne_of_none e h)]
  exact e
theorem But.seq {K : PySem.W.Frag} {b a : Addr} {H H' : Hp} {xs : List V} (e : But b H H') (n : a ≠ b) (h : SqL K H a xs) : SqL K H' a xs := by
  rcases h with (h | ⟨o, h⟩) | h
  · exact .inl (.inl (e _ _ n h))
  · exact .inl (.inr ⟨o, e _ _ n h⟩)
  · exact .inr h
/-! ### the law's box of three numbers -/
def Box (H : Hp) (b : Addr) (n : Int) : Prop := ∃ x y z : Int, H b = some (.lst [.int x, .int y, .int z]) ∧ 0 ≤ x ∧ 0 ≤ y ∧ y ≤ 3000000000 ∧ 0 ≤ z ∧ z ≤ n
theorem Box.mono {H : Hp} {b : Addr} {n m : Int} (h : Box H b n) (l : n ≤ m) : Box H b m := by
  obtain ⟨x, y, z, h0, h1, h2, h3, h4, h5⟩ := h
  exact ⟨x, y, z, h0, h1, h2, h3, h4, by omega⟩
theorem Box.same {H H' : Hp} {b : Addr} {n : Int} (e : Same H H') (h : Box H b n) : Box H' b n := by
  obtain ⟨x, y, z, h0, h1⟩ := h
  exact ⟨x, y, z, e _ _ h0, h1⟩
theorem Box.new {H : Hp} {b p : Addr} {o : HO} {n : Int} (h : Box H b n) (e : H p = none) : Box (upd H p o) b n := h.same (same_new e)
theorem Box.ne {H : Hp} {b p : Addr} {n : Int} (h : Box H b n) (e : H p = none) : p ≠ b := fun z => by
  obtain ⟨_, _, _, h0, _⟩ := h
  rw [z, h0] at e
  cases e
section
variable {K : PySem.W.Frag}
theorem at_int {ns : List Int} {k : Int} (h0 : 0 ≤ k) (h1 : k < ns.length) : ∃ c, atI (ns.map V.int) k = some (.int c) := by
  obtain ⟨j, rfl⟩ := Int.eq_ofNat_of_zero_le h0
  have hj : j < ns.length := by omega
  refine ⟨ns[j], atI_nat ?_⟩
  rw [List.getElem?_map, List.getElem?_eq_getElem hj]
  rfl
def partsL (p m : Int) : List Int := List.replicate (p % m).toNat (p / m + 1) ++ List.replicate (m - p % m).toNat (p / m)
theorem rep1 {α : Type} (k : Nat) (x : α) : (List.replicate k [x]).flatten = List.replicate k x := by
  induction k with
  | zero => rfl
  | succ n ih => rw [List.replicate_succ, List.flatten_cons, ih]; rfl
theorem size_small {n : Nat} (h : n ≤ 1000) : n ≤ sizeLine := Nat.le_of_lt (small1000 h)
theorem iteN {c A B : Prop} [Decidable c] (hc : ¬ c) (h : B) : if decide c = true then A else B := by
  rw [decide_eq_false hc]
  exact iteF h
theorem iteY {c A B : Prop} [Decidable c] (hc : c) (h : A) : if decide c = true then A else B := by
  rw [decide_eq_true hc]
  exact iteT h
theorem same_but {b : Addr} {H0 H1 H2 : Hp} (s : Same H0 H1) (n : H0 b = none) (t : But b H1 H2) : Same H0 H2 := fun c o h => t c o (fun e => by rw [e, n] at h; cases h) (s c o h)
theorem dpAll_ints {H : Hp} : ∀ ns : List Int, DpAll K H (ns.map V.int) (ns.map PyData.int)
  | [] => .nil
  | n :: r => .cons (.int n) (dpAll_ints r)
theorem dp_ints {H : Hp} {a : Addr} {ns : List Int} (h : SqL K H a (ns.map V.int)) : Dp K H (.ref a) (.list (ns.map PyData.int)) := .lst h (dpAll_ints ns)
theorem lay_ints : ∀ ns : List Int, PyData.canLayAll0 (ns.map PyData.int) = true
  | [] => by simp [PyData.canLayAll0]
  | n :: r => by simp [PyData.canLayAll0, PyData.canLay0, lay_ints r]
theorem depth_ints : ∀ ns : List Int, PyData.depthAll (ns.map PyData.int) ≤ 1
  | [] => by simp [PyData.depthAll]
  | n :: r => by
    have h := depth_ints r
    simp only [List.map_cons, PyData.depthAll, PyData.depth]
    omega
theorem sh_ints (ns : List Int) : SeqAt.shaped (.list (ns.map PyData.int)) = true := by
  have h1 := depth_ints ns
  have h2 : PyData.depth (.list (ns.map PyData.int)) ≤ 64 := by
    simp only [PyData.depth]
    omega
  show (PyData.canLay0 (.list (ns.map PyData.int)) && decide (PyData.depth (.list (ns.map PyData.int)) ≤ 64)) = true
  rw [Bool.and_eq_true]
  exact ⟨by simp only [PyData.canLay0]; exact lay_ints ns, decide_eq_true h2⟩
theorem eqv_same (ns : List Int) : PyData.eqv (.list (ns.map PyData.int)) (.list (ns.map PyData.int)) = true := SeqAt.eqv_refl _ (SeqAt.canLay_of_shaped (sh_ints ns))

theorem sum_rep (k : Nat) (x : Int) : (List.replicate k x).sum = k * x := by
  induction k with
  | zero => simp
  | succ n ih =>
    rw [List.replicate_succ, List.sum_cons, ih, Int.natCast_add, Int.add_mul]
    omega
theorem parts_len {p m : Int} (hm : 1 ≤ m) : ((partsL p m).length : Int) = m := by
  have hr0 := Int.emod_nonneg p (show m ≠ 0 by omega)
  have hr1 := Int.emod_lt_of_pos p (show 0 < m by omega)
  unfold partsL
  rw [List.length_append, List.length_replicate, List.length_replicate]
  omega
theorem parts_sum {p m : Int} (hm : 1 ≤ m) : (partsL p m).sum = p := by
  have hr0 := Int.emod_nonneg p (show m ≠ 0 by omega)
  have hr1 := Int.emod_lt_of_pos p (show 0 < m by omega)
  have e := Int.mul_ediv_add_emod p m
  unfold partsL
  rw [List.sum_append, sum_rep, sum_rep, Int.toNat_of_nonneg hr0, Int.toNat_of_nonneg (by omega), Int.sub_mul, Int.mul_add]
  omega
theorem parts_mem {p m x : Int} (h : x ∈ partsL p m) : x = p / m + 1 ∨ x = p / m := by
  unfold partsL at h
  rcases List.mem_append.mp h with h | h
  · exact .inl (List.eq_of_mem_replicate h)
  · exact .inr (List.eq_of_mem_replicate h)
theorem parts_fall (p m : Int) : (partsL p m).Pairwise (fun a b => b ≤ a) := by
  unfold partsL
  refine List.pairwise_append.mpr ⟨List.pairwise_replicate.mpr (.inr (Int.le_refl _)), List.pairwise_replicate.mpr (.inr (Int.le_refl _)), fun a ha b hb => ?_⟩
  rw [List.eq_of_mem_replicate ha, List.eq_of_mem_replicate hb]
  omega
theorem parts_sorted {p m : Int} {ns : List Int} (h : ns.Perm (partsL p m)) (hs : ns.Pairwise (· ≤ ·)) : ns.reverse = partsL p m := by
  refine List.Perm.eq_of_pairwise (le := fun a b => b ≤ a) (fun x y _ _ h1 h2 => Int.le_antisymm h2 h1) ?_ (parts_fall p m) ((List.reverse_perm ns).trans h)
  exact List.pairwise_reverse.mpr hs
theorem ends_of {ns : List Int} (h : 0 < ns.length) : ∃ x y, x ∈ ns ∧ y ∈ ns ∧ atI (ns.map V.int) 0 = some (.int x) ∧ atI (ns.map V.int) (-1) = some (.int y) := by
  cases ns with
  | nil => cases h
  | cons x r =>
    refine ⟨x, (x :: r).getLast (List.cons_ne_nil _ _), List.mem_cons_self, List.getLast_mem _, atI_nat (j := 0) rfl, ?_⟩
    have hz : ((x :: r).map V.int) = ((x :: r).dropLast.map V.int) ++ [.int ((x :: r).getLast (List.cons_ne_nil _ _))] := by
      rw [← List.map_singleton, ← List.map_append, List.dropLast_concat_getLast]
    rw [hz]
    exact atI_last _ _
theorem all_true (n : Nat) : (List.replicate n true).all id = true := by
  induction n with
  | zero => rfl
  | succ k ih => rw [List.replicate_succ, List.all_cons, ih]; rfl
theorem pick6 {r x : Int} (h0 : 0 ≤ r) (h1 : r < 6) (x0 : 0 ≤ x) (x1 : x ≤ 100) : ∃ c : Int, atI [V.int 0, .int 1, .int 50, .int 99, .int 100, .int x] r = some (.int c) ∧ 0 ≤ c ∧ c ≤ 100 := by
  have h : r = 0 ∨ r = 1 ∨ r = 2 ∨ r = 3 ∨ r = 4 ∨ r = 5 := by omega
  rcases h with rfl | rfl | rfl | rfl | rfl | rfl
  · exact ⟨0, rfl, by decide, by decide⟩
  · exact ⟨1, rfl, by decide, by decide⟩
  · exact ⟨50, rfl, by decide, by decide⟩
  · exact ⟨99, rfl, by decide, by decide⟩
  · exact ⟨100, rfl, by decide, by decide⟩
  · exact ⟨x, rfl, x0, x1⟩
end
end Pw
namespace Pw
open PySem PySem.Spec PyProof.Rows L2
def topS (i : Nat) : Stmt := PySem.Challenge.pw_partwares_k04_parts_and_shares.main.body.getD i (.Pass ⟨0, 0, 0, 0⟩)
section
variable {P : Program} {w : World} {K : PySem.W.Frag} {mg : Str → Option Value} {base : Heap}
/-! ### _law_take -/
abbrev s__law_take : Stmt := topS 5
abbrev N__law_take : List Str := ["_law_box_here", "_law_many", "_law_found", "_law_once"]
theorem sc__law_take : FnScope N__law_take ["_law_box_here", "_law_many"] (defScope s__law_take) := ⟨rfl, rfl, rfl, by decide +kernel, rfl, by decide +kernel, by decide +kernel⟩
def sp__law_take (K : PySem.W.Frag) : Sp := fun vs H Q _ => ∃ (b : Addr) (m n : Int), vs = [.ref b, .int m] ∧ Box H b n ∧ 0 < m ∧ m < 1073741824 ∧ n < 1000000000 ∧ ∀ (r : Int) H', 0 ≤ r → r < m → Box H' b (n + 1) → But b H H' → Q (.int r) H'
theorem ok__law_take {f : Addr} {fd : FuncData} (F : Fun K "_law_take" "_law_take" s__law_take f fd) (g : mg "_law_take" = some (.ref f)) (bd : Binds K fd ["_law_box_here", "_law_many"] []) : CF P w K mg base 1 "_law_take" ["_law_box_here", "_law_many"] (sp__law_take K) := by
  refine ⟨f, fd, F.ok sc__law_take (fun vs H Q E h => ?_) (fun cdv A outer s H vs Q E hr h => ?_), g, F.kp, bd⟩
  · first | (obtain ⟨_, rfl, _⟩ := h; rfl) | (obtain ⟨_, _, rfl, _⟩ := h; rfl) | (obtain ⟨_, _, _, rfl, _⟩ := h; rfl) | (obtain ⟨_, _, _, _, rfl, _⟩ := h; rfl) | (obtain ⟨_, _, _, _, _, rfl, _⟩ := h; rfl) | (obtain ⟨_, _, _, _, _, _, rfl, _⟩ := h; rfl) | (obtain ⟨_, _, _, _, _, _, _, rfl, _⟩ := h; rfl)
  · have hu64 := hr.units
    obtain ⟨b, m, n, rfl, ⟨x, y, z, hb, hx, hy, hy2, hz, hz2⟩, hm, hm2, hn, q⟩ := h
    refine ⟨_, (pss_cons (ps_if (pt_cmpR op_gt (pe_ix (kk_ixl K) (pv 0) pe_int (fun _ _ => rfl)) pe_int (nomark _))
         (pss_cons (ps_set (i := 2) sc__law_take.nd rfl (.inl rfl) (pe_op op_mod (pe_ix (kk_ixl K) (pv 0) pe_int (fun _ _ => rfl)) (pv 1)))
          (pss_cons (ps_asg (pe_op op_fdiv (pe_ix (kk_ixl K) (pv 0) pe_int (fun _ _ => rfl)) (pv 1)) (pg_sub (pv 0) pe_int set_list))
          (pss_one (ps_ret (pv 2)))))
         pss_nil)
      (pss_cons (ps_asg (pe_op op_add (pe_ix (kk_ixl K) (pv 0) pe_int (fun _ _ => rfl)) pe_int) (pg_sub (pv 0) pe_int set_list))
      (pss_cons (ps_set (i := 3) sc__law_take.nd rfl (.inl rfl) (pe_op op_mod (pe_op op_pow (pe_op op_add (pe_ix (kk_ixl K) (pv 0) pe_int (fun _ _ => rfl)) (pe_op op_mul pe_int (pe_ix (kk_ixl K) (pv 0) pe_int (fun _ _ => rfl)))) pe_int) pe_int))
      (pss_one (ps_ret (pe_op op_mod (pe_op op_fdiv (pe_op op_mod (pe_op op_add (pe_op op_mul (pv 3) (pe_op op_add (pe_op op_mod (pv 3) pe_int) pe_int)) (pe_op op_mul (pe_ix (kk_ixl K) (pv 0) pe_int (fun _ _ => rfl)) pe_int)) pe_int) pe_int) (pv 1))))))), ?_⟩
    refine ⟨_, rfl, b, _, _, _, rfl, rfl, SqL.of hb, rfl, _, _, rfl, rfl, _, rfl, ite2 (fun e => ?_) (fun e => ?_)⟩
    · refine ⟨_, rfl, b, _, _, _, rfl, rfl, SqL.of hb, rfl, _, rfl, _, _, rfl, rfl, hm, ?_⟩
      refine ⟨_, rfl, b, _, _, _, rfl, rfl, SqL.of hb, rfl, _, rfl, _, _, rfl, rfl, ⟨hm, hm2⟩, _, rfl, b, _, _, _, rfl, rfl, hb, rfl, ?_⟩
      refine ⟨_, rfl, q _ _ (Int.emod_nonneg _ (by omega)) (Int.emod_lt_of_pos _ hm) ⟨x / m, y, z, upd_same, Int.ediv_nonneg hx (by omega), hy, hy2, hz, by omega⟩ But.upd⟩
    · refine ⟨_, rfl, b, _, _, _, rfl, rfl, SqL.of hb, rfl, _, _, rfl, rfl, _, rfl, b, _, _, _, rfl, rfl, hb, rfl, ?_⟩
      have h1 : (upd H b (.lst [.int x, .int y, .int (z + 1)])) b = some (.lst [.int x, .int y, .int (z + 1)]) := upd_same
      refine ⟨_, rfl, b, _, _, _, rfl, rfl, SqL.of h1, rfl, _, rfl, b, _, _, _, rfl, rfl, SqL.of h1, rfl, _, _, rfl, rfl, .inl ⟨by decide, by decide⟩, _, _, rfl, rfl, _, _, rfl, rfl, ⟨by decide, by decide, ?_⟩, _, _, rfl, rfl, (by show (0 : Int) < 2147483647; decide), ?_⟩
      · show (y + 39373 * (z + 1)).natAbs < 2 ^ 64
        omega
      · have o0 : 0 ≤ (y + 39373 * (z + 1)) ^ (5 : Int).toNat % 2147483647 := Int.emod_nonneg _ (by decide)
        have o1 : (y + 39373 * (z + 1)) ^ (5 : Int).toNat % 2147483647 < 2147483647 := Int.emod_lt_of_pos _ (by decide)
        refine ⟨_, rfl, _, rfl, _, _, rfl, rfl, (by show (0 : Int) < 40009; decide), _, _, rfl, rfl, _, _, rfl, rfl, .inl ⟨?_, ?_⟩, _, rfl, b, _, _, _, rfl, rfl, SqL.of h1, rfl, _, _, rfl, rfl, .inl ⟨?_, ?_⟩, _, _, rfl, rfl, _, _, rfl, rfl, (by show (0 : Int) < 2147483629; decide), _, _, rfl, rfl, ⟨by decide, by decide⟩, _, rfl, _, _, rfl, rfl, hm, ?_⟩
        · omega
        · omega
        · omega
        · omega
        · exact q _ _ (Int.emod_nonneg _ (by omega)) (Int.emod_lt_of_pos _ hm) ⟨x, y, z + 1, h1, hx, hy, hy2, by omega, by omega⟩ But.upd
/-! ### _law_box -/
abbrev s__law_box : Stmt := topS 4
abbrev N__law_box : List Str := ["_law_script", "_law_k", "_law_cell"]
theorem sc__law_box : FnScope N__law_box ["_law_script", "_law_k"] (defScope s__law_box) := ⟨rfl, rfl, rfl, by decide +kernel, rfl, by decide +kernel, by decide +kernel⟩
def sp__law_box (K : PySem.W.Frag) : Sp := fun vs H Q _ => ∃ (a : Addr) (k : Int) (ns : List Int), vs = [.ref a, .int k] ∧ SqL K H a (ns.map V.int) ∧ 0 ≤ k ∧ k ≤ 63 ∧ ∀ H' b, H b = none → Same H H' → Box H' b 0 → Q (.ref b) H'
theorem ok__law_box {f : Addr} {fd : FuncData} (F : Fun K "_law_box" "_law_box" s__law_box f fd) (g : mg "_law_box" = some (.ref f)) (bd : Binds K fd ["_law_script", "_law_k"] []) (m_len : mg "len" = none) (m_abs : mg "abs" = none) (m_int : mg "int" = none) : CF P w K mg base 1 "_law_box" ["_law_script", "_law_k"] (sp__law_box K) := by
  refine ⟨f, fd, F.ok sc__law_box (fun vs H Q E h => ?_) (fun cdv A outer s H vs Q E hr h => ?_), g, F.kp, bd⟩
  · first | (obtain ⟨_, rfl, _⟩ := h; rfl) | (obtain ⟨_, _, rfl, _⟩ := h; rfl) | (obtain ⟨_, _, _, rfl, _⟩ := h; rfl) | (obtain ⟨_, _, _, _, rfl, _⟩ := h; rfl) | (obtain ⟨_, _, _, _, _, rfl, _⟩ := h; rfl) | (obtain ⟨_, _, _, _, _, _, rfl, _⟩ := h; rfl) | (obtain ⟨_, _, _, _, _, _, _, rfl, _⟩ := h; rfl)
  · have hu64 := hr.units
    obtain ⟨a, k, ns, rfl, hS, hk0, hk, q⟩ := h
    refine ⟨_, (pss_cons (ps_set (i := 2) sc__law_box.nd rfl (.inl rfl) pe_int)
      (pss_cons (ps_if (pt_cmpR op_lt (pv 1) (pe_callB (kk_len K) (by rfl) m_len PySem.boot_len (pa_cons (pv 0) pa_nil)) (nomark _))
         (pss_one (ps_set (i := 2) sc__law_box.nd rfl (.inl rfl) (pe_ix (kk_ixl K) (pv 0) (pv 1) (fun _ _ => rfl))))
         pss_nil)
      (pss_one (ps_ret (pe_lst (pa_cons (pe_op op_mul (pe_callB call_abs (by rfl) m_abs (by decide +kernel) (pa_cons (pv 2) pa_nil)) (pe_callTy call_int1 (by rfl) m_int (by decide +kernel) (pa_cons (pe_cmpR op_ge (pe_callB call_abs (by rfl) m_abs (by decide +kernel) (pa_cons (pv 2) pa_nil)) (pe_op op_pow pe_int pe_int) (nomark _)) pa_nil))) (pa_cons (pe_op op_add (pe_op op_add (pe_op op_mod (pv 2) pe_int) (pe_op op_mul pe_int (pv 1))) pe_int) (pa_cons pe_int pa_nil)))))))), ?_⟩
    refine ⟨_, rfl, _, rfl, a, _, rfl, .inl hS, _, _, rfl, rfl, _, rfl, ite2 (fun e => ?_) (fun e => ?_)⟩
    · have e1 := of_decide_eq_true e
      rw [List.length_map] at e1
      obtain ⟨c, hc⟩ := at_int hk0 e1
      refine ⟨_, rfl, _, rfl, a, _, _, _, rfl, rfl, hS, hc, ?_⟩
      refine ⟨_, rfl, _, rfl, _, rfl, _, rfl, _, _, rfl, rfl, ⟨by decide, by decide, by decide⟩, _, _, rfl, rfl, .inr ⟨_, rfl, _, _, rfl, rfl, .inr ⟨?_, ?_⟩, _, rfl, _, _, rfl, rfl, (by show (0 : Int) < 2147483629; decide), _, rfl, _, _, rfl, rfl, .inl ⟨by decide, by decide⟩, _, _, rfl, rfl, _, _, rfl, rfl, (by show 3 ≤ sizeLine; decide), fun p hp => ?_⟩⟩
      · split <;> omega
      · split <;> omega
      · refine q _ p hp (same_new hp) ⟨_, _, _, upd_same, ?_, ?_, ?_, by omega, by omega⟩
        · refine Int.mul_nonneg ?_ ?_ <;> split <;> omega
        · have := Int.emod_nonneg c (show (2147483629 : Int) ≠ 0 by decide)
          omega
        · have := Int.emod_lt_of_pos c (show (0 : Int) < 2147483629 by decide)
          omega
    · refine ⟨_, rfl, _, rfl, _, rfl, _, rfl, _, _, rfl, rfl, ⟨by decide, by decide, by decide⟩, _, _, rfl, rfl, .inr ⟨_, rfl, _, _, rfl, rfl, .inr ⟨?_, ?_⟩, _, rfl, _, _, rfl, rfl, (by show (0 : Int) < 2147483629; decide), _, rfl, _, _, rfl, rfl, .inl ⟨by decide, by decide⟩, _, _, rfl, rfl, _, _, rfl, rfl, (by show 3 ≤ sizeLine; decide), fun p hp => ?_⟩⟩
      · split <;> omega
      · split <;> omega
      · refine q _ p hp (same_new hp) ⟨_, _, _, upd_same, ?_, ?_, ?_, by omega, by omega⟩
        · refine Int.mul_nonneg ?_ ?_ <;> split <;> omega
        · omega
        · omega
/-! ### share_up -/
abbrev s_share_up : Stmt := topS 2
abbrev N_share_up : List Str := ["pence", "percent"]
theorem sc_share_up : FnScope N_share_up ["pence", "percent"] (defScope s_share_up) := ⟨rfl, rfl, rfl, by decide +kernel, rfl, by decide +kernel, by decide +kernel⟩
def sp_share_up (K : PySem.W.Frag) : Sp := fun vs H Q _ => ∃ p c : Int, vs = [.int p, .int c] ∧ 0 ≤ p ∧ p ≤ 1000000000 ∧ 0 ≤ c ∧ c ≤ 100 ∧ Q (.int ((p * c + 99) / 100)) H
theorem ok_share_up {f : Addr} {fd : FuncData} (F : Fun K "share_up" "share_up" s_share_up f fd) (g : mg "share_up" = some (.ref f)) (bd : Binds K fd ["pence", "percent"] []) : CF P w K mg base 1 "share_up" ["pence", "percent"] (sp_share_up K) := by
  refine ⟨f, fd, F.ok sc_share_up (fun vs H Q E h => ?_) (fun cdv A outer s H vs Q E hr h => ?_), g, F.kp, bd⟩
  · first | (obtain ⟨_, rfl, _⟩ := h; rfl) | (obtain ⟨_, _, rfl, _⟩ := h; rfl) | (obtain ⟨_, _, _, rfl, _⟩ := h; rfl) | (obtain ⟨_, _, _, _, rfl, _⟩ := h; rfl) | (obtain ⟨_, _, _, _, _, rfl, _⟩ := h; rfl) | (obtain ⟨_, _, _, _, _, _, rfl, _⟩ := h; rfl) | (obtain ⟨_, _, _, _, _, _, _, rfl, _⟩ := h; rfl)
  · have hu64 := hr.units
    obtain ⟨p, c, rfl, hp, hp2, hc, hc2, q⟩ := h
    refine ⟨_, (pss_one (ps_ret (pe_op op_fdiv (pe_op op_add (pe_op op_mul (pv 0) (pv 1)) pe_int) pe_int))), ?_⟩
    exact ⟨_, rfl, _, rfl, _, _, rfl, rfl, .inl ⟨by omega, by omega⟩, _, _, rfl, rfl, _, _, rfl, rfl, ⟨by decide, by decide⟩, q⟩
/-! ### parts_of -/
abbrev s_parts_of : Stmt := topS 1
abbrev N_parts_of : List Str := ["pence", "many", "least", "over"]
theorem sc_parts_of : FnScope N_parts_of ["pence", "many"] (defScope s_parts_of) := ⟨rfl, rfl, rfl, by decide +kernel, rfl, by decide +kernel, by decide +kernel⟩
def sp_parts_of (K : PySem.W.Frag) : Sp := fun vs H Q _ => ∃ p m : Int, vs = [.int p, .int m] ∧ 0 ≤ p ∧ p ≤ 1000000000 ∧ 1 ≤ m ∧ m ≤ 12 ∧ ∀ H' l, H l = none → Same H H' → H' l = some (.lst ((partsL p m).map V.int)) → Q (.ref l) H'
theorem ok_parts_of {f : Addr} {fd : FuncData} (F : Fun K "parts_of" "parts_of" s_parts_of f fd) (g : mg "parts_of" = some (.ref f)) (bd : Binds K fd ["pence", "many"] []) (m_divmod : mg "divmod" = none) : CF P w K mg base 1 "parts_of" ["pence", "many"] (sp_parts_of K) := by
  refine ⟨f, fd, F.ok sc_parts_of (fun vs H Q E h => ?_) (fun cdv A outer s H vs Q E hr h => ?_), g, F.kp, bd⟩
  · first | (obtain ⟨_, rfl, _⟩ := h; rfl) | (obtain ⟨_, _, rfl, _⟩ := h; rfl) | (obtain ⟨_, _, _, rfl, _⟩ := h; rfl) | (obtain ⟨_, _, _, _, rfl, _⟩ := h; rfl) | (obtain ⟨_, _, _, _, _, rfl, _⟩ := h; rfl) | (obtain ⟨_, _, _, _, _, _, rfl, _⟩ := h; rfl) | (obtain ⟨_, _, _, _, _, _, _, rfl, _⟩ := h; rfl)
  · have hu64 := hr.units
    obtain ⟨p, m, rfl, hp, hp2, hm, hm2, q⟩ := h
    refine ⟨_, (pss_cons (ps_if (pt_cmpR op_lt (pv 1) pe_int (nomark _))
         (pss_one (ps_ret (pe_lst pa_nil)))
         pss_nil)
      (pss_cons (ps_asg (pe_callB call_divmod (by rfl) m_divmod (by decide +kernel) (pa_cons (pv 0) (pa_cons (pv 1) pa_nil))) (pg_tup (by rfl) (pgs_cons (pg_name (i := 2) sc_parts_of.nd rfl (.inl rfl)) (pgs_cons (pg_name (i := 3) sc_parts_of.nd rfl (.inl rfl)) pgs_nil))))
      (pss_one (ps_ret (pe_op op_cat (pe_op op_rep (pe_lst (pa_cons (pe_op op_add (pv 2) pe_int) pa_nil)) (pv 3)) (pe_op op_rep (pe_lst (pa_cons (pv 2) pa_nil)) (pe_op op_sub (pv 1) (pv 3)))))))), ?_⟩
    have hr0 := Int.emod_nonneg p (show m ≠ 0 by omega)
    have hr1 := Int.emod_lt_of_pos p (show 0 < m by omega)
    refine ⟨_, rfl, _, _, rfl, rfl, _, rfl, ite2 (fun e => absurd (of_decide_eq_true e) (by omega)) (fun e => ?_)⟩
    refine ⟨_, rfl, _, rfl, _, _, rfl, ⟨by omega, by omega⟩, fun t ht => ?_⟩
    refine ⟨t, [.int (p / m), .int (p % m)], rfl, .inl (.inl upd_same), rfl, _, _, rfl, _, _, rfl, rfl, ?_⟩
    refine ⟨_, rfl, _, _, rfl, rfl, (by show 1 ≤ sizeLine; decide), fun l1 h1 => ?_⟩
    refine ⟨_, rfl, l1, _, _, rfl, rfl, upd_same, by omega, by omega, ?_, fun l2 h2 => ?_⟩
    · show 1 * (p % m).toNat ≤ sizeLine
      exact size_small (by omega)
    refine ⟨_, rfl, (by show 1 ≤ sizeLine; decide), fun l3 h3 => ?_⟩
    refine ⟨_, rfl, _, rfl, _, _, rfl, rfl, l3, _, _, rfl, rfl, upd_same, by omega, by omega, ?_, fun l4 h4 => ?_⟩
    · show 1 * (m - p % m).toNat ≤ sizeLine
      exact size_small (by omega)
    have s1 : Same H _ := same_new (o := .tup [.int (p / m), .int (p % m)]) ht
    have s2 := s1.trans (same_new (o := .lst [.int (p / m + 1)]) h1)
    have s3 := s2.trans (same_new (o := .lst (List.replicate (p % m).toNat [V.int (p / m + 1)]).flatten) h2)
    have e2 := (same_new (o := .lst [.int (p / m)]) h3) _ _ (upd_same (H := upd (upd H t (.tup [.int (p / m), .int (p % m)])) l1 (.lst [.int (p / m + 1)])) (a := l2) (o := .lst (List.replicate (p % m).toNat [V.int (p / m + 1)]).flatten))
    have s4 := s3.trans (same_new (o := .lst [.int (p / m)]) h3)
    have e3 := (same_new (o := .lst (List.replicate (m - p % m).toNat [V.int (p / m)]).flatten) h4) _ _ e2
    have s5 := s4.trans (same_new (o := .lst (List.replicate (m - p % m).toNat [V.int (p / m)]).flatten) h4)
    refine ⟨l2, l4, _, _, rfl, rfl, e3, upd_same, ?_, fun l5 h5 => ?_⟩
    · rw [rep1, rep1, List.length_replicate, List.length_replicate]
      exact size_small (by omega)
    · refine q _ l5 (s5.free h5) (s5.trans (same_new h5)) ?_
      rw [upd_same, rep1, rep1]
      unfold partsL
      rw [List.map_append, List.map_replicate, List.map_replicate]
/-! ### _law_sum -/
abbrev s__law_sum : Stmt := topS 6
abbrev N__law_sum : List Str := ["_law_box_here", "_law_way"]
theorem sc__law_sum : FnScope N__law_sum ["_law_box_here"] (defScope s__law_sum) := ⟨rfl, rfl, rfl, by decide +kernel, rfl, by decide +kernel, by decide +kernel⟩
def sp__law_sum (K : PySem.W.Frag) : Sp := fun vs H Q _ => ∃ (b : Addr) (n : Int), vs = [.ref b] ∧ Box H b n ∧ n < 100000000 ∧ ∀ (r : Int) H', 0 ≤ r → r ≤ 1000000000 → Box H' b (n + 3) → But b H H' → Q (.int r) H'
theorem ok__law_sum {f : Addr} {fd : FuncData} (F : Fun K "_law_sum" "_law_sum" s__law_sum f fd) (g : mg "_law_sum" = some (.ref f)) (bd : Binds K fd ["_law_box_here"] []) (m_max : mg "max" = none) (C__law_take : CF P w K mg base 1 "_law_take" ["_law_box_here", "_law_many"] (sp__law_take K)) : CF P w K mg base 2 "_law_sum" ["_law_box_here"] (sp__law_sum K) := by
  refine ⟨f, fd, F.ok sc__law_sum (fun vs H Q E h => ?_) (fun cdv A outer s H vs Q E hr h => ?_), g, F.kp, bd⟩
  · first | (obtain ⟨_, rfl, _⟩ := h; rfl) | (obtain ⟨_, _, rfl, _⟩ := h; rfl) | (obtain ⟨_, _, _, rfl, _⟩ := h; rfl) | (obtain ⟨_, _, _, _, rfl, _⟩ := h; rfl) | (obtain ⟨_, _, _, _, _, rfl, _⟩ := h; rfl) | (obtain ⟨_, _, _, _, _, _, rfl, _⟩ := h; rfl) | (obtain ⟨_, _, _, _, _, _, _, rfl, _⟩ := h; rfl)
  · have hu64 := hr.units
    obtain ⟨b, n, rfl, hb, hn, q⟩ := h
    refine ⟨_, (pss_cons (ps_set (i := 1) sc__law_sum.nd rfl (.inl rfl) (pe_cf C__law_take (hr.mono (by decide)) (by rfl) (pa_cons (pv 0) (pa_cons pe_int pa_nil))))
      (pss_cons (ps_if (pt_cmpR op_eq (pv 1) pe_int (nomark _))
         (pss_one (ps_ret (pe_cf C__law_take (hr.mono (by decide)) (by rfl) (pa_cons (pv 0) (pa_cons pe_int pa_nil)))))
         pss_nil)
      (pss_cons (ps_if (pt_cmpR op_eq (pv 1) pe_int (nomark _))
         (pss_one (ps_ret (pe_callB (call_max2 rfl) (by rfl) m_max (by decide +kernel) (pa_cons pe_int (pa_cons (pe_op op_sub (pe_op op_add (pe_op op_mul pe_int (pe_cf C__law_take (hr.mono (by decide)) (by rfl) (pa_cons (pv 0) (pa_cons pe_int pa_nil)))) (pe_cf C__law_take (hr.mono (by decide)) (by rfl) (pa_cons (pv 0) (pa_cons pe_int pa_nil)))) pe_int) pa_nil)))))
         pss_nil)
      (pss_one (ps_ret (pe_ix (kk_ixl K) (pe_lst (pa_cons (pe_op op_sub (pe_op op_pow pe_int pe_int) (pe_cf C__law_take (hr.mono (by decide)) (by rfl) (pa_cons (pv 0) (pa_cons pe_int pa_nil)))) (pa_cons (pe_cf C__law_take (hr.mono (by decide)) (by rfl) (pa_cons (pv 0) (pa_cons (pe_op op_add (pe_op op_pow pe_int pe_int) pe_int) pa_nil))) pa_nil))) (pe_op op_sub (pv 1) pe_int) (fun _ _ => rfl))))))), ?_⟩
    refine ⟨_, rfl, b, 4, n, rfl, hb, by decide, by decide, by omega, fun r H1 r0 r1 b1 t1 => ?_⟩
    refine ⟨_, rfl, rfl, _, rfl, ite2 (fun e => ?_) (fun e => ?_)⟩
    · exact ⟨_, rfl, b, 30, n + 1, rfl, b1, by decide, by decide, by omega, fun r2 H2 r20 r21 b2 t2 => q _ _ r20 (by omega) (b2.mono (by omega)) (t1.trans t2)⟩
    have e0 : r ≠ 0 := fun z => e (decide_eq_true (by rw [z]))
    refine ⟨_, rfl, rfl, _, rfl, ite2 (fun e => ?_) (fun e => ?_)⟩
    · refine ⟨_, rfl, b, 30000, n + 1, rfl, b1, by decide, by decide, by omega, fun r2 H2 r20 r21 b2 t2 => ?_⟩
      refine ⟨_, _, rfl, rfl, .inl ⟨by decide, by decide⟩, _, rfl, b, 5, n + 1 + 1, rfl, b2, by decide, by decide, by omega, fun r3 H3 r30 r31 b3 t3 => ?_⟩
      refine ⟨_, _, rfl, rfl, _, _, rfl, rfl, _, _, rfl, q _ _ ?_ ?_ (b3.mono (by omega)) ((t1.trans t2).trans t3)⟩
      · split <;> omega
      · split <;> omega
    have e1 : r ≠ 1 := fun z => e (decide_eq_true (by rw [z]))
    refine ⟨_, _, rfl, rfl, ⟨by decide, by decide, by decide⟩, _, rfl, b, 3, n + 1, rfl, b1, by decide, by decide, by omega, fun r2 H2 r20 r21 b2 t2 => ?_⟩
    refine ⟨_, _, rfl, rfl, _, rfl, _, _, rfl, rfl, ⟨by decide, by decide, by decide⟩, _, _, rfl, rfl, b, 10 ^ (9 : Int).toNat + 1, n + 1 + 1, rfl, b2, by decide, by decide, by omega, fun r3 H3 r30 r31 b3 t3 => ?_⟩
    refine ⟨(by show 2 ≤ sizeLine; decide), fun l hl => ?_⟩
    have r31' : r3 < 1000000001 := r31
    have t4 : But b H (upd H3 l (.lst [.int (10 ^ (9 : Int).toNat - r2), .int r3])) := ((t1.trans t2).trans t3).trans (But.new hl)
    have b4 : Box (upd H3 l (.lst [.int (10 ^ (9 : Int).toNat - r2), .int r3])) b (n + 3) := (b3.mono (by omega)).new hl
    have r4 : r = 2 ∨ r = 3 := by omega
    rcases r4 with rfl | rfl
    · refine ⟨_, rfl, _, _, rfl, rfl, l, _, _, _, rfl, rfl, SqL.of upd_same, rfl, q _ _ ?_ ?_ b4 t4⟩
      · show 0 ≤ (1000000000 : Int) - r2
        omega
      · show (1000000000 : Int) - r2 ≤ _
        omega
    · exact ⟨_, rfl, _, _, rfl, rfl, l, _, _, _, rfl, rfl, SqL.of upd_same, rfl, q _ _ r30 (by omega) b4 t4⟩
/-! ### _law_share_right -/
abbrev s__law_share_right : Stmt := topS 8
abbrev N__law_share_right : List Str := ["_law_pence", "_law_percent", "_law_found"]
theorem sc__law_share_right : FnScope N__law_share_right ["_law_pence", "_law_percent"] (defScope s__law_share_right) := ⟨rfl, rfl, rfl, by decide +kernel, rfl, by decide +kernel, by decide +kernel⟩
def sp__law_share_right (K : PySem.W.Frag) : Sp := fun vs H Q _ => ∃ p c : Int, vs = [.int p, .int c] ∧ 0 ≤ p ∧ p ≤ 1000000000 ∧ 0 ≤ c ∧ c ≤ 100 ∧ ∀ H', Same H H' → Q (.bl true) H'
theorem ok__law_share_right {f : Addr} {fd : FuncData} (F : Fun K "_law_share_right" "_law_share_right" s__law_share_right f fd) (g : mg "_law_share_right" = some (.ref f)) (bd : Binds K fd ["_law_pence", "_law_percent"] []) (m_isinstance : mg "isinstance" = none) (m_bool : mg "bool" = none) (m_int : mg "int" = none) (C_share_up : CF P w K mg base 1 "share_up" ["pence", "percent"] (sp_share_up K)) : CF P w K mg base 2 "_law_share_right" ["_law_pence", "_law_percent"] (sp__law_share_right K) := by
  refine ⟨f, fd, F.ok sc__law_share_right (fun vs H Q E h => ?_) (fun cdv A outer s H vs Q E hr h => ?_), g, F.kp, bd⟩
  · first | (obtain ⟨_, rfl, _⟩ := h; rfl) | (obtain ⟨_, _, rfl, _⟩ := h; rfl) | (obtain ⟨_, _, _, rfl, _⟩ := h; rfl) | (obtain ⟨_, _, _, _, rfl, _⟩ := h; rfl) | (obtain ⟨_, _, _, _, _, rfl, _⟩ := h; rfl) | (obtain ⟨_, _, _, _, _, _, rfl, _⟩ := h; rfl) | (obtain ⟨_, _, _, _, _, _, _, rfl, _⟩ := h; rfl)
  · have hu64 := hr.units
    obtain ⟨p, c, rfl, hp, hp2, hc, hc2, q⟩ := h
    refine ⟨_, (pss_cons (ps_set (i := 2) sc__law_share_right.nd rfl (.inl rfl) (pe_cf C_share_up (hr.mono (by decide)) (by rfl) (pa_cons (pv 0) (pa_cons (pv 1) pa_nil))))
      (pss_cons (ps_if (PW.pt (pw_or (pt_not (pt_val (pe_callB (kk_isi K) (by rfl) m_isinstance (by decide +kernel) (pa_cons (pv 2) (pa_cons (pe_bltn (v := .ty "int") (by rfl) m_int (by decide +kernel) rfl) pa_nil))))) (pw_or1 (pt_val (pe_callB (kk_isi K) (by rfl) m_isinstance (by decide +kernel) (pa_cons (pv 2) (pa_cons (pe_bltn (v := .ty "bool") (by rfl) m_bool (by decide +kernel) rfl) pa_nil)))))))
         (pss_one (ps_ret pe_bl))
         pss_nil)
      (pss_cons (ps_if (PW.pt (pw_or (pt_cmpR op_lt (pe_op op_mul pe_int (pv 2)) (pe_op op_mul (pv 0) (pv 1)) (nomark _)) (pw_or1 (PW.pt (pw_and (pt_cmpR op_gt (pv 2) pe_int (nomark _)) (pw_and1 (pt_cmpR op_ge (pe_op op_mul pe_int (pe_op op_sub (pv 2) pe_int)) (pe_op op_mul (pv 0) (pv 1)) (nomark _))))))))
         (pss_one (ps_ret pe_bl))
         pss_nil)
      (pss_one (ps_ret (pe_cmpR (kk_in K) (pe_op op_sub (pe_op op_add (pe_cf C_share_up (hr.mono (by decide)) (by rfl) (pa_cons (pv 0) (pa_cons (pe_op op_sub pe_int (pv 1)) pa_nil))) (pv 2)) (pv 0)) (pe_tup (pa_cons pe_int (pa_cons pe_int pa_nil))) (by rfl))))))), ?_⟩
    obtain ⟨t, ht⟩ : ∃ t, t = p * c := ⟨_, rfl⟩
    have hu : p * (100 - c) = 100 * p - t := by rw [ht, Int.mul_sub, Int.mul_comm p 100]
    refine ⟨_, rfl, _, rfl, p, c, rfl, hp, hp2, hc, hc2, ?_⟩
    rw [← ht]
    refine ⟨_, rfl, _, _, _, _, true, rfl, .ty _, .base (.int _), kit_ty (by decide +kernel), _, rfl, iteF ?_⟩
    refine ⟨_, rfl, _, _, _, _, false, rfl, .ty _, .base (.int _), kit_ty (by decide +kernel), _, rfl, iteF ?_⟩
    refine ⟨_, rfl, _, _, rfl, rfl, .inl ⟨by decide, by decide⟩, _, rfl, _, rfl, _, _, rfl, rfl, .inl ⟨by omega, by omega⟩, _, _, rfl, rfl, _, rfl, ite2 (fun e => absurd (of_decide_eq_true e) (by rw [← ht]; omega)) (fun e => ?_)⟩
    refine ⟨_, rfl, _, _, rfl, rfl, _, rfl, ?_⟩
    have fin : ((p * (100 - c) + 99) / 100 + (t + 99) / 100 - p = 0) ∨ ((p * (100 - c) + 99) / 100 + (t + 99) / 100 - p = 1) := by
      rw [hu]
      omega
    have hq : inV (.int ((p * (100 - c) + 99) / 100 + (t + 99) / 100 - p)) [.int 0, .int 1] = true := by
      rcases fin with h | h
      · rw [h]
        rfl
      · rw [h]
        rfl
    refine ite2 (fun e => ⟨_, rfl, _, _, rfl, rfl, _, _, rfl, rfl, .inl ⟨by decide, by decide⟩, _, rfl, _, rfl, _, _, rfl, rfl, .inl ⟨by omega, by omega⟩, _, _, rfl, rfl, _, rfl, iteN ?_ ?_⟩) (fun e => iteF ?_)
    · rw [← ht]
      omega
    all_goals
      refine ⟨_, rfl, _, rfl, _, _, rfl, rfl, p, 100 - c, rfl, hp, hp2, by omega, by omega, _, rfl, _, _, rfl, rfl, _, rfl, _, _, rfl, rfl, (by show 2 ≤ sizeLine; decide), fun l hl => ⟨l, _, rfl, .inr (SqT.of upd_same), rfl, rfl, ?_⟩⟩
      show Q (.bl (if false = true then !inV (.int ((p * (100 - c) + 99) / 100 + (t + 99) / 100 - p)) [.int 0, .int 1] else inV (.int ((p * (100 - c) + 99) / 100 + (t + 99) / 100 - p)) [.int 0, .int 1])) _
      rw [if_neg Bool.false_ne_true, hq]
      exact q _ (same_new hl)
/-! ### _law_parts_right -/
abbrev s__law_parts_right : Stmt := topS 7
abbrev N__law_parts_right : List Str := ["_law_pence", "_law_many", "_law_found", "_law_one"]
theorem sc__law_parts_right : FnScope N__law_parts_right ["_law_pence", "_law_many"] (defScope s__law_parts_right) := ⟨rfl, rfl, rfl, by decide +kernel, rfl, by decide +kernel, by decide +kernel⟩
def sp__law_parts_right (K : PySem.W.Frag) : Sp := fun vs H Q _ => ∃ p m : Int, vs = [.int p, .int m] ∧ 0 ≤ p ∧ p ≤ 1000000000 ∧ 1 ≤ m ∧ m ≤ 12 ∧ ∀ H', Same H H' → Q (.bl true) H'
theorem ok__law_parts_right {f : Addr} {fd : FuncData} (F : Fun K "_law_parts_right" "_law_parts_right" s__law_parts_right f fd) (g : mg "_law_parts_right" = some (.ref f)) (bd : Binds K fd ["_law_pence", "_law_many"] []) (m_sum : mg "sum" = none) (m_len : mg "len" = none) (m_isinstance : mg "isinstance" = none) (m_list : mg "list" = none) (m_all : mg "all" = none) (m_bool : mg "bool" = none) (m_int : mg "int" = none) (m_sorted : mg "sorted" = none) (C_parts_of : CF P w K mg base 1 "parts_of" ["pence", "many"] (sp_parts_of K)) : CF P w K mg base 2 "_law_parts_right" ["_law_pence", "_law_many"] (sp__law_parts_right K) := by
  refine ⟨f, fd, F.ok sc__law_parts_right (fun vs H Q E h => ?_) (fun cdv A outer s H vs Q E hr h => ?_), g, F.kp, bd⟩
  · first | (obtain ⟨_, rfl, _⟩ := h; rfl) | (obtain ⟨_, _, rfl, _⟩ := h; rfl) | (obtain ⟨_, _, _, rfl, _⟩ := h; rfl) | (obtain ⟨_, _, _, _, rfl, _⟩ := h; rfl) | (obtain ⟨_, _, _, _, _, rfl, _⟩ := h; rfl) | (obtain ⟨_, _, _, _, _, _, rfl, _⟩ := h; rfl) | (obtain ⟨_, _, _, _, _, _, _, rfl, _⟩ := h; rfl)
  · have hu64 := hr.units
    obtain ⟨p, m, rfl, hp, hp2, hm, hm2, q⟩ := h
    refine ⟨_, (pss_cons (ps_set (i := 2) sc__law_parts_right.nd rfl (.inl rfl) (pe_cf C_parts_of (hr.mono (by decide)) (by rfl) (pa_cons (pv 0) (pa_cons (pv 1) pa_nil))))
      (pss_cons (ps_if (PW.pt (pw_or (pt_not (pt_val (pe_callB (kk_isi K) (by rfl) m_isinstance (by decide +kernel) (pa_cons (pv 2) (pa_cons (pe_bltn (v := .ty "list") (by rfl) m_list (by decide +kernel) rfl) pa_nil))))) (pw_or (pt_cmpR op_ne (pe_callB (kk_len K) (by rfl) m_len PySem.boot_len (pa_cons (pv 2) pa_nil)) (pv 1) (nomark _)) (pw_or1 (pt_cmpR op_ne (pe_callB (kk_sum K rfl) (by rfl) m_sum (by decide +kernel) (pa_cons (pv 2) pa_nil)) (pv 0) (nomark _))))))
         (pss_one (ps_ret pe_bl))
         pss_nil)
      (pss_cons (ps_if (pt_not (pt_val (pe_callB (kk_all K rfl) (by rfl) m_all (by decide +kernel) (pa_cons (pe_lc (own := [("_law_one", 3)]) (g := (gName 3)) (tt := tYes) rfl sc__law_parts_right.nd (pi_list (pv 2)) (blkOk_by (own := [("_law_one", 3)]) (N := N__law_parts_right) (sc := defScope s__law_parts_right) (by decide +kernel)) (fun _ _ _ _ _ => pg_name (i := 3) sc__law_parts_right.nd rfl (Or.inl rfl)) (fun _ _ _ _ _ => pts_nil) (fun _ _ _ _ _ => (pe_and (pe_callB (kk_isi K) (by rfl) m_isinstance (by decide +kernel) (pa_cons (pv 3) (pa_cons (pe_bltn (v := .ty "int") (by rfl) m_int (by decide +kernel) rfl) pa_nil))) (pe_one (pe_not (pe_callB (kk_isi K) (by rfl) m_isinstance (by decide +kernel) (pa_cons (pv 3) (pa_cons (pe_bltn (v := .ty "bool") (by rfl) m_bool (by decide +kernel) rfl) pa_nil)))))))) pa_nil))))
         (pss_one (ps_ret pe_bl))
         pss_nil)
      (pss_one (ps_ret (pe_and (pe_cmpR (kk_eqD K hu64) (pv 2) (kk_revL K (pe_callB (kk_sorted K) (by rfl) m_sorted (by decide +kernel) (pa_cons (pv 2) pa_nil))) (nomark _)) (pe_one (pe_cmpR op_lt (pe_op op_sub (pe_ix (kk_ixl K) (pv 2) pe_int (fun _ _ => rfl)) (pe_ix (kk_ixl K) (pv 2) (pe_un un_neg pe_int) (fun _ _ => rfl))) pe_int (nomark _))))))))), ?_⟩
    have hlen := parts_len (p := p) hm
    have hsum := parts_sum (p := p) hm
    refine ⟨_, rfl, _, rfl, p, m, rfl, hp, hp2, hm, hm2, fun H1 l nl s1 hl => ?_⟩
    refine ⟨_, rfl, _, _, _, _, true, rfl, .ty _, .base (.lst hl), kit_ty (by decide +kernel), _, rfl, iteF ?_⟩
    refine ⟨_, rfl, l, _, rfl, .inl (SqL.of hl), _, rfl, rfl, _, rfl, iteNS (by rw [List.length_map, hlen]) ?_⟩
    refine ⟨_, rfl, l, _, rfl, SqL.of hl, _, rfl, rfl, _, rfl, iteNS (by rw [hsum]) ?_⟩
    refine ⟨_, rfl, l, rfl, ⟨_, SqL.of hl⟩, fun D hD => lc_list (K := K) (a := l) (xs := (partsL p m).map V.int) (fun i H' => Same H1 H' ∧ H' D = some (.lst ((List.replicate i true).map V.bl))) ⟨same_new hD, upd_same⟩ (fun i H' _ h => h.1.seq (SqL.of hl)) (fun i x H' hx h => ?_) (fun H' h => ?_)⟩
    · rw [List.getElem?_map] at hx
      obtain ⟨n, _, rfl⟩ := Option.map_eq_some_iff.mp hx
      refine ⟨rfl, _, rfl, _, _, _, _, true, rfl, .ty _, .base (.int _), kit_ty (by decide +kernel), _, rfl, _, rfl, _, _, _, _, false, rfl, .ty _, .base (.int _), kit_ty (by decide +kernel), _, rfl, _, h.2, ?_, ?_, ?_⟩
      · have hi : i < ((partsL p m)).length := (List.getElem?_eq_some_iff.mp ‹_›).1
        rw [List.length_map, List.length_replicate]
        exact small1000 (by omega)
      · exact fun b o e => by
          have nb : b ≠ D := ne_of_none e hD
          rw [upd_ne nb]
          exact h.1 _ _ e
      · rw [upd_same, List.replicate_succ', List.map_append]
        rfl
    · obtain ⟨s2, h2⟩ := h
      have hl2 := s2 _ _ hl
      refine ⟨D, _, rfl, SqL.of h2, _, rfl, ?_⟩
      rw [all_true]
      refine iteF ⟨_, rfl, _, rfl, l, _, rfl, SqL.of hl2, by omega, fun ns' p' pm pw np => ⟨p', _, rfl, SqL.of upd_same, fun r hr' => ⟨_, _, dp_ints (ns := partsL p m) (SqL.of ((same_new hr') _ _ ((same_new np) _ _ hl2))), dp_ints (ns := ns'.reverse) (SqL.of (by rw [upd_same, List.map_reverse])), sh_ints _, sh_ints _, ?_⟩⟩⟩
      rw [parts_sorted pm pw]
      have hlr : (upd (upd H' p' (.lst (ns'.map V.int))) r (.lst (ns'.map V.int).reverse)) l = some (.lst ((partsL p m).map V.int)) := (same_new hr') _ _ ((same_new np) _ _ hl2)
      obtain ⟨x, y, mx, my, ex, ey⟩ := ends_of (ns := partsL p m) (by omega)
      refine ⟨_, by rw [eqv_same], iteT ⟨_, rfl, l, _, _, _, rfl, rfl, SqL.of hlr, ex, _, rfl, _, rfl, l, _, _, _, rfl, rfl, SqL.of hlr, ey, _, _, rfl, rfl, _, _, rfl, rfl, ?_⟩⟩
      have : x - y < 2 := by
        rcases parts_mem mx with h | h <;> rcases parts_mem my with h' | h' <;> omega
      show Q (.bl (decide (x - y < 2))) _
      rw [decide_eq_true this]
      exact q _ (((s1.trans s2).trans (same_new np)).trans (same_new hr'))
/-! ### law -/
abbrev s_law : Stmt := topS 9
abbrev N_law : List Str := ["_law_script", "_law_k", "_law_box_here", "_law_turn", "_law_pence", "_law_many", "_law_percent"]
theorem sc_law : FnScope N_law ["_law_script"] (defScope s_law) := ⟨rfl, rfl, rfl, by decide +kernel, rfl, by decide +kernel, by decide +kernel⟩
def sp_law (K : PySem.W.Frag) : Sp := fun vs H Q _ => ∃ (a : Addr) (ns : List Int), vs = [.ref a] ∧ SqL K H a (ns.map V.int) ∧ ns.length ≤ 63 ∧ ∀ H', Q (.bl true) H'
theorem ok_law {f : Addr} {fd : FuncData} (F : Fun K "law" "law" s_law f fd) (m_range : mg "range" = none) (m_min : mg "min" = none) (m_len : mg "len" = none) (C__law_box : CF P w K mg base 1 "_law_box" ["_law_script", "_law_k"] (sp__law_box K)) (C__law_take : CF P w K mg base 1 "_law_take" ["_law_box_here", "_law_many"] (sp__law_take K)) (C__law_sum : CF P w K mg base 2 "_law_sum" ["_law_box_here"] (sp__law_sum K)) (C__law_share_right : CF P w K mg base 2 "_law_share_right" ["_law_pence", "_law_percent"] (sp__law_share_right K)) (C__law_parts_right : CF P w K mg base 2 "_law_parts_right" ["_law_pence", "_law_many"] (sp__law_parts_right K)) (C_share_up : CF P w K mg base 1 "share_up" ["pence", "percent"] (sp_share_up K)) : FnOk P w K mg base CX0 3 f fd ["_law_script"] (sp_law K) := by
  refine F.ok sc_law (fun vs H Q E h => ?_) (fun cdv A outer s H vs Q E hr h => ?_)
  · first | (obtain ⟨_, rfl, _⟩ := h; rfl) | (obtain ⟨_, _, rfl, _⟩ := h; rfl) | (obtain ⟨_, _, _, rfl, _⟩ := h; rfl) | (obtain ⟨_, _, _, _, rfl, _⟩ := h; rfl) | (obtain ⟨_, _, _, _, _, rfl, _⟩ := h; rfl) | (obtain ⟨_, _, _, _, _, _, rfl, _⟩ := h; rfl) | (obtain ⟨_, _, _, _, _, _, _, rfl, _⟩ := h; rfl)
  · have hu64 := hr.units
    obtain ⟨a, ns, rfl, hS, hlen, q⟩ := h
    refine ⟨_, (pss_cons (ps_for PassesOwn.never rfl (pi_range1 (by rfl) m_range (pa_cons (pe_op op_add pe_int (pe_callB (call_min2 rfl) (by rfl) m_min (by decide +kernel) (pa_cons pe_int (pa_cons (pe_callB (kk_len K) (by rfl) m_len PySem.boot_len (pa_cons (pv 0) pa_nil)) pa_nil)))) pa_nil)) (pg_name (i := 1) sc_law.nd rfl (.inl rfl))
         (pss_cons (ps_set (i := 2) sc_law.nd rfl (.inl rfl) (pe_cf C__law_box (hr.mono (by decide)) (by rfl) (pa_cons (pv 0) (pa_cons (pv 1) pa_nil))))
          (pss_one (ps_for PassesOwn.never rfl (pi_range1 (by rfl) m_range (pa_cons pe_int pa_nil)) (pg_name (i := 3) sc_law.nd rfl (.inl rfl))
             (pss_cons (ps_par (i := 4) (j := 5) (by rfl) sc_law.nd rfl rfl (by decide) rfl rfl (pa_cons (pe_cf C__law_sum (hr.mono (by decide)) (by rfl) (pa_cons (pv 2) pa_nil)) (pa_cons (pe_op op_add pe_int (pe_cf C__law_take (hr.mono (by decide)) (by rfl) (pa_cons (pv 2) (pa_cons pe_int pa_nil)))) pa_nil)) (by rfl))
              (pss_cons (ps_set (i := 6) sc_law.nd rfl (.inl rfl) (pe_ix (kk_ixl K) (pe_lst (pa_cons pe_int (pa_cons pe_int (pa_cons pe_int (pa_cons pe_int (pa_cons pe_int (pa_cons (pe_cf C__law_take (hr.mono (by decide)) (by rfl) (pa_cons (pv 2) (pa_cons pe_int pa_nil))) pa_nil))))))) (pe_cf C__law_take (hr.mono (by decide)) (by rfl) (pa_cons (pv 2) (pa_cons pe_int pa_nil))) (fun _ _ => rfl)))
              (pss_cons (ps_if (PW.pt (pw_or (pt_not (pt_val (pe_cf C__law_parts_right (hr.mono (by decide)) (by rfl) (pa_cons (pv 4) (pa_cons (pv 5) pa_nil))))) (pw_or1 (pt_not (pt_val (pe_cf C__law_share_right (hr.mono (by decide)) (by rfl) (pa_cons (pv 4) (pa_cons (pv 6) pa_nil))))))))
                 (pss_one (ps_ret pe_bl))
                 pss_nil)
              (pss_one (ps_if (PW.pt (pw_or (pt_cmpR op_ne (pe_cf C_share_up (hr.mono (by decide)) (by rfl) (pa_cons (pv 4) (pa_cons pe_int pa_nil))) (pv 4) (nomark _)) (pw_or1 (pt_cmpR op_ne (pe_cf C_share_up (hr.mono (by decide)) (by rfl) (pa_cons (pv 4) (pa_cons pe_int pa_nil))) pe_int (nomark _)))))
                 (pss_one (ps_ret pe_bl))
                 pss_nil)))))))))
      (pss_one (ps_ret pe_bl))), ?_⟩
    refine ⟨_, rfl, a, _, rfl, .inl hS, _, _, rfl, _, _, rfl, rfl, _, rfl, ?_, ?_, for_range (fun i σ H' => ∃ s1 s2 s3 s4 s5 s6, σ = [some (.ref a), s1, s2, s3, s4, s5, s6] ∧ Same H H') ⟨_, _, _, _, _, _, rfl, Same.refl H⟩ (fun i σ H' hi h => ?_) (fun σ H' _ => q _)⟩
    · split <;> omega
    · split <;> omega
    · obtain ⟨s1, s2, s3, s4, s5, s6, rfl, sm⟩ := h
      have hi2 : i < 10 := by
        have h1 : (1 + if (((ns.map V.int).length : Nat) : Int) < 8 then (((ns.map V.int).length : Nat) : Int) else 8) ≤ 9 := by split <;> omega
        omega
      refine ⟨_, rfl, _, rfl, a, _, ns, rfl, sm.seq hS, by omega, by omega, fun H1 b nb sb hb => ?_⟩
      have nb0 : H b = none := sm.free nb
      refine ⟨_, rfl, by decide, by decide, for_range (fun j σ H2 => ∃ s3 s4 s5 s6, σ = [some (.ref a), some (.int (0 + i)), some (.ref b), s3, s4, s5, s6] ∧ Same H H2 ∧ Box H2 b (8 * j)) ⟨_, _, _, _, rfl, sm.trans sb, hb.mono (by omega)⟩ (fun j σ H2 hj h => ?_) (fun σ H2 h => ?_)⟩
      · obtain ⟨s3, s4, s5, s6, rfl, sm2, hb2⟩ := h
        have hj2 : j < 8 := hj
        refine ⟨_, rfl, b, _, rfl, hb2, by omega, fun p H3 p0 p1 b3 t3 => ?_⟩
        refine ⟨_, rfl, b, 12, _, rfl, b3, by decide, by decide, by omega, fun m H4 m0 m1 b4 t4 => ?_⟩
        refine ⟨_, _, rfl, rfl, _, _, rfl, ?_⟩
        refine ⟨_, rfl, b, 101, _, rfl, b4, by decide, by decide, by omega, fun c H5 c0 c1 b5 t5 => ?_⟩
        refine ⟨(by show 6 ≤ sizeLine; decide), fun l hl => ?_⟩
        have b6 := b5.new (o := .lst [.int 0, .int 1, .int 50, .int 99, .int 100, .int c]) hl
        have t6 : But b _ _ := But.new (b := b) (o := .lst [.int 0, .int 1, .int 50, .int 99, .int 100, .int c]) hl
        refine ⟨_, rfl, b, 6, _, rfl, b6, by decide, by decide, by omega, fun r H7 r0 r1 b7 t7 => ?_⟩
        obtain ⟨d, hd, d0, d1⟩ := pick6 r0 r1 c0 (by omega)
        refine ⟨l, _, _, _, rfl, rfl, SqL.of (t7 _ _ (b5.ne hl) upd_same), hd, ?_⟩
        refine ⟨_, rfl, _, rfl, p, 1 + m, rfl, p0, p1, by omega, by omega, fun H8 s8 => ?_⟩
        refine ⟨_, rfl, iteF ?_⟩
        refine ⟨_, rfl, _, rfl, p, d, rfl, p0, p1, d0, d1, fun H9 s9 => ?_⟩
        refine ⟨_, rfl, iteF ?_⟩
        refine ⟨_, rfl, p, 100, rfl, p0, p1, by decide, by decide, _, rfl, rfl, _, rfl, iteNS (by rw [show (p * 100 + 99) / 100 = p by omega]) ?_⟩
        refine ⟨_, rfl, p, 0, rfl, p0, p1, by decide, by decide, rfl, _, rfl, iteNS (by rw [show (p * 0 + 99) / 100 = 0 by omega]) ?_⟩
        have sf : Same H H9 := (same_but (same_but (same_but (same_but (same_but sm2 nb0 t3) nb0 t4) nb0 t5) nb0 t6) nb0 t7).trans (s8.trans s9)
        exact ⟨_, _, _, _, rfl, sf, ((b7.same s8).same s9).mono (by omega)⟩
      · obtain ⟨s3, s4, s5, s6, rfl, sm2, _⟩ := h
        exact ⟨_, _, _, _, _, _, rfl, sm2⟩
end
theorem all_mk {l : PySem.W.OpenLaw} {w : World} {K : PySem.W.Frag} {h : Heap} {mg : Str → Option Value} {fa f0 f1 f2 f3 f4 f5 f6 f7 : Addr} (X : K.In h) (G : h.Ns mainGlobals mg) (hfa : mg "law" = some (.ref fa))
    {od0 an0 od1 an1 od2 an2 od3 an3 od4 an4 od5 an5 od6 an6 od7 an7 : Option Addr} {sl0 sl1 sl2 sl3 sl4 sl5 sl6 sl7 : Array (Option Value)} {oc0 kV0 dc0 pm0 cd0 ct0 oc1 kV1 dc1 pm1 cd1 ct1 oc2 kV2 dc2 pm2 cd2 ct2 oc3 kV3 dc3 pm3 cd3 ct3 oc4 kV4 dc4 pm4 cd4 ct4 oc5 kV5 dc5 pm5 cd5 ct5 oc6 kV6 dc6 pm6 cd6 ct6 oc7 kV7 dc7 pm7 cd7 ct7 : Value}
    (a0 : PySem.W.nsIn K mainGlobals "_law_take" = some (some (.ref f0))) (l0 : K.lookup f0 = some ⟨oc0, od0, .func (PySem.W.fnOf "_law_take" "_law_take" (defArgs s__law_take) (defBody s__law_take) (defScope s__law_take) .none kV0 dc0 pm0 an0 cd0 ct0), sl0⟩) (c0 : PySem.W.codeIn K cd0 "_law_take" = true) (k0 : PySem.W.keepIn K (.ref f0) = true)
    (a1 : PySem.W.nsIn K mainGlobals "_law_box" = some (some (.ref f1))) (l1 : K.lookup f1 = some ⟨oc1, od1, .func (PySem.W.fnOf "_law_box" "_law_box" (defArgs s__law_box) (defBody s__law_box) (defScope s__law_box) .none kV1 dc1 pm1 an1 cd1 ct1), sl1⟩) (c1 : PySem.W.codeIn K cd1 "_law_box" = true) (k1 : PySem.W.keepIn K (.ref f1) = true)
    (a2 : PySem.W.nsIn K mainGlobals "share_up" = some (some (.ref f2))) (l2 : K.lookup f2 = some ⟨oc2, od2, .func (PySem.W.fnOf "share_up" "share_up" (defArgs s_share_up) (defBody s_share_up) (defScope s_share_up) .none kV2 dc2 pm2 an2 cd2 ct2), sl2⟩) (c2 : PySem.W.codeIn K cd2 "share_up" = true) (k2 : PySem.W.keepIn K (.ref f2) = true)
    (a3 : PySem.W.nsIn K mainGlobals "parts_of" = some (some (.ref f3))) (l3 : K.lookup f3 = some ⟨oc3, od3, .func (PySem.W.fnOf "parts_of" "parts_of" (defArgs s_parts_of) (defBody s_parts_of) (defScope s_parts_of) .none kV3 dc3 pm3 an3 cd3 ct3), sl3⟩) (c3 : PySem.W.codeIn K cd3 "parts_of" = true) (k3 : PySem.W.keepIn K (.ref f3) = true)
    (a4 : PySem.W.nsIn K mainGlobals "_law_sum" = some (some (.ref f4))) (l4 : K.lookup f4 = some ⟨oc4, od4, .func (PySem.W.fnOf "_law_sum" "_law_sum" (defArgs s__law_sum) (defBody s__law_sum) (defScope s__law_sum) .none kV4 dc4 pm4 an4 cd4 ct4), sl4⟩) (c4 : PySem.W.codeIn K cd4 "_law_sum" = true) (k4 : PySem.W.keepIn K (.ref f4) = true)
    (a5 : PySem.W.nsIn K mainGlobals "_law_share_right" = some (some (.ref f5))) (l5 : K.lookup f5 = some ⟨oc5, od5, .func (PySem.W.fnOf "_law_share_right" "_law_share_right" (defArgs s__law_share_right) (defBody s__law_share_right) (defScope s__law_share_right) .none kV5 dc5 pm5 an5 cd5 ct5), sl5⟩) (c5 : PySem.W.codeIn K cd5 "_law_share_right" = true) (k5 : PySem.W.keepIn K (.ref f5) = true)
    (a6 : PySem.W.nsIn K mainGlobals "_law_parts_right" = some (some (.ref f6))) (l6 : K.lookup f6 = some ⟨oc6, od6, .func (PySem.W.fnOf "_law_parts_right" "_law_parts_right" (defArgs s__law_parts_right) (defBody s__law_parts_right) (defScope s__law_parts_right) .none kV6 dc6 pm6 an6 cd6 ct6), sl6⟩) (c6 : PySem.W.codeIn K cd6 "_law_parts_right" = true) (k6 : PySem.W.keepIn K (.ref f6) = true)
    (a7 : PySem.W.nsIn K mainGlobals "law" = some (some (.ref f7))) (l7 : K.lookup f7 = some ⟨oc7, od7, .func (PySem.W.fnOf "law" "law" (defArgs s_law) (defBody s_law) (defScope s_law) .none kV7 dc7 pm7 an7 cd7 ct7), sl7⟩) (c7 : PySem.W.codeIn K cd7 "law" = true) (k7 : PySem.W.keepIn K (.ref f7) = true)
    (z_len : PySem.W.nsIn K mainGlobals "len" = some none) (z_abs : PySem.W.nsIn K mainGlobals "abs" = some none) (z_int : PySem.W.nsIn K mainGlobals "int" = some none) (z_divmod : PySem.W.nsIn K mainGlobals "divmod" = some none) (z_max : PySem.W.nsIn K mainGlobals "max" = some none) (z_isinstance : PySem.W.nsIn K mainGlobals "isinstance" = some none) (z_bool : PySem.W.nsIn K mainGlobals "bool" = some none) (z_sum : PySem.W.nsIn K mainGlobals "sum" = some none) (z_list : PySem.W.nsIn K mainGlobals "list" = some none) (z_all : PySem.W.nsIn K mainGlobals "all" = some none) (z_sorted : PySem.W.nsIn K mainGlobals "sorted" = some none) (z_range : PySem.W.nsIn K mainGlobals "range" = some none) (z_min : PySem.W.nsIn K mainGlobals "min" = some none) :
    ∃ fd : FuncData, (∀ (s : Shared) (v : Value), BindsTo s fd ⟨[v], []⟩ [("_law_script", v)]) ∧ ∀ base : Heap, K.In base → base.Ns mainGlobals mg → FnOk l.prog w K mg base CX0 3 fa fd ["_law_script"] (sp_law K) := by
  have e := hfa.symm.trans (PySem.W.mg_of X G a7)
  cases e
  have F0 := fun_mk (st := s__law_take) l0 c0 k0
  have b0 := F0.binds (ps := ["_law_box_here", "_law_many"]) fun _ _ _ _ _ _ us hl => match us, hl with | [_, _], _ => rfl
  have g0 := PySem.W.mg_of X G a0
  have F1 := fun_mk (st := s__law_box) l1 c1 k1
  have b1 := F1.binds (ps := ["_law_script", "_law_k"]) fun _ _ _ _ _ _ us hl => match us, hl with | [_, _], _ => rfl
  have g1 := PySem.W.mg_of X G a1
  have F2 := fun_mk (st := s_share_up) l2 c2 k2
  have b2 := F2.binds (ps := ["pence", "percent"]) fun _ _ _ _ _ _ us hl => match us, hl with | [_, _], _ => rfl
  have g2 := PySem.W.mg_of X G a2
  have F3 := fun_mk (st := s_parts_of) l3 c3 k3
  have b3 := F3.binds (ps := ["pence", "many"]) fun _ _ _ _ _ _ us hl => match us, hl with | [_, _], _ => rfl
  have g3 := PySem.W.mg_of X G a3
  have F4 := fun_mk (st := s__law_sum) l4 c4 k4
  have b4 := F4.binds (ps := ["_law_box_here"]) fun _ _ _ _ _ _ us hl => match us, hl with | [_], _ => rfl
  have g4 := PySem.W.mg_of X G a4
  have F5 := fun_mk (st := s__law_share_right) l5 c5 k5
  have b5 := F5.binds (ps := ["_law_pence", "_law_percent"]) fun _ _ _ _ _ _ us hl => match us, hl with | [_, _], _ => rfl
  have g5 := PySem.W.mg_of X G a5
  have F6 := fun_mk (st := s__law_parts_right) l6 c6 k6
  have b6 := F6.binds (ps := ["_law_pence", "_law_many"]) fun _ _ _ _ _ _ us hl => match us, hl with | [_, _], _ => rfl
  have g6 := PySem.W.mg_of X G a6
  have F7 := fun_mk (st := s_law) l7 c7 k7
  have m_len := PySem.W.mg_none_of X G z_len
  have m_abs := PySem.W.mg_none_of X G z_abs
  have m_int := PySem.W.mg_none_of X G z_int
  have m_divmod := PySem.W.mg_none_of X G z_divmod
  have m_max := PySem.W.mg_none_of X G z_max
  have m_isinstance := PySem.W.mg_none_of X G z_isinstance
  have m_bool := PySem.W.mg_none_of X G z_bool
  have m_sum := PySem.W.mg_none_of X G z_sum
  have m_list := PySem.W.mg_none_of X G z_list
  have m_all := PySem.W.mg_none_of X G z_all
  have m_sorted := PySem.W.mg_none_of X G z_sorted
  have m_range := PySem.W.mg_none_of X G z_range
  have m_min := PySem.W.mg_none_of X G z_min
  refine ⟨PySem.W.fnOf "law" "law" (defArgs s_law) (defBody s_law) (defScope s_law) .none kV7 dc7 pm7 an7 cd7 ct7, fun s v => .of_eq rfl, fun base _ _ => ?_⟩
  have C__law_take := ok__law_take (P := l.prog) (w := w) (base := base) F0 g0 b0
  have C__law_box := ok__law_box (P := l.prog) (w := w) (base := base) F1 g1 b1 m_len m_abs m_int
  have C_share_up := ok_share_up (P := l.prog) (w := w) (base := base) F2 g2 b2
  have C_parts_of := ok_parts_of (P := l.prog) (w := w) (base := base) F3 g3 b3 m_divmod
  have C__law_sum := ok__law_sum (P := l.prog) (w := w) (base := base) F4 g4 b4 m_max C__law_take
  have C__law_share_right := ok__law_share_right (P := l.prog) (w := w) (base := base) F5 g5 b5 m_isinstance m_bool m_int C_share_up
  have C__law_parts_right := ok__law_parts_right (P := l.prog) (w := w) (base := base) F6 g6 b6 m_sum m_len m_isinstance m_list m_all m_bool m_int m_sorted C_parts_of
  exact ok_law F7 m_range m_min m_len C__law_box C__law_take C__law_sum C__law_share_right C__law_parts_right C_share_up
end Pw
open PySem PySem.W PyProof.Rows
set_option maxHeartbeats 0 in
theorem PySem.Challenge.cw_partwares_k04_parts_and_shares_holds : PySem.Challenge.rw_partwares_k04_parts_and_shares.Holds := by
  w_on; o_law; k_head; (case hw => w_witness2)
  k_fill
  refine L2.walk_of (l := PySem.Challenge.rw_partwares_k04_parts_and_shares) (n := 63) (k := 3) (x := "_law_script") (CX := fun _ => L2.CX0) (sp := fun w => Pw.sp_law _) rfl (by decide) rfl ⟨rfl, by decide, by decide⟩ (fun w h Y => PySem.W.kIn_of Y) ?F (fun _ _ a ns hl _ hS => ⟨a, ns, rfl, hS, hl, fun _ => rfl⟩) (fun _ _ _ _ _ h => h)
  case F =>
    intro w mg fa h KX G hmg
    refine' Pw.all_mk KX G hmg ?a0 ?l0 ?c0 ?k0 ?a1 ?l1 ?c1 ?k1 ?a2 ?l2 ?c2 ?k2 ?a3 ?l3 ?c3 ?k3 ?a4 ?l4 ?c4 ?k4 ?a5 ?l5 ?c5 ?k5 ?a6 ?l6 ?c6 ?k6 ?a7 ?l7 ?c7 ?k7 ?z_len ?z_abs ?z_int ?z_divmod ?z_max ?z_isinstance ?z_bool ?z_sum ?z_list ?z_all ?z_sorted ?z_range ?z_min
    (case a0 => k_is); (case l0 => k_is); (case c0 => k_is); (case k0 => k_is); (case a1 => k_is); (case l1 => k_is); (case c1 => k_is); (case k1 => k_is); (case a2 => k_is); (case l2 => k_is); (case c2 => k_is); (case k2 => k_is); (case a3 => k_is); (case l3 => k_is); (case c3 => k_is); (case k3 => k_is); (case a4 => k_is); (case l4 => k_is); (case c4 => k_is); (case k4 => k_is); (case a5 => k_is); (case l5 => k_is); (case c5 => k_is); (case k5 => k_is); (case a6 => k_is); (case l6 => k_is); (case c6 => k_is); (case k6 => k_is); (case a7 => k_is); (case l7 => k_is); (case c7 => k_is); (case k7 => k_is); (case z_len => k_is); (case z_abs => k_is); (case z_int => k_is); (case z_divmod => k_is); (case z_max => k_is); (case z_isinstance => k_is); (case z_bool => k_is); (case z_sum => k_is); (case z_list => k_is); (case z_all => k_is); (case z_sorted => k_is); (case z_range => k_is); (case z_min => k_is)
