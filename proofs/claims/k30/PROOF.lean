import PyProof.Rows.All
import Wide.All
import OpenK.AllK
import Wide.FinOn
import HandS.Base
import HandS.Call
import HandS.List
import HandS.Comp
import HandS.Ends
import HandS.Iter
import HandS.Text
import HandS.Words
import HandS.WordsList
import HandS.IsInst
import HandS.Style
import HandS.Walk
import HandS.Defaults
import HandS.TupMul
import HandS.Zip
import HandS.More
import HandS.TupAny
import HandS.MakeKw
import HandS.SortKw
import KE.DatumOrd
import PySem.Challenge.RW_partwares_k30_least_in_stretches_of_days
set_option Elab.async false
set_option linter.all false
set_option maxRecDepth 100000
namespace Pw
open PySem PySem.Spec PyProof.Rows L2
/-! ### a def of the text by its promise, its address left aside -/
structure CF (P : Program) (w : World) (K : PySem.W.Frag) (mg : Str → Option Value) (base : Heap) (k : Nat) (x : Str) (ps : List Str) (sp : Sp) : Prop where
  ex : ∃ (f : Addr) (fd : FuncData), FnOk P w K mg base CX0 k f fd ps sp ∧ mg x = some (.ref f) ∧ PySem.W.keepIn K (.ref f) = true ∧ Binds K fd ps []
theorem pe_cf {X : Cx} {k : Nat} {x : Str} {ps : List Str} {sp : Sp} {e : Expr} {es : List Expr} {t : TA} {p pos : Pos} (C : CF X.prog X.w X.K X.mg X.base k x ps sp) (hr : Room k X.A) (hg : Gl X x) (ha : PA X (e :: es) t)
    (hdb : (x == ("__debug__" : Str)) = false := by decide) (he : starEach (e :: es) X.env = (false, eval e X.env) :: starEach es X.env := by rfl) (hpl : (backTo pos (starEach es X.env)).any (·.1) = false := by rfl) :
    PE X (.Call (.Name x p) (e :: es) [] pos) (tCall sp [] E0 t) := by
  obtain ⟨f, fd, F, g, kp, b⟩ := C.ex
  exact pe_call F hr hg g kp b .nil pass0 ha hdb he hpl
/-! ### the rules with their written part named (within a comprehension it must not hang on the block) -/
section
variable (K : PySem.W.Frag) {X : Cx}
theorem kk_isi (h : X.K = K := by rfl) : CallR X (.builtin "isinstance") (rIsi K) := h ▸ call_isi
theorem kk_isiT (h : X.K = K := by rfl) : CallR X (.builtin "isinstance") (rIsiT K) := h ▸ call_isiT
theorem kk_len (h : X.K = K := by rfl) : CallR X (.builtin "len") (fun xs H Q => ∃ p ys, xs = [.ref p] ∧ (SqL K H p ys ∨ SqT K H p ys) ∧ Q (.int ys.length) H) := h ▸ call_len_seq
theorem kk_list (h : X.K = K := by rfl) : CallR X (.type "list") (fun xs H Q => ∃ p ys, xs = [.ref p] ∧ (SqL K H p ys ∨ SqT K H p ys) ∧ ∀ l, H l = none → Q (.ref l) (upd H l (.lst ys))) := h ▸ call_list_of
theorem kk_tuple (h : X.K = K := by rfl) : CallR X (.type "tuple") (fun xs H Q => ∃ p ys, xs = [.ref p] ∧ ((SqL K H p ys ∧ ∀ l, H l = none → Q (.ref l) (upd H l (.tup ys))) ∨ (SqT K H p ys ∧ Q (.ref p) H))) := h ▸ call_tuple_of
theorem kk_sum (hc : X.calm = true) (h : X.K = K := by rfl) : CallR X (.builtin "sum") (rSum K) := h ▸ cr_sum hc
theorem kk_max (hc : X.calm = true) (h : X.K = K := by rfl) : CallR X (.builtin "max") (rMax K) := h ▸ cr_max hc
theorem kk_min (hc : X.calm = true) (h : X.K = K := by rfl) : CallR X (.builtin "min") (rMin K) := h ▸ cr_min hc
theorem kk_any (hc : X.calm = true) (h : X.K = K := by rfl) : CallR X (.builtin "any") (rAny K) := h ▸ cr_any hc
theorem kk_all (hc : X.calm = true) (h : X.K = K := by rfl) : CallR X (.builtin "all") (rAll K) := h ▸ cr_all hc
theorem kk_sorted (h : X.K = K := by rfl) : CallR X (.builtin "sorted") (rSorted K) := h ▸ cr_sorted
theorem kk_ixl (h : X.K = K := by rfl) : IxR X (rIxL K) := h ▸ ix_list
theorem kk_ixt (h : X.K = K := by rfl) : IxR X (rIxT K) := h ▸ ix_tup
theorem kk_sll (h : X.K = K := by rfl) : SlR X (rSlL K) := h ▸ sl_list
theorem kk_slt (h : X.K = K := by rfl) : SlR X (rSlT K) := h ▸ sl_tup
theorem kk_in (h : X.K = K := by rfl) : OpR X (compareOp .In) (rIn K false) := h ▸ op_in_seq
theorem kk_nin (h : X.K = K := by rfl) : OpR X (compareOp .NotIn) (rIn K true) := h ▸ op_notIn_seq
theorem kk_catT (h : X.K = K := by rfl) : OpR X (binaryOp .Add) (rCatT K) := h ▸ op_catT
theorem kk_eqD (hu : X.A.units + 64 < cLine) (h : X.K = K := by rfl) : OpR X (compareOp .Eq) (rEqD K) := h ▸ op_eqD hu
theorem kk_neD (hu : X.A.units + 64 < cLine) (h : X.K = K := by rfl) : OpR X (compareOp .NotEq) (rNeD K) := h ▸ op_neD hu
theorem kk_revL {e : Expr} {te : TE} {k : Nat} {p1 p2 p3 pos : Pos} (he : PE X e te) (h : X.K = K := by rfl) : PE X (.Subscript e (.Slice none none (some (.UnaryOp .USub (.Constant (.int 1) k p1) p2)) p3) pos) (tRevL K te) := h ▸ pe_revL he
end
/-! ### heaps: all as it was, but one place -/
def But (b : Addr) (H H' : Hp) : Prop := ∀ c o, c ≠ b → H c = some o → H' c = some o
theorem But.refl (b : Addr) (H : Hp) : But b H H := fun _ _ _ h => h
theorem But.trans {b : Addr} {H H1 H2 : Hp} (x : But b H H1) (y : But b H1 H2) : But b H H2 := fun c o n h => y c o n (x c o n h)
theorem But.of {b : Addr} {H H1 : Hp} (x : Same H H1) : But b H H1 := fun c o _ h => x c o h
theorem But.upd {b : Addr} {H : Hp} {o : HO} : But b H (L2.upd H b o) := fun c u n h => by
  rw [upd_ne n]
  exact h
theorem But.new {b p : Addr} {H : Hp} {o : HO} (h : H p = none) : But b H (L2.upd H p o) := fun c u _ e => by
  rw [upd_ne (ne_of_none e h)]
  exact e
theorem same_new {H : Hp} {p : Addr} {o : HO} (h : H p = none) : Same H (upd H p o) := fun b x e => by
  rw [upd_ne (ne_of_none e h)]
  exact e
theorem But.seq {K : PySem.W.Frag} {b a : Addr} {H H' : Hp} {xs : List V} (e : But b H H') (n : a ≠ b) (h : SqL K H a xs) : SqL K H' a xs := by
  rcases h with (h | ⟨o, h⟩) | h
  · exact .inl (.inl (e _ _ n h))
  · exact .inl (.inr ⟨o, e _ _ n h⟩)
  · exact .inr h
/-! ### the law's box of three numbers -/
def Box (H : Hp) (b : Addr) (n : Int) : Prop := ∃ x y z : Int, H b = some (.lst [.int x, .int y, .int z]) ∧ 0 ≤ x ∧ 0 ≤ y ∧ y ≤ 3000000000 ∧ 0 ≤ z ∧ z ≤ n
theorem Box.mono {H : Hp} {b : Addr} {n m : Int} (h : Box H b n) (l : n ≤ m) : Box H b m := by
  obtain ⟨x, y, z, h0, h1, h2, h3, h4, h5⟩ := h
  exact ⟨x, y, z, h0, h1, h2, h3, h4, by omega⟩
theorem Box.same {H H' : Hp} {b : Addr} {n : Int} (e : Same H H') (h : Box H b n) : Box H' b n := by
  obtain ⟨x, y, z, h0, h1⟩ := h
  exact ⟨x, y, z, e _ _ h0, h1⟩
theorem Box.new {H : Hp} {b p : Addr} {o : HO} {n : Int} (h : Box H b n) (e : H p = none) : Box (upd H p o) b n := h.same (same_new e)
theorem Box.ne {H : Hp} {b p : Addr} {n : Int} (h : Box H b n) (e : H p = none) : p ≠ b := fun z => by
  obtain ⟨_, _, _, h0, _⟩ := h
  rw [z, h0] at e
  cases e
section
variable {K : PySem.W.Frag}
theorem at_int {ns : List Int} {k : Int} (h0 : 0 ≤ k) (h1 : k < ns.length) : ∃ c, atI (ns.map V.int) k = some (.int c) := by
  obtain ⟨j, rfl⟩ := Int.eq_ofNat_of_zero_le h0
  have hj : j < ns.length := by omega
  refine ⟨ns[j], atI_nat ?_⟩
  rw [List.getElem?_map, List.getElem?_eq_getElem hj]
  rfl
def partsL (p m : Int) : List Int := List.replicate (p % m).toNat (p / m + 1) ++ List.replicate (m - p % m).toNat (p / m)
theorem rep1 {α : Type} (k : Nat) (x : α) : (List.replicate k [x]).flatten = List.replicate k x := by
  induction k with
  | zero => rfl
  | succ n ih => rw [List.replicate_succ, List.flatten_cons, ih]; rfl
theorem size_small {n : Nat} (h : n ≤ 1000) : n ≤ sizeLine := Nat.le_of_lt (small1000 h)
theorem iteN {c A B : Prop} [Decidable c] (hc : ¬ c) (h : B) : if decide c = true then A else B := by
  rw [decide_eq_false hc]
  exact iteF h
theorem iteY {c A B : Prop} [Decidable c] (hc : c) (h : A) : if decide c = true then A else B := by
  rw [decide_eq_true hc]
  exact iteT h
theorem same_but {b : Addr} {H0 H1 H2 : Hp} (s : Same H0 H1) (n : H0 b = none) (t : But b H1 H2) : Same H0 H2 := fun c o h => t c o (fun e => by rw [e, n] at h; cases h) (s c o h)
theorem dpAll_ints {H : Hp} : ∀ ns : List Int, DpAll K H (ns.map V.int) (ns.map PyData.int)
  | [] => .nil
  | n :: r => .cons (.int n) (dpAll_ints r)
theorem dp_ints {H : Hp} {a : Addr} {ns : List Int} (h : SqL K H a (ns.map V.int)) : Dp K H (.ref a) (.list (ns.map PyData.int)) := .lst h (dpAll_ints ns)
theorem lay_ints : ∀ ns : List Int, PyData.canLayAll0 (ns.map PyData.int) = true
  | [] => by simp [PyData.canLayAll0]
  | n :: r => by simp [PyData.canLayAll0, PyData.canLay0, lay_ints r]
theorem depth_ints : ∀ ns : List Int, PyData.depthAll (ns.map PyData.int) ≤ 1
  | [] => by simp [PyData.depthAll]
  | n :: r => by
    have h := depth_ints r
    simp only [List.map_cons, PyData.depthAll, PyData.depth]
    omega
theorem sh_ints (ns : List Int) : SeqAt.shaped (.list (ns.map PyData.int)) = true := by
  have h1 := depth_ints ns
  have h2 : PyData.depth (.list (ns.map PyData.int)) ≤ 64 := by
    simp only [PyData.depth]
    omega
  show (PyData.canLay0 (.list (ns.map PyData.int)) && decide (PyData.depth (.list (ns.map PyData.int)) ≤ 64)) = true
  rw [Bool.and_eq_true]
  exact ⟨by simp only [PyData.canLay0]; exact lay_ints ns, decide_eq_true h2⟩
theorem eqv_same (ns : List Int) : PyData.eqv (.list (ns.map PyData.int)) (.list (ns.map PyData.int)) = true := SeqAt.eqv_refl _ (SeqAt.canLay_of_shaped (sh_ints ns))

theorem sum_rep (k : Nat) (x : Int) : (List.replicate k x).sum = k * x := by
  induction k with
  | zero => simp
  | succ n ih =>
    rw [List.replicate_succ, List.sum_cons, ih, Int.natCast_add, Int.add_mul]
    omega
theorem parts_len {p m : Int} (hm : 1 ≤ m) : ((partsL p m).length : Int) = m := by
  have hr0 := Int.emod_nonneg p (show m ≠ 0 by omega)
  have hr1 := Int.emod_lt_of_pos p (show 0 < m by omega)
  unfold partsL
  rw [List.length_append, List.length_replicate, List.length_replicate]
  omega
theorem parts_sum {p m : Int} (hm : 1 ≤ m) : (partsL p m).sum = p := by
  have hr0 := Int.emod_nonneg p (show m ≠ 0 by omega)
  have hr1 := Int.emod_lt_of_pos p (show 0 < m by omega)
  have e := Int.mul_ediv_add_emod p m
  unfold partsL
  rw [List.sum_append, sum_rep, sum_rep, Int.toNat_of_nonneg hr0, Int.toNat_of_nonneg (by omega), Int.sub_mul, Int.mul_add]
  omega
theorem parts_mem {p m x : Int} (h : x ∈ partsL p m) : x = p / m + 1 ∨ x = p / m := by
  unfold partsL at h
  rcases List.mem_append.mp h with h | h
  · exact .inl (List.eq_of_mem_replicate h)
  · exact .inr (List.eq_of_mem_replicate h)
theorem parts_fall (p m : Int) : (partsL p m).Pairwise (fun a b => b ≤ a) := by
  unfold partsL
  refine List.pairwise_append.mpr ⟨List.pairwise_replicate.mpr (.inr (Int.le_refl _)), List.pairwise_replicate.mpr (.inr (Int.le_refl _)), fun a ha b hb => ?_⟩
  rw [List.eq_of_mem_replicate ha, List.eq_of_mem_replicate hb]
  omega
theorem parts_sorted {p m : Int} {ns : List Int} (h : ns.Perm (partsL p m)) (hs : ns.Pairwise (· ≤ ·)) : ns.reverse = partsL p m := by
  refine List.Perm.eq_of_pairwise (le := fun a b => b ≤ a) (fun x y _ _ h1 h2 => Int.le_antisymm h2 h1) ?_ (parts_fall p m) ((List.reverse_perm ns).trans h)
  exact List.pairwise_reverse.mpr hs
theorem ends_of {ns : List Int} (h : 0 < ns.length) : ∃ x y, x ∈ ns ∧ y ∈ ns ∧ atI (ns.map V.int) 0 = some (.int x) ∧ atI (ns.map V.int) (-1) = some (.int y) := by
  cases ns with
  | nil => cases h
  | cons x r =>
    refine ⟨x, (x :: r).getLast (List.cons_ne_nil _ _), List.mem_cons_self, List.getLast_mem _, atI_nat (j := 0) rfl, ?_⟩
    have hz : ((x :: r).map V.int) = ((x :: r).dropLast.map V.int) ++ [.int ((x :: r).getLast (List.cons_ne_nil _ _))] := by
      rw [← List.map_singleton, ← List.map_append, List.dropLast_concat_getLast]
    rw [hz]
    exact atI_last _ _
theorem all_true (n : Nat) : (List.replicate n true).all id = true := by
  induction n with
  | zero => rfl
  | succ k ih => rw [List.replicate_succ, List.all_cons, ih]; rfl
theorem pick6 {r x : Int} (h0 : 0 ≤ r) (h1 : r < 6) (x0 : 0 ≤ x) (x1 : x ≤ 100) : ∃ c : Int, atI [V.int 0, .int 1, .int 50, .int 99, .int 100, .int x] r = some (.int c) ∧ 0 ≤ c ∧ c ≤ 100 := by
  have h : r = 0 ∨ r = 1 ∨ r = 2 ∨ r = 3 ∨ r = 4 ∨ r = 5 := by omega
  rcases h with rfl | rfl | rfl | rfl | rfl | rfl
  · exact ⟨0, rfl, by decide, by decide⟩
  · exact ⟨1, rfl, by decide, by decide⟩
  · exact ⟨50, rfl, by decide, by decide⟩
  · exact ⟨99, rfl, by decide, by decide⟩
  · exact ⟨100, rfl, by decide, by decide⟩
  · exact ⟨x, rfl, x0, x1⟩
end
end Pw
namespace Pw
open PySem PySem.Spec PyProof.Rows L2
/-! ### defs that are called where no repr is under way (so that the repr of a list, of a tuple, is its text) -/
structure FnG (P : Program) (w : World) (K : PySem.W.Frag) (mg : Str → Option Value) (base : Heap) (k : Nat) (f : Addr) (fd : FuncData) (ps : List Str) (sp : Sp) : Prop where
  many : ∀ vs H Q E, sp vs H Q E → vs.length = ps.length
  runs : ∀ (A : Around) (out : List Env) (s : Shared) (H : Hp) (ar : Args) (us : List Value) (vs : List V) (Q : VK) (E : XK), Room k A → A.guards = some [] → Env0 P w K mg base A out s H →
    BindsTo s fd ar (ps.zip us) → Vals vs us → sp vs H Q E → codeAny (model P w) A (.call (.ref f) ar) (CR CX0 out P w H s Q E) s
theorem FnG.of {P : Program} {w : World} {K : PySem.W.Frag} {mg : Str → Option Value} {base : Heap} {k : Nat} {f : Addr} {fd : FuncData} {ps : List Str} {sp : Sp} (F : FnOk P w K mg base CX0 k f fd ps sp) : FnG P w K mg base k f fd ps sp :=
  ⟨F.len, fun A out s H ar us vs Q E hr _ => F.run A out s H ar us vs Q E hr⟩
theorem guards_deeper {A : Around} {env : Env} (h : A.guards = some []) : (A.deeper env).guards = some [] := h
theorem okG {P : Program} {w : World} {K : PySem.W.Frag} {mg : Str → Option Value} {base : Heap} {x qual : Str} {st : Stmt} {f : Addr} {fd : FuncData} {N ps : List Str} {k : Nat} {sp : Sp} (F : Fun K x qual st f fd) (S : FnScope N ps (defScope st))
    (many : ∀ vs H Q E, sp vs H Q E → vs.length = ps.length)
    (walk : ∀ (cdv : Value) (A : Around) (out : List Env) (s : Shared) (H : Hp) (vs : List V) (Q : VK) (E : XK), Room k (A.deeper (envOfC qual (defScope st) s.heap.objs.size f cdv)) → (A.deeper (envOfC qual (defScope st) s.heap.objs.size f cdv)).guards = some [] → sp vs H Q E →
      ∃ t, PSs (cxOf CX0 P w K mg base N qual (defScope st) f cdv A out s H E).nox (defBody st) t ∧ t { nx := fun _ H' => Q .non H', rt := Q } (start N vs) H) : FnG P w K mg base (k + 1) f fd ps sp := by
  obtain ⟨oc, od, kV, dc, pm, an, cv, ct, ol, rfl, look, code⟩ := F.ex
  constructor
  · exact many
  · intro A out s H ar us vs Q E room gd env0 binds rel want
    have inK : K.In s.heap := env0.mod.kin.keeps (fun b o e => And.left (env0.bs b o e))
    have noLim : s.heap.NoLimit := env0.mod.nolimit.keeps (fun b o e => And.left (env0.bs b o e))
    apply codeAny_call_function room.depth (inK _ _ look) rfl S.co S.gen rfl (PySem.W.codeRec_of inK code)
    apply binds
    apply wpAny_newFunctionEnv_cells S.kind
    · rintro ⟨n, v⟩ hy
      cases S.par n (List.of_mem_zip hy).1 with
      | inl q => exact Or.inl q
      | inr q => exact Or.inr ⟨q, PySem.W.cellsFrom_some _ _ _ (Or.inl q)⟩
    · intro env he s1 inCall
      cases he
      refine And.intro (noLim.keeps inCall.toInCall.keep) (codeAny_func ?_)
      obtain ⟨t, term, reading⟩ := walk cv A out s H vs Q E (room.deeper _) (guards_deeper gd) want
      have start : Inv (cxOf CX0 P w K mg base N qual (defScope st) f cv A out s H E) [] (L2.start N vs) H s1 := inv_start S room.hd env0 (many _ _ _ _ want) rel inCall
      apply wpAny_mono (term.nox.run [] s1 (L2.start N vs) H _ start reading)
      · intro fl s' told
        cases fl with
        | ret u =>
          obtain ⟨v, σ', H', J, rv, q⟩ := told
          exact ⟨v, H', J.os, J.bare, J.base, J.hok, rv, q⟩
        | next =>
          obtain ⟨σ', H', J, q⟩ := told
          exact ⟨V.non, H', J.os, J.bare, J.base, J.hok, rfl, q⟩
        | brk => exact (And.right (Exists.choose_spec (Exists.choose_spec told))).elim
        | cont => exact (And.right (Exists.choose_spec (Exists.choose_spec told))).elim
      · intro e s' told
        exact told
structure CG (P : Program) (w : World) (K : PySem.W.Frag) (mg : Str → Option Value) (base : Heap) (k : Nat) (x : Str) (ps : List Str) (sp : Sp) : Prop where
  ex : ∃ (f : Addr) (fd : FuncData), FnG P w K mg base k f fd ps sp ∧ mg x = some (.ref f) ∧ PySem.W.keepIn K (.ref f) = true ∧ Binds K fd ps []
theorem CF.g {P : Program} {w : World} {K : PySem.W.Frag} {mg : Str → Option Value} {base : Heap} {k : Nat} {x : Str} {ps : List Str} {sp : Sp} (C : CF P w K mg base k x ps sp) : CG P w K mg base k x ps sp := by
  obtain ⟨f, fd, F, r⟩ := C.ex
  exact ⟨f, fd, FnG.of F, r⟩
theorem pe_cg {X : Cx} {k : Nat} {x : Str} {ps : List Str} {sp : Sp} {e : Expr} {es : List Expr} {t : TA} {p pos : Pos} (C : CG X.prog X.w X.K X.mg X.base k x ps sp) (hr : Room k X.A) (gd : X.A.guards = some []) (hg : Gl X x) (ha : PA X (e :: es) t)
    (hdb : (x == ("__debug__" : Str)) = false := by decide) (he : starEach (e :: es) X.env = (false, eval e X.env) :: starEach es X.env := by rfl) (hpl : (backTo pos (starEach es X.env)).any (·.1) = false := by rfl) :
    PE X (.Call (.Name x p) (e :: es) [] pos) (tCall sp [] E0 t) := by
  obtain ⟨f, fd, F, g, kp, b⟩ := C.ex
  constructor
  intro pins s σ H Q I h
  apply wpAny_Call_Name_kw (ld_glob I hg g ?_ hdb)
  apply PySem.W.callWith_K (h₀ := X.base) I.ok.mod.kin kp (thn (ha.run pos pins s σ H _ I h) ?_) he hpl
  rintro us s1 ⟨vs, H1, I1, r, q⟩
  refine ⟨I1.kIn, wpAny_call (codeAny_mono (F.runs X.A X.stack s1 H1 ⟨us, []⟩ (us ++ []) (vs ++ []) Q E0 hr gd I1.env0 (b s1 us I1.kIn ?_) (r.append .nil) q) ?_)⟩
  · have hl := F.many _ _ _ _ q
    rw [(r.append .nil).length] at hl
    exact hl
  · intro res s' told
    cases res with
    | error e => exact told.elim
    | ok fl =>
      cases fl with
      | ret u => exact I1.after told
      | next => exact told.elim
      | brk => exact told.elim
      | cont => exact told.elim
/-! ### repr of data -/
def rRepr (K : PySem.W.Frag) : List V → Hp → VK → Prop := fun xs H Q => ∃ (x : V) (d : PyData), xs = [x] ∧ Dp K H x d ∧ d.showable = true ∧ d.shown.length ≤ sizeLine ∧ d.depth ≤ 60 ∧ d.hasDict = false ∧ Q (.str d.shown) H
theorem kk_repr (K : PySem.W.Frag) {X : Cx} (gd : X.A.guards = some []) (hu : X.A.units + 64 < cLine) (h : X.K = K := by rfl) : CallR X (.builtin "repr") (rRepr K) := by
  subst h
  intro pins s σ H xs us Q I r want
  obtain ⟨x, d, rfl, hd, hs, hz, hp, hn, q⟩ := want
  obtain ⟨u, rfl, ru⟩ := vals1 r
  cases hd with
  | non =>
    cases (show u = Value.none from ru)
    simp only [PyData.shown] at q
    exact PySem.P.repr_of_none ⟨.str _, H, I.tok _, ⟨_, rfl⟩, q⟩
  | bl b =>
    cases (show u = Value.bool b from ru)
    simp only [PyData.shown] at q
    exact PySem.P.repr_of_bool ⟨.str _, H, I.tok _, ⟨_, rfl⟩, q⟩
  | int i =>
    obtain ⟨t, e⟩ := (show ∃ t, u = Value.int i t from ru)
    cases e
    simp only [PyData.shown] at q
    exact PySem.P.repr_of_int (by simpa [PyData.showable] using hs) ⟨.str _, H, I.tok _, ⟨_, rfl⟩, q⟩
  | str y =>
    obtain ⟨t, e⟩ := (show ∃ t, u = Value.str y t from ru)
    cases e
    simp only [PyData.shown] at q hz
    exact PySem.P.repr_of_str ⟨.str _, H, I.tok _, ⟨_, rfl⟩, q⟩ hz
  | lst a b =>
    obtain ⟨as, rd⟩ := Dp.reads I _ _ u (.lst a b) ru
    cases ru
    exact repr_of_reads' rd hs (fun z => by rw [hn] at z; cases z) gd (by omega) (fun _ _ e => e) (fun h' t tk keep => ⟨.str _, H, I.kept keep, ⟨_, rfl⟩, q⟩) hz
  | tup a b =>
    obtain ⟨as, rd⟩ := Dp.reads I _ _ u (.tup a b) ru
    cases ru
    exact repr_of_reads' rd hs (fun z => by rw [hn] at z; cases z) gd (by omega) (fun _ _ e => e) (fun h' t tk keep => ⟨.str _, H, I.kept keep, ⟨_, rfl⟩, q⟩) hz
/-! ### the law's call, for such a def -/
theorem law_callG {P : Program} {w : World} {K : PySem.W.Frag} {mg mb : Str → Option Value} {k : Nat} {fa a : Addr} {fd : FuncData} {x : Str} {sp : Sp} {s₁ : Shared} {vs : List Value} {ns : List Int}
    (inK : K.In s₁.heap) (nsM : s₁.heap.Ns mainGlobals mg) (nsB : s₁.heap.Ns builtinsNs mb) (boot : ∀ y : Str, y ≠ "__name__" → mb y = bootBuiltins y) (lim : s₁.heap.NoLimit) (gens : s₁.gens = #[])
    (at_a : s₁.heap.get? a = some { cls := .type "list", data := .seq vs.toArray }) (areI : IntsAre vs ns) (fits : ns.length ≤ sizeLine) (room : Room k callerA)
    (F : ∀ base : Heap, K.In base → base.Ns mainGlobals mg → FnG P w K mg base k fa fd [x] sp) (bind : ∀ (s : Shared) (u : Value), BindsTo s fd ⟨[u], []⟩ [(x, u)])
    (want : ∀ H : Hp, Only H → SqL K H a (ns.map V.int) → sp [.ref a] H (fun v _ => v = .bl true) fun _ _ _ => False) :
    codeAny (model P w) callerA (.call (.ref fa) ⟨[.ref a], []⟩) (fun r s' => r = .ok (.ret (.bool true)) ∧ OldK s₁.heap s'.heap ∧ s'.os = s₁.os ∧ AllBare s'.gens) s₁ := by
  have many := areI.length
  have goes : ∀ H : Hp, Only H → SqL K H a (ns.map V.int) → HOk P w H s₁.heap → (∀ b, H b ≠ none → b = a) → (H a ≠ none → K.lookup a = none) →
      codeAny (model P w) callerA (.call (.ref fa) ⟨[.ref a], []⟩) (fun r s' => r = .ok (.ret (.bool true)) ∧ OldK s₁.heap s'.heap ∧ s'.os = s₁.os ∧ AllBare s'.gens) s₁ := by
    intro H only isL ok one notK
    have free : ∀ {b : Addr}, b ≠ a → H b = none := by
      intro b nb
      cases hb : H b with
      | none => rfl
      | some u => exact absurd (one b (by rw [hb]; simp)) nb
    have dictFree : ∀ {b : Addr} {o : Obj} {es : Array DictEntry} {ep : Nat}, s₁.heap.get? b = some o → o.data = .dict es ep → H b = none := by
      intro b o es ep e dd
      refine free (fun z => ?_)
      rw [z, at_a] at e
      cases e
      cases (show Data.seq vs.toArray _ = Data.dict es ep from dd)
    have nsH : ∀ {b : Addr} {m : Str → Option Value}, s₁.heap.Ns b m → (hidT s₁.heap H).Ns b m := by
      rintro b m ⟨o, es, ep, e, dd, rr⟩
      exact ⟨o, es, ep, hidT_get e (dictFree e dd), dd, rr⟩
    have inH : K.In (hidT s₁.heap H) := by
      intro b o e
      refine hidT_get (inK b o e) ?_
      cases hb : H b with
      | none => rfl
      | some u =>
        have ba := one b (by rw [hb]; simp)
        rw [ba] at hb e
        rw [notK (by rw [hb]; simp)] at e
        cases e
    have modH : Mod K mg (hidT s₁.heap H) := by
      obtain ⟨mc, l1, l2⟩ := lim
      exact ⟨inH, nsH nsM, ⟨mb, nsH nsB, boot⟩, ⟨mc, nsH l1, l2⟩⟩
    have env : Env0 P w K mg (hidT s₁.heap H) callerA [] s₁ H := by
      refine ⟨rfl, modH, fun b o e => of_hidT e, Nat.le_of_eq (hidT_size _ _), trivial, ?_, ok, .of_eq gens⟩
      intro b hb
      cases hb
    apply codeAny_mono ((F _ inH (nsH nsM)).runs callerA [] s₁ H ⟨[.ref a], []⟩ [.ref a] [.ref a] _ _ room rfl env (bind s₁ (.ref a)) (.cons rfl .nil) (want H only isL))
    intro res s' told
    cases res with
    | error e => exact told.elim
    | ok fl =>
      cases fl with
      | next => exact told.elim
      | brk => exact told.elim
      | cont => exact told.elim
      | ret u =>
        obtain ⟨v, H', os, bare, un, ok', rel, qv⟩ := told
        cases (show v = .bl true from qv)
        cases (show u = Value.bool true from rel)
        refine ⟨rfl, OldK.of_keep (fun b o e => ?_), os, bare⟩
        cases hb : H b with
        | none => exact un.keep b o e hb (fun z => by cases z) (fun z => by cases z)
        | some u2 =>
          rcases only b with z | ⟨ob, xs, z⟩
          · rw [hb] at z
            cases z
          · have e1 := And.left (ok b _ z)
            have e2 := And.left (ok' b _ (un.frzs b ob _ z))
            rw [e] at e1
            cases e1
            exact e2
  cases hk : K.lookup a with
  | some o =>
    have e := inK a o hk
    rw [at_a] at e
    cases e
    apply goes (fun _ => none)
    · exact fun _ => Or.inl rfl
    · exact Or.inr ⟨_, vs.toArray, _, hk, rfl, rfl, rfl, by rw [List.size_toArray, many]; exact fits, by simpa using vals_ints areI⟩
    · intro b u z
      cases (show (none : Option HO) = some u from z)
    · exact fun b z => absurd rfl z
    · exact fun z => absurd rfl z
  | none =>
    apply goes (fun b => if b = a then some (.frz { cls := .type "list", data := .seq vs.toArray } (.lst (ns.map V.int))) else none)
    · intro b
      by_cases hb : b = a
      · exact Or.inr ⟨_, _, if_pos hb⟩
      · exact Or.inl (if_neg hb)
    · exact Or.inl (Or.inr ⟨{ cls := .type "list", data := .seq vs.toArray }, if_pos rfl⟩)
    · intro b u z
      by_cases hb : b = a
      · have z' := (if_pos hb).symm.trans z
        cases z'
        rw [hb]
        exact ⟨at_a, by rw [List.length_map]; exact fits, vs, _, vals_ints areI, at_a⟩
      · cases (if_neg hb).symm.trans z
    · intro b z
      by_cases hb : b = a
      · exact hb
      · exact absurd (if_neg hb) z
    · exact fun _ => hk
theorem walk_ofG {l : PySem.W.OpenLaw} {n k : Nat} {q : Program} {loose : List Str} {XP : (Str → Option Value) → Heap → Prop} {YP : World → Heap → Prop} {d : DefRec} {K : Params → PySem.W.Frag} {sp : World → Sp} {x : Str}
    (hn : l.most = some n) (hn2 : n ≤ sizeLine) (hdf : d.params.defaults = []) (hr : Room k callerA) (hY : ∀ (w : World) (h : Heap), YP w h → (K w.params).In h)
    (F : ∀ (w : World) (mg : Str → Option Value) (fa : Addr) (h : Heap), (K w.params).In h → h.Ns mainGlobals mg → mg d.name = some (.ref fa) →
      ∃ fd : FuncData, (∀ (s : Shared) (u : Value), BindsTo s fd ⟨[u], []⟩ [(x, u)]) ∧ ∀ base : Heap, (K w.params).In base → base.Ns mainGlobals mg → FnG l.prog w (K w.params) mg base k fa fd [x] (sp w))
    (hsp : ∀ (w : World) (H : Hp) (a : Addr) (ns : List Int), ns.length ≤ n → Only H → SqL (K w.params) H a (ns.map V.int) → sp w [.ref a] H (fun v _ => v = .bl true) fun _ _ _ => False) :
    PySem.W.WalkO q loose XP YP l.row.toRowW d [] (fun f vs => PySem.call f vs) := by
  apply Att.attach_call hn hdf
  intro w s₀ s₁ mg mb fa o pm cd doc a vs ns G Y ho hd hcd hmg hobj hints hlen hg
  obtain ⟨fd, hb, hF⟩ := F w mg fa _ (hY w _ Y) G.T.g hmg
  exact law_callG (hY w _ Y) G.T.g G.T.b G.T.builtins G.T.nolimit hg hobj hints (Nat.le_trans hlen hn2) hr hF hb (fun H hO hS => hsp w H a ns hlen hO hS)
/-! ### texts and data -/
theorem op_mul_str {X : Cx} : OpR X (binaryOp .Mult) (fun x y H Q => ∃ (z : Str) (k : Int), x = .str z ∧ y = .int k ∧ MulOk z k ∧ Q (.str (Txt.mul z k)) H) := by
  intro pins s σ H x y v u Q I rx ry h
  obtain ⟨z, k, rfl, rfl, ok, q⟩ := h
  obtain ⟨t, rfl⟩ := rx
  obtain ⟨t', rfl⟩ := ry
  exact SB.mul ok fun t' tk => ⟨.str _, H, I.tok _, ⟨_, rfl⟩, q⟩
theorem len_app (x y : Str) : (x ++ y).length = x.length + y.length := by
  rw [TL.len_tl, TL.tl_append, List.length_append, ← TL.len_tl, ← TL.len_tl]
def tyD : PyData → String
  | .none => "NoneType"
  | .bool _ => "bool"
  | .int _ => "int"
  | .str _ => "str"
  | .list _ => "list"
  | .tuple _ => "tuple"
  | .dict _ => "dict"
theorem ty_of_dp {K : PySem.W.Frag} {H : Hp} {x : V} {d : PyData} (h : Dp K H x d) : TyX K H x (.type (tyD d)) := by
  cases h with
  | non => exact .base .non
  | bl b => exact .base (.bl b)
  | int i => exact .base (.int i)
  | str z => exact .base (.str z)
  | lst a _ =>
    rcases a with (a | ⟨o, a⟩) | ⟨o, its, n, a, c, _⟩
    · exact .base (.lst a)
    · exact .base (.frz a)
    · exact .kList a c
  | tup a _ =>
    rcases a with (a | ⟨o, a⟩) | ⟨o, its, n, a, c, _⟩
    · exact .base (.tup a)
    · exact .fTuple a
    · exact .kTuple a c
theorem seqT_same {K : PySem.W.Frag} {H H' : Hp} {a : Addr} {xs : List V} (e : Same H H') (h : SqT K H a xs) : SqT K H' a xs := by
  rcases h with (h | ⟨o, h⟩) | h
  · exact .inl (.inl (e _ _ h))
  · exact .inl (.inr ⟨o, e _ _ h⟩)
  · exact .inr h
mutual
theorem dp_same {K : PySem.W.Frag} {H H' : Hp} (e : Same H H') : ∀ {x : V} {d : PyData}, Dp K H x d → Dp K H' x d
  | _, _, .non => .non
  | _, _, .bl b => .bl b
  | _, _, .int i => .int i
  | _, _, .str z => .str z
  | _, _, .lst a b => .lst (e.seq a) (dpAll_same e b)
  | _, _, .tup a b => .tup (seqT_same e a) (dpAll_same e b)
theorem dpAll_same {K : PySem.W.Frag} {H H' : Hp} (e : Same H H') : ∀ {xs : List V} {ds : List PyData}, DpAll K H xs ds → DpAll K H' xs ds
  | _, _, .nil => .nil
  | _, _, .cons a b => .cons (dp_same e a) (dpAll_same e b)
end
/-- the heap without the place b -/
def wo (b : Addr) (H : Hp) : Hp := fun c => if c = b then none else H c
theorem wo_sub (b : Addr) (H : Hp) : Same (wo b H) H := fun c o h => by
  unfold wo at h
  split at h
  · cases h
  · exact h
theorem wo_but {b : Addr} {H H' : Hp} (t : But b H H') : Same (wo b H) (wo b H') := fun c o h => by
  unfold wo at h ⊢
  split at h
  · cases h
  · rename_i n
    rw [if_neg n]
    exact t c o n h
theorem wo_same {b : Addr} {H H' : Hp} (t : Same H H') : Same (wo b H) (wo b H') := wo_but (But.of t)
theorem wo_at {b c : Addr} {H : Hp} {o : HO} (n : c ≠ b) (h : H c = some o) : wo b H c = some o := by
  unfold wo
  rw [if_neg n]
  exact h
def Asc (s : Str) : Prop := ∀ c ∈ TL.tl s, c < 128
theorem Asc.app {x y : Str} (hx : Asc x) (hy : Asc y) : Asc (x ++ y) := fun c hc => by
  rw [TL.tl_append] at hc
  rcases List.mem_append.mp hc with h | h
  · exact hx c h
  · exact hy c h
theorem Asc.cut {x : Str} {lo hi : Option Int} (hx : Asc x) : Asc (cutS x lo hi) := fun c hc => hx c (List.mem_of_mem_drop (List.mem_of_mem_take hc))
theorem Asc.one {c : Nat} (h : c < 128) : Asc ⟨#[c]⟩ := fun d hd => by
  rw [List.mem_singleton.mp (show d ∈ [c] from hd)]
  exact h
/-! ### kinds of data -/
def isT (T t : String) : Bool := decide (t = T) || (decide (T = "int") && decide (t = "bool"))
abbrev isK (T : String) (d : PyData) : Bool := isT T (tyD d)
theorem kit_t : ∀ t ∈ ["NoneType", "bool", "int", "str", "list", "tuple", "dict"], ∀ T ∈ ["int", "bool", "str", "list", "tuple"], kitB t T = some (isT T t) := by decide +kernel
theorem ty_mem (d : PyData) : tyD d ∈ ["NoneType", "bool", "int", "str", "list", "tuple", "dict"] := by
  cases d <;> simp [tyD]
theorem kit_d {K : PySem.W.Frag} {T : String} (hT : T ∈ ["int", "bool", "str", "list", "tuple"]) (d : PyData) : PySem.W.kitOne K (.type (tyD d)) (.type T) = some (isK T d) := kit_ty (kit_t _ (ty_mem d) T hT)
theorem sh_int (i : Int) : SeqAt.shaped (.int i) = true := by
  show (PyData.canLay0 (.int i) && decide (PyData.depth (.int i) ≤ 64)) = true
  simp [PyData.canLay0, PyData.depth]
theorem tuple_mul1 (l : Addr) (items : Array Value) (n : Nat) (dd : Option Addr) (sl : Array (Option Value)) (u : Tok) (hne : items.isEmpty = false) :
    Meets (Builtin.«tuple.__mul__» ⟨[.ref l, .int 1 u], []⟩) (fun _ R s => s.heap.get? l = some { cls := .type "tuple", dict := dd, data := .seq items n, slots := sl } ∧ R (.ok (.ret (Value.ref l))) s) :=
  .of_wp fun prog w A R s h => by
    obtain ⟨hp, g, d, tk, os⟩ := s
    obtain ⟨hl, h⟩ := h
    have f1 := AutoSeq1.idx_int
    wp_walk using wpAny_loadPart' hl
    exact ⟨_, rfl, h⟩
theorem op_rep1 {X : Cx} : OpR X (binaryOp .Mult) (fun x y H Q => ∃ (l : Addr) (xs : List V), x = .ref l ∧ y = .int 1 ∧ SqT X.K H l xs ∧ xs ≠ [] ∧ Q (.ref l) H) := by
  intro pins s σ H x y v u Q I rx ry h
  obtain ⟨l, xs, rfl, rfl, hT, hne, q⟩ := h
  cases rx
  obtain ⟨t, rfl⟩ := ry
  obtain ⟨its, r, ⟨⟨cls, dd, data, sl⟩, ho, hc, n, hd⟩, hs⟩ := I.tuple hT
  simp only at hc hd
  subst hc hd
  have hi : its.toArray.isEmpty = false := by
    cases its with
    | nil => exact absurd (List.eq_nil_of_length_eq_zero (r.length.trans rfl)) hne
    | cons a b => rfl
  refine wpAny_binaryOp_repeat_ref (T := "tuple") (U := "int") (by decide) ⟨_, ho, rfl⟩ (fun s' => typeIs_int s' 1 t) noFill_tuple_mul F.fills_int_mul F.slot_int_rmul repeat_tuple F.slot_int_index.lookup
    (call_meets F.slot_int_rmul (typeIs_int s 1 t) F.entry_int_rmul (F.args_int_rmul_2 _ _) (int_rmul_tuple 1 t l its.toArray n dd sl)
      ⟨ho, rfl, ⟨_, ho, rfl⟩, call_meets F.slot_tuple_mul ⟨_, ho, rfl⟩ F.entry_tuple_mul (F.args_tuple_mul_2 _ _) (tuple_mul1 l its.toArray n dd sl t hi) ⟨ho, ?_⟩⟩)
  exact ⟨.ref l, H, I, rfl, q⟩
def rRepA (K : PySem.W.Frag) : R2 := fun x y H Q => rRepT K x y H Q ∨ ∃ (l : Addr) (xs : List V), x = .ref l ∧ y = .int 1 ∧ SqT K H l xs ∧ xs ≠ [] ∧ Q (.ref l) H
theorem kk_repA (K : PySem.W.Frag) {X : Cx} (h : X.K = K := by rfl) : OpR X (binaryOp .Mult) (rRepA K) := h ▸ OpR.or op_repT op_rep1
/-! ### classes: a method, the making of an instance, by their promises -/
structure CMt (P : Program) (w : World) (K : PySem.W.Frag) (mg : Str → Option Value) (base : Heap) (C : Addr) (k : Nat) (m : Str) (ps : List Str) (dvs : List V) (sp : Sp) : Prop where
  ex : ∃ (f : Addr) (fd : FuncData) (ds : List Value), FnOk P w K mg base CX0 k f fd ps sp ∧ Meth K C m f ∧ Vals dvs ds ∧ Binds K fd ps ds
structure CMk (P : Program) (w : World) (K : PySem.W.Frag) (mg : Str → Option Value) (base : Heap) (C : Addr) (k : Nat) (x : Str) (ps : List Str) (dvs : List V) (sp : Sp) : Prop where
  ex : ∃ (f : Addr) (fd : FuncData) (ds : List Value), FnOk P w K mg base CX0 k f fd ps sp ∧ Mk K C f ∧ mg x = some (.ref C) ∧ Vals dvs ds ∧ Binds K fd ps ds
section
variable {X : Cx} {k : Nat} {C : Addr} {x m : Str} {ps : List Str} {dvs : List V} {sp : Sp} {p pos apos : Pos} {e o : Expr} {es : List Expr} {ta : TE} {t : TA}
theorem pe_mt {pl : Sem Bool} (M : CMt X.prog X.w X.K X.mg X.base C k m ps dvs sp) (c : Cls X.K C) (hr : Room k X.A) (he : PE X o ta) (ha : PA X (e :: es) t)
    (hst : starEach (e :: es) X.env = (false, eval e X.env) :: starEach es X.env := by rfl) (hpl : (backTo pos (starEach es X.env)).any (·.1) = false := by rfl)
    (ht : eval (.Call (.Attribute o m apos) (e :: es) [] pos) X.env = (do
      let ov ← eval o X.env
      standAt apos.atName
      let (f, first) ← holding [ov] (getMethod ov m pl)
      callWith pos f first (backTo pos (starEach (e :: es) X.env)) (backToKw pos (keywordEach [] X.env))) := by rfl) :
    PE X (.Call (.Attribute o m apos) (e :: es) [] pos) (tMeth C m sp dvs E0 ta t) := by
  obtain ⟨f, fd, ds, F, me, vd, b⟩ := M.ex
  exact pe_meth (pl := pl) he c me F hr b vd pass0 ha hst hpl ht
theorem pe_mt0 {pl : Sem Bool} (M : CMt X.prog X.w X.K X.mg X.base C k m ps dvs sp) (c : Cls X.K C) (hr : Room k X.A) (he : PE X o ta)
    (ht : eval (.Call (.Attribute o m apos) [] [] pos) X.env = (do
      let ov ← eval o X.env
      standAt apos.atName
      let (f, first) ← holding [ov] (getMethod ov m pl)
      callWith pos f first (backTo pos (starEach [] X.env)) (backToKw pos (keywordEach [] X.env))) := by rfl) :
    PE X (.Call (.Attribute o m apos) [] [] pos) (tMeth C m sp dvs E0 ta tNil) := by
  obtain ⟨f, fd, ds, F, me, vd, b⟩ := M.ex
  exact pe_meth0 (pl := pl) he c me F hr b vd pass0 ht
theorem pe_mkc (M : CMk X.prog X.w X.K X.mg X.base C k x ps dvs sp) (hr : Room (k + 1) X.A) (hg : Gl X x) (ha : PA X (e :: es) t)
    (hdb : (x == ("__debug__" : Str)) = false := by decide) (he : starEach (e :: es) X.env = (false, eval e X.env) :: starEach es X.env := by rfl) (hpl : (backTo pos (starEach es X.env)).any (·.1) = false := by rfl) :
    PE X (.Call (.Name x p) (e :: es) [] pos) (tMake C sp dvs E0 t) := by
  obtain ⟨f, fd, ds, F, mk, g, vd, b⟩ := M.ex
  exact pe_make mk F hr hg g b vd pass0 ha hdb he hpl
end
/-! ### o.m(e, .., k = v) -/
structure CMtK (P : Program) (w : World) (K : PySem.W.Frag) (mg : Str → Option Value) (base : Heap) (C : Addr) (k : Nat) (m : Str) (ps : List Str) (n : Nat) (ks : List Str) (gV : List V → List V → List V) (sp : Sp) : Prop where
  ex : ∃ (f : Addr) (fd : FuncData) (g : List Value → List Value → List Value), FnOk P w K mg base CX0 k f fd ps sp ∧ Meth K C m f ∧ KBn K fd ps n ks g gV
def tMethK (C : Addr) (m : Str) (n j : Nat) (sp : Sp) (gV : List V → List V → List V) (ta : TE) (t tk : TA) : TE := fun σ H Q => ta σ H fun x H1 => ∃ (a dx : Addr) (fs : List (Str × V)), x = .ref a ∧ H1 a = some (.ins C dx fs) ∧ fs.lookup m = none ∧
  t σ H1 fun vs H2 => tk σ H2 fun zs H3 => (x :: vs).length = n ∧ zs.length = j ∧ sp (gV (x :: vs) zs) H3 Q E0
theorem pe_mtK {X : Cx} {k n : Nat} {C : Addr} {m : Str} {ps ks : List Str} {sp : Sp} {gV : List V → List V → List V} {pos apos : Pos} {e o : Expr} {es : List Expr} {kws : List Keyword} {ta : TE} {t tk : TA} {pl : Sem Bool}
    (M : CMtK X.prog X.w X.K X.mg X.base C k m ps n ks gV sp) (c : Cls X.K C) (hr : Room k X.A) (he : PE X o ta) (ha : PA X (e :: es) t) (hkw : PK X kws tk)
    (hall : (backToKw pos (keywordEach kws X.env)).all (·.1.isSome) = true := by rfl) (hks : (backToKw pos (keywordEach kws X.env)).filterMap (·.1) = ks := by rfl)
    (hst : starEach (e :: es) X.env = (false, eval e X.env) :: starEach es X.env := by rfl)
    (hpl : ((backTo pos (starEach (e :: es) X.env)).any (·.1) || (backToKw pos (keywordEach kws X.env)).any (·.1.isNone)) = false := by rfl)
    (ht : eval (.Call (.Attribute o m apos) (e :: es) kws pos) X.env = (do
      let ov ← eval o X.env
      standAt apos.atName
      let (f, first) ← holding [ov] (getMethod ov m pl)
      callWith pos f first (backTo pos (starEach (e :: es) X.env)) (backToKw pos (keywordEach kws X.env))) := by rfl) :
    PE X (.Call (.Attribute o m apos) (e :: es) kws pos) (tMethK C m n ks.length sp gV ta t tk) := by
  obtain ⟨f, fd, g, F, me, b⟩ := M.ex
  constructor
  intro pins s σ H Q I h
  refine PySem.W.methodCall_KW (pl := pl) (thn (he.run pins s σ H _ I h) ?_) ht
  rintro u s1 ⟨x, H1, I1, rx, a, dx, fs, rfl, ea, l, q⟩
  cases (show u = Value.ref a from rx)
  refine getmeth_ok I1 ea c me l ?_
  refine PySem.W.callWith_KW (first := [.ref a]) (h₀ := X.base) I.ok.mod.kin me.kp hall (thn (ha.run pos pins s1 σ H1 _ I1 q) ?_) hpl hst
  rintro us s2 ⟨vs, H2, I2, r, q2⟩
  refine thn (hkw.run pos pins s2 σ H2 _ I2 q2) ?_
  rintro ws s3 ⟨zs, H3, I3, rz, l1, l2, q3⟩
  refine ⟨I3.kIn, ?_⟩
  rw [hks]
  exact run_fnN (us := .ref a :: us) (vs := .ref a :: vs) F hr b pass0 I3 (.cons rfl r) rz l1 l2 q3
theorem okD {P : Program} {w : World} {K : PySem.W.Frag} {mg : Str → Option Value} {base : Heap} {x qual : Str} {params : Arguments} {body : List Stmt} {scope : Scope} {dvs : List V} {kws : List (Str × V)} {f : Addr} {fd : FuncData} {N ps : List Str} {k : Nat} {sp : Sp}
    (F : FunD K x qual params body scope dvs kws f fd) (S : FnScope N ps scope) (len : ∀ vs H Q E, sp vs H Q E → vs.length = ps.length)
    (walk : ∀ (cdv : Value) (A : Around) (outer : List Env) (s : Shared) (H : Hp) (vs : List V) (Q : VK) (E : XK), Room k (A.deeper (envOfC qual scope s.heap.objs.size f cdv)) → sp vs H Q E →
      ∃ t, PSs (cxOf CX0 P w K mg base N qual scope f cdv A outer s H E).nox body t ∧ t { nx := fun _ H' => Q .non H', rt := Q } (start N vs) H) : FnOk P w K mg base CX0 (k + 1) f fd ps sp := by
  refine F.ok S len (fun cdv A outer s H vs Q E hr h => ?_)
  obtain ⟨t, ht, q⟩ := walk cdv A outer s H vs Q E hr h
  exact ⟨t, ht.nox, q⟩
/-! ### numbers in bounds, what is kept -/
def numIn : PyData → Int → Int → Bool
  | .int i, lo, hi => decide (lo ≤ i) && decide (i ≤ hi)
  | _, _, _ => false
def keptOk : PyData → PyData → Bool
  | .tuple ds, e => PyData.eqv (.int (ds.length : Int)) e && ds.all fun d => numIn d 0 100
  | d, _ => numIn d 0 100
def firstWrong (ws : List (Str × Bool)) : V := match ws.find? (fun p => !p.2) with
  | some p => .str p.1
  | none => .non
theorem firstWrong_at {ws : List (Str × Bool)} {i : Nat} {w : Str} (h : ∀ p ∈ ws.take i, p.2 = true) (hi : ws[i]? = some (w, false)) : firstWrong ws = .str w := by
  have hs : ws = ws.take i ++ (w, false) :: ws.drop (i + 1) := by
    obtain ⟨hl, he⟩ := List.getElem?_eq_some_iff.mp hi
    rw [← he, List.getElem_cons_drop, List.take_append_drop]
  unfold firstWrong
  rw [hs, List.find?_append, List.find?_eq_none.mpr (fun p hp => by rw [h p hp]; decide)]
  rfl
theorem firstWrong_none {ws : List (Str × Bool)} (h : ∀ p ∈ ws, p.2 = true) : firstWrong ws = .non := by
  unfold firstWrong
  rw [List.find?_eq_none.mpr (fun p hp => by rw [h p hp]; decide)]
theorem dpAll_len {K : PySem.W.Frag} {H : Hp} : ∀ {xs : List V} {ds : List PyData}, DpAll K H xs ds → xs.length = ds.length
  | _, _, .nil => rfl
  | _, _, .cons _ b => by rw [List.length_cons, List.length_cons, dpAll_len b]
theorem dpAll_get {K : PySem.W.Frag} {H : Hp} : ∀ {xs : List V} {ds : List PyData} {i : Nat} {x : V}, DpAll K H xs ds → xs[i]? = some x → ∃ d, ds[i]? = some d ∧ Dp K H x d
  | _, _, 0, _, .cons a _, h => ⟨_, rfl, by cases (Option.some.inj h); exact a⟩
  | _, _, i + 1, _, .cons _ b, h => dpAll_get (i := i) b h
  | _, _, _, _, .nil, h => by simp at h
/-! ### a block over an iterator of a known length; zip of two lists, of two tuples -/
theorem lc_gen {J : It} {n : Nat} {g : TG} {tt : TT} {te : TE} {vs : List Nat} {σ : L2.St} {H1 : Hp} {D : Addr} {Qd : Hp → Prop} (Pv : Nat → Hp → Prop) (first : Pv 0 (upd H1 D (.lst [])))
    (can : ∀ i H, Pv i H → (i < n → J.go i H) ∧ (i = n → J.stop i H))
    (turn : ∀ i H v H', i < n → Pv i H → J.yld i H v H' → g v (wipe σ vs) H' fun σ2 H2 => wipe σ2 vs = wipe σ vs ∧ tt σ2 H2 fun b H3 => if b = true then te σ2 H3 fun y H4 => ∃ acc, H4 D = some (.lst acc) ∧ acc.length < sizeLine ∧ Pv (i + 1) (upd H4 D (.lst (acc ++ [y]))) else Pv (i + 1) H3)
    (last : ∀ H, Pv n H → Qd H) :
    ∃ W : Nat → Nat → Hp → Prop, (∃ m, W 0 m (upd H1 D (.lst []))) ∧ ∀ i m H, W i m H → (J.stop i H ∧ Qd H) ∨ (J.go i H ∧ ∃ Nx : Hp → Prop, (∀ H', Nx H' → ∃ m', m' < m ∧ W (i + 1) m' H') ∧ ∀ x H', J.yld i H x H' → g x (wipe σ vs) H' fun σ2 H2 => wipe σ2 vs = wipe σ vs ∧ tt σ2 H2 fun b H3 => if b = true then te σ2 H3 fun y H4 => ∃ acc, H4 D = some (.lst acc) ∧ acc.length < sizeLine ∧ Nx (upd H4 D (.lst (acc ++ [y]))) else Nx H3) := by
  refine ⟨fun i m H => m + i = n ∧ Pv i H, ⟨n, by omega, first⟩, ?_⟩
  intro i m H hw
  obtain ⟨e, p⟩ := hw
  by_cases c : i < n
  · exact .inr ⟨(can i H p).1 c, Pv (i + 1), fun H' p' => ⟨n - (i + 1), by omega, by omega, p'⟩, fun v H' y => turn i H v H' c p y⟩
  · have z : i = n := by omega
    exact .inl ⟨(can i H p).2 z, last H (z ▸ p)⟩
section
variable {K : PySem.W.Frag} {a b : Addr} {xs ys : List V}
theorem canL {H : Hp} {i : Nat} (l : xs.length = ys.length) (x : SqL K H a xs) (y : SqL K H b ys) : (i < xs.length → (Itz K a b).go i H) ∧ (i = xs.length → (Itz K a b).stop i H) :=
  ⟨fun c => ⟨xs, ys, _, _, x, y, List.getElem?_eq_getElem c, List.getElem?_eq_getElem (l ▸ c)⟩, fun c => ⟨xs, ys, x, y, .inl (by omega)⟩⟩
theorem canT {H : Hp} {i : Nat} (l : xs.length = ys.length) (x : SqT K H a xs) (y : SqT K H b ys) : (i < xs.length → (RZ.ItzT K a b).go i H) ∧ (i = xs.length → (RZ.ItzT K a b).stop i H) :=
  ⟨fun c => ⟨xs, ys, _, _, x, y, List.getElem?_eq_getElem c, List.getElem?_eq_getElem (l ▸ c)⟩, fun c => ⟨xs, ys, x, y, .inl (by omega)⟩⟩
end
/-! ### data of short lists -/
mutual
def thin : PyData → Bool
  | .list xs => decide (xs.length ≤ 1000) && thinAll xs
  | .tuple xs => decide (xs.length ≤ 1000) && thinAll xs
  | _ => true
def thinAll : List PyData → Bool
  | [] => true
  | x :: r => thin x && thinAll r
end
theorem thin_at {d : PyData} : ∀ {ds : List PyData} {i : Nat}, thinAll ds = true → ds[i]? = some d → thin d = true
  | e :: r, 0, h, he => by
    cases he
    simp only [thinAll, Bool.and_eq_true] at h
    exact h.1
  | e :: r, i + 1, h, he => by
    simp only [thinAll, Bool.and_eq_true] at h
    exact thin_at (i := i) h.2 he
theorem depth_at {d : PyData} : ∀ {ds : List PyData} {i : Nat}, ds[i]? = some d → PyData.depth d ≤ PyData.depthAll ds
  | e :: r, 0, he => by
    cases he
    simp only [PyData.depthAll]
    omega
  | e :: r, i + 1, he => by
    have := depth_at (i := i) (ds := r) he
    simp only [PyData.depthAll]
    omega
theorem kitLT {K : PySem.W.Frag} (d : PyData) : PySem.W.kitAny K (.type (tyD d)) [.type "list", .type "tuple"] = some (isK "list" d || isK "tuple" d) := by
  unfold PySem.W.kitAny
  rw [kit_d (by decide)]
  cases isK "list" d with
  | true => rfl
  | false =>
    unfold PySem.W.kitAny
    rw [kit_d (by decide)]
    cases isK "tuple" d <;> rfl
theorem qY {c : Prop} [Decidable c] {Q : VK} {H : Hp} (hc : c) (q : Q (.bl true) H) : Q (.bl (decide c)) H := by
  rw [decide_eq_true hc]
  exact q
theorem rep_snoc (i : Nat) : (List.replicate i true).map V.bl ++ [V.bl true] = (List.replicate (i + 1) true).map V.bl := by
  rw [List.map_replicate, List.map_replicate, List.replicate_succ']
/-! ### len of an instance by its class's own def; a walk over a list or a tuple -/
theorem call_lenO {X : Cx} {C : Addr} {k : Nat} {sp : Sp} (M : CMt X.prog X.w X.K X.mg X.base C k "__len__" ["self"] [] sp) (hr : Room (k + 1) X.A) :
    CallR X (.builtin "len") (fun xs H Q => ∃ (r dx : Addr) (fs : List (Str × V)), xs = [.ref r] ∧ H r = some (.ins C dx fs) ∧ sp [.ref r] H (fun v H' => ∃ n : Int, v = .int n ∧ 0 ≤ n ∧ n < 1000000 ∧ Q (.int n) H') E0) := by
  intro pins s σ H xs us Q I rv h
  obtain ⟨r, dx, fs, rfl, ea, h⟩ := h
  obtain ⟨f, fd, ds, F, me, vd, hb⟩ := M.ex
  cases vd
  cases rv with
  | cons e rr =>
    cases rr
    cases e
    obtain ⟨mA, O, _⟩ := ins_get I.hok ea
    obtain ⟨od, J, _⟩ := O.look
    refine Calls.call_function_entry kind_len plain_len entry_len (args_len1 _) ?_
    unfold Builtin.«len»
    refine wpAny_bind (wpAny_pure ?_)
    refine wpAny_bind (PySem.W.special_fn (args := []) I.kIn J me.at_ (beq_iff_eq.mp me.fn) ?_)
    have hl : ([Value.ref r] ++ ([] : List Value)).length = (["self"] : List Str).length := rfl
    refine wpAny_call (codeAny_mono (F.run X.A.in1 X.stack s H ⟨[.ref r], []⟩ [.ref r] [.ref r] _ _ hr.in1 I.env0.in1 (hb s [.ref r] I.kIn hl) (.cons rfl .nil) h) fun x s' hq => ?_)
    cases x with
    | error e => exact pass0 pins σ H s e s' I hq
    | ok fl =>
      cases fl with
      | ret u =>
        obtain ⟨v, H', I', rv, n, rfl, n0, n1, q⟩ := I.after hq
        obtain ⟨t, rfl⟩ := rv
        refine wpAny_bind (wpAny_holding (wpAny_pure ?_))
        refine wpAny_bind (wpAny_letGo ?_)
        show wpAny _ _ (if n < 0 then _ else _) _ _ _
        rw [if_neg (by omega)]
        show wpAny _ _ (if n ≥ 2 ^ 63 then _ else _) _ _ _
        rw [if_neg (by omega)]
        exact wpAny_bind (wpAny_mkInt (wpAny_pure ⟨_, rfl, .int n, H', I'.tok _, ⟨_, rfl⟩, q⟩))
      | next => exact False.elim hq
      | brk => exact False.elim hq
      | cont => exact False.elim hq
theorem pi_or {X : Cx} {tg e : Expr} {w1 w2 : TI} (h : PI X tg e w1) (h' : PI X tg e w2) : PI X tg e (fun σ H R => w1 σ H R ∨ w2 σ H R) :=
  ⟨fun pins s σ H R I q => q.elim (h.run pins s σ H R I) (h'.run pins s σ H R I)⟩
/-! ### min of a list of numbers, None of none -/
theorem ints_hold {h : Heap} : ∀ {ns : List Int} {us : List Value}, Vals (ns.map V.int) us → PySem.W.HoldAll h us ns
  | [], _, .nil => PySem.W.HoldAll.nil
  | n :: r, _, .cons ⟨t, e⟩ rr => by
    rw [e]
    exact PySem.W.HoldAll.cons (PySem.W.holds_int n t) (ints_hold rr)
theorem minOf_mem (x : Int) : ∀ ys : List Int, PySem.W.minOf x ys ∈ x :: ys ∧ ∀ n ∈ x :: ys, PySem.W.minOf x ys ≤ n := fun ys => by
  induction ys generalizing x with
  | nil => exact ⟨List.mem_cons_self, fun n hn => by rw [List.mem_singleton.mp hn]; exact Int.le_refl _⟩
  | cons y r ih =>
    have e : PySem.W.minOf x (y :: r) = PySem.W.minOf (if PySem.W.DatumOrd.lt y x = true then y else x) r := rfl
    have hlt : PySem.W.DatumOrd.lt y x = decide (y < x) := rfl
    rw [e, hlt]
    by_cases c : y < x
    · rw [decide_eq_true c, if_pos rfl]
      obtain ⟨h1, h2⟩ := ih y
      refine ⟨List.mem_cons_of_mem _ h1, fun n hn => ?_⟩
      rcases List.mem_cons.mp hn with rfl | hn
      · have := h2 y List.mem_cons_self
        omega
      · exact h2 n hn
    · rw [decide_eq_false c, if_neg (by decide)]
      obtain ⟨h1, h2⟩ := ih x
      refine ⟨?_, fun n hn => ?_⟩
      · rcases List.mem_cons.mp h1 with h | h
        · rw [h]
          exact List.mem_cons_self
        · exact List.mem_cons_of_mem _ (List.mem_cons_of_mem _ h)
      · rcases List.mem_cons.mp hn with rfl | hn
        · exact h2 n List.mem_cons_self
        · rcases List.mem_cons.mp hn with rfl | hn
          · have := h2 x List.mem_cons_self
            omega
          · exact h2 n (List.mem_cons_of_mem _ hn)
def rMinD (K : PySem.W.Frag) : List V → List V → Hp → VK → Prop := fun xs zs H Q => ∃ (a : Addr) (ns : List Int), xs = [.ref a] ∧ zs = [.non] ∧ SqL K H a (ns.map V.int) ∧ (ns = [] → Q .non H) ∧ ∀ m, m ∈ ns → (∀ n ∈ ns, m ≤ n) → Q (.int m) H
theorem call_minD (K : PySem.W.Frag) {X : Cx} (hc : X.calm = true) (hu : X.A.units + 64 < cLine) (h : X.K = K := by rfl) : CallRK X (.builtin "min") ["default"] (rMinD K) := by
  subst h
  intro pins s σ H xs zs us ws Q I rx rz h
  obtain ⟨a, ns, rfl, rfl, hs, q0, q1⟩ := h
  obtain ⟨its, rv, hl, _⟩ := I.list hs
  rw [Vals.ref1 rx]
  cases rz with
  | cons e rr =>
    cases rr
    cases (show _ = Value.none from e)
    refine PySem.W.min_list_datum_default (I.ok.hd hc) hl.isList (ints_hold rv) (by show X.A.units + 1 + 0 < cLine; omega) (fun e h' tk hk => ⟨.non, H, I.kept hk, rfl, q0 e⟩) (fun y ys i v h' tk e hi hv hk => ?_)
    subst e
    obtain ⟨h1, h2⟩ := minOf_mem y ys
    obtain ⟨bs, r⟩ := hv
    have q2 := q1 _ h1 h2
    have e3 : PySem.W.Datum.toD (PySem.W.minOf y ys) = PyData.int (PySem.W.minOf y ys) := rfl
    rw [e3] at r
    generalize PySem.W.minOf y ys = m at r q2
    cases r
    exact ⟨.int m, H, I.kept hk, ⟨_, rfl⟩, q2⟩
def topS (i : Nat) : Stmt := PySem.Challenge.pw_partwares_k30_least_in_stretches_of_days.main.body.getD i (.Pass ⟨0, 0, 0, 0⟩)
section
variable {P : Program} {w : World} {K : PySem.W.Frag} {mg : Str → Option Value} {base : Heap}
/-! ### _law_mix -/
abbrev s__law_mix : Stmt := topS 4
abbrev N__law_mix : List Str := ["_law_cell", "_law_k", "_law_m"]
theorem sc__law_mix : FnScope N__law_mix ["_law_cell", "_law_k"] (defScope s__law_mix) := ⟨rfl, rfl, rfl, by decide +kernel, rfl, by decide +kernel, by decide +kernel⟩
def sp__law_mix (K : PySem.W.Frag) : Sp := fun vs H Q _ => ∃ (x k : Int), vs = [.int x, .int k] ∧ 0 ≤ k ∧ k < 10000000000 ∧ ∀ r : Int, 0 ≤ r → r < 1999999973 → Q (.int r) H
theorem ok__law_mix {f : Addr} {fd : FuncData} (F : Fun K "_law_mix" "_law_mix" s__law_mix f fd) (g : mg "_law_mix" = some (.ref f)) (bd : Binds K fd ["_law_cell", "_law_k"] []) : CF P w K mg base 1 "_law_mix" ["_law_cell", "_law_k"] (sp__law_mix K) := by
  refine ⟨f, fd, F.ok sc__law_mix (fun vs H Q E h => ?_) (fun cdv A outer s H vs Q E hr h => ?_), g, F.kp, bd⟩
  · first | (obtain ⟨_, rfl, _⟩ := h; rfl) | (obtain ⟨_, _, rfl, _⟩ := h; rfl) | (obtain ⟨_, _, _, rfl, _⟩ := h; rfl) | (obtain ⟨_, _, _, _, rfl, _⟩ := h; rfl) | (obtain ⟨_, _, _, _, _, rfl, _⟩ := h; rfl) | (obtain ⟨_, _, _, _, _, _, rfl, _⟩ := h; rfl) | (obtain ⟨_, _, _, _, _, _, _, rfl, _⟩ := h; rfl)
  · have hu64 := hr.units
    obtain ⟨x, k, rfl, k0, k1, q⟩ := h
    refine ⟨_, (pss_cons (ps_set (i := 2) sc__law_mix.nd rfl (.inl rfl) (pe_op op_mod (pe_op op_mul (pe_op op_add (pe_op op_add (pe_op op_mod (pv 0) pe_int) (pe_op op_mul (pe_op op_mul (pv 1) (pv 1)) pe_int)) pe_int) pe_int) pe_int))
      (pss_one (ps_ret (pe_op op_mod (pe_op op_mul (pv 2) (pv 2)) pe_int)))), ?_⟩
    refine ⟨_, rfl, _, _, rfl, rfl, (by show (0 : Int) < 2147483629; decide), _, rfl, _, rfl, _, _, rfl, rfl, .inl ⟨by omega, by omega⟩, _, _, rfl, rfl, .inr ⟨by decide, by decide⟩, _, _, rfl, rfl, _, _, rfl, rfl, _, _, rfl, rfl, .inr ⟨by decide, by decide⟩, _, _, rfl, rfl, (by show (0 : Int) < 2147483647; decide), ?_⟩
    have o0 := Int.emod_nonneg ((x % 2147483629 + k * k * 7919 + 11) * 48271) (show (2147483647 : Int) ≠ 0 by decide)
    have o1 := Int.emod_lt_of_pos ((x % 2147483629 + k * k * 7919 + 11) * 48271) (show (0 : Int) < 2147483647 by decide)
    exact ⟨_, rfl, _, rfl, _, _, rfl, rfl, .inl ⟨by omega, by omega⟩, _, _, rfl, rfl, (by show (0 : Int) < 1999999973; decide), q _ (Int.emod_nonneg _ (by decide)) (Int.emod_lt_of_pos _ (by decide))⟩
/-! ### what is drawn from: three numbers -/
def Three (H : Hp) (b : Addr) (n : Int) : Prop := ∃ x c z : Int, H b = some (.lst [.int x, .int c, .int z]) ∧ 0 ≤ x ∧ 0 ≤ z ∧ z ≤ n
section
variable {K : PySem.W.Frag} {H H' : Hp} {b p : Addr} {n m : Int} {o : HO}
theorem Three.mono (h : Three H b n) (l : n ≤ m) : Three H b m := by
  obtain ⟨x, c, z, h0, h1, h2, h3⟩ := h
  exact ⟨x, c, z, h0, h1, h2, by omega⟩
theorem Three.same (h : Three H b n) (e : Same H H') : Three H' b n := by
  obtain ⟨x, c, z, h0, h1⟩ := h
  exact ⟨x, c, z, e _ _ h0, h1⟩
theorem Three.new (h : Three H b n) (e : H p = none) : Three (upd H p o) b n := h.same (same_new e)
theorem Three.ne (h : Three H b n) (e : H p = none) : p ≠ b := fun z => by
  obtain ⟨_, _, _, h0, _⟩ := h
  rw [z, h0] at e
  cases e
theorem Three.upd (h : Three H b n) (e : p ≠ b) : Three (upd H p o) b n := by
  obtain ⟨x, c, z, h0, h1⟩ := h
  exact ⟨x, c, z, by rw [upd_ne e.symm]; exact h0, h1⟩
theorem none_of {H H' : Hp} {p : Addr} (s : Same H H') (h : H' p = none) : H p = none := by
  cases e : H p with
  | none => rfl
  | some o =>
    rw [s _ _ e] at h
    cases h
theorem updNew {b D : Addr} {H G : Hp} {o : HO} (t : But b H G) (hD : H D = none) : But b H (L2.upd G D o) := fun c u n h => by
  rw [upd_ne (ne_of_none h hD)]
  exact t c u n h
/-- prices in the heap -/
def Prs (H : Hp) (as : List Addr) (ps : List (Int × Int)) : Prop := as.length = ps.length ∧ ∀ (i : Nat) (a : Addr) (p : Int × Int), as[i]? = some a → ps[i]? = some p → H a = some (.tup [.int p.1, .int p.2])
theorem Prs.same {as : List Addr} {ps : List (Int × Int)} (h : Prs H as ps) (e : Same H H') : Prs H' as ps := ⟨h.1, fun i a p h1 h2 => e _ _ (h.2 i a p h1 h2)⟩
theorem Prs.but {as : List Addr} {ps : List (Int × Int)} (h : Prs H as ps) (t : But b H H') (hb : Three H b n) : Prs H' as ps := by
  refine ⟨h.1, fun i a p h1 h2 => ?_⟩
  obtain ⟨_, _, _, h0, _⟩ := hb
  have := h.2 i a p h1 h2
  exact t _ _ (ne_of this h0 (by intro z; cases z)) this
theorem Prs.updL {as : List Addr} {ps : List (Int × Int)} {D : Addr} {xs : List V} (h : Prs H as ps) (hD : H D = some (.lst xs)) : Prs (L2.upd H D o) as ps := by
  refine ⟨h.1, fun i a p h1 h2 => ?_⟩
  have := h.2 i a p h1 h2
  rw [upd_ne (ne_of this hD (by intro z; cases z))]
  exact this
theorem Prs.snoc {as : List Addr} {ps : List (Int × Int)} {a : Addr} {q : Int × Int} (h : Prs H as ps) (ha : H a = some (.tup [.int q.1, .int q.2])) : Prs H (as ++ [a]) (ps ++ [q]) := by
  refine ⟨by rw [List.length_append, List.length_append, h.1]; rfl, fun i a' p h1 h2 => ?_⟩
  by_cases c : i < as.length
  · rw [List.getElem?_append_left c] at h1
    rw [List.getElem?_append_left (h.1 ▸ c)] at h2
    exact h.2 i a' p h1 h2
  · have hi : i < (as ++ [a]).length := (List.getElem?_eq_some_iff.mp h1).1
    rw [List.length_append] at hi
    have e : i = as.length := by
      have : [a].length = 1 := rfl
      omega
    rw [e, List.getElem?_append_right (Nat.le_refl _)] at h1
    rw [e, h.1, List.getElem?_append_right (Nat.le_refl _)] at h2
    simp at h1 h2
    subst h1 h2
    exact ha
end
theorem pick2i {r x y lo hi : Int} (h0 : 0 ≤ r) (h1 : r < 2) (hx : lo ≤ x ∧ x ≤ hi) (hy : lo ≤ y ∧ y ≤ hi) : ∃ v : Int, atI [V.int x, .int y] r = some (.int v) ∧ lo ≤ v ∧ v ≤ hi := by
  have h : r = 0 ∨ r = 1 := by omega
  rcases h with rfl | rfl
  · exact ⟨x, rfl, hx⟩
  · exact ⟨y, rfl, hy⟩
theorem pick3j {r x y z lo hi : Int} (h0 : 0 ≤ r) (h1 : r < 3) (hx : lo ≤ x ∧ x ≤ hi) (hy : lo ≤ y ∧ y ≤ hi) (hz : lo ≤ z ∧ z ≤ hi) : ∃ v : Int, atI [V.int x, .int y, .int z] r = some (.int v) ∧ lo ≤ v ∧ v ≤ hi := by
  have h : r = 0 ∨ r = 1 ∨ r = 2 := by omega
  rcases h with rfl | rfl | rfl
  · exact ⟨x, rfl, hx⟩
  · exact ⟨y, rfl, hy⟩
  · exact ⟨z, rfl, hz⟩
/-! ### _law_left -/
abbrev s__law_left : Stmt := topS 5
abbrev N__law_left : List Str := ["_law_script", "_law_k", "_law_cell"]
theorem sc__law_left : FnScope N__law_left ["_law_script", "_law_k"] (defScope s__law_left) := ⟨rfl, rfl, rfl, by decide +kernel, rfl, by decide +kernel, by decide +kernel⟩
def sp__law_left (K : PySem.W.Frag) : Sp := fun vs H Q _ => ∃ (a : Addr) (k : Int) (ns : List Int), vs = [.ref a, .int k] ∧ SqL K H a (ns.map V.int) ∧ 0 ≤ k ∧ k ≤ 63 ∧ ∀ H' b, H b = none → Same H H' → Three H' b 0 → Q (.ref b) H'
theorem ok__law_left {f : Addr} {fd : FuncData} (F : Fun K "_law_left" "_law_left" s__law_left f fd) (g : mg "_law_left" = some (.ref f)) (bd : Binds K fd ["_law_script", "_law_k"] []) (m_len : mg "len" = none) (m_abs : mg "abs" = none) (m_int : mg "int" = none) : CF P w K mg base 1 "_law_left" ["_law_script", "_law_k"] (sp__law_left K) := by
  refine ⟨f, fd, F.ok sc__law_left (fun vs H Q E h => ?_) (fun cdv A outer s H vs Q E hr h => ?_), g, F.kp, bd⟩
  · first | (obtain ⟨_, rfl, _⟩ := h; rfl) | (obtain ⟨_, _, rfl, _⟩ := h; rfl) | (obtain ⟨_, _, _, rfl, _⟩ := h; rfl) | (obtain ⟨_, _, _, _, rfl, _⟩ := h; rfl) | (obtain ⟨_, _, _, _, _, rfl, _⟩ := h; rfl) | (obtain ⟨_, _, _, _, _, _, rfl, _⟩ := h; rfl) | (obtain ⟨_, _, _, _, _, _, _, rfl, _⟩ := h; rfl)
  · have hu64 := hr.units
    obtain ⟨a, k, ns, rfl, hS, hk0, hk, q⟩ := h
    refine ⟨_, (pss_cons (ps_set (i := 2) sc__law_left.nd rfl (.inl rfl) (pe_ifExp (pt_cmpR op_lt (pv 1) (pe_callB (kk_len K) (by rfl) m_len PySem.boot_len (pa_cons (pv 0) pa_nil)) (nomark _)) (pe_ix (kk_ixl K) (pv 0) (pv 1) (fun _ _ => rfl)) pe_int))
      (pss_one (ps_ret (pe_lst (pa_cons (pe_op op_mul (pe_callB call_abs (by rfl) m_abs (by decide +kernel) (pa_cons (pv 2) pa_nil)) (pe_callTy call_int1 (by rfl) m_int (by decide +kernel) (pa_cons (pe_cmpR op_ge (pe_callB call_abs (by rfl) m_abs (by decide +kernel) (pa_cons (pv 2) pa_nil)) (pe_op op_pow pe_int pe_int) (nomark _)) pa_nil))) (pa_cons (pe_op op_add (pv 2) (pe_op op_mul pe_int (pv 1))) (pa_cons pe_int pa_nil))))))), ?_⟩
    refine ⟨_, rfl, _, rfl, a, _, rfl, .inl hS, _, _, rfl, rfl, _, rfl, ite2 (fun e => ?_) (fun e => ?_)⟩
    · have e1 := of_decide_eq_true e
      rw [List.length_map] at e1
      obtain ⟨c, hc⟩ := at_int hk0 e1
      refine ⟨_, rfl, _, rfl, a, _, _, _, rfl, rfl, hS, hc, ?_⟩
      refine ⟨_, rfl, _, rfl, _, rfl, _, rfl, _, _, rfl, rfl, ⟨by decide, by decide, by decide⟩, _, _, rfl, rfl, .inr ⟨_, rfl, _, _, rfl, rfl, .inr ⟨?_, ?_⟩, _, rfl, _, rfl, _, _, rfl, rfl, .inl ⟨by decide, by decide⟩, _, _, rfl, rfl, (by show 3 ≤ sizeLine; decide), fun p hp => ?_⟩⟩
      · split <;> omega
      · split <;> omega
      · refine q _ p hp (same_new hp) ⟨_, _, _, upd_same, ?_, by omega, by omega⟩
        refine Int.mul_nonneg ?_ ?_ <;> split <;> omega
    · refine ⟨_, rfl, _, rfl, _, rfl, _, rfl, _, _, rfl, rfl, ⟨by decide, by decide, by decide⟩, _, _, rfl, rfl, .inr ⟨_, rfl, _, _, rfl, rfl, .inr ⟨?_, ?_⟩, _, rfl, _, rfl, _, _, rfl, rfl, .inl ⟨by decide, by decide⟩, _, _, rfl, rfl, (by show 3 ≤ sizeLine; decide), fun p hp => ?_⟩⟩
      · split <;> omega
      · split <;> omega
      · refine q _ p hp (same_new hp) ⟨_, _, _, upd_same, ?_, by omega, by omega⟩
        refine Int.mul_nonneg ?_ ?_ <;> split <;> omega
/-! ### _law_pick -/
abbrev s__law_pick : Stmt := topS 6
abbrev N__law_pick : List Str := ["_law_left_here", "_law_many", "_law_digit"]
theorem sc__law_pick : FnScope N__law_pick ["_law_left_here", "_law_many"] (defScope s__law_pick) := ⟨rfl, rfl, rfl, by decide +kernel, rfl, by decide +kernel, by decide +kernel⟩
def sp__law_pick (K : PySem.W.Frag) : Sp := fun vs H Q _ => ∃ (b : Addr) (m n : Int), vs = [.ref b, .int m] ∧ Three H b n ∧ 0 < m ∧ m < 1073741824 ∧ n < 1000000000 ∧ ∀ (r : Int) H', 0 ≤ r → r < m → Three H' b (n + 1) → But b H H' → Q (.int r) H'
theorem ok__law_pick {f : Addr} {fd : FuncData} (F : Fun K "_law_pick" "_law_pick" s__law_pick f fd) (g : mg "_law_pick" = some (.ref f)) (bd : Binds K fd ["_law_left_here", "_law_many"] []) (C__law_mix : CF P w K mg base 1 "_law_mix" ["_law_cell", "_law_k"] (sp__law_mix K)) : CF P w K mg base 2 "_law_pick" ["_law_left_here", "_law_many"] (sp__law_pick K) := by
  refine ⟨f, fd, F.ok sc__law_pick (fun vs H Q E h => ?_) (fun cdv A outer s H vs Q E hr h => ?_), g, F.kp, bd⟩
  · first | (obtain ⟨_, rfl, _⟩ := h; rfl) | (obtain ⟨_, _, rfl, _⟩ := h; rfl) | (obtain ⟨_, _, _, rfl, _⟩ := h; rfl) | (obtain ⟨_, _, _, _, rfl, _⟩ := h; rfl) | (obtain ⟨_, _, _, _, _, rfl, _⟩ := h; rfl) | (obtain ⟨_, _, _, _, _, _, rfl, _⟩ := h; rfl) | (obtain ⟨_, _, _, _, _, _, _, rfl, _⟩ := h; rfl)
  · have hu64 := hr.units
    obtain ⟨b, m, n, rfl, ⟨x, c, z, hb, hx, hz, hz2⟩, hm, hm2, hn, q⟩ := h
    refine ⟨_, (pss_cons (ps_asg (pe_op op_add (pe_ix (kk_ixl K) (pv 0) pe_int (fun _ _ => rfl)) pe_int) (pg_sub (pv 0) pe_int set_list))
      (pss_cons (ps_if (pt_cmpR op_gt (pe_ix (kk_ixl K) (pv 0) pe_int (fun _ _ => rfl)) pe_int (nomark _))
         (pss_cons (ps_set (i := 2) sc__law_pick.nd rfl (.inl rfl) (pe_op op_mod (pe_ix (kk_ixl K) (pv 0) pe_int (fun _ _ => rfl)) (pv 1)))
          (pss_cons (ps_asg (pe_op op_fdiv (pe_ix (kk_ixl K) (pv 0) pe_int (fun _ _ => rfl)) (pv 1)) (pg_sub (pv 0) pe_int set_list))
          (pss_one (ps_ret (pv 2)))))
         pss_nil)
      (pss_one (ps_ret (pe_op op_mod (pe_op op_fdiv (pe_cf C__law_mix (hr.mono (by decide)) (by rfl) (pa_cons (pe_cf C__law_mix (hr.mono (by decide)) (by rfl) (pa_cons (pe_ix (kk_ixl K) (pv 0) pe_int (fun _ _ => rfl)) (pa_cons (pe_ix (kk_ixl K) (pv 0) pe_int (fun _ _ => rfl)) pa_nil))) (pa_cons (pe_op op_add (pe_ix (kk_ixl K) (pv 0) pe_int (fun _ _ => rfl)) pe_int) pa_nil))) pe_int) (pv 1)))))), ?_⟩
    have h1 : (upd H b (.lst [.int x, .int c, .int (z + 1)])) b = some (.lst [.int x, .int c, .int (z + 1)]) := upd_same
    refine ⟨_, rfl, b, _, _, _, rfl, rfl, SqL.of hb, rfl, _, _, rfl, rfl, _, rfl, b, _, _, _, rfl, rfl, hb, rfl, ?_⟩
    refine ⟨_, rfl, b, _, _, _, rfl, rfl, SqL.of h1, rfl, _, _, rfl, rfl, _, rfl, ite2 (fun e => ?_) (fun e => ?_)⟩
    · refine ⟨_, rfl, b, _, _, _, rfl, rfl, SqL.of h1, rfl, _, rfl, _, _, rfl, rfl, hm, ?_⟩
      refine ⟨_, rfl, b, _, _, _, rfl, rfl, SqL.of h1, rfl, _, rfl, _, _, rfl, rfl, ⟨hm, hm2⟩, _, rfl, b, _, _, _, rfl, rfl, h1, rfl, ?_⟩
      exact ⟨_, rfl, q _ _ (Int.emod_nonneg _ (by omega)) (Int.emod_lt_of_pos _ hm) ⟨x / m, c, z + 1, upd_same, Int.ediv_nonneg hx (by omega), by omega, by omega⟩ (But.upd.trans But.upd)⟩
    · refine ⟨_, rfl, b, _, _, _, rfl, rfl, SqL.of h1, rfl, _, rfl, b, _, _, _, rfl, rfl, SqL.of h1, rfl, c, z + 1, rfl, by omega, by omega, fun r1 r10 r11 => ?_⟩
      refine ⟨_, rfl, b, _, _, _, rfl, rfl, SqL.of h1, rfl, _, _, rfl, rfl, r1, z + 1 + 64, rfl, by omega, by omega, fun r2 r20 r21 => ?_⟩
      exact ⟨_, _, rfl, rfl, ⟨by decide, by decide⟩, _, rfl, _, _, rfl, rfl, hm, q _ _ (Int.emod_nonneg _ (by omega)) (Int.emod_lt_of_pos _ hm) ⟨x, c, z + 1, h1, hx, by omega, by omega⟩ But.upd⟩
/-! ### _law_prices -/
abbrev s__law_prices : Stmt := topS 8
abbrev N__law_prices : List Str := ["_law_left_here", "_law_many", "_law_day", "_law_found", "_law_most", "_law_turn"]
theorem sc__law_prices : FnScope N__law_prices ["_law_left_here", "_law_many"] (defScope s__law_prices) := ⟨rfl, rfl, rfl, by decide +kernel, rfl, by decide +kernel, by decide +kernel⟩
abbrev RiseS (ps : List (Int × Int)) : Prop := ps.Pairwise (fun a b => a.1 < b.1)
def Okp (ps : List (Int × Int)) : Prop := ∀ p ∈ ps, 0 ≤ p.1 ∧ p.1 ≤ 400 ∧ 1 ≤ p.2 ∧ p.2 ≤ 1000000
def sp__law_prices (K : PySem.W.Frag) : Sp := fun vs H Q _ => ∃ (b : Addr) (many n : Int), vs = [.ref b, .int many] ∧ Three H b n ∧ n < 1000000 ∧ 0 ≤ many ∧ many ≤ 60 ∧
  ∀ H' L as ps, Three H' b (n + 3 + 3 * many) → But b H H' → H L = none → L ≠ b → H' L = some (.lst (as.map V.ref)) → Prs H' as ps → RiseS ps → Okp ps → (ps.length : Int) ≤ many → Q (.ref L) H'
theorem ok__law_prices {f : Addr} {fd : FuncData} (F : Fun K "_law_prices" "_law_prices" s__law_prices f fd) (g : mg "_law_prices" = some (.ref f)) (bd : Binds K fd ["_law_left_here", "_law_many"] []) (m_range : mg "range" = none) (C__law_pick : CF P w K mg base 2 "_law_pick" ["_law_left_here", "_law_many"] (sp__law_pick K)) : CF P w K mg base 3 "_law_prices" ["_law_left_here", "_law_many"] (sp__law_prices K) := by
  refine ⟨f, fd, F.ok sc__law_prices (fun vs H Q E h => ?_) (fun cdv A outer s H vs Q E hr h => ?_), g, F.kp, bd⟩
  · first | (obtain ⟨_, rfl, _⟩ := h; rfl) | (obtain ⟨_, _, rfl, _⟩ := h; rfl) | (obtain ⟨_, _, _, rfl, _⟩ := h; rfl) | (obtain ⟨_, _, _, _, rfl, _⟩ := h; rfl) | (obtain ⟨_, _, _, _, _, rfl, _⟩ := h; rfl) | (obtain ⟨_, _, _, _, _, _, rfl, _⟩ := h; rfl) | (obtain ⟨_, _, _, _, _, _, _, rfl, _⟩ := h; rfl)
  · have hu64 := hr.units
    obtain ⟨b, many, n, rfl, hb, hn, m0, m1, q⟩ := h
    refine ⟨_, (pss_cons (ps_par3 (i := 2) (j := 3) (l := 4) (by rfl) sc__law_prices.nd rfl rfl rfl (by decide) (by decide) (by decide) rfl rfl rfl (pa_cons (pe_cf C__law_pick (hr.mono (by decide)) (by rfl) (pa_cons (pv 0) (pa_cons (pe_ix (kk_ixl K) (pe_lst (pa_cons pe_int (pa_cons pe_int pa_nil))) (pe_cf C__law_pick (hr.mono (by decide)) (by rfl) (pa_cons (pv 0) (pa_cons pe_int pa_nil))) (fun _ _ => rfl)) pa_nil))) (pa_cons (pe_lst pa_nil) (pa_cons (pe_ix (kk_ixl K) (pe_lst (pa_cons pe_int (pa_cons pe_int (pa_cons (pe_op op_pow pe_int pe_int) pa_nil)))) (pe_cf C__law_pick (hr.mono (by decide)) (by rfl) (pa_cons (pv 0) (pa_cons pe_int pa_nil))) (fun _ _ => rfl)) pa_nil))) (by rfl))
      (pss_cons (ps_for PassesOwn.never rfl (pi_range1 (by rfl) m_range (pa_cons (pv 1) pa_nil)) (pg_name (i := 5) sc__law_prices.nd rfl (.inl rfl))
         (pss_cons (ps_if (pt_cmpR op_le (pv 2) pe_int (nomark _))
             (pss_one (ps_expr (pe_bm PySem.F.plainAttrs_list PySem.F.slot_list_append PySem.F.type_list_append mt_append (pv 3) (pa_cons (pe_tup (pa_cons (pv 2) (pa_cons (pe_op op_add pe_int (pe_cf C__law_pick (hr.mono (by decide)) (by rfl) (pa_cons (pv 0) (pa_cons (pv 4) pa_nil)))) pa_nil))) pa_nil))))
             pss_nil)
          (pss_one (ps_set (i := 2) sc__law_prices.nd rfl (.inl rfl) (pe_op op_add (pe_op op_add (pv 2) pe_int) (pe_cf C__law_pick (hr.mono (by decide)) (by rfl) (pa_cons (pv 0) (pa_cons (pe_ix (kk_ixl K) (pe_lst (pa_cons pe_int (pa_cons pe_int (pa_cons pe_int pa_nil)))) (pe_cf C__law_pick (hr.mono (by decide)) (by rfl) (pa_cons (pv 0) (pa_cons pe_int pa_nil))) (fun _ _ => rfl)) pa_nil))))))))
      (pss_one (ps_ret (pv 3))))), ?_⟩
    refine ⟨_, rfl, (by show 2 ≤ sizeLine; decide), fun l1 n1 => ?_⟩
    refine ⟨_, rfl, b, 2, _, rfl, hb.new n1, by decide, by decide, by omega, fun r1 H1 r10 r11 b1 t1 => ?_⟩
    obtain ⟨v1, hv1, v10, v11⟩ := pick2i (lo := 3) (hi := 300) (x := 3) (y := 300) r10 r11 (by omega) (by omega)
    refine ⟨l1, _, _, _, rfl, rfl, SqL.of (t1 _ _ (hb.ne n1) upd_same), hv1, ?_⟩
    refine ⟨b, v1, _, rfl, b1, by omega, by omega, by omega, fun d0 H2 d00 d01 b2 t2 => ?_⟩
    have T2 := ((But.new (b := b) (o := .lst [.int 3, .int 300]) n1).trans t1).trans t2
    refine ⟨(by show 0 ≤ sizeLine; decide), fun L nL => ?_⟩
    have nLb : L ≠ b := b2.ne nL
    have nL0 : H L = none := by
      cases e : H L with
      | none => rfl
      | some o =>
        rw [T2 _ _ nLb e] at nL
        cases nL
    refine ⟨_, _, rfl, rfl, ⟨by decide, by decide, by decide⟩, (by show 3 ≤ sizeLine; decide), fun l2 n2 => ?_⟩
    have s2 := (same_new (o := .lst []) nL).trans (same_new (o := .lst [.int 5, .int 99, .int (10 ^ (6 : Int).toNat)]) n2)
    have hL2 := (same_new (o := .lst [.int 5, .int 99, .int (10 ^ (6 : Int).toNat)]) n2) _ _ (upd_same (H := H2) (a := L) (o := .lst []))
    have b3 := b2.same s2
    have n2b : l2 ≠ b := (b2.new nL).ne n2
    have hl2 := upd_same (H := upd H2 L (.lst [])) (a := l2) (o := .lst [.int 5, .int 99, .int (10 ^ (6 : Int).toNat)])
    have T3 := T2.trans (But.of s2)
    generalize upd (upd H2 L (.lst [])) l2 (.lst [.int 5, .int 99, .int (10 ^ (6 : Int).toNat)]) = G3 at *
    refine ⟨_, rfl, b, 3, _, rfl, b3, by decide, by decide, by omega, fun r2 H4 r20 r21 b4 t4 => ?_⟩
    obtain ⟨v2, hv2, v20, v21⟩ := pick3j (lo := 5) (hi := 1000000) (x := 5) (y := 99) (z := 10 ^ (6 : Int).toNat) r20 r21 (by omega) (by omega) (by show (5 : Int) ≤ 1000000 ∧ (1000000 : Int) ≤ 1000000; omega)
    refine ⟨l2, _, _, _, rfl, rfl, SqL.of (t4 _ _ n2b hl2), hv2, _, _, _, rfl, ?_⟩
    have T4 := T3.trans t4
    have hL4 := t4 _ _ nLb hL2
    refine ⟨_, rfl, _, rfl, by omega, by omega, for_range (fun i σ H' => ∃ (day : Int) (as : List Addr) (ps : List (Int × Int)) (s5 : Option V), σ = [some (.ref b), some (.int many), some (.int day), some (.ref L), some (.int v2), s5] ∧ 0 ≤ day ∧ Three H' b (n + 3 + 3 * i) ∧ But b H H' ∧ H' L = some (.lst (as.map V.ref)) ∧ Prs H' as ps ∧ RiseS ps ∧ Okp ps ∧ ps.length ≤ i ∧ ∀ p ∈ ps, p.1 < day) ⟨d0, [], [], _, rfl, d00, b4.mono (by omega), T4, hL4, ⟨rfl, fun i a p h _ => by simp at h⟩, .nil, fun p h => (nomatch h), Nat.le_refl _, fun p h => (nomatch h)⟩ (fun i σ H' hi h => ?_) (fun σ H' h => ?_)⟩
    · obtain ⟨day, as, ps, s5, rfl, hd0, bI, tI, hLI, hP, hrs, hok, hlen, hlt⟩ := h
      have stepE : ∀ (H5 : Hp) (as' : List Addr) (ps' : List (Int × Int)), Three H5 b (n + 3 + 3 * i + 1) → But b H H5 → H5 L = some (.lst (as'.map V.ref)) → Prs H5 as' ps' → RiseS ps' → Okp ps' → ps'.length ≤ i + 1 → (∀ p ∈ ps', p.1 ≤ day) → ∀ (D : Ends), (∀ σ2 H6, (∃ (day : Int) (as : List Addr) (ps : List (Int × Int)) (s5 : Option V), σ2 = [some (.ref b), some (.int many), some (.int day), some (.ref L), some (.int v2), s5] ∧ 0 ≤ day ∧ Three H6 b (n + 3 + 3 * (i + 1 : Nat)) ∧ But b H H6 ∧ H6 L = some (.lst (as.map V.ref)) ∧ Prs H6 as ps ∧ RiseS ps ∧ Okp ps ∧ ps.length ≤ i + 1 ∧ ∀ p ∈ ps, p.1 < day) → D.nx σ2 H6) →
          (tAsg (tOp (rI0 fun i j => V.int (i + j)) (tOp (rI0 fun i j => V.int (i + j)) (tVar 2) (tC (V.int 1))) (tCall (sp__law_pick K) [] E0 (tCons (tVar 0) (tCons (tOp (rIxL K) (tLst (tCons (tC (V.int 1)) (tCons (tC (V.int 4)) (tCons (tC (V.int 40)) tNil)))) (tCall (sp__law_pick K) [] E0 (tCons (tVar 0) (tCons (tC (V.int 3)) tNil)))) tNil)))) (gName 2)) D [some (.ref b), some (.int many), some (.int day), some (.ref L), some (.int v2), some (.int (0 + i))] H5 := fun H5 as' ps' b5 t5 hL5 hP5 hr5 ho5 hl5 hle D hD => by
        refine ⟨_, rfl, _, _, rfl, rfl, _, rfl, (by show 3 ≤ sizeLine; decide), fun c1 m1' => ?_⟩
        have u1 := same_new (o := .lst [.int 1, .int 4, .int 40]) m1'
        refine ⟨_, rfl, b, 3, _, rfl, b5.new m1', by decide, by decide, by omega, fun x H6 x0 x1 b6 t6 => ?_⟩
        obtain ⟨w, hw, w0, w1⟩ := pick3j (lo := 1) (hi := 40) (x := 1) (y := 4) (z := 40) x0 x1 (by omega) (by omega) (by omega)
        refine ⟨c1, _, _, _, rfl, rfl, SqL.of (t6 _ _ (b5.ne m1') upd_same), hw, ?_⟩
        refine ⟨b, w, _, rfl, b6, by omega, by omega, by omega, fun y H7 y0 y1 b7 t7 => ⟨_, _, rfl, rfl, hD _ _ ⟨day + 1 + y, as', ps', _, rfl, by omega, b7.mono (by omega), ((t5.trans (But.of u1)).trans t6).trans t7, ?_, ((hP5.same u1).but t6 (b5.new m1')).but t7 b6, hr5, ho5, hl5, fun p hp => by have := hle p hp; omega⟩⟩⟩
        exact t7 _ _ nLb (t6 _ _ nLb (u1 _ _ hL5))
      refine ⟨_, rfl, _, _, rfl, rfl, _, rfl, ite2 (fun z => ?_) (fun z => ?_)⟩
      · have z1 : day ≤ 400 := of_decide_eq_true z
        refine ⟨_, rfl, .inl ⟨rfl, _, SqL.of hLI⟩, _, rfl, _, rfl, _, rfl, b, v2, _, rfl, bI, by omega, by omega, by omega, fun x H5 x0 x1 b5 t5 => ⟨_, _, rfl, rfl, (by show 2 ≤ sizeLine; decide), fun u nu => ?_⟩⟩
        have sU := same_new (o := .tup [.int day, .int (1 + x)]) nu
        have hL5 := sU _ _ (t5 _ _ nLb hLI)
        have hU := upd_same (H := H5) (a := u) (o := .tup [.int day, .int (1 + x)])
        have hP5 := (hP.but t5 bI).same sU
        have b6 := b5.same sU
        have T5 := (tI.trans t5).trans (But.of sU)
        generalize upd H5 u (.tup [.int day, .int (1 + x)]) = G5 at *
        refine ⟨L, _, _, rfl, rfl, hL5, ?_, ?_⟩
        · rw [List.length_map, hP.1]
          exact small1000 (by omega)
        refine stepE _ (as ++ [u]) (ps ++ [(day, 1 + x)]) ((b6.mono (by omega)).upd nLb) (updNew T5 nL0) (by rw [upd_same, List.map_append]; rfl) ?_ ?_ ?_ (by rw [List.length_append]; exact Nat.add_le_add_right hlen 1) ?_ _ (fun σ2 H6 h => h)
        · refine (hP5.updL hL5).snoc ?_
          rw [upd_ne (ne_of hU hL5 (by intro z; cases z))]
          exact hU
        · refine List.pairwise_append.mpr ⟨hrs, List.pairwise_singleton _ _, fun p hp r hr' => ?_⟩
          rw [List.mem_singleton.mp hr']
          exact hlt p hp
        · intro p hp
          rcases List.mem_append.mp hp with h | h
          · exact hok p h
          · rw [List.mem_singleton.mp h]
            exact ⟨hd0, z1, by show 1 ≤ 1 + x; omega, by show 1 + x ≤ 1000000; omega⟩
        · intro p hp
          rcases List.mem_append.mp hp with h | h
          · exact Int.le_of_lt (hlt p h)
          · rw [List.mem_singleton.mp h]
            exact Int.le_refl _
      · exact stepE H' as ps (bI.mono (by omega)) tI hLI hP hrs hok (by omega) (fun p hp => Int.le_of_lt (hlt p hp)) _ (fun σ2 H6 h => h)
    · obtain ⟨day, as, ps, s5, rfl, hd0, bI, tI, hLI, hP, hrs, hok, hlen, hlt⟩ := h
      exact ⟨_, rfl, q _ L as ps (bI.mono (by omega)) tI nL0 nLb hLI hP hrs hok (by omega)⟩
/-- the price of a day -/
def pOn (ps : List (Int × Int)) (day : Int) : V := ps.foldl (fun t q => if q.1 ≤ day then .int q.2 else t) .non
theorem pOn_take {ps : List (Int × Int)} {i : Nat} {p : Int × Int} {day : Int} (h : ps[i]? = some p) : pOn (ps.take (i + 1)) day = if p.1 ≤ day then .int p.2 else pOn (ps.take i) day := by
  unfold pOn
  rw [List.take_add_one, h, List.foldl_append]
  rfl
theorem Prs.at {H : Hp} {as : List Addr} {ps : List (Int × Int)} (h : Prs H as ps) {i : Nat} {v : V} (hv : (as.map V.ref)[i]? = some v) : ∃ a p, v = .ref a ∧ as[i]? = some a ∧ ps[i]? = some p ∧ H a = some (.tup [.int p.1, .int p.2]) := by
  rw [List.getElem?_map] at hv
  obtain ⟨a, ha, rfl⟩ := Option.map_eq_some_iff.mp hv
  have hi : i < ps.length := h.1 ▸ (List.getElem?_eq_some_iff.mp ha).1
  exact ⟨a, ps[i], rfl, ha, List.getElem?_eq_getElem hi, h.2 i a _ ha (List.getElem?_eq_getElem hi)⟩
/-! ### price_on -/
abbrev s_price_on : Stmt := topS 1
abbrev N_price_on : List Str := ["prices", "day", "told", "begin", "pence"]
theorem sc_price_on : FnScope N_price_on ["prices", "day"] (defScope s_price_on) := ⟨rfl, rfl, rfl, by decide +kernel, rfl, by decide +kernel, by decide +kernel⟩
def sp_price_on (K : PySem.W.Frag) : Sp := fun vs H Q _ => ∃ (L : Addr) (day : Int) (as : List Addr) (ps : List (Int × Int)), vs = [.ref L, .int day] ∧ (SqL K H L (as.map V.ref) ∨ SqT K H L (as.map V.ref)) ∧ Prs H as ps ∧ Q (pOn ps day) H
theorem ok_price_on {f : Addr} {fd : FuncData} (F : Fun K "price_on" "price_on" s_price_on f fd) (g : mg "price_on" = some (.ref f)) (bd : Binds K fd ["prices", "day"] []) : CF P w K mg base 1 "price_on" ["prices", "day"] (sp_price_on K) := by
  refine ⟨f, fd, F.ok sc_price_on (fun vs H Q E h => ?_) (fun cdv A outer s H vs Q E hr h => ?_), g, F.kp, bd⟩
  · first | (obtain ⟨_, rfl, _⟩ := h; rfl) | (obtain ⟨_, _, rfl, _⟩ := h; rfl) | (obtain ⟨_, _, _, rfl, _⟩ := h; rfl) | (obtain ⟨_, _, _, _, rfl, _⟩ := h; rfl) | (obtain ⟨_, _, _, _, _, rfl, _⟩ := h; rfl) | (obtain ⟨_, _, _, _, _, _, rfl, _⟩ := h; rfl) | (obtain ⟨_, _, _, _, _, _, _, rfl, _⟩ := h; rfl)
  · have hu64 := hr.units
    obtain ⟨L, day, as, ps, rfl, hS, hP, q⟩ := h
    refine ⟨_, (pss_cons (ps_set (i := 2) sc_price_on.nd rfl (.inl rfl) pe_non)
      (pss_cons (ps_for PassesOwn.never rfl (pi_or (pi_list (pv 0)) (pi_tup (pv 0))) (pg_tup (by rfl) (pgs_cons (pg_name (i := 3) sc_price_on.nd rfl (.inl rfl)) (pgs_cons (pg_name (i := 4) sc_price_on.nd rfl (.inl rfl)) pgs_nil)))
         (pss_one (ps_if (pt_cmpR op_le (pv 3) (pv 1) (nomark _))
             (pss_one (ps_set (i := 2) sc_price_on.nd rfl (.inl rfl) (pv 4)))
             pss_nil)))
      (pss_one (ps_ret (pv 2))))), ?_⟩
    have turn : ∀ (i : Nat) (x : V) (σ : L2.St) (H' : Hp), (as.map V.ref)[i]? = some x → (∃ s3 s4, σ = [some (.ref L), some (.int day), some (pOn (ps.take i) day), s3, s4] ∧ H' = H) → ∀ D : Ends, (∀ σ2 H2, (∃ s3 s4, σ2 = [some (.ref L), some (.int day), some (pOn (ps.take (i + 1)) day), s3, s4] ∧ H2 = H) → D.nx σ2 H2) → gTup K 2 (gCons (gName 3) (gCons (gName 4) gNil)) x σ H' fun σ2 H2 => tIfS (tTest (tOp (rI0 fun i j => V.bl (decide (i ≤ j))) (tVar 3) (tVar 1))) (tAsg (tVar 4) (gName 2)) tNext D σ2 H2 := fun i x σ H' hx h D hD => by
      obtain ⟨s3, s4, rfl, rfl⟩ := h
      obtain ⟨a, p, rfl, ha, hp, hA⟩ := hP.at hx
      have hN := hD
      rw [pOn_take hp] at hN
      refine ⟨a, _, rfl, SqT.of hA, rfl, _, _, rfl, _, _, rfl, rfl, ?_⟩
      refine ⟨_, rfl, _, rfl, _, _, rfl, rfl, _, rfl, ite2 (fun z => ?_) (fun z => ?_)⟩
      · rw [if_pos (of_decide_eq_true z)] at hN
        exact ⟨_, rfl, hN _ _ ⟨_, _, rfl, rfl⟩⟩
      · rw [if_neg fun y => z (decide_eq_true y)] at hN
        exact hN _ _ ⟨_, _, rfl, rfl⟩
    have fin : ∀ σ H', (∃ s3 s4, σ = [some (.ref L), some (.int day), some (pOn (ps.take (as.map V.ref).length) day), s3, s4] ∧ H' = H) → tRet (tVar 2) { nx := fun x H' => Q V.non H', rt := Q } σ H' := fun σ H' h => by
      obtain ⟨s3, s4, rfl, rfl⟩ := h
      rw [List.length_map, hP.1, List.take_of_length_le (Nat.le_refl _)]
      exact ⟨_, rfl, q⟩
    rcases hS with hS | hS
    · exact .inl ⟨_, rfl, L, rfl, ⟨_, hS⟩, for_list (K := K) (a := L) (xs := as.map V.ref) (fun i σ H' => ∃ s3 s4, σ = [some (.ref L), some (.int day), some (pOn (ps.take i) day), s3, s4] ∧ H' = H) ⟨_, _, rfl, rfl⟩ (fun i σ H' _ h => by obtain ⟨_, _, _, rfl⟩ := h; exact hS) (fun i x σ H' hx h => turn i x σ H' hx h _ (fun _ _ h => h)) fin⟩
    · exact .inr ⟨_, rfl, L, rfl, ⟨_, hS⟩, for_tup (K := K) (a := L) (xs := as.map V.ref) (fun i σ H' => ∃ s3 s4, σ = [some (.ref L), some (.int day), some (pOn (ps.take i) day), s3, s4] ∧ H' = H) ⟨_, _, rfl, rfl⟩ (fun i σ H' _ h => by obtain ⟨_, _, _, rfl⟩ := h; exact hS) (fun i x σ H' hx h => turn i x σ H' hx h _ (fun _ _ h => h)) fin⟩
theorem kk_sla (K : PySem.W.Frag) {X : Cx} (h : X.K = K := by rfl) : SlR X (rSlA K) := h ▸ sl_tupA
def prD (p : Int × Int) : PyData := .tuple [.int p.1, .int p.2]
theorem prs_dpAll {K : PySem.W.Frag} {H : Hp} : ∀ {as : List Addr} {ps : List (Int × Int)}, Prs H as ps → DpAll K H (as.map V.ref) (ps.map prD)
  | [], [], _ => .nil
  | [], q :: r, h => by cases h.1
  | a :: r, [], h => by cases h.1
  | a :: r, q :: ps, h => .cons (.tup (SqT.of (h.2 0 a q rfl rfl)) (.cons (.int _) (.cons (.int _) .nil))) (prs_dpAll ⟨by have := h.1; simpa using this, fun i a' p h1 h2 => h.2 (i + 1) a' p h1 h2⟩)
theorem prs_dp {K : PySem.W.Frag} {H : Hp} {L : Addr} {as : List Addr} {ps : List (Int × Int)} (hL : SqL K H L (as.map V.ref)) (h : Prs H as ps) : Dp K H (.ref L) (.list (ps.map prD)) := .lst hL (prs_dpAll h)
theorem lay_pr : ∀ ps : List (Int × Int), PyData.canLayAll0 (ps.map prD) = true
  | [] => by simp [PyData.canLayAll0]
  | p :: r => by
    simp [PyData.canLayAll0, PyData.canLay0, prD]
    exact lay_pr r
theorem depth_pr : ∀ ps : List (Int × Int), PyData.depthAll (ps.map prD) ≤ 4
  | [] => by simp [PyData.depthAll]
  | p :: r => by
    have := depth_pr r
    simp only [List.map_cons, prD, PyData.depthAll, PyData.depth]
    omega
theorem sh_pr (ps : List (Int × Int)) : SeqAt.shaped (.list (ps.map prD)) = true := by
  have h1 := depth_pr ps
  have h2 : PyData.depth (.list (ps.map prD)) ≤ 64 := by
    simp only [PyData.depth]
    omega
  show (PyData.canLay0 (.list (ps.map prD)) && decide (PyData.depth (.list (ps.map prD)) ≤ 64)) = true
  rw [Bool.and_eq_true]
  exact ⟨by simp only [PyData.canLay0]; exact lay_pr ps, decide_eq_true h2⟩
theorem eqv_pr (ps : List (Int × Int)) : PyData.eqv (.list (ps.map prD)) (.list (ps.map prD)) = true := SeqAt.eqv_refl _ (SeqAt.canLay_of_shaped (sh_pr ps))
theorem pr_nil {ps : List (Int × Int)} : PyData.eqv (.list (ps.map prD)) (.list []) = decide (ps = []) := by
  cases ps with
  | nil => simp [PyData.eqv, PyData.eqvAll]
  | cons x r => simp [PyData.eqv, PyData.eqvAll]
theorem nePr {K : PySem.W.Frag} {H : Hp} {x y : Addr} {as bs : List Addr} {ps : List (Int × Int)} {Q : VK} (hx : SqL K H x (as.map V.ref)) (hy : SqL K H y (bs.map V.ref)) (h1 : Prs H as ps) (h2 : Prs H bs ps) (q : Q (.bl false) H) : rNeD K (.ref x) (.ref y) H Q := by
  refine ⟨_, _, prs_dp hx h1, prs_dp hy h2, sh_pr ps, sh_pr ps, ?_⟩
  rw [eqv_pr]
  exact q
theorem Prs.drop {H : Hp} {as : List Addr} {ps : List (Int × Int)} (h : Prs H as ps) (k : Nat) : Prs H (as.drop k) (ps.drop k) := by
  refine ⟨by rw [List.length_drop, List.length_drop, h.1], fun i a p h1 h2 => ?_⟩
  rw [List.getElem?_drop] at h1 h2
  exact h.2 _ a p h1 h2
/-- the fallen ones -/
def fa (as : List Addr) (ps : List (Int × Int)) (i : Nat) : List (Addr × (Int × Int)) := match as[i + 1]?, ps[i]?, ps[i + 1]? with
  | some a, some p, some q => if q.2 < p.2 then [(a, q)] else []
  | _, _, _ => []
def fallsN (as : List Addr) (ps : List (Int × Int)) : Nat → List (Addr × (Int × Int))
  | 0 => []
  | n + 1 => fallsN as ps n ++ fa as ps n
theorem falls_len (as : List Addr) (ps : List (Int × Int)) : ∀ n, (fallsN as ps n).length ≤ n
  | 0 => Nat.le_refl _
  | n + 1 => by
    have h := falls_len as ps n
    have h2 : (fa as ps n).length ≤ 1 := by
      unfold fa
      split
      · split <;> simp
      · simp
    show (fallsN as ps n ++ fa as ps n).length ≤ n + 1
    rw [List.length_append]
    omega
theorem falls_prs {H : Hp} {as : List Addr} {ps : List (Int × Int)} (h : Prs H as ps) : ∀ n, ∀ x ∈ fallsN as ps n, H x.1 = some (.tup [.int x.2.1, .int x.2.2])
  | 0, x, hx => (nomatch hx)
  | n + 1, x, hx => by
    rcases List.mem_append.mp hx with hx | hx
    · exact falls_prs h n x hx
    · unfold fa at hx
      split at hx
      · rename_i a p q e1 e2 e3
        split at hx
        · rw [List.mem_singleton.mp hx]
          exact h.2 _ _ _ e1 e3
        · cases hx
      · cases hx
theorem prs_of {H : Hp} : ∀ {l : List (Addr × (Int × Int))}, (∀ x ∈ l, H x.1 = some (.tup [.int x.2.1, .int x.2.2])) → Prs H (l.map (·.1)) (l.map (·.2)) := fun {l} h => by
  refine ⟨by rw [List.length_map, List.length_map], fun i a p h1 h2 => ?_⟩
  rw [List.getElem?_map] at h1 h2
  obtain ⟨x, hx, rfl⟩ := Option.map_eq_some_iff.mp h1
  obtain ⟨y, hy, rfl⟩ := Option.map_eq_some_iff.mp h2
  rw [hx] at hy
  cases hy
  exact h x (List.mem_of_getElem? hx)
theorem cut_tail {xs : List V} : cutV xs (some 1) none = xs.drop 1 := by
  unfold cutV
  rw [show (some (1 : Int)) = some ((1 : Nat) : Int) from rfl, HT.sIx_nat, HT.sIx_none]
  cases xs with
  | nil => rfl
  | cons x r =>
    have : min 1 (x :: r).length = 1 := Nat.min_eq_left (by simp)
    rw [this]
    simp
def pv' (ps : List (Int × Int)) (k : Nat) : V := (ps.take k).foldl (fun _ q => .int q.2) V.non
theorem fold_low {D : Int} : ∀ (l : List (Int × Int)) (v : V), (∀ p ∈ l, p.1 ≤ D) → l.foldl (fun t q => if q.1 ≤ D then .int q.2 else t) v = l.foldl (fun _ q => .int q.2) v
  | [], _, _ => rfl
  | p :: r, v, h => by
    rw [List.foldl_cons, List.foldl_cons, if_pos (h p List.mem_cons_self)]
    exact fold_low r _ fun x hx => h x (List.mem_cons_of_mem _ hx)
theorem fold_high {D : Int} : ∀ (l : List (Int × Int)) (v : V), (∀ p ∈ l, D < p.1) → l.foldl (fun t q => if q.1 ≤ D then .int q.2 else t) v = v
  | [], _, _ => rfl
  | p :: r, v, h => by
    have := h p List.mem_cons_self
    rw [List.foldl_cons, if_neg (by omega)]
    exact fold_high r _ fun x hx => h x (List.mem_cons_of_mem _ hx)
theorem pv_on {ps : List (Int × Int)} {k : Nat} {D : Int} (h1 : ∀ p ∈ ps.take k, p.1 ≤ D) (h2 : ∀ p ∈ ps.drop k, D < p.1) : pOn ps D = pv' ps k := by
  have e : pOn ps D = pOn (ps.take k ++ ps.drop k) D := by rw [List.take_append_drop]
  rw [e]
  unfold pOn pv'
  rw [List.foldl_append, fold_high _ _ h2, fold_low _ _ h1]
theorem pv_s {ps : List (Int × Int)} {k : Nat} {p : Int × Int} (h : ps[k]? = some p) : pv' ps (k + 1) = .int p.2 := by
  unfold pv'
  rw [List.take_add_one, h, List.foldl_append]
  rfl
theorem pv_is (ps : List (Int × Int)) (k : Nat) : pv' ps k = .non ∨ ∃ i, pv' ps k = .int i := by
  unfold pv'
  have : ∀ (l : List (Int × Int)) (v : V), (v = .non ∨ ∃ i, v = .int i) → (l.foldl (fun _ q => V.int q.2) v = .non ∨ ∃ i, l.foldl (fun _ q => V.int q.2) v = .int i) := by
    intro l
    induction l with
    | nil => exact fun v h => h
    | cons p r ih => exact fun v _ => ih _ (.inr ⟨_, rfl⟩)
  exact this _ _ (.inl rfl)
theorem pOn_is (ps : List (Int × Int)) (D : Int) : pOn ps D = .non ∨ ∃ i, pOn ps D = .int i := by
  unfold pOn
  have : ∀ (l : List (Int × Int)) (v : V), (v = .non ∨ ∃ i, v = .int i) → (l.foldl (fun t q => if q.1 ≤ D then V.int q.2 else t) v = .non ∨ ∃ i, l.foldl (fun t q => if q.1 ≤ D then V.int q.2 else t) v = .int i) := by
    intro l
    induction l with
    | nil => exact fun v h => h
    | cons p r ih =>
      intro v h
      refine ih _ ?_
      show (if p.1 ≤ D then V.int p.2 else v) = .non ∨ ∃ i, (if p.1 ≤ D then V.int p.2 else v) = .int i
      split
      · exact .inr ⟨_, rfl⟩
      · exact h
  exact this _ _ (.inl rfl)
def toI : V → Option Int
  | .int i => some i
  | _ => none
def vals (ps : List (Int × Int)) (bg : Int) (n : Nat) : List Int := ((List.range n).map fun d : Nat => pOn ps (bg + d)).filterMap toI
def IsLeast (l : List Int) (v : V) : Prop := (l = [] ∧ v = .non) ∨ ∃ m, m ∈ l ∧ (∀ n ∈ l, m ≤ n) ∧ v = .int m
theorem least_one {l : List Int} {v w : V} (h1 : IsLeast l v) (h2 : IsLeast l w) : v = w := by
  rcases h1 with ⟨e1, r1⟩ | ⟨m, m1, m2, r1⟩ <;> rcases h2 with ⟨e2, r2⟩ | ⟨k, k1, k2, r2⟩
  · rw [r1, r2]
  · rw [e1] at k1
    cases k1
  · rw [e2] at m1
    cases m1
  · have a := m2 k k1
    have b := k2 m m1
    rw [r1, r2, show m = k by omega]
theorem least_is {l : List Int} {v : V} (h : IsLeast l v) : v = .non ∨ ∃ i, v = .int i := by
  rcases h with ⟨_, r⟩ | ⟨m, _, _, r⟩
  · exact .inl r
  · exact .inr ⟨m, r⟩
theorem vals_s (ps : List (Int × Int)) (bg : Int) (n : Nat) : vals ps bg (n + 1) = vals ps bg n ++ (toI (pOn ps (bg + n))).toList := by
  unfold vals
  rw [List.range_succ, List.map_append, List.filterMap_append]
  congr 1
def addL (i : Int) : V → V
  | .int j => .int (if i < j then i else j)
  | _ => .int i
theorem least_add {l : List Int} {v : V} {i : Int} (h : IsLeast l v) : IsLeast (l ++ [i]) (addL i v) := by
  rcases h with ⟨e, rfl⟩ | ⟨m, m1, m2, rfl⟩
  · rw [e]
    exact .inr ⟨i, List.mem_singleton.mpr rfl, fun n hn => by rw [List.mem_singleton.mp hn]; exact Int.le_refl _, rfl⟩
  · refine .inr ⟨if i < m then i else m, ?_, fun n hn => ?_, rfl⟩
    · split
      · exact List.mem_append_right _ (List.mem_singleton.mpr rfl)
      · exact List.mem_append_left _ m1
    · rcases List.mem_append.mp hn with h | h
      · have := m2 n h
        split <;> omega
      · rw [List.mem_singleton.mp h]
        split <;> omega
theorem map_vals {l : List V} (h : ∀ v ∈ l, v = .non ∨ ∃ i, v = .int i) {i : Nat} {x : V} (hx : l[i]? = some x) : (l.take (i + 1)).filterMap toI = (l.take i).filterMap toI ++ (toI x).toList := by
  rw [List.take_add_one, hx, List.filterMap_append]
  cases e : toI x <;> simp [e]
/-! ### least_since -/
abbrev s_least_since : Stmt := topS 2
abbrev N_least_since : List Str := ["prices", "begin", "within", "told", "day", "pence"]
theorem sc_least_since : FnScope N_least_since ["prices", "begin", "within"] (defScope s_least_since) := ⟨rfl, rfl, rfl, by decide +kernel, rfl, by decide +kernel, by decide +kernel⟩
def sp_least_since (K : PySem.W.Frag) : Sp := fun vs H Q _ => ∃ (L : Addr) (bg wi : Int) (as : List Addr) (ps : List (Int × Int)), vs = [.ref L, .int bg, .int wi] ∧ (SqL K H L (as.map V.ref) ∨ SqT K H L (as.map V.ref)) ∧ Prs H as ps ∧ 0 ≤ bg ∧ bg ≤ 400 ∧ 0 ≤ wi ∧ wi ≤ 400 ∧ ∀ H' v, Same H H' → IsLeast (vals ps bg (wi + 1).toNat) v → Q v H'
theorem ok_least_since {f : Addr} {fd : FuncData} (F : Fun K "least_since" "least_since" s_least_since f fd) (g : mg "least_since" = some (.ref f)) (bd : Binds K fd ["prices", "begin", "within"] []) (m_range : mg "range" = none) (m_min : mg "min" = none) (C_price_on : CF P w K mg base 1 "price_on" ["prices", "day"] (sp_price_on K)) : CF P w K mg base 2 "least_since" ["prices", "begin", "within"] (sp_least_since K) := by
  refine ⟨f, fd, F.ok sc_least_since (fun vs H Q E h => ?_) (fun cdv A outer s H vs Q E hr h => ?_), g, F.kp, bd⟩
  · first | (obtain ⟨_, rfl, _⟩ := h; rfl) | (obtain ⟨_, _, rfl, _⟩ := h; rfl) | (obtain ⟨_, _, _, rfl, _⟩ := h; rfl) | (obtain ⟨_, _, _, _, rfl, _⟩ := h; rfl) | (obtain ⟨_, _, _, _, _, rfl, _⟩ := h; rfl) | (obtain ⟨_, _, _, _, _, _, rfl, _⟩ := h; rfl) | (obtain ⟨_, _, _, _, _, _, _, rfl, _⟩ := h; rfl)
  · have hu64 := hr.units
    obtain ⟨L, bg, wi, as, ps, rfl, hS, hP, b0, b1, w0, w1, q⟩ := h
    refine ⟨_, (pss_cons (ps_setLc (i := 3) (own := [("day", 4)]) (g := (gName 4)) (tt := tYes) rfl sc_least_since.nd rfl rfl (sw_true rfl rfl rfl (by decide +kernel)) (pi_range2 (by rfl) m_range (pa_cons (pv 1) (pa_cons (pe_op op_add (pe_op op_add (pv 1) (pv 2)) pe_int) pa_nil))) (blkOk_by (own := [("day", 4)]) (N := N_least_since) (sc := defScope s_least_since) (by decide +kernel)) (fun _ _ _ _ _ => pg_name (i := 4) sc_least_since.nd rfl (Or.inl rfl)) (fun _ _ _ _ _ => pts_nil) (fun _ _ _ _ _ => (pe_cf C_price_on (hr.mono (by decide)) (by rfl) (pa_cons (pv 0) (pa_cons (pv 4) pa_nil)))))
      (pss_one (ps_ret (pe_callBK (call_minD K rfl hu64) (by rfl) m_min (by decide +kernel) (pa_cons (pe_lc (own := [("pence", 5)]) (g := (gName 5)) rfl sc_least_since.nd (pi_list (pv 3)) (blkOk_by (own := [("pence", 5)]) (N := N_least_since) (sc := defScope s_least_since) (by decide +kernel)) (fun _ _ _ _ _ => pg_name (i := 5) sc_least_since.nd rfl (Or.inl rfl)) (fun _ _ _ _ _ => (pts_one (pt_cmpR op_notN (pv 5) pe_non (nomark _)))) (fun _ _ _ _ _ => (pv 5))) pa_nil) (pk_cons pe_non pk_nil))))), ?_⟩
    have HJ := fun {X : Hp} (z : Same H X) => hS.elim (fun h => Or.inl (z.seq h)) (fun h => Or.inr (seqT_same z h))
    have hn : (bg + wi + 1 - bg).toNat = (wi + 1).toNat := by omega
    refine ⟨_, rfl, _, rfl, _, rfl, _, _, rfl, rfl, _, _, rfl, rfl, _, _, rfl, ⟨by omega, by omega, by omega, by omega⟩, fun D hD => lc_range (lo := bg) (n := (bg + wi + 1 - bg).toNat) (fun i H' => Same H H' ∧ H' D = some (.lst ((List.range i).map fun d : Nat => pOn ps (bg + d)))) ⟨same_new hD, upd_same⟩ (fun i H' hi h => ?_) (fun H1 h => ?_)⟩
    · refine ⟨rfl, _, rfl, _, rfl, L, _, as, ps, rfl, HJ h.1, hP.same h.1, _, h.2, ?_, ?_, ?_⟩
      · rw [List.length_map, List.length_range]
        exact small1000 (by omega)
      · exact fun c o e => by
          rw [upd_ne (ne_of_none e hD)]
          exact h.1 _ _ e
      · rw [upd_same, List.range_succ, List.map_append]
        rfl
    obtain ⟨s1, hDl⟩ := h
    rw [hn] at hDl
    have hvl : ∀ v ∈ ((List.range (wi + 1).toNat).map fun d : Nat => pOn ps (bg + d)), v = .non ∨ ∃ i, v = .int i := fun v hv => by
      obtain ⟨d, _, rfl⟩ := List.mem_map.mp hv
      exact pOn_is ps _
    have q2 := fun H' v (s : Same H H') (h : IsLeast (((List.range (wi + 1).toNat).map fun d : Nat => pOn ps (bg + d)).filterMap toI) v) => q H' v s h
    have hll : ((List.range (wi + 1).toNat).map fun d : Nat => pOn ps (bg + d)).length ≤ 401 := by
      rw [List.length_map, List.length_range]
      omega
    generalize ((List.range (wi + 1).toNat).map fun d : Nat => pOn ps (bg + d)) = l at *
    refine ⟨_, rfl, D, rfl, ⟨_, SqL.of hDl⟩, fun M nM => lc_list (K := K) (a := D) (xs := l) (fun i H' => Same H1 H' ∧ H' M = some (.lst (((l.take i).filterMap toI).map V.int))) ⟨same_new nM, upd_same⟩ (fun i H' _ h => SqL.of (h.1 _ _ hDl)) (fun i x H' hx h => ?_) (fun H2 h => ?_)⟩
    · have hi3 : i < l.length := (List.getElem?_eq_some_iff.mp hx).1
      have mv := map_vals hvl hx
      rcases hvl x (List.mem_of_getElem? hx) with rfl | ⟨j, rfl⟩
      · refine ⟨rfl, _, rfl, rfl, _, rfl, iteF ⟨h.1, ?_⟩⟩
        rw [mv, h.2]
        simp [toI]
      · refine ⟨rfl, _, rfl, rfl, _, rfl, iteT ⟨_, rfl, _, h.2, ?_, ?_, ?_⟩⟩
        · rw [List.length_map]
          refine Nat.lt_of_le_of_lt ?_ (small1000 (n := i) (by omega))
          exact Nat.le_trans (List.length_filterMap_le _ _) (by rw [List.length_take]; omega)
        · exact fun c o e => by
            rw [upd_ne (ne_of_none e nM)]
            exact h.1 _ _ e
        · rw [upd_same, mv, List.map_append]
          rfl
    · obtain ⟨s2, hM⟩ := h
      rw [List.take_of_length_le (Nat.le_refl _)] at hM
      exact ⟨M, _, rfl, rfl, SqL.of hM, fun e => q2 _ _ (s1.trans s2) (.inl ⟨e, rfl⟩), fun m m1 m2 => q2 _ _ (s1.trans s2) (.inr ⟨m, m1, m2, rfl⟩)⟩
/-! ### _law_one -/
abbrev s__law_one : Stmt := topS 7
abbrev N__law_one : List Str := ["_law_left_here", "_law_some"]
theorem sc__law_one : FnScope N__law_one ["_law_left_here", "_law_some"] (defScope s__law_one) := ⟨rfl, rfl, rfl, by decide +kernel, rfl, by decide +kernel, by decide +kernel⟩
def sp__law_one (K : PySem.W.Frag) : Sp := fun vs H Q _ => ∃ (b L : Addr) (n : Int) (as : List Addr), vs = [.ref b, .ref L] ∧ Three H b n ∧ n < 1000000 ∧ H L = some (.lst (as.map V.ref)) ∧ L ≠ b ∧ 0 < as.length ∧ as.length ≤ 60 ∧ ∀ (H' : Hp) (i : Nat) (a : Addr), as[i]? = some a → Three H' b (n + 1) → But b H H' → Q (.ref a) H'
theorem ref_at {as : List Addr} {i : Nat} {a : Addr} {e : Int} (he : e = i) (h : as[i]? = some a) : atI (as.map V.ref) e = some (.ref a) := by
  rw [he]
  refine atI_nat ?_
  rw [List.getElem?_map, h]
  rfl
theorem ok__law_one {f : Addr} {fd : FuncData} (F : Fun K "_law_one" "_law_one" s__law_one f fd) (g : mg "_law_one" = some (.ref f)) (bd : Binds K fd ["_law_left_here", "_law_some"] []) (m_len : mg "len" = none) (C__law_pick : CF P w K mg base 2 "_law_pick" ["_law_left_here", "_law_many"] (sp__law_pick K)) : CF P w K mg base 3 "_law_one" ["_law_left_here", "_law_some"] (sp__law_one K) := by
  refine ⟨f, fd, F.ok sc__law_one (fun vs H Q E h => ?_) (fun cdv A outer s H vs Q E hr h => ?_), g, F.kp, bd⟩
  · first | (obtain ⟨_, rfl, _⟩ := h; rfl) | (obtain ⟨_, _, rfl, _⟩ := h; rfl) | (obtain ⟨_, _, _, rfl, _⟩ := h; rfl) | (obtain ⟨_, _, _, _, rfl, _⟩ := h; rfl) | (obtain ⟨_, _, _, _, _, rfl, _⟩ := h; rfl) | (obtain ⟨_, _, _, _, _, _, rfl, _⟩ := h; rfl) | (obtain ⟨_, _, _, _, _, _, _, rfl, _⟩ := h; rfl)
  · have hu64 := hr.units
    obtain ⟨b, L, n, as, rfl, hb, hn, hL, nLb, l0, l1, q⟩ := h
    refine ⟨_, (pss_one (ps_ret (pe_ix (kk_ixl K) (pv 1) (pe_cf C__law_pick (hr.mono (by decide)) (by rfl) (pa_cons (pv 0) (pa_cons (pe_callB (kk_len K) (by rfl) m_len PySem.boot_len (pa_cons (pv 1) pa_nil)) pa_nil))) (fun _ _ => rfl)))), ?_⟩
    refine ⟨_, rfl, _, rfl, _, rfl, L, _, rfl, .inl (SqL.of hL), b, _, n, rfl, hb, ?_, ?_, by omega, fun r H1 r0 r1 b1 t1 => ?_⟩
    · rw [List.length_map]
      omega
    · rw [List.length_map]
      omega
    rw [List.length_map] at r1
    obtain ⟨j, rfl⟩ := Int.eq_ofNat_of_zero_le r0
    have hj : j < as.length := by omega
    have e := List.getElem?_eq_getElem hj
    exact ⟨L, _, _, _, rfl, rfl, SqL.of (t1 _ _ nLb hL), ref_at rfl e, q _ j _ e b1 t1⟩
section
variable {K : PySem.W.Frag} {σ : L2.St} {H : Hp} {Q : VK} {b : Addr} {n : Int}
theorem great_any {k : Int} (h1 : σ[1]? = some (some (.int k))) (h2 : σ[2]? = some (some (.ref b))) (hb : Three H b n) (hn : n < 1000000) (q : ∀ (gr : Bool) H2, Three H2 b (n + 1) → But b H H2 → Q (.bl gr) H2) :
    tAndV (tOp rEq (tVar 1) (tC (V.int 0))) (tOp rEq (tCall (sp__law_pick K) [] E0 (tCons (tVar 2) (tCons (tC (V.int 6)) tNil))) (tC (V.int 0))) σ H Q := by
  refine ⟨_, h1, rfl, _, rfl, ite2 (fun _ => ?_) (fun z => ?_)⟩
  · exact ⟨_, h2, b, 6, n, rfl, hb, by decide, by decide, by omega, fun x H2 _ _ b2 t2 => ⟨rfl, q _ _ b2 t2⟩⟩
  · exact q _ _ (hb.mono (by omega)) (But.refl b H)
theorem many_any {gr : Bool} (h1 : σ[3]? = some (some (.bl gr))) (h2 : σ[2]? = some (some (.ref b))) (hb : Three H b n) (hn : n < 1000000) (q : ∀ (m : Int) H2, 0 ≤ m → m ≤ 40 → Three H2 b (n + 1) → But b H H2 → Q (.int m) H2) :
    tIf (tB (tVar 3)) (tC (V.int 40)) (tCall (sp__law_pick K) [] E0 (tCons (tVar 2) (tCons (tC (V.int 9)) tNil))) σ H Q := by
  refine ⟨_, h1, gr, rfl, ?_⟩
  cases gr with
  | true => exact iteT (q 40 H (by decide) (by decide) (hb.mono (by omega)) (But.refl b H))
  | false => exact iteF ⟨_, h2, b, 9, n, rfl, hb, by decide, by decide, by omega, fun x H2 x0 x1 b2 t2 => q x H2 x0 (by omega) b2 t2⟩
end
/-! ### _law_due -/
abbrev s__law_due : Stmt := topS 9
abbrev N__law_due : List Str := ["_law_prices_here", "_law_begin", "_law_within", "_law_found", "_law_now", "_law_rest", "_law_day"]
theorem sc__law_due : FnScope N__law_due ["_law_prices_here", "_law_begin", "_law_within"] (defScope s__law_due) := ⟨rfl, rfl, rfl, by decide +kernel, rfl, by decide +kernel, by decide +kernel⟩
def sp__law_due (K : PySem.W.Frag) : Sp := fun vs H Q _ => ∃ (L : Addr) (bg wi : Int) (as : List Addr) (ps : List (Int × Int)), vs = [.ref L, .int bg, .int wi] ∧ SqL K H L (as.map V.ref) ∧ Prs H as ps ∧ RiseS ps ∧ Okp ps ∧ ps.length ≤ 60 ∧ 0 ≤ bg ∧ bg ≤ 400 ∧ 0 ≤ wi ∧ wi ≤ 400 ∧ ∀ H' v, Same H H' → IsLeast (vals ps bg (wi + 1).toNat) v → Q v H'
theorem ok__law_due {f : Addr} {fd : FuncData} (F : Fun K "_law_due" "_law_due" s__law_due f fd) (g : mg "_law_due" = some (.ref f)) (bd : Binds K fd ["_law_prices_here", "_law_begin", "_law_within"] []) (m_list : mg "list" = none) (m_range : mg "range" = none) (m_min : mg "min" = none) : CF P w K mg base 1 "_law_due" ["_law_prices_here", "_law_begin", "_law_within"] (sp__law_due K) := by
  refine ⟨f, fd, F.ok sc__law_due (fun vs H Q E h => ?_) (fun cdv A outer s H vs Q E hr h => ?_), g, F.kp, bd⟩
  · first | (obtain ⟨_, rfl, _⟩ := h; rfl) | (obtain ⟨_, _, rfl, _⟩ := h; rfl) | (obtain ⟨_, _, _, rfl, _⟩ := h; rfl) | (obtain ⟨_, _, _, _, rfl, _⟩ := h; rfl) | (obtain ⟨_, _, _, _, _, rfl, _⟩ := h; rfl) | (obtain ⟨_, _, _, _, _, _, rfl, _⟩ := h; rfl) | (obtain ⟨_, _, _, _, _, _, _, rfl, _⟩ := h; rfl)
  · have hu64 := hr.units
    obtain ⟨L, bg, wi, as, ps, rfl, hS, hP, hrs, hok, hl60, b0, b1, w0, w1, q⟩ := h
    refine ⟨_, (pss_cons (ps_par3 (i := 3) (j := 4) (l := 5) (by rfl) sc__law_due.nd rfl rfl rfl (by decide) (by decide) (by decide) rfl rfl rfl (pa_cons pe_non (pa_cons pe_non (pa_cons (pe_callTy (kk_list K) (by rfl) m_list (by decide +kernel) (pa_cons (pv 0) pa_nil)) pa_nil))) (by rfl))
      (pss_cons (ps_for PassesOwn.never rfl (pi_range1 (by rfl) m_range (pa_cons (pe_op op_add (pe_op op_add (pv 1) (pv 2)) pe_int) pa_nil)) (pg_name (i := 6) sc__law_due.nd rfl (.inl rfl))
         (pss_cons (ps_while PassesOwn.never (PW.pt (pw_and (pt_cmpR (kk_neD K hu64) (pv 5) (pe_lst pa_nil) (nomark _)) (pw_and1 (pt_cmpR op_le (pe_ix (kk_ixt K) (pe_ix (kk_ixl K) (pv 5) pe_int (fun _ _ => rfl)) pe_int (fun _ _ => rfl)) (pv 6) (nomark _)))))
             (pss_one (ps_set (i := 4) sc__law_due.nd rfl (.inl rfl) (pe_ix (kk_ixt K) (pe_bm PySem.F.plainAttrs_list PySem.F.slot_list_pop PySem.F.type_list_pop mt_popAt (pv 5) (pa_cons pe_int pa_nil)) pe_int (fun _ _ => rfl)))))
          (pss_one (ps_if (PW.pt (pw_and (pt_cmpR op_ge (pv 6) (pv 1) (nomark _)) (pw_and1 (pt_cmpR op_notN (pv 4) pe_non (nomark _)))))
             (pss_one (ps_set (i := 3) sc__law_due.nd rfl (.inl rfl) (pe_ifExp (pt_cmpR op_isN (pv 3) pe_non (nomark _)) (pv 4) (pe_callB (call_min2 rfl) (by rfl) m_min (by decide +kernel) (pa_cons (pv 3) (pa_cons (pv 4) pa_nil))))))
             pss_nil))))
      (pss_one (ps_ret (pv 3))))), ?_⟩
    have al := hP.1
    refine ⟨_, rfl, L, _, rfl, .inl hS, fun R nR => ⟨_, _, _, rfl, ?_⟩⟩
    have sR := same_new (o := .lst (as.map V.ref)) nR
    refine ⟨_, rfl, _, rfl, _, _, rfl, rfl, _, _, rfl, rfl, _, rfl, by omega, by omega, for_range (fun D σ H' => ∃ (k : Nat) (fv : V) (s6 : Option V), σ = [some (.ref L), some (.int bg), some (.int wi), some fv, some (pv' ps k), some (.ref R), s6] ∧ k ≤ ps.length ∧ IsLeast (vals ps bg ((D : Int) - bg).toNat) fv ∧ Same H H' ∧ H' R = some (.lst ((as.drop k).map V.ref)) ∧ ∀ p ∈ ps.take k, p.1 < D) ⟨0, .non, _, rfl, Nat.zero_le _, .inl ⟨by rw [show (((0 : Nat) : Int) - bg).toNat = 0 by omega]; rfl, rfl⟩, sR, upd_same, fun p h => (nomatch h)⟩ (fun D σ H' hD h => ?_) (fun σ H' h => ?_)⟩
    · obtain ⟨k, fv, s6, rfl, hk, hfv, sm, hR, hlo⟩ := h
      rw [Int.zero_add]
      refine ⟨fun n σ H2 => ∃ k : Nat, σ = [some (.ref L), some (.int bg), some (.int wi), some fv, some (pv' ps k), some (.ref R), some (.int D)] ∧ n = ps.length - k ∧ k ≤ ps.length ∧ Same H H2 ∧ H2 R = some (.lst ((as.drop k).map V.ref)) ∧ ∀ p ∈ ps.take k, p.1 ≤ D, ⟨_, k, rfl, rfl, hk, sm, hR, fun p hp => Int.le_of_lt (hlo p hp)⟩, fun n σ H2 h => ?_⟩
      obtain ⟨k, rfl, hn, hk, sm, hR, hlo⟩ := h
      refine ⟨_, rfl, (by show 0 ≤ sizeLine; decide), fun nn hnn => ?_⟩
      have sN := same_new (o := .lst []) hnn
      refine ⟨_, _, prs_dp (SqL.of (sN _ _ hR)) (((hP.same sm).same sN).drop k), .lst (SqL.of upd_same) .nil, sh_pr _, sh_pr [], ?_⟩
      rw [pr_nil]
      have sm := sm.trans sN
      have hR := sN _ _ hR
      generalize upd H2 nn (.lst []) = G2 at *
      have next : (∀ p ∈ ps.drop k, (D : Int) < p.1) → ∀ (E1 : Ends), (∀ σ2 H3, (∃ (k : Nat) (fv : V) (s6 : Option V), σ2 = [some (.ref L), some (.int bg), some (.int wi), some fv, some (pv' ps k), some (.ref R), s6] ∧ k ≤ ps.length ∧ IsLeast (vals ps bg (((D + 1 : Nat) : Int) - bg).toNat) fv ∧ Same H H3 ∧ H3 R = some (.lst ((as.drop k).map V.ref)) ∧ ∀ p ∈ ps.take k, p.1 < (D + 1 : Nat)) → E1.nx σ2 H3) →
          tIfS (tAnd (tTest (tOp (rI0 fun i j => V.bl (decide (i ≥ j))) (tVar 6) (tVar 1))) (tTest (tOp (fun x y H Q => y = V.non ∧ Q (V.bl (!decide (x = V.non))) H) (tVar 4) (tC V.non)))) (tAsg (tIf (tTest (tOp (fun x y H Q => y = V.non ∧ Q (V.bl (decide (x = V.non))) H) (tVar 3) (tC V.non))) (tVar 4) (tCB (fun xs H Q => ∃ i j, xs = [V.int i, V.int j] ∧ Q (V.int (if j < i then j else i)) H) (tCons (tVar 3) (tCons (tVar 4) tNil)))) (gName 3)) tNext E1 [some (.ref L), some (.int bg), some (.int wi), some fv, some (pv' ps k), some (.ref R), some (.int D)] G2 := fun hgt E1 hE => by
        have hpo := pv_on hlo hgt
        have fin : ∀ fv', IsLeast (vals ps bg (((D + 1 : Nat) : Int) - bg).toNat) fv' → E1.nx [some (.ref L), some (.int bg), some (.int wi), some fv', some (pv' ps k), some (.ref R), some (.int D)] G2 := fun fv' h => hE _ _ ⟨k, fv', _, rfl, hk, h, sm, hR, fun p hp => by have := hlo p hp; omega⟩
        refine ⟨_, rfl, _, rfl, _, _, rfl, rfl, _, rfl, ite2 (fun z => ?_) (fun z => ?_)⟩
        · have z1 : (D : Int) ≥ bg := of_decide_eq_true z
          have ev := vals_s ps bg ((D : Int) - bg).toNat
          rw [show bg + ((((D : Int) - bg).toNat : Nat) : Int) = D by omega, hpo, show ((D : Int) - bg).toNat + 1 = (((D + 1 : Nat) : Int) - bg).toNat by omega] at ev
          rcases pv_is ps k with e | ⟨i, e⟩
          · rw [e] at ev fin ⊢
            refine ⟨_, rfl, rfl, _, rfl, iteF (fin fv ?_)⟩
            rw [ev]
            show IsLeast (_ ++ []) fv
            rw [List.append_nil]
            exact hfv
          · rw [e] at ev fin ⊢
            have la := least_add (i := i) hfv
            have ev2 : vals ps bg (((D + 1 : Nat) : Int) - bg).toNat = vals ps bg ((D : Int) - bg).toNat ++ [i] := ev
            rw [← ev2] at la
            refine ⟨_, rfl, rfl, _, rfl, iteT ?_⟩
            rcases least_is hfv with rfl | ⟨j, rfl⟩
            · exact ⟨_, rfl, rfl, _, rfl, iteT ⟨_, rfl, fin _ la⟩⟩
            · exact ⟨_, rfl, rfl, _, rfl, iteF ⟨_, rfl, _, rfl, _, _, rfl, fin _ la⟩⟩
        · have z1 : ¬ (D : Int) ≥ bg := fun y => z (decide_eq_true y)
          refine iteF (fin fv ?_)
          rw [show (((D + 1 : Nat) : Int) - bg).toNat = ((D : Int) - bg).toNat by omega]
          exact hfv
      by_cases hz : ps.drop k = []
      · rw [decide_eq_true hz]
        exact ⟨_, rfl, iteF (iteF (next (fun p hp => by rw [hz] at hp; cases hp) _ (fun _ _ h => h)))⟩
      · rw [decide_eq_false hz]
        have hk2 : k < ps.length := by
          refine Decidable.byContradiction fun z => hz (List.drop_eq_nil_of_le (by omega))
        have hka : k < as.length := by omega
        have ha := List.getElem?_eq_getElem hka
        have hp := List.getElem?_eq_getElem hk2
        have hA := (hP.same sm).2 _ _ _ ha hp
        have hda : as.drop k = as[k] :: as.drop (k + 1) := List.drop_eq_getElem_cons hka
        have hdp : ps.drop k = ps[k] :: ps.drop (k + 1) := List.drop_eq_getElem_cons hk2
        have at0 : atI ((as.drop k).map V.ref) 0 = some (.ref as[k]) := by
          rw [hda]
          exact atI_nat (j := 0) rfl
        refine ⟨_, rfl, iteT ⟨_, rfl, R, _, _, _, rfl, rfl, SqL.of hR, at0, as[k], _, _, _, rfl, rfl, SqT.of hA, rfl, _, rfl, _, _, rfl, rfl, _, rfl, ite2 (fun y => ?_) (fun y => ?_)⟩⟩
        · have y1 : ps[k].1 ≤ (D : Int) := of_decide_eq_true y
          refine ⟨_, fun σ2 H3 h3 => ⟨ps.length - (k + 1), by omega, h3⟩, ?_⟩
          refine ⟨_, rfl, .inl ⟨rfl, _, SqL.of hR⟩, R, _, _, 0, .ref as[k], rfl, rfl, hR, by decide, by decide, ?_, ?_, ?_⟩
          · rw [List.length_map, List.length_drop]
            unfold seqIndex?
            simp
            omega
          · rw [hda]
            rfl
          have hA3 : (upd G2 R (.lst (((as.drop k).map V.ref).eraseIdx 0))) as[k] = some (.tup [.int ps[k].1, .int ps[k].2]) := by
            rw [upd_ne (ne_of hA hR (by intro z; cases z))]
            exact hA
          refine ⟨as[k], _, _, _, rfl, rfl, SqT.of hA3, rfl, k + 1, ?_, rfl, by omega, ?_, ?_, ?_⟩
          · rw [pv_s hp]
            rfl
          · exact fun c o e => by
              rw [upd_ne (ne_of_none e nR)]
              exact sm _ _ e
          · rw [upd_same, hda]
            rfl
          · intro p hp'
            rw [List.take_add_one, hp] at hp'
            rcases List.mem_append.mp hp' with h | h
            · exact hlo p h
            · rw [List.mem_singleton.mp h]
              exact y1
        · have y1 : ¬ ps[k].1 ≤ (D : Int) := fun y' => y (decide_eq_true y')
          refine next (fun p hp' => ?_) _ (fun _ _ h => h)
          have h2 : ps[k].1 ≤ p.1 := by
            have hpw : RiseS (ps.drop k) := hrs.sublist (List.drop_sublist _ _)
            rw [hdp] at hp' hpw
            rcases List.mem_cons.mp hp' with h | h
            · rw [h]
              exact Int.le_refl _
            · exact Int.le_of_lt ((List.pairwise_cons.mp hpw).1 p h)
          omega
    · obtain ⟨k, fv, s6, rfl, hk, hfv, sm, hR, hlo⟩ := h
      rw [show ((((bg + wi + 1).toNat : Nat) : Int) - bg).toNat = (wi + 1).toNat by omega] at hfv
      exact ⟨_, rfl, q _ _ sm hfv⟩
theorem pick4j {r x y z u lo hi : Int} (h0 : 0 ≤ r) (h1 : r < 4) (hx : lo ≤ x ∧ x ≤ hi) (hy : lo ≤ y ∧ y ≤ hi) (hz : lo ≤ z ∧ z ≤ hi) (hu : lo ≤ u ∧ u ≤ hi) : ∃ v : Int, atI [V.int x, .int y, .int z, .int u] r = some (.int v) ∧ lo ≤ v ∧ v ≤ hi := by
  have h : r = 0 ∨ r = 1 ∨ r = 2 ∨ r = 3 := by omega
  rcases h with rfl | rfl | rfl | rfl
  · exact ⟨x, rfl, hx⟩
  · exact ⟨y, rfl, hy⟩
  · exact ⟨z, rfl, hz⟩
  · exact ⟨u, rfl, hu⟩
theorem log_small {i : Int} (h0 : 0 ≤ i) (h1 : i ≤ 1000000) : i.natAbs.log2 < 1920 := by
  by_cases z : i.natAbs = 0
  · rw [z]
    decide
  · have : i.natAbs.log2 < 20 := (Nat.log2_lt z).mpr (by show i.natAbs < 1048576; omega)
    omega
theorem pr_show : ∀ {ps : List (Int × Int)}, Okp ps → PyData.showableAll (ps.map prD) = true
  | [], _ => rfl
  | p :: r, h => by
    obtain ⟨a, b, c, d⟩ := h p List.mem_cons_self
    have h1 := log_small a (by omega)
    have h2 := log_small (i := p.2) (by omega) d
    rw [List.map_cons]
    simp only [PyData.showableAll, prD, PyData.showable, h1, h2, decide_true, Bool.and_true, Bool.true_and]
    exact pr_show fun x hx => h x (List.mem_cons_of_mem _ hx)
theorem one_len {p : Int × Int} (h : 0 ≤ p.1 ∧ p.1 ≤ 400 ∧ 1 ≤ p.2 ∧ p.2 ≤ 1000000) : (PyData.shown (prD p)).length ≤ 20 := by
  have l1 := PyProof.Rows.toString_length_le (v := p.1) h.1 (k := 3) (by decide) (by show p.1 < 1000; omega)
  have l2 := PyProof.Rows.toString_length_le (v := p.2) (by omega) (k := 7) (by decide) (by show p.2 < 10000000; omega)
  unfold prD
  rw [PyData.shown_tuple, PyData.shownAll_cons, PyData.shownAll_cons, PyData.shownAll_nil]
  show (_ ++ (PyData.shown (.int p.1) ++ _ ++ PyData.shown (.int p.2)) ++ _).length ≤ 20
  rw [len_app, len_app, len_app, len_app]
  have e1 : PyData.shown (.int p.1) = Str.ofString (toString p.1) := by simp only [PyData.shown]
  have e2 : PyData.shown (.int p.2) = Str.ofString (toString p.2) := by simp only [PyData.shown]
  rw [e1, e2]
  show 1 + ((Str.ofString (toString p.1)).length + 2 + (Str.ofString (toString p.2)).length) + 1 ≤ 20
  omega
theorem sum_len : ∀ {ps : List (Int × Int)}, Okp ps → ((PyData.shownAll (ps.map prD)).map (·.length)).sum ≤ 20 * ps.length ∧ (PyData.shownAll (ps.map prD)).length = ps.length
  | [], _ => ⟨Nat.le_refl _, rfl⟩
  | p :: r, h => by
    obtain ⟨a, b⟩ := sum_len (ps := r) fun x hx => h x (List.mem_cons_of_mem _ hx)
    have c := one_len (h p List.mem_cons_self)
    rw [List.map_cons, PyData.shownAll_cons, List.map_cons, List.sum_cons, List.length_cons, List.length_cons, b]
    exact ⟨by omega, rfl⟩
theorem join_le2 (sep : Str) : ∀ ts : List Str, (Str.join sep ts).length ≤ (ts.map (·.length)).sum + ts.length * sep.length
  | [] => Nat.zero_le _
  | [x] => by
    show x.length ≤ _
    simp only [List.map_cons, List.map_nil, List.sum_cons, List.sum_nil]
    omega
  | x :: y :: r => by
    have h := join_le2 sep (y :: r)
    show (x ++ sep ++ Str.join sep (y :: r)).length ≤ _
    rw [len_app, len_app, List.map_cons, List.sum_cons, List.length_cons, Nat.add_mul, Nat.one_mul]
    omega
theorem pr_len {ps : List (Int × Int)} (h : Okp ps) (hl : ps.length ≤ 60) : (PyData.shown (.list (ps.map prD))).length ≤ sizeLine := by
  obtain ⟨a, b⟩ := sum_len h
  rw [PyData.shown_list, len_app, len_app, sizeLine_eq]
  have c := join_le2 ", " (PyData.shownAll (ps.map prD))
  rw [b] at c
  have e1 : (Str.ofString "[").length = 1 := rfl
  have e2 : (Str.ofString "]").length = 1 := rfl
  have e3 : (Str.ofString ", ").length = 2 := rfl
  rw [e1, e2]
  rw [e3] at c
  omega
/-! ### law -/
abbrev s_law : Stmt := topS 10
abbrev N_law : List Str := ["_law_script", "_law_k", "_law_left_here", "_law_great", "_law_prices_here", "_law_kept", "_law_turn", "_law_begin", "_law_within", "_law_found", "_law_due_here"]
theorem sc_law : FnScope N_law ["_law_script"] (defScope s_law) := ⟨rfl, rfl, rfl, by decide +kernel, rfl, by decide +kernel, by decide +kernel⟩
def sp_law (K : PySem.W.Frag) : Sp := fun vs H Q _ => ∃ (a : Addr) (ns : List Int), vs = [.ref a] ∧ SqL K H a (ns.map V.int) ∧ ns.length ≤ 63 ∧ ∀ H', Q (.bl true) H'
theorem ok_law {f : Addr} {fd : FuncData} (F : Fun K "law" "law" s_law f fd) (m_range : mg "range" = none) (m_max : mg "max" = none) (m_min : mg "min" = none) (m_len : mg "len" = none) (m_repr : mg "repr" = none) (m_isinstance : mg "isinstance" = none) (m_bool : mg "bool" = none) (m_tuple : mg "tuple" = none) (C__law_left : CF P w K mg base 1 "_law_left" ["_law_script", "_law_k"] (sp__law_left K)) (C__law_pick : CF P w K mg base 2 "_law_pick" ["_law_left_here", "_law_many"] (sp__law_pick K)) (C__law_prices : CF P w K mg base 3 "_law_prices" ["_law_left_here", "_law_many"] (sp__law_prices K)) (C__law_one : CF P w K mg base 3 "_law_one" ["_law_left_here", "_law_some"] (sp__law_one K)) (C__law_due : CF P w K mg base 1 "_law_due" ["_law_prices_here", "_law_begin", "_law_within"] (sp__law_due K)) (C_least_since : CF P w K mg base 2 "least_since" ["prices", "begin", "within"] (sp_least_since K)) : FnG P w K mg base 4 f fd ["_law_script"] (sp_law K) := by
  refine okG F sc_law (fun vs H Q E h => ?_) (fun cdv A outer s H vs Q E hr gd h => ?_)
  · first | (obtain ⟨_, rfl, _⟩ := h; rfl) | (obtain ⟨_, _, rfl, _⟩ := h; rfl) | (obtain ⟨_, _, _, rfl, _⟩ := h; rfl) | (obtain ⟨_, _, _, _, rfl, _⟩ := h; rfl) | (obtain ⟨_, _, _, _, _, rfl, _⟩ := h; rfl) | (obtain ⟨_, _, _, _, _, _, rfl, _⟩ := h; rfl) | (obtain ⟨_, _, _, _, _, _, _, rfl, _⟩ := h; rfl)
  · have hu64 := hr.units
    obtain ⟨a, ns, rfl, hS, hlen, q⟩ := h
    refine ⟨_, (pss_cons (ps_for PassesOwn.never rfl (pi_range1 (by rfl) m_range (pa_cons (pe_callB (call_max2 rfl) (by rfl) m_max (by decide +kernel) (pa_cons pe_int (pa_cons (pe_callB (call_min2 rfl) (by rfl) m_min (by decide +kernel) (pa_cons pe_int (pa_cons (pe_callB (kk_len K) (by rfl) m_len PySem.boot_len (pa_cons (pv 0) pa_nil)) pa_nil))) pa_nil))) pa_nil)) (pg_name (i := 1) sc_law.nd rfl (.inl rfl))
         (pss_cons (ps_set (i := 2) sc_law.nd rfl (.inl rfl) (pe_cf C__law_left (hr.mono (by decide)) (by rfl) (pa_cons (pv 0) (pa_cons (pv 1) pa_nil))))
          (pss_cons (ps_set (i := 3) sc_law.nd rfl (.inl rfl) (pe_and (pe_cmpR op_eq (pv 1) pe_int (nomark _)) (pe_one (pe_cmpR op_eq (pe_cf C__law_pick (hr.mono (by decide)) (by rfl) (pa_cons (pv 2) (pa_cons pe_int pa_nil))) pe_int (nomark _)))))
          (pss_cons (ps_set (i := 4) sc_law.nd rfl (.inl rfl) (pe_cf C__law_prices (hr.mono (by decide)) (by rfl) (pa_cons (pv 2) (pa_cons (pe_ifExp (pt_val (pv 3)) pe_int (pe_cf C__law_pick (hr.mono (by decide)) (by rfl) (pa_cons (pv 2) (pa_cons pe_int pa_nil)))) pa_nil))))
          (pss_cons (ps_set (i := 5) sc_law.nd rfl (.inl rfl) (pe_callB (kk_repr K gd hu64) (by rfl) m_repr (by decide +kernel) (pa_cons (pv 4) pa_nil)))
          (pss_one (ps_for PassesOwn.never rfl (pi_range1 (by rfl) m_range (pa_cons pe_int pa_nil)) (pg_name (i := 6) sc_law.nd rfl (.inl rfl))
             (pss_cons (ps_set (i := 7) sc_law.nd rfl (.inl rfl) (pe_ix (kk_ixl K) (pe_lst (pa_cons pe_int (pa_cons (pe_cf C__law_pick (hr.mono (by decide)) (by rfl) (pa_cons (pv 2) (pa_cons pe_int pa_nil))) pa_nil))) (pe_cf C__law_pick (hr.mono (by decide)) (by rfl) (pa_cons (pv 2) (pa_cons pe_int pa_nil))) (fun _ _ => rfl)))
              (pss_cons (ps_if (PW.pt (pw_and (pt_cmpR (kk_neD K hu64) (pv 4) (pe_lst pa_nil) (nomark _)) (pw_and1 (pt_cmpR op_eq (pe_cf C__law_pick (hr.mono (by decide)) (by rfl) (pa_cons (pv 2) (pa_cons pe_int pa_nil))) pe_int (nomark _)))))
                 (pss_one (ps_set (i := 7) sc_law.nd rfl (.inl rfl) (pe_callB (call_max2 rfl) (by rfl) m_max (by decide +kernel) (pa_cons pe_int (pa_cons (pe_callB (call_min2 rfl) (by rfl) m_min (by decide +kernel) (pa_cons pe_int (pa_cons (pe_op op_sub (pe_op op_add (pe_ix (kk_ixt K) (pe_cf C__law_one (hr.mono (by decide)) (by rfl) (pa_cons (pv 2) (pa_cons (pv 4) pa_nil))) pe_int (fun _ _ => rfl)) (pe_cf C__law_pick (hr.mono (by decide)) (by rfl) (pa_cons (pv 2) (pa_cons pe_int pa_nil)))) pe_int) pa_nil))) pa_nil)))))
                 pss_nil)
              (pss_cons (ps_set (i := 8) sc_law.nd rfl (.inl rfl) (pe_ix (kk_ixl K) (pe_lst (pa_cons pe_int (pa_cons (pe_cf C__law_pick (hr.mono (by decide)) (by rfl) (pa_cons (pv 2) (pa_cons pe_int pa_nil))) (pa_cons (pe_cf C__law_pick (hr.mono (by decide)) (by rfl) (pa_cons (pv 2) (pa_cons pe_int pa_nil))) (pa_cons pe_int pa_nil))))) (pe_cf C__law_pick (hr.mono (by decide)) (by rfl) (pa_cons (pv 2) (pa_cons pe_int pa_nil))) (fun _ _ => rfl)))
              (pss_cons (ps_par (i := 9) (j := 10) (by rfl) sc_law.nd rfl rfl (by decide) rfl rfl (pa_cons (pe_cf C_least_since (hr.mono (by decide)) (by rfl) (pa_cons (pv 4) (pa_cons (pv 7) (pa_cons (pv 8) pa_nil)))) (pa_cons (pe_cf C__law_due (hr.mono (by decide)) (by rfl) (pa_cons (pv 4) (pa_cons (pv 7) (pa_cons (pv 8) pa_nil)))) pa_nil)) (by rfl))
              (pss_cons (ps_if (PW.pt (pw_or (pt_cmpR op_ne (pe_cmpR op_isN (pv 9) pe_non (nomark _)) (pe_cmpR op_isN (pv 10) pe_non (nomark _)) (nomark _)) (pw_or (pt_val (pe_callB (kk_isi K) (by rfl) m_isinstance (by decide +kernel) (pa_cons (pv 9) (pa_cons (pe_bltn (v := .ty "bool") (by rfl) m_bool (by decide +kernel) rfl) pa_nil)))) (pw_or1 (pt_cmpR op_ne (pv 9) (pv 10) (nomark _))))))
                 (pss_one (ps_ret pe_bl))
                 pss_nil)
              (pss_one (ps_if (PW.pt (pw_or (pt_cmpR op_ne (pe_cf C_least_since (hr.mono (by decide)) (by rfl) (pa_cons (pe_callTy (kk_tuple K) (by rfl) m_tuple (by decide +kernel) (pa_cons (pv 4) pa_nil)) (pa_cons (pv 7) (pa_cons (pv 8) pa_nil)))) (pv 10) (nomark _)) (pw_or1 (pt_cmpR op_ne (pe_callB (kk_repr K gd hu64) (by rfl) m_repr (by decide +kernel) (pa_cons (pv 4) pa_nil)) (pv 5) (nomark _)))))
                 (pss_one (ps_ret pe_bl))
                 pss_nil))))))))))))))
      (pss_one (ps_ret pe_bl))), ?_⟩
    refine ⟨_, rfl, a, _, rfl, .inl hS, _, _, rfl, _, _, rfl, _, rfl, ?_, ?_, for_range (fun i σ H' => ∃ s1 s2 s3 s4 s5 s6 s7 s8 s9 s10, σ = [some (.ref a), s1, s2, s3, s4, s5, s6, s7, s8, s9, s10] ∧ Same H H') ⟨_, _, _, _, _, _, _, _, _, _, rfl, Same.refl H⟩ (fun i0 σ H' hi h => ?_) (fun σ H' _ => q _)⟩
    · split <;> (try split) <;> omega
    · split <;> (try split) <;> omega
    · obtain ⟨s1, s2, s3, s4, s5, s6, s7, s8, s9, s10, rfl, sm⟩ := h
      have hi2 : i0 < 10 := by
        split at hi
        · split at hi <;> omega
        · omega
      refine ⟨_, rfl, _, rfl, a, _, ns, rfl, sm.seq hS, by omega, by omega, fun H1 b nb sb hb => ?_⟩
      have nb0 : H b = none := sm.free nb
      refine great_any rfl rfl hb (by decide) fun gr H2 b2 t2 => ?_
      refine ⟨_, rfl, many_any rfl rfl b2 (by decide) fun many H3 m0 m1 b3 t3 => ?_⟩
      refine ⟨b, many, _, rfl, b3, by decide, m0, by omega, fun H4 L as ps b4 t4 nL nLb hL hP hrs hok hlp => ?_⟩
      have hl60 : ps.length ≤ 60 := by omega
      have sm4 : Same H H4 := same_but (same_but (same_but (sm.trans sb) nb0 t2) nb0 t3) nb0 t4
      have sw : PyData.showable (.list (ps.map prD)) = true := by
        simp only [PyData.showable]
        exact pr_show hok
      have sl' := pr_len hok hl60
      have dp60 : PyData.depth (.list (ps.map prD)) ≤ 60 := by
        have := depth_pr ps
        simp only [PyData.depth]
        omega
      have nd : PyData.hasDict (.list (ps.map prD)) = false := by
        have : ∀ ps : List (Int × Int), PyData.hasDictAll (ps.map prD) = false := fun ps => by
          induction ps with
          | nil => rfl
          | cons p r ih => simp [PyData.hasDictAll, PyData.hasDict, prD, ih]
        simp [PyData.hasDict, this]
      refine ⟨_, rfl, _, _, rfl, prs_dp (SqL.of hL) hP, sw, sl', dp60, nd, ?_⟩
      refine ⟨_, rfl, by decide, by decide, for_range (fun tn σ H' => ∃ s6 s7 s8 s9 s10, σ = [some (.ref a), some (.int (0 + i0)), some (.ref b), some (.bl gr), some (.ref L), some (.str (PyData.shown (.list (ps.map prD)))), s6, s7, s8, s9, s10] ∧ But b H4 H' ∧ Three H' b (200 + 20 * tn) ∧ Prs H' as ps ∧ H' L = some (.lst (as.map V.ref))) ⟨_, _, _, _, _, rfl, But.refl b H4, b4.mono (by omega), hP, hL⟩ (fun tn σ H' htn h => ?_) (fun σ H' h => ?_)⟩
      · obtain ⟨s6, s7, s8, s9, s10, rfl, tX, bX, hPX, hLX⟩ := h
        have htn2 : tn < 10 := htn
        refine ⟨_, rfl, b, 401, _, rfl, bX, by decide, by decide, by omega, fun y1 J1 y10 y11 d1 v1 => ⟨(by show 2 ≤ sizeLine; decide), fun l0 nl0 => ?_⟩⟩
        have sl0 := same_new (o := .lst [.int 0, .int y1]) nl0
        refine ⟨_, rfl, b, 2, _, rfl, d1.new nl0, by decide, by decide, by omega, fun y2 J2 y20 y21 d2 v2 => ?_⟩
        obtain ⟨bg, hbg, bg0, bg1⟩ := pick2i (lo := 0) (hi := 400) (x := 0) (y := y1) y20 y21 (by omega) (by omega)
        refine ⟨l0, _, _, _, rfl, rfl, SqL.of (v2 _ _ (d1.ne nl0) upd_same), hbg, ?_⟩
        have tJ := ((tX.trans v1).trans (But.of sl0)).trans v2
        have hPJ := ((hPX.but v1 bX).same sl0).but v2 (d1.new nl0)
        have hLJ := v2 _ _ nLb (sl0 _ _ (v1 _ _ nLb hLX))
        refine ⟨_, rfl, (by show 0 ≤ sizeLine; decide), fun nn hnn => ?_⟩
        have sN := same_new (o := .lst []) hnn
        refine ⟨_, _, prs_dp (SqL.of (sN _ _ hLJ)) (hPJ.same sN), .lst (SqL.of upd_same) .nil, sh_pr _, sh_pr [], ?_⟩
        rw [pr_nil]
        have bN := d2.same sN
        have tN := tJ.trans (But.of sN)
        have hPN := hPJ.same sN
        have hLN := sN _ _ hLJ
        generalize upd J2 nn (.lst []) = GN at *
        by_cases hz : ps = []
        · rw [decide_eq_true hz]
          refine ⟨_, rfl, iteF (iteF ?_)⟩
          have bY := bN
          have tY := tN
          have hPY := hPN
          have hLY := hLN
          refine ⟨_, rfl, b, 9, _, rfl, bY, by decide, by decide, by omega, fun x1 K1 x10 x11 c1 u1 => ?_⟩
          refine ⟨_, rfl, b, 60, _, rfl, c1, by decide, by decide, by omega, fun x2 K2 x20 x21 c2 u2 => ⟨(by show 4 ≤ sizeLine; decide), fun l nl => ?_⟩⟩
          have sl := same_new (o := .lst [.int 0, .int x1, .int x2, .int 400]) nl
          refine ⟨_, rfl, b, 4, _, rfl, c2.new nl, by decide, by decide, by omega, fun x3 K3 x30 x31 c3 u3 => ?_⟩
          obtain ⟨wi, hwi, wi0, wi1⟩ := pick4j (lo := 0) (hi := 400) (x := 0) (y := x1) (z := x2) (u := 400) x30 x31 (by omega) (by omega) (by omega) (by omega)
          refine ⟨l, _, _, _, rfl, rfl, SqL.of (u3 _ _ (c2.ne nl) upd_same), hwi, ?_⟩
          have TT := ((((tY.trans u1).trans u2).trans (But.of sl)).trans u3)
          have hP3 := (((hPY.but u1 bY).but u2 c1).same sl).but u3 (c2.new nl)
          have hL3 := u3 _ _ nLb (sl _ _ (u2 _ _ nLb (u1 _ _ nLb hLY)))
          refine ⟨_, rfl, _, rfl, _, rfl, L, bg, wi, as, ps, rfl, .inl (SqL.of hL3), hP3, bg0, bg1, wi0, wi1, fun K4 v1 s4 hv1 => ?_⟩
          refine ⟨_, rfl, _, rfl, _, rfl, L, bg, wi, as, ps, rfl, SqL.of (s4 _ _ hL3), hP3.same s4, hrs, hok, hl60, bg0, bg1, wi0, wi1, fun K5 v2 s5 hv2 => ⟨_, _, rfl, ?_⟩⟩
          have e12 := least_one hv2 hv1
          subst e12
          have his := least_is hv1
          have s45 := s4.trans s5
          refine ⟨_, rfl, rfl, _, rfl, rfl, rfl, _, rfl, iteNS rfl ?_⟩
          have tyv : ∃ t, TyX K K5 v2 (.type t) ∧ PySem.W.kitOne K (.type t) (.type "bool") = some false := by
            rcases his with rfl | ⟨i, rfl⟩
            · exact ⟨_, .base .non, kit_ty (by decide +kernel)⟩
            · exact ⟨_, .base (.int _), kit_ty (by decide +kernel)⟩
          obtain ⟨t, tyt, tyk⟩ := tyv
          refine ⟨_, rfl, _, _, _, _, false, rfl, .ty _, tyt, tyk, _, rfl, iteF ?_⟩
          have sc : scal v2 v2 = true := by
            rcases his with rfl | ⟨i, rfl⟩ <;> rfl
          refine ⟨_, rfl, _, rfl, sc, _, rfl, iteNS rfl ?_⟩
          refine ⟨_, rfl, L, _, rfl, .inl ⟨SqL.of (s45 _ _ hL3), fun Z nZ => ?_⟩⟩
          have sZ := s45.trans (same_new (o := .tup (as.map V.ref)) nZ)
          have hZ : SqT K (upd K5 Z (.tup (as.map V.ref))) Z (as.map V.ref) := SqT.of upd_same
          generalize upd K5 Z (.tup (as.map V.ref)) = K6 at *
          refine ⟨_, rfl, _, rfl, Z, bg, wi, as, ps, rfl, .inr hZ, hP3.same sZ, bg0, bg1, wi0, wi1, fun K7 v3 s7 hv3 => ?_⟩
          have e13 := least_one hv3 hv1
          subst e13
          refine ⟨_, rfl, sc, _, rfl, iteNS rfl ?_⟩
          have sZ7 := sZ.trans s7
          refine ⟨_, rfl, _, _, rfl, prs_dp (SqL.of (sZ7 _ _ hL3)) (hP3.same sZ7), sw, sl', dp60, nd, _, rfl, rfl, _, rfl, iteNS rfl ?_⟩
          exact ⟨_, _, _, _, _, rfl, TT.trans (But.of sZ7), (c3.same sZ7).mono (by omega), hP3.same sZ7, sZ7 _ _ hL3⟩
        · rw [decide_eq_false hz]
          refine ⟨_, rfl, iteT ⟨_, rfl, b, 2, _, rfl, bN, by decide, by decide, by omega, fun y3 J3 y30 y31 d3 v3 => ⟨rfl, _, rfl, ite2 (fun _ => ?_) (fun _ => ?_)⟩⟩⟩
          · have l0' : 0 < as.length := by
              rw [hP.1]
              exact List.length_pos_iff.mpr hz
            have hPJ3 := hPN.but v3 bN
            have hLJ3 := v3 _ _ nLb hLN
            refine ⟨_, rfl, _, rfl, b, L, _, as, rfl, d3, by omega, hLJ3, nLb, l0', by rw [hP.1]; exact hl60, fun J4 j a' ha' d4 v4 => ?_⟩
            have hPJ4 := hPJ3.but v4 d3
            obtain ⟨p, hp⟩ : ∃ p, ps[j]? = some p := by
              have : j < ps.length := by
                rw [← hP.1]
                exact (List.getElem?_eq_some_iff.mp ha').1
              exact ⟨_, List.getElem?_eq_getElem this⟩
            have hA := hPJ4.2 _ _ _ ha' hp
            refine ⟨a', _, _, _, rfl, rfl, SqT.of hA, rfl, _, rfl, b, 3, _, rfl, d4, by decide, by decide, by omega, fun y5 J5 y50 y51 d5 v5 => ⟨_, _, rfl, rfl, _, _, rfl, rfl, _, _, rfl, _, _, rfl, ?_⟩⟩
            have bY := d5
            have tY := ((tN.trans v3).trans v4).trans v5
            have hPY := hPJ4.but v5 d4
            have hLY := v5 _ _ nLb (v4 _ _ nLb hLJ3)
            obtain ⟨bg, hbgE, bg0, bg1⟩ : ∃ bg : Int, bg = (if (if p.1 + y5 - 1 < 400 then p.1 + y5 - 1 else 400) > 0 then (if p.1 + y5 - 1 < 400 then p.1 + y5 - 1 else 400) else 0) ∧ 0 ≤ bg ∧ bg ≤ 400 := by
              refine ⟨_, rfl, ?_, ?_⟩
              · split <;> omega
              · split
                · split <;> omega
                · omega
            rw [← hbgE]
            refine ⟨_, rfl, b, 9, _, rfl, bY, by decide, by decide, by omega, fun x1 K1 x10 x11 c1 u1 => ?_⟩
            refine ⟨_, rfl, b, 60, _, rfl, c1, by decide, by decide, by omega, fun x2 K2 x20 x21 c2 u2 => ⟨(by show 4 ≤ sizeLine; decide), fun l nl => ?_⟩⟩
            have sl := same_new (o := .lst [.int 0, .int x1, .int x2, .int 400]) nl
            refine ⟨_, rfl, b, 4, _, rfl, c2.new nl, by decide, by decide, by omega, fun x3 K3 x30 x31 c3 u3 => ?_⟩
            obtain ⟨wi, hwi, wi0, wi1⟩ := pick4j (lo := 0) (hi := 400) (x := 0) (y := x1) (z := x2) (u := 400) x30 x31 (by omega) (by omega) (by omega) (by omega)
            refine ⟨l, _, _, _, rfl, rfl, SqL.of (u3 _ _ (c2.ne nl) upd_same), hwi, ?_⟩
            have TT := ((((tY.trans u1).trans u2).trans (But.of sl)).trans u3)
            have hP3 := (((hPY.but u1 bY).but u2 c1).same sl).but u3 (c2.new nl)
            have hL3 := u3 _ _ nLb (sl _ _ (u2 _ _ nLb (u1 _ _ nLb hLY)))
            refine ⟨_, rfl, _, rfl, _, rfl, L, bg, wi, as, ps, rfl, .inl (SqL.of hL3), hP3, bg0, bg1, wi0, wi1, fun K4 v1 s4 hv1 => ?_⟩
            refine ⟨_, rfl, _, rfl, _, rfl, L, bg, wi, as, ps, rfl, SqL.of (s4 _ _ hL3), hP3.same s4, hrs, hok, hl60, bg0, bg1, wi0, wi1, fun K5 v2 s5 hv2 => ⟨_, _, rfl, ?_⟩⟩
            have e12 := least_one hv2 hv1
            subst e12
            have his := least_is hv1
            have s45 := s4.trans s5
            refine ⟨_, rfl, rfl, _, rfl, rfl, rfl, _, rfl, iteNS rfl ?_⟩
            have tyv : ∃ t, TyX K K5 v2 (.type t) ∧ PySem.W.kitOne K (.type t) (.type "bool") = some false := by
              rcases his with rfl | ⟨i, rfl⟩
              · exact ⟨_, .base .non, kit_ty (by decide +kernel)⟩
              · exact ⟨_, .base (.int _), kit_ty (by decide +kernel)⟩
            obtain ⟨t, tyt, tyk⟩ := tyv
            refine ⟨_, rfl, _, _, _, _, false, rfl, .ty _, tyt, tyk, _, rfl, iteF ?_⟩
            have sc : scal v2 v2 = true := by
              rcases his with rfl | ⟨i, rfl⟩ <;> rfl
            refine ⟨_, rfl, _, rfl, sc, _, rfl, iteNS rfl ?_⟩
            refine ⟨_, rfl, L, _, rfl, .inl ⟨SqL.of (s45 _ _ hL3), fun Z nZ => ?_⟩⟩
            have sZ := s45.trans (same_new (o := .tup (as.map V.ref)) nZ)
            have hZ : SqT K (upd K5 Z (.tup (as.map V.ref))) Z (as.map V.ref) := SqT.of upd_same
            generalize upd K5 Z (.tup (as.map V.ref)) = K6 at *
            refine ⟨_, rfl, _, rfl, Z, bg, wi, as, ps, rfl, .inr hZ, hP3.same sZ, bg0, bg1, wi0, wi1, fun K7 v3 s7 hv3 => ?_⟩
            have e13 := least_one hv3 hv1
            subst e13
            refine ⟨_, rfl, sc, _, rfl, iteNS rfl ?_⟩
            have sZ7 := sZ.trans s7
            refine ⟨_, rfl, _, _, rfl, prs_dp (SqL.of (sZ7 _ _ hL3)) (hP3.same sZ7), sw, sl', dp60, nd, _, rfl, rfl, _, rfl, iteNS rfl ?_⟩
            exact ⟨_, _, _, _, _, rfl, TT.trans (But.of sZ7), (c3.same sZ7).mono (by omega), hP3.same sZ7, sZ7 _ _ hL3⟩
          · have bY := d3
            have tY := tN.trans v3
            have hPY := hPN.but v3 bN
            have hLY := v3 _ _ nLb hLN
            refine ⟨_, rfl, b, 9, _, rfl, bY, by decide, by decide, by omega, fun x1 K1 x10 x11 c1 u1 => ?_⟩
            refine ⟨_, rfl, b, 60, _, rfl, c1, by decide, by decide, by omega, fun x2 K2 x20 x21 c2 u2 => ⟨(by show 4 ≤ sizeLine; decide), fun l nl => ?_⟩⟩
            have sl := same_new (o := .lst [.int 0, .int x1, .int x2, .int 400]) nl
            refine ⟨_, rfl, b, 4, _, rfl, c2.new nl, by decide, by decide, by omega, fun x3 K3 x30 x31 c3 u3 => ?_⟩
            obtain ⟨wi, hwi, wi0, wi1⟩ := pick4j (lo := 0) (hi := 400) (x := 0) (y := x1) (z := x2) (u := 400) x30 x31 (by omega) (by omega) (by omega) (by omega)
            refine ⟨l, _, _, _, rfl, rfl, SqL.of (u3 _ _ (c2.ne nl) upd_same), hwi, ?_⟩
            have TT := ((((tY.trans u1).trans u2).trans (But.of sl)).trans u3)
            have hP3 := (((hPY.but u1 bY).but u2 c1).same sl).but u3 (c2.new nl)
            have hL3 := u3 _ _ nLb (sl _ _ (u2 _ _ nLb (u1 _ _ nLb hLY)))
            refine ⟨_, rfl, _, rfl, _, rfl, L, bg, wi, as, ps, rfl, .inl (SqL.of hL3), hP3, bg0, bg1, wi0, wi1, fun K4 v1 s4 hv1 => ?_⟩
            refine ⟨_, rfl, _, rfl, _, rfl, L, bg, wi, as, ps, rfl, SqL.of (s4 _ _ hL3), hP3.same s4, hrs, hok, hl60, bg0, bg1, wi0, wi1, fun K5 v2 s5 hv2 => ⟨_, _, rfl, ?_⟩⟩
            have e12 := least_one hv2 hv1
            subst e12
            have his := least_is hv1
            have s45 := s4.trans s5
            refine ⟨_, rfl, rfl, _, rfl, rfl, rfl, _, rfl, iteNS rfl ?_⟩
            have tyv : ∃ t, TyX K K5 v2 (.type t) ∧ PySem.W.kitOne K (.type t) (.type "bool") = some false := by
              rcases his with rfl | ⟨i, rfl⟩
              · exact ⟨_, .base .non, kit_ty (by decide +kernel)⟩
              · exact ⟨_, .base (.int _), kit_ty (by decide +kernel)⟩
            obtain ⟨t, tyt, tyk⟩ := tyv
            refine ⟨_, rfl, _, _, _, _, false, rfl, .ty _, tyt, tyk, _, rfl, iteF ?_⟩
            have sc : scal v2 v2 = true := by
              rcases his with rfl | ⟨i, rfl⟩ <;> rfl
            refine ⟨_, rfl, _, rfl, sc, _, rfl, iteNS rfl ?_⟩
            refine ⟨_, rfl, L, _, rfl, .inl ⟨SqL.of (s45 _ _ hL3), fun Z nZ => ?_⟩⟩
            have sZ := s45.trans (same_new (o := .tup (as.map V.ref)) nZ)
            have hZ : SqT K (upd K5 Z (.tup (as.map V.ref))) Z (as.map V.ref) := SqT.of upd_same
            generalize upd K5 Z (.tup (as.map V.ref)) = K6 at *
            refine ⟨_, rfl, _, rfl, Z, bg, wi, as, ps, rfl, .inr hZ, hP3.same sZ, bg0, bg1, wi0, wi1, fun K7 v3 s7 hv3 => ?_⟩
            have e13 := least_one hv3 hv1
            subst e13
            refine ⟨_, rfl, sc, _, rfl, iteNS rfl ?_⟩
            have sZ7 := sZ.trans s7
            refine ⟨_, rfl, _, _, rfl, prs_dp (SqL.of (sZ7 _ _ hL3)) (hP3.same sZ7), sw, sl', dp60, nd, _, rfl, rfl, _, rfl, iteNS rfl ?_⟩
            exact ⟨_, _, _, _, _, rfl, TT.trans (But.of sZ7), (c3.same sZ7).mono (by omega), hP3.same sZ7, sZ7 _ _ hL3⟩
      · obtain ⟨s6, s7, s8, s9, s10, rfl, tX, bX, hPX, hLX⟩ := h
        exact ⟨_, _, _, _, _, _, _, _, _, _, rfl, same_but sm4 nb0 tX⟩
end
theorem all_mk {l : PySem.W.OpenLaw} {w : World} {K : PySem.W.Frag} {h : Heap} {mg : Str → Option Value} {fa f0 f1 f2 f3 f4 f5 f6 f7 f8 : Addr} (X : K.In h) (G : h.Ns mainGlobals mg) (hfa : mg "law" = some (.ref fa))
    {od0 an0 od1 an1 od2 an2 od3 an3 od4 an4 od5 an5 od6 an6 od7 an7 od8 an8 : Option Addr} {sl0 sl1 sl2 sl3 sl4 sl5 sl6 sl7 sl8 : Array (Option Value)} {oc0 kV0 dc0 pm0 cd0 ct0 oc1 kV1 dc1 pm1 cd1 ct1 oc2 kV2 dc2 pm2 cd2 ct2 oc3 kV3 dc3 pm3 cd3 ct3 oc4 kV4 dc4 pm4 cd4 ct4 oc5 kV5 dc5 pm5 cd5 ct5 oc6 kV6 dc6 pm6 cd6 ct6 oc7 kV7 dc7 pm7 cd7 ct7 oc8 kV8 dc8 pm8 cd8 ct8 : Value}
    (a0 : PySem.W.nsIn K mainGlobals "_law_mix" = some (some (.ref f0))) (l0 : K.lookup f0 = some ⟨oc0, od0, .func (PySem.W.fnOf "_law_mix" "_law_mix" (defArgs s__law_mix) (defBody s__law_mix) (defScope s__law_mix) .none kV0 dc0 pm0 an0 cd0 ct0), sl0⟩) (c0 : PySem.W.codeIn K cd0 "_law_mix" = true) (k0 : PySem.W.keepIn K (.ref f0) = true)
    (a1 : PySem.W.nsIn K mainGlobals "_law_left" = some (some (.ref f1))) (l1 : K.lookup f1 = some ⟨oc1, od1, .func (PySem.W.fnOf "_law_left" "_law_left" (defArgs s__law_left) (defBody s__law_left) (defScope s__law_left) .none kV1 dc1 pm1 an1 cd1 ct1), sl1⟩) (c1 : PySem.W.codeIn K cd1 "_law_left" = true) (k1 : PySem.W.keepIn K (.ref f1) = true)
    (a2 : PySem.W.nsIn K mainGlobals "_law_pick" = some (some (.ref f2))) (l2 : K.lookup f2 = some ⟨oc2, od2, .func (PySem.W.fnOf "_law_pick" "_law_pick" (defArgs s__law_pick) (defBody s__law_pick) (defScope s__law_pick) .none kV2 dc2 pm2 an2 cd2 ct2), sl2⟩) (c2 : PySem.W.codeIn K cd2 "_law_pick" = true) (k2 : PySem.W.keepIn K (.ref f2) = true)
    (a3 : PySem.W.nsIn K mainGlobals "_law_prices" = some (some (.ref f3))) (l3 : K.lookup f3 = some ⟨oc3, od3, .func (PySem.W.fnOf "_law_prices" "_law_prices" (defArgs s__law_prices) (defBody s__law_prices) (defScope s__law_prices) .none kV3 dc3 pm3 an3 cd3 ct3), sl3⟩) (c3 : PySem.W.codeIn K cd3 "_law_prices" = true) (k3 : PySem.W.keepIn K (.ref f3) = true)
    (a4 : PySem.W.nsIn K mainGlobals "price_on" = some (some (.ref f4))) (l4 : K.lookup f4 = some ⟨oc4, od4, .func (PySem.W.fnOf "price_on" "price_on" (defArgs s_price_on) (defBody s_price_on) (defScope s_price_on) .none kV4 dc4 pm4 an4 cd4 ct4), sl4⟩) (c4 : PySem.W.codeIn K cd4 "price_on" = true) (k4 : PySem.W.keepIn K (.ref f4) = true)
    (a5 : PySem.W.nsIn K mainGlobals "least_since" = some (some (.ref f5))) (l5 : K.lookup f5 = some ⟨oc5, od5, .func (PySem.W.fnOf "least_since" "least_since" (defArgs s_least_since) (defBody s_least_since) (defScope s_least_since) .none kV5 dc5 pm5 an5 cd5 ct5), sl5⟩) (c5 : PySem.W.codeIn K cd5 "least_since" = true) (k5 : PySem.W.keepIn K (.ref f5) = true)
    (a6 : PySem.W.nsIn K mainGlobals "_law_one" = some (some (.ref f6))) (l6 : K.lookup f6 = some ⟨oc6, od6, .func (PySem.W.fnOf "_law_one" "_law_one" (defArgs s__law_one) (defBody s__law_one) (defScope s__law_one) .none kV6 dc6 pm6 an6 cd6 ct6), sl6⟩) (c6 : PySem.W.codeIn K cd6 "_law_one" = true) (k6 : PySem.W.keepIn K (.ref f6) = true)
    (a7 : PySem.W.nsIn K mainGlobals "_law_due" = some (some (.ref f7))) (l7 : K.lookup f7 = some ⟨oc7, od7, .func (PySem.W.fnOf "_law_due" "_law_due" (defArgs s__law_due) (defBody s__law_due) (defScope s__law_due) .none kV7 dc7 pm7 an7 cd7 ct7), sl7⟩) (c7 : PySem.W.codeIn K cd7 "_law_due" = true) (k7 : PySem.W.keepIn K (.ref f7) = true)
    (a8 : PySem.W.nsIn K mainGlobals "law" = some (some (.ref f8))) (l8 : K.lookup f8 = some ⟨oc8, od8, .func (PySem.W.fnOf "law" "law" (defArgs s_law) (defBody s_law) (defScope s_law) .none kV8 dc8 pm8 an8 cd8 ct8), sl8⟩) (c8 : PySem.W.codeIn K cd8 "law" = true) (k8 : PySem.W.keepIn K (.ref f8) = true)
    (z_len : PySem.W.nsIn K mainGlobals "len" = some none) (z_abs : PySem.W.nsIn K mainGlobals "abs" = some none) (z_int : PySem.W.nsIn K mainGlobals "int" = some none) (z_range : PySem.W.nsIn K mainGlobals "range" = some none) (z_min : PySem.W.nsIn K mainGlobals "min" = some none) (z_list : PySem.W.nsIn K mainGlobals "list" = some none) (z_max : PySem.W.nsIn K mainGlobals "max" = some none) (z_repr : PySem.W.nsIn K mainGlobals "repr" = some none) (z_isinstance : PySem.W.nsIn K mainGlobals "isinstance" = some none) (z_bool : PySem.W.nsIn K mainGlobals "bool" = some none) (z_tuple : PySem.W.nsIn K mainGlobals "tuple" = some none) :
    ∃ fd : FuncData, (∀ (s : Shared) (v : Value), BindsTo s fd ⟨[v], []⟩ [("_law_script", v)]) ∧ ∀ base : Heap, K.In base → base.Ns mainGlobals mg → FnG l.prog w K mg base 4 fa fd ["_law_script"] (sp_law K) := by
  have e := hfa.symm.trans (PySem.W.mg_of X G a8)
  cases e
  have F0 := fun_mk (st := s__law_mix) l0 c0 k0
  have b0 := F0.binds (ps := ["_law_cell", "_law_k"]) fun _ _ _ _ _ _ us hl => match us, hl with | [_, _], _ => rfl
  have g0 := PySem.W.mg_of X G a0
  have F1 := fun_mk (st := s__law_left) l1 c1 k1
  have b1 := F1.binds (ps := ["_law_script", "_law_k"]) fun _ _ _ _ _ _ us hl => match us, hl with | [_, _], _ => rfl
  have g1 := PySem.W.mg_of X G a1
  have F2 := fun_mk (st := s__law_pick) l2 c2 k2
  have b2 := F2.binds (ps := ["_law_left_here", "_law_many"]) fun _ _ _ _ _ _ us hl => match us, hl with | [_, _], _ => rfl
  have g2 := PySem.W.mg_of X G a2
  have F3 := fun_mk (st := s__law_prices) l3 c3 k3
  have b3 := F3.binds (ps := ["_law_left_here", "_law_many"]) fun _ _ _ _ _ _ us hl => match us, hl with | [_, _], _ => rfl
  have g3 := PySem.W.mg_of X G a3
  have F4 := fun_mk (st := s_price_on) l4 c4 k4
  have b4 := F4.binds (ps := ["prices", "day"]) fun _ _ _ _ _ _ us hl => match us, hl with | [_, _], _ => rfl
  have g4 := PySem.W.mg_of X G a4
  have F5 := fun_mk (st := s_least_since) l5 c5 k5
  have b5 := F5.binds (ps := ["prices", "begin", "within"]) fun _ _ _ _ _ _ us hl => match us, hl with | [_, _, _], _ => rfl
  have g5 := PySem.W.mg_of X G a5
  have F6 := fun_mk (st := s__law_one) l6 c6 k6
  have b6 := F6.binds (ps := ["_law_left_here", "_law_some"]) fun _ _ _ _ _ _ us hl => match us, hl with | [_, _], _ => rfl
  have g6 := PySem.W.mg_of X G a6
  have F7 := fun_mk (st := s__law_due) l7 c7 k7
  have b7 := F7.binds (ps := ["_law_prices_here", "_law_begin", "_law_within"]) fun _ _ _ _ _ _ us hl => match us, hl with | [_, _, _], _ => rfl
  have g7 := PySem.W.mg_of X G a7
  have F8 := fun_mk (st := s_law) l8 c8 k8
  have m_len := PySem.W.mg_none_of X G z_len
  have m_abs := PySem.W.mg_none_of X G z_abs
  have m_int := PySem.W.mg_none_of X G z_int
  have m_range := PySem.W.mg_none_of X G z_range
  have m_min := PySem.W.mg_none_of X G z_min
  have m_list := PySem.W.mg_none_of X G z_list
  have m_max := PySem.W.mg_none_of X G z_max
  have m_repr := PySem.W.mg_none_of X G z_repr
  have m_isinstance := PySem.W.mg_none_of X G z_isinstance
  have m_bool := PySem.W.mg_none_of X G z_bool
  have m_tuple := PySem.W.mg_none_of X G z_tuple
  refine ⟨PySem.W.fnOf "law" "law" (defArgs s_law) (defBody s_law) (defScope s_law) .none kV8 dc8 pm8 an8 cd8 ct8, fun s v => .of_eq rfl, fun base _ _ => ?_⟩
  have C__law_mix := ok__law_mix (P := l.prog) (w := w) (base := base) F0 g0 b0
  have C__law_left := ok__law_left (P := l.prog) (w := w) (base := base) F1 g1 b1 m_len m_abs m_int
  have C__law_pick := ok__law_pick (P := l.prog) (w := w) (base := base) F2 g2 b2 C__law_mix
  have C__law_prices := ok__law_prices (P := l.prog) (w := w) (base := base) F3 g3 b3 m_range C__law_pick
  have C_price_on := ok_price_on (P := l.prog) (w := w) (base := base) F4 g4 b4
  have C_least_since := ok_least_since (P := l.prog) (w := w) (base := base) F5 g5 b5 m_range m_min C_price_on
  have C__law_one := ok__law_one (P := l.prog) (w := w) (base := base) F6 g6 b6 m_len C__law_pick
  have C__law_due := ok__law_due (P := l.prog) (w := w) (base := base) F7 g7 b7 m_list m_range m_min
  exact ok_law F8 m_range m_max m_min m_len m_repr m_isinstance m_bool m_tuple C__law_left C__law_pick C__law_prices C__law_one C__law_due C_least_since
end Pw
open PySem PySem.W PyProof.Rows
set_option maxHeartbeats 0 in
theorem PySem.Challenge.cw_partwares_k30_least_in_stretches_of_days_holds : PySem.Challenge.rw_partwares_k30_least_in_stretches_of_days.Holds := by
  w_on; o_law; k_head; (case hw => w_witness2)
  k_fill
  refine Pw.walk_ofG (l := PySem.Challenge.rw_partwares_k30_least_in_stretches_of_days) (n := 63) (k := 4) (x := "_law_script") (sp := fun w => Pw.sp_law _) rfl (by decide) rfl ⟨rfl, by decide, by decide⟩ (fun w h Y => PySem.W.kIn_of Y) ?F (fun _ _ a ns hl _ hS => ⟨a, ns, rfl, hS, hl, fun _ => rfl⟩)
  case F =>
    intro w mg fa h KX G hmg
    refine' Pw.all_mk KX G hmg ?a0 ?l0 ?c0 ?k0 ?a1 ?l1 ?c1 ?k1 ?a2 ?l2 ?c2 ?k2 ?a3 ?l3 ?c3 ?k3 ?a4 ?l4 ?c4 ?k4 ?a5 ?l5 ?c5 ?k5 ?a6 ?l6 ?c6 ?k6 ?a7 ?l7 ?c7 ?k7 ?a8 ?l8 ?c8 ?k8 ?z_len ?z_abs ?z_int ?z_range ?z_min ?z_list ?z_max ?z_repr ?z_isinstance ?z_bool ?z_tuple
    (case a0 => k_is); (case l0 => k_is); (case c0 => k_is); (case k0 => k_is); (case a1 => k_is); (case l1 => k_is); (case c1 => k_is); (case k1 => k_is); (case a2 => k_is); (case l2 => k_is); (case c2 => k_is); (case k2 => k_is); (case a3 => k_is); (case l3 => k_is); (case c3 => k_is); (case k3 => k_is); (case a4 => k_is); (case l4 => k_is); (case c4 => k_is); (case k4 => k_is); (case a5 => k_is); (case l5 => k_is); (case c5 => k_is); (case k5 => k_is); (case a6 => k_is); (case l6 => k_is); (case c6 => k_is); (case k6 => k_is); (case a7 => k_is); (case l7 => k_is); (case c7 => k_is); (case k7 => k_is); (case a8 => k_is); (case l8 => k_is); (case c8 => k_is); (case k8 => k_is); (case z_len => k_is); (case z_abs => k_is); (case z_int => k_is); (case z_range => k_is); (case z_min => k_is); (case z_list => k_is); (case z_max => k_is); (case z_repr => k_is); (case z_isinstance => k_is); (case z_bool => k_is); (case z_tuple => k_is)
