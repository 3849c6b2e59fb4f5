import PyProof.Rows.All
import Wide.All
import OpenK.AllK
import Wide.FinOn
import HandS.Base
import HandS.Call
import HandS.List
import HandS.Comp
import HandS.Ends
import HandS.Iter
import HandS.Text
import HandS.Words
import HandS.WordsList
import HandS.IsInst
import HandS.Style
import HandS.Walk
import PySem.Challenge.RW_partwares_k01_names
set_option Elab.async false
set_option linter.all false
set_option maxRecDepth 100000
namespace Pw
open PySem PySem.Spec PyProof.Rows L2
/-! ### a def of the text by its promise, its address left aside -/
structure CF (P : Program) (w : World) (K : PySem.W.Frag) (mg : Str → Option Value) (base : Heap) (k : Nat) (x : Str) (ps : List Str) (sp : Sp) : Prop where
  ex : ∃ (f : Addr) (fd : FuncData), FnOk P w K mg base CX0 k f fd ps sp ∧ mg x = some (.ref f) ∧ PySem.W.keepIn K (.ref f) = true ∧ Binds K fd ps []
theorem pe_cf {X : Cx} {k : Nat} {x : Str} {ps : List Str} {sp : Sp} {e : Expr} {es : List Expr} {t : TA} {p pos : Pos} (C : CF X.prog X.w X.K X.mg X.base k x ps sp) (hr : Room k X.A) (hg : Gl X x) (ha : PA X (e :: es) t)
    (hdb : (x == ("__debug__" : Str)) = false := by decide) (he : starEach (e :: es) X.env = (false, eval e X.env) :: starEach es X.env := by rfl) (hpl : (backTo pos (starEach es X.env)).any (·.1) = false := by rfl) :
    PE X (.Call (.Name x p) (e :: es) [] pos) (tCall sp [] E0 t) := by
  obtain ⟨f, fd, F, g, kp, b⟩ := C.ex
  exact pe_call F hr hg g kp b .nil pass0 ha hdb he hpl
/-! ### the rules with their written part named (within a comprehension it must not hang on the block) -/
section
variable (K : PySem.W.Frag) {X : Cx}
theorem kk_isi (h : X.K = K := by rfl) : CallR X (.builtin "isinstance") (rIsi K) := h ▸ call_isi
theorem kk_isiT (h : X.K = K := by rfl) : CallR X (.builtin "isinstance") (rIsiT K) := h ▸ call_isiT
theorem kk_len (h : X.K = K := by rfl) : CallR X (.builtin "len") (fun xs H Q => ∃ p ys, xs = [.ref p] ∧ (SqL K H p ys ∨ SqT K H p ys) ∧ Q (.int ys.length) H) := h ▸ call_len_seq
theorem kk_list (h : X.K = K := by rfl) : CallR X (.type "list") (fun xs H Q => ∃ p ys, xs = [.ref p] ∧ (SqL K H p ys ∨ SqT K H p ys) ∧ ∀ l, H l = none → Q (.ref l) (upd H l (.lst ys))) := h ▸ call_list_of
theorem kk_tuple (h : X.K = K := by rfl) : CallR X (.type "tuple") (fun xs H Q => ∃ p ys, xs = [.ref p] ∧ ((SqL K H p ys ∧ ∀ l, H l = none → Q (.ref l) (upd H l (.tup ys))) ∨ (SqT K H p ys ∧ Q (.ref p) H))) := h ▸ call_tuple_of
theorem kk_sum (hc : X.calm = true) (h : X.K = K := by rfl) : CallR X (.builtin "sum") (rSum K) := h ▸ cr_sum hc
theorem kk_max (hc : X.calm = true) (h : X.K = K := by rfl) : CallR X (.builtin "max") (rMax K) := h ▸ cr_max hc
theorem kk_min (hc : X.calm = true) (h : X.K = K := by rfl) : CallR X (.builtin "min") (rMin K) := h ▸ cr_min hc
theorem kk_any (hc : X.calm = true) (h : X.K = K := by rfl) : CallR X (.builtin "any") (rAny K) := h ▸ cr_any hc
theorem kk_all (hc : X.calm = true) (h : X.K = K := by rfl) : CallR X (.builtin "all") (rAll K) := h ▸ cr_all hc
theorem kk_sorted (h : X.K = K := by rfl) : CallR X (.builtin "sorted") (rSorted K) := h ▸ cr_sorted
theorem kk_ixl (h : X.K = K := by rfl) : IxR X (rIxL K) := h ▸ ix_list
theorem kk_ixt (h : X.K = K := by rfl) : IxR X (rIxT K) := h ▸ ix_tup
theorem kk_sll (h : X.K = K := by rfl) : SlR X (rSlL K) := h ▸ sl_list
theorem kk_slt (h : X.K = K := by rfl) : SlR X (rSlT K) := h ▸ sl_tup
theorem kk_in (h : X.K = K := by rfl) : OpR X (compareOp .In) (rIn K false) := h ▸ op_in_seq
theorem kk_nin (h : X.K = K := by rfl) : OpR X (compareOp .NotIn) (rIn K true) := h ▸ op_notIn_seq
theorem kk_catT (h : X.K = K := by rfl) : OpR X (binaryOp .Add) (rCatT K) := h ▸ op_catT
theorem kk_eqD (hu : X.A.units + 64 < cLine) (h : X.K = K := by rfl) : OpR X (compareOp .Eq) (rEqD K) := h ▸ op_eqD hu
theorem kk_neD (hu : X.A.units + 64 < cLine) (h : X.K = K := by rfl) : OpR X (compareOp .NotEq) (rNeD K) := h ▸ op_neD hu
theorem kk_revL {e : Expr} {te : TE} {k : Nat} {p1 p2 p3 pos : Pos} (he : PE X e te) (h : X.K = K := by rfl) : PE X (.Subscript e (.Slice none none (some (.UnaryOp .USub (.Constant (.int 1) k p1) p2)) p3) pos) (tRevL K te) := h ▸ pe_revL he
end
/-! ### heaps: all as it was, but one place -/
def But (b : Addr) (H H' : Hp) : Prop := ∀ c o, c ≠ b → H c = some o → H' c = some o
theorem But.refl (b : Addr) (H : Hp) : But b H H := fun _ _ _ h => h
theorem But.trans {b : Addr} {H H1 H2 : Hp} (x : But b H H1) (y : But b H1 H2) : But b H H2 := fun c o n h => y c o n (x c o n h)
theorem But.of {b : Addr} {H H1 : Hp} (x : Same H H1) : But b H H1 := fun c o _ h => x c o h
theorem But.upd {b : Addr} {H : Hp} {o : HO} : But b H (L2.upd H b o) := fun c u n h => by
  rw [upd_ne n]
  exact h
theorem But.new {b p : Addr} {H : Hp} {o : HO} (h : H p = none) : But b H (L2.upd H p o) := fun c u _ e => by
  rw [upd_ne (ne_of_none e h)]
  exact e
theorem same_new {H : Hp} {p : Addr} {o : HO} (h : H p = none) : Same H (upd H p o) := fun b x e => by
  rw [upd_ne (ne_of_none e h)]
  exact e
theorem But.seq {K : PySem.W.Frag} {b a : Addr} {H H' : Hp} {xs : List V} (e : But b H H') (n : a ≠ b) (h : SqL K H a xs) : SqL K H' a xs := by
  rcases h with (h | ⟨o, h⟩) | h
  · exact .inl (.inl (e _ _ n h))
  · exact .inl (.inr ⟨o, e _ _ n h⟩)
  · exact .inr h
/-! ### the law's box of three numbers -/
def Box (H : Hp) (b : Addr) (n : Int) : Prop := ∃ x y z : Int, H b = some (.lst [.int x, .int y, .int z]) ∧ 0 ≤ x ∧ 0 ≤ y ∧ y ≤ 3000000000 ∧ 0 ≤ z ∧ z ≤ n
theorem Box.mono {H : Hp} {b : Addr} {n m : Int} (h : Box H b n) (l : n ≤ m) : Box H b m := by
  obtain ⟨x, y, z, h0, h1, h2, h3, h4, h5⟩ := h
  exact ⟨x, y, z, h0, h1, h2, h3, h4, by omega⟩
theorem Box.same {H H' : Hp} {b : Addr} {n : Int} (e : Same H H') (h : Box H b n) : Box H' b n := by
  obtain ⟨x, y, z, h0, h1⟩ := h
  exact ⟨x, y, z, e _ _ h0, h1⟩
theorem Box.new {H : Hp} {b p : Addr} {o : HO} {n : Int} (h : Box H b n) (e : H p = none) : Box (upd H p o) b n := h.same (same_new e)
theorem Box.ne {H : Hp} {b p : Addr} {n : Int} (h : Box H b n) (e : H p = none) : p ≠ b := fun z => by
  obtain ⟨_, _, _, h0, _⟩ := h
  rw [z, h0] at e
  cases e
section
variable {K : PySem.W.Frag}
theorem at_int {ns : List Int} {k : Int} (h0 : 0 ≤ k) (h1 : k < ns.length) : ∃ c, atI (ns.map V.int) k = some (.int c) := by
  obtain ⟨j, rfl⟩ := Int.eq_ofNat_of_zero_le h0
  have hj : j < ns.length := by omega
  refine ⟨ns[j], atI_nat ?_⟩
  rw [List.getElem?_map, List.getElem?_eq_getElem hj]
  rfl
def partsL (p m : Int) : List Int := List.replicate (p % m).toNat (p / m + 1) ++ List.replicate (m - p % m).toNat (p / m)
theorem rep1 {α : Type} (k : Nat) (x : α) : (List.replicate k [x]).flatten = List.replicate k x := by
  induction k with
  | zero => rfl
  | succ n ih => rw [List.replicate_succ, List.flatten_cons, ih]; rfl
theorem size_small {n : Nat} (h : n ≤ 1000) : n ≤ sizeLine := Nat.le_of_lt (small1000 h)
theorem iteN {c A B : Prop} [Decidable c] (hc : ¬ c) (h : B) : if decide c = true then A else B := by
  rw [decide_eq_false hc]
  exact iteF h
theorem iteY {c A B : Prop} [Decidable c] (hc : c) (h : A) : if decide c = true then A else B := by
  rw [decide_eq_true hc]
  exact iteT h
theorem same_but {b : Addr} {H0 H1 H2 : Hp} (s : Same H0 H1) (n : H0 b = none) (t : But b H1 H2) : Same H0 H2 := fun c o h => t c o (fun e => by rw [e, n] at h; cases h) (s c o h)
theorem dpAll_ints {H : Hp} : ∀ ns : List Int, DpAll K H (ns.map V.int) (ns.map PyData.int)
  | [] => .nil
  | n :: r => .cons (.int n) (dpAll_ints r)
theorem dp_ints {H : Hp} {a : Addr} {ns : List Int} (h : SqL K H a (ns.map V.int)) : Dp K H (.ref a) (.list (ns.map PyData.int)) := .lst h (dpAll_ints ns)
theorem lay_ints : ∀ ns : List Int, PyData.canLayAll0 (ns.map PyData.int) = true
  | [] => by simp [PyData.canLayAll0]
  | n :: r => by simp [PyData.canLayAll0, PyData.canLay0, lay_ints r]
theorem depth_ints : ∀ ns : List Int, PyData.depthAll (ns.map PyData.int) ≤ 1
  | [] => by simp [PyData.depthAll]
  | n :: r => by
    have h := depth_ints r
    simp only [List.map_cons, PyData.depthAll, PyData.depth]
    omega
theorem sh_ints (ns : List Int) : SeqAt.shaped (.list (ns.map PyData.int)) = true := by
  have h1 := depth_ints ns
  have h2 : PyData.depth (.list (ns.map PyData.int)) ≤ 64 := by
    simp only [PyData.depth]
    omega
  show (PyData.canLay0 (.list (ns.map PyData.int)) && decide (PyData.depth (.list (ns.map PyData.int)) ≤ 64)) = true
  rw [Bool.and_eq_true]
  exact ⟨by simp only [PyData.canLay0]; exact lay_ints ns, decide_eq_true h2⟩
theorem eqv_same (ns : List Int) : PyData.eqv (.list (ns.map PyData.int)) (.list (ns.map PyData.int)) = true := SeqAt.eqv_refl _ (SeqAt.canLay_of_shaped (sh_ints ns))

theorem sum_rep (k : Nat) (x : Int) : (List.replicate k x).sum = k * x := by
  induction k with
  | zero => simp
  | succ n ih =>
    rw [List.replicate_succ, List.sum_cons, ih, Int.natCast_add, Int.add_mul]
    omega
theorem parts_len {p m : Int} (hm : 1 ≤ m) : ((partsL p m).length : Int) = m := by
  have hr0 := Int.emod_nonneg p (show m ≠ 0 by omega)
  have hr1 := Int.emod_lt_of_pos p (show 0 < m by omega)
  unfold partsL
  rw [List.length_append, List.length_replicate, List.length_replicate]
  omega
theorem parts_sum {p m : Int} (hm : 1 ≤ m) : (partsL p m).sum = p := by
  have hr0 := Int.emod_nonneg p (show m ≠ 0 by omega)
  have hr1 := Int.emod_lt_of_pos p (show 0 < m by omega)
  have e := Int.mul_ediv_add_emod p m
  unfold partsL
  rw [List.sum_append, sum_rep, sum_rep, Int.toNat_of_nonneg hr0, Int.toNat_of_nonneg (by omega), Int.sub_mul, Int.mul_add]
  omega
theorem parts_mem {p m x : Int} (h : x ∈ partsL p m) : x = p / m + 1 ∨ x = p / m := by
  unfold partsL at h
  rcases List.mem_append.mp h with h | h
  · exact .inl (List.eq_of_mem_replicate h)
  · exact .inr (List.eq_of_mem_replicate h)
theorem parts_fall (p m : Int) : (partsL p m).Pairwise (fun a b => b ≤ a) := by
  unfold partsL
  refine List.pairwise_append.mpr ⟨List.pairwise_replicate.mpr (.inr (Int.le_refl _)), List.pairwise_replicate.mpr (.inr (Int.le_refl _)), fun a ha b hb => ?_⟩
  rw [List.eq_of_mem_replicate ha, List.eq_of_mem_replicate hb]
  omega
theorem parts_sorted {p m : Int} {ns : List Int} (h : ns.Perm (partsL p m)) (hs : ns.Pairwise (· ≤ ·)) : ns.reverse = partsL p m := by
  refine List.Perm.eq_of_pairwise (le := fun a b => b ≤ a) (fun x y _ _ h1 h2 => Int.le_antisymm h2 h1) ?_ (parts_fall p m) ((List.reverse_perm ns).trans h)
  exact List.pairwise_reverse.mpr hs
theorem ends_of {ns : List Int} (h : 0 < ns.length) : ∃ x y, x ∈ ns ∧ y ∈ ns ∧ atI (ns.map V.int) 0 = some (.int x) ∧ atI (ns.map V.int) (-1) = some (.int y) := by
  cases ns with
  | nil => cases h
  | cons x r =>
    refine ⟨x, (x :: r).getLast (List.cons_ne_nil _ _), List.mem_cons_self, List.getLast_mem _, atI_nat (j := 0) rfl, ?_⟩
    have hz : ((x :: r).map V.int) = ((x :: r).dropLast.map V.int) ++ [.int ((x :: r).getLast (List.cons_ne_nil _ _))] := by
      rw [← List.map_singleton, ← List.map_append, List.dropLast_concat_getLast]
    rw [hz]
    exact atI_last _ _
theorem all_true (n : Nat) : (List.replicate n true).all id = true := by
  induction n with
  | zero => rfl
  | succ k ih => rw [List.replicate_succ, List.all_cons, ih]; rfl
theorem pick6 {r x : Int} (h0 : 0 ≤ r) (h1 : r < 6) (x0 : 0 ≤ x) (x1 : x ≤ 100) : ∃ c : Int, atI [V.int 0, .int 1, .int 50, .int 99, .int 100, .int x] r = some (.int c) ∧ 0 ≤ c ∧ c ≤ 100 := by
  have h : r = 0 ∨ r = 1 ∨ r = 2 ∨ r = 3 ∨ r = 4 ∨ r = 5 := by omega
  rcases h with rfl | rfl | rfl | rfl | rfl | rfl
  · exact ⟨0, rfl, by decide, by decide⟩
  · exact ⟨1, rfl, by decide, by decide⟩
  · exact ⟨50, rfl, by decide, by decide⟩
  · exact ⟨99, rfl, by decide, by decide⟩
  · exact ⟨100, rfl, by decide, by decide⟩
  · exact ⟨x, rfl, x0, x1⟩
end
end Pw
namespace Pw
open PySem PySem.Spec PyProof.Rows L2
/-! ### defs that are called where no repr is under way (so that the repr of a list, of a tuple, is its text) -/
structure FnG (P : Program) (w : World) (K : PySem.W.Frag) (mg : Str → Option Value) (base : Heap) (k : Nat) (f : Addr) (fd : FuncData) (ps : List Str) (sp : Sp) : Prop where
  many : ∀ vs H Q E, sp vs H Q E → vs.length = ps.length
  runs : ∀ (A : Around) (out : List Env) (s : Shared) (H : Hp) (ar : Args) (us : List Value) (vs : List V) (Q : VK) (E : XK), Room k A → A.guards = some [] → Env0 P w K mg base A out s H →
    BindsTo s fd ar (ps.zip us) → Vals vs us → sp vs H Q E → codeAny (model P w) A (.call (.ref f) ar) (CR CX0 out P w H s Q E) s
theorem FnG.of {P : Program} {w : World} {K : PySem.W.Frag} {mg : Str → Option Value} {base : Heap} {k : Nat} {f : Addr} {fd : FuncData} {ps : List Str} {sp : Sp} (F : FnOk P w K mg base CX0 k f fd ps sp) : FnG P w K mg base k f fd ps sp :=
  ⟨F.len, fun A out s H ar us vs Q E hr _ => F.run A out s H ar us vs Q E hr⟩
theorem guards_deeper {A : Around} {env : Env} (h : A.guards = some []) : (A.deeper env).guards = some [] := h
theorem okG {P : Program} {w : World} {K : PySem.W.Frag} {mg : Str → Option Value} {base : Heap} {x qual : Str} {st : Stmt} {f : Addr} {fd : FuncData} {N ps : List Str} {k : Nat} {sp : Sp} (F : Fun K x qual st f fd) (S : FnScope N ps (defScope st))
    (many : ∀ vs H Q E, sp vs H Q E → vs.length = ps.length)
    (walk : ∀ (cdv : Value) (A : Around) (out : List Env) (s : Shared) (H : Hp) (vs : List V) (Q : VK) (E : XK), Room k (A.deeper (envOfC qual (defScope st) s.heap.objs.size f cdv)) → (A.deeper (envOfC qual (defScope st) s.heap.objs.size f cdv)).guards = some [] → sp vs H Q E →
      ∃ t, PSs (cxOf CX0 P w K mg base N qual (defScope st) f cdv A out s H E).nox (defBody st) t ∧ t { nx := fun _ H' => Q .non H', rt := Q } (start N vs) H) : FnG P w K mg base (k + 1) f fd ps sp := by
  obtain ⟨oc, od, kV, dc, pm, an, cv, ct, ol, rfl, look, code⟩ := F.ex
  constructor
  · exact many
  · intro A out s H ar us vs Q E room gd env0 binds rel want
    have inK : K.In s.heap := env0.mod.kin.keeps (fun b o e => And.left (env0.bs b o e))
    have noLim : s.heap.NoLimit := env0.mod.nolimit.keeps (fun b o e => And.left (env0.bs b o e))
    apply codeAny_call_function room.depth (inK _ _ look) rfl S.co S.gen rfl (PySem.W.codeRec_of inK code)
    apply binds
    apply wpAny_newFunctionEnv_cells S.kind
    · rintro ⟨n, v⟩ hy
      cases S.par n (List.of_mem_zip hy).1 with
      | inl q => exact Or.inl q
      | inr q => exact Or.inr ⟨q, PySem.W.cellsFrom_some _ _ _ (Or.inl q)⟩
    · intro env he s1 inCall
      cases he
      refine And.intro (noLim.keeps inCall.toInCall.keep) (codeAny_func ?_)
      obtain ⟨t, term, reading⟩ := walk cv A out s H vs Q E (room.deeper _) (guards_deeper gd) want
      have start : Inv (cxOf CX0 P w K mg base N qual (defScope st) f cv A out s H E) [] (L2.start N vs) H s1 := inv_start S room.hd env0 (many _ _ _ _ want) rel inCall
      apply wpAny_mono (term.nox.run [] s1 (L2.start N vs) H _ start reading)
      · intro fl s' told
        cases fl with
        | ret u =>
          obtain ⟨v, σ', H', J, rv, q⟩ := told
          exact ⟨v, H', J.os, J.bare, J.base, J.hok, rv, q⟩
        | next =>
          obtain ⟨σ', H', J, q⟩ := told
          exact ⟨V.non, H', J.os, J.bare, J.base, J.hok, rfl, q⟩
        | brk => exact (And.right (Exists.choose_spec (Exists.choose_spec told))).elim
        | cont => exact (And.right (Exists.choose_spec (Exists.choose_spec told))).elim
      · intro e s' told
        exact told
structure CG (P : Program) (w : World) (K : PySem.W.Frag) (mg : Str → Option Value) (base : Heap) (k : Nat) (x : Str) (ps : List Str) (sp : Sp) : Prop where
  ex : ∃ (f : Addr) (fd : FuncData), FnG P w K mg base k f fd ps sp ∧ mg x = some (.ref f) ∧ PySem.W.keepIn K (.ref f) = true ∧ Binds K fd ps []
theorem CF.g {P : Program} {w : World} {K : PySem.W.Frag} {mg : Str → Option Value} {base : Heap} {k : Nat} {x : Str} {ps : List Str} {sp : Sp} (C : CF P w K mg base k x ps sp) : CG P w K mg base k x ps sp := by
  obtain ⟨f, fd, F, r⟩ := C.ex
  exact ⟨f, fd, FnG.of F, r⟩
theorem pe_cg {X : Cx} {k : Nat} {x : Str} {ps : List Str} {sp : Sp} {e : Expr} {es : List Expr} {t : TA} {p pos : Pos} (C : CG X.prog X.w X.K X.mg X.base k x ps sp) (hr : Room k X.A) (gd : X.A.guards = some []) (hg : Gl X x) (ha : PA X (e :: es) t)
    (hdb : (x == ("__debug__" : Str)) = false := by decide) (he : starEach (e :: es) X.env = (false, eval e X.env) :: starEach es X.env := by rfl) (hpl : (backTo pos (starEach es X.env)).any (·.1) = false := by rfl) :
    PE X (.Call (.Name x p) (e :: es) [] pos) (tCall sp [] E0 t) := by
  obtain ⟨f, fd, F, g, kp, b⟩ := C.ex
  constructor
  intro pins s σ H Q I h
  apply wpAny_Call_Name_kw (ld_glob I hg g ?_ hdb)
  apply PySem.W.callWith_K (h₀ := X.base) I.ok.mod.kin kp (thn (ha.run pos pins s σ H _ I h) ?_) he hpl
  rintro us s1 ⟨vs, H1, I1, r, q⟩
  refine ⟨I1.kIn, wpAny_call (codeAny_mono (F.runs X.A X.stack s1 H1 ⟨us, []⟩ (us ++ []) (vs ++ []) Q E0 hr gd I1.env0 (b s1 us I1.kIn ?_) (r.append .nil) q) ?_)⟩
  · have hl := F.many _ _ _ _ q
    rw [(r.append .nil).length] at hl
    exact hl
  · intro res s' told
    cases res with
    | error e => exact told.elim
    | ok fl =>
      cases fl with
      | ret u => exact I1.after told
      | next => exact told.elim
      | brk => exact told.elim
      | cont => exact told.elim
/-! ### repr of data -/
def rRepr (K : PySem.W.Frag) : List V → Hp → VK → Prop := fun xs H Q => ∃ (x : V) (d : PyData), xs = [x] ∧ Dp K H x d ∧ d.showable = true ∧ d.shown.length ≤ sizeLine ∧ d.depth ≤ 60 ∧ d.hasDict = false ∧ Q (.str d.shown) H
theorem kk_repr (K : PySem.W.Frag) {X : Cx} (gd : X.A.guards = some []) (hu : X.A.units + 64 < cLine) (h : X.K = K := by rfl) : CallR X (.builtin "repr") (rRepr K) := by
  subst h
  intro pins s σ H xs us Q I r want
  obtain ⟨x, d, rfl, hd, hs, hz, hp, hn, q⟩ := want
  obtain ⟨u, rfl, ru⟩ := vals1 r
  cases hd with
  | non =>
    cases (show u = Value.none from ru)
    simp only [PyData.shown] at q
    exact PySem.P.repr_of_none ⟨.str _, H, I.tok _, ⟨_, rfl⟩, q⟩
  | bl b =>
    cases (show u = Value.bool b from ru)
    simp only [PyData.shown] at q
    exact PySem.P.repr_of_bool ⟨.str _, H, I.tok _, ⟨_, rfl⟩, q⟩
  | int i =>
    obtain ⟨t, e⟩ := (show ∃ t, u = Value.int i t from ru)
    cases e
    simp only [PyData.shown] at q
    exact PySem.P.repr_of_int (by simpa [PyData.showable] using hs) ⟨.str _, H, I.tok _, ⟨_, rfl⟩, q⟩
  | str y =>
    obtain ⟨t, e⟩ := (show ∃ t, u = Value.str y t from ru)
    cases e
    simp only [PyData.shown] at q hz
    exact PySem.P.repr_of_str ⟨.str _, H, I.tok _, ⟨_, rfl⟩, q⟩ hz
  | lst a b =>
    obtain ⟨as, rd⟩ := Dp.reads I _ _ u (.lst a b) ru
    cases ru
    exact repr_of_reads' rd hs (fun z => by rw [hn] at z; cases z) gd (by omega) (fun _ _ e => e) (fun h' t tk keep => ⟨.str _, H, I.kept keep, ⟨_, rfl⟩, q⟩) hz
  | tup a b =>
    obtain ⟨as, rd⟩ := Dp.reads I _ _ u (.tup a b) ru
    cases ru
    exact repr_of_reads' rd hs (fun z => by rw [hn] at z; cases z) gd (by omega) (fun _ _ e => e) (fun h' t tk keep => ⟨.str _, H, I.kept keep, ⟨_, rfl⟩, q⟩) hz
/-! ### the law's call, for such a def -/
theorem law_callG {P : Program} {w : World} {K : PySem.W.Frag} {mg mb : Str → Option Value} {k : Nat} {fa a : Addr} {fd : FuncData} {x : Str} {sp : Sp} {s₁ : Shared} {vs : List Value} {ns : List Int}
    (inK : K.In s₁.heap) (nsM : s₁.heap.Ns mainGlobals mg) (nsB : s₁.heap.Ns builtinsNs mb) (boot : ∀ y : Str, y ≠ "__name__" → mb y = bootBuiltins y) (lim : s₁.heap.NoLimit) (gens : s₁.gens = #[])
    (at_a : s₁.heap.get? a = some { cls := .type "list", data := .seq vs.toArray }) (areI : IntsAre vs ns) (fits : ns.length ≤ sizeLine) (room : Room k callerA)
    (F : ∀ base : Heap, K.In base → base.Ns mainGlobals mg → FnG P w K mg base k fa fd [x] sp) (bind : ∀ (s : Shared) (u : Value), BindsTo s fd ⟨[u], []⟩ [(x, u)])
    (want : ∀ H : Hp, Only H → SqL K H a (ns.map V.int) → sp [.ref a] H (fun v _ => v = .bl true) fun _ _ _ => False) :
    codeAny (model P w) callerA (.call (.ref fa) ⟨[.ref a], []⟩) (fun r s' => r = .ok (.ret (.bool true)) ∧ OldK s₁.heap s'.heap ∧ s'.os = s₁.os ∧ AllBare s'.gens) s₁ := by
  have many := areI.length
  have goes : ∀ H : Hp, Only H → SqL K H a (ns.map V.int) → HOk P w H s₁.heap → (∀ b, H b ≠ none → b = a) → (H a ≠ none → K.lookup a = none) →
      codeAny (model P w) callerA (.call (.ref fa) ⟨[.ref a], []⟩) (fun r s' => r = .ok (.ret (.bool true)) ∧ OldK s₁.heap s'.heap ∧ s'.os = s₁.os ∧ AllBare s'.gens) s₁ := by
    intro H only isL ok one notK
    have free : ∀ {b : Addr}, b ≠ a → H b = none := by
      intro b nb
      cases hb : H b with
      | none => rfl
      | some u => exact absurd (one b (by rw [hb]; simp)) nb
    have dictFree : ∀ {b : Addr} {o : Obj} {es : Array DictEntry} {ep : Nat}, s₁.heap.get? b = some o → o.data = .dict es ep → H b = none := by
      intro b o es ep e dd
      refine free (fun z => ?_)
      rw [z, at_a] at e
      cases e
      cases (show Data.seq vs.toArray _ = Data.dict es ep from dd)
    have nsH : ∀ {b : Addr} {m : Str → Option Value}, s₁.heap.Ns b m → (hidT s₁.heap H).Ns b m := by
      rintro b m ⟨o, es, ep, e, dd, rr⟩
      exact ⟨o, es, ep, hidT_get e (dictFree e dd), dd, rr⟩
    have inH : K.In (hidT s₁.heap H) := by
      intro b o e
      refine hidT_get (inK b o e) ?_
      cases hb : H b with
      | none => rfl
      | some u =>
        have ba := one b (by rw [hb]; simp)
        rw [ba] at hb e
        rw [notK (by rw [hb]; simp)] at e
        cases e
    have modH : Mod K mg (hidT s₁.heap H) := by
      obtain ⟨mc, l1, l2⟩ := lim
      exact ⟨inH, nsH nsM, ⟨mb, nsH nsB, boot⟩, ⟨mc, nsH l1, l2⟩⟩
    have env : Env0 P w K mg (hidT s₁.heap H) callerA [] s₁ H := by
      refine ⟨rfl, modH, fun b o e => of_hidT e, Nat.le_of_eq (hidT_size _ _), trivial, ?_, ok, .of_eq gens⟩
      intro b hb
      cases hb
    apply codeAny_mono ((F _ inH (nsH nsM)).runs callerA [] s₁ H ⟨[.ref a], []⟩ [.ref a] [.ref a] _ _ room rfl env (bind s₁ (.ref a)) (.cons rfl .nil) (want H only isL))
    intro res s' told
    cases res with
    | error e => exact told.elim
    | ok fl =>
      cases fl with
      | next => exact told.elim
      | brk => exact told.elim
      | cont => exact told.elim
      | ret u =>
        obtain ⟨v, H', os, bare, un, ok', rel, qv⟩ := told
        cases (show v = .bl true from qv)
        cases (show u = Value.bool true from rel)
        refine ⟨rfl, OldK.of_keep (fun b o e => ?_), os, bare⟩
        cases hb : H b with
        | none => exact un.keep b o e hb (fun z => by cases z) (fun z => by cases z)
        | some u2 =>
          rcases only b with z | ⟨ob, xs, z⟩
          · rw [hb] at z
            cases z
          · have e1 := And.left (ok b _ z)
            have e2 := And.left (ok' b _ (un.frzs b ob _ z))
            rw [e] at e1
            cases e1
            exact e2
  cases hk : K.lookup a with
  | some o =>
    have e := inK a o hk
    rw [at_a] at e
    cases e
    apply goes (fun _ => none)
    · exact fun _ => Or.inl rfl
    · exact Or.inr ⟨_, vs.toArray, _, hk, rfl, rfl, rfl, by rw [List.size_toArray, many]; exact fits, by simpa using vals_ints areI⟩
    · intro b u z
      cases (show (none : Option HO) = some u from z)
    · exact fun b z => absurd rfl z
    · exact fun z => absurd rfl z
  | none =>
    apply goes (fun b => if b = a then some (.frz { cls := .type "list", data := .seq vs.toArray } (.lst (ns.map V.int))) else none)
    · intro b
      by_cases hb : b = a
      · exact Or.inr ⟨_, _, if_pos hb⟩
      · exact Or.inl (if_neg hb)
    · exact Or.inl (Or.inr ⟨{ cls := .type "list", data := .seq vs.toArray }, if_pos rfl⟩)
    · intro b u z
      by_cases hb : b = a
      · have z' := (if_pos hb).symm.trans z
        cases z'
        rw [hb]
        exact ⟨at_a, by rw [List.length_map]; exact fits, vs, _, vals_ints areI, at_a⟩
      · cases (if_neg hb).symm.trans z
    · intro b z
      by_cases hb : b = a
      · exact hb
      · exact absurd (if_neg hb) z
    · exact fun _ => hk
theorem walk_ofG {l : PySem.W.OpenLaw} {n k : Nat} {q : Program} {loose : List Str} {XP : (Str → Option Value) → Heap → Prop} {YP : World → Heap → Prop} {d : DefRec} {K : Params → PySem.W.Frag} {sp : World → Sp} {x : Str}
    (hn : l.most = some n) (hn2 : n ≤ sizeLine) (hdf : d.params.defaults = []) (hr : Room k callerA) (hY : ∀ (w : World) (h : Heap), YP w h → (K w.params).In h)
    (F : ∀ (w : World) (mg : Str → Option Value) (fa : Addr) (h : Heap), (K w.params).In h → h.Ns mainGlobals mg → mg d.name = some (.ref fa) →
      ∃ fd : FuncData, (∀ (s : Shared) (u : Value), BindsTo s fd ⟨[u], []⟩ [(x, u)]) ∧ ∀ base : Heap, (K w.params).In base → base.Ns mainGlobals mg → FnG l.prog w (K w.params) mg base k fa fd [x] (sp w))
    (hsp : ∀ (w : World) (H : Hp) (a : Addr) (ns : List Int), ns.length ≤ n → Only H → SqL (K w.params) H a (ns.map V.int) → sp w [.ref a] H (fun v _ => v = .bl true) fun _ _ _ => False) :
    PySem.W.WalkO q loose XP YP l.row.toRowW d [] (fun f vs => PySem.call f vs) := by
  apply Att.attach_call hn hdf
  intro w s₀ s₁ mg mb fa o pm cd doc a vs ns G Y ho hd hcd hmg hobj hints hlen hg
  obtain ⟨fd, hb, hF⟩ := F w mg fa _ (hY w _ Y) G.T.g hmg
  exact law_callG (hY w _ Y) G.T.g G.T.b G.T.builtins G.T.nolimit hg hobj hints (Nat.le_trans hlen hn2) hr hF hb (fun H hO hS => hsp w H a ns hlen hO hS)
/-! ### texts and data -/
theorem op_mul_str {X : Cx} : OpR X (binaryOp .Mult) (fun x y H Q => ∃ (z : Str) (k : Int), x = .str z ∧ y = .int k ∧ MulOk z k ∧ Q (.str (Txt.mul z k)) H) := by
  intro pins s σ H x y v u Q I rx ry h
  obtain ⟨z, k, rfl, rfl, ok, q⟩ := h
  obtain ⟨t, rfl⟩ := rx
  obtain ⟨t', rfl⟩ := ry
  exact SB.mul ok fun t' tk => ⟨.str _, H, I.tok _, ⟨_, rfl⟩, q⟩
theorem len_app (x y : Str) : (x ++ y).length = x.length + y.length := by
  rw [TL.len_tl, TL.tl_append, List.length_append, ← TL.len_tl, ← TL.len_tl]
def tyD : PyData → String
  | .none => "NoneType"
  | .bool _ => "bool"
  | .int _ => "int"
  | .str _ => "str"
  | .list _ => "list"
  | .tuple _ => "tuple"
  | .dict _ => "dict"
theorem ty_of_dp {K : PySem.W.Frag} {H : Hp} {x : V} {d : PyData} (h : Dp K H x d) : TyX K H x (.type (tyD d)) := by
  cases h with
  | non => exact .base .non
  | bl b => exact .base (.bl b)
  | int i => exact .base (.int i)
  | str z => exact .base (.str z)
  | lst a _ =>
    rcases a with (a | ⟨o, a⟩) | ⟨o, its, n, a, c, _⟩
    · exact .base (.lst a)
    · exact .base (.frz a)
    · exact .kList a c
  | tup a _ =>
    rcases a with (a | ⟨o, a⟩) | ⟨o, its, n, a, c, _⟩
    · exact .base (.tup a)
    · exact .fTuple a
    · exact .kTuple a c
theorem seqT_same {K : PySem.W.Frag} {H H' : Hp} {a : Addr} {xs : List V} (e : Same H H') (h : SqT K H a xs) : SqT K H' a xs := by
  rcases h with (h | ⟨o, h⟩) | h
  · exact .inl (.inl (e _ _ h))
  · exact .inl (.inr ⟨o, e _ _ h⟩)
  · exact .inr h
mutual
theorem dp_same {K : PySem.W.Frag} {H H' : Hp} (e : Same H H') : ∀ {x : V} {d : PyData}, Dp K H x d → Dp K H' x d
  | _, _, .non => .non
  | _, _, .bl b => .bl b
  | _, _, .int i => .int i
  | _, _, .str z => .str z
  | _, _, .lst a b => .lst (e.seq a) (dpAll_same e b)
  | _, _, .tup a b => .tup (seqT_same e a) (dpAll_same e b)
theorem dpAll_same {K : PySem.W.Frag} {H H' : Hp} (e : Same H H') : ∀ {xs : List V} {ds : List PyData}, DpAll K H xs ds → DpAll K H' xs ds
  | _, _, .nil => .nil
  | _, _, .cons a b => .cons (dp_same e a) (dpAll_same e b)
end
/-- the heap without the place b -/
def wo (b : Addr) (H : Hp) : Hp := fun c => if c = b then none else H c
theorem wo_sub (b : Addr) (H : Hp) : Same (wo b H) H := fun c o h => by
  unfold wo at h
  split at h
  · cases h
  · exact h
theorem wo_but {b : Addr} {H H' : Hp} (t : But b H H') : Same (wo b H) (wo b H') := fun c o h => by
  unfold wo at h ⊢
  split at h
  · cases h
  · rename_i n
    rw [if_neg n]
    exact t c o n h
theorem wo_same {b : Addr} {H H' : Hp} (t : Same H H') : Same (wo b H) (wo b H') := wo_but (But.of t)
theorem wo_at {b c : Addr} {H : Hp} {o : HO} (n : c ≠ b) (h : H c = some o) : wo b H c = some o := by
  unfold wo
  rw [if_neg n]
  exact h
def Asc (s : Str) : Prop := ∀ c ∈ TL.tl s, c < 128
theorem Asc.app {x y : Str} (hx : Asc x) (hy : Asc y) : Asc (x ++ y) := fun c hc => by
  rw [TL.tl_append] at hc
  rcases List.mem_append.mp hc with h | h
  · exact hx c h
  · exact hy c h
theorem Asc.cut {x : Str} {lo hi : Option Int} (hx : Asc x) : Asc (cutS x lo hi) := fun c hc => hx c (List.mem_of_mem_drop (List.mem_of_mem_take hc))
theorem Asc.one {c : Nat} (h : c < 128) : Asc ⟨#[c]⟩ := fun d hd => by
  rw [List.mem_singleton.mp (show d ∈ [c] from hd)]
  exact h
def topS (i : Nat) : Stmt := PySem.Challenge.pw_partwares_k01_names.main.body.getD i (.Pass ⟨0, 0, 0, 0⟩)
section
variable {P : Program} {w : World} {K : PySem.W.Frag} {mg : Str → Option Value} {base : Heap}
/-! ### _law_take -/
abbrev s__law_take : Stmt := topS 7
abbrev N__law_take : List Str := ["_law_box_here", "_law_many", "_law_found", "_law_once"]
theorem sc__law_take : FnScope N__law_take ["_law_box_here", "_law_many"] (defScope s__law_take) := ⟨rfl, rfl, rfl, by decide +kernel, rfl, by decide +kernel, by decide +kernel⟩
def sp__law_take (K : PySem.W.Frag) : Sp := fun vs H Q _ => ∃ (b : Addr) (m n : Int), vs = [.ref b, .int m] ∧ Box H b n ∧ 0 < m ∧ m < 1073741824 ∧ n < 1000000000 ∧ ∀ (r : Int) H', 0 ≤ r → r < m → Box H' b (n + 1) → But b H H' → Q (.int r) H'
theorem ok__law_take {f : Addr} {fd : FuncData} (F : Fun K "_law_take" "_law_take" s__law_take f fd) (g : mg "_law_take" = some (.ref f)) (bd : Binds K fd ["_law_box_here", "_law_many"] []) : CF P w K mg base 1 "_law_take" ["_law_box_here", "_law_many"] (sp__law_take K) := by
  refine ⟨f, fd, F.ok sc__law_take (fun vs H Q E h => ?_) (fun cdv A outer s H vs Q E hr h => ?_), g, F.kp, bd⟩
  · first | (obtain ⟨_, rfl, _⟩ := h; rfl) | (obtain ⟨_, _, rfl, _⟩ := h; rfl) | (obtain ⟨_, _, _, rfl, _⟩ := h; rfl) | (obtain ⟨_, _, _, _, rfl, _⟩ := h; rfl) | (obtain ⟨_, _, _, _, _, rfl, _⟩ := h; rfl) | (obtain ⟨_, _, _, _, _, _, rfl, _⟩ := h; rfl) | (obtain ⟨_, _, _, _, _, _, _, rfl, _⟩ := h; rfl)
  · have hu64 := hr.units
    obtain ⟨b, m, n, rfl, ⟨x, y, z, hb, hx, hy, hy2, hz, hz2⟩, hm, hm2, hn, q⟩ := h
    refine ⟨_, (pss_cons (ps_if (pt_cmpR op_gt (pe_ix (kk_ixl K) (pv 0) pe_int (fun _ _ => rfl)) pe_int (nomark _))
         (pss_cons (ps_set (i := 2) sc__law_take.nd rfl (.inl rfl) (pe_op op_mod (pe_ix (kk_ixl K) (pv 0) pe_int (fun _ _ => rfl)) (pv 1)))
          (pss_cons (ps_asg (pe_op op_fdiv (pe_ix (kk_ixl K) (pv 0) pe_int (fun _ _ => rfl)) (pv 1)) (pg_sub (pv 0) pe_int set_list))
          (pss_one (ps_ret (pv 2)))))
         pss_nil)
      (pss_cons (ps_asg (pe_op op_add (pe_ix (kk_ixl K) (pv 0) pe_int (fun _ _ => rfl)) pe_int) (pg_sub (pv 0) pe_int set_list))
      (pss_cons (ps_set (i := 3) sc__law_take.nd rfl (.inl rfl) (pe_op op_mod (pe_op op_pow (pe_op op_add (pe_ix (kk_ixl K) (pv 0) pe_int (fun _ _ => rfl)) (pe_op op_mul pe_int (pe_ix (kk_ixl K) (pv 0) pe_int (fun _ _ => rfl)))) pe_int) pe_int))
      (pss_one (ps_ret (pe_op op_mod (pe_op op_fdiv (pe_op op_mod (pe_op op_add (pe_op op_mul (pv 3) (pe_op op_add (pe_op op_mod (pv 3) pe_int) pe_int)) (pe_op op_mul (pe_ix (kk_ixl K) (pv 0) pe_int (fun _ _ => rfl)) pe_int)) pe_int) pe_int) (pv 1))))))), ?_⟩
    refine ⟨_, rfl, b, _, _, _, rfl, rfl, SqL.of hb, rfl, _, _, rfl, rfl, _, rfl, ite2 (fun e => ?_) (fun e => ?_)⟩
    · refine ⟨_, rfl, b, _, _, _, rfl, rfl, SqL.of hb, rfl, _, rfl, _, _, rfl, rfl, hm, ?_⟩
      refine ⟨_, rfl, b, _, _, _, rfl, rfl, SqL.of hb, rfl, _, rfl, _, _, rfl, rfl, ⟨hm, hm2⟩, _, rfl, b, _, _, _, rfl, rfl, hb, rfl, ?_⟩
      refine ⟨_, rfl, q _ _ (Int.emod_nonneg _ (by omega)) (Int.emod_lt_of_pos _ hm) ⟨x / m, y, z, upd_same, Int.ediv_nonneg hx (by omega), hy, hy2, hz, by omega⟩ But.upd⟩
    · refine ⟨_, rfl, b, _, _, _, rfl, rfl, SqL.of hb, rfl, _, _, rfl, rfl, _, rfl, b, _, _, _, rfl, rfl, hb, rfl, ?_⟩
      have h1 : (upd H b (.lst [.int x, .int y, .int (z + 1)])) b = some (.lst [.int x, .int y, .int (z + 1)]) := upd_same
      refine ⟨_, rfl, b, _, _, _, rfl, rfl, SqL.of h1, rfl, _, rfl, b, _, _, _, rfl, rfl, SqL.of h1, rfl, _, _, rfl, rfl, .inl ⟨by decide, by decide⟩, _, _, rfl, rfl, _, _, rfl, rfl, ⟨by decide, by decide, ?_⟩, _, _, rfl, rfl, (by show (0 : Int) < 2147483647; decide), ?_⟩
      · show (y + 39373 * (z + 1)).natAbs < 2 ^ 64
        omega
      · have o0 : 0 ≤ (y + 39373 * (z + 1)) ^ (5 : Int).toNat % 2147483647 := Int.emod_nonneg _ (by decide)
        have o1 : (y + 39373 * (z + 1)) ^ (5 : Int).toNat % 2147483647 < 2147483647 := Int.emod_lt_of_pos _ (by decide)
        refine ⟨_, rfl, _, rfl, _, _, rfl, rfl, (by show (0 : Int) < 40009; decide), _, _, rfl, rfl, _, _, rfl, rfl, .inl ⟨?_, ?_⟩, _, rfl, b, _, _, _, rfl, rfl, SqL.of h1, rfl, _, _, rfl, rfl, .inl ⟨?_, ?_⟩, _, _, rfl, rfl, _, _, rfl, rfl, (by show (0 : Int) < 2147483629; decide), _, _, rfl, rfl, ⟨by decide, by decide⟩, _, rfl, _, _, rfl, rfl, hm, ?_⟩
        · omega
        · omega
        · omega
        · omega
        · exact q _ _ (Int.emod_nonneg _ (by omega)) (Int.emod_lt_of_pos _ hm) ⟨x, y, z + 1, h1, hx, hy, hy2, by omega, by omega⟩ But.upd
/-! ### _law_box -/
abbrev s__law_box : Stmt := topS 6
abbrev N__law_box : List Str := ["_law_script", "_law_k", "_law_cell"]
theorem sc__law_box : FnScope N__law_box ["_law_script", "_law_k"] (defScope s__law_box) := ⟨rfl, rfl, rfl, by decide +kernel, rfl, by decide +kernel, by decide +kernel⟩
def sp__law_box (K : PySem.W.Frag) : Sp := fun vs H Q _ => ∃ (a : Addr) (k : Int) (ns : List Int), vs = [.ref a, .int k] ∧ SqL K H a (ns.map V.int) ∧ 0 ≤ k ∧ k ≤ 63 ∧ ∀ H' b, H b = none → Same H H' → Box H' b 0 → Q (.ref b) H'
theorem ok__law_box {f : Addr} {fd : FuncData} (F : Fun K "_law_box" "_law_box" s__law_box f fd) (g : mg "_law_box" = some (.ref f)) (bd : Binds K fd ["_law_script", "_law_k"] []) (m_len : mg "len" = none) (m_abs : mg "abs" = none) (m_int : mg "int" = none) : CF P w K mg base 1 "_law_box" ["_law_script", "_law_k"] (sp__law_box K) := by
  refine ⟨f, fd, F.ok sc__law_box (fun vs H Q E h => ?_) (fun cdv A outer s H vs Q E hr h => ?_), g, F.kp, bd⟩
  · first | (obtain ⟨_, rfl, _⟩ := h; rfl) | (obtain ⟨_, _, rfl, _⟩ := h; rfl) | (obtain ⟨_, _, _, rfl, _⟩ := h; rfl) | (obtain ⟨_, _, _, _, rfl, _⟩ := h; rfl) | (obtain ⟨_, _, _, _, _, rfl, _⟩ := h; rfl) | (obtain ⟨_, _, _, _, _, _, rfl, _⟩ := h; rfl) | (obtain ⟨_, _, _, _, _, _, _, rfl, _⟩ := h; rfl)
  · have hu64 := hr.units
    obtain ⟨a, k, ns, rfl, hS, hk0, hk, q⟩ := h
    refine ⟨_, (pss_cons (ps_set (i := 2) sc__law_box.nd rfl (.inl rfl) pe_int)
      (pss_cons (ps_if (pt_cmpR op_lt (pv 1) (pe_callB (kk_len K) (by rfl) m_len PySem.boot_len (pa_cons (pv 0) pa_nil)) (nomark _))
         (pss_one (ps_set (i := 2) sc__law_box.nd rfl (.inl rfl) (pe_ix (kk_ixl K) (pv 0) (pv 1) (fun _ _ => rfl))))
         pss_nil)
      (pss_one (ps_ret (pe_lst (pa_cons (pe_op op_mul (pe_callB call_abs (by rfl) m_abs (by decide +kernel) (pa_cons (pv 2) pa_nil)) (pe_callTy call_int1 (by rfl) m_int (by decide +kernel) (pa_cons (pe_cmpR op_ge (pe_callB call_abs (by rfl) m_abs (by decide +kernel) (pa_cons (pv 2) pa_nil)) (pe_op op_pow pe_int pe_int) (nomark _)) pa_nil))) (pa_cons (pe_op op_add (pe_op op_add (pe_op op_mod (pv 2) pe_int) (pe_op op_mul pe_int (pv 1))) pe_int) (pa_cons pe_int pa_nil)))))))), ?_⟩
    refine ⟨_, rfl, _, rfl, a, _, rfl, .inl hS, _, _, rfl, rfl, _, rfl, ite2 (fun e => ?_) (fun e => ?_)⟩
    · have e1 := of_decide_eq_true e
      rw [List.length_map] at e1
      obtain ⟨c, hc⟩ := at_int hk0 e1
      refine ⟨_, rfl, _, rfl, a, _, _, _, rfl, rfl, hS, hc, ?_⟩
      refine ⟨_, rfl, _, rfl, _, rfl, _, rfl, _, _, rfl, rfl, ⟨by decide, by decide, by decide⟩, _, _, rfl, rfl, .inr ⟨_, rfl, _, _, rfl, rfl, .inr ⟨?_, ?_⟩, _, rfl, _, _, rfl, rfl, (by show (0 : Int) < 2147483629; decide), _, rfl, _, _, rfl, rfl, .inl ⟨by decide, by decide⟩, _, _, rfl, rfl, _, _, rfl, rfl, (by show 3 ≤ sizeLine; decide), fun p hp => ?_⟩⟩
      · split <;> omega
      · split <;> omega
      · refine q _ p hp (same_new hp) ⟨_, _, _, upd_same, ?_, ?_, ?_, by omega, by omega⟩
        · refine Int.mul_nonneg ?_ ?_ <;> split <;> omega
        · have := Int.emod_nonneg c (show (2147483629 : Int) ≠ 0 by decide)
          omega
        · have := Int.emod_lt_of_pos c (show (0 : Int) < 2147483629 by decide)
          omega
    · refine ⟨_, rfl, _, rfl, _, rfl, _, rfl, _, _, rfl, rfl, ⟨by decide, by decide, by decide⟩, _, _, rfl, rfl, .inr ⟨_, rfl, _, _, rfl, rfl, .inr ⟨?_, ?_⟩, _, rfl, _, _, rfl, rfl, (by show (0 : Int) < 2147483629; decide), _, rfl, _, _, rfl, rfl, .inl ⟨by decide, by decide⟩, _, _, rfl, rfl, _, _, rfl, rfl, (by show 3 ≤ sizeLine; decide), fun p hp => ?_⟩⟩
      · split <;> omega
      · split <;> omega
      · refine q _ p hp (same_new hp) ⟨_, _, _, upd_same, ?_, ?_, ?_, by omega, by omega⟩
        · refine Int.mul_nonneg ?_ ?_ <;> split <;> omega
        · omega
        · omega
open TL in
def madeOf (t sg : Str) : Bool := !decide (V.str t = V.str (Str.ofString "")) && (tl t).all fun c => decide (c ∈ tl sg)
/-! ### is_made_of -/
abbrev s_is_made_of : Stmt := topS 4
abbrev N_is_made_of : List Str := ["text", "signs", "sign"]
theorem sc_is_made_of : FnScope N_is_made_of ["text", "signs"] (defScope s_is_made_of) := ⟨rfl, rfl, rfl, by decide +kernel, rfl, by decide +kernel, by decide +kernel⟩
def sp_is_made_of (K : PySem.W.Frag) : Sp := fun vs H Q _ => ∃ (t sg : Str), vs = [.str t, .str sg] ∧ t.length ≤ 100000 ∧ ∀ H', Same H H' → Q (.bl (madeOf t sg)) H'
theorem ok_is_made_of {f : Addr} {fd : FuncData} (F : Fun K "is_made_of" "is_made_of" s_is_made_of f fd) (g : mg "is_made_of" = some (.ref f)) (bd : Binds K fd ["text", "signs"] []) (m_all : mg "all" = none) : CF P w K mg base 1 "is_made_of" ["text", "signs"] (sp_is_made_of K) := by
  refine ⟨f, fd, F.ok sc_is_made_of (fun vs H Q E h => ?_) (fun cdv A outer s H vs Q E hr h => ?_), g, F.kp, bd⟩
  · first | (obtain ⟨_, rfl, _⟩ := h; rfl) | (obtain ⟨_, _, rfl, _⟩ := h; rfl) | (obtain ⟨_, _, _, rfl, _⟩ := h; rfl) | (obtain ⟨_, _, _, _, rfl, _⟩ := h; rfl) | (obtain ⟨_, _, _, _, _, rfl, _⟩ := h; rfl) | (obtain ⟨_, _, _, _, _, _, rfl, _⟩ := h; rfl) | (obtain ⟨_, _, _, _, _, _, _, rfl, _⟩ := h; rfl)
  · have hu64 := hr.units
    obtain ⟨t, sg, rfl, hz, q⟩ := h
    refine ⟨_, (pss_one (ps_ret (pe_and (pe_cmpR op_ne (pv 0) pe_str (nomark _)) (pe_one (pe_callB (kk_all K rfl) (by rfl) m_all (by decide +kernel) (pa_cons (pe_lc (own := [("sign", 2)]) (g := (gName 2)) (tt := tYes) rfl sc_is_made_of.nd (pi_str (pv 0)) (blkOk_by (own := [("sign", 2)]) (N := N_is_made_of) (sc := defScope s_is_made_of) (by decide +kernel)) (fun _ _ _ _ _ => pg_name (i := 2) sc_is_made_of.nd rfl (Or.inl rfl)) (fun _ _ _ _ _ => pts_nil) (fun _ _ _ _ _ => (pe_cmpR op_in_sign (pv 2) (pv 1) (by rfl)))) pa_nil)))))), ?_⟩
    refine ⟨_, rfl, rfl, _, rfl, ?_⟩
    by_cases ht : V.str t = V.str (Str.ofString "")
    · have e : madeOf t sg = false := by
        unfold madeOf
        rw [decide_eq_true ht]
        rfl
      rw [e] at q
      rw [decide_eq_true ht]
      exact iteF (q H (Same.refl H))
    · rw [decide_eq_false ht]
      refine iteT ⟨_, rfl, t, rfl, fun D hD => lc_it walk_str (fun i H' => Same H H' ∧ H' D = some (.lst ((((TL.tl t).take i).map fun c => decide (c ∈ TL.tl sg)).map V.bl))) ⟨same_new hD, upd_same⟩ (fun _ _ _ _ => trivial) (fun i x H1 H2 hi h hy => ?_) (fun H' h => ?_)⟩
      · obtain ⟨rfl, c, hc, rfl⟩ := hy
        have hc2 : (TL.tl t)[i]? = some c := by simpa using hc
        refine ⟨rfl, _, rfl, _, rfl, c, sg, rfl, rfl, _, h.2, ?_, ?_, ?_⟩
        · rw [List.length_map, List.length_map, List.length_take]
          have : (TL.tl t).length = t.length := (TL.len_tl t).symm
          exact Nat.lt_of_le_of_lt (Nat.min_le_right _ _) (Nat.lt_of_le_of_lt (by rw [this]; exact hz) (by decide))
        · exact fun b o e => by
            rw [upd_ne (ne_of_none e hD)]
            exact h.1 _ _ e
        · rw [upd_same, List.take_add_one, hc2, Option.toList_some, List.map_append, List.map_append]
          rfl
      · obtain ⟨s1, h1⟩ := h
        have hn : (TL.tl t).take t.cps.size = TL.tl t := List.take_of_length_le (by simp [TL.tl])
        rw [hn] at h1
        refine ⟨D, _, rfl, SqL.of h1, ?_⟩
        have e : madeOf t sg = ((TL.tl t).map fun c => decide (c ∈ TL.tl sg)).all id := by
          unfold madeOf
          rw [decide_eq_false ht, List.all_map]
          rfl
        rw [← e]
        exact q _ s1
def lows : List Nat := TL.tl (Str.ofString "abcdefghijklmnopqrstuvwxyz")
def nameS (s : Str) : Bool := decide ((s.length : Int) ≤ 8) && madeOf s (Str.ofString "abcdefghijklmnopqrstuvwxyz")
def nameD : PyData → Bool
  | .str s => nameS s
  | _ => false
abbrev strOk (d : PyData) : Prop := ∀ s, d = .str s → s.length ≤ 100000
theorem kit_str {d : PyData} (h : tyD d ≠ "str") : ∀ {K : PySem.W.Frag}, PySem.W.kitOne K (.type (tyD d)) (.type "str") = some false := by
  intro K
  cases d with
  | str s => exact absurd rfl h
  | none => exact kit_ty (a := "NoneType") (by decide +kernel)
  | bool b => exact kit_ty (a := "bool") (by decide +kernel)
  | int i => exact kit_ty (a := "int") (by decide +kernel)
  | list xs => exact kit_ty (a := "list") (by decide +kernel)
  | tuple xs => exact kit_ty (a := "tuple") (by decide +kernel)
  | dict xs => exact kit_ty (a := "dict") (by decide +kernel)
theorem ty_str {d : PyData} : (∃ s, d = .str s) ∨ (tyD d ≠ "str" ∧ nameD d = false) := by
  cases d with
  | str s => exact .inl ⟨s, rfl⟩
  | none => exact .inr ⟨by decide, rfl⟩
  | bool b => exact .inr ⟨by show "bool" ≠ "str"; decide, rfl⟩
  | int i => exact .inr ⟨by show "int" ≠ "str"; decide, rfl⟩
  | list xs => exact .inr ⟨by show "list" ≠ "str"; decide, rfl⟩
  | tuple xs => exact .inr ⟨by show "tuple" ≠ "str"; decide, rfl⟩
  | dict xs => exact .inr ⟨by show "dict" ≠ "str"; decide, rfl⟩
/-! ### is_name -/
abbrev s_is_name : Stmt := topS 3
abbrev N_is_name : List Str := ["thing"]
theorem sc_is_name : FnScope N_is_name ["thing"] (defScope s_is_name) := ⟨rfl, rfl, rfl, by decide +kernel, rfl, by decide +kernel, by decide +kernel⟩
def sp_is_name (K : PySem.W.Frag) : Sp := fun vs H Q _ => ∃ (x : V) (d : PyData), vs = [x] ∧ Dp K H x d ∧ strOk d ∧ ∀ H', Same H H' → Q (.bl (nameD d)) H'
theorem ok_is_name {f : Addr} {fd : FuncData} (F : Fun K "is_name" "is_name" s_is_name f fd) (g : mg "is_name" = some (.ref f)) (bd : Binds K fd ["thing"] []) (m_len : mg "len" = none) (m_isinstance : mg "isinstance" = none) (m_str : mg "str" = none) {t_LETTERS : Tok} (g_LETTERS : mg "LETTERS" = some (.str (Str.ofString "abcdefghijklmnopqrstuvwxyz") t_LETTERS)) {t_LONGEST_NAME : Tok} (g_LONGEST_NAME : mg "LONGEST_NAME" = some (.int 8 t_LONGEST_NAME)) (C_is_made_of : CF P w K mg base 1 "is_made_of" ["text", "signs"] (sp_is_made_of K)) : CF P w K mg base 2 "is_name" ["thing"] (sp_is_name K) := by
  refine ⟨f, fd, F.ok sc_is_name (fun vs H Q E h => ?_) (fun cdv A outer s H vs Q E hr h => ?_), g, F.kp, bd⟩
  · first | (obtain ⟨_, rfl, _⟩ := h; rfl) | (obtain ⟨_, _, rfl, _⟩ := h; rfl) | (obtain ⟨_, _, _, rfl, _⟩ := h; rfl) | (obtain ⟨_, _, _, _, rfl, _⟩ := h; rfl) | (obtain ⟨_, _, _, _, _, rfl, _⟩ := h; rfl) | (obtain ⟨_, _, _, _, _, _, rfl, _⟩ := h; rfl) | (obtain ⟨_, _, _, _, _, _, _, rfl, _⟩ := h; rfl)
  · have hu64 := hr.units
    obtain ⟨x, d, rfl, hd, hz, q⟩ := h
    refine ⟨_, (pss_one (ps_ret (pe_and (pe_callB (kk_isi K) (by rfl) m_isinstance (by decide +kernel) (pa_cons (pv 0) (pa_cons (pe_bltn (v := .ty "str") (by rfl) m_str (by decide +kernel) rfl) pa_nil))) (pe_and (pe_cmpR op_le (pe_callB call_len_str (by rfl) m_len PySem.boot_len (pa_cons (pv 0) pa_nil)) (pe_glob (v := .int 8) (by rfl) g_LONGEST_NAME ⟨_, rfl⟩) (nomark _)) (pe_one (pe_cf C_is_made_of (hr.mono (by decide)) (by rfl) (pa_cons (pv 0) (pa_cons (pe_glob (v := .str (Str.ofString "abcdefghijklmnopqrstuvwxyz")) (by rfl) g_LETTERS ⟨_, rfl⟩) pa_nil)))))))), ?_⟩
    rcases ty_str (d := d) with ⟨s, rfl⟩ | ⟨n1, n2⟩
    · cases hd
      have hz' := hz s rfl
      refine ⟨_, rfl, _, _, _, _, true, rfl, .ty _, .base (.str s), kit_ty (by decide +kernel), _, rfl, iteT ?_⟩
      refine ⟨_, rfl, s, rfl, Nat.le_trans hz' (by decide), _, _, rfl, rfl, _, rfl, ?_⟩
      have e : nameD (.str s) = (decide ((s.length : Int) ≤ 8) && madeOf s (Str.ofString "abcdefghijklmnopqrstuvwxyz")) := rfl
      rw [e] at q
      by_cases h8 : (s.length : Int) ≤ 8
      · rw [decide_eq_true h8] at q ⊢
        exact iteT ⟨_, rfl, s, _, rfl, hz', fun H' s' => q H' s'⟩
      · rw [decide_eq_false h8] at q ⊢
        exact iteF (q H (Same.refl H))
    · rw [n2] at q
      exact ⟨_, rfl, _, _, _, _, false, rfl, .ty _, ty_of_dp hd, kit_str n1, _, rfl, iteF (q H (Same.refl H))⟩
theorem sum_add (f g : Nat → Int) : ∀ S : List Nat, (S.map fun c => f c + g c).sum = (S.map f).sum + (S.map g).sum
  | [] => by simp
  | c :: r => by
    rw [List.map_cons, List.map_cons, List.map_cons, List.sum_cons, List.sum_cons, List.sum_cons, sum_add f g r]
    omega
theorem sum_one (n : Nat) : ∀ S : List Nat, S.Nodup → (S.map fun c => if n = c then (1 : Int) else 0).sum = if n ∈ S then 1 else 0
  | [], _ => by simp
  | c :: r, h => by
    obtain ⟨h1, h2⟩ := List.nodup_cons.mp h
    rw [List.map_cons, List.sum_cons, sum_one n r h2]
    by_cases e : n = c
    · subst e
      simp [h1]
    · simp [e]
theorem sum_cnt (S : List Nat) (hS : S.Nodup) : ∀ l : List Nat, (S.map fun c => PyProof.Rows.cnt c l).sum = ((l.filter fun c => decide (c ∈ S)).length : Int)
  | [] => by
    have : (S.map fun c => PyProof.Rows.cnt c []) = S.map fun _ => (0 : Int) := rfl
    rw [this]
    clear this hS
    induction S with
    | nil => rfl
    | cons c r ih => rw [List.map_cons, List.sum_cons, ih]; rfl
  | n :: l => by
    have e : (S.map fun c => PyProof.Rows.cnt c (n :: l)) = S.map fun c => (if n = c then (1 : Int) else 0) + PyProof.Rows.cnt c l := List.map_congr_left fun c _ => PyProof.Rows.cnt_cons c n l
    rw [e, sum_add, sum_one n S hS, sum_cnt S hS l]
    by_cases h : n ∈ S
    · rw [List.filter_cons_of_pos (by simp [h])]
      simp [h]
      omega
    · rw [List.filter_cons_of_neg (by simp [h])]
      simp [h]
theorem name_by_count (s : Str) : ((if (decide ((0 : Int) < (((TL.tl s).filter fun c => decide (c ∈ lows)).length : Int)) && decide ((((TL.tl s).filter fun c => decide (c ∈ lows)).length : Int) < 9)) = true then decide (V.int (((TL.tl s).filter fun c => decide (c ∈ lows)).length : Int) = V.int (s.length : Int)) else false) : Bool) = nameS s := by
  have hl : s.length = (TL.tl s).length := TL.len_tl s
  unfold nameS madeOf
  show _ = (decide ((s.length : Int) ≤ 8) && (!decide (V.str s = V.str (Str.ofString "")) && (TL.tl s).all fun c => decide (c ∈ lows)))
  have hemp : V.str s = V.str (Str.ofString "") ↔ (TL.tl s) = [] := by
    constructor
    · intro h
      cases h
      rfl
    · intro h
      exact congrArg V.str (TL.ext_tl (y := Str.ofString "") (h.trans rfl))
  rw [hl]
  generalize TL.tl s = l at *
  have hle : (l.filter fun c => decide (c ∈ lows)).length ≤ l.length := List.length_filter_le _ _
  by_cases ha : (l.all fun c => decide (c ∈ lows)) = true
  · have hf : (l.filter fun c => decide (c ∈ lows)) = l := List.filter_eq_self.mpr fun c hc => List.all_eq_true.mp ha c hc
    rw [hf, ha]
    by_cases h0 : l = []
    · subst h0
      simp [hemp]
    · have : 0 < l.length := List.length_pos_iff.mpr h0
      rw [decide_eq_false (fun z => h0 (hemp.mp z)), decide_eq_true (show (0 : Int) < (l.length : Int) by omega)]
      by_cases h8 : (l.length : Int) ≤ 8
      · rw [decide_eq_true h8, decide_eq_true (show (l.length : Int) < 9 by omega)]
        simp
      · rw [decide_eq_false h8, decide_eq_false (show ¬ (l.length : Int) < 9 by omega)]
        rfl
  · have hlt : (l.filter fun c => decide (c ∈ lows)).length < l.length := by
      rcases Nat.lt_or_ge (l.filter fun c => decide (c ∈ lows)).length l.length with h | h
      · exact h
      · refine absurd ?_ ha
        have e : (l.filter fun c => decide (c ∈ lows)).length = l.length := Nat.le_antisymm hle h
        exact List.all_eq_true.mpr (List.length_filter_eq_length_iff.mp e)
    rw [Bool.not_eq_true] at ha
    rw [ha, Bool.and_false, Bool.and_false, decide_eq_false (show ¬ V.int ((l.filter fun c => decide (c ∈ lows)).length : Int) = V.int (l.length : Int) from fun z => by
      have := V.int.inj z
      omega)]
    split <;> rfl
/-! ### _law_is -/
abbrev s__law_is : Stmt := topS 8
abbrev N__law_is : List Str := ["_law_thing", "_law_many", "_law_letter"]
theorem sc__law_is : FnScope N__law_is ["_law_thing"] (defScope s__law_is) := ⟨rfl, rfl, rfl, by decide +kernel, rfl, by decide +kernel, by decide +kernel⟩
def sp__law_is (K : PySem.W.Frag) : Sp := fun vs H Q _ => ∃ (x : V) (d : PyData), vs = [x] ∧ Dp K H x d ∧ strOk d ∧ ∀ H', Same H H' → Q (.bl (nameD d)) H'
theorem ok__law_is {f : Addr} {fd : FuncData} (F : Fun K "_law_is" "_law_is" s__law_is f fd) (g : mg "_law_is" = some (.ref f)) (bd : Binds K fd ["_law_thing"] []) (m_isinstance : mg "isinstance" = none) (m_str : mg "str" = none) (m_sum : mg "sum" = none) (m_len : mg "len" = none) : CF P w K mg base 1 "_law_is" ["_law_thing"] (sp__law_is K) := by
  refine ⟨f, fd, F.ok sc__law_is (fun vs H Q E h => ?_) (fun cdv A outer s H vs Q E hr h => ?_), g, F.kp, bd⟩
  · first | (obtain ⟨_, rfl, _⟩ := h; rfl) | (obtain ⟨_, _, rfl, _⟩ := h; rfl) | (obtain ⟨_, _, _, rfl, _⟩ := h; rfl) | (obtain ⟨_, _, _, _, rfl, _⟩ := h; rfl) | (obtain ⟨_, _, _, _, _, rfl, _⟩ := h; rfl) | (obtain ⟨_, _, _, _, _, _, rfl, _⟩ := h; rfl) | (obtain ⟨_, _, _, _, _, _, _, rfl, _⟩ := h; rfl)
  · have hu64 := hr.units
    obtain ⟨x, d, rfl, hd, hz, q⟩ := h
    refine ⟨_, (pss_cons (ps_if (pt_not (pt_val (pe_callB (kk_isi K) (by rfl) m_isinstance (by decide +kernel) (pa_cons (pv 0) (pa_cons (pe_bltn (v := .ty "str") (by rfl) m_str (by decide +kernel) rfl) pa_nil)))))
         (pss_one (ps_ret pe_bl))
         pss_nil)
      (pss_cons (ps_set (i := 1) sc__law_is.nd rfl (.inl rfl) (pe_callB (kk_sum K rfl) (by rfl) m_sum (by decide +kernel) (pa_cons (pe_lc (own := [("_law_letter", 2)]) (g := (gName 2)) (tt := tYes) rfl sc__law_is.nd (pi_str pe_str) (blkOk_by (own := [("_law_letter", 2)]) (N := N__law_is) (sc := defScope s__law_is) (by decide +kernel)) (fun _ _ _ _ _ => pg_name (i := 2) sc__law_is.nd rfl (Or.inl rfl)) (fun _ _ _ _ _ => pts_nil) (fun _ _ _ _ _ => (pe_m1 PySem.F.slot_str_count PySem.F.type_str_count mt_count (pv 0) (pv 2)))) pa_nil)))
      (pss_one (ps_ret (pe_and (pe_chain op_lt op_lt pe_int (pv 1) pe_int) (pe_one (pe_cmpR op_eq (pv 1) (pe_callB call_len_str (by rfl) m_len PySem.boot_len (pa_cons (pv 0) pa_nil)) (nomark _)))))))), ?_⟩
    rcases ty_str (d := d) with ⟨s, rfl⟩ | ⟨n1, n2⟩
    · cases hd
      have hz' := hz s rfl
      refine ⟨_, rfl, _, _, _, _, true, rfl, .ty _, .base (.str s), kit_ty (by decide +kernel), _, rfl, iteF ?_⟩
      refine ⟨_, rfl, fun D hD => lc_it walk_str (fun i H' => Same H H' ∧ H' D = some (.lst (((lows.take i).map fun c => PyProof.Rows.cnt c (TL.tl s)).map V.int))) ⟨same_new hD, upd_same⟩ (fun _ _ _ _ => trivial) (fun i x H1 H2 hi h hy => ?_) (fun H' h => ?_)⟩
      · obtain ⟨rfl, c, hc, rfl⟩ := hy
        have hc2 : lows[i]? = some c := by
          rw [← hc]
          exact Array.getElem?_toList
        refine ⟨rfl, _, rfl, ⟨_, rfl⟩, _, rfl, s, _, rfl, rfl, _, h.2, ?_, ?_, ?_⟩
        · rw [List.length_map, List.length_map, List.length_take]
          exact Nat.lt_of_le_of_lt (Nat.min_le_right _ _) (by decide +kernel)
        · exact fun b o e => by
            rw [upd_ne (ne_of_none e hD)]
            exact h.1 _ _ e
        · rw [upd_same, List.take_add_one, hc2, Option.toList_some, List.map_append, List.map_append, PyProof.Rows.count_cnt]
          rfl
      · obtain ⟨s1, h1⟩ := h
        have hn : lows.take (Str.ofString "abcdefghijklmnopqrstuvwxyz").cps.size = lows := List.take_of_length_le (by decide +kernel)
        rw [hn] at h1
        refine ⟨D, _, rfl, SqL.of h1, ?_⟩
        rw [sum_cnt lows (by decide +kernel)]
        have en := name_by_count s
        have eD : nameD (.str s) = nameS s := rfl
        rw [eD, ← en] at q
        generalize (((TL.tl s).filter fun c => decide (c ∈ lows)).length : Int) = n at *
        refine ⟨_, rfl, _, _, rfl, rfl, _, rfl, ?_⟩
        by_cases h0 : (0 : Int) < n
        · rw [decide_eq_true h0] at q ⊢
          refine iteT ⟨_, _, rfl, rfl, _, rfl, ?_⟩
          by_cases h9 : n < 9
          · rw [decide_eq_true h9] at q ⊢
            exact iteT ⟨_, rfl, _, rfl, s, rfl, Nat.le_trans hz' (by decide), rfl, q _ s1⟩
          · rw [decide_eq_false h9] at q ⊢
            exact iteF (q _ s1)
        · rw [decide_eq_false h0] at q ⊢
          exact iteF ⟨_, rfl, iteF (q _ s1)⟩
    · rw [n2] at q
      exact ⟨_, rfl, _, _, _, _, false, rfl, .ty _, ty_of_dp hd, kit_str n1, _, rfl, iteT (q H (Same.refl H))⟩
theorem dpAll_bools {K : PySem.W.Frag} {H : Hp} : ∀ bs : List Bool, DpAll K H (bs.map V.bl) (bs.map PyData.bool)
  | [] => .nil
  | b :: r => .cons (.bl b) (dpAll_bools r)
theorem lay_bools : ∀ bs : List Bool, PyData.canLayAll0 (bs.map PyData.bool) = true
  | [] => by simp [PyData.canLayAll0]
  | b :: r => by simp [PyData.canLayAll0, PyData.canLay0, lay_bools r]
theorem depth_bools : ∀ bs : List Bool, PyData.depthAll (bs.map PyData.bool) ≤ 1
  | [] => by simp [PyData.depthAll]
  | b :: r => by
    have h := depth_bools r
    simp only [List.map_cons, PyData.depthAll, PyData.depth]
    omega
theorem sh_bools (bs : List Bool) : SeqAt.shaped (.list (bs.map PyData.bool)) = true := by
  have h1 := depth_bools bs
  have h2 : PyData.depth (.list (bs.map PyData.bool)) ≤ 64 := by
    simp only [PyData.depth]
    omega
  show (PyData.canLay0 (.list (bs.map PyData.bool)) && decide (PyData.depth (.list (bs.map PyData.bool)) ≤ 64)) = true
  rw [Bool.and_eq_true]
  exact ⟨by simp only [PyData.canLay0]; exact lay_bools bs, decide_eq_true h2⟩
abbrev Good (d : PyData) : Prop := strOk d ∧ d.showable = true ∧ d.shown.length ≤ sizeLine ∧ d.depth ≤ 60 ∧ d.hasDict = false
/-! ### _law_right -/
abbrev s__law_right : Stmt := topS 9
abbrev N__law_right : List Str := ["_law_thing", "_law_kept", "_law_found", "_law_one"]
theorem sc__law_right : FnScope N__law_right ["_law_thing"] (defScope s__law_right) := ⟨rfl, rfl, rfl, by decide +kernel, rfl, by decide +kernel, by decide +kernel⟩
def sp__law_right (K : PySem.W.Frag) : Sp := fun vs H Q _ => ∃ (x : V) (d : PyData), vs = [x] ∧ Dp K H x d ∧ Good d ∧ ∀ H', Same H H' → Q (.bl true) H'
theorem ok__law_right {f : Addr} {fd : FuncData} (F : Fun K "_law_right" "_law_right" s__law_right f fd) (g : mg "_law_right" = some (.ref f)) (bd : Binds K fd ["_law_thing"] []) (m_repr : mg "repr" = none) (m_all : mg "all" = none) (m_isinstance : mg "isinstance" = none) (m_bool : mg "bool" = none) (C_is_name : CF P w K mg base 2 "is_name" ["thing"] (sp_is_name K)) (C__law_is : CF P w K mg base 1 "_law_is" ["_law_thing"] (sp__law_is K)) : CG P w K mg base 3 "_law_right" ["_law_thing"] (sp__law_right K) := by
  refine ⟨f, fd, okG F sc__law_right (fun vs H Q E h => ?_) (fun cdv A outer s H vs Q E hr gd h => ?_), g, F.kp, bd⟩
  · first | (obtain ⟨_, rfl, _⟩ := h; rfl) | (obtain ⟨_, _, rfl, _⟩ := h; rfl) | (obtain ⟨_, _, _, rfl, _⟩ := h; rfl) | (obtain ⟨_, _, _, _, rfl, _⟩ := h; rfl) | (obtain ⟨_, _, _, _, _, rfl, _⟩ := h; rfl) | (obtain ⟨_, _, _, _, _, _, rfl, _⟩ := h; rfl) | (obtain ⟨_, _, _, _, _, _, _, rfl, _⟩ := h; rfl)
  · have hu64 := hr.units
    obtain ⟨x, d, rfl, hd, ⟨g1, g2, g3, g4, g5⟩, q⟩ := h
    refine ⟨_, (pss_cons (ps_set (i := 1) sc__law_right.nd rfl (.inl rfl) (pe_callB (kk_repr K gd hu64) (by rfl) m_repr (by decide +kernel) (pa_cons (pv 0) pa_nil)))
      (pss_cons (ps_set (i := 2) sc__law_right.nd rfl (.inl rfl) (pe_lst (pa_cons (pe_cf C_is_name (hr.mono (by decide)) (by rfl) (pa_cons (pv 0) pa_nil)) (pa_cons (pe_cf C_is_name (hr.mono (by decide)) (by rfl) (pa_cons (pv 0) pa_nil)) pa_nil))))
      (pss_one (ps_ret (pe_and (pe_cmpR (kk_eqD K hu64) (pv 2) (pe_op op_rep (pe_lst (pa_cons (pe_cf C__law_is (hr.mono (by decide)) (by rfl) (pa_cons (pv 0) pa_nil)) pa_nil)) pe_int) (nomark _)) (pe_and (pe_callB (kk_all K rfl) (by rfl) m_all (by decide +kernel) (pa_cons (pe_lc (own := [("_law_one", 3)]) (g := (gName 3)) (tt := tYes) rfl sc__law_right.nd (pi_list (pv 2)) (blkOk_by (own := [("_law_one", 3)]) (N := N__law_right) (sc := defScope s__law_right) (by decide +kernel)) (fun _ _ _ _ _ => pg_name (i := 3) sc__law_right.nd rfl (Or.inl rfl)) (fun _ _ _ _ _ => pts_nil) (fun _ _ _ _ _ => (pe_callB (kk_isi K) (by rfl) m_isinstance (by decide +kernel) (pa_cons (pv 3) (pa_cons (pe_bltn (v := .ty "bool") (by rfl) m_bool (by decide +kernel) rfl) pa_nil))))) pa_nil)) (pe_one (pe_cmpR op_eq (pe_callB (kk_repr K gd hu64) (by rfl) m_repr (by decide +kernel) (pa_cons (pv 0) pa_nil)) (pv 1) (nomark _))))))))), ?_⟩
    refine ⟨_, rfl, x, d, rfl, hd, g2, g3, g4, g5, ?_⟩
    refine ⟨_, rfl, x, d, rfl, hd, g1, fun H1 s1 => ⟨_, rfl, x, d, rfl, dp_same s1 hd, g1, fun H2 s2 => ⟨(by show 2 ≤ sizeLine; decide), fun l hl => ?_⟩⟩⟩
    have sA : Same H (upd H2 l (.lst [.bl (nameD d), .bl (nameD d)])) := (s1.trans s2).trans (same_new hl)
    refine ⟨_, rfl, _, rfl, x, d, rfl, dp_same sA hd, g1, fun H3 s3 => ⟨(by show 1 ≤ sizeLine; decide), fun l2 h2 => ?_⟩⟩
    refine ⟨l2, _, _, rfl, rfl, upd_same, by decide, by decide, (by show 1 * 2 ≤ sizeLine; decide), fun l3 h3 => ?_⟩
    have sB := same_new (o := .lst [.bl (nameD d)]) h2
    have sC := same_new (o := .lst (List.replicate (2 : Int).toNat [V.bl (nameD d)]).flatten) h3
    have hlC := sC _ _ (sB _ _ (s3 _ _ (upd_same (H := H2) (a := l) (o := .lst [.bl (nameD d), .bl (nameD d)]))))
    refine ⟨_, _, .lst (SqL.of hlC) (dpAll_bools [nameD d, nameD d]), .lst (SqL.of upd_same) (dpAll_bools [nameD d, nameD d]), sh_bools _, sh_bools _, _, rfl, ?_⟩
    rw [SeqAt.eqv_refl _ (SeqAt.canLay_of_shaped (sh_bools _))]
    refine iteT ?_
    refine ⟨_, rfl, l, rfl, ⟨_, SqL.of hlC⟩, fun D hD => lc_list (K := K) (a := l) (xs := [.bl (nameD d), .bl (nameD d)]) (fun i H' => Same (upd (upd H3 l2 (.lst [.bl (nameD d)])) l3 (.lst (List.replicate (2 : Int).toNat [V.bl (nameD d)]).flatten)) H' ∧ H' D = some (.lst ((List.replicate i true).map V.bl))) ⟨same_new hD, upd_same⟩ (fun i H' _ h => h.1.seq (SqL.of hlC)) (fun i x H' hx h => ?_) (fun H' h => ?_)⟩
    · have hb : ∃ b, x = .bl b := by
        match i, hx with
        | 0, hx => exact ⟨_, (Option.some.inj hx).symm⟩
        | 1, hx => exact ⟨_, (Option.some.inj hx).symm⟩
      obtain ⟨b, rfl⟩ := hb
      have hi : i < 2 := (List.getElem?_eq_some_iff.mp hx).1
      refine ⟨rfl, _, rfl, _, _, _, _, true, rfl, .ty _, .base (.bl b), kit_ty (by decide +kernel), _, h.2, ?_, ?_, ?_⟩
      · rw [List.length_map, List.length_replicate]
        exact small1000 (by omega)
      · exact fun c o e => by
          rw [upd_ne (ne_of_none e hD)]
          exact h.1 _ _ e
      · rw [upd_same, List.replicate_succ', List.map_append]
        rfl
    · obtain ⟨s4, h4⟩ := h
      refine ⟨D, _, rfl, SqL.of h4, ?_⟩
      rw [all_true]
      have sZ : Same H H' := (((sA.trans s3).trans sB).trans sC).trans s4
      refine ⟨_, rfl, iteT ⟨_, rfl, x, d, rfl, dp_same sZ hd, g2, g3, g4, g5, _, rfl, rfl, ?_⟩⟩
      rw [decide_eq_true rfl]
      exact q _ sZ
theorem low_at {r : Int} (h0 : 0 ≤ r) (h1 : r < 26) : ∃ c, atI (Str.ofString "abcdefghijklmnopqrstuvwxyz").cps.toList r = some c ∧ c ∈ lows := by
  obtain ⟨j, rfl⟩ := Int.eq_ofNat_of_zero_le h0
  have hl : lows.length = 26 := by decide +kernel
  have hj : j < lows.length := by omega
  exact ⟨lows[j], atI_nat (List.getElem?_eq_getElem hj), List.getElem_mem hj⟩
theorem join_signs (cs : List Nat) : TL.tl (Txt.join (Str.ofString "") (cs.map fun c => (⟨#[c]⟩ : Str))) = cs := by
  rw [TL.join_eq, TL.tl_join]
  induction cs with
  | nil => rfl
  | cons c r ih =>
    cases r with
    | nil => rfl
    | cons d r =>
      show [c] ++ (TL.tl (Str.ofString "") ++ TL.joinL (TL.tl (Str.ofString "")) (((d :: r).map fun c => (⟨#[c]⟩ : Str)).map TL.tl)) = c :: d :: r
      rw [ih]
      rfl
theorem sum_len1 : ∀ cs : List Nat, ((cs.map fun c => (⟨#[c]⟩ : Str)).map (·.length)).sum = cs.length
  | [] => rfl
  | c :: r => by
    rw [List.map_cons, List.map_cons, List.sum_cons, sum_len1 r, List.length_cons]
    show 1 + r.length = r.length + 1
    omega
/-! ### _law_name -/
abbrev s__law_name : Stmt := topS 10
abbrev N__law_name : List Str := ["_law_box_here", "_law_letters", "_law_size", "_law_k"]
theorem sc__law_name : FnScope N__law_name ["_law_box_here"] (defScope s__law_name) := ⟨rfl, rfl, rfl, by decide +kernel, rfl, by decide +kernel, by decide +kernel⟩
def sp__law_name (K : PySem.W.Frag) : Sp := fun vs H Q _ => ∃ (b : Addr) (n : Int), vs = [.ref b] ∧ Box H b n ∧ n < 1000000 ∧ ∀ (s : Str) H', (∀ c ∈ TL.tl s, c ∈ lows) → 1 ≤ s.length → s.length ≤ 8 → Box H' b (n + 10) → But b H H' → Q (.str s) H'
theorem size_pick {r x : Int} (h0 : 0 ≤ r) (h1 : r < 3) (x0 : 0 ≤ x) (x1 : x < 8) : ∃ c : Int, atI [V.int 1, .int 8, .int (1 + x)] r = some (.int c) ∧ 1 ≤ c ∧ c ≤ 8 := by
  have h : r = 0 ∨ r = 1 ∨ r = 2 := by omega
  rcases h with rfl | rfl | rfl
  · exact ⟨1, rfl, by omega, by omega⟩
  · exact ⟨8, rfl, by omega, by omega⟩
  · exact ⟨1 + x, rfl, by omega, by omega⟩
theorem ok__law_name {f : Addr} {fd : FuncData} (F : Fun K "_law_name" "_law_name" s__law_name f fd) (g : mg "_law_name" = some (.ref f)) (bd : Binds K fd ["_law_box_here"] []) (m_range : mg "range" = none) (C__law_take : CF P w K mg base 1 "_law_take" ["_law_box_here", "_law_many"] (sp__law_take K)) : CF P w K mg base 2 "_law_name" ["_law_box_here"] (sp__law_name K) := by
  refine ⟨f, fd, F.ok sc__law_name (fun vs H Q E h => ?_) (fun cdv A outer s H vs Q E hr h => ?_), g, F.kp, bd⟩
  · first | (obtain ⟨_, rfl, _⟩ := h; rfl) | (obtain ⟨_, _, rfl, _⟩ := h; rfl) | (obtain ⟨_, _, _, rfl, _⟩ := h; rfl) | (obtain ⟨_, _, _, _, rfl, _⟩ := h; rfl) | (obtain ⟨_, _, _, _, _, rfl, _⟩ := h; rfl) | (obtain ⟨_, _, _, _, _, _, rfl, _⟩ := h; rfl) | (obtain ⟨_, _, _, _, _, _, _, rfl, _⟩ := h; rfl)
  · have hu64 := hr.units
    obtain ⟨b, n, rfl, hb, hn, q⟩ := h
    refine ⟨_, (pss_cons (ps_set (i := 1) sc__law_name.nd rfl (.inr rfl) pe_str)
      (pss_cons (ps_set (i := 2) sc__law_name.nd rfl (.inl rfl) (pe_ix (kk_ixl K) (pe_lst (pa_cons pe_int (pa_cons pe_int (pa_cons (pe_op op_add pe_int (pe_cf C__law_take (hr.mono (by decide)) (by rfl) (pa_cons (pv 0) (pa_cons pe_int pa_nil)))) pa_nil)))) (pe_cf C__law_take (hr.mono (by decide)) (by rfl) (pa_cons (pv 0) (pa_cons pe_int pa_nil))) (fun _ _ => rfl)))
      (pss_one (ps_ret (pe_join pe_str (pe_lc (own := [("_law_k", 3)]) (g := (gName 3)) (tt := tYes) rfl sc__law_name.nd (pi_range1 (by rfl) m_range (pa_cons (pv 2) pa_nil)) (blkOk_by (own := [("_law_k", 3)]) (N := N__law_name) (sc := defScope s__law_name) (by decide +kernel)) (fun _ _ _ _ _ => pg_name (i := 3) sc__law_name.nd rfl (Or.inl rfl)) (fun _ _ _ _ _ => pts_nil) (fun _ _ _ _ _ => (pe_ix ix_str (pv 1) (pe_cf C__law_take (hr.mono (by decide)) (by rfl) (pa_cons (pv 0) (pa_cons pe_int pa_nil))) (fun _ _ => rfl))))))))), ?_⟩
    refine ⟨_, rfl, b, 8, n, rfl, hb, by decide, by decide, by omega, fun x H1 x0 x1 b1 t1 => ?_⟩
    refine ⟨_, _, rfl, rfl, (by show 3 ≤ sizeLine; decide), fun l hl => ?_⟩
    have b2 := b1.new (o := .lst [.int 1, .int 8, .int (1 + x)]) hl
    have t2 : But b _ _ := But.new (b := b) (o := .lst [.int 1, .int 8, .int (1 + x)]) hl
    refine ⟨_, rfl, b, 3, _, rfl, b2, by decide, by decide, by omega, fun r H3 r0 r1 b3 t3 => ?_⟩
    obtain ⟨z, hz, z0, z1⟩ := size_pick r0 r1 x0 x1
    refine ⟨l, _, _, _, rfl, rfl, SqL.of (t3 _ _ (b1.ne hl) upd_same), hz, ?_⟩
    refine ⟨⟨_, rfl⟩, _, rfl, _, rfl, by omega, by omega, fun D hD => lc_range (lo := 0) (n := z.toNat) (fun i H' => But b H3 H' ∧ Box H' b (n + 2 + i) ∧ ∃ cs : List Nat, cs.length = i ∧ (∀ c ∈ cs, c ∈ lows) ∧ H' D = some (.lst ((cs.map fun c => (⟨#[c]⟩ : Str)).map V.str))) ⟨But.new hD, (b3.mono (by omega)).new hD, [], rfl, fun _ h => (nomatch h), upd_same⟩ (fun i H' hi h => ?_) (fun H' h => ?_)⟩
    · obtain ⟨t4, b4, cs, hcs, hlow, hDl⟩ := h
      have hDb : D ≠ b := b3.ne hD
      refine ⟨rfl, _, rfl, _, rfl, b, 26, _, rfl, b4, by decide, by decide, by omega, fun r' H5 r0' r1' b5 t5 => ?_⟩
      obtain ⟨c, hc, hcl⟩ := low_at r0' r1'
      refine ⟨_, _, c, rfl, rfl, by decide +kernel, hc, _, t5 _ _ hDb hDl, ?_, ?_, ?_, cs ++ [c], ?_, ?_, ?_⟩
      · rw [List.length_map, List.length_map, hcs]
        exact small1000 (by omega)
      · exact fun e o ne he => by
          rw [upd_ne (ne_of_none (show H3 e = some o from he) hD)]
          exact t5 _ _ ne (t4 _ _ ne he)
      · obtain ⟨x', y', z', h0, h1⟩ := b5
        exact ⟨x', y', z', by rw [upd_ne hDb.symm]; exact h0, by omega⟩
      · rw [List.length_append, hcs]
        rfl
      · intro d hd
        rcases List.mem_append.mp hd with h | h
        · exact hlow d h
        · rw [List.mem_singleton.mp h]
          exact hcl
      · rw [upd_same, List.map_append, List.map_append]
        rfl
    · obtain ⟨t4, b4, cs, hcs, hlow, hDl⟩ := h
      refine ⟨_, D, _, rfl, rfl, .inl (SqL.of hDl), ?_, ?_⟩
      · rw [sum_len1, List.length_map]
        show cs.length + cs.length * 0 ≤ 16777216
        omega
      · have htl := join_signs cs
        refine q _ _ ?_ ?_ ?_ (b4.mono (by omega)) (((t1.trans t2).trans t3).trans t4)
        · rw [htl]
          exact hlow
        · rw [TL.len_tl, htl, hcs]
          omega
        · rw [TL.len_tl, htl, hcs]
          omega
theorem Asc.up {x : Str} (hx : Asc x) : Asc (Txt.upper x) ∧ (Txt.upper x).length = x.length := by
  rw [PyProof.Rows.upper_ascii hx]
  constructor
  · intro c hc
    have hc' : c ∈ (x.cps.map PyProof.Rows.up1).toList := hc
    rw [Array.toList_map] at hc'
    obtain ⟨d, hd, rfl⟩ := List.mem_map.mp hc'
    have := hx d hd
    unfold PyProof.Rows.up1
    split <;> omega
  · show (x.cps.map PyProof.Rows.up1).size = x.cps.size
    exact Array.size_map
theorem Asc.low {x : Str} (hx : ∀ c ∈ TL.tl x, c ∈ lows) : Asc x := fun c hc => (by decide +kernel : ∀ c ∈ lows, c < 128) c (hx c hc)
def sgn : Str := Str.ofString " !\"#$&'()*+,-./0123456789:;<=>?@ABCDEFGHIJKLMNOPQRSTUVWXYZ[\\]^_`abcdefghijklmnopqrstuvwxyz{|}~\n\t"
theorem sgn_asc : Asc sgn := by
  unfold Asc
  decide +kernel
theorem sgn_at {r : Int} (h0 : 0 ≤ r) (h1 : r < (sgn.length : Int)) : ∃ c, atI sgn.cps.toList r = some c ∧ c < 128 := by
  obtain ⟨j, rfl⟩ := Int.eq_ofNat_of_zero_le h0
  have hj : j < sgn.cps.toList.length := by
    have : sgn.cps.toList.length = sgn.length := (TL.len_tl sgn).symm
    omega
  exact ⟨sgn.cps.toList[j], atI_nat (List.getElem?_eq_getElem hj), sgn_asc _ (List.getElem_mem hj)⟩
theorem at_map {α β : Type} {f : α → β} {xs : List α} {r : Int} (h0 : 0 ≤ r) (h1 : r < (xs.length : Int)) : ∃ x, x ∈ xs ∧ atI (xs.map f) r = some (f x) := by
  obtain ⟨j, rfl⟩ := Int.eq_ofNat_of_zero_le h0
  have hj : j < xs.length := by omega
  refine ⟨xs[j], List.getElem_mem hj, atI_nat ?_⟩
  rw [List.getElem?_map, List.getElem?_eq_getElem hj]
  rfl
theorem cut1_len (x : Str) : (cutS x none (some 1)).length ≤ 1 := by
  rw [TL.len_tl]
  show ((x.cps.toList.drop (HT.sIx x.length 0 none)).take (HT.sIx x.length x.length (some ((1 : Nat) : Int)) - HT.sIx x.length 0 none)).length ≤ 1
  rw [List.length_take, HT.sIx_nat, HT.sIx_none]
  omega
/-! ### _law_bent -/
abbrev s__law_bent : Stmt := topS 11
abbrev N__law_bent : List Str := ["_law_box_here", "_law_name_here", "_law_signs", "_law_sign", "_law_at", "_law_ahead", "_law_behind", "_law_some"]
theorem sc__law_bent : FnScope N__law_bent ["_law_box_here", "_law_name_here"] (defScope s__law_bent) := ⟨rfl, rfl, rfl, by decide +kernel, rfl, by decide +kernel, by decide +kernel⟩
def sp__law_bent (K : PySem.W.Frag) : Sp := fun vs H Q _ => ∃ (b : Addr) (n : Int) (s : Str), vs = [.ref b, .str s] ∧ Box H b n ∧ n < 1000000 ∧ Asc s ∧ s.length ≤ 20000 ∧ ∀ (r : Str) H', Asc r → r.length ≤ 2 * s.length + 1 → Box H' b (n + 3) → But b H H' → Q (.str r) H'
theorem ok__law_bent {f : Addr} {fd : FuncData} (F : Fun K "_law_bent" "_law_bent" s__law_bent f fd) (g : mg "_law_bent" = some (.ref f)) (bd : Binds K fd ["_law_box_here", "_law_name_here"] []) (m_len : mg "len" = none) (C__law_take : CF P w K mg base 1 "_law_take" ["_law_box_here", "_law_many"] (sp__law_take K)) : CF P w K mg base 2 "_law_bent" ["_law_box_here", "_law_name_here"] (sp__law_bent K) := by
  refine ⟨f, fd, F.ok sc__law_bent (fun vs H Q E h => ?_) (fun cdv A outer s H vs Q E hr h => ?_), g, F.kp, bd⟩
  · first | (obtain ⟨_, rfl, _⟩ := h; rfl) | (obtain ⟨_, _, rfl, _⟩ := h; rfl) | (obtain ⟨_, _, _, rfl, _⟩ := h; rfl) | (obtain ⟨_, _, _, _, rfl, _⟩ := h; rfl) | (obtain ⟨_, _, _, _, _, rfl, _⟩ := h; rfl) | (obtain ⟨_, _, _, _, _, _, rfl, _⟩ := h; rfl) | (obtain ⟨_, _, _, _, _, _, _, rfl, _⟩ := h; rfl)
  · have hu64 := hr.units
    obtain ⟨b, n, s, rfl, hb, hn, ha, hz, q⟩ := h
    refine ⟨_, (pss_cons (ps_set (i := 2) sc__law_bent.nd rfl (.inl rfl) pe_str)
      (pss_cons (ps_par (i := 3) (j := 4) (by rfl) sc__law_bent.nd rfl rfl (by decide) rfl rfl (pa_cons (pe_ix ix_str (pv 2) (pe_cf C__law_take (hr.mono (by decide)) (by rfl) (pa_cons (pv 0) (pa_cons (pe_callB call_len_str (by rfl) m_len PySem.boot_len (pa_cons (pv 2) pa_nil)) pa_nil))) (fun _ _ => rfl)) (pa_cons (pe_cf C__law_take (hr.mono (by decide)) (by rfl) (pa_cons (pv 0) (pa_cons (pe_op op_add (pe_callB call_len_str (by rfl) m_len PySem.boot_len (pa_cons (pv 1) pa_nil)) pe_int) pa_nil))) pa_nil)) (by rfl))
      (pss_cons (ps_par (i := 5) (j := 6) (by rfl) sc__law_bent.nd rfl rfl (by decide) rfl rfl (pa_cons (pe_slice sl_str (pv 1) po_none (po_some (pv 4))) (pa_cons (pe_slice sl_str (pv 1) (po_some (pv 4)) po_none) pa_nil)) (by rfl))
      (pss_cons (ps_set (i := 7) sc__law_bent.nd rfl (.inl rfl) (pe_lst (pa_cons (pe_op op_add_str (pe_op op_add_str (pv 5) (pv 3)) (pv 6)) (pa_cons (pe_op op_add_str (pe_op op_add_str (pv 5) (pv 3)) (pe_slice sl_str (pv 6) (po_some pe_int) po_none)) (pa_cons (pe_op op_add_str (pv 5) (pe_slice sl_str (pv 6) (po_some pe_int) po_none)) (pa_cons (pe_op op_add_str (pe_op op_add_str (pv 5) (pe_slice sl_str (pv 6) po_none (po_some pe_int))) (pv 6)) pa_nil))))))
      (pss_one (ps_ret (pe_ix (kk_ixl K) (pe_op op_cat (pv 7) (pe_lst (pa_cons (pe_upper (pv 1)) (pa_cons (pe_op op_add_str (pv 1) (pv 3)) pa_nil)))) (pe_cf C__law_take (hr.mono (by decide)) (by rfl) (pa_cons (pv 0) (pa_cons pe_int pa_nil))) (fun _ _ => rfl)))))))), ?_⟩
    have hsl : s.length ≤ sizeLine := Nat.le_trans hz (by decide)
    refine ⟨_, rfl, _, rfl, _, rfl, sgn, rfl, by decide +kernel, b, _, n, rfl, hb, by decide +kernel, by decide +kernel, by omega, fun r H1 r0 r1 b1 t1 => ?_⟩
    obtain ⟨c, hc, hc2⟩ := sgn_at r0 r1
    refine ⟨sgn, _, c, rfl, rfl, by decide +kernel, hc, ?_⟩
    refine ⟨_, rfl, _, rfl, s, rfl, hsl, _, _, rfl, rfl, b, _, _, rfl, b1, by omega, by omega, by omega, fun at_ H2 a0 a1 b2 t2 => ?_⟩
    refine ⟨_, _, rfl, ?_⟩
    refine ⟨_, rfl, _, rfl, _, rfl, s, rfl, hsl, _, rfl, _, rfl, _, rfl, s, rfl, hsl, _, _, rfl, ?_⟩
    have lA := cutS_length s none (some at_)
    have lB := cutS_length s (some at_) none
    have aA : Asc (cutS s none (some at_)) := ha.cut
    have aB : Asc (cutS s (some at_) none) := ha.cut
    have aS : Asc ⟨#[c]⟩ := .one hc2
    have lS : (⟨#[c]⟩ : Str).length = 1 := rfl
    generalize cutS s none (some at_) = xA at *
    generalize cutS s (some at_) none = xB at *
    generalize (⟨#[c]⟩ : Str) = xS at *
    have lC := cutS_length xB (some 1) none
    have lD := cut1_len xB
    have aC : Asc (cutS xB (some 1) none) := aB.cut
    have aD : Asc (cutS xB none (some 1)) := aB.cut
    obtain ⟨aU, lU⟩ := ha.up
    have fit : ∀ {m : Nat}, m ≤ 100000 → m ≤ sizeLine := fun h => Nat.le_trans h (by decide)
    refine ⟨_, rfl, _, rfl, _, _, rfl, rfl, fit (by omega), _, rfl, _, _, rfl, rfl, fit (by rw [len_app]; omega), ?_⟩
    refine ⟨_, rfl, _, rfl, _, _, rfl, rfl, fit (by omega), _, rfl, _, rfl, xB, rfl, fit (by omega), _, _, rfl, rfl, fit (by rw [len_app]; omega), ?_⟩
    refine ⟨_, rfl, _, rfl, _, rfl, xB, rfl, fit (by omega), _, _, rfl, rfl, fit (by omega), ?_⟩
    refine ⟨_, rfl, _, rfl, _, rfl, xB, rfl, fit (by omega), _, _, rfl, rfl, fit (by omega), _, rfl, _, _, rfl, rfl, fit (by rw [len_app]; omega), ?_⟩
    refine ⟨(by show 4 ≤ sizeLine; decide), fun l1 h1 => ?_⟩
    refine ⟨_, rfl, _, rfl, ⟨_, rfl⟩, s, rfl, rfl, by omega, _, rfl, _, rfl, _, _, rfl, rfl, fit (by omega), (by show 2 ≤ sizeLine; decide), fun l2 h2 => ?_⟩
    refine ⟨l1, l2, _, _, rfl, rfl, (same_new h2) _ _ upd_same, upd_same, (by show 6 ≤ sizeLine; decide), fun l3 h3 => ?_⟩
    have b5 := ((b2.new (o := .lst [.str (xA ++ xS ++ xB), .str (xA ++ xS ++ cutS xB (some 1) none), .str (xA ++ cutS xB (some 1) none), .str (xA ++ cutS xB none (some 1) ++ xB)]) h1).new (o := .lst [.str (Txt.upper s), .str (s ++ xS)]) h2)
    have n3 := b5.ne h3
    refine ⟨_, rfl, b, 6, _, rfl, b5.new h3, by decide, by decide, by omega, fun r6 H7 r60 r61 b7 t7 => ?_⟩
    obtain ⟨z, hz1, hz2⟩ := at_map (f := V.str) (xs := [xA ++ xS ++ xB, xA ++ xS ++ cutS xB (some 1) none, xA ++ cutS xB (some 1) none, xA ++ cutS xB none (some 1) ++ xB, Txt.upper s, s ++ xS]) r60 (by simpa using r61)
    refine ⟨l3, _, _, _, rfl, rfl, SqL.of (t7 _ _ n3 upd_same), hz2, ?_⟩
    refine q _ _ ?_ ?_ (b7.mono (by omega)) ((((t1.trans t2).trans (But.new h1)).trans (But.new h2)).trans ((But.new h3).trans t7))
    · simp only [List.mem_cons, List.not_mem_nil, or_false] at hz1
      rcases hz1 with rfl | rfl | rfl | rfl | rfl | rfl
      · exact (aA.app aS).app aB
      · exact (aA.app aS).app aC
      · exact aA.app aC
      · exact (aA.app aD).app aB
      · exact aU
      · exact ha.app aS
    · simp only [List.mem_cons, List.not_mem_nil, or_false] at hz1
      rcases hz1 with rfl | rfl | rfl | rfl | rfl | rfl
      all_goals try simp only [len_app]
      all_goals omega
theorem fold_mem {a : Array Nat} {c : Nat} : ∀ (k : Nat) (acc : Array Nat), c ∈ ((List.replicate k a).foldl (· ++ ·) acc).toList → c ∈ acc.toList ∨ c ∈ a.toList
  | 0, acc, h => .inl h
  | k + 1, acc, h => by
    rw [List.replicate_succ, List.foldl_cons] at h
    rcases fold_mem k _ h with h | h
    · rw [Array.toList_append] at h
      exact List.mem_append.mp h
    · exact .inr h
theorem Asc.mul {x : Str} {n : Int} (hx : Asc x) : Asc (Txt.mul x n) := fun c hc => by
  unfold Txt.mul at hc
  split at hc
  · cases hc
  · split at hc
    · exact hx c hc
    · rcases fold_mem _ _ hc with h | h
      · cases h
      · exact hx c h
theorem good_str {s : Str} (ha : Asc s) (hz : s.length ≤ 20000) : Good (.str s) := by
  refine ⟨fun z e => ?_, rfl, ?_, ?_, rfl⟩
  · cases e
    omega
  · have h := StrLaws.reprText_len s (fun c hc => Nat.lt_of_lt_of_le (ha c hc) (by decide))
    show (reprText s).length ≤ sizeLine
    exact Nat.le_trans h (Nat.le_trans (show 10 * s.length + 2 ≤ 300000 by omega) (by decide))
  · show PyData.depth (.str s) ≤ 60
    simp [PyData.depth]
theorem repr_small {s : Str} (ha : Asc s) (hz : s.length ≤ 8) : (reprText s).length ≤ 82 := by
  have h := StrLaws.reprText_len s (fun c hc => Nat.lt_of_lt_of_le (ha c hc) (by decide))
  omega
theorem wo_mono {b : Addr} {A B : Hp} (t : Same A B) : Same (wo b A) (wo b B) := wo_same t
theorem wo_upd {L : Addr} {b : Addr} {H : Hp} {o : HO} : Same (wo L (wo b H)) (wo L (wo b (upd H L o))) := fun c u h => by
  unfold wo at h ⊢
  split at h
  · cases h
  · rename_i n
    rw [if_neg n]
    split at h
    · cases h
    · rename_i m
      rw [if_neg m, upd_ne n]
      exact h
def Things (K : PySem.W.Frag) (H : Hp) (xs : List V) : Prop := ∀ x ∈ xs, ∃ d, Dp K H x d ∧ Good d
theorem Things.same {K : PySem.W.Frag} {H H' : Hp} {xs : List V} (h : Things K H xs) (e : Same H H') : Things K H' xs := fun x hx => by
  obtain ⟨d, h1, h2⟩ := h x hx
  exact ⟨d, dp_same e h1, h2⟩
theorem good_int (i : Int) (h : i.natAbs.log2 < 1920) (hz : ((toString i : String) : Str).length ≤ sizeLine) : Good (.int i) := by
  refine ⟨fun z e => (by cases e), ?_, ?_, ?_, rfl⟩
  · simp [PyData.showable, h]
  · simp only [PyData.shown]
    exact hz
  · simp [PyData.depth]
theorem pow_le9 {j : Nat} (h : j ≤ 10) : 9 * 2 ^ j ≤ 9216 := by
  have : 2 ^ j ≤ 2 ^ 10 := Nat.pow_le_pow_right (by decide) h
  omega
theorem nameS_true {s : Str} (hs : ∀ c ∈ TL.tl s, c ∈ lows) (h1 : 1 ≤ s.length) (h8 : s.length ≤ 8) : nameS s = true := by
  unfold nameS madeOf
  rw [decide_eq_true (show (s.length : Int) ≤ 8 by omega), decide_eq_false (fun z => by cases z; exact absurd h1 (by decide))]
  simp only [Bool.not_false, Bool.true_and, List.all_eq_true]
  exact fun c hc => decide_eq_true (hs c hc)
/-! ### law -/
abbrev s_law : Stmt := topS 12
abbrev N_law : List Str := ["_law_script", "_law_k", "_law_box_here", "_law_name_here", "_law_things", "_law_turn", "_law_thing"]
theorem sc_law : FnScope N_law ["_law_script"] (defScope s_law) := ⟨rfl, rfl, rfl, by decide +kernel, rfl, by decide +kernel, by decide +kernel⟩
def sp_law (K : PySem.W.Frag) : Sp := fun vs H Q _ => ∃ (a : Addr) (ns : List Int), vs = [.ref a] ∧ SqL K H a (ns.map V.int) ∧ ns.length ≤ 63 ∧ ∀ H', Q (.bl true) H'
theorem ok_law {f : Addr} {fd : FuncData} (F : Fun K "law" "law" s_law f fd) (m_range : mg "range" = none) (m_min : mg "min" = none) (m_len : mg "len" = none) (m_isinstance : mg "isinstance" = none) (m_str : mg "str" = none) (m_all : mg "all" = none) (C__law_box : CF P w K mg base 1 "_law_box" ["_law_script", "_law_k"] (sp__law_box K)) (C__law_name : CF P w K mg base 2 "_law_name" ["_law_box_here"] (sp__law_name K)) (C__law_bent : CF P w K mg base 2 "_law_bent" ["_law_box_here", "_law_name_here"] (sp__law_bent K)) (C_is_name : CF P w K mg base 2 "is_name" ["thing"] (sp_is_name K)) (C__law_right : CG P w K mg base 3 "_law_right" ["_law_thing"] (sp__law_right K)) : FnG P w K mg base 4 f fd ["_law_script"] (sp_law K) := by
  refine okG F sc_law (fun vs H Q E h => ?_) (fun cdv A outer s H vs Q E hr gd h => ?_)
  · first | (obtain ⟨_, rfl, _⟩ := h; rfl) | (obtain ⟨_, _, rfl, _⟩ := h; rfl) | (obtain ⟨_, _, _, rfl, _⟩ := h; rfl) | (obtain ⟨_, _, _, _, rfl, _⟩ := h; rfl) | (obtain ⟨_, _, _, _, _, rfl, _⟩ := h; rfl) | (obtain ⟨_, _, _, _, _, _, rfl, _⟩ := h; rfl) | (obtain ⟨_, _, _, _, _, _, _, rfl, _⟩ := h; rfl)
  · have hu64 := hr.units
    obtain ⟨a, ns, rfl, hS, hlen, q⟩ := h
    refine ⟨_, (pss_cons (ps_for PassesOwn.never rfl (pi_range1 (by rfl) m_range (pa_cons (pe_op op_add pe_int (pe_callB (call_min2 rfl) (by rfl) m_min (by decide +kernel) (pa_cons pe_int (pa_cons (pe_callB (kk_len K) (by rfl) m_len PySem.boot_len (pa_cons (pv 0) pa_nil)) pa_nil)))) pa_nil)) (pg_name (i := 1) sc_law.nd rfl (.inl rfl))
         (pss_cons (ps_set (i := 2) sc_law.nd rfl (.inl rfl) (pe_cf C__law_box (hr.mono (by decide)) (by rfl) (pa_cons (pv 0) (pa_cons (pv 1) pa_nil))))
          (pss_cons (ps_set (i := 3) sc_law.nd rfl (.inl rfl) (pe_cf C__law_name (hr.mono (by decide)) (by rfl) (pa_cons (pv 2) pa_nil)))
          (pss_cons (ps_set (i := 4) sc_law.nd rfl (.inl rfl) (pe_lst (pa_cons (pv 3) (pa_cons pe_str (pa_cons (pe_op op_add_str (pv 3) pe_str) (pa_cons (pe_op op_mul_str (pv 3) pe_int) (pa_cons (pe_lst (pa_cons (pv 3) pa_nil)) (pa_cons (pe_tup (pa_cons (pv 3) pa_nil)) (pa_cons (pe_tup (pa_cons (pv 3) (pa_cons (pv 3) pa_nil))) (pa_cons pe_non (pa_cons pe_bl (pa_cons pe_bl (pa_cons pe_int (pa_cons pe_int (pa_cons (pe_lst pa_nil) pa_nil)))))))))))))))
          (pss_cons (ps_for PassesOwn.never rfl (pi_range1 (by rfl) m_range (pa_cons pe_int pa_nil)) (pg_name (i := 5) sc_law.nd rfl (.inl rfl))
             (pss_one (ps_expr (pe_bm PySem.F.plainAttrs_list PySem.F.slot_list_append PySem.F.type_list_append mt_append (pv 4) (pa_cons (pe_cf C__law_bent (hr.mono (by decide)) (by rfl) (pa_cons (pv 2) (pa_cons (pe_ifExp (PW.pt (pw_and (pt_cmpR op_eq (pe_op op_mod (pv 5) pe_int) pe_int (nomark _)) (pw_and1 (pt_val (pe_callB (kk_isi K) (by rfl) m_isinstance (by decide +kernel) (pa_cons (pe_ix (kk_ixl K) (pv 4) (pe_un un_neg pe_int) (fun _ _ => rfl)) (pa_cons (pe_bltn (v := .ty "str") (by rfl) m_str (by decide +kernel) rfl) pa_nil))))))) (pe_ix (kk_ixl K) (pv 4) (pe_un un_neg pe_int) (fun _ _ => rfl)) (pv 3)) pa_nil))) pa_nil)))))
          (pss_one (ps_if (PW.pt (pw_or (pt_not (pt_val (pe_callB (kk_all K rfl) (by rfl) m_all (by decide +kernel) (pa_cons (pe_lc (own := [("_law_thing", 6)]) (g := (gName 6)) (tt := tYes) rfl sc_law.nd (pi_list (pv 4)) (blkOk_by (own := [("_law_thing", 6)]) (N := N_law) (sc := defScope s_law) (by decide +kernel)) (fun _ _ _ _ _ => pg_name (i := 6) sc_law.nd rfl (Or.inl rfl)) (fun _ _ _ _ _ => pts_nil) (fun _ _ _ _ _ => (pe_cg C__law_right (hr.mono (by decide)) gd (by rfl) (pa_cons (pv 6) pa_nil)))) pa_nil)))) (pw_or1 (pt_cmpR op_notBl (pe_cf C_is_name (hr.mono (by decide)) (by rfl) (pa_cons (pv 3) pa_nil)) pe_bl (nomark _)))))
             (pss_one (ps_ret pe_bl))
             pss_nil)))))))
      (pss_one (ps_ret pe_bl))), ?_⟩
    refine ⟨_, rfl, a, _, rfl, .inl hS, _, _, rfl, _, _, rfl, rfl, _, rfl, ?_, ?_, for_range (fun i σ H' => ∃ s1 s2 s3 s4 s5 s6, σ = [some (.ref a), s1, s2, s3, s4, s5, s6] ∧ Same H H') ⟨_, _, _, _, _, _, rfl, Same.refl H⟩ (fun i σ H' hi h => ?_) (fun σ H' _ => q _)⟩
    · split <;> omega
    · split <;> omega
    obtain ⟨s1, s2, s3, s4, s5, s6, rfl, sm⟩ := h
    have hi2 : i < 14 := by
      have h1 : (1 + if (((ns.map V.int).length : Nat) : Int) < 12 then (((ns.map V.int).length : Nat) : Int) else 12) ≤ 13 := by split <;> omega
      omega
    refine ⟨_, rfl, _, rfl, a, _, ns, rfl, sm.seq hS, by omega, by omega, fun H1 b nb sb hb => ?_⟩
    have nb0 : H b = none := sm.free nb
    refine ⟨_, rfl, b, 0, rfl, hb, by decide, fun s H2 hs hs1 hs8 b2 t2 => ?_⟩
    have as : Asc s := .low hs
    have fit : ∀ {m : Nat}, m ≤ 100000 → m ≤ sizeLine := fun h => Nat.le_trans h (by decide)
    have sm2 : Same H H2 := same_but (sm.trans sb) nb0 t2
    -- the things
    refine ⟨_, rfl, _, rfl, _, _, rfl, rfl, fit (by show s.length + 8 ≤ 100000; omega), _, rfl, s, 7, rfl, rfl, ⟨by decide, fun _ _ => by omega, fun _ _ => ?_⟩, ?_⟩
    · show decide (s.length * 7 > sizeLine) = false
      exact decide_eq_false (by have : 100000 ≤ sizeLine := by decide
                                omega)
    refine ⟨_, rfl, (by show 1 ≤ sizeLine; decide), fun p1 h1 => ⟨_, rfl, (by show 1 ≤ sizeLine; decide), fun p2 h2 => ⟨_, rfl, _, rfl, (by show 2 ≤ sizeLine; decide), fun p3 h3 => ⟨Nat.zero_le _, fun p4 h4 => ⟨(by show 13 ≤ sizeLine; decide), fun L hL => ?_⟩⟩⟩⟩⟩
    have e1 := same_new (o := .lst [.str s]) h1
    have e2 := same_new (o := .tup [.str s]) h2
    have e3 := same_new (o := .tup [.str s, .str s]) h3
    have e4 := same_new (o := .lst []) h4
    have e5 := same_new (o := .lst [.str s, .str (Str.ofString ""), .str (s ++ Str.ofString "abcdefgh"), .str (Txt.mul s 7), .ref p1, .ref p2, .ref p3, .non, .bl true, .bl false, .int 0, .int 7, .ref p4]) hL
    have bB : Box _ b (0 + 10) := ((((b2.same e1).same e2).same e3).same e4).same e5
    have n1 : p1 ≠ b := b2.ne h1
    have n2 : p2 ≠ b := (b2.same e1).ne h2
    have n3 : p3 ≠ b := ((b2.same e1).same e2).ne h3
    have n4 : p4 ≠ b := (((b2.same e1).same e2).same e3).ne h4
    have nL : L ≠ b := ((((b2.same e1).same e2).same e3).same e4).ne hL
    have g1 := e4 _ _ (e3 _ _ (e2 _ _ (upd_same (H := H2) (a := p1) (o := .lst [.str s]))))
    have g2 := e4 _ _ (e3 _ _ (upd_same (H := upd H2 p1 (.lst [.str s])) (a := p2) (o := .tup [.str s])))
    have g3 := e4 _ _ (upd_same (H := upd (upd H2 p1 (.lst [.str s])) p2 (.tup [.str s])) (a := p3) (o := .tup [.str s, .str s]))
    have g4 := (upd_same (H := upd (upd (upd H2 p1 (.lst [.str s])) p2 (.tup [.str s])) p3 (.tup [.str s, .str s])) (a := p4) (o := .lst []))
    have m1 : p1 ≠ L := ne_of_none g1 hL
    have m2 : p2 ≠ L := ne_of_none g2 hL
    have m3 : p3 ≠ L := ne_of_none g3 hL
    have m4 : p4 ≠ L := ne_of_none g4 hL
    have smL : Same H _ := ((((sm2.trans e1).trans e2).trans e3).trans e4).trans e5
    have nLH : H L = none := ((((sm2.trans e1).trans e2).trans e3).trans e4).free hL
    have rs := repr_small as hs8
    have th0 : Things K (wo L (wo b (upd (upd (upd (upd (upd H2 p1 (.lst [.str s])) p2 (.tup [.str s])) p3 (.tup [.str s, .str s])) p4 (.lst [])) L (.lst [.str s, .str (Str.ofString ""), .str (s ++ Str.ofString "abcdefgh"), .str (Txt.mul s 7), .ref p1, .ref p2, .ref p3, .non, .bl true, .bl false, .int 0, .int 7, .ref p4]))))
        [.str s, .str (Str.ofString ""), .str (s ++ Str.ofString "abcdefgh"), .str (Txt.mul s 7), .ref p1, .ref p2, .ref p3, .non, .bl true, .bl false, .int 0, .int 7, .ref p4] := by
      intro x hx
      simp only [List.mem_cons, List.not_mem_nil, or_false] at hx
      rcases hx with rfl | rfl | rfl | rfl | rfl | rfl | rfl | rfl | rfl | rfl | rfl | rfl | rfl
      · exact ⟨_, .str s, good_str as (by omega)⟩
      · exact ⟨_, .str _, good_str (by unfold Asc; decide +kernel) (by decide)⟩
      · refine ⟨_, .str _, good_str (as.app (by unfold Asc; decide +kernel)) ?_⟩
        rw [len_app]
        show s.length + 8 ≤ 20000
        omega
      · refine ⟨_, .str _, good_str as.mul ?_⟩
        have h := PyProof.Rows.len_mul_leN (x := s) (n := 7) (L := 8) (N := 7) hs8 (by decide)
        omega
      · refine ⟨.list [.str s], .lst (.inl (.inl (wo_at m1 (wo_at n1 (e5 _ _ g1))))) (.cons (.str s) .nil), fun z e => (by cases e), rfl, ?_, ?_, rfl⟩
        · rw [PyData.shown_list, PyData.shownAll_cons, PyData.shownAll_nil, PyData.shown_str]
          show (_ ++ reprText s ++ _).length ≤ sizeLine
          rw [len_app, len_app]
          exact fit (by show 1 + (reprText s).length + 1 ≤ 100000; omega)
        · simp [PyData.depth, PyData.depthAll]
      · refine ⟨.tuple [.str s], .tup (.inl (.inl (wo_at m2 (wo_at n2 (e5 _ _ g2))))) (.cons (.str s) .nil), fun z e => (by cases e), rfl, ?_, ?_, rfl⟩
        · rw [PyData.shown_tuple, PyData.shownAll_cons, PyData.shownAll_nil, PyData.shown_str]
          show (_ ++ reprText s ++ _).length ≤ sizeLine
          rw [len_app, len_app]
          exact fit (by show 1 + (reprText s).length + 2 ≤ 100000; omega)
        · simp [PyData.depth, PyData.depthAll]
      · refine ⟨.tuple [.str s, .str s], .tup (.inl (.inl (wo_at m3 (wo_at n3 (e5 _ _ g3))))) (.cons (.str s) (.cons (.str s) .nil)), fun z e => (by cases e), rfl, ?_, ?_, rfl⟩
        · rw [PyData.shown_tuple, PyData.shownAll_cons, PyData.shownAll_cons, PyData.shownAll_nil, PyData.shown_str]
          show (_ ++ (reprText s ++ _ ++ reprText s) ++ _).length ≤ sizeLine
          rw [len_app, len_app, len_app, len_app]
          exact fit (by show 1 + ((reprText s).length + 2 + (reprText s).length) + 1 ≤ 100000; omega)
        · simp [PyData.depth, PyData.depthAll]
      · exact ⟨_, .non, fun z e => (by cases e), rfl, by decide +kernel, by decide, rfl⟩
      · exact ⟨_, .bl true, fun z e => (by cases e), rfl, by decide +kernel, by decide, rfl⟩
      · exact ⟨_, .bl false, fun z e => (by cases e), rfl, by decide +kernel, by decide, rfl⟩
      · exact ⟨_, .int 0, good_int 0 (by decide +kernel) (by decide +kernel)⟩
      · exact ⟨_, .int 7, good_int 7 (by decide +kernel) (by decide +kernel)⟩
      · exact ⟨.list [], .lst (.inl (.inl (wo_at m4 (wo_at n4 (e5 _ _ g4))))) .nil, fun z e => (by cases e), rfl, by decide +kernel, by decide, rfl⟩
    refine ⟨_, rfl, by decide, by decide, for_range (fun j σ H' => ∃ s5 s6 xs, σ = [some (.ref a), some (.int (0 + i)), some (.ref b), some (.str s), some (.ref L), s5, s6] ∧ Same H H' ∧ Box H' b (10 + 3 * j) ∧ H' L = some (.lst xs) ∧ xs.length = 13 + j ∧ Things K (wo L (wo b H')) xs ∧ (1 ≤ j → ∃ ys z, xs = ys ++ [.str z] ∧ Asc z ∧ z.length + 1 ≤ 9 * 2 ^ j))
      ⟨_, _, _, rfl, smL, bB.mono (by omega), upd_same, rfl, th0, fun z => by omega⟩ (fun j σ H' hj h => ?_) (fun σ H' h => ?_)⟩
    · obtain ⟨s5, s6, xs, rfl, smj, bj, hxs, hln, thj, hlast⟩ := h
      have hj2 : j < 10 := hj
      have pj := pow_le9 (j := j) (by omega)
      have ps : 2 ^ (j + 1) = 2 * 2 ^ j := by rw [Nat.pow_succ]; omega
      have p1j : 1 ≤ 2 ^ j := Nat.one_le_two_pow
      -- behind the bent one
      have fin : ∀ (r : Str) (H5 : Hp), Asc r → r.length + 1 ≤ 9 * 2 ^ (j + 1) → Box H5 b (10 + 3 * j + 3) → But b H' H5 → ∃ s5' s6' xs', ([some (.ref a), some (.int (0 + i)), some (.ref b), some (.str s), some (.ref L), some (.int (0 + j)), s6] : L2.St) = [some (.ref a), some (.int (0 + i)), some (.ref b), some (.str s), some (.ref L), s5', s6'] ∧ Same H (upd H5 L (.lst (xs ++ [.str r]))) ∧ Box (upd H5 L (.lst (xs ++ [.str r]))) b (10 + 3 * ((j + 1 : Nat) : Int)) ∧ (upd H5 L (.lst (xs ++ [.str r]))) L = some (.lst xs') ∧ xs'.length = 13 + (j + 1) ∧ Things K (wo L (wo b (upd H5 L (.lst (xs ++ [.str r]))))) xs' ∧ (1 ≤ j + 1 → ∃ ys z, xs' = ys ++ [.str z] ∧ Asc z ∧ z.length + 1 ≤ 9 * 2 ^ (j + 1)) := by
        intro r H5 ar lr b5 t5
        refine ⟨_, _, xs ++ [.str r], rfl, ?_, ?_, upd_same, ?_, ?_, fun _ => ⟨xs, r, rfl, ar, lr⟩⟩
        · exact fun c o e => by
            rw [upd_ne (ne_of_none e nLH)]
            exact (same_but smj nb0 t5) _ _ e
        · obtain ⟨x', y', z', k0, k1⟩ := b5
          exact ⟨x', y', z', by rw [upd_ne nL.symm]; exact k0, by omega⟩
        · rw [List.length_append, hln]
          show 13 + j + 1 = _
          omega
        · intro x hx
          rcases List.mem_append.mp hx with h | h
          · obtain ⟨d, d1, d2⟩ := thj x h
            exact ⟨d, dp_same ((wo_mono (wo_but t5)).trans wo_upd) d1, d2⟩
          · rw [List.mem_singleton.mp h]
            have := pow_le9 (j := j + 1) (by omega)
            exact ⟨_, .str r, good_str ar (by omega)⟩
      refine ⟨_, rfl, .inl ⟨rfl, _, SqL.of hxs⟩, _, rfl, ?_⟩
      refine ⟨_, rfl, _, _, rfl, rfl, (by show (0 : Int) < 3; decide), rfl, _, rfl, ite2 (fun e => ?_) (fun e => ?_)⟩
      · have ej : (0 + (j : Int)) % 3 = 2 := V.int.inj (of_decide_eq_true e)
        obtain ⟨ys, z, hx, az, lz⟩ := hlast (by omega)
        have hat : atI xs (-1) = some (.str z) := by
          rw [hx]
          exact atI_last _ _
        refine ⟨_, rfl, _, rfl, L, _, _, _, rfl, rfl, SqL.of hxs, hat, _, _, _, _, true, rfl, .ty _, .base (.str z), kit_ty (by decide +kernel), _, rfl, iteT ?_⟩
        refine ⟨_, rfl, _, rfl, L, _, _, _, rfl, rfl, SqL.of hxs, hat, b, 10 + 3 * j, z, rfl, bj, by omega, az, by omega, fun r H5 ar lr b5 t5 => ?_⟩
        refine ⟨L, _, _, rfl, rfl, t5 _ _ nL hxs, ?_, ?_⟩
        · rw [hln]
          exact small1000 (by omega)
        · exact fin r H5 ar (by omega) b5 t5
      · refine iteF ⟨_, rfl, b, 10 + 3 * j, s, rfl, bj, by omega, as, by omega, fun r H5 ar lr b5 t5 => ?_⟩
        refine ⟨L, _, _, rfl, rfl, t5 _ _ nL hxs, ?_, ?_⟩
        · rw [hln]
          exact small1000 (by omega)
        · exact fin r H5 ar (by omega) b5 t5
    · obtain ⟨s5, s6, xs, rfl, smj, bj, hxs, hln, thj, hlast⟩ := h
      refine ⟨_, rfl, L, rfl, ⟨_, SqL.of hxs⟩, fun D hD => lc_list (K := K) (a := L) (xs := xs) (fun i H'' => Same H' H'' ∧ H'' D = some (.lst ((List.replicate i true).map V.bl))) ⟨same_new hD, upd_same⟩ (fun i H'' _ h => h.1.seq (SqL.of hxs)) (fun k x H'' hx h => ?_) (fun H'' h => ?_)⟩
      · obtain ⟨d, d1, d2⟩ := thj x (List.mem_of_getElem? hx)
        have hk : k < xs.length := (List.getElem?_eq_some_iff.mp hx).1
        refine ⟨rfl, _, rfl, x, d, rfl, dp_same (((wo_sub _ _).trans (wo_sub _ _)).trans h.1) d1, d2, fun H6 s6 => ⟨_, s6 _ _ h.2, ?_, ?_, ?_⟩⟩
        · rw [List.length_map, List.length_replicate]
          exact small1000 (by omega)
        · exact fun c o e => by
            rw [upd_ne (ne_of_none e hD)]
            exact s6 _ _ (h.1 _ _ e)
        · rw [upd_same, List.replicate_succ', List.map_append]
          rfl
      · obtain ⟨s7, h7⟩ := h
        refine ⟨D, _, rfl, SqL.of h7, _, rfl, ?_⟩
        rw [all_true]
        refine iteF ⟨_, rfl, .str s, .str s, rfl, .str s, (good_str as (by omega)).1, fun H8 s8 => ?_⟩
        have e : nameD (.str s) = true := nameS_true hs hs1 hs8
        rw [e]
        refine ⟨_, _, rfl, rfl, _, rfl, iteF ⟨_, _, _, _, _, _, rfl, (smj.trans s7).trans s8⟩⟩
end
theorem all_mk {l : PySem.W.OpenLaw} {w : World} {K : PySem.W.Frag} {h : Heap} {mg : Str → Option Value} {fa f0 f1 f2 f3 f4 f5 f6 f7 f8 : Addr} (X : K.In h) (G : h.Ns mainGlobals mg) (hfa : mg "law" = some (.ref fa))
    {od0 an0 od1 an1 od2 an2 od3 an3 od4 an4 od5 an5 od6 an6 od7 an7 od8 an8 : Option Addr} {sl0 sl1 sl2 sl3 sl4 sl5 sl6 sl7 sl8 : Array (Option Value)} {oc0 kV0 dc0 pm0 cd0 ct0 oc1 kV1 dc1 pm1 cd1 ct1 oc2 kV2 dc2 pm2 cd2 ct2 oc3 kV3 dc3 pm3 cd3 ct3 oc4 kV4 dc4 pm4 cd4 ct4 oc5 kV5 dc5 pm5 cd5 ct5 oc6 kV6 dc6 pm6 cd6 ct6 oc7 kV7 dc7 pm7 cd7 ct7 oc8 kV8 dc8 pm8 cd8 ct8 : Value}
    (a0 : PySem.W.nsIn K mainGlobals "_law_take" = some (some (.ref f0))) (l0 : K.lookup f0 = some ⟨oc0, od0, .func (PySem.W.fnOf "_law_take" "_law_take" (defArgs s__law_take) (defBody s__law_take) (defScope s__law_take) .none kV0 dc0 pm0 an0 cd0 ct0), sl0⟩) (c0 : PySem.W.codeIn K cd0 "_law_take" = true) (k0 : PySem.W.keepIn K (.ref f0) = true)
    (a1 : PySem.W.nsIn K mainGlobals "_law_box" = some (some (.ref f1))) (l1 : K.lookup f1 = some ⟨oc1, od1, .func (PySem.W.fnOf "_law_box" "_law_box" (defArgs s__law_box) (defBody s__law_box) (defScope s__law_box) .none kV1 dc1 pm1 an1 cd1 ct1), sl1⟩) (c1 : PySem.W.codeIn K cd1 "_law_box" = true) (k1 : PySem.W.keepIn K (.ref f1) = true)
    (a2 : PySem.W.nsIn K mainGlobals "is_made_of" = some (some (.ref f2))) (l2 : K.lookup f2 = some ⟨oc2, od2, .func (PySem.W.fnOf "is_made_of" "is_made_of" (defArgs s_is_made_of) (defBody s_is_made_of) (defScope s_is_made_of) .none kV2 dc2 pm2 an2 cd2 ct2), sl2⟩) (c2 : PySem.W.codeIn K cd2 "is_made_of" = true) (k2 : PySem.W.keepIn K (.ref f2) = true)
    (a3 : PySem.W.nsIn K mainGlobals "is_name" = some (some (.ref f3))) (l3 : K.lookup f3 = some ⟨oc3, od3, .func (PySem.W.fnOf "is_name" "is_name" (defArgs s_is_name) (defBody s_is_name) (defScope s_is_name) .none kV3 dc3 pm3 an3 cd3 ct3), sl3⟩) (c3 : PySem.W.codeIn K cd3 "is_name" = true) (k3 : PySem.W.keepIn K (.ref f3) = true)
    (a4 : PySem.W.nsIn K mainGlobals "_law_is" = some (some (.ref f4))) (l4 : K.lookup f4 = some ⟨oc4, od4, .func (PySem.W.fnOf "_law_is" "_law_is" (defArgs s__law_is) (defBody s__law_is) (defScope s__law_is) .none kV4 dc4 pm4 an4 cd4 ct4), sl4⟩) (c4 : PySem.W.codeIn K cd4 "_law_is" = true) (k4 : PySem.W.keepIn K (.ref f4) = true)
    (a5 : PySem.W.nsIn K mainGlobals "_law_right" = some (some (.ref f5))) (l5 : K.lookup f5 = some ⟨oc5, od5, .func (PySem.W.fnOf "_law_right" "_law_right" (defArgs s__law_right) (defBody s__law_right) (defScope s__law_right) .none kV5 dc5 pm5 an5 cd5 ct5), sl5⟩) (c5 : PySem.W.codeIn K cd5 "_law_right" = true) (k5 : PySem.W.keepIn K (.ref f5) = true)
    (a6 : PySem.W.nsIn K mainGlobals "_law_name" = some (some (.ref f6))) (l6 : K.lookup f6 = some ⟨oc6, od6, .func (PySem.W.fnOf "_law_name" "_law_name" (defArgs s__law_name) (defBody s__law_name) (defScope s__law_name) .none kV6 dc6 pm6 an6 cd6 ct6), sl6⟩) (c6 : PySem.W.codeIn K cd6 "_law_name" = true) (k6 : PySem.W.keepIn K (.ref f6) = true)
    (a7 : PySem.W.nsIn K mainGlobals "_law_bent" = some (some (.ref f7))) (l7 : K.lookup f7 = some ⟨oc7, od7, .func (PySem.W.fnOf "_law_bent" "_law_bent" (defArgs s__law_bent) (defBody s__law_bent) (defScope s__law_bent) .none kV7 dc7 pm7 an7 cd7 ct7), sl7⟩) (c7 : PySem.W.codeIn K cd7 "_law_bent" = true) (k7 : PySem.W.keepIn K (.ref f7) = true)
    (a8 : PySem.W.nsIn K mainGlobals "law" = some (some (.ref f8))) (l8 : K.lookup f8 = some ⟨oc8, od8, .func (PySem.W.fnOf "law" "law" (defArgs s_law) (defBody s_law) (defScope s_law) .none kV8 dc8 pm8 an8 cd8 ct8), sl8⟩) (c8 : PySem.W.codeIn K cd8 "law" = true) (k8 : PySem.W.keepIn K (.ref f8) = true)
    (z_len : PySem.W.nsIn K mainGlobals "len" = some none) (z_abs : PySem.W.nsIn K mainGlobals "abs" = some none) (z_int : PySem.W.nsIn K mainGlobals "int" = some none) (z_all : PySem.W.nsIn K mainGlobals "all" = some none) (z_isinstance : PySem.W.nsIn K mainGlobals "isinstance" = some none) (z_str : PySem.W.nsIn K mainGlobals "str" = some none) (z_sum : PySem.W.nsIn K mainGlobals "sum" = some none) (z_repr : PySem.W.nsIn K mainGlobals "repr" = some none) (z_bool : PySem.W.nsIn K mainGlobals "bool" = some none) (z_range : PySem.W.nsIn K mainGlobals "range" = some none) (z_min : PySem.W.nsIn K mainGlobals "min" = some none)
    {t_LETTERS : Tok} (y_LETTERS : PySem.W.nsIn K mainGlobals "LETTERS" = some (some (.str (Str.ofString "abcdefghijklmnopqrstuvwxyz") t_LETTERS)))
    {t_LONGEST_NAME : Tok} (y_LONGEST_NAME : PySem.W.nsIn K mainGlobals "LONGEST_NAME" = some (some (.int 8 t_LONGEST_NAME))) :
    ∃ fd : FuncData, (∀ (s : Shared) (v : Value), BindsTo s fd ⟨[v], []⟩ [("_law_script", v)]) ∧ ∀ base : Heap, K.In base → base.Ns mainGlobals mg → FnG l.prog w K mg base 4 fa fd ["_law_script"] (sp_law K) := by
  have e := hfa.symm.trans (PySem.W.mg_of X G a8)
  cases e
  have F0 := fun_mk (st := s__law_take) l0 c0 k0
  have b0 := F0.binds (ps := ["_law_box_here", "_law_many"]) fun _ _ _ _ _ _ us hl => match us, hl with | [_, _], _ => rfl
  have g0 := PySem.W.mg_of X G a0
  have F1 := fun_mk (st := s__law_box) l1 c1 k1
  have b1 := F1.binds (ps := ["_law_script", "_law_k"]) fun _ _ _ _ _ _ us hl => match us, hl with | [_, _], _ => rfl
  have g1 := PySem.W.mg_of X G a1
  have F2 := fun_mk (st := s_is_made_of) l2 c2 k2
  have b2 := F2.binds (ps := ["text", "signs"]) fun _ _ _ _ _ _ us hl => match us, hl with | [_, _], _ => rfl
  have g2 := PySem.W.mg_of X G a2
  have F3 := fun_mk (st := s_is_name) l3 c3 k3
  have b3 := F3.binds (ps := ["thing"]) fun _ _ _ _ _ _ us hl => match us, hl with | [_], _ => rfl
  have g3 := PySem.W.mg_of X G a3
  have F4 := fun_mk (st := s__law_is) l4 c4 k4
  have b4 := F4.binds (ps := ["_law_thing"]) fun _ _ _ _ _ _ us hl => match us, hl with | [_], _ => rfl
  have g4 := PySem.W.mg_of X G a4
  have F5 := fun_mk (st := s__law_right) l5 c5 k5
  have b5 := F5.binds (ps := ["_law_thing"]) fun _ _ _ _ _ _ us hl => match us, hl with | [_], _ => rfl
  have g5 := PySem.W.mg_of X G a5
  have F6 := fun_mk (st := s__law_name) l6 c6 k6
  have b6 := F6.binds (ps := ["_law_box_here"]) fun _ _ _ _ _ _ us hl => match us, hl with | [_], _ => rfl
  have g6 := PySem.W.mg_of X G a6
  have F7 := fun_mk (st := s__law_bent) l7 c7 k7
  have b7 := F7.binds (ps := ["_law_box_here", "_law_name_here"]) fun _ _ _ _ _ _ us hl => match us, hl with | [_, _], _ => rfl
  have g7 := PySem.W.mg_of X G a7
  have F8 := fun_mk (st := s_law) l8 c8 k8
  have m_len := PySem.W.mg_none_of X G z_len
  have m_abs := PySem.W.mg_none_of X G z_abs
  have m_int := PySem.W.mg_none_of X G z_int
  have m_all := PySem.W.mg_none_of X G z_all
  have m_isinstance := PySem.W.mg_none_of X G z_isinstance
  have m_str := PySem.W.mg_none_of X G z_str
  have m_sum := PySem.W.mg_none_of X G z_sum
  have m_repr := PySem.W.mg_none_of X G z_repr
  have m_bool := PySem.W.mg_none_of X G z_bool
  have m_range := PySem.W.mg_none_of X G z_range
  have m_min := PySem.W.mg_none_of X G z_min
  have g_LETTERS := PySem.W.mg_of X G y_LETTERS
  have g_LONGEST_NAME := PySem.W.mg_of X G y_LONGEST_NAME
  refine ⟨PySem.W.fnOf "law" "law" (defArgs s_law) (defBody s_law) (defScope s_law) .none kV8 dc8 pm8 an8 cd8 ct8, fun s v => .of_eq rfl, fun base _ _ => ?_⟩
  have C__law_take := ok__law_take (P := l.prog) (w := w) (base := base) F0 g0 b0
  have C__law_box := ok__law_box (P := l.prog) (w := w) (base := base) F1 g1 b1 m_len m_abs m_int
  have C_is_made_of := ok_is_made_of (P := l.prog) (w := w) (base := base) F2 g2 b2 m_all
  have C_is_name := ok_is_name (P := l.prog) (w := w) (base := base) F3 g3 b3 m_len m_isinstance m_str g_LETTERS g_LONGEST_NAME C_is_made_of
  have C__law_is := ok__law_is (P := l.prog) (w := w) (base := base) F4 g4 b4 m_isinstance m_str m_sum m_len
  have C__law_right := ok__law_right (P := l.prog) (w := w) (base := base) F5 g5 b5 m_repr m_all m_isinstance m_bool C_is_name C__law_is
  have C__law_name := ok__law_name (P := l.prog) (w := w) (base := base) F6 g6 b6 m_range C__law_take
  have C__law_bent := ok__law_bent (P := l.prog) (w := w) (base := base) F7 g7 b7 m_len C__law_take
  exact ok_law F8 m_range m_min m_len m_isinstance m_str m_all C__law_box C__law_name C__law_bent C_is_name C__law_right
end Pw
open PySem PySem.W PyProof.Rows
set_option maxHeartbeats 0 in
theorem PySem.Challenge.cw_partwares_k01_names_holds : PySem.Challenge.rw_partwares_k01_names.Holds := by
  w_on; o_law; k_head; (case hw => w_witness2)
  k_fill
  refine Pw.walk_ofG (l := PySem.Challenge.rw_partwares_k01_names) (n := 63) (k := 4) (x := "_law_script") (sp := fun w => Pw.sp_law _) rfl (by decide) rfl ⟨rfl, by decide, by decide⟩ (fun w h Y => PySem.W.kIn_of Y) ?F (fun _ _ a ns hl _ hS => ⟨a, ns, rfl, hS, hl, fun _ => rfl⟩)
  case F =>
    intro w mg fa h KX G hmg
    refine' Pw.all_mk KX G hmg ?a0 ?l0 ?c0 ?k0 ?a1 ?l1 ?c1 ?k1 ?a2 ?l2 ?c2 ?k2 ?a3 ?l3 ?c3 ?k3 ?a4 ?l4 ?c4 ?k4 ?a5 ?l5 ?c5 ?k5 ?a6 ?l6 ?c6 ?k6 ?a7 ?l7 ?c7 ?k7 ?a8 ?l8 ?c8 ?k8 ?z_len ?z_abs ?z_int ?z_all ?z_isinstance ?z_str ?z_sum ?z_repr ?z_bool ?z_range ?z_min ?y_LETTERS ?y_LONGEST_NAME
    (case a0 => k_is); (case l0 => k_is); (case c0 => k_is); (case k0 => k_is); (case a1 => k_is); (case l1 => k_is); (case c1 => k_is); (case k1 => k_is); (case a2 => k_is); (case l2 => k_is); (case c2 => k_is); (case k2 => k_is); (case a3 => k_is); (case l3 => k_is); (case c3 => k_is); (case k3 => k_is); (case a4 => k_is); (case l4 => k_is); (case c4 => k_is); (case k4 => k_is); (case a5 => k_is); (case l5 => k_is); (case c5 => k_is); (case k5 => k_is); (case a6 => k_is); (case l6 => k_is); (case c6 => k_is); (case k6 => k_is); (case a7 => k_is); (case l7 => k_is); (case c7 => k_is); (case k7 => k_is); (case a8 => k_is); (case l8 => k_is); (case c8 => k_is); (case k8 => k_is); (case z_len => k_is); (case z_abs => k_is); (case z_int => k_is); (case z_all => k_is); (case z_isinstance => k_is); (case z_str => k_is); (case z_sum => k_is); (case z_repr => k_is); (case z_bool => k_is); (case z_range => k_is); (case z_min => k_is); (case y_LETTERS => k_is); (case y_LONGEST_NAME => k_is)
