import PyProof.Rows.All
import Wide.All
import OpenK.AllK
import Wide.FinOn
import HandS.Base
import HandS.Call
import HandS.List
import HandS.Comp
import HandS.Ends
import HandS.Iter
import HandS.Text
import HandS.Words
import HandS.WordsList
import HandS.IsInst
import HandS.Style
import HandS.Walk
import HandS.Defaults
import HandS.TupMul
import HandS.Zip
import HandS.MakeKw
import HandS.Exc
import HandS.ExcOwn
import HandS.ExcIs
import HandS.ExcField
import HandS.TryOnly
import HandS.WordsExc
import HandS.Codes
import HandS.Nested
import HandS.ExcInit
import KE.KSuper
import KE.KExcSuper
import KE.KExcIs
import KE.RegKSuper
import PySem.Challenge.RW_partwares_k06_rules_made_and_refused
set_option Elab.async false
set_option linter.all false
set_option maxRecDepth 100000
namespace Pw
open PySem PySem.Spec PyProof.Rows L2
/-! ### a def of the text by its promise, its address left aside -/
structure CF (P : Program) (w : World) (K : PySem.W.Frag) (mg : Str → Option Value) (base : Heap) (k : Nat) (x : Str) (ps : List Str) (sp : Sp) : Prop where
  ex : ∃ (f : Addr) (fd : FuncData), FnOk P w K mg base CX0 k f fd ps sp ∧ mg x = some (.ref f) ∧ PySem.W.keepIn K (.ref f) = true ∧ Binds K fd ps []
theorem pe_cf {X : Cx} {k : Nat} {x : Str} {ps : List Str} {sp : Sp} {e : Expr} {es : List Expr} {t : TA} {p pos : Pos} (C : CF X.prog X.w X.K X.mg X.base k x ps sp) (hr : Room k X.A) (hg : Gl X x) (ha : PA X (e :: es) t)
    (hdb : (x == ("__debug__" : Str)) = false := by decide) (he : starEach (e :: es) X.env = (false, eval e X.env) :: starEach es X.env := by rfl) (hpl : (backTo pos (starEach es X.env)).any (·.1) = false := by rfl) :
    PE X (.Call (.Name x p) (e :: es) [] pos) (tCall sp [] E0 t) := by
  obtain ⟨f, fd, F, g, kp, b⟩ := C.ex
  exact pe_call F hr hg g kp b .nil pass0 ha hdb he hpl
theorem pe_cf0 {X : Cx} {k : Nat} {x : Str} {sp : Sp} {p pos : Pos} (C : CF X.prog X.w X.K X.mg X.base k x [] sp) (hr : Room k X.A) (hg : Gl X x) (hdb : (x == ("__debug__" : Str)) = false := by decide) : PE X (.Call (.Name x p) [] [] pos) (tCall sp [] E0 tNil) := by
  obtain ⟨f, fd, F, g, kp, b⟩ := C.ex
  exact pe_call0 F hr hg g kp b .nil pass0 hdb
/-! ### the rules with their written part named (within a comprehension it must not hang on the block) -/
section
variable (K : PySem.W.Frag) {X : Cx}
theorem kk_isi (h : X.K = K := by rfl) : CallR X (.builtin "isinstance") (rIsi K) := h ▸ call_isi
theorem kk_isiT (h : X.K = K := by rfl) : CallR X (.builtin "isinstance") (rIsiT K) := h ▸ call_isiT
theorem kk_len (h : X.K = K := by rfl) : CallR X (.builtin "len") (fun xs H Q => ∃ p ys, xs = [.ref p] ∧ (SqL K H p ys ∨ SqT K H p ys) ∧ Q (.int ys.length) H) := h ▸ call_len_seq
theorem kk_list (h : X.K = K := by rfl) : CallR X (.type "list") (fun xs H Q => ∃ p ys, xs = [.ref p] ∧ (SqL K H p ys ∨ SqT K H p ys) ∧ ∀ l, H l = none → Q (.ref l) (upd H l (.lst ys))) := h ▸ call_list_of
theorem kk_tuple (h : X.K = K := by rfl) : CallR X (.type "tuple") (fun xs H Q => ∃ p ys, xs = [.ref p] ∧ ((SqL K H p ys ∧ ∀ l, H l = none → Q (.ref l) (upd H l (.tup ys))) ∨ (SqT K H p ys ∧ Q (.ref p) H))) := h ▸ call_tuple_of
theorem kk_sum (hc : X.calm = true) (h : X.K = K := by rfl) : CallR X (.builtin "sum") (rSum K) := h ▸ cr_sum hc
theorem kk_max (hc : X.calm = true) (h : X.K = K := by rfl) : CallR X (.builtin "max") (rMax K) := h ▸ cr_max hc
theorem kk_min (hc : X.calm = true) (h : X.K = K := by rfl) : CallR X (.builtin "min") (rMin K) := h ▸ cr_min hc
theorem kk_any (hc : X.calm = true) (h : X.K = K := by rfl) : CallR X (.builtin "any") (rAny K) := h ▸ cr_any hc
theorem kk_all (hc : X.calm = true) (h : X.K = K := by rfl) : CallR X (.builtin "all") (rAll K) := h ▸ cr_all hc
theorem kk_sorted (h : X.K = K := by rfl) : CallR X (.builtin "sorted") (rSorted K) := h ▸ cr_sorted
theorem kk_ixl (h : X.K = K := by rfl) : IxR X (rIxL K) := h ▸ ix_list
theorem kk_ixt (h : X.K = K := by rfl) : IxR X (rIxT K) := h ▸ ix_tup
theorem kk_sll (h : X.K = K := by rfl) : SlR X (rSlL K) := h ▸ sl_list
theorem kk_slt (h : X.K = K := by rfl) : SlR X (rSlT K) := h ▸ sl_tup
theorem kk_in (h : X.K = K := by rfl) : OpR X (compareOp .In) (rIn K false) := h ▸ op_in_seq
theorem kk_nin (h : X.K = K := by rfl) : OpR X (compareOp .NotIn) (rIn K true) := h ▸ op_notIn_seq
theorem kk_catT (h : X.K = K := by rfl) : OpR X (binaryOp .Add) (rCatT K) := h ▸ op_catT
theorem kk_eqD (hu : X.A.units + 64 < cLine) (h : X.K = K := by rfl) : OpR X (compareOp .Eq) (rEqD K) := h ▸ op_eqD hu
theorem kk_neD (hu : X.A.units + 64 < cLine) (h : X.K = K := by rfl) : OpR X (compareOp .NotEq) (rNeD K) := h ▸ op_neD hu
theorem kk_revL {e : Expr} {te : TE} {k : Nat} {p1 p2 p3 pos : Pos} (he : PE X e te) (h : X.K = K := by rfl) : PE X (.Subscript e (.Slice none none (some (.UnaryOp .USub (.Constant (.int 1) k p1) p2)) p3) pos) (tRevL K te) := h ▸ pe_revL he
end
/-! ### heaps: all as it was, but one place -/
def But (b : Addr) (H H' : Hp) : Prop := ∀ c o, c ≠ b → H c = some o → H' c = some o
theorem But.refl (b : Addr) (H : Hp) : But b H H := fun _ _ _ h => h
theorem But.trans {b : Addr} {H H1 H2 : Hp} (x : But b H H1) (y : But b H1 H2) : But b H H2 := fun c o n h => y c o n (x c o n h)
theorem But.of {b : Addr} {H H1 : Hp} (x : Same H H1) : But b H H1 := fun c o _ h => x c o h
theorem But.upd {b : Addr} {H : Hp} {o : HO} : But b H (L2.upd H b o) := fun c u n h => by
  rw [upd_ne n]
  exact h
theorem But.new {b p : Addr} {H : Hp} {o : HO} (h : H p = none) : But b H (L2.upd H p o) := fun c u _ e => by
  rw [upd_ne (ne_of_none e h)]
  exact e
theorem same_new {H : Hp} {p : Addr} {o : HO} (h : H p = none) : Same H (upd H p o) := fun b x e => by
  rw [upd_ne (ne_of_none e h)]
  exact e
theorem But.seq {K : PySem.W.Frag} {b a : Addr} {H H' : Hp} {xs : List V} (e : But b H H') (n : a ≠ b) (h : SqL K H a xs) : SqL K H' a xs := by
  rcases h with (h | ⟨o, h⟩) | h
  · exact .inl (.inl (e _ _ n h))
  · exact .inl (.inr ⟨o, e _ _ n h⟩)
  · exact .inr h
/-! ### the law's box of three numbers -/
def Box (H : Hp) (b : Addr) (n : Int) : Prop := ∃ x y z : Int, H b = some (.lst [.int x, .int y, .int z]) ∧ 0 ≤ x ∧ 0 ≤ y ∧ y ≤ 3000000000 ∧ 0 ≤ z ∧ z ≤ n
theorem Box.mono {H : Hp} {b : Addr} {n m : Int} (h : Box H b n) (l : n ≤ m) : Box H b m := by
  obtain ⟨x, y, z, h0, h1, h2, h3, h4, h5⟩ := h
  exact ⟨x, y, z, h0, h1, h2, h3, h4, by omega⟩
theorem Box.same {H H' : Hp} {b : Addr} {n : Int} (e : Same H H') (h : Box H b n) : Box H' b n := by
  obtain ⟨x, y, z, h0, h1⟩ := h
  exact ⟨x, y, z, e _ _ h0, h1⟩
theorem Box.new {H : Hp} {b p : Addr} {o : HO} {n : Int} (h : Box H b n) (e : H p = none) : Box (upd H p o) b n := h.same (same_new e)
theorem Box.ne {H : Hp} {b p : Addr} {n : Int} (h : Box H b n) (e : H p = none) : p ≠ b := fun z => by
  obtain ⟨_, _, _, h0, _⟩ := h
  rw [z, h0] at e
  cases e
section
variable {K : PySem.W.Frag}
theorem at_int {ns : List Int} {k : Int} (h0 : 0 ≤ k) (h1 : k < ns.length) : ∃ c, atI (ns.map V.int) k = some (.int c) := by
  obtain ⟨j, rfl⟩ := Int.eq_ofNat_of_zero_le h0
  have hj : j < ns.length := by omega
  refine ⟨ns[j], atI_nat ?_⟩
  rw [List.getElem?_map, List.getElem?_eq_getElem hj]
  rfl
def partsL (p m : Int) : List Int := List.replicate (p % m).toNat (p / m + 1) ++ List.replicate (m - p % m).toNat (p / m)
theorem rep1 {α : Type} (k : Nat) (x : α) : (List.replicate k [x]).flatten = List.replicate k x := by
  induction k with
  | zero => rfl
  | succ n ih => rw [List.replicate_succ, List.flatten_cons, ih]; rfl
theorem size_small {n : Nat} (h : n ≤ 1000) : n ≤ sizeLine := Nat.le_of_lt (small1000 h)
theorem iteN {c A B : Prop} [Decidable c] (hc : ¬ c) (h : B) : if decide c = true then A else B := by
  rw [decide_eq_false hc]
  exact iteF h
theorem iteY {c A B : Prop} [Decidable c] (hc : c) (h : A) : if decide c = true then A else B := by
  rw [decide_eq_true hc]
  exact iteT h
theorem same_but {b : Addr} {H0 H1 H2 : Hp} (s : Same H0 H1) (n : H0 b = none) (t : But b H1 H2) : Same H0 H2 := fun c o h => t c o (fun e => by rw [e, n] at h; cases h) (s c o h)
theorem dpAll_ints {H : Hp} : ∀ ns : List Int, DpAll K H (ns.map V.int) (ns.map PyData.int)
  | [] => .nil
  | n :: r => .cons (.int n) (dpAll_ints r)
theorem dp_ints {H : Hp} {a : Addr} {ns : List Int} (h : SqL K H a (ns.map V.int)) : Dp K H (.ref a) (.list (ns.map PyData.int)) := .lst h (dpAll_ints ns)
theorem lay_ints : ∀ ns : List Int, PyData.canLayAll0 (ns.map PyData.int) = true
  | [] => by simp [PyData.canLayAll0]
  | n :: r => by simp [PyData.canLayAll0, PyData.canLay0, lay_ints r]
theorem depth_ints : ∀ ns : List Int, PyData.depthAll (ns.map PyData.int) ≤ 1
  | [] => by simp [PyData.depthAll]
  | n :: r => by
    have h := depth_ints r
    simp only [List.map_cons, PyData.depthAll, PyData.depth]
    omega
theorem sh_ints (ns : List Int) : SeqAt.shaped (.list (ns.map PyData.int)) = true := by
  have h1 := depth_ints ns
  have h2 : PyData.depth (.list (ns.map PyData.int)) ≤ 64 := by
    simp only [PyData.depth]
    omega
  show (PyData.canLay0 (.list (ns.map PyData.int)) && decide (PyData.depth (.list (ns.map PyData.int)) ≤ 64)) = true
  rw [Bool.and_eq_true]
  exact ⟨by simp only [PyData.canLay0]; exact lay_ints ns, decide_eq_true h2⟩
theorem eqv_same (ns : List Int) : PyData.eqv (.list (ns.map PyData.int)) (.list (ns.map PyData.int)) = true := SeqAt.eqv_refl _ (SeqAt.canLay_of_shaped (sh_ints ns))

theorem sum_rep (k : Nat) (x : Int) : (List.replicate k x).sum = k * x := by
  induction k with
  | zero => simp
  | succ n ih =>
    rw [List.replicate_succ, List.sum_cons, ih, Int.natCast_add, Int.add_mul]
    omega
theorem parts_len {p m : Int} (hm : 1 ≤ m) : ((partsL p m).length : Int) = m := by
  have hr0 := Int.emod_nonneg p (show m ≠ 0 by omega)
  have hr1 := Int.emod_lt_of_pos p (show 0 < m by omega)
  unfold partsL
  rw [List.length_append, List.length_replicate, List.length_replicate]
  omega
theorem parts_sum {p m : Int} (hm : 1 ≤ m) : (partsL p m).sum = p := by
  have hr0 := Int.emod_nonneg p (show m ≠ 0 by omega)
  have hr1 := Int.emod_lt_of_pos p (show 0 < m by omega)
  have e := Int.mul_ediv_add_emod p m
  unfold partsL
  rw [List.sum_append, sum_rep, sum_rep, Int.toNat_of_nonneg hr0, Int.toNat_of_nonneg (by omega), Int.sub_mul, Int.mul_add]
  omega
theorem parts_mem {p m x : Int} (h : x ∈ partsL p m) : x = p / m + 1 ∨ x = p / m := by
  unfold partsL at h
  rcases List.mem_append.mp h with h | h
  · exact .inl (List.eq_of_mem_replicate h)
  · exact .inr (List.eq_of_mem_replicate h)
theorem parts_fall (p m : Int) : (partsL p m).Pairwise (fun a b => b ≤ a) := by
  unfold partsL
  refine List.pairwise_append.mpr ⟨List.pairwise_replicate.mpr (.inr (Int.le_refl _)), List.pairwise_replicate.mpr (.inr (Int.le_refl _)), fun a ha b hb => ?_⟩
  rw [List.eq_of_mem_replicate ha, List.eq_of_mem_replicate hb]
  omega
theorem parts_sorted {p m : Int} {ns : List Int} (h : ns.Perm (partsL p m)) (hs : ns.Pairwise (· ≤ ·)) : ns.reverse = partsL p m := by
  refine List.Perm.eq_of_pairwise (le := fun a b => b ≤ a) (fun x y _ _ h1 h2 => Int.le_antisymm h2 h1) ?_ (parts_fall p m) ((List.reverse_perm ns).trans h)
  exact List.pairwise_reverse.mpr hs
theorem ends_of {ns : List Int} (h : 0 < ns.length) : ∃ x y, x ∈ ns ∧ y ∈ ns ∧ atI (ns.map V.int) 0 = some (.int x) ∧ atI (ns.map V.int) (-1) = some (.int y) := by
  cases ns with
  | nil => cases h
  | cons x r =>
    refine ⟨x, (x :: r).getLast (List.cons_ne_nil _ _), List.mem_cons_self, List.getLast_mem _, atI_nat (j := 0) rfl, ?_⟩
    have hz : ((x :: r).map V.int) = ((x :: r).dropLast.map V.int) ++ [.int ((x :: r).getLast (List.cons_ne_nil _ _))] := by
      rw [← List.map_singleton, ← List.map_append, List.dropLast_concat_getLast]
    rw [hz]
    exact atI_last _ _
theorem all_true (n : Nat) : (List.replicate n true).all id = true := by
  induction n with
  | zero => rfl
  | succ k ih => rw [List.replicate_succ, List.all_cons, ih]; rfl
theorem pick6 {r x : Int} (h0 : 0 ≤ r) (h1 : r < 6) (x0 : 0 ≤ x) (x1 : x ≤ 100) : ∃ c : Int, atI [V.int 0, .int 1, .int 50, .int 99, .int 100, .int x] r = some (.int c) ∧ 0 ≤ c ∧ c ≤ 100 := by
  have h : r = 0 ∨ r = 1 ∨ r = 2 ∨ r = 3 ∨ r = 4 ∨ r = 5 := by omega
  rcases h with rfl | rfl | rfl | rfl | rfl | rfl
  · exact ⟨0, rfl, by decide, by decide⟩
  · exact ⟨1, rfl, by decide, by decide⟩
  · exact ⟨50, rfl, by decide, by decide⟩
  · exact ⟨99, rfl, by decide, by decide⟩
  · exact ⟨100, rfl, by decide, by decide⟩
  · exact ⟨x, rfl, x0, x1⟩
end
end Pw
namespace Pw
open PySem PySem.Spec PyProof.Rows L2
/-! ### defs that are called where no repr is under way (so that the repr of a list, of a tuple, is its text) -/
structure FnG (P : Program) (w : World) (K : PySem.W.Frag) (mg : Str → Option Value) (base : Heap) (k : Nat) (f : Addr) (fd : FuncData) (ps : List Str) (sp : Sp) : Prop where
  many : ∀ vs H Q E, sp vs H Q E → vs.length = ps.length
  runs : ∀ (A : Around) (out : List Env) (s : Shared) (H : Hp) (ar : Args) (us : List Value) (vs : List V) (Q : VK) (E : XK), Room k A → A.guards = some [] → Env0 P w K mg base A out s H →
    BindsTo s fd ar (ps.zip us) → Vals vs us → sp vs H Q E → codeAny (model P w) A (.call (.ref f) ar) (CR CX0 out P w H s Q E) s
theorem FnG.of {P : Program} {w : World} {K : PySem.W.Frag} {mg : Str → Option Value} {base : Heap} {k : Nat} {f : Addr} {fd : FuncData} {ps : List Str} {sp : Sp} (F : FnOk P w K mg base CX0 k f fd ps sp) : FnG P w K mg base k f fd ps sp :=
  ⟨F.len, fun A out s H ar us vs Q E hr _ => F.run A out s H ar us vs Q E hr⟩
theorem guards_deeper {A : Around} {env : Env} (h : A.guards = some []) : (A.deeper env).guards = some [] := h
theorem okG {P : Program} {w : World} {K : PySem.W.Frag} {mg : Str → Option Value} {base : Heap} {x qual : Str} {st : Stmt} {f : Addr} {fd : FuncData} {N ps : List Str} {k : Nat} {sp : Sp} (F : Fun K x qual st f fd) (S : FnScope N ps (defScope st))
    (many : ∀ vs H Q E, sp vs H Q E → vs.length = ps.length)
    (walk : ∀ (cdv : Value) (A : Around) (out : List Env) (s : Shared) (H : Hp) (vs : List V) (Q : VK) (E : XK), Room k (A.deeper (envOfC qual (defScope st) s.heap.objs.size f cdv)) → (A.deeper (envOfC qual (defScope st) s.heap.objs.size f cdv)).guards = some [] → sp vs H Q E →
      ∃ t, PSs (cxOf CX0 P w K mg base N qual (defScope st) f cdv A out s H E).nox (defBody st) t ∧ t { nx := fun _ H' => Q .non H', rt := Q } (start N vs) H) : FnG P w K mg base (k + 1) f fd ps sp := by
  obtain ⟨oc, od, kV, dc, pm, an, cv, ct, ol, rfl, look, code⟩ := F.ex
  constructor
  · exact many
  · intro A out s H ar us vs Q E room gd env0 binds rel want
    have inK : K.In s.heap := env0.mod.kin.keeps (fun b o e => And.left (env0.bs b o e))
    have noLim : s.heap.NoLimit := env0.mod.nolimit.keeps (fun b o e => And.left (env0.bs b o e))
    apply codeAny_call_function room.depth (inK _ _ look) rfl S.co S.gen rfl (PySem.W.codeRec_of inK code)
    apply binds
    apply wpAny_newFunctionEnv_cells S.kind
    · rintro ⟨n, v⟩ hy
      cases S.par n (List.of_mem_zip hy).1 with
      | inl q => exact Or.inl q
      | inr q => exact Or.inr ⟨q, PySem.W.cellsFrom_some _ _ _ (Or.inl q)⟩
    · intro env he s1 inCall
      cases he
      refine And.intro (noLim.keeps inCall.toInCall.keep) (codeAny_func ?_)
      obtain ⟨t, term, reading⟩ := walk cv A out s H vs Q E (room.deeper _) (guards_deeper gd) want
      have start : Inv (cxOf CX0 P w K mg base N qual (defScope st) f cv A out s H E) [] (L2.start N vs) H s1 := inv_start S room.hd env0 (many _ _ _ _ want) rel inCall
      apply wpAny_mono (term.nox.run [] s1 (L2.start N vs) H _ start reading)
      · intro fl s' told
        cases fl with
        | ret u =>
          obtain ⟨v, σ', H', J, rv, q⟩ := told
          exact ⟨v, H', J.os, J.bare, J.base, J.hok, rv, q⟩
        | next =>
          obtain ⟨σ', H', J, q⟩ := told
          exact ⟨V.non, H', J.os, J.bare, J.base, J.hok, rfl, q⟩
        | brk => exact (And.right (Exists.choose_spec (Exists.choose_spec told))).elim
        | cont => exact (And.right (Exists.choose_spec (Exists.choose_spec told))).elim
      · intro e s' told
        exact told
structure CG (P : Program) (w : World) (K : PySem.W.Frag) (mg : Str → Option Value) (base : Heap) (k : Nat) (x : Str) (ps : List Str) (sp : Sp) : Prop where
  ex : ∃ (f : Addr) (fd : FuncData), FnG P w K mg base k f fd ps sp ∧ mg x = some (.ref f) ∧ PySem.W.keepIn K (.ref f) = true ∧ Binds K fd ps []
theorem CF.g {P : Program} {w : World} {K : PySem.W.Frag} {mg : Str → Option Value} {base : Heap} {k : Nat} {x : Str} {ps : List Str} {sp : Sp} (C : CF P w K mg base k x ps sp) : CG P w K mg base k x ps sp := by
  obtain ⟨f, fd, F, r⟩ := C.ex
  exact ⟨f, fd, FnG.of F, r⟩
theorem pe_cg {X : Cx} {k : Nat} {x : Str} {ps : List Str} {sp : Sp} {e : Expr} {es : List Expr} {t : TA} {p pos : Pos} (C : CG X.prog X.w X.K X.mg X.base k x ps sp) (hr : Room k X.A) (gd : X.A.guards = some []) (hg : Gl X x) (ha : PA X (e :: es) t)
    (hdb : (x == ("__debug__" : Str)) = false := by decide) (he : starEach (e :: es) X.env = (false, eval e X.env) :: starEach es X.env := by rfl) (hpl : (backTo pos (starEach es X.env)).any (·.1) = false := by rfl) :
    PE X (.Call (.Name x p) (e :: es) [] pos) (tCall sp [] E0 t) := by
  obtain ⟨f, fd, F, g, kp, b⟩ := C.ex
  constructor
  intro pins s σ H Q I h
  apply wpAny_Call_Name_kw (ld_glob I hg g ?_ hdb)
  apply PySem.W.callWith_K (h₀ := X.base) I.ok.mod.kin kp (thn (ha.run pos pins s σ H _ I h) ?_) he hpl
  rintro us s1 ⟨vs, H1, I1, r, q⟩
  refine ⟨I1.kIn, wpAny_call (codeAny_mono (F.runs X.A X.stack s1 H1 ⟨us, []⟩ (us ++ []) (vs ++ []) Q E0 hr gd I1.env0 (b s1 us I1.kIn ?_) (r.append .nil) q) ?_)⟩
  · have hl := F.many _ _ _ _ q
    rw [(r.append .nil).length] at hl
    exact hl
  · intro res s' told
    cases res with
    | error e => exact told.elim
    | ok fl =>
      cases fl with
      | ret u => exact I1.after told
      | next => exact told.elim
      | brk => exact told.elim
      | cont => exact told.elim
/-! ### repr of data -/
def rRepr (K : PySem.W.Frag) : List V → Hp → VK → Prop := fun xs H Q => ∃ (x : V) (d : PyData), xs = [x] ∧ Dp K H x d ∧ d.showable = true ∧ d.shown.length ≤ sizeLine ∧ d.depth ≤ 60 ∧ d.hasDict = false ∧ Q (.str d.shown) H
theorem kk_repr (K : PySem.W.Frag) {X : Cx} (gd : X.A.guards = some []) (hu : X.A.units + 64 < cLine) (h : X.K = K := by rfl) : CallR X (.builtin "repr") (rRepr K) := by
  subst h
  intro pins s σ H xs us Q I r want
  obtain ⟨x, d, rfl, hd, hs, hz, hp, hn, q⟩ := want
  obtain ⟨u, rfl, ru⟩ := vals1 r
  cases hd with
  | non =>
    cases (show u = Value.none from ru)
    simp only [PyData.shown] at q
    exact PySem.P.repr_of_none ⟨.str _, H, I.tok _, ⟨_, rfl⟩, q⟩
  | bl b =>
    cases (show u = Value.bool b from ru)
    simp only [PyData.shown] at q
    exact PySem.P.repr_of_bool ⟨.str _, H, I.tok _, ⟨_, rfl⟩, q⟩
  | int i =>
    obtain ⟨t, e⟩ := (show ∃ t, u = Value.int i t from ru)
    cases e
    simp only [PyData.shown] at q
    exact PySem.P.repr_of_int (by simpa [PyData.showable] using hs) ⟨.str _, H, I.tok _, ⟨_, rfl⟩, q⟩
  | str y =>
    obtain ⟨t, e⟩ := (show ∃ t, u = Value.str y t from ru)
    cases e
    simp only [PyData.shown] at q hz
    exact PySem.P.repr_of_str ⟨.str _, H, I.tok _, ⟨_, rfl⟩, q⟩ hz
  | lst a b =>
    obtain ⟨as, rd⟩ := Dp.reads I _ _ u (.lst a b) ru
    cases ru
    exact repr_of_reads' rd hs (fun z => by rw [hn] at z; cases z) gd (by omega) (fun _ _ e => e) (fun h' t tk keep => ⟨.str _, H, I.kept keep, ⟨_, rfl⟩, q⟩) hz
  | tup a b =>
    obtain ⟨as, rd⟩ := Dp.reads I _ _ u (.tup a b) ru
    cases ru
    exact repr_of_reads' rd hs (fun z => by rw [hn] at z; cases z) gd (by omega) (fun _ _ e => e) (fun h' t tk keep => ⟨.str _, H, I.kept keep, ⟨_, rfl⟩, q⟩) hz
/-! ### the law's call, for such a def -/
theorem law_callG {P : Program} {w : World} {K : PySem.W.Frag} {mg mb : Str → Option Value} {k : Nat} {fa a : Addr} {fd : FuncData} {x : Str} {sp : Sp} {s₁ : Shared} {vs : List Value} {ns : List Int}
    (inK : K.In s₁.heap) (nsM : s₁.heap.Ns mainGlobals mg) (nsB : s₁.heap.Ns builtinsNs mb) (boot : ∀ y : Str, y ≠ "__name__" → mb y = bootBuiltins y) (lim : s₁.heap.NoLimit) (gens : s₁.gens = #[])
    (at_a : s₁.heap.get? a = some { cls := .type "list", data := .seq vs.toArray }) (areI : IntsAre vs ns) (fits : ns.length ≤ sizeLine) (room : Room k callerA)
    (F : ∀ base : Heap, K.In base → base.Ns mainGlobals mg → FnG P w K mg base k fa fd [x] sp) (bind : ∀ (s : Shared) (u : Value), BindsTo s fd ⟨[u], []⟩ [(x, u)])
    (want : ∀ H : Hp, Only H → SqL K H a (ns.map V.int) → sp [.ref a] H (fun v _ => v = .bl true) fun _ _ _ => False) :
    codeAny (model P w) callerA (.call (.ref fa) ⟨[.ref a], []⟩) (fun r s' => r = .ok (.ret (.bool true)) ∧ OldK s₁.heap s'.heap ∧ s'.os = s₁.os ∧ AllBare s'.gens) s₁ := by
  have many := areI.length
  have goes : ∀ H : Hp, Only H → SqL K H a (ns.map V.int) → HOk P w H s₁.heap → (∀ b, H b ≠ none → b = a) → (H a ≠ none → K.lookup a = none) →
      codeAny (model P w) callerA (.call (.ref fa) ⟨[.ref a], []⟩) (fun r s' => r = .ok (.ret (.bool true)) ∧ OldK s₁.heap s'.heap ∧ s'.os = s₁.os ∧ AllBare s'.gens) s₁ := by
    intro H only isL ok one notK
    have free : ∀ {b : Addr}, b ≠ a → H b = none := by
      intro b nb
      cases hb : H b with
      | none => rfl
      | some u => exact absurd (one b (by rw [hb]; simp)) nb
    have dictFree : ∀ {b : Addr} {o : Obj} {es : Array DictEntry} {ep : Nat}, s₁.heap.get? b = some o → o.data = .dict es ep → H b = none := by
      intro b o es ep e dd
      refine free (fun z => ?_)
      rw [z, at_a] at e
      cases e
      cases (show Data.seq vs.toArray _ = Data.dict es ep from dd)
    have nsH : ∀ {b : Addr} {m : Str → Option Value}, s₁.heap.Ns b m → (hidT s₁.heap H).Ns b m := by
      rintro b m ⟨o, es, ep, e, dd, rr⟩
      exact ⟨o, es, ep, hidT_get e (dictFree e dd), dd, rr⟩
    have inH : K.In (hidT s₁.heap H) := by
      intro b o e
      refine hidT_get (inK b o e) ?_
      cases hb : H b with
      | none => rfl
      | some u =>
        have ba := one b (by rw [hb]; simp)
        rw [ba] at hb e
        rw [notK (by rw [hb]; simp)] at e
        cases e
    have modH : Mod K mg (hidT s₁.heap H) := by
      obtain ⟨mc, l1, l2⟩ := lim
      exact ⟨inH, nsH nsM, ⟨mb, nsH nsB, boot⟩, ⟨mc, nsH l1, l2⟩⟩
    have env : Env0 P w K mg (hidT s₁.heap H) callerA [] s₁ H := by
      refine ⟨rfl, modH, fun b o e => of_hidT e, Nat.le_of_eq (hidT_size _ _), trivial, ?_, ok, .of_eq gens⟩
      intro b hb
      cases hb
    apply codeAny_mono ((F _ inH (nsH nsM)).runs callerA [] s₁ H ⟨[.ref a], []⟩ [.ref a] [.ref a] _ _ room rfl env (bind s₁ (.ref a)) (.cons rfl .nil) (want H only isL))
    intro res s' told
    cases res with
    | error e => exact told.elim
    | ok fl =>
      cases fl with
      | next => exact told.elim
      | brk => exact told.elim
      | cont => exact told.elim
      | ret u =>
        obtain ⟨v, H', os, bare, un, ok', rel, qv⟩ := told
        cases (show v = .bl true from qv)
        cases (show u = Value.bool true from rel)
        refine ⟨rfl, OldK.of_keep (fun b o e => ?_), os, bare⟩
        cases hb : H b with
        | none => exact un.keep b o e hb (fun z => by cases z) (fun z => by cases z)
        | some u2 =>
          rcases only b with z | ⟨ob, xs, z⟩
          · rw [hb] at z
            cases z
          · have e1 := And.left (ok b _ z)
            have e2 := And.left (ok' b _ (un.frzs b ob _ z))
            rw [e] at e1
            cases e1
            exact e2
  cases hk : K.lookup a with
  | some o =>
    have e := inK a o hk
    rw [at_a] at e
    cases e
    apply goes (fun _ => none)
    · exact fun _ => Or.inl rfl
    · exact Or.inr ⟨_, vs.toArray, _, hk, rfl, rfl, rfl, by rw [List.size_toArray, many]; exact fits, by simpa using vals_ints areI⟩
    · intro b u z
      cases (show (none : Option HO) = some u from z)
    · exact fun b z => absurd rfl z
    · exact fun z => absurd rfl z
  | none =>
    apply goes (fun b => if b = a then some (.frz { cls := .type "list", data := .seq vs.toArray } (.lst (ns.map V.int))) else none)
    · intro b
      by_cases hb : b = a
      · exact Or.inr ⟨_, _, if_pos hb⟩
      · exact Or.inl (if_neg hb)
    · exact Or.inl (Or.inr ⟨{ cls := .type "list", data := .seq vs.toArray }, if_pos rfl⟩)
    · intro b u z
      by_cases hb : b = a
      · have z' := (if_pos hb).symm.trans z
        cases z'
        rw [hb]
        exact ⟨at_a, by rw [List.length_map]; exact fits, vs, _, vals_ints areI, at_a⟩
      · cases (if_neg hb).symm.trans z
    · intro b z
      by_cases hb : b = a
      · exact hb
      · exact absurd (if_neg hb) z
    · exact fun _ => hk
theorem walk_ofG {l : PySem.W.OpenLaw} {n k : Nat} {q : Program} {loose : List Str} {XP : (Str → Option Value) → Heap → Prop} {YP : World → Heap → Prop} {d : DefRec} {K : Params → PySem.W.Frag} {sp : World → Sp} {x : Str}
    (hn : l.most = some n) (hn2 : n ≤ sizeLine) (hdf : d.params.defaults = []) (hr : Room k callerA) (hY : ∀ (w : World) (h : Heap), YP w h → (K w.params).In h)
    (F : ∀ (w : World) (mg : Str → Option Value) (fa : Addr) (h : Heap), (K w.params).In h → h.Ns mainGlobals mg → mg d.name = some (.ref fa) →
      ∃ fd : FuncData, (∀ (s : Shared) (u : Value), BindsTo s fd ⟨[u], []⟩ [(x, u)]) ∧ ∀ base : Heap, (K w.params).In base → base.Ns mainGlobals mg → FnG l.prog w (K w.params) mg base k fa fd [x] (sp w))
    (hsp : ∀ (w : World) (H : Hp) (a : Addr) (ns : List Int), ns.length ≤ n → Only H → SqL (K w.params) H a (ns.map V.int) → sp w [.ref a] H (fun v _ => v = .bl true) fun _ _ _ => False) :
    PySem.W.WalkO q loose XP YP l.row.toRowW d [] (fun f vs => PySem.call f vs) := by
  apply Att.attach_call hn hdf
  intro w s₀ s₁ mg mb fa o pm cd doc a vs ns G Y ho hd hcd hmg hobj hints hlen hg
  obtain ⟨fd, hb, hF⟩ := F w mg fa _ (hY w _ Y) G.T.g hmg
  exact law_callG (hY w _ Y) G.T.g G.T.b G.T.builtins G.T.nolimit hg hobj hints (Nat.le_trans hlen hn2) hr hF hb (fun H hO hS => hsp w H a ns hlen hO hS)
/-! ### texts and data -/
theorem op_mul_str {X : Cx} : OpR X (binaryOp .Mult) (fun x y H Q => ∃ (z : Str) (k : Int), x = .str z ∧ y = .int k ∧ MulOk z k ∧ Q (.str (Txt.mul z k)) H) := by
  intro pins s σ H x y v u Q I rx ry h
  obtain ⟨z, k, rfl, rfl, ok, q⟩ := h
  obtain ⟨t, rfl⟩ := rx
  obtain ⟨t', rfl⟩ := ry
  exact SB.mul ok fun t' tk => ⟨.str _, H, I.tok _, ⟨_, rfl⟩, q⟩
theorem len_app (x y : Str) : (x ++ y).length = x.length + y.length := by
  rw [TL.len_tl, TL.tl_append, List.length_append, ← TL.len_tl, ← TL.len_tl]
def tyD : PyData → String
  | .none => "NoneType"
  | .bool _ => "bool"
  | .int _ => "int"
  | .str _ => "str"
  | .list _ => "list"
  | .tuple _ => "tuple"
  | .dict _ => "dict"
theorem ty_of_dp {K : PySem.W.Frag} {H : Hp} {x : V} {d : PyData} (h : Dp K H x d) : TyX K H x (.type (tyD d)) := by
  cases h with
  | non => exact .base .non
  | bl b => exact .base (.bl b)
  | int i => exact .base (.int i)
  | str z => exact .base (.str z)
  | lst a _ =>
    rcases a with (a | ⟨o, a⟩) | ⟨o, its, n, a, c, _⟩
    · exact .base (.lst a)
    · exact .base (.frz a)
    · exact .kList a c
  | tup a _ =>
    rcases a with (a | ⟨o, a⟩) | ⟨o, its, n, a, c, _⟩
    · exact .base (.tup a)
    · exact .fTuple a
    · exact .kTuple a c
theorem seqT_same {K : PySem.W.Frag} {H H' : Hp} {a : Addr} {xs : List V} (e : Same H H') (h : SqT K H a xs) : SqT K H' a xs := by
  rcases h with (h | ⟨o, h⟩) | h
  · exact .inl (.inl (e _ _ h))
  · exact .inl (.inr ⟨o, e _ _ h⟩)
  · exact .inr h
mutual
theorem dp_same {K : PySem.W.Frag} {H H' : Hp} (e : Same H H') : ∀ {x : V} {d : PyData}, Dp K H x d → Dp K H' x d
  | _, _, .non => .non
  | _, _, .bl b => .bl b
  | _, _, .int i => .int i
  | _, _, .str z => .str z
  | _, _, .lst a b => .lst (e.seq a) (dpAll_same e b)
  | _, _, .tup a b => .tup (seqT_same e a) (dpAll_same e b)
theorem dpAll_same {K : PySem.W.Frag} {H H' : Hp} (e : Same H H') : ∀ {xs : List V} {ds : List PyData}, DpAll K H xs ds → DpAll K H' xs ds
  | _, _, .nil => .nil
  | _, _, .cons a b => .cons (dp_same e a) (dpAll_same e b)
end
/-- the heap without the place b -/
def wo (b : Addr) (H : Hp) : Hp := fun c => if c = b then none else H c
theorem wo_sub (b : Addr) (H : Hp) : Same (wo b H) H := fun c o h => by
  unfold wo at h
  split at h
  · cases h
  · exact h
theorem wo_but {b : Addr} {H H' : Hp} (t : But b H H') : Same (wo b H) (wo b H') := fun c o h => by
  unfold wo at h ⊢
  split at h
  · cases h
  · rename_i n
    rw [if_neg n]
    exact t c o n h
theorem wo_same {b : Addr} {H H' : Hp} (t : Same H H') : Same (wo b H) (wo b H') := wo_but (But.of t)
theorem wo_at {b c : Addr} {H : Hp} {o : HO} (n : c ≠ b) (h : H c = some o) : wo b H c = some o := by
  unfold wo
  rw [if_neg n]
  exact h
def Asc (s : Str) : Prop := ∀ c ∈ TL.tl s, c < 128
theorem Asc.app {x y : Str} (hx : Asc x) (hy : Asc y) : Asc (x ++ y) := fun c hc => by
  rw [TL.tl_append] at hc
  rcases List.mem_append.mp hc with h | h
  · exact hx c h
  · exact hy c h
theorem Asc.cut {x : Str} {lo hi : Option Int} (hx : Asc x) : Asc (cutS x lo hi) := fun c hc => hx c (List.mem_of_mem_drop (List.mem_of_mem_take hc))
theorem Asc.one {c : Nat} (h : c < 128) : Asc ⟨#[c]⟩ := fun d hd => by
  rw [List.mem_singleton.mp (show d ∈ [c] from hd)]
  exact h
/-! ### kinds of data -/
def isT (T t : String) : Bool := decide (t = T) || (decide (T = "int") && decide (t = "bool"))
abbrev isK (T : String) (d : PyData) : Bool := isT T (tyD d)
theorem kit_t : ∀ t ∈ ["NoneType", "bool", "int", "str", "list", "tuple", "dict"], ∀ T ∈ ["int", "bool", "str", "list", "tuple"], kitB t T = some (isT T t) := by decide +kernel
theorem ty_mem (d : PyData) : tyD d ∈ ["NoneType", "bool", "int", "str", "list", "tuple", "dict"] := by
  cases d <;> simp [tyD]
theorem kit_d {K : PySem.W.Frag} {T : String} (hT : T ∈ ["int", "bool", "str", "list", "tuple"]) (d : PyData) : PySem.W.kitOne K (.type (tyD d)) (.type T) = some (isK T d) := kit_ty (kit_t _ (ty_mem d) T hT)
theorem sh_int (i : Int) : SeqAt.shaped (.int i) = true := by
  show (PyData.canLay0 (.int i) && decide (PyData.depth (.int i) ≤ 64)) = true
  simp [PyData.canLay0, PyData.depth]
theorem tuple_mul1 (l : Addr) (items : Array Value) (n : Nat) (dd : Option Addr) (sl : Array (Option Value)) (u : Tok) (hne : items.isEmpty = false) :
    Meets (Builtin.«tuple.__mul__» ⟨[.ref l, .int 1 u], []⟩) (fun _ R s => s.heap.get? l = some { cls := .type "tuple", dict := dd, data := .seq items n, slots := sl } ∧ R (.ok (.ret (Value.ref l))) s) :=
  .of_wp fun prog w A R s h => by
    obtain ⟨hp, g, d, tk, os⟩ := s
    obtain ⟨hl, h⟩ := h
    have f1 := AutoSeq1.idx_int
    wp_walk using wpAny_loadPart' hl
    exact ⟨_, rfl, h⟩
theorem op_rep1 {X : Cx} : OpR X (binaryOp .Mult) (fun x y H Q => ∃ (l : Addr) (xs : List V), x = .ref l ∧ y = .int 1 ∧ SqT X.K H l xs ∧ xs ≠ [] ∧ Q (.ref l) H) := by
  intro pins s σ H x y v u Q I rx ry h
  obtain ⟨l, xs, rfl, rfl, hT, hne, q⟩ := h
  cases rx
  obtain ⟨t, rfl⟩ := ry
  obtain ⟨its, r, ⟨⟨cls, dd, data, sl⟩, ho, hc, n, hd⟩, hs⟩ := I.tuple hT
  simp only at hc hd
  subst hc hd
  have hi : its.toArray.isEmpty = false := by
    cases its with
    | nil => exact absurd (List.eq_nil_of_length_eq_zero (r.length.trans rfl)) hne
    | cons a b => rfl
  refine wpAny_binaryOp_repeat_ref (T := "tuple") (U := "int") (by decide) ⟨_, ho, rfl⟩ (fun s' => typeIs_int s' 1 t) noFill_tuple_mul F.fills_int_mul F.slot_int_rmul repeat_tuple F.slot_int_index.lookup
    (call_meets F.slot_int_rmul (typeIs_int s 1 t) F.entry_int_rmul (F.args_int_rmul_2 _ _) (int_rmul_tuple 1 t l its.toArray n dd sl)
      ⟨ho, rfl, ⟨_, ho, rfl⟩, call_meets F.slot_tuple_mul ⟨_, ho, rfl⟩ F.entry_tuple_mul (F.args_tuple_mul_2 _ _) (tuple_mul1 l its.toArray n dd sl t hi) ⟨ho, ?_⟩⟩)
  exact ⟨.ref l, H, I, rfl, q⟩
def rRepA (K : PySem.W.Frag) : R2 := fun x y H Q => rRepT K x y H Q ∨ ∃ (l : Addr) (xs : List V), x = .ref l ∧ y = .int 1 ∧ SqT K H l xs ∧ xs ≠ [] ∧ Q (.ref l) H
theorem kk_repA (K : PySem.W.Frag) {X : Cx} (h : X.K = K := by rfl) : OpR X (binaryOp .Mult) (rRepA K) := h ▸ OpR.or op_repT op_rep1
/-! ### classes: a method, the making of an instance, by their promises -/
structure CMt (P : Program) (w : World) (K : PySem.W.Frag) (mg : Str → Option Value) (base : Heap) (C : Addr) (k : Nat) (m : Str) (ps : List Str) (dvs : List V) (sp : Sp) : Prop where
  ex : ∃ (f : Addr) (fd : FuncData) (ds : List Value), FnOk P w K mg base CX0 k f fd ps sp ∧ Meth K C m f ∧ Vals dvs ds ∧ Binds K fd ps ds
structure CMk (P : Program) (w : World) (K : PySem.W.Frag) (mg : Str → Option Value) (base : Heap) (C : Addr) (k : Nat) (x : Str) (ps : List Str) (dvs : List V) (sp : Sp) : Prop where
  ex : ∃ (f : Addr) (fd : FuncData) (ds : List Value), FnOk P w K mg base CX0 k f fd ps sp ∧ Mk K C f ∧ mg x = some (.ref C) ∧ Vals dvs ds ∧ Binds K fd ps ds
section
variable {X : Cx} {k : Nat} {C : Addr} {x m : Str} {ps : List Str} {dvs : List V} {sp : Sp} {p pos apos : Pos} {e o : Expr} {es : List Expr} {ta : TE} {t : TA}
theorem pe_mt {pl : Sem Bool} (M : CMt X.prog X.w X.K X.mg X.base C k m ps dvs sp) (c : Cls X.K C) (hr : Room k X.A) (he : PE X o ta) (ha : PA X (e :: es) t)
    (hst : starEach (e :: es) X.env = (false, eval e X.env) :: starEach es X.env := by rfl) (hpl : (backTo pos (starEach es X.env)).any (·.1) = false := by rfl)
    (ht : eval (.Call (.Attribute o m apos) (e :: es) [] pos) X.env = (do
      let ov ← eval o X.env
      standAt apos.atName
      let (f, first) ← holding [ov] (getMethod ov m pl)
      callWith pos f first (backTo pos (starEach (e :: es) X.env)) (backToKw pos (keywordEach [] X.env))) := by rfl) :
    PE X (.Call (.Attribute o m apos) (e :: es) [] pos) (tMeth C m sp dvs E0 ta t) := by
  obtain ⟨f, fd, ds, F, me, vd, b⟩ := M.ex
  exact pe_meth (pl := pl) he c me F hr b vd pass0 ha hst hpl ht
theorem pe_mt0 {pl : Sem Bool} (M : CMt X.prog X.w X.K X.mg X.base C k m ps dvs sp) (c : Cls X.K C) (hr : Room k X.A) (he : PE X o ta)
    (ht : eval (.Call (.Attribute o m apos) [] [] pos) X.env = (do
      let ov ← eval o X.env
      standAt apos.atName
      let (f, first) ← holding [ov] (getMethod ov m pl)
      callWith pos f first (backTo pos (starEach [] X.env)) (backToKw pos (keywordEach [] X.env))) := by rfl) :
    PE X (.Call (.Attribute o m apos) [] [] pos) (tMeth C m sp dvs E0 ta tNil) := by
  obtain ⟨f, fd, ds, F, me, vd, b⟩ := M.ex
  exact pe_meth0 (pl := pl) he c me F hr b vd pass0 ht
theorem pe_mkc (M : CMk X.prog X.w X.K X.mg X.base C k x ps dvs sp) (hr : Room (k + 1) X.A) (hg : Gl X x) (ha : PA X (e :: es) t)
    (hdb : (x == ("__debug__" : Str)) = false := by decide) (he : starEach (e :: es) X.env = (false, eval e X.env) :: starEach es X.env := by rfl) (hpl : (backTo pos (starEach es X.env)).any (·.1) = false := by rfl) :
    PE X (.Call (.Name x p) (e :: es) [] pos) (tMake C sp dvs E0 t) := by
  obtain ⟨f, fd, ds, F, mk, g, vd, b⟩ := M.ex
  exact pe_make mk F hr hg g b vd pass0 ha hdb he hpl
end
/-! ### o.m(e, .., k = v) -/
structure CMtK (P : Program) (w : World) (K : PySem.W.Frag) (mg : Str → Option Value) (base : Heap) (C : Addr) (k : Nat) (m : Str) (ps : List Str) (n : Nat) (ks : List Str) (gV : List V → List V → List V) (sp : Sp) : Prop where
  ex : ∃ (f : Addr) (fd : FuncData) (g : List Value → List Value → List Value), FnOk P w K mg base CX0 k f fd ps sp ∧ Meth K C m f ∧ KBn K fd ps n ks g gV
def tMethK (C : Addr) (m : Str) (n j : Nat) (sp : Sp) (gV : List V → List V → List V) (ta : TE) (t tk : TA) : TE := fun σ H Q => ta σ H fun x H1 => ∃ (a dx : Addr) (fs : List (Str × V)), x = .ref a ∧ H1 a = some (.ins C dx fs) ∧ fs.lookup m = none ∧
  t σ H1 fun vs H2 => tk σ H2 fun zs H3 => (x :: vs).length = n ∧ zs.length = j ∧ sp (gV (x :: vs) zs) H3 Q E0
theorem pe_mtK {X : Cx} {k n : Nat} {C : Addr} {m : Str} {ps ks : List Str} {sp : Sp} {gV : List V → List V → List V} {pos apos : Pos} {e o : Expr} {es : List Expr} {kws : List Keyword} {ta : TE} {t tk : TA} {pl : Sem Bool}
    (M : CMtK X.prog X.w X.K X.mg X.base C k m ps n ks gV sp) (c : Cls X.K C) (hr : Room k X.A) (he : PE X o ta) (ha : PA X (e :: es) t) (hkw : PK X kws tk)
    (hall : (backToKw pos (keywordEach kws X.env)).all (·.1.isSome) = true := by rfl) (hks : (backToKw pos (keywordEach kws X.env)).filterMap (·.1) = ks := by rfl)
    (hst : starEach (e :: es) X.env = (false, eval e X.env) :: starEach es X.env := by rfl)
    (hpl : ((backTo pos (starEach (e :: es) X.env)).any (·.1) || (backToKw pos (keywordEach kws X.env)).any (·.1.isNone)) = false := by rfl)
    (ht : eval (.Call (.Attribute o m apos) (e :: es) kws pos) X.env = (do
      let ov ← eval o X.env
      standAt apos.atName
      let (f, first) ← holding [ov] (getMethod ov m pl)
      callWith pos f first (backTo pos (starEach (e :: es) X.env)) (backToKw pos (keywordEach kws X.env))) := by rfl) :
    PE X (.Call (.Attribute o m apos) (e :: es) kws pos) (tMethK C m n ks.length sp gV ta t tk) := by
  obtain ⟨f, fd, g, F, me, b⟩ := M.ex
  constructor
  intro pins s σ H Q I h
  refine PySem.W.methodCall_KW (pl := pl) (thn (he.run pins s σ H _ I h) ?_) ht
  rintro u s1 ⟨x, H1, I1, rx, a, dx, fs, rfl, ea, l, q⟩
  cases (show u = Value.ref a from rx)
  refine getmeth_ok I1 ea c me l ?_
  refine PySem.W.callWith_KW (first := [.ref a]) (h₀ := X.base) I.ok.mod.kin me.kp hall (thn (ha.run pos pins s1 σ H1 _ I1 q) ?_) hpl hst
  rintro us s2 ⟨vs, H2, I2, r, q2⟩
  refine thn (hkw.run pos pins s2 σ H2 _ I2 q2) ?_
  rintro ws s3 ⟨zs, H3, I3, rz, l1, l2, q3⟩
  refine ⟨I3.kIn, ?_⟩
  rw [hks]
  exact run_fnN (us := .ref a :: us) (vs := .ref a :: vs) F hr b pass0 I3 (.cons rfl r) rz l1 l2 q3
theorem okD {P : Program} {w : World} {K : PySem.W.Frag} {mg : Str → Option Value} {base : Heap} {x qual : Str} {params : Arguments} {body : List Stmt} {scope : Scope} {dvs : List V} {kws : List (Str × V)} {f : Addr} {fd : FuncData} {N ps : List Str} {k : Nat} {sp : Sp}
    (F : FunD K x qual params body scope dvs kws f fd) (S : FnScope N ps scope) (len : ∀ vs H Q E, sp vs H Q E → vs.length = ps.length)
    (walk : ∀ (cdv : Value) (A : Around) (outer : List Env) (s : Shared) (H : Hp) (vs : List V) (Q : VK) (E : XK), Room k (A.deeper (envOfC qual scope s.heap.objs.size f cdv)) → sp vs H Q E →
      ∃ t, PSs (cxOf CX0 P w K mg base N qual scope f cdv A outer s H E).nox body t ∧ t { nx := fun _ H' => Q .non H', rt := Q } (start N vs) H) : FnOk P w K mg base CX0 (k + 1) f fd ps sp := by
  refine F.ok S len (fun cdv A outer s H vs Q E hr h => ?_)
  obtain ⟨t, ht, q⟩ := walk cdv A outer s H vs Q E hr h
  exact ⟨t, ht.nox, q⟩
/-! ### numbers in bounds, what is kept -/
def numIn : PyData → Int → Int → Bool
  | .int i, lo, hi => decide (lo ≤ i) && decide (i ≤ hi)
  | _, _, _ => false
def keptOk : PyData → PyData → Bool
  | .tuple ds, e => PyData.eqv (.int (ds.length : Int)) e && ds.all fun d => numIn d 0 100
  | d, _ => numIn d 0 100
def firstWrong (ws : List (Str × Bool)) : V := match ws.find? (fun p => !p.2) with
  | some p => .str p.1
  | none => .non
theorem firstWrong_at {ws : List (Str × Bool)} {i : Nat} {w : Str} (h : ∀ p ∈ ws.take i, p.2 = true) (hi : ws[i]? = some (w, false)) : firstWrong ws = .str w := by
  have hs : ws = ws.take i ++ (w, false) :: ws.drop (i + 1) := by
    obtain ⟨hl, he⟩ := List.getElem?_eq_some_iff.mp hi
    rw [← he, List.getElem_cons_drop, List.take_append_drop]
  unfold firstWrong
  rw [hs, List.find?_append, List.find?_eq_none.mpr (fun p hp => by rw [h p hp]; decide)]
  rfl
theorem firstWrong_none {ws : List (Str × Bool)} (h : ∀ p ∈ ws, p.2 = true) : firstWrong ws = .non := by
  unfold firstWrong
  rw [List.find?_eq_none.mpr (fun p hp => by rw [h p hp]; decide)]
theorem dpAll_len {K : PySem.W.Frag} {H : Hp} : ∀ {xs : List V} {ds : List PyData}, DpAll K H xs ds → xs.length = ds.length
  | _, _, .nil => rfl
  | _, _, .cons _ b => by rw [List.length_cons, List.length_cons, dpAll_len b]
theorem dpAll_get {K : PySem.W.Frag} {H : Hp} : ∀ {xs : List V} {ds : List PyData} {i : Nat} {x : V}, DpAll K H xs ds → xs[i]? = some x → ∃ d, ds[i]? = some d ∧ Dp K H x d
  | _, _, 0, _, .cons a _, h => ⟨_, rfl, by cases (Option.some.inj h); exact a⟩
  | _, _, i + 1, _, .cons _ b, h => dpAll_get (i := i) b h
  | _, _, _, _, .nil, h => by simp at h
/-! ### a block over an iterator of a known length; zip of two lists, of two tuples -/
theorem lc_gen {J : It} {n : Nat} {g : TG} {tt : TT} {te : TE} {vs : List Nat} {σ : L2.St} {H1 : Hp} {D : Addr} {Qd : Hp → Prop} (Pv : Nat → Hp → Prop) (first : Pv 0 (upd H1 D (.lst [])))
    (can : ∀ i H, Pv i H → (i < n → J.go i H) ∧ (i = n → J.stop i H))
    (turn : ∀ i H v H', i < n → Pv i H → J.yld i H v H' → g v (wipe σ vs) H' fun σ2 H2 => wipe σ2 vs = wipe σ vs ∧ tt σ2 H2 fun b H3 => if b = true then te σ2 H3 fun y H4 => ∃ acc, H4 D = some (.lst acc) ∧ acc.length < sizeLine ∧ Pv (i + 1) (upd H4 D (.lst (acc ++ [y]))) else Pv (i + 1) H3)
    (last : ∀ H, Pv n H → Qd H) :
    ∃ W : Nat → Nat → Hp → Prop, (∃ m, W 0 m (upd H1 D (.lst []))) ∧ ∀ i m H, W i m H → (J.stop i H ∧ Qd H) ∨ (J.go i H ∧ ∃ Nx : Hp → Prop, (∀ H', Nx H' → ∃ m', m' < m ∧ W (i + 1) m' H') ∧ ∀ x H', J.yld i H x H' → g x (wipe σ vs) H' fun σ2 H2 => wipe σ2 vs = wipe σ vs ∧ tt σ2 H2 fun b H3 => if b = true then te σ2 H3 fun y H4 => ∃ acc, H4 D = some (.lst acc) ∧ acc.length < sizeLine ∧ Nx (upd H4 D (.lst (acc ++ [y]))) else Nx H3) := by
  refine ⟨fun i m H => m + i = n ∧ Pv i H, ⟨n, by omega, first⟩, ?_⟩
  intro i m H hw
  obtain ⟨e, p⟩ := hw
  by_cases c : i < n
  · exact .inr ⟨(can i H p).1 c, Pv (i + 1), fun H' p' => ⟨n - (i + 1), by omega, by omega, p'⟩, fun v H' y => turn i H v H' c p y⟩
  · have z : i = n := by omega
    exact .inl ⟨(can i H p).2 z, last H (z ▸ p)⟩
section
variable {K : PySem.W.Frag} {a b : Addr} {xs ys : List V}
theorem canL {H : Hp} {i : Nat} (l : xs.length = ys.length) (x : SqL K H a xs) (y : SqL K H b ys) : (i < xs.length → (Itz K a b).go i H) ∧ (i = xs.length → (Itz K a b).stop i H) :=
  ⟨fun c => ⟨xs, ys, _, _, x, y, List.getElem?_eq_getElem c, List.getElem?_eq_getElem (l ▸ c)⟩, fun c => ⟨xs, ys, x, y, .inl (by omega)⟩⟩
theorem canT {H : Hp} {i : Nat} (l : xs.length = ys.length) (x : SqT K H a xs) (y : SqT K H b ys) : (i < xs.length → (RZ.ItzT K a b).go i H) ∧ (i = xs.length → (RZ.ItzT K a b).stop i H) :=
  ⟨fun c => ⟨xs, ys, _, _, x, y, List.getElem?_eq_getElem c, List.getElem?_eq_getElem (l ▸ c)⟩, fun c => ⟨xs, ys, x, y, .inl (by omega)⟩⟩
end
/-! ### data of short lists -/
mutual
def thin : PyData → Bool
  | .list xs => decide (xs.length ≤ 1000) && thinAll xs
  | .tuple xs => decide (xs.length ≤ 1000) && thinAll xs
  | _ => true
def thinAll : List PyData → Bool
  | [] => true
  | x :: r => thin x && thinAll r
end
theorem thin_at {d : PyData} : ∀ {ds : List PyData} {i : Nat}, thinAll ds = true → ds[i]? = some d → thin d = true
  | e :: r, 0, h, he => by
    cases he
    simp only [thinAll, Bool.and_eq_true] at h
    exact h.1
  | e :: r, i + 1, h, he => by
    simp only [thinAll, Bool.and_eq_true] at h
    exact thin_at (i := i) h.2 he
theorem depth_at {d : PyData} : ∀ {ds : List PyData} {i : Nat}, ds[i]? = some d → PyData.depth d ≤ PyData.depthAll ds
  | e :: r, 0, he => by
    cases he
    simp only [PyData.depthAll]
    omega
  | e :: r, i + 1, he => by
    have := depth_at (i := i) (ds := r) he
    simp only [PyData.depthAll]
    omega
theorem kitLT {K : PySem.W.Frag} (d : PyData) : PySem.W.kitAny K (.type (tyD d)) [.type "list", .type "tuple"] = some (isK "list" d || isK "tuple" d) := by
  unfold PySem.W.kitAny
  rw [kit_d (by decide)]
  cases isK "list" d with
  | true => rfl
  | false =>
    unfold PySem.W.kitAny
    rw [kit_d (by decide)]
    cases isK "tuple" d <;> rfl
theorem qY {c : Prop} [Decidable c] {Q : VK} {H : Hp} (hc : c) (q : Q (.bl true) H) : Q (.bl (decide c)) H := by
  rw [decide_eq_true hc]
  exact q
theorem rep_snoc (i : Nat) : (List.replicate i true).map V.bl ++ [V.bl true] = (List.replicate (i + 1) true).map V.bl := by
  rw [List.map_replicate, List.map_replicate, List.replicate_succ']
/-! ### a caught error that stays tracked behind its suite -/
def ErO (cls : Value) (d : Option Addr) (a : Addr) : HO := .ext fun h => ∃ (oe : Obj) (vs : Array Value), h.get? a = some oe ∧ Zc cls d oe ∧ oe.data = .fields vs
theorem erO_ok {P : Program} {w : World} {H : Hp} {h : Heap} {a : Addr} {cls : Value} {d : Option Addr} {oe : Obj} {vs : Array Value} (e : h.get? a = some oe) (z : Zc cls d oe) (f : oe.data = .fields vs) : ObjOk P w H h a (ErO cls d a) :=
  ⟨⟨oe, vs, e, z, f⟩, ⟨oe, e⟩, fun _ _ ⟨o, v, q, r⟩ k => ⟨o, v, k o q, r⟩⟩
section
variable {X : Cx} {pins : List (Addr × Obj)} {σ : L2.St} {H : Hp} {s : Shared}
/-- an object made since the entry, not tracked so far, is tracked from now on -/
theorem inv_track {a : Addr} {o : HO} (I : Inv X pins σ H s) (n0 : X.s_0.heap.get? a = none) (hn : H a = none) (nL : X.env.locals ≠ a) (nC : ∀ x c, X.env.cells.lookup x = some c → c ≠ a) (nP : ∀ p ∈ X.pn ++ pins, p.1 ≠ a) (new : ObjOk X.prog X.w (upd H a o) s.heap a o) : Inv X pins σ (upd H a o) s := by
  have ne0 : ∀ b ob, X.s_0.heap.get? b = some ob → b ≠ a := fun b ob e z => by
    rw [z, n0] at e
    cases e
  have neS : ∀ b u, H b = some u → b ≠ a := fun b u e z => by
    rw [z, hn] at e
    cases e
  constructor
  case ok => exact I.ok
  case os => exact I.os
  case bare => exact I.bare
  case base =>
    constructor
    case keep => exact I.base.keep
    case slot => exact I.base.slot
    case there => exact I.base.there
    case free =>
      intro b ob e n hx
      rw [upd_ne (ne0 b ob e)]
      exact I.base.free b ob e n hx
    case tups =>
      intro b xs e
      have q := I.base.tups b xs e
      rw [upd_ne (neS b _ q)]
      exact q
    case frzs =>
      intro b ob u e
      have q := I.base.frzs b ob u e
      rw [upd_ne (neS b _ q)]
      exact q
    case tbls =>
      intro b ps e
      obtain ⟨more, q⟩ := I.base.tbls b ps e
      exact ⟨more, by rw [upd_ne (neS b _ q)]; exact q⟩
  case loc => exact I.loc
  case cell => exact I.cell
  case free =>
    rw [upd_ne nL]
    exact I.free
  case freeC =>
    intro x c e
    rw [upd_ne (nC x c e)]
    exact I.freeC x c e
  case pin =>
    intro p hp
    obtain ⟨p1, p2, p3⟩ := I.pin p hp
    exact ⟨p1, by rw [upd_ne (nP p hp)]; exact p2, p3⟩
  case hok =>
    intro b u e
    by_cases hb : b = a
    · subst hb
      rw [upd_same] at e
      cases e
      exact new
    · rw [upd_ne hb] at e
      refine (I.hok b u e).stay (fun _ _ _ q => q) (fun c q => ?_) (fun c xs q => ?_)
      · rw [upd_ne (neS c _ q)]
        exact q
      · rw [upd_ne (neS c _ q)]
        exact q
  case len => exact I.len
end
/-- the wish of a clause whose suite goes on behind: the error stays known -/
def wKeep (K : PySem.W.Frag) (c : Value) (i : Nat) (ts : Addr → Value → Option Addr → TS) (D : Ends) : WX := fun cls d σ H =>
  PySem.W.exmOne K cls c = some true ∧ ∀ a, H a = none → ts a cls d { nx := fun τ G => D.nx (τ.set i none) (upd G a (ErO cls d a)), rt := fun _ _ => False, bk := fun _ _ => False, ct := fun _ _ => False } (σ.set i (some (.ref a))) H
section
variable {X : Cx} {x n : Str} {c : Value} {i : Nat} {body rest : List Stmt} {st0 : Stmt} {np p1 p2 : Pos} {tb : WX → TS} {ts : Addr → Value → Option Addr → TS}
theorem ps_try_keep (hs : X.stack = X.env :: X.outer) (hf : X.env.frame = some X.env.locals) (hx : X.ex = []) (hN : X.N.Nodup) (hi : X.N[i]? = some n) (hl : X.env.kindOf n = some .local) (hc : Names X x c)
    (hb : ∀ (W : WX) (pn : List (Addr × Obj)) (xe : Value → Shared → Prop), Takes (X.tr pn xe) W → PassesOwn (model X.prog X.w) X.A X.env xe → PSs (X.tr pn xe) body (tb W))
    (hsu : ∀ (a : Addr) (ob : Obj) (cls : Value) (d : Option Addr) (pn : List (Addr × Obj)), Zc cls d ob → (∃ vs, ob.data = .fields vs) → PSs (X.suite a ((a, ob) :: pn)) (st0 :: rest) (ts a cls d)) :
    PS X (.Try body [.ExceptHandler (some (.Name x np)) (some n) (st0 :: rest) p1] [] [] p2) (fun D σ H => tb (wKeep X.K c i ts D) D σ H) := by
  constructor
  intro pins s σ H D I h
  have fr : X.A.frames = some (X.env :: X.outer) := hs ▸ I.ok.frames
  refine wpAny_Try_except (wpAny_mono ((hb _ (X.pn ++ pins) _ (fun u s1 air => ?_) PassesOwn.looking).run [] s σ H D (I.toTry _) h) (fun fl s1 end1 => ?_) (fun _ _ z => z))
  · obtain ⟨a, B, s2, _, τ, G, cls, d, rfl, J0, ground, ups, sky, na, os, bare, yes, go⟩ := air
    have J : Inv X pins τ G s2 := J0.ofTry I.ok
    have sky1 : Sky B (X.env :: X.outer) a (Zc cls d) X.env.locals s1.heap := hs ▸ sky
    show wpAny (model X.prog X.w) X.A (noteFrame (.ref a) X.env) _ _ _
    refine Sky.land Zc.steady fr hf sky1 fun g1 fly1 up1 => ?_
    have J1 : Inv X pins τ G { s1 with heap := g1 } := J.landed ground fly1.1 (ups.trans up1) os bare
    obtain ⟨ob1, vs1, at1, z1, d1⟩ := fly1.there
    have nfr : a ∉ frs (X.env :: X.outer) := fun hm => by
      obtain ⟨_, o', e', nd⟩ := fly1.2.2.1.mem hm
      rw [at1] at e'
      cases e'
      exact nd _ d1
    have nL : X.env.locals ≠ a := fun z => nfr (by rw [← z]; exact List.mem_filterMap.mpr ⟨X.env, List.mem_cons_self, hf⟩)
    have nF : a ∉ X.fs := fun hm => by
      obtain ⟨e, he, q⟩ := List.mem_filterMap.mp hm
      exact nfr (List.mem_filterMap.mpr ⟨e, List.mem_cons_of_mem _ he, q⟩)
    have off : ∀ b, b ≠ X.env.locals → b ∉ X.fs → b ∉ frs X.stack := fun b h1 h2 hm => (List.mem_cons.mp (J.stkSub b hm)).elim h1 h2
    have nB : B.get? a = none := fly1.2.1
    have nI : s2.heap.get? a = none := by
      cases q : s2.heap.get? a with
      | none => rfl
      | some o =>
        have := ground a o q (off a nL.symm nF)
        rw [nB] at this
        cases this
    have n0 : X.s_0.heap.get? a = none := by
      cases q : X.s_0.heap.get? a with
      | none => rfl
      | some o =>
        obtain ⟨o', q'⟩ := J.base.there a o q (by rw [hx]; exact fun z => nomatch z)
        rw [nI] at q'
        cases q'
    have nP : ∀ p ∈ X.pn ++ pins, p.1 ≠ a := fun p hp z => by
      have := (J.pin p hp).1
      rw [z, nI] at this
      cases this
    have T1 := J1.suite at1 d1 na nL.symm nF
    refine wpAny_handleBy_cons (codeAny_handlers_test ?_) (fun q => nomatch q)
    have kind : PySem.W.Looks (model X.prog X.w) g1 (typeOf (.ref a)) cls := fun A' Q' E' s' k q => wpAny_typeOf_ref (k _ _ at1) (by rw [z1.1]; exact q)
    have hit := PySem.W.exm_one (M := model X.prog X.w) J1.kIn kind yes
    have named : ∀ {Q' : Value → Shared → Prop} {E' : Value → Shared → Prop}, Q' c { s1 with heap := g1 } → wpAny (model X.prog X.w) (X.A.mark (some (.ref a))) (eval (.Name x np) X.env) Q' E' { s1 with heap := g1 } := by
      intro Q' E' q
      obtain ⟨hg, hdb, hm | ⟨hm, hv, hnn⟩⟩ := hc
      · exact ld_glob (X := X.suite a ((a, ob1) :: (X.pn ++ pins))) T1 hg hm q hdb
      · exact ld_blt (X := X.suite a ((a, ob1) :: (X.pn ++ pins))) T1 hg hm hv q hnn hdb
    refine named (hit.here (codeAny_handlers_suite_as (HandSPX.lands_againZ fly1 fun g2 fly2 up2 => ?_)))
    have J2 : Inv X pins τ G { s1 with heap := g2 } := J.landed ground fly2.1 ((ups.trans up1).trans up2) os bare
    obtain ⟨ob2, vs2, at2, z2, d2⟩ := fly2.there
    refine store_ok (X := X.suite a ((a, ob2) :: (X.pn ++ pins))) (v := .ref a) (J2.suite at2 d2 na nL.symm nF) hN hi (.inl hl) rfl (fun s3 T3 => ?_) (.inr hl)
    refine wpAny_mono ((hsu a ob2 cls d (X.pn ++ pins) z2 ⟨_, d2⟩).run [] s3 _ G _ T3 (go a na)) (fun fl s4 end4 => ?_) (fun _ _ z => z.elim)
    cases fl with
    | next =>
      obtain ⟨τ4, G4, T4, q4⟩ := end4
      obtain ⟨at4, free4, _⟩ := T4.pin (a, ob2) (List.mem_append.mpr (.inl List.mem_cons_self))
      have nC : ∀ y c', X.env.cells.lookup y = some c' → c' ≠ a := fun y c' e z => by
        obtain ⟨v, o, ho, hd⟩ := T4.cell y c' e
        rw [z, at4] at ho
        cases ho
        rw [d2] at hd
        cases hd
      exact gone_ok (inv_track (o := ErO cls d a) (T4.unsuite I.ok) n0 free4 nL nC nP (erO_ok at4 z2 d2)) hN hi hl fun s5 J5 => ⟨_, _, J5, q4⟩
    | brk =>
      obtain ⟨_, _, _, z⟩ := end4
      exact z.elim
    | cont =>
      obtain ⟨_, _, _, z⟩ := end4
      exact z.elim
    | ret u =>
      obtain ⟨_, _, _, _, _, z⟩ := end4
      exact z.elim
  · cases fl with
    | next =>
      obtain ⟨τ, G, J, q⟩ := end1
      exact wpAny_execs_nil ⟨τ, G, J.ofTry I.ok, q⟩
    | brk =>
      obtain ⟨τ, G, J, q⟩ := end1
      exact ⟨τ, G, J.ofTry I.ok, q⟩
    | cont =>
      obtain ⟨τ, G, J, q⟩ := end1
      exact ⟨τ, G, J.ofTry I.ok, q⟩
    | ret u =>
      obtain ⟨v, τ, G, J, r, q⟩ := end1
      exact ⟨v, τ, G, J.ofTry I.ok, r, q⟩
end
/-! ### isinstance of such an error -/
section
variable {K : PySem.W.Frag}
theorem er_at {X : Cx} {pins : List (Addr × Obj)} {σ : L2.St} {H : Hp} {s : Shared} {a D : Addr} (I : Inv X pins σ H s) (h : H a = some (ErO (.ref D) none a)) : ∃ oe, PySem.W.InstAt s.heap a oe D none := by
  obtain ⟨⟨oe, vs, e, z, f⟩, _⟩ := I.hok a _ h
  refine ⟨oe, ?_⟩
  obtain ⟨oc, od, oda, osl⟩ := oe
  obtain ⟨z1, z2⟩ := z
  dsimp only at z1 z2 f
  subst z1 z2 f
  exact ⟨e, rfl, rfl, trivial⟩
def rIsEr (K : PySem.W.Frag) : List V → Hp → VK → Prop := fun xs H Q => ∃ (a D : Addr) (c : V) (cv : Value) (b : Bool), xs = [.ref a, c] ∧ ExcC K D ∧ H a = some (ErO (.ref D) none a) ∧ (∀ u, RelV c u → u = cv) ∧ PySem.W.kitOne K (.ref D) cv = some b ∧ Q (.bl b) H
theorem call_isEr {X : Cx} : CallR X (.builtin "isinstance") (rIsEr X.K) := by
  intro pins s σ H xs us Q I r h
  obtain ⟨a, D, c, cv, b, rfl, C, ha, hcv, e, q⟩ := h
  cases r with
  | cons rx rr =>
    cases rr with
    | cons rt rr =>
      cases rr
      cases rx
      have ec := hcv _ rt
      subst ec
      obtain ⟨oe, J⟩ := er_at I ha
      exact PySem.W.kia_one (PySem.W.handS_kitx_exc C.hg C.hk C.hs C.hd C.ha C.hn C.ht C.hm) I.kIn J e (fun z => nomatch z) fun tk => ⟨.bl b, H, I.kept (t' := tk) fun _ _ z => z, rfl, q⟩
def rIsErT (K : PySem.W.Frag) : List V → Hp → VK → Prop := fun xs H Q => ∃ (a D tp : Addr) (cs : List Addr) (b : Bool), xs = [.ref a, .ref tp] ∧ ExcC K D ∧ H a = some (ErO (.ref D) none a) ∧ SqT K H tp (cs.map V.ref) ∧ PySem.W.kitAny K (.ref D) (cs.map Value.ref) = some b ∧ Q (.bl b) H
theorem vals_refs : ∀ {cs : List Addr} {us : List Value}, Vals (cs.map V.ref) us → us = cs.map Value.ref
  | [], _, .nil => rfl
  | c :: r, _, .cons e h => by
    cases e
    rw [vals_refs h]
    rfl
theorem call_isErT {X : Cx} : CallR X (.builtin "isinstance") (rIsErT X.K) := by
  intro pins s σ H xs us Q I r h
  obtain ⟨a, D, tp, cs, b, rfl, C, ha, hT, e, q⟩ := h
  cases r with
  | cons rx rr =>
    cases rr with
    | cons rt rr =>
      cases rr
      cases rx
      cases rt
      obtain ⟨its, rv, ⟨⟨cls, dd, data, sl⟩, ho, hc, n, hd⟩, _⟩ := I.tuple hT
      simp only at hc hd
      subst hc hd
      have ev := vals_refs rv
      subst ev
      obtain ⟨oe, J⟩ := er_at I ha
      exact PySem.W.kia_tup (PySem.W.handS_kitx_exc C.hg C.hk C.hs C.hd C.ha C.hn C.ht C.hm) I.kIn J ho e (fun z => nomatch z) fun tk => ⟨.bl b, H, I.kept (t' := tk) fun _ _ z => z, rfl, q⟩
theorem kk_isEr (K : PySem.W.Frag) {X : Cx} (h : X.K = K := by rfl) : CallR X (.builtin "isinstance") (rIsEr K) := h ▸ call_isEr
theorem kk_isErT (K : PySem.W.Frag) {X : Cx} (h : X.K = K := by rfl) : CallR X (.builtin "isinstance") (rIsErT K) := h ▸ call_isErT
end
/-! ### methods that may raise -/
structure CMx (P : Program) (w : World) (K : PySem.W.Frag) (mg : Str → Option Value) (base : Heap) (C : Addr) (k : Nat) (m : Str) (ps : List Str) (sp : Sp) : Prop where
  ex : ∃ (f : Addr) (fd : FuncData), FnOk P w K mg base (L2.CX P w) k f fd ps sp ∧ Meth K C m f ∧ Binds K fd ps []
def tMethE (C : Addr) (m : Str) (sp : Sp) (E : L2.St → XK) (ta : TE) (t : TA) : TE := fun σ H Q => ta σ H fun x H1 => ∃ (a dx : Addr) (fs : List (Str × V)), x = .ref a ∧ H1 a = some (.ins C dx fs) ∧ fs.lookup m = none ∧ t σ H1 fun vs H2 => sp (x :: vs) H2 Q (E σ)
theorem pe_mtx {X : Cx} {k : Nat} {C : Addr} {m : Str} {ps : List Str} {sp : Sp} {W : WX} {pos apos : Pos} {e o : Expr} {es : List Expr} {ta : TE} {t : TA} {pl : Sem Bool}
    (M : CMx X.prog X.w X.K X.mg X.base C k m ps sp) (c : Cls X.K C) (hr : Room k X.A) (tk : Takes X W) (he : PE X o ta) (ha : PA X (e :: es) t)
    (hst : starEach (e :: es) X.env = (false, eval e X.env) :: starEach es X.env := by rfl) (hpl : (backTo pos (starEach es X.env)).any (·.1) = false := by rfl)
    (ht : eval (.Call (.Attribute o m apos) (e :: es) [] pos) X.env = (do
      let ov ← eval o X.env
      standAt apos.atName
      let (f, first) ← holding [ov] (getMethod ov m pl)
      callWith pos f first (backTo pos (starEach (e :: es) X.env)) (backToKw pos (keywordEach [] X.env))) := by rfl) :
    PE X (.Call (.Attribute o m apos) (e :: es) [] pos) (tMethE C m sp (WE W) ta t) := by
  obtain ⟨f, fd, F, me, b⟩ := M.ex
  constructor
  intro pins s σ H Q I h
  refine PySem.W.methodCall_KW (pl := pl) (thn (he.run pins s σ H _ I h) ?_) ht
  rintro u s1 ⟨x, H1, I1, rx, a, dx, fs, rfl, ea, l, q⟩
  cases (show u = Value.ref a from rx)
  refine getmeth_ok I1 ea c me l ?_
  refine PySem.W.callWith_K (first := [.ref a]) (h₀ := X.base) I.ok.mod.kin me.kp (thn (ha.run pos pins s1 σ H1 _ I1 q) ?_) hst hpl
  rintro us s2 ⟨vs, H2, I2, r, q2⟩
  exact ⟨I2.kIn, run_fnS (E := WE W) (us := .ref a :: us) (vs := .ref a :: vs) F hr b (passAt tk σ) I2 (.cons rfl r) q2⟩
/-! ### an error's own __init__ that hands a text to super().__init__ and keeps one field -/
def supBody (text fld : Str) (p0 p1 p2 p3 p4 p5 q1 q2 q3 q4 : Pos) (kk : Nat) : List Stmt :=
  [.Expr (.Call (.Attribute (.Call (.Name "super" p0) [] [] p1) "__init__" p2) [.Constant (.str text) kk p3] [] p4) p5,
   .Assign [.Attribute (.Name "self" q1) fld q2] (.Name fld q3) q4]
section
variable {CX : CXT} {P : Program} {w : World} {K : PySem.W.Frag} {mg : Str → Option Value} {base : Heap} {k : Nat} {f c cc C : Addr} {qual fld text file : Str} {params : Arguments} {scope : Scope} {dV kV doc pm ct oc ocl ccl : Value} {an od ocd cdd : Option Addr} {osl ocs ccs : Array (Option Value)} {p0 p1 p2 p3 p4 p5 q1 q2 q3 q4 : Pos} {kk : Nat} {ar : Arg} {vs : Array Value} {tf : Tok}
def spSup (C : Addr) (fld : Str) : Sp := fun vs H Q _ => ∃ (a : Addr) (y : V), vs = [.ref a, y] ∧ H a = some (exo a C none) ∧ ∀ dx, H dx = none → dx ≠ a → Q .non (upd (upd H dx (exd dx [(fld, y)])) a (exo a C (some dx)))
theorem cells_cc {s : Shared} {H : Hp} (hn : H cc = none) (hc : s.heap.IsCell cc (some (.ref C))) : NdefX.CellsAt [("__class__", cc)] ["__class__"] [none] s.heap H := by
  have one : ∀ (y : Str) (d : Addr), ([(("__class__" : Str), cc)] : List (Str × Addr)).lookup y = some d → y = "__class__" ∧ d = cc := fun y d e => by
    by_cases h : y = "__class__"
    · subst h
      rw [List.lookup_cons_self] at e
      exact ⟨rfl, (Option.some.inj e).symm⟩
    · rw [List.lookup_cons, beq_false_of_ne h] at e
      cases e
  refine ⟨rfl, fun y d e => ?_, fun x y d e1 e2 => ?_, fun i y e => ?_⟩
  · rw [(one y d e).2]
    exact ⟨hn, _, hc⟩
  · rw [(one x d e1).1, (one y d e2).1]
  · have hi : i < 1 := (List.getElem?_eq_some_iff.mp e).1
    have hi : i = 0 := by omega
    subst hi
    cases e
    exact ⟨cc, List.lookup_cons_self, fun v z => by cases z⟩
theorem sup_fn (lk : K.lookup f = some ⟨oc, od, .func (PySem.W.fnX "__init__" qual params (supBody text fld p0 p1 p2 p3 p4 p5 q1 q2 q3 q4 kk) scope [("__class__", cc)] dV kV doc pm an (.ref c) ct), osl⟩) (hcd : PySem.W.codeIn K (.ref c) qual = true)
    (S : NdefX.NScope ["self", fld, "__class__"] ["self", fld] ["__class__"] scope) (T : OexC K C) (hno : PySem.W.findIn K (.ref C) fld = some none)
    (hcell : K.lookup cc = some ⟨ocl, ocd, .cell (some (.ref C)), ocs⟩) (hcode : K.lookup c = some ⟨ccl, cdd, .fields vs, ccs⟩) (hvs : vs[2]? = some (.str file tf)) (hfile : ((P.main.file : Str) == file) = true)
    (hsup : mg "super" = none) (htop : (P.main.scope.names.lookup ("super" : Str)).isSome = false) (hks : scope.names.lookup ("super" : Str) = some .globalImplicit)
    (hpar : (params.posonlyargs ++ params.args).head? = some ar) (har : ar.arg = "self") (hop : PySem.W.nsIn K PySem.cStatics "thirdparty.any" = some none)
    (hev : ∀ env : Env, ∃ pl : Sem Bool, eval (.Call (.Attribute (.Call (.Name "super" p0) [] [] p1) "__init__" p2) [.Constant (.str text) kk p3] [] p4) env = (do
      let ov ← attributeBase (.Call (.Name "super" p0) [] [] p1) "__init__" env (eval (.Call (.Name "super" p0) [] [] p1) env)
      standAt p2.atName
      let (g, first) ← holding [ov] (getMethod ov "__init__" pl)
      callWith p4 g first (backTo p4 (starEach [.Constant (.str text) kk p3] env)) []))
    (hf1 : (fld == ("__debug__" : Str)) = false) (hf2 : (fld == ("__classdict__" : Str)) = false)
    (hsi : PySem.W.ks_superIn K C C "__init__" = some (some (.builtin "ValueError.__init__"))) :
    FnOk P w K mg base CX (k + 1) f (PySem.W.fnX "__init__" qual params (supBody text fld p0 p1 p2 p3 p4 p5 q1 q2 q3 q4 kk) scope [("__class__", cc)] dV kV doc pm an (.ref c) ct) ["self", fld] (spSup C fld) := by
  refine ⟨fun vs H Q E h => ?_, fun A outer s H args us vs' Q E hr e0 hb r hsp => ?_⟩
  · obtain ⟨a, y, rfl, _⟩ := h
    rfl
  obtain ⟨a, y, rfl, ha, q⟩ := hsp
  obtain ⟨u, rfl, ry⟩ : ∃ u, us = [.ref a, u] ∧ RelV y u := by
    cases r with
    | cons r1 r =>
      cases r with
      | cons r2 r =>
        cases r
        cases r1
        exact ⟨_, rfl, r2⟩
  have KX : K.In s.heap := e0.mod.kin.keeps fun b o e => (e0.bs b o e).1
  have lim : s.heap.NoLimit := e0.mod.nolimit.keeps fun b o e => (e0.bs b o e).1
  obtain ⟨F, hF⟩ : ∃ F : NdefX.NF, F = ⟨"__init__", qual, params, supBody text fld p0 p1 p2 p3 p4 p5 q1 q2 q3 q4 kk, scope, [("__class__", cc)], c⟩ := ⟨_, rfl⟩
  have CA : NdefX.CellsAt F.cl ["__class__"] [none] s.heap H := by
    rw [hF]
    exact cells_cc (e0.bs _ _ (e0.mod.kin _ _ hcell)).2 ⟨_, KX _ _ hcell, rfl⟩
  have S' : NdefX.NScope ["self", fld, "__class__"] ["self", fld] ["__class__"] F.scope := by rw [hF]; exact S
  refine PySem.ks_codeAny_call_defAt (body := supBody text fld p0 p1 p2 p3 p4 p5 q1 q2 q3 q4 kk) (binds := (["self", fld] : List Str).zip [.ref a, u]) hr.depth (KX _ _ lk) rfl lim (PySem.W.codeRec_of KX hcd) rfl hb S.nocell (fun x hx => S.par _ (List.of_mem_zip hx).1) (fun h₁ hns hk₁ => ?_) S.co S.gen S.kind
  have I := NdefX.inv_startN (CX := CX) (f := f) (E := E) (tk := s.toks + ((["self", fld] : List Str).zip [Value.ref a, u]).length) S' hr.hd e0 rfl r CA hns hk₁
  subst hF
  have KX1 : K.In h₁ := KX.keeps hk₁
  obtain ⟨nm, qn, N, bs, bm, sn, sub, ab, col, dd, k0, k1, k2, k3, k5, hC, hbm⟩ := T.cls
  have hcl : PySem.W.clsIn K C = some { name := nm, bases := bs, mro := .ref C :: bm, ns := N, qualname := qn, hasDict := true, slotNames := sn, subclasses := sub, abstract := ab, collection := col, hasDel := false } := by
    unfold PySem.W.clsIn
    rw [hC]
  obtain ⟨t1, hx1⟩ := exo_at I.hok ha
  have hint : interactive (callEnv (PySem.W.fnX "__init__" qual params (supBody text fld p0 p1 p2 p3 p4 p5 q1 q2 q3 q4 kk) scope [("__class__", cc)] dV kV doc pm an (.ref c) ct) s.heap.objs.size f) = false := by
    unfold interactive
    rw [show (callEnv (PySem.W.fnX "__init__" qual params (supBody text fld p0 p1 p2 p3 p4 p5 q1 q2 q3 q4 kk) scope [("__class__", cc)] dV kV doc pm an (.ref c) ct) s.heap.objs.size f).scope.kind = .function from S.kind]
    rfl
  obtain ⟨pl, hev⟩ := hev (callEnv (PySem.W.fnX "__init__" qual params (supBody text fld p0 p1 p2 p3 p4 p5 q1 q2 q3 q4 kk) scope [("__class__", cc)] dV kV doc pm an (.ref c) ct) s.heap.objs.size f)
  refine PySem.ks_wpAt_execs_cons (PySem.ks_wpAt_Expr_any (PySem.ks_wpAt_MethodCall (pl := pl) ?_ hev) hint)
  refine PySem.ks_wpAt_super_base hks (S.frk _ (List.mem_singleton_self _)) (by decide) rfl (KX1 _ _ lk) rfl hpar rfl (KX1 _ _ hcode) rfl hvs hfile htop ?_
  obtain ⟨mb, g1, g2⟩ := I.mod.blt
  refine PySem.W.ks_loadName_global S.kind hks (Calls.loadGlobal_builtin (I.mod.glob.keeps I.bk) hsup (g1.keeps I.bk) ((g2 "super" (by decide)).trans (by rfl)) ⟨rfl, ?_⟩)
  refine wpAny_loadName_free S.kind (S.frk _ (List.mem_singleton_self _)) List.lookup_cons_self ⟨_, KX1 _ _ hcell, rfl⟩ ?_
  have hself : scope.names.lookup ar.arg = some .local := by
    rw [har]
    exact S.par _ List.mem_cons_self
  have hmself : ((["self", fld] : List Str).zip [Value.ref a, u]).reverse.lookup ar.arg = some (.ref a) := by
    rw [har]
    have nd := S.nd
    have ne : (("self" : Str) == fld) = false := beq_false_of_ne (fun z => by
      rw [← z] at nd
      exact absurd nd (by decide))
    show List.lookup (Str.ofString "self") ([((fld : Str), u), (Str.ofString "self", Value.ref a)] : List (Str × Value)) = _
    rw [List.lookup_cons, ne, List.lookup_cons_self]
  refine wpAny_loadName_local S.kind hself hns hmself ?_
  refine PySem.ks_wpAny_isType_cls (KX1 _ _ hC) rfl ⟨rfl, ?_⟩
  have hsubC : PySem.W.mroIn K C (.ref C) = some true := by
    unfold PySem.W.mroIn
    rw [hcl]
    simp
  have hsubV : PySem.W.mroIn K C (.type "ValueError") = some true := by
    unfold PySem.W.mroIn
    rw [hcl]
    have : (Value.ref C :: bm).contains (.type "ValueError") = true := by
      rw [PySem.HandSPX.refsVE_contains "ValueError" (Value.ref C :: bm) hbm]
      decide +kernel
    simpa using this
  refine PySem.ks_wpAny_call_super (KX1 _ _ hC) rfl hx1 rfl (fun c z => nomatch z) (PySem.W.looks_mroIn KX1 hsubC) (fun h2 e2 k2 => ?_)
  have KX2 : K.In h2 := KX1.keeps k2
  have hx2 := k2 _ _ hx1
  have aC : a ≠ C := fun z => by
    have := (e0.bs _ _ (e0.mod.kin _ _ hC)).2
    rw [← z, ha] at this
    cases this
  have hal : PySem.W.alongIn K "__init__" bm = some (some (.builtin "ValueError.__init__")) := by
    unfold PySem.W.ks_superIn at hsi
    rw [hcl] at hsi
    simpa [List.dropWhile_cons] using hsi
  have hinst : PySem.W.InstAt h2 a { cls := .ref C, dict := none, data := .fields #[.ref t1, .none, .none, .none, .bool false, .none] } C none := ⟨hx2, rfl, rfl, trivial⟩
  refine PySem.W.kxs_getMethod PySem.W.kxs_ValueError e2 (PySem.W.looks_opaque KX2 hop) (l₀ := .ref C :: bm) (l := bm) ((PySem.W.looks_clsIn KX2 hcl).andThen .now) (by simp [List.dropWhile_cons]) KX2 hal (hinst.type.andThen (PySem.W.looks_mroIn KX2 hsubV)) aC (by decide) ?_
  have hu : (h2.push (PySem.W.kxs_mw "ValueError.__init__" a)).get? h2.objs.size = some (PySem.W.kxs_mw "ValueError.__init__" a) := Heap.get?_push_at rfl rfl
  have k3 : ∀ b o, h2.get? b = some o → (h2.push (PySem.W.kxs_mw "ValueError.__init__" a)).get? b = some o := fun b o e => Heap.get?_push_of_some _ e
  refine PySem.W.kxs_callWith (i := "ValueError.__init__") (x := a) (by rfl) (Calls.evalArgs_plain ?_)
  wp_walk
  have hx3 := k3 _ _ hx2
  have k13 : ∀ b o, h₁.get? b = some o → (h2.push (PySem.W.kxs_mw "ValueError.__init__" a)).get? b = some o := fun b o e => k3 b o (k2 b o e)
  have J := I.kept (t' := s.toks + ((["self", fld] : List Str).zip [Value.ref a, u]).length + 1 + 1) k13
  have hC3 := KX1.keeps k13 _ _ hC
  generalize h2.push (PySem.W.kxs_mw "ValueError.__init__" a) = h3 at *
  refine ⟨hu, wpAny_call (codeAny_of_tree ?_)⟩
  show wpAny _ (Around.in1 _) (callAny (.ref h2.objs.size) ⟨[.str text _], []⟩) _ _ _
  simp only [callAny]
  refine wpAny_bind (wpAny_load hu (?_ : _)); simp only [PySem.W.kxs_mw, show (Value.type "method-wrapper" == Value.type "method" || Value.type "method-wrapper" == Value.type "builtin_function_or_method" || Value.type "method-wrapper" == Value.type "method-wrapper") = true by decide, if_true]
  refine PySem.W.KFB.if_so (by decide) (wpAny_bind (PySem.W.check_bound_init F.excBase_ValueError.toExcCallFacts hC3 hx3 rfl (wpAny_bind (wpAny_pure (wpAny_pure ?_)))))
  refine ⟨plainId_quiet F.excBase_ValueError.init.plain _, codeAny_builtin F.excBase_ValueError.initEntry (PySem.W.exc_init_tree (cls := .ref C) (t0 := t1) (dv := none) (c2 := .none) (c3 := .none) (b4 := .bool false) hx3 (by show 1 ≤ sizeLine; decide) fun h4 k4 e4 _ => ?_)⟩
  have J4 := J.write (t' := s.toks + ((["self", fld] : List Str).zip [Value.ref a, u]).length + 1 + 1) (x := a) (e := a) (o := exo a C none) (by rw [ha]; exact True.intro) (.inl rfl) k4 ⟨_, e4⟩ (exo_ok e4)
  have eu : upd H a (exo a C none) = H := funext fun b => by
    by_cases hb : b = a
    · rw [hb, upd_same, ha]
    · rw [upd_ne hb]
  rw [eu] at J4
  have last : PSs (NdefX.ncx CX P w K mg base ["self", fld, "__class__"] ⟨"__init__", qual, params, supBody text fld p0 p1 p2 p3 p4 p5 q1 q2 q3 q4 kk, scope, [("__class__", cc)], c⟩ f A outer s H E) [.Assign [.Attribute (.Name "self" q1) fld q2] (.Name fld q3) q4] (tOst K fld (tVar 0) (tVar 1)) := by
    refine pss_one (ps_ost (pv 0 rfl (.inl (S.par _ List.mem_cons_self))) (pv 1 rfl (.inl (S.par _ (List.mem_cons_of_mem _ (List.mem_singleton_self _)))) hf1 hf2))
  refine wpAt_of_wpAny (wpAny_mono (last.run [] _ _ H { nx := fun _ H' => Q .non H', rt := Q } J4 ?_) (fun fl s' hs => ?_) fun e s' hs => hs)
  · exact ⟨_, rfl, _, rfl, a, C, rfl, T, hno, .inl ⟨ha, fun dx hdx ne => q dx hdx ne⟩⟩
  have fin : ∀ {σ' : L2.St} {H' : Hp} {v : V} {u : Value}, Inv (NdefX.ncx CX P w K mg base ["self", fld, "__class__"] ⟨"__init__", qual, params, supBody text fld p0 p1 p2 p3 p4 p5 q1 q2 q3 q4 kk, scope, [("__class__", cc)], c⟩ f A outer s H E) [] σ' H' s' → L2.RelV v u → Q v H' → CE outer P w H s Q u s' := fun {σ' H' v u} Z rv z => ⟨v, H', Z.os, Z.bare, Z.base, Z.hok, rv, z⟩
  cases fl with
  | next =>
    obtain ⟨σ', H', Z, z⟩ := hs
    exact fin (v := V.non) (u := Value.none) Z rfl z
  | ret v =>
    obtain ⟨v', σ', H', Z, rv, z⟩ := hs
    exact fin Z rv z
  | brk =>
    obtain ⟨_, _, _, z⟩ := hs
    exact False.elim z
  | cont =>
    obtain ⟨_, _, _, z⟩ := hs
    exact False.elim z
end
/-! ### defs and constructors that may raise -/
structure CFx (P : Program) (w : World) (K : PySem.W.Frag) (mg : Str → Option Value) (base : Heap) (k : Nat) (x : Str) (ps : List Str) (sp : Sp) : Prop where
  ex : ∃ (f : Addr) (fd : FuncData), FnOk P w K mg base (L2.CX P w) k f fd ps sp ∧ mg x = some (.ref f) ∧ PySem.W.keepIn K (.ref f) = true ∧ Binds K fd ps []
structure CMkx (P : Program) (w : World) (K : PySem.W.Frag) (mg : Str → Option Value) (base : Heap) (C : Addr) (k : Nat) (x : Str) (ps : List Str) (dvs : List V) (sp : Sp) : Prop where
  ex : ∃ (f : Addr) (fd : FuncData) (ds : List Value), FnOk P w K mg base (L2.CX P w) k f fd ps sp ∧ Mk K C f ∧ mg x = some (.ref C) ∧ Vals dvs ds ∧ Binds K fd ps ds
structure CMkk (P : Program) (w : World) (K : PySem.W.Frag) (mg : Str → Option Value) (base : Heap) (C : Addr) (k : Nat) (x : Str) (ps : List Str) (n : Nat) (ks : List Str) (gV : List V → List V → List V) (sp : Sp) : Prop where
  ex : ∃ (f : Addr) (fd : FuncData) (g : List Value → List Value → List Value), FnOk P w K mg base (L2.CX P w) k f fd ps sp ∧ Mk K C f ∧ mg x = some (.ref C) ∧ KBn K fd ps n ks g gV
/-- an error class with an own __init__ of one field -/
structure CEx (P : Program) (w : World) (K : PySem.W.Frag) (mg : Str → Option Value) (base : Heap) (C : Addr) (k : Nat) (x fld : Str) : Prop where
  ex : ∃ (f : Addr) (fd : FuncData), FnOk P w K mg base CX0 k f fd ["self", fld] (spSup C fld) ∧ OexC K C ∧ PySem.W.findIn K (.ref C) "__init__" = some (some (.ref f)) ∧ PySem.W.typeIn K (.ref f) = some (.type "function") ∧ Binds K fd ["self", fld] [] ∧ mg x = some (.ref C)
def tMakeE (C : Addr) (sp : Sp) (dvs : List V) (E : L2.St → XK) (t : TA) : TE := fun σ H Q => t σ H fun vs H1 => ∀ x dx, H1 x = none → H1 dx = none → dx ≠ x → sp (.ref x :: (vs ++ dvs)) (upd (upd H1 dx (.own x)) x (.ins C dx [])) (fun v H2 => v = .non ∧ Q (.ref x) H2) (E σ)
section
variable {X : Cx} {k : Nat} {C : Addr} {x fld : Str} {ps : List Str} {dvs : List V} {sp : Sp} {W : WX} {p pos : Pos} {e : Expr} {es : List Expr} {t : TA}
theorem pe_cfx (F : CFx X.prog X.w X.K X.mg X.base k x ps sp) (hr : Room k X.A) (tk : Takes X W) (hg : Gl X x) (ha : PA X (e :: es) t)
    (hdb : (x == ("__debug__" : Str)) = false := by decide) (he : starEach (e :: es) X.env = (false, eval e X.env) :: starEach es X.env := by rfl) (hpl : (backTo pos (starEach es X.env)).any (·.1) = false := by rfl) :
    PE X (.Call (.Name x p) (e :: es) [] pos) (tCallS sp (WE W) t) := by
  obtain ⟨f, fd, F1, g, kp, b⟩ := F.ex
  exact pe_callS F1 hr hg g kp b (fun σ => passAt tk σ) ha hdb he hpl
theorem never_at {σ : L2.St} : PassesAt (L2.CX X.prog X.w) X σ E0 := fun _ _ _ e s' I c => by
  obtain ⟨_, _, _, _, _, _, _, _, _, _, _, _, z⟩ := c
  exact z.elim
theorem pe_cfn (F : CFx X.prog X.w X.K X.mg X.base k x ps sp) (hr : Room k X.A) (hg : Gl X x) (ha : PA X (e :: es) t)
    (hdb : (x == ("__debug__" : Str)) = false := by decide) (he : starEach (e :: es) X.env = (false, eval e X.env) :: starEach es X.env := by rfl) (hpl : (backTo pos (starEach es X.env)).any (·.1) = false := by rfl) :
    PE X (.Call (.Name x p) (e :: es) [] pos) (tCallS sp (fun _ => E0) t) := by
  obtain ⟨f, fd, F1, g, kp, b⟩ := F.ex
  exact pe_callS F1 hr hg g kp b (fun σ => never_at) ha hdb he hpl
theorem run_mkx {CX : CXT} {f : Addr} {fd : FuncData} {ds : List Value} {E : XK} {pins : List (Addr × Obj)} {σ : L2.St} {H : Hp} {s : Shared} {Q : VK} {us : List Value} {vs : List V} (M : Mk X.K C f) (F : FnOk X.prog X.w X.K X.mg X.base CX k f fd ps sp) (hr : Room (k + 1) X.A) (hb : Binds X.K fd ps ds) (hd : Vals dvs ds) (hx : PassesAt CX X σ E) (I : Inv X pins σ H s) (r : Vals vs us)
    (h : ∀ x dx, H x = none → H dx = none → dx ≠ x → sp (.ref x :: (vs ++ dvs)) (upd (upd H dx (.own x)) x (.ins C dx [])) (fun v H2 => v = .non ∧ Q (.ref x) H2) E) : wpAny (model X.prog X.w) X.A (call (.ref C) us) (EP X pins σ Q) X.xe s := by
  have made := I.made (C := C)
  have big := h (s.heap.objs.size + 1) s.heap.objs.size (I.hok.fresh (Nat.le_add_right _ 1)) (I.hok.fresh (Nat.le_refl s.heap.objs.size)) (Nat.ne_of_lt (Nat.lt_add_one s.heap.objs.size))
  have rel : Vals (V.ref (s.heap.objs.size + 1) :: (vs ++ dvs)) (Value.ref (s.heap.objs.size + 1) :: (us ++ ds)) := .cons rfl (r.append hd)
  have many : (Value.ref (s.heap.objs.size + 1) :: us ++ ds).length = ps.length := (Paired.length rel).symm.trans (F.len _ _ _ _ big)
  have body := F.run _ X.stack _ _ ⟨Value.ref (s.heap.objs.size + 1) :: us, []⟩ (Value.ref (s.heap.objs.size + 1) :: (us ++ ds)) _ _ E (hr.make C us []) (made.env0.make C us []) (hb _ (Value.ref (s.heap.objs.size + 1) :: us) made.kIn many) rel big
  refine wpAny_call (make_map (f := f) I.kIn M.makes M.init (beq_iff_eq.mp M.fn) (codeAny_mono body fun res s' fin => ?_))
  match res, fin with
  | .error er, fin => exact hx pins _ _ er s' made fin
  | .ok (.ret u), fin =>
    obtain ⟨v, H', J, rv, ev, qq⟩ := made.after fin
    subst ev
    exact ⟨rv, ⟨V.ref (s.heap.objs.size + 1), H', J, rfl, qq⟩⟩
  | .ok .next, fin => exact fin.elim
  | .ok .brk, fin => exact fin.elim
  | .ok .cont, fin => exact fin.elim
theorem pe_mkx (M : CMkx X.prog X.w X.K X.mg X.base C k x ps dvs sp) (hr : Room (k + 1) X.A) (tk : Takes X W) (hg : Gl X x) (ha : PA X (e :: es) t)
    (hdb : (x == ("__debug__" : Str)) = false := by decide) (he : starEach (e :: es) X.env = (false, eval e X.env) :: starEach es X.env := by rfl) (hpl : (backTo pos (starEach es X.env)).any (·.1) = false := by rfl) :
    PE X (.Call (.Name x p) (e :: es) [] pos) (tMakeE C sp dvs (WE W) t) := by
  obtain ⟨f, fd, ds, F, mk, g, vd, b⟩ := M.ex
  constructor
  intro pins s σ H Q I h
  refine wpAny_Call_Name_kw (ld_glob I hg g (PySem.W.callWith_K (h₀ := X.base) I.ok.mod.kin mk.kp (thn (ha.run pos pins s σ H _ I h) fun us s1 ⟨vs, H1, I1, r, q⟩ => ⟨I1.kIn, run_mkx mk F hr b vd (passAt tk σ) I1 r q⟩) he hpl) hdb)
theorem never_all : Passes (L2.CX X.prog X.w) X E0 := fun _ _ _ _ e s' I c => by
  obtain ⟨_, _, _, _, _, _, _, _, _, _, _, _, z⟩ := c
  exact z.elim
theorem pe_mkn (M : CMkx X.prog X.w X.K X.mg X.base C k x ps dvs sp) (hr : Room (k + 1) X.A) (hg : Gl X x) (ha : PA X (e :: es) t)
    (hdb : (x == ("__debug__" : Str)) = false := by decide) (he : starEach (e :: es) X.env = (false, eval e X.env) :: starEach es X.env := by rfl) (hpl : (backTo pos (starEach es X.env)).any (·.1) = false := by rfl) :
    PE X (.Call (.Name x p) (e :: es) [] pos) (tMake C sp dvs E0 t) := by
  obtain ⟨f, fd, ds, F, mk, g, vd, b⟩ := M.ex
  exact pe_make mk F hr hg g b vd never_all ha hdb he hpl
theorem pe_mkk {n : Nat} {ks : List Str} {gV : List V → List V → List V} {kws : List Keyword} {tk : TA} (M : CMkk X.prog X.w X.K X.mg X.base C k x ps (n + 1) ks gV sp) (hr : Room (k + 1) X.A) (hg : Gl X x) (ha : PA X (e :: es) t) (hkw : PK X kws tk)
    (hall : (backToKw pos (keywordEach kws X.env)).all (·.1.isSome) = true := by rfl) (hks : (backToKw pos (keywordEach kws X.env)).filterMap (·.1) = ks := by rfl)
    (hdb : (x == ("__debug__" : Str)) = false := by decide) (he : starEach (e :: es) X.env = (false, eval e X.env) :: starEach es X.env := by rfl)
    (hpl : ((backTo pos (starEach (e :: es) X.env)).any (·.1) || (backToKw pos (keywordEach kws X.env)).any (·.1.isNone)) = false := by rfl) :
    PE X (.Call (.Name x p) (e :: es) kws pos) (tMakeN C n ks.length sp gV E0 t tk) := by
  obtain ⟨f, fd, gg, F, mk, g, b⟩ := M.ex
  exact pe_makeN mk F hr hg g b never_all ha hkw hall hks hdb he hpl
theorem pmk_cex (F : CEx X.prog X.w X.K X.mg X.base C k x fld) (hr : Room (k + 1) X.A) (hg : Gl X x) (ha : PA X (e :: es) t)
    (hdb : (x == ("__debug__" : Str)) = false := by decide) (he : starEach (e :: es) X.env = (false, eval e X.env) :: starEach es X.env := by rfl) (hpl : (backTo pos (starEach es X.env)).any (·.1) = false := by rfl) :
    PMk X (.Call (.Name x p) (e :: es) [] pos) (tMkO C (spSup C fld) [] t) := by
  obtain ⟨f, fd, F1, T, iC, tI, b, g⟩ := F.ex
  exact pmk_oex T iC tI F1 hr b .nil pass0 hg g ha hdb he hpl
end
/-! ### a kept error with its dict -/
section
variable {K : PySem.W.Frag}
theorem er_atD {X : Cx} {pins : List (Addr × Obj)} {σ : L2.St} {H : Hp} {s : Shared} {a D dx : Addr} {fs : List (Str × V)} (I : Inv X pins σ H s) (h : H a = some (ErO (.ref D) (some dx) a)) (hd : H dx = some (.xd fs)) : ∃ (oe od : Obj), PySem.W.InstAt s.heap a oe D (some od) ∧ ∀ (n : Str) (v : V), fs.lookup n = some v → ∃ u, RelV v u ∧ PySem.W.lookIn n od = some (some u) := by
  obtain ⟨⟨oe, vs, e, z, f⟩, _⟩ := I.hok a _ h
  obtain ⟨mA, hns, hr⟩ := (show ObjOk X.prog X.w H s.heap dx (.xd fs) from I.hok dx _ hd)
  obtain ⟨od, ho, hl⟩ := lookIn_ns hns
  refine ⟨oe, od, ⟨e, z.1, by unfold PySem.W.notCls; rw [f], by rw [z.2]; exact ho⟩, fun n v l => ?_⟩
  obtain ⟨u, hu, ru⟩ := RelO.some_of (v := v) (o := mA n) (by rw [← l]; exact hr n)
  exact ⟨u, ru, (hl n).trans (by rw [hu])⟩
def rIsErD (K : PySem.W.Frag) : List V → Hp → VK → Prop := fun xs H Q => ∃ (a D dx : Addr) (fs : List (Str × V)) (c : V) (cv : Value) (b : Bool), xs = [.ref a, c] ∧ ExcC K D ∧ H a = some (ErO (.ref D) (some dx) a) ∧ H dx = some (.xd fs) ∧ (∀ u, RelV c u → u = cv) ∧ PySem.W.kitOne K (.ref D) cv = some b ∧ Q (.bl b) H
theorem kk_isErD (K : PySem.W.Frag) {X : Cx} (hK : X.K = K := by rfl) : CallR X (.builtin "isinstance") (rIsErD K) := by
  subst hK
  intro pins s σ H xs us Q I r h
  obtain ⟨a, D, dx, fs, c, cv, b, rfl, C, ha, hdx, hcv, e, q⟩ := h
  cases r with
  | cons rx rr =>
    cases rr with
    | cons rt rr =>
      cases rr
      cases rx
      have ec := hcv _ rt
      subst ec
      obtain ⟨oe, od, J, _⟩ := er_atD I ha hdx
      have hcl : (PySem.W.clsIn X.K D).isSome = true := by
        have z := C.hd
        unfold PySem.W.hasDictIn at z
        cases hc : PySem.W.clsIn X.K D with
        | none => rw [hc] at z; cases z
        | some cd => rfl
      exact PySem.W.kia_one (PySem.W.kitx_exc hcl C.hg C.hk C.hs C.ha C.hn C.ht C.hm) I.kIn J e (fun z => nomatch z) fun tk => ⟨.bl b, H, I.kept (t' := tk) fun _ _ z => z, rfl, q⟩
def tErF (C : Addr) (n : Str) (te : TE) : TE := fun σ H Q => te σ H fun x H1 => ∃ (a dx : Addr) (fs : List (Str × V)) (v : V), x = .ref a ∧ H1 a = some (ErO (.ref C) (some dx) a) ∧ H1 dx = some (.xd fs) ∧ fs.lookup n = some v ∧ Q v H1
theorem pe_erF {X : Cx} {C : Addr} {e : Expr} {te : TE} {pos : Pos} {n : Str} (T : XfC X.K C) (hno : PySem.W.findIn X.K (.ref C) n = some none) (he : PE X e te) (hb : attributeBase e n X.env (eval e X.env) = eval e X.env := by rfl) : PE X (.Attribute e n pos) (tErF C n te) := by
  constructor
  intro pins s σ H Q I h
  refine attr_of hb (thn (he.run pins s σ H _ I h) fun u s1 hh => ?_)
  obtain ⟨x, H1, I1, rx, a, dx, fs, v, rfl, ha, hdx, l, q⟩ := hh
  cases (show u = Value.ref a from rx)
  obtain ⟨oe, od, J, look⟩ := er_atD I1 ha hdx
  obtain ⟨w, rw', hw⟩ := look n v l
  exact HandSPX.exc_get I1.kIn J T.ga T.gg T.exC (PySem.W.findObj_own T.hdC hno rfl hw) (handed_of rw') ⟨v, H1, I1.tok _, rw', q⟩
end
/-! ### a tuple no times -/
theorem tuple_mul0 (l : Addr) (items : Array Value) (n : Nat) (dd : Option Addr) (sl : Array (Option Value)) (u : Tok) (hne : items.isEmpty = false) :
    Meets (Builtin.«tuple.__mul__» ⟨[.ref l, .int 0 u], []⟩) (fun _ R s => s.heap.get? l = some { cls := .type "tuple", dict := dd, data := .seq items n, slots := sl } ∧ R (.ok (.ret (Value.ref s.heap.objs.size))) { s with heap := s.heap.push { cls := Value.type "tuple", data := Data.seq #[] }, toks := s.toks }) :=
  .of_wp fun prog w A R s h => by
    obtain ⟨hp, g, d, tk, os⟩ := s
    obtain ⟨hl, h⟩ := h
    have f1 := AutoSeq1.idx_int
    wp_walk using wpAny_loadPart' hl
    exact ⟨_, rfl, h⟩
theorem op_rep0 {X : Cx} : OpR X (binaryOp .Mult) (fun x y H Q => ∃ (l : Addr) (xs : List V), x = .ref l ∧ y = .int 0 ∧ SqT X.K H l xs ∧ xs ≠ [] ∧ ∀ p, H p = none → Q (.ref p) (upd H p (.tup []))) := by
  intro pins s σ H x y v u Q I rx ry h
  obtain ⟨l, xs, rfl, rfl, hT, hne, q⟩ := h
  cases rx
  obtain ⟨t, rfl⟩ := ry
  obtain ⟨its, r, ⟨⟨cls, dd, data, sl⟩, ho, hc, n, hd⟩, hs⟩ := I.tuple hT
  simp only at hc hd
  subst hc hd
  have hi : its.toArray.isEmpty = false := by
    cases its with
    | nil => exact absurd (List.eq_nil_of_length_eq_zero (r.length.trans rfl)) hne
    | cons a b => rfl
  refine wpAny_binaryOp_repeat_ref (T := "tuple") (U := "int") (by decide) ⟨_, ho, rfl⟩ (fun s' => typeIs_int s' 0 t) noFill_tuple_mul F.fills_int_mul F.slot_int_rmul repeat_tuple F.slot_int_index.lookup
    (call_meets F.slot_int_rmul (typeIs_int s 0 t) F.entry_int_rmul (F.args_int_rmul_2 _ _) (int_rmul_tuple 0 t l its.toArray n dd sl)
      ⟨ho, rfl, ⟨_, ho, rfl⟩, call_meets F.slot_tuple_mul ⟨_, ho, rfl⟩ F.entry_tuple_mul (F.args_tuple_mul_2 _ _) (tuple_mul0 l its.toArray n dd sl t hi) ⟨ho, ?_⟩⟩)
  refine ⟨.ref s.heap.objs.size, upd H s.heap.objs.size (.tup []), I.laid (t' := s.toks) (fun b u e => Heap.get?_push_of_some _ e) (Nat.le_refl _) ?_, rfl, q _ (I.hok.fresh (Nat.le_refl _))⟩
  exact ⟨(by show 0 ≤ sizeLine; decide), [], .nil, ⟨_, Heap.get?_push_size _ rfl, rfl, _, rfl⟩⟩
def rRepB (K : PySem.W.Frag) : R2 := fun x y H Q => rRepA K x y H Q ∨ ∃ (l : Addr) (xs : List V), x = .ref l ∧ y = .int 0 ∧ SqT K H l xs ∧ xs ≠ [] ∧ ∀ p, H p = none → Q (.ref p) (upd H p (.tup []))
theorem kk_repB (K : PySem.W.Frag) {X : Cx} (h : X.K = K := by rfl) : OpR X (binaryOp .Mult) (rRepB K) := by
  subst h
  exact OpR.or (kk_repA X.K) op_rep0
/-- a tuple of one number so many times -/
theorem rep_t {K : PySem.W.Frag} {σ : L2.St} {H : Hp} {Q : VK} {te : TE} {p k : Int} (hte : ∀ (G : Hp) (R : VK), R (.int p) G → te σ G R) (p0 : 0 ≤ p) (p1 : p ≤ 900) (q : ∀ H' u, Same H H' → H u = none → H' u = some (.tup ((List.replicate p.toNat k).map V.int)) → Q (.ref u) H') : tOp (rRepB K) (tTup (tCons (tC (.int k)) tNil)) te σ H Q := by
  refine ⟨(by show 1 ≤ sizeLine; decide), fun u nu => hte _ _ ?_⟩
  by_cases h0 : p = 0
  · subst h0
    refine .inr ⟨u, [.int k], rfl, rfl, SqT.of upd_same, by simp, fun t2 n2 => q _ t2 ((same_new nu).trans (same_new n2)) ?_ upd_same⟩
    by_cases e : t2 = u
    · rw [e]; exact nu
    · rw [upd_ne e] at n2
      exact n2
  by_cases h1 : p = 1
  · subst h1
    exact .inl (.inr ⟨u, [.int k], rfl, rfl, SqT.of upd_same, by simp, q _ u (same_new nu) nu upd_same⟩)
  · refine .inl (.inl ⟨u, p, [.int k], rfl, rfl, SqT.of upd_same, by simp, by omega, by omega, (by show 1 ≤ 1000; decide), fun t2 n2 => q _ t2 ((same_new nu).trans (same_new n2)) ?_ ?_⟩)
    · by_cases e : t2 = u
      · rw [e]; exact nu
      · rw [upd_ne e] at n2
        exact n2
    · rw [upd_same, rep1, List.map_replicate]
def topS (i : Nat) : Stmt := PySem.Challenge.pw_partwares_k06_rules_made_and_refused.main.body.getD i (.Pass ⟨0, 0, 0, 0⟩)
section
variable {P : Program} {w : World} {K : PySem.W.Frag} {mg : Str → Option Value} {base : Heap}
/-! ### is_number_in -/
abbrev s_is_number_in : Stmt := topS 16
abbrev N_is_number_in : List Str := ["thing", "low", "high"]
theorem sc_is_number_in : FnScope N_is_number_in ["thing", "low", "high"] (defScope s_is_number_in) := ⟨rfl, rfl, rfl, by decide +kernel, rfl, by decide +kernel, by decide +kernel⟩
def sp_is_number_in (K : PySem.W.Frag) : Sp := fun vs H Q _ => ∃ (x : V) (d : PyData) (lo hi : Int), vs = [x, .int lo, .int hi] ∧ Dp K H x d ∧ Q (.bl (numIn d lo hi)) H
theorem ok_is_number_in {f : Addr} {fd : FuncData} (F : Fun K "is_number_in" "is_number_in" s_is_number_in f fd) (g : mg "is_number_in" = some (.ref f)) (bd : Binds K fd ["thing", "low", "high"] []) (m_isinstance : mg "isinstance" = none) (m_bool : mg "bool" = none) (m_int : mg "int" = none) : CF P w K mg base 1 "is_number_in" ["thing", "low", "high"] (sp_is_number_in K) := by
  refine ⟨f, fd, F.ok sc_is_number_in (fun vs H Q E h => ?_) (fun cdv A outer s H vs Q E hr h => ?_), g, F.kp, bd⟩
  · first | (obtain ⟨_, rfl, _⟩ := h; rfl) | (obtain ⟨_, _, rfl, _⟩ := h; rfl) | (obtain ⟨_, _, _, rfl, _⟩ := h; rfl) | (obtain ⟨_, _, _, _, rfl, _⟩ := h; rfl) | (obtain ⟨_, _, _, _, _, rfl, _⟩ := h; rfl) | (obtain ⟨_, _, _, _, _, _, rfl, _⟩ := h; rfl) | (obtain ⟨_, _, _, _, _, _, _, rfl, _⟩ := h; rfl) | (obtain ⟨_, _, _, _, _, _, _, _, rfl, _⟩ := h; rfl) | (obtain ⟨_, _, _, _, _, _, _, _, _, rfl, _⟩ := h; rfl) | (obtain ⟨_, _, _, _, _, _, _, _, _, _, rfl, _⟩ := h; rfl) | (obtain ⟨_, _, _, _, _, _, _, _, _, _, _, rfl, _⟩ := h; rfl) | (obtain ⟨_, _, _, _, _, _, _, _, _, _, _, _, rfl, _⟩ := h; rfl) | (obtain ⟨_, _, _, _, _, _, _, _, _, _, _, _, _, rfl, _⟩ := h; rfl) | (obtain ⟨_, _, _, _, _, _, _, _, _, _, _, _, _, _, rfl, _⟩ := h; rfl) | (obtain ⟨_, _, _, _, _, _, _, _, _, _, _, _, _, _, _, rfl, _⟩ := h; rfl)
  · have hu64 := hr.units
    obtain ⟨x, d, lo, hi, rfl, hd, q⟩ := h
    refine ⟨_, (pss_one (ps_ret (pe_and (pe_callB (kk_isi K) (by rfl) m_isinstance (by decide +kernel) (pa_cons (pv 0) (pa_cons (pe_bltn (v := .ty "int") (by rfl) m_int (by decide +kernel) rfl) pa_nil))) (pe_and (pe_not (pe_callB (kk_isi K) (by rfl) m_isinstance (by decide +kernel) (pa_cons (pv 0) (pa_cons (pe_bltn (v := .ty "bool") (by rfl) m_bool (by decide +kernel) rfl) pa_nil)))) (pe_one (pe_chain op_le op_le (pv 1) (pv 0) (pv 2))))))), ?_⟩
    have k1 := kit_d (K := K) (T := "int") (by decide) d
    have k2 := kit_d (K := K) (T := "bool") (by decide) d
    have ty := ty_of_dp hd
    refine ⟨_, rfl, _, _, _, _, _, rfl, .ty _, ty, k1, _, rfl, ?_⟩
    cases hd with
    | int i =>
      refine iteT ⟨_, rfl, _, _, _, _, _, rfl, .ty _, ty, k2, _, rfl, _, rfl, iteT ⟨_, rfl, _, rfl, _, _, rfl, rfl, _, rfl, ?_⟩⟩
      have e : numIn (.int i) lo hi = (decide (lo ≤ i) && decide (i ≤ hi)) := rfl
      rw [e] at q
      by_cases h1 : lo ≤ i
      · rw [decide_eq_true h1] at q ⊢
        exact iteT ⟨_, rfl, _, _, rfl, rfl, q⟩
      · rw [decide_eq_false h1] at q ⊢
        exact iteF q
    | bl b => exact iteT ⟨_, rfl, _, _, _, _, _, rfl, .ty _, ty, k2, _, rfl, _, rfl, iteF q⟩
    | non => exact iteF q
    | str z => exact iteF q
    | lst a b => exact iteF q
    | tup a b => exact iteF q
/-! ### may_be_kept -/
abbrev s_may_be_kept : Stmt := topS 20
abbrev N_may_be_kept : List Str := ["keep", "parts", "percent"]
theorem sc_may_be_kept : FnScope N_may_be_kept ["keep", "parts"] (defScope s_may_be_kept) := ⟨rfl, rfl, rfl, by decide +kernel, rfl, by decide +kernel, by decide +kernel⟩
def sp_may_be_kept (K : PySem.W.Frag) : Sp := fun vs H Q _ => ∃ (x y : V) (d e : PyData), vs = [x, y] ∧ Dp K H x d ∧ Dp K H y e ∧ SeqAt.shaped e = true ∧ (∀ ds, d = .tuple ds → ds.length ≤ 1000) ∧ ∀ H', Same H H' → Q (.bl (keptOk d e)) H'
theorem ok_may_be_kept {f : Addr} {fd : FuncData} (F : Fun K "may_be_kept" "may_be_kept" s_may_be_kept f fd) (g : mg "may_be_kept" = some (.ref f)) (bd : Binds K fd ["keep", "parts"] []) (m_isinstance : mg "isinstance" = none) (m_tuple : mg "tuple" = none) (m_all : mg "all" = none) (m_len : mg "len" = none) (C_is_number_in : CF P w K mg base 1 "is_number_in" ["thing", "low", "high"] (sp_is_number_in K)) : CF P w K mg base 2 "may_be_kept" ["keep", "parts"] (sp_may_be_kept K) := by
  refine ⟨f, fd, F.ok sc_may_be_kept (fun vs H Q E h => ?_) (fun cdv A outer s H vs Q E hr h => ?_), g, F.kp, bd⟩
  · first | (obtain ⟨_, rfl, _⟩ := h; rfl) | (obtain ⟨_, _, rfl, _⟩ := h; rfl) | (obtain ⟨_, _, _, rfl, _⟩ := h; rfl) | (obtain ⟨_, _, _, _, rfl, _⟩ := h; rfl) | (obtain ⟨_, _, _, _, _, rfl, _⟩ := h; rfl) | (obtain ⟨_, _, _, _, _, _, rfl, _⟩ := h; rfl) | (obtain ⟨_, _, _, _, _, _, _, rfl, _⟩ := h; rfl) | (obtain ⟨_, _, _, _, _, _, _, _, rfl, _⟩ := h; rfl) | (obtain ⟨_, _, _, _, _, _, _, _, _, rfl, _⟩ := h; rfl) | (obtain ⟨_, _, _, _, _, _, _, _, _, _, rfl, _⟩ := h; rfl) | (obtain ⟨_, _, _, _, _, _, _, _, _, _, _, rfl, _⟩ := h; rfl) | (obtain ⟨_, _, _, _, _, _, _, _, _, _, _, _, rfl, _⟩ := h; rfl) | (obtain ⟨_, _, _, _, _, _, _, _, _, _, _, _, _, rfl, _⟩ := h; rfl) | (obtain ⟨_, _, _, _, _, _, _, _, _, _, _, _, _, _, rfl, _⟩ := h; rfl) | (obtain ⟨_, _, _, _, _, _, _, _, _, _, _, _, _, _, _, rfl, _⟩ := h; rfl)
  · have hu64 := hr.units
    obtain ⟨x, y, d, e, rfl, hd, he, sh, hz, q⟩ := h
    refine ⟨_, (pss_cons (ps_if (pt_not (pt_val (pe_callB (kk_isi K) (by rfl) m_isinstance (by decide +kernel) (pa_cons (pv 0) (pa_cons (pe_bltn (v := .ty "tuple") (by rfl) m_tuple (by decide +kernel) rfl) pa_nil)))))
         (pss_one (ps_ret (pe_cf C_is_number_in (hr.mono (by decide)) (by rfl) (pa_cons (pv 0) (pa_cons pe_int (pa_cons pe_int pa_nil))))))
         pss_nil)
      (pss_one (ps_ret (pe_and (pe_cmpR (kk_eqD K hu64) (pe_callB (kk_len K) (by rfl) m_len PySem.boot_len (pa_cons (pv 0) pa_nil)) (pv 1) (nomark _)) (pe_one (pe_callB (kk_all K rfl) (by rfl) m_all (by decide +kernel) (pa_cons (pe_lc (own := [("percent", 2)]) (g := (gName 2)) (tt := tYes) rfl sc_may_be_kept.nd (pi_tup (pv 0)) (blkOk_by (own := [("percent", 2)]) (N := N_may_be_kept) (sc := defScope s_may_be_kept) (by decide +kernel)) (fun _ _ _ _ _ => pg_name (i := 2) sc_may_be_kept.nd rfl (Or.inl rfl)) (fun _ _ _ _ _ => pts_nil) (fun _ _ _ _ _ => (pe_cf C_is_number_in (hr.mono (by decide)) (by rfl) (pa_cons (pv 2) (pa_cons pe_int (pa_cons pe_int pa_nil)))))) pa_nil))))))), ?_⟩
    have k1 := kit_d (K := K) (T := "tuple") (by decide) d
    have ty := ty_of_dp hd
    refine ⟨_, rfl, _, _, _, _, _, rfl, .ty _, ty, k1, _, rfl, ?_⟩
    have other : isK "tuple" d = false → keptOk d e = numIn d 0 100 := fun h => by
      cases d with
      | tuple ds => cases h
      | _ => rfl
    cases hd with
    | @tup a xs ds hS hA =>
      refine iteF ?_
      have hlen := dpAll_len hA
      have hl := hz ds rfl
      refine ⟨_, rfl, a, _, rfl, .inr hS, _, rfl, _, _, .int _, he, sh_int _, sh, _, rfl, ?_⟩
      have e2 : keptOk (.tuple ds) e = (PyData.eqv (.int (xs.length : Int)) e && ds.all fun d => numIn d 0 100) := by
        rw [hlen]
        rfl
      rw [e2] at q
      cases hq : PyData.eqv (.int (xs.length : Int)) e with
      | false =>
        rw [hq] at q
        exact iteF (q H (Same.refl H))
      | true =>
        rw [hq] at q
        refine iteT ⟨_, rfl, a, rfl, ⟨_, hS⟩, fun D hD => lc_tup (K := K) (a := a) (xs := xs) (fun i H' => Same H H' ∧ H' D = some (.lst (((ds.take i).map fun d => numIn d 0 100).map V.bl))) ⟨same_new hD, upd_same⟩ (fun i H' _ h => seqT_same h.1 hS) (fun i x H' hx h => ?_) (fun H' h => ?_)⟩
        · obtain ⟨d, hd1, hd2⟩ := dpAll_get hA hx
          have hi : i < ds.length := (List.getElem?_eq_some_iff.mp hd1).1
          refine ⟨rfl, _, rfl, x, d, 0, 100, rfl, dp_same h.1 hd2, _, h.2, ?_, ?_, ?_⟩
          · rw [List.length_map, List.length_map, List.length_take]
            exact small1000 (by omega)
          · exact fun c o e => by
              rw [upd_ne (ne_of_none e hD)]
              exact h.1 _ _ e
          · rw [upd_same, List.take_add_one, hd1, Option.toList_some, List.map_append, List.map_append]
            rfl
        · obtain ⟨s1, h1⟩ := h
          rw [hlen, List.take_of_length_le (Nat.le_refl _)] at h1
          refine ⟨D, _, rfl, SqL.of h1, ?_⟩
          have e3 : (ds.map fun d => numIn d 0 100).all id = ds.all fun d => numIn d 0 100 := by
            rw [List.all_map]
            rfl
          rw [e3]
          exact q _ s1
    | non => exact iteT ⟨_, rfl, _, _, 0, 100, rfl, .non, by rw [← other rfl]; exact q H (Same.refl H)⟩
    | bl b => exact iteT ⟨_, rfl, _, _, 0, 100, rfl, .bl b, by rw [← other rfl]; exact q H (Same.refl H)⟩
    | int i => exact iteT ⟨_, rfl, _, _, 0, 100, rfl, .int i, by rw [← other rfl]; exact q H (Same.refl H)⟩
    | str z => exact iteT ⟨_, rfl, _, _, 0, 100, rfl, .str z, by rw [← other rfl]; exact q H (Same.refl H)⟩
    | lst a b => exact iteT ⟨_, rfl, _, _, 0, 100, rfl, .lst a b, by rw [← other rfl]; exact q H (Same.refl H)⟩
/-! ### wrong_figure -/
abbrev s_wrong_figure : Stmt := topS 19
abbrev N_wrong_figure : List Str := ["parts", "step", "grace", "last", "misses", "keep", "fine", "falls", "back", "checks", "word", "right"]
theorem sc_wrong_figure : FnScope N_wrong_figure ["parts", "step", "grace", "last", "misses", "keep", "fine", "falls", "back"] (defScope s_wrong_figure) := ⟨rfl, rfl, rfl, by decide +kernel, rfl, by decide +kernel, by decide +kernel⟩
def figChecks (d1 d2 d3 d4 d5 d6 d7 d8 d9 : PyData) : List (Str × Bool) :=
  [(Str.ofString "parts", numIn d1 1 6), (Str.ofString "step", numIn d2 1 14), (Str.ofString "grace", numIn d3 0 7), (Str.ofString "last", isK "bool" d4), (Str.ofString "misses", numIn d5 0 2), (Str.ofString "keep", keptOk d6 d1), (Str.ofString "fine", numIn d7 0 100), (Str.ofString "falls", numIn d8 0 30), (Str.ofString "back", numIn d9 0 30)]
def sp_wrong_figure (K : PySem.W.Frag) : Sp := fun vs H Q _ => ∃ (x1 x2 x3 x4 x5 x6 x7 x8 x9 : V) (d1 d2 d3 d4 d5 d6 d7 d8 d9 : PyData), vs = [x1, x2, x3, x4, x5, x6, x7, x8, x9] ∧ (Dp K H x1 d1 ∧ Dp K H x2 d2 ∧ Dp K H x3 d3 ∧ Dp K H x4 d4 ∧ Dp K H x5 d5 ∧ Dp K H x6 d6 ∧ Dp K H x7 d7 ∧ Dp K H x8 d8 ∧ Dp K H x9 d9) ∧ SeqAt.shaped d1 = true ∧ (∀ ds, d6 = .tuple ds → ds.length ≤ 1000) ∧ ∀ H', Same H H' → Q (firstWrong (figChecks d1 d2 d3 d4 d5 d6 d7 d8 d9)) H'
theorem at9_of {HH : Hp} {t1 t2 t3 t4 t5 t6 t7 t8 t9 : Addr} {p1 p2 p3 p4 p5 p6 p7 p8 p9 : Str × Bool} (c1 : HH t1 = some (.tup [.str p1.1, .bl p1.2])) (c2 : HH t2 = some (.tup [.str p2.1, .bl p2.2])) (c3 : HH t3 = some (.tup [.str p3.1, .bl p3.2])) (c4 : HH t4 = some (.tup [.str p4.1, .bl p4.2])) (c5 : HH t5 = some (.tup [.str p5.1, .bl p5.2])) (c6 : HH t6 = some (.tup [.str p6.1, .bl p6.2])) (c7 : HH t7 = some (.tup [.str p7.1, .bl p7.2])) (c8 : HH t8 = some (.tup [.str p8.1, .bl p8.2])) (c9 : HH t9 = some (.tup [.str p9.1, .bl p9.2])) : ∀ (j : Nat) (t : Addr) (p : Str × Bool), [t1, t2, t3, t4, t5, t6, t7, t8, t9][j]? = some t → [p1, p2, p3, p4, p5, p6, p7, p8, p9][j]? = some p → HH t = some (.tup [.str p.1, .bl p.2]) := fun j t p ht hp => by
  match j, ht, hp with
  | 0, ht, hp => cases ht; cases hp; exact c1
  | 1, ht, hp => cases ht; cases hp; exact c2
  | 2, ht, hp => cases ht; cases hp; exact c3
  | 3, ht, hp => cases ht; cases hp; exact c4
  | 4, ht, hp => cases ht; cases hp; exact c5
  | 5, ht, hp => cases ht; cases hp; exact c6
  | 6, ht, hp => cases ht; cases hp; exact c7
  | 7, ht, hp => cases ht; cases hp; exact c8
  | 8, ht, hp => cases ht; cases hp; exact c9
  | n + 9, ht, hp => cases ht
theorem pick9 {ts : List Addr} {ws : List (Str × Bool)} {H : Hp} {i : Nat} {x : V} (hl : ts.length = ws.length) (h : ∀ (j : Nat) (t : Addr) (p : Str × Bool), ts[j]? = some t → ws[j]? = some p → H t = some (.tup [.str p.1, .bl p.2])) (hx : (ts.map V.ref)[i]? = some x) : ∃ t p, x = .ref t ∧ ws[i]? = some p ∧ H t = some (.tup [.str p.1, .bl p.2]) := by
  rw [List.getElem?_map] at hx
  obtain ⟨t, ht, rfl⟩ := Option.map_eq_some_iff.mp hx
  have hi : i < ws.length := by
    rw [← hl]
    exact (List.getElem?_eq_some_iff.mp ht).1
  exact ⟨t, ws[i], rfl, List.getElem?_eq_getElem hi, h i t _ ht (List.getElem?_eq_getElem hi)⟩
theorem ok_wrong_figure {f : Addr} {fd : FuncData} (F : Fun K "wrong_figure" "wrong_figure" s_wrong_figure f fd) (g : mg "wrong_figure" = some (.ref f)) (bd : Binds K fd ["parts", "step", "grace", "last", "misses", "keep", "fine", "falls", "back"] []) (m_isinstance : mg "isinstance" = none) (m_bool : mg "bool" = none) (C_is_number_in : CF P w K mg base 1 "is_number_in" ["thing", "low", "high"] (sp_is_number_in K)) (C_may_be_kept : CF P w K mg base 2 "may_be_kept" ["keep", "parts"] (sp_may_be_kept K)) : CF P w K mg base 3 "wrong_figure" ["parts", "step", "grace", "last", "misses", "keep", "fine", "falls", "back"] (sp_wrong_figure K) := by
  refine ⟨f, fd, F.ok sc_wrong_figure (fun vs H Q E h => ?_) (fun cdv A outer s H vs Q E hr h => ?_), g, F.kp, bd⟩
  · first | (obtain ⟨_, rfl, _⟩ := h; rfl) | (obtain ⟨_, _, rfl, _⟩ := h; rfl) | (obtain ⟨_, _, _, rfl, _⟩ := h; rfl) | (obtain ⟨_, _, _, _, rfl, _⟩ := h; rfl) | (obtain ⟨_, _, _, _, _, rfl, _⟩ := h; rfl) | (obtain ⟨_, _, _, _, _, _, rfl, _⟩ := h; rfl) | (obtain ⟨_, _, _, _, _, _, _, rfl, _⟩ := h; rfl) | (obtain ⟨_, _, _, _, _, _, _, _, rfl, _⟩ := h; rfl) | (obtain ⟨_, _, _, _, _, _, _, _, _, rfl, _⟩ := h; rfl) | (obtain ⟨_, _, _, _, _, _, _, _, _, _, rfl, _⟩ := h; rfl) | (obtain ⟨_, _, _, _, _, _, _, _, _, _, _, rfl, _⟩ := h; rfl) | (obtain ⟨_, _, _, _, _, _, _, _, _, _, _, _, rfl, _⟩ := h; rfl) | (obtain ⟨_, _, _, _, _, _, _, _, _, _, _, _, _, rfl, _⟩ := h; rfl) | (obtain ⟨_, _, _, _, _, _, _, _, _, _, _, _, _, _, rfl, _⟩ := h; rfl) | (obtain ⟨_, _, _, _, _, _, _, _, _, _, _, _, _, _, _, rfl, _⟩ := h; rfl) | (obtain ⟨_, _, _, _, _, _, _, _, _, _, _, _, _, _, _, _, rfl, _⟩ := h; rfl) | (obtain ⟨_, _, _, _, _, _, _, _, _, _, _, _, _, _, _, _, _, rfl, _⟩ := h; rfl) | (obtain ⟨_, _, _, _, _, _, _, _, _, _, _, _, _, _, _, _, _, _, rfl, _⟩ := h; rfl) | (obtain ⟨_, _, _, _, _, _, _, _, _, _, _, _, _, _, _, _, _, _, _, rfl, _⟩ := h; rfl) | (obtain ⟨_, _, _, _, _, _, _, _, _, _, _, _, _, _, _, _, _, _, _, _, rfl, _⟩ := h; rfl) | (obtain ⟨_, _, _, _, _, _, _, _, _, _, _, _, _, _, _, _, _, _, _, _, _, rfl, _⟩ := h; rfl) | (obtain ⟨_, _, _, _, _, _, _, _, _, _, _, _, _, _, _, _, _, _, _, _, _, _, rfl, _⟩ := h; rfl) | (obtain ⟨_, _, _, _, _, _, _, _, _, _, _, _, _, _, _, _, _, _, _, _, _, _, _, rfl, _⟩ := h; rfl)
  · have hu64 := hr.units
    obtain ⟨x1, x2, x3, x4, x5, x6, x7, x8, x9, d1, d2, d3, d4, d5, d6, d7, d8, d9, rfl, ⟨h1, h2, h3, h4, h5, h6, h7, h8, h9⟩, sh, hz, q⟩ := h
    refine ⟨_, (pss_cons (ps_set (i := 9) sc_wrong_figure.nd rfl (.inl rfl) (pe_lst (pa_cons (pe_tup (pa_cons pe_str (pa_cons (pe_cf C_is_number_in (hr.mono (by decide)) (by rfl) (pa_cons (pv 0) (pa_cons pe_int (pa_cons pe_int pa_nil)))) pa_nil))) (pa_cons (pe_tup (pa_cons pe_str (pa_cons (pe_cf C_is_number_in (hr.mono (by decide)) (by rfl) (pa_cons (pv 1) (pa_cons pe_int (pa_cons pe_int pa_nil)))) pa_nil))) (pa_cons (pe_tup (pa_cons pe_str (pa_cons (pe_cf C_is_number_in (hr.mono (by decide)) (by rfl) (pa_cons (pv 2) (pa_cons pe_int (pa_cons pe_int pa_nil)))) pa_nil))) (pa_cons (pe_tup (pa_cons pe_str (pa_cons (pe_callB (kk_isi K) (by rfl) m_isinstance (by decide +kernel) (pa_cons (pv 3) (pa_cons (pe_bltn (v := .ty "bool") (by rfl) m_bool (by decide +kernel) rfl) pa_nil))) pa_nil))) (pa_cons (pe_tup (pa_cons pe_str (pa_cons (pe_cf C_is_number_in (hr.mono (by decide)) (by rfl) (pa_cons (pv 4) (pa_cons pe_int (pa_cons pe_int pa_nil)))) pa_nil))) (pa_cons (pe_tup (pa_cons pe_str (pa_cons (pe_cf C_may_be_kept (hr.mono (by decide)) (by rfl) (pa_cons (pv 5) (pa_cons (pv 0) pa_nil))) pa_nil))) (pa_cons (pe_tup (pa_cons pe_str (pa_cons (pe_cf C_is_number_in (hr.mono (by decide)) (by rfl) (pa_cons (pv 6) (pa_cons pe_int (pa_cons pe_int pa_nil)))) pa_nil))) (pa_cons (pe_tup (pa_cons pe_str (pa_cons (pe_cf C_is_number_in (hr.mono (by decide)) (by rfl) (pa_cons (pv 7) (pa_cons pe_int (pa_cons pe_int pa_nil)))) pa_nil))) (pa_cons (pe_tup (pa_cons pe_str (pa_cons (pe_cf C_is_number_in (hr.mono (by decide)) (by rfl) (pa_cons (pv 8) (pa_cons pe_int (pa_cons pe_int pa_nil)))) pa_nil))) pa_nil)))))))))))
      (pss_cons (ps_for PassesOwn.never rfl (pi_list (pv 9)) (pg_tup (by rfl) (pgs_cons (pg_name (i := 10) sc_wrong_figure.nd rfl (.inl rfl)) (pgs_cons (pg_name (i := 11) sc_wrong_figure.nd rfl (.inl rfl)) pgs_nil)))
         (pss_one (ps_if (pt_not (pt_val (pv 11)))
             (pss_one (ps_ret (pv 10)))
             pss_nil)))
      (pss_one (ps_ret pe_non)))), ?_⟩
    have k4 := kit_d (K := K) (T := "bool") (by decide) d4
    refine ⟨_, rfl, x1, d1, 1, 6, rfl, h1, (by show 2 ≤ sizeLine; decide), fun t1 n1 => ?_⟩
    have s1 := same_new (o := .tup [.str (Str.ofString "parts"), .bl (numIn d1 1 6)]) n1
    refine ⟨_, rfl, x2, d2, 1, 14, rfl, dp_same s1 h2, (by show 2 ≤ sizeLine; decide), fun t2 n2 => ?_⟩
    have s2 := s1.trans (same_new (o := .tup [.str (Str.ofString "step"), .bl (numIn d2 1 14)]) n2)
    refine ⟨_, rfl, x3, d3, 0, 7, rfl, dp_same s2 h3, (by show 2 ≤ sizeLine; decide), fun t3 n3 => ?_⟩
    have s3 := s2.trans (same_new (o := .tup [.str (Str.ofString "grace"), .bl (numIn d3 0 7)]) n3)
    refine ⟨_, rfl, _, _, _, _, _, rfl, .ty _, ty_of_dp (dp_same s3 h4), k4, (by show 2 ≤ sizeLine; decide), fun t4 n4 => ?_⟩
    have s4 := s3.trans (same_new (o := .tup [.str (Str.ofString "last"), .bl (isK "bool" d4)]) n4)
    refine ⟨_, rfl, x5, d5, 0, 2, rfl, dp_same s4 h5, (by show 2 ≤ sizeLine; decide), fun t5 n5 => ?_⟩
    have s5 := s4.trans (same_new (o := .tup [.str (Str.ofString "misses"), .bl (numIn d5 0 2)]) n5)
    refine ⟨_, rfl, _, rfl, x6, x1, d6, d1, rfl, dp_same s5 h6, dp_same s5 h1, sh, hz, fun G g => ⟨(by show 2 ≤ sizeLine; decide), fun t6 n6 => ?_⟩⟩
    have s6 := (s5.trans g).trans (same_new (o := .tup [.str (Str.ofString "keep"), .bl (keptOk d6 d1)]) n6)
    refine ⟨_, rfl, x7, d7, 0, 100, rfl, dp_same s6 h7, (by show 2 ≤ sizeLine; decide), fun t7 n7 => ?_⟩
    have s7 := s6.trans (same_new (o := .tup [.str (Str.ofString "fine"), .bl (numIn d7 0 100)]) n7)
    refine ⟨_, rfl, x8, d8, 0, 30, rfl, dp_same s7 h8, (by show 2 ≤ sizeLine; decide), fun t8 n8 => ?_⟩
    have s8 := s7.trans (same_new (o := .tup [.str (Str.ofString "falls"), .bl (numIn d8 0 30)]) n8)
    refine ⟨_, rfl, x9, d9, 0, 30, rfl, dp_same s8 h9, (by show 2 ≤ sizeLine; decide), fun t9 n9 => ?_⟩
    have s9 := s8.trans (same_new (o := .tup [.str (Str.ofString "back"), .bl (numIn d9 0 30)]) n9)
    refine ⟨(by show 9 ≤ sizeLine; decide), fun L nL => ?_⟩
    have sL := same_new (o := .lst [.ref t1, .ref t2, .ref t3, .ref t4, .ref t5, .ref t6, .ref t7, .ref t8, .ref t9]) nL
    have c9 := sL _ _ (upd_same (a := t9) (o := .tup [.str (Str.ofString "back"), .bl (numIn d9 0 30)]))
    have m9 := (same_new (o := .tup [.str (Str.ofString "back"), .bl (numIn d9 0 30)]) n9).trans sL
    have c8 := m9 _ _ (upd_same (a := t8) (o := .tup [.str (Str.ofString "falls"), .bl (numIn d8 0 30)]))
    have m8 := (same_new (o := .tup [.str (Str.ofString "falls"), .bl (numIn d8 0 30)]) n8).trans m9
    have c7 := m8 _ _ (upd_same (a := t7) (o := .tup [.str (Str.ofString "fine"), .bl (numIn d7 0 100)]))
    have m7 := (same_new (o := .tup [.str (Str.ofString "fine"), .bl (numIn d7 0 100)]) n7).trans m8
    have c6 := m7 _ _ (upd_same (a := t6) (o := .tup [.str (Str.ofString "keep"), .bl (keptOk d6 d1)]))
    have m6 := (g.trans (same_new (o := .tup [.str (Str.ofString "keep"), .bl (keptOk d6 d1)]) n6)).trans m7
    have c5 := m6 _ _ (upd_same (a := t5) (o := .tup [.str (Str.ofString "misses"), .bl (numIn d5 0 2)]))
    have m5 := (same_new (o := .tup [.str (Str.ofString "misses"), .bl (numIn d5 0 2)]) n5).trans m6
    have c4 := m5 _ _ (upd_same (a := t4) (o := .tup [.str (Str.ofString "last"), .bl (isK "bool" d4)]))
    have m4 := (same_new (o := .tup [.str (Str.ofString "last"), .bl (isK "bool" d4)]) n4).trans m5
    have c3 := m4 _ _ (upd_same (a := t3) (o := .tup [.str (Str.ofString "grace"), .bl (numIn d3 0 7)]))
    have m3 := (same_new (o := .tup [.str (Str.ofString "grace"), .bl (numIn d3 0 7)]) n3).trans m4
    have c2 := m3 _ _ (upd_same (a := t2) (o := .tup [.str (Str.ofString "step"), .bl (numIn d2 1 14)]))
    have m2 := (same_new (o := .tup [.str (Str.ofString "step"), .bl (numIn d2 1 14)]) n2).trans m3
    have c1 := m2 _ _ (upd_same (a := t1) (o := .tup [.str (Str.ofString "parts"), .bl (numIn d1 1 6)]))
    have at9 := at9_of (p1 := (Str.ofString "parts", numIn d1 1 6)) (p2 := (Str.ofString "step", numIn d2 1 14)) (p3 := (Str.ofString "grace", numIn d3 0 7)) (p4 := (Str.ofString "last", isK "bool" d4)) (p5 := (Str.ofString "misses", numIn d5 0 2)) (p6 := (Str.ofString "keep", keptOk d6 d1)) (p7 := (Str.ofString "fine", numIn d7 0 100)) (p8 := (Str.ofString "falls", numIn d8 0 30)) (p9 := (Str.ofString "back", numIn d9 0 30)) c1 c2 c3 c4 c5 c6 c7 c8 c9
    have sAll := s9.trans sL
    refine ⟨_, rfl, L, rfl, ⟨_, SqL.of upd_same⟩, for_list (K := K) (a := L) (xs := [t1, t2, t3, t4, t5, t6, t7, t8, t9].map V.ref) (fun i σ H' => ∃ s10 s11, σ = [some x1, some x2, some x3, some x4, some x5, some x6, some x7, some x8, some x9, some (.ref L), s10, s11] ∧ Same H H' ∧ H' L = some (.lst [.ref t1, .ref t2, .ref t3, .ref t4, .ref t5, .ref t6, .ref t7, .ref t8, .ref t9]) ∧ (∀ (j : Nat) (t : Addr) (p : Str × Bool), [t1, t2, t3, t4, t5, t6, t7, t8, t9][j]? = some t → (figChecks d1 d2 d3 d4 d5 d6 d7 d8 d9)[j]? = some p → H' t = some (.tup [.str p.1, .bl p.2])) ∧ ∀ p ∈ (figChecks d1 d2 d3 d4 d5 d6 d7 d8 d9).take i, p.2 = true) ⟨_, _, rfl, sAll, upd_same, at9, fun p hp => (nomatch hp)⟩ (fun i σ H' _ h => by obtain ⟨_, _, _, _, h, _⟩ := h; exact SqL.of h) (fun i x σ H' hx h => ?_) (fun σ H' h => ?_)⟩
    · obtain ⟨s10, s11, rfl, sm, eL, hat, hall⟩ := h
      obtain ⟨t, p, rfl, hp, ht⟩ := pick9 (ws := figChecks d1 d2 d3 d4 d5 d6 d7 d8 d9) rfl hat hx
      refine ⟨t, _, rfl, .inl (.inl ht), rfl, _, _, rfl, _, _, rfl, rfl, ?_⟩
      obtain ⟨w', b⟩ := p
      cases b with
      | false =>
        refine ⟨_, rfl, _, rfl, iteT ⟨_, rfl, ?_⟩⟩
        rw [← firstWrong_at hall hp]
        exact q _ sm
      | true =>
        refine ⟨_, rfl, _, rfl, iteF ⟨_, _, rfl, sm, eL, hat, fun p' hp' => ?_⟩⟩
        rw [List.take_add_one, hp] at hp'
        rcases List.mem_append.mp hp' with z | z
        · exact hall p' z
        · rw [List.mem_singleton.mp z]
    · obtain ⟨s10, s11, rfl, sm, _, _, hall⟩ := h
      have hf : firstWrong (figChecks d1 d2 d3 d4 d5 d6 d7 d8 d9) = .non := firstWrong_none fun p hp => hall p hp
      rw [hf] at q
      exact q _ sm
/-- the classes of the text -/
structure CEs where
  r : Addr
  w : Addr
  b : Addr
  o1 : Addr
  o2 : Addr
  o3 : Addr
  o4 : Addr
  o5 : Addr
  o6 : Addr
  o7 : Addr
structure TBad (K : PySem.W.Frag) (mg : Str → Option Value) (C : CEs) : Prop where
  xf : XfC K C.b
  nw : PySem.W.findIn K (.ref C.b) "word" = some none
  ec : ExcC K C.b
  xw : PySem.W.exmOne K (.ref C.b) (.ref C.w) = some true
  w : mg "WareError" = some (.ref C.w)
  gb : mg "BadRule" = some (.ref C.b)
  g1 : mg "BadClause" = some (.ref C.o1)
  g2 : mg "BadRow" = some (.ref C.o2)
  g3 : mg "Idle" = some (.ref C.o3)
  g4 : mg "NoDay" = some (.ref C.o4)
  g5 : mg "NoEntry" = some (.ref C.o5)
  g6 : mg "NoHouse" = some (.ref C.o6)
  g7 : mg "NoWare" = some (.ref C.o7)
  kb : PySem.W.kitOne K (.ref C.b) (.ref C.b) = some true
  k1 : PySem.W.kitOne K (.ref C.b) (.ref C.o1) = some false
  k2 : PySem.W.kitOne K (.ref C.b) (.ref C.o2) = some false
  k3 : PySem.W.kitOne K (.ref C.b) (.ref C.o3) = some false
  k4 : PySem.W.kitOne K (.ref C.b) (.ref C.o4) = some false
  k5 : PySem.W.kitOne K (.ref C.b) (.ref C.o5) = some false
  k6 : PySem.W.kitOne K (.ref C.b) (.ref C.o6) = some false
  k7 : PySem.W.kitOne K (.ref C.b) (.ref C.o7) = some false
  kv : PySem.W.kitOne K (.ref C.b) (.type "ValueError") = some true
  kw : PySem.W.kitOne K (.ref C.b) (.ref C.w) = some true
theorem kit_me {K : PySem.W.Frag} {t : Addr} : PySem.W.kitOne K (.ref t) (.ref t) = some true := by
  unfold PySem.W.kitOne
  rw [if_pos (beq_self_eq_true _)]
theorem kit_ref {K : PySem.W.Frag} {t C : Addr} {b : Bool} (ne : t ≠ C) (hc : PySem.W.isClsIn K C = true) (ht : PySem.W.typeIn K (.ref C) = some (.type "type")) (hs : PySem.W.subIn K (.ref t) (.ref C) = some b) : PySem.W.kitOne K (.ref t) (.ref C) = some b := by
  have h1 : (Value.ref t == Value.ref C) = false := beq_eq_false_iff_ne.mpr fun e => ne (Value.ref.inj e)
  have h2 : ((PySem.W.clsIn K C).isSome && PySem.W.typeIn K (.ref C) == some (.type "type")) = true := by
    rw [show (PySem.W.clsIn K C).isSome = true from hc, ht]
    rfl
  unfold PySem.W.kitOne
  rw [h1, if_neg (by decide)]
  unfold PySem.W.kitCls
  dsimp only
  rw [if_pos h2]
  exact hs
theorem kit_ve {K : PySem.W.Frag} {t : Addr} {b : Bool} (hs : PySem.W.subIn K (.ref t) (.type "ValueError") = some b) : PySem.W.kitOne K (.ref t) (.type "ValueError") = some b := by
  unfold PySem.W.kitOne
  rw [show (Value.ref t == Value.type "ValueError") = false from rfl, if_neg (by decide)]
  unfold PySem.W.kitCls
  dsimp only
  rw [if_pos (by decide +kernel)]
  exact hs
/-! ### a rule in the heap -/
structure TRule (K : PySem.W.Frag) (mg : Str → Option Value) (C : Addr) : Prop where
  cl : Cls K C
  n1 : NoAttr K C "parts"
  n2 : NoAttr K C "step"
  n3 : NoAttr K C "grace"
  n4 : NoAttr K C "last"
  n5 : NoAttr K C "misses"
  n6 : NoAttr K C "keep"
  n7 : NoAttr K C "fine"
  n8 : NoAttr K C "falls"
  n9 : NoAttr K C "back"
def ruleF (p s g : Int) (l : Bool) (m : Int) (kt : Addr) (fi fa ba : Int) : List (Str × V) := [("parts", .int p), ("step", .int s), ("grace", .int g), ("last", .bl l), ("misses", .int m), ("keep", .ref kt), ("fine", .int fi), ("falls", .int fa), ("back", .int ba)]
theorem putF_new {f : Str} {v : V} : ∀ {fs : List (Str × V)}, (∀ q ∈ fs, q.1 ≠ f) → putF f v fs = fs ++ [(f, v)]
  | [], _ => rfl
  | (g, x) :: r, h => by
    show (if g = f then (g, v) :: r else (g, x) :: putF f v r) = _
    rw [if_neg (h (g, x) List.mem_cons_self), putF_new fun q hq => h q (List.mem_cons_of_mem _ hq)]
    rfl
theorem unlike9 : (["parts", "step", "grace", "last", "misses", "keep", "fine", "falls", "back"] : List Str).Nodup := by decide +kernel
theorem putF_len (f : Str) (v : V) : ∀ fs : List (Str × V), (putF f v fs).length ≤ fs.length + 1
  | [] => Nat.le_refl _
  | (g, x) :: r => by
    show (if g = f then (g, v) :: r else (g, x) :: putF f v r).length ≤ _
    have := putF_len f v r
    split
    · simp
    · rw [List.length_cons, List.length_cons]
      omega
theorem put_lt {f : Str} {v : V} {fs : List (Str × V)} {n : Nat} (h : fs.length ≤ n) : (putF f v fs).length ≤ n + 1 := Nat.le_trans (putF_len f v fs) (by omega)
theorem ruleF_eq (p s g : Int) (l : Bool) (m : Int) (kt : Addr) (fi fa ba : Int) : putF "back" (.int ba) (putF "falls" (.int fa) (putF "fine" (.int fi) (putF "keep" (.ref kt) (putF "misses" (.int m) (putF "last" (.bl l) (putF "grace" (.int g) (putF "step" (.int s) (putF "parts" (.int p) [])))))))) = ruleF p s g l m kt fi fa ba := by
  have nd := unlike9
  simp only [List.nodup_cons, List.mem_cons, List.not_mem_nil, or_false, not_or] at nd
  obtain ⟨⟨a1, a2, a3, a4, a5, a6, a7, a8⟩, ⟨b1, b2, b3, b4, b5, b6, b7⟩, ⟨c1, c2, c3, c4, c5, c6⟩, ⟨d1, d2, d3, d4, d5⟩, ⟨e1, e2, e3, e4⟩, ⟨f1, f2, f3⟩, ⟨g1, g2⟩, h1, _⟩ := nd
  simp only [putF, if_neg a1, if_neg a2, if_neg a3, if_neg a4, if_neg a5, if_neg a6, if_neg a7, if_neg a8, if_neg b1, if_neg b2, if_neg b3, if_neg b4, if_neg b5, if_neg b6, if_neg b7, if_neg c1, if_neg c2, if_neg c3, if_neg c4, if_neg c5, if_neg c6, if_neg d1, if_neg d2, if_neg d3, if_neg d4, if_neg d5, if_neg e1, if_neg e2, if_neg e3, if_neg e4, if_neg f1, if_neg f2, if_neg f3, if_neg g1, if_neg g2, if_neg h1]
  rfl
/-- what is kept as it is handed in: one number, or a tuple of as many as parts -/
inductive Keep (K : PySem.W.Frag) (H : Hp) (p : Int) (ks : List Int) : V → PyData → Prop where
  | one (k : Int) (h0 : 0 ≤ k) (h1 : k ≤ 100) (e : ks = List.replicate p.toNat k) : Keep K H p ks (.int k) (.int k)
  | all (a : Addr) (h : SqT K H a (ks.map V.int)) (hl : (ks.length : Int) = p) (hb : ∀ k ∈ ks, 0 ≤ k ∧ k ≤ 100) : Keep K H p ks (.ref a) (.tuple (ks.map PyData.int))
structure Figs (p s g m fi fa ba : Int) : Prop where
  p0 : 1 ≤ p
  p1 : p ≤ 6
  s0 : 1 ≤ s
  s1 : s ≤ 14
  g0 : 0 ≤ g
  g1 : g ≤ 7
  m0 : 0 ≤ m
  m1 : m ≤ 2
  fi0 : 0 ≤ fi
  fi1 : fi ≤ 100
  fa0 : 0 ≤ fa
  fa1 : fa ≤ 30
  ba0 : 0 ≤ ba
  ba1 : ba ≤ 30
theorem dpAll_intsT {K : PySem.W.Frag} {H : Hp} {a : Addr} {ns : List Int} (h : SqT K H a (ns.map V.int)) : Dp K H (.ref a) (.tuple (ns.map PyData.int)) := .tup h (dpAll_ints ns)
theorem Keep.dp {K : PySem.W.Frag} {H : Hp} {p : Int} {ks : List Int} {v : V} {d : PyData} (h : Keep K H p ks v d) : Dp K H v d := by
  cases h with
  | one k _ _ _ => exact .int k
  | all a h _ _ => exact dpAll_intsT h
theorem Keep.ok {K : PySem.W.Frag} {H : Hp} {p : Int} {ks : List Int} {v : V} {d : PyData} (h : Keep K H p ks v d) : keptOk d (.int p) = true := by
  cases h with
  | one k h0 h1 _ =>
    show (decide (0 ≤ k) && decide (k ≤ 100)) = true
    rw [decide_eq_true h0, decide_eq_true h1]
    rfl
  | all a _ hl hb =>
    show (PyData.eqv (.int (((ks.map PyData.int).length : Nat) : Int)) (.int p) && (ks.map PyData.int).all fun d => numIn d 0 100) = true
    rw [Bool.and_eq_true]
    refine ⟨?_, ?_⟩
    · rw [List.length_map, hl]
      simp [PyData.eqv]
    · rw [List.all_map, List.all_eq_true]
      intro k hk
      show (decide (0 ≤ k) && decide (k ≤ 100)) = true
      rw [decide_eq_true (hb k hk).1, decide_eq_true (hb k hk).2]
      rfl
theorem right_all {p s g m fi fa ba : Int} {l : Bool} {d6 : PyData} (F : Figs p s g m fi fa ba) (h6 : keptOk d6 (.int p) = true) : firstWrong (figChecks (.int p) (.int s) (.int g) (.bool l) (.int m) d6 (.int fi) (.int fa) (.int ba)) = .non := by
  refine firstWrong_none fun q hq => ?_
  have two : ∀ {i lo hi : Int}, lo ≤ i → i ≤ hi → numIn (.int i) lo hi = true := fun {i lo hi} a b => by
    show (decide (lo ≤ i) && decide (i ≤ hi)) = true
    rw [decide_eq_true a, decide_eq_true b]
    rfl
  unfold figChecks at hq
  simp only [List.mem_cons, List.not_mem_nil, or_false] at hq
  rcases hq with rfl | rfl | rfl | rfl | rfl | rfl | rfl | rfl | rfl
  · exact two F.p0 F.p1
  · exact two F.s0 F.s1
  · exact two F.g0 F.g1
  · rfl
  · exact two F.m0 F.m1
  · exact h6
  · exact two F.fi0 F.fi1
  · exact two F.fa0 F.fa1
  · exact two F.ba0 F.ba1
/-! ### Rule___init__ -/
abbrev s_Rule___init__ : Stmt := inClass (topS 18) 0
abbrev N_Rule___init__ : List Str := ["self", "parts", "step", "grace", "last", "misses", "keep", "fine", "falls", "back", "word"]
theorem sc_Rule___init__ : FnScope N_Rule___init__ ["self", "parts", "step", "grace", "last", "misses", "keep", "fine", "falls", "back"] (defScope s_Rule___init__) := ⟨rfl, rfl, rfl, by decide +kernel, rfl, by decide +kernel, by decide +kernel⟩
theorem back_none {H H' : Hp} {p : Addr} (s : Same H H') (h : H' p = none) : H p = none := by
  cases e : H p with
  | none => rfl
  | some o =>
    rw [s _ _ e] at h
    cases h
/-- nine things of any make, the first of them that may not be -/
def Nine (K : PySem.W.Frag) (H : Hp) (xs : List V) (w : Str) : Prop := ∃ (x1 x2 x3 x4 x5 x6 x7 x8 x9 : V) (d1 d2 d3 d4 d5 d6 d7 d8 d9 : PyData), xs = [x1, x2, x3, x4, x5, x6, x7, x8, x9] ∧ (Dp K H x1 d1 ∧ Dp K H x2 d2 ∧ Dp K H x3 d3 ∧ Dp K H x4 d4 ∧ Dp K H x5 d5 ∧ Dp K H x6 d6 ∧ Dp K H x7 d7 ∧ Dp K H x8 d8 ∧ Dp K H x9 d9) ∧ SeqAt.shaped d1 = true ∧ (∀ ds, d6 = .tuple ds → ds.length ≤ 1000) ∧ firstWrong (figChecks d1 d2 d3 d4 d5 d6 d7 d8 d9) = .str w
theorem Nine.same {K : PySem.W.Frag} {H H' : Hp} {xs : List V} {w : Str} (h : Nine K H xs w) (s : Same H H') : Nine K H' xs w := by
  obtain ⟨x1, x2, x3, x4, x5, x6, x7, x8, x9, d1, d2, d3, d4, d5, d6, d7, d8, d9, rfl, ⟨h1, h2, h3, h4, h5, h6, h7, h8, h9⟩, sh, hz, e⟩ := h
  exact ⟨x1, x2, x3, x4, x5, x6, x7, x8, x9, d1, d2, d3, d4, d5, d6, d7, d8, d9, rfl, ⟨dp_same s h1, dp_same s h2, dp_same s h3, dp_same s h4, dp_same s h5, dp_same s h6, dp_same s h7, dp_same s h8, dp_same s h9⟩, sh, hz, e⟩
def sp_Rule___init__ (K : PySem.W.Frag) (C : CEs) : Sp := fun vs H Q E => ∃ (x dx : Addr) (x1 x2 x3 x4 x5 x6 x7 x8 x9 : V), vs = [.ref x, x1, x2, x3, x4, x5, x6, x7, x8, x9] ∧ H x = some (.ins C.r dx []) ∧
  ((∃ (p s g : Int) (l : Bool) (m : Int) (kd : PyData) (ks : List Int) (fi fa ba : Int), [x1, x2, x3, x4, x5, x7, x8, x9] = [.int p, .int s, .int g, .bl l, .int m, .int fi, .int fa, .int ba] ∧ Figs p s g m fi fa ba ∧ Keep K H p ks x6 kd ∧
      ∀ H' kt, But x H H' → H' x = some (.ins C.r dx (ruleF p s g l m kt fi fa ba)) → SqT K H' kt (ks.map V.int) → Q .non H') ∨
    (∃ w, Nine K H [x1, x2, x3, x4, x5, x6, x7, x8, x9] w ∧ ∀ H' d, Same H H' → H d = none → H' d = some (.xd [("word", .str w)]) → E (.ref C.b) (some d) H'))
theorem ok_Rule___init__ {f : Addr} {fd : FuncData} {CC : CEs} (T_Rule : TRule K mg CC.r) (TE : TBad K mg CC) (XB : CEx P w K mg base CC.b 1 "BadRule" "word") (m_isinstance : mg "isinstance" = none) (m_tuple : mg "tuple" = none) (C_wrong_figure : CF P w K mg base 3 "wrong_figure" ["parts", "step", "grace", "last", "misses", "keep", "fine", "falls", "back"] (sp_wrong_figure K)) (F : FunD K "__init__" "Rule.__init__" (defArgs s_Rule___init__) (defBody s_Rule___init__) (defScope s_Rule___init__) [.int 0, .bl false, .int 0, .int 0, .int 0, .int 0, .int 0] [] f fd) : FnOk P w K mg base (L2.CX P w) 4 f fd ["self", "parts", "step", "grace", "last", "misses", "keep", "fine", "falls", "back"] (sp_Rule___init__ K CC) := by
  refine F.ok sc_Rule___init__ (fun vs H Q E h => ?_) (fun cdv A outer s H vs Q E hr h => ?_)
  · first | (obtain ⟨_, rfl, _⟩ := h; rfl) | (obtain ⟨_, _, rfl, _⟩ := h; rfl) | (obtain ⟨_, _, _, rfl, _⟩ := h; rfl) | (obtain ⟨_, _, _, _, rfl, _⟩ := h; rfl) | (obtain ⟨_, _, _, _, _, rfl, _⟩ := h; rfl) | (obtain ⟨_, _, _, _, _, _, rfl, _⟩ := h; rfl) | (obtain ⟨_, _, _, _, _, _, _, rfl, _⟩ := h; rfl) | (obtain ⟨_, _, _, _, _, _, _, _, rfl, _⟩ := h; rfl) | (obtain ⟨_, _, _, _, _, _, _, _, _, rfl, _⟩ := h; rfl) | (obtain ⟨_, _, _, _, _, _, _, _, _, _, rfl, _⟩ := h; rfl) | (obtain ⟨_, _, _, _, _, _, _, _, _, _, _, rfl, _⟩ := h; rfl) | (obtain ⟨_, _, _, _, _, _, _, _, _, _, _, _, rfl, _⟩ := h; rfl) | (obtain ⟨_, _, _, _, _, _, _, _, _, _, _, _, _, rfl, _⟩ := h; rfl) | (obtain ⟨_, _, _, _, _, _, _, _, _, _, _, _, _, _, rfl, _⟩ := h; rfl) | (obtain ⟨_, _, _, _, _, _, _, _, _, _, _, _, _, _, _, rfl, _⟩ := h; rfl) | (obtain ⟨_, _, _, _, _, _, _, _, _, _, _, _, _, _, _, _, rfl, _⟩ := h; rfl) | (obtain ⟨_, _, _, _, _, _, _, _, _, _, _, _, _, _, _, _, _, rfl, _⟩ := h; rfl) | (obtain ⟨_, _, _, _, _, _, _, _, _, _, _, _, _, _, _, _, _, _, rfl, _⟩ := h; rfl) | (obtain ⟨_, _, _, _, _, _, _, _, _, _, _, _, _, _, _, _, _, _, _, rfl, _⟩ := h; rfl) | (obtain ⟨_, _, _, _, _, _, _, _, _, _, _, _, _, _, _, _, _, _, _, _, rfl, _⟩ := h; rfl) | (obtain ⟨_, _, _, _, _, _, _, _, _, _, _, _, _, _, _, _, _, _, _, _, _, rfl, _⟩ := h; rfl) | (obtain ⟨_, _, _, _, _, _, _, _, _, _, _, _, _, _, _, _, _, _, _, _, _, _, rfl, _⟩ := h; rfl) | (obtain ⟨_, _, _, _, _, _, _, _, _, _, _, _, _, _, _, _, _, _, _, _, _, _, _, rfl, _⟩ := h; rfl)
  · have hu64 := hr.units
    obtain ⟨x, dx, x1, x2, x3, x4, x5, kv, x7, x8, x9, rfl, hx, h⟩ := h
    refine ⟨_, (pss_cons (ps_set (i := 10) sc_Rule___init__.nd rfl (.inl rfl) (pe_cf C_wrong_figure (hr.mono (by decide)) (by rfl) (pa_cons (pv 1) (pa_cons (pv 2) (pa_cons (pv 3) (pa_cons (pv 4) (pa_cons (pv 5) (pa_cons (pv 6) (pa_cons (pv 7) (pa_cons (pv 8) (pa_cons (pv 9) pa_nil)))))))))))
      (pss_cons (ps_if (pt_cmpR op_notN (pv 10) pe_non (nomark _))
         (pss_one (ps_raise rfl (takes_of rfl rfl rfl rfl) (pmk_cex XB (hr.mono (by decide)) (by rfl) (pa_cons (pv 10) pa_nil))))
         pss_nil)
      (pss_cons (ps_fld (pv 0) (pv 1) rfl)
      (pss_cons (ps_fld (pv 0) (pv 2) rfl)
      (pss_cons (ps_fld (pv 0) (pv 3) rfl)
      (pss_cons (ps_fld (pv 0) (pv 4) rfl)
      (pss_cons (ps_fld (pv 0) (pv 5) rfl)
      (pss_cons (ps_fld (pv 0) (pe_ifExp (pt_val (pe_callB (kk_isi K) (by rfl) m_isinstance (by decide +kernel) (pa_cons (pv 6) (pa_cons (pe_bltn (v := .ty "tuple") (by rfl) m_tuple (by decide +kernel) rfl) pa_nil)))) (pv 6) (pe_op (kk_repA K) (pe_tup (pa_cons (pv 6) pa_nil)) (pv 1))) rfl)
      (pss_cons (ps_fld (pv 0) (pv 7) rfl)
      (pss_cons (ps_fld (pv 0) (pv 8) rfl)
      (pss_one (ps_fld (pv 0) (pv 9) rfl)))))))))))), ?_⟩
    rcases h with ⟨p, s', g, l, m, kd, ks, fi, fa, ba, e, F, hk, q⟩ | ⟨wd, hN, q⟩
    · cases e
      have hz : ∀ ds, kd = .tuple ds → ds.length ≤ 1000 := fun ds e => by
        cases hk with
        | one k _ _ _ => cases e
        | all a h hl hb =>
          cases e
          rw [List.length_map]
          have := F.p1
          omega
      refine ⟨_, rfl, _, rfl, _, rfl, _, rfl, _, rfl, _, rfl, _, rfl, _, rfl, _, rfl, _, _, _, _, _, _, _, _, _, .int p, .int s', .int g, .bool l, .int m, kd, .int fi, .int fa, .int ba, rfl, ⟨.int _, .int _, .int _, .bl _, .int _, hk.dp, .int _, .int _, .int _⟩, sh_int _, hz, fun H1 s1 => ?_⟩
      rw [right_all F hk.ok]
      refine ⟨_, rfl, rfl, _, rfl, iteF ?_⟩
      refine ⟨_, rfl, _, rfl, x, CC.r, dx, _, rfl, s1 _ _ hx, T_Rule.cl, T_Rule.n1, by decide, ?_⟩
      refine ⟨_, rfl, _, rfl, x, CC.r, dx, _, rfl, upd_same, T_Rule.cl, T_Rule.n2, Nat.lt_of_le_of_lt (put_lt (Nat.le_refl 0)) (by decide), ?_⟩
      refine ⟨_, rfl, _, rfl, x, CC.r, dx, _, rfl, upd_same, T_Rule.cl, T_Rule.n3, Nat.lt_of_le_of_lt (put_lt (put_lt (Nat.le_refl 0))) (by decide), ?_⟩
      refine ⟨_, rfl, _, rfl, x, CC.r, dx, _, rfl, upd_same, T_Rule.cl, T_Rule.n4, Nat.lt_of_le_of_lt (put_lt (put_lt (put_lt (Nat.le_refl 0)))) (by decide), ?_⟩
      refine ⟨_, rfl, _, rfl, x, CC.r, dx, _, rfl, upd_same, T_Rule.cl, T_Rule.n5, Nat.lt_of_le_of_lt (put_lt (put_lt (put_lt (put_lt (Nat.le_refl 0))))) (by decide), ?_⟩
      have b5 : But x H (upd (upd (upd (upd (upd H1 x (.ins CC.r dx (putF "parts" (.int p) []))) x (.ins CC.r dx (putF "step" (.int s') (putF "parts" (.int p) [])))) x (.ins CC.r dx (putF "grace" (.int g) (putF "step" (.int s') (putF "parts" (.int p) []))))) x (.ins CC.r dx (putF "last" (.bl l) (putF "grace" (.int g) (putF "step" (.int s') (putF "parts" (.int p) [])))))) x (.ins CC.r dx (putF "misses" (.int m) (putF "last" (.bl l) (putF "grace" (.int g) (putF "step" (.int s') (putF "parts" (.int p) []))))))) := (((((But.of s1).trans But.upd).trans But.upd).trans But.upd).trans But.upd).trans But.upd
      have e5 := upd_same (H := (upd (upd (upd (upd H1 x (.ins CC.r dx (putF "parts" (.int p) []))) x (.ins CC.r dx (putF "step" (.int s') (putF "parts" (.int p) [])))) x (.ins CC.r dx (putF "grace" (.int g) (putF "step" (.int s') (putF "parts" (.int p) []))))) x (.ins CC.r dx (putF "last" (.bl l) (putF "grace" (.int g) (putF "step" (.int s') (putF "parts" (.int p) []))))))) (a := x) (o := .ins CC.r dx (putF "misses" (.int m) (putF "last" (.bl l) (putF "grace" (.int g) (putF "step" (.int s') (putF "parts" (.int p) []))))))
      cases hk with
      | all a hA hl hb =>
        have hax : ∀ {G : Hp}, But x H G → SqT K G a (ks.map V.int) := fun t => by
          rcases hA with (h | ⟨o, h⟩) | h
          · exact .inl (.inl (t _ _ (ne_of h hx (by intro z; cases z)) h))
          · exact .inl (.inr ⟨o, t _ _ (ne_of h hx (by intro z; cases z)) h⟩)
          · exact .inr h
        refine ⟨_, rfl, _, _, _, _, true, rfl, .ty _, ty_of_dp (dpAll_intsT (hax b5)), kit_ty (a := "tuple") (by decide +kernel), _, rfl, iteT ⟨_, rfl, ?_⟩⟩
        refine ⟨_, rfl, x, CC.r, dx, _, rfl, e5, T_Rule.cl, T_Rule.n6, Nat.lt_of_le_of_lt (put_lt (put_lt (put_lt (put_lt (put_lt (Nat.le_refl 0)))))) (by decide), ?_⟩
        refine ⟨_, rfl, _, rfl, x, CC.r, dx, _, rfl, upd_same, T_Rule.cl, T_Rule.n7, Nat.lt_of_le_of_lt (put_lt (put_lt (put_lt (put_lt (put_lt (put_lt (Nat.le_refl 0))))))) (by decide), ?_⟩
        refine ⟨_, rfl, _, rfl, x, CC.r, dx, _, rfl, upd_same, T_Rule.cl, T_Rule.n8, Nat.lt_of_le_of_lt (put_lt (put_lt (put_lt (put_lt (put_lt (put_lt (put_lt (Nat.le_refl 0)))))))) (by decide), ?_⟩
        refine ⟨_, rfl, _, rfl, x, CC.r, dx, _, rfl, upd_same, T_Rule.cl, T_Rule.n9, Nat.lt_of_le_of_lt (put_lt (put_lt (put_lt (put_lt (put_lt (put_lt (put_lt (put_lt (Nat.le_refl 0))))))))) (by decide), ?_⟩
        refine q _ a ((((b5.trans But.upd).trans But.upd).trans But.upd).trans But.upd) (by rw [upd_same, ruleF_eq]) (hax ((((b5.trans But.upd).trans But.upd).trans But.upd).trans But.upd))
      | one k h0 h1 ek =>
        refine ⟨_, rfl, _, _, _, _, false, rfl, .ty _, .base (.int k), kit_ty (by decide +kernel), _, rfl, iteF ⟨_, rfl, (by show 1 ≤ sizeLine; decide), fun t ht => ⟨_, rfl, ?_⟩⟩⟩
        have nt : t ≠ x := (ne_of_none e5 ht).symm
        by_cases hp1 : p = 1
        · subst hp1
          refine .inr ⟨t, [.int k], rfl, rfl, SqT.of upd_same, by simp, ?_⟩
          have ek2 : ks = [k] := ek
          refine ⟨_, rfl, x, CC.r, dx, _, rfl, (by rw [upd_ne nt.symm]; exact e5), T_Rule.cl, T_Rule.n6, Nat.lt_of_le_of_lt (put_lt (put_lt (put_lt (put_lt (put_lt (Nat.le_refl 0)))))) (by decide), ?_⟩
          refine ⟨_, rfl, _, rfl, x, CC.r, dx, _, rfl, upd_same, T_Rule.cl, T_Rule.n7, Nat.lt_of_le_of_lt (put_lt (put_lt (put_lt (put_lt (put_lt (put_lt (Nat.le_refl 0))))))) (by decide), ?_⟩
          refine ⟨_, rfl, _, rfl, x, CC.r, dx, _, rfl, upd_same, T_Rule.cl, T_Rule.n8, Nat.lt_of_le_of_lt (put_lt (put_lt (put_lt (put_lt (put_lt (put_lt (put_lt (Nat.le_refl 0)))))))) (by decide), ?_⟩
          refine ⟨_, rfl, _, rfl, x, CC.r, dx, _, rfl, upd_same, T_Rule.cl, T_Rule.n9, Nat.lt_of_le_of_lt (put_lt (put_lt (put_lt (put_lt (put_lt (put_lt (put_lt (put_lt (Nat.le_refl 0))))))))) (by decide), ?_⟩
          refine q _ t ((((b5.trans (But.new ht)).trans But.upd).trans But.upd).trans But.upd |>.trans But.upd) (by rw [upd_same, ruleF_eq]) (by rw [ek2]; exact SqT.of (by rw [upd_ne nt, upd_ne nt, upd_ne nt, upd_ne nt, upd_same]; rfl))
        · have hp2 : 2 ≤ p := by have := F.p0; omega
          have hp6 : p ≤ 1000 := by have := F.p1; omega
          refine .inl ⟨t, p, [.int k], rfl, rfl, SqT.of upd_same, by simp, hp2, hp6, (by show 1 ≤ 1000; decide), fun t2 ht2 => ?_⟩
          have e6 : (upd (upd (upd (upd (upd (upd H1 x (.ins CC.r dx (putF "parts" (.int p) []))) x (.ins CC.r dx (putF "step" (.int s') (putF "parts" (.int p) [])))) x (.ins CC.r dx (putF "grace" (.int g) (putF "step" (.int s') (putF "parts" (.int p) []))))) x (.ins CC.r dx (putF "last" (.bl l) (putF "grace" (.int g) (putF "step" (.int s') (putF "parts" (.int p) [])))))) x (.ins CC.r dx (putF "misses" (.int m) (putF "last" (.bl l) (putF "grace" (.int g) (putF "step" (.int s') (putF "parts" (.int p) []))))))) t (.tup [.int k])) x = _ := (upd_ne nt.symm).trans e5
          have nt2 : t2 ≠ x := (ne_of_none e6 ht2).symm
          refine ⟨_, rfl, x, CC.r, dx, _, rfl, (by rw [upd_ne nt2.symm]; exact e6), T_Rule.cl, T_Rule.n6, Nat.lt_of_le_of_lt (put_lt (put_lt (put_lt (put_lt (put_lt (Nat.le_refl 0)))))) (by decide), ?_⟩
          refine ⟨_, rfl, _, rfl, x, CC.r, dx, _, rfl, upd_same, T_Rule.cl, T_Rule.n7, Nat.lt_of_le_of_lt (put_lt (put_lt (put_lt (put_lt (put_lt (put_lt (Nat.le_refl 0))))))) (by decide), ?_⟩
          refine ⟨_, rfl, _, rfl, x, CC.r, dx, _, rfl, upd_same, T_Rule.cl, T_Rule.n8, Nat.lt_of_le_of_lt (put_lt (put_lt (put_lt (put_lt (put_lt (put_lt (put_lt (Nat.le_refl 0)))))))) (by decide), ?_⟩
          refine ⟨_, rfl, _, rfl, x, CC.r, dx, _, rfl, upd_same, T_Rule.cl, T_Rule.n9, Nat.lt_of_le_of_lt (put_lt (put_lt (put_lt (put_lt (put_lt (put_lt (put_lt (put_lt (Nat.le_refl 0))))))))) (by decide), ?_⟩
          refine q _ t2 ((((b5.trans (But.new ht)).trans (But.new ht2)).trans But.upd).trans But.upd |>.trans But.upd |>.trans But.upd) (by rw [upd_same, ruleF_eq]) (SqT.of (by rw [upd_ne nt2, upd_ne nt2, upd_ne nt2, upd_ne nt2, upd_same, ek, rep1, List.map_replicate]))
    · obtain ⟨y1, y2, y3, y4, y5, y6, y7, y8, y9, d1, d2, d3, d4, d5, d6, d7, d8, d9, e, hd, sh, hz, ew⟩ := hN
      cases e
      refine ⟨_, rfl, _, rfl, _, rfl, _, rfl, _, rfl, _, rfl, _, rfl, _, rfl, _, rfl, _, _, _, _, _, _, _, _, _, d1, d2, d3, d4, d5, d6, d7, d8, d9, rfl, hd, sh, hz, fun H1 s1 => ?_⟩
      rw [ew]
      refine ⟨_, rfl, rfl, _, rfl, iteT ?_⟩
      refine ⟨_, rfl, (by show 1 ≤ 1000; decide), fun a na => ⟨a, _, rfl, upd_same, fun d nd ne => ⟨rfl, d, [(Str.ofString "word", .str wd)], upd_same, ?_, ?_, ?_⟩⟩⟩
      · rw [upd_ne ne, upd_same]
      · rw [upd_ne ne] at nd
        exact nd
      · rw [upd_ne ne] at nd
        refine q _ d (fun c o hc => ?_) (back_none s1 nd) upd_same
        have c1 := s1 _ _ hc
        have ca : c ≠ a := ne_of_none c1 na
        have cd : c ≠ d := ne_of_none c1 nd
        rw [upd_ne cd, del_ne ca, upd_ne ca, upd_ne cd, upd_ne ca]
        exact c1
structure Fg where
  p : Int
  s : Int
  g : Int
  l : Bool
  m : Int
  ks : List Int
  fi : Int
  fa : Int
  ba : Int
structure Fg.Ok (f : Fg) : Prop where
  figs : Figs f.p f.s f.g f.m f.fi f.fa f.ba
  len : (f.ks.length : Int) = f.p
  bnd : ∀ k ∈ f.ks, 0 ≤ k ∧ k ≤ 100
def RuleAt (K : PySem.W.Frag) (H : Hp) (C r : Addr) (f : Fg) : Prop := ∃ dx kt, H r = some (.ins C dx (ruleF f.p f.s f.g f.l f.m kt f.fi f.fa f.ba)) ∧ SqT K H kt (f.ks.map V.int)
theorem RuleAt.same {K : PySem.W.Frag} {H H' : Hp} {C r : Addr} {f : Fg} (h : RuleAt K H C r f) (e : Same H H') : RuleAt K H' C r f := by
  obtain ⟨dx, kt, h1, h2⟩ := h
  exact ⟨dx, kt, e _ _ h1, seqT_same e h2⟩
section
variable {p s g : Int} {l : Bool} {m : Int} {kt : Addr} {fi fa ba : Int}
theorem lk_ne {x y : Str} {v : V} {r : List (Str × V)} (h : x ≠ y) : List.lookup x ((y, v) :: r) = List.lookup x r := by
  rw [List.lookup_cons, beq_false_of_ne h]
theorem lk_eq {x : Str} {v : V} {r : List (Str × V)} : List.lookup x ((x, v) :: r) = some v := by
  rw [List.lookup_cons, beq_self_eq_true]
theorem lk1 : (ruleF p s g l m kt fi fa ba).lookup ("parts" : Str) = some (V.int p) := lk_eq
theorem lk2 : (ruleF p s g l m kt fi fa ba).lookup ("step" : Str) = some (V.int s) := by
  unfold ruleF
  rw [lk_ne (by decide +kernel), lk_eq]
theorem lk3 : (ruleF p s g l m kt fi fa ba).lookup ("grace" : Str) = some (V.int g) := by
  unfold ruleF
  rw [lk_ne (by decide +kernel), lk_ne (by decide +kernel), lk_eq]
theorem lk4 : (ruleF p s g l m kt fi fa ba).lookup ("last" : Str) = some (V.bl l) := by
  unfold ruleF
  rw [lk_ne (by decide +kernel), lk_ne (by decide +kernel), lk_ne (by decide +kernel), lk_eq]
theorem lk5 : (ruleF p s g l m kt fi fa ba).lookup ("misses" : Str) = some (V.int m) := by
  unfold ruleF
  rw [lk_ne (by decide +kernel), lk_ne (by decide +kernel), lk_ne (by decide +kernel), lk_ne (by decide +kernel), lk_eq]
theorem lk6 : (ruleF p s g l m kt fi fa ba).lookup ("keep" : Str) = some (V.ref kt) := by
  unfold ruleF
  rw [lk_ne (by decide +kernel), lk_ne (by decide +kernel), lk_ne (by decide +kernel), lk_ne (by decide +kernel), lk_ne (by decide +kernel), lk_eq]
theorem lk7 : (ruleF p s g l m kt fi fa ba).lookup ("fine" : Str) = some (V.int fi) := by
  unfold ruleF
  rw [lk_ne (by decide +kernel), lk_ne (by decide +kernel), lk_ne (by decide +kernel), lk_ne (by decide +kernel), lk_ne (by decide +kernel), lk_ne (by decide +kernel), lk_eq]
theorem lk8 : (ruleF p s g l m kt fi fa ba).lookup ("falls" : Str) = some (V.int fa) := by
  unfold ruleF
  rw [lk_ne (by decide +kernel), lk_ne (by decide +kernel), lk_ne (by decide +kernel), lk_ne (by decide +kernel), lk_ne (by decide +kernel), lk_ne (by decide +kernel), lk_ne (by decide +kernel), lk_eq]
theorem lk9 : (ruleF p s g l m kt fi fa ba).lookup ("back" : Str) = some (V.int ba) := by
  unfold ruleF
  rw [lk_ne (by decide +kernel), lk_ne (by decide +kernel), lk_ne (by decide +kernel), lk_ne (by decide +kernel), lk_ne (by decide +kernel), lk_ne (by decide +kernel), lk_ne (by decide +kernel), lk_ne (by decide +kernel), lk_eq]
theorem lk0 {x : Str} (h : x ∉ (["parts", "step", "grace", "last", "misses", "keep", "fine", "falls", "back"] : List Str)) : (ruleF p s g l m kt fi fa ba).lookup x = none := by
  simp only [List.mem_cons, List.not_mem_nil, or_false, not_or] at h
  obtain ⟨h1, h2, h3, h4, h5, h6, h7, h8, h9⟩ := h
  unfold ruleF
  rw [lk_ne h1, lk_ne h2, lk_ne h3, lk_ne h4, lk_ne h5, lk_ne h6, lk_ne h7, lk_ne h8, lk_ne h9]
  rfl
end
def keptV (f : Fg) (k : Int) (gone : Bool) : Int := if gone then (if k + f.fi < 100 then k + f.fi else 100) else k
/-! ### Rule_figures -/
abbrev s_Rule_figures : Stmt := inClass (topS 18) 2
abbrev N_Rule_figures : List Str := ["self"]
theorem sc_Rule_figures : FnScope N_Rule_figures ["self"] (defScope s_Rule_figures) := ⟨rfl, rfl, rfl, by decide +kernel, rfl, by decide +kernel, by decide +kernel⟩
def sp_Rule_figures (K : PySem.W.Frag) (C : Addr) : Sp := fun vs H Q _ => ∃ (r : Addr) (f : Fg), vs = [.ref r] ∧ RuleAt K H C r f ∧ ∀ H' t kt, H t = none → Same H H' → H' t = some (.tup [.int f.p, .int f.s, .int f.g, .bl f.l, .int f.m, .ref kt, .int f.fi, .int f.fa, .int f.ba]) → SqT K H' kt (f.ks.map V.int) → Q (.ref t) H'
theorem ok_Rule_figures {f : Addr} {fd : FuncData} {CR : Addr} (T_Rule : TRule K mg CR) (F : FunD K "figures" "Rule.figures" (defArgs s_Rule_figures) (defBody s_Rule_figures) (defScope s_Rule_figures) [] [] f fd) : FnOk P w K mg base CX0 1 f fd ["self"] (sp_Rule_figures K CR) := by
  refine okD F sc_Rule_figures (fun vs H Q E h => ?_) (fun cdv A outer s H vs Q E hr h => ?_)
  · first | (obtain ⟨_, rfl, _⟩ := h; rfl) | (obtain ⟨_, _, rfl, _⟩ := h; rfl) | (obtain ⟨_, _, _, rfl, _⟩ := h; rfl) | (obtain ⟨_, _, _, _, rfl, _⟩ := h; rfl) | (obtain ⟨_, _, _, _, _, rfl, _⟩ := h; rfl) | (obtain ⟨_, _, _, _, _, _, rfl, _⟩ := h; rfl) | (obtain ⟨_, _, _, _, _, _, _, rfl, _⟩ := h; rfl) | (obtain ⟨_, _, _, _, _, _, _, _, rfl, _⟩ := h; rfl) | (obtain ⟨_, _, _, _, _, _, _, _, _, rfl, _⟩ := h; rfl) | (obtain ⟨_, _, _, _, _, _, _, _, _, _, rfl, _⟩ := h; rfl) | (obtain ⟨_, _, _, _, _, _, _, _, _, _, _, rfl, _⟩ := h; rfl) | (obtain ⟨_, _, _, _, _, _, _, _, _, _, _, _, rfl, _⟩ := h; rfl) | (obtain ⟨_, _, _, _, _, _, _, _, _, _, _, _, _, rfl, _⟩ := h; rfl) | (obtain ⟨_, _, _, _, _, _, _, _, _, _, _, _, _, _, rfl, _⟩ := h; rfl) | (obtain ⟨_, _, _, _, _, _, _, _, _, _, _, _, _, _, _, rfl, _⟩ := h; rfl)
  · have hu64 := hr.units
    obtain ⟨r, f', rfl, ⟨dx, kt, h1, h2⟩, q⟩ := h
    refine ⟨_, (pss_one (ps_ret (pe_tup (pa_cons (pe_fld (pv 0) rfl) (pa_cons (pe_fld (pv 0) rfl) (pa_cons (pe_fld (pv 0) rfl) (pa_cons (pe_fld (pv 0) rfl) (pa_cons (pe_fld (pv 0) rfl) (pa_cons (pe_fld (pv 0) rfl) (pa_cons (pe_fld (pv 0) rfl) (pa_cons (pe_fld (pv 0) rfl) (pa_cons (pe_fld (pv 0) rfl) pa_nil)))))))))))), ?_⟩
    refine ⟨_, rfl, r, CR, dx, _, _, rfl, h1, T_Rule.cl, T_Rule.n1, lk1, ?_⟩
    refine ⟨_, rfl, r, CR, dx, _, _, rfl, h1, T_Rule.cl, T_Rule.n2, lk2, ?_⟩
    refine ⟨_, rfl, r, CR, dx, _, _, rfl, h1, T_Rule.cl, T_Rule.n3, lk3, ?_⟩
    refine ⟨_, rfl, r, CR, dx, _, _, rfl, h1, T_Rule.cl, T_Rule.n4, lk4, ?_⟩
    refine ⟨_, rfl, r, CR, dx, _, _, rfl, h1, T_Rule.cl, T_Rule.n5, lk5, ?_⟩
    refine ⟨_, rfl, r, CR, dx, _, _, rfl, h1, T_Rule.cl, T_Rule.n6, lk6, ?_⟩
    refine ⟨_, rfl, r, CR, dx, _, _, rfl, h1, T_Rule.cl, T_Rule.n7, lk7, ?_⟩
    refine ⟨_, rfl, r, CR, dx, _, _, rfl, h1, T_Rule.cl, T_Rule.n8, lk8, ?_⟩
    refine ⟨_, rfl, r, CR, dx, _, _, rfl, h1, T_Rule.cl, T_Rule.n9, lk9, (by show 9 ≤ sizeLine; decide), fun t ht => ?_⟩
    exact q _ t kt ht (same_new ht) upd_same (seqT_same (same_new ht) h2)
/-! ### what is left to draw of -/
def Left (H : Hp) (b c : Addr) (n : Int) : Prop := ∃ (x z : Int) (ns : List Int), H b = some (.lst [.int x, .ref c, .int z]) ∧ H c = some (.lst (ns.map V.int)) ∧ 0 ≤ x ∧ 0 ≤ z ∧ z ≤ n ∧ 1 ≤ ns.length ∧ ns.length ≤ 63
section
variable {H H' : Hp} {b c p : Addr} {n m : Int} {o : HO}
theorem Left.mono (h : Left H b c n) (l : n ≤ m) : Left H b c m := by
  obtain ⟨x, z, ns, h0, h1, h2, h3, h4, h5⟩ := h
  exact ⟨x, z, ns, h0, h1, h2, h3, by omega, h5⟩
theorem Left.same (e : Same H H') (h : Left H b c n) : Left H' b c n := by
  obtain ⟨x, z, ns, h0, h1, h2⟩ := h
  exact ⟨x, z, ns, e _ _ h0, e _ _ h1, h2⟩
theorem Left.new (h : Left H b c n) (e : H p = none) : Left (upd H p o) b c n := h.same (same_new e)
theorem Left.ne (h : Left H b c n) (e : H p = none) : p ≠ b := fun z => by
  obtain ⟨_, _, _, h0, _⟩ := h
  rw [z, h0] at e
  cases e
theorem Left.ne2 (h : Left H b c n) (e : H p = none) : p ≠ c := fun z => by
  obtain ⟨_, _, _, _, h0, _⟩ := h
  rw [z, h0] at e
  cases e
theorem Left.upd (h : Left H b c n) (e1 : p ≠ b) (e2 : p ≠ c) : Left (upd H p o) b c n := by
  obtain ⟨x, z, ns, h0, h1, h2⟩ := h
  exact ⟨x, z, ns, by rw [upd_ne e1.symm]; exact h0, by rw [upd_ne e2.symm]; exact h1, h2⟩
theorem Left.net (h : Left H b c n) {xs : List V} (e : H p = some (.tup xs)) : p ≠ b := fun z => by
  obtain ⟨_, _, _, h0, _⟩ := h
  rw [z, h0] at e
  cases e
theorem left_cells {x z : Int} {ns : List Int} (h0 : H b = some (.lst [.int x, .ref c, .int z])) (h1 : H c = some (.lst (ns.map V.int))) : c ≠ b := fun e => by
  rw [e, h0] at h1
  have h2 := HO.lst.inj (Option.some.inj h1)
  match ns, h2 with
  | [], h2 => cases h2
  | [_], h2 => cases h2
  | _ :: _ :: _, h2 => cases (List.cons.inj (List.cons.inj h2).2).1
theorem But.seqT {K : PySem.W.Frag} {a : Addr} {xs : List V} (t : But b H H') (hb : Left H b c n) (h : SqT K H a xs) : SqT K H' a xs := by
  obtain ⟨_, _, _, hx, _⟩ := hb
  rcases h with (h | ⟨o, h⟩) | h
  · exact .inl (.inl (t _ _ (ne_of h hx (by intro z; cases z)) h))
  · exact .inl (.inr ⟨o, t _ _ (ne_of h hx (by intro z; cases z)) h⟩)
  · exact .inr h
end
theorem none_of {H H' : Hp} {p : Addr} (s : Same H H') (h : H' p = none) : H p = none := by
  cases e : H p with
  | none => rfl
  | some o =>
    rw [s _ _ e] at h
    cases h
theorem cut_to {xs : List V} {k : Nat} (h : xs.length ≤ k) : cutV xs none (some (k : Int)) = xs := by
  unfold cutV
  rw [HT.sIx_nat, HT.sIx_none, Nat.min_eq_right h]
  simp
theorem pick3v {r : Int} {x y z : V} (h0 : 0 ≤ r) (h1 : r < 3) : ∃ v, atI [x, y, z] r = some v ∧ (v = x ∨ v = y ∨ v = z) := by
  have h : r = 0 ∨ r = 1 ∨ r = 2 := by omega
  rcases h with rfl | rfl | rfl
  · exact ⟨x, rfl, .inl rfl⟩
  · exact ⟨y, rfl, .inr (.inl rfl)⟩
  · exact ⟨z, rfl, .inr (.inr rfl)⟩
theorem pick3i {r x y z lo hi : Int} (h0 : 0 ≤ r) (h1 : r < 3) (hx : lo ≤ x ∧ x ≤ hi) (hy : lo ≤ y ∧ y ≤ hi) (hz : lo ≤ z ∧ z ≤ hi) : ∃ v : Int, atI [V.int x, .int y, .int z] r = some (.int v) ∧ lo ≤ v ∧ v ≤ hi := by
  have h : r = 0 ∨ r = 1 ∨ r = 2 := by omega
  rcases h with rfl | rfl | rfl
  · exact ⟨x, rfl, hx⟩
  · exact ⟨y, rfl, hy⟩
  · exact ⟨z, rfl, hz⟩
theorem pick4i {r x y z u lo hi : Int} (h0 : 0 ≤ r) (h1 : r < 4) (hx : lo ≤ x ∧ x ≤ hi) (hy : lo ≤ y ∧ y ≤ hi) (hz : lo ≤ z ∧ z ≤ hi) (hu : lo ≤ u ∧ u ≤ hi) : ∃ v : Int, atI [V.int x, .int y, .int z, .int u] r = some (.int v) ∧ lo ≤ v ∧ v ≤ hi := by
  have h : r = 0 ∨ r = 1 ∨ r = 2 ∨ r = 3 := by omega
  rcases h with rfl | rfl | rfl | rfl
  · exact ⟨x, rfl, hx⟩
  · exact ⟨y, rfl, hy⟩
  · exact ⟨z, rfl, hz⟩
  · exact ⟨u, rfl, hu⟩
/-! ### _law_mix -/
abbrev s__law_mix : Stmt := topS 22
abbrev N__law_mix : List Str := ["_law_cell", "_law_k", "_law_m"]
theorem sc__law_mix : FnScope N__law_mix ["_law_cell", "_law_k"] (defScope s__law_mix) := ⟨rfl, rfl, rfl, by decide +kernel, rfl, by decide +kernel, by decide +kernel⟩
def sp__law_mix (K : PySem.W.Frag) : Sp := fun vs H Q _ => ∃ (x k : Int), vs = [.int x, .int k] ∧ 0 ≤ k ∧ k < 10000000000 ∧ ∀ r : Int, 0 ≤ r → r < 1999999973 → Q (.int r) H
theorem ok__law_mix {f : Addr} {fd : FuncData} (F : Fun K "_law_mix" "_law_mix" s__law_mix f fd) (g : mg "_law_mix" = some (.ref f)) (bd : Binds K fd ["_law_cell", "_law_k"] []) : CF P w K mg base 1 "_law_mix" ["_law_cell", "_law_k"] (sp__law_mix K) := by
  refine ⟨f, fd, F.ok sc__law_mix (fun vs H Q E h => ?_) (fun cdv A outer s H vs Q E hr h => ?_), g, F.kp, bd⟩
  · first | (obtain ⟨_, rfl, _⟩ := h; rfl) | (obtain ⟨_, _, rfl, _⟩ := h; rfl) | (obtain ⟨_, _, _, rfl, _⟩ := h; rfl) | (obtain ⟨_, _, _, _, rfl, _⟩ := h; rfl) | (obtain ⟨_, _, _, _, _, rfl, _⟩ := h; rfl) | (obtain ⟨_, _, _, _, _, _, rfl, _⟩ := h; rfl) | (obtain ⟨_, _, _, _, _, _, _, rfl, _⟩ := h; rfl) | (obtain ⟨_, _, _, _, _, _, _, _, rfl, _⟩ := h; rfl) | (obtain ⟨_, _, _, _, _, _, _, _, _, rfl, _⟩ := h; rfl) | (obtain ⟨_, _, _, _, _, _, _, _, _, _, rfl, _⟩ := h; rfl) | (obtain ⟨_, _, _, _, _, _, _, _, _, _, _, rfl, _⟩ := h; rfl) | (obtain ⟨_, _, _, _, _, _, _, _, _, _, _, _, rfl, _⟩ := h; rfl) | (obtain ⟨_, _, _, _, _, _, _, _, _, _, _, _, _, rfl, _⟩ := h; rfl) | (obtain ⟨_, _, _, _, _, _, _, _, _, _, _, _, _, _, rfl, _⟩ := h; rfl) | (obtain ⟨_, _, _, _, _, _, _, _, _, _, _, _, _, _, _, rfl, _⟩ := h; rfl)
  · have hu64 := hr.units
    obtain ⟨x, k, rfl, k0, k1, q⟩ := h
    refine ⟨_, (pss_cons (ps_set (i := 2) sc__law_mix.nd rfl (.inl rfl) (pe_op op_mod (pe_op op_mul (pe_op op_add (pe_op op_add (pe_op op_mod (pv 0) pe_int) (pe_op op_mul (pe_op op_mul (pv 1) (pv 1)) pe_int)) pe_int) pe_int) pe_int))
      (pss_one (ps_ret (pe_op op_mod (pe_op op_mul (pv 2) (pv 2)) pe_int)))), ?_⟩
    refine ⟨_, rfl, _, _, rfl, rfl, (by show (0 : Int) < 2147483629; decide), _, rfl, _, rfl, _, _, rfl, rfl, .inl ⟨by omega, by omega⟩, _, _, rfl, rfl, .inr ⟨by decide, by decide⟩, _, _, rfl, rfl, _, _, rfl, rfl, _, _, rfl, rfl, .inr ⟨by decide, by decide⟩, _, _, rfl, rfl, (by show (0 : Int) < 2147483647; decide), ?_⟩
    have o0 := Int.emod_nonneg ((x % 2147483629 + k * k * 7919 + 11) * 48271) (show (2147483647 : Int) ≠ 0 by decide)
    have o1 := Int.emod_lt_of_pos ((x % 2147483629 + k * k * 7919 + 11) * 48271) (show (0 : Int) < 2147483647 by decide)
    exact ⟨_, rfl, _, rfl, _, _, rfl, rfl, .inl ⟨by omega, by omega⟩, _, _, rfl, rfl, (by show (0 : Int) < 1999999973; decide), q _ (Int.emod_nonneg _ (by decide)) (Int.emod_lt_of_pos _ (by decide))⟩
/-! ### _law_pick -/
abbrev s__law_pick : Stmt := topS 25
abbrev N__law_pick : List Str := ["_law_left", "_law_many", "_law_digit", "_law_cells", "_law_cell"]
theorem sc__law_pick : FnScope N__law_pick ["_law_left", "_law_many"] (defScope s__law_pick) := ⟨rfl, rfl, rfl, by decide +kernel, rfl, by decide +kernel, by decide +kernel⟩
def sp__law_pick (K : PySem.W.Frag) : Sp := fun vs H Q _ => ∃ (b c : Addr) (m n : Int), vs = [.ref b, .int m] ∧ Left H b c n ∧ 0 < m ∧ m < 1073741824 ∧ n < 1000000000 ∧ ∀ (r : Int) H', 0 ≤ r → r < m → Left H' b c (n + 1) → But b H H' → Q (.int r) H'
theorem ok__law_pick {f : Addr} {fd : FuncData} (F : Fun K "_law_pick" "_law_pick" s__law_pick f fd) (g : mg "_law_pick" = some (.ref f)) (bd : Binds K fd ["_law_left", "_law_many"] []) (m_len : mg "len" = none) (C__law_mix : CF P w K mg base 1 "_law_mix" ["_law_cell", "_law_k"] (sp__law_mix K)) : CF P w K mg base 2 "_law_pick" ["_law_left", "_law_many"] (sp__law_pick K) := by
  refine ⟨f, fd, F.ok sc__law_pick (fun vs H Q E h => ?_) (fun cdv A outer s H vs Q E hr h => ?_), g, F.kp, bd⟩
  · first | (obtain ⟨_, rfl, _⟩ := h; rfl) | (obtain ⟨_, _, rfl, _⟩ := h; rfl) | (obtain ⟨_, _, _, rfl, _⟩ := h; rfl) | (obtain ⟨_, _, _, _, rfl, _⟩ := h; rfl) | (obtain ⟨_, _, _, _, _, rfl, _⟩ := h; rfl) | (obtain ⟨_, _, _, _, _, _, rfl, _⟩ := h; rfl) | (obtain ⟨_, _, _, _, _, _, _, rfl, _⟩ := h; rfl) | (obtain ⟨_, _, _, _, _, _, _, _, rfl, _⟩ := h; rfl) | (obtain ⟨_, _, _, _, _, _, _, _, _, rfl, _⟩ := h; rfl) | (obtain ⟨_, _, _, _, _, _, _, _, _, _, rfl, _⟩ := h; rfl) | (obtain ⟨_, _, _, _, _, _, _, _, _, _, _, rfl, _⟩ := h; rfl) | (obtain ⟨_, _, _, _, _, _, _, _, _, _, _, _, rfl, _⟩ := h; rfl) | (obtain ⟨_, _, _, _, _, _, _, _, _, _, _, _, _, rfl, _⟩ := h; rfl) | (obtain ⟨_, _, _, _, _, _, _, _, _, _, _, _, _, _, rfl, _⟩ := h; rfl) | (obtain ⟨_, _, _, _, _, _, _, _, _, _, _, _, _, _, _, rfl, _⟩ := h; rfl)
  · have hu64 := hr.units
    obtain ⟨b, c, m, n, rfl, ⟨x, z, ns, hb, hc, hx, hz, hz2, hl0, hl1⟩, hm, hm2, hn, q⟩ := h
    refine ⟨_, (pss_cons (ps_asg (pe_op op_add (pe_ix (kk_ixl K) (pv 0) pe_int (fun _ _ => rfl)) pe_int) (pg_sub (pv 0) pe_int set_list))
      (pss_cons (ps_if (pt_cmpR op_gt (pe_ix (kk_ixl K) (pv 0) pe_int (fun _ _ => rfl)) pe_int (nomark _))
         (pss_cons (ps_set (i := 2) sc__law_pick.nd rfl (.inl rfl) (pe_op op_mod (pe_ix (kk_ixl K) (pv 0) pe_int (fun _ _ => rfl)) (pv 1)))
          (pss_cons (ps_asg (pe_op op_fdiv (pe_ix (kk_ixl K) (pv 0) pe_int (fun _ _ => rfl)) (pv 1)) (pg_sub (pv 0) pe_int set_list))
          (pss_one (ps_ret (pv 2)))))
         pss_nil)
      (pss_cons (ps_set (i := 3) sc__law_pick.nd rfl (.inl rfl) (pe_ix (kk_ixl K) (pv 0) pe_int (fun _ _ => rfl)))
      (pss_cons (ps_set (i := 4) sc__law_pick.nd rfl (.inl rfl) (pe_op op_add (pe_ix (kk_ixl K) (pv 3) (pe_op op_mod (pe_ix (kk_ixl K) (pv 0) pe_int (fun _ _ => rfl)) (pe_callB (kk_len K) (by rfl) m_len PySem.boot_len (pa_cons (pv 3) pa_nil))) (fun _ _ => rfl)) (pe_op op_mul pe_int (pe_op op_fdiv (pe_ix (kk_ixl K) (pv 0) pe_int (fun _ _ => rfl)) (pe_callB (kk_len K) (by rfl) m_len PySem.boot_len (pa_cons (pv 3) pa_nil))))))
      (pss_one (ps_ret (pe_op op_mod (pe_op op_fdiv (pe_cf C__law_mix (hr.mono (by decide)) (by rfl) (pa_cons (pe_cf C__law_mix (hr.mono (by decide)) (by rfl) (pa_cons (pv 4) (pa_cons (pe_ix (kk_ixl K) (pv 0) pe_int (fun _ _ => rfl)) pa_nil))) (pa_cons (pe_op op_add (pe_ix (kk_ixl K) (pv 0) pe_int (fun _ _ => rfl)) pe_int) pa_nil))) pe_int) (pv 1)))))))), ?_⟩
    have ncb := left_cells hb hc
    have h1 : (upd H b (.lst [.int x, .ref c, .int (z + 1)])) b = some (.lst [.int x, .ref c, .int (z + 1)]) := upd_same
    have c1 : (upd H b (.lst [.int x, .ref c, .int (z + 1)])) c = some (.lst (ns.map V.int)) := by rw [upd_ne ncb]; exact hc
    refine ⟨_, rfl, b, _, _, _, rfl, rfl, SqL.of hb, rfl, _, _, rfl, rfl, _, rfl, b, _, _, _, rfl, rfl, hb, rfl, ?_⟩
    refine ⟨_, rfl, b, _, _, _, rfl, rfl, SqL.of h1, rfl, _, _, rfl, rfl, _, rfl, ite2 (fun e => ?_) (fun e => ?_)⟩
    · refine ⟨_, rfl, b, _, _, _, rfl, rfl, SqL.of h1, rfl, _, rfl, _, _, rfl, rfl, hm, ?_⟩
      refine ⟨_, rfl, b, _, _, _, rfl, rfl, SqL.of h1, rfl, _, rfl, _, _, rfl, rfl, ⟨hm, hm2⟩, _, rfl, b, _, _, _, rfl, rfl, h1, rfl, ?_⟩
      refine ⟨_, rfl, q _ _ (Int.emod_nonneg _ (by omega)) (Int.emod_lt_of_pos _ hm) ⟨x / m, z + 1, ns, upd_same, by rw [upd_ne ncb]; exact c1, Int.ediv_nonneg hx (by omega), by omega, by omega, hl0, hl1⟩ (But.upd.trans But.upd)⟩
    · have hlp : (0 : Int) < ((ns.map V.int).length : Int) := by rw [List.length_map]; omega
      have m0 := Int.emod_nonneg (z + 1) (show ((ns.map V.int).length : Int) ≠ 0 by omega)
      have m1 := Int.emod_lt_of_pos (z + 1) hlp
      have hlen : ((ns.map V.int).length : Int) = (ns.length : Int) := by rw [List.length_map]
      obtain ⟨d, hd⟩ := at_int (ns := ns) m0 (by rw [← hlen]; exact m1)
      refine ⟨_, rfl, b, _, _, _, rfl, rfl, SqL.of h1, rfl, ?_⟩
      refine ⟨_, rfl, _, rfl, b, _, _, _, rfl, rfl, SqL.of h1, rfl, _, rfl, c, _, rfl, .inl (SqL.of c1), _, _, rfl, rfl, hlp, c, _, _, _, rfl, rfl, SqL.of c1, hd, ?_⟩
      refine ⟨_, rfl, b, _, _, _, rfl, rfl, SqL.of h1, rfl, _, rfl, c, _, rfl, .inl (SqL.of c1), _, _, rfl, rfl, ⟨hlp, by omega⟩, _, _, rfl, rfl, .inl ⟨by decide, by decide⟩, _, _, rfl, rfl, ?_⟩
      refine ⟨_, rfl, _, rfl, b, _, _, _, rfl, rfl, SqL.of h1, rfl, _, z + 1, rfl, by omega, by omega, fun r1 r10 r11 => ?_⟩
      refine ⟨_, rfl, b, _, _, _, rfl, rfl, SqL.of h1, rfl, _, _, rfl, rfl, r1, z + 1 + 64, rfl, by omega, by omega, fun r2 r20 r21 => ?_⟩
      exact ⟨_, _, rfl, rfl, ⟨by decide, by decide⟩, _, rfl, _, _, rfl, rfl, hm, q _ _ (Int.emod_nonneg _ (by omega)) (Int.emod_lt_of_pos _ hm) ⟨x, z + 1, ns, h1, c1, hx, by omega, by omega, hl0, hl1⟩ But.upd⟩
/-! ### _law_drawn_from -/
abbrev s__law_drawn_from : Stmt := topS 24
abbrev N__law_drawn_from : List Str := ["_law_script", "_law_k", "_law_cell"]
theorem sc__law_drawn_from : FnScope N__law_drawn_from ["_law_script", "_law_k"] (defScope s__law_drawn_from) := ⟨rfl, rfl, rfl, by decide +kernel, rfl, by decide +kernel, by decide +kernel⟩
def sp__law_drawn_from (K : PySem.W.Frag) : Sp := fun vs H Q _ => ∃ (a : Addr) (k : Int) (ns : List Int), vs = [.ref a, .int k] ∧ SqL K H a (ns.map V.int) ∧ ns.length ≤ 63 ∧ 0 ≤ k ∧ k ≤ 63 ∧ ∀ H' b c, H b = none → H c = none → Same H H' → Left H' b c (1009 * k) → Q (.ref b) H'
theorem big_or (c : Int) : ∃ x : Int, atI [V.int 0, .int (if c < 0 then -c else c)] (if decide (10 ^ (18 : Int).toNat ≤ (if c < 0 then -c else c)) = true then 1 else 0) = some (.int x) ∧ 0 ≤ x := by
  by_cases h : 10 ^ (18 : Int).toNat ≤ (if c < 0 then -c else c)
  · rw [decide_eq_true h]
    refine ⟨_, rfl, ?_⟩
    split <;> omega
  · rw [decide_eq_false h]
    exact ⟨0, rfl, by decide⟩
theorem ok__law_drawn_from {f : Addr} {fd : FuncData} (F : Fun K "_law_drawn_from" "_law_drawn_from" s__law_drawn_from f fd) (g : mg "_law_drawn_from" = some (.ref f)) (bd : Binds K fd ["_law_script", "_law_k"] []) (m_len : mg "len" = none) (m_abs : mg "abs" = none) (m_int : mg "int" = none) : CF P w K mg base 1 "_law_drawn_from" ["_law_script", "_law_k"] (sp__law_drawn_from K) := by
  refine ⟨f, fd, F.ok sc__law_drawn_from (fun vs H Q E h => ?_) (fun cdv A outer s H vs Q E hr h => ?_), g, F.kp, bd⟩
  · first | (obtain ⟨_, rfl, _⟩ := h; rfl) | (obtain ⟨_, _, rfl, _⟩ := h; rfl) | (obtain ⟨_, _, _, rfl, _⟩ := h; rfl) | (obtain ⟨_, _, _, _, rfl, _⟩ := h; rfl) | (obtain ⟨_, _, _, _, _, rfl, _⟩ := h; rfl) | (obtain ⟨_, _, _, _, _, _, rfl, _⟩ := h; rfl) | (obtain ⟨_, _, _, _, _, _, _, rfl, _⟩ := h; rfl) | (obtain ⟨_, _, _, _, _, _, _, _, rfl, _⟩ := h; rfl) | (obtain ⟨_, _, _, _, _, _, _, _, _, rfl, _⟩ := h; rfl) | (obtain ⟨_, _, _, _, _, _, _, _, _, _, rfl, _⟩ := h; rfl) | (obtain ⟨_, _, _, _, _, _, _, _, _, _, _, rfl, _⟩ := h; rfl) | (obtain ⟨_, _, _, _, _, _, _, _, _, _, _, _, rfl, _⟩ := h; rfl) | (obtain ⟨_, _, _, _, _, _, _, _, _, _, _, _, _, rfl, _⟩ := h; rfl) | (obtain ⟨_, _, _, _, _, _, _, _, _, _, _, _, _, _, rfl, _⟩ := h; rfl) | (obtain ⟨_, _, _, _, _, _, _, _, _, _, _, _, _, _, _, rfl, _⟩ := h; rfl)
  · have hu64 := hr.units
    obtain ⟨a, k, ns, rfl, hS, hlen, hk0, hk, q⟩ := h
    refine ⟨_, (pss_cons (ps_set (i := 2) sc__law_drawn_from.nd rfl (.inl rfl) (pe_ifExp (pt_cmpR op_lt (pv 1) (pe_callB (kk_len K) (by rfl) m_len PySem.boot_len (pa_cons (pv 0) pa_nil)) (nomark _)) (pe_ix (kk_ixl K) (pv 0) (pv 1) (fun _ _ => rfl)) pe_int))
      (pss_one (ps_ret (pe_lst (pa_cons (pe_ix (kk_ixl K) (pe_lst (pa_cons pe_int (pa_cons (pe_callB call_abs (by rfl) m_abs (by decide +kernel) (pa_cons (pv 2) pa_nil)) pa_nil))) (pe_callTy call_int1 (by rfl) m_int (by decide +kernel) (pa_cons (pe_cmpR op_ge (pe_callB call_abs (by rfl) m_abs (by decide +kernel) (pa_cons (pv 2) pa_nil)) (pe_op op_pow pe_int pe_int) (nomark _)) pa_nil)) (fun _ _ => rfl)) (pa_cons (pe_ifExp (pt_cmpR op_gt (pe_callB (kk_len K) (by rfl) m_len PySem.boot_len (pa_cons (pv 0) pa_nil)) pe_int (nomark _)) (pe_slice (kk_sll K) (pv 0) po_none (po_some pe_int)) (pe_lst (pa_cons pe_int pa_nil))) (pa_cons (pe_op op_mul pe_int (pv 1)) pa_nil))))))), ?_⟩
    refine ⟨_, rfl, _, rfl, a, _, rfl, .inl hS, _, _, rfl, rfl, _, rfl, ite2 (fun e => ?c1) (fun e => ?c2)⟩
    case' c1 =>
      have e1 := of_decide_eq_true e
      rw [List.length_map] at e1
      obtain ⟨d, hd⟩ := at_int hk0 e1
      refine ⟨_, rfl, _, rfl, a, _, _, _, rfl, rfl, hS, hd, ?_⟩
    all_goals
      refine ⟨_, rfl, _, rfl, (by show 2 ≤ sizeLine; decide), fun p hp => ?_⟩
      refine ⟨_, rfl, _, rfl, _, _, rfl, rfl, ⟨by decide, by decide, by decide⟩, _, _, rfl, rfl, .inr ⟨_, rfl, p, _, _, _, rfl, rfl, SqL.of upd_same, (big_or _).choose_spec.1, ?_⟩⟩
      have s1 := fun o => same_new (o := o) hp
      refine ⟨_, rfl, a, _, rfl, .inl ((s1 _).seq hS), _, _, rfl, rfl, _, rfl, ite2 (fun e2 => ?_) (fun e2 => ?_)⟩
      · have e3 := of_decide_eq_true e2
        rw [List.length_map] at e3
        refine ⟨_, rfl, _, rfl, a, _, rfl, (s1 _).seq hS, fun c nc => ?_⟩
        refine ⟨_, rfl, _, _, rfl, rfl, .inl ⟨by decide, by decide⟩, (by show 3 ≤ sizeLine; decide), fun l nl => ?_⟩
        refine q _ l c (none_of ((s1 _).trans (same_new nc)) nl) (none_of (s1 _) nc) (((s1 _).trans (same_new nc)).trans (same_new nl)) ⟨_, _, ns, upd_same, ?_, (big_or _).choose_spec.2, by omega, by omega, by omega, hlen⟩
        rw [upd_ne (ne_of_none upd_same nl), upd_same]
        exact congrArg (fun z => some (HO.lst z)) (cut_to (k := 63) (by rw [List.length_map]; exact hlen))
      · refine ⟨(by show 1 ≤ sizeLine; decide), fun c nc => ?_⟩
        refine ⟨_, rfl, _, _, rfl, rfl, .inl ⟨by decide, by decide⟩, (by show 3 ≤ sizeLine; decide), fun l nl => ?_⟩
        refine q _ l c (none_of ((s1 _).trans (same_new nc)) nl) (none_of (s1 _) nc) (((s1 _).trans (same_new nc)).trans (same_new nl)) ⟨_, _, [7], upd_same, ?_, (big_or _).choose_spec.2, by omega, by omega, by decide, by decide⟩
        rw [upd_ne (ne_of_none upd_same nl), upd_same]
        rfl
/-! ### _law_keep -/
abbrev s__law_keep : Stmt := topS 26
abbrev N__law_keep : List Str := ["_law_left", "_law_many", "_law_some", "_law_turn"]
theorem sc__law_keep : FnScope N__law_keep ["_law_left", "_law_many"] (defScope s__law_keep) := ⟨rfl, rfl, rfl, by decide +kernel, rfl, by decide +kernel, by decide +kernel⟩
def sp__law_keep (K : PySem.W.Frag) : Sp := fun vs H Q _ => ∃ (b c : Addr) (m n : Int), vs = [.ref b, .int m] ∧ Left H b c n ∧ 1 ≤ m ∧ m ≤ 6 ∧ n < 999999000 ∧ ∀ H' v kd ks, Left H' b c (n + 20) → But b H H' → Keep K H' m ks v kd → Q v H'
theorem ok__law_keep {f : Addr} {fd : FuncData} (F : Fun K "_law_keep" "_law_keep" s__law_keep f fd) (g : mg "_law_keep" = some (.ref f)) (bd : Binds K fd ["_law_left", "_law_many"] []) (m_tuple : mg "tuple" = none) (m_range : mg "range" = none) (C__law_pick : CF P w K mg base 2 "_law_pick" ["_law_left", "_law_many"] (sp__law_pick K)) : CF P w K mg base 3 "_law_keep" ["_law_left", "_law_many"] (sp__law_keep K) := by
  refine ⟨f, fd, F.ok sc__law_keep (fun vs H Q E h => ?_) (fun cdv A outer s H vs Q E hr h => ?_), g, F.kp, bd⟩
  · first | (obtain ⟨_, rfl, _⟩ := h; rfl) | (obtain ⟨_, _, rfl, _⟩ := h; rfl) | (obtain ⟨_, _, _, rfl, _⟩ := h; rfl) | (obtain ⟨_, _, _, _, rfl, _⟩ := h; rfl) | (obtain ⟨_, _, _, _, _, rfl, _⟩ := h; rfl) | (obtain ⟨_, _, _, _, _, _, rfl, _⟩ := h; rfl) | (obtain ⟨_, _, _, _, _, _, _, rfl, _⟩ := h; rfl) | (obtain ⟨_, _, _, _, _, _, _, _, rfl, _⟩ := h; rfl) | (obtain ⟨_, _, _, _, _, _, _, _, _, rfl, _⟩ := h; rfl) | (obtain ⟨_, _, _, _, _, _, _, _, _, _, rfl, _⟩ := h; rfl) | (obtain ⟨_, _, _, _, _, _, _, _, _, _, _, rfl, _⟩ := h; rfl) | (obtain ⟨_, _, _, _, _, _, _, _, _, _, _, _, rfl, _⟩ := h; rfl) | (obtain ⟨_, _, _, _, _, _, _, _, _, _, _, _, _, rfl, _⟩ := h; rfl) | (obtain ⟨_, _, _, _, _, _, _, _, _, _, _, _, _, _, rfl, _⟩ := h; rfl) | (obtain ⟨_, _, _, _, _, _, _, _, _, _, _, _, _, _, _, rfl, _⟩ := h; rfl)
  · have hu64 := hr.units
    obtain ⟨b, c, m, n, rfl, hL, hm, hm6, hn, q⟩ := h
    refine ⟨_, (pss_cons (ps_set (i := 2) sc__law_keep.nd rfl (.inr rfl) (pe_lst (pa_cons pe_int (pa_cons pe_int (pa_cons (pe_cf C__law_pick (hr.mono (by decide)) (by rfl) (pa_cons (pv 0) (pa_cons pe_int pa_nil))) (pa_cons (pe_op op_mul pe_int (pe_cf C__law_pick (hr.mono (by decide)) (by rfl) (pa_cons (pv 0) (pa_cons pe_int pa_nil)))) pa_nil))))))
      (pss_cons (ps_if (pt_cmpR op_eq (pe_cf C__law_pick (hr.mono (by decide)) (by rfl) (pa_cons (pv 0) (pa_cons pe_int pa_nil))) pe_int (nomark _))
         (pss_one (ps_ret (pe_ix (kk_ixl K) (pv 2) (pe_cf C__law_pick (hr.mono (by decide)) (by rfl) (pa_cons (pv 0) (pa_cons pe_int pa_nil))) (fun _ _ => rfl))))
         pss_nil)
      (pss_cons (ps_if (pt_cmpR op_eq (pe_cf C__law_pick (hr.mono (by decide)) (by rfl) (pa_cons (pv 0) (pa_cons pe_int pa_nil))) pe_int (nomark _))
         (pss_one (ps_ret (pe_op (kk_repA K) (pe_tup (pa_cons (pe_ix (kk_ixl K) (pv 2) (pe_cf C__law_pick (hr.mono (by decide)) (by rfl) (pa_cons (pv 0) (pa_cons pe_int pa_nil))) (fun _ _ => rfl)) pa_nil)) (pv 1))))
         pss_nil)
      (pss_one (ps_ret (pe_callTy (kk_tuple K) (by rfl) m_tuple (by decide +kernel) (pa_cons (pe_lc (own := [("_law_turn", 3)]) (g := (gName 3)) (tt := tYes) rfl sc__law_keep.nd (pi_range1 (by rfl) m_range (pa_cons (pv 1) pa_nil)) (blkOk_by (own := [("_law_turn", 3)]) (N := N__law_keep) (sc := defScope s__law_keep) (by decide +kernel)) (fun _ _ _ _ _ => pg_name (i := 3) sc__law_keep.nd rfl (Or.inl rfl)) (fun _ _ _ _ _ => pts_nil) (fun _ _ _ _ _ => (pe_ix (kk_ixl K) (pe_lst (pa_cons pe_int (pa_cons pe_int (pa_cons (pe_cf C__law_pick (hr.mono (by decide)) (by rfl) (pa_cons (pv 0) (pa_cons pe_int pa_nil))) (pa_cons (pe_ix (kk_ixl K) (pv 2) pe_int (fun _ _ => rfl)) pa_nil))))) (pe_cf C__law_pick (hr.mono (by decide)) (by rfl) (pa_cons (pv 0) (pa_cons pe_int pa_nil))) (fun _ _ => rfl)))) pa_nil))))))), ?_⟩
    refine ⟨_, rfl, b, c, 101, n, rfl, hL, by decide, by decide, by omega, fun r1 H1 r10 r11 L1 t1 => ?_⟩
    refine ⟨_, rfl, b, c, 21, n + 1, rfl, L1, by decide, by decide, by omega, fun r2 H2 r20 r21 L2 t2 => ?_⟩
    refine ⟨_, _, rfl, rfl, .inl ⟨by decide, by decide⟩, (by show 4 ≤ sizeLine; decide), fun s hs => ?_⟩
    have L3 := L2.new (o := .lst [.int 0, .int 100, .int r1, .int (5 * r2)]) hs
    have t3 : But b H _ := (t1.trans t2).trans (But.new (o := .lst [.int 0, .int 100, .int r1, .int (5 * r2)]) hs)
    have nsb : s ≠ b := L2.ne hs
    have e3 := upd_same (H := H2) (a := s) (o := .lst [.int 0, .int 100, .int r1, .int (5 * r2)])
    have pk : ∀ {r : Int}, 0 ≤ r → r < 4 → ∃ v : Int, atI [V.int 0, .int 100, .int r1, .int (5 * r2)] r = some (.int v) ∧ 0 ≤ v ∧ v ≤ 100 := fun h0 h1 => pick4i h0 h1 (by omega) (by omega) (by omega) (by omega)
    refine ⟨_, rfl, b, c, 2, n + 1 + 1, rfl, L3, by decide, by decide, by omega, fun r3 H4 _ _ L4 t4 => ⟨rfl, _, rfl, ite2 (fun _ => ?_) (fun _ => ?_)⟩⟩
    · refine ⟨_, rfl, _, rfl, b, c, 4, n + 1 + 1 + 1, rfl, L4, by decide, by decide, by omega, fun r5 H5 r50 r51 L5 t5 => ?_⟩
      obtain ⟨v, hv, v0, v1⟩ := pk r50 r51
      exact ⟨s, _, _, _, rfl, rfl, SqL.of (t5 _ _ nsb (t4 _ _ nsb e3)), hv, q _ _ _ _ (L5.mono (by omega)) ((t3.trans t4).trans t5) (.one v v0 v1 rfl)⟩
    refine ⟨_, rfl, b, c, 4, n + 1 + 1 + 1, rfl, L4, by decide, by decide, by omega, fun r4 H5 _ _ L5 t5 => ⟨rfl, _, rfl, ite2 (fun _ => ?_) (fun _ => ?_)⟩⟩
    · refine ⟨_, rfl, _, rfl, b, c, 4, n + 1 + 1 + 1 + 1, rfl, L5, by decide, by decide, by omega, fun r5 H6 r50 r51 L6 t6 => ?_⟩
      obtain ⟨v, hv, v0, v1⟩ := pk r50 r51
      refine ⟨s, _, _, _, rfl, rfl, SqL.of (t6 _ _ nsb (t5 _ _ nsb (t4 _ _ nsb e3))), hv, (by show 1 ≤ sizeLine; decide), fun t ht => ⟨_, rfl, ?_⟩⟩
      have t7 : But b H (upd H6 t (.tup [.int v])) := (((t3.trans t4).trans t5).trans t6).trans (But.new ht)
      by_cases hp1 : m = 1
      · subst hp1
        refine .inr ⟨t, [.int v], rfl, rfl, SqT.of upd_same, by simp, ?_⟩
        exact q _ _ _ [v] ((L6.new ht).mono (by omega)) t7 (.all t (SqT.of upd_same) rfl fun k hk => by rw [List.mem_singleton.mp hk]; exact ⟨v0, v1⟩)
      · refine .inl ⟨t, m, [.int v], rfl, rfl, SqT.of upd_same, by simp, by omega, by omega, (by show 1 ≤ 1000; decide), fun t2 ht2 => ?_⟩
        refine q _ _ _ (List.replicate m.toNat v) (((L6.new ht).new ht2).mono (by omega)) (t7.trans (But.new ht2)) (.all t2 (SqT.of ?_) ?_ fun k hk => by rw [List.eq_of_mem_replicate hk]; exact ⟨v0, v1⟩)
        · rw [upd_same, rep1, List.map_replicate]
        · rw [List.length_replicate]
          omega
    · refine ⟨_, rfl, _, rfl, by omega, by omega, fun D hD => lc_range (lo := 0) (n := m.toNat) (fun i H' => But b H5 H' ∧ Left H' b c (n + 4 + 2 * i) ∧ ∃ ks : List Int, ks.length = i ∧ (∀ k ∈ ks, 0 ≤ k ∧ k ≤ 100) ∧ H' D = some (.lst (ks.map V.int))) ⟨But.new hD, (L5.mono (by omega)).new hD, [], rfl, fun _ h => (nomatch h), upd_same⟩ (fun i H' hi h => ?_) (fun H' h => ?_)⟩
      · obtain ⟨t6, L6, ks, hks, hkb, hDl⟩ := h
        have hDb : D ≠ b := L5.ne hD
        have hDc : D ≠ c := L5.ne2 hD
        refine ⟨rfl, _, rfl, b, c, 101, _, rfl, L6, by decide, by decide, by omega, fun r5 H7 r50 r51 L7 t7 => ?_⟩
        refine ⟨_, rfl, s, _, _, _, rfl, rfl, SqL.of (t7 _ _ nsb (t6 _ _ nsb (t5 _ _ nsb (t4 _ _ nsb e3)))), rfl, (by show 4 ≤ sizeLine; decide), fun l hl => ?_⟩
        refine ⟨_, rfl, b, c, 4, _, rfl, L7.new hl, by decide, by decide, by omega, fun r6 H8 r60 r61 L8 t8 => ?_⟩
        obtain ⟨v, hv, v0, v1⟩ := pick4i (lo := 0) (hi := 100) (x := 0) (y := 100) (z := r5) (u := 5 * r2) r60 r61 (by omega) (by omega) (by omega) (by omega)
        have hlb : l ≠ b := L7.ne hl
        have hD8 : H8 D = some (.lst (ks.map V.int)) := t8 _ _ hDb ((But.new (b := b) hl) _ _ hDb (t7 _ _ hDb hDl))
        refine ⟨l, _, _, _, rfl, rfl, SqL.of (t8 _ _ hlb upd_same), hv, _, hD8, ?_, ?_, ?_, ks ++ [v], ?_, ?_, ?_⟩
        · rw [List.length_map, hks]
          exact small1000 (by omega)
        · exact fun e o ne he => by
            rw [upd_ne (ne_of_none (show H5 e = some o from he) hD)]
            exact t8 _ _ ne ((But.new (b := b) hl) _ _ ne (t7 _ _ ne (t6 _ _ ne he)))
        · exact (L8.mono (by omega)).upd hDb hDc
        · rw [List.length_append, hks]
          rfl
        · intro k hk
          rcases List.mem_append.mp hk with z | z
          · exact hkb k z
          · rw [List.mem_singleton.mp z]
            exact ⟨v0, v1⟩
        · rw [upd_same, List.map_append]
          rfl
      · obtain ⟨t6, L6, ks, hks, hkb, hDl⟩ := h
        refine ⟨D, _, rfl, .inl ⟨SqL.of hDl, fun t ht => ?_⟩⟩
        exact q _ _ _ ks ((L6.new ht).mono (by omega)) ((((t3.trans t4).trans t5).trans t6).trans (But.new ht)) (.all t (SqT.of upd_same) (by omega) hkb)
def Drawn (K : PySem.W.Frag) (H : Hp) (t : Addr) (f : Fg) (kv : V) (kd : PyData) : Prop := SqT K H t [.int f.p, .int f.s, .int f.g, .bl f.l, .int f.m, kv, .int f.fi, .int f.fa, .int f.ba] ∧ Figs f.p f.s f.g f.m f.fi f.fa f.ba ∧ Keep K H f.p f.ks kv kd
theorem Keep.same {K : PySem.W.Frag} {H H' : Hp} {p : Int} {ks : List Int} {v : V} {d : PyData} (h : Keep K H p ks v d) (e : Same H H') : Keep K H' p ks v d := by
  cases h with
  | one k h0 h1 e => exact .one k h0 h1 e
  | all a h hl hb => exact .all a (seqT_same e h) hl hb
theorem Keep.but {K : PySem.W.Frag} {H H' : Hp} {b c : Addr} {n p : Int} {ks : List Int} {v : V} {d : PyData} (h : Keep K H p ks v d) (e : But b H H') (l : Left H b c n) : Keep K H' p ks v d := by
  cases h with
  | one k h0 h1 e => exact .one k h0 h1 e
  | all a h hl hb => exact .all a (e.seqT l h) hl hb
theorem Drawn.same {K : PySem.W.Frag} {H H' : Hp} {t : Addr} {f : Fg} {kv : V} {kd : PyData} (h : Drawn K H t f kv kd) (e : Same H H') : Drawn K H' t f kv kd := ⟨seqT_same e h.1, h.2.1, h.2.2.same e⟩
theorem Drawn.but {K : PySem.W.Frag} {H H' : Hp} {b c t : Addr} {n : Int} {f : Fg} {kv : V} {kd : PyData} (h : Drawn K H t f kv kd) (e : But b H H') (l : Left H b c n) : Drawn K H' t f kv kd := ⟨e.seqT l h.1, h.2.1, h.2.2.but e l⟩
theorem Drawn.ok {K : PySem.W.Frag} {H : Hp} {t : Addr} {f : Fg} {kv : V} {kd : PyData} (h : Drawn K H t f kv kd) : f.Ok := by
  obtain ⟨_, F, k⟩ := h
  refine ⟨F, ?_, ?_⟩
  · cases k with
    | one k h0 h1 e =>
      have := F.p0
      rw [e, List.length_replicate]
      omega
    | all a h hl hb => exact hl
  · cases k with
    | one k h0 h1 e =>
      intro x hx
      rw [e] at hx
      rw [List.eq_of_mem_replicate hx]
      exact ⟨h0, h1⟩
    | all a h hl hb => exact hb
def mostN : Nat → Int
  | 0 => 100
  | _ => 30
theorem most_at {i : Nat} {x : V} (h : [V.int 100, .int 30, .int 30][i]? = some x) : i < 3 ∧ x = .int (mostN i) ∧ 30 ≤ mostN i ∧ mostN i ≤ 100 := by
  match i, h with
  | 0, h => cases h; exact ⟨by decide, rfl, by decide, by decide⟩
  | 1, h => cases h; exact ⟨by decide, rfl, by decide, by decide⟩
  | 2, h => cases h; exact ⟨by decide, rfl, by decide, by decide⟩
  | n + 3, h => cases h
/-! ### _law_some_rule -/
abbrev s__law_some_rule : Stmt := topS 27
abbrev N__law_some_rule : List Str := ["_law_left", "_law_many", "_law_far", "_law_found", "_law_most"]
theorem sc__law_some_rule : FnScope N__law_some_rule ["_law_left"] (defScope s__law_some_rule) := ⟨rfl, rfl, rfl, by decide +kernel, rfl, by decide +kernel, by decide +kernel⟩
def sp__law_some_rule (K : PySem.W.Frag) : Sp := fun vs H Q _ => ∃ (b c : Addr) (n : Int), vs = [.ref b] ∧ Left H b c n ∧ n < 999990000 ∧ ∀ H' t f kv kd, Left H' b c (n + 40) → But b H H' → Drawn K H' t f kv kd → Q (.ref t) H'
theorem ok__law_some_rule {f : Addr} {fd : FuncData} (F : Fun K "_law_some_rule" "_law_some_rule" s__law_some_rule f fd) (g : mg "_law_some_rule" = some (.ref f)) (bd : Binds K fd ["_law_left"] []) (m_tuple : mg "tuple" = none) (C__law_pick : CF P w K mg base 2 "_law_pick" ["_law_left", "_law_many"] (sp__law_pick K)) (C__law_keep : CF P w K mg base 3 "_law_keep" ["_law_left", "_law_many"] (sp__law_keep K)) : CF P w K mg base 4 "_law_some_rule" ["_law_left"] (sp__law_some_rule K) := by
  refine ⟨f, fd, F.ok sc__law_some_rule (fun vs H Q E h => ?_) (fun cdv A outer s H vs Q E hr h => ?_), g, F.kp, bd⟩
  · first | (obtain ⟨_, rfl, _⟩ := h; rfl) | (obtain ⟨_, _, rfl, _⟩ := h; rfl) | (obtain ⟨_, _, _, rfl, _⟩ := h; rfl) | (obtain ⟨_, _, _, _, rfl, _⟩ := h; rfl) | (obtain ⟨_, _, _, _, _, rfl, _⟩ := h; rfl) | (obtain ⟨_, _, _, _, _, _, rfl, _⟩ := h; rfl) | (obtain ⟨_, _, _, _, _, _, _, rfl, _⟩ := h; rfl) | (obtain ⟨_, _, _, _, _, _, _, _, rfl, _⟩ := h; rfl) | (obtain ⟨_, _, _, _, _, _, _, _, _, rfl, _⟩ := h; rfl) | (obtain ⟨_, _, _, _, _, _, _, _, _, _, rfl, _⟩ := h; rfl) | (obtain ⟨_, _, _, _, _, _, _, _, _, _, _, rfl, _⟩ := h; rfl) | (obtain ⟨_, _, _, _, _, _, _, _, _, _, _, _, rfl, _⟩ := h; rfl) | (obtain ⟨_, _, _, _, _, _, _, _, _, _, _, _, _, rfl, _⟩ := h; rfl) | (obtain ⟨_, _, _, _, _, _, _, _, _, _, _, _, _, _, rfl, _⟩ := h; rfl) | (obtain ⟨_, _, _, _, _, _, _, _, _, _, _, _, _, _, _, rfl, _⟩ := h; rfl)
  · have hu64 := hr.units
    obtain ⟨b, c, n, rfl, hL, hn, q⟩ := h
    refine ⟨_, (pss_cons (ps_par (i := 1) (j := 2) (by rfl) sc__law_some_rule.nd rfl rfl (by decide) rfl rfl (pa_cons (pe_ix (kk_ixl K) (pe_lst (pa_cons pe_int (pa_cons pe_int (pa_cons (pe_op op_add pe_int (pe_cf C__law_pick (hr.mono (by decide)) (by rfl) (pa_cons (pv 0) (pa_cons pe_int pa_nil)))) pa_nil)))) (pe_cf C__law_pick (hr.mono (by decide)) (by rfl) (pa_cons (pv 0) (pa_cons pe_int pa_nil))) (fun _ _ => rfl)) (pa_cons (pe_ix (kk_ixl K) (pe_lst (pa_cons pe_int (pa_cons pe_int (pa_cons (pe_op op_add pe_int (pe_cf C__law_pick (hr.mono (by decide)) (by rfl) (pa_cons (pv 0) (pa_cons pe_int pa_nil)))) pa_nil)))) (pe_cf C__law_pick (hr.mono (by decide)) (by rfl) (pa_cons (pv 0) (pa_cons pe_int pa_nil))) (fun _ _ => rfl)) pa_nil)) (by rfl))
      (pss_cons (ps_set (i := 3) sc__law_some_rule.nd rfl (.inl rfl) (pe_lst (pa_cons (pv 1) (pa_cons (pv 2) (pa_cons (pe_ix (kk_ixl K) (pe_lst (pa_cons pe_int (pa_cons pe_int (pa_cons (pe_cf C__law_pick (hr.mono (by decide)) (by rfl) (pa_cons (pv 0) (pa_cons pe_int pa_nil))) pa_nil)))) (pe_cf C__law_pick (hr.mono (by decide)) (by rfl) (pa_cons (pv 0) (pa_cons pe_int pa_nil))) (fun _ _ => rfl)) (pa_cons (pe_cmpR op_eq (pe_cf C__law_pick (hr.mono (by decide)) (by rfl) (pa_cons (pv 0) (pa_cons pe_int pa_nil))) pe_int (nomark _)) (pa_cons (pe_cf C__law_pick (hr.mono (by decide)) (by rfl) (pa_cons (pv 0) (pa_cons pe_int pa_nil))) pa_nil)))))))
      (pss_cons (ps_set (i := 3) sc__law_some_rule.nd rfl (.inl rfl) (pe_op op_cat (pv 3) (pe_lst (pa_cons (pe_cf C__law_keep (hr.mono (by decide)) (by rfl) (pa_cons (pv 0) (pa_cons (pv 1) pa_nil))) pa_nil))))
      (pss_cons (ps_for PassesOwn.never rfl (pi_tup (pe_tup (pa_cons pe_int (pa_cons pe_int (pa_cons pe_int pa_nil))))) (pg_name (i := 4) sc__law_some_rule.nd rfl (.inl rfl))
         (pss_one (ps_expr (pe_bm PySem.F.plainAttrs_list PySem.F.slot_list_append PySem.F.type_list_append mt_append (pv 3) (pa_cons (pe_ix (kk_ixl K) (pe_lst (pa_cons pe_int (pa_cons pe_int (pa_cons (pv 4) (pa_cons (pe_cf C__law_pick (hr.mono (by decide)) (by rfl) (pa_cons (pv 0) (pa_cons (pe_op op_add (pv 4) pe_int) pa_nil))) pa_nil))))) (pe_cf C__law_pick (hr.mono (by decide)) (by rfl) (pa_cons (pv 0) (pa_cons pe_int pa_nil))) (fun _ _ => rfl)) pa_nil)))))
      (pss_one (ps_ret (pe_callTy (kk_tuple K) (by rfl) m_tuple (by decide +kernel) (pa_cons (pv 3) pa_nil)))))))), ?_⟩
    refine ⟨_, rfl, b, c, 6, n, rfl, hL, by decide, by decide, by omega, fun r1 H1 r10 r11 L1 t1 => ⟨_, _, rfl, rfl, (by show 3 ≤ sizeLine; decide), fun l1 n1 => ?_⟩⟩
    refine ⟨_, rfl, b, c, 3, _, rfl, L1.new n1, by decide, by decide, by omega, fun r2 H2 r20 r21 L2 t2 => ?_⟩
    obtain ⟨p, hp, p0, p1⟩ := pick3i (lo := 1) (hi := 6) (x := 1) (y := 6) (z := 1 + r1) r20 r21 (by omega) (by omega) (by omega)
    refine ⟨l1, _, _, _, rfl, rfl, SqL.of (t2 _ _ (L1.ne n1) upd_same), hp, ?_⟩
    have t2' := (t1.trans (But.new n1)).trans t2
    refine ⟨_, rfl, b, c, 14, _, rfl, L2, by decide, by decide, by omega, fun r3 H3 r30 r31 L3 t3 => ⟨_, _, rfl, rfl, (by show 3 ≤ sizeLine; decide), fun l2 n2 => ?_⟩⟩
    refine ⟨_, rfl, b, c, 3, _, rfl, L3.new n2, by decide, by decide, by omega, fun r4 H4 r40 r41 L4 t4 => ?_⟩
    obtain ⟨s', hs, s0, s1⟩ := pick3i (lo := 1) (hi := 14) (x := 1) (y := 14) (z := 1 + r3) r40 r41 (by omega) (by omega) (by omega)
    refine ⟨l2, _, _, _, rfl, rfl, SqL.of (t4 _ _ (L3.ne n2) upd_same), hs, _, _, rfl, ?_⟩
    have t4' := ((t2'.trans t3).trans (But.new n2)).trans t4
    refine ⟨_, rfl, _, rfl, _, rfl, b, c, 8, _, rfl, L4, by decide, by decide, by omega, fun r5 H5 r50 r51 L5 t5 => ⟨(by show 3 ≤ sizeLine; decide), fun l3 n3 => ?_⟩⟩
    refine ⟨_, rfl, b, c, 3, _, rfl, L5.new n3, by decide, by decide, by omega, fun r6 H6 r60 r61 L6 t6 => ?_⟩
    obtain ⟨g', hg, g0, g1⟩ := pick3i (lo := 0) (hi := 7) (x := 0) (y := 7) (z := r5) r60 r61 (by omega) (by omega) (by omega)
    refine ⟨l3, _, _, _, rfl, rfl, SqL.of (t6 _ _ (L5.ne n3) upd_same), hg, ?_⟩
    have t6' := ((t4'.trans t5).trans (But.new n3)).trans t6
    refine ⟨_, rfl, b, c, 2, _, rfl, L6, by decide, by decide, by omega, fun r7 H7 r70 r71 L7 t7 => ⟨rfl, ?_⟩⟩
    refine ⟨_, rfl, b, c, 3, _, rfl, L7, by decide, by decide, by omega, fun r8 H8 r80 r81 L8 t8 => ⟨(by show 5 ≤ sizeLine; decide), fun l4 n4 => ?_⟩⟩
    have n4b := L8.ne n4
    have L8' := L8.new (o := .lst [.int p, .int s', .int g', .bl (decide (V.int r7 = V.int 0)), .int r8]) n4
    have t8' := ((t6'.trans t7).trans t8).trans (But.new (o := .lst [.int p, .int s', .int g', .bl (decide (V.int r7 = V.int 0)), .int r8]) n4)
    refine ⟨_, rfl, _, rfl, _, rfl, b, c, p, _, rfl, L8', p0, p1, by omega, fun H9 kv kd ks L9 t9 hk => ⟨(by show 1 ≤ sizeLine; decide), fun l5 n5 => ?_⟩⟩
    refine ⟨l4, l5, _, _, rfl, rfl, (But.new (b := b) n5) _ _ n4b (t9 _ _ n4b upd_same), upd_same, (by show 5 + 1 ≤ sizeLine; decide), fun l6 n6 => ?_⟩
    have L5' := L9.new (o := .lst [kv]) n5
    have L6' := L5'.new (o := .lst [.int p, .int s', .int g', .bl (decide (V.int r7 = V.int 0)), .int r8, kv]) n6
    have n69 : H9 l6 = none := none_of (same_new n5) n6
    have n6b := L9.ne n69
    have n6c := L9.ne2 n69
    have e6 := upd_same (H := upd H9 l5 (.lst [kv])) (a := l6) (o := .lst [.int p, .int s', .int g', .bl (decide (V.int r7 = V.int 0)), .int r8, kv])
    refine ⟨(by show 3 ≤ sizeLine; decide), fun tt ntt => ?_⟩
    have ntb := L6'.ne ntt
    have n6t : l6 ≠ tt := ne_of_none e6 ntt
    refine ⟨tt, rfl, ⟨_, SqT.of upd_same⟩, for_tup (K := K) (a := tt) (xs := [.int 100, .int 30, .int 30]) (fun i σ H' => ∃ s4, σ = [some (.ref b), some (.int p), some (.int s'), some (.ref l6), s4] ∧ H' tt = some (.tup [.int 100, .int 30, .int 30]) ∧ But b H9 H' ∧ Left H' b c (n + 28 + 2 * i) ∧ ∃ es : List Int, es.length = i ∧ (∀ (j : Nat) (e : Int), es[j]? = some e → 0 ≤ e ∧ e ≤ mostN j) ∧ H' l6 = some (.lst ([.int p, .int s', .int g', .bl (decide (V.int r7 = V.int 0)), .int r8, kv] ++ es.map V.int)))
      ⟨_, rfl, upd_same, ((But.new n5).trans (But.new n6)).trans (But.new ntt), (L6'.mono (by omega)).new ntt, [], rfl, fun j e h => (nomatch h), by rw [upd_ne n6t]; exact e6⟩ (fun i σ H' _ h => by obtain ⟨_, _, h, _⟩ := h; exact SqT.of h) (fun i x σ H' hx h => ?_) (fun σ H' h => ?_)⟩
    · obtain ⟨s4, rfl, htt, tB, LB, es, hes, hev, hl6⟩ := h
      obtain ⟨hi3, rfl, m30, m100⟩ := most_at hx
      refine ⟨_, rfl, .inl ⟨rfl, _, SqL.of hl6⟩, _, rfl, _, rfl, _, rfl, _, _, rfl, rfl, b, c, mostN i + 1, _, rfl, LB, by omega, by omega, by omega, fun r9 HA r90 r91 LA tA => ⟨(by show 4 ≤ sizeLine; decide), fun l7 n7 => ?_⟩⟩
      refine ⟨_, rfl, b, c, 4, _, rfl, LA.new n7, by decide, by decide, by omega, fun ra HC ra0 ra1 LC tC => ?_⟩
      obtain ⟨v, hv, v0, v1⟩ := pick4i (lo := 0) (hi := mostN i) (x := 0) (y := 0) (z := mostN i) (u := r9) ra0 ra1 (by omega) (by omega) (by omega) (by omega)
      have tD : But b H' HC := (tA.trans (But.new n7)).trans tC
      refine ⟨l7, _, _, _, rfl, rfl, SqL.of (tC _ _ (LA.ne n7) upd_same), hv, l6, _, _, rfl, rfl, tD _ _ n6b hl6, ?_, _, rfl, ?_, ?_, ?_, es ++ [v], ?_, ?_, ?_⟩
      · rw [List.length_append, List.length_map, hes]
        exact small1000 (by show 6 + i ≤ 1000; omega)
      · rw [upd_ne n6t.symm]
        exact tD _ _ ntb htt
      · exact fun e o ne he => by
          rw [upd_ne (ne_of_none he n69)]
          exact tD _ _ ne (tB _ _ ne he)
      · exact (LC.mono (by omega)).upd n6b n6c
      · rw [List.length_append, hes]
        rfl
      · intro j e he
        rcases Nat.lt_or_ge j es.length with z | z
        · rw [List.getElem?_append_left z] at he
          exact hev j e he
        · rw [List.getElem?_append_right z] at he
          obtain ⟨h1, h2⟩ := List.getElem?_eq_some_iff.mp he
          have h3 : j - es.length = 0 := by
            have h4 : ([v] : List Int).length = 1 := rfl
            omega
          have h5 : j = i := by omega
          subst h5
          simp only [h3, List.getElem_cons_zero] at h2
          rw [← h2]
          exact ⟨v0, v1⟩
      · rw [upd_same, List.map_append, List.append_assoc]
        rfl
    · obtain ⟨s4, rfl, htt, tB, LB, es, hes, hev, hl6⟩ := h
      match es, hes with
      | [fi, fa, ba], _ =>
        have f1 := hev 0 fi rfl
        have f2 := hev 1 fa rfl
        have f3 := hev 2 ba rfl
        refine ⟨_, rfl, l6, _, rfl, .inl ⟨SqL.of hl6, fun t ht => ?_⟩⟩
        refine q _ t ⟨p, s', g', decide (V.int r7 = V.int 0), r8, ks, fi, fa, ba⟩ kv kd ((LB.mono (by show n + 28 + 2 * (3 : Int) ≤ n + 40; omega)).new ht) (((t8'.trans t9).trans tB).trans (But.new ht)) ⟨SqT.of upd_same, ⟨p0, p1, s0, s1, g0, g1, r80, by show r8 ≤ 2; omega, f1.1, f1.2, f2.1, f2.2, f3.1, f3.2⟩, (hk.but tB L9).same (same_new ht)⟩
/-! ### _law_same -/
abbrev s__law_same : Stmt := topS 23
abbrev N__law_same : List Str := ["_law_found", "_law_due", "_law_one", "_law_other"]
theorem sc__law_same : FnScope N__law_same ["_law_found", "_law_due"] (defScope s__law_same) := ⟨rfl, rfl, rfl, by decide +kernel, rfl, by decide +kernel, by decide +kernel⟩
def spr__law_same (K : PySem.W.Frag) : Nat → Sp
  | 0 => fun _ _ _ _ => False
  | n + 1 => fun vs H Q _ => ∃ (x y : V) (d : PyData), vs = [x, y] ∧ Dp K H x d ∧ Dp K H y d ∧ PyData.depth d ≤ n ∧ thin d = true ∧ ∀ H', Same H H' → Q (.bl true) H'
def sp__law_same (K : PySem.W.Frag) : Sp := spr__law_same K 5
theorem st__law_same (n : Nat) {f : Addr} {fd : FuncData} (F : Fun K "_law_same" "_law_same" s__law_same f fd) (g : mg "_law_same" = some (.ref f)) (bd : Binds K fd ["_law_found", "_law_due"] []) (m_isinstance : mg "isinstance" = none) (m_tuple : mg "tuple" = none) (m_list : mg "list" = none) (m_all : mg "all" = none) (m_zip : mg "zip" = none) (m_len : mg "len" = none) (m_str : mg "str" = none) (m_bool : mg "bool" = none) (m_int : mg "int" = none) (C__law_same : CF P w K mg base (1 + n) "_law_same" ["_law_found", "_law_due"] (spr__law_same K n)) : CF P w K mg base (1 + n + 1) "_law_same" ["_law_found", "_law_due"] (spr__law_same K (n + 1)) := by
  refine ⟨f, fd, F.ok sc__law_same (fun vs H Q E h => ?_) (fun cdv A outer s H vs Q E hr h => ?_), g, F.kp, bd⟩
  · first | (obtain ⟨_, rfl, _⟩ := h; rfl) | (obtain ⟨_, _, rfl, _⟩ := h; rfl) | (obtain ⟨_, _, _, rfl, _⟩ := h; rfl) | (obtain ⟨_, _, _, _, rfl, _⟩ := h; rfl) | (obtain ⟨_, _, _, _, _, rfl, _⟩ := h; rfl) | (obtain ⟨_, _, _, _, _, _, rfl, _⟩ := h; rfl) | (obtain ⟨_, _, _, _, _, _, _, rfl, _⟩ := h; rfl) | (obtain ⟨_, _, _, _, _, _, _, _, rfl, _⟩ := h; rfl) | (obtain ⟨_, _, _, _, _, _, _, _, _, rfl, _⟩ := h; rfl) | (obtain ⟨_, _, _, _, _, _, _, _, _, _, rfl, _⟩ := h; rfl) | (obtain ⟨_, _, _, _, _, _, _, _, _, _, _, rfl, _⟩ := h; rfl) | (obtain ⟨_, _, _, _, _, _, _, _, _, _, _, _, rfl, _⟩ := h; rfl) | (obtain ⟨_, _, _, _, _, _, _, _, _, _, _, _, _, rfl, _⟩ := h; rfl) | (obtain ⟨_, _, _, _, _, _, _, _, _, _, _, _, _, _, rfl, _⟩ := h; rfl) | (obtain ⟨_, _, _, _, _, _, _, _, _, _, _, _, _, _, _, rfl, _⟩ := h; rfl)
  · have hu64 := hr.units
    obtain ⟨x, y, d, rfl, hx, hy, hd, ht, q⟩ := h
    refine ⟨_, (pss_cons (ps_if (pt_val (pe_callB (kk_isiT K) (by rfl) m_isinstance (by decide +kernel) (pa_cons (pv 1) (pa_cons (pe_tup (pa_cons (pe_bltn (v := .ty "list") (by rfl) m_list (by decide +kernel) rfl) (pa_cons (pe_bltn (v := .ty "tuple") (by rfl) m_tuple (by decide +kernel) rfl) pa_nil))) pa_nil))))
         (pss_cons (ps_if (PW.pt (pw_or (pt_cmpR op_ne (pe_callB (kk_isi K) (by rfl) m_isinstance (by decide +kernel) (pa_cons (pv 0) (pa_cons (pe_bltn (v := .ty "list") (by rfl) m_list (by decide +kernel) rfl) pa_nil))) (pe_callB (kk_isi K) (by rfl) m_isinstance (by decide +kernel) (pa_cons (pv 1) (pa_cons (pe_bltn (v := .ty "list") (by rfl) m_list (by decide +kernel) rfl) pa_nil))) (nomark _)) (pw_or1 (pt_cmpR op_ne (pe_callB (kk_isi K) (by rfl) m_isinstance (by decide +kernel) (pa_cons (pv 0) (pa_cons (pe_bltn (v := .ty "tuple") (by rfl) m_tuple (by decide +kernel) rfl) pa_nil))) (pe_callB (kk_isi K) (by rfl) m_isinstance (by decide +kernel) (pa_cons (pv 1) (pa_cons (pe_bltn (v := .ty "tuple") (by rfl) m_tuple (by decide +kernel) rfl) pa_nil))) (nomark _)))))
             (pss_one (ps_ret pe_bl))
             pss_nil)
          (pss_one (ps_ret (pe_and (pe_cmpR op_eq (pe_callB (kk_len K) (by rfl) m_len PySem.boot_len (pa_cons (pv 0) pa_nil)) (pe_callB (kk_len K) (by rfl) m_len PySem.boot_len (pa_cons (pv 1) pa_nil)) (nomark _)) (pe_one (pe_callB (kk_all K rfl) (by rfl) m_all (by decide +kernel) (pa_cons (pe_lc (own := [("_law_one", 2), ("_law_other", 3)]) (g := (gTup K 2 (gCons (gName 2) (gCons (gName 3) gNil)))) (tt := tYes) rfl sc__law_same.nd (RZ.pi_zipA (by rfl) m_zip (pa_cons (pv 0) (pa_cons (pv 1) pa_nil))) (blkOk_by (own := [("_law_one", 2), ("_law_other", 3)]) (N := N__law_same) (sc := defScope s__law_same) (by decide +kernel)) (fun _ _ _ _ _ => (pg_tup (by rfl) (pgs_cons (pg_name (i := 2) sc__law_same.nd rfl (.inl rfl)) (pgs_cons (pg_name (i := 3) sc__law_same.nd rfl (.inl rfl)) pgs_nil)))) (fun _ _ _ _ _ => pts_nil) (fun _ _ _ _ _ => (pe_cf C__law_same hr (by rfl) (pa_cons (pv 2) (pa_cons (pv 3) pa_nil))))) pa_nil)))))))
         pss_nil)
      (pss_cons (ps_if (PW.pt (pw_or (pt_cmpR op_isN (pv 1) pe_non (nomark _)) (pw_or1 (pt_val (pe_callB (kk_isi K) (by rfl) m_isinstance (by decide +kernel) (pa_cons (pv 1) (pa_cons (pe_bltn (v := .ty "str") (by rfl) m_str (by decide +kernel) rfl) pa_nil)))))))
         (pss_one (ps_ret (pe_and (pe_cmpR op_eq (pv 0) (pv 1) (nomark _)) (pe_one (pe_cmpR op_eq (pe_callB (kk_isi K) (by rfl) m_isinstance (by decide +kernel) (pa_cons (pv 0) (pa_cons (pe_bltn (v := .ty "str") (by rfl) m_str (by decide +kernel) rfl) pa_nil))) (pe_callB (kk_isi K) (by rfl) m_isinstance (by decide +kernel) (pa_cons (pv 1) (pa_cons (pe_bltn (v := .ty "str") (by rfl) m_str (by decide +kernel) rfl) pa_nil))) (nomark _))))))
         pss_nil)
      (pss_cons (ps_if (pt_val (pe_callB (kk_isi K) (by rfl) m_isinstance (by decide +kernel) (pa_cons (pv 1) (pa_cons (pe_bltn (v := .ty "bool") (by rfl) m_bool (by decide +kernel) rfl) pa_nil))))
         (pss_one (ps_ret (pe_and (pe_callB (kk_isi K) (by rfl) m_isinstance (by decide +kernel) (pa_cons (pv 0) (pa_cons (pe_bltn (v := .ty "bool") (by rfl) m_bool (by decide +kernel) rfl) pa_nil))) (pe_one (pe_cmpR op_eq (pv 0) (pv 1) (nomark _))))))
         pss_nil)
      (pss_one (ps_ret (pe_and (pe_callB (kk_isi K) (by rfl) m_isinstance (by decide +kernel) (pa_cons (pv 0) (pa_cons (pe_bltn (v := .ty "int") (by rfl) m_int (by decide +kernel) rfl) pa_nil))) (pe_and (pe_not (pe_callB (kk_isi K) (by rfl) m_isinstance (by decide +kernel) (pa_cons (pv 0) (pa_cons (pe_bltn (v := .ty "bool") (by rfl) m_bool (by decide +kernel) rfl) pa_nil)))) (pe_one (pe_cmpR op_eq (pv 0) (pv 1) (nomark _)))))))))), ?_⟩
    refine ⟨_, rfl, (by show 2 ≤ sizeLine; decide), fun tp ntp => ⟨_, tp, _, _, _, _, rfl, upd_same, .cons (.ty _) (.cons (.ty _) .nil), ty_of_dp (dp_same (same_new ntp) hy), kitLT d, _, rfl, ?_⟩⟩
    have s1 := same_new (o := .tup [.ty "list", .ty "tuple"]) ntp
    have q1 := q _ s1
    have tx := ty_of_dp (dp_same s1 hx)
    have ty := ty_of_dp (dp_same s1 hy)
    cases hx with
    | non =>
      cases hy
      exact iteF ⟨_, rfl, rfl, _, rfl, iteT (iteT ⟨_, rfl, _, rfl, rfl, _, rfl, iteY rfl ⟨_, rfl, _, _, _, _, _, rfl, .ty _, tx, kit_d (T := "str") (by decide) _, _, rfl, _, _, _, _, _, rfl, .ty _, ty, kit_d (T := "str") (by decide) _, rfl, qY rfl q1⟩⟩)⟩
    | str z =>
      cases hy
      exact iteF ⟨_, rfl, rfl, _, rfl, iteF ⟨_, rfl, _, _, _, _, _, rfl, .ty _, ty, kit_d (T := "str") (by decide) _, _, rfl, iteT ⟨_, rfl, _, rfl, rfl, _, rfl, iteY rfl ⟨_, rfl, _, _, _, _, _, rfl, .ty _, tx, kit_d (T := "str") (by decide) _, _, rfl, _, _, _, _, _, rfl, .ty _, ty, kit_d (T := "str") (by decide) _, rfl, qY rfl q1⟩⟩⟩⟩
    | bl b =>
      cases hy
      exact iteF ⟨_, rfl, rfl, _, rfl, iteF ⟨_, rfl, _, _, _, _, _, rfl, .ty _, ty, kit_d (T := "str") (by decide) _, _, rfl, iteF ⟨_, rfl, _, _, _, _, _, rfl, .ty _, ty, kit_d (T := "bool") (by decide) _, _, rfl, iteT ⟨_, rfl, _, _, _, _, _, rfl, .ty _, tx, kit_d (T := "bool") (by decide) _, _, rfl, iteT ⟨_, rfl, _, rfl, rfl, qY rfl q1⟩⟩⟩⟩⟩
    | int i =>
      cases hy
      exact iteF ⟨_, rfl, rfl, _, rfl, iteF ⟨_, rfl, _, _, _, _, _, rfl, .ty _, ty, kit_d (T := "str") (by decide) _, _, rfl, iteF ⟨_, rfl, _, _, _, _, _, rfl, .ty _, ty, kit_d (T := "bool") (by decide) _, _, rfl, iteF ⟨_, rfl, _, _, _, _, _, rfl, .ty _, tx, kit_d (T := "int") (by decide) _, _, rfl, iteT ⟨_, rfl, _, _, _, _, _, rfl, .ty _, tx, kit_d (T := "bool") (by decide) _, _, rfl, _, rfl, iteT ⟨_, rfl, _, rfl, rfl, qY rfl q1⟩⟩⟩⟩⟩⟩
    | @lst a xs ds hS hA =>
      obtain ⟨m, rfl⟩ : ∃ m, n = m + 1 := ⟨n - 1, by simp only [PyData.depth] at hd; omega⟩
      cases hy with
      | @lst a2 ys _ hS2 hA2 =>
        have hlen : xs.length = ys.length := (dpAll_len hA).trans (dpAll_len hA2).symm
        simp only [thin, Bool.and_eq_true, decide_eq_true_eq] at ht
        obtain ⟨ht1, ht2⟩ := ht
        have hxl := dpAll_len hA
        refine iteT ⟨_, rfl, _, _, _, _, _, rfl, .ty _, tx, kit_d (T := "list") (by decide) _, _, rfl, _, _, _, _, _, rfl, .ty _, ty, kit_d (T := "list") (by decide) _, rfl, _, rfl, iteF ⟨_, rfl, _, _, _, _, _, rfl, .ty _, tx, kit_d (T := "tuple") (by decide) _, _, rfl, _, _, _, _, _, rfl, .ty _, ty, kit_d (T := "tuple") (by decide) _, rfl, _, rfl, iteF ?_⟩⟩
        refine ⟨_, rfl, a, _, rfl, .inl (s1.seq hS), _, rfl, a2, _, rfl, .inl (s1.seq hS2), rfl, _, rfl, iteY (by rw [hlen]) ?_⟩
        refine ⟨_, rfl, _, rfl, a, a2, _, _, rfl, .inl ⟨s1.seq hS, s1.seq hS2, fun D hD => lc_gen (n := xs.length) (fun i H' => Same (upd H tp (.tup [.ty "list", .ty "tuple"])) H' ∧ H' D = some (.lst ((List.replicate i true).map V.bl))) ⟨same_new hD, upd_same⟩ (fun i H' h => canL hlen ((s1.trans h.1).seq hS) ((s1.trans h.1).seq hS2)) (fun i H' v H'' hi h hyl => ?_) (fun H' h => ?_)⟩⟩
        · obtain ⟨T, x', y', rfl, hT, rfl, f1, f2⟩ := hyl
          obtain ⟨h1, h2⟩ := h
          have g1 := f1 xs ((s1.trans h1).seq hS)
          have g2 := f2 ys ((s1.trans h1).seq hS2)
          obtain ⟨d1, e1, p1⟩ := dpAll_get hA g1
          obtain ⟨d2, e2, p2⟩ := dpAll_get hA2 g2
          cases (Option.some.inj (e1.symm.trans e2))
          have sT := same_new (o := .tup [x', y']) hT
          have dd := depth_at e1
          simp only [PyData.depth] at hd
          refine ⟨T, _, rfl, SqT.of upd_same, rfl, _, _, rfl, _, _, rfl, rfl, rfl, _, rfl, _, rfl, x', y', d1, rfl, dp_same ((s1.trans h1).trans sT) p1, dp_same ((s1.trans h1).trans sT) p2, by omega, thin_at ht2 e1, fun H3 s3 => ?_⟩
          refine ⟨_, s3 _ _ (sT _ _ h2), ?_, ?_, ?_⟩
          · rw [List.length_map, List.length_replicate]
            exact small1000 (by omega)
          · exact fun c o e => by
              rw [upd_ne (ne_of_none e hD)]
              exact s3 _ _ (sT _ _ (h1 _ _ e))
          · rw [upd_same, rep_snoc]
        · obtain ⟨h1, h2⟩ := h
          refine ⟨D, _, rfl, SqL.of h2, ?_⟩
          rw [all_true]
          exact q _ (s1.trans h1)
    | @tup a xs ds hS hA =>
      obtain ⟨m, rfl⟩ : ∃ m, n = m + 1 := ⟨n - 1, by simp only [PyData.depth] at hd; omega⟩
      cases hy with
      | @tup a2 ys _ hS2 hA2 =>
        have hlen : xs.length = ys.length := (dpAll_len hA).trans (dpAll_len hA2).symm
        simp only [thin, Bool.and_eq_true, decide_eq_true_eq] at ht
        obtain ⟨ht1, ht2⟩ := ht
        have hxl := dpAll_len hA
        refine iteT ⟨_, rfl, _, _, _, _, _, rfl, .ty _, tx, kit_d (T := "list") (by decide) _, _, rfl, _, _, _, _, _, rfl, .ty _, ty, kit_d (T := "list") (by decide) _, rfl, _, rfl, iteF ⟨_, rfl, _, _, _, _, _, rfl, .ty _, tx, kit_d (T := "tuple") (by decide) _, _, rfl, _, _, _, _, _, rfl, .ty _, ty, kit_d (T := "tuple") (by decide) _, rfl, _, rfl, iteF ?_⟩⟩
        refine ⟨_, rfl, a, _, rfl, .inr (seqT_same s1 hS), _, rfl, a2, _, rfl, .inr (seqT_same s1 hS2), rfl, _, rfl, iteY (by rw [hlen]) ?_⟩
        refine ⟨_, rfl, _, rfl, a, a2, _, _, rfl, .inr ⟨seqT_same s1 hS, seqT_same s1 hS2, fun D hD => lc_gen (n := xs.length) (fun i H' => Same (upd H tp (.tup [.ty "list", .ty "tuple"])) H' ∧ H' D = some (.lst ((List.replicate i true).map V.bl))) ⟨same_new hD, upd_same⟩ (fun i H' h => canT hlen (seqT_same (s1.trans h.1) hS) (seqT_same (s1.trans h.1) hS2)) (fun i H' v H'' hi h hyl => ?_) (fun H' h => ?_)⟩⟩
        · obtain ⟨T, x', y', rfl, hT, rfl, f1, f2⟩ := hyl
          obtain ⟨h1, h2⟩ := h
          have g1 := f1 xs (seqT_same (s1.trans h1) hS)
          have g2 := f2 ys (seqT_same (s1.trans h1) hS2)
          obtain ⟨d1, e1, p1⟩ := dpAll_get hA g1
          obtain ⟨d2, e2, p2⟩ := dpAll_get hA2 g2
          cases (Option.some.inj (e1.symm.trans e2))
          have sT := same_new (o := .tup [x', y']) hT
          have dd := depth_at e1
          simp only [PyData.depth] at hd
          refine ⟨T, _, rfl, SqT.of upd_same, rfl, _, _, rfl, _, _, rfl, rfl, rfl, _, rfl, _, rfl, x', y', d1, rfl, dp_same ((s1.trans h1).trans sT) p1, dp_same ((s1.trans h1).trans sT) p2, by omega, thin_at ht2 e1, fun H3 s3 => ?_⟩
          refine ⟨_, s3 _ _ (sT _ _ h2), ?_, ?_, ?_⟩
          · rw [List.length_map, List.length_replicate]
            exact small1000 (by omega)
          · exact fun c o e => by
              rw [upd_ne (ne_of_none e hD)]
              exact s3 _ _ (sT _ _ (h1 _ _ e))
          · rw [upd_same, rep_snoc]
        · obtain ⟨h1, h2⟩ := h
          refine ⟨D, _, rfl, SqL.of h2, ?_⟩
          rw [all_true]
          exact q _ (s1.trans h1)
theorem ok__law_same {f : Addr} {fd : FuncData} (F : Fun K "_law_same" "_law_same" s__law_same f fd) (g : mg "_law_same" = some (.ref f)) (bd : Binds K fd ["_law_found", "_law_due"] []) (m_isinstance : mg "isinstance" = none) (m_tuple : mg "tuple" = none) (m_list : mg "list" = none) (m_all : mg "all" = none) (m_zip : mg "zip" = none) (m_len : mg "len" = none) (m_str : mg "str" = none) (m_bool : mg "bool" = none) (m_int : mg "int" = none) : CF P w K mg base (6) "_law_same" ["_law_found", "_law_due"] (sp__law_same K) := by
  have all : ∀ n, CF P w K mg base (1 + n) "_law_same" ["_law_found", "_law_due"] (spr__law_same K n) := fun n => by
    induction n with
    | zero => exact ⟨f, fd, F.ok (k := 0) sc__law_same (fun vs H Q E h => h.elim) (fun cdv A outer s H vs Q E hr h => h.elim), g, F.kp, bd⟩
    | succ n ih => exact st__law_same n F g bd m_isinstance m_tuple m_list m_all m_zip m_len m_str m_bool m_int ih
  exact all 5
/-! ### _law_made -/
abbrev s__law_made : Stmt := topS 28
abbrev N__law_made : List Str := ["_law_some"]
theorem sc__law_made : FnScope N__law_made ["_law_some"] (defScope s__law_made) := ⟨rfl, rfl, rfl, by decide +kernel, rfl, by decide +kernel, by decide +kernel⟩
def sp__law_made (K : PySem.W.Frag) (C : CEs) : Sp := fun vs H Q E => ∃ (t : Addr), vs = [.ref t] ∧ ((∃ (f : Fg) (kv : V) (kd : PyData), Drawn K H t f kv kd ∧ ∀ H' r, H r = none → Same H H' → RuleAt K H' C.r r f → Q (.ref r) H') ∨
  (∃ xs w, SqL K H t xs ∧ Nine K H xs w ∧ ∀ H' d, Same H H' → H d = none → H' d = some (.xd [("word", .str w)]) → E (.ref C.b) (some d) H'))
theorem ok__law_made {f : Addr} {fd : FuncData} (F : Fun K "_law_made" "_law_made" s__law_made f fd) (g : mg "_law_made" = some (.ref f)) (bd : Binds K fd ["_law_some"] []) {CC : CEs} (T_Rule : TRule K mg CC.r) (TE : TBad K mg CC) (XB : CEx P w K mg base CC.b 1 "BadRule" "word") (M_Rule : CMkx P w K mg base CC.r 4 "Rule" ["self", "parts", "step", "grace", "last", "misses", "keep", "fine", "falls", "back"] [] (sp_Rule___init__ K CC)) : CFx P w K mg base 6 "_law_made" ["_law_some"] (sp__law_made K CC) := by
  refine ⟨f, fd, F.okX sc__law_made (fun vs H Q E h => ?_) (fun cdv A outer s H vs Q E hr h => ?_), g, F.kp, bd⟩
  · first | (obtain ⟨_, rfl, _⟩ := h; rfl) | (obtain ⟨_, _, rfl, _⟩ := h; rfl) | (obtain ⟨_, _, _, rfl, _⟩ := h; rfl) | (obtain ⟨_, _, _, _, rfl, _⟩ := h; rfl) | (obtain ⟨_, _, _, _, _, rfl, _⟩ := h; rfl) | (obtain ⟨_, _, _, _, _, _, rfl, _⟩ := h; rfl) | (obtain ⟨_, _, _, _, _, _, _, rfl, _⟩ := h; rfl) | (obtain ⟨_, _, _, _, _, _, _, _, rfl, _⟩ := h; rfl) | (obtain ⟨_, _, _, _, _, _, _, _, _, rfl, _⟩ := h; rfl) | (obtain ⟨_, _, _, _, _, _, _, _, _, _, rfl, _⟩ := h; rfl) | (obtain ⟨_, _, _, _, _, _, _, _, _, _, _, rfl, _⟩ := h; rfl) | (obtain ⟨_, _, _, _, _, _, _, _, _, _, _, _, rfl, _⟩ := h; rfl) | (obtain ⟨_, _, _, _, _, _, _, _, _, _, _, _, _, rfl, _⟩ := h; rfl) | (obtain ⟨_, _, _, _, _, _, _, _, _, _, _, _, _, _, rfl, _⟩ := h; rfl) | (obtain ⟨_, _, _, _, _, _, _, _, _, _, _, _, _, _, _, rfl, _⟩ := h; rfl)
  · have hu64 := hr.units
    obtain ⟨t, rfl, h⟩ := h
    refine ⟨_, (pss_one (ps_ret (pe_mkx M_Rule (hr.mono (by decide)) (takes_of rfl rfl rfl rfl) (by rfl) (pa_cons (pe_ix ((kk_ixl K).or (kk_ixt K)) (pv 0) pe_int (fun _ _ => rfl)) (pa_cons (pe_ix ((kk_ixl K).or (kk_ixt K)) (pv 0) pe_int (fun _ _ => rfl)) (pa_cons (pe_ix ((kk_ixl K).or (kk_ixt K)) (pv 0) pe_int (fun _ _ => rfl)) (pa_cons (pe_ix ((kk_ixl K).or (kk_ixt K)) (pv 0) pe_int (fun _ _ => rfl)) (pa_cons (pe_ix ((kk_ixl K).or (kk_ixt K)) (pv 0) pe_int (fun _ _ => rfl)) (pa_cons (pe_ix ((kk_ixl K).or (kk_ixt K)) (pv 0) pe_int (fun _ _ => rfl)) (pa_cons (pe_ix ((kk_ixl K).or (kk_ixt K)) (pv 0) pe_int (fun _ _ => rfl)) (pa_cons (pe_ix ((kk_ixl K).or (kk_ixt K)) (pv 0) pe_int (fun _ _ => rfl)) (pa_cons (pe_ix ((kk_ixl K).or (kk_ixt K)) (pv 0) pe_int (fun _ _ => rfl)) pa_nil)))))))))))), ?_⟩
    rcases h with ⟨f', kv, kd, ⟨hT, hF, hk⟩, q⟩ | ⟨xs, wd, hS, hN, q⟩
    · refine ⟨_, rfl, .inr ⟨t, _, _, _, rfl, rfl, hT, rfl, _, rfl, .inr ⟨t, _, _, _, rfl, rfl, hT, rfl, _, rfl, .inr ⟨t, _, _, _, rfl, rfl, hT, rfl, _, rfl, .inr ⟨t, _, _, _, rfl, rfl, hT, rfl, _, rfl, .inr ⟨t, _, _, _, rfl, rfl, hT, rfl, _, rfl, .inr ⟨t, _, _, _, rfl, rfl, hT, rfl, _, rfl, .inr ⟨t, _, _, _, rfl, rfl, hT, rfl, _, rfl, .inr ⟨t, _, _, _, rfl, rfl, hT, rfl, _, rfl, .inr ⟨t, _, _, _, rfl, rfl, hT, rfl, ?_⟩⟩⟩⟩⟩⟩⟩⟩⟩⟩
      intro x dx nx ndx hne
      have sx : Same H (upd (upd H dx (.own x)) x (.ins CC.r dx [])) := (same_new ndx).trans (same_new (by rw [upd_ne hne.symm]; exact nx))
      exact ⟨x, dx, _, _, _, _, _, _, _, _, _, rfl, upd_same, .inl ⟨_, _, _, _, _, kd, f'.ks, _, _, _, rfl, hF, hk.same sx, fun H' kt hb e hs => ⟨rfl, q H' x nx (same_but sx nx hb) ⟨dx, kt, e, hs⟩⟩⟩⟩
    · obtain ⟨x1, x2, x3, x4, x5, x6, x7, x8, x9, d1, d2, d3, d4, d5, d6, d7, d8, d9, rfl, hD, hsh, hz, hw⟩ := id hN
      refine ⟨_, rfl, .inl ⟨t, _, _, _, rfl, rfl, hS, rfl, _, rfl, .inl ⟨t, _, _, _, rfl, rfl, hS, rfl, _, rfl, .inl ⟨t, _, _, _, rfl, rfl, hS, rfl, _, rfl, .inl ⟨t, _, _, _, rfl, rfl, hS, rfl, _, rfl, .inl ⟨t, _, _, _, rfl, rfl, hS, rfl, _, rfl, .inl ⟨t, _, _, _, rfl, rfl, hS, rfl, _, rfl, .inl ⟨t, _, _, _, rfl, rfl, hS, rfl, _, rfl, .inl ⟨t, _, _, _, rfl, rfl, hS, rfl, _, rfl, .inl ⟨t, _, _, _, rfl, rfl, hS, rfl, ?_⟩⟩⟩⟩⟩⟩⟩⟩⟩⟩
      intro x dx nx ndx hne
      have sx : Same H (upd (upd H dx (.own x)) x (.ins CC.r dx [])) := (same_new ndx).trans (same_new (by rw [upd_ne hne.symm]; exact nx))
      exact ⟨x, dx, _, _, _, _, _, _, _, _, _, rfl, upd_same, .inr ⟨wd, hN.same sx, fun H' d s nd e => q H' d (sx.trans s) (none_of sx nd) e⟩⟩
/-! ### _law_whole -/
abbrev s__law_whole : Stmt := topS 29
abbrev N__law_whole : List Str := ["_law_some", "_law_kept"]
theorem sc__law_whole : FnScope N__law_whole ["_law_some"] (defScope s__law_whole) := ⟨rfl, rfl, rfl, by decide +kernel, rfl, by decide +kernel, by decide +kernel⟩
def sp__law_whole (K : PySem.W.Frag) : Sp := fun vs H Q _ => ∃ (t : Addr) (f : Fg) (kv : V) (kd : PyData), vs = [.ref t] ∧ Drawn K H t f kv kd ∧ ∀ H' w a, Same H H' → Drawn K H' w f (.ref a) (.tuple (f.ks.map PyData.int)) → SqT K H' a (f.ks.map V.int) → Q (.ref w) H'
theorem ok__law_whole {f : Addr} {fd : FuncData} (F : Fun K "_law_whole" "_law_whole" s__law_whole f fd) (g : mg "_law_whole" = some (.ref f)) (bd : Binds K fd ["_law_some"] []) (m_isinstance : mg "isinstance" = none) (m_tuple : mg "tuple" = none) : CF P w K mg base 1 "_law_whole" ["_law_some"] (sp__law_whole K) := by
  refine ⟨f, fd, F.ok sc__law_whole (fun vs H Q E h => ?_) (fun cdv A outer s H vs Q E hr h => ?_), g, F.kp, bd⟩
  · first | (obtain ⟨_, rfl, _⟩ := h; rfl) | (obtain ⟨_, _, rfl, _⟩ := h; rfl) | (obtain ⟨_, _, _, rfl, _⟩ := h; rfl) | (obtain ⟨_, _, _, _, rfl, _⟩ := h; rfl) | (obtain ⟨_, _, _, _, _, rfl, _⟩ := h; rfl) | (obtain ⟨_, _, _, _, _, _, rfl, _⟩ := h; rfl) | (obtain ⟨_, _, _, _, _, _, _, rfl, _⟩ := h; rfl) | (obtain ⟨_, _, _, _, _, _, _, _, rfl, _⟩ := h; rfl) | (obtain ⟨_, _, _, _, _, _, _, _, _, rfl, _⟩ := h; rfl) | (obtain ⟨_, _, _, _, _, _, _, _, _, _, rfl, _⟩ := h; rfl) | (obtain ⟨_, _, _, _, _, _, _, _, _, _, _, rfl, _⟩ := h; rfl) | (obtain ⟨_, _, _, _, _, _, _, _, _, _, _, _, rfl, _⟩ := h; rfl) | (obtain ⟨_, _, _, _, _, _, _, _, _, _, _, _, _, rfl, _⟩ := h; rfl) | (obtain ⟨_, _, _, _, _, _, _, _, _, _, _, _, _, _, rfl, _⟩ := h; rfl) | (obtain ⟨_, _, _, _, _, _, _, _, _, _, _, _, _, _, _, rfl, _⟩ := h; rfl)
  · have hu64 := hr.units
    obtain ⟨t, f', kv, kd, rfl, hD, q⟩ := h
    refine ⟨_, (pss_cons (ps_set (i := 1) sc__law_whole.nd rfl (.inl rfl) (pe_ifExp (pt_val (pe_callB (kk_isi K) (by rfl) m_isinstance (by decide +kernel) (pa_cons (pe_ix (kk_ixt K) (pv 0) pe_int (fun _ _ => rfl)) (pa_cons (pe_bltn (v := .ty "tuple") (by rfl) m_tuple (by decide +kernel) rfl) pa_nil)))) (pe_ix (kk_ixt K) (pv 0) pe_int (fun _ _ => rfl)) (pe_op (kk_repA K) (pe_tup (pa_cons (pe_ix (kk_ixt K) (pv 0) pe_int (fun _ _ => rfl)) pa_nil)) (pe_ix (kk_ixt K) (pv 0) pe_int (fun _ _ => rfl)))))
      (pss_one (ps_ret (pe_op (kk_catT K) (pe_op (kk_catT K) (pe_slice (kk_slt K) (pv 0) po_none (po_some pe_int)) (pe_tup (pa_cons (pv 1) pa_nil))) (pe_slice (kk_slt K) (pv 0) (po_some pe_int) po_none))))), ?_⟩
    obtain ⟨hT, hF, hk⟩ := id hD
    have ok := hD.ok
    have l5 : cutV [V.int f'.p, .int f'.s, .int f'.g, .bl f'.l, .int f'.m, kv, .int f'.fi, .int f'.fa, .int f'.ba] none (some 5) = [V.int f'.p, .int f'.s, .int f'.g, .bl f'.l, .int f'.m] := rfl
    have l6 : cutV [V.int f'.p, .int f'.s, .int f'.g, .bl f'.l, .int f'.m, kv, .int f'.fi, .int f'.fa, .int f'.ba] (some 6) none = [.int f'.fi, .int f'.fa, .int f'.ba] := rfl
    have fin : ∀ H1 a, Same H H1 → SqT K H1 a (f'.ks.map V.int) → tRet (tOp (rCatT K) (tOp (rCatT K) (tSl (rSlT K) (tVar 0) tNoPart (tPart (tC (V.int 5)))) (tTup (tCons (tVar 1) tNil))) (tSl (rSlT K) (tVar 0) (tPart (tC (V.int 6))) tNoPart)) { nx := fun x H' => Q V.non H', rt := Q } [some (.ref t), some (.ref a)] H1 := fun H1 a s1 ha => by
      refine ⟨_, rfl, _, rfl, t, _, rfl, seqT_same s1 hT, (by show ¬ (HT.sIx 9 0 none = 0 ∧ HT.sIx 9 9 (some 5) = 9); decide), fun c1 n1 => ?_⟩
      refine ⟨_, rfl, (by show 1 ≤ sizeLine; decide), fun c2 n2 => ?_⟩
      refine ⟨c1, c2, _, _, rfl, rfl, SqT.of ((same_new n2) _ _ upd_same), SqT.of upd_same, (by rw [l5]; simp), (by show 5 + 1 ≤ sizeLine; decide), fun e => (nomatch e), fun _ c3 n3 => ?_⟩
      have s3 := fun o => ((s1.trans (same_new n1)).trans (same_new n2)).trans (same_new (o := o) n3)
      have u3 := fun o => ((same_new n1).trans (same_new n2)).trans (same_new (o := o) n3)
      refine ⟨_, rfl, _, rfl, t, _, rfl, seqT_same (s3 _) hT, (by show ¬ (HT.sIx 9 0 (some 6) = 0 ∧ HT.sIx 9 9 none = 9); decide), fun c4 n4 => ?_⟩
      refine ⟨c3, c4, _, _, rfl, rfl, SqT.of ((same_new n4) _ _ upd_same), SqT.of upd_same, (by rw [l5]; simp), (by show 6 + 3 ≤ sizeLine; decide), fun e => absurd (l6.symm.trans e) (by simp), fun _ w nw => ?_⟩
      have s5 := fun o => ((s3 _).trans (same_new n4)).trans (same_new (o := o) nw)
      have ha5 := fun o => seqT_same (((u3 _).trans (same_new n4)).trans (same_new (o := o) nw)) ha
      exact q _ w a (s5 _) ⟨SqT.of upd_same, hF, .all a (ha5 _) ok.len ok.bnd⟩ (ha5 _)
    refine ⟨_, rfl, t, _, _, _, rfl, rfl, hT, rfl, _, _, _, _, _, rfl, .ty _, ty_of_dp hk.dp, kit_d (T := "tuple") (by decide) _, _, rfl, ?_⟩
    cases hk with
    | all a h hl hb => exact iteT ⟨_, rfl, t, _, _, _, rfl, rfl, hT, rfl, fin H a (Same.refl H) h⟩
    | one k h0 h1 ek =>
      refine iteF ⟨_, rfl, t, _, _, _, rfl, rfl, hT, rfl, (by show 1 ≤ sizeLine; decide), fun u nu => ⟨_, rfl, t, _, _, _, rfl, rfl, seqT_same (same_new nu) hT, rfl, ?_⟩⟩
      by_cases hp1 : f'.p = 1
      · refine .inr ⟨u, [.int k], rfl, by rw [hp1], SqT.of upd_same, by simp, ?_⟩
        refine fin _ u (same_new nu) ?_
        rw [ek, hp1]
        exact SqT.of upd_same
      · have := hF.p0
        have := hF.p1
        refine .inl ⟨u, f'.p, [.int k], rfl, rfl, SqT.of upd_same, by simp, by omega, by omega, (by show 1 ≤ 1000; decide), fun t2 ht2 => ?_⟩
        refine fin _ t2 ((same_new nu).trans (same_new ht2)) (SqT.of ?_)
        rw [upd_same, rep1, ek, List.map_replicate]
/-! ### _law_caught -/
abbrev s__law_caught : Stmt := topS 30
abbrev N__law_caught : List Str := ["_law_caught_here", "_law_word", "_law_some", "_law_words", "_law_found", "_law_one", "_law_is_so"]
theorem sc__law_caught : FnScope N__law_caught ["_law_caught_here", "_law_word"] (defScope s__law_caught) := ⟨rfl, rfl, rfl, by decide +kernel, rfl, by decide +kernel, by decide +kernel⟩
def sp__law_caught (K : PySem.W.Frag) (C : CEs) : Sp := fun vs H Q _ => ∃ (a dx : Addr) (fs : List (Str × V)), vs = [.ref a, .str (Str.ofString "BadRule")] ∧ H a = some (ErO (.ref C.b) (some dx) a) ∧ H dx = some (.xd fs) ∧ ∀ H', Same H H' → Q (.bl true) H'
theorem ok__law_caught {f : Addr} {fd : FuncData} (F : Fun K "_law_caught" "_law_caught" s__law_caught f fd) (g : mg "_law_caught" = some (.ref f)) (bd : Binds K fd ["_law_caught_here", "_law_word"] []) {CC : CEs} (T_Rule : TRule K mg CC.r) (TE : TBad K mg CC) (XB : CEx P w K mg base CC.b 1 "BadRule" "word") (m_isinstance : mg "isinstance" = none) (m_zip : mg "zip" = none) (m_ValueError : mg "ValueError" = none) : CF P w K mg base 1 "_law_caught" ["_law_caught_here", "_law_word"] (sp__law_caught K CC) := by
  refine ⟨f, fd, F.ok sc__law_caught (fun vs H Q E h => ?_) (fun cdv A outer s H vs Q E hr h => ?_), g, F.kp, bd⟩
  · first | (obtain ⟨_, rfl, _⟩ := h; rfl) | (obtain ⟨_, _, rfl, _⟩ := h; rfl) | (obtain ⟨_, _, _, rfl, _⟩ := h; rfl) | (obtain ⟨_, _, _, _, rfl, _⟩ := h; rfl) | (obtain ⟨_, _, _, _, _, rfl, _⟩ := h; rfl) | (obtain ⟨_, _, _, _, _, _, rfl, _⟩ := h; rfl) | (obtain ⟨_, _, _, _, _, _, _, rfl, _⟩ := h; rfl) | (obtain ⟨_, _, _, _, _, _, _, _, rfl, _⟩ := h; rfl) | (obtain ⟨_, _, _, _, _, _, _, _, _, rfl, _⟩ := h; rfl) | (obtain ⟨_, _, _, _, _, _, _, _, _, _, rfl, _⟩ := h; rfl) | (obtain ⟨_, _, _, _, _, _, _, _, _, _, _, rfl, _⟩ := h; rfl) | (obtain ⟨_, _, _, _, _, _, _, _, _, _, _, _, rfl, _⟩ := h; rfl) | (obtain ⟨_, _, _, _, _, _, _, _, _, _, _, _, _, rfl, _⟩ := h; rfl) | (obtain ⟨_, _, _, _, _, _, _, _, _, _, _, _, _, _, rfl, _⟩ := h; rfl) | (obtain ⟨_, _, _, _, _, _, _, _, _, _, _, _, _, _, _, rfl, _⟩ := h; rfl)
  · have hu64 := hr.units
    obtain ⟨a, dx, fs, rfl, ha, hd, q⟩ := h
    refine ⟨_, (pss_cons (ps_set (i := 2) sc__law_caught.nd rfl (.inl rfl) (pe_lst (pa_cons (pe_callB (kk_isErD K) (by rfl) m_isinstance (by decide +kernel) (pa_cons (pv 0) (pa_cons (pe_glob (v := .ref CC.o1) (by rfl) TE.g1 rfl) pa_nil))) (pa_cons (pe_callB (kk_isErD K) (by rfl) m_isinstance (by decide +kernel) (pa_cons (pv 0) (pa_cons (pe_glob (v := .ref CC.o2) (by rfl) TE.g2 rfl) pa_nil))) (pa_cons (pe_callB (kk_isErD K) (by rfl) m_isinstance (by decide +kernel) (pa_cons (pv 0) (pa_cons (pe_glob (v := .ref CC.b) (by rfl) TE.gb rfl) pa_nil))) pa_nil)))))
      (pss_cons (ps_set (i := 2) sc__law_caught.nd rfl (.inl rfl) (pe_op op_cat (pv 2) (pe_lst (pa_cons (pe_callB (kk_isErD K) (by rfl) m_isinstance (by decide +kernel) (pa_cons (pv 0) (pa_cons (pe_glob (v := .ref CC.o3) (by rfl) TE.g3 rfl) pa_nil))) (pa_cons (pe_callB (kk_isErD K) (by rfl) m_isinstance (by decide +kernel) (pa_cons (pv 0) (pa_cons (pe_glob (v := .ref CC.o4) (by rfl) TE.g4 rfl) pa_nil))) (pa_cons (pe_callB (kk_isErD K) (by rfl) m_isinstance (by decide +kernel) (pa_cons (pv 0) (pa_cons (pe_glob (v := .ref CC.o5) (by rfl) TE.g5 rfl) pa_nil))) pa_nil))))))
      (pss_cons (ps_set (i := 2) sc__law_caught.nd rfl (.inl rfl) (pe_op op_cat (pv 2) (pe_lst (pa_cons (pe_callB (kk_isErD K) (by rfl) m_isinstance (by decide +kernel) (pa_cons (pv 0) (pa_cons (pe_glob (v := .ref CC.o6) (by rfl) TE.g6 rfl) pa_nil))) (pa_cons (pe_callB (kk_isErD K) (by rfl) m_isinstance (by decide +kernel) (pa_cons (pv 0) (pa_cons (pe_glob (v := .ref CC.o7) (by rfl) TE.g7 rfl) pa_nil))) pa_nil)))))
      (pss_cons (ps_set (i := 3) sc__law_caught.nd rfl (.inl rfl) (pe_split pe_str pe_str))
      (pss_cons (ps_setLc (i := 4) (own := [("_law_one", 5), ("_law_is_so", 6)]) (g := (gTup K 2 (gCons (gName 5) (gCons (gName 6) gNil)))) rfl sc__law_caught.nd rfl rfl (sw_true rfl rfl rfl (by decide +kernel)) (pi_zip (by rfl) m_zip (pa_cons (pv 3) (pa_cons (pv 2) pa_nil))) (blkOk_by (own := [("_law_one", 5), ("_law_is_so", 6)]) (N := N__law_caught) (sc := defScope s__law_caught) (by decide +kernel)) (fun _ _ _ _ _ => (pg_tup (by rfl) (pgs_cons (pg_name (i := 5) sc__law_caught.nd rfl (.inl rfl)) (pgs_cons (pg_name (i := 6) sc__law_caught.nd rfl (.inl rfl)) pgs_nil)))) (fun _ _ _ _ _ => (pts_one (pt_val (pv 6)))) (fun _ _ _ _ _ => (pv 5)))
      (pss_one (ps_ret (pe_and (pe_cmpR (kk_eqD K hu64) (pv 4) (pe_lst (pa_cons (pv 1) pa_nil)) (nomark _)) (pe_and (pe_callB (kk_isErD K) (by rfl) m_isinstance (by decide +kernel) (pa_cons (pv 0) (pa_cons (pe_bltn (v := .ty "ValueError") (by rfl) m_ValueError (by decide +kernel) rfl) pa_nil))) (pe_one (pe_callB (kk_isErD K) (by rfl) m_isinstance (by decide +kernel) (pa_cons (pv 0) (pa_cons (pe_glob (v := .ref CC.w) (by rfl) TE.w rfl) pa_nil))))))))))))), ?_⟩
    refine ⟨_, rfl, a, CC.b, dx, fs, _, _, false, rfl, TE.ec, ha, hd, fun _ h => h, TE.k1, _, rfl, a, CC.b, dx, fs, _, _, false, rfl, TE.ec, ha, hd, fun _ h => h, TE.k2, _, rfl, a, CC.b, dx, fs, _, _, true, rfl, TE.ec, ha, hd, fun _ h => h, TE.kb, (by show 3 ≤ sizeLine; decide), fun l1 n1 => ?_⟩
    have s1 := same_new (o := .lst [.bl false, .bl false, .bl true]) n1
    have h1 := upd_same (H := H) (a := l1) (o := .lst [.bl false, .bl false, .bl true])
    have ha := s1 _ _ ha
    have hd := s1 _ _ hd
    generalize upd H l1 (.lst [.bl false, .bl false, .bl true]) = H1 at *
    refine ⟨_, rfl, _, rfl, a, CC.b, dx, fs, _, _, false, rfl, TE.ec, ha, hd, fun _ h => h, TE.k3, _, rfl, a, CC.b, dx, fs, _, _, false, rfl, TE.ec, ha, hd, fun _ h => h, TE.k4, _, rfl, a, CC.b, dx, fs, _, _, false, rfl, TE.ec, ha, hd, fun _ h => h, TE.k5, (by show 3 ≤ sizeLine; decide), fun l2 n2 => ?_⟩
    have s2 := same_new (o := .lst [.bl false, .bl false, .bl false]) n2
    have h2 := upd_same (H := H1) (a := l2) (o := .lst [.bl false, .bl false, .bl false])
    have h1 := s2 _ _ h1
    have ha := s2 _ _ ha
    have hd := s2 _ _ hd
    generalize upd H1 l2 (.lst [.bl false, .bl false, .bl false]) = H2 at *
    refine ⟨l1, l2, _, _, rfl, rfl, h1, h2, (by show 3 + 3 ≤ sizeLine; decide), fun l3 n3 => ?_⟩
    have s3 := same_new (o := .lst ([V.bl false, .bl false, .bl true] ++ [.bl false, .bl false, .bl false])) n3
    have h3 := upd_same (H := H2) (a := l3) (o := .lst ([V.bl false, .bl false, .bl true] ++ [.bl false, .bl false, .bl false]))
    have ha := s3 _ _ ha
    have hd := s3 _ _ hd
    generalize upd H2 l3 (.lst ([V.bl false, .bl false, .bl true] ++ [.bl false, .bl false, .bl false])) = H3 at *
    refine ⟨_, rfl, _, rfl, a, CC.b, dx, fs, _, _, false, rfl, TE.ec, ha, hd, fun _ h => h, TE.k6, _, rfl, a, CC.b, dx, fs, _, _, false, rfl, TE.ec, ha, hd, fun _ h => h, TE.k7, (by show 2 ≤ sizeLine; decide), fun l4 n4 => ?_⟩
    have s4 := same_new (o := .lst [.bl false, .bl false]) n4
    have h4 := upd_same (H := H3) (a := l4) (o := .lst [.bl false, .bl false])
    have h3 := s4 _ _ h3
    have ha := s4 _ _ ha
    have hd := s4 _ _ hd
    generalize upd H3 l4 (.lst [.bl false, .bl false]) = H4 at *
    refine ⟨l3, l4, _, _, rfl, rfl, h3, h4, (by show 6 + 2 ≤ sizeLine; decide), fun l5 n5 => ?_⟩
    have s5 := same_new (o := .lst (([V.bl false, .bl false, .bl true] ++ [.bl false, .bl false, .bl false]) ++ [.bl false, .bl false])) n5
    have h5 := upd_same (H := H4) (a := l5) (o := .lst (([V.bl false, .bl false, .bl true] ++ [.bl false, .bl false, .bl false]) ++ [.bl false, .bl false]))
    have ha := s5 _ _ ha
    have hd := s5 _ _ hd
    generalize upd H4 l5 (.lst (([V.bl false, .bl false, .bl true] ++ [.bl false, .bl false, .bl false]) ++ [.bl false, .bl false])) = H5 at *
    have h5 : H5 l5 = some (.lst (([false, false, true, false, false, false, false, false] : List Bool).map V.bl)) := h5
    refine ⟨⟨_, rfl⟩, _, _, rfl, rfl, (by decide +kernel), (by decide +kernel), fun l6 n6 => ?_⟩
    rw [show Txt.split (Str.ofString "BadClause BadRow BadRule Idle NoDay NoEntry NoHouse NoWare") (Str.ofString " ") = [Str.ofString "BadClause", Str.ofString "BadRow", Str.ofString "BadRule", Str.ofString "Idle", Str.ofString "NoDay", Str.ofString "NoEntry", Str.ofString "NoHouse", Str.ofString "NoWare"] from by decide +kernel]
    obtain ⟨ws, hws⟩ : ∃ ws : List Str, ws = [Str.ofString "BadClause", Str.ofString "BadRow", Str.ofString "BadRule", Str.ofString "Idle", Str.ofString "NoDay", Str.ofString "NoEntry", Str.ofString "NoHouse", Str.ofString "NoWare"] := ⟨_, rfl⟩
    rw [← hws]
    have lw : ws.length = 8 := by rw [hws]; rfl
    have last : (((ws.zip [false, false, true, false, false, false, false, false]).take 8).filter (·.2)).map (fun p => V.str p.1) = [V.str (Str.ofString "BadRule")] := by
      rw [hws]
      rfl
    have s6 := same_new (o := .lst (ws.map V.str)) n6
    have h6 := upd_same (H := H5) (a := l6) (o := .lst (ws.map V.str))
    have h5 := s6 _ _ h5
    have ha := s6 _ _ ha
    have hd := s6 _ _ hd
    generalize upd H5 l6 (.lst (ws.map V.str)) = H6 at *
    obtain ⟨bs, hbs⟩ : ∃ bs : List Bool, bs = [false, false, true, false, false, false, false, false] := ⟨_, rfl⟩
    rw [← hbs] at h5 last
    have lb : bs.length = 8 := by rw [hbs]; rfl
    have sH : Same H H6 := ((((s1.trans s2).trans s3).trans s4).trans s5).trans s6
    refine ⟨_, rfl, _, rfl, l6, l5, _, _, rfl, SqL.of h6, SqL.of h5, fun D hD => lc_gen (n := 8) (fun i G => Same H6 G ∧ G D = some (.lst ((((ws.zip bs).take i).filter (·.2)).map fun p => V.str p.1))) ⟨same_new hD, upd_same⟩ (fun i G h => ?_) (fun i G v G' hi h hyl => ?_) (fun G h => ?_)⟩
    · have := canL (K := K) (i := i) (a := l6) (b := l5) (xs := ws.map V.str) (ys := bs.map V.bl) (by rw [List.length_map, List.length_map, lw, lb]) (SqL.of (h.1 _ _ h6)) (SqL.of (h.1 _ _ h5))
      rw [List.length_map, lw] at this
      exact this
    · obtain ⟨T, x', y', rfl, hT, rfl, f1, f2⟩ := hyl
      obtain ⟨g1, g2⟩ := h
      have e1 := f1 _ (SqL.of (g1 _ _ h6))
      have e2 := f2 _ (SqL.of (g1 _ _ h5))
      have hiw : i < ws.length := by omega
      have hib : i < bs.length := by omega
      rw [List.getElem?_map, List.getElem?_eq_getElem hiw] at e1
      rw [List.getElem?_map, List.getElem?_eq_getElem hib] at e2
      cases e1
      cases e2
      have sT := same_new (o := .tup [V.str ws[i], V.bl bs[i]]) hT
      have hz : (ws.zip bs)[i]? = some (ws[i], bs[i]) := by
        rw [List.getElem?_zip_eq_some]
        exact ⟨List.getElem?_eq_getElem hiw, List.getElem?_eq_getElem hib⟩
      have ft : ((ws.zip bs).take (i + 1)).filter (·.2) = ((ws.zip bs).take i).filter (·.2) ++ (if bs[i] = true then [(ws[i], bs[i])] else []) := by
        rw [List.take_add_one, hz, List.filter_append]
        congr 1
        rw [Option.toList_some, List.filter_cons]
        rfl
      refine ⟨T, _, rfl, SqT.of upd_same, rfl, _, _, rfl, _, _, rfl, rfl, rfl, _, rfl, _, rfl, ?_⟩
      by_cases hb : bs[i] = true
      · rw [if_pos hb] at ft
        rw [if_pos hb]
        refine ⟨_, rfl, _, sT _ _ g2, ?_, ?_, ?_⟩
        · rw [List.length_map]
          exact small1000 (Nat.le_trans (List.length_filter_le _ _) (by rw [List.length_take]; omega))
        · exact fun c o e => by
            rw [upd_ne (ne_of_none e hD)]
            exact sT _ _ (g1 _ _ e)
        · rw [upd_same, ft, List.map_append]
          rfl
      · rw [if_neg hb, List.append_nil] at ft
        rw [if_neg hb]
        exact ⟨g1.trans sT, by rw [ft]; exact sT _ _ g2⟩
    obtain ⟨g1, g2⟩ := h
    rw [last] at g2
    have shB : SeqAt.shaped (.list [.str (Str.ofString "BadRule")]) = true := by
      show (PyData.canLay0 _ && decide (PyData.depth _ ≤ 64)) = true
      rw [Bool.and_eq_true]
      exact ⟨by simp [PyData.canLay0, PyData.canLayAll0]; decide +kernel, decide_eq_true (by simp [PyData.depth, PyData.depthAll])⟩
    refine ⟨_, rfl, _, rfl, (by show 1 ≤ sizeLine; decide), fun l7 n7 => ?_⟩
    have s7 := same_new (o := .lst [V.str (Str.ofString "BadRule")]) n7
    refine ⟨.list [.str (Str.ofString "BadRule")], .list [.str (Str.ofString "BadRule")], .lst (SqL.of (s7 _ _ g2)) (.cons (.str _) .nil), .lst (SqL.of upd_same) (.cons (.str _) .nil), shB, shB, _, rfl, ?_⟩
    rw [SeqAt.eqv_refl _ (SeqAt.canLay_of_shaped shB)]
    have ha := s7 _ _ (g1 _ _ ha)
    have hd := s7 _ _ (g1 _ _ hd)
    refine iteT ⟨_, rfl, a, CC.b, dx, fs, _, _, true, rfl, TE.ec, ha, hd, fun _ h => h, TE.kv, _, rfl, iteT ⟨_, rfl, a, CC.b, dx, fs, _, _, true, rfl, TE.ec, ha, hd, fun _ h => h, TE.kw, q _ ((sH.trans g1).trans s7)⟩⟩
/-! ### _law_refused -/
abbrev s__law_refused : Stmt := topS 32
abbrev N__law_refused : List Str := ["_law_some", "_law_caught_here", "error"]
theorem sc__law_refused : FnScope N__law_refused ["_law_some"] (defScope s__law_refused) := ⟨rfl, rfl, rfl, by decide +kernel, rfl, by decide +kernel, by decide +kernel⟩
def sp__law_refused (K : PySem.W.Frag) (C : CEs) : Sp := fun vs H Q _ => ∃ (t : Addr) (xs : List V) (w : Str), vs = [.ref t] ∧ SqL K H t xs ∧ Nine K H xs w ∧ ∀ H', Same H H' → Q (.str w) H'
theorem ok__law_refused {f : Addr} {fd : FuncData} (F : Fun K "_law_refused" "_law_refused" s__law_refused f fd) (g : mg "_law_refused" = some (.ref f)) (bd : Binds K fd ["_law_some"] []) {CC : CEs} (T_Rule : TRule K mg CC.r) (TE : TBad K mg CC) (XB : CEx P w K mg base CC.b 1 "BadRule" "word") (C__law_made : CFx P w K mg base 6 "_law_made" ["_law_some"] (sp__law_made K CC)) (C__law_caught : CF P w K mg base 1 "_law_caught" ["_law_caught_here", "_law_word"] (sp__law_caught K CC)) : CF P w K mg base 7 "_law_refused" ["_law_some"] (sp__law_refused K CC) := by
  refine ⟨f, fd, F.ok sc__law_refused (fun vs H Q E h => ?_) (fun cdv A outer s H vs Q E hr h => ?_), g, F.kp, bd⟩
  · first | (obtain ⟨_, rfl, _⟩ := h; rfl) | (obtain ⟨_, _, rfl, _⟩ := h; rfl) | (obtain ⟨_, _, _, rfl, _⟩ := h; rfl) | (obtain ⟨_, _, _, _, rfl, _⟩ := h; rfl) | (obtain ⟨_, _, _, _, _, rfl, _⟩ := h; rfl) | (obtain ⟨_, _, _, _, _, _, rfl, _⟩ := h; rfl) | (obtain ⟨_, _, _, _, _, _, _, rfl, _⟩ := h; rfl) | (obtain ⟨_, _, _, _, _, _, _, _, rfl, _⟩ := h; rfl) | (obtain ⟨_, _, _, _, _, _, _, _, _, rfl, _⟩ := h; rfl) | (obtain ⟨_, _, _, _, _, _, _, _, _, _, rfl, _⟩ := h; rfl) | (obtain ⟨_, _, _, _, _, _, _, _, _, _, _, rfl, _⟩ := h; rfl) | (obtain ⟨_, _, _, _, _, _, _, _, _, _, _, _, rfl, _⟩ := h; rfl) | (obtain ⟨_, _, _, _, _, _, _, _, _, _, _, _, _, rfl, _⟩ := h; rfl) | (obtain ⟨_, _, _, _, _, _, _, _, _, _, _, _, _, _, rfl, _⟩ := h; rfl) | (obtain ⟨_, _, _, _, _, _, _, _, _, _, _, _, _, _, _, rfl, _⟩ := h; rfl)
  · have hu64 := hr.units
    obtain ⟨t, xs, wd, rfl, hS, hN, q⟩ := h
    refine ⟨_, (pss_cons (ps_set (i := 1) sc__law_refused.nd rfl (.inl rfl) pe_non)
      (pss_cons (ps_try_keep (i := 2) rfl rfl rfl sc__law_refused.nd rfl rfl ⟨rfl, by decide, .inl TE.w⟩ (fun W pn xe tk _ =>
          (pss_one (ps_expr (pe_cfx C__law_made (hr.mono (by decide)) tk (by rfl) (pa_cons (pv 0) pa_nil)))))
          (fun _ _ _ _ _ _ _ => (pss_one (ps_set (i := 1) sc__law_refused.nd rfl (.inl rfl) (pv 2)))))
      (pss_cons (ps_if (pt_cmpR op_isN (pv 1) pe_non (nomark _))
         (pss_one (ps_ret pe_str))
         pss_nil)
      (pss_one (ps_ret (pe_ifExp (pt_val (pe_cf C__law_caught (hr.mono (by decide)) (by rfl) (pa_cons (pv 1) (pa_cons pe_str pa_nil)))) (pe_erF TE.xf TE.nw (pv 1)) pe_str)))))), ?_⟩
    refine ⟨_, rfl, t, rfl, .inr ⟨xs, wd, hS, hN, fun H1 d s1 nd hd => ⟨TE.xw, fun a na => ⟨_, rfl, ?_⟩⟩⟩⟩
    have sE := same_new (o := ErO (.ref CC.b) (some d) a) na
    have hE := upd_same (H := H1) (a := a) (o := ErO (.ref CC.b) (some d) a)
    refine ⟨_, rfl, rfl, _, rfl, iteF ?_⟩
    refine ⟨_, rfl, a, d, _, rfl, hE, sE _ _ hd, fun H2 s2 => ⟨_, rfl, iteT ⟨_, rfl, a, d, _, _, rfl, s2 _ _ hE, s2 _ _ (sE _ _ hd), rfl, q _ ((s1.trans sE).trans s2)⟩⟩⟩
theorem thin_ints : ∀ ns : List Int, thinAll (ns.map PyData.int) = true
  | [] => rfl
  | n :: r => by
    rw [List.map_cons]
    simp only [thinAll, thin, Bool.true_and]
    exact thin_ints r
def figD (f : Fg) : PyData := .tuple [.int f.p, .int f.s, .int f.g, .bool f.l, .int f.m, .tuple (f.ks.map PyData.int), .int f.fi, .int f.fa, .int f.ba]
theorem fig_dp {K : PySem.W.Frag} {H : Hp} {t a : Addr} {f : Fg} (h : SqT K H t [.int f.p, .int f.s, .int f.g, .bl f.l, .int f.m, .ref a, .int f.fi, .int f.fa, .int f.ba]) (ha : SqT K H a (f.ks.map V.int)) : Dp K H (.ref t) (figD f) :=
  .tup h (.cons (.int _) (.cons (.int _) (.cons (.int _) (.cons (.bl _) (.cons (.int _) (.cons (dpAll_intsT ha) (.cons (.int _) (.cons (.int _) (.cons (.int _) .nil)))))))))
theorem fig_depth (f : Fg) : PyData.depth (figD f) ≤ 4 := by
  have := depth_ints f.ks
  simp only [figD, PyData.depth, PyData.depthAll]
  omega
theorem fig_thin {f : Fg} (ok : f.Ok) : thin (figD f) = true := by
  have h1 := ok.len
  have h2 := ok.figs.p1
  simp only [figD, thin, thinAll, thin_ints, List.length_map, Bool.and_true, Bool.true_and]
  rw [Bool.and_eq_true]
  exact ⟨rfl, decide_eq_true (by omega)⟩
theorem rep_ix {K : PySem.W.Frag} {σ : L2.St} {H : Hp} {Q : VK} {t : Addr} {vs : List V} {p k : Int} (h0 : σ[0]? = some (some (.ref t))) (hT : SqT K H t (.int p :: vs)) (p0 : 1 ≤ p) (p1 : p ≤ 6) (q : ∀ H' u, Same H H' → SqT K H' u ((List.replicate p.toNat k).map V.int) → Q (.ref u) H') : tOp (rRepA K) (tTup (tCons (tC (.int k)) tNil)) (tOp (rIxT K) (tVar 0) (tC (V.int 0))) σ H Q := by
  refine ⟨(by show 1 ≤ sizeLine; decide), fun u nu => ⟨_, h0, t, _, _, _, rfl, rfl, seqT_same (same_new nu) hT, atI_nat (j := 0) rfl, ?_⟩⟩
  by_cases hp : p = 1
  · subst hp
    exact .inr ⟨u, [.int k], rfl, rfl, SqT.of upd_same, by simp, q _ u (same_new nu) (SqT.of upd_same)⟩
  · refine .inl ⟨u, p, [.int k], rfl, rfl, SqT.of upd_same, by simp, by omega, by omega, (by show 1 ≤ 1000; decide), fun t2 n2 => q _ t2 ((same_new nu).trans (same_new n2)) (SqT.of ?_)⟩
    rw [upd_same, rep1, List.map_replicate]
def gKw {α : Type} (us ds zs : List α) : List α := us ++ ((ds.drop 1).take 1 ++ (zs.drop 1 ++ ((ds.drop 3).take 3 ++ zs.take 1)))
theorem vals_drop : ∀ (n : Nat) {vs : List V} {us : List Value}, Vals vs us → Vals (vs.drop n) (us.drop n)
  | 0, _, _, h => h
  | n + 1, [], [], _ => .nil
  | n + 1, _ :: _, _ :: _, .cons _ r => vals_drop n r
theorem vals_take : ∀ (n : Nat) {vs : List V} {us : List Value}, Vals vs us → Vals (vs.take n) (us.take n)
  | 0, _, _, _ => .nil
  | n + 1, [], [], _ => .nil
  | n + 1, _ :: _, _ :: _, .cons h r => .cons h (vals_take n r)
theorem gKw_rel {vs ds zs : List V} {us its ws : List Value} (h1 : Vals vs us) (h2 : Vals ds its) (h3 : Vals zs ws) : Vals (gKw vs ds zs) (gKw us its ws) := h1.append ((vals_take 1 (vals_drop 1 h2)).append ((vals_drop 1 h3).append ((vals_take 3 (vals_drop 3 h2)).append (vals_take 1 h3))))
def gV_M_Rule_3_back_misses (vs zs : List V) : List V := gKw vs [.int 0, .bl false, .int 0, .int 0, .int 0, .int 0, .int 0] zs
/-! ### _law_short_right -/
abbrev s__law_short_right : Stmt := topS 33
abbrev N__law_short_right : List Str := ["_law_some", "_law_one", "_law_other"]
theorem sc__law_short_right : FnScope N__law_short_right ["_law_some"] (defScope s__law_short_right) := ⟨rfl, rfl, rfl, by decide +kernel, rfl, by decide +kernel, by decide +kernel⟩
def sp__law_short_right (K : PySem.W.Frag) (C : CEs) : Sp := fun vs H Q _ => ∃ (t : Addr) (f : Fg) (kv : V) (kd : PyData), vs = [.ref t] ∧ Drawn K H t f kv kd ∧ ∀ H', Same H H' → Q (.bl true) H'
theorem ok__law_short_right {f : Addr} {fd : FuncData} (F : Fun K "_law_short_right" "_law_short_right" s__law_short_right f fd) (g : mg "_law_short_right" = some (.ref f)) (bd : Binds K fd ["_law_some"] []) {CC : CEs} (T_Rule : TRule K mg CC.r) (TE : TBad K mg CC) (XB : CEx P w K mg base CC.b 1 "BadRule" "word") (C__law_same : CF P w K mg base 6 "_law_same" ["_law_found", "_law_due"] (sp__law_same K)) (M_Rule_3_back_misses : CMkk P w K mg base CC.r 4 "Rule" ["self", "parts", "step", "grace", "last", "misses", "keep", "fine", "falls", "back"] 4 ["back", "misses"] gV_M_Rule_3_back_misses (sp_Rule___init__ K CC)) (M_Rule_2 : CMkx P w K mg base CC.r 4 "Rule" ["self", "parts", "step", "grace", "last", "misses", "keep", "fine", "falls", "back"] [.int 0, .bl false, .int 0, .int 0, .int 0, .int 0, .int 0] (sp_Rule___init__ K CC)) (C_Rule_figures_0 : CMt P w K mg base CC.r 1 "figures" ["self"] [] (sp_Rule_figures K CC.r)) : CF P w K mg base 7 "_law_short_right" ["_law_some"] (sp__law_short_right K CC) := by
  refine ⟨f, fd, F.ok sc__law_short_right (fun vs H Q E h => ?_) (fun cdv A outer s H vs Q E hr h => ?_), g, F.kp, bd⟩
  · first | (obtain ⟨_, rfl, _⟩ := h; rfl) | (obtain ⟨_, _, rfl, _⟩ := h; rfl) | (obtain ⟨_, _, _, rfl, _⟩ := h; rfl) | (obtain ⟨_, _, _, _, rfl, _⟩ := h; rfl) | (obtain ⟨_, _, _, _, _, rfl, _⟩ := h; rfl) | (obtain ⟨_, _, _, _, _, _, rfl, _⟩ := h; rfl) | (obtain ⟨_, _, _, _, _, _, _, rfl, _⟩ := h; rfl) | (obtain ⟨_, _, _, _, _, _, _, _, rfl, _⟩ := h; rfl) | (obtain ⟨_, _, _, _, _, _, _, _, _, rfl, _⟩ := h; rfl) | (obtain ⟨_, _, _, _, _, _, _, _, _, _, rfl, _⟩ := h; rfl) | (obtain ⟨_, _, _, _, _, _, _, _, _, _, _, rfl, _⟩ := h; rfl) | (obtain ⟨_, _, _, _, _, _, _, _, _, _, _, _, rfl, _⟩ := h; rfl) | (obtain ⟨_, _, _, _, _, _, _, _, _, _, _, _, _, rfl, _⟩ := h; rfl) | (obtain ⟨_, _, _, _, _, _, _, _, _, _, _, _, _, _, rfl, _⟩ := h; rfl) | (obtain ⟨_, _, _, _, _, _, _, _, _, _, _, _, _, _, _, rfl, _⟩ := h; rfl)
  · have hu64 := hr.units
    obtain ⟨t, f', kv, kd, rfl, hD, q⟩ := h
    refine ⟨_, (pss_cons (ps_par (i := 1) (j := 2) (by rfl) sc__law_short_right.nd rfl rfl (by decide) rfl rfl (pa_cons (pe_mkn M_Rule_2 (hr.mono (by decide)) (by rfl) (pa_cons (pe_ix (kk_ixt K) (pv 0) pe_int (fun _ _ => rfl)) (pa_cons (pe_ix (kk_ixt K) (pv 0) pe_int (fun _ _ => rfl)) pa_nil))) (pa_cons (pe_mkk M_Rule_3_back_misses (hr.mono (by decide)) (by rfl) (pa_cons (pe_ix (kk_ixt K) (pv 0) pe_int (fun _ _ => rfl)) (pa_cons (pe_ix (kk_ixt K) (pv 0) pe_int (fun _ _ => rfl)) (pa_cons (pe_ix (kk_ixt K) (pv 0) pe_int (fun _ _ => rfl)) pa_nil))) (pk_cons (pe_ix (kk_ixt K) (pv 0) pe_int (fun _ _ => rfl)) (pk_cons (pe_ix (kk_ixt K) (pv 0) pe_int (fun _ _ => rfl)) pk_nil))) pa_nil)) (by rfl))
      (pss_cons (ps_if (pt_not (pt_val (pe_cf C__law_same (hr.mono (by decide)) (by rfl) (pa_cons (pe_mt0 C_Rule_figures_0 T_Rule.cl (hr.mono (by decide)) (pv 1)) (pa_cons (pe_tup (pa_cons (pe_ix (kk_ixt K) (pv 0) pe_int (fun _ _ => rfl)) (pa_cons (pe_ix (kk_ixt K) (pv 0) pe_int (fun _ _ => rfl)) (pa_cons pe_int (pa_cons pe_bl (pa_cons pe_int (pa_cons (pe_op (kk_repA K) (pe_tup (pa_cons pe_int pa_nil)) (pe_ix (kk_ixt K) (pv 0) pe_int (fun _ _ => rfl))) (pa_cons pe_int (pa_cons pe_int (pa_cons pe_int pa_nil)))))))))) pa_nil)))))
         (pss_one (ps_ret pe_bl))
         pss_nil)
      (pss_one (ps_ret (pe_cf C__law_same (hr.mono (by decide)) (by rfl) (pa_cons (pe_mt0 C_Rule_figures_0 T_Rule.cl (hr.mono (by decide)) (pv 2)) (pa_cons (pe_op (kk_catT K) (pe_slice (kk_slt K) (pv 0) po_none (po_some pe_int)) (pe_tup (pa_cons pe_bl (pa_cons (pe_ix (kk_ixt K) (pv 0) pe_int (fun _ _ => rfl)) (pa_cons (pe_op (kk_repA K) (pe_tup (pa_cons pe_int pa_nil)) (pe_ix (kk_ixt K) (pv 0) pe_int (fun _ _ => rfl))) (pa_cons pe_int (pa_cons pe_int (pa_cons (pe_ix (kk_ixt K) (pv 0) pe_int (fun _ _ => rfl)) pa_nil)))))))) pa_nil))))))), ?_⟩
    obtain ⟨hT, hF, hk⟩ := id hD
    have p0 := hF.p0
    have p1 := hF.p1
    have F1 : Figs f'.p f'.s 0 0 0 0 0 := ⟨hF.p0, hF.p1, hF.s0, hF.s1, by decide, by decide, by decide, by decide, by decide, by decide, by decide, by decide, by decide, by decide⟩
    have F2 : Figs f'.p f'.s f'.g f'.m 0 0 f'.ba := ⟨hF.p0, hF.p1, hF.s0, hF.s1, hF.g0, hF.g1, hF.m0, hF.m1, by decide, by decide, by decide, by decide, hF.ba0, hF.ba1⟩
    have o1 : Fg.Ok ⟨f'.p, f'.s, 0, false, 0, List.replicate f'.p.toNat 0, 0, 0, 0⟩ := ⟨F1, by show ((List.replicate f'.p.toNat (0 : Int)).length : Int) = f'.p; rw [List.length_replicate]; omega, fun k hk => by rw [List.eq_of_mem_replicate hk]; exact ⟨by decide, by decide⟩⟩
    have o2 : Fg.Ok ⟨f'.p, f'.s, f'.g, false, f'.m, List.replicate f'.p.toNat 0, 0, 0, f'.ba⟩ := ⟨F2, by show ((List.replicate f'.p.toNat (0 : Int)).length : Int) = f'.p; rw [List.length_replicate]; omega, fun k hk => by rw [List.eq_of_mem_replicate hk]; exact ⟨by decide, by decide⟩⟩
    refine ⟨_, rfl, t, _, _, _, rfl, rfl, hT, rfl, _, rfl, t, _, _, _, rfl, rfl, hT, rfl, ?_⟩
    intro x dx nx ndx hne
    have sx : Same H (upd (upd H dx (.own x)) x (.ins CC.r dx [])) := (same_new ndx).trans (same_new (by rw [upd_ne hne.symm]; exact nx))
    refine ⟨x, dx, _, _, _, _, _, _, _, _, _, rfl, upd_same, .inl ⟨_, _, _, _, _, .int 0, _, _, _, _, rfl, F1, .one 0 (by decide) (by decide) rfl, fun H1 kt hb1 e1 hs1 => ⟨rfl, ?_⟩⟩⟩
    have s1 : Same H H1 := same_but sx nx hb1
    have R1 : RuleAt K H1 CC.r x ⟨f'.p, f'.s, 0, false, 0, List.replicate f'.p.toNat 0, 0, 0, 0⟩ := ⟨dx, kt, e1, hs1⟩
    have hT1 := seqT_same s1 hT
    refine ⟨_, rfl, t, _, _, _, rfl, rfl, hT1, rfl, _, rfl, t, _, _, _, rfl, rfl, hT1, rfl, _, rfl, t, _, _, _, rfl, rfl, hT1, rfl, _, rfl, t, _, _, _, rfl, rfl, hT1, rfl, _, rfl, t, _, _, _, rfl, rfl, hT1, rfl, rfl, rfl, ?_⟩
    intro x2 dx2 nx2 ndx2 hne2
    have sx2 : Same H1 (upd (upd H1 dx2 (.own x2)) x2 (.ins CC.r dx2 [])) := (same_new ndx2).trans (same_new (by rw [upd_ne hne2.symm]; exact nx2))
    refine ⟨x2, dx2, _, _, _, _, _, _, _, _, _, rfl, upd_same, .inl ⟨_, _, _, _, _, .int 0, _, _, _, _, rfl, F2, .one 0 (by decide) (by decide) rfl, fun H2 kt2 hb2 e2 hs2 => ⟨rfl, _, _, rfl, ?_⟩⟩⟩
    have s2 : Same H1 H2 := same_but sx2 nx2 hb2
    have R2 : RuleAt K H2 CC.r x2 ⟨f'.p, f'.s, f'.g, false, f'.m, List.replicate f'.p.toNat 0, 0, 0, f'.ba⟩ := ⟨dx2, kt2, e2, hs2⟩
    have R1 := R1.same s2
    have hT2 := seqT_same s2 hT1
    refine ⟨_, rfl, x, dx, _, rfl, s2 _ _ e1, lk0 (by decide +kernel), x, _, rfl, R1, fun H3 t3 kt3 n3 s3 h3 hk3 => ?_⟩
    have hT3 := seqT_same s3 hT2
    refine ⟨_, rfl, t, _, _, _, rfl, rfl, hT3, rfl, _, rfl, t, _, _, _, rfl, rfl, hT3, rfl, rep_ix rfl hT3 p0 p1 fun H4 u s4 hu => ⟨(by show 9 ≤ sizeLine; decide), fun t4 n4 => ?_⟩⟩
    have s5 := same_new (o := .tup [V.int f'.p, .int f'.s, .int 0, .bl false, .int 0, .ref u, .int 0, .int 0, .int 0]) n4
    have s45 := s4.trans s5
    refine ⟨_, _, figD ⟨f'.p, f'.s, 0, false, 0, List.replicate f'.p.toNat 0, 0, 0, 0⟩, rfl, fig_dp (seqT_same s45 (SqT.of h3)) (seqT_same s45 hk3), fig_dp (SqT.of upd_same) (seqT_same s5 hu), fig_depth _, fig_thin o1, fun H5 s6 => ⟨_, rfl, iteF ?_⟩⟩
    have s25 := (s3.trans s45).trans s6
    have hT5 := seqT_same s25 hT2
    refine ⟨_, rfl, x2, dx2, _, rfl, s25 _ _ e2, lk0 (by decide +kernel), x2, _, rfl, R2.same s25, fun H6 t6 kt6 n6 s7 h6 hk6 => ?_⟩
    have hT6 := seqT_same s7 hT5
    refine ⟨_, rfl, _, rfl, t, _, rfl, hT6, (by show ¬ (HT.sIx 9 0 none = 0 ∧ HT.sIx 9 9 (some 3) = 9); decide), fun c1 m1 => ?_⟩
    have u1 := same_new (o := .tup [V.int f'.p, .int f'.s, .int f'.g]) m1
    have hc1 := upd_same (H := H6) (a := c1) (o := .tup [V.int f'.p, .int f'.s, .int f'.g])
    have ec : cutV [V.int f'.p, .int f'.s, .int f'.g, .bl f'.l, .int f'.m, kv, .int f'.fi, .int f'.fa, .int f'.ba] none (some 3) = [V.int f'.p, .int f'.s, .int f'.g] := rfl
    rw [ec]
    generalize upd H6 c1 (.tup [V.int f'.p, .int f'.s, .int f'.g]) = H7 at *
    have hT7 := seqT_same u1 hT6
    refine ⟨_, rfl, t, _, _, _, rfl, rfl, hT7, rfl, rep_ix rfl hT7 p0 p1 fun H8 v s8 hv => ?_⟩
    have hT8 := seqT_same s8 hT7
    refine ⟨_, rfl, t, _, _, _, rfl, rfl, hT8, rfl, (by show 6 ≤ sizeLine; decide), fun c2 m2 => ?_⟩
    have u2 := same_new (o := .tup [V.bl false, .int f'.m, .ref v, .int 0, .int 0, .int f'.ba]) m2
    have hc2 := upd_same (H := H8) (a := c2) (o := .tup [V.bl false, .int f'.m, .ref v, .int 0, .int 0, .int f'.ba])
    generalize upd H8 c2 (.tup [V.bl false, .int f'.m, .ref v, .int 0, .int 0, .int f'.ba]) = H9 at *
    refine ⟨c1, c2, _, _, rfl, rfl, SqT.of ((s8.trans u2) _ _ hc1), SqT.of hc2, (by simp), (by show 3 + 6 ≤ sizeLine; decide), fun e => (nomatch e), fun _ c3 m3 => ?_⟩
    have u3 := same_new (o := .tup ([V.int f'.p, .int f'.s, .int f'.g] ++ [V.bl false, .int f'.m, .ref v, .int 0, .int 0, .int f'.ba])) m3
    have s69 := ((u1.trans s8).trans u2).trans u3
    refine ⟨_, _, figD ⟨f'.p, f'.s, f'.g, false, f'.m, List.replicate f'.p.toNat 0, 0, 0, f'.ba⟩, rfl, fig_dp (seqT_same s69 (SqT.of h6)) (seqT_same s69 hk6), fig_dp (SqT.of upd_same) (seqT_same (u2.trans u3) hv), fig_depth _, fig_thin o2, fun HA sA => ?_⟩
    exact q _ ((((s1.trans s2).trans s25).trans s7).trans (s69.trans sA))
/-- all stands as it was but at z -/
def FrZ (z : List Addr) (G G' : Hp) : Prop := ∀ c o, c ∉ z → G c = some o → G' c = some o
/-- data that hang on nothing that was there ahead -/
def DN (K : PySem.W.Frag) (H0 G : Hp) (v : V) (d : PyData) : Prop := ∀ G' z, FrZ z G G' → (∀ a ∈ z, H0 a ≠ none) → Dp K G' v d
section
variable {K : PySem.W.Frag} {H0 G G1 : Hp} {v : V} {d : PyData} {b t : Addr} {vs : List V} {ds : List PyData}
theorem DN.same (h : DN K H0 G v d) (s : Same G G1) : DN K H0 G1 v d := fun G' z f n => h G' z (fun c o hc e => f c o hc (s c o e)) n
theorem DN.but (h : DN K H0 G v d) (s : But b G G1) (nb : H0 b ≠ none) : DN K H0 G1 v d := fun G' z f n => h G' (b :: z) (fun c o hc e => f c o (fun y => hc (List.mem_cons_of_mem _ y)) (s c o (fun y => hc (by rw [y]; exact List.mem_cons_self)) e)) (fun a ha => by
  rcases List.mem_cons.mp ha with y | y
  · rw [y]; exact nb
  · exact n a y)
theorem DN.now (h : DN K H0 G v d) : Dp K G v d := h G [] (fun _ _ _ e => e) (fun _ h => nomatch h)
def DNs (K : PySem.W.Frag) (H0 G : Hp) : List V → List PyData → Prop
  | [], [] => True
  | v :: vs, d :: ds => DN K H0 G v d ∧ DNs K H0 G vs ds
  | _, _ => False
theorem DNs.same : ∀ {vs : List V} {ds : List PyData}, DNs K H0 G vs ds → Same G G1 → DNs K H0 G1 vs ds
  | [], [], _, _ => trivial
  | v :: vs, d :: ds, h, s => ⟨h.1.same s, DNs.same h.2 s⟩
theorem DNs.but : ∀ {vs : List V} {ds : List PyData}, DNs K H0 G vs ds → But b G G1 → H0 b ≠ none → DNs K H0 G1 vs ds
  | [], [], _, _, _ => trivial
  | v :: vs, d :: ds, h, s, n => ⟨h.1.but s n, DNs.but h.2 s n⟩
theorem DNs.all : ∀ {vs : List V} {ds : List PyData}, DNs K H0 G vs ds → ∀ G' z, FrZ z G G' → (∀ a ∈ z, H0 a ≠ none) → DpAll K G' vs ds
  | [], [], _, _, _, _, _ => .nil
  | v :: vs, d :: ds, h, G', z, f, n => .cons (h.1 G' z f n) (DNs.all h.2 G' z f n)
theorem DNs.len : ∀ {vs : List V} {ds : List PyData}, DNs K H0 G vs ds → vs.length = ds.length
  | [], [], _ => rfl
  | v :: vs, d :: ds, h => by rw [List.length_cons, List.length_cons, DNs.len h.2]
theorem DNs.app : ∀ {vs ws : List V} {ds es : List PyData}, DNs K H0 G vs ds → DNs K H0 G ws es → DNs K H0 G (vs ++ ws) (ds ++ es)
  | [], _, [], _, _, k => k
  | v :: vs, _, d :: ds, _, h, k => ⟨h.1, DNs.app h.2 k⟩
theorem DNs.at : ∀ {vs : List V} {ds : List PyData} {i : Nat}, DNs K H0 G vs ds → i < vs.length → ∃ v d, vs[i]? = some v ∧ d ∈ ds ∧ DN K H0 G v d
  | v :: vs, d :: ds, 0, h, _ => ⟨v, d, rfl, List.mem_cons_self, h.1⟩
  | v :: vs, d :: ds, i + 1, h, hi => by
    obtain ⟨w, e, h1, h2, h3⟩ := DNs.at (i := i) h.2 (by rw [List.length_cons] at hi; omega)
    exact ⟨w, e, h1, List.mem_cons_of_mem _ h2, h3⟩
theorem DNs.pick {r : Int} (h : DNs K H0 G vs ds) (r0 : 0 ≤ r) (r1 : r < vs.length) : ∃ v d, atI vs r = some v ∧ d ∈ ds ∧ DN K H0 G v d := by
  obtain ⟨j, rfl⟩ := Int.eq_ofNat_of_zero_le r0
  obtain ⟨v, d, h1, h2, h3⟩ := h.at (i := j) (by omega)
  exact ⟨v, d, atI_nat h1, h2, h3⟩
theorem dn_int {i : Int} : DN K H0 G (.int i) (.int i) := fun _ _ _ _ => .int i
theorem dn_str {s : Str} : DN K H0 G (.str s) (.str s) := fun _ _ _ _ => .str s
theorem dn_bl {c : Bool} : DN K H0 G (.bl c) (.bool c) := fun _ _ _ _ => .bl c
theorem dn_non : DN K H0 G .non .none := fun _ _ _ _ => .non
theorem dn_tup (n : H0 t = none) (h : G t = some (.tup vs)) (a : DNs K H0 G vs ds) : DN K H0 G (.ref t) (.tuple ds) := fun G' z f nz => .tup (SqT.of (f t _ (fun y => nz t y n) h)) (a.all G' z f nz)
theorem dn_lst (n : H0 t = none) (h : G t = some (.lst vs)) (a : DNs K H0 G vs ds) : DN K H0 G (.ref t) (.list ds) := fun G' z f nz => .lst (SqL.of (f t _ (fun y => nz t y n) h)) (a.all G' z f nz)
theorem dns_ints : ∀ ns : List Int, DNs K H0 G (ns.map V.int) (ns.map PyData.int)
  | [] => trivial
  | n :: r => ⟨dn_int, dns_ints r⟩
end
/-- what may not stand at a place -/
def badAt (at_ many : Int) (d : PyData) : Bool :=
  if at_ = 0 then !numIn d 1 6 else if at_ = 1 then !numIn d 1 14 else if at_ = 2 then !numIn d 0 7 else if at_ = 3 then !isK "bool" d else if at_ = 4 then !numIn d 0 2 else if at_ = 5 then !keptOk d (.int many) else if at_ = 6 then !numIn d 0 100 else !numIn d 0 30
/-! ### _law_bad -/
abbrev s__law_bad : Stmt := topS 31
abbrev N__law_bad : List Str := ["_law_left", "_law_many", "_law_at", "_law_odd", "_law_some", "_law_least", "_law_most", "_law_one", "_law_row", "_law_turn", "_law_more"]
theorem sc__law_bad : FnScope N__law_bad ["_law_left", "_law_many", "_law_at"] (defScope s__law_bad) := ⟨rfl, rfl, rfl, by decide +kernel, rfl, by decide +kernel, by decide +kernel⟩
theorem sh_of {d : PyData} (h1 : PyData.canLay0 d = true) (h2 : PyData.depth d ≤ 64) : SeqAt.shaped d = true := by
  show (PyData.canLay0 d && decide (PyData.depth d ≤ 64)) = true
  rw [h1, decide_eq_true h2]
  rfl
/-- things that are no truths -/
theorem bad3 {many : Int} (d : PyData) (hd : d ∈ ([.none, .str (Str.ofString ""), .str (Str.ofString "1"), .tuple [], .list [], .list [.int 1], .tuple [.int 1], .tuple [.tuple [.int 1]], .tuple [.none, .int 2], .int (-1), .int (10 ^ (6 : Int).toNat), .int 0, .int 1, .str (Str.ofString "True"), .str (Str.ofString "last")] : List PyData)) : SeqAt.shaped d = true ∧ (∀ ds, d = .tuple ds → ds.length ≤ 1000) ∧ badAt 3 many d = true := by
  simp only [List.mem_cons, List.not_mem_nil, or_false] at hd
  rcases hd with rfl | rfl | rfl | rfl | rfl | rfl | rfl | rfl | rfl | rfl | rfl | rfl | rfl | rfl | rfl
  all_goals refine ⟨sh_of ?_ ?_, ?_, ?_⟩
  all_goals first | rfl | decide +kernel | (intro ds e; cases e; decide) | (intro ds e; cases e) | (simp [PyData.canLay0, PyData.canLayAll0, PyData.depth, PyData.depthAll]; done) | (simp [PyData.canLay0, PyData.canLayAll0]; decide +kernel)
/-- the bounds of a figure -/
def Bnd (at_ lo hi : Int) : Prop := (at_ = 0 ∧ lo = 1 ∧ hi = 6) ∨ (at_ = 1 ∧ lo = 1 ∧ hi = 14) ∨ (at_ = 2 ∧ lo = 0 ∧ hi = 7) ∨ (at_ = 3 ∧ lo = 0 ∧ hi = 1) ∨ (at_ = 4 ∧ lo = 0 ∧ hi = 2) ∨ (at_ = 5 ∧ lo = 0 ∧ hi = 100) ∨ (at_ = 6 ∧ lo = 0 ∧ hi = 100) ∨ (at_ = 7 ∧ lo = 0 ∧ hi = 30) ∨ (at_ = 8 ∧ lo = 0 ∧ hi = 30)
theorem iteN2 {a b : Int} {A B : Prop} (hc : ¬ a = b) (h : A) : if (!decide (V.int a = V.int b)) = true then A else B := by
  rw [show decide (V.int a = V.int b) = false from decide_eq_false (fun z => hc (V.int.inj z))]
  exact iteT h
theorem iteE2 {a : Int} {A B : Prop} (h : B) : if (!decide (V.int a = V.int a)) = true then A else B := by
  rw [show decide (V.int a = V.int a) = true from decide_eq_true rfl]
  exact iteF h
theorem ix_nat {n j : Nat} (hj : j < n) : ixN n (j : Int) = some j := by
  unfold ixN
  rw [if_pos (by omega), if_pos (by omega)]
  simp
theorem DNs.set {K : PySem.W.Frag} {H0 G : Hp} {v : V} {d : PyData} : ∀ {vs : List V} {ds : List PyData} {j : Nat}, DNs K H0 G vs ds → DN K H0 G v d → DNs K H0 G (vs.set j v) (ds.set j d)
  | [], [], _, _, _ => trivial
  | x :: vs, e :: ds, 0, h, k => ⟨k, h.2⟩
  | x :: vs, e :: ds, j + 1, h, k => ⟨h.1, DNs.set h.2 k⟩
theorem DNs.at2 {K : PySem.W.Frag} {H0 G : Hp} : ∀ {vs : List V} {ds : List PyData} {i : Nat}, DNs K H0 G vs ds → i < vs.length → ∃ v d, vs[i]? = some v ∧ ds[i]? = some d ∧ DN K H0 G v d
  | v :: vs, d :: ds, 0, h, _ => ⟨v, d, rfl, rfl, h.1⟩
  | v :: vs, d :: ds, i + 1, h, hi => by
    obtain ⟨w, e, h1, h2, h3⟩ := DNs.at2 (i := i) h.2 (by rw [List.length_cons] at hi; omega)
    exact ⟨w, e, h1, h2, h3⟩
theorem sh_i (i : Int) : SeqAt.shaped (.int i) = true := sh_of (by simp [PyData.canLay0]) (by simp [PyData.depth])
theorem num_out {i lo hi : Int} (h : i < lo ∨ hi < i) : numIn (.int i) lo hi = false := by
  show (decide (lo ≤ i) && decide (i ≤ hi)) = false
  rcases h with h | h
  · rw [decide_eq_false (show ¬ lo ≤ i by omega), Bool.false_and]
  · rw [decide_eq_false (show ¬ i ≤ hi by omega), Bool.and_false]
/-- things that are no numbers in the bounds -/
theorem out_of {lo hi : Int} (l0 : 0 ≤ lo) (h1 : hi ≤ 100) (d : PyData) (hd : d ∈ ([PyData.none, .str (Str.ofString ""), .str (Str.ofString "1"), .list [], .list [.int 1], .int (-1), .int (10 ^ (6 : Int).toNat), .bool true, .bool false, .int (lo - 1), .int (hi + 1), .int (hi + 100)] ++ [.tuple [.int 1], .tuple []] : List PyData)) : SeqAt.shaped d = true ∧ (∀ ds, d = .tuple ds → ds.length ≤ 1000) ∧ numIn d lo hi = false := by
  simp only [List.cons_append, List.nil_append, List.mem_cons, List.not_mem_nil, or_false] at hd
  rcases hd with rfl | rfl | rfl | rfl | rfl | rfl | rfl | rfl | rfl | rfl | rfl | rfl | rfl | rfl
  case inr.inr.inr.inr.inr.inl => exact ⟨sh_i _, fun ds e => (nomatch e), num_out (.inl (by omega))⟩
  case inr.inr.inr.inr.inr.inr.inl => exact ⟨sh_i _, fun ds e => (nomatch e), num_out (.inr (by show hi < 1000000; omega))⟩
  case inr.inr.inr.inr.inr.inr.inr.inr.inr.inl => exact ⟨sh_i _, fun ds e => (nomatch e), num_out (.inl (by omega))⟩
  case inr.inr.inr.inr.inr.inr.inr.inr.inr.inr.inl => exact ⟨sh_i _, fun ds e => (nomatch e), num_out (.inr (by omega))⟩
  case inr.inr.inr.inr.inr.inr.inr.inr.inr.inr.inr.inl => exact ⟨sh_i _, fun ds e => (nomatch e), num_out (.inr (by omega))⟩
  all_goals refine ⟨sh_of ?_ ?_, ?_, ?_⟩
  all_goals first | rfl | decide +kernel | (intro ds e; cases e; decide) | (intro ds e; cases e) | (simp [PyData.canLay0, PyData.canLayAll0, PyData.depth, PyData.depthAll]; done) | (simp [PyData.canLay0, PyData.canLayAll0]; decide +kernel)
theorem badN {at_ lo hi many : Int} (hB : Bnd at_ lo hi) (h3 : ¬ at_ = 3) (h5 : ¬ at_ = 5) (d : PyData) (hd : d ∈ ([PyData.none, .str (Str.ofString ""), .str (Str.ofString "1"), .list [], .list [.int 1], .int (-1), .int (10 ^ (6 : Int).toNat), .bool true, .bool false, .int (lo - 1), .int (hi + 1), .int (hi + 100)] ++ [.tuple [.int 1], .tuple []] : List PyData)) : SeqAt.shaped d = true ∧ (∀ ds, d = .tuple ds → ds.length ≤ 1000) ∧ badAt at_ many d = true := by
  have hl : 0 ≤ lo ∧ hi ≤ 100 := by unfold Bnd at hB; omega
  obtain ⟨a1, a2, a3⟩ := out_of hl.1 hl.2 d hd
  refine ⟨a1, a2, ?_⟩
  unfold Bnd at hB
  rcases hB with ⟨rfl, rfl, rfl⟩ | ⟨rfl, rfl, rfl⟩ | ⟨rfl, rfl, rfl⟩ | ⟨rfl, _⟩ | ⟨rfl, rfl, rfl⟩ | ⟨rfl, _⟩ | ⟨rfl, rfl, rfl⟩ | ⟨rfl, rfl, rfl⟩ | ⟨rfl, rfl, rfl⟩
  case inr.inr.inr.inl => exact absurd rfl h3
  case inr.inr.inr.inr.inr.inl => exact absurd rfl h5
  all_goals first | (rw [show badAt 0 many d = !numIn d 1 6 from rfl, a3]; rfl) | (rw [show badAt 1 many d = !numIn d 1 14 from rfl, a3]; rfl) | (rw [show badAt 2 many d = !numIn d 0 7 from rfl, a3]; rfl) | (rw [show badAt 4 many d = !numIn d 0 2 from rfl, a3]; rfl) | (rw [show badAt 6 many d = !numIn d 0 100 from rfl, a3]; rfl) | (rw [show badAt 7 many d = !numIn d 0 30 from rfl, a3]; rfl) | (rw [show badAt 8 many d = !numIn d 0 30 from rfl, a3]; rfl)
theorem lay_set {w : PyData} (hw : PyData.canLay0 w = true) : ∀ (ns : List Int) (j : Nat), PyData.canLayAll0 ((ns.map PyData.int).set j w) = true
  | [], _ => by simp [PyData.canLayAll0]
  | n :: r, 0 => by simp [PyData.canLayAll0, hw, lay_ints r]
  | n :: r, j + 1 => by simp [PyData.canLayAll0, PyData.canLay0, lay_set hw r j]
theorem depth_set {w : PyData} (hw : PyData.depth w ≤ 3) : ∀ (ns : List Int) (j : Nat), PyData.depthAll ((ns.map PyData.int).set j w) ≤ 3
  | [], _ => by simp [PyData.depthAll]
  | n :: r, 0 => by
    have h := depth_ints r
    simp only [List.map_cons, List.set_cons_zero, PyData.depthAll]
    omega
  | n :: r, j + 1 => by
    have h := depth_set hw r j
    simp only [List.map_cons, List.set_cons_succ, PyData.depthAll, PyData.depth]
    omega
theorem shT_ints (ns : List Int) : SeqAt.shaped (.tuple (ns.map PyData.int)) = true := by
  have h1 := depth_ints ns
  refine sh_of ?_ ?_
  · simp only [PyData.canLay0]
    exact lay_ints ns
  · simp only [PyData.depth]
    omega
theorem kept_len {ds : List PyData} {many : Int} (h : ¬ (ds.length : Int) = many) : badAt 5 many (.tuple ds) = true := by
  show (!(((ds.length : Int) == many) && ds.all fun d => numIn d 0 100)) = true
  rw [show ((ds.length : Int) == many) = false from beq_eq_false_iff_ne.mpr h]
  rfl
theorem kept_item {ds : List PyData} {many : Int} {w : PyData} (h : w ∈ ds) (hw : numIn w 0 100 = false) : badAt 5 many (.tuple ds) = true := by
  show (!(((ds.length : Int) == many) && ds.all fun d => numIn d 0 100)) = true
  rw [show (ds.all fun d => numIn d 0 100) = false from List.all_eq_false.mpr ⟨w, h, by rw [hw]; decide⟩, Bool.and_false]
  rfl
theorem kept_non {d : PyData} {many : Int} (h : ∀ ds, d ≠ .tuple ds) (h0 : numIn d 0 100 = false) : badAt 5 many d = true := by
  show (!keptOk d (.int many)) = true
  cases d
  case tuple ds => exact absurd rfl (h ds)
  all_goals simp only [keptOk, h0]
  all_goals rfl
/-- things that may not be kept -/
theorem bad5 {many : Int} {ns : List Int} {jn : Nat} (hns : ns.length = many.toNat) (m0 : 1 ≤ many) (m1 : many ≤ 6) (hj : (jn : Int) < many) (w : PyData) (hw : w ∈ ([.int (-1), .int 101, .bool true, .none, .str (Str.ofString "5"), .tuple [.int 5], .list [.int 5]] : List PyData)) (d : PyData)
    (hd : d ∈ ([PyData.none, .str (Str.ofString ""), .str (Str.ofString "1"), .list [], .list [.int 1], .int (-1), .int (10 ^ (6 : Int).toNat), .bool true, .bool false, .int (0 - 1), .int (100 + 1), .int (100 + 100)] ++ [.tuple [], .tuple ((List.replicate (many + 1).toNat 5).map PyData.int), .tuple ((List.replicate (many - 1).toNat 5).map PyData.int), .list ((List.replicate many.toNat 5).map PyData.int), .tuple ((ns.map PyData.int).set jn w), .tuple [.tuple ((List.replicate many.toNat 5).map PyData.int)]] : List PyData)) : SeqAt.shaped d = true ∧ (∀ ds, d = .tuple ds → ds.length ≤ 1000) ∧ badAt 5 many d = true := by
  rcases List.mem_append.mp hd with h | h
  · obtain ⟨a1, a2, a3⟩ := out_of (lo := 0) (hi := 100) (by decide) (by decide) d (List.mem_append_left _ h)
    refine ⟨a1, a2, ?_⟩
    simp only [List.mem_cons, List.not_mem_nil, or_false] at h
    rcases h with rfl | rfl | rfl | rfl | rfl | rfl | rfl | rfl | rfl | rfl | rfl | rfl
    all_goals exact kept_non (fun _ z => (nomatch z)) a3
  · have wf : PyData.canLay0 w = true ∧ PyData.depth w ≤ 3 ∧ numIn w 0 100 = false := by
      simp only [List.mem_cons, List.not_mem_nil, or_false] at hw
      rcases hw with rfl | rfl | rfl | rfl | rfl | rfl | rfl
      all_goals refine ⟨?_, ?_, ?_⟩
      all_goals first | rfl | decide +kernel | (simp [PyData.canLay0, PyData.canLayAll0, PyData.depth, PyData.depthAll]; done) | (simp [PyData.canLay0, PyData.canLayAll0]; decide +kernel)
    simp only [List.mem_cons, List.not_mem_nil, or_false] at h
    rcases h with rfl | rfl | rfl | rfl | rfl | rfl
    · exact ⟨shT_ints [], fun ds e => by cases e; decide, kept_len (by show ¬ ((0 : Nat) : Int) = many; omega)⟩
    · exact ⟨shT_ints _, fun ds e => by cases e; rw [List.length_map, List.length_replicate]; omega, kept_len (by rw [List.length_map, List.length_replicate]; omega)⟩
    · exact ⟨shT_ints _, fun ds e => by cases e; rw [List.length_map, List.length_replicate]; omega, kept_len (by rw [List.length_map, List.length_replicate]; omega)⟩
    · exact ⟨sh_ints _, fun ds e => (nomatch e), rfl⟩
    · refine ⟨sh_of ?_ ?_, fun ds e => ?_, kept_item (List.mem_iff_getElem?.mpr ⟨jn, ?_⟩) wf.2.2⟩
      · simp only [PyData.canLay0]
        exact lay_set wf.1 ns jn
      · have := depth_set wf.2.1 ns jn
        simp only [PyData.depth]
        omega
      · cases e
        rw [List.length_set, List.length_map]
        omega
      · rw [List.getElem?_set_self (by rw [List.length_map]; omega)]
    · refine ⟨sh_of ?_ ?_, fun ds e => by cases e; show 1 ≤ 1000; decide, kept_item (List.mem_cons_self) rfl⟩
      · have := lay_ints (List.replicate many.toNat 5)
        simp only [PyData.canLay0, PyData.canLayAll0, this]
        rfl
      · have := depth_ints (List.replicate many.toNat 5)
        simp only [PyData.depth, PyData.depthAll]
        omega
/-- a small thing -/
structure Sm (k B : Nat) (d : PyData) : Prop where
  sh : d.showable = true
  di : d.hasDict = false
  de : d.depth ≤ k
  le : d.shown.length ≤ B
theorem Sm.mono {k m B C : Nat} {d : PyData} (h : Sm k B d) (l : k ≤ m) (r : B ≤ C) : Sm m C d := ⟨h.sh, h.di, Nat.le_trans h.de l, Nat.le_trans h.le r⟩
theorem sm_int {i : Int} (h0 : -1000002 ≤ i) (h1 : i ≤ 1000002) : Sm 1 11 (.int i) := by
  refine ⟨?_, rfl, by simp [PyData.depth], ?_⟩
  · have : i.natAbs.log2 < 1920 := by
      by_cases z : i.natAbs = 0
      · rw [z]
        decide
      · have : i.natAbs.log2 < 30 := (Nat.log2_lt z).mpr (by show i.natAbs < 1073741824; omega)
        omega
    simp [PyData.showable, this]
  · have e1 : PyData.shown (.int i) = Str.ofString (toString i) := by simp only [PyData.shown]
    rw [e1]
    by_cases c : 0 ≤ i
    · exact Nat.le_trans (PyProof.Rows.toString_length_le (v := i) c (k := 10) (by decide) (by show i < 10000000000; omega)) (by decide)
    · have a := PyProof.Rows.len_text_negI (n := i) (by omega)
      have b := PyProof.Rows.toString_length_le (v := 0 - i) (by omega) (k := 10) (by decide) (by show 0 - i < 10000000000; omega)
      omega
theorem join_len (sep : Str) : ∀ ts : List Str, (Str.join sep ts).length ≤ (ts.map (·.length)).sum + ts.length * sep.length
  | [] => Nat.zero_le _
  | [x] => by
    show x.length ≤ _
    simp only [List.map_cons, List.map_nil, List.sum_cons, List.sum_nil]
    omega
  | x :: y :: r => by
    have h := join_len sep (y :: r)
    show (x ++ sep ++ Str.join sep (y :: r)).length ≤ _
    rw [len_app, len_app, List.map_cons, List.sum_cons, List.length_cons, Nat.add_mul, Nat.one_mul]
    omega
theorem all_len {B : Nat} : ∀ {l : List PyData}, (∀ d ∈ l, (PyData.shown d).length ≤ B) → ((PyData.shownAll l).map (·.length)).sum ≤ B * l.length ∧ (PyData.shownAll l).length = l.length
  | [], _ => ⟨Nat.le_refl _, rfl⟩
  | d :: r, h => by
    obtain ⟨a, b⟩ := all_len (l := r) fun x hx => h x (List.mem_cons_of_mem _ hx)
    have c := h d List.mem_cons_self
    rw [PyData.shownAll_cons, List.map_cons, List.sum_cons, List.length_cons, List.length_cons, b, Nat.mul_add]
    exact ⟨by omega, rfl⟩
theorem all_seen {k : Nat} : ∀ {l : List PyData}, (∀ d ∈ l, d.showable = true ∧ d.hasDict = false ∧ d.depth ≤ k) → PyData.showableAll l = true ∧ PyData.hasDictAll l = false ∧ PyData.depthAll l ≤ k
  | [], _ => by simp [PyData.showableAll, PyData.hasDictAll, PyData.depthAll]
  | d :: r, h => by
    obtain ⟨a, b, c⟩ := h d List.mem_cons_self
    obtain ⟨a2, b2, c2⟩ := all_seen (l := r) fun x hx => h x (List.mem_cons_of_mem _ hx)
    simp only [PyData.showableAll, PyData.hasDictAll, PyData.depthAll, a, b, a2, b2, Bool.and_self, Bool.or_self]
    exact ⟨trivial, trivial, by omega⟩
theorem sm_seq {k B : Nat} {l : List PyData} (h : ∀ d ∈ l, Sm k B d) (hl : l.length ≤ 9) : Sm (k + 1) (B * 9 + 21) (.list l) ∧ Sm (k + 1) (B * 9 + 21) (.tuple l) := by
  obtain ⟨a, b, c⟩ := all_seen (k := k) fun d hd => ⟨(h d hd).sh, (h d hd).di, (h d hd).de⟩
  obtain ⟨u, v⟩ := all_len (B := B) fun d hd => (h d hd).le
  have w := join_len ", " (PyData.shownAll l)
  have e3 : (Str.ofString ", ").length = 2 := rfl
  rw [v, e3] at w
  have e1 : (Str.ofString "[").length = 1 := rfl
  have e2 : (Str.ofString "]").length = 1 := rfl
  have u2 : B * l.length ≤ B * 9 := Nat.mul_le_mul_left B hl
  refine ⟨⟨by simp [PyData.showable, a], by simp [PyData.hasDict, b], by simp only [PyData.depth]; omega, ?_⟩, ⟨by simp [PyData.showable, a], by simp [PyData.hasDict, b], by simp only [PyData.depth]; omega, ?_⟩⟩
  · rw [PyData.shown_list, len_app, len_app, e1, e2]
    omega
  · have e4 : (Str.ofString (if (l.length == 1) = true then ",)" else ")")).length ≤ 2 := by split <;> decide +kernel
    have e5 : (Str.ofString "(").length = 1 := rfl
    rw [PyData.shown_tuple, len_app, len_app, e5]
    omega
theorem sm_ints {ns : List Int} (h : ∀ n ∈ ns, -1000002 ≤ n ∧ n ≤ 1000002) (hl : ns.length ≤ 9) : Sm 2 120 (.list (ns.map PyData.int)) ∧ Sm 2 120 (.tuple (ns.map PyData.int)) := by
  refine sm_seq (k := 1) (B := 11) (fun d hd => ?_) (by rw [List.length_map]; exact hl)
  obtain ⟨n, hn, rfl⟩ := List.mem_map.mp hd
  exact sm_int (h n hn).1 (h n hn).2
theorem bad3s (d : PyData) (hd : d ∈ ([.none, .str (Str.ofString ""), .str (Str.ofString "1"), .tuple [], .list [], .list [.int 1], .tuple [.int 1], .tuple [.tuple [.int 1]], .tuple [.none, .int 2], .int (-1), .int (10 ^ (6 : Int).toNat), .int 0, .int 1, .str (Str.ofString "True"), .str (Str.ofString "last")] : List PyData)) : Sm 3 1101 d := by
  simp only [List.mem_cons, List.not_mem_nil, or_false] at hd
  rcases hd with rfl | rfl | rfl | rfl | rfl | rfl | rfl | rfl | rfl | rfl | rfl | rfl | rfl | rfl | rfl
  all_goals exact ⟨by decide +kernel, by decide +kernel, by decide +kernel, by decide +kernel⟩
theorem out_s {lo hi : Int} (l0 : 0 ≤ lo) (l1 : lo ≤ 1) (h0 : 0 ≤ hi) (h1 : hi ≤ 100) (d : PyData) (hd : d ∈ ([PyData.none, .str (Str.ofString ""), .str (Str.ofString "1"), .list [], .list [.int 1], .int (-1), .int (10 ^ (6 : Int).toNat), .bool true, .bool false, .int (lo - 1), .int (hi + 1), .int (hi + 100)] ++ [.tuple [.int 1], .tuple []] : List PyData)) : Sm 3 1101 d := by
  simp only [List.cons_append, List.nil_append, List.mem_cons, List.not_mem_nil, or_false] at hd
  rcases hd with rfl | rfl | rfl | rfl | rfl | rfl | rfl | rfl | rfl | rfl | rfl | rfl | rfl | rfl
  case inr.inr.inr.inr.inr.inr.inr.inr.inr.inl => exact (sm_int (by omega) (by omega)).mono (by decide) (by decide)
  case inr.inr.inr.inr.inr.inr.inr.inr.inr.inr.inl => exact (sm_int (by omega) (by omega)).mono (by decide) (by decide)
  case inr.inr.inr.inr.inr.inr.inr.inr.inr.inr.inr.inl => exact (sm_int (by omega) (by omega)).mono (by decide) (by decide)
  all_goals exact ⟨by decide +kernel, by decide +kernel, by decide +kernel, by decide +kernel⟩
theorem bad5s {many : Int} {ns : List Int} {jn : Nat} (hns : ns.length = many.toNat) (hok : ∀ k ∈ ns, 0 ≤ k ∧ k ≤ 100) (m0 : 1 ≤ many) (m1 : many ≤ 6) (w : PyData) (hw : w ∈ ([.int (-1), .int 101, .bool true, .none, .str (Str.ofString "5"), .tuple [.int 5], .list [.int 5]] : List PyData)) (d : PyData)
    (hd : d ∈ ([PyData.none, .str (Str.ofString ""), .str (Str.ofString "1"), .list [], .list [.int 1], .int (-1), .int (10 ^ (6 : Int).toNat), .bool true, .bool false, .int (0 - 1), .int (100 + 1), .int (100 + 100)] ++ [.tuple [], .tuple ((List.replicate (many + 1).toNat 5).map PyData.int), .tuple ((List.replicate (many - 1).toNat 5).map PyData.int), .list ((List.replicate many.toNat 5).map PyData.int), .tuple ((ns.map PyData.int).set jn w), .tuple [.tuple ((List.replicate many.toNat 5).map PyData.int)]] : List PyData)) : Sm 3 1101 d := by
  rcases List.mem_append.mp hd with h | h
  · exact out_s (lo := 0) (hi := 100) (by decide) (by decide) (by decide) (by decide) d (List.mem_append_left _ h)
  · have rp : ∀ {k : Nat}, k ≤ 9 → Sm 2 120 (.list ((List.replicate k 5).map PyData.int)) ∧ Sm 2 120 (.tuple ((List.replicate k 5).map PyData.int)) := fun {k} hk => sm_ints (fun n hn => by rw [List.eq_of_mem_replicate hn]; decide) (by rw [List.length_replicate]; exact hk)
    simp only [List.mem_cons, List.not_mem_nil, or_false] at h
    rcases h with rfl | rfl | rfl | rfl | rfl | rfl
    · exact ⟨by decide +kernel, by decide +kernel, by decide +kernel, by decide +kernel⟩
    · exact (rp (by omega)).2.mono (by decide) (by decide)
    · exact (rp (by omega)).2.mono (by decide) (by decide)
    · exact (rp (by omega)).1.mono (by decide) (by decide)
    · refine (sm_seq (k := 2) (B := 120) (fun x hx => ?_) (by rw [List.length_set, List.length_map]; omega)).2
      rcases List.mem_or_eq_of_mem_set hx with y | y
      · obtain ⟨n, hn, rfl⟩ := List.mem_map.mp y
        have := hok n hn
        exact (sm_int (by omega) (by omega)).mono (by decide) (by decide)
      · rw [y]
        simp only [List.mem_cons, List.not_mem_nil, or_false] at hw
        rcases hw with rfl | rfl | rfl | rfl | rfl | rfl | rfl
        all_goals exact ⟨by decide +kernel, by decide +kernel, by decide +kernel, by decide +kernel⟩
    · refine (sm_seq (k := 2) (B := 120) (fun x hx => ?_) (by show 1 ≤ 9; decide)).2
      rw [List.mem_singleton.mp hx]
      exact (rp (by omega)).2
def sp__law_bad (K : PySem.W.Frag) : Sp := fun vs H Q _ => ∃ (b c : Addr) (many at_ n : Int), vs = [.ref b, .int many, .int at_] ∧ Left H b c n ∧ n < 100000 ∧ 1 ≤ many ∧ many ≤ 6 ∧ 0 ≤ at_ ∧ at_ < 9 ∧ ∀ H' v d, Left H' b c (n + 10) → But b H H' → DN K H H' v d → SeqAt.shaped d = true → (∀ ds, d = .tuple ds → ds.length ≤ 1000) → badAt at_ many d = true → Sm 3 1101 d → Q v H'
theorem ok__law_bad {f : Addr} {fd : FuncData} (F : Fun K "_law_bad" "_law_bad" s__law_bad f fd) (g : mg "_law_bad" = some (.ref f)) (bd : Binds K fd ["_law_left", "_law_many", "_law_at"] []) (m_len : mg "len" = none) (m_isinstance : mg "isinstance" = none) (m_tuple : mg "tuple" = none) (m_range : mg "range" = none) (C__law_pick : CF P w K mg base 2 "_law_pick" ["_law_left", "_law_many"] (sp__law_pick K)) : CF P w K mg base 3 "_law_bad" ["_law_left", "_law_many", "_law_at"] (sp__law_bad K) := by
  refine ⟨f, fd, F.ok sc__law_bad (fun vs H Q E h => ?_) (fun cdv A outer s H vs Q E hr h => ?_), g, F.kp, bd⟩
  · first | (obtain ⟨_, rfl, _⟩ := h; rfl) | (obtain ⟨_, _, rfl, _⟩ := h; rfl) | (obtain ⟨_, _, _, rfl, _⟩ := h; rfl) | (obtain ⟨_, _, _, _, rfl, _⟩ := h; rfl) | (obtain ⟨_, _, _, _, _, rfl, _⟩ := h; rfl) | (obtain ⟨_, _, _, _, _, _, rfl, _⟩ := h; rfl) | (obtain ⟨_, _, _, _, _, _, _, rfl, _⟩ := h; rfl) | (obtain ⟨_, _, _, _, _, _, _, _, rfl, _⟩ := h; rfl) | (obtain ⟨_, _, _, _, _, _, _, _, _, rfl, _⟩ := h; rfl) | (obtain ⟨_, _, _, _, _, _, _, _, _, _, rfl, _⟩ := h; rfl) | (obtain ⟨_, _, _, _, _, _, _, _, _, _, _, rfl, _⟩ := h; rfl) | (obtain ⟨_, _, _, _, _, _, _, _, _, _, _, _, rfl, _⟩ := h; rfl) | (obtain ⟨_, _, _, _, _, _, _, _, _, _, _, _, _, rfl, _⟩ := h; rfl) | (obtain ⟨_, _, _, _, _, _, _, _, _, _, _, _, _, _, rfl, _⟩ := h; rfl) | (obtain ⟨_, _, _, _, _, _, _, _, _, _, _, _, _, _, _, rfl, _⟩ := h; rfl)
  · have hu64 := hr.units
    obtain ⟨b, c, many, at_, n, rfl, hb, hn, m0, m1, a0, a1, q⟩ := h
    refine ⟨_, (pss_cons (ps_set (i := 3) sc__law_bad.nd rfl (.inl rfl) (pe_lst (pa_cons pe_non (pa_cons pe_str (pa_cons pe_str (pa_cons (pe_tup pa_nil) (pa_cons (pe_lst pa_nil) (pa_cons (pe_lst (pa_cons pe_int pa_nil)) (pa_cons (pe_tup (pa_cons pe_int pa_nil)) (pa_cons (pe_tup (pa_cons (pe_tup (pa_cons pe_int pa_nil)) pa_nil)) (pa_cons pe_str (pa_cons (pe_tup (pa_cons pe_non (pa_cons pe_int pa_nil))) (pa_cons (pe_un un_neg pe_int) (pa_cons (pe_op op_pow pe_int pe_int) pa_nil))))))))))))))
      (pss_cons (ps_set (i := 4) sc__law_bad.nd rfl (.inl rfl) (pe_op op_cat (pe_slice (kk_sll K) (pv 3) po_none (po_some pe_int)) (pe_slice (kk_sll K) (pv 3) (po_some pe_int) po_none)))
      (pss_cons (ps_if (pt_cmpR op_eq (pv 2) pe_int (nomark _))
         (pss_one (ps_ret (pe_ix (kk_ixl K) (pe_op op_cat (pv 4) (pe_lst (pa_cons pe_int (pa_cons pe_int (pa_cons pe_str (pa_cons pe_str pa_nil)))))) (pe_cf C__law_pick (hr.mono (by decide)) (by rfl) (pa_cons (pv 0) (pa_cons (pe_op op_add (pe_callB (kk_len K) (by rfl) m_len PySem.boot_len (pa_cons (pv 4) pa_nil)) pe_int) pa_nil))) (fun _ _ => rfl))))
         pss_nil)
      (pss_cons (ps_asg (pe_ix (kk_ixl K) (pe_lst (pa_cons (pe_tup (pa_cons pe_int (pa_cons pe_int pa_nil))) (pa_cons (pe_tup (pa_cons pe_int (pa_cons pe_int pa_nil))) (pa_cons (pe_tup (pa_cons pe_int (pa_cons pe_int pa_nil))) (pa_cons (pe_tup (pa_cons pe_int (pa_cons pe_int pa_nil))) (pa_cons (pe_tup (pa_cons pe_int (pa_cons pe_int pa_nil))) (pa_cons (pe_tup (pa_cons pe_int (pa_cons pe_int pa_nil))) (pa_cons (pe_tup (pa_cons pe_int (pa_cons pe_int pa_nil))) (pa_cons (pe_tup (pa_cons pe_int (pa_cons pe_int pa_nil))) (pa_cons (pe_tup (pa_cons pe_int (pa_cons pe_int pa_nil))) pa_nil)))))))))) (pv 2) (fun _ _ => rfl)) (pg_tup (by rfl) (pgs_cons (pg_name (i := 5) sc__law_bad.nd rfl (.inl rfl)) (pgs_cons (pg_name (i := 6) sc__law_bad.nd rfl (.inl rfl)) pgs_nil))))
      (pss_cons (ps_set (i := 4) sc__law_bad.nd rfl (.inl rfl) (pe_op op_cat (pe_lc (own := [("_law_one", 7)]) (g := (gName 7)) rfl sc__law_bad.nd (pi_list (pv 4)) (blkOk_by (own := [("_law_one", 7)]) (N := N__law_bad) (sc := defScope s__law_bad) (by decide +kernel)) (fun _ _ _ _ _ => pg_name (i := 7) sc__law_bad.nd rfl (Or.inl rfl)) (fun _ _ _ _ _ => (pts_one (pt_not (pt_val (pe_callB (kk_isi K) (by rfl) m_isinstance (by decide +kernel) (pa_cons (pv 7) (pa_cons (pe_bltn (v := .ty "tuple") (by rfl) m_tuple (by decide +kernel) rfl) pa_nil))))))) (fun _ _ _ _ _ => (pv 7))) (pe_lst (pa_cons pe_bl (pa_cons pe_bl (pa_cons (pe_op op_sub (pv 5) pe_int) (pa_cons (pe_op op_add (pv 6) pe_int) (pa_cons (pe_op op_add (pv 6) pe_int) pa_nil))))))))
      (pss_cons (ps_if (pt_cmpR op_ne (pv 2) pe_int (nomark _))
         (pss_one (ps_ret (pe_ix (kk_ixl K) (pe_op op_cat (pv 4) (pe_lst (pa_cons (pe_tup (pa_cons pe_int pa_nil)) (pa_cons (pe_tup pa_nil) pa_nil)))) (pe_cf C__law_pick (hr.mono (by decide)) (by rfl) (pa_cons (pv 0) (pa_cons (pe_op op_add (pe_callB (kk_len K) (by rfl) m_len PySem.boot_len (pa_cons (pv 4) pa_nil)) pe_int) pa_nil))) (fun _ _ => rfl))))
         pss_nil)
      (pss_cons (ps_setLc (i := 8) (own := [("_law_turn", 9)]) (g := (gName 9)) (tt := tYes) rfl sc__law_bad.nd rfl rfl (sw_true rfl rfl rfl (by decide +kernel)) (pi_range1 (by rfl) m_range (pa_cons (pv 1) pa_nil)) (blkOk_by (own := [("_law_turn", 9)]) (N := N__law_bad) (sc := defScope s__law_bad) (by decide +kernel)) (fun _ _ _ _ _ => pg_name (i := 9) sc__law_bad.nd rfl (Or.inl rfl)) (fun _ _ _ _ _ => pts_nil) (fun _ _ _ _ _ => (pe_cf C__law_pick (hr.mono (by decide)) (by rfl) (pa_cons (pv 0) (pa_cons pe_int pa_nil)))))
      (pss_cons (ps_asg (pe_ix (kk_ixl K) (pe_lst (pa_cons (pe_un un_neg pe_int) (pa_cons pe_int (pa_cons pe_bl (pa_cons pe_non (pa_cons pe_str (pa_cons (pe_tup (pa_cons pe_int pa_nil)) (pa_cons (pe_lst (pa_cons pe_int pa_nil)) pa_nil)))))))) (pe_cf C__law_pick (hr.mono (by decide)) (by rfl) (pa_cons (pv 0) (pa_cons pe_int pa_nil))) (fun _ _ => rfl)) (pg_sub (pv 8) (pe_cf C__law_pick (hr.mono (by decide)) (by rfl) (pa_cons (pv 0) (pa_cons (pv 1) pa_nil))) set_list))
      (pss_cons (ps_set (i := 10) sc__law_bad.nd rfl (.inl rfl) (pe_lst (pa_cons (pe_tup pa_nil) (pa_cons (pe_op (kk_repB K) (pe_tup (pa_cons pe_int pa_nil)) (pe_op op_add (pv 1) pe_int)) (pa_cons (pe_op (kk_repB K) (pe_tup (pa_cons pe_int pa_nil)) (pe_op op_sub (pv 1) pe_int)) (pa_cons (pe_op op_rep (pe_lst (pa_cons pe_int pa_nil)) (pv 1)) (pa_cons (pe_callTy (kk_tuple K) (by rfl) m_tuple (by decide +kernel) (pa_cons (pv 8) pa_nil)) (pa_cons (pe_tup (pa_cons (pe_op (kk_repB K) (pe_tup (pa_cons pe_int pa_nil)) (pv 1)) pa_nil)) pa_nil))))))))
      (pss_one (ps_ret (pe_ix (kk_ixl K) (pe_op op_cat (pv 4) (pv 10)) (pe_cf C__law_pick (hr.mono (by decide)) (by rfl) (pa_cons (pv 0) (pa_cons (pe_op op_add (pe_callB (kk_len K) (by rfl) m_len PySem.boot_len (pa_cons (pv 4) pa_nil)) pe_int) pa_nil))) (fun _ _ => rfl))))))))))))), ?_⟩
    have S0 : Same H H := Same.refl H
    refine ⟨(by show 0 ≤ sizeLine; decide), fun t1 n_t1 => ?_⟩
    have s1 := same_new (o := .tup []) n_t1
    have h_t1 := upd_same (H := H) (a := t1) (o := .tup [])
    have f_t1 : H t1 = none := back_none S0 n_t1
    have S1 := S0.trans s1
    generalize upd H t1 (.tup []) = G1 at *
    refine ⟨(by show 0 ≤ sizeLine; decide), fun l1 n_l1 => ?_⟩
    have s2 := same_new (o := .lst []) n_l1
    have h_l1 := upd_same (H := G1) (a := l1) (o := .lst [])
    have f_l1 : H l1 = none := back_none S1 n_l1
    have S2 := S1.trans s2
    have h_t1 := s2 _ _ h_t1
    generalize upd G1 l1 (.lst []) = G2 at *
    refine ⟨(by show 1 ≤ sizeLine; decide), fun l2 n_l2 => ?_⟩
    have s3 := same_new (o := .lst [V.int 1]) n_l2
    have h_l2 := upd_same (H := G2) (a := l2) (o := .lst [V.int 1])
    have f_l2 : H l2 = none := back_none S2 n_l2
    have S3 := S2.trans s3
    have h_t1 := s3 _ _ h_t1
    have h_l1 := s3 _ _ h_l1
    generalize upd G2 l2 (.lst [V.int 1]) = G3 at *
    refine ⟨(by show 1 ≤ sizeLine; decide), fun t2 n_t2 => ?_⟩
    have s4 := same_new (o := .tup [V.int 1]) n_t2
    have h_t2 := upd_same (H := G3) (a := t2) (o := .tup [V.int 1])
    have f_t2 : H t2 = none := back_none S3 n_t2
    have S4 := S3.trans s4
    have h_t1 := s4 _ _ h_t1
    have h_l1 := s4 _ _ h_l1
    have h_l2 := s4 _ _ h_l2
    generalize upd G3 t2 (.tup [V.int 1]) = G4 at *
    refine ⟨(by show 1 ≤ sizeLine; decide), fun t3 n_t3 => ?_⟩
    have s5 := same_new (o := .tup [V.int 1]) n_t3
    have h_t3 := upd_same (H := G4) (a := t3) (o := .tup [V.int 1])
    have f_t3 : H t3 = none := back_none S4 n_t3
    have S5 := S4.trans s5
    have h_t1 := s5 _ _ h_t1
    have h_l1 := s5 _ _ h_l1
    have h_l2 := s5 _ _ h_l2
    have h_t2 := s5 _ _ h_t2
    generalize upd G4 t3 (.tup [V.int 1]) = G5 at *
    refine ⟨(by show 1 ≤ sizeLine; decide), fun t4 n_t4 => ?_⟩
    have s6 := same_new (o := .tup [V.ref t3]) n_t4
    have h_t4 := upd_same (H := G5) (a := t4) (o := .tup [V.ref t3])
    have f_t4 : H t4 = none := back_none S5 n_t4
    have S6 := S5.trans s6
    have h_t1 := s6 _ _ h_t1
    have h_l1 := s6 _ _ h_l1
    have h_l2 := s6 _ _ h_l2
    have h_t2 := s6 _ _ h_t2
    have h_t3 := s6 _ _ h_t3
    generalize upd G5 t4 (.tup [V.ref t3]) = G6 at *
    refine ⟨(by show 2 ≤ sizeLine; decide), fun t5 n_t5 => ?_⟩
    have s7 := same_new (o := .tup [V.non, V.int 2]) n_t5
    have h_t5 := upd_same (H := G6) (a := t5) (o := .tup [V.non, V.int 2])
    have f_t5 : H t5 = none := back_none S6 n_t5
    have S7 := S6.trans s7
    have h_t1 := s7 _ _ h_t1
    have h_l1 := s7 _ _ h_l1
    have h_l2 := s7 _ _ h_l2
    have h_t2 := s7 _ _ h_t2
    have h_t3 := s7 _ _ h_t3
    have h_t4 := s7 _ _ h_t4
    generalize upd G6 t5 (.tup [V.non, V.int 2]) = G7 at *
    refine ⟨_, rfl, _, _, rfl, rfl, ⟨by decide, by decide, by decide⟩, (by show 12 ≤ sizeLine; decide), fun odd n_odd => ?_⟩
    have s8 := same_new (o := .lst [V.non, V.str (Str.ofString ""), V.str (Str.ofString "1"), V.ref t1, V.ref l1, V.ref l2, V.ref t2, V.ref t4, V.str (Str.ofString "last"), V.ref t5, V.int (-1), V.int (10 ^ (6 : Int).toNat)]) n_odd
    have h_odd := upd_same (H := G7) (a := odd) (o := .lst [V.non, V.str (Str.ofString ""), V.str (Str.ofString "1"), V.ref t1, V.ref l1, V.ref l2, V.ref t2, V.ref t4, V.str (Str.ofString "last"), V.ref t5, V.int (-1), V.int (10 ^ (6 : Int).toNat)])
    have S8 := S7.trans s8
    have h_t1 := s8 _ _ h_t1
    have h_l1 := s8 _ _ h_l1
    have h_l2 := s8 _ _ h_l2
    have h_t2 := s8 _ _ h_t2
    have h_t3 := s8 _ _ h_t3
    have h_t4 := s8 _ _ h_t4
    have h_t5 := s8 _ _ h_t5
    generalize upd G7 odd (.lst [V.non, V.str (Str.ofString ""), V.str (Str.ofString "1"), V.ref t1, V.ref l1, V.ref l2, V.ref t2, V.ref t4, V.str (Str.ofString "last"), V.ref t5, V.int (-1), V.int (10 ^ (6 : Int).toNat)]) = G8 at *
    refine ⟨_, rfl, _, rfl, odd, _, rfl, SqL.of h_odd, fun p1 n_p1 => ?_⟩
    rw [show cutV [V.non, V.str (Str.ofString ""), V.str (Str.ofString "1"), V.ref t1, V.ref l1, V.ref l2, V.ref t2, V.ref t4, V.str (Str.ofString "last"), V.ref t5, V.int (-1), V.int (10 ^ (6 : Int).toNat)] none (some 8) = [V.non, V.str (Str.ofString ""), V.str (Str.ofString "1"), V.ref t1, V.ref l1, V.ref l2, V.ref t2, V.ref t4] from rfl]
    have s9 := same_new (o := .lst [V.non, V.str (Str.ofString ""), V.str (Str.ofString "1"), V.ref t1, V.ref l1, V.ref l2, V.ref t2, V.ref t4]) n_p1
    have h_p1 := upd_same (H := G8) (a := p1) (o := .lst [V.non, V.str (Str.ofString ""), V.str (Str.ofString "1"), V.ref t1, V.ref l1, V.ref l2, V.ref t2, V.ref t4])
    generalize upd G8 p1 (.lst [V.non, V.str (Str.ofString ""), V.str (Str.ofString "1"), V.ref t1, V.ref l1, V.ref l2, V.ref t2, V.ref t4]) = G9 at *
    refine ⟨_, rfl, _, rfl, odd, _, rfl, SqL.of (s9 _ _ h_odd), fun p2 n_p2 => ?_⟩
    rw [show cutV [V.non, V.str (Str.ofString ""), V.str (Str.ofString "1"), V.ref t1, V.ref l1, V.ref l2, V.ref t2, V.ref t4, V.str (Str.ofString "last"), V.ref t5, V.int (-1), V.int (10 ^ (6 : Int).toNat)] (some 9) none = [V.ref t5, V.int (-1), V.int (10 ^ (6 : Int).toNat)] from rfl]
    have s10 := same_new (o := .lst [V.ref t5, V.int (-1), V.int (10 ^ (6 : Int).toNat)]) n_p2
    have h_p2 := upd_same (H := G9) (a := p2) (o := .lst [V.ref t5, V.int (-1), V.int (10 ^ (6 : Int).toNat)])
    generalize upd G9 p2 (.lst [V.ref t5, V.int (-1), V.int (10 ^ (6 : Int).toNat)]) = G10 at *
    refine ⟨p1, p2, _, _, rfl, rfl, s10 _ _ h_p1, h_p2, (by show 8 + 3 ≤ sizeLine; decide), fun l3 n_l3 => ?_⟩
    have s11 := same_new (o := .lst ([V.non, V.str (Str.ofString ""), V.str (Str.ofString "1"), V.ref t1, V.ref l1, V.ref l2, V.ref t2, V.ref t4] ++ [V.ref t5, V.int (-1), V.int (10 ^ (6 : Int).toNat)])) n_l3
    have h_l3 := upd_same (H := G10) (a := l3) (o := .lst ([V.non, V.str (Str.ofString ""), V.str (Str.ofString "1"), V.ref t1, V.ref l1, V.ref l2, V.ref t2, V.ref t4] ++ [V.ref t5, V.int (-1), V.int (10 ^ (6 : Int).toNat)]))
    have s8b := (s9.trans s10).trans s11
    have h_t1 := s8b _ _ h_t1
    have h_l1 := s8b _ _ h_l1
    have h_l2 := s8b _ _ h_l2
    have h_t2 := s8b _ _ h_t2
    have h_t3 := s8b _ _ h_t3
    have h_t4 := s8b _ _ h_t4
    have h_t5 := s8b _ _ h_t5
    have S11 := S8.trans s8b
    generalize upd G10 l3 (.lst ([V.non, V.str (Str.ofString ""), V.str (Str.ofString "1"), V.ref t1, V.ref l1, V.ref l2, V.ref t2, V.ref t4] ++ [V.ref t5, V.int (-1), V.int (10 ^ (6 : Int).toNat)])) = G11 at *
    have h_l3 : G11 l3 = some (.lst [V.non, V.str (Str.ofString ""), V.str (Str.ofString "1"), V.ref t1, V.ref l1, V.ref l2, V.ref t2, V.ref t4, V.ref t5, V.int (-1), V.int (10 ^ (6 : Int).toNat)]) := h_l3
    have d1 : DN K H G11 (.ref t1) (.tuple []) := dn_tup f_t1 h_t1 trivial
    have e1 : DN K H G11 (.ref l1) (.list []) := dn_lst f_l1 h_l1 trivial
    have e2 : DN K H G11 (.ref l2) (.list [.int 1]) := dn_lst f_l2 h_l2 ⟨dn_int, trivial⟩
    have d2 : DN K H G11 (.ref t2) (.tuple [.int 1]) := dn_tup f_t2 h_t2 ⟨dn_int, trivial⟩
    have d3 : DN K H G11 (.ref t3) (.tuple [.int 1]) := dn_tup f_t3 h_t3 ⟨dn_int, trivial⟩
    have d4 : DN K H G11 (.ref t4) (.tuple [.tuple [.int 1]]) := dn_tup f_t4 h_t4 ⟨d3, trivial⟩
    have d5 : DN K H G11 (.ref t5) (.tuple [.none, .int 2]) := dn_tup f_t5 h_t5 ⟨dn_non, dn_int, trivial⟩
    have hbn : H b ≠ none := by
      obtain ⟨_, _, _, hb0, _⟩ := id hb
      rw [hb0]
      exact fun z => nomatch z
    have b11 := hb.same S11
    clear h_t1 h_t2 h_t3 h_t4 h_t5 f_t1 f_t2 f_t3 f_t4 f_t5 n_t1 n_l1 n_l2 n_t2 n_t3 n_t4 n_t5 n_odd n_p1 n_p2 n_l3 s1 s2 s3 s4 s5 s6 s7 s8 s9 s10 s11 s8b S0 S1 S2 S3 S4 S5 S6 S7 S8 h_odd h_p1 h_p2
    refine ⟨_, rfl, rfl, _, rfl, ?_⟩
    by_cases h3 : at_ = 3
    · rw [show decide (V.int at_ = V.int 3) = true from decide_eq_true (by rw [h3])]
      refine iteT ⟨_, rfl, (by show 4 ≤ sizeLine; decide), fun l4 n4 => ?_⟩
      have s1 := same_new (o := .lst [V.int 0, V.int 1, V.str (Str.ofString "True"), V.str (Str.ofString "last")]) n4
      refine ⟨l3, l4, _, _, rfl, rfl, s1 _ _ h_l3, upd_same, (by show 11 + 4 ≤ sizeLine; decide), fun l5 n5 => ?_⟩
      have s2 := same_new (o := .lst ([V.non, V.str (Str.ofString ""), V.str (Str.ofString "1"), V.ref t1, V.ref l1, V.ref l2, V.ref t2, V.ref t4, V.ref t5, V.int (-1), V.int (10 ^ (6 : Int).toNat)] ++ [V.int 0, V.int 1, V.str (Str.ofString "True"), V.str (Str.ofString "last")])) n5
      have h5 := upd_same (H := upd G11 l4 (.lst [V.int 0, V.int 1, V.str (Str.ofString "True"), V.str (Str.ofString "last")])) (a := l5) (o := .lst ([V.non, V.str (Str.ofString ""), V.str (Str.ofString "1"), V.ref t1, V.ref l1, V.ref l2, V.ref t2, V.ref t4, V.ref t5, V.int (-1), V.int (10 ^ (6 : Int).toNat)] ++ [V.int 0, V.int 1, V.str (Str.ofString "True"), V.str (Str.ofString "last")]))
      have s12 := s1.trans s2
      generalize upd (upd G11 l4 (.lst [V.int 0, V.int 1, V.str (Str.ofString "True"), V.str (Str.ofString "last")])) l5 (.lst ([V.non, V.str (Str.ofString ""), V.str (Str.ofString "1"), V.ref t1, V.ref l1, V.ref l2, V.ref t2, V.ref t4, V.ref t5, V.int (-1), V.int (10 ^ (6 : Int).toNat)] ++ [V.int 0, V.int 1, V.str (Str.ofString "True"), V.str (Str.ofString "last")])) = G12 at *
      have b12 := b11.same s12
      have l5b : l5 ≠ b := fun z => by
        obtain ⟨_, _, _, hb0, _⟩ := id (b11.same s1)
        rw [z, hb0] at n5
        cases n5
      refine ⟨_, rfl, _, rfl, l3, _, rfl, .inl (SqL.of (s12 _ _ h_l3)), _, _, rfl, rfl, b, c, _, _, rfl, b12, (by show (0 : Int) < (11 : Nat) + 4; decide), (by show ((11 : Nat) : Int) + 4 < 1073741824; decide), by omega, fun r G13 r0 r1 b13 t13 => ?_⟩
      have r1 : r < 15 := r1
      have D := (show DNs K H G11 ([V.non, V.str (Str.ofString ""), V.str (Str.ofString "1"), V.ref t1, V.ref l1, V.ref l2, V.ref t2, V.ref t4, V.ref t5, V.int (-1), V.int (10 ^ (6 : Int).toNat)] ++ [V.int 0, V.int 1, V.str (Str.ofString "True"), V.str (Str.ofString "last")]) [.none, .str (Str.ofString ""), .str (Str.ofString "1"), .tuple [], .list [], .list [.int 1], .tuple [.int 1], .tuple [.tuple [.int 1]], .tuple [.none, .int 2], .int (-1), .int (10 ^ (6 : Int).toNat), .int 0, .int 1, .str (Str.ofString "True"), .str (Str.ofString "last")] from ⟨dn_non, dn_str, dn_str, d1, e1, e2, d2, d4, d5, dn_int, dn_int, dn_int, dn_int, dn_str, dn_str, trivial⟩)
      obtain ⟨v, d, hv, hd, hD⟩ := D.pick r0 (by show r < ((15 : Nat) : Int); omega)
      have T13 : But b H G13 := ((But.of S11).trans (But.of s12)).trans t13
      have ok : SeqAt.shaped d = true ∧ (∀ ds, d = .tuple ds → ds.length ≤ 1000) ∧ badAt at_ many d = true := by
        rw [h3]
        exact bad3 d hd
      exact ⟨l5, _, _, _, rfl, rfl, SqL.of (t13 _ _ l5b h5), hv, q _ v d (b13.mono (by omega)) T13 ((hD.same s12).but t13 hbn) ok.1 ok.2.1 ok.2.2 (bad3s d hd)⟩
    rw [show decide (V.int at_ = V.int 3) = false from decide_eq_false (fun z => h3 (V.int.inj z))]
    refine iteF ?_
    have Z0 : Same G11 G11 := Same.refl G11
    refine ⟨(by show 2 ≤ sizeLine; decide), fun w0 n_a0 => ?_⟩
    have z1 := same_new (o := .tup [V.int 1, V.int 6]) n_a0
    have h_a0 := upd_same (H := G11) (a := w0) (o := .tup [V.int 1, V.int 6])
    have Z1 := Z0.trans z1
    generalize upd G11 w0 (.tup [V.int 1, V.int 6]) = J1 at *
    refine ⟨(by show 2 ≤ sizeLine; decide), fun w1 n_a1 => ?_⟩
    have z2 := same_new (o := .tup [V.int 1, V.int 14]) n_a1
    have h_a1 := upd_same (H := J1) (a := w1) (o := .tup [V.int 1, V.int 14])
    have Z2 := Z1.trans z2
    have h_a0 := z2 _ _ h_a0
    generalize upd J1 w1 (.tup [V.int 1, V.int 14]) = J2 at *
    refine ⟨(by show 2 ≤ sizeLine; decide), fun w2 n_a2 => ?_⟩
    have z3 := same_new (o := .tup [V.int 0, V.int 7]) n_a2
    have h_a2 := upd_same (H := J2) (a := w2) (o := .tup [V.int 0, V.int 7])
    have Z3 := Z2.trans z3
    have h_a0 := z3 _ _ h_a0
    have h_a1 := z3 _ _ h_a1
    generalize upd J2 w2 (.tup [V.int 0, V.int 7]) = J3 at *
    refine ⟨(by show 2 ≤ sizeLine; decide), fun w3 n_a3 => ?_⟩
    have z4 := same_new (o := .tup [V.int 0, V.int 1]) n_a3
    have h_a3 := upd_same (H := J3) (a := w3) (o := .tup [V.int 0, V.int 1])
    have Z4 := Z3.trans z4
    have h_a0 := z4 _ _ h_a0
    have h_a1 := z4 _ _ h_a1
    have h_a2 := z4 _ _ h_a2
    generalize upd J3 w3 (.tup [V.int 0, V.int 1]) = J4 at *
    refine ⟨(by show 2 ≤ sizeLine; decide), fun w4 n_a4 => ?_⟩
    have z5 := same_new (o := .tup [V.int 0, V.int 2]) n_a4
    have h_a4 := upd_same (H := J4) (a := w4) (o := .tup [V.int 0, V.int 2])
    have Z5 := Z4.trans z5
    have h_a0 := z5 _ _ h_a0
    have h_a1 := z5 _ _ h_a1
    have h_a2 := z5 _ _ h_a2
    have h_a3 := z5 _ _ h_a3
    generalize upd J4 w4 (.tup [V.int 0, V.int 2]) = J5 at *
    refine ⟨(by show 2 ≤ sizeLine; decide), fun w5 n_a5 => ?_⟩
    have z6 := same_new (o := .tup [V.int 0, V.int 100]) n_a5
    have h_a5 := upd_same (H := J5) (a := w5) (o := .tup [V.int 0, V.int 100])
    have Z6 := Z5.trans z6
    have h_a0 := z6 _ _ h_a0
    have h_a1 := z6 _ _ h_a1
    have h_a2 := z6 _ _ h_a2
    have h_a3 := z6 _ _ h_a3
    have h_a4 := z6 _ _ h_a4
    generalize upd J5 w5 (.tup [V.int 0, V.int 100]) = J6 at *
    refine ⟨(by show 2 ≤ sizeLine; decide), fun w6 n_a6 => ?_⟩
    have z7 := same_new (o := .tup [V.int 0, V.int 100]) n_a6
    have h_a6 := upd_same (H := J6) (a := w6) (o := .tup [V.int 0, V.int 100])
    have Z7 := Z6.trans z7
    have h_a0 := z7 _ _ h_a0
    have h_a1 := z7 _ _ h_a1
    have h_a2 := z7 _ _ h_a2
    have h_a3 := z7 _ _ h_a3
    have h_a4 := z7 _ _ h_a4
    have h_a5 := z7 _ _ h_a5
    generalize upd J6 w6 (.tup [V.int 0, V.int 100]) = J7 at *
    refine ⟨(by show 2 ≤ sizeLine; decide), fun w7 n_a7 => ?_⟩
    have z8 := same_new (o := .tup [V.int 0, V.int 30]) n_a7
    have h_a7 := upd_same (H := J7) (a := w7) (o := .tup [V.int 0, V.int 30])
    have Z8 := Z7.trans z8
    have h_a0 := z8 _ _ h_a0
    have h_a1 := z8 _ _ h_a1
    have h_a2 := z8 _ _ h_a2
    have h_a3 := z8 _ _ h_a3
    have h_a4 := z8 _ _ h_a4
    have h_a5 := z8 _ _ h_a5
    have h_a6 := z8 _ _ h_a6
    generalize upd J7 w7 (.tup [V.int 0, V.int 30]) = J8 at *
    refine ⟨(by show 2 ≤ sizeLine; decide), fun w8 n_a8 => ?_⟩
    have z9 := same_new (o := .tup [V.int 0, V.int 30]) n_a8
    have h_a8 := upd_same (H := J8) (a := w8) (o := .tup [V.int 0, V.int 30])
    have Z9 := Z8.trans z9
    have h_a0 := z9 _ _ h_a0
    have h_a1 := z9 _ _ h_a1
    have h_a2 := z9 _ _ h_a2
    have h_a3 := z9 _ _ h_a3
    have h_a4 := z9 _ _ h_a4
    have h_a5 := z9 _ _ h_a5
    have h_a6 := z9 _ _ h_a6
    have h_a7 := z9 _ _ h_a7
    generalize upd J8 w8 (.tup [V.int 0, V.int 30]) = J9 at *
    refine ⟨(by show 9 ≤ sizeLine; decide), fun la n_la => ?_⟩
    have z10 := same_new (o := .lst [V.ref w0, V.ref w1, V.ref w2, V.ref w3, V.ref w4, V.ref w5, V.ref w6, V.ref w7, V.ref w8]) n_la
    have h_la := upd_same (H := J9) (a := la) (o := .lst [V.ref w0, V.ref w1, V.ref w2, V.ref w3, V.ref w4, V.ref w5, V.ref w6, V.ref w7, V.ref w8])
    have Z10 := Z9.trans z10
    have h_a0 := z10 _ _ h_a0
    have h_a1 := z10 _ _ h_a1
    have h_a2 := z10 _ _ h_a2
    have h_a3 := z10 _ _ h_a3
    have h_a4 := z10 _ _ h_a4
    have h_a5 := z10 _ _ h_a5
    have h_a6 := z10 _ _ h_a6
    have h_a7 := z10 _ _ h_a7
    have h_a8 := z10 _ _ h_a8
    generalize upd J9 la (.lst [V.ref w0, V.ref w1, V.ref w2, V.ref w3, V.ref w4, V.ref w5, V.ref w6, V.ref w7, V.ref w8]) = J10 at *
    obtain ⟨tq, lo, hi, hat, htq, hB⟩ : ∃ tq lo hi, atI [V.ref w0, V.ref w1, V.ref w2, V.ref w3, V.ref w4, V.ref w5, V.ref w6, V.ref w7, V.ref w8] at_ = some (.ref tq) ∧ J10 tq = some (.tup [.int lo, .int hi]) ∧ Bnd at_ lo hi := by
      have h9 : at_ = 0 ∨ at_ = 1 ∨ at_ = 2 ∨ at_ = 3 ∨ at_ = 4 ∨ at_ = 5 ∨ at_ = 6 ∨ at_ = 7 ∨ at_ = 8 := by omega
      rcases h9 with rfl | rfl | rfl | rfl | rfl | rfl | rfl | rfl | rfl
      · exact ⟨w0, 1, 6, rfl, h_a0, by unfold Bnd; decide⟩
      · exact ⟨w1, 1, 14, rfl, h_a1, by unfold Bnd; decide⟩
      · exact ⟨w2, 0, 7, rfl, h_a2, by unfold Bnd; decide⟩
      · exact ⟨w3, 0, 1, rfl, h_a3, by unfold Bnd; decide⟩
      · exact ⟨w4, 0, 2, rfl, h_a4, by unfold Bnd; decide⟩
      · exact ⟨w5, 0, 100, rfl, h_a5, by unfold Bnd; decide⟩
      · exact ⟨w6, 0, 100, rfl, h_a6, by unfold Bnd; decide⟩
      · exact ⟨w7, 0, 30, rfl, h_a7, by unfold Bnd; decide⟩
      · exact ⟨w8, 0, 30, rfl, h_a8, by unfold Bnd; decide⟩
    clear h_a0 h_a1 h_a2 h_a3 h_a4 h_a5 h_a6 h_a7 h_a8 n_a0 n_a1 n_a2 n_a3 n_a4 n_a5 n_a6 n_a7 n_a8 n_la z1 z2 z3 z4 z5 z6 z7 z8 z9 z10 Z0 Z1 Z2 Z3 Z4 Z5 Z6 Z7 Z8 Z9
    refine ⟨_, rfl, la, _, _, _, rfl, rfl, SqL.of h_la, hat, tq, _, rfl, SqT.of htq, rfl, _, _, rfl, _, _, rfl, rfl, ?_⟩
    have D11 : DNs K H G11 [V.non, V.str (Str.ofString ""), V.str (Str.ofString "1"), V.ref t1, V.ref l1, V.ref l2, V.ref t2, V.ref t4, V.ref t5, V.int (-1), V.int (10 ^ (6 : Int).toNat)] [PyData.none, .str (Str.ofString ""), .str (Str.ofString "1"), .tuple [], .list [], .list [.int 1], .tuple [.int 1], .tuple [.tuple [.int 1]], .tuple [.none, .int 2], .int (-1), .int (10 ^ (6 : Int).toNat)] := ⟨dn_non, dn_str, dn_str, d1, e1, e2, d2, d4, d5, dn_int, dn_int, trivial⟩
    have D10 := D11.same Z10
    have h_l3 := Z10 _ _ h_l3
    have lastV : (((([V.non, V.str (Str.ofString ""), V.str (Str.ofString "1"), V.ref t1, V.ref l1, V.ref l2, V.ref t2, V.ref t4, V.ref t5, V.int (-1), V.int (10 ^ (6 : Int).toNat)] : List V).zip [PyData.none, .str (Str.ofString ""), .str (Str.ofString "1"), .tuple [], .list [], .list [.int 1], .tuple [.int 1], .tuple [.tuple [.int 1]], .tuple [.none, .int 2], .int (-1), .int (10 ^ (6 : Int).toNat)]).take 11).filter (fun p => !isK "tuple" p.2)).map (·.1) = [V.non, V.str (Str.ofString ""), V.str (Str.ofString "1"), V.ref l1, V.ref l2, V.int (-1), V.int (10 ^ (6 : Int).toNat)] := rfl
    obtain ⟨vs, hvs⟩ : ∃ vs : List V, vs = [V.non, V.str (Str.ofString ""), V.str (Str.ofString "1"), V.ref t1, V.ref l1, V.ref l2, V.ref t2, V.ref t4, V.ref t5, V.int (-1), V.int (10 ^ (6 : Int).toNat)] := ⟨_, rfl⟩
    obtain ⟨ds, hds⟩ : ∃ ds : List PyData, ds = [PyData.none, .str (Str.ofString ""), .str (Str.ofString "1"), .tuple [], .list [], .list [.int 1], .tuple [.int 1], .tuple [.tuple [.int 1]], .tuple [.none, .int 2], .int (-1), .int (10 ^ (6 : Int).toNat)] := ⟨_, rfl⟩
    have lv : vs.length = 11 := by rw [hvs]; rfl
    rw [← hvs, ← hds] at D10 lastV
    rw [← hvs] at h_l3
    refine ⟨_, rfl, l3, rfl, ⟨_, SqL.of h_l3⟩, fun D hD => lc_list (xs := vs) (fun i G => Same J10 G ∧ G D = some (.lst ((((vs.zip ds).take i).filter (fun p => !isK "tuple" p.2)).map (·.1)))) ⟨same_new hD, upd_same⟩ (fun i G _ h => SqL.of (h.1 _ _ h_l3)) (fun i v G hv h => ?_) (fun G h => ?_)⟩
    · obtain ⟨g1, g2⟩ := h
      have hi : i < vs.length := (List.getElem?_eq_some_iff.mp hv).1
      obtain ⟨v', d, hv', hd', hD'⟩ := D10.at2 hi
      cases Option.some.inj (hv'.symm.trans hv)
      have hz : (vs.zip ds)[i]? = some (v, d) := by
        rw [List.getElem?_zip_eq_some]
        exact ⟨hv', hd'⟩
      have ft : ((vs.zip ds).take (i + 1)).filter (fun p => !isK "tuple" p.2) = ((vs.zip ds).take i).filter (fun p => !isK "tuple" p.2) ++ (if (!isK "tuple" d) = true then [(v, d)] else []) := by
        rw [List.take_add_one, hz, List.filter_append]
        congr 1
        rw [Option.toList_some, List.filter_cons]
        rfl
      refine ⟨rfl, _, rfl, _, _, _, _, _, rfl, .ty _, ty_of_dp (hD'.same g1).now, kit_d (T := "tuple") (by decide) d, _, rfl, ?_⟩
      by_cases hb' : (!isK "tuple" d) = true
      · rw [if_pos hb'] at ft
        show if (!isK "tuple" d) = true then _ else _
        rw [if_pos hb']
        refine ⟨_, rfl, _, g2, ?_, ?_, ?_⟩
        · rw [List.length_map]
          exact small1000 (Nat.le_trans (List.length_filter_le _ _) (by rw [List.length_take]; omega))
        · exact fun c o e => by
            rw [upd_ne (ne_of_none e hD)]
            exact g1 _ _ e
        · rw [upd_same, ft, List.map_append]
          rfl
      · rw [if_neg hb'] at ft
        show if (!isK "tuple" d) = true then _ else _
        rw [if_neg hb']
        rw [List.append_nil] at ft
        exact ⟨g1, by rw [ft]; exact g2⟩
    obtain ⟨g1, g2⟩ := h
    rw [lv, lastV] at g2
    refine ⟨_, rfl, _, _, rfl, rfl, _, rfl, _, _, rfl, rfl, _, rfl, _, _, rfl, rfl, (by show 5 ≤ sizeLine; decide), fun l6 n6 => ?_⟩
    have y1 := same_new (o := .lst [V.bl true, V.bl false, V.int (lo - 1), V.int (hi + 1), V.int (hi + 100)]) n6
    refine ⟨D, l6, _, _, rfl, rfl, y1 _ _ g2, upd_same, (by show 7 + 5 ≤ sizeLine; decide), fun l7 n7 => ?_⟩
    have y2 := same_new (o := .lst ([V.non, V.str (Str.ofString ""), V.str (Str.ofString "1"), V.ref l1, V.ref l2, V.int (-1), V.int (10 ^ (6 : Int).toNat)] ++ [V.bl true, V.bl false, V.int (lo - 1), V.int (hi + 1), V.int (hi + 100)])) n7
    have h7 := upd_same (H := upd G l6 (.lst [V.bl true, V.bl false, V.int (lo - 1), V.int (hi + 1), V.int (hi + 100)])) (a := l7) (o := .lst ([V.non, V.str (Str.ofString ""), V.str (Str.ofString "1"), V.ref l1, V.ref l2, V.int (-1), V.int (10 ^ (6 : Int).toNat)] ++ [V.bl true, V.bl false, V.int (lo - 1), V.int (hi + 1), V.int (hi + 100)]))
    have Z12 := (g1.trans y1).trans y2
    generalize upd (upd G l6 (.lst [V.bl true, V.bl false, V.int (lo - 1), V.int (hi + 1), V.int (hi + 100)])) l7 (.lst ([V.non, V.str (Str.ofString ""), V.str (Str.ofString "1"), V.ref l1, V.ref l2, V.int (-1), V.int (10 ^ (6 : Int).toNat)] ++ [V.bl true, V.bl false, V.int (lo - 1), V.int (hi + 1), V.int (hi + 100)])) = G12 at *
    have W12 := Z10.trans Z12
    have b12 := b11.same W12
    have S12 := S11.trans W12
    have d1 := d1.same W12
    have e1 := e1.same W12
    have e2 := e2.same W12
    have h_l1 := W12 _ _ h_l1
    have h_l2 := W12 _ _ h_l2
    have h7 : G12 l7 = some (.lst [V.non, V.str (Str.ofString ""), V.str (Str.ofString "1"), V.ref l1, V.ref l2, V.int (-1), V.int (10 ^ (6 : Int).toNat), V.bl true, V.bl false, V.int (lo - 1), V.int (hi + 1), V.int (hi + 100)]) := h7
    have D12 : DNs K H G12 [V.non, V.str (Str.ofString ""), V.str (Str.ofString "1"), V.ref l1, V.ref l2, V.int (-1), V.int (10 ^ (6 : Int).toNat), V.bl true, V.bl false, V.int (lo - 1), V.int (hi + 1), V.int (hi + 100)] [PyData.none, .str (Str.ofString ""), .str (Str.ofString "1"), .list [], .list [.int 1], .int (-1), .int (10 ^ (6 : Int).toNat), .bool true, .bool false, .int (lo - 1), .int (hi + 1), .int (hi + 100)] := ⟨dn_non, dn_str, dn_str, e1, e2, dn_int, dn_int, dn_bl, dn_bl, dn_int, dn_int, dn_int, trivial⟩
    clear Z12 y1 y2 g1 g2 n6 n7 Z10 W12 h_l3 htq h_la D10 D11 lastV S11 b11 hD
    refine ⟨_, rfl, rfl, _, rfl, ?_⟩
    by_cases h5 : at_ = 5
    case neg =>
      refine iteN2 h5 ?_
      refine ⟨_, rfl, (by show 1 ≤ sizeLine; decide), fun c1 n1 => ⟨(by show 0 ≤ sizeLine; decide), fun c2 n2 => ⟨(by show 2 ≤ sizeLine; decide), fun c3 n3 => ?_⟩⟩⟩
      have x1 := same_new (o := .tup [V.int 1]) n1
      have x2 := same_new (o := .tup []) n2
      have x3 := same_new (o := .lst [V.ref c1, V.ref c2]) n3
      have k1 := x3 _ _ (x2 _ _ (upd_same (H := G12) (a := c1) (o := .tup [V.int 1])))
      have k2 := x3 _ _ (upd_same (H := upd G12 c1 (.tup [V.int 1])) (a := c2) (o := .tup []))
      have f1 : H c1 = none := back_none S12 n1
      have f2 : H c2 = none := back_none (S12.trans x1) n2
      have x13 := (x1.trans x2).trans x3
      have k3 := upd_same (H := upd (upd G12 c1 (.tup [V.int 1])) c2 (.tup [])) (a := c3) (o := .lst [V.ref c1, V.ref c2])
      generalize upd (upd (upd G12 c1 (.tup [V.int 1])) c2 (.tup [])) c3 (.lst [V.ref c1, V.ref c2]) = G13 at *
      refine ⟨l7, c3, _, _, rfl, rfl, x13 _ _ h7, k3, (by show 12 + 2 ≤ sizeLine; decide), fun l8 n8 => ?_⟩
      have x4 := same_new (o := .lst ([V.non, V.str (Str.ofString ""), V.str (Str.ofString "1"), V.ref l1, V.ref l2, V.int (-1), V.int (10 ^ (6 : Int).toNat), V.bl true, V.bl false, V.int (lo - 1), V.int (hi + 1), V.int (hi + 100)] ++ [V.ref c1, V.ref c2])) n8
      have h8 := upd_same (H := G13) (a := l8) (o := .lst ([V.non, V.str (Str.ofString ""), V.str (Str.ofString "1"), V.ref l1, V.ref l2, V.int (-1), V.int (10 ^ (6 : Int).toNat), V.bl true, V.bl false, V.int (lo - 1), V.int (hi + 1), V.int (hi + 100)] ++ [V.ref c1, V.ref c2]))
      have x14 := x13.trans x4
      have l8b : l8 ≠ b := fun z => by
        obtain ⟨_, _, _, hb0, _⟩ := id (b12.same x13)
        rw [z, hb0] at n8
        cases n8
      generalize upd G13 l8 (.lst ([V.non, V.str (Str.ofString ""), V.str (Str.ofString "1"), V.ref l1, V.ref l2, V.int (-1), V.int (10 ^ (6 : Int).toNat), V.bl true, V.bl false, V.int (lo - 1), V.int (hi + 1), V.int (hi + 100)] ++ [V.ref c1, V.ref c2])) = G14 at *
      refine ⟨_, rfl, _, rfl, l7, _, rfl, .inl (SqL.of (x14 _ _ h7)), _, _, rfl, rfl, b, c, _, _, rfl, b12.same x14, (by show (0 : Int) < (12 : Nat) + 2; decide), (by show ((12 : Nat) : Int) + 2 < 1073741824; decide), by omega, fun r G15 r0 r1 b15 t15 => ?_⟩
      have r1 : r < 14 := r1
      have D := (D12.same x14).app (show DNs K H G14 [V.ref c1, V.ref c2] [.tuple [.int 1], .tuple []] from ⟨dn_tup f1 (x4 _ _ k1) ⟨dn_int, trivial⟩, dn_tup f2 (x4 _ _ k2) trivial, trivial⟩)
      obtain ⟨v, d, hv, hd, hD⟩ := D.pick r0 (by show r < ((14 : Nat) : Int); omega)
      have ok := badN hB h3 h5 d hd (many := many)
      have hlh : 0 ≤ lo ∧ lo ≤ 1 ∧ 0 ≤ hi ∧ hi ≤ 100 := by unfold Bnd at hB; omega
      exact ⟨l8, _, _, _, rfl, rfl, SqL.of (t15 _ _ l8b h8), hv, q _ v d (b15.mono (by omega)) (((But.of S12).trans (But.of x14)).trans t15) (hD.but t15 hbn) ok.1 ok.2.1 ok.2.2 (out_s hlh.1 hlh.2.1 hlh.2.2.1 hlh.2.2.2 d hd)⟩
    subst h5
    refine iteE2 ?_
    refine ⟨_, rfl, _, rfl, by omega, by omega, fun D2 hD2 => lc_range (lo := 0) (n := many.toNat) (fun i G => But b G12 G ∧ Left G b c (n + i) ∧ ∃ ns : List Int, ns.length = i ∧ (∀ k ∈ ns, 0 ≤ k ∧ k ≤ 100) ∧ G D2 = some (.lst (ns.map V.int))) ⟨But.new hD2, (b12.mono (by omega)).new hD2, [], rfl, (fun k hk => nomatch hk), upd_same⟩ (fun i G hi h => ?_) (fun G h => ?_)⟩
    · obtain ⟨t8, b8, ns, hns, hok, hDl⟩ := h
      have hDb : D2 ≠ b := b12.ne hD2
      have hDc : D2 ≠ c := b12.ne2 hD2
      refine ⟨rfl, _, rfl, b, c, 101, _, rfl, b8, by decide, by decide, by omega, fun k H9 k0 k1 b9 t9 => ?_⟩
      refine ⟨_, t9 _ _ hDb hDl, ?_, ?_, (b9.mono (by omega)).upd hDb hDc, ns ++ [k], ?_, ?_, ?_⟩
      · rw [List.length_map, hns]
        exact small1000 (by omega)
      · exact fun e o ne he => by
          rw [upd_ne (ne_of_none (show G12 e = some o from he) hD2)]
          exact t9 _ _ ne (t8 _ _ ne he)
      · rw [List.length_append, hns]
        rfl
      · intro x hx
        rcases List.mem_append.mp hx with y | y
        · exact hok x y
        · rw [List.mem_singleton.mp y]
          omega
      · rw [upd_same, List.map_append]
        rfl
    obtain ⟨t8, b8, ns, hns, hok, hDl⟩ := h
    have hDb : D2 ≠ b := b12.ne hD2
    have hDc : D2 ≠ c := b12.ne2 hD2
    have T8 : But b H G := (But.of S12).trans t8
    have new8 : ∀ {a : Addr}, G a = none → H a = none := fun {a} ha => by
      cases e : H a with
      | none => rfl
      | some o =>
        by_cases ab : a = b
        · obtain ⟨_, _, _, hb0, _⟩ := id b8
          rw [ab, hb0] at ha
          cases ha
        · rw [T8 _ _ ab e] at ha
          cases ha
    refine ⟨_, rfl, (by show 1 ≤ sizeLine; decide), fun u1 m1 => ⟨(by show 1 ≤ sizeLine; decide), fun u2 m2 => ⟨(by show 7 ≤ sizeLine; decide), fun u3 m3 => ?_⟩⟩⟩
    have x1 := same_new (o := .tup [V.int 5]) m1
    have x2 := same_new (o := .lst [V.int 5]) m2
    have x3 := same_new (o := .lst [V.int (-1), V.int 101, V.bl true, V.non, V.str (Str.ofString "5"), V.ref u1, V.ref u2]) m3
    have k1 := x3 _ _ (x2 _ _ (upd_same (H := G) (a := u1) (o := .tup [V.int 5])))
    have k2 := x3 _ _ (upd_same (H := upd G u1 (.tup [V.int 5])) (a := u2) (o := .lst [V.int 5]))
    have k3 := upd_same (H := upd (upd G u1 (.tup [V.int 5])) u2 (.lst [V.int 5])) (a := u3) (o := .lst [V.int (-1), V.int 101, V.bl true, V.non, V.str (Str.ofString "5"), V.ref u1, V.ref u2])
    have f1 : H u1 = none := new8 m1
    have f2 : H u2 = none := new8 (back_none x1 m2)
    have x13 := (x1.trans x2).trans x3
    have u3b : u3 ≠ b := fun z => by
      obtain ⟨_, _, _, hb0, _⟩ := id (b8.same (x1.trans x2))
      rw [z, hb0] at m3
      cases m3
    have u1D : u1 ≠ D2 := (ne_of_none hDl m1).symm
    have u2D : u2 ≠ D2 := (ne_of_none (x1 _ _ hDl) m2).symm
    have u1b : u1 ≠ b := fun z => by
      obtain ⟨_, _, _, hb0, _⟩ := id b8
      rw [z, hb0] at m1
      cases m1
    have u2b : u2 ≠ b := fun z => by
      obtain ⟨_, _, _, hb0, _⟩ := id (b8.same x1)
      rw [z, hb0] at m2
      cases m2
    have l7b : l7 ≠ b := fun z => by
      obtain ⟨_, _, _, hb0, _⟩ := id b12
      rw [z, hb0] at h7
      cases h7
    have l1b : l1 ≠ b := fun z => hbn (by rw [← z]; exact f_l1)
    have l2b : l2 ≠ b := fun z => hbn (by rw [← z]; exact f_l2)
    have l7D : l7 ≠ D2 := ne_of_none h7 hD2
    have l1D : l1 ≠ D2 := ne_of_none h_l1 hD2
    have l2D : l2 ≠ D2 := ne_of_none h_l2 hD2
    have h7n := x13 _ _ (t8 _ _ l7b h7)
    have h1n := x13 _ _ (t8 _ _ l1b h_l1)
    have h2n := x13 _ _ (t8 _ _ l2b h_l2)
    have hDl := x13 _ _ hDl
    have b9 := b8.same x13
    have T9 := T8.trans (But.of (b := b) x13)
    generalize upd (upd (upd G u1 (.tup [V.int 5])) u2 (.lst [V.int 5])) u3 (.lst [V.int (-1), V.int 101, V.bl true, V.non, V.str (Str.ofString "5"), V.ref u1, V.ref u2]) = G9 at *
    clear x1 x2 x3 x13 m1 m2 m3 T8 b8 t8
    refine ⟨_, rfl, b, c, 7, _, rfl, b9, by decide, by decide, by omega, fun r Ga r0 r1 ba ta => ?_⟩
    obtain ⟨v, hv⟩ : ∃ v, atI [V.int (-1), V.int 101, V.bl true, V.non, V.str (Str.ofString "5"), V.ref u1, V.ref u2] r = some v := by
      have h7 : r = 0 ∨ r = 1 ∨ r = 2 ∨ r = 3 ∨ r = 4 ∨ r = 5 ∨ r = 6 := by omega
      rcases h7 with rfl | rfl | rfl | rfl | rfl | rfl | rfl <;> exact ⟨_, rfl⟩
    refine ⟨u3, _, _, _, rfl, rfl, SqL.of (ta _ _ u3b k3), hv, _, rfl, _, rfl, _, rfl, b, c, many, _, rfl, ba, by omega, by omega, by omega, fun j Gb j0 j1 bb tb => ?_⟩
    obtain ⟨jn, rfl⟩ := Int.eq_ofNat_of_zero_le j0
    have tab := ta.trans tb
    have hDb' := tab _ _ hDb hDl
    refine ⟨D2, _, _, jn, rfl, rfl, hDb', ix_nat (by rw [List.length_map, hns]; omega), ?_⟩
    have k1 := tab _ _ u1b k1
    have k2 := tab _ _ u2b k2
    have Tb := T9.trans tab
    have hD0 : H D2 = none := back_none S12 hD2
    have hDc' := upd_same (H := Gb) (a := D2) (o := .lst ((ns.map V.int).set jn v))
    have k1 : (upd Gb D2 (.lst ((ns.map V.int).set jn v))) u1 = some (.tup [V.int 5]) := by rw [upd_ne u1D]; exact k1
    have k2 : (upd Gb D2 (.lst ((ns.map V.int).set jn v))) u2 = some (.lst [V.int 5]) := by rw [upd_ne u2D]; exact k2
    have bc := bb.upd (o := .lst ((ns.map V.int).set jn v)) hDb hDc
    have Tc : But b H (upd Gb D2 (.lst ((ns.map V.int).set jn v))) := fun e o ne he => by
      rw [upd_ne (ne_of_none he hD0)]
      exact Tb _ _ ne he
    have h7n : (upd Gb D2 (.lst ((ns.map V.int).set jn v))) l7 = _ := (upd_ne l7D).trans (tab _ _ l7b h7n)
    have h1n : (upd Gb D2 (.lst ((ns.map V.int).set jn v))) l1 = _ := (upd_ne l1D).trans (tab _ _ l1b h1n)
    have h2n : (upd Gb D2 (.lst ((ns.map V.int).set jn v))) l2 = _ := (upd_ne l2D).trans (tab _ _ l2b h2n)
    generalize upd Gb D2 (.lst ((ns.map V.int).set jn v)) = J at *
    have newJ : ∀ {a : Addr}, J a = none → H a = none := fun {a} ha => by
      cases e : H a with
      | none => rfl
      | some o =>
        by_cases ab : a = b
        · obtain ⟨_, _, _, hb0, _⟩ := id bc
          rw [ab, hb0] at ha
          cases ha
        · rw [Tc _ _ ab e] at ha
          cases ha
    have hlh : lo = 0 ∧ hi = 100 := by unfold Bnd at hB; omega
    obtain ⟨rfl, rfl⟩ := hlh
    refine ⟨(by show 0 ≤ sizeLine; decide), fun z1 nz1 => rep_t (p := many + 1) (fun G R h => ⟨_, rfl, _, _, rfl, rfl, h⟩) (by omega) (by omega) (fun J2 z2 g2 nz2 hz2 => rep_t (p := many - 1) (fun G R h => ⟨_, rfl, _, _, rfl, rfl, h⟩) (by omega) (by omega) (fun J3 z3 g3 nz3 hz3 => ⟨(by show 1 ≤ sizeLine; decide), fun o4 no4 => ⟨_, rfl, o4, many, [V.int 5], rfl, rfl, upd_same, by omega, by omega, ?_, fun z4 nz4 => ?_⟩⟩))⟩
    · show 1 * many.toNat ≤ sizeLine
      rw [sizeLine_eq]
      omega
    have g1 := same_new (o := .tup []) nz1
    have hz1 := upd_same (H := J) (a := z1) (o := .tup [])
    generalize upd J z1 (.tup []) = J1 at *
    have g4a := same_new (o := .lst [V.int 5]) no4
    rw [rep1, ← List.map_replicate (f := V.int)] at *
    have g4b := same_new (o := .lst ((List.replicate many.toNat 5).map V.int)) nz4
    have hz4 := upd_same (H := upd J3 o4 (.lst [V.int 5])) (a := z4) (o := .lst ((List.replicate many.toNat 5).map V.int))
    have g4 := g4a.trans g4b
    have nz4 := back_none g4a nz4
    generalize upd (upd J3 o4 (.lst [V.int 5])) z4 (.lst ((List.replicate many.toNat 5).map V.int)) = J4 at *
    have g14 := ((g1.trans g2).trans g3).trans g4
    refine ⟨_, rfl, D2, _, rfl, .inl ⟨SqL.of (g14 _ _ hDc'), fun z5 nz5 => ?_⟩⟩
    have g5 := same_new (o := .tup ((ns.map V.int).set jn v)) nz5
    have hz5 := upd_same (H := J4) (a := z5) (o := .tup ((ns.map V.int).set jn v))
    generalize upd J4 z5 (.tup ((ns.map V.int).set jn v)) = J5 at *
    refine rep_t (p := many) (fun G R h => ⟨_, rfl, h⟩) (by omega) (by omega) (fun J6 z6 g6 nz6 hz6 => ⟨(by show 1 ≤ sizeLine; decide), fun z7 nz7 => ⟨(by show 6 ≤ sizeLine; decide), fun z8 nz8 => ?_⟩⟩)
    have g7 := same_new (o := .tup [V.ref z6]) nz7
    have hz7 := upd_same (H := J6) (a := z7) (o := .tup [V.ref z6])
    generalize upd J6 z7 (.tup [V.ref z6]) = J7 at *
    have g8 := same_new (o := .lst [V.ref z1, V.ref z2, V.ref z3, V.ref z4, V.ref z5, V.ref z7]) nz8
    have hz8 := upd_same (H := J7) (a := z8) (o := .lst [V.ref z1, V.ref z2, V.ref z3, V.ref z4, V.ref z5, V.ref z7])
    generalize upd J7 z8 (.lst [V.ref z1, V.ref z2, V.ref z3, V.ref z4, V.ref z5, V.ref z7]) = J8 at *
    have g58 := ((g5.trans g6).trans g7).trans g8
    have g18 := g14.trans g58
    refine ⟨_, rfl, _, rfl, l7, z8, _, _, rfl, rfl, g18 _ _ h7n, hz8, (by show 12 + 6 ≤ sizeLine; decide), fun l9 n9 => ?_⟩
    have g9 := same_new (o := .lst ([V.non, V.str (Str.ofString ""), V.str (Str.ofString "1"), V.ref l1, V.ref l2, V.int (-1), V.int (10 ^ (6 : Int).toNat), V.bl true, V.bl false, V.int (0 - 1), V.int (100 + 1), V.int (100 + 100)] ++ [V.ref z1, V.ref z2, V.ref z3, V.ref z4, V.ref z5, V.ref z7])) n9
    have h9 := upd_same (H := J8) (a := l9) (o := .lst ([V.non, V.str (Str.ofString ""), V.str (Str.ofString "1"), V.ref l1, V.ref l2, V.int (-1), V.int (10 ^ (6 : Int).toNat), V.bl true, V.bl false, V.int (0 - 1), V.int (100 + 1), V.int (100 + 100)] ++ [V.ref z1, V.ref z2, V.ref z3, V.ref z4, V.ref z5, V.ref z7]))
    have l9b : l9 ≠ b := fun z => by
      obtain ⟨_, _, _, hb0, _⟩ := id (bc.same g18)
      rw [z, hb0] at n9
      cases n9
    generalize upd J8 l9 (.lst ([V.non, V.str (Str.ofString ""), V.str (Str.ofString "1"), V.ref l1, V.ref l2, V.int (-1), V.int (10 ^ (6 : Int).toNat), V.bl true, V.bl false, V.int (0 - 1), V.int (100 + 1), V.int (100 + 100)] ++ [V.ref z1, V.ref z2, V.ref z3, V.ref z4, V.ref z5, V.ref z7])) = J9 at *
    have g59 := g58.trans g9
    have g69 := ((g6.trans g7).trans g8).trans g9
    have g49 := g4.trans g59
    have g39 := g3.trans g49
    have g29 := g2.trans g39
    have g19 := g1.trans g29
    refine ⟨_, rfl, _, rfl, l7, _, rfl, .inl (SqL.of (g19 _ _ h7n)), _, _, rfl, rfl, b, c, _, _, rfl, bc.same g19, (by show (0 : Int) < (12 : Nat) + 6; decide), (by show ((12 : Nat) : Int) + 6 < 1073741824; decide), by omega, fun r2 G15 r20 r21 b15 t15 => ?_⟩
    have r21 : r2 < 18 := r21
    have fz1 := newJ nz1
    have fz2 := newJ (back_none g1 nz2)
    have fz3 := newJ (back_none (g1.trans g2) nz3)
    have fz4 := newJ (back_none ((g1.trans g2).trans g3) nz4)
    have fz5 := newJ (back_none g14 nz5)
    have fz6 := newJ (back_none (g14.trans g5) nz6)
    have fz7 := newJ (back_none ((g14.trans g5).trans g6) nz7)
    obtain ⟨w, hw, hDw⟩ : ∃ w, w ∈ ([.int (-1), .int 101, .bool true, .none, .str (Str.ofString "5"), .tuple [.int 5], .list [.int 5]] : List PyData) ∧ DN K H J9 v w := by
      have DD : DNs K H J9 [V.int (-1), V.int 101, V.bl true, V.non, V.str (Str.ofString "5"), V.ref u1, V.ref u2] [.int (-1), .int 101, .bool true, .none, .str (Str.ofString "5"), .tuple [.int 5], .list [.int 5]] := ⟨dn_int, dn_int, dn_bl, dn_non, dn_str, dn_tup f1 (g19 _ _ k1) ⟨dn_int, trivial⟩, dn_lst f2 (g19 _ _ k2) ⟨dn_int, trivial⟩, trivial⟩
      obtain ⟨v', w, hv', hw, hDw⟩ := DD.pick r0 (by show r < ((7 : Nat) : Int); omega)
      cases Option.some.inj (hv'.symm.trans hv)
      exact ⟨w, hw, hDw⟩
    have D9 : DNs K H J9 [V.non, V.str (Str.ofString ""), V.str (Str.ofString "1"), V.ref l1, V.ref l2, V.int (-1), V.int (10 ^ (6 : Int).toNat), V.bl true, V.bl false, V.int (0 - 1), V.int (100 + 1), V.int (100 + 100)] [PyData.none, .str (Str.ofString ""), .str (Str.ofString "1"), .list [], .list [.int 1], .int (-1), .int (10 ^ (6 : Int).toNat), .bool true, .bool false, .int (0 - 1), .int (100 + 1), .int (100 + 100)] := ⟨dn_non, dn_str, dn_str, dn_lst f_l1 (g19 _ _ h1n) trivial, dn_lst f_l2 (g19 _ _ h2n) ⟨dn_int, trivial⟩, dn_int, dn_int, dn_bl, dn_bl, dn_int, dn_int, dn_int, trivial⟩
    have D6 : DNs K H J9 [V.ref z1, V.ref z2, V.ref z3, V.ref z4, V.ref z5, V.ref z7] [.tuple [], .tuple ((List.replicate (many + 1).toNat 5).map PyData.int), .tuple ((List.replicate (many - 1).toNat 5).map PyData.int), .list ((List.replicate many.toNat 5).map PyData.int), .tuple ((ns.map PyData.int).set jn w), .tuple [.tuple ((List.replicate many.toNat 5).map PyData.int)]] := ⟨dn_tup fz1 (g29 _ _ hz1) trivial, dn_tup fz2 (g39 _ _ hz2) (dns_ints _), dn_tup fz3 (g49 _ _ hz3) (dns_ints _), dn_lst fz4 (g59 _ _ hz4) (dns_ints _), dn_tup fz5 (g69 _ _ hz5) ((dns_ints _).set hDw), dn_tup fz7 (g9 _ _ (g8 _ _ hz7)) ⟨dn_tup fz6 (g9 _ _ (g8 _ _ (g7 _ _ hz6))) (dns_ints _), trivial⟩, trivial⟩
    obtain ⟨v2, d, hv2, hd, hD⟩ := (D9.app D6).pick r20 (by show r2 < ((18 : Nat) : Int); omega)
    have ok := bad5 hns m0 m1 j1 w hw d hd
    exact ⟨l9, _, _, _, rfl, rfl, SqL.of (t15 _ _ l9b h9), hv2, q _ v2 d (b15.mono (by omega)) ((Tc.trans (But.of g19)).trans t15) (hD.but t15 hbn) ok.1 ok.2.1 ok.2.2 (bad5s hns hok m0 m1 w hw d hd)⟩
/-! ### law -/
abbrev s_law : Stmt := topS 34
abbrev N_law : List Str := ["_law_script", "_law_words", "_law_k", "_law_left", "_law_some", "_law_at", "_law_bad_here", "_law_kept", "_law_other"]
theorem sc_law : FnScope N_law ["_law_script"] (defScope s_law) := ⟨rfl, rfl, rfl, by decide +kernel, rfl, by decide +kernel, by decide +kernel⟩
/-- nine things, marked where one may not be -/
structure Mk (p : Int) (ds : List PyData) (S : Nat → Bool) : Prop where
  len : ds.length = 9
  bad : ∀ (i : Nat) d, ds[i]? = some d → badAt (i : Int) p d = S i
  sh : ∀ d ∈ ds, SeqAt.shaped d = true ∧ (∀ es, d = .tuple es → es.length ≤ 1000) ∧ Sm 3 1101 d
  one : S 0 = false → ds[0]? = some (.int p)
theorem Mk.set {p : Int} {ds : List PyData} {S : Nat → Bool} {d : PyData} {j : Nat} (h : Mk p ds S) (hj : j < 9) (hb : badAt (j : Int) p d = true) (h1 : SeqAt.shaped d = true) (h2 : ∀ es, d = .tuple es → es.length ≤ 1000) (h3 : Sm 3 1101 d) : Mk p (ds.set j d) (fun i => S i || decide (i = j)) := by
  refine ⟨by rw [List.length_set]; exact h.len, fun i e he => ?_, fun e he => ?_, fun z => ?_⟩
  · by_cases c : i = j
    · subst c
      rw [List.getElem?_set_self (by rw [h.len]; exact hj)] at he
      cases he
      rw [hb, decide_eq_true rfl, Bool.or_true]
    · rw [List.getElem?_set_ne (Ne.symm c)] at he
      rw [h.bad i e he, decide_eq_false c, Bool.or_false]
  · rcases List.mem_or_eq_of_mem_set he with y | y
    · exact h.sh e y
    · rw [y]
      exact ⟨h1, h2, h3⟩
  · have z : (S 0 || decide (0 = j)) = false := z
    rw [Bool.or_eq_false_iff] at z
    have c : ¬ 0 = j := of_decide_eq_false z.2
    rw [List.getElem?_set_ne (Ne.symm c)]
    exact h.one z.1
def figW : List Str := [Str.ofString "parts", Str.ofString "step", Str.ofString "grace", Str.ofString "last", Str.ofString "misses", Str.ofString "keep", Str.ofString "fine", Str.ofString "falls", Str.ofString "back"]
theorem nine_mk {K : PySem.W.Frag} {H : Hp} {xs : List V} {ds : List PyData} {p : Int} {S : Nat → Bool} {m : Nat} {w : Str} (hM : Mk p ds S) (hD : DpAll K H xs ds) (hS : S m = true) (hlt : ∀ i, i < m → S i = false) (hw : figW[m]? = some w) : Nine K H xs w := by
  match ds, hM, hD with
  | [d1, d2, d3, d4, d5, d6, d7, d8, d9], hM, hD =>
    cases hD with | cons h1 hD =>
    cases hD with | cons h2 hD =>
    cases hD with | cons h3 hD =>
    cases hD with | cons h4 hD =>
    cases hD with | cons h5 hD =>
    cases hD with | cons h6 hD =>
    cases hD with | cons h7 hD =>
    cases hD with | cons h8 hD =>
    cases hD with | cons h9 hD =>
    cases hD
    have fw : firstWrong (figChecks d1 d2 d3 d4 d5 d6 d7 d8 d9) = .str w := by
      have b0 : (!numIn d1 1 6) = S 0 := hM.bad 0 d1 rfl
      have b1 : (!numIn d2 1 14) = S 1 := hM.bad 1 d2 rfl
      have b2 : (!numIn d3 0 7) = S 2 := hM.bad 2 d3 rfl
      have b3 : (!isK "bool" d4) = S 3 := hM.bad 3 d4 rfl
      have b4 : (!numIn d5 0 2) = S 4 := hM.bad 4 d5 rfl
      have b6 : (!numIn d7 0 100) = S 6 := hM.bad 6 d7 rfl
      have b7 : (!numIn d8 0 30) = S 7 := hM.bad 7 d8 rfl
      have b8 : (!numIn d9 0 30) = S 8 := hM.bad 8 d9 rfl
      have b5 : (!keptOk d6 (.int p)) = S 5 := hM.bad 5 d6 rfl
      have nt : ∀ {c s : Bool}, (!c) = s → s = false → c = true := fun {c s} e z => by rw [z] at e; cases c <;> simp_all
      have nf : ∀ {c s : Bool}, (!c) = s → s = true → c = false := fun {c s} e z => by rw [z] at e; cases c <;> simp_all
      match m, hS, hlt, hw with
      | 0, hS, hlt, hw =>
        cases hw
        exact firstWrong_at (i := 0) (fun q hq => nomatch hq) (by show some (_, numIn d1 1 6) = _; rw [nf b0 hS])
      | 1, hS, hlt, hw =>
        cases hw
        have e1 := hM.one (hlt 0 (by omega))
        cases Option.some.inj e1
        refine firstWrong_at (i := 1) (fun q hq => ?_) ?_
        · have hq : q ∈ [(Str.ofString "parts", numIn (.int p) 1 6)] := hq
          simp only [List.mem_cons, List.not_mem_nil, or_false] at hq
          rw [hq]
          exact nt b0 (hlt 0 (by omega))
        · show some (_, numIn d2 1 14) = _
          rw [nf b1 hS]
      | 2, hS, hlt, hw =>
        cases hw
        have e1 := hM.one (hlt 0 (by omega))
        cases Option.some.inj e1
        refine firstWrong_at (i := 2) (fun q hq => ?_) ?_
        · have hq : q ∈ [(Str.ofString "parts", numIn (.int p) 1 6), (Str.ofString "step", numIn d2 1 14)] := hq
          simp only [List.mem_cons, List.not_mem_nil, or_false] at hq
          rcases hq with rfl | rfl
          · exact nt b0 (hlt 0 (by omega))
          · exact nt b1 (hlt 1 (by omega))
        · show some (_, numIn d3 0 7) = _
          rw [nf b2 hS]
      | 3, hS, hlt, hw =>
        cases hw
        have e1 := hM.one (hlt 0 (by omega))
        cases Option.some.inj e1
        refine firstWrong_at (i := 3) (fun q hq => ?_) ?_
        · have hq : q ∈ [(Str.ofString "parts", numIn (.int p) 1 6), (Str.ofString "step", numIn d2 1 14), (Str.ofString "grace", numIn d3 0 7)] := hq
          simp only [List.mem_cons, List.not_mem_nil, or_false] at hq
          rcases hq with rfl | rfl | rfl
          · exact nt b0 (hlt 0 (by omega))
          · exact nt b1 (hlt 1 (by omega))
          · exact nt b2 (hlt 2 (by omega))
        · show some (_, isK "bool" d4) = _
          rw [nf b3 hS]
      | 4, hS, hlt, hw =>
        cases hw
        have e1 := hM.one (hlt 0 (by omega))
        cases Option.some.inj e1
        refine firstWrong_at (i := 4) (fun q hq => ?_) ?_
        · have hq : q ∈ [(Str.ofString "parts", numIn (.int p) 1 6), (Str.ofString "step", numIn d2 1 14), (Str.ofString "grace", numIn d3 0 7), (Str.ofString "last", isK "bool" d4)] := hq
          simp only [List.mem_cons, List.not_mem_nil, or_false] at hq
          rcases hq with rfl | rfl | rfl | rfl
          · exact nt b0 (hlt 0 (by omega))
          · exact nt b1 (hlt 1 (by omega))
          · exact nt b2 (hlt 2 (by omega))
          · exact nt b3 (hlt 3 (by omega))
        · show some (_, numIn d5 0 2) = _
          rw [nf b4 hS]
      | 5, hS, hlt, hw =>
        cases hw
        have e1 := hM.one (hlt 0 (by omega))
        cases Option.some.inj e1
        refine firstWrong_at (i := 5) (fun q hq => ?_) ?_
        · have hq : q ∈ [(Str.ofString "parts", numIn (.int p) 1 6), (Str.ofString "step", numIn d2 1 14), (Str.ofString "grace", numIn d3 0 7), (Str.ofString "last", isK "bool" d4), (Str.ofString "misses", numIn d5 0 2)] := hq
          simp only [List.mem_cons, List.not_mem_nil, or_false] at hq
          rcases hq with rfl | rfl | rfl | rfl | rfl
          · exact nt b0 (hlt 0 (by omega))
          · exact nt b1 (hlt 1 (by omega))
          · exact nt b2 (hlt 2 (by omega))
          · exact nt b3 (hlt 3 (by omega))
          · exact nt b4 (hlt 4 (by omega))
        · show some (_, keptOk d6 (.int p)) = _
          rw [nf b5 hS]
      | 6, hS, hlt, hw =>
        cases hw
        have e1 := hM.one (hlt 0 (by omega))
        cases Option.some.inj e1
        refine firstWrong_at (i := 6) (fun q hq => ?_) ?_
        · have hq : q ∈ [(Str.ofString "parts", numIn (.int p) 1 6), (Str.ofString "step", numIn d2 1 14), (Str.ofString "grace", numIn d3 0 7), (Str.ofString "last", isK "bool" d4), (Str.ofString "misses", numIn d5 0 2), (Str.ofString "keep", keptOk d6 (.int p))] := hq
          simp only [List.mem_cons, List.not_mem_nil, or_false] at hq
          rcases hq with rfl | rfl | rfl | rfl | rfl | rfl
          · exact nt b0 (hlt 0 (by omega))
          · exact nt b1 (hlt 1 (by omega))
          · exact nt b2 (hlt 2 (by omega))
          · exact nt b3 (hlt 3 (by omega))
          · exact nt b4 (hlt 4 (by omega))
          · exact nt b5 (hlt 5 (by omega))
        · show some (_, numIn d7 0 100) = _
          rw [nf b6 hS]
      | 7, hS, hlt, hw =>
        cases hw
        have e1 := hM.one (hlt 0 (by omega))
        cases Option.some.inj e1
        refine firstWrong_at (i := 7) (fun q hq => ?_) ?_
        · have hq : q ∈ [(Str.ofString "parts", numIn (.int p) 1 6), (Str.ofString "step", numIn d2 1 14), (Str.ofString "grace", numIn d3 0 7), (Str.ofString "last", isK "bool" d4), (Str.ofString "misses", numIn d5 0 2), (Str.ofString "keep", keptOk d6 (.int p)), (Str.ofString "fine", numIn d7 0 100)] := hq
          simp only [List.mem_cons, List.not_mem_nil, or_false] at hq
          rcases hq with rfl | rfl | rfl | rfl | rfl | rfl | rfl
          · exact nt b0 (hlt 0 (by omega))
          · exact nt b1 (hlt 1 (by omega))
          · exact nt b2 (hlt 2 (by omega))
          · exact nt b3 (hlt 3 (by omega))
          · exact nt b4 (hlt 4 (by omega))
          · exact nt b5 (hlt 5 (by omega))
          · exact nt b6 (hlt 6 (by omega))
        · show some (_, numIn d8 0 30) = _
          rw [nf b7 hS]
      | 8, hS, hlt, hw =>
        cases hw
        have e1 := hM.one (hlt 0 (by omega))
        cases Option.some.inj e1
        refine firstWrong_at (i := 8) (fun q hq => ?_) ?_
        · have hq : q ∈ [(Str.ofString "parts", numIn (.int p) 1 6), (Str.ofString "step", numIn d2 1 14), (Str.ofString "grace", numIn d3 0 7), (Str.ofString "last", isK "bool" d4), (Str.ofString "misses", numIn d5 0 2), (Str.ofString "keep", keptOk d6 (.int p)), (Str.ofString "fine", numIn d7 0 100), (Str.ofString "falls", numIn d8 0 30)] := hq
          simp only [List.mem_cons, List.not_mem_nil, or_false] at hq
          rcases hq with rfl | rfl | rfl | rfl | rfl | rfl | rfl | rfl
          · exact nt b0 (hlt 0 (by omega))
          · exact nt b1 (hlt 1 (by omega))
          · exact nt b2 (hlt 2 (by omega))
          · exact nt b3 (hlt 3 (by omega))
          · exact nt b4 (hlt 4 (by omega))
          · exact nt b5 (hlt 5 (by omega))
          · exact nt b6 (hlt 6 (by omega))
          · exact nt b7 (hlt 7 (by omega))
        · show some (_, numIn d9 0 30) = _
          rw [nf b8 hS]
      | k + 9, _, _, hw => cases hw
    exact ⟨_, _, _, _, _, _, _, _, _, d1, d2, d3, d4, d5, d6, d7, d8, d9, rfl, ⟨h1, h2, h3, h4, h5, h6, h7, h8, h9⟩, (hM.sh d1 (by simp)).1, (hM.sh d6 (by simp)).2.1, fw⟩
  | [], hM, _ => exact absurd hM.len (by simp)
  | [e0], hM, _ => exact absurd hM.len (by simp)
  | [e0, e1], hM, _ => exact absurd hM.len (by simp)
  | [e0, e1, e2], hM, _ => exact absurd hM.len (by simp)
  | [e0, e1, e2, e3], hM, _ => exact absurd hM.len (by simp)
  | [e0, e1, e2, e3, e4], hM, _ => exact absurd hM.len (by simp)
  | [e0, e1, e2, e3, e4, e5], hM, _ => exact absurd hM.len (by simp)
  | [e0, e1, e2, e3, e4, e5, e6], hM, _ => exact absurd hM.len (by simp)
  | [e0, e1, e2, e3, e4, e5, e6, e7], hM, _ => exact absurd hM.len (by simp)
  | e0 :: e1 :: e2 :: e3 :: e4 :: e5 :: e6 :: e7 :: e8 :: e9 :: r, hM, _ => exact absurd hM.len (by simp)
theorem mk_base {K : PySem.W.Frag} {H : Hp} {f : Fg} {kv : V} {kd : PyData} (F : Figs f.p f.s f.g f.m f.fi f.fa f.ba) (hk : Keep K H f.p f.ks kv kd) : Mk f.p [.int f.p, .int f.s, .int f.g, .bool f.l, .int f.m, kd, .int f.fi, .int f.fa, .int f.ba] (fun _ => false) := by
  have two : ∀ {i lo hi : Int}, lo ≤ i → i ≤ hi → (!numIn (.int i) lo hi) = false := fun {i lo hi} a b => by
    show (!(decide (lo ≤ i) && decide (i ≤ hi))) = false
    rw [decide_eq_true a, decide_eq_true b]
    rfl
  refine ⟨rfl, fun i d he => ?_, fun d hd => ?_, fun _ => rfl⟩
  · match i, he with
    | 0, he => cases he; exact two F.p0 F.p1
    | 1, he => cases he; exact two F.s0 F.s1
    | 2, he => cases he; exact two F.g0 F.g1
    | 3, he => cases he; rfl
    | 4, he => cases he; exact two F.m0 F.m1
    | 5, he =>
      cases he
      show (!keptOk kd (.int f.p)) = false
      rw [hk.ok]
      rfl
    | 6, he => cases he; exact two F.fi0 F.fi1
    | 7, he => cases he; exact two F.fa0 F.fa1
    | 8, he => cases he; exact two F.ba0 F.ba1
    | k + 9, he => cases he
  · have p0 := F.p0
    have p1 := F.p1
    have s0 := F.s0
    have s1 := F.s1
    have g0 := F.g0
    have g1 := F.g1
    have m0 := F.m0
    have m1 := F.m1
    have u0 := F.fi0
    have u1 := F.fi1
    have v0 := F.fa0
    have v1 := F.fa1
    have w0 := F.ba0
    have w1 := F.ba1
    have it : ∀ {i : Int}, 0 ≤ i → i ≤ 200 → SeqAt.shaped (.int i) = true ∧ (∀ es, PyData.int i = .tuple es → es.length ≤ 1000) ∧ Sm 3 1101 (.int i) := fun {i} a b => ⟨sh_i i, fun es e => (nomatch e), (sm_int (by omega) (by omega)).mono (by decide) (by decide)⟩
    simp only [List.mem_cons, List.not_mem_nil, or_false] at hd
    rcases hd with rfl | rfl | rfl | rfl | rfl | rfl | rfl | rfl | rfl
    · exact it (by omega) (by omega)
    · exact it (by omega) (by omega)
    · exact it (by omega) (by omega)
    · refine ⟨sh_of (by simp [PyData.canLay0]) (by simp [PyData.depth]), fun es e => (nomatch e), ?_⟩
      cases f.l <;> exact ⟨by decide +kernel, by decide +kernel, by decide +kernel, by decide +kernel⟩
    · exact it (by omega) (by omega)
    · cases hk with
      | one k h0 h1 _ => exact it h0 (by omega)
      | all a _ hl hb =>
        refine ⟨shT_ints _, fun es e => ?_, ((sm_ints (fun n hn => ?_) (by omega)).2).mono (by decide) (by decide)⟩
        · cases e
          rw [List.length_map]
          omega
        · have := hb n hn
          omega
    · exact it (by omega) (by omega)
    · exact it (by omega) (by omega)
    · exact it (by omega) (by omega)
theorem DN.le {K : PySem.W.Frag} {H0 H1 G : Hp} {v : V} {d : PyData} (h : DN K H0 G v d) (l : ∀ a, H1 a ≠ none → H0 a ≠ none) : DN K H1 G v d := fun G' z f n => h G' z f (fun a ha => l a (n a ha))
theorem dn_keep {K : PySem.W.Frag} {H0 G : Hp} {p : Int} {ks : List Int} {v : V} {d : PyData} (h : Keep K G p ks v d) (hz : ∀ a, H0 a ≠ none → ∃ xs, G a = some (.lst xs)) : DN K H0 G v d := by
  cases h with
  | one k _ _ _ => exact dn_int
  | all a h _ _ =>
    refine fun G' z f nz => dpAll_intsT ?_
    rcases h with (h | ⟨o, h⟩) | h
    · exact .inl (.inl (f _ _ (fun y => by obtain ⟨xs, e⟩ := hz _ (nz _ y); rw [e] at h; cases h) h))
    · exact .inl (.inr ⟨o, f _ _ (fun y => by obtain ⟨xs, e⟩ := hz _ (nz _ y); rw [e] at h; cases h) h⟩)
    · exact .inr h
theorem seqT_butL {K : PySem.W.Frag} {G G' : Hp} {L a : Addr} {xs ys : List V} (t : But L G G') (hL : G L = some (.lst ys)) (h : SqT K G a xs) : SqT K G' a xs := by
  rcases h with (h | ⟨o, h⟩) | h
  · exact .inl (.inl (t _ _ (fun z => by rw [z, hL] at h; cases h) h))
  · exact .inl (.inr ⟨o, t _ _ (fun z => by rw [z, hL] at h; cases h) h⟩)
  · exact .inr h
theorem Drawn.butL {K : PySem.W.Frag} {G G' : Hp} {L t : Addr} {f : Fg} {kv : V} {kd : PyData} {ys : List V} (h : Drawn K G t f kv kd) (e : But L G G') (hL : G L = some (.lst ys)) : Drawn K G' t f kv kd := by
  refine ⟨seqT_butL e hL h.1, h.2.1, ?_⟩
  have hk := h.2.2
  cases hk with
  | one k h0 h1 e => exact .one k h0 h1 e
  | all a h2 hl hb => exact .all a (seqT_butL e hL h2) hl hb
def Z2 (b L : Addr) : Hp := fun c => if c = b ∨ c = L then some (.lst []) else none
theorem z2_b {b L : Addr} : Z2 b L b ≠ none := by
  unfold Z2
  rw [if_pos (.inl rfl)]
  exact fun z => nomatch z
theorem z2_l {b L : Addr} : Z2 b L L ≠ none := by
  unfold Z2
  rw [if_pos (.inr rfl)]
  exact fun z => nomatch z
theorem z2_or {b L a : Addr} (h : Z2 b L a ≠ none) : a = b ∨ a = L := by
  by_cases c : a = b ∨ a = L
  · exact c
  · unfold Z2 at h
    rw [if_neg c] at h
    exact absurd rfl h
theorem figW_at {m : Nat} (h : m < 9) : ∃ w, figW[m]? = some w := ⟨_, List.getElem?_eq_getElem (show m < figW.length from h)⟩
theorem figV_at {m : Nat} {w : Str} {i : Int} (e : i = m) (h : figW[m]? = some w) : atI (figW.map V.str) i = some (.str w) := by
  rw [e]
  refine atI_nat ?_
  rw [List.getElem?_map, h]
  rfl
def sp_law (K : PySem.W.Frag) : Sp := fun vs H Q _ => ∃ (a : Addr) (ns : List Int), vs = [.ref a] ∧ SqL K H a (ns.map V.int) ∧ ns.length ≤ 63 ∧ ∀ H', Q (.bl true) H'
theorem ok_law {f : Addr} {fd : FuncData} (F : Fun K "law" "law" s_law f fd) {CC : CEs} (T_Rule : TRule K mg CC.r) (TE : TBad K mg CC) (XB : CEx P w K mg base CC.b 1 "BadRule" "word") (m_range : mg "range" = none) (m_min : mg "min" = none) (m_len : mg "len" = none) (m_list : mg "list" = none) (m_repr : mg "repr" = none) (C__law_drawn_from : CF P w K mg base 1 "_law_drawn_from" ["_law_script", "_law_k"] (sp__law_drawn_from K)) (C__law_some_rule : CF P w K mg base 4 "_law_some_rule" ["_law_left"] (sp__law_some_rule K)) (C__law_short_right : CF P w K mg base 7 "_law_short_right" ["_law_some"] (sp__law_short_right K CC)) (C__law_same : CF P w K mg base 6 "_law_same" ["_law_found", "_law_due"] (sp__law_same K)) (C__law_whole : CF P w K mg base 1 "_law_whole" ["_law_some"] (sp__law_whole K)) (C__law_made : CFx P w K mg base 6 "_law_made" ["_law_some"] (sp__law_made K CC)) (C__law_bad : CF P w K mg base 3 "_law_bad" ["_law_left", "_law_many", "_law_at"] (sp__law_bad K)) (C__law_refused : CF P w K mg base 7 "_law_refused" ["_law_some"] (sp__law_refused K CC)) (C__law_pick : CF P w K mg base 2 "_law_pick" ["_law_left", "_law_many"] (sp__law_pick K)) (C_Rule_figures_0 : CMt P w K mg base CC.r 1 "figures" ["self"] [] (sp_Rule_figures K CC.r)) : FnG P w K mg base 8 f fd ["_law_script"] (sp_law K) := by
  refine okG F sc_law (fun vs H Q E h => ?_) (fun cdv A outer s H vs Q E hr gd h => ?_)
  · first | (obtain ⟨_, rfl, _⟩ := h; rfl) | (obtain ⟨_, _, rfl, _⟩ := h; rfl) | (obtain ⟨_, _, _, rfl, _⟩ := h; rfl) | (obtain ⟨_, _, _, _, rfl, _⟩ := h; rfl) | (obtain ⟨_, _, _, _, _, rfl, _⟩ := h; rfl) | (obtain ⟨_, _, _, _, _, _, rfl, _⟩ := h; rfl) | (obtain ⟨_, _, _, _, _, _, _, rfl, _⟩ := h; rfl) | (obtain ⟨_, _, _, _, _, _, _, _, rfl, _⟩ := h; rfl) | (obtain ⟨_, _, _, _, _, _, _, _, _, rfl, _⟩ := h; rfl) | (obtain ⟨_, _, _, _, _, _, _, _, _, _, rfl, _⟩ := h; rfl) | (obtain ⟨_, _, _, _, _, _, _, _, _, _, _, rfl, _⟩ := h; rfl) | (obtain ⟨_, _, _, _, _, _, _, _, _, _, _, _, rfl, _⟩ := h; rfl) | (obtain ⟨_, _, _, _, _, _, _, _, _, _, _, _, _, rfl, _⟩ := h; rfl) | (obtain ⟨_, _, _, _, _, _, _, _, _, _, _, _, _, _, rfl, _⟩ := h; rfl) | (obtain ⟨_, _, _, _, _, _, _, _, _, _, _, _, _, _, _, rfl, _⟩ := h; rfl)
  · have hu64 := hr.units
    obtain ⟨a, ns, rfl, hS, hlen, q⟩ := h
    refine ⟨_, (pss_cons (ps_set (i := 1) sc_law.nd rfl (.inl rfl) (pe_lst (pa_cons pe_str (pa_cons pe_str (pa_cons pe_str (pa_cons pe_str (pa_cons pe_str (pa_cons pe_str (pa_cons pe_str (pa_cons pe_str (pa_cons pe_str pa_nil)))))))))))
      (pss_cons (ps_for PassesOwn.never rfl (pi_range1 (by rfl) m_range (pa_cons (pe_op op_add pe_int (pe_callB (call_min2 rfl) (by rfl) m_min (by decide +kernel) (pa_cons pe_int (pa_cons (pe_callB (kk_len K) (by rfl) m_len PySem.boot_len (pa_cons (pv 0) pa_nil)) pa_nil)))) pa_nil)) (pg_name (i := 2) sc_law.nd rfl (.inl rfl))
         (pss_cons (ps_set (i := 3) sc_law.nd rfl (.inl rfl) (pe_cf C__law_drawn_from (hr.mono (by decide)) (by rfl) (pa_cons (pv 0) (pa_cons (pv 2) pa_nil))))
          (pss_cons (ps_set (i := 4) sc_law.nd rfl (.inl rfl) (pe_cf C__law_some_rule (hr.mono (by decide)) (by rfl) (pa_cons (pv 3) pa_nil)))
          (pss_cons (ps_if (PW.pt (pw_or (pt_not (pt_val (pe_cf C__law_same (hr.mono (by decide)) (by rfl) (pa_cons (pe_mt0 C_Rule_figures_0 T_Rule.cl (hr.mono (by decide)) (pe_cfn C__law_made (hr.mono (by decide)) (by rfl) (pa_cons (pv 4) pa_nil))) (pa_cons (pe_cf C__law_whole (hr.mono (by decide)) (by rfl) (pa_cons (pv 4) pa_nil)) pa_nil))))) (pw_or1 (pt_not (pt_val (pe_cf C__law_short_right (hr.mono (by decide)) (by rfl) (pa_cons (pv 4) pa_nil)))))))
             (pss_one (ps_ret pe_bl))
             pss_nil)
          (pss_one (ps_for PassesOwn.never rfl (pi_range1 (by rfl) m_range (pa_cons pe_int pa_nil)) (pg_name (i := 5) sc_law.nd rfl (.inl rfl))
             (pss_cons (ps_set (i := 6) sc_law.nd rfl (.inl rfl) (pe_callTy (kk_list K) (by rfl) m_list (by decide +kernel) (pa_cons (pv 4) pa_nil)))
              (pss_cons (ps_asg (pe_cf C__law_bad (hr.mono (by decide)) (by rfl) (pa_cons (pv 3) (pa_cons (pe_ix (kk_ixt K) (pv 4) pe_int (fun _ _ => rfl)) (pa_cons (pv 5) pa_nil)))) (pg_sub (pv 6) (pv 5) set_list))
              (pss_cons (ps_set (i := 7) sc_law.nd rfl (.inl rfl) (pe_callB (kk_repr K gd hu64) (by rfl) m_repr (by decide +kernel) (pa_cons (pv 6) pa_nil)))
              (pss_cons (ps_if (PW.pt (pw_or (pt_cmpR op_ne (pe_cf C__law_refused (hr.mono (by decide)) (by rfl) (pa_cons (pv 6) pa_nil)) (pe_ix (kk_ixl K) (pv 1) (pv 5) (fun _ _ => rfl)) (nomark _)) (pw_or1 (pt_cmpR op_ne (pe_callB (kk_repr K gd hu64) (by rfl) m_repr (by decide +kernel) (pa_cons (pv 6) pa_nil)) (pv 7) (nomark _)))))
                 (pss_one (ps_ret pe_bl))
                 pss_nil)
              (pss_cons (ps_set (i := 8) sc_law.nd rfl (.inl rfl) (pe_cf C__law_pick (hr.mono (by decide)) (by rfl) (pa_cons (pv 3) (pa_cons pe_int pa_nil))))
              (pss_cons (ps_asg (pe_cf C__law_bad (hr.mono (by decide)) (by rfl) (pa_cons (pv 3) (pa_cons (pe_ix (kk_ixt K) (pv 4) pe_int (fun _ _ => rfl)) (pa_cons (pv 8) pa_nil)))) (pg_sub (pv 6) (pv 8) set_list))
              (pss_one (ps_if (pt_cmpR op_ne (pe_cf C__law_refused (hr.mono (by decide)) (by rfl) (pa_cons (pv 6) pa_nil)) (pe_ix (kk_ixl K) (pv 1) (pe_callB (call_min2 rfl) (by rfl) m_min (by decide +kernel) (pa_cons (pv 5) (pa_cons (pv 8) pa_nil))) (fun _ _ => rfl)) (nomark _))
                 (pss_one (ps_ret pe_bl))
                 pss_nil))))))))))))))
      (pss_one (ps_ret pe_bl)))), ?_⟩
    refine ⟨(by show 9 ≤ sizeLine; decide), fun lw nw => ?_⟩
    have hw0 : (upd H lw (.lst (figW.map V.str))) lw = some (.lst (figW.map V.str)) := upd_same
    have sw := same_new (o := .lst (figW.map V.str)) nw
    have hS := sw.seq hS
    rw [show [V.str (Str.ofString "parts"), V.str (Str.ofString "step"), V.str (Str.ofString "grace"), V.str (Str.ofString "last"), V.str (Str.ofString "misses"), V.str (Str.ofString "keep"), V.str (Str.ofString "fine"), V.str (Str.ofString "falls"), V.str (Str.ofString "back")] = figW.map V.str from rfl]
    generalize upd H lw (.lst (figW.map V.str)) = HW at *
    refine ⟨_, rfl, a, _, rfl, .inl hS, _, _, rfl, _, _, rfl, rfl, _, rfl, ?_, ?_, for_range (fun i σ H' => ∃ s2 s3 s4 s5 s6 s7 s8, σ = [some (.ref a), some (.ref lw), s2, s3, s4, s5, s6, s7, s8] ∧ Same HW H') ⟨_, _, _, _, _, _, _, rfl, Same.refl HW⟩ (fun i0 σ H' hi h => ?_) (fun σ H' h => ?_)⟩
    · split <;> omega
    · split <;> omega
    · obtain ⟨s2, s3, s4, s5, s6, s7, s8, rfl, sm⟩ := h
      have hi2 : i0 < 5 := by
        split at hi <;> omega
      refine ⟨_, rfl, _, rfl, a, _, ns, rfl, sm.seq hS, hlen, by omega, by omega, fun H1 b c nb nc sb L1 => ?_⟩
      have nb0 : HW b = none := back_none sm nb
      have lwb : lw ≠ b := ne_of_none hw0 nb0
      refine ⟨_, rfl, b, c, _, rfl, L1, by omega, fun H2 t f1 kv kd L2' t2 D1 => ?_⟩
      refine ⟨_, rfl, t, rfl, .inl ⟨f1, kv, kd, D1, fun H3 r nr s3' R => ?_⟩⟩
      obtain ⟨dx, kt, hR, hKt⟩ := id R
      refine ⟨r, dx, _, rfl, hR, lk0 (by decide +kernel), r, f1, rfl, R, fun H4 tf kt' ntf s4' hf hkf => ?_⟩
      refine ⟨_, rfl, t, f1, kv, kd, rfl, D1.same (s3'.trans s4'), fun H5 w a' s5' hW ha => ?_⟩
      refine ⟨_, _, figD f1, rfl, fig_dp (seqT_same s5' (SqT.of hf)) (seqT_same s5' hkf), fig_dp hW.1 ha, fig_depth f1, fig_thin D1.ok, fun H6 s6' => ⟨_, rfl, iteF ?_⟩⟩
      have s26 := ((s3'.trans s4').trans s5').trans s6'
      refine ⟨_, rfl, t, f1, kv, kd, rfl, D1.same s26, fun H7 s7' => ⟨_, rfl, iteF ?_⟩⟩
      have s27 := s26.trans s7'
      have t17 : But b H1 H7 := t2.trans (But.of s27)
      have w7 : H7 lw = some (.lst (figW.map V.str)) := t17 _ _ lwb (sb _ _ (sm _ _ hw0))
      have F := D1.2.1
      have p0 := F.p0
      have p1 := F.p1
      refine ⟨_, rfl, by decide, by decide, for_range (fun j σ H' => ∃ s5 s6 s7 s8, σ = [some (.ref a), some (.ref lw), some (.int (0 + i0)), some (.ref b), some (.ref t), s5, s6, s7, s8] ∧ But b H7 H' ∧ Left H' b c (6000 + 21 * j) ∧ Drawn K H' t f1 kv kd ∧ H' lw = some (.lst (figW.map V.str))) ⟨_, _, _, _, rfl, But.refl b H7, (L2'.same s27).mono (by omega), D1.same s27, w7⟩ (fun j σ HJ hj h => ?_) (fun σ HJ h => ?_)⟩
      · obtain ⟨s5, s6, s7, s8, rfl, tj, bj, Dj, hwj⟩ := h
        have hj9 : j < 9 := hj
        refine ⟨_, rfl, t, _, rfl, .inr Dj.1, fun L nL => ?_⟩
        have sL := same_new (o := .lst [V.int f1.p, .int f1.s, .int f1.g, .bl f1.l, .int f1.m, kv, .int f1.fi, .int f1.fa, .int f1.ba]) nL
        have hL0 := upd_same (H := HJ) (a := L) (o := .lst [V.int f1.p, .int f1.s, .int f1.g, .bl f1.l, .int f1.m, kv, .int f1.fi, .int f1.fa, .int f1.ba])
        have Lb : L ≠ b := bj.ne nL
        have Lc : L ≠ c := bj.ne2 nL
        have Lw : lw ≠ L := ne_of_none hwj nL
        have bL := bj.same sL
        have DL := Dj.same sL
        have wL := sL _ _ hwj
        have tL := tj.trans (But.of sL)
        generalize upd HJ L (.lst [V.int f1.p, .int f1.s, .int f1.g, .bl f1.l, .int f1.m, kv, .int f1.fi, .int f1.fa, .int f1.ba]) = HL at *
        obtain ⟨_, _, _, eb, _⟩ := id bL
        have hz : ∀ x, Z2 b L x ≠ none → ∃ xs, HL x = some (.lst xs) := fun x hx => by
          rcases z2_or hx with rfl | rfl
          · exact ⟨_, eb⟩
          · exact ⟨_, hL0⟩
        have N0 : DNs K (Z2 b L) HL [V.int f1.p, .int f1.s, .int f1.g, .bl f1.l, .int f1.m, kv, .int f1.fi, .int f1.fa, .int f1.ba] [.int f1.p, .int f1.s, .int f1.g, .bool f1.l, .int f1.m, kd, .int f1.fi, .int f1.fa, .int f1.ba] := ⟨dn_int, dn_int, dn_int, dn_bl, dn_int, dn_keep DL.2.2 hz, dn_int, dn_int, dn_int, trivial⟩
        have M0 := mk_base F DL.2.2
        have len0 : [V.int f1.p, .int f1.s, .int f1.g, .bl f1.l, .int f1.m, kv, .int f1.fi, .int f1.fa, .int f1.ba].length = 9 := rfl
        generalize [V.int f1.p, .int f1.s, .int f1.g, .bl f1.l, .int f1.m, kv, .int f1.fi, .int f1.fa, .int f1.ba] = xs0 at hL0 N0 len0
        generalize [PyData.int f1.p, .int f1.s, .int f1.g, .bool f1.l, .int f1.m, kd, .int f1.fi, .int f1.fa, .int f1.ba] = ds0 at N0 M0
        refine ⟨_, rfl, _, rfl, t, _, _, _, rfl, rfl, DL.1, rfl, _, rfl, b, c, f1.p, _, _, rfl, bL, by omega, p0, p1, by omega, by omega, fun G1 v d b1 t1 dn hsh hln hbd hsm => ?_⟩
        have hL1 := t1 _ _ Lb hL0
        refine ⟨_, rfl, _, rfl, L, _, _, j, rfl, rfl, hL1, (by rw [len0, Int.zero_add]; exact ix_nat hj9), ?_⟩
        rw [Int.zero_add] at hbd
        have M1 := M0.set hj9 hbd hsh hln hsm
        have hzl : ∀ x, Z2 b L x ≠ none → HL x ≠ none := fun x hx => by
          obtain ⟨xs, e⟩ := hz x hx
          rw [e]
          exact fun z => nomatch z
        have N1 := (((N0.but t1 z2_b).set (j := j) (dn.le hzl)).but (But.upd (o := .lst (xs0.set j v))) z2_l)
        have hL2 := upd_same (H := G1) (a := L) (o := .lst (xs0.set j v))
        have b2 := b1.upd (o := .lst (xs0.set j v)) Lb Lc
        have D2 := (DL.but t1 bL).butL (But.upd (o := .lst (xs0.set j v))) hL1
        have w2 : (upd G1 L (.lst (xs0.set j v))) lw = some (.lst (figW.map V.str)) := by
          rw [upd_ne Lw]
          exact t1 _ _ lwb wL
        have T2 : But b HJ (upd G1 L (.lst (xs0.set j v))) := fun e o ne he => by
          rw [upd_ne (ne_of_none he nL)]
          exact t1 _ _ ne (sL _ _ he)
        have len1 : (xs0.set j v).length = 9 := by rw [List.length_set]; exact len0
        generalize upd G1 L (.lst (xs0.set j v)) = G2 at *
        generalize xs0.set j v = xs1 at *
        generalize ds0.set j d = ds1 at *
        have dpl : Dp K G2 (.ref L) (.list ds1) := .lst (SqL.of hL2) (N1.all G2 [] (fun _ _ _ e => e) (fun _ h => nomatch h))
        have sml := (sm_seq (k := 3) (B := 1101) (fun x hx => (M1.sh x hx).2.2) (by rw [M1.len]; omega)).1
        have sz : (PyData.list ds1).shown.length ≤ sizeLine := by
          have := sml.le
          rw [sizeLine_eq]
          omega
        have dz : (PyData.list ds1).depth ≤ 60 := by
          have := sml.de
          omega
        refine ⟨_, rfl, _, _, rfl, dpl, sml.sh, sz, dz, sml.di, ?_⟩
        obtain ⟨wj, hwj2⟩ := figW_at hj9
        have N9 := nine_mk (m := j) (w := wj) M1 (N1.all G2 [] (fun _ _ _ e => e) (fun _ h => nomatch h)) (by rw [decide_eq_true rfl, Bool.or_true]) (fun i hi => by rw [decide_eq_false (show ¬ i = j by omega)]; rfl) hwj2
        refine ⟨_, rfl, L, _, wj, rfl, SqL.of hL2, N9, fun G3 s3 => ?_⟩
        refine ⟨_, rfl, _, rfl, lw, _, _, _, rfl, rfl, SqL.of (s3 _ _ w2), figV_at (Int.zero_add _) hwj2, rfl, _, rfl, ?_⟩
        rw [show (!decide (V.str wj = V.str wj)) = false from by simp]
        refine iteF ⟨_, rfl, _, _, rfl, dp_same s3 dpl, sml.sh, sz, dz, sml.di, _, rfl, rfl, _, rfl, ?_⟩
        rw [show (!decide (V.str (PyData.list ds1).shown = V.str (PyData.list ds1).shown)) = false from by simp]
        refine iteF ?_
        have N3 := N1.same s3
        have hL3 := s3 _ _ hL2
        have D3 := D2.same s3
        have w3 := s3 _ _ w2
        have b3 := b2.same s3
        refine ⟨_, rfl, b, c, 9, _, rfl, b3, by decide, by decide, by omega, fun r2 G4 r0 r1 b4 t4 => ?_⟩
        obtain ⟨rn, rfl⟩ := Int.eq_ofNat_of_zero_le r0
        have hr9 : rn < 9 := by omega
        have N4 := N3.but t4 z2_b
        have hL4 := t4 _ _ Lb hL3
        have D4 := D3.but t4 b3
        have w4 := t4 _ _ lwb w3
        obtain ⟨_, _, _, eb4, _⟩ := id b4
        refine ⟨_, rfl, _, rfl, t, _, _, _, rfl, rfl, D4.1, rfl, _, rfl, b, c, f1.p, _, _, rfl, b4, by omega, p0, p1, by omega, by omega, fun G5 v2 d2 b5 t5 dn5 hsh5 hln5 hbd5 hsm5 => ?_⟩
        have hL5 := t5 _ _ Lb hL4
        refine ⟨_, rfl, _, rfl, L, _, _, rn, rfl, rfl, hL5, (by rw [len1]; exact ix_nat hr9), ?_⟩
        have M2 := M1.set hr9 hbd5 hsh5 hln5 hsm5
        have hz4 : ∀ x, Z2 b L x ≠ none → G4 x ≠ none := fun x hx => by
          rcases z2_or hx with rfl | rfl
          · rw [eb4]
            exact fun z => nomatch z
          · rw [hL4]
            exact fun z => nomatch z
        have N5 := (((N4.but t5 z2_b).set (j := rn) (dn5.le hz4)).but (But.upd (o := .lst (xs1.set rn v2))) z2_l)
        have hL6 := upd_same (H := G5) (a := L) (o := .lst (xs1.set rn v2))
        have b6 := b5.upd (o := .lst (xs1.set rn v2)) Lb Lc
        have D6 := (D4.but t5 b4).butL (But.upd (o := .lst (xs1.set rn v2))) hL5
        have w6 : (upd G5 L (.lst (xs1.set rn v2))) lw = some (.lst (figW.map V.str)) := by
          rw [upd_ne Lw]
          exact t5 _ _ lwb w4
        have T6 : But b HJ (upd G5 L (.lst (xs1.set rn v2))) := fun e o ne he => by
          rw [upd_ne (ne_of_none he nL)]
          exact t5 _ _ ne (t4 _ _ ne (s3 _ _ (T2 _ _ ne he)))
        generalize upd G5 L (.lst (xs1.set rn v2)) = G6 at *
        obtain ⟨m, hm, hmi, hm9⟩ : ∃ m : Nat, (m = j ∨ m = rn) ∧ (m ≤ j ∧ m ≤ rn) ∧ m < 9 := by
          by_cases c : j ≤ rn
          · exact ⟨j, .inl rfl, by omega, hj9⟩
          · exact ⟨rn, .inr rfl, by omega, hr9⟩
        obtain ⟨wm, hwm⟩ := figW_at hm9
        have N9' := nine_mk (m := m) (w := wm) M2 (N5.all G6 [] (fun _ _ _ e => e) (fun _ h => nomatch h)) (by rcases hm with e | e <;> simp [e]) (fun i hi => by rw [decide_eq_false (show ¬ i = j by omega), decide_eq_false (show ¬ i = rn by omega)]; rfl) hwm
        refine ⟨_, rfl, L, _, wm, rfl, SqL.of hL6, N9', fun G7 s7 => ?_⟩
        refine ⟨_, rfl, _, rfl, _, rfl, _, _, rfl, lw, _, _, _, rfl, rfl, SqL.of (s7 _ _ w6), figV_at (m := m) ?_ hwm, rfl, _, rfl, ?_⟩
        · split <;> omega
        rw [show (!decide (V.str wm = V.str wm)) = false from by simp]
        exact iteF ⟨_, _, _, _, rfl, (tj.trans T6).trans (But.of s7), (b6.same s7).mono (by omega), D6.same s7, s7 _ _ w6⟩
      · obtain ⟨s5, s6, s7, s8, rfl, tj, bj, Dj, hwj⟩ := h
        exact ⟨_, _, _, _, _, _, _, rfl, same_but (sm.trans sb) nb0 (t17.trans tj)⟩
    · obtain ⟨s2, s3, s4, s5, s6, s7, s8, rfl, sm⟩ := h
      exact q _
end
abbrev s_B : Stmt := inClass (topS 7) 0
theorem sc_B : NdefX.NScope ["self", "word", "__class__"] ["self", "word"] ["__class__"] (defScope s_B) := NdefX.nscope_by (by decide +kernel)
set_option maxHeartbeats 0 in
theorem all_mk {l : PySem.W.OpenLaw} {w : World} {K : PySem.W.Frag} {h : Heap} {mg : Str → Option Value} {fa f0 f1 f2 f3 f4 f5 f6 f7 f8 f9 f10 f11 f12 f13 f14 f15 f16 f17 CR CW CB CO1 CO2 CO3 CO4 CO5 CO6 CO7 fB ccB cdB NB : Addr} (X : K.In h) (G : h.Ns mainGlobals mg) (hfa : mg "law" = some (.ref fa))
    {od0 an0 od1 an1 od2 an2 od3 an3 od4 an4 od5 an5 od6 an6 od7 an7 od8 an8 od9 an9 od10 an10 od11 an11 od12 an12 od13 an13 od14 an14 od15 an15 od16 an16 od17 an17 : Option Addr} {sl0 sl1 sl2 sl3 sl4 sl5 sl6 sl7 sl8 sl9 sl10 sl11 sl12 sl13 sl14 sl15 sl16 sl17 : Array (Option Value)} {oc0 kV0 dc0 pm0 cd0 ct0 oc1 kV1 dc1 pm1 cd1 ct1 oc2 kV2 dc2 pm2 cd2 ct2 oc3 kV3 dc3 pm3 cd3 ct3 oc4 kV4 dc4 pm4 cd4 ct4 oc5 kV5 dc5 pm5 cd5 ct5 oc6 kV6 dc6 pm6 cd6 ct6 oc7 kV7 dc7 pm7 cd7 ct7 oc8 kV8 dc8 pm8 cd8 ct8 oc9 kV9 dc9 pm9 cd9 ct9 oc10 kV10 dc10 pm10 cd10 ct10 oc11 kV11 dc11 pm11 cd11 ct11 oc12 kV12 dc12 pm12 cd12 ct12 oc13 kV13 dc13 pm13 cd13 ct13 oc14 kV14 dc14 pm14 cd14 ct14 oc15 kV15 dc15 pm15 cd15 ct15 oc16 kV16 dc16 pm16 cd16 ct16 oc17 kV17 dc17 pm17 cd17 ct17 : Value}
    (aC : PySem.W.nsIn K mainGlobals "Rule" = some (some (.ref CR))) (pg : PySem.W.plainGet K CR Str.empty = true) (hd : PySem.W.hasDictIn K CR = true) (po : PySem.W.plainOver K CR = true) (sa : PySem.W.findIn K (.ref CR) "__setattr__" = some (some (.builtin "object.__setattr__"))) (mk : PySem.W.makesIn K CR = true) (kc : PySem.W.keepIn K (.ref CR) = true)
    (n1 : PySem.W.findIn K (.ref CR) "parts" = some none) (n2 : PySem.W.findIn K (.ref CR) "step" = some none) (n3 : PySem.W.findIn K (.ref CR) "grace" = some none) (n4 : PySem.W.findIn K (.ref CR) "last" = some none) (n5 : PySem.W.findIn K (.ref CR) "misses" = some none) (n6 : PySem.W.findIn K (.ref CR) "keep" = some none) (n7 : PySem.W.findIn K (.ref CR) "fine" = some none) (n8 : PySem.W.findIn K (.ref CR) "falls" = some none) (n9 : PySem.W.findIn K (.ref CR) "back" = some none)
    (e_CW : PySem.W.nsIn K mainGlobals "WareError" = some (some (.ref CW)))
    (e_CB : PySem.W.nsIn K mainGlobals "BadRule" = some (some (.ref CB)))
    (e_CO1 : PySem.W.nsIn K mainGlobals "BadClause" = some (some (.ref CO1)))
    (e_CO2 : PySem.W.nsIn K mainGlobals "BadRow" = some (some (.ref CO2)))
    (e_CO3 : PySem.W.nsIn K mainGlobals "Idle" = some (some (.ref CO3)))
    (e_CO4 : PySem.W.nsIn K mainGlobals "NoDay" = some (some (.ref CO4)))
    (e_CO5 : PySem.W.nsIn K mainGlobals "NoEntry" = some (some (.ref CO5)))
    (e_CO6 : PySem.W.nsIn K mainGlobals "NoHouse" = some (some (.ref CO6)))
    (e_CO7 : PySem.W.nsIn K mainGlobals "NoWare" = some (some (.ref CO7)))
    (e_CW_ty : PySem.W.typeIn K (.ref CW) = some (.type "type"))
    (e_CW_ic : PySem.W.isClsIn K CW = true)
    (e_CB_ty : PySem.W.typeIn K (.ref CB) = some (.type "type"))
    (e_CB_ic : PySem.W.isClsIn K CB = true)
    (e_CO1_ty : PySem.W.typeIn K (.ref CO1) = some (.type "type"))
    (e_CO1_ic : PySem.W.isClsIn K CO1 = true)
    (e_CO2_ty : PySem.W.typeIn K (.ref CO2) = some (.type "type"))
    (e_CO2_ic : PySem.W.isClsIn K CO2 = true)
    (e_CO3_ty : PySem.W.typeIn K (.ref CO3) = some (.type "type"))
    (e_CO3_ic : PySem.W.isClsIn K CO3 = true)
    (e_CO4_ty : PySem.W.typeIn K (.ref CO4) = some (.type "type"))
    (e_CO4_ic : PySem.W.isClsIn K CO4 = true)
    (e_CO5_ty : PySem.W.typeIn K (.ref CO5) = some (.type "type"))
    (e_CO5_ic : PySem.W.isClsIn K CO5 = true)
    (e_CO6_ty : PySem.W.typeIn K (.ref CO6) = some (.type "type"))
    (e_CO6_ic : PySem.W.isClsIn K CO6 = true)
    (e_CO7_ty : PySem.W.typeIn K (.ref CO7) = some (.type "type"))
    (e_CO7_ic : PySem.W.isClsIn K CO7 = true)
    (e_CW_sb : PySem.W.subIn K (.ref CW) (.type "BaseException") = some true)
    (e_CW_hd : PySem.W.hasDictIn K CW = true)
    (e_CB_hg : PySem.W.findIn K (.ref CB) "__getattribute__" = some (some (.builtin "BaseException.__getattribute__")))
    (e_CB_hk : PySem.W.findIn K (.ref CB) "__getattr__" = some none)
    (e_CB_sb : PySem.W.subIn K (.ref CB) (.type "BaseException") = some true)
    (e_CB_hd : PySem.W.hasDictIn K CB = true)
    (e_CB_ha : PySem.W.findIn K (.ref CB) "__class__" = some (some (.builtin "object.__class__")))
    (e_CB_hm : PySem.W.mroIn K CB (.type "object") = some true)
    (e_CB_ve : PySem.W.subIn K (.ref CB) (.type "ValueError") = some true)
    (e_CB_xw : PySem.W.subIn K (.ref CB) (.ref CW) = some true)
    (e_CB_sa : PySem.W.findIn K (.ref CB) "__setattr__" = some (some (.builtin "object.__setattr__")))
    (e_CB_kp : PySem.W.keepIn K (.ref CB) = true)
    (e_CB_nw : PySem.W.findIn K (.ref CB) "word" = some none)
    (e_CB_ini : PySem.W.findIn K (.ref CB) "__init__" = some (some (.ref fB)))
    (e_CB_tf : PySem.W.typeIn K (.ref fB) = some (.type "function"))
    (e_CB_s1 : PySem.W.subIn K (.ref CB) (.ref CO1) = some false)
    (e_CB_n1 : CB ≠ CO1)
    (e_CB_s2 : PySem.W.subIn K (.ref CB) (.ref CO2) = some false)
    (e_CB_n2 : CB ≠ CO2)
    (e_CB_s3 : PySem.W.subIn K (.ref CB) (.ref CO3) = some false)
    (e_CB_n3 : CB ≠ CO3)
    (e_CB_s4 : PySem.W.subIn K (.ref CB) (.ref CO4) = some false)
    (e_CB_n4 : CB ≠ CO4)
    (e_CB_s5 : PySem.W.subIn K (.ref CB) (.ref CO5) = some false)
    (e_CB_n5 : CB ≠ CO5)
    (e_CB_s6 : PySem.W.subIn K (.ref CB) (.ref CO6) = some false)
    (e_CB_n6 : CB ≠ CO6)
    (e_CB_s7 : PySem.W.subIn K (.ref CB) (.ref CO7) = some false)
    (e_CB_n7 : CB ≠ CO7)
    (e_CB_nw2 : CB ≠ CW)
    (e_hn : PySem.W.specialIn K (.builtin "object.__class__") "__get__" = some (some (.builtin "getset_descriptor.__get__")))
    (e_ht : PySem.W.takesIn K (.builtin "object.__class__") = some true)
    {nmB qB : Str} {bsB bmB subB : List Value} {snB : List Str} {abB : Bool} {colB : Option Bool} {ddB : Option Addr} {k0B k1B k2B k3B k5B : Option Value}
    (xoB : K.lookup CB = some (excClassObj nmB qB CB NB bsB bmB true snB subB abB colB ddB k0B k1B k2B k3B k5B "ValueError.__new__"))
    (xrB : PySem.HandSPX.refsVE bmB = true)
    {ocB kVB dcB pmB ctB oclB cclB : Value} {odB anB ocdB cddB : Option Addr} {slB ocsB ccsB : Array (Option Value)} {vsB : Array Value} {fileB : Str} {tfB : Tok}
    (lB : K.lookup fB = some ⟨ocB, odB, .func (PySem.W.fnX "__init__" "BadRule.__init__" (defArgs s_B) (defBody s_B) (defScope s_B) [("__class__", ccB)] .none kVB dcB pmB anB (.ref cdB) ctB), slB⟩)
    (cB : PySem.W.codeIn K (.ref cdB) "BadRule.__init__" = true)
    (hcellB : K.lookup ccB = some ⟨oclB, ocdB, .cell (some (.ref CB)), ocsB⟩)
    (hcodeB : K.lookup cdB = some ⟨cclB, cddB, .fields vsB, ccsB⟩)
    (hvsB : vsB[2]? = some (.str fileB tfB))
    (hfileB : ((l.prog.main.file : Str) == fileB) = true)
    (htopB : (l.prog.main.scope.names.lookup ("super" : Str)).isSome = false)
    (hopB : PySem.W.nsIn K PySem.cStatics "thirdparty.any" = some none)
    (hsiB : PySem.W.ks_superIn K CB CB "__init__" = some (some (.builtin "ValueError.__init__")))
    (a0 : PySem.W.nsIn K mainGlobals "is_number_in" = some (some (.ref f0))) (l0 : K.lookup f0 = some ⟨oc0, od0, .func (PySem.W.fnOf "is_number_in" "is_number_in" (defArgs s_is_number_in) (defBody s_is_number_in) (defScope s_is_number_in) .none kV0 dc0 pm0 an0 cd0 ct0), sl0⟩) (c0 : PySem.W.codeIn K cd0 "is_number_in" = true) (k0 : PySem.W.keepIn K (.ref f0) = true)
    (a1 : PySem.W.nsIn K mainGlobals "may_be_kept" = some (some (.ref f1))) (l1 : K.lookup f1 = some ⟨oc1, od1, .func (PySem.W.fnOf "may_be_kept" "may_be_kept" (defArgs s_may_be_kept) (defBody s_may_be_kept) (defScope s_may_be_kept) .none kV1 dc1 pm1 an1 cd1 ct1), sl1⟩) (c1 : PySem.W.codeIn K cd1 "may_be_kept" = true) (k1 : PySem.W.keepIn K (.ref f1) = true)
    (a2 : PySem.W.nsIn K mainGlobals "wrong_figure" = some (some (.ref f2))) (l2 : K.lookup f2 = some ⟨oc2, od2, .func (PySem.W.fnOf "wrong_figure" "wrong_figure" (defArgs s_wrong_figure) (defBody s_wrong_figure) (defScope s_wrong_figure) .none kV2 dc2 pm2 an2 cd2 ct2), sl2⟩) (c2 : PySem.W.codeIn K cd2 "wrong_figure" = true) (k2 : PySem.W.keepIn K (.ref f2) = true)
    {D3 : Addr} {dod3 : Option Addr} {doc3 : Value} {dsl3 : Array (Option Value)} {dn3 : Nat} {u3_0 u3_2 u3_3 u3_4 u3_5 u3_6 : Tok}
    (a3 : PySem.W.findIn K (.ref CR) "__init__" = some (some (.ref f3))) (l3 : K.lookup f3 = some ⟨oc3, od3, .func (PySem.W.fnOf "__init__" "Rule.__init__" (defArgs s_Rule___init__) (defBody s_Rule___init__) (defScope s_Rule___init__) (.ref D3) kV3 dc3 pm3 an3 cd3 ct3), sl3⟩) (c3 : PySem.W.codeIn K cd3 "Rule.__init__" = true) (k3 : PySem.W.keepIn K (.ref f3) = true)
    (i3 : PySem.W.isFn K (.ref f3) = true) (d3 : K.lookup D3 = some ⟨doc3, dod3, .seq [.int 0 u3_0, .bool false, .int 0 u3_2, .int 0 u3_3, .int 0 u3_4, .int 0 u3_5, .int 0 u3_6].toArray dn3, dsl3⟩)
    (a4 : PySem.W.findIn K (.ref CR) "figures" = some (some (.ref f4))) (l4 : K.lookup f4 = some ⟨oc4, od4, .func (PySem.W.fnOf "figures" "Rule.figures" (defArgs s_Rule_figures) (defBody s_Rule_figures) (defScope s_Rule_figures) .none kV4 dc4 pm4 an4 cd4 ct4), sl4⟩) (c4 : PySem.W.codeIn K cd4 "Rule.figures" = true) (k4 : PySem.W.keepIn K (.ref f4) = true)
    (i4 : PySem.W.isFn K (.ref f4) = true)
    (a5 : PySem.W.nsIn K mainGlobals "_law_mix" = some (some (.ref f5))) (l5 : K.lookup f5 = some ⟨oc5, od5, .func (PySem.W.fnOf "_law_mix" "_law_mix" (defArgs s__law_mix) (defBody s__law_mix) (defScope s__law_mix) .none kV5 dc5 pm5 an5 cd5 ct5), sl5⟩) (c5 : PySem.W.codeIn K cd5 "_law_mix" = true) (k5 : PySem.W.keepIn K (.ref f5) = true)
    (a6 : PySem.W.nsIn K mainGlobals "_law_pick" = some (some (.ref f6))) (l6 : K.lookup f6 = some ⟨oc6, od6, .func (PySem.W.fnOf "_law_pick" "_law_pick" (defArgs s__law_pick) (defBody s__law_pick) (defScope s__law_pick) .none kV6 dc6 pm6 an6 cd6 ct6), sl6⟩) (c6 : PySem.W.codeIn K cd6 "_law_pick" = true) (k6 : PySem.W.keepIn K (.ref f6) = true)
    (a7 : PySem.W.nsIn K mainGlobals "_law_drawn_from" = some (some (.ref f7))) (l7 : K.lookup f7 = some ⟨oc7, od7, .func (PySem.W.fnOf "_law_drawn_from" "_law_drawn_from" (defArgs s__law_drawn_from) (defBody s__law_drawn_from) (defScope s__law_drawn_from) .none kV7 dc7 pm7 an7 cd7 ct7), sl7⟩) (c7 : PySem.W.codeIn K cd7 "_law_drawn_from" = true) (k7 : PySem.W.keepIn K (.ref f7) = true)
    (a8 : PySem.W.nsIn K mainGlobals "_law_keep" = some (some (.ref f8))) (l8 : K.lookup f8 = some ⟨oc8, od8, .func (PySem.W.fnOf "_law_keep" "_law_keep" (defArgs s__law_keep) (defBody s__law_keep) (defScope s__law_keep) .none kV8 dc8 pm8 an8 cd8 ct8), sl8⟩) (c8 : PySem.W.codeIn K cd8 "_law_keep" = true) (k8 : PySem.W.keepIn K (.ref f8) = true)
    (a9 : PySem.W.nsIn K mainGlobals "_law_some_rule" = some (some (.ref f9))) (l9 : K.lookup f9 = some ⟨oc9, od9, .func (PySem.W.fnOf "_law_some_rule" "_law_some_rule" (defArgs s__law_some_rule) (defBody s__law_some_rule) (defScope s__law_some_rule) .none kV9 dc9 pm9 an9 cd9 ct9), sl9⟩) (c9 : PySem.W.codeIn K cd9 "_law_some_rule" = true) (k9 : PySem.W.keepIn K (.ref f9) = true)
    (a10 : PySem.W.nsIn K mainGlobals "_law_same" = some (some (.ref f10))) (l10 : K.lookup f10 = some ⟨oc10, od10, .func (PySem.W.fnOf "_law_same" "_law_same" (defArgs s__law_same) (defBody s__law_same) (defScope s__law_same) .none kV10 dc10 pm10 an10 cd10 ct10), sl10⟩) (c10 : PySem.W.codeIn K cd10 "_law_same" = true) (k10 : PySem.W.keepIn K (.ref f10) = true)
    (a11 : PySem.W.nsIn K mainGlobals "_law_made" = some (some (.ref f11))) (l11 : K.lookup f11 = some ⟨oc11, od11, .func (PySem.W.fnOf "_law_made" "_law_made" (defArgs s__law_made) (defBody s__law_made) (defScope s__law_made) .none kV11 dc11 pm11 an11 cd11 ct11), sl11⟩) (c11 : PySem.W.codeIn K cd11 "_law_made" = true) (k11 : PySem.W.keepIn K (.ref f11) = true)
    (a12 : PySem.W.nsIn K mainGlobals "_law_whole" = some (some (.ref f12))) (l12 : K.lookup f12 = some ⟨oc12, od12, .func (PySem.W.fnOf "_law_whole" "_law_whole" (defArgs s__law_whole) (defBody s__law_whole) (defScope s__law_whole) .none kV12 dc12 pm12 an12 cd12 ct12), sl12⟩) (c12 : PySem.W.codeIn K cd12 "_law_whole" = true) (k12 : PySem.W.keepIn K (.ref f12) = true)
    (a13 : PySem.W.nsIn K mainGlobals "_law_caught" = some (some (.ref f13))) (l13 : K.lookup f13 = some ⟨oc13, od13, .func (PySem.W.fnOf "_law_caught" "_law_caught" (defArgs s__law_caught) (defBody s__law_caught) (defScope s__law_caught) .none kV13 dc13 pm13 an13 cd13 ct13), sl13⟩) (c13 : PySem.W.codeIn K cd13 "_law_caught" = true) (k13 : PySem.W.keepIn K (.ref f13) = true)
    (a14 : PySem.W.nsIn K mainGlobals "_law_refused" = some (some (.ref f14))) (l14 : K.lookup f14 = some ⟨oc14, od14, .func (PySem.W.fnOf "_law_refused" "_law_refused" (defArgs s__law_refused) (defBody s__law_refused) (defScope s__law_refused) .none kV14 dc14 pm14 an14 cd14 ct14), sl14⟩) (c14 : PySem.W.codeIn K cd14 "_law_refused" = true) (k14 : PySem.W.keepIn K (.ref f14) = true)
    (a15 : PySem.W.nsIn K mainGlobals "_law_short_right" = some (some (.ref f15))) (l15 : K.lookup f15 = some ⟨oc15, od15, .func (PySem.W.fnOf "_law_short_right" "_law_short_right" (defArgs s__law_short_right) (defBody s__law_short_right) (defScope s__law_short_right) .none kV15 dc15 pm15 an15 cd15 ct15), sl15⟩) (c15 : PySem.W.codeIn K cd15 "_law_short_right" = true) (k15 : PySem.W.keepIn K (.ref f15) = true)
    (a16 : PySem.W.nsIn K mainGlobals "_law_bad" = some (some (.ref f16))) (l16 : K.lookup f16 = some ⟨oc16, od16, .func (PySem.W.fnOf "_law_bad" "_law_bad" (defArgs s__law_bad) (defBody s__law_bad) (defScope s__law_bad) .none kV16 dc16 pm16 an16 cd16 ct16), sl16⟩) (c16 : PySem.W.codeIn K cd16 "_law_bad" = true) (k16 : PySem.W.keepIn K (.ref f16) = true)
    (a17 : PySem.W.nsIn K mainGlobals "law" = some (some (.ref f17))) (l17 : K.lookup f17 = some ⟨oc17, od17, .func (PySem.W.fnOf "law" "law" (defArgs s_law) (defBody s_law) (defScope s_law) .none kV17 dc17 pm17 an17 cd17 ct17), sl17⟩) (c17 : PySem.W.codeIn K cd17 "law" = true) (k17 : PySem.W.keepIn K (.ref f17) = true)
    (z_isinstance : PySem.W.nsIn K mainGlobals "isinstance" = some none) (z_bool : PySem.W.nsIn K mainGlobals "bool" = some none) (z_int : PySem.W.nsIn K mainGlobals "int" = some none) (z_tuple : PySem.W.nsIn K mainGlobals "tuple" = some none) (z_all : PySem.W.nsIn K mainGlobals "all" = some none) (z_len : PySem.W.nsIn K mainGlobals "len" = some none) (z_abs : PySem.W.nsIn K mainGlobals "abs" = some none) (z_range : PySem.W.nsIn K mainGlobals "range" = some none) (z_list : PySem.W.nsIn K mainGlobals "list" = some none) (z_zip : PySem.W.nsIn K mainGlobals "zip" = some none) (z_str : PySem.W.nsIn K mainGlobals "str" = some none) (z_ValueError : PySem.W.nsIn K mainGlobals "ValueError" = some none) (z_min : PySem.W.nsIn K mainGlobals "min" = some none) (z_repr : PySem.W.nsIn K mainGlobals "repr" = some none) (z_super : PySem.W.nsIn K mainGlobals "super" = some none) :
    ∃ fd : FuncData, (∀ (s : Shared) (v : Value), BindsTo s fd ⟨[v], []⟩ [("_law_script", v)]) ∧ ∀ base : Heap, K.In base → base.Ns mainGlobals mg → FnG l.prog w K mg base 8 fa fd ["_law_script"] (sp_law K) := by
  have e := hfa.symm.trans (PySem.W.mg_of X G a17)
  cases e
  have T_Rule : TRule K mg CR := ⟨⟨pg, hd, po, sa⟩, n1, n2, n3, n4, n5, n6, n7, n8, n9⟩
  have gC := PySem.W.mg_of X G aC
  have TE : TBad K mg (⟨CR, CW, CB, CO1, CO2, CO3, CO4, CO5, CO6, CO7⟩ : CEs) := ⟨⟨e_CB_hg, e_CB_hk, e_CB_sb, e_CB_hd⟩, e_CB_nw, ⟨e_CB_hg, e_CB_hk, e_CB_sb, e_CB_hd, e_CB_ha, e_hn, e_ht, e_CB_hm⟩, PySem.W.exm_ref e_CW_sb e_CW_hd e_CW_ty e_CB_xw, PySem.W.mg_of X G e_CW, PySem.W.mg_of X G e_CB, PySem.W.mg_of X G e_CO1, PySem.W.mg_of X G e_CO2, PySem.W.mg_of X G e_CO3, PySem.W.mg_of X G e_CO4, PySem.W.mg_of X G e_CO5, PySem.W.mg_of X G e_CO6, PySem.W.mg_of X G e_CO7, kit_me, kit_ref e_CB_n1 e_CO1_ic e_CO1_ty e_CB_s1, kit_ref e_CB_n2 e_CO2_ic e_CO2_ty e_CB_s2, kit_ref e_CB_n3 e_CO3_ic e_CO3_ty e_CB_s3, kit_ref e_CB_n4 e_CO4_ic e_CO4_ty e_CB_s4, kit_ref e_CB_n5 e_CO5_ic e_CO5_ty e_CB_s5, kit_ref e_CB_n6 e_CO6_ic e_CO6_ty e_CB_s6, kit_ref e_CB_n7 e_CO7_ic e_CO7_ty e_CB_s7, kit_ve e_CB_ve, kit_ref e_CB_nw2 e_CW_ic e_CW_ty e_CB_xw⟩
  have OxB : OexC K CB := ⟨⟨_, _, _, _, _, _, _, _, _, _, _, _, _, _, _, xoB, xrB⟩, e_CB_sa, e_CB_sb, e_CB_ty, e_CB_kp⟩
  have F0 := fun_mk (st := s_is_number_in) l0 c0 k0
  have b0 := F0.binds (ps := ["thing", "low", "high"]) fun _ _ _ _ _ _ us hl => match us, hl with | [_, _, _], _ => rfl
  have g0 := PySem.W.mg_of X G a0
  have F1 := fun_mk (st := s_may_be_kept) l1 c1 k1
  have b1 := F1.binds (ps := ["keep", "parts"]) fun _ _ _ _ _ _ us hl => match us, hl with | [_, _], _ => rfl
  have g1 := PySem.W.mg_of X G a1
  have F2 := fun_mk (st := s_wrong_figure) l2 c2 k2
  have b2 := F2.binds (ps := ["parts", "step", "grace", "last", "misses", "keep", "fine", "falls", "back"]) fun _ _ _ _ _ _ us hl => match us, hl with | [_, _, _, _, _, _, _, _, _], _ => rfl
  have g2 := PySem.W.mg_of X G a2
  have F3 : FunD K "__init__" "Rule.__init__" (defArgs s_Rule___init__) (defBody s_Rule___init__) (defScope s_Rule___init__) [.int 0, .bl false, .int 0, .int 0, .int 0, .int 0, .int 0] [] f3 _ := ⟨⟨oc3, od3, _, kV3, dc3, pm3, an3, cd3, ct3, sl3, rfl, l3, c3, .inr ⟨by simp, D3, _, _, dn3, rfl, d3, rfl, (.cons ⟨_, rfl⟩ (.cons rfl (.cons ⟨_, rfl⟩ (.cons ⟨_, rfl⟩ (.cons ⟨_, rfl⟩ (.cons ⟨_, rfl⟩ (.cons ⟨_, rfl⟩ .nil)))))))⟩, .inl rfl⟩, k3⟩
  have F4 : FunD K "figures" "Rule.figures" (defArgs s_Rule_figures) (defBody s_Rule_figures) (defScope s_Rule_figures) [] [] f4 _ := ⟨⟨oc4, od4, _, kV4, dc4, pm4, an4, cd4, ct4, sl4, rfl, l4, c4, .inl ⟨rfl, rfl⟩, .inl rfl⟩, k4⟩
  have F5 := fun_mk (st := s__law_mix) l5 c5 k5
  have b5 := F5.binds (ps := ["_law_cell", "_law_k"]) fun _ _ _ _ _ _ us hl => match us, hl with | [_, _], _ => rfl
  have g5 := PySem.W.mg_of X G a5
  have F6 := fun_mk (st := s__law_pick) l6 c6 k6
  have b6 := F6.binds (ps := ["_law_left", "_law_many"]) fun _ _ _ _ _ _ us hl => match us, hl with | [_, _], _ => rfl
  have g6 := PySem.W.mg_of X G a6
  have F7 := fun_mk (st := s__law_drawn_from) l7 c7 k7
  have b7 := F7.binds (ps := ["_law_script", "_law_k"]) fun _ _ _ _ _ _ us hl => match us, hl with | [_, _], _ => rfl
  have g7 := PySem.W.mg_of X G a7
  have F8 := fun_mk (st := s__law_keep) l8 c8 k8
  have b8 := F8.binds (ps := ["_law_left", "_law_many"]) fun _ _ _ _ _ _ us hl => match us, hl with | [_, _], _ => rfl
  have g8 := PySem.W.mg_of X G a8
  have F9 := fun_mk (st := s__law_some_rule) l9 c9 k9
  have b9 := F9.binds (ps := ["_law_left"]) fun _ _ _ _ _ _ us hl => match us, hl with | [_], _ => rfl
  have g9 := PySem.W.mg_of X G a9
  have F10 := fun_mk (st := s__law_same) l10 c10 k10
  have b10 := F10.binds (ps := ["_law_found", "_law_due"]) fun _ _ _ _ _ _ us hl => match us, hl with | [_, _], _ => rfl
  have g10 := PySem.W.mg_of X G a10
  have F11 := fun_mk (st := s__law_made) l11 c11 k11
  have b11 := F11.binds (ps := ["_law_some"]) fun _ _ _ _ _ _ us hl => match us, hl with | [_], _ => rfl
  have g11 := PySem.W.mg_of X G a11
  have F12 := fun_mk (st := s__law_whole) l12 c12 k12
  have b12 := F12.binds (ps := ["_law_some"]) fun _ _ _ _ _ _ us hl => match us, hl with | [_], _ => rfl
  have g12 := PySem.W.mg_of X G a12
  have F13 := fun_mk (st := s__law_caught) l13 c13 k13
  have b13 := F13.binds (ps := ["_law_caught_here", "_law_word"]) fun _ _ _ _ _ _ us hl => match us, hl with | [_, _], _ => rfl
  have g13 := PySem.W.mg_of X G a13
  have F14 := fun_mk (st := s__law_refused) l14 c14 k14
  have b14 := F14.binds (ps := ["_law_some"]) fun _ _ _ _ _ _ us hl => match us, hl with | [_], _ => rfl
  have g14 := PySem.W.mg_of X G a14
  have F15 := fun_mk (st := s__law_short_right) l15 c15 k15
  have b15 := F15.binds (ps := ["_law_some"]) fun _ _ _ _ _ _ us hl => match us, hl with | [_], _ => rfl
  have g15 := PySem.W.mg_of X G a15
  have F16 := fun_mk (st := s__law_bad) l16 c16 k16
  have b16 := F16.binds (ps := ["_law_left", "_law_many", "_law_at"]) fun _ _ _ _ _ _ us hl => match us, hl with | [_, _, _], _ => rfl
  have g16 := PySem.W.mg_of X G a16
  have F17 := fun_mk (st := s_law) l17 c17 k17
  have m_isinstance := PySem.W.mg_none_of X G z_isinstance
  have m_bool := PySem.W.mg_none_of X G z_bool
  have m_int := PySem.W.mg_none_of X G z_int
  have m_tuple := PySem.W.mg_none_of X G z_tuple
  have m_all := PySem.W.mg_none_of X G z_all
  have m_len := PySem.W.mg_none_of X G z_len
  have m_abs := PySem.W.mg_none_of X G z_abs
  have m_range := PySem.W.mg_none_of X G z_range
  have m_list := PySem.W.mg_none_of X G z_list
  have m_zip := PySem.W.mg_none_of X G z_zip
  have m_str := PySem.W.mg_none_of X G z_str
  have m_ValueError := PySem.W.mg_none_of X G z_ValueError
  have m_min := PySem.W.mg_none_of X G z_min
  have m_repr := PySem.W.mg_none_of X G z_repr
  have m_super := PySem.W.mg_none_of X G z_super
  refine ⟨PySem.W.fnOf "law" "law" (defArgs s_law) (defBody s_law) (defScope s_law) .none kV17 dc17 pm17 an17 cd17 ct17, fun s v => .of_eq rfl, fun base _ _ => ?_⟩
  have OB := sup_fn (P := l.prog) (w := w) (mg := mg) (base := base) (CX := CX0) (k := 0) (fld := "word") lB cB sc_B OxB e_CB_nw hcellB hcodeB hvsB hfileB m_super htopB (by rfl) rfl rfl hopB (fun env => ⟨_, rfl⟩) (by decide) (by decide) hsiB
  have XB : CEx l.prog w K mg base CB 1 "BadRule" "word" := ⟨fB, _, OB, OxB, e_CB_ini, e_CB_tf, Binds.all (fun us hl => match us, hl with | [_, _], _ => rfl), PySem.W.mg_of X G e_CB⟩
  have C_is_number_in := ok_is_number_in (P := l.prog) (w := w) (base := base) F0 g0 b0 m_isinstance m_bool m_int
  have C_may_be_kept := ok_may_be_kept (P := l.prog) (w := w) (base := base) F1 g1 b1 m_isinstance m_tuple m_all m_len C_is_number_in
  have C_wrong_figure := ok_wrong_figure (P := l.prog) (w := w) (base := base) F2 g2 b2 m_isinstance m_bool C_is_number_in C_may_be_kept
  have O3 := ok_Rule___init__ (P := l.prog) (w := w) (base := base) (CC := (⟨CR, CW, CB, CO1, CO2, CO3, CO4, CO5, CO6, CO7⟩ : CEs)) T_Rule TE XB m_isinstance m_tuple C_wrong_figure F3
  obtain ⟨ds_M_Rule, v_M_Rule, b_M_Rule⟩ := F3.binds1 (ps := ["self", "parts", "step", "grace", "last", "misses", "keep", "fine", "falls", "back"]) 10 7 (by simp) rfl (fun T kV doc pm an cdv ct us its h1 h2 => match us, its, h1, h2 with | [_, _, _, _, _, _, _, _, _, _], [_, _, _, _, _, _, _], _, _ => ⟨_, rfl, rfl⟩)
  have M_Rule : CMkx l.prog w K mg base CR 4 "Rule" ["self", "parts", "step", "grace", "last", "misses", "keep", "fine", "falls", "back"] [] (sp_Rule___init__ K (⟨CR, CW, CB, CO1, CO2, CO3, CO4, CO5, CO6, CO7⟩ : CEs)) := ⟨_, _, ds_M_Rule, O3, ⟨mk, a3, i3, kc⟩, gC, v_M_Rule, b_M_Rule⟩
  obtain ⟨its3, kb3⟩ := F3.kbindsD (ps := ["self", "parts", "step", "grace", "last", "misses", "keep", "fine", "falls", "back"]) 4 ["back", "misses"] gKw (by simp) gKw_rel (fun T kV doc pm an cdv ct us its ws h1 h2 h3 => match us, its, ws, h1, h2, h3 with | [_, _, _, _], [_, _, _, _, _, _, _], [_, _], _, _, _ => ⟨_, rfl, rfl⟩)
  have M_Rule_3_back_misses : CMkk l.prog w K mg base CR 4 "Rule" ["self", "parts", "step", "grace", "last", "misses", "keep", "fine", "falls", "back"] 4 ["back", "misses"] gV_M_Rule_3_back_misses (sp_Rule___init__ K (⟨CR, CW, CB, CO1, CO2, CO3, CO4, CO5, CO6, CO7⟩ : CEs)) := ⟨_, _, _, O3, ⟨mk, a3, i3, kc⟩, gC, kb3⟩
  obtain ⟨ds_M_Rule_2, v_M_Rule_2, b_M_Rule_2⟩ := F3.binds1 (ps := ["self", "parts", "step", "grace", "last", "misses", "keep", "fine", "falls", "back"]) 3 0 (by simp) rfl (fun T kV doc pm an cdv ct us its h1 h2 => match us, its, h1, h2 with | [_, _, _], [_, _, _, _, _, _, _], _, _ => ⟨_, rfl, rfl⟩)
  have M_Rule_2 : CMkx l.prog w K mg base CR 4 "Rule" ["self", "parts", "step", "grace", "last", "misses", "keep", "fine", "falls", "back"] [.int 0, .bl false, .int 0, .int 0, .int 0, .int 0, .int 0] (sp_Rule___init__ K (⟨CR, CW, CB, CO1, CO2, CO3, CO4, CO5, CO6, CO7⟩ : CEs)) := ⟨_, _, ds_M_Rule_2, O3, ⟨mk, a3, i3, kc⟩, gC, v_M_Rule_2, b_M_Rule_2⟩
  have O4 := ok_Rule_figures (P := l.prog) (w := w) (base := base) T_Rule F4
  have b_C_Rule_figures_0 := F4.bindsN (ps := ["self"]) fun kV doc pm an cdv ct us h => match us, h with | [_], _ => rfl
  have C_Rule_figures_0 : CMt l.prog w K mg base CR 1 "figures" ["self"] [] (sp_Rule_figures K CR) := ⟨_, _, [], O4, ⟨a4, i4, k4⟩, .nil, b_C_Rule_figures_0⟩
  have C__law_mix := ok__law_mix (P := l.prog) (w := w) (base := base) F5 g5 b5
  have C__law_pick := ok__law_pick (P := l.prog) (w := w) (base := base) F6 g6 b6 m_len C__law_mix
  have C__law_drawn_from := ok__law_drawn_from (P := l.prog) (w := w) (base := base) F7 g7 b7 m_len m_abs m_int
  have C__law_keep := ok__law_keep (P := l.prog) (w := w) (base := base) F8 g8 b8 m_tuple m_range C__law_pick
  have C__law_some_rule := ok__law_some_rule (P := l.prog) (w := w) (base := base) F9 g9 b9 m_tuple C__law_pick C__law_keep
  have C__law_same := ok__law_same (P := l.prog) (w := w) (base := base) F10 g10 b10 m_isinstance m_tuple m_list m_all m_zip m_len m_str m_bool m_int
  have C__law_made := ok__law_made (P := l.prog) (w := w) (base := base) (CC := (⟨CR, CW, CB, CO1, CO2, CO3, CO4, CO5, CO6, CO7⟩ : CEs)) F11 g11 b11 T_Rule TE XB M_Rule
  have C__law_whole := ok__law_whole (P := l.prog) (w := w) (base := base) F12 g12 b12 m_isinstance m_tuple
  have C__law_caught := ok__law_caught (P := l.prog) (w := w) (base := base) (CC := (⟨CR, CW, CB, CO1, CO2, CO3, CO4, CO5, CO6, CO7⟩ : CEs)) F13 g13 b13 T_Rule TE XB m_isinstance m_zip m_ValueError
  have C__law_refused := ok__law_refused (P := l.prog) (w := w) (base := base) (CC := (⟨CR, CW, CB, CO1, CO2, CO3, CO4, CO5, CO6, CO7⟩ : CEs)) F14 g14 b14 T_Rule TE XB C__law_made C__law_caught
  have C__law_short_right := ok__law_short_right (P := l.prog) (w := w) (base := base) (CC := (⟨CR, CW, CB, CO1, CO2, CO3, CO4, CO5, CO6, CO7⟩ : CEs)) F15 g15 b15 T_Rule TE XB C__law_same M_Rule_3_back_misses M_Rule_2 C_Rule_figures_0
  have C__law_bad := ok__law_bad (P := l.prog) (w := w) (base := base) F16 g16 b16 m_len m_isinstance m_tuple m_range C__law_pick
  exact ok_law (CC := (⟨CR, CW, CB, CO1, CO2, CO3, CO4, CO5, CO6, CO7⟩ : CEs)) F17 T_Rule TE XB m_range m_min m_len m_list m_repr C__law_drawn_from C__law_some_rule C__law_short_right C__law_same C__law_whole C__law_made C__law_bad C__law_refused C__law_pick C_Rule_figures_0
end Pw
open PySem PySem.W PyProof.Rows
set_option maxHeartbeats 0 in
theorem PySem.Challenge.cw_partwares_k06_rules_made_and_refused_holds : PySem.Challenge.rw_partwares_k06_rules_made_and_refused.Holds := by
  w_on; o_law; k_head; (case hw => w_witness2)
  k_fill
  refine Pw.walk_ofG (l := PySem.Challenge.rw_partwares_k06_rules_made_and_refused) (n := 63) (k := 8) (x := "_law_script") (sp := fun w => Pw.sp_law _) rfl (by decide) rfl ⟨rfl, by decide, by decide⟩ (fun w h Y => PySem.W.kIn_of Y) ?F (fun _ _ a ns hl _ hS => ⟨a, ns, rfl, hS, hl, fun _ => rfl⟩)
  case F =>
    intro w mg fa h KX G hmg
    refine' Pw.all_mk KX G hmg ?aC ?pg ?hd ?po ?sa ?mk ?kc ?n1 ?n2 ?n3 ?n4 ?n5 ?n6 ?n7 ?n8 ?n9 ?e_CW ?e_CB ?e_CO1 ?e_CO2 ?e_CO3 ?e_CO4 ?e_CO5 ?e_CO6 ?e_CO7 ?e_CW_ty ?e_CW_ic ?e_CB_ty ?e_CB_ic ?e_CO1_ty ?e_CO1_ic ?e_CO2_ty ?e_CO2_ic ?e_CO3_ty ?e_CO3_ic ?e_CO4_ty ?e_CO4_ic ?e_CO5_ty ?e_CO5_ic ?e_CO6_ty ?e_CO6_ic ?e_CO7_ty ?e_CO7_ic ?e_CW_sb ?e_CW_hd ?e_CB_hg ?e_CB_hk ?e_CB_sb ?e_CB_hd ?e_CB_ha ?e_CB_hm ?e_CB_ve ?e_CB_xw ?e_CB_sa ?e_CB_kp ?e_CB_nw ?e_CB_ini ?e_CB_tf ?e_CB_s1 ?e_CB_n1 ?e_CB_s2 ?e_CB_n2 ?e_CB_s3 ?e_CB_n3 ?e_CB_s4 ?e_CB_n4 ?e_CB_s5 ?e_CB_n5 ?e_CB_s6 ?e_CB_n6 ?e_CB_s7 ?e_CB_n7 ?e_CB_nw2 ?e_hn ?e_ht ?xoB ?xrB ?lB ?cB ?hcellB ?hcodeB ?hvsB ?hfileB ?htopB ?hopB ?hsiB ?a0 ?l0 ?c0 ?k0 ?a1 ?l1 ?c1 ?k1 ?a2 ?l2 ?c2 ?k2 ?a3 ?l3 ?c3 ?k3 ?i3 ?d3 ?a4 ?l4 ?c4 ?k4 ?i4 ?a5 ?l5 ?c5 ?k5 ?a6 ?l6 ?c6 ?k6 ?a7 ?l7 ?c7 ?k7 ?a8 ?l8 ?c8 ?k8 ?a9 ?l9 ?c9 ?k9 ?a10 ?l10 ?c10 ?k10 ?a11 ?l11 ?c11 ?k11 ?a12 ?l12 ?c12 ?k12 ?a13 ?l13 ?c13 ?k13 ?a14 ?l14 ?c14 ?k14 ?a15 ?l15 ?c15 ?k15 ?a16 ?l16 ?c16 ?k16 ?a17 ?l17 ?c17 ?k17 ?z_isinstance ?z_bool ?z_int ?z_tuple ?z_all ?z_len ?z_abs ?z_range ?z_list ?z_zip ?z_str ?z_ValueError ?z_min ?z_repr ?z_super
    (case aC => k_is); (case pg => k_is); (case hd => k_is); (case po => k_is); (case sa => k_is); (case mk => k_is); (case kc => k_is); (case n1 => k_is); (case n2 => k_is); (case n3 => k_is); (case n4 => k_is); (case n5 => k_is); (case n6 => k_is); (case n7 => k_is); (case n8 => k_is); (case n9 => k_is); (case e_CW => k_is); (case e_CB => k_is); (case e_CO1 => k_is); (case e_CO2 => k_is); (case e_CO3 => k_is); (case e_CO4 => k_is); (case e_CO5 => k_is); (case e_CO6 => k_is); (case e_CO7 => k_is); (case e_CW_ty => k_is); (case e_CW_ic => k_is); (case e_CB_ty => k_is); (case e_CB_ic => k_is); (case e_CO1_ty => k_is); (case e_CO1_ic => k_is); (case e_CO2_ty => k_is); (case e_CO2_ic => k_is); (case e_CO3_ty => k_is); (case e_CO3_ic => k_is); (case e_CO4_ty => k_is); (case e_CO4_ic => k_is); (case e_CO5_ty => k_is); (case e_CO5_ic => k_is); (case e_CO6_ty => k_is); (case e_CO6_ic => k_is); (case e_CO7_ty => k_is); (case e_CO7_ic => k_is); (case e_CW_sb => k_is); (case e_CW_hd => k_is); (case e_CB_hg => k_is); (case e_CB_hk => k_is); (case e_CB_sb => k_is); (case e_CB_hd => k_is); (case e_CB_ha => k_is); (case e_CB_hm => k_is); (case e_CB_ve => k_is); (case e_CB_xw => k_is); (case e_CB_sa => k_is); (case e_CB_kp => k_is); (case e_CB_nw => k_is); (case e_CB_ini => k_is); (case e_CB_tf => k_is); (case e_CB_s1 => k_is); (case e_CB_n1 => decide); (case e_CB_s2 => k_is); (case e_CB_n2 => decide); (case e_CB_s3 => k_is); (case e_CB_n3 => decide); (case e_CB_s4 => k_is); (case e_CB_n4 => decide); (case e_CB_s5 => k_is); (case e_CB_n5 => decide); (case e_CB_s6 => k_is); (case e_CB_n6 => decide); (case e_CB_s7 => k_is); (case e_CB_n7 => decide); (case e_CB_nw2 => decide); (case e_hn => k_is); (case e_ht => k_is); (case xoB => k_is); (case xrB => decide +kernel); (case lB => k_is); (case cB => k_is); (case hcellB => k_is); (case hcodeB => k_is); (case hvsB => rfl); (case hfileB => (first | rfl | decide +kernel)); (case htopB => (first | rfl | decide +kernel)); (case hopB => k_is); (case hsiB => ks_is); (case a0 => k_is); (case l0 => k_is); (case c0 => k_is); (case k0 => k_is); (case a1 => k_is); (case l1 => k_is); (case c1 => k_is); (case k1 => k_is); (case a2 => k_is); (case l2 => k_is); (case c2 => k_is); (case k2 => k_is); (case a3 => k_is); (case l3 => k_is); (case c3 => k_is); (case k3 => k_is); (case i3 => k_is); (case d3 => k_is); (case a4 => k_is); (case l4 => k_is); (case c4 => k_is); (case k4 => k_is); (case i4 => k_is); (case a5 => k_is); (case l5 => k_is); (case c5 => k_is); (case k5 => k_is); (case a6 => k_is); (case l6 => k_is); (case c6 => k_is); (case k6 => k_is); (case a7 => k_is); (case l7 => k_is); (case c7 => k_is); (case k7 => k_is); (case a8 => k_is); (case l8 => k_is); (case c8 => k_is); (case k8 => k_is); (case a9 => k_is); (case l9 => k_is); (case c9 => k_is); (case k9 => k_is); (case a10 => k_is); (case l10 => k_is); (case c10 => k_is); (case k10 => k_is); (case a11 => k_is); (case l11 => k_is); (case c11 => k_is); (case k11 => k_is); (case a12 => k_is); (case l12 => k_is); (case c12 => k_is); (case k12 => k_is); (case a13 => k_is); (case l13 => k_is); (case c13 => k_is); (case k13 => k_is); (case a14 => k_is); (case l14 => k_is); (case c14 => k_is); (case k14 => k_is); (case a15 => k_is); (case l15 => k_is); (case c15 => k_is); (case k15 => k_is); (case a16 => k_is); (case l16 => k_is); (case c16 => k_is); (case k16 => k_is); (case a17 => k_is); (case l17 => k_is); (case c17 => k_is); (case k17 => k_is); (case z_isinstance => k_is); (case z_bool => k_is); (case z_int => k_is); (case z_tuple => k_is); (case z_all => k_is); (case z_len => k_is); (case z_abs => k_is); (case z_range => k_is); (case z_list => k_is); (case z_zip => k_is); (case z_str => k_is); (case z_ValueError => k_is); (case z_min => k_is); (case z_repr => k_is); (case z_super => k_is)
