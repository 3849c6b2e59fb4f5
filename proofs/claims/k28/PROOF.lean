import PyProof.Rows.All
import Wide.All
import OpenK.AllK
import Wide.FinOn
import HandS.Base
import HandS.Call
import HandS.List
import HandS.Comp
import HandS.Ends
import HandS.Iter
import HandS.Text
import HandS.Words
import HandS.WordsList
import HandS.IsInst
import HandS.Style
import HandS.Walk
import HandS.Defaults
import HandS.TupMul
import HandS.Zip
import HandS.More
import HandS.TupAny
import HandS.Set
import HandS.Strs
import HandS.SetBool
import HandS.SetFor
import HandS.SortInts
import PyProof.Rows.SortShellAny
import HandS.MakeKw
import PySem.Challenge.RW_partwares_k28_what_prices_are
set_option Elab.async false
set_option linter.all false
set_option maxRecDepth 100000
namespace Pw
open PySem PySem.Spec PyProof.Rows L2
/-! ### a def of the text by its promise, its address left aside -/
structure CF (P : Program) (w : World) (K : PySem.W.Frag) (mg : Str → Option Value) (base : Heap) (k : Nat) (x : Str) (ps : List Str) (sp : Sp) : Prop where
  ex : ∃ (f : Addr) (fd : FuncData), FnOk P w K mg base CX0 k f fd ps sp ∧ mg x = some (.ref f) ∧ PySem.W.keepIn K (.ref f) = true ∧ Binds K fd ps []
theorem pe_cf {X : Cx} {k : Nat} {x : Str} {ps : List Str} {sp : Sp} {e : Expr} {es : List Expr} {t : TA} {p pos : Pos} (C : CF X.prog X.w X.K X.mg X.base k x ps sp) (hr : Room k X.A) (hg : Gl X x) (ha : PA X (e :: es) t)
    (hdb : (x == ("__debug__" : Str)) = false := by decide) (he : starEach (e :: es) X.env = (false, eval e X.env) :: starEach es X.env := by rfl) (hpl : (backTo pos (starEach es X.env)).any (·.1) = false := by rfl) :
    PE X (.Call (.Name x p) (e :: es) [] pos) (tCall sp [] E0 t) := by
  obtain ⟨f, fd, F, g, kp, b⟩ := C.ex
  exact pe_call F hr hg g kp b .nil pass0 ha hdb he hpl
theorem pe_cf0 {X : Cx} {k : Nat} {x : Str} {sp : Sp} {p pos : Pos} (C : CF X.prog X.w X.K X.mg X.base k x [] sp) (hr : Room k X.A) (hg : Gl X x) (hdb : (x == ("__debug__" : Str)) = false := by decide) : PE X (.Call (.Name x p) [] [] pos) (tCall sp [] E0 tNil) := by
  obtain ⟨f, fd, F, g, kp, b⟩ := C.ex
  exact pe_call0 F hr hg g kp b .nil pass0 hdb
/-! ### the rules with their written part named (within a comprehension it must not hang on the block) -/
section
variable (K : PySem.W.Frag) {X : Cx}
theorem kk_isi (h : X.K = K := by rfl) : CallR X (.builtin "isinstance") (rIsi K) := h ▸ call_isi
theorem kk_isiT (h : X.K = K := by rfl) : CallR X (.builtin "isinstance") (rIsiT K) := h ▸ call_isiT
theorem kk_len (h : X.K = K := by rfl) : CallR X (.builtin "len") (fun xs H Q => ∃ p ys, xs = [.ref p] ∧ (SqL K H p ys ∨ SqT K H p ys) ∧ Q (.int ys.length) H) := h ▸ call_len_seq
theorem kk_list (h : X.K = K := by rfl) : CallR X (.type "list") (fun xs H Q => ∃ p ys, xs = [.ref p] ∧ (SqL K H p ys ∨ SqT K H p ys) ∧ ∀ l, H l = none → Q (.ref l) (upd H l (.lst ys))) := h ▸ call_list_of
theorem kk_tuple (h : X.K = K := by rfl) : CallR X (.type "tuple") (fun xs H Q => ∃ p ys, xs = [.ref p] ∧ ((SqL K H p ys ∧ ∀ l, H l = none → Q (.ref l) (upd H l (.tup ys))) ∨ (SqT K H p ys ∧ Q (.ref p) H))) := h ▸ call_tuple_of
theorem kk_sum (hc : X.calm = true) (h : X.K = K := by rfl) : CallR X (.builtin "sum") (rSum K) := h ▸ cr_sum hc
theorem kk_max (hc : X.calm = true) (h : X.K = K := by rfl) : CallR X (.builtin "max") (rMax K) := h ▸ cr_max hc
theorem kk_min (hc : X.calm = true) (h : X.K = K := by rfl) : CallR X (.builtin "min") (rMin K) := h ▸ cr_min hc
theorem kk_any (hc : X.calm = true) (h : X.K = K := by rfl) : CallR X (.builtin "any") (rAny K) := h ▸ cr_any hc
theorem kk_all (hc : X.calm = true) (h : X.K = K := by rfl) : CallR X (.builtin "all") (rAll K) := h ▸ cr_all hc
theorem kk_sorted (h : X.K = K := by rfl) : CallR X (.builtin "sorted") (rSorted K) := h ▸ cr_sorted
theorem kk_ixl (h : X.K = K := by rfl) : IxR X (rIxL K) := h ▸ ix_list
theorem kk_ixt (h : X.K = K := by rfl) : IxR X (rIxT K) := h ▸ ix_tup
theorem kk_sll (h : X.K = K := by rfl) : SlR X (rSlL K) := h ▸ sl_list
theorem kk_slt (h : X.K = K := by rfl) : SlR X (rSlT K) := h ▸ sl_tup
theorem kk_in (h : X.K = K := by rfl) : OpR X (compareOp .In) (rIn K false) := h ▸ op_in_seq
theorem kk_nin (h : X.K = K := by rfl) : OpR X (compareOp .NotIn) (rIn K true) := h ▸ op_notIn_seq
theorem kk_catT (h : X.K = K := by rfl) : OpR X (binaryOp .Add) (rCatT K) := h ▸ op_catT
theorem kk_eqD (hu : X.A.units + 64 < cLine) (h : X.K = K := by rfl) : OpR X (compareOp .Eq) (rEqD K) := h ▸ op_eqD hu
theorem kk_neD (hu : X.A.units + 64 < cLine) (h : X.K = K := by rfl) : OpR X (compareOp .NotEq) (rNeD K) := h ▸ op_neD hu
theorem kk_revL {e : Expr} {te : TE} {k : Nat} {p1 p2 p3 pos : Pos} (he : PE X e te) (h : X.K = K := by rfl) : PE X (.Subscript e (.Slice none none (some (.UnaryOp .USub (.Constant (.int 1) k p1) p2)) p3) pos) (tRevL K te) := h ▸ pe_revL he
end
/-! ### heaps: all as it was, but one place -/
def But (b : Addr) (H H' : Hp) : Prop := ∀ c o, c ≠ b → H c = some o → H' c = some o
theorem But.refl (b : Addr) (H : Hp) : But b H H := fun _ _ _ h => h
theorem But.trans {b : Addr} {H H1 H2 : Hp} (x : But b H H1) (y : But b H1 H2) : But b H H2 := fun c o n h => y c o n (x c o n h)
theorem But.of {b : Addr} {H H1 : Hp} (x : Same H H1) : But b H H1 := fun c o _ h => x c o h
theorem But.upd {b : Addr} {H : Hp} {o : HO} : But b H (L2.upd H b o) := fun c u n h => by
  rw [upd_ne n]
  exact h
theorem But.new {b p : Addr} {H : Hp} {o : HO} (h : H p = none) : But b H (L2.upd H p o) := fun c u _ e => by
  rw [upd_ne (ne_of_none e h)]
  exact e
theorem same_new {H : Hp} {p : Addr} {o : HO} (h : H p = none) : Same H (upd H p o) := fun b x e => by
  rw [upd_ne (ne_of_none e h)]
  exact e
theorem But.seq {K : PySem.W.Frag} {b a : Addr} {H H' : Hp} {xs : List V} (e : But b H H') (n : a ≠ b) (h : SqL K H a xs) : SqL K H' a xs := by
  rcases h with (h | ⟨o, h⟩) | h
  · exact .inl (.inl (e _ _ n h))
  · exact .inl (.inr ⟨o, e _ _ n h⟩)
  · exact .inr h
/-! ### the law's box of three numbers -/
def Box (H : Hp) (b : Addr) (n : Int) : Prop := ∃ x y z : Int, H b = some (.lst [.int x, .int y, .int z]) ∧ 0 ≤ x ∧ 0 ≤ y ∧ y ≤ 3000000000 ∧ 0 ≤ z ∧ z ≤ n
theorem Box.mono {H : Hp} {b : Addr} {n m : Int} (h : Box H b n) (l : n ≤ m) : Box H b m := by
  obtain ⟨x, y, z, h0, h1, h2, h3, h4, h5⟩ := h
  exact ⟨x, y, z, h0, h1, h2, h3, h4, by omega⟩
theorem Box.same {H H' : Hp} {b : Addr} {n : Int} (e : Same H H') (h : Box H b n) : Box H' b n := by
  obtain ⟨x, y, z, h0, h1⟩ := h
  exact ⟨x, y, z, e _ _ h0, h1⟩
theorem Box.new {H : Hp} {b p : Addr} {o : HO} {n : Int} (h : Box H b n) (e : H p = none) : Box (upd H p o) b n := h.same (same_new e)
theorem Box.ne {H : Hp} {b p : Addr} {n : Int} (h : Box H b n) (e : H p = none) : p ≠ b := fun z => by
  obtain ⟨_, _, _, h0, _⟩ := h
  rw [z, h0] at e
  cases e
section
variable {K : PySem.W.Frag}
theorem at_int {ns : List Int} {k : Int} (h0 : 0 ≤ k) (h1 : k < ns.length) : ∃ c, atI (ns.map V.int) k = some (.int c) := by
  obtain ⟨j, rfl⟩ := Int.eq_ofNat_of_zero_le h0
  have hj : j < ns.length := by omega
  refine ⟨ns[j], atI_nat ?_⟩
  rw [List.getElem?_map, List.getElem?_eq_getElem hj]
  rfl
def partsL (p m : Int) : List Int := List.replicate (p % m).toNat (p / m + 1) ++ List.replicate (m - p % m).toNat (p / m)
theorem rep1 {α : Type} (k : Nat) (x : α) : (List.replicate k [x]).flatten = List.replicate k x := by
  induction k with
  | zero => rfl
  | succ n ih => rw [List.replicate_succ, List.flatten_cons, ih]; rfl
theorem size_small {n : Nat} (h : n ≤ 1000) : n ≤ sizeLine := Nat.le_of_lt (small1000 h)
theorem iteN {c A B : Prop} [Decidable c] (hc : ¬ c) (h : B) : if decide c = true then A else B := by
  rw [decide_eq_false hc]
  exact iteF h
theorem iteY {c A B : Prop} [Decidable c] (hc : c) (h : A) : if decide c = true then A else B := by
  rw [decide_eq_true hc]
  exact iteT h
theorem same_but {b : Addr} {H0 H1 H2 : Hp} (s : Same H0 H1) (n : H0 b = none) (t : But b H1 H2) : Same H0 H2 := fun c o h => t c o (fun e => by rw [e, n] at h; cases h) (s c o h)
theorem dpAll_ints {H : Hp} : ∀ ns : List Int, DpAll K H (ns.map V.int) (ns.map PyData.int)
  | [] => .nil
  | n :: r => .cons (.int n) (dpAll_ints r)
theorem dp_ints {H : Hp} {a : Addr} {ns : List Int} (h : SqL K H a (ns.map V.int)) : Dp K H (.ref a) (.list (ns.map PyData.int)) := .lst h (dpAll_ints ns)
theorem lay_ints : ∀ ns : List Int, PyData.canLayAll0 (ns.map PyData.int) = true
  | [] => by simp [PyData.canLayAll0]
  | n :: r => by simp [PyData.canLayAll0, PyData.canLay0, lay_ints r]
theorem depth_ints : ∀ ns : List Int, PyData.depthAll (ns.map PyData.int) ≤ 1
  | [] => by simp [PyData.depthAll]
  | n :: r => by
    have h := depth_ints r
    simp only [List.map_cons, PyData.depthAll, PyData.depth]
    omega
theorem sh_ints (ns : List Int) : SeqAt.shaped (.list (ns.map PyData.int)) = true := by
  have h1 := depth_ints ns
  have h2 : PyData.depth (.list (ns.map PyData.int)) ≤ 64 := by
    simp only [PyData.depth]
    omega
  show (PyData.canLay0 (.list (ns.map PyData.int)) && decide (PyData.depth (.list (ns.map PyData.int)) ≤ 64)) = true
  rw [Bool.and_eq_true]
  exact ⟨by simp only [PyData.canLay0]; exact lay_ints ns, decide_eq_true h2⟩
theorem eqv_same (ns : List Int) : PyData.eqv (.list (ns.map PyData.int)) (.list (ns.map PyData.int)) = true := SeqAt.eqv_refl _ (SeqAt.canLay_of_shaped (sh_ints ns))

theorem sum_rep (k : Nat) (x : Int) : (List.replicate k x).sum = k * x := by
  induction k with
  | zero => simp
  | succ n ih =>
    rw [List.replicate_succ, List.sum_cons, ih, Int.natCast_add, Int.add_mul]
    omega
theorem parts_len {p m : Int} (hm : 1 ≤ m) : ((partsL p m).length : Int) = m := by
  have hr0 := Int.emod_nonneg p (show m ≠ 0 by omega)
  have hr1 := Int.emod_lt_of_pos p (show 0 < m by omega)
  unfold partsL
  rw [List.length_append, List.length_replicate, List.length_replicate]
  omega
theorem parts_sum {p m : Int} (hm : 1 ≤ m) : (partsL p m).sum = p := by
  have hr0 := Int.emod_nonneg p (show m ≠ 0 by omega)
  have hr1 := Int.emod_lt_of_pos p (show 0 < m by omega)
  have e := Int.mul_ediv_add_emod p m
  unfold partsL
  rw [List.sum_append, sum_rep, sum_rep, Int.toNat_of_nonneg hr0, Int.toNat_of_nonneg (by omega), Int.sub_mul, Int.mul_add]
  omega
theorem parts_mem {p m x : Int} (h : x ∈ partsL p m) : x = p / m + 1 ∨ x = p / m := by
  unfold partsL at h
  rcases List.mem_append.mp h with h | h
  · exact .inl (List.eq_of_mem_replicate h)
  · exact .inr (List.eq_of_mem_replicate h)
theorem parts_fall (p m : Int) : (partsL p m).Pairwise (fun a b => b ≤ a) := by
  unfold partsL
  refine List.pairwise_append.mpr ⟨List.pairwise_replicate.mpr (.inr (Int.le_refl _)), List.pairwise_replicate.mpr (.inr (Int.le_refl _)), fun a ha b hb => ?_⟩
  rw [List.eq_of_mem_replicate ha, List.eq_of_mem_replicate hb]
  omega
theorem parts_sorted {p m : Int} {ns : List Int} (h : ns.Perm (partsL p m)) (hs : ns.Pairwise (· ≤ ·)) : ns.reverse = partsL p m := by
  refine List.Perm.eq_of_pairwise (le := fun a b => b ≤ a) (fun x y _ _ h1 h2 => Int.le_antisymm h2 h1) ?_ (parts_fall p m) ((List.reverse_perm ns).trans h)
  exact List.pairwise_reverse.mpr hs
theorem ends_of {ns : List Int} (h : 0 < ns.length) : ∃ x y, x ∈ ns ∧ y ∈ ns ∧ atI (ns.map V.int) 0 = some (.int x) ∧ atI (ns.map V.int) (-1) = some (.int y) := by
  cases ns with
  | nil => cases h
  | cons x r =>
    refine ⟨x, (x :: r).getLast (List.cons_ne_nil _ _), List.mem_cons_self, List.getLast_mem _, atI_nat (j := 0) rfl, ?_⟩
    have hz : ((x :: r).map V.int) = ((x :: r).dropLast.map V.int) ++ [.int ((x :: r).getLast (List.cons_ne_nil _ _))] := by
      rw [← List.map_singleton, ← List.map_append, List.dropLast_concat_getLast]
    rw [hz]
    exact atI_last _ _
theorem all_true (n : Nat) : (List.replicate n true).all id = true := by
  induction n with
  | zero => rfl
  | succ k ih => rw [List.replicate_succ, List.all_cons, ih]; rfl
theorem pick6 {r x : Int} (h0 : 0 ≤ r) (h1 : r < 6) (x0 : 0 ≤ x) (x1 : x ≤ 100) : ∃ c : Int, atI [V.int 0, .int 1, .int 50, .int 99, .int 100, .int x] r = some (.int c) ∧ 0 ≤ c ∧ c ≤ 100 := by
  have h : r = 0 ∨ r = 1 ∨ r = 2 ∨ r = 3 ∨ r = 4 ∨ r = 5 := by omega
  rcases h with rfl | rfl | rfl | rfl | rfl | rfl
  · exact ⟨0, rfl, by decide, by decide⟩
  · exact ⟨1, rfl, by decide, by decide⟩
  · exact ⟨50, rfl, by decide, by decide⟩
  · exact ⟨99, rfl, by decide, by decide⟩
  · exact ⟨100, rfl, by decide, by decide⟩
  · exact ⟨x, rfl, x0, x1⟩
end
end Pw
namespace Pw
open PySem PySem.Spec PyProof.Rows L2
/-! ### defs that are called where no repr is under way (so that the repr of a list, of a tuple, is its text) -/
structure FnG (P : Program) (w : World) (K : PySem.W.Frag) (mg : Str → Option Value) (base : Heap) (k : Nat) (f : Addr) (fd : FuncData) (ps : List Str) (sp : Sp) : Prop where
  many : ∀ vs H Q E, sp vs H Q E → vs.length = ps.length
  runs : ∀ (A : Around) (out : List Env) (s : Shared) (H : Hp) (ar : Args) (us : List Value) (vs : List V) (Q : VK) (E : XK), Room k A → A.guards = some [] → Env0 P w K mg base A out s H →
    BindsTo s fd ar (ps.zip us) → Vals vs us → sp vs H Q E → codeAny (model P w) A (.call (.ref f) ar) (CR CX0 out P w H s Q E) s
theorem FnG.of {P : Program} {w : World} {K : PySem.W.Frag} {mg : Str → Option Value} {base : Heap} {k : Nat} {f : Addr} {fd : FuncData} {ps : List Str} {sp : Sp} (F : FnOk P w K mg base CX0 k f fd ps sp) : FnG P w K mg base k f fd ps sp :=
  ⟨F.len, fun A out s H ar us vs Q E hr _ => F.run A out s H ar us vs Q E hr⟩
theorem guards_deeper {A : Around} {env : Env} (h : A.guards = some []) : (A.deeper env).guards = some [] := h
theorem okG {P : Program} {w : World} {K : PySem.W.Frag} {mg : Str → Option Value} {base : Heap} {x qual : Str} {st : Stmt} {f : Addr} {fd : FuncData} {N ps : List Str} {k : Nat} {sp : Sp} (F : Fun K x qual st f fd) (S : FnScope N ps (defScope st))
    (many : ∀ vs H Q E, sp vs H Q E → vs.length = ps.length)
    (walk : ∀ (cdv : Value) (A : Around) (out : List Env) (s : Shared) (H : Hp) (vs : List V) (Q : VK) (E : XK), Room k (A.deeper (envOfC qual (defScope st) s.heap.objs.size f cdv)) → (A.deeper (envOfC qual (defScope st) s.heap.objs.size f cdv)).guards = some [] → sp vs H Q E →
      ∃ t, PSs (cxOf CX0 P w K mg base N qual (defScope st) f cdv A out s H E).nox (defBody st) t ∧ t { nx := fun _ H' => Q .non H', rt := Q } (start N vs) H) : FnG P w K mg base (k + 1) f fd ps sp := by
  obtain ⟨oc, od, kV, dc, pm, an, cv, ct, ol, rfl, look, code⟩ := F.ex
  constructor
  · exact many
  · intro A out s H ar us vs Q E room gd env0 binds rel want
    have inK : K.In s.heap := env0.mod.kin.keeps (fun b o e => And.left (env0.bs b o e))
    have noLim : s.heap.NoLimit := env0.mod.nolimit.keeps (fun b o e => And.left (env0.bs b o e))
    apply codeAny_call_function room.depth (inK _ _ look) rfl S.co S.gen rfl (PySem.W.codeRec_of inK code)
    apply binds
    apply wpAny_newFunctionEnv_cells S.kind
    · rintro ⟨n, v⟩ hy
      cases S.par n (List.of_mem_zip hy).1 with
      | inl q => exact Or.inl q
      | inr q => exact Or.inr ⟨q, PySem.W.cellsFrom_some _ _ _ (Or.inl q)⟩
    · intro env he s1 inCall
      cases he
      refine And.intro (noLim.keeps inCall.toInCall.keep) (codeAny_func ?_)
      obtain ⟨t, term, reading⟩ := walk cv A out s H vs Q E (room.deeper _) (guards_deeper gd) want
      have start : Inv (cxOf CX0 P w K mg base N qual (defScope st) f cv A out s H E) [] (L2.start N vs) H s1 := inv_start S room.hd env0 (many _ _ _ _ want) rel inCall
      apply wpAny_mono (term.nox.run [] s1 (L2.start N vs) H _ start reading)
      · intro fl s' told
        cases fl with
        | ret u =>
          obtain ⟨v, σ', H', J, rv, q⟩ := told
          exact ⟨v, H', J.os, J.bare, J.base, J.hok, rv, q⟩
        | next =>
          obtain ⟨σ', H', J, q⟩ := told
          exact ⟨V.non, H', J.os, J.bare, J.base, J.hok, rfl, q⟩
        | brk => exact (And.right (Exists.choose_spec (Exists.choose_spec told))).elim
        | cont => exact (And.right (Exists.choose_spec (Exists.choose_spec told))).elim
      · intro e s' told
        exact told
structure CG (P : Program) (w : World) (K : PySem.W.Frag) (mg : Str → Option Value) (base : Heap) (k : Nat) (x : Str) (ps : List Str) (sp : Sp) : Prop where
  ex : ∃ (f : Addr) (fd : FuncData), FnG P w K mg base k f fd ps sp ∧ mg x = some (.ref f) ∧ PySem.W.keepIn K (.ref f) = true ∧ Binds K fd ps []
theorem CF.g {P : Program} {w : World} {K : PySem.W.Frag} {mg : Str → Option Value} {base : Heap} {k : Nat} {x : Str} {ps : List Str} {sp : Sp} (C : CF P w K mg base k x ps sp) : CG P w K mg base k x ps sp := by
  obtain ⟨f, fd, F, r⟩ := C.ex
  exact ⟨f, fd, FnG.of F, r⟩
theorem pe_cg {X : Cx} {k : Nat} {x : Str} {ps : List Str} {sp : Sp} {e : Expr} {es : List Expr} {t : TA} {p pos : Pos} (C : CG X.prog X.w X.K X.mg X.base k x ps sp) (hr : Room k X.A) (gd : X.A.guards = some []) (hg : Gl X x) (ha : PA X (e :: es) t)
    (hdb : (x == ("__debug__" : Str)) = false := by decide) (he : starEach (e :: es) X.env = (false, eval e X.env) :: starEach es X.env := by rfl) (hpl : (backTo pos (starEach es X.env)).any (·.1) = false := by rfl) :
    PE X (.Call (.Name x p) (e :: es) [] pos) (tCall sp [] E0 t) := by
  obtain ⟨f, fd, F, g, kp, b⟩ := C.ex
  constructor
  intro pins s σ H Q I h
  apply wpAny_Call_Name_kw (ld_glob I hg g ?_ hdb)
  apply PySem.W.callWith_K (h₀ := X.base) I.ok.mod.kin kp (thn (ha.run pos pins s σ H _ I h) ?_) he hpl
  rintro us s1 ⟨vs, H1, I1, r, q⟩
  refine ⟨I1.kIn, wpAny_call (codeAny_mono (F.runs X.A X.stack s1 H1 ⟨us, []⟩ (us ++ []) (vs ++ []) Q E0 hr gd I1.env0 (b s1 us I1.kIn ?_) (r.append .nil) q) ?_)⟩
  · have hl := F.many _ _ _ _ q
    rw [(r.append .nil).length] at hl
    exact hl
  · intro res s' told
    cases res with
    | error e => exact told.elim
    | ok fl =>
      cases fl with
      | ret u => exact I1.after told
      | next => exact told.elim
      | brk => exact told.elim
      | cont => exact told.elim
/-! ### repr of data -/
def rRepr (K : PySem.W.Frag) : List V → Hp → VK → Prop := fun xs H Q => ∃ (x : V) (d : PyData), xs = [x] ∧ Dp K H x d ∧ d.showable = true ∧ d.shown.length ≤ sizeLine ∧ d.depth ≤ 60 ∧ d.hasDict = false ∧ Q (.str d.shown) H
theorem kk_repr (K : PySem.W.Frag) {X : Cx} (gd : X.A.guards = some []) (hu : X.A.units + 64 < cLine) (h : X.K = K := by rfl) : CallR X (.builtin "repr") (rRepr K) := by
  subst h
  intro pins s σ H xs us Q I r want
  obtain ⟨x, d, rfl, hd, hs, hz, hp, hn, q⟩ := want
  obtain ⟨u, rfl, ru⟩ := vals1 r
  cases hd with
  | non =>
    cases (show u = Value.none from ru)
    simp only [PyData.shown] at q
    exact PySem.P.repr_of_none ⟨.str _, H, I.tok _, ⟨_, rfl⟩, q⟩
  | bl b =>
    cases (show u = Value.bool b from ru)
    simp only [PyData.shown] at q
    exact PySem.P.repr_of_bool ⟨.str _, H, I.tok _, ⟨_, rfl⟩, q⟩
  | int i =>
    obtain ⟨t, e⟩ := (show ∃ t, u = Value.int i t from ru)
    cases e
    simp only [PyData.shown] at q
    exact PySem.P.repr_of_int (by simpa [PyData.showable] using hs) ⟨.str _, H, I.tok _, ⟨_, rfl⟩, q⟩
  | str y =>
    obtain ⟨t, e⟩ := (show ∃ t, u = Value.str y t from ru)
    cases e
    simp only [PyData.shown] at q hz
    exact PySem.P.repr_of_str ⟨.str _, H, I.tok _, ⟨_, rfl⟩, q⟩ hz
  | lst a b =>
    obtain ⟨as, rd⟩ := Dp.reads I _ _ u (.lst a b) ru
    cases ru
    exact repr_of_reads' rd hs (fun z => by rw [hn] at z; cases z) gd (by omega) (fun _ _ e => e) (fun h' t tk keep => ⟨.str _, H, I.kept keep, ⟨_, rfl⟩, q⟩) hz
  | tup a b =>
    obtain ⟨as, rd⟩ := Dp.reads I _ _ u (.tup a b) ru
    cases ru
    exact repr_of_reads' rd hs (fun z => by rw [hn] at z; cases z) gd (by omega) (fun _ _ e => e) (fun h' t tk keep => ⟨.str _, H, I.kept keep, ⟨_, rfl⟩, q⟩) hz
/-! ### the law's call, for such a def -/
theorem law_callG {P : Program} {w : World} {K : PySem.W.Frag} {mg mb : Str → Option Value} {k : Nat} {fa a : Addr} {fd : FuncData} {x : Str} {sp : Sp} {s₁ : Shared} {vs : List Value} {ns : List Int}
    (inK : K.In s₁.heap) (nsM : s₁.heap.Ns mainGlobals mg) (nsB : s₁.heap.Ns builtinsNs mb) (boot : ∀ y : Str, y ≠ "__name__" → mb y = bootBuiltins y) (lim : s₁.heap.NoLimit) (gens : s₁.gens = #[])
    (at_a : s₁.heap.get? a = some { cls := .type "list", data := .seq vs.toArray }) (areI : IntsAre vs ns) (fits : ns.length ≤ sizeLine) (room : Room k callerA)
    (F : ∀ base : Heap, K.In base → base.Ns mainGlobals mg → FnG P w K mg base k fa fd [x] sp) (bind : ∀ (s : Shared) (u : Value), BindsTo s fd ⟨[u], []⟩ [(x, u)])
    (want : ∀ H : Hp, Only H → SqL K H a (ns.map V.int) → sp [.ref a] H (fun v _ => v = .bl true) fun _ _ _ => False) :
    codeAny (model P w) callerA (.call (.ref fa) ⟨[.ref a], []⟩) (fun r s' => r = .ok (.ret (.bool true)) ∧ OldK s₁.heap s'.heap ∧ s'.os = s₁.os ∧ AllBare s'.gens) s₁ := by
  have many := areI.length
  have goes : ∀ H : Hp, Only H → SqL K H a (ns.map V.int) → HOk P w H s₁.heap → (∀ b, H b ≠ none → b = a) → (H a ≠ none → K.lookup a = none) →
      codeAny (model P w) callerA (.call (.ref fa) ⟨[.ref a], []⟩) (fun r s' => r = .ok (.ret (.bool true)) ∧ OldK s₁.heap s'.heap ∧ s'.os = s₁.os ∧ AllBare s'.gens) s₁ := by
    intro H only isL ok one notK
    have free : ∀ {b : Addr}, b ≠ a → H b = none := by
      intro b nb
      cases hb : H b with
      | none => rfl
      | some u => exact absurd (one b (by rw [hb]; simp)) nb
    have dictFree : ∀ {b : Addr} {o : Obj} {es : Array DictEntry} {ep : Nat}, s₁.heap.get? b = some o → o.data = .dict es ep → H b = none := by
      intro b o es ep e dd
      refine free (fun z => ?_)
      rw [z, at_a] at e
      cases e
      cases (show Data.seq vs.toArray _ = Data.dict es ep from dd)
    have nsH : ∀ {b : Addr} {m : Str → Option Value}, s₁.heap.Ns b m → (hidT s₁.heap H).Ns b m := by
      rintro b m ⟨o, es, ep, e, dd, rr⟩
      exact ⟨o, es, ep, hidT_get e (dictFree e dd), dd, rr⟩
    have inH : K.In (hidT s₁.heap H) := by
      intro b o e
      refine hidT_get (inK b o e) ?_
      cases hb : H b with
      | none => rfl
      | some u =>
        have ba := one b (by rw [hb]; simp)
        rw [ba] at hb e
        rw [notK (by rw [hb]; simp)] at e
        cases e
    have modH : Mod K mg (hidT s₁.heap H) := by
      obtain ⟨mc, l1, l2⟩ := lim
      exact ⟨inH, nsH nsM, ⟨mb, nsH nsB, boot⟩, ⟨mc, nsH l1, l2⟩⟩
    have env : Env0 P w K mg (hidT s₁.heap H) callerA [] s₁ H := by
      refine ⟨rfl, modH, fun b o e => of_hidT e, Nat.le_of_eq (hidT_size _ _), trivial, ?_, ok, .of_eq gens⟩
      intro b hb
      cases hb
    apply codeAny_mono ((F _ inH (nsH nsM)).runs callerA [] s₁ H ⟨[.ref a], []⟩ [.ref a] [.ref a] _ _ room rfl env (bind s₁ (.ref a)) (.cons rfl .nil) (want H only isL))
    intro res s' told
    cases res with
    | error e => exact told.elim
    | ok fl =>
      cases fl with
      | next => exact told.elim
      | brk => exact told.elim
      | cont => exact told.elim
      | ret u =>
        obtain ⟨v, H', os, bare, un, ok', rel, qv⟩ := told
        cases (show v = .bl true from qv)
        cases (show u = Value.bool true from rel)
        refine ⟨rfl, OldK.of_keep (fun b o e => ?_), os, bare⟩
        cases hb : H b with
        | none => exact un.keep b o e hb (fun z => by cases z) (fun z => by cases z)
        | some u2 =>
          rcases only b with z | ⟨ob, xs, z⟩
          · rw [hb] at z
            cases z
          · have e1 := And.left (ok b _ z)
            have e2 := And.left (ok' b _ (un.frzs b ob _ z))
            rw [e] at e1
            cases e1
            exact e2
  cases hk : K.lookup a with
  | some o =>
    have e := inK a o hk
    rw [at_a] at e
    cases e
    apply goes (fun _ => none)
    · exact fun _ => Or.inl rfl
    · exact Or.inr ⟨_, vs.toArray, _, hk, rfl, rfl, rfl, by rw [List.size_toArray, many]; exact fits, by simpa using vals_ints areI⟩
    · intro b u z
      cases (show (none : Option HO) = some u from z)
    · exact fun b z => absurd rfl z
    · exact fun z => absurd rfl z
  | none =>
    apply goes (fun b => if b = a then some (.frz { cls := .type "list", data := .seq vs.toArray } (.lst (ns.map V.int))) else none)
    · intro b
      by_cases hb : b = a
      · exact Or.inr ⟨_, _, if_pos hb⟩
      · exact Or.inl (if_neg hb)
    · exact Or.inl (Or.inr ⟨{ cls := .type "list", data := .seq vs.toArray }, if_pos rfl⟩)
    · intro b u z
      by_cases hb : b = a
      · have z' := (if_pos hb).symm.trans z
        cases z'
        rw [hb]
        exact ⟨at_a, by rw [List.length_map]; exact fits, vs, _, vals_ints areI, at_a⟩
      · cases (if_neg hb).symm.trans z
    · intro b z
      by_cases hb : b = a
      · exact hb
      · exact absurd (if_neg hb) z
    · exact fun _ => hk
theorem walk_ofG {l : PySem.W.OpenLaw} {n k : Nat} {q : Program} {loose : List Str} {XP : (Str → Option Value) → Heap → Prop} {YP : World → Heap → Prop} {d : DefRec} {K : Params → PySem.W.Frag} {sp : World → Sp} {x : Str}
    (hn : l.most = some n) (hn2 : n ≤ sizeLine) (hdf : d.params.defaults = []) (hr : Room k callerA) (hY : ∀ (w : World) (h : Heap), YP w h → (K w.params).In h)
    (F : ∀ (w : World) (mg : Str → Option Value) (fa : Addr) (h : Heap), (K w.params).In h → h.Ns mainGlobals mg → mg d.name = some (.ref fa) →
      ∃ fd : FuncData, (∀ (s : Shared) (u : Value), BindsTo s fd ⟨[u], []⟩ [(x, u)]) ∧ ∀ base : Heap, (K w.params).In base → base.Ns mainGlobals mg → FnG l.prog w (K w.params) mg base k fa fd [x] (sp w))
    (hsp : ∀ (w : World) (H : Hp) (a : Addr) (ns : List Int), ns.length ≤ n → Only H → SqL (K w.params) H a (ns.map V.int) → sp w [.ref a] H (fun v _ => v = .bl true) fun _ _ _ => False) :
    PySem.W.WalkO q loose XP YP l.row.toRowW d [] (fun f vs => PySem.call f vs) := by
  apply Att.attach_call hn hdf
  intro w s₀ s₁ mg mb fa o pm cd doc a vs ns G Y ho hd hcd hmg hobj hints hlen hg
  obtain ⟨fd, hb, hF⟩ := F w mg fa _ (hY w _ Y) G.T.g hmg
  exact law_callG (hY w _ Y) G.T.g G.T.b G.T.builtins G.T.nolimit hg hobj hints (Nat.le_trans hlen hn2) hr hF hb (fun H hO hS => hsp w H a ns hlen hO hS)
/-! ### texts and data -/
theorem op_mul_str {X : Cx} : OpR X (binaryOp .Mult) (fun x y H Q => ∃ (z : Str) (k : Int), x = .str z ∧ y = .int k ∧ MulOk z k ∧ Q (.str (Txt.mul z k)) H) := by
  intro pins s σ H x y v u Q I rx ry h
  obtain ⟨z, k, rfl, rfl, ok, q⟩ := h
  obtain ⟨t, rfl⟩ := rx
  obtain ⟨t', rfl⟩ := ry
  exact SB.mul ok fun t' tk => ⟨.str _, H, I.tok _, ⟨_, rfl⟩, q⟩
theorem len_app (x y : Str) : (x ++ y).length = x.length + y.length := by
  rw [TL.len_tl, TL.tl_append, List.length_append, ← TL.len_tl, ← TL.len_tl]
def tyD : PyData → String
  | .none => "NoneType"
  | .bool _ => "bool"
  | .int _ => "int"
  | .str _ => "str"
  | .list _ => "list"
  | .tuple _ => "tuple"
  | .dict _ => "dict"
theorem ty_of_dp {K : PySem.W.Frag} {H : Hp} {x : V} {d : PyData} (h : Dp K H x d) : TyX K H x (.type (tyD d)) := by
  cases h with
  | non => exact .base .non
  | bl b => exact .base (.bl b)
  | int i => exact .base (.int i)
  | str z => exact .base (.str z)
  | lst a _ =>
    rcases a with (a | ⟨o, a⟩) | ⟨o, its, n, a, c, _⟩
    · exact .base (.lst a)
    · exact .base (.frz a)
    · exact .kList a c
  | tup a _ =>
    rcases a with (a | ⟨o, a⟩) | ⟨o, its, n, a, c, _⟩
    · exact .base (.tup a)
    · exact .fTuple a
    · exact .kTuple a c
theorem seqT_same {K : PySem.W.Frag} {H H' : Hp} {a : Addr} {xs : List V} (e : Same H H') (h : SqT K H a xs) : SqT K H' a xs := by
  rcases h with (h | ⟨o, h⟩) | h
  · exact .inl (.inl (e _ _ h))
  · exact .inl (.inr ⟨o, e _ _ h⟩)
  · exact .inr h
mutual
theorem dp_same {K : PySem.W.Frag} {H H' : Hp} (e : Same H H') : ∀ {x : V} {d : PyData}, Dp K H x d → Dp K H' x d
  | _, _, .non => .non
  | _, _, .bl b => .bl b
  | _, _, .int i => .int i
  | _, _, .str z => .str z
  | _, _, .lst a b => .lst (e.seq a) (dpAll_same e b)
  | _, _, .tup a b => .tup (seqT_same e a) (dpAll_same e b)
theorem dpAll_same {K : PySem.W.Frag} {H H' : Hp} (e : Same H H') : ∀ {xs : List V} {ds : List PyData}, DpAll K H xs ds → DpAll K H' xs ds
  | _, _, .nil => .nil
  | _, _, .cons a b => .cons (dp_same e a) (dpAll_same e b)
end
/-- the heap without the place b -/
def wo (b : Addr) (H : Hp) : Hp := fun c => if c = b then none else H c
theorem wo_sub (b : Addr) (H : Hp) : Same (wo b H) H := fun c o h => by
  unfold wo at h
  split at h
  · cases h
  · exact h
theorem wo_but {b : Addr} {H H' : Hp} (t : But b H H') : Same (wo b H) (wo b H') := fun c o h => by
  unfold wo at h ⊢
  split at h
  · cases h
  · rename_i n
    rw [if_neg n]
    exact t c o n h
theorem wo_same {b : Addr} {H H' : Hp} (t : Same H H') : Same (wo b H) (wo b H') := wo_but (But.of t)
theorem wo_at {b c : Addr} {H : Hp} {o : HO} (n : c ≠ b) (h : H c = some o) : wo b H c = some o := by
  unfold wo
  rw [if_neg n]
  exact h
def Asc (s : Str) : Prop := ∀ c ∈ TL.tl s, c < 128
theorem Asc.app {x y : Str} (hx : Asc x) (hy : Asc y) : Asc (x ++ y) := fun c hc => by
  rw [TL.tl_append] at hc
  rcases List.mem_append.mp hc with h | h
  · exact hx c h
  · exact hy c h
theorem Asc.cut {x : Str} {lo hi : Option Int} (hx : Asc x) : Asc (cutS x lo hi) := fun c hc => hx c (List.mem_of_mem_drop (List.mem_of_mem_take hc))
theorem Asc.one {c : Nat} (h : c < 128) : Asc ⟨#[c]⟩ := fun d hd => by
  rw [List.mem_singleton.mp (show d ∈ [c] from hd)]
  exact h
/-! ### kinds of data -/
def isT (T t : String) : Bool := decide (t = T) || (decide (T = "int") && decide (t = "bool"))
abbrev isK (T : String) (d : PyData) : Bool := isT T (tyD d)
theorem kit_t : ∀ t ∈ ["NoneType", "bool", "int", "str", "list", "tuple", "dict"], ∀ T ∈ ["int", "bool", "str", "list", "tuple"], kitB t T = some (isT T t) := by decide +kernel
theorem ty_mem (d : PyData) : tyD d ∈ ["NoneType", "bool", "int", "str", "list", "tuple", "dict"] := by
  cases d <;> simp [tyD]
theorem kit_d {K : PySem.W.Frag} {T : String} (hT : T ∈ ["int", "bool", "str", "list", "tuple"]) (d : PyData) : PySem.W.kitOne K (.type (tyD d)) (.type T) = some (isK T d) := kit_ty (kit_t _ (ty_mem d) T hT)
theorem sh_int (i : Int) : SeqAt.shaped (.int i) = true := by
  show (PyData.canLay0 (.int i) && decide (PyData.depth (.int i) ≤ 64)) = true
  simp [PyData.canLay0, PyData.depth]
theorem tuple_mul1 (l : Addr) (items : Array Value) (n : Nat) (dd : Option Addr) (sl : Array (Option Value)) (u : Tok) (hne : items.isEmpty = false) :
    Meets (Builtin.«tuple.__mul__» ⟨[.ref l, .int 1 u], []⟩) (fun _ R s => s.heap.get? l = some { cls := .type "tuple", dict := dd, data := .seq items n, slots := sl } ∧ R (.ok (.ret (Value.ref l))) s) :=
  .of_wp fun prog w A R s h => by
    obtain ⟨hp, g, d, tk, os⟩ := s
    obtain ⟨hl, h⟩ := h
    have f1 := AutoSeq1.idx_int
    wp_walk using wpAny_loadPart' hl
    exact ⟨_, rfl, h⟩
theorem op_rep1 {X : Cx} : OpR X (binaryOp .Mult) (fun x y H Q => ∃ (l : Addr) (xs : List V), x = .ref l ∧ y = .int 1 ∧ SqT X.K H l xs ∧ xs ≠ [] ∧ Q (.ref l) H) := by
  intro pins s σ H x y v u Q I rx ry h
  obtain ⟨l, xs, rfl, rfl, hT, hne, q⟩ := h
  cases rx
  obtain ⟨t, rfl⟩ := ry
  obtain ⟨its, r, ⟨⟨cls, dd, data, sl⟩, ho, hc, n, hd⟩, hs⟩ := I.tuple hT
  simp only at hc hd
  subst hc hd
  have hi : its.toArray.isEmpty = false := by
    cases its with
    | nil => exact absurd (List.eq_nil_of_length_eq_zero (r.length.trans rfl)) hne
    | cons a b => rfl
  refine wpAny_binaryOp_repeat_ref (T := "tuple") (U := "int") (by decide) ⟨_, ho, rfl⟩ (fun s' => typeIs_int s' 1 t) noFill_tuple_mul F.fills_int_mul F.slot_int_rmul repeat_tuple F.slot_int_index.lookup
    (call_meets F.slot_int_rmul (typeIs_int s 1 t) F.entry_int_rmul (F.args_int_rmul_2 _ _) (int_rmul_tuple 1 t l its.toArray n dd sl)
      ⟨ho, rfl, ⟨_, ho, rfl⟩, call_meets F.slot_tuple_mul ⟨_, ho, rfl⟩ F.entry_tuple_mul (F.args_tuple_mul_2 _ _) (tuple_mul1 l its.toArray n dd sl t hi) ⟨ho, ?_⟩⟩)
  exact ⟨.ref l, H, I, rfl, q⟩
def rRepA (K : PySem.W.Frag) : R2 := fun x y H Q => rRepT K x y H Q ∨ ∃ (l : Addr) (xs : List V), x = .ref l ∧ y = .int 1 ∧ SqT K H l xs ∧ xs ≠ [] ∧ Q (.ref l) H
theorem kk_repA (K : PySem.W.Frag) {X : Cx} (h : X.K = K := by rfl) : OpR X (binaryOp .Mult) (rRepA K) := h ▸ OpR.or op_repT op_rep1
/-! ### classes: a method, the making of an instance, by their promises -/
structure CMt (P : Program) (w : World) (K : PySem.W.Frag) (mg : Str → Option Value) (base : Heap) (C : Addr) (k : Nat) (m : Str) (ps : List Str) (dvs : List V) (sp : Sp) : Prop where
  ex : ∃ (f : Addr) (fd : FuncData) (ds : List Value), FnOk P w K mg base CX0 k f fd ps sp ∧ Meth K C m f ∧ Vals dvs ds ∧ Binds K fd ps ds
structure CMk (P : Program) (w : World) (K : PySem.W.Frag) (mg : Str → Option Value) (base : Heap) (C : Addr) (k : Nat) (x : Str) (ps : List Str) (dvs : List V) (sp : Sp) : Prop where
  ex : ∃ (f : Addr) (fd : FuncData) (ds : List Value), FnOk P w K mg base CX0 k f fd ps sp ∧ Mk K C f ∧ mg x = some (.ref C) ∧ Vals dvs ds ∧ Binds K fd ps ds
section
variable {X : Cx} {k : Nat} {C : Addr} {x m : Str} {ps : List Str} {dvs : List V} {sp : Sp} {p pos apos : Pos} {e o : Expr} {es : List Expr} {ta : TE} {t : TA}
theorem pe_mt {pl : Sem Bool} (M : CMt X.prog X.w X.K X.mg X.base C k m ps dvs sp) (c : Cls X.K C) (hr : Room k X.A) (he : PE X o ta) (ha : PA X (e :: es) t)
    (hst : starEach (e :: es) X.env = (false, eval e X.env) :: starEach es X.env := by rfl) (hpl : (backTo pos (starEach es X.env)).any (·.1) = false := by rfl)
    (ht : eval (.Call (.Attribute o m apos) (e :: es) [] pos) X.env = (do
      let ov ← eval o X.env
      standAt apos.atName
      let (f, first) ← holding [ov] (getMethod ov m pl)
      callWith pos f first (backTo pos (starEach (e :: es) X.env)) (backToKw pos (keywordEach [] X.env))) := by rfl) :
    PE X (.Call (.Attribute o m apos) (e :: es) [] pos) (tMeth C m sp dvs E0 ta t) := by
  obtain ⟨f, fd, ds, F, me, vd, b⟩ := M.ex
  exact pe_meth (pl := pl) he c me F hr b vd pass0 ha hst hpl ht
theorem pe_mt0 {pl : Sem Bool} (M : CMt X.prog X.w X.K X.mg X.base C k m ps dvs sp) (c : Cls X.K C) (hr : Room k X.A) (he : PE X o ta)
    (ht : eval (.Call (.Attribute o m apos) [] [] pos) X.env = (do
      let ov ← eval o X.env
      standAt apos.atName
      let (f, first) ← holding [ov] (getMethod ov m pl)
      callWith pos f first (backTo pos (starEach [] X.env)) (backToKw pos (keywordEach [] X.env))) := by rfl) :
    PE X (.Call (.Attribute o m apos) [] [] pos) (tMeth C m sp dvs E0 ta tNil) := by
  obtain ⟨f, fd, ds, F, me, vd, b⟩ := M.ex
  exact pe_meth0 (pl := pl) he c me F hr b vd pass0 ht
theorem pe_mkc (M : CMk X.prog X.w X.K X.mg X.base C k x ps dvs sp) (hr : Room (k + 1) X.A) (hg : Gl X x) (ha : PA X (e :: es) t)
    (hdb : (x == ("__debug__" : Str)) = false := by decide) (he : starEach (e :: es) X.env = (false, eval e X.env) :: starEach es X.env := by rfl) (hpl : (backTo pos (starEach es X.env)).any (·.1) = false := by rfl) :
    PE X (.Call (.Name x p) (e :: es) [] pos) (tMake C sp dvs E0 t) := by
  obtain ⟨f, fd, ds, F, mk, g, vd, b⟩ := M.ex
  exact pe_make mk F hr hg g b vd pass0 ha hdb he hpl
end
/-! ### o.m(e, .., k = v) -/
structure CMtK (P : Program) (w : World) (K : PySem.W.Frag) (mg : Str → Option Value) (base : Heap) (C : Addr) (k : Nat) (m : Str) (ps : List Str) (n : Nat) (ks : List Str) (gV : List V → List V → List V) (sp : Sp) : Prop where
  ex : ∃ (f : Addr) (fd : FuncData) (g : List Value → List Value → List Value), FnOk P w K mg base CX0 k f fd ps sp ∧ Meth K C m f ∧ KBn K fd ps n ks g gV
def tMethK (C : Addr) (m : Str) (n j : Nat) (sp : Sp) (gV : List V → List V → List V) (ta : TE) (t tk : TA) : TE := fun σ H Q => ta σ H fun x H1 => ∃ (a dx : Addr) (fs : List (Str × V)), x = .ref a ∧ H1 a = some (.ins C dx fs) ∧ fs.lookup m = none ∧
  t σ H1 fun vs H2 => tk σ H2 fun zs H3 => (x :: vs).length = n ∧ zs.length = j ∧ sp (gV (x :: vs) zs) H3 Q E0
theorem pe_mtK {X : Cx} {k n : Nat} {C : Addr} {m : Str} {ps ks : List Str} {sp : Sp} {gV : List V → List V → List V} {pos apos : Pos} {e o : Expr} {es : List Expr} {kws : List Keyword} {ta : TE} {t tk : TA} {pl : Sem Bool}
    (M : CMtK X.prog X.w X.K X.mg X.base C k m ps n ks gV sp) (c : Cls X.K C) (hr : Room k X.A) (he : PE X o ta) (ha : PA X (e :: es) t) (hkw : PK X kws tk)
    (hall : (backToKw pos (keywordEach kws X.env)).all (·.1.isSome) = true := by rfl) (hks : (backToKw pos (keywordEach kws X.env)).filterMap (·.1) = ks := by rfl)
    (hst : starEach (e :: es) X.env = (false, eval e X.env) :: starEach es X.env := by rfl)
    (hpl : ((backTo pos (starEach (e :: es) X.env)).any (·.1) || (backToKw pos (keywordEach kws X.env)).any (·.1.isNone)) = false := by rfl)
    (ht : eval (.Call (.Attribute o m apos) (e :: es) kws pos) X.env = (do
      let ov ← eval o X.env
      standAt apos.atName
      let (f, first) ← holding [ov] (getMethod ov m pl)
      callWith pos f first (backTo pos (starEach (e :: es) X.env)) (backToKw pos (keywordEach kws X.env))) := by rfl) :
    PE X (.Call (.Attribute o m apos) (e :: es) kws pos) (tMethK C m n ks.length sp gV ta t tk) := by
  obtain ⟨f, fd, g, F, me, b⟩ := M.ex
  constructor
  intro pins s σ H Q I h
  refine PySem.W.methodCall_KW (pl := pl) (thn (he.run pins s σ H _ I h) ?_) ht
  rintro u s1 ⟨x, H1, I1, rx, a, dx, fs, rfl, ea, l, q⟩
  cases (show u = Value.ref a from rx)
  refine getmeth_ok I1 ea c me l ?_
  refine PySem.W.callWith_KW (first := [.ref a]) (h₀ := X.base) I.ok.mod.kin me.kp hall (thn (ha.run pos pins s1 σ H1 _ I1 q) ?_) hpl hst
  rintro us s2 ⟨vs, H2, I2, r, q2⟩
  refine thn (hkw.run pos pins s2 σ H2 _ I2 q2) ?_
  rintro ws s3 ⟨zs, H3, I3, rz, l1, l2, q3⟩
  refine ⟨I3.kIn, ?_⟩
  rw [hks]
  exact run_fnN (us := .ref a :: us) (vs := .ref a :: vs) F hr b pass0 I3 (.cons rfl r) rz l1 l2 q3
theorem okD {P : Program} {w : World} {K : PySem.W.Frag} {mg : Str → Option Value} {base : Heap} {x qual : Str} {params : Arguments} {body : List Stmt} {scope : Scope} {dvs : List V} {kws : List (Str × V)} {f : Addr} {fd : FuncData} {N ps : List Str} {k : Nat} {sp : Sp}
    (F : FunD K x qual params body scope dvs kws f fd) (S : FnScope N ps scope) (len : ∀ vs H Q E, sp vs H Q E → vs.length = ps.length)
    (walk : ∀ (cdv : Value) (A : Around) (outer : List Env) (s : Shared) (H : Hp) (vs : List V) (Q : VK) (E : XK), Room k (A.deeper (envOfC qual scope s.heap.objs.size f cdv)) → sp vs H Q E →
      ∃ t, PSs (cxOf CX0 P w K mg base N qual scope f cdv A outer s H E).nox body t ∧ t { nx := fun _ H' => Q .non H', rt := Q } (start N vs) H) : FnOk P w K mg base CX0 (k + 1) f fd ps sp := by
  refine F.ok S len (fun cdv A outer s H vs Q E hr h => ?_)
  obtain ⟨t, ht, q⟩ := walk cdv A outer s H vs Q E hr h
  exact ⟨t, ht.nox, q⟩
/-! ### numbers in bounds, what is kept -/
def numIn : PyData → Int → Int → Bool
  | .int i, lo, hi => decide (lo ≤ i) && decide (i ≤ hi)
  | _, _, _ => false
def keptOk : PyData → PyData → Bool
  | .tuple ds, e => PyData.eqv (.int (ds.length : Int)) e && ds.all fun d => numIn d 0 100
  | d, _ => numIn d 0 100
def firstWrong (ws : List (Str × Bool)) : V := match ws.find? (fun p => !p.2) with
  | some p => .str p.1
  | none => .non
theorem firstWrong_at {ws : List (Str × Bool)} {i : Nat} {w : Str} (h : ∀ p ∈ ws.take i, p.2 = true) (hi : ws[i]? = some (w, false)) : firstWrong ws = .str w := by
  have hs : ws = ws.take i ++ (w, false) :: ws.drop (i + 1) := by
    obtain ⟨hl, he⟩ := List.getElem?_eq_some_iff.mp hi
    rw [← he, List.getElem_cons_drop, List.take_append_drop]
  unfold firstWrong
  rw [hs, List.find?_append, List.find?_eq_none.mpr (fun p hp => by rw [h p hp]; decide)]
  rfl
theorem firstWrong_none {ws : List (Str × Bool)} (h : ∀ p ∈ ws, p.2 = true) : firstWrong ws = .non := by
  unfold firstWrong
  rw [List.find?_eq_none.mpr (fun p hp => by rw [h p hp]; decide)]
theorem dpAll_len {K : PySem.W.Frag} {H : Hp} : ∀ {xs : List V} {ds : List PyData}, DpAll K H xs ds → xs.length = ds.length
  | _, _, .nil => rfl
  | _, _, .cons _ b => by rw [List.length_cons, List.length_cons, dpAll_len b]
theorem dpAll_get {K : PySem.W.Frag} {H : Hp} : ∀ {xs : List V} {ds : List PyData} {i : Nat} {x : V}, DpAll K H xs ds → xs[i]? = some x → ∃ d, ds[i]? = some d ∧ Dp K H x d
  | _, _, 0, _, .cons a _, h => ⟨_, rfl, by cases (Option.some.inj h); exact a⟩
  | _, _, i + 1, _, .cons _ b, h => dpAll_get (i := i) b h
  | _, _, _, _, .nil, h => by simp at h
/-! ### a block over an iterator of a known length; zip of two lists, of two tuples -/
theorem lc_gen {J : It} {n : Nat} {g : TG} {tt : TT} {te : TE} {vs : List Nat} {σ : L2.St} {H1 : Hp} {D : Addr} {Qd : Hp → Prop} (Pv : Nat → Hp → Prop) (first : Pv 0 (upd H1 D (.lst [])))
    (can : ∀ i H, Pv i H → (i < n → J.go i H) ∧ (i = n → J.stop i H))
    (turn : ∀ i H v H', i < n → Pv i H → J.yld i H v H' → g v (wipe σ vs) H' fun σ2 H2 => wipe σ2 vs = wipe σ vs ∧ tt σ2 H2 fun b H3 => if b = true then te σ2 H3 fun y H4 => ∃ acc, H4 D = some (.lst acc) ∧ acc.length < sizeLine ∧ Pv (i + 1) (upd H4 D (.lst (acc ++ [y]))) else Pv (i + 1) H3)
    (last : ∀ H, Pv n H → Qd H) :
    ∃ W : Nat → Nat → Hp → Prop, (∃ m, W 0 m (upd H1 D (.lst []))) ∧ ∀ i m H, W i m H → (J.stop i H ∧ Qd H) ∨ (J.go i H ∧ ∃ Nx : Hp → Prop, (∀ H', Nx H' → ∃ m', m' < m ∧ W (i + 1) m' H') ∧ ∀ x H', J.yld i H x H' → g x (wipe σ vs) H' fun σ2 H2 => wipe σ2 vs = wipe σ vs ∧ tt σ2 H2 fun b H3 => if b = true then te σ2 H3 fun y H4 => ∃ acc, H4 D = some (.lst acc) ∧ acc.length < sizeLine ∧ Nx (upd H4 D (.lst (acc ++ [y]))) else Nx H3) := by
  refine ⟨fun i m H => m + i = n ∧ Pv i H, ⟨n, by omega, first⟩, ?_⟩
  intro i m H hw
  obtain ⟨e, p⟩ := hw
  by_cases c : i < n
  · exact .inr ⟨(can i H p).1 c, Pv (i + 1), fun H' p' => ⟨n - (i + 1), by omega, by omega, p'⟩, fun v H' y => turn i H v H' c p y⟩
  · have z : i = n := by omega
    exact .inl ⟨(can i H p).2 z, last H (z ▸ p)⟩
section
variable {K : PySem.W.Frag} {a b : Addr} {xs ys : List V}
theorem canL {H : Hp} {i : Nat} (l : xs.length = ys.length) (x : SqL K H a xs) (y : SqL K H b ys) : (i < xs.length → (Itz K a b).go i H) ∧ (i = xs.length → (Itz K a b).stop i H) :=
  ⟨fun c => ⟨xs, ys, _, _, x, y, List.getElem?_eq_getElem c, List.getElem?_eq_getElem (l ▸ c)⟩, fun c => ⟨xs, ys, x, y, .inl (by omega)⟩⟩
theorem canT {H : Hp} {i : Nat} (l : xs.length = ys.length) (x : SqT K H a xs) (y : SqT K H b ys) : (i < xs.length → (RZ.ItzT K a b).go i H) ∧ (i = xs.length → (RZ.ItzT K a b).stop i H) :=
  ⟨fun c => ⟨xs, ys, _, _, x, y, List.getElem?_eq_getElem c, List.getElem?_eq_getElem (l ▸ c)⟩, fun c => ⟨xs, ys, x, y, .inl (by omega)⟩⟩
end
/-! ### data of short lists -/
mutual
def thin : PyData → Bool
  | .list xs => decide (xs.length ≤ 1000) && thinAll xs
  | .tuple xs => decide (xs.length ≤ 1000) && thinAll xs
  | _ => true
def thinAll : List PyData → Bool
  | [] => true
  | x :: r => thin x && thinAll r
end
theorem thin_at {d : PyData} : ∀ {ds : List PyData} {i : Nat}, thinAll ds = true → ds[i]? = some d → thin d = true
  | e :: r, 0, h, he => by
    cases he
    simp only [thinAll, Bool.and_eq_true] at h
    exact h.1
  | e :: r, i + 1, h, he => by
    simp only [thinAll, Bool.and_eq_true] at h
    exact thin_at (i := i) h.2 he
theorem depth_at {d : PyData} : ∀ {ds : List PyData} {i : Nat}, ds[i]? = some d → PyData.depth d ≤ PyData.depthAll ds
  | e :: r, 0, he => by
    cases he
    simp only [PyData.depthAll]
    omega
  | e :: r, i + 1, he => by
    have := depth_at (i := i) (ds := r) he
    simp only [PyData.depthAll]
    omega
theorem kitLT {K : PySem.W.Frag} (d : PyData) : PySem.W.kitAny K (.type (tyD d)) [.type "list", .type "tuple"] = some (isK "list" d || isK "tuple" d) := by
  unfold PySem.W.kitAny
  rw [kit_d (by decide)]
  cases isK "list" d with
  | true => rfl
  | false =>
    unfold PySem.W.kitAny
    rw [kit_d (by decide)]
    cases isK "tuple" d <;> rfl
theorem qY {c : Prop} [Decidable c] {Q : VK} {H : Hp} (hc : c) (q : Q (.bl true) H) : Q (.bl (decide c)) H := by
  rw [decide_eq_true hc]
  exact q
theorem rep_snoc (i : Nat) : (List.replicate i true).map V.bl ++ [V.bl true] = (List.replicate (i + 1) true).map V.bl := by
  rw [List.map_replicate, List.map_replicate, List.replicate_succ']
/-! ### len of an instance by its class's own def; a walk over a list or a tuple -/
theorem call_lenO {X : Cx} {C : Addr} {k : Nat} {sp : Sp} (M : CMt X.prog X.w X.K X.mg X.base C k "__len__" ["self"] [] sp) (hr : Room (k + 1) X.A) :
    CallR X (.builtin "len") (fun xs H Q => ∃ (r dx : Addr) (fs : List (Str × V)), xs = [.ref r] ∧ H r = some (.ins C dx fs) ∧ sp [.ref r] H (fun v H' => ∃ n : Int, v = .int n ∧ 0 ≤ n ∧ n < 1000000 ∧ Q (.int n) H') E0) := by
  intro pins s σ H xs us Q I rv h
  obtain ⟨r, dx, fs, rfl, ea, h⟩ := h
  obtain ⟨f, fd, ds, F, me, vd, hb⟩ := M.ex
  cases vd
  cases rv with
  | cons e rr =>
    cases rr
    cases e
    obtain ⟨mA, O, _⟩ := ins_get I.hok ea
    obtain ⟨od, J, _⟩ := O.look
    refine Calls.call_function_entry kind_len plain_len entry_len (args_len1 _) ?_
    unfold Builtin.«len»
    refine wpAny_bind (wpAny_pure ?_)
    refine wpAny_bind (PySem.W.special_fn (args := []) I.kIn J me.at_ (beq_iff_eq.mp me.fn) ?_)
    have hl : ([Value.ref r] ++ ([] : List Value)).length = (["self"] : List Str).length := rfl
    refine wpAny_call (codeAny_mono (F.run X.A.in1 X.stack s H ⟨[.ref r], []⟩ [.ref r] [.ref r] _ _ hr.in1 I.env0.in1 (hb s [.ref r] I.kIn hl) (.cons rfl .nil) h) fun x s' hq => ?_)
    cases x with
    | error e => exact pass0 pins σ H s e s' I hq
    | ok fl =>
      cases fl with
      | ret u =>
        obtain ⟨v, H', I', rv, n, rfl, n0, n1, q⟩ := I.after hq
        obtain ⟨t, rfl⟩ := rv
        refine wpAny_bind (wpAny_holding (wpAny_pure ?_))
        refine wpAny_bind (wpAny_letGo ?_)
        show wpAny _ _ (if n < 0 then _ else _) _ _ _
        rw [if_neg (by omega)]
        show wpAny _ _ (if n ≥ 2 ^ 63 then _ else _) _ _ _
        rw [if_neg (by omega)]
        exact wpAny_bind (wpAny_mkInt (wpAny_pure ⟨_, rfl, .int n, H', I'.tok _, ⟨_, rfl⟩, q⟩))
      | next => exact False.elim hq
      | brk => exact False.elim hq
      | cont => exact False.elim hq
theorem pi_or {X : Cx} {tg e : Expr} {w1 w2 : TI} (h : PI X tg e w1) (h' : PI X tg e w2) : PI X tg e (fun σ H R => w1 σ H R ∨ w2 σ H R) :=
  ⟨fun pins s σ H R I q => q.elim (h.run pins s σ H R I) (h'.run pins s σ H R I)⟩
/-! ### sets of numbers: in rising order, of a list, by a block -/
section
variable {P : Program} {w : World} {A : Around} {E : Value → Shared → Prop} {s : Shared}
theorem rise_set {a : Addr} {S : Int → Bool} {n : Nat} {Q : Value → Shared → Prop} (there : SetR w s.heap a S n) (free : A.handled = none)
    (then_ : ∀ (s' : Shared) (p : Addr) (out : Array Value) (c : Nat) (ns : List Int), (∀ b o, s.heap.get? b = some o → s'.heap.get? b = some o) → s'.gens = s.gens → s'.os = s.os → s.heap.objs.size ≤ p →
      s'.heap.get? p = some (seqObj "list" out c) → IntsAre out.toList ns → ns.Pairwise (· < ·) → (∀ k, k ∈ ns ↔ S k = true) → ns.length = n → n < scanBound → Q (.ref p) s') :
    wpAny (model P w) A (call (.builtin "sorted") [.ref a]) Q E s := by
  obtain ⟨ob, es, ep, tb, hob, hex, hdat, good, nodup, mem, small, fits, size, ris, led⟩ := there
  have big : n ≤ sizeLine := by rw [← size]; exact fits_of_scanBound small
  refine Calls.call_function_entry kind_sorted plain_sorted entry_sorted (args_sorted1 _) ?_
  unfold Builtin.«sorted»
  refine wpAny_bind (m := checkCount "sorted" 1 1 _) (wpAny_pure (wpAny_bind (collect_set (A := A.in1) free ⟨ob, hob, hex.1, hdat⟩ fits small ris led fun s1 vs k1 z1 g1 o1 pm => ?_)))
  have many : vs.length = n := by rw [pm.length_eq, List.length_map, Array.length_toList, size]
  have nums : IntsAre vs (vs.map Builtin.Re.reRawOf) := ints_of vs fun v hv => by
    obtain ⟨e, he, ev⟩ := List.mem_map.mp (pm.mem_iff.mp hv)
    obtain ⟨k, tk, ek, _⟩ := good e he
    exact ⟨k, tk, ev.symm.trans ek⟩
  have same : (vs.map Builtin.Re.reRawOf).Perm (es.toList.map keyOf) := by
    have := pm.map Builtin.Re.reRawOf
    rw [List.map_map] at this
    exact this
  refine wpAny_bind (wpAny_newList ?_ (by rw [many]; exact big))
  have laid : (s1.heap.push (seqObj "list" vs.toArray 0)).get? s1.heap.objs.size = some (seqObj "list" vs.toArray 0) := Heap.get?_push_size _ rfl
  refine wpAny_bind (wpAny_holding (wpAny_call_entry slot_list_sort ⟨_, laid, rfl⟩ entry_list_sort (list_sort_treeAny laid nums (by rw [many]; exact big) fun out ns' x1 x2 x3 => ⟨_, rfl, ?_⟩) (args_list_sort _)))
  obtain ⟨c, hc⟩ := sortedHeap_at (vs := vs) (out := out) laid
  have pn := x2.trans same
  refine wpAny_pure ⟨_, rfl, then_ _ s1.heap.objs.size out c ns' (fun b u e => ?_) g1 o1 z1 hc x1 (lt_of_le_nodup ns' x3 (pn.nodup_iff.mpr nodup)) (fun k => by rw [pn.mem_iff, mem k]) (by rw [pn.length_eq, List.length_map, Array.length_toList, size]) (by rw [← size]; exact small)⟩
  have old := k1 b u e
  have below := Heap.lt_size old
  show (sortedHeap (s1.heap.push (seqObj "list" vs.toArray 0)) s1.heap.objs.size vs out).get? b = some u
  rw [sortedHeap_old (Nat.ne_of_lt below) (by rw [size_push']; exact Nat.lt_succ_of_lt below)]
  exact Heap.get?_push_of_some _ old
end
section
variable {X : Cx}
def rSortedSN (w : World) : List V → Hp → VK → Prop := fun vs H Q => ∃ (a : Addr) (S : Int → Bool) (n : Nat), vs = [V.ref a] ∧ H a = some (SetO w a S n) ∧
  ∀ (ns : List Int) (p : Addr), ns.Pairwise (· < ·) → (∀ k : Int, k ∈ ns ↔ S k = true) → ns.length = n → H p = none → Q (.ref p) (upd H p (.lst (ns.map V.int)))
theorem cr_sortedSN (calm : X.calm = true) : CallR X (.builtin "sorted") (rSortedSN X.w) := fun pins s σ H vs us Q I r h => by
  obtain ⟨a, S, n, rfl, ha, q⟩ := h
  rw [Vals.ref1 r]
  refine rise_set (setO_get I ha) (I.ok.hd calm) fun s' p out c ns k g o hp hg hi hs hm hl hsm => ?_
  have fit : (ns.map V.int).length ≤ sizeLine := by rw [List.length_map, hl]; exact fits_of_scanBound hsm
  have new : H p = none := I.hok.fresh hp
  have J : Inv X pins σ (upd H p (.lst (ns.map V.int))) { s with heap := s'.heap, gens := s'.gens, drawn := s'.drawn, toks := s'.toks } :=
    I.call (ch := []) (Un.laid k hp new) (I.hok.laid k hp ⟨fit, out.toList, c, vals_of_ints hi, hg⟩) (by rw [g]; exact I.bare) (fun _ z => nomatch z)
  have whole : s' = { s with heap := s'.heap, gens := s'.gens, drawn := s'.drawn, toks := s'.toks } := by
    cases s'
    cases s
    cases o
    rfl
  rw [whole]
  exact ⟨.ref p, _, J, rfl, q ns p hs hm hl new⟩
/-- one number more -/
theorem add_num {pins : List (Addr × Obj)} {σ : L2.St} {H : Hp} {s : Shared} {E : Value → Shared → Prop} {D : Addr} {S : Int → Bool} {n : Nat} {y : Int} {tk : Tok} {Q : Value → Shared → Prop} (I : Inv X pins σ H s) (hD : H D = some (SetO X.w D S n)) (room : n + 1 < scanBound)
    (h : ∀ s', Inv X pins σ (upd H D (SetO X.w D (fun j => S j || decide (j = y)) (if S y = true then n else n + 1))) s' → Q .none s') : wpAny (model X.prog X.w) X.A (call (.builtin "set.add") [.ref D, .int y tk]) Q E s := by
  refine setR_add (setO_get I hD) room fun h' but new => h _ ?_
  obtain ⟨o, es, ep, tb, ho, rest⟩ := id new
  exact I.write (e := D) (t' := s.toks + 1) (by rw [hD]; trivial) (.inl rfl) (fun b u hb hu => (but.2 b hb).trans hu) ⟨o, ho⟩ (setO_new new)
/-- {elt for target in iter if ..}, elt a number; D the new set -/
def tScI (w : World) (wi : TI) (g : TG) (tt : TT) (te : TE) (vs : List Nat) : TE := fun σ H Q => wi σ H fun J G => ∀ D, G D = none → ∃ W : Nat → Nat → Hp → Prop, (∃ m, W 0 m (upd G D (SetO w D (fun _ => false) 0))) ∧ ∀ i m H, W i m H →
  (J.stop i H ∧ Q (.ref D) H) ∨ (J.go i H ∧ ∃ Nx : Hp → Prop, (∀ H', Nx H' → ∃ m', m' < m ∧ W (i + 1) m' H') ∧ ∀ x H', J.yld i H x H' → g x (wipe σ vs) H' fun σ2 H2 => wipe σ2 vs = wipe σ vs ∧ tt σ2 H2 fun b H3 =>
    if b = true then te σ2 H3 fun y H4 => ∃ (c : Int) (S : Int → Bool) (n : Nat), y = .int c ∧ H4 D = some (SetO w D S n) ∧ n + 1 < scanBound ∧ Nx (upd H4 D (SetO w D (fun j => S j || decide (j = c)) (if S c = true then n else n + 1))) else Nx H3)
abbrev emptyS (w : World) : Obj := { cls := .type "set", dict := none, data := .set #[] 0 (.fresh 0 0 (!w.params.followText "set-order")) }
theorem pe_scI {elt tg iter : Expr} {ifs : List Expr} {scope : Scope} {own : List (PySem.Str × Nat)} {pos : Pos} {wi : TI} {g : TG} {tt : TT} {te : TE} (calm : X.calm = true) (nd : X.N.Nodup) (walk : PI X tg iter wi) (ok : BlkOk X.N X.env.scope scope own)
    (hg : ∀ (s : Shared) (H : Hp) (C : Addr) (cl : List (PySem.Str × Addr)) (fp : List Addr), PG (X.blk s H scope (compEnvC scope cl C X.env) fp) tg g)
    (ht : ∀ (s : Shared) (H : Hp) (C : Addr) (cl : List (PySem.Str × Addr)) (fp : List Addr), PTs (X.blk s H scope (compEnvC scope cl C X.env) fp) ifs tt)
    (he : ∀ (s : Shared) (H : Hp) (C : Addr) (cl : List (PySem.Str × Addr)) (fp : List Addr), PE (X.blk s H scope (compEnvC scope cl C X.env) fp) elt te)
    (fold : ∀ x, foldedSetIterable iter X.env x = pure x := by intro _; rfl) :
    PE X (.SetComp elt [⟨tg, iter, ifs, 0⟩] scope pos) (tScI X.w wi g tt te (own.map (·.2))) := by
  refine ⟨fun pins s σ H Q I h => ?_⟩
  rw [PpSet.eval_SetComp]
  have captured : ∀ y ∈ scope.names, y.2 = .free → ∃ c, X.env.cells.lookup y.1 = some c := fun y hy e => (ok.free y hy e).elim (fun k => I.ok.has _ (.inl k)) (fun k => I.ok.has _ (.inr k))
  refine wpAny_comprehension_free (use := none) rfl fold (closure_ok captured) ok.kind (fun y hy e => by rw [ok.uniq y hy, e]) (thn (walk.run pins s σ H _ I h) fun xv s1 hx => thn hx fun itv s2 h2 => ?_)
  obtain ⟨it, fp, tn, J, H2, rfl, I2, T, st2, f2, q⟩ := h2
  refine PpSet.newSet_ok (newEnv_comp ?_)
  generalize atD : s2.heap.objs.size = D
  have freshD : H2 D = none := I2.hok.fresh (Nat.le_of_eq atD)
  obtain ⟨W, ⟨m0, w0⟩, turn⟩ := q D freshD
  generalize at3 : ({ s2 with heap := s2.heap.push (emptyS X.w) } : Shared) = s3
  have heap3 : s3.heap = s2.heap.push (emptyS X.w) := by rw [← at3]
  have I3 : Inv X pins σ (upd H2 D (SetO X.w D (fun _ => false) 0)) s3 := by
    rw [← at3]
    refine I2.laid (t' := s2.toks) (fun b o e => Heap.get?_push_of_some _ e) (Nat.le_of_eq atD) (setO_new ?_)
    rw [← atD]
    exact setR_fresh X.w
  have low : ∀ b ∈ fp, b < s2.heap.objs.size := fun b hb => by
    obtain ⟨o, e, _⟩ := T.obj _ _ st2 b hb
    exact Heap.lt_size e
  have f3 : ∀ b ∈ fp, FpOk X pins (upd H2 D (SetO X.w D (fun _ => false) 0)) b ∧ b < s3.heap.objs.size := fun b hb => by
    have lt := low b hb
    refine ⟨⟨?_, (f2 b hb).2⟩, by rw [heap3, Heap.size_push]; exact Nat.lt_succ_of_lt lt⟩
    rw [upd_ne (by rw [← atD]; exact Nat.ne_of_lt lt)]
    exact (f2 b hb).1
  have st3 : tn 0 s3.heap := T.keep _ _ _ st2 fun b _ o e => by rw [heap3]; exact Heap.get?_push_of_some _ e
  have I4 := block_start I3 ok nd f3
  generalize cells : cellsFrom (s3.heap.objs.size + 1) scope.names (cloFrom X.env.cells scope.names []) = cl at I4 ⊢
  have pg := hg s3 (upd H2 D (SetO X.w D (fun _ => false) 0)) s3.heap.objs.size cl fp
  have pt := ht s3 (upd H2 D (SetO X.w D (fun _ => false) 0)) s3.heap.objs.size cl fp
  have pe := he s3 (upd H2 D (SetO X.w D (fun _ => false) 0)) s3.heap.objs.size cl fp
  have none3 : ∀ b ∈ fp, (upd H2 D (SetO X.w D (fun _ => false) 0)) b = none := fun b hb => (f3 b hb).1.1
  show codeAny _ _ (.compStart (.SetComp elt [⟨tg, iter, ifs, 0⟩] scope pos) 0 (.ref it) (.ref D) (compEnvC scope cl s3.heap.objs.size X.env)) (compPost (model X.prog X.w) X.A X.xe none _ (.ref D) s3.heap.objs.size) { s3 with heap := pushCells (s3.heap.push { cls := .type "dict", data := .dict #[] }) scope.names }
  generalize inner : compEnvC scope cl s3.heap.objs.size X.env = ce at I4 pg pt pe ⊢
  have cL : ce.locals = s3.heap.objs.size := by rw [← inner]; rfl
  generalize upd H2 D (SetO X.w D (fun _ => false) 0) = H3 at I3 I4 pg pt pe w0 none3 f3
  generalize at4 : ({ s3 with heap := pushCells (s3.heap.push { cls := .type "dict", data := .dict #[] }) scope.names } : Shared) = s4 at I4 ⊢
  have st4 : tn 0 s4.heap := T.keep _ _ _ st3 fun b _ o e => by rw [← at4]; exact pushCells_keeps _ _ _ _ (Heap.get?_push_of_some _ e)
  have still : ∀ {σ' : L2.St} {H' : Hp} {s' : Shared}, Inv (X.blk s3 H3 scope ce fp) [] σ' H' s' → (∀ b ∈ fp, H' b = none) → ∀ b ∈ fp, FpOk (X.blk s3 H3 scope ce fp) [] H' b := fun {σ' H' s'} I' hn b hb =>
    ⟨hn b hb, (I'.ok.exf b hb).1, I'.ok.exfs b hb, .inl hb, fun x c e => (I'.ok.exf b hb).2 x c e, fun p hp => absurd (show p ∈ ([] : List (Addr × Obj)) ++ [] from hp) (by simp)⟩
  have loop : codeAny (model X.prog X.w) X.A (.compLoop (.SetComp elt [⟨tg, iter, ifs, 0⟩] scope pos) 0 (.ref it) (.ref D) ce) (compPost (model X.prog X.w) X.A X.xe none (fun u s' => ∃ v H', Inv X pins σ H' s' ∧ RelV v u ∧ Q v H') (.ref D) s3.heap.objs.size) s4 := by
    refine PpSet.compLoopS_any (fun n s' => ∃ i H', Inv (X.blk s3 H3 scope ce fp) [] (wipe σ (own.map (·.2))) H' s' ∧ tn i s'.heap ∧ (∀ b ∈ fp, H' b = none) ∧ W i n H') (fun n s5 now => ?_) m0 ⟨0, H3, I4, st4, none3, w0⟩
    obtain ⟨i, H5, I5, st5, n5, w5⟩ := now
    rcases turn i n H5 w5 with ⟨stop, fin⟩ | ⟨go, Nx, less, step⟩
    · refine thnF (T.done (X.blk s3 H3 scope ce fp) rfl rfl rfl calm i [] s5 _ H5 (fun _ _ => False) I5 (still I5 n5) st5 stop) fun r s6 ⟨er, I6⟩ => ?_
      subst er
      have I7 : Inv X pins σ H5 s6 := I3.call' (ch := fp) I6.os I6.base I6.hok I6.bare fun b hb => ⟨(f3 b hb).1.2.2.2.1, (f3 b hb).1.2.1, (f3 b hb).1.2.2.2.2.1, (f3 b hb).1.2.2.2.2.2⟩
      have gone : H5 s3.heap.objs.size = none := by
        have z : H5 ce.locals = none := I6.free
        rwa [cL] at z
      obtain ⟨m, hn, _⟩ := I6.loc
      have hn : s6.heap.Ns ce.locals m := hn
      rw [cL] at hn
      obtain ⟨f0, f1, f2', f3', f4, f5⟩ := I3.fpOk (Nat.le_refl _) gone
      exact ⟨m, hn, fun h'' sb => ⟨.ref D, H5, I7.turned (t' := s6.toks) (fun b o hb e => (sb.2 b hb).trans e) f0 f1 f3' f4 f5, rfl, fin⟩⟩
    · refine thnF (T.item (X.blk s3 H3 scope ce fp) rfl rfl rfl calm i [] s5 _ H5 (fun _ _ => False) I5 (still I5 n5) st5 go) fun r s6 ⟨u, er, h6⟩ => ?_
      subst er
      refine thnF h6 fun _ s7 ⟨x, H7, I7, r7, y7, st7, n7⟩ => ?_
      refine thnF (pg.run _ s7 _ H7 x u _ (I7.pinned (still I7 n7) (T.obj _ _ st7)) r7 (step x H7 y7)) fun _ s8 ⟨σ8, H8, I8, hw8, q8⟩ => ?_
      refine thnF (pt.run _ s8 σ8 H8 _ I8 q8) fun b s9 ⟨H9, I9, q9⟩ => ?_
      have close : ∀ {s' : Shared} {H' : Hp}, Inv (X.blk s3 H3 scope ce fp) ([] ++ pinsAt fp s7.heap) σ8 H' s' → Nx H' → ∃ m, m < n ∧ ∃ i H', Inv (X.blk s3 H3 scope ce fp) [] (wipe σ (own.map (·.2))) H' s' ∧ tn i s'.heap ∧ (∀ b ∈ fp, H' b = none) ∧ W i m H' := fun {s' H'} I' nx => by
        obtain ⟨m', lt, w'⟩ := less H' nx
        have pinned : ∀ b ∈ fp, ∀ o, s7.heap.get? b = some o → s'.heap.get? b = some o ∧ H' b = none := fun b hb o e =>
          let z := I'.pin (b, o) (List.mem_append_right _ (List.mem_append_right _ (mem_pinsAt hb e)))
          ⟨z.1, z.2.1⟩
        refine ⟨m', lt, i + 1, H', (I'.unpinned (pins := [])).weak (by rw [← hw8, wipe_length]) (fun j v e => ?_), T.keep _ _ _ st7 fun b hb o e => (pinned b hb o e).1, fun b hb => ?_, w'⟩
        · rw [← hw8] at e
          exact (wipe_some e).1
        · obtain ⟨o, e, _⟩ := T.obj _ _ st7 b hb
          exact (pinned b hb o e).2
      cases b with
      | false =>
        simp only [Bool.false_eq_true, if_false] at q9 ⊢
        exact close I9 q9
      | true =>
        simp only [if_true] at q9 ⊢
        refine thnF (pe.run _ s9 σ8 H9 _ I9 q9) fun z s10 ⟨yv, H10, I10, r10, c, S0, n0, ey, hD10, hz10, nx⟩ => ?_
        subst ey
        obtain ⟨tk, rfl⟩ := r10
        exact add_num (X := X.blk s3 H3 scope ce fp) I10 hD10 hz10 fun s11 I11 => close I11 nx
  exact PpSet.codeAny_compStart_set loop (T.self X.A 0 _ _ _ st4 loop)
end
/-! set(xs), xs a list of numbers -/
section
variable {P : Program} {w : World} {A : Around} {E : Value → Shared → Prop} {s : Shared}
set_option maxHeartbeats 6000000 in
theorem set_of_list {l : Addr} {items : Array Value} {ns : List Int} {Q : Value → Shared → Prop} (free : A.handled = none) (list : s.heap.IsList l items) (nums : IntsAre items.toList ns) (room : ns.length + 1 < scanBound)
    (then_ : ∀ (h' : Heap) (tk c : Nat), SetR w h' s.heap.objs.size (fun j => decide (j ∈ ns)) c → c ≤ ns.length → (∀ b o, s.heap.get? b = some o → h'.get? b = some o) → Q (.ref s.heap.objs.size) { s with heap := h', toks := tk }) :
    wpAny (model P w) A (call (.type "set") [.ref l]) Q E s := by
  have many : items.size = ns.length := by
    have := IntsAre.length nums
    rwa [Array.length_toList] at this
  obtain ⟨first, rest, mro⟩ := F.called_set.mro
  have made := F.called_set.made
  have sub := F.called_set.sub
  have notT := F.called_set.notType
  have can := F.called_set.canCreate
  have one := F.typeCall_set_1 (.ref l)
  refine wpAny_call (codeAny_of_tree ?_)
  show wpAny _ _ (callAny (.type "set") _) _ _ _
  refine wpAny_pure ⟨Code.quiet_builtin _ (by decide +kernel), codeAny_builtin F.entry_type_call ?_⟩
  rw [Around.under_plain (weight_type_call_type "set" [.ref l] []) rfl]
  repeat (any_goals (first | assumption | wp_step))
  refine codeAny_mono (code_set_led1 (.ref l) (E := E) (Q₁ := fun v s1 => v = .ref s.heap.objs.size ∧ s1 = { s with heap := s.heap.push (emptyS w) }) ⟨rfl, rfl⟩) fun r s1 hr => ?_
  match r, hr with
  | .error e, hr => exact hr
  | .ok (.ret _), ⟨e1, e2⟩ =>
    subst e1 e2
    have stands : (s.heap.push (emptyS w)).get? s.heap.objs.size = some (emptyS w) := Heap.get?_push_size _ rfl
    have typed : Shared.TypeIs { s with heap := s.heap.push (emptyS w) } (.ref s.heap.objs.size) "set" := ⟨_, stands, rfl⟩
    have look := F.called_set.init.lookup
    have bound := F.called_set.init.bind (.ref s.heap.objs.size)
    repeat (any_goals (first | assumption | wp_step))
    refine codeAny_mono (codeAny_call_builtin (R := wants (fun r s2 => r = .none ∧ ∃ h' tk c, s2 = { s with heap := h', toks := tk } ∧ SetR w h' s.heap.objs.size (fun j => decide (j ∈ ns)) c ∧ c ≤ ns.length ∧ (∀ b o, s.heap.get? b = some o → h'.get? b = some o)) E) F.called_set.init.plain F.entry_set_init (check_set_init_1 typed ?_)) fun r2 s2 hr2 => ?_
    · obtain ⟨⟨cl, dc, dt, sl⟩, at_, ecl, nl, edt⟩ := list
      simp only at ecl edt
      subst ecl edt
      have at2 : (s.heap.push (emptyS w)).get? l = some { cls := .type "list", dict := dc, data := .seq items nl, slots := sl } := Heap.get?_push_of_some _ at_
      have n1 := F.sub_list_set
      have n2 := F.sub_list_frozenset
      have n3 : (Value.type "list" == Value.type "dict") = false := by decide
      have list2 : (s.heap.push (emptyS w)).IsList l items := ⟨_, at2, rfl, nl, rfl⟩
      unfold Builtin.«set.__init__» noKeywords Builtin.Frozenset.updateFrom
      generalize iterAs : pyIter = PI
      wp_walk
      subst iterAs
      refine wpAny_pyIter_list list2 (wpAny_bind (wpAny_runValue ?_))
      have ll : l < s.heap.objs.size := Heap.lt_size at_
      have sz : (s.heap.push (emptyS w)).objs.size = s.heap.objs.size + 1 := Heap.size_push ..
      have free3 : A.in1.in1.in1.handled = none := by simp [free]
      have unlike : l ≠ (s.heap.push (emptyS w)).objs.size := by rw [sz]; exact Nat.ne_of_lt (Nat.lt_succ_of_lt ll)
      have out : s.heap.objs.size ∉ [(s.heap.push (emptyS w)).objs.size, l] := by
        rw [sz]
        simp only [List.mem_cons, List.mem_singleton, List.not_mem_nil, or_false, not_or]
        exact ⟨Nat.ne_of_lt (Nat.lt_succ_self _), Nat.ne_of_gt ll⟩
      have vals : ∀ (i : Nat) (v : Value), items[i]? = some v → ∃ k t, ns[i]? = some k ∧ v = .int k t := fun i v hv => by
        have hi : i < ns.length := by rw [← many]; exact (Array.getElem?_eq_some_iff.mp hv).1
        obtain ⟨t, e⟩ := PyProof.Rows.IntsAre.int_at nums i v (by rw [Array.getElem?_toList]; exact hv)
        exact ⟨ns[i], t, List.getElem?_eq_getElem hi, by rw [e, List.getD_eq_getElem?_getD, List.getElem?_eq_getElem hi] <;> rfl⟩
      refine set_update_ints ((Walks.list free3 _ l unlike items).toS) s.heap.objs.size out ns many room vals (items.size - 0) 0 _ (by omega) (Nat.zero_le _) ⟨⟨_, Heap.get?_push_size _ rfl, rfl, rfl⟩, (list2.push _)⟩ ⟨0, Nat.le_refl 0, setR_new_at (Heap.get?_push_of_some _ stands)⟩ fun s' c' mv hc' hS' => ?_
      obtain ⟨h', g2, d', tk', os'⟩ := s'
      have eg : g2 = s.gens := mv.gens
      have ed : d' = s.drawn := mv.drawn
      have eo : os' = s.os := mv.os
      subst eg ed eo
      show wpAny _ _ _ _ _ _
      refine wpAny_pure ?_
      show wpAny _ _ (ret Value.none) _ _ _
      rw [many] at hc'
      refine wpAny_pure ⟨rfl, h', tk', c', rfl, hS', hc', fun b o e => ?_⟩
      have below : b < s.heap.objs.size := Heap.lt_size e
      refine mv.heap b o ?_ (Heap.get?_push_of_some _ (Heap.get?_push_of_some _ e))
      simp only [List.mem_cons, List.mem_singleton, List.not_mem_nil, or_false, not_or]
      exact ⟨Nat.ne_of_lt below, by rw [sz]; exact Nat.ne_of_lt (Nat.lt_succ_of_lt below)⟩
    · match r2, hr2 with
      | .error e, hr2 => exact hr2
      | .ok (.ret _), ⟨e1, h', tk, c', e2, hS', hc', hk'⟩ =>
        subst e1 e2
        repeat (any_goals (first | assumption | wp_step))
        exact then_ _ _ _ hS' hc' hk'
end
section
variable {X : Cx}
def rSetI (K : PySem.W.Frag) (w : World) : List V → Hp → VK → Prop := fun xs H Q => ∃ (l : Addr) (ns : List Int), xs = [.ref l] ∧ SqL K H l (ns.map V.int) ∧ ns.length < 4000 ∧ ∀ p c, H p = none → c ≤ ns.length → Q (.ref p) (upd H p (SetO w p (fun j => decide (j ∈ ns)) c))
theorem cr_setI (calm : X.calm = true) : CallR X (.type "set") (rSetI X.K X.w) := fun pins s σ H xs us Q I r h => by
  obtain ⟨l, ns, rfl, hs, small, q⟩ := h
  rw [Vals.ref1 r]
  obtain ⟨its, rv, hl, _⟩ := I.list hs
  refine set_of_list (I.ok.hd calm) hl.isList (ints_of_vals rv) (by unfold scanBound; omega) fun h' tk c new hc keep => ?_
  exact ⟨.ref _, upd H s.heap.objs.size (SetO X.w s.heap.objs.size (fun j => decide (j ∈ ns)) c), I.laid (t' := tk) keep (Nat.le_refl _) (setO_new new), rfl, q _ c (I.hok.fresh (Nat.le_refl _)) hc⟩
theorem kk_sortedSN (w : World) (calm : X.calm = true) (h : X.w = w := by rfl) : CallR X (.builtin "sorted") (rSortedSN w) := h ▸ cr_sortedSN calm
theorem kk_setI (K : PySem.W.Frag) (w : World) (calm : X.calm = true) (h1 : X.K = K := by rfl) (h2 : X.w = w := by rfl) : CallR X (.type "set") (rSetI K w) := by
  subst h1 h2
  exact cr_setI calm
end
/-! ### lists of tuples: the addresses beside what stands there -/
abbrev refs {α : Type} (L : List (Addr × α)) : List V := L.map fun q => V.ref q.1
def RowsAt {α : Type} (f : α → List V) (H : Hp) (L : List (Addr × α)) : Prop := ∀ q ∈ L, H q.1 = some (.tup (f q.2))
section
variable {α : Type} {f : α → List V} {H H' : Hp} {L M : List (Addr × α)} {K : PySem.W.Frag}
theorem RowsAt.same (h : RowsAt f H L) (e : Same H H') : RowsAt f H' L := fun q hq => e _ _ (h q hq)
theorem RowsAt.sub (h : RowsAt f H L) (e : ∀ q ∈ M, q ∈ L) : RowsAt f H M := fun q hq => h q (e q hq)
theorem RowsAt.but {b : Addr} {xs : List V} (h : RowsAt f H L) (hb : H b = some (.lst xs)) (t : But b H H') : RowsAt f H' L := fun q hq => t _ _ (ne_of (h q hq) hb (by intro z; cases z)) (h q hq)
theorem RowsAt.updL {D : Addr} {xs : List V} {o : HO} (h : RowsAt f H L) (hD : H D = some (.lst xs)) : RowsAt f (upd H D o) L := fun q hq => by
  rw [upd_ne (ne_of (h q hq) hD (by intro z; cases z))]
  exact h q hq
theorem RowsAt.snoc {q : Addr × α} (h : RowsAt f H L) (hq : H q.1 = some (.tup (f q.2))) : RowsAt f H (L ++ [q]) := fun x hx => by
  rcases List.mem_append.mp hx with y | y
  · exact h x y
  · rw [List.mem_singleton.mp y]
    exact hq
theorem RowsAt.nil : RowsAt f H ([] : List (Addr × α)) := fun _ h => (nomatch h)
theorem refs_at {i : Nat} {x : V} (h : (refs L)[i]? = some x) : ∃ q, L[i]? = some q ∧ x = .ref q.1 ∧ q ∈ L := by
  rw [List.getElem?_map] at h
  obtain ⟨q, hq, rfl⟩ := Option.map_eq_some_iff.mp h
  exact ⟨q, hq, rfl, List.mem_of_getElem? hq⟩
end
theorem refs_snoc {α : Type} (S : List (Addr × α)) (q : Addr × α) : refs (S ++ [q]) = refs S ++ [V.ref q.1] := by
  unfold refs
  rw [List.map_append]
  rfl
/-! what walks a list or a tuple that stands still -/
def JOk (H : Hp) (J : It) (xs : List V) : Prop := ∀ i G, Same H G → (i < xs.length → J.go i G) ∧ (i = xs.length → J.stop i G) ∧ ∀ x G', J.yld i G x G' → G' = G ∧ xs[i]? = some x
section
variable {K : PySem.W.Frag} {H : Hp} {a : Addr} {xs : List V}
theorem jok_l (h : SqL K H a xs) : JOk H (Itl K a) xs := fun i G s => by
  have q := s.seq h
  exact ⟨fun c => ⟨xs, _, q, List.getElem?_eq_getElem c⟩, fun c => ⟨xs, q, by omega⟩, fun x G' y => ⟨y.1, y.2 xs q⟩⟩
theorem jok_t (h : SqT K H a xs) : JOk H (Itt K a) xs := fun i G s => by
  have q := seqT_same s h
  exact ⟨fun c => ⟨xs, _, q, List.getElem?_eq_getElem c⟩, fun c => ⟨xs, q, by omega⟩, fun x G' y => ⟨y.1, y.2 xs q⟩⟩
theorem walk_or {σ : L2.St} {j : Nat} {R : It → Hp → Prop} (hv : σ[j]? = some (some (.ref a))) (hS : SqL K H a xs ∨ SqT K H a xs) (h : ∀ J, JOk H J xs → R J H) : iList K (tVar j) σ H R ∨ iTup K (tVar j) σ H R := by
  rcases hS with hS | hS
  · exact .inl ⟨_, hv, a, rfl, ⟨_, hS⟩, h _ (jok_l hS)⟩
  · exact .inr ⟨_, hv, a, rfl, ⟨_, hS⟩, h _ (jok_t hS)⟩
theorem walk_l {σ : L2.St} {j : Nat} {R : It → Hp → Prop} (hv : σ[j]? = some (some (.ref a))) (hS : SqL K H a xs) (h : ∀ J, JOk H J xs → R J H) : iList K (tVar j) σ H R := ⟨_, hv, a, rfl, ⟨_, hS⟩, h _ (jok_l hS)⟩
end
section
variable {α : Type} {f : α → List V} {H : Hp} {L : List (Addr × α)} {J : It} {g : TG} {tt : TT} {te : TE} {vs : List Nat} {σ : L2.St} {D : Addr} {Qd : Hp → Prop}
theorem take_snoc {β : Type} {l : List β} {i : Nat} {x : β} (h : l[i]? = some x) : l.take (i + 1) = l.take i ++ [x] := by
  rw [List.take_add_one, h]
  rfl
theorem filt_snoc {β : Type} {p : β → Bool} {l : List β} {x : β} : (l ++ [x]).filter p = l.filter p ++ (if p x = true then [x] else []) := by
  rw [List.filter_append, List.filter_cons]
  rfl
/-- a block over rows that takes some thing of some rows -/
theorem rows_lc (p : α → Bool) (el : Addr × α → V) (ok : JOk H J (refs L)) (hR : RowsAt f H L) (small : L.length ≤ 1000) (hD : H D = none)
    (turn : ∀ q ∈ L, ∀ G, Same H G → G q.1 = some (.tup (f q.2)) → ∀ (Y : VK) (N : Hp → Prop), (p q.2 = true → Y (el q) G) → (p q.2 = false → N G) → g (.ref q.1) (wipe σ vs) G fun σ2 H2 => wipe σ2 vs = wipe σ vs ∧ tt σ2 H2 fun b H3 => if b = true then te σ2 H3 Y else N H3)
    (last : ∀ G, Same H G → G D = some (.lst ((L.filter fun q => p q.2).map el)) → Qd G) :
    ∃ W : Nat → Nat → Hp → Prop, (∃ m, W 0 m (upd H D (.lst []))) ∧ ∀ i m H, W i m H → (J.stop i H ∧ Qd H) ∨ (J.go i H ∧ ∃ Nx : Hp → Prop, (∀ H', Nx H' → ∃ m', m' < m ∧ W (i + 1) m' H') ∧ ∀ x H', J.yld i H x H' → g x (wipe σ vs) H' fun σ2 H2 => wipe σ2 vs = wipe σ vs ∧ tt σ2 H2 fun b H3 =>
      if b = true then te σ2 H3 fun y H4 => ∃ acc, H4 D = some (.lst acc) ∧ acc.length < sizeLine ∧ Nx (upd H4 D (.lst (acc ++ [y]))) else Nx H3) := by
  have ln : (refs L).length = L.length := List.length_map ..
  refine lc_gen (n := L.length) (fun i G => Same H G ∧ G D = some (.lst (((L.take i).filter fun q => p q.2).map el))) ⟨same_new hD, upd_same⟩ (fun i G h => ?_) (fun i G v G' hi h y => ?_) (fun G h => ?_)
  · have := ok i G h.1
    rw [ln] at this
    exact ⟨this.1, this.2.1⟩
  · obtain ⟨rfl, hx⟩ := (ok i G h.1).2.2 v G' y
    obtain ⟨q, hq, rfl, hm⟩ := refs_at hx
    have le : (((L.take i).filter fun q => p q.2).map el).length ≤ i := by
      rw [List.length_map]
      exact Nat.le_trans (List.length_filter_le _ _) (by rw [List.length_take]; omega)
    refine turn q hm G' h.1 (h.1 _ _ (hR q hm)) _ _ (fun hp => ⟨_, h.2, Nat.lt_of_le_of_lt le (small1000 (by omega)), fun c o e => ?_, ?_⟩) (fun hp => ⟨h.1, ?_⟩)
    · rw [upd_ne (ne_of_none e hD)]
      exact h.1 _ _ e
    · rw [upd_same, take_snoc hq, filt_snoc, if_pos hp, List.map_append]
      rfl
    · rw [h.2, take_snoc hq, filt_snoc, if_neg (by rw [hp]; decide), List.append_nil]
  · obtain ⟨s, e⟩ := h
    rw [List.take_of_length_le (Nat.le_refl _)] at e
    exact last G s e
/-- a block over rows that makes a new tuple of some rows -/
theorem rows_lcA {β : Type} {f2 : β → List V} (p : α → Bool) (el : α → β) (ok : JOk H J (refs L)) (hR : RowsAt f H L) (small : L.length ≤ 1000) (hD : H D = none)
    (turn : ∀ q ∈ L, ∀ G, Same H G → G q.1 = some (.tup (f q.2)) → ∀ (Y : VK) (N : Hp → Prop), (p q.2 = true → ∀ t, G t = none → Y (.ref t) (upd G t (.tup (f2 (el q.2))))) → (p q.2 = false → N G) → g (.ref q.1) (wipe σ vs) G fun σ2 H2 => wipe σ2 vs = wipe σ vs ∧ tt σ2 H2 fun b H3 => if b = true then te σ2 H3 Y else N H3)
    (last : ∀ G (S : List (Addr × β)), Same H G → G D = some (.lst (refs S)) → RowsAt f2 G S → S.map (·.2) = ((L.map (·.2)).filter p).map el → Qd G) :
    ∃ W : Nat → Nat → Hp → Prop, (∃ m, W 0 m (upd H D (.lst []))) ∧ ∀ i m H, W i m H → (J.stop i H ∧ Qd H) ∨ (J.go i H ∧ ∃ Nx : Hp → Prop, (∀ H', Nx H' → ∃ m', m' < m ∧ W (i + 1) m' H') ∧ ∀ x H', J.yld i H x H' → g x (wipe σ vs) H' fun σ2 H2 => wipe σ2 vs = wipe σ vs ∧ tt σ2 H2 fun b H3 =>
      if b = true then te σ2 H3 fun y H4 => ∃ acc, H4 D = some (.lst acc) ∧ acc.length < sizeLine ∧ Nx (upd H4 D (.lst (acc ++ [y]))) else Nx H3) := by
  have ln : (refs L).length = L.length := List.length_map ..
  refine lc_gen (n := L.length) (fun i G => Same H G ∧ ∃ S : List (Addr × β), G D = some (.lst (refs S)) ∧ RowsAt f2 G S ∧ S.map (·.2) = (((L.take i).map (·.2)).filter p).map el) ⟨same_new hD, [], upd_same, .nil, rfl⟩ (fun i G h => ?_) (fun i G v G' hi h y => ?_) (fun G h => ?_)
  · have := ok i G h.1
    rw [ln] at this
    exact ⟨this.1, this.2.1⟩
  · obtain ⟨s, S, e, hS, hm⟩ := h
    obtain ⟨rfl, hx⟩ := (ok i G s).2.2 v G' y
    obtain ⟨q, hq, rfl, hmem⟩ := refs_at hx
    have le : (refs S).length ≤ i := by
      rw [List.length_map, ← List.length_map (f := (·.2)) (as := S), hm, List.length_map]
      exact Nat.le_trans (List.length_filter_le _ _) (by rw [List.length_map, List.length_take]; omega)
    have e1 : ((L.take (i + 1)).map (·.2)) = (L.take i).map (·.2) ++ [q.2] := by
      rw [take_snoc hq, List.map_append]
      rfl
    refine turn q hmem G' s (s _ _ (hR q hmem)) _ _ (fun hp t ht => ⟨_, same_new ht _ _ e, Nat.lt_of_le_of_lt le (small1000 (by omega)), fun c o ec => ?_, S ++ [(t, el q.2)], ?_, ?_, ?_⟩) (fun hp => ⟨s, S, e, hS, ?_⟩)
    · rw [upd_ne (ne_of_none ec hD)]
      exact same_new ht _ _ (s _ _ ec)
    · rw [upd_same, refs_snoc]
    · refine ((hS.same (same_new ht)).updL (same_new ht _ _ e)).snoc ?_
      show (upd (upd G' t _) D _) t = _
      rw [upd_ne (fun z => by rw [z, e] at ht; cases ht), upd_same]
    · rw [List.map_append, hm, e1, filt_snoc, if_pos hp, List.map_append]
      rfl
    · rw [hm, e1, filt_snoc, if_neg (by rw [hp]; decide), List.append_nil]
  · obtain ⟨s, S, e, hS, hm⟩ := h
    rw [List.take_of_length_le (Nat.le_refl _)] at hm
    exact last G S s e hS hm
/-- a set by a block over rows -/
theorem rows_sc {w : World} (key : α → Int) (ok : JOk H J (refs L)) (hR : RowsAt f H L) (small : L.length ≤ 1000) (hD : H D = none)
    (turn : ∀ q ∈ L, ∀ G, Same H G → G q.1 = some (.tup (f q.2)) → ∀ (Y : VK) (N : Hp → Prop), Y (.int (key q.2)) G → g (.ref q.1) (wipe σ vs) G fun σ2 H2 => wipe σ2 vs = wipe σ vs ∧ tt σ2 H2 fun b H3 => if b = true then te σ2 H3 Y else N H3)
    (last : ∀ G n, Same H G → n ≤ L.length → G D = some (SetO w D (fun k => decide (k ∈ L.map fun q => key q.2)) n) → Qd G) :
    ∃ W : Nat → Nat → Hp → Prop, (∃ m, W 0 m (upd H D (SetO w D (fun _ => false) 0))) ∧ ∀ i m H, W i m H → (J.stop i H ∧ Qd H) ∨ (J.go i H ∧ ∃ Nx : Hp → Prop, (∀ H', Nx H' → ∃ m', m' < m ∧ W (i + 1) m' H') ∧ ∀ x H', J.yld i H x H' → g x (wipe σ vs) H' fun σ2 H2 => wipe σ2 vs = wipe σ vs ∧ tt σ2 H2 fun b H3 =>
      if b = true then te σ2 H3 fun y H4 => ∃ (c : Int) (S : Int → Bool) (n : Nat), y = .int c ∧ H4 D = some (SetO w D S n) ∧ n + 1 < scanBound ∧ Nx (upd H4 D (SetO w D (fun j => S j || decide (j = c)) (if S c = true then n else n + 1))) else Nx H3) := by
  have ln : (refs L).length = L.length := List.length_map ..
  refine ⟨fun i m G => m + i = L.length ∧ Same H G ∧ ∃ n, n ≤ i ∧ G D = some (SetO w D (fun k => decide (k ∈ (L.take i).map fun q => key q.2)) n), ⟨L.length, by omega, same_new hD, 0, Nat.le_refl _, ?_⟩, fun i m G now => ?_⟩
  · rw [upd_same]
    congr 2
  · obtain ⟨em, s, n, le, e⟩ := now
    obtain ⟨c1, c2, c3⟩ := ok i G s
    rw [ln] at c1 c2
    by_cases c : i < L.length
    · refine .inr ⟨c1 c, fun G' => Same H G' ∧ ∃ n, n ≤ i + 1 ∧ G' D = some (SetO w D (fun k => decide (k ∈ (L.take (i + 1)).map fun q => key q.2)) n), fun G' z => ⟨m - 1, by omega, by omega, z.1, z.2⟩, fun x G' y => ?_⟩
      obtain ⟨rfl, hx⟩ := c3 x G' y
      obtain ⟨q, hq, rfl, hmem⟩ := refs_at hx
      refine turn q hmem G' s (s _ _ (hR q hmem)) _ _ ⟨_, _, _, rfl, e, by unfold scanBound; omega, fun c o ec => ?_, (if decide (key q.2 ∈ (L.take i).map fun q => key q.2) = true then n else n + 1), ?_, ?_⟩
      · rw [upd_ne (ne_of_none ec hD)]
        exact s _ _ ec
      · split <;> omega
      · rw [upd_same]
        congr 2
        funext k
        rw [take_snoc hq, List.map_append, List.map_singleton]
        by_cases z : k = key q.2
        · simp [z]
        · simp [z]
    · have z : i = L.length := by omega
      rw [z, List.take_of_length_le (Nat.le_refl _)] at e
      exact .inl ⟨c2 z, last G n s (by omega) e⟩
end
def topS (i : Nat) : Stmt := PySem.Challenge.pw_partwares_k28_what_prices_are.main.body.getD i (.Pass ⟨0, 0, 0, 0⟩)
section
variable {P : Program} {w : World} {K : PySem.W.Frag} {mg : Str → Option Value} {base : Heap}
/-! ### is_number_in -/
abbrev s_is_number_in : Stmt := topS 3
abbrev N_is_number_in : List Str := ["thing", "low", "high"]
theorem sc_is_number_in : FnScope N_is_number_in ["thing", "low", "high"] (defScope s_is_number_in) := ⟨rfl, rfl, rfl, by decide +kernel, rfl, by decide +kernel, by decide +kernel⟩
def sp_is_number_in (K : PySem.W.Frag) : Sp := fun vs H Q _ => ∃ (x : V) (d : PyData) (lo hi : Int), vs = [x, .int lo, .int hi] ∧ Dp K H x d ∧ Q (.bl (numIn d lo hi)) H
theorem ok_is_number_in {f : Addr} {fd : FuncData} (F : Fun K "is_number_in" "is_number_in" s_is_number_in f fd) (g : mg "is_number_in" = some (.ref f)) (bd : Binds K fd ["thing", "low", "high"] []) (m_isinstance : mg "isinstance" = none) (m_bool : mg "bool" = none) (m_int : mg "int" = none) : CF P w K mg base 1 "is_number_in" ["thing", "low", "high"] (sp_is_number_in K) := by
  refine ⟨f, fd, F.ok sc_is_number_in (fun vs H Q E h => ?_) (fun cdv A outer s H vs Q E hr h => ?_), g, F.kp, bd⟩
  · first | (obtain ⟨_, rfl, _⟩ := h; rfl) | (obtain ⟨_, _, rfl, _⟩ := h; rfl) | (obtain ⟨_, _, _, rfl, _⟩ := h; rfl) | (obtain ⟨_, _, _, _, rfl, _⟩ := h; rfl) | (obtain ⟨_, _, _, _, _, rfl, _⟩ := h; rfl) | (obtain ⟨_, _, _, _, _, _, rfl, _⟩ := h; rfl) | (obtain ⟨_, _, _, _, _, _, _, rfl, _⟩ := h; rfl)
  · have hu64 := hr.units
    obtain ⟨x, d, lo, hi, rfl, hd, q⟩ := h
    refine ⟨_, (pss_one (ps_ret (pe_and (pe_callB (kk_isi K) (by rfl) m_isinstance (by decide +kernel) (pa_cons (pv 0) (pa_cons (pe_bltn (v := .ty "int") (by rfl) m_int (by decide +kernel) rfl) pa_nil))) (pe_and (pe_not (pe_callB (kk_isi K) (by rfl) m_isinstance (by decide +kernel) (pa_cons (pv 0) (pa_cons (pe_bltn (v := .ty "bool") (by rfl) m_bool (by decide +kernel) rfl) pa_nil)))) (pe_one (pe_chain op_le op_le (pv 1) (pv 0) (pv 2))))))), ?_⟩
    have k1 := kit_d (K := K) (T := "int") (by decide) d
    have k2 := kit_d (K := K) (T := "bool") (by decide) d
    have ty := ty_of_dp hd
    refine ⟨_, rfl, _, _, _, _, _, rfl, .ty _, ty, k1, _, rfl, ?_⟩
    cases hd with
    | int i =>
      refine iteT ⟨_, rfl, _, _, _, _, _, rfl, .ty _, ty, k2, _, rfl, _, rfl, iteT ⟨_, rfl, _, rfl, _, _, rfl, rfl, _, rfl, ?_⟩⟩
      have e : numIn (.int i) lo hi = (decide (lo ≤ i) && decide (i ≤ hi)) := rfl
      rw [e] at q
      by_cases h1 : lo ≤ i
      · rw [decide_eq_true h1] at q ⊢
        exact iteT ⟨_, rfl, _, _, rfl, rfl, q⟩
      · rw [decide_eq_false h1] at q ⊢
        exact iteF q
    | bl b => exact iteT ⟨_, rfl, _, _, _, _, _, rfl, .ty _, ty, k2, _, rfl, _, rfl, iteF q⟩
    | non => exact iteF q
    | str z => exact iteF q
    | lst a b => exact iteF q
    | tup a b => exact iteF q
/-! ### _law_mix -/
abbrev s__law_mix : Stmt := topS 8
abbrev N__law_mix : List Str := ["_law_cell", "_law_k", "_law_m"]
theorem sc__law_mix : FnScope N__law_mix ["_law_cell", "_law_k"] (defScope s__law_mix) := ⟨rfl, rfl, rfl, by decide +kernel, rfl, by decide +kernel, by decide +kernel⟩
def sp__law_mix (K : PySem.W.Frag) : Sp := fun vs H Q _ => ∃ (x k : Int), vs = [.int x, .int k] ∧ 0 ≤ k ∧ k < 10000000000 ∧ ∀ r : Int, 0 ≤ r → r < 1999999973 → Q (.int r) H
theorem ok__law_mix {f : Addr} {fd : FuncData} (F : Fun K "_law_mix" "_law_mix" s__law_mix f fd) (g : mg "_law_mix" = some (.ref f)) (bd : Binds K fd ["_law_cell", "_law_k"] []) : CF P w K mg base 1 "_law_mix" ["_law_cell", "_law_k"] (sp__law_mix K) := by
  refine ⟨f, fd, F.ok sc__law_mix (fun vs H Q E h => ?_) (fun cdv A outer s H vs Q E hr h => ?_), g, F.kp, bd⟩
  · first | (obtain ⟨_, rfl, _⟩ := h; rfl) | (obtain ⟨_, _, rfl, _⟩ := h; rfl) | (obtain ⟨_, _, _, rfl, _⟩ := h; rfl) | (obtain ⟨_, _, _, _, rfl, _⟩ := h; rfl) | (obtain ⟨_, _, _, _, _, rfl, _⟩ := h; rfl) | (obtain ⟨_, _, _, _, _, _, rfl, _⟩ := h; rfl) | (obtain ⟨_, _, _, _, _, _, _, rfl, _⟩ := h; rfl)
  · have hu64 := hr.units
    obtain ⟨x, k, rfl, k0, k1, q⟩ := h
    refine ⟨_, (pss_cons (ps_set (i := 2) sc__law_mix.nd rfl (.inl rfl) (pe_op op_mod (pe_op op_mul (pe_op op_add (pe_op op_add (pe_op op_mod (pv 0) pe_int) (pe_op op_mul (pe_op op_mul (pv 1) (pv 1)) pe_int)) pe_int) pe_int) pe_int))
      (pss_one (ps_ret (pe_op op_mod (pe_op op_mul (pv 2) (pv 2)) pe_int)))), ?_⟩
    refine ⟨_, rfl, _, _, rfl, rfl, (by show (0 : Int) < 2147483629; decide), _, rfl, _, rfl, _, _, rfl, rfl, .inl ⟨by omega, by omega⟩, _, _, rfl, rfl, .inr ⟨by decide, by decide⟩, _, _, rfl, rfl, _, _, rfl, rfl, _, _, rfl, rfl, .inr ⟨by decide, by decide⟩, _, _, rfl, rfl, (by show (0 : Int) < 2147483647; decide), ?_⟩
    have o0 := Int.emod_nonneg ((x % 2147483629 + k * k * 7919 + 11) * 48271) (show (2147483647 : Int) ≠ 0 by decide)
    have o1 := Int.emod_lt_of_pos ((x % 2147483629 + k * k * 7919 + 11) * 48271) (show (0 : Int) < 2147483647 by decide)
    exact ⟨_, rfl, _, rfl, _, _, rfl, rfl, .inl ⟨by omega, by omega⟩, _, _, rfl, rfl, (by show (0 : Int) < 1999999973; decide), q _ (Int.emod_nonneg _ (by decide)) (Int.emod_lt_of_pos _ (by decide))⟩
/-! ### what is drawn from: three numbers -/
def Three (H : Hp) (b : Addr) (n : Int) : Prop := ∃ x c z : Int, H b = some (.lst [.int x, .int c, .int z]) ∧ 0 ≤ x ∧ 0 ≤ z ∧ z ≤ n
section
variable {K : PySem.W.Frag} {H H' : Hp} {b p : Addr} {n m : Int} {o : HO}
theorem Three.mono (h : Three H b n) (l : n ≤ m) : Three H b m := by
  obtain ⟨x, c, z, h0, h1, h2, h3⟩ := h
  exact ⟨x, c, z, h0, h1, h2, by omega⟩
theorem Three.same (h : Three H b n) (e : Same H H') : Three H' b n := by
  obtain ⟨x, c, z, h0, h1⟩ := h
  exact ⟨x, c, z, e _ _ h0, h1⟩
theorem Three.new (h : Three H b n) (e : H p = none) : Three (upd H p o) b n := h.same (same_new e)
theorem Three.ne (h : Three H b n) (e : H p = none) : p ≠ b := fun z => by
  obtain ⟨_, _, _, h0, _⟩ := h
  rw [z, h0] at e
  cases e
theorem Three.upd (h : Three H b n) (e : p ≠ b) : Three (upd H p o) b n := by
  obtain ⟨x, c, z, h0, h1⟩ := h
  exact ⟨x, c, z, by rw [upd_ne e.symm]; exact h0, h1⟩
theorem none_of {H H' : Hp} {p : Addr} (s : Same H H') (h : H' p = none) : H p = none := by
  cases e : H p with
  | none => rfl
  | some o =>
    rw [s _ _ e] at h
    cases h
theorem updNew {b D : Addr} {H G : Hp} {o : HO} (t : But b H G) (hD : H D = none) : But b H (L2.upd G D o) := fun c u n h => by
  rw [upd_ne (ne_of_none h hD)]
  exact t c u n h
/-- prices in the heap -/
def Prs (H : Hp) (as : List Addr) (ps : List (Int × Int)) : Prop := as.length = ps.length ∧ ∀ (i : Nat) (a : Addr) (p : Int × Int), as[i]? = some a → ps[i]? = some p → H a = some (.tup [.int p.1, .int p.2])
theorem Prs.same {as : List Addr} {ps : List (Int × Int)} (h : Prs H as ps) (e : Same H H') : Prs H' as ps := ⟨h.1, fun i a p h1 h2 => e _ _ (h.2 i a p h1 h2)⟩
theorem Prs.but {as : List Addr} {ps : List (Int × Int)} (h : Prs H as ps) (t : But b H H') (hb : Three H b n) : Prs H' as ps := by
  refine ⟨h.1, fun i a p h1 h2 => ?_⟩
  obtain ⟨_, _, _, h0, _⟩ := hb
  have := h.2 i a p h1 h2
  exact t _ _ (ne_of this h0 (by intro z; cases z)) this
theorem Prs.updL {as : List Addr} {ps : List (Int × Int)} {D : Addr} {xs : List V} (h : Prs H as ps) (hD : H D = some (.lst xs)) : Prs (L2.upd H D o) as ps := by
  refine ⟨h.1, fun i a p h1 h2 => ?_⟩
  have := h.2 i a p h1 h2
  rw [upd_ne (ne_of this hD (by intro z; cases z))]
  exact this
theorem Prs.snoc {as : List Addr} {ps : List (Int × Int)} {a : Addr} {q : Int × Int} (h : Prs H as ps) (ha : H a = some (.tup [.int q.1, .int q.2])) : Prs H (as ++ [a]) (ps ++ [q]) := by
  refine ⟨by rw [List.length_append, List.length_append, h.1]; rfl, fun i a' p h1 h2 => ?_⟩
  by_cases c : i < as.length
  · rw [List.getElem?_append_left c] at h1
    rw [List.getElem?_append_left (h.1 ▸ c)] at h2
    exact h.2 i a' p h1 h2
  · have hi : i < (as ++ [a]).length := (List.getElem?_eq_some_iff.mp h1).1
    rw [List.length_append] at hi
    have e : i = as.length := by
      have : [a].length = 1 := rfl
      omega
    rw [e, List.getElem?_append_right (Nat.le_refl _)] at h1
    rw [e, h.1, List.getElem?_append_right (Nat.le_refl _)] at h2
    simp at h1 h2
    subst h1 h2
    exact ha
end
theorem pick2i {r x y lo hi : Int} (h0 : 0 ≤ r) (h1 : r < 2) (hx : lo ≤ x ∧ x ≤ hi) (hy : lo ≤ y ∧ y ≤ hi) : ∃ v : Int, atI [V.int x, .int y] r = some (.int v) ∧ lo ≤ v ∧ v ≤ hi := by
  have h : r = 0 ∨ r = 1 := by omega
  rcases h with rfl | rfl
  · exact ⟨x, rfl, hx⟩
  · exact ⟨y, rfl, hy⟩
theorem pick3j {r x y z lo hi : Int} (h0 : 0 ≤ r) (h1 : r < 3) (hx : lo ≤ x ∧ x ≤ hi) (hy : lo ≤ y ∧ y ≤ hi) (hz : lo ≤ z ∧ z ≤ hi) : ∃ v : Int, atI [V.int x, .int y, .int z] r = some (.int v) ∧ lo ≤ v ∧ v ≤ hi := by
  have h : r = 0 ∨ r = 1 ∨ r = 2 := by omega
  rcases h with rfl | rfl | rfl
  · exact ⟨x, rfl, hx⟩
  · exact ⟨y, rfl, hy⟩
  · exact ⟨z, rfl, hz⟩
/-! ### _law_left -/
abbrev s__law_left : Stmt := topS 9
abbrev N__law_left : List Str := ["_law_script", "_law_k", "_law_cell"]
theorem sc__law_left : FnScope N__law_left ["_law_script", "_law_k"] (defScope s__law_left) := ⟨rfl, rfl, rfl, by decide +kernel, rfl, by decide +kernel, by decide +kernel⟩
def sp__law_left (K : PySem.W.Frag) : Sp := fun vs H Q _ => ∃ (a : Addr) (k : Int) (ns : List Int), vs = [.ref a, .int k] ∧ SqL K H a (ns.map V.int) ∧ 0 ≤ k ∧ k ≤ 63 ∧ ∀ H' b, H b = none → Same H H' → Three H' b 0 → Q (.ref b) H'
theorem ok__law_left {f : Addr} {fd : FuncData} (F : Fun K "_law_left" "_law_left" s__law_left f fd) (g : mg "_law_left" = some (.ref f)) (bd : Binds K fd ["_law_script", "_law_k"] []) (m_len : mg "len" = none) (m_abs : mg "abs" = none) (m_int : mg "int" = none) : CF P w K mg base 1 "_law_left" ["_law_script", "_law_k"] (sp__law_left K) := by
  refine ⟨f, fd, F.ok sc__law_left (fun vs H Q E h => ?_) (fun cdv A outer s H vs Q E hr h => ?_), g, F.kp, bd⟩
  · first | (obtain ⟨_, rfl, _⟩ := h; rfl) | (obtain ⟨_, _, rfl, _⟩ := h; rfl) | (obtain ⟨_, _, _, rfl, _⟩ := h; rfl) | (obtain ⟨_, _, _, _, rfl, _⟩ := h; rfl) | (obtain ⟨_, _, _, _, _, rfl, _⟩ := h; rfl) | (obtain ⟨_, _, _, _, _, _, rfl, _⟩ := h; rfl) | (obtain ⟨_, _, _, _, _, _, _, rfl, _⟩ := h; rfl)
  · have hu64 := hr.units
    obtain ⟨a, k, ns, rfl, hS, hk0, hk, q⟩ := h
    refine ⟨_, (pss_cons (ps_set (i := 2) sc__law_left.nd rfl (.inl rfl) (pe_ifExp (pt_cmpR op_lt (pv 1) (pe_callB (kk_len K) (by rfl) m_len PySem.boot_len (pa_cons (pv 0) pa_nil)) (nomark _)) (pe_ix (kk_ixl K) (pv 0) (pv 1) (fun _ _ => rfl)) pe_int))
      (pss_one (ps_ret (pe_lst (pa_cons (pe_op op_mul (pe_callB call_abs (by rfl) m_abs (by decide +kernel) (pa_cons (pv 2) pa_nil)) (pe_callTy call_int1 (by rfl) m_int (by decide +kernel) (pa_cons (pe_cmpR op_ge (pe_callB call_abs (by rfl) m_abs (by decide +kernel) (pa_cons (pv 2) pa_nil)) (pe_op op_pow pe_int pe_int) (nomark _)) pa_nil))) (pa_cons (pe_op op_add (pv 2) (pe_op op_mul pe_int (pv 1))) (pa_cons pe_int pa_nil))))))), ?_⟩
    refine ⟨_, rfl, _, rfl, a, _, rfl, .inl hS, _, _, rfl, rfl, _, rfl, ite2 (fun e => ?_) (fun e => ?_)⟩
    · have e1 := of_decide_eq_true e
      rw [List.length_map] at e1
      obtain ⟨c, hc⟩ := at_int hk0 e1
      refine ⟨_, rfl, _, rfl, a, _, _, _, rfl, rfl, hS, hc, ?_⟩
      refine ⟨_, rfl, _, rfl, _, rfl, _, rfl, _, _, rfl, rfl, ⟨by decide, by decide, by decide⟩, _, _, rfl, rfl, .inr ⟨_, rfl, _, _, rfl, rfl, .inr ⟨?_, ?_⟩, _, rfl, _, rfl, _, _, rfl, rfl, .inl ⟨by decide, by decide⟩, _, _, rfl, rfl, (by show 3 ≤ sizeLine; decide), fun p hp => ?_⟩⟩
      · split <;> omega
      · split <;> omega
      · refine q _ p hp (same_new hp) ⟨_, _, _, upd_same, ?_, by omega, by omega⟩
        refine Int.mul_nonneg ?_ ?_ <;> split <;> omega
    · refine ⟨_, rfl, _, rfl, _, rfl, _, rfl, _, _, rfl, rfl, ⟨by decide, by decide, by decide⟩, _, _, rfl, rfl, .inr ⟨_, rfl, _, _, rfl, rfl, .inr ⟨?_, ?_⟩, _, rfl, _, rfl, _, _, rfl, rfl, .inl ⟨by decide, by decide⟩, _, _, rfl, rfl, (by show 3 ≤ sizeLine; decide), fun p hp => ?_⟩⟩
      · split <;> omega
      · split <;> omega
      · refine q _ p hp (same_new hp) ⟨_, _, _, upd_same, ?_, by omega, by omega⟩
        refine Int.mul_nonneg ?_ ?_ <;> split <;> omega
/-! ### _law_pick -/
abbrev s__law_pick : Stmt := topS 10
abbrev N__law_pick : List Str := ["_law_left_here", "_law_many", "_law_digit"]
theorem sc__law_pick : FnScope N__law_pick ["_law_left_here", "_law_many"] (defScope s__law_pick) := ⟨rfl, rfl, rfl, by decide +kernel, rfl, by decide +kernel, by decide +kernel⟩
def sp__law_pick (K : PySem.W.Frag) : Sp := fun vs H Q _ => ∃ (b : Addr) (m n : Int), vs = [.ref b, .int m] ∧ Three H b n ∧ 0 < m ∧ m < 1073741824 ∧ n < 1000000000 ∧ ∀ (r : Int) H', 0 ≤ r → r < m → Three H' b (n + 1) → But b H H' → Q (.int r) H'
theorem ok__law_pick {f : Addr} {fd : FuncData} (F : Fun K "_law_pick" "_law_pick" s__law_pick f fd) (g : mg "_law_pick" = some (.ref f)) (bd : Binds K fd ["_law_left_here", "_law_many"] []) (C__law_mix : CF P w K mg base 1 "_law_mix" ["_law_cell", "_law_k"] (sp__law_mix K)) : CF P w K mg base 2 "_law_pick" ["_law_left_here", "_law_many"] (sp__law_pick K) := by
  refine ⟨f, fd, F.ok sc__law_pick (fun vs H Q E h => ?_) (fun cdv A outer s H vs Q E hr h => ?_), g, F.kp, bd⟩
  · first | (obtain ⟨_, rfl, _⟩ := h; rfl) | (obtain ⟨_, _, rfl, _⟩ := h; rfl) | (obtain ⟨_, _, _, rfl, _⟩ := h; rfl) | (obtain ⟨_, _, _, _, rfl, _⟩ := h; rfl) | (obtain ⟨_, _, _, _, _, rfl, _⟩ := h; rfl) | (obtain ⟨_, _, _, _, _, _, rfl, _⟩ := h; rfl) | (obtain ⟨_, _, _, _, _, _, _, rfl, _⟩ := h; rfl)
  · have hu64 := hr.units
    obtain ⟨b, m, n, rfl, ⟨x, c, z, hb, hx, hz, hz2⟩, hm, hm2, hn, q⟩ := h
    refine ⟨_, (pss_cons (ps_asg (pe_op op_add (pe_ix (kk_ixl K) (pv 0) pe_int (fun _ _ => rfl)) pe_int) (pg_sub (pv 0) pe_int set_list))
      (pss_cons (ps_if (pt_cmpR op_gt (pe_ix (kk_ixl K) (pv 0) pe_int (fun _ _ => rfl)) pe_int (nomark _))
         (pss_cons (ps_set (i := 2) sc__law_pick.nd rfl (.inl rfl) (pe_op op_mod (pe_ix (kk_ixl K) (pv 0) pe_int (fun _ _ => rfl)) (pv 1)))
          (pss_cons (ps_asg (pe_op op_fdiv (pe_ix (kk_ixl K) (pv 0) pe_int (fun _ _ => rfl)) (pv 1)) (pg_sub (pv 0) pe_int set_list))
          (pss_one (ps_ret (pv 2)))))
         pss_nil)
      (pss_one (ps_ret (pe_op op_mod (pe_op op_fdiv (pe_cf C__law_mix (hr.mono (by decide)) (by rfl) (pa_cons (pe_cf C__law_mix (hr.mono (by decide)) (by rfl) (pa_cons (pe_ix (kk_ixl K) (pv 0) pe_int (fun _ _ => rfl)) (pa_cons (pe_ix (kk_ixl K) (pv 0) pe_int (fun _ _ => rfl)) pa_nil))) (pa_cons (pe_op op_add (pe_ix (kk_ixl K) (pv 0) pe_int (fun _ _ => rfl)) pe_int) pa_nil))) pe_int) (pv 1)))))), ?_⟩
    have h1 : (upd H b (.lst [.int x, .int c, .int (z + 1)])) b = some (.lst [.int x, .int c, .int (z + 1)]) := upd_same
    refine ⟨_, rfl, b, _, _, _, rfl, rfl, SqL.of hb, rfl, _, _, rfl, rfl, _, rfl, b, _, _, _, rfl, rfl, hb, rfl, ?_⟩
    refine ⟨_, rfl, b, _, _, _, rfl, rfl, SqL.of h1, rfl, _, _, rfl, rfl, _, rfl, ite2 (fun e => ?_) (fun e => ?_)⟩
    · refine ⟨_, rfl, b, _, _, _, rfl, rfl, SqL.of h1, rfl, _, rfl, _, _, rfl, rfl, hm, ?_⟩
      refine ⟨_, rfl, b, _, _, _, rfl, rfl, SqL.of h1, rfl, _, rfl, _, _, rfl, rfl, ⟨hm, hm2⟩, _, rfl, b, _, _, _, rfl, rfl, h1, rfl, ?_⟩
      exact ⟨_, rfl, q _ _ (Int.emod_nonneg _ (by omega)) (Int.emod_lt_of_pos _ hm) ⟨x / m, c, z + 1, upd_same, Int.ediv_nonneg hx (by omega), by omega, by omega⟩ (But.upd.trans But.upd)⟩
    · refine ⟨_, rfl, b, _, _, _, rfl, rfl, SqL.of h1, rfl, _, rfl, b, _, _, _, rfl, rfl, SqL.of h1, rfl, c, z + 1, rfl, by omega, by omega, fun r1 r10 r11 => ?_⟩
      refine ⟨_, rfl, b, _, _, _, rfl, rfl, SqL.of h1, rfl, _, _, rfl, rfl, r1, z + 1 + 64, rfl, by omega, by omega, fun r2 r20 r21 => ?_⟩
      exact ⟨_, _, rfl, rfl, ⟨by decide, by decide⟩, _, rfl, _, _, rfl, rfl, hm, q _ _ (Int.emod_nonneg _ (by omega)) (Int.emod_lt_of_pos _ hm) ⟨x, c, z + 1, h1, hx, by omega, by omega⟩ But.upd⟩
/-! ### _law_prices -/
abbrev s__law_prices : Stmt := topS 11
abbrev N__law_prices : List Str := ["_law_left_here", "_law_many", "_law_day", "_law_found", "_law_most", "_law_turn"]
theorem sc__law_prices : FnScope N__law_prices ["_law_left_here", "_law_many"] (defScope s__law_prices) := ⟨rfl, rfl, rfl, by decide +kernel, rfl, by decide +kernel, by decide +kernel⟩
abbrev RiseS (ps : List (Int × Int)) : Prop := ps.Pairwise (fun a b => a.1 < b.1)
def Okp (ps : List (Int × Int)) : Prop := ∀ p ∈ ps, 0 ≤ p.1 ∧ p.1 ≤ 400 ∧ 1 ≤ p.2 ∧ p.2 ≤ 1000000
def sp__law_prices (K : PySem.W.Frag) : Sp := fun vs H Q _ => ∃ (b : Addr) (many n : Int), vs = [.ref b, .int many] ∧ Three H b n ∧ n < 1000000 ∧ 0 ≤ many ∧ many ≤ 60 ∧
  ∀ H' L as ps, Three H' b (n + 3 + 3 * many) → But b H H' → H L = none → L ≠ b → H' L = some (.lst (as.map V.ref)) → Prs H' as ps → RiseS ps → Okp ps → (ps.length : Int) ≤ many → Q (.ref L) H'
theorem ok__law_prices {f : Addr} {fd : FuncData} (F : Fun K "_law_prices" "_law_prices" s__law_prices f fd) (g : mg "_law_prices" = some (.ref f)) (bd : Binds K fd ["_law_left_here", "_law_many"] []) (m_range : mg "range" = none) (C__law_pick : CF P w K mg base 2 "_law_pick" ["_law_left_here", "_law_many"] (sp__law_pick K)) : CF P w K mg base 3 "_law_prices" ["_law_left_here", "_law_many"] (sp__law_prices K) := by
  refine ⟨f, fd, F.ok sc__law_prices (fun vs H Q E h => ?_) (fun cdv A outer s H vs Q E hr h => ?_), g, F.kp, bd⟩
  · first | (obtain ⟨_, rfl, _⟩ := h; rfl) | (obtain ⟨_, _, rfl, _⟩ := h; rfl) | (obtain ⟨_, _, _, rfl, _⟩ := h; rfl) | (obtain ⟨_, _, _, _, rfl, _⟩ := h; rfl) | (obtain ⟨_, _, _, _, _, rfl, _⟩ := h; rfl) | (obtain ⟨_, _, _, _, _, _, rfl, _⟩ := h; rfl) | (obtain ⟨_, _, _, _, _, _, _, rfl, _⟩ := h; rfl)
  · have hu64 := hr.units
    obtain ⟨b, many, n, rfl, hb, hn, m0, m1, q⟩ := h
    refine ⟨_, (pss_cons (ps_par3 (i := 2) (j := 3) (l := 4) (by rfl) sc__law_prices.nd rfl rfl rfl (by decide) (by decide) (by decide) rfl rfl rfl (pa_cons (pe_cf C__law_pick (hr.mono (by decide)) (by rfl) (pa_cons (pv 0) (pa_cons (pe_ix (kk_ixl K) (pe_lst (pa_cons pe_int (pa_cons pe_int pa_nil))) (pe_cf C__law_pick (hr.mono (by decide)) (by rfl) (pa_cons (pv 0) (pa_cons pe_int pa_nil))) (fun _ _ => rfl)) pa_nil))) (pa_cons (pe_lst pa_nil) (pa_cons (pe_ix (kk_ixl K) (pe_lst (pa_cons pe_int (pa_cons pe_int (pa_cons (pe_op op_pow pe_int pe_int) pa_nil)))) (pe_cf C__law_pick (hr.mono (by decide)) (by rfl) (pa_cons (pv 0) (pa_cons pe_int pa_nil))) (fun _ _ => rfl)) pa_nil))) (by rfl))
      (pss_cons (ps_for PassesOwn.never rfl (pi_range1 (by rfl) m_range (pa_cons (pv 1) pa_nil)) (pg_name (i := 5) sc__law_prices.nd rfl (.inl rfl))
         (pss_cons (ps_if (pt_cmpR op_le (pv 2) pe_int (nomark _))
             (pss_one (ps_expr (pe_bm PySem.F.plainAttrs_list PySem.F.slot_list_append PySem.F.type_list_append mt_append (pv 3) (pa_cons (pe_tup (pa_cons (pv 2) (pa_cons (pe_op op_add pe_int (pe_cf C__law_pick (hr.mono (by decide)) (by rfl) (pa_cons (pv 0) (pa_cons (pv 4) pa_nil)))) pa_nil))) pa_nil))))
             pss_nil)
          (pss_one (ps_set (i := 2) sc__law_prices.nd rfl (.inl rfl) (pe_op op_add (pe_op op_add (pv 2) pe_int) (pe_cf C__law_pick (hr.mono (by decide)) (by rfl) (pa_cons (pv 0) (pa_cons (pe_ix (kk_ixl K) (pe_lst (pa_cons pe_int (pa_cons pe_int (pa_cons pe_int pa_nil)))) (pe_cf C__law_pick (hr.mono (by decide)) (by rfl) (pa_cons (pv 0) (pa_cons pe_int pa_nil))) (fun _ _ => rfl)) pa_nil))))))))
      (pss_one (ps_ret (pv 3))))), ?_⟩
    refine ⟨_, rfl, (by show 2 ≤ sizeLine; decide), fun l1 n1 => ?_⟩
    refine ⟨_, rfl, b, 2, _, rfl, hb.new n1, by decide, by decide, by omega, fun r1 H1 r10 r11 b1 t1 => ?_⟩
    obtain ⟨v1, hv1, v10, v11⟩ := pick2i (lo := 3) (hi := 300) (x := 3) (y := 300) r10 r11 (by omega) (by omega)
    refine ⟨l1, _, _, _, rfl, rfl, SqL.of (t1 _ _ (hb.ne n1) upd_same), hv1, ?_⟩
    refine ⟨b, v1, _, rfl, b1, by omega, by omega, by omega, fun d0 H2 d00 d01 b2 t2 => ?_⟩
    have T2 := ((But.new (b := b) (o := .lst [.int 3, .int 300]) n1).trans t1).trans t2
    refine ⟨(by show 0 ≤ sizeLine; decide), fun L nL => ?_⟩
    have nLb : L ≠ b := b2.ne nL
    have nL0 : H L = none := by
      cases e : H L with
      | none => rfl
      | some o =>
        rw [T2 _ _ nLb e] at nL
        cases nL
    refine ⟨_, _, rfl, rfl, ⟨by decide, by decide, by decide⟩, (by show 3 ≤ sizeLine; decide), fun l2 n2 => ?_⟩
    have s2 := (same_new (o := .lst []) nL).trans (same_new (o := .lst [.int 5, .int 99, .int (10 ^ (6 : Int).toNat)]) n2)
    have hL2 := (same_new (o := .lst [.int 5, .int 99, .int (10 ^ (6 : Int).toNat)]) n2) _ _ (upd_same (H := H2) (a := L) (o := .lst []))
    have b3 := b2.same s2
    have n2b : l2 ≠ b := (b2.new nL).ne n2
    have hl2 := upd_same (H := upd H2 L (.lst [])) (a := l2) (o := .lst [.int 5, .int 99, .int (10 ^ (6 : Int).toNat)])
    have T3 := T2.trans (But.of s2)
    generalize upd (upd H2 L (.lst [])) l2 (.lst [.int 5, .int 99, .int (10 ^ (6 : Int).toNat)]) = G3 at *
    refine ⟨_, rfl, b, 3, _, rfl, b3, by decide, by decide, by omega, fun r2 H4 r20 r21 b4 t4 => ?_⟩
    obtain ⟨v2, hv2, v20, v21⟩ := pick3j (lo := 5) (hi := 1000000) (x := 5) (y := 99) (z := 10 ^ (6 : Int).toNat) r20 r21 (by omega) (by omega) (by show (5 : Int) ≤ 1000000 ∧ (1000000 : Int) ≤ 1000000; omega)
    refine ⟨l2, _, _, _, rfl, rfl, SqL.of (t4 _ _ n2b hl2), hv2, _, _, _, rfl, ?_⟩
    have T4 := T3.trans t4
    have hL4 := t4 _ _ nLb hL2
    refine ⟨_, rfl, _, rfl, by omega, by omega, for_range (fun i σ H' => ∃ (day : Int) (as : List Addr) (ps : List (Int × Int)) (s5 : Option V), σ = [some (.ref b), some (.int many), some (.int day), some (.ref L), some (.int v2), s5] ∧ 0 ≤ day ∧ Three H' b (n + 3 + 3 * i) ∧ But b H H' ∧ H' L = some (.lst (as.map V.ref)) ∧ Prs H' as ps ∧ RiseS ps ∧ Okp ps ∧ ps.length ≤ i ∧ ∀ p ∈ ps, p.1 < day) ⟨d0, [], [], _, rfl, d00, b4.mono (by omega), T4, hL4, ⟨rfl, fun i a p h _ => by simp at h⟩, .nil, fun p h => (nomatch h), Nat.le_refl _, fun p h => (nomatch h)⟩ (fun i σ H' hi h => ?_) (fun σ H' h => ?_)⟩
    · obtain ⟨day, as, ps, s5, rfl, hd0, bI, tI, hLI, hP, hrs, hok, hlen, hlt⟩ := h
      have stepE : ∀ (H5 : Hp) (as' : List Addr) (ps' : List (Int × Int)), Three H5 b (n + 3 + 3 * i + 1) → But b H H5 → H5 L = some (.lst (as'.map V.ref)) → Prs H5 as' ps' → RiseS ps' → Okp ps' → ps'.length ≤ i + 1 → (∀ p ∈ ps', p.1 ≤ day) → ∀ (D : Ends), (∀ σ2 H6, (∃ (day : Int) (as : List Addr) (ps : List (Int × Int)) (s5 : Option V), σ2 = [some (.ref b), some (.int many), some (.int day), some (.ref L), some (.int v2), s5] ∧ 0 ≤ day ∧ Three H6 b (n + 3 + 3 * (i + 1 : Nat)) ∧ But b H H6 ∧ H6 L = some (.lst (as.map V.ref)) ∧ Prs H6 as ps ∧ RiseS ps ∧ Okp ps ∧ ps.length ≤ i + 1 ∧ ∀ p ∈ ps, p.1 < day) → D.nx σ2 H6) →
          (tAsg (tOp (rI0 fun i j => V.int (i + j)) (tOp (rI0 fun i j => V.int (i + j)) (tVar 2) (tC (V.int 1))) (tCall (sp__law_pick K) [] E0 (tCons (tVar 0) (tCons (tOp (rIxL K) (tLst (tCons (tC (V.int 1)) (tCons (tC (V.int 4)) (tCons (tC (V.int 40)) tNil)))) (tCall (sp__law_pick K) [] E0 (tCons (tVar 0) (tCons (tC (V.int 3)) tNil)))) tNil)))) (gName 2)) D [some (.ref b), some (.int many), some (.int day), some (.ref L), some (.int v2), some (.int (0 + i))] H5 := fun H5 as' ps' b5 t5 hL5 hP5 hr5 ho5 hl5 hle D hD => by
        refine ⟨_, rfl, _, _, rfl, rfl, _, rfl, (by show 3 ≤ sizeLine; decide), fun c1 m1' => ?_⟩
        have u1 := same_new (o := .lst [.int 1, .int 4, .int 40]) m1'
        refine ⟨_, rfl, b, 3, _, rfl, b5.new m1', by decide, by decide, by omega, fun x H6 x0 x1 b6 t6 => ?_⟩
        obtain ⟨w, hw, w0, w1⟩ := pick3j (lo := 1) (hi := 40) (x := 1) (y := 4) (z := 40) x0 x1 (by omega) (by omega) (by omega)
        refine ⟨c1, _, _, _, rfl, rfl, SqL.of (t6 _ _ (b5.ne m1') upd_same), hw, ?_⟩
        refine ⟨b, w, _, rfl, b6, by omega, by omega, by omega, fun y H7 y0 y1 b7 t7 => ⟨_, _, rfl, rfl, hD _ _ ⟨day + 1 + y, as', ps', _, rfl, by omega, b7.mono (by omega), ((t5.trans (But.of u1)).trans t6).trans t7, ?_, ((hP5.same u1).but t6 (b5.new m1')).but t7 b6, hr5, ho5, hl5, fun p hp => by have := hle p hp; omega⟩⟩⟩
        exact t7 _ _ nLb (t6 _ _ nLb (u1 _ _ hL5))
      refine ⟨_, rfl, _, _, rfl, rfl, _, rfl, ite2 (fun z => ?_) (fun z => ?_)⟩
      · have z1 : day ≤ 400 := of_decide_eq_true z
        refine ⟨_, rfl, .inl ⟨rfl, _, SqL.of hLI⟩, _, rfl, _, rfl, _, rfl, b, v2, _, rfl, bI, by omega, by omega, by omega, fun x H5 x0 x1 b5 t5 => ⟨_, _, rfl, rfl, (by show 2 ≤ sizeLine; decide), fun u nu => ?_⟩⟩
        have sU := same_new (o := .tup [.int day, .int (1 + x)]) nu
        have hL5 := sU _ _ (t5 _ _ nLb hLI)
        have hU := upd_same (H := H5) (a := u) (o := .tup [.int day, .int (1 + x)])
        have hP5 := (hP.but t5 bI).same sU
        have b6 := b5.same sU
        have T5 := (tI.trans t5).trans (But.of sU)
        generalize upd H5 u (.tup [.int day, .int (1 + x)]) = G5 at *
        refine ⟨L, _, _, rfl, rfl, hL5, ?_, ?_⟩
        · rw [List.length_map, hP.1]
          exact small1000 (by omega)
        refine stepE _ (as ++ [u]) (ps ++ [(day, 1 + x)]) ((b6.mono (by omega)).upd nLb) (updNew T5 nL0) (by rw [upd_same, List.map_append]; rfl) ?_ ?_ ?_ (by rw [List.length_append]; exact Nat.add_le_add_right hlen 1) ?_ _ (fun σ2 H6 h => h)
        · refine (hP5.updL hL5).snoc ?_
          rw [upd_ne (ne_of hU hL5 (by intro z; cases z))]
          exact hU
        · refine List.pairwise_append.mpr ⟨hrs, List.pairwise_singleton _ _, fun p hp r hr' => ?_⟩
          rw [List.mem_singleton.mp hr']
          exact hlt p hp
        · intro p hp
          rcases List.mem_append.mp hp with h | h
          · exact hok p h
          · rw [List.mem_singleton.mp h]
            exact ⟨hd0, z1, by show 1 ≤ 1 + x; omega, by show 1 + x ≤ 1000000; omega⟩
        · intro p hp
          rcases List.mem_append.mp hp with h | h
          · exact Int.le_of_lt (hlt p h)
          · rw [List.mem_singleton.mp h]
            exact Int.le_refl _
      · exact stepE H' as ps (bI.mono (by omega)) tI hLI hP hrs hok (by omega) (fun p hp => Int.le_of_lt (hlt p hp)) _ (fun σ2 H6 h => h)
    · obtain ⟨day, as, ps, s5, rfl, hd0, bI, tI, hLI, hP, hrs, hok, hlen, hlt⟩ := h
      exact ⟨_, rfl, q _ L as ps (bI.mono (by omega)) tI nL0 nLb hLI hP hrs hok (by omega)⟩
set_option maxHeartbeats 2000000
/-! ### what prices are, of any data -/
def isPr : PyData → Bool
  | .tuple [a, b] => numIn a 0 400 && numIn b 1 1000000
  | _ => false
def dayD : PyData → Int
  | .tuple (.int i :: _) => i
  | _ => 0
def seqD : PyData → Option (List PyData)
  | .list l => some l
  | .tuple l => some l
  | _ => none
def risB (ns : List Int) : Bool := decide (ns.Pairwise (· < ·))
def arePr (d : PyData) : Bool := match seqD d with
  | some l => l.all isPr && risB (l.map dayD)
  | none => false
theorem seq_dp {K : PySem.W.Frag} {H : Hp} {x : V} {d : PyData} (h : Dp K H x d) : (∃ a xs ds, x = .ref a ∧ (SqL K H a xs ∨ SqT K H a xs) ∧ DpAll K H xs ds ∧ seqD d = some ds ∧ (isK "list" d || isK "tuple" d) = true) ∨ (seqD d = none ∧ (isK "list" d || isK "tuple" d) = false) := by
  cases h with
  | lst a b => exact .inl ⟨_, _, _, rfl, .inl a, b, rfl, rfl⟩
  | tup a b => exact .inl ⟨_, _, _, rfl, .inr a, b, rfl, rfl⟩
  | _ => exact .inr ⟨rfl, rfl⟩
theorem num_int {d : PyData} {lo hi : Int} (h : numIn d lo hi = true) : ∃ i, d = .int i ∧ lo ≤ i ∧ i ≤ hi := by
  cases d with
  | int i =>
    have q : (decide (lo ≤ i) && decide (i ≤ hi)) = true := h
    rw [Bool.and_eq_true, decide_eq_true_eq, decide_eq_true_eq] at q
    exact ⟨i, rfl, q⟩
  | _ => exact absurd h (by intro z; cases z)
theorem pr_form {d : PyData} (p : isPr d = true) : ∃ i j, d = .tuple [.int i, .int j] ∧ 0 ≤ i ∧ i ≤ 400 ∧ 1 ≤ j ∧ j ≤ 1000000 := by
  unfold isPr at p
  split at p
  · rw [Bool.and_eq_true] at p
    obtain ⟨i, rfl, i0, i1⟩ := num_int p.1
    obtain ⟨j, rfl, j0, j1⟩ := num_int p.2
    exact ⟨i, j, rfl, i0, i1, j0, j1⟩
  · cases p
theorem price_dp {K : PySem.W.Frag} {H : Hp} {x : V} {d : PyData} (h : Dp K H x d) (p : isPr d = true) : ∃ a i j, x = .ref a ∧ d = .tuple [.int i, .int j] ∧ SqT K H a [.int i, .int j] ∧ 0 ≤ i ∧ i ≤ 400 ∧ 1 ≤ j ∧ j ≤ 1000000 := by
  obtain ⟨i, j, rfl, b⟩ := pr_form p
  cases h with
  | @tup a xs ds hS hA =>
    cases hA with
    | cons h1 r1 =>
      cases r1 with
      | cons h2 r2 =>
        cases r2
        cases h1
        cases h2
        exact ⟨a, i, j, rfl, rfl, hS, b⟩
theorem dp_at {K : PySem.W.Frag} {H : Hp} : ∀ {xs : List V} {ds : List PyData}, DpAll K H xs ds → xs.length = ds.length ∧ ∀ (i : Nat) (x : V), xs[i]? = some x → ∃ d, ds[i]? = some d ∧ Dp K H x d
  | _, _, .nil => ⟨rfl, fun i x h => by simp at h⟩
  | _, _, .cons a b => by
    obtain ⟨l, f⟩ := dp_at b
    refine ⟨by rw [List.length_cons, List.length_cons, l], fun i x h => ?_⟩
    match i, h with
    | 0, h => cases h; exact ⟨_, rfl, a⟩
    | i + 1, h => exact f i x h
section
variable {K : PySem.W.Frag} {H : Hp} {xs : List V} {ds : List PyData} {J : It} {g : TG} {tt : TT} {te : TE} {vs : List Nat} {σ : L2.St} {D : Addr} {Qd : Hp → Prop}
theorem data_lc (el : PyData → V) (ok : JOk H J xs) (hA : DpAll K H xs ds) (small : xs.length ≤ 1000) (hD : H D = none)
    (turn : ∀ (i : Nat) x d, ds[i]? = some d → ∀ G, Same H G → Dp K G x d → ∀ (Y : VK) (N : Hp → Prop), (∀ G', Same G G' → Y (el d) G') → g x (wipe σ vs) G fun σ2 H2 => wipe σ2 vs = wipe σ vs ∧ tt σ2 H2 fun b H3 => if b = true then te σ2 H3 Y else N H3)
    (last : ∀ G, Same H G → G D = some (.lst (ds.map el)) → Qd G) :
    ∃ W : Nat → Nat → Hp → Prop, (∃ m, W 0 m (upd H D (.lst []))) ∧ ∀ i m H, W i m H → (J.stop i H ∧ Qd H) ∨ (J.go i H ∧ ∃ Nx : Hp → Prop, (∀ H', Nx H' → ∃ m', m' < m ∧ W (i + 1) m' H') ∧ ∀ x H', J.yld i H x H' → g x (wipe σ vs) H' fun σ2 H2 => wipe σ2 vs = wipe σ vs ∧ tt σ2 H2 fun b H3 =>
      if b = true then te σ2 H3 fun y H4 => ∃ acc, H4 D = some (.lst acc) ∧ acc.length < sizeLine ∧ Nx (upd H4 D (.lst (acc ++ [y]))) else Nx H3) := by
  obtain ⟨ln, at_⟩ := dp_at hA
  refine lc_gen (n := xs.length) (fun i G => Same H G ∧ G D = some (.lst ((ds.take i).map el))) ⟨same_new hD, upd_same⟩ (fun i G h => ⟨(ok i G h.1).1, (ok i G h.1).2.1⟩) (fun i G v G' hi h y => ?_) (fun G h => ?_)
  · obtain ⟨rfl, hx⟩ := (ok i G h.1).2.2 v G' y
    obtain ⟨d, hd, hp⟩ := at_ i v hx
    refine turn i v d hd G' h.1 (dp_same h.1 hp) _ _ fun G2 s2 => ⟨_, s2 _ _ h.2, ?_, fun c o e => ?_, ?_⟩
    · rw [List.length_map, List.length_take]
      exact small1000 (by omega)
    · rw [upd_ne (ne_of_none e hD)]
      exact s2 _ _ (h.1 _ _ e)
    · rw [upd_same, take_snoc hd, List.map_append]
      rfl
  · obtain ⟨s, e⟩ := h
    rw [ln, List.take_of_length_le (Nat.le_refl _)] at e
    exact last G s e
end
theorem notN {c A B : Prop} [Decidable c] (hc : ¬ c) (h : A) : if (!decide c) = true then A else B := by
  rw [decide_eq_false hc]
  exact iteT h
theorem zip_rise : ∀ ns : List Int, (ns.zip (ns.drop 1)).all (fun p => decide (p.1 < p.2)) = risB ns
  | [] => rfl
  | [x] => by simp [risB]
  | x :: y :: r => by
    have ih := zip_rise (y :: r)
    have e : ((x :: y :: r).zip ((x :: y :: r).drop 1)) = (x, y) :: ((y :: r).zip ((y :: r).drop 1)) := rfl
    rw [e, List.all_cons, ih]
    unfold risB
    rw [Bool.eq_iff_iff, Bool.and_eq_true, decide_eq_true_eq, decide_eq_true_eq, decide_eq_true_eq]
    constructor
    · rintro ⟨a, b⟩
      refine List.pairwise_cons.mpr ⟨fun z hz => ?_, b⟩
      rcases List.mem_cons.mp hz with rfl | hz
      · exact a
      · have a' : x < y := a
        have := (List.pairwise_cons.mp b).1 z hz
        omega
    · intro h
      obtain ⟨h1, h2⟩ := List.pairwise_cons.mp h
      exact ⟨h1 y List.mem_cons_self, h2⟩
theorem cut_one (xs : List V) : cutV xs (some 1) none = xs.drop 1 := by
  unfold cutV
  rw [show (some (1 : Int)) = some ((1 : Nat) : Int) from rfl, HT.sIx_nat, HT.sIx_none]
  cases xs with
  | nil => rfl
  | cons x r => simp
/-! ### is_price -/
abbrev s_is_price : Stmt := topS 6
abbrev N_is_price : List Str := ["thing", "day", "pence"]
theorem sc_is_price : FnScope N_is_price ["thing"] (defScope s_is_price) := ⟨rfl, rfl, rfl, by decide +kernel, rfl, by decide +kernel, by decide +kernel⟩
def sp_is_price (K : PySem.W.Frag) : Sp := fun vs H Q _ => ∃ (x : V) (d : PyData), vs = [x] ∧ Dp K H x d ∧ Q (.bl (isPr d)) H
theorem ok_is_price {f : Addr} {fd : FuncData} (F : Fun K "is_price" "is_price" s_is_price f fd) (g : mg "is_price" = some (.ref f)) (bd : Binds K fd ["thing"] []) (m_len : mg "len" = none) (m_isinstance : mg "isinstance" = none) (m_tuple : mg "tuple" = none) {t_MOST_PRICE : Tok} (g_MOST_PRICE : mg "MOST_PRICE" = some (.int 1000000 t_MOST_PRICE)) {t_LAST_DAY : Tok} (g_LAST_DAY : mg "LAST_DAY" = some (.int 400 t_LAST_DAY)) (C_is_number_in : CF P w K mg base 1 "is_number_in" ["thing", "low", "high"] (sp_is_number_in K)) : CF P w K mg base 2 "is_price" ["thing"] (sp_is_price K) := by
  refine ⟨f, fd, F.ok sc_is_price (fun vs H Q E h => ?_) (fun cdv A outer s H vs Q E hr h => ?_), g, F.kp, bd⟩
  · first | (obtain ⟨_, rfl, _⟩ := h; rfl) | (obtain ⟨_, _, rfl, _⟩ := h; rfl) | (obtain ⟨_, _, _, rfl, _⟩ := h; rfl) | (obtain ⟨_, _, _, _, rfl, _⟩ := h; rfl) | (obtain ⟨_, _, _, _, _, rfl, _⟩ := h; rfl) | (obtain ⟨_, _, _, _, _, _, rfl, _⟩ := h; rfl) | (obtain ⟨_, _, _, _, _, _, _, rfl, _⟩ := h; rfl)
  · have hu64 := hr.units
    obtain ⟨x, d, rfl, hd, q⟩ := h
    refine ⟨_, (pss_cons (ps_if (PW.pt (pw_or (pt_not (pt_val (pe_callB (kk_isi K) (by rfl) m_isinstance (by decide +kernel) (pa_cons (pv 0) (pa_cons (pe_bltn (v := .ty "tuple") (by rfl) m_tuple (by decide +kernel) rfl) pa_nil))))) (pw_or1 (pt_cmpR op_ne (pe_callB (kk_len K) (by rfl) m_len PySem.boot_len (pa_cons (pv 0) pa_nil)) pe_int (nomark _)))))
         (pss_one (ps_ret pe_bl))
         pss_nil)
      (pss_cons (ps_asg (pv 0) (pg_tup (by rfl) (pgs_cons (pg_name (i := 1) sc_is_price.nd rfl (.inl rfl)) (pgs_cons (pg_name (i := 2) sc_is_price.nd rfl (.inl rfl)) pgs_nil))))
      (pss_one (ps_ret (pe_and (pe_cf C_is_number_in (hr.mono (by decide)) (by rfl) (pa_cons (pv 1) (pa_cons pe_int (pa_cons (pe_glob (v := .int 400) (by rfl) g_LAST_DAY ⟨_, rfl⟩) pa_nil)))) (pe_one (pe_cf C_is_number_in (hr.mono (by decide)) (by rfl) (pa_cons (pv 2) (pa_cons pe_int (pa_cons (pe_glob (v := .int 1000000) (by rfl) g_MOST_PRICE ⟨_, rfl⟩) pa_nil)))))))))), ?_⟩
    have k1 := kit_d (K := K) (T := "tuple") (by decide) d
    have ty := ty_of_dp hd
    refine ⟨_, rfl, _, _, _, _, _, rfl, .ty _, ty, k1, _, rfl, ?_⟩
    cases hd with
    | @tup a xs ds hS hA =>
      have hlen := dpAll_len hA
      refine iteF ⟨_, rfl, a, _, rfl, .inr hS, rfl, _, rfl, ?_⟩
      by_cases h2 : ds.length = 2
      · obtain ⟨d1, d2, rfl⟩ : ∃ d1 d2, ds = [d1, d2] := by
          match ds, h2 with
          | [d1, d2], _ => exact ⟨d1, d2, rfl⟩
        cases hA with
        | cons h1 r1 =>
          cases r1 with
          | cons h2' r2 =>
            cases r2
            refine iteNS rfl ?_
            refine ⟨_, rfl, a, _, rfl, hS, rfl, _, _, rfl, _, _, rfl, rfl, ?_⟩
            refine ⟨_, rfl, _, d1, 0, 400, rfl, h1, _, rfl, ?_⟩
            have e : isPr (.tuple [d1, d2]) = (numIn d1 0 400 && numIn d2 1 1000000) := by simp only [isPr]
            rw [e] at q
            cases c : numIn d1 0 400 with
            | true =>
              rw [c] at q
              exact iteT ⟨_, rfl, _, d2, 1, 1000000, rfl, h2', q⟩
            | false =>
              rw [c] at q
              exact iteF q
      · have e : isPr (.tuple ds) = false := by
          match ds, h2 with
          | [], _ => rfl
          | [_], _ => rfl
          | [_, _], h2 => exact absurd rfl h2
          | _ :: _ :: _ :: _, _ => rfl
        rw [e] at q
        refine notN (fun z => h2 ?_) q
        have := V.int.inj z
        omega
    | non => exact iteT q
    | bl b => exact iteT q
    | int i => exact iteT q
    | str z => exact iteT q
    | lst a b => exact iteT q
/-! ### are_prices -/
abbrev s_are_prices : Stmt := topS 5
abbrev N_are_prices : List Str := ["thing", "pair", "days", "day", "pence", "earlier", "later"]
theorem sc_are_prices : FnScope N_are_prices ["thing"] (defScope s_are_prices) := ⟨rfl, rfl, rfl, by decide +kernel, rfl, by decide +kernel, by decide +kernel⟩
def sp_are_prices (K : PySem.W.Frag) : Sp := fun vs H Q _ => ∃ (x : V) (d : PyData), vs = [x] ∧ Dp K H x d ∧ (∀ l, seqD d = some l → l.length ≤ 900) ∧ ∀ H', Same H H' → Q (.bl (arePr d)) H'
theorem ok_are_prices {f : Addr} {fd : FuncData} (F : Fun K "are_prices" "are_prices" s_are_prices f fd) (g : mg "are_prices" = some (.ref f)) (bd : Binds K fd ["thing"] []) (m_all : mg "all" = none) (m_isinstance : mg "isinstance" = none) (m_tuple : mg "tuple" = none) (m_list : mg "list" = none) (m_zip : mg "zip" = none) (C_is_price : CF P w K mg base 2 "is_price" ["thing"] (sp_is_price K)) : CF P w K mg base 3 "are_prices" ["thing"] (sp_are_prices K) := by
  refine ⟨f, fd, F.ok sc_are_prices (fun vs H Q E h => ?_) (fun cdv A outer s H vs Q E hr h => ?_), g, F.kp, bd⟩
  · first | (obtain ⟨_, rfl, _⟩ := h; rfl) | (obtain ⟨_, _, rfl, _⟩ := h; rfl) | (obtain ⟨_, _, _, rfl, _⟩ := h; rfl) | (obtain ⟨_, _, _, _, rfl, _⟩ := h; rfl) | (obtain ⟨_, _, _, _, _, rfl, _⟩ := h; rfl) | (obtain ⟨_, _, _, _, _, _, rfl, _⟩ := h; rfl) | (obtain ⟨_, _, _, _, _, _, _, rfl, _⟩ := h; rfl)
  · have hu64 := hr.units
    obtain ⟨x, d, rfl, hd, hsm, q⟩ := h
    refine ⟨_, (pss_cons (ps_if (PW.pt (pw_or (pt_not (pt_val (pe_callB (kk_isiT K) (by rfl) m_isinstance (by decide +kernel) (pa_cons (pv 0) (pa_cons (pe_tup (pa_cons (pe_bltn (v := .ty "list") (by rfl) m_list (by decide +kernel) rfl) (pa_cons (pe_bltn (v := .ty "tuple") (by rfl) m_tuple (by decide +kernel) rfl) pa_nil))) pa_nil))))) (pw_or1 (pt_not (pt_val (pe_callB (kk_all K rfl) (by rfl) m_all (by decide +kernel) (pa_cons (pe_lc (own := [("pair", 1)]) (g := (gName 1)) (tt := tYes) rfl sc_are_prices.nd (pi_or (pi_list (pv 0)) (pi_tup (pv 0))) (blkOk_by (own := [("pair", 1)]) (N := N_are_prices) (sc := defScope s_are_prices) (by decide +kernel)) (fun _ _ _ _ _ => pg_name (i := 1) sc_are_prices.nd rfl (Or.inl rfl)) (fun _ _ _ _ _ => pts_nil) (fun _ _ _ _ _ => (pe_cf C_is_price (hr.mono (by decide)) (by rfl) (pa_cons (pv 1) pa_nil)))) pa_nil)))))))
         (pss_one (ps_ret pe_bl))
         pss_nil)
      (pss_cons (ps_setLc (i := 2) (own := [("day", 3), ("pence", 4)]) (g := (gTup K 2 (gCons (gName 3) (gCons (gName 4) gNil)))) (tt := tYes) rfl sc_are_prices.nd rfl rfl (sw_true rfl rfl rfl (by decide +kernel)) (pi_or (pi_list (pv 0)) (pi_tup (pv 0))) (blkOk_by (own := [("day", 3), ("pence", 4)]) (N := N_are_prices) (sc := defScope s_are_prices) (by decide +kernel)) (fun _ _ _ _ _ => (pg_tup (by rfl) (pgs_cons (pg_name (i := 3) sc_are_prices.nd rfl (.inl rfl)) (pgs_cons (pg_name (i := 4) sc_are_prices.nd rfl (.inl rfl)) pgs_nil)))) (fun _ _ _ _ _ => pts_nil) (fun _ _ _ _ _ => (pv 3)))
      (pss_one (ps_ret (pe_callB (kk_all K rfl) (by rfl) m_all (by decide +kernel) (pa_cons (pe_lc (own := [("earlier", 5), ("later", 6)]) (g := (gTup K 2 (gCons (gName 5) (gCons (gName 6) gNil)))) (tt := tYes) rfl sc_are_prices.nd (pi_zip (by rfl) m_zip (pa_cons (pv 2) (pa_cons (pe_slice (kk_sll K) (pv 2) (po_some pe_int) po_none) pa_nil))) (blkOk_by (own := [("earlier", 5), ("later", 6)]) (N := N_are_prices) (sc := defScope s_are_prices) (by decide +kernel)) (fun _ _ _ _ _ => (pg_tup (by rfl) (pgs_cons (pg_name (i := 5) sc_are_prices.nd rfl (.inl rfl)) (pgs_cons (pg_name (i := 6) sc_are_prices.nd rfl (.inl rfl)) pgs_nil)))) (fun _ _ _ _ _ => pts_nil) (fun _ _ _ _ _ => (pe_cmpR op_lt (pv 5) (pv 6) (nomark _)))) pa_nil)))))), ?_⟩
    refine ⟨_, rfl, (by show 2 ≤ sizeLine; decide), fun tp ntp => ⟨_, tp, _, _, _, _, rfl, upd_same, .cons (.ty _) (.cons (.ty _) .nil), ty_of_dp (dp_same (same_new ntp) hd), kitLT d, _, rfl, ?_⟩⟩
    have s1 := same_new (o := .tup [.ty "list", .ty "tuple"]) ntp
    rcases seq_dp hd with ⟨a, xs, ds, rfl, hS, hA, e, k⟩ | ⟨e, k⟩
    · rw [k]
      have small := hsm ds e
      have hlen := (dp_at hA).1
      have ea : arePr d = (ds.all isPr && risB (ds.map dayD)) := by
        unfold arePr
        rw [e]
      rw [ea] at q
      have HS := fun {X : Hp} (z : Same H X) => hS.elim (fun h => Or.inl (z.seq h)) (fun h => Or.inr (seqT_same z h))
      refine iteF (walk_or rfl (HS s1) fun J ok D hD => data_lc (fun d => V.bl (isPr d)) ok (dpAll_same s1 hA) (by omega) hD (fun i x d hd G s hp Y N h1 => ⟨rfl, _, rfl, x, d, rfl, hp, h1 G (Same.refl G)⟩) (fun G s hG => ?_))
      have hG2 : G D = some (.lst ((ds.map isPr).map V.bl)) := by
        rw [hG, List.map_map]
        rfl
      refine ⟨D, _, rfl, SqL.of hG2, _, rfl, ?_⟩
      have eal : (ds.map isPr).all id = ds.all isPr := by rw [List.all_map]; rfl
      rw [eal]
      have s2 := s1.trans s
      cases ha : ds.all isPr with
      | false =>
        rw [ha] at q
        exact iteT (q _ s2)
      | true =>
        rw [ha] at q
        have hpr := List.all_eq_true.mp ha
        refine iteF (walk_or rfl (HS s2) fun J ok D2 hD2 => data_lc (fun d => V.int (dayD d)) ok (dpAll_same s2 hA) (by omega) hD2 (fun i x d hd G s hp Y N h1 => ?_) (fun G3 s3 hG3 => ?_))
        · obtain ⟨t, i1, j1, rfl, rfl, hT, _⟩ := price_dp hp (hpr d (List.mem_of_getElem? hd))
          exact ⟨t, _, rfl, hT, rfl, _, _, rfl, _, _, rfl, rfl, rfl, _, rfl, h1 G (Same.refl G)⟩
        have hG4 : G3 D2 = some (.lst ((ds.map dayD).map V.int)) := by
          rw [hG3, List.map_map]
          rfl
        have ldd : (ds.map dayD).length ≤ 900 := by rw [List.length_map]; exact small
        generalize ds.map dayD = ns at *
        refine ⟨_, rfl, _, rfl, _, rfl, D2, _, rfl, SqL.of hG4, fun E nE => ?_⟩
        rw [cut_one, ← List.map_drop]
        have sE := same_new (o := .lst ((ns.drop 1).map V.int)) nE
        have hE := upd_same (H := G3) (a := E) (o := .lst ((ns.drop 1).map V.int))
        have hD2 := sE _ _ hG4
        have s4 := (s2.trans s3).trans sE
        generalize upd G3 E (.lst ((ns.drop 1).map V.int)) = G4 at *
        refine ⟨D2, E, _, _, rfl, SqL.of hD2, SqL.of hE, fun F nF => lc_gen (n := ns.length - 1) (fun i G => Same G4 G ∧ G F = some (.lst (((ns.zip (ns.drop 1)).take i).map fun p => V.bl (decide (p.1 < p.2))))) ⟨same_new nF, upd_same⟩ (fun i G h => ?_) (fun i G v G' hi h y => ?_) (fun G h => ?_)⟩
        · have h1 := SqL.of (K := K) (h.1 _ _ hD2)
          have h2 := SqL.of (K := K) (h.1 _ _ hE)
          refine ⟨fun z => ⟨_, _, _, _, h1, h2, List.getElem?_eq_getElem (by rw [List.length_map]; omega), List.getElem?_eq_getElem (by rw [List.length_map, List.length_drop]; omega)⟩, fun z => ⟨_, _, h1, h2, .inr (by rw [List.length_map, List.length_drop]; omega)⟩⟩
        · obtain ⟨T, x, y', rfl, hT, rfl, f1, f2⟩ := y
          have g1 := f1 _ (SqL.of (K := K) (h.1 _ _ hD2))
          have g2 := f2 _ (SqL.of (K := K) (h.1 _ _ hE))
          rw [List.getElem?_map] at g1 g2
          obtain ⟨n1, hn1, rfl⟩ := Option.map_eq_some_iff.mp g1
          obtain ⟨n2, hn2, rfl⟩ := Option.map_eq_some_iff.mp g2
          have hz : (ns.zip (ns.drop 1))[i]? = some (n1, n2) := by
            rw [List.getElem?_zip_eq_some]
            exact ⟨hn1, hn2⟩
          have sT := same_new (o := .tup [.int n1, .int n2]) hT
          refine ⟨T, _, rfl, SqT.of upd_same, rfl, _, _, rfl, _, _, rfl, rfl, rfl, _, rfl, _, rfl, _, _, rfl, rfl, _, sT _ _ h.2, ?_, fun c o ec => ?_, ?_⟩
          · rw [List.length_map, List.length_take]
            exact small1000 (by omega)
          · rw [upd_ne (ne_of_none ec nF)]
            exact sT _ _ (h.1 _ _ ec)
          · rw [upd_same, take_snoc hz, List.map_append]
            rfl
        · obtain ⟨s5, e5⟩ := h
          have lz : (ns.zip (ns.drop 1)).length = ns.length - 1 := by
            rw [List.length_zip, List.length_drop]
            omega
          rw [← lz, List.take_of_length_le (Nat.le_refl _)] at e5
          have e6 : G F = some (.lst (((ns.zip (ns.drop 1)).map fun p => decide (p.1 < p.2)).map V.bl)) := by
            rw [e5, List.map_map]
            rfl
          refine ⟨F, _, rfl, SqL.of e6, ?_⟩
          rw [List.all_map]
          have e7 : (ns.zip (ns.drop 1)).all (id ∘ fun p => decide (p.1 < p.2)) = risB ns := zip_rise ns
          rw [e7]
          exact q _ (s4.trans s5)
    · rw [k]
      have ea : arePr d = false := by
        unfold arePr
        rw [e]
      rw [ea] at q
      exact iteT (iteT (q _ s1))
/-! ### _law_is_number -/
abbrev s__law_is_number : Stmt := topS 12
abbrev N__law_is_number : List Str := ["_law_thing"]
theorem sc__law_is_number : FnScope N__law_is_number ["_law_thing"] (defScope s__law_is_number) := ⟨rfl, rfl, rfl, by decide +kernel, rfl, by decide +kernel, by decide +kernel⟩
def isInt : PyData → Bool
  | .int _ => true
  | _ => false
def sp__law_is_number (K : PySem.W.Frag) : Sp := fun vs H Q _ => ∃ (x : V) (d : PyData), vs = [x] ∧ Dp K H x d ∧ Q (.bl (isInt d)) H
theorem ok__law_is_number {f : Addr} {fd : FuncData} (F : Fun K "_law_is_number" "_law_is_number" s__law_is_number f fd) (g : mg "_law_is_number" = some (.ref f)) (bd : Binds K fd ["_law_thing"] []) (m_isinstance : mg "isinstance" = none) (m_bool : mg "bool" = none) (m_int : mg "int" = none) : CF P w K mg base 1 "_law_is_number" ["_law_thing"] (sp__law_is_number K) := by
  refine ⟨f, fd, F.ok sc__law_is_number (fun vs H Q E h => ?_) (fun cdv A outer s H vs Q E hr h => ?_), g, F.kp, bd⟩
  · first | (obtain ⟨_, rfl, _⟩ := h; rfl) | (obtain ⟨_, _, rfl, _⟩ := h; rfl) | (obtain ⟨_, _, _, rfl, _⟩ := h; rfl) | (obtain ⟨_, _, _, _, rfl, _⟩ := h; rfl) | (obtain ⟨_, _, _, _, _, rfl, _⟩ := h; rfl) | (obtain ⟨_, _, _, _, _, _, rfl, _⟩ := h; rfl) | (obtain ⟨_, _, _, _, _, _, _, rfl, _⟩ := h; rfl)
  · have hu64 := hr.units
    obtain ⟨x, d, rfl, hd, q⟩ := h
    refine ⟨_, (pss_one (ps_ret (pe_and (pe_callB (kk_isi K) (by rfl) m_isinstance (by decide +kernel) (pa_cons (pv 0) (pa_cons (pe_bltn (v := .ty "int") (by rfl) m_int (by decide +kernel) rfl) pa_nil))) (pe_one (pe_not (pe_callB (kk_isi K) (by rfl) m_isinstance (by decide +kernel) (pa_cons (pv 0) (pa_cons (pe_bltn (v := .ty "bool") (by rfl) m_bool (by decide +kernel) rfl) pa_nil)))))))), ?_⟩
    have k1 := kit_d (K := K) (T := "int") (by decide) d
    have k2 := kit_d (K := K) (T := "bool") (by decide) d
    have ty := ty_of_dp hd
    refine ⟨_, rfl, _, _, _, _, _, rfl, .ty _, ty, k1, _, rfl, ?_⟩
    cases hd with
    | int i => exact iteT ⟨_, rfl, _, _, _, _, _, rfl, .ty _, ty, k2, _, rfl, q⟩
    | bl b => exact iteT ⟨_, rfl, _, _, _, _, _, rfl, .ty _, ty, k2, _, rfl, q⟩
    | non => exact iteF q
    | str z => exact iteF q
    | lst a b => exact iteF q
    | tup a b => exact iteF q
/-! ### _law_odd -/
abbrev s__law_odd : Stmt := topS 13
abbrev N__law_odd : List Str := ["_law_left_here", "_law_thing", "_law_turn"]
theorem sc__law_odd : FnScope N__law_odd ["_law_left_here"] (defScope s__law_odd) := ⟨rfl, rfl, rfl, by decide +kernel, rfl, by decide +kernel, by decide +kernel⟩
/-- a thing that stays whatever is drawn -/
def DpB (K : PySem.W.Frag) (b : Addr) (H : Hp) (x : V) (d : PyData) : Prop := ∀ G, But b H G → Dp K G x d
theorem DpB.but {K : PySem.W.Frag} {b : Addr} {H H' : Hp} {x : V} {d : PyData} (h : DpB K b H x d) (t : But b H H') : DpB K b H' x d := fun G g => h G (t.trans g)
theorem DpB.dp {K : PySem.W.Frag} {b : Addr} {H : Hp} {x : V} {d : PyData} (h : DpB K b H x d) : Dp K H x d := h H (But.refl b H)
structure Fine (k : Nat) (d : PyData) : Prop where
  sh : d.showable = true
  di : d.hasDict = false
  de : d.depth ≤ k + 1
  le : d.shown.length ≤ 20 + 3 * k
  la : PyData.canLay0 d = true
theorem Fine.lst {k : Nat} {d : PyData} (h : Fine k d) : Fine (k + 1) (.list [d]) := by
  refine ⟨by simp [PyData.showable, PyData.showableAll, h.sh], by simp [PyData.hasDict, PyData.hasDictAll, h.di], ?_, ?_, by simp [PyData.canLay0, PyData.canLayAll0, h.la]⟩
  · have := h.de
    simp only [PyData.depth, PyData.depthAll]
    omega
  · have := h.le
    rw [PyData.shown_list, PyData.shownAll_cons, PyData.shownAll_nil]
    show (_ ++ PyData.shown d ++ _).length ≤ _
    rw [len_app, len_app]
    show 1 + (PyData.shown d).length + 1 ≤ _
    omega
theorem Fine.tup {k : Nat} {d : PyData} (h : Fine k d) : Fine (k + 1) (.tuple [d]) := by
  refine ⟨by simp [PyData.showable, PyData.showableAll, h.sh], by simp [PyData.hasDict, PyData.hasDictAll, h.di], ?_, ?_, by simp [PyData.canLay0, PyData.canLayAll0, h.la]⟩
  · have := h.de
    simp only [PyData.depth, PyData.depthAll]
    omega
  · have := h.le
    rw [PyData.shown_tuple, PyData.shownAll_cons, PyData.shownAll_nil]
    show (_ ++ PyData.shown d ++ _).length ≤ _
    rw [len_app, len_app]
    show 1 + (PyData.shown d).length + 2 ≤ _
    omega
theorem fine_odd {r : Int} (h0 : 0 ≤ r) (h1 : r < 9) : ∃ (x : V) (d : PyData), atI [V.non, .bl true, .bl false, .str (Str.ofString ""), .str (Str.ofString "a"), .int 0, .int 1, .int (-1), .int (10 ^ (12 : Int).toNat)] r = some x ∧ (∀ (K : PySem.W.Frag) (b : Addr) (H : Hp), DpB K b H x d) ∧ Fine 0 d := by
  have h : r = 0 ∨ r = 1 ∨ r = 2 ∨ r = 3 ∨ r = 4 ∨ r = 5 ∨ r = 6 ∨ r = 7 ∨ r = 8 := by omega
  rcases h with rfl | rfl | rfl | rfl | rfl | rfl | rfl | rfl | rfl
  · exact ⟨_, .none, rfl, fun _ _ _ _ _ => .non, ⟨by decide +kernel, by decide +kernel, by decide +kernel, by decide +kernel, by decide +kernel⟩⟩
  · exact ⟨_, .bool true, rfl, fun _ _ _ _ _ => .bl true, ⟨by decide +kernel, by decide +kernel, by decide +kernel, by decide +kernel, by decide +kernel⟩⟩
  · exact ⟨_, .bool false, rfl, fun _ _ _ _ _ => .bl false, ⟨by decide +kernel, by decide +kernel, by decide +kernel, by decide +kernel, by decide +kernel⟩⟩
  · exact ⟨_, .str (Str.ofString ""), rfl, fun _ _ _ _ _ => .str _, ⟨by decide +kernel, by decide +kernel, by decide +kernel, by decide +kernel, by decide +kernel⟩⟩
  · exact ⟨_, .str (Str.ofString "a"), rfl, fun _ _ _ _ _ => .str _, ⟨by decide +kernel, by decide +kernel, by decide +kernel, by decide +kernel, by decide +kernel⟩⟩
  · exact ⟨_, .int 0, rfl, fun _ _ _ _ _ => .int _, ⟨by decide +kernel, by decide +kernel, by decide +kernel, by decide +kernel, by decide +kernel⟩⟩
  · exact ⟨_, .int 1, rfl, fun _ _ _ _ _ => .int _, ⟨by decide +kernel, by decide +kernel, by decide +kernel, by decide +kernel, by decide +kernel⟩⟩
  · exact ⟨_, .int (-1), rfl, fun _ _ _ _ _ => .int _, ⟨by decide +kernel, by decide +kernel, by decide +kernel, by decide +kernel, by decide +kernel⟩⟩
  · exact ⟨_, .int (10 ^ (12 : Int).toNat), rfl, fun _ _ _ _ _ => .int _, ⟨by decide +kernel, by decide +kernel, by decide +kernel, by decide +kernel, by decide +kernel⟩⟩
theorem pick6n {r : Int} (h0 : 0 ≤ r) (h1 : r < 6) : ∃ v : Int, atI [V.int 0, .int 0, .int 0, .int 1, .int 2, .int 6] r = some (.int v) ∧ 0 ≤ v ∧ v ≤ 6 := by
  have h : r = 0 ∨ r = 1 ∨ r = 2 ∨ r = 3 ∨ r = 4 ∨ r = 5 := by omega
  rcases h with rfl | rfl | rfl | rfl | rfl | rfl
  · exact ⟨0, rfl, by decide, by decide⟩
  · exact ⟨0, rfl, by decide, by decide⟩
  · exact ⟨0, rfl, by decide, by decide⟩
  · exact ⟨1, rfl, by decide, by decide⟩
  · exact ⟨2, rfl, by decide, by decide⟩
  · exact ⟨6, rfl, by decide, by decide⟩
/-- a thing all of whose objects are new since H -/
def DpN (K : PySem.W.Frag) (H H' : Hp) (x : V) (d : PyData) : Prop := ∀ G : Hp, (∀ c o, H c = none → H' c = some o → G c = some o) → Dp K G x d
def sp__law_odd (K : PySem.W.Frag) : Sp := fun vs H Q _ => ∃ (b : Addr) (n : Int), vs = [.ref b] ∧ Three H b n ∧ n < 1000000 ∧ ∀ (H' : Hp) (x : V) (d : PyData), Three H' b (n + 10) → But b H H' → DpN K H H' x d → Fine 6 d → Q x H'
theorem ok__law_odd {f : Addr} {fd : FuncData} (F : Fun K "_law_odd" "_law_odd" s__law_odd f fd) (g : mg "_law_odd" = some (.ref f)) (bd : Binds K fd ["_law_left_here"] []) (m_range : mg "range" = none) (C__law_pick : CF P w K mg base 2 "_law_pick" ["_law_left_here", "_law_many"] (sp__law_pick K)) : CF P w K mg base 3 "_law_odd" ["_law_left_here"] (sp__law_odd K) := by
  refine ⟨f, fd, F.ok sc__law_odd (fun vs H Q E h => ?_) (fun cdv A outer s H vs Q E hr h => ?_), g, F.kp, bd⟩
  · first | (obtain ⟨_, rfl, _⟩ := h; rfl) | (obtain ⟨_, _, rfl, _⟩ := h; rfl) | (obtain ⟨_, _, _, rfl, _⟩ := h; rfl) | (obtain ⟨_, _, _, _, rfl, _⟩ := h; rfl) | (obtain ⟨_, _, _, _, _, rfl, _⟩ := h; rfl) | (obtain ⟨_, _, _, _, _, _, rfl, _⟩ := h; rfl) | (obtain ⟨_, _, _, _, _, _, _, rfl, _⟩ := h; rfl)
  · have hu64 := hr.units
    obtain ⟨b, n, rfl, hb, hn, q⟩ := h
    refine ⟨_, (pss_cons (ps_set (i := 1) sc__law_odd.nd rfl (.inl rfl) (pe_ix (kk_ixl K) (pe_lst (pa_cons pe_non (pa_cons pe_bl (pa_cons pe_bl (pa_cons pe_str (pa_cons pe_str (pa_cons pe_int (pa_cons pe_int (pa_cons (pe_un un_neg pe_int) (pa_cons (pe_op op_pow pe_int pe_int) pa_nil)))))))))) (pe_cf C__law_pick (hr.mono (by decide)) (by rfl) (pa_cons (pv 0) (pa_cons pe_int pa_nil))) (fun _ _ => rfl)))
      (pss_cons (ps_for PassesOwn.never rfl (pi_range1 (by rfl) m_range (pa_cons (pe_ix (kk_ixl K) (pe_lst (pa_cons pe_int (pa_cons pe_int (pa_cons pe_int (pa_cons pe_int (pa_cons pe_int (pa_cons pe_int pa_nil))))))) (pe_cf C__law_pick (hr.mono (by decide)) (by rfl) (pa_cons (pv 0) (pa_cons pe_int pa_nil))) (fun _ _ => rfl)) pa_nil)) (pg_name (i := 2) sc__law_odd.nd rfl (.inl rfl))
         (pss_one (ps_set (i := 1) sc__law_odd.nd rfl (.inl rfl) (pe_ifExp (pt_cmpR op_eq (pe_cf C__law_pick (hr.mono (by decide)) (by rfl) (pa_cons (pv 0) (pa_cons pe_int pa_nil))) pe_int (nomark _)) (pe_lst (pa_cons (pv 1) pa_nil)) (pe_tup (pa_cons (pv 1) pa_nil))))))
      (pss_one (ps_ret (pv 1))))), ?_⟩
    refine ⟨_, rfl, _, _, rfl, rfl, ⟨by decide, by decide, by decide⟩, (by show 9 ≤ sizeLine; decide), fun l1 n1 => ?_⟩
    refine ⟨_, rfl, b, 9, _, rfl, hb.new n1, by decide, by decide, by omega, fun r1 H1 r10 r11 b1 t1 => ?_⟩
    obtain ⟨x0, d0, hx0, hdp0, hf0⟩ := fine_odd r10 r11
    refine ⟨l1, _, _, _, rfl, rfl, SqL.of (t1 _ _ (hb.ne n1) upd_same), hx0, ?_⟩
    have T1 := (But.new (b := b) n1).trans t1
    refine ⟨(by show 6 ≤ sizeLine; decide), fun l2 n2 => ⟨_, rfl, b, 6, _, rfl, b1.new n2, by decide, by decide, by omega, fun r2 H2 r20 r21 b2 t2 => ?_⟩⟩
    obtain ⟨v, hv, v0, v1⟩ := pick6n r20 r21
    have T2 := T1.trans ((But.new (b := b) (o := .lst [.int 0, .int 0, .int 0, .int 1, .int 2, .int 6]) n2).trans t2)
    obtain ⟨_, _, _, hbo, _⟩ := id hb
    refine ⟨l2, _, _, _, rfl, rfl, SqL.of (t2 _ _ (b1.ne n2) upd_same), hv, _, rfl, by omega, by omega, for_range (fun i σ G => ∃ (x : V) (d : PyData) (s2 : Option V), σ = [some (.ref b), some x, s2] ∧ DpN K H G x d ∧ Fine i d ∧ Three G b (n + 3 + i) ∧ But b H G) ⟨x0, d0, _, rfl, fun G _ => (hdp0 K b G).dp, hf0, b2.mono (by omega), T2⟩ (fun i σ G hi h => ?_) (fun σ G h => ?_)⟩
    · obtain ⟨x, d, s2, rfl, hd, hf, bX, tX⟩ := h
      have old : ∀ {l : Addr} {G3 : Hp}, Three G3 b (n + 3 + i + 1) → But b G G3 → G3 l = none → H l = none := fun {l G3} b3 t3 nl => by
        cases e : H l with
        | none => rfl
        | some o =>
          rw [(tX.trans t3) _ _ (b3.ne nl) e] at nl
          cases nl
      have inner : ∀ {l : Addr} {o : HO} {G3 G' : Hp}, But b G G3 → G3 l = none → (∀ c u, H c = none → (upd G3 l o) c = some u → G' c = some u) → Dp K G' x d := fun {l o G3 G'} t3 nl g => hd G' fun c u hc hu => g c u hc (by
        have hcb : c ≠ b := fun z => by rw [z, hbo] at hc; cases hc
        have h3 := t3 _ _ hcb hu
        rw [upd_ne (ne_of_none h3 nl)]
        exact h3)
      refine ⟨_, rfl, b, 2, _, rfl, bX, by decide, by decide, by omega, fun r3 H3 r30 r31 b3 t3 => ⟨rfl, _, rfl, ite2 (fun z => ?_) (fun z => ?_)⟩⟩
      · refine ⟨_, rfl, (by show 1 ≤ sizeLine; decide), fun l nl => ⟨_, .list [d], _, rfl, fun G' g => ?_, hf.lst, (b3.new nl).mono (by omega), (tX.trans t3).trans (But.new nl)⟩⟩
        exact .lst (SqL.of (g l _ (old b3 t3 nl) upd_same)) (.cons (inner t3 nl g) .nil)
      · refine ⟨_, rfl, (by show 1 ≤ sizeLine; decide), fun l nl => ⟨_, .tuple [d], _, rfl, fun G' g => ?_, hf.tup, (b3.new nl).mono (by omega), (tX.trans t3).trans (But.new nl)⟩⟩
        exact .tup (SqT.of (g l _ (old b3 t3 nl) upd_same)) (.cons (inner t3 nl g) .nil)
    · obtain ⟨x, d, s2, rfl, hd, hf, bX, tX⟩ := h
      refine ⟨_, rfl, q _ x d (bX.mono (by omega)) tX hd ?_⟩
      have hv6 : v.toNat ≤ 6 := by omega
      exact ⟨hf.sh, hf.di, by have := hf.de; omega, by have := hf.le; omega, hf.la⟩
/-! ### _law_are_prices -/
abbrev s__law_are_prices : Stmt := topS 14
abbrev N__law_are_prices : List Str := ["_law_thing", "_law_pair", "_law_part", "_law_days"]
theorem sc__law_are_prices : FnScope N__law_are_prices ["_law_thing"] (defScope s__law_are_prices) := ⟨rfl, rfl, rfl, by decide +kernel, rfl, by decide +kernel, by decide +kernel⟩
theorem rise_one : ∀ {l m : List Int}, l.Pairwise (· < ·) → m.Pairwise (· < ·) → (∀ k, k ∈ l ↔ k ∈ m) → l = m
  | [], [], _, _, _ => rfl
  | [], b :: m, _, _, h => absurd ((h b).mpr List.mem_cons_self) (by simp)
  | a :: l, [], _, _, h => absurd ((h a).mp List.mem_cons_self) (by simp)
  | a :: l, b :: m, h1, h2, h => by
    obtain ⟨a1, a2⟩ := List.pairwise_cons.mp h1
    obtain ⟨b1, b2⟩ := List.pairwise_cons.mp h2
    have e : a = b := by
      rcases List.mem_cons.mp ((h a).mp List.mem_cons_self) with x | x
      · exact x
      · rcases List.mem_cons.mp ((h b).mpr List.mem_cons_self) with y | y
        · exact y.symm
        · have := a1 b y
          have := b1 a x
          omega
    subst e
    rw [rise_one a2 b2 fun k => ?_]
    constructor
    · intro hk
      rcases List.mem_cons.mp ((h k).mp (List.mem_cons_of_mem _ hk)) with x | x
      · have := a1 k hk
        omega
      · exact x
    · intro hk
      rcases List.mem_cons.mp ((h k).mpr (List.mem_cons_of_mem _ hk)) with x | x
      · have := b1 k hk
        omega
      · exact x
theorem eqv_ints : ∀ ns ms : List Int, PyData.eqv (.list (ns.map PyData.int)) (.list (ms.map PyData.int)) = decide (ns = ms)
  | [], [] => by simp [PyData.eqv, PyData.eqvAll]
  | [], _ :: _ => by simp [PyData.eqv, PyData.eqvAll]
  | _ :: _, [] => by simp [PyData.eqv, PyData.eqvAll]
  | x :: r, y :: t => by
    have ih := eqv_ints r t
    simp only [PyData.eqv] at ih
    simp only [List.map_cons, PyData.eqv, PyData.eqvAll, ih]
    by_cases e : x = y <;> simp [e]
def sp__law_are_prices (K : PySem.W.Frag) : Sp := fun vs H Q _ => ∃ (x : V) (d : PyData), vs = [x] ∧ Dp K H x d ∧ (∀ l, seqD d = some l → l.length ≤ 900) ∧ ∀ H', Same H H' → Q (.bl (arePr d)) H'
theorem ok__law_are_prices {f : Addr} {fd : FuncData} (F : Fun K "_law_are_prices" "_law_are_prices" s__law_are_prices f fd) (g : mg "_law_are_prices" = some (.ref f)) (bd : Binds K fd ["_law_thing"] []) (m_isinstance : mg "isinstance" = none) (m_tuple : mg "tuple" = none) (m_list : mg "list" = none) (m_all : mg "all" = none) (m_len : mg "len" = none) (m_sorted : mg "sorted" = none) (m_set : mg "set" = none) (C__law_is_number : CF P w K mg base 1 "_law_is_number" ["_law_thing"] (sp__law_is_number K)) : CF P w K mg base 2 "_law_are_prices" ["_law_thing"] (sp__law_are_prices K) := by
  refine ⟨f, fd, F.ok sc__law_are_prices (fun vs H Q E h => ?_) (fun cdv A outer s H vs Q E hr h => ?_), g, F.kp, bd⟩
  · first | (obtain ⟨_, rfl, _⟩ := h; rfl) | (obtain ⟨_, _, rfl, _⟩ := h; rfl) | (obtain ⟨_, _, _, rfl, _⟩ := h; rfl) | (obtain ⟨_, _, _, _, rfl, _⟩ := h; rfl) | (obtain ⟨_, _, _, _, _, rfl, _⟩ := h; rfl) | (obtain ⟨_, _, _, _, _, _, rfl, _⟩ := h; rfl) | (obtain ⟨_, _, _, _, _, _, _, rfl, _⟩ := h; rfl)
  · have hu64 := hr.units
    obtain ⟨x, d, rfl, hd, hsm, q⟩ := h
    refine ⟨_, (pss_cons (ps_if (pt_not (pt_val (pe_callB (kk_isiT K) (by rfl) m_isinstance (by decide +kernel) (pa_cons (pv 0) (pa_cons (pe_tup (pa_cons (pe_bltn (v := .ty "list") (by rfl) m_list (by decide +kernel) rfl) (pa_cons (pe_bltn (v := .ty "tuple") (by rfl) m_tuple (by decide +kernel) rfl) pa_nil))) pa_nil)))))
         (pss_one (ps_ret pe_bl))
         pss_nil)
      (pss_cons (ps_for PassesOwn.never rfl (pi_or (pi_list (pv 0)) (pi_tup (pv 0))) (pg_name (i := 1) sc__law_are_prices.nd rfl (.inl rfl))
         (pss_cons (ps_if (PW.pt (pw_or (pt_not (pt_val (pe_callB (kk_isi K) (by rfl) m_isinstance (by decide +kernel) (pa_cons (pv 1) (pa_cons (pe_bltn (v := .ty "tuple") (by rfl) m_tuple (by decide +kernel) rfl) pa_nil))))) (pw_or (pt_cmpR op_ne (pe_callB (kk_len K) (by rfl) m_len PySem.boot_len (pa_cons (pv 1) pa_nil)) pe_int (nomark _)) (pw_or1 (pt_not (pt_val (pe_callB (kk_all K rfl) (by rfl) m_all (by decide +kernel) (pa_cons (pe_lc (own := [("_law_part", 2)]) (g := (gName 2)) (tt := tYes) rfl sc__law_are_prices.nd (pi_tup (pv 1)) (blkOk_by (own := [("_law_part", 2)]) (N := N__law_are_prices) (sc := defScope s__law_are_prices) (by decide +kernel)) (fun _ _ _ _ _ => pg_name (i := 2) sc__law_are_prices.nd rfl (Or.inl rfl)) (fun _ _ _ _ _ => pts_nil) (fun _ _ _ _ _ => (pe_cf C__law_is_number (hr.mono (by decide)) (by rfl) (pa_cons (pv 2) pa_nil)))) pa_nil))))))))
             (pss_one (ps_ret pe_bl))
             pss_nil)
          (pss_one (ps_if (PW.pt (pw_or (pt_not (pt_chain op_le op_le pe_int (pe_ix (kk_ixt K) (pv 1) pe_int (fun _ _ => rfl)) pe_int)) (pw_or1 (pt_not (pt_chain op_le op_le pe_int (pe_ix (kk_ixt K) (pv 1) pe_int (fun _ _ => rfl)) (pe_op op_pow pe_int pe_int))))))
             (pss_one (ps_ret pe_bl))
             pss_nil))))
      (pss_cons (ps_setLc (i := 3) (own := [("_law_pair", 1)]) (g := (gName 1)) (tt := tYes) rfl sc__law_are_prices.nd rfl rfl (sw_true rfl rfl rfl (by decide +kernel)) (pi_or (pi_list (pv 0)) (pi_tup (pv 0))) (blkOk_by (own := [("_law_pair", 1)]) (N := N__law_are_prices) (sc := defScope s__law_are_prices) (by decide +kernel)) (fun _ _ _ _ _ => pg_name (i := 1) sc__law_are_prices.nd rfl (Or.inl rfl)) (fun _ _ _ _ _ => pts_nil) (fun _ _ _ _ _ => (pe_ix (kk_ixt K) (pv 1) pe_int (fun _ _ => rfl))))
      (pss_one (ps_ret (pe_cmpR (kk_eqD K hu64) (pv 3) (pe_callB (kk_sortedSN w rfl) (by rfl) m_sorted (by decide +kernel) (pa_cons (pe_callTy (kk_setI K w rfl) (by rfl) m_set (by decide +kernel) (pa_cons (pv 3) pa_nil)) pa_nil)) (nomark _))))))), ?_⟩
    refine ⟨_, rfl, (by show 2 ≤ sizeLine; decide), fun tp ntp => ⟨_, tp, _, _, _, _, rfl, upd_same, .cons (.ty _) (.cons (.ty _) .nil), ty_of_dp (dp_same (same_new ntp) hd), kitLT d, _, rfl, ?_⟩⟩
    have s1 := same_new (o := .tup [.ty "list", .ty "tuple"]) ntp
    rcases seq_dp hd with ⟨a, xs, ds, rfl, hS, hA, e, k⟩ | ⟨e, k⟩
    · rw [k]
      have small := hsm ds e
      obtain ⟨hlen, at_⟩ := dp_at hA
      have ea : arePr d = (ds.all isPr && risB (ds.map dayD)) := by
        unfold arePr
        rw [e]
      rw [ea] at q
      have HS := fun {X : Hp} (z : Same H X) => hS.elim (fun h => Or.inl (z.seq h)) (fun h => Or.inr (seqT_same z h))
      have s1 := s1
      generalize upd H tp (.tup [.ty "list", .ty "tuple"]) = G0 at *
      refine iteF (walk_or rfl (HS s1) fun J ok => ⟨fun i m σ G => m + i = xs.length ∧ (∃ c1 c2 c3, σ = [some (.ref a), c1, c2, c3]) ∧ Same G0 G ∧ ∀ d ∈ ds.take i, isPr d = true, ⟨xs.length, by omega, ⟨_, _, _, rfl⟩, Same.refl G0, fun _ h => (nomatch h)⟩, fun i m σ G now => ?_⟩)
      obtain ⟨em, ⟨c1, c2, c3, rfl⟩, sG, hpre⟩ := now
      obtain ⟨o1, o2, o3⟩ := ok i G sG
      by_cases c : i < xs.length
      · refine .inr ⟨o1 c, fun σ' G' => (∃ c1 c2 c3, σ' = [some (.ref a), c1, c2, c3]) ∧ Same G0 G' ∧ ∀ d ∈ ds.take (i + 1), isPr d = true, fun σ' G' z => ⟨m - 1, by omega, by omega, z.1, z.2.1, z.2.2⟩, fun x G' y => ?_⟩
        obtain ⟨rfl, hx⟩ := o3 x G' y
        obtain ⟨di, hdi, hp0⟩ := at_ i x hx
        have hp := dp_same (s1.trans sG) hp0
        have bad : isPr di = false → ∀ G2, Same G' G2 → Q (.bl false) G2 := fun hb G2 s2 => by
          have : ds.all isPr = false := by
            rw [List.all_eq_false]
            exact ⟨di, List.mem_of_getElem? hdi, by rw [hb]; decide⟩
          rw [this] at q
          exact q _ ((s1.trans sG).trans s2)
        have good : isPr di = true → ∀ G2 e1 e2 e3, Same G' G2 → (∃ c1 c2 c3, [some (V.ref a), e1, e2, e3] = [some (.ref a), c1, c2, c3]) ∧ Same G0 G2 ∧ ∀ d ∈ ds.take (i + 1), isPr d = true := fun hg G2 e1 e2 e3 s2 => ⟨⟨_, _, _, rfl⟩, sG.trans s2, fun d' hd' => by
          rw [take_snoc hdi] at hd'
          rcases List.mem_append.mp hd' with h | h
          · exact hpre d' h
          · rw [List.mem_singleton.mp h]
            exact hg⟩
        have k1 := kit_d (K := K) (T := "tuple") (by decide) di
        have ty := ty_of_dp hp
        refine ⟨_, rfl, _, _, _, _, _, rfl, .ty _, ty, k1, _, rfl, ?_⟩
        cases hp with
        | @tup a2 xs2 ds2 hS2 hA2 =>
          have hl2 := dpAll_len hA2
          refine iteF ⟨_, rfl, a2, _, rfl, .inr hS2, rfl, _, rfl, ?_⟩
          by_cases h2 : ds2.length = 2
          · match ds2, hA2, h2, bad, good with
            | [d1, d2], hA2, _, bad, good =>
              cases hA2 with
              | cons h1 r1 =>
                cases r1 with
                | cons h2' r2 =>
                  cases r2
                  refine iteNS rfl ⟨_, rfl, a2, rfl, ⟨_, hS2⟩, fun D hD => data_lc (K := K) (fun d => V.bl (isInt d)) (jok_t (K := K) hS2) (.cons h1 (.cons h2' .nil)) (by show 2 ≤ 1000; decide) hD (fun i x d hd G s hp Y N h1 => ⟨rfl, _, rfl, x, d, rfl, hp, h1 G (Same.refl G)⟩) (fun G2 s2 hG2 => ?_)⟩
                  have hG3 : G2 D = some (.lst ([isInt d1, isInt d2].map V.bl)) := hG2
                  refine ⟨D, _, rfl, SqL.of hG3, _, rfl, ?_⟩
                  have hS3 := seqT_same s2 hS2
                  cases c1 : isInt d1 with
                  | false =>
                    have nb : isPr (.tuple [d1, d2]) = false := by
                      cases d1 with
                      | int i => cases c1
                      | _ => rfl
                    exact iteT (bad nb _ s2)
                  | true =>
                    cases c2 : isInt d2 with
                    | false =>
                      have nb : isPr (.tuple [d1, d2]) = false := by
                        show (numIn d1 0 400 && numIn d2 1 1000000) = false
                        have : numIn d2 1 1000000 = false := by
                          cases d2 with
                          | int i => cases c2
                          | _ => rfl
                        rw [this, Bool.and_false]
                      exact iteT (bad nb _ s2)
                    | true =>
                      refine iteF ?_
                      cases h1 with
                      | int i1 =>
                        cases h2' with
                        | int j1 =>
                          have epr : isPr (.tuple [.int i1, .int j1]) = ((decide (0 ≤ i1) && decide (i1 ≤ 400)) && (decide (1 ≤ j1) && decide (j1 ≤ 1000000))) := rfl
                          rw [epr] at bad good
                          refine ⟨_, rfl, a2, _, _, _, rfl, rfl, hS3, rfl, _, _, rfl, rfl, _, rfl, ite2 (fun z => ?_) (fun z => ?_)⟩
                          · have z1 := of_decide_eq_true z
                            refine ⟨_, _, rfl, rfl, _, rfl, ?_⟩
                            by_cases z2 : i1 ≤ 400
                            · rw [decide_eq_true z2]
                              refine iteF ⟨_, rfl, a2, _, _, _, rfl, rfl, hS3, rfl, _, _, rfl, rfl, _, rfl, ite2 (fun y => ?_) (fun y => ?_)⟩
                              · have y1 := of_decide_eq_true y
                                refine ⟨_, _, rfl, rfl, ⟨by decide, by decide, by decide⟩, _, _, rfl, rfl, _, rfl, ?_⟩
                                have e6 : (10 ^ (6 : Int).toNat : Int) = 1000000 := by decide
                                rw [e6]
                                by_cases y2 : j1 ≤ 1000000
                                · rw [decide_eq_true y2]
                                  exact iteF (good (by rw [decide_eq_true z1, decide_eq_true z2, decide_eq_true y1, decide_eq_true y2]; rfl) _ _ _ _ s2)
                                · rw [decide_eq_false y2]
                                  exact iteT (bad (by rw [decide_eq_false y2, Bool.and_false, Bool.and_false]) _ s2)
                              · exact ⟨_, rfl, iteT (bad (by rw [decide_eq_false fun y' => y (decide_eq_true y'), Bool.false_and, Bool.and_false]) _ s2)⟩
                            · rw [decide_eq_false z2]
                              exact iteT (iteT (bad (by rw [decide_eq_false z2, Bool.and_false, Bool.false_and]) _ s2))
                          · exact ⟨_, rfl, iteT (iteT (bad (by rw [decide_eq_false fun y => z (decide_eq_true y), Bool.false_and, Bool.false_and]) _ s2))⟩
                        | _ => cases c2
                      | _ => cases c1
          · have nb : isPr (.tuple ds2) = false := by
              match ds2, h2 with
              | [], _ => rfl
              | [_], _ => rfl
              | [_, _], h2 => exact absurd rfl h2
              | _ :: _ :: _ :: _, _ => rfl
            refine notN (fun z => h2 ?_) (iteT (bad nb _ (Same.refl _)))
            have := V.int.inj z
            omega
        | non => exact iteT (iteT (bad rfl _ (Same.refl _)))
        | bl b => exact iteT (iteT (bad rfl _ (Same.refl _)))
        | int i => exact iteT (iteT (bad rfl _ (Same.refl _)))
        | str z => exact iteT (iteT (bad rfl _ (Same.refl _)))
        | lst a b => exact iteT (iteT (bad rfl _ (Same.refl _)))
      · have ei : i = xs.length := by omega
        rw [ei, hlen, List.take_of_length_le (Nat.le_refl _)] at hpre
        have hall : ds.all isPr = true := List.all_eq_true.mpr hpre
        rw [hall, Bool.true_and] at q
        have sA := s1.trans sG
        refine .inl ⟨o2 ei, walk_or rfl (HS sA) fun J ok D2 hD2 => data_lc (fun d => V.int (dayD d)) ok (dpAll_same sA hA) (by omega) hD2 (fun i x d hd G s hp Y N h1 => ?_) (fun G3 s3 hG3 => ?_)⟩
        · obtain ⟨t, i1, j1, rfl, rfl, hT, _⟩ := price_dp hp (hpre d (List.mem_of_getElem? hd))
          exact ⟨rfl, _, rfl, t, _, _, _, rfl, rfl, hT, rfl, h1 G (Same.refl G)⟩
        have hG4 : G3 D2 = some (.lst ((ds.map dayD).map V.int)) := by
          rw [hG3, List.map_map]
          rfl
        have ldd : (ds.map dayD).length ≤ 900 := by rw [List.length_map]; exact small
        generalize ds.map dayD = ns at *
        refine ⟨_, rfl, _, rfl, D2, ns, rfl, SqL.of hG4, by omega, fun p1 c1 np1 hc1 => ?_⟩
        refine ⟨p1, _, c1, rfl, upd_same, fun ms p2 hms hmem hml np2 => ?_⟩
        have s5 := (same_new (o := SetO w p1 (fun j => decide (j ∈ ns)) c1) np1).trans (same_new (o := .lst (ms.map V.int)) np2)
        refine ⟨_, _, dp_ints (SqL.of (s5 _ _ hG4)), dp_ints (SqL.of upd_same), sh_ints _, sh_ints _, ?_⟩
        rw [eqv_ints]
        have er : decide (ns = ms) = risB ns := by
          unfold risB
          rw [decide_eq_decide]
          constructor
          · intro z
            rw [z]
            exact hms
          · exact fun z => rise_one z hms fun k => by rw [hmem, decide_eq_true_eq]
        rw [er]
        exact q _ ((sA.trans s3).trans s5)
    · rw [k]
      have ea : arePr d = false := by
        unfold arePr
        rw [e]
      rw [ea] at q
      exact iteT (q _ s1)
/-! ### _law_bent -/
abbrev s__law_bent : Stmt := topS 15
abbrev N__law_bent : List Str := ["_law_left_here", "_law_prices_here", "_law_found", "_law_way", "_law_at", "_law_day", "_law_pence", "_law_some", "_law_by"]
theorem sc__law_bent : FnScope N__law_bent ["_law_left_here", "_law_prices_here"] (defScope s__law_bent) := ⟨rfl, rfl, rfl, by decide +kernel, rfl, by decide +kernel, by decide +kernel⟩
theorem Fine.mono {k m : Nat} {d : PyData} (h : Fine k d) (l : k ≤ m) : Fine m d := ⟨h.sh, h.di, by have := h.de; omega, by have := h.le; omega, h.la⟩
structure Sc (d : PyData) : Prop where
  sh : d.showable = true
  di : d.hasDict = false
  de : d.depth ≤ 1
  le : d.shown.length ≤ 11
  la : PyData.canLay0 d = true
theorem sc_int {i : Int} (h0 : -1000002 ≤ i) (h1 : i ≤ 1000002) : Sc (.int i) := by
  refine ⟨?_, rfl, by simp [PyData.depth], ?_, rfl⟩
  · have : i.natAbs.log2 < 1920 := by
      by_cases z : i.natAbs = 0
      · rw [z]
        decide
      · have : i.natAbs.log2 < 30 := (Nat.log2_lt z).mpr (by show i.natAbs < 1073741824; omega)
        omega
    simp [PyData.showable, this]
  · have e1 : PyData.shown (.int i) = Str.ofString (toString i) := by simp only [PyData.shown]
    rw [e1]
    by_cases c : 0 ≤ i
    · exact Nat.le_trans (PyProof.Rows.toString_length_le (v := i) c (k := 10) (by decide) (by show i < 10000000000; omega)) (by decide)
    · have a := PyProof.Rows.len_text_negI (n := i) (by omega)
      have b := PyProof.Rows.toString_length_le (v := 0 - i) (by omega) (k := 10) (by decide) (by show 0 - i < 10000000000; omega)
      omega
theorem sc_true : Sc (.bool true) := ⟨by decide +kernel, by decide +kernel, by decide +kernel, by decide +kernel, by decide +kernel⟩
section
variable {a b c : PyData}
theorem fine_one (h1 : Sc a) : Fine 10 (.tuple [a]) := by
  refine ⟨by simp [PyData.showable, PyData.showableAll, h1.sh], by simp [PyData.hasDict, PyData.hasDictAll, h1.di], ?_, ?_, by simp [PyData.canLay0, PyData.canLayAll0, h1.la]⟩
  · have := h1.de
    simp only [PyData.depth, PyData.depthAll]
    omega
  · have := h1.le
    rw [PyData.shown_tuple, PyData.shownAll_cons, PyData.shownAll_nil]
    show (_ ++ PyData.shown a ++ _).length ≤ _
    rw [len_app, len_app]
    show 1 + (PyData.shown a).length + 2 ≤ _
    omega
theorem fine_two (h1 : Sc a) (h2 : Sc b) : Fine 10 (.tuple [a, b]) := by
  refine ⟨by simp [PyData.showable, PyData.showableAll, h1.sh, h2.sh], by simp [PyData.hasDict, PyData.hasDictAll, h1.di, h2.di], ?_, ?_, by simp [PyData.canLay0, PyData.canLayAll0, h1.la, h2.la]⟩
  · have := h1.de
    have := h2.de
    simp only [PyData.depth, PyData.depthAll]
    omega
  · have := h1.le
    have := h2.le
    rw [PyData.shown_tuple, PyData.shownAll_cons, PyData.shownAll_cons, PyData.shownAll_nil]
    show (_ ++ (PyData.shown a ++ _ ++ PyData.shown b) ++ _).length ≤ _
    rw [len_app, len_app, len_app, len_app]
    show 1 + ((PyData.shown a).length + 2 + (PyData.shown b).length) + 1 ≤ _
    omega
theorem fine_lst2 (h1 : Sc a) (h2 : Sc b) : Fine 10 (.list [a, b]) := by
  refine ⟨by simp [PyData.showable, PyData.showableAll, h1.sh, h2.sh], by simp [PyData.hasDict, PyData.hasDictAll, h1.di, h2.di], ?_, ?_, by simp [PyData.canLay0, PyData.canLayAll0, h1.la, h2.la]⟩
  · have := h1.de
    have := h2.de
    simp only [PyData.depth, PyData.depthAll]
    omega
  · have := h1.le
    have := h2.le
    rw [PyData.shown_list, PyData.shownAll_cons, PyData.shownAll_cons, PyData.shownAll_nil]
    show (_ ++ (PyData.shown a ++ _ ++ PyData.shown b) ++ _).length ≤ _
    rw [len_app, len_app, len_app, len_app]
    show 1 + ((PyData.shown a).length + 2 + (PyData.shown b).length) + 1 ≤ _
    omega
theorem fine_three (h1 : Sc a) (h2 : Sc b) (h3 : Sc c) : Fine 10 (.tuple [a, b, c]) := by
  refine ⟨by simp [PyData.showable, PyData.showableAll, h1.sh, h2.sh, h3.sh], by simp [PyData.hasDict, PyData.hasDictAll, h1.di, h2.di, h3.di], ?_, ?_, by simp [PyData.canLay0, PyData.canLayAll0, h1.la, h2.la, h3.la]⟩
  · have := h1.de
    have := h2.de
    have := h3.de
    simp only [PyData.depth, PyData.depthAll]
    omega
  · have := h1.le
    have := h2.le
    have := h3.le
    rw [PyData.shown_tuple, PyData.shownAll_cons, PyData.shownAll_cons, PyData.shownAll_cons, PyData.shownAll_nil]
    show (_ ++ (PyData.shown a ++ _ ++ (PyData.shown b ++ _ ++ PyData.shown c)) ++ _).length ≤ _
    rw [len_app, len_app, len_app, len_app, len_app, len_app]
    show 1 + ((PyData.shown a).length + 2 + ((PyData.shown b).length + 2 + (PyData.shown c).length)) + 1 ≤ _
    omega
end
/-- what stays whatever becomes of two places -/
def Stay (K : PySem.W.Frag) (b F : Addr) (G : Hp) (z : V × PyData) : Prop := ∀ G' : Hp, (∀ c o, c ≠ b → c ≠ F → G c = some o → G' c = some o) → Dp K G' z.1 z.2
def Els (K : PySem.W.Frag) (b F : Addr) (G : Hp) (zs : List (V × PyData)) : Prop := ∀ z ∈ zs, Stay K b F G z ∧ Fine 10 z.2
section
variable {K : PySem.W.Frag} {b F : Addr} {G G' : Hp} {zs : List (V × PyData)} {z : V × PyData}
theorem Stay.but (h : Stay K b F G z) (t : But b G G') : Stay K b F G' z := fun X g => h X fun c o n1 n2 e => g c o n1 n2 (t _ _ n1 e)
theorem Stay.upd {o : HO} (h : Stay K b F G z) : Stay K b F (L2.upd G F o) z := fun X g => h X fun c u n1 n2 e => g c u n1 n2 (by rw [upd_ne n2]; exact e)
theorem Els.but (h : Els K b F G zs) (t : But b G G') : Els K b F G' zs := fun z hz => ⟨(h z hz).1.but t, (h z hz).2⟩
theorem Els.upd {o : HO} (h : Els K b F G zs) : Els K b F (L2.upd G F o) zs := fun z hz => ⟨(h z hz).1.upd, (h z hz).2⟩
theorem Els.dps (h : Els K b F G zs) (t : But b G G') : DpAll K G' (zs.map (·.1)) (zs.map (·.2)) := by
  induction zs with
  | nil => exact .nil
  | cons z r ih => exact .cons ((h z List.mem_cons_self).1 G' fun c o n1 _ e => t _ _ n1 e) (ih fun x hx => h x (List.mem_cons_of_mem _ hx))
end
structure Whole (k : Nat) (d : PyData) : Prop where
  sh : d.showable = true
  di : d.hasDict = false
  de : d.depth ≤ 60
  le : d.shown.length ≤ 10000 + k
  sq : ∀ l, seqD d = some l → l.length ≤ 900
theorem join_len (sep : Str) : ∀ ts : List Str, (Str.join sep ts).length ≤ (ts.map (·.length)).sum + ts.length * sep.length
  | [] => Nat.zero_le _
  | [x] => by
    show x.length ≤ _
    simp only [List.map_cons, List.map_nil, List.sum_cons, List.sum_nil]
    omega
  | x :: y :: r => by
    have h := join_len sep (y :: r)
    show (x ++ sep ++ Str.join sep (y :: r)).length ≤ _
    rw [len_app, len_app, List.map_cons, List.sum_cons, List.length_cons, Nat.add_mul, Nat.one_mul]
    omega
theorem all_len {B : Nat} : ∀ {l : List PyData}, (∀ d ∈ l, (PyData.shown d).length ≤ B) → ((PyData.shownAll l).map (·.length)).sum ≤ B * l.length ∧ (PyData.shownAll l).length = l.length
  | [], _ => ⟨Nat.le_refl _, rfl⟩
  | d :: r, h => by
    obtain ⟨a, b⟩ := all_len (l := r) fun x hx => h x (List.mem_cons_of_mem _ hx)
    have c := h d List.mem_cons_self
    rw [PyData.shownAll_cons, List.map_cons, List.sum_cons, List.length_cons, List.length_cons, b, Nat.mul_add]
    exact ⟨by omega, rfl⟩
theorem all_seen {k : Nat} : ∀ {l : List PyData}, (∀ d ∈ l, d.showable = true ∧ d.hasDict = false ∧ d.depth ≤ k) → PyData.showableAll l = true ∧ PyData.hasDictAll l = false ∧ PyData.depthAll l ≤ k
  | [], _ => by simp [PyData.showableAll, PyData.hasDictAll, PyData.depthAll]
  | d :: r, h => by
    obtain ⟨a, b, c⟩ := h d List.mem_cons_self
    obtain ⟨a2, b2, c2⟩ := all_seen (l := r) fun x hx => h x (List.mem_cons_of_mem _ hx)
    simp only [PyData.showableAll, PyData.hasDictAll, PyData.depthAll, a, b, a2, b2, Bool.and_self, Bool.or_self]
    exact ⟨trivial, trivial, by omega⟩
theorem whole_seq {l : List PyData} (h : ∀ d ∈ l, Fine 10 d) (hl : l.length ≤ 100) : Whole 0 (.list l) ∧ Whole 0 (.tuple l) := by
  obtain ⟨a, b, c⟩ := all_seen (k := 11) fun d hd => ⟨(h d hd).sh, (h d hd).di, (h d hd).de⟩
  obtain ⟨u, v⟩ := all_len (B := 50) fun d hd => (h d hd).le
  have w := join_len ", " (PyData.shownAll l)
  have e3 : (Str.ofString ", ").length = 2 := rfl
  rw [v, e3] at w
  have e1 : (Str.ofString "[").length = 1 := rfl
  have e2 : (Str.ofString "]").length = 1 := rfl
  refine ⟨⟨by simp [PyData.showable, a], by simp [PyData.hasDict, b], by simp only [PyData.depth]; omega, ?_, fun x hx => by cases hx; omega⟩, ⟨by simp [PyData.showable, a], by simp [PyData.hasDict, b], by simp only [PyData.depth]; omega, ?_, fun x hx => by cases hx; omega⟩⟩
  · rw [PyData.shown_list, len_app, len_app, e1, e2]
    omega
  · have e4 : (Str.ofString (if (l.length == 1) = true then ",)" else ")")).length ≤ 2 := by split <;> decide +kernel
    have e5 : (Str.ofString "(").length = 1 := rfl
    rw [PyData.shown_tuple, len_app, len_app, e5]
    omega
theorem ix_nat {n : Nat} {i : Int} (h0 : 0 ≤ i) (h1 : i < n) : ixN n i = some i.toNat := by
  unfold ixN
  rw [if_pos h0, if_pos h1]
def prD3 (p : Int × Int) : PyData := .tuple [.int p.1, .int p.2]
theorem eqv_nil {l : List PyData} : PyData.eqv (.list l) (.list []) = decide (l = []) := by
  cases l <;> simp [PyData.eqv, PyData.eqvAll]
theorem sh_fine : ∀ {l : List PyData}, (∀ d ∈ l, Fine 10 d) → SeqAt.shaped (.list l) = true := fun {l} h => by
  have lay : ∀ {l : List PyData}, (∀ d ∈ l, Fine 10 d) → PyData.canLayAll0 l = true ∧ PyData.depthAll l ≤ 11 := fun {l} h => by
    induction l with
    | nil => simp [PyData.canLayAll0, PyData.depthAll]
    | cons d r ih =>
      have a := (h d List.mem_cons_self).la
      have b := (h d List.mem_cons_self).de
      obtain ⟨c, e⟩ := ih fun x hx => h x (List.mem_cons_of_mem _ hx)
      simp only [PyData.canLayAll0, PyData.depthAll, a, c, Bool.and_self]
      exact ⟨trivial, by omega⟩
  obtain ⟨a, b⟩ := lay h
  show (PyData.canLay0 _ && decide (_ ≤ 64)) = true
  rw [Bool.and_eq_true]
  refine ⟨by simp only [PyData.canLay0]; exact a, decide_eq_true ?_⟩
  simp only [PyData.depth]
  omega
theorem at_near {α : Type} {xs : List α} {k : Int} (h0 : -1 ≤ k) (h1 : k < xs.length) (hp : 0 < xs.length) : ∃ j, ∃ h : j < xs.length, atI xs k = some xs[j] := by
  by_cases c : 0 ≤ k
  · refine ⟨k.toNat, by omega, ?_⟩
    unfold atI ixN
    rw [if_pos c, if_pos h1]
    exact List.getElem?_eq_getElem (by omega)
  · refine ⟨xs.length - 1, by omega, ?_⟩
    unfold atI ixN
    rw [if_neg c, if_pos (by omega)]
    have e : (k + (xs.length : Int)).toNat = xs.length - 1 := by omega
    show xs[(k + (xs.length : Int)).toNat]? = _
    rw [e]
    exact List.getElem?_eq_getElem (by omega)
theorem Els.set {K : PySem.W.Frag} {b F : Addr} {G : Hp} {zs : List (V × PyData)} {z : V × PyData} {j : Nat} (h : Els K b F G zs) (hz : Stay K b F G z ∧ Fine 10 z.2) : Els K b F G (zs.set j z) := fun x hx => by
  rcases List.mem_or_eq_of_mem_set hx with y | y
  · exact h x y
  · rw [y]
    exact hz
theorem stay_tup {K : PySem.W.Frag} {b F T : Addr} {G : Hp} {xs : List V} {ds : List PyData} (h : G T = some (.tup xs)) (n1 : T ≠ b) (n2 : T ≠ F) (hd : ∀ X, DpAll K X xs ds) : Stay K b F G (.ref T, .tuple ds) := fun X g => .tup (SqT.of (g _ _ n1 n2 h)) (hd X)
theorem stay_lst {K : PySem.W.Frag} {b F T : Addr} {G : Hp} {xs : List V} {ds : List PyData} (h : G T = some (.lst xs)) (n1 : T ≠ b) (n2 : T ≠ F) (hd : ∀ X, DpAll K X xs ds) : Stay K b F G (.ref T, .list ds) := fun X g => .lst (SqL.of (g _ _ n1 n2 h)) (hd X)
theorem pick_sc {xs : List V} {r : Int} {n : Nat} (hn : xs.length = n) (h0 : 0 ≤ r) (h1 : r < n) (h : ∀ x ∈ xs, ∃ d, Sc d ∧ ∀ (K : PySem.W.Frag) (X : Hp), Dp K X x d) : ∃ x d, atI xs r = some x ∧ Sc d ∧ ∀ (K : PySem.W.Frag) (X : Hp), Dp K X x d := by
  obtain ⟨j, hj, e⟩ := at_near (xs := xs) (k := r) (by omega) (by omega) (by omega)
  obtain ⟨d, hd, hp⟩ := h _ (List.getElem_mem hj)
  exact ⟨_, d, e, hd, hp⟩
theorem join_ge (sep : Str) : ∀ ts : List Str, ts.length * sep.length ≤ (Str.join sep ts).length + sep.length
  | [] => by simp
  | [x] => by
    show 1 * _ ≤ _
    omega
  | x :: y :: r => by
    have h := join_ge sep (y :: r)
    show _ ≤ (x ++ sep ++ Str.join sep (y :: r)).length + _
    rw [len_app, len_app, List.length_cons, Nat.add_mul, Nat.one_mul]
    omega
theorem all_many : ∀ l : List PyData, (PyData.shownAll l).length = l.length
  | [] => rfl
  | d :: r => by rw [PyData.shownAll_cons, List.length_cons, List.length_cons, all_many r]
theorem whole_fine {d : PyData} (h : Fine 6 d) : Whole 0 d := by
  have hl := h.le
  have e3 : (Str.ofString ", ").length = 2 := rfl
  refine ⟨h.sh, h.di, by have := h.de; omega, by omega, fun l hx => ?_⟩
  cases d with
  | list m =>
    cases hx
    have a := join_ge ", " (PyData.shownAll l)
    rw [all_many, e3] at a
    rw [PyData.shown_list, len_app, len_app] at hl
    omega
  | tuple m =>
    cases hx
    have a := join_ge ", " (PyData.shownAll l)
    rw [all_many, e3] at a
    rw [PyData.shown_tuple, len_app, len_app] at hl
    omega
  | _ => cases hx
def sp__law_bent (K : PySem.W.Frag) : Sp := fun vs H Q _ => ∃ (b L : Addr) (n : Int) (as : List Addr) (ps : List (Int × Int)), vs = [.ref b, .ref L] ∧ Three H b n ∧ n < 999000 ∧ H L = some (.lst (as.map V.ref)) ∧ L ≠ b ∧ Prs H as ps ∧ Okp ps ∧ ps.length ≤ 60 ∧
  ∀ (H' : Hp) (x : V) (d : PyData), Three H' b (n + 30) → But b H H' → DpB K b H' x d → Whole 0 d → Q x H'
theorem ok__law_bent {f : Addr} {fd : FuncData} (F : Fun K "_law_bent" "_law_bent" s__law_bent f fd) (g : mg "_law_bent" = some (.ref f)) (bd : Binds K fd ["_law_left_here", "_law_prices_here"] []) (m_max : mg "max" = none) (m_len : mg "len" = none) (m_list : mg "list" = none) (C__law_pick : CF P w K mg base 2 "_law_pick" ["_law_left_here", "_law_many"] (sp__law_pick K)) (C__law_odd : CF P w K mg base 3 "_law_odd" ["_law_left_here"] (sp__law_odd K)) : CF P w K mg base 4 "_law_bent" ["_law_left_here", "_law_prices_here"] (sp__law_bent K) := by
  refine ⟨f, fd, F.ok sc__law_bent (fun vs H Q E h => ?_) (fun cdv A outer s H vs Q E hr h => ?_), g, F.kp, bd⟩
  · first | (obtain ⟨_, rfl, _⟩ := h; rfl) | (obtain ⟨_, _, rfl, _⟩ := h; rfl) | (obtain ⟨_, _, _, rfl, _⟩ := h; rfl) | (obtain ⟨_, _, _, _, rfl, _⟩ := h; rfl) | (obtain ⟨_, _, _, _, _, rfl, _⟩ := h; rfl) | (obtain ⟨_, _, _, _, _, _, rfl, _⟩ := h; rfl) | (obtain ⟨_, _, _, _, _, _, _, rfl, _⟩ := h; rfl)
  · have hu64 := hr.units
    obtain ⟨b, L, n, as, ps, rfl, hb, hn, hL, nLb, hP, hok, hl, q⟩ := h
    refine ⟨_, (pss_cons (ps_par3 (i := 2) (j := 3) (l := 4) (by rfl) sc__law_bent.nd rfl rfl rfl (by decide) (by decide) (by decide) rfl rfl rfl (pa_cons (pe_callTy (kk_list K) (by rfl) m_list (by decide +kernel) (pa_cons (pv 1) pa_nil)) (pa_cons (pe_cf C__law_pick (hr.mono (by decide)) (by rfl) (pa_cons (pv 0) (pa_cons pe_int pa_nil))) (pa_cons (pe_cf C__law_pick (hr.mono (by decide)) (by rfl) (pa_cons (pv 0) (pa_cons (pe_callB (call_max2 rfl) (by rfl) m_max (by decide +kernel) (pa_cons pe_int (pa_cons (pe_callB (kk_len K) (by rfl) m_len PySem.boot_len (pa_cons (pv 1) pa_nil)) pa_nil))) pa_nil))) pa_nil))) (by rfl))
      (pss_cons (ps_if (PW.pt (pw_or (pt_cmpR (kk_eqD K hu64) (pv 2) (pe_lst pa_nil) (nomark _)) (pw_or1 (pt_cmpR op_eq (pv 3) pe_int (nomark _)))))
         (pss_one (ps_ret (pe_ifExp (pt_cmpR op_eq (pe_cf C__law_pick (hr.mono (by decide)) (by rfl) (pa_cons (pv 0) (pa_cons pe_int pa_nil))) pe_int (nomark _)) (pe_cf C__law_odd (hr.mono (by decide)) (by rfl) (pa_cons (pv 0) pa_nil)) (pe_op op_cat (pv 2) (pe_lst (pa_cons (pe_cf C__law_odd (hr.mono (by decide)) (by rfl) (pa_cons (pv 0) pa_nil)) pa_nil))))))
         pss_nil)
      (pss_cons (ps_asg (pe_ix (kk_ixl K) (pv 2) (pv 4) (fun _ _ => rfl)) (pg_tup (by rfl) (pgs_cons (pg_name (i := 5) sc__law_bent.nd rfl (.inl rfl)) (pgs_cons (pg_name (i := 6) sc__law_bent.nd rfl (.inl rfl)) pgs_nil))))
      (pss_cons (ps_if (pt_cmpR op_lt (pv 3) pe_int (nomark _))
         (pss_cons (ps_set (i := 7) sc__law_bent.nd rfl (.inl rfl) (pe_lst (pa_cons (pe_op op_add (pv 5) pe_int) (pa_cons (pe_op op_sub (pv 5) pe_int) (pa_cons (pe_ix (kk_ixt K) (pe_ix (kk_ixl K) (pv 2) (pe_op op_sub (pv 4) pe_int) (fun _ _ => rfl)) pe_int (fun _ _ => rfl)) (pa_cons pe_int (pa_cons pe_int (pa_cons (pe_un un_neg pe_int) (pa_cons pe_bl pa_nil)))))))))
          (pss_one (ps_asg (pe_tup (pa_cons (pe_ix (kk_ixl K) (pv 7) (pe_cf C__law_pick (hr.mono (by decide)) (by rfl) (pa_cons (pv 0) (pa_cons pe_int pa_nil))) (fun _ _ => rfl)) (pa_cons (pv 6) pa_nil))) (pg_sub (pv 2) (pv 4) set_list))))
         (pss_one (ps_if (pt_cmpR op_lt (pv 3) pe_int (nomark _))
             (pss_one (ps_asg (pe_tup (pa_cons (pv 5) (pa_cons (pe_ix (kk_ixl K) (pe_lst (pa_cons pe_int (pa_cons pe_int (pa_cons (pe_op op_pow pe_int pe_int) (pa_cons (pe_op op_add (pe_op op_pow pe_int pe_int) pe_int) (pa_cons (pe_un un_neg (pv 6)) (pa_cons pe_bl pa_nil))))))) (pe_cf C__law_pick (hr.mono (by decide)) (by rfl) (pa_cons (pv 0) (pa_cons pe_int pa_nil))) (fun _ _ => rfl)) pa_nil))) (pg_sub (pv 2) (pv 4) set_list)))
             (pss_one (ps_if (pt_cmpR op_eq (pv 3) pe_int (nomark _))
                 (pss_cons (ps_set (i := 8) sc__law_bent.nd rfl (.inl rfl) (pe_cf C__law_pick (hr.mono (by decide)) (by rfl) (pa_cons (pv 0) (pa_cons (pe_callB (kk_len K) (by rfl) m_len PySem.boot_len (pa_cons (pv 2) pa_nil)) pa_nil))))
                  (pss_one (ps_asg (pe_tup (pa_cons (pe_ix (kk_ixl K) (pv 2) (pv 8) (fun _ _ => rfl)) (pa_cons (pe_ix (kk_ixl K) (pv 2) (pv 4) (fun _ _ => rfl)) pa_nil))) (pg_tup (by rfl) (pgs_cons (pg_sub (pv 2) (pv 4) set_list) (pgs_cons (pg_sub (pv 2) (pv 8) set_list) pgs_nil))))))
                 (pss_one (ps_if (pt_cmpR op_eq (pv 3) pe_int (nomark _))
                     (pss_one (ps_expr (pe_bm PySem.F.plainAttrs_list PySem.F.slot_list_insert PySem.F.type_list_insert mt_insert (pv 2) (pa_cons (pv 4) (pa_cons (pe_ix (kk_ixl K) (pv 2) (pv 4) (fun _ _ => rfl)) pa_nil)))))
                     (pss_one (ps_if (pt_cmpR op_eq (pv 3) pe_int (nomark _))
                         (pss_one (ps_asg (pe_ix (kk_ixl K) (pe_lst (pa_cons (pe_lst (pa_cons (pv 5) (pa_cons (pv 6) pa_nil))) (pa_cons (pe_tup (pa_cons (pv 5) pa_nil)) (pa_cons (pe_tup (pa_cons (pv 5) (pa_cons (pv 6) (pa_cons pe_int pa_nil)))) (pa_cons (pe_tup (pa_cons (pv 6) (pa_cons (pv 5) pa_nil))) pa_nil))))) (pe_cf C__law_pick (hr.mono (by decide)) (by rfl) (pa_cons (pv 0) (pa_cons pe_int pa_nil))) (fun _ _ => rfl)) (pg_sub (pv 2) (pv 4) set_list)))
                         (pss_one (ps_asg (pe_cf C__law_odd (hr.mono (by decide)) (by rfl) (pa_cons (pv 0) pa_nil)) (pg_sub (pv 2) (pv 4) set_list))))))))))))
      (pss_one (ps_ret (pv 2))))))), ?_⟩
    have lp := hP.1
    refine ⟨_, rfl, L, _, rfl, .inl (SqL.of hL), fun F nF => ?_⟩
    have sF := same_new (o := .lst (as.map V.ref)) nF
    have hF0 := upd_same (H := H) (a := F) (o := .lst (as.map V.ref))
    have nFb := hb.ne nF
    have b0 := hb.same sF
    have hL0 := sF _ _ hL
    have hP0 := hP.same sF
    generalize upd H F (.lst (as.map V.ref)) = G0 at *
    have lm : (as.map V.ref).length = as.length := List.length_map ..
    refine ⟨_, rfl, b, 10, _, rfl, b0, by decide, by decide, by omega, fun way H1 w0 w1 b1 t1 => ?_⟩
    refine ⟨_, rfl, _, rfl, L, _, rfl, .inl (SqL.of (t1 _ _ nLb hL0)), _, _, rfl, b, _, _, rfl, b1, by split <;> omega, by split <;> omega, by omega, fun at_ H2 a0 a1 b2 t2 => ⟨_, _, _, rfl, ?_⟩⟩
    have hF2 := t2 _ _ nFb (t1 _ _ nFb hF0)
    have hP2 := (hP0.but t1 b0).but t2 b1
    have T2 := ((But.of (b := b) sF).trans t1).trans t2
    obtain ⟨_, _, _, hbo, _⟩ := id b2
    obtain ⟨zs, hzs⟩ : ∃ zs : List (V × PyData), zs = (as.zip ps).map fun q => (V.ref q.1, prD3 q.2) := ⟨_, rfl⟩
    have zf : zs.map (·.1) = as.map V.ref := by
      rw [hzs, List.map_map]
      have : ((fun x : V × PyData => x.1) ∘ fun q : Addr × (Int × Int) => (V.ref q.1, prD3 q.2)) = V.ref ∘ Prod.fst := rfl
      rw [this, ← List.map_map, List.map_fst_zip (by omega)]
    have zl : zs.length = as.length := by rw [hzs, List.length_map, List.length_zip]; omega
    have zel : Els K b F H2 zs := fun z hz => by
      rw [hzs] at hz
      obtain ⟨x, hx, rfl⟩ := List.mem_map.mp hz
      obtain ⟨i, hi, e⟩ := List.getElem_of_mem hx
      rw [List.getElem_zip] at e
      rw [List.length_zip] at hi
      have ha : as[i]? = some x.1 := by rw [List.getElem?_eq_getElem (by omega), ← e]
      have hp : ps[i]? = some x.2 := by rw [List.getElem?_eq_getElem (by omega), ← e]
      have hA := hP2.2 i _ _ ha hp
      obtain ⟨o1, o2, o3, o4⟩ := hok x.2 (List.mem_of_getElem? hp)
      exact ⟨stay_tup hA (ne_of hA hbo (by intro z; cases z)) (ne_of hA hF2 (by intro z; cases z)) fun X => .cons (.int _) (.cons (.int _) .nil), fine_two (sc_int (by omega) (by omega)) (sc_int (by omega) (by omega))⟩
    rw [← zf] at hF2
    have fin : ∀ (G : Hp) (ys : List (V × PyData)), Three G b (n + 30) → But b H G → G F = some (.lst (ys.map (·.1))) → Els K b F G ys → ys.length ≤ 61 → Q (.ref F) G := fun G ys bG tG hG he hy => q G _ (.list (ys.map (·.2))) bG tG (fun G' g => .lst (SqL.of (g _ _ nFb hG)) (he.dps g)) (whole_seq (fun d hd => by
      obtain ⟨z, hz, rfl⟩ := List.mem_map.mp hd
      exact (he z hz).2) (by rw [List.length_map]; omega)).1
    have newF : ∀ {G : Hp} {o : HO}, But b H G → But b H (upd G F o) := fun t => updNew t nF
    have zfine : ∀ d ∈ zs.map (·.2), Fine 10 d := fun d hd => by
      obtain ⟨z, hz, rfl⟩ := List.mem_map.mp hd
      exact (zel z hz).2
    have setF : ∀ (G : Hp) (x : V) (d : PyData), Three G b (n + 30) → But b H G → Els K b F G zs → Stay K b F G (x, d) → Fine 10 d → Q (.ref F) (upd G F (.lst ((zs.map (·.1)).set at_.toNat x))) := fun G x d bG tG he hs hf => by
      have e : (zs.map (·.1)).set at_.toNat x = (zs.set at_.toNat (x, d)).map (·.1) := by rw [List.map_set]
      rw [e]
      exact fin _ _ (bG.upd nFb) (newF tG) upd_same ((he.set ⟨hs, hf⟩).upd) (by rw [List.length_set]; omega)
    have oddS : ∀ {G G' : Hp} {x : V} {d : PyData} {m : Int} {o : HO}, Three G b m → G F = some o → DpN K G G' x d → Stay K b F G' (x, d) := fun {G G' x d m o} bG hG dn X g => dn X fun c u n1 e1 => g c u (bG.ne n1) (fun z => by rw [z, hG] at n1; cases n1) e1
    have retA : ∀ (N : _) (G : Hp), Three G b (n + 1 + 1) → But b H G → G F = some (.lst (zs.map (·.1))) → Els K b F G zs →
        tRet (tIf (tTest (tOp rEq (tCall (sp__law_pick K) [] E0 (tCons (tVar 0) (tCons (tC (V.int 2)) tNil))) (tC (V.int 0)))) (tCall (sp__law_odd K) [] E0 (tCons (tVar 0) tNil)) (tOp rCat (tVar 2) (tLst (tCons (tCall (sp__law_odd K) [] E0 (tCons (tVar 0) tNil)) tNil)))) { nx := N, rt := Q } [some (.ref b), some (.ref L), some (.ref F), some (.int way), some (.int at_), none, none, none, none] G := fun N G bG tG hG he => by
      refine ⟨_, rfl, b, 2, _, rfl, bG, by decide, by decide, by omega, fun r G1 r0 r1 b3 t3 => ⟨rfl, _, rfl, ite2 (fun _ => ?_) (fun _ => ?_)⟩⟩
      · exact ⟨_, rfl, b, _, rfl, b3, by omega, fun G2 x d b4 t4 dn fi => q G2 x d (b4.mono (by omega)) ((tG.trans t3).trans t4) (fun X g => oddS b3 (t3 _ _ nFb hG) dn X fun c o n1 _ e => g c o n1 e) (whole_fine fi)⟩
      · refine ⟨_, rfl, _, rfl, b, _, rfl, b3, by omega, fun G2 x d b4 t4 dn fi => ⟨by show 1 ≤ sizeLine; rw [sizeLine_eq]; omega, fun l nl => ⟨F, l, _, _, rfl, rfl, same_new nl _ _ (t4 _ _ nFb (t3 _ _ nFb hG)), upd_same, ?_, fun p np => ?_⟩⟩⟩
        · show (zs.map (·.1)).length + 1 ≤ _
          rw [List.length_map, sizeLine_eq]
          omega
        have e5 : Els K b F G2 (zs ++ [(x, d)]) := fun z hz => by
          rcases List.mem_append.mp hz with y | y
          · exact ((he.but t3).but t4) z y
          · rw [List.mem_singleton.mp y]
            exact ⟨oddS b3 (t3 _ _ nFb hG) dn, fi.mono (by omega)⟩
        have sN := (same_new (o := .lst [x]) nl).trans (same_new (o := .lst (zs.map (·.1) ++ [x])) np)
        refine q _ _ (.list ((zs ++ [(x, d)]).map (·.2))) ((b4.mono (by omega)).same sN) (((tG.trans t3).trans t4).trans (.of sN)) (fun X g => ?_) (whole_seq (fun d hd => ?_) ?_).1
        · refine .lst (xs := (zs ++ [(x, d)]).map (·.1)) (SqL.of (g _ _ ((b4.new nl).ne np) ?_)) (e5.dps ((But.of sN).trans g))
          rw [List.map_append]
          exact upd_same
        · obtain ⟨z, hz, rfl⟩ := List.mem_map.mp hd
          exact (e5 z hz).2
        · rw [List.length_map, List.length_append]
          show zs.length + 1 ≤ 100
          omega
    refine ⟨_, rfl, (by show 0 ≤ sizeLine; omega), fun nn hnn => ⟨_, _, .lst (SqL.of (same_new hnn _ _ hF2)) (zel.dps (But.of (same_new hnn))), .lst (SqL.of upd_same) .nil, sh_fine zfine, sh_fine (l := []) (fun d hd => by cases hd), ?_⟩⟩
    rw [eqv_nil]
    have bN : Three (upd H2 nn (.lst [])) b (n + 1 + 1) := b2.new hnn
    have tN : But b H (upd H2 nn (.lst [])) := T2.trans (But.new hnn)
    have hFN := same_new (o := .lst []) hnn _ _ hF2
    have eN : Els K b F (upd H2 nn (.lst [])) zs := zel.but (But.new hnn)
    have hPN := hP2.same (same_new (o := .lst []) hnn)
    generalize upd H2 nn (.lst []) = G at *
    refine ⟨_, rfl, ?_⟩
    by_cases c0 : zs.map (·.2) = []
    · rw [decide_eq_true c0]
      exact iteT (iteT (retA _ G bN tN hFN eN))
    rw [decide_eq_false c0]
    refine iteF ⟨_, rfl, rfl, _, rfl, ite2 (fun _ => retA _ G bN tN hFN eN) (fun _ => ?_)⟩
    have zp : 0 < zs.length := by
      cases zs with
      | nil => exact absurd rfl c0
      | cons _ _ => exact Nat.succ_pos _
    have ha : at_ < zs.length := by
      rw [lm, ← zl] at a1
      split at a1 <;> omega
    have hi : at_.toNat < as.length := by omega
    have atA : atI (zs.map (·.1)) at_ = some (V.ref as[at_.toNat]) := by
      rw [zf]
      unfold atI
      rw [ix_nat a0 (by omega)]
      show (as.map V.ref)[at_.toNat]? = _
      rw [List.getElem?_map, List.getElem?_eq_getElem hi]
      rfl
    have hA := hPN.2 at_.toNat _ _ (List.getElem?_eq_getElem hi) (List.getElem?_eq_getElem (lp ▸ hi))
    obtain ⟨day, pence, hdp⟩ : ∃ day pence, ps[at_.toNat]'(lp ▸ hi) = (day, pence) := ⟨_, _, rfl⟩
    obtain ⟨o1, o2, o3, o4⟩ := hok _ (List.getElem_mem (lp ▸ hi))
    rw [hdp] at hA o1 o2 o3 o4
    have ix : ixN (zs.map (·.1)).length at_ = some at_.toNat := ix_nat a0 (by rw [List.length_map]; exact ha)
    refine ⟨_, rfl, _, rfl, F, _, _, _, rfl, rfl, SqL.of hFN, atA, _, _, rfl, SqT.of hA, rfl, _, _, rfl, _, _, rfl, rfl, ?_⟩
    have nFT : ∀ {X : Hp} {T : Addr} {o : HO}, X F = some o → X T = none → T ≠ F := fun h1 h2 => (ne_of_none h1 h2).symm
    have s1 : (1 : Nat) ≤ sizeLine := by rw [sizeLine_eq]; omega
    have s2 : (2 : Nat) ≤ sizeLine := by rw [sizeLine_eq]; omega
    have s3 : (3 : Nat) ≤ sizeLine := by rw [sizeLine_eq]; omega
    have s4 : (4 : Nat) ≤ sizeLine := by rw [sizeLine_eq]; omega
    have s6 : (6 : Nat) ≤ sizeLine := by rw [sizeLine_eq]; omega
    have s7 : (7 : Nat) ≤ sizeLine := by rw [sizeLine_eq]; omega
    have scD : Sc (.int day) := sc_int (by omega) (by omega)
    have scP : Sc (.int pence) := sc_int (by omega) (by omega)
    have e6 : (10 ^ (6 : Int).toNat : Int) = 1000000 := by decide
    refine ⟨_, rfl, _, _, rfl, rfl, _, rfl, ite2 (fun c4 => ?_) (fun c4 => ?_)⟩
    · obtain ⟨j, hj, ej⟩ := at_near (xs := as.map V.ref) (k := at_ - 1) (by omega) (by rw [lm]; omega) (by rw [lm]; omega)
      have ej2 : atI (zs.map (·.1)) (at_ - 1) = some (V.ref (as[j]'(lm ▸ hj))) := by rw [zf, ej, List.getElem_map]
      rw [lm] at hj
      have hB := hPN.2 j _ _ (List.getElem?_eq_getElem hj) (List.getElem?_eq_getElem (lp ▸ hj))
      obtain ⟨u1, u2, u3, u4⟩ := hok _ (List.getElem_mem (lp ▸ hj))
      refine ⟨_, rfl, _, _, rfl, rfl, _, rfl, _, _, rfl, rfl, _, rfl, _, rfl, _, _, rfl, rfl, F, _, _, _, rfl, rfl, SqL.of hFN, ej2, _, _, _, _, rfl, rfl, SqT.of hB, rfl, _, rfl, s7, fun p1 np1 => ?_⟩
      refine ⟨_, rfl, _, rfl, b, 7, _, rfl, bN.new np1, by decide, by decide, by omega, fun r G2 r0 r1 b3 t3 => ?_⟩
      have np1b := bN.ne np1
      obtain ⟨x, d, ex, hsc, hx⟩ := pick_sc (xs := [V.int (day + 1), .int (day - 1), .int (ps[j]'(lp ▸ hj)).1, .int 400, .int 401, .int (-1), .bl true]) (n := 7) rfl r0 r1 (fun x hx => by
        simp only [List.mem_cons, List.not_mem_nil, or_false] at hx
        rcases hx with rfl | rfl | rfl | rfl | rfl | rfl | rfl
        · exact ⟨_, sc_int (by omega) (by omega), fun K X => .int _⟩
        · exact ⟨_, sc_int (by omega) (by omega), fun K X => .int _⟩
        · exact ⟨_, sc_int (by omega) (by omega), fun K X => .int _⟩
        · exact ⟨_, sc_int (by omega) (by omega), fun K X => .int _⟩
        · exact ⟨_, sc_int (by omega) (by omega), fun K X => .int _⟩
        · exact ⟨_, sc_int (by omega) (by omega), fun K X => .int _⟩
        · exact ⟨_, sc_true, fun K X => .bl _⟩)
      have hF5 := t3 _ _ nFb (same_new (o := .lst [V.int (day + 1), .int (day - 1), .int (ps[j]'(lp ▸ hj)).1, .int 400, .int 401, .int (-1), .bl true]) np1 _ _ hFN)
      refine ⟨p1, _, _, x, rfl, rfl, SqL.of (t3 _ _ np1b upd_same), ex, _, rfl, s2, fun T nT => ⟨_, rfl, _, rfl, F, _, _, _, rfl, rfl, same_new nT _ _ hF5, ix, _, rfl, ?_⟩⟩
      exact setF _ _ (.tuple [d, .int pence]) ((b3.new nT).mono (by omega)) (((tN.trans (.new np1)).trans t3).trans (.new nT)) (((eN.but (.new np1)).but t3).but (.new nT)) (stay_tup upd_same (b3.ne nT) (nFT hF5 nT) fun X => .cons (hx K X) (.cons (.int _) .nil)) (fine_two hsc scP)
    refine ⟨_, rfl, _, _, rfl, rfl, _, rfl, ite2 (fun c6 => ?_) (fun c6 => ?_)⟩
    · refine ⟨_, rfl, _, _, rfl, rfl, ⟨by decide, by decide, by decide⟩, _, _, rfl, rfl, ⟨by decide, by decide, by decide⟩, _, _, rfl, rfl, _, rfl, _, rfl, s6, fun p1 np1 => ?_⟩
      refine ⟨_, rfl, b, 6, _, rfl, bN.new np1, by decide, by decide, by omega, fun r G2 r0 r1 b3 t3 => ?_⟩
      have np1b := bN.ne np1
      obtain ⟨x, d, ex, hsc, hx⟩ := pick_sc (xs := [V.int 0, .int 1, .int (10 ^ (6 : Int).toNat), .int (10 ^ (6 : Int).toNat + 1), .int (-pence), .bl true]) (n := 6) rfl r0 r1 (fun x hx => by
        rw [e6] at hx
        simp only [List.mem_cons, List.not_mem_nil, or_false] at hx
        rcases hx with rfl | rfl | rfl | rfl | rfl | rfl
        · exact ⟨_, sc_int (by omega) (by omega), fun K X => .int _⟩
        · exact ⟨_, sc_int (by omega) (by omega), fun K X => .int _⟩
        · exact ⟨_, sc_int (by omega) (by omega), fun K X => .int _⟩
        · exact ⟨_, sc_int (by omega) (by omega), fun K X => .int _⟩
        · exact ⟨_, sc_int (by omega) (by omega), fun K X => .int _⟩
        · exact ⟨_, sc_true, fun K X => .bl _⟩)
      have hF5 := t3 _ _ nFb (same_new (o := .lst [V.int 0, .int 1, .int (10 ^ (6 : Int).toNat), .int (10 ^ (6 : Int).toNat + 1), .int (-pence), .bl true]) np1 _ _ hFN)
      refine ⟨p1, _, _, x, rfl, rfl, SqL.of (t3 _ _ np1b upd_same), ex, s2, fun T nT => ⟨_, rfl, _, rfl, F, _, _, _, rfl, rfl, same_new nT _ _ hF5, ix, _, rfl, ?_⟩⟩
      exact setF _ _ (.tuple [.int day, d]) ((b3.new nT).mono (by omega)) (((tN.trans (.new np1)).trans t3).trans (.new nT)) (((eN.but (.new np1)).but t3).but (.new nT)) (stay_tup upd_same (b3.ne nT) (nFT hF5 nT) fun X => .cons (.int _) (.cons (hx K X) .nil)) (fine_two scD hsc)
    refine ⟨_, rfl, rfl, _, rfl, ite2 (fun c7 => ?_) (fun c7 => ?_)⟩
    · refine ⟨_, rfl, _, rfl, F, _, rfl, .inl (SqL.of hFN), b, _, _, rfl, bN, by rw [List.length_map]; omega, by rw [List.length_map]; omega, by omega, fun by_ G2 y0 y1 b3 t3 => ?_⟩
      rw [List.length_map] at y1
      have hF5 := t3 _ _ nFb hFN
      have hy : by_.toNat < zs.length := by omega
      have atB : atI (zs.map (·.1)) by_ = some (zs[by_.toNat]).1 := by
        unfold atI
        rw [ix_nat y0 (by rw [List.length_map]; exact y1)]
        show (zs.map (·.1))[by_.toNat]? = _
        rw [List.getElem?_map, List.getElem?_eq_getElem hy]
        rfl
      have hz : at_.toNat < zs.length := by omega
      have atA2 : atI (zs.map (·.1)) at_ = some (zs[at_.toNat]).1 := by
        unfold atI
        rw [ix_nat a0 (by rw [List.length_map]; exact ha)]
        show (zs.map (·.1))[at_.toNat]? = _
        rw [List.getElem?_map, List.getElem?_eq_getElem hz]
        rfl
      refine ⟨_, rfl, _, rfl, F, _, _, _, rfl, rfl, SqL.of hF5, atB, _, rfl, _, rfl, F, _, _, _, rfl, rfl, SqL.of hF5, atA2, s2, fun T nT => ⟨T, _, rfl, SqT.of upd_same, rfl, _, _, rfl, _, rfl, _, rfl, F, _, _, _, rfl, rfl, same_new nT _ _ hF5, ix, _, _, rfl, _, rfl, _, rfl, F, _, _, by_.toNat, rfl, rfl, upd_same, ix_nat y0 (by rw [List.length_set, List.length_map]; exact y1), rfl, _, rfl, ?_⟩⟩
      have e5 := (eN.but t3).but (.new (o := .tup [(zs[by_.toNat]).1, (zs[at_.toNat]).1]) nT)
      have es : ((zs.map (·.1)).set at_.toNat (zs[by_.toNat]).1).set by_.toNat (zs[at_.toNat]).1 = ((zs.set at_.toNat zs[by_.toNat]).set by_.toNat zs[at_.toNat]).map (·.1) := by rw [List.map_set, List.map_set]
      rw [es]
      exact fin _ _ ((((b3.new nT).upd nFb).upd nFb).mono (by omega)) (newF (newF ((tN.trans t3).trans (.new nT)))) upd_same (((e5.set (e5 _ (List.getElem_mem hy))).set (e5 _ (List.getElem_mem hz))).upd.upd) (by rw [List.length_set, List.length_set]; omega)
    refine ⟨_, rfl, rfl, _, rfl, ite2 (fun c8 => ?_) (fun c8 => ?_)⟩
    · have hz : at_.toNat < zs.length := by omega
      have atA2 : atI (zs.map (·.1)) at_ = some (zs[at_.toNat]).1 := by
        unfold atI
        rw [ix_nat a0 (by rw [List.length_map]; exact ha)]
        show (zs.map (·.1))[at_.toNat]? = _
        rw [List.getElem?_map, List.getElem?_eq_getElem hz]
        rfl
      refine ⟨_, rfl, .inl ⟨rfl, _, SqL.of hFN⟩, _, rfl, _, rfl, _, rfl, F, _, _, _, rfl, rfl, SqL.of hFN, atA2, F, _, _, _, rfl, rfl, hFN, by rw [List.length_map, sizeLine_eq]; omega, a0, by omega, _, rfl, ?_⟩
      have es : (zs.map (·.1)).take at_.toNat ++ [(zs[at_.toNat]).1] ++ (zs.map (·.1)).drop at_.toNat = (zs.take at_.toNat ++ [zs[at_.toNat]] ++ zs.drop at_.toNat).map (·.1) := by
        rw [List.map_append, List.map_append, List.map_take, List.map_drop]
        rfl
      rw [es]
      refine fin _ _ ((bN.upd nFb).mono (by omega)) (newF tN) upd_same (Els.upd fun z hz2 => ?_) ?_
      · rcases List.mem_append.mp hz2 with y | y
        · rcases List.mem_append.mp y with u | u
          · exact eN z (List.mem_of_mem_take u)
          · rw [List.mem_singleton.mp u]
            exact eN _ (List.getElem_mem hz)
        · exact eN z (List.mem_of_mem_drop y)
      · rw [List.length_append, List.length_append, List.length_take, List.length_drop]
        show min at_.toNat zs.length + 1 + (zs.length - at_.toNat) ≤ 61
        omega
    refine ⟨_, rfl, rfl, _, rfl, ite2 (fun c9 => ?_) (fun c9 => ?_)⟩
    · refine ⟨_, rfl, _, rfl, s2, fun p1 n1 => ⟨_, rfl, s1, fun p2 n2 => ⟨_, rfl, _, rfl, s3, fun p3 n3 => ⟨_, rfl, _, rfl, s2, fun p4 n4 => ⟨s4, fun p5 n5 => ?_⟩⟩⟩⟩⟩
      have m1 := same_new (o := .lst [.int day, .int pence]) n1
      have m2 := same_new (o := .tup [.int day]) n2
      have m3 := same_new (o := .tup [.int day, .int pence, .int 0]) n3
      have m4 := same_new (o := .tup [.int pence, .int day]) n4
      have m5 := same_new (o := .lst [.ref p1, .ref p2, .ref p3, .ref p4]) n5
      have h1 := m5 _ _ (m4 _ _ (m3 _ _ (m2 _ _ (upd_same (H := G) (a := p1) (o := .lst [.int day, .int pence])))))
      have h2 := m5 _ _ (m4 _ _ (m3 _ _ (upd_same (a := p2) (o := .tup [.int day]))))
      have h3 := m5 _ _ (m4 _ _ (upd_same (a := p3) (o := .tup [.int day, .int pence, .int 0])))
      have h4 := m5 _ _ (upd_same (a := p4) (o := .tup [.int pence, .int day]))
      have B1 := bN.same m1
      have B2 := B1.same m2
      have B3 := B2.same m3
      have B4 := B3.same m4
      have B5 := B4.same m5
      have N1 := bN.ne n1
      have N2 := B1.ne n2
      have N3 := B2.ne n3
      have N4 := B3.ne n4
      have N5 := B4.ne n5
      have F1 := m1 _ _ hFN
      have F2 := m2 _ _ F1
      have F3 := m3 _ _ F2
      have F4 := m4 _ _ F3
      have F5 := m5 _ _ F4
      have M := m1.trans (m2.trans (m3.trans (m4.trans m5)))
      refine ⟨_, rfl, b, 4, _, rfl, B5, by decide, by decide, by omega, fun r G2 r0 r1 b3 t3 => ?_⟩
      have pk : ∃ x d, atI [V.ref p1, .ref p2, .ref p3, .ref p4] r = some x ∧ Stay K b F G2 (x, d) ∧ Fine 10 d := by
        have : r = 0 ∨ r = 1 ∨ r = 2 ∨ r = 3 := by omega
        rcases this with rfl | rfl | rfl | rfl
        · exact ⟨_, _, rfl, stay_lst (t3 _ _ N1 h1) N1 (nFT hFN n1) fun X => .cons (.int _) (.cons (.int _) .nil), fine_lst2 scD scP⟩
        · exact ⟨_, _, rfl, stay_tup (t3 _ _ N2 h2) N2 (nFT F1 n2) fun X => .cons (.int _) .nil, fine_one scD⟩
        · exact ⟨_, _, rfl, stay_tup (t3 _ _ N3 h3) N3 (nFT F2 n3) fun X => .cons (.int _) (.cons (.int _) (.cons (.int _) .nil)), fine_three scD scP (sc_int (by omega) (by omega))⟩
        · exact ⟨_, _, rfl, stay_tup (t3 _ _ N4 h4) N4 (nFT F3 n4) fun X => .cons (.int _) (.cons (.int _) .nil), fine_two scP scD⟩
      obtain ⟨x, d, ex, hs, hf⟩ := pk
      refine ⟨p5, _, _, x, rfl, rfl, SqL.of (t3 _ _ N5 upd_same), ex, _, rfl, _, rfl, F, _, _, _, rfl, rfl, t3 _ _ nFb F5, ix, _, rfl, ?_⟩
      exact setF _ _ d (b3.mono (by omega)) ((tN.trans (.of M)).trans t3) ((eN.but (.of M)).but t3) hs hf
    · refine ⟨_, rfl, b, _, rfl, bN, by omega, fun G2 x d b4 t4 dn fi => ⟨_, rfl, _, rfl, F, _, _, _, rfl, rfl, t4 _ _ nFb hFN, ix, _, rfl, ?_⟩⟩
      exact setF _ _ d (b4.mono (by omega)) (tN.trans t4) (eN.but t4) (oddS bN hFN dn) (fi.mono (by omega))
/-! ### _law_year_right -/
abbrev s__law_year_right : Stmt := topS 16
abbrev N__law_year_right : List Str := ["_law_year", "_law_day", "_law_things", "_law_thing"]
theorem sc__law_year_right : FnScope N__law_year_right [] (defScope s__law_year_right) := ⟨rfl, rfl, rfl, by decide +kernel, rfl, by decide +kernel, by decide +kernel⟩
theorem prs_dp {K : PySem.W.Frag} {H : Hp} : ∀ {as : List Addr} {ps : List (Int × Int)}, Prs H as ps → DpAll K H (as.map V.ref) (ps.map prD3)
  | [], [], _ => .nil
  | [], _ :: _, h => absurd h.1 (by simp)
  | _ :: _, [], h => absurd h.1 (by simp)
  | a :: as, p :: ps, h => .cons (.tup (SqT.of (h.2 0 a p rfl rfl)) (.cons (.int _) (.cons (.int _) .nil))) (prs_dp ⟨Nat.succ.inj h.1, fun i x y h1 h2 => h.2 (i + 1) x y h1 h2⟩)
section
variable {K : PySem.W.Frag} {H : Hp}
theorem dpAll_drop : ∀ {xs : List V} {ds : List PyData} (k : Nat), DpAll K H xs ds → DpAll K H (xs.drop k) (ds.drop k)
  | _, _, 0, h => h
  | _, _, _ + 1, .nil => .nil
  | _, _, k + 1, .cons _ r => dpAll_drop k r
theorem dpAll_take : ∀ {xs : List V} {ds : List PyData} (k : Nat), DpAll K H xs ds → DpAll K H (xs.take k) (ds.take k)
  | _, _, 0, _ => .nil
  | _, _, _ + 1, .nil => .nil
  | _, _, k + 1, .cons a r => .cons a (dpAll_take k r)
theorem dpAll_snoc {x : V} {d : PyData} : ∀ {xs : List V} {ds : List PyData}, DpAll K H xs ds → Dp K H x d → DpAll K H (xs ++ [x]) (ds ++ [d])
  | _, _, .nil, h => .cons h .nil
  | _, _, .cons a r, h => .cons a (dpAll_snoc r h)
theorem cat_dp {i j : Int} {zs : List V} {ds : List PyData} {a l p : Addr} (h : DpAll K H zs ds) (n1 : H a = none) (n2 : upd H a (.tup [.int i, .int j]) l = none) (n3 : upd (upd H a (.tup [.int i, .int j])) l (.lst [.ref a]) p = none) :
    Same H (upd (upd (upd H a (.tup [.int i, .int j])) l (.lst [.ref a])) p (.lst (zs ++ [.ref a]))) ∧ Dp K (upd (upd (upd H a (.tup [.int i, .int j])) l (.lst [.ref a])) p (.lst (zs ++ [.ref a]))) (.ref p) (.list (ds ++ [prD3 (i, j)])) := by
  have m1 := same_new (o := .tup [.int i, .int j]) n1
  have m2 := same_new (o := .lst [.ref a]) n2
  have m3 := same_new (o := .lst (zs ++ [.ref a])) n3
  have M := m1.trans (m2.trans m3)
  exact ⟨M, .lst (SqL.of upd_same) (dpAll_snoc (dpAll_same M h) (.tup (SqT.of (m3 _ _ (m2 _ _ upd_same))) (.cons (.int _) (.cons (.int _) .nil))))⟩
end
def yP (n : Nat) : List (Int × Int) := (List.range n).map fun d : Nat => ((d : Int), 1 + (d : Int))
def yD : List PyData := (yP 401).map prD3
theorem yD_len : yD.length = 401 := by
  unfold yD yP
  rw [List.length_map, List.length_map, List.length_range]
theorem y0 : arePr (.list yD) = true := by decide +kernel
theorem y41 : arePr (.list (yD.take 41)) = true := by decide +kernel
theorem yf1 : arePr (.list (yD ++ [prD3 (400, 5)])) = false := by decide +kernel
theorem yf2 : arePr (.list (yD.drop 1 ++ [prD3 (401, 5)])) = false := by decide +kernel
theorem yf3 : arePr (.list (yD.take 400 ++ [prD3 (400, 0)])) = false := by decide +kernel
theorem yf4 : arePr (.list (yD.take 40 ++ [prD3 (39, 5)])) = false := by decide +kernel
def sp__law_year_right (K : PySem.W.Frag) : Sp := fun vs H Q _ => ∃ _ : Unit, vs = [] ∧ ∀ H', Same H H' → Q (.bl true) H'
theorem ok__law_year_right {f : Addr} {fd : FuncData} (F : Fun K "_law_year_right" "_law_year_right" s__law_year_right f fd) (g : mg "_law_year_right" = some (.ref f)) (bd : Binds K fd [] []) (m_range : mg "range" = none) (m_tuple : mg "tuple" = none) (C_are_prices : CF P w K mg base 3 "are_prices" ["thing"] (sp_are_prices K)) : CF P w K mg base 4 "_law_year_right" [] (sp__law_year_right K) := by
  refine ⟨f, fd, F.ok sc__law_year_right (fun vs H Q E h => ?_) (fun cdv A outer s H vs Q E hr h => ?_), g, F.kp, bd⟩
  · first | (obtain ⟨_, rfl, _⟩ := h; rfl) | (obtain ⟨_, _, rfl, _⟩ := h; rfl) | (obtain ⟨_, _, _, rfl, _⟩ := h; rfl) | (obtain ⟨_, _, _, _, rfl, _⟩ := h; rfl) | (obtain ⟨_, _, _, _, _, rfl, _⟩ := h; rfl) | (obtain ⟨_, _, _, _, _, _, rfl, _⟩ := h; rfl) | (obtain ⟨_, _, _, _, _, _, _, rfl, _⟩ := h; rfl)
  · have hu64 := hr.units
    obtain ⟨_, rfl, q⟩ := h
    refine ⟨_, (pss_cons (ps_setLc (i := 0) (own := [("_law_day", 1)]) (g := (gName 1)) (tt := tYes) rfl sc__law_year_right.nd rfl rfl (sw_true rfl rfl rfl (by decide +kernel)) (pi_range1 (by rfl) m_range (pa_cons pe_int pa_nil)) (blkOk_by (own := [("_law_day", 1)]) (N := N__law_year_right) (sc := defScope s__law_year_right) (by decide +kernel)) (fun _ _ _ _ _ => pg_name (i := 1) sc__law_year_right.nd rfl (Or.inl rfl)) (fun _ _ _ _ _ => pts_nil) (fun _ _ _ _ _ => (pe_tup (pa_cons (pv 1) (pa_cons (pe_op op_add pe_int (pv 1)) pa_nil)))))
      (pss_cons (ps_set (i := 2) sc__law_year_right.nd rfl (.inl rfl) (pe_lst (pa_cons (pe_op op_cat (pv 0) (pe_lst (pa_cons (pe_tup (pa_cons pe_int (pa_cons pe_int pa_nil))) pa_nil))) (pa_cons (pe_op op_cat (pe_slice (kk_sll K) (pv 0) (po_some pe_int) po_none) (pe_lst (pa_cons (pe_tup (pa_cons pe_int (pa_cons pe_int pa_nil))) pa_nil))) (pa_cons (pe_op op_cat (pe_slice (kk_sll K) (pv 0) po_none (po_some (pe_un un_neg pe_int))) (pe_lst (pa_cons (pe_tup (pa_cons pe_int (pa_cons pe_int pa_nil))) pa_nil))) (pa_cons (pe_op op_cat (pe_slice (kk_sll K) (pv 0) po_none (po_some pe_int)) (pe_lst (pa_cons (pe_tup (pa_cons pe_int (pa_cons pe_int pa_nil))) pa_nil))) pa_nil))))))
      (pss_cons (ps_if (PW.pt (pw_or (pt_cmpR op_notBl (pe_cf C_are_prices (hr.mono (by decide)) (by rfl) (pa_cons (pv 0) pa_nil)) pe_bl (nomark _)) (pw_or (pt_cmpR op_notBl (pe_cf C_are_prices (hr.mono (by decide)) (by rfl) (pa_cons (pe_callTy (kk_tuple K) (by rfl) m_tuple (by decide +kernel) (pa_cons (pv 0) pa_nil)) pa_nil)) pe_bl (nomark _)) (pw_or1 (pt_cmpR op_notBl (pe_cf C_are_prices (hr.mono (by decide)) (by rfl) (pa_cons (pe_slice (kk_sll K) (pv 0) po_none (po_some pe_int)) pa_nil)) pe_bl (nomark _))))))
         (pss_one (ps_ret pe_bl))
         pss_nil)
      (pss_one (ps_ret (pe_cmpR (kk_eqD K hu64) (pe_lc (own := [("_law_thing", 3)]) (g := (gName 3)) (tt := tYes) rfl sc__law_year_right.nd (pi_list (pv 2)) (blkOk_by (own := [("_law_thing", 3)]) (N := N__law_year_right) (sc := defScope s__law_year_right) (by decide +kernel)) (fun _ _ _ _ _ => pg_name (i := 3) sc__law_year_right.nd rfl (Or.inl rfl)) (fun _ _ _ _ _ => pts_nil) (fun _ _ _ _ _ => (pe_cf C_are_prices (hr.mono (by decide)) (by rfl) (pa_cons (pv 3) pa_nil)))) (pe_op op_rep (pe_lst (pa_cons pe_bl pa_nil)) pe_int) (nomark _))))))), ?_⟩
    have s1 : (1 : Nat) ≤ sizeLine := by rw [sizeLine_eq]; omega
    have s2 : (2 : Nat) ≤ sizeLine := by rw [sizeLine_eq]; omega
    have s4 : (4 : Nat) ≤ sizeLine := by rw [sizeLine_eq]; omega
    refine ⟨_, rfl, by decide, by decide, fun D hD => lc_range (lo := 0) (n := 401) (fun i H' => Same H H' ∧ ∃ as : List Addr, H' D = some (.lst (as.map V.ref)) ∧ Prs H' as (yP i)) ⟨same_new hD, [], upd_same, ⟨rfl, fun i a p h _ => by simp at h⟩⟩ (fun i H' hi h => ?_) (fun H1 h => ?_)⟩
    · obtain ⟨s0, as, hDl, hP⟩ := h
      have la : as.length = i := hP.1.trans (by unfold yP; rw [List.length_map, List.length_range])
      refine ⟨rfl, _, rfl, _, rfl, _, _, rfl, rfl, s2, fun T nT => ⟨_, same_new nT _ _ hDl, ?_, fun c o e => ?_, as ++ [T], ?_, ?_⟩⟩
      · rw [List.length_map, sizeLine_eq]
        omega
      · rw [upd_ne (ne_of_none e hD)]
        exact same_new nT _ _ (s0 _ _ e)
      · rw [List.map_append]
        exact upd_same
      · have e : yP (i + 1) = yP i ++ [((i : Int), 1 + (i : Int))] := by
          unfold yP
          rw [List.range_succ, List.map_append]
          rfl
        rw [e]
        refine Prs.snoc ((hP.same (same_new nT)).updL (same_new nT _ _ hDl)) ?_
        rw [upd_ne (ne_of_none hDl nT).symm, upd_same, Int.zero_add]
    obtain ⟨s0, as, hDl, hP⟩ := h
    have la : as.length = 401 := hP.1.trans (by unfold yP; rw [List.length_map, List.length_range])
    have hA : DpAll K H1 (as.map V.ref) yD := prs_dp hP
    have lx : (as.map V.ref).length = 401 := by rw [List.length_map]; exact la
    generalize as.map V.ref = xs at *
    have c2e : cutV xs (some 1) none = xs.drop 1 := by
      unfold cutV HT.sIx
      rw [lx]
      exact List.take_of_length_le (by rw [List.length_drop]; simp; omega)
    have c3e : cutV xs none (some (-1)) = xs.take 400 := by
      unfold cutV HT.sIx
      rw [lx]
      rfl
    have c4e : cutV xs none (some 40) = xs.take 40 := by
      unfold cutV HT.sIx
      rw [lx]
      rfl
    have c5e : cutV xs none (some 41) = xs.take 41 := by
      unfold cutV HT.sIx
      rw [lx]
      rfl
    have s402 : (402 : Nat) ≤ sizeLine := by rw [sizeLine_eq]; omega
    refine ⟨_, rfl, s2, fun a1 n1 => ⟨s1, fun l1 m1 => ⟨D, l1, _, _, rfl, rfl, same_new m1 _ _ (same_new n1 _ _ hDl), upd_same, by show xs.length + 1 ≤ _; omega, fun p1 r1 => ?_⟩⟩⟩
    obtain ⟨M1, d1⟩ := cat_dp hA n1 m1 r1
    generalize upd _ p1 _ = G1 at *
    refine ⟨_, rfl, _, rfl, D, _, rfl, SqL.of (M1 _ _ hDl), fun c2 k2 => ?_⟩
    rw [c2e]
    have K2 := same_new (o := .lst (xs.drop 1)) k2
    refine ⟨s2, fun a2 n2 => ⟨s1, fun l2 m2 => ⟨c2, l2, _, _, rfl, rfl, same_new m2 _ _ (same_new n2 _ _ upd_same), upd_same, by show (xs.drop 1).length + 1 ≤ _; rw [List.length_drop]; omega, fun p2 r2 => ?_⟩⟩⟩
    obtain ⟨M2, d2⟩ := cat_dp (dpAll_same (M1.trans K2) (dpAll_drop 1 hA)) n2 m2 r2
    generalize upd _ p2 _ = G2 at *
    have M2' := K2.trans M2
    refine ⟨_, rfl, _, rfl, _, rfl, D, _, rfl, SqL.of (M2' _ _ (M1 _ _ hDl)), fun c3 k3 => ?_⟩
    rw [c3e]
    have K3 := same_new (o := .lst (xs.take 400)) k3
    refine ⟨s2, fun a3 n3 => ⟨s1, fun l3 m3 => ⟨c3, l3, _, _, rfl, rfl, same_new m3 _ _ (same_new n3 _ _ upd_same), upd_same, by show (xs.take 400).length + 1 ≤ _; rw [List.length_take]; omega, fun p3 r3 => ?_⟩⟩⟩
    obtain ⟨M3, d3⟩ := cat_dp (dpAll_same ((M1.trans M2').trans K3) (dpAll_take 400 hA)) n3 m3 r3
    generalize upd _ p3 _ = G3 at *
    have M3' := K3.trans M3
    have M13 := (M1.trans M2').trans M3'
    refine ⟨_, rfl, _, rfl, D, _, rfl, SqL.of (M13 _ _ hDl), fun c4 k4 => ?_⟩
    rw [c4e]
    have K4 := same_new (o := .lst (xs.take 40)) k4
    refine ⟨s2, fun a4 n4 => ⟨s1, fun l4 m4 => ⟨c4, l4, _, _, rfl, rfl, same_new m4 _ _ (same_new n4 _ _ upd_same), upd_same, by show (xs.take 40).length + 1 ≤ _; rw [List.length_take]; omega, fun p4 r4 => ?_⟩⟩⟩
    obtain ⟨M4, d4⟩ := cat_dp (dpAll_same (M13.trans K4) (dpAll_take 40 hA)) n4 m4 r4
    generalize upd _ p4 _ = G4 at *
    have M4' := K4.trans M4
    have M14 := M13.trans M4'
    refine ⟨s4, fun L nL => ?_⟩
    have SL := same_new (o := .lst [.ref p1, .ref p2, .ref p3, .ref p4]) nL
    have hL := upd_same (H := G4) (a := L) (o := .lst [.ref p1, .ref p2, .ref p3, .ref p4])
    have e1 := dp_same ((M2'.trans (M3'.trans M4')).trans SL) d1
    have e2 := dp_same ((M3'.trans M4').trans SL) d2
    have e3 := dp_same (M4'.trans SL) d3
    have e4 := dp_same SL d4
    have hD5 := SL _ _ (M14 _ _ hDl)
    have hA5 := dpAll_same (M14.trans SL) hA
    have SS := (s0.trans M14).trans SL
    generalize upd G4 L _ = G at *
    have sm : ∀ ds : List PyData, ds.length ≤ 402 → ∀ l, seqD (.list ds) = some l → l.length ≤ 900 := fun ds h l e => by
      cases e
      omega
    have yl := yD_len
    refine ⟨_, rfl, _, _, rfl, .lst (SqL.of hD5) hA5, sm _ (by omega), fun G5 t5 => ⟨_, _, rfl, rfl, _, rfl, ?_⟩⟩
    rw [y0]
    refine iteF ⟨_, rfl, D, _, rfl, .inl ⟨SqL.of (t5 _ _ hD5), fun tp ntp => ⟨_, .tuple yD, rfl, .tup (SqT.of upd_same) (dpAll_same (t5.trans (same_new ntp)) hA5), (fun l e => by cases e; omega), fun G6 t6 => ⟨_, _, rfl, rfl, _, rfl, ?_⟩⟩⟩⟩
    have yt : arePr (.tuple yD) = true := y0
    rw [yt]
    have T6 := (t5.trans (same_new (o := .tup xs) ntp)).trans t6
    refine iteF ⟨_, rfl, _, rfl, D, _, rfl, SqL.of (T6 _ _ hD5), fun c5 k5 => ?_⟩
    rw [c5e]
    have K5 := same_new (o := .lst (xs.take 41)) k5
    refine ⟨_, _, rfl, .lst (SqL.of upd_same) (dpAll_same (T6.trans K5) (dpAll_take 41 hA5)), sm _ (by rw [List.length_take]; omega), fun G7 t7 => ⟨_, _, rfl, rfl, _, rfl, ?_⟩⟩
    rw [y41]
    have T7 := (T6.trans K5).trans t7
    refine iteF ?_
    have hds : DpAll K G7 [.ref p1, .ref p2, .ref p3, .ref p4] [.list (yD ++ [prD3 (400, 5)]), .list (yD.drop 1 ++ [prD3 (401, 5)]), .list (yD.take 400 ++ [prD3 (400, 0)]), .list (yD.take 40 ++ [prD3 (39, 5)])] := .cons (dp_same T7 e1) (.cons (dp_same T7 e2) (.cons (dp_same T7 e3) (.cons (dp_same T7 e4) .nil)))
    have hL7 : SqL K G7 L [.ref p1, .ref p2, .ref p3, .ref p4] := SqL.of (T7 _ _ hL)
    refine ⟨_, rfl, L, rfl, ⟨_, hL7⟩, fun D2 hD2 => data_lc (K := K) (fun d => V.bl (arePr d)) (jok_l (K := K) hL7) hds (by show 4 ≤ 1000; decide) hD2 (fun i x d hd X s hp Y N h1 => ⟨rfl, _, rfl, x, d, rfl, hp, ?_, fun X2 s2 => h1 X2 s2⟩) (fun G8 s8 hG8 => ?_)⟩
    · have hm := List.mem_of_getElem? hd
      simp only [List.mem_cons, List.not_mem_nil, or_false] at hm
      rcases hm with rfl | rfl | rfl | rfl
      · exact sm _ (by rw [List.length_append, yl]; decide)
      · exact sm _ (by rw [List.length_append, List.length_drop, yl]; decide)
      · exact sm _ (by rw [List.length_append, List.length_take, yl]; decide)
      · exact sm _ (by rw [List.length_append, List.length_take, yl]; decide)
    have hG9 : G8 D2 = some (.lst [.bl false, .bl false, .bl false, .bl false]) := by
      rw [hG8]
      show some (HO.lst [.bl (arePr _), .bl (arePr _), .bl (arePr _), .bl (arePr _)]) = _
      rw [yf1, yf2, yf3, yf4]
    refine ⟨s1, fun l nl => ⟨l, 4, _, rfl, rfl, upd_same, by decide, by decide, s4, fun p np => ?_⟩⟩
    have N1 := same_new (o := .lst [.bl false]) nl
    have N2 := same_new (o := .lst [.bl false, .bl false, .bl false, .bl false]) np
    refine ⟨_, _, .lst (SqL.of (N2 _ _ (N1 _ _ hG9))) (.cons (.bl _) (.cons (.bl _) (.cons (.bl _) (.cons (.bl _) .nil)))), .lst (SqL.of (xs := [.bl false, .bl false, .bl false, .bl false]) upd_same) (.cons (.bl _) (.cons (.bl _) (.cons (.bl _) (.cons (.bl _) .nil)))), by decide +kernel, by decide +kernel, ?_⟩
    exact q _ ((((SS.trans T7).trans s8).trans N1).trans N2)
/-! ### law -/
abbrev s_law : Stmt := topS 17
abbrev N_law : List Str := ["_law_script", "_law_k", "_law_left_here", "_law_great", "_law_prices_here", "_law_turn", "_law_thing", "_law_kept", "_law_found"]
theorem sc_law : FnScope N_law ["_law_script"] (defScope s_law) := ⟨rfl, rfl, rfl, by decide +kernel, rfl, by decide +kernel, by decide +kernel⟩
theorem are_ps {ps : List (Int × Int)} (hr : RiseS ps) (hok : Okp ps) : arePr (.list (ps.map prD3)) = true := by
  show ((ps.map prD3).all isPr && risB ((ps.map prD3).map dayD)) = true
  rw [Bool.and_eq_true]
  refine ⟨List.all_eq_true.mpr fun d hd => ?_, ?_⟩
  · obtain ⟨p, hp, rfl⟩ := List.mem_map.mp hd
    obtain ⟨a, b, c, e⟩ := hok p hp
    show ((decide (0 ≤ p.1) && decide (p.1 ≤ 400)) && (decide (1 ≤ p.2) && decide (p.2 ≤ 1000000))) = true
    rw [decide_eq_true a, decide_eq_true b, decide_eq_true c, decide_eq_true e]
    rfl
  · unfold risB
    rw [List.map_map]
    refine decide_eq_true (List.pairwise_map.mpr hr)
theorem DpB.list {K : PySem.W.Frag} {b : Addr} {G : Hp} {x : V} {ds : List PyData} (h : DpB K b G x (.list ds)) : ∃ u xs, x = .ref u ∧ ∀ X, But b G X → SqL K X u xs ∧ DpAll K X xs ds := by
  obtain ⟨S, hS⟩ : ∃ S : Hp, S = fun c => if c = b then none else G c := ⟨_, rfl⟩
  have t : But b G S := fun c o n e => by
    rw [hS]
    show (if c = b then none else G c) = _
    rw [if_neg n]
    exact e
  have g := h S t
  cases g with
  | @lst u xs _ hu hx =>
    refine ⟨u, xs, rfl, fun X gX => ?_⟩
    have s : Same S X := fun c o e => by
      rw [hS] at e
      by_cases z : c = b
      · simp [z] at e
      · have e2 : G c = some o := by simpa [z] using e
        exact gX c o z e2
    exact ⟨s.seq hu, dpAll_same s hx⟩
theorem whole_tup {ds : List PyData} (h : Whole 0 (.list ds)) : Whole 1 (.tuple ds) := by
  have e1 : (Str.ofString "[").length = 1 := rfl
  have e2 : (Str.ofString "]").length = 1 := rfl
  refine ⟨?_, ?_, ?_, ?_, fun l e => h.sq l e⟩
  · have := h.sh
    simpa [PyData.showable] using this
  · have := h.di
    simpa [PyData.hasDict] using this
  · have := h.de
    simpa [PyData.depth] using this
  · have := h.le
    have e4 : (Str.ofString (if (ds.length == 1) = true then ",)" else ")")).length ≤ 2 := by split <;> decide +kernel
    have e5 : (Str.ofString "(").length = 1 := rfl
    rw [PyData.shown_list, len_app, len_app, e1, e2] at this
    rw [PyData.shown_tuple, len_app, len_app, e5]
    omega
section
variable {K : PySem.W.Frag} {σ : L2.St} {H : Hp} {Q : VK} {b : Addr} {n : Int}
theorem great_any {k : Int} (h1 : σ[1]? = some (some (.int k))) (h2 : σ[2]? = some (some (.ref b))) (hb : Three H b n) (hn : n < 1000000) (q : ∀ (gr : Bool) H2, Three H2 b (n + 1) → But b H H2 → Q (.bl gr) H2) :
    tAndV (tOp rEq (tVar 1) (tC (V.int 0))) (tOp rEq (tCall (sp__law_pick K) [] E0 (tCons (tVar 2) (tCons (tC (V.int 6)) tNil))) (tC (V.int 0))) σ H Q := by
  refine ⟨_, h1, rfl, _, rfl, ite2 (fun _ => ?_) (fun z => ?_)⟩
  · exact ⟨_, h2, b, 6, n, rfl, hb, by decide, by decide, by omega, fun x H2 _ _ b2 t2 => ⟨rfl, q _ _ b2 t2⟩⟩
  · exact q _ _ (hb.mono (by omega)) (But.refl b H)
theorem many_any {gr : Bool} (h1 : σ[3]? = some (some (.bl gr))) (h2 : σ[2]? = some (some (.ref b))) (hb : Three H b n) (hn : n < 1000000) (q : ∀ (m : Int) H2, 0 ≤ m → m ≤ 60 → Three H2 b (n + 1) → But b H H2 → Q (.int m) H2) :
    tIf (tB (tVar 3)) (tC (V.int 60)) (tCall (sp__law_pick K) [] E0 (tCons (tVar 2) (tCons (tC (V.int 9)) tNil))) σ H Q := by
  refine ⟨_, h1, gr, rfl, ?_⟩
  cases gr with
  | true => exact iteT (q 60 H (by decide) (by decide) (hb.mono (by omega)) (But.refl b H))
  | false => exact iteF ⟨_, h2, b, 9, n, rfl, hb, by decide, by decide, by omega, fun x H2 x0 x1 b2 t2 => q x H2 x0 (by omega) b2 t2⟩
end
def sp_law (K : PySem.W.Frag) : Sp := fun vs H Q _ => ∃ (a : Addr) (ns : List Int), vs = [.ref a] ∧ SqL K H a (ns.map V.int) ∧ ns.length ≤ 63 ∧ ∀ H', Q (.bl true) H'
theorem ok_law {f : Addr} {fd : FuncData} (F : Fun K "law" "law" s_law f fd) (m_range : mg "range" = none) (m_max : mg "max" = none) (m_min : mg "min" = none) (m_len : mg "len" = none) (m_tuple : mg "tuple" = none) (m_isinstance : mg "isinstance" = none) (m_list : mg "list" = none) (m_repr : mg "repr" = none) (m_bool : mg "bool" = none) (C__law_left : CF P w K mg base 1 "_law_left" ["_law_script", "_law_k"] (sp__law_left K)) (C__law_pick : CF P w K mg base 2 "_law_pick" ["_law_left_here", "_law_many"] (sp__law_pick K)) (C__law_prices : CF P w K mg base 3 "_law_prices" ["_law_left_here", "_law_many"] (sp__law_prices K)) (C_are_prices : CF P w K mg base 3 "are_prices" ["thing"] (sp_are_prices K)) (C__law_bent : CF P w K mg base 4 "_law_bent" ["_law_left_here", "_law_prices_here"] (sp__law_bent K)) (C__law_are_prices : CF P w K mg base 2 "_law_are_prices" ["_law_thing"] (sp__law_are_prices K)) (C__law_year_right : CF P w K mg base 4 "_law_year_right" [] (sp__law_year_right K)) : FnG P w K mg base 5 f fd ["_law_script"] (sp_law K) := by
  refine okG F sc_law (fun vs H Q E h => ?_) (fun cdv A outer s H vs Q E hr gd h => ?_)
  · first | (obtain ⟨_, rfl, _⟩ := h; rfl) | (obtain ⟨_, _, rfl, _⟩ := h; rfl) | (obtain ⟨_, _, _, rfl, _⟩ := h; rfl) | (obtain ⟨_, _, _, _, rfl, _⟩ := h; rfl) | (obtain ⟨_, _, _, _, _, rfl, _⟩ := h; rfl) | (obtain ⟨_, _, _, _, _, _, rfl, _⟩ := h; rfl) | (obtain ⟨_, _, _, _, _, _, _, rfl, _⟩ := h; rfl)
  · have hu64 := hr.units
    obtain ⟨a, ns, rfl, hS, hlen, q⟩ := h
    refine ⟨_, (pss_cons (ps_for PassesOwn.never rfl (pi_range1 (by rfl) m_range (pa_cons (pe_callB (call_max2 rfl) (by rfl) m_max (by decide +kernel) (pa_cons pe_int (pa_cons (pe_callB (call_min2 rfl) (by rfl) m_min (by decide +kernel) (pa_cons pe_int (pa_cons (pe_callB (kk_len K) (by rfl) m_len PySem.boot_len (pa_cons (pv 0) pa_nil)) pa_nil))) pa_nil))) pa_nil)) (pg_name (i := 1) sc_law.nd rfl (.inl rfl))
         (pss_cons (ps_set (i := 2) sc_law.nd rfl (.inl rfl) (pe_cf C__law_left (hr.mono (by decide)) (by rfl) (pa_cons (pv 0) (pa_cons (pv 1) pa_nil))))
          (pss_cons (ps_set (i := 3) sc_law.nd rfl (.inl rfl) (pe_and (pe_cmpR op_eq (pv 1) pe_int (nomark _)) (pe_one (pe_cmpR op_eq (pe_cf C__law_pick (hr.mono (by decide)) (by rfl) (pa_cons (pv 2) (pa_cons pe_int pa_nil))) pe_int (nomark _)))))
          (pss_cons (ps_set (i := 4) sc_law.nd rfl (.inl rfl) (pe_cf C__law_prices (hr.mono (by decide)) (by rfl) (pa_cons (pv 2) (pa_cons (pe_ifExp (pt_val (pv 3)) pe_int (pe_cf C__law_pick (hr.mono (by decide)) (by rfl) (pa_cons (pv 2) (pa_cons pe_int pa_nil)))) pa_nil))))
          (pss_cons (ps_if (PW.pt (pw_or (pt_cmpR op_notBl (pe_cf C_are_prices (hr.mono (by decide)) (by rfl) (pa_cons (pv 4) pa_nil)) pe_bl (nomark _)) (pw_or1 (pt_cmpR op_notBl (pe_cf C_are_prices (hr.mono (by decide)) (by rfl) (pa_cons (pe_callTy (kk_tuple K) (by rfl) m_tuple (by decide +kernel) (pa_cons (pv 4) pa_nil)) pa_nil)) pe_bl (nomark _)))))
             (pss_one (ps_ret pe_bl))
             pss_nil)
          (pss_one (ps_for PassesOwn.never rfl (pi_range1 (by rfl) m_range (pa_cons pe_int pa_nil)) (pg_name (i := 5) sc_law.nd rfl (.inl rfl))
             (pss_cons (ps_set (i := 6) sc_law.nd rfl (.inl rfl) (pe_cf C__law_bent (hr.mono (by decide)) (by rfl) (pa_cons (pv 2) (pa_cons (pv 4) pa_nil))))
              (pss_cons (ps_if (PW.pt (pw_and (pt_val (pe_callB (kk_isi K) (by rfl) m_isinstance (by decide +kernel) (pa_cons (pv 6) (pa_cons (pe_bltn (v := .ty "list") (by rfl) m_list (by decide +kernel) rfl) pa_nil)))) (pw_and1 (pt_cmpR op_eq (pe_cf C__law_pick (hr.mono (by decide)) (by rfl) (pa_cons (pv 2) (pa_cons pe_int pa_nil))) pe_int (nomark _)))))
                 (pss_one (ps_set (i := 6) sc_law.nd rfl (.inl rfl) (pe_callTy (kk_tuple K) (by rfl) m_tuple (by decide +kernel) (pa_cons (pv 6) pa_nil))))
                 pss_nil)
              (pss_cons (ps_par (i := 7) (j := 8) (by rfl) sc_law.nd rfl rfl (by decide) rfl rfl (pa_cons (pe_callB (kk_repr K gd hu64) (by rfl) m_repr (by decide +kernel) (pa_cons (pv 6) pa_nil)) (pa_cons (pe_cf C_are_prices (hr.mono (by decide)) (by rfl) (pa_cons (pv 6) pa_nil)) pa_nil)) (by rfl))
              (pss_one (ps_if (PW.pt (pw_or (pt_not (pt_val (pe_callB (kk_isi K) (by rfl) m_isinstance (by decide +kernel) (pa_cons (pv 8) (pa_cons (pe_bltn (v := .ty "bool") (by rfl) m_bool (by decide +kernel) rfl) pa_nil))))) (pw_or (pt_cmpR op_ne (pv 8) (pe_cf C__law_are_prices (hr.mono (by decide)) (by rfl) (pa_cons (pv 6) pa_nil)) (nomark _)) (pw_or1 (pt_cmpR op_ne (pe_callB (kk_repr K gd hu64) (by rfl) m_repr (by decide +kernel) (pa_cons (pv 6) pa_nil)) (pv 7) (nomark _))))))
                 (pss_one (ps_ret pe_bl))
                 pss_nil))))))))))))
      (pss_one (ps_ret (pe_cf0 C__law_year_right (hr.mono (by decide)) (by rfl))))), ?_⟩
    refine ⟨_, rfl, a, _, rfl, .inl hS, _, _, rfl, _, _, rfl, _, rfl, ?_, ?_, for_range (fun i σ H' => ∃ s1 s2 s3 s4 s5 s6 s7 s8, σ = [some (.ref a), s1, s2, s3, s4, s5, s6, s7, s8] ∧ Same H H') ⟨_, _, _, _, _, _, _, _, rfl, Same.refl H⟩ (fun i0 σ H' hi h => ?_) (fun σ H' h => ?_)⟩
    · split <;> (try split) <;> omega
    · split <;> (try split) <;> omega
    · obtain ⟨s1, s2, s3, s4, s5, s6, s7, s8, rfl, sm⟩ := h
      have hi2 : i0 < 10 := by
        split at hi
        · split at hi <;> omega
        · omega
      refine ⟨_, rfl, _, rfl, a, _, ns, rfl, sm.seq hS, by omega, by omega, fun H1 b nb sb hb => ?_⟩
      have nb0 : H b = none := sm.free nb
      refine great_any rfl rfl hb (by decide) fun gr H2 b2 t2 => ?_
      refine ⟨_, rfl, many_any rfl rfl b2 (by decide) fun many H3 m0 m1 b3 t3 => ?_⟩
      refine ⟨b, many, _, rfl, b3, by decide, m0, by omega, fun H4 L as ps b4 t4 nL nLb hL hP hrs hok hlp => ?_⟩
      have hl60 : ps.length ≤ 60 := by omega
      have sm4 : Same H H4 := same_but (same_but (same_but (sm.trans sb) nb0 t2) nb0 t3) nb0 t4
      have ar := are_ps hrs hok
      have art : arePr (.tuple (ps.map prD3)) = true := ar
      have sml : ∀ l, seqD (.list (ps.map prD3)) = some l → l.length ≤ 900 := fun l e => by
        cases e
        rw [List.length_map]
        omega
      have hA : DpAll K H4 (as.map V.ref) (ps.map prD3) := prs_dp hP
      refine ⟨_, rfl, _, _, rfl, .lst (SqL.of hL) hA, sml, fun H5 t5 => ⟨_, _, rfl, rfl, _, rfl, ?_⟩⟩
      rw [ar]
      refine iteF ⟨_, rfl, L, _, rfl, .inl ⟨SqL.of (t5 _ _ hL), fun tp ntp => ⟨_, .tuple (ps.map prD3), rfl, .tup (SqT.of upd_same) (dpAll_same (t5.trans (same_new ntp)) hA), sml, fun H6 t6 => ⟨_, _, rfl, rfl, _, rfl, ?_⟩⟩⟩⟩
      rw [art]
      have T6 := (t5.trans (same_new (o := .tup (as.map V.ref)) ntp)).trans t6
      refine iteF ?_
      refine ⟨_, rfl, by decide, by decide, for_range (fun tn σ H' => ∃ s5 s6 s7 s8, σ = [some (.ref a), some (.int (0 + i0)), some (.ref b), some (.bl gr), some (.ref L), s5, s6, s7, s8] ∧ But b H6 H' ∧ Three H' b (300 + 40 * tn) ∧ Prs H' as ps ∧ H' L = some (.lst (as.map V.ref))) ⟨_, _, _, _, rfl, But.refl b H6, (b4.mono (by omega)).same T6, hP.same T6, T6 _ _ hL⟩ (fun tn σ H' htn h => ?_) (fun σ H' h => ?_)⟩
      · obtain ⟨s5, s6, s7, s8, rfl, tX, bX, hPX, hLX⟩ := h
        have htn2 : tn < 12 := htn
        refine ⟨_, rfl, _, rfl, b, L, _, as, ps, rfl, bX, by omega, hLX, nLb, hPX, hok, hl60, fun G x d b7 t7 dB wh => ?_⟩
        have k1 := kit_d (K := K) (T := "list") (by decide) d
        have rest : ∀ (G : Hp) (x : V) (d : PyData) (E1 : Ends) (s5 s7 s8 : Option V), DpB K b G x d → Whole 1 d → (∀ G' s7 s8, Same G G' → E1.nx [some (.ref a), some (.int (0 + i0)), some (.ref b), some (.bl gr), some (.ref L), s5, some x, s7, s8] G') →
            tSeq (tPar 7 8 (tCons (tCB (rRepr K) (tCons (tVar 6) tNil)) (tCons (tCall (sp_are_prices K) [] E0 (tCons (tVar 6) tNil)) tNil)))
              (tIfS (tOr (tNot (tB (tCB (rIsi K) (tCons (tVar 8) (tCons (tC (V.ty "bool")) tNil))))) (tOr (tTest (tOp rNe (tVar 8) (tCall (sp__law_are_prices K) [] E0 (tCons (tVar 6) tNil)))) (tTest (tOp rNe (tCB (rRepr K) (tCons (tVar 6) tNil)) (tVar 7))))) (tRet (tC (V.bl false))) tNext)
              E1 [some (.ref a), some (.int (0 + i0)), some (.ref b), some (.bl gr), some (.ref L), s5, some x, s7, s8] G := fun G x d E1 s5 s7 s8 dB wh hE => by
          have sz : d.shown.length ≤ sizeLine := by
            have := wh.le
            rw [sizeLine_eq]
            omega
          refine ⟨_, rfl, x, d, rfl, dB.dp, wh.sh, sz, wh.de, wh.di, _, rfl, x, d, rfl, dB.dp, wh.sq, fun G1 t1 => ⟨_, _, rfl, ?_⟩⟩
          have d1 := dp_same t1 dB.dp
          refine ⟨_, rfl, _, _, _, _, _, rfl, .ty _, ty_of_dp (H := G1) (.bl (arePr d)), kit_d (K := K) (T := "bool") (by decide) _, _, rfl, ?_⟩
          refine iteF ⟨_, rfl, _, rfl, x, d, rfl, d1, wh.sq, fun G2 t2 => ⟨rfl, _, rfl, ?_⟩⟩
          have e1 : (!decide (V.bl (arePr d) = V.bl (arePr d))) = false := by simp
          rw [e1]
          refine iteF ⟨_, rfl, x, d, rfl, dp_same t2 d1, wh.sh, sz, wh.de, wh.di, _, rfl, rfl, _, rfl, ?_⟩
          have e2 : (!decide (V.str d.shown = V.str d.shown)) = false := by simp
          rw [e2]
          exact iteF (hE _ _ _ (t1.trans t2))
        refine ⟨_, rfl, _, _, _, _, _, rfl, .ty _, ty_of_dp dB.dp, k1, _, rfl, ?_⟩
        have bk : ∀ {X G' : Hp} {y : V} {y7 y8 : Option V}, Three X b (300 + 40 * tn + 31) → But b H' X → Same X G' → ∃ s5 s6 s7 s8, [some (V.ref a), some (.int (0 + i0)), some (.ref b), some (.bl gr), some (.ref L), some (.int (0 + tn)), some y, y7, y8] = [some (V.ref a), some (.int (0 + i0)), some (.ref b), some (.bl gr), some (.ref L), s5, s6, s7, s8] ∧ But b H6 G' ∧ Three G' b (300 + 40 * (tn + 1 : Nat)) ∧ Prs G' as ps ∧ G' L = some (.lst (as.map V.ref)) := fun bX' tX' sX => ⟨_, _, _, _, rfl, (tX.trans tX').trans (.of sX), (bX'.same sX).mono (by omega), (hPX.but tX' bX).same sX, sX _ _ (tX' _ _ nLb hLX)⟩
        by_cases cl : isK "list" d = true
        · rw [cl]
          obtain ⟨r, ds, rfl⟩ : ∃ (r : Unit) (ds : List PyData), d = .list ds := by
            cases d with
            | list ds => exact ⟨(), ds, rfl⟩
            | _ => cases cl
          refine iteT ⟨_, rfl, b, 4, _, rfl, b7, by decide, by decide, by omega, fun r G1 r0 r1 b8 t8 => ⟨rfl, _, rfl, ite2 (fun _ => ?_) (fun _ => ?_)⟩⟩
          · have gB := dB.but t8
            obtain ⟨u, xs, rfl, hx⟩ := gB.list
            refine ⟨_, rfl, u, xs, rfl, .inl ⟨(hx G1 (But.refl b G1)).1, fun p np => rest _ _ (.tuple ds) _ _ _ _ (fun X g => .tup (SqT.of (g _ _ (b8.ne np) upd_same)) (hx X ((But.new np).trans g)).2) (whole_tup wh) fun G' y7 y8 sX => bk (b8.new np) ((t7.trans t8).trans (.new np)) sX⟩⟩
          · exact rest _ x (.list ds) _ _ _ _ (dB.but t8) ⟨wh.sh, wh.di, wh.de, by have := wh.le; omega, wh.sq⟩ fun G' y7 y8 sX => bk b8 (t7.trans t8) sX
        · have e : isK "list" d = false := by
            cases c : isK "list" d with
            | true => exact absurd c cl
            | false => rfl
          rw [e]
          exact iteF (rest _ x d _ _ _ _ dB ⟨wh.sh, wh.di, wh.de, by have := wh.le; omega, wh.sq⟩ fun G' y7 y8 sX => bk (b7.mono (by omega)) t7 sX)
      · obtain ⟨s5, s6, s7, s8, rfl, tX, bX, hPX, hLX⟩ := h
        exact ⟨_, _, _, _, _, _, _, _, rfl, same_but (sm4.trans T6) nb0 tX⟩
    · obtain ⟨s1, s2, s3, s4, s5, s6, s7, s8, rfl, sm⟩ := h
      exact ⟨(), rfl, fun H' _ => q H'⟩
end
theorem all_mk {l : PySem.W.OpenLaw} {w : World} {K : PySem.W.Frag} {h : Heap} {mg : Str → Option Value} {fa f0 f1 f2 f3 f4 f5 f6 f7 f8 f9 f10 f11 f12 : Addr} (X : K.In h) (G : h.Ns mainGlobals mg) (hfa : mg "law" = some (.ref fa))
    {od0 an0 od1 an1 od2 an2 od3 an3 od4 an4 od5 an5 od6 an6 od7 an7 od8 an8 od9 an9 od10 an10 od11 an11 od12 an12 : Option Addr} {sl0 sl1 sl2 sl3 sl4 sl5 sl6 sl7 sl8 sl9 sl10 sl11 sl12 : Array (Option Value)} {oc0 kV0 dc0 pm0 cd0 ct0 oc1 kV1 dc1 pm1 cd1 ct1 oc2 kV2 dc2 pm2 cd2 ct2 oc3 kV3 dc3 pm3 cd3 ct3 oc4 kV4 dc4 pm4 cd4 ct4 oc5 kV5 dc5 pm5 cd5 ct5 oc6 kV6 dc6 pm6 cd6 ct6 oc7 kV7 dc7 pm7 cd7 ct7 oc8 kV8 dc8 pm8 cd8 ct8 oc9 kV9 dc9 pm9 cd9 ct9 oc10 kV10 dc10 pm10 cd10 ct10 oc11 kV11 dc11 pm11 cd11 ct11 oc12 kV12 dc12 pm12 cd12 ct12 : Value}
    (a0 : PySem.W.nsIn K mainGlobals "is_number_in" = some (some (.ref f0))) (l0 : K.lookup f0 = some ⟨oc0, od0, .func (PySem.W.fnOf "is_number_in" "is_number_in" (defArgs s_is_number_in) (defBody s_is_number_in) (defScope s_is_number_in) .none kV0 dc0 pm0 an0 cd0 ct0), sl0⟩) (c0 : PySem.W.codeIn K cd0 "is_number_in" = true) (k0 : PySem.W.keepIn K (.ref f0) = true)
    (a1 : PySem.W.nsIn K mainGlobals "_law_mix" = some (some (.ref f1))) (l1 : K.lookup f1 = some ⟨oc1, od1, .func (PySem.W.fnOf "_law_mix" "_law_mix" (defArgs s__law_mix) (defBody s__law_mix) (defScope s__law_mix) .none kV1 dc1 pm1 an1 cd1 ct1), sl1⟩) (c1 : PySem.W.codeIn K cd1 "_law_mix" = true) (k1 : PySem.W.keepIn K (.ref f1) = true)
    (a2 : PySem.W.nsIn K mainGlobals "_law_left" = some (some (.ref f2))) (l2 : K.lookup f2 = some ⟨oc2, od2, .func (PySem.W.fnOf "_law_left" "_law_left" (defArgs s__law_left) (defBody s__law_left) (defScope s__law_left) .none kV2 dc2 pm2 an2 cd2 ct2), sl2⟩) (c2 : PySem.W.codeIn K cd2 "_law_left" = true) (k2 : PySem.W.keepIn K (.ref f2) = true)
    (a3 : PySem.W.nsIn K mainGlobals "_law_pick" = some (some (.ref f3))) (l3 : K.lookup f3 = some ⟨oc3, od3, .func (PySem.W.fnOf "_law_pick" "_law_pick" (defArgs s__law_pick) (defBody s__law_pick) (defScope s__law_pick) .none kV3 dc3 pm3 an3 cd3 ct3), sl3⟩) (c3 : PySem.W.codeIn K cd3 "_law_pick" = true) (k3 : PySem.W.keepIn K (.ref f3) = true)
    (a4 : PySem.W.nsIn K mainGlobals "_law_prices" = some (some (.ref f4))) (l4 : K.lookup f4 = some ⟨oc4, od4, .func (PySem.W.fnOf "_law_prices" "_law_prices" (defArgs s__law_prices) (defBody s__law_prices) (defScope s__law_prices) .none kV4 dc4 pm4 an4 cd4 ct4), sl4⟩) (c4 : PySem.W.codeIn K cd4 "_law_prices" = true) (k4 : PySem.W.keepIn K (.ref f4) = true)
    (a5 : PySem.W.nsIn K mainGlobals "is_price" = some (some (.ref f5))) (l5 : K.lookup f5 = some ⟨oc5, od5, .func (PySem.W.fnOf "is_price" "is_price" (defArgs s_is_price) (defBody s_is_price) (defScope s_is_price) .none kV5 dc5 pm5 an5 cd5 ct5), sl5⟩) (c5 : PySem.W.codeIn K cd5 "is_price" = true) (k5 : PySem.W.keepIn K (.ref f5) = true)
    (a6 : PySem.W.nsIn K mainGlobals "are_prices" = some (some (.ref f6))) (l6 : K.lookup f6 = some ⟨oc6, od6, .func (PySem.W.fnOf "are_prices" "are_prices" (defArgs s_are_prices) (defBody s_are_prices) (defScope s_are_prices) .none kV6 dc6 pm6 an6 cd6 ct6), sl6⟩) (c6 : PySem.W.codeIn K cd6 "are_prices" = true) (k6 : PySem.W.keepIn K (.ref f6) = true)
    (a7 : PySem.W.nsIn K mainGlobals "_law_is_number" = some (some (.ref f7))) (l7 : K.lookup f7 = some ⟨oc7, od7, .func (PySem.W.fnOf "_law_is_number" "_law_is_number" (defArgs s__law_is_number) (defBody s__law_is_number) (defScope s__law_is_number) .none kV7 dc7 pm7 an7 cd7 ct7), sl7⟩) (c7 : PySem.W.codeIn K cd7 "_law_is_number" = true) (k7 : PySem.W.keepIn K (.ref f7) = true)
    (a8 : PySem.W.nsIn K mainGlobals "_law_odd" = some (some (.ref f8))) (l8 : K.lookup f8 = some ⟨oc8, od8, .func (PySem.W.fnOf "_law_odd" "_law_odd" (defArgs s__law_odd) (defBody s__law_odd) (defScope s__law_odd) .none kV8 dc8 pm8 an8 cd8 ct8), sl8⟩) (c8 : PySem.W.codeIn K cd8 "_law_odd" = true) (k8 : PySem.W.keepIn K (.ref f8) = true)
    (a9 : PySem.W.nsIn K mainGlobals "_law_are_prices" = some (some (.ref f9))) (l9 : K.lookup f9 = some ⟨oc9, od9, .func (PySem.W.fnOf "_law_are_prices" "_law_are_prices" (defArgs s__law_are_prices) (defBody s__law_are_prices) (defScope s__law_are_prices) .none kV9 dc9 pm9 an9 cd9 ct9), sl9⟩) (c9 : PySem.W.codeIn K cd9 "_law_are_prices" = true) (k9 : PySem.W.keepIn K (.ref f9) = true)
    (a10 : PySem.W.nsIn K mainGlobals "_law_bent" = some (some (.ref f10))) (l10 : K.lookup f10 = some ⟨oc10, od10, .func (PySem.W.fnOf "_law_bent" "_law_bent" (defArgs s__law_bent) (defBody s__law_bent) (defScope s__law_bent) .none kV10 dc10 pm10 an10 cd10 ct10), sl10⟩) (c10 : PySem.W.codeIn K cd10 "_law_bent" = true) (k10 : PySem.W.keepIn K (.ref f10) = true)
    (a11 : PySem.W.nsIn K mainGlobals "_law_year_right" = some (some (.ref f11))) (l11 : K.lookup f11 = some ⟨oc11, od11, .func (PySem.W.fnOf "_law_year_right" "_law_year_right" (defArgs s__law_year_right) (defBody s__law_year_right) (defScope s__law_year_right) .none kV11 dc11 pm11 an11 cd11 ct11), sl11⟩) (c11 : PySem.W.codeIn K cd11 "_law_year_right" = true) (k11 : PySem.W.keepIn K (.ref f11) = true)
    (a12 : PySem.W.nsIn K mainGlobals "law" = some (some (.ref f12))) (l12 : K.lookup f12 = some ⟨oc12, od12, .func (PySem.W.fnOf "law" "law" (defArgs s_law) (defBody s_law) (defScope s_law) .none kV12 dc12 pm12 an12 cd12 ct12), sl12⟩) (c12 : PySem.W.codeIn K cd12 "law" = true) (k12 : PySem.W.keepIn K (.ref f12) = true)
    (z_isinstance : PySem.W.nsIn K mainGlobals "isinstance" = some none) (z_bool : PySem.W.nsIn K mainGlobals "bool" = some none) (z_int : PySem.W.nsIn K mainGlobals "int" = some none) (z_len : PySem.W.nsIn K mainGlobals "len" = some none) (z_abs : PySem.W.nsIn K mainGlobals "abs" = some none) (z_range : PySem.W.nsIn K mainGlobals "range" = some none) (z_tuple : PySem.W.nsIn K mainGlobals "tuple" = some none) (z_all : PySem.W.nsIn K mainGlobals "all" = some none) (z_list : PySem.W.nsIn K mainGlobals "list" = some none) (z_zip : PySem.W.nsIn K mainGlobals "zip" = some none) (z_sorted : PySem.W.nsIn K mainGlobals "sorted" = some none) (z_set : PySem.W.nsIn K mainGlobals "set" = some none) (z_max : PySem.W.nsIn K mainGlobals "max" = some none) (z_min : PySem.W.nsIn K mainGlobals "min" = some none) (z_repr : PySem.W.nsIn K mainGlobals "repr" = some none)
    {t_MOST_PRICE : Tok} (y_MOST_PRICE : PySem.W.nsIn K mainGlobals "MOST_PRICE" = some (some (.int 1000000 t_MOST_PRICE)))
    {t_LAST_DAY : Tok} (y_LAST_DAY : PySem.W.nsIn K mainGlobals "LAST_DAY" = some (some (.int 400 t_LAST_DAY))) :
    ∃ fd : FuncData, (∀ (s : Shared) (v : Value), BindsTo s fd ⟨[v], []⟩ [("_law_script", v)]) ∧ ∀ base : Heap, K.In base → base.Ns mainGlobals mg → FnG l.prog w K mg base 5 fa fd ["_law_script"] (sp_law K) := by
  have e := hfa.symm.trans (PySem.W.mg_of X G a12)
  cases e
  have F0 := fun_mk (st := s_is_number_in) l0 c0 k0
  have b0 := F0.binds (ps := ["thing", "low", "high"]) fun _ _ _ _ _ _ us hl => match us, hl with | [_, _, _], _ => rfl
  have g0 := PySem.W.mg_of X G a0
  have F1 := fun_mk (st := s__law_mix) l1 c1 k1
  have b1 := F1.binds (ps := ["_law_cell", "_law_k"]) fun _ _ _ _ _ _ us hl => match us, hl with | [_, _], _ => rfl
  have g1 := PySem.W.mg_of X G a1
  have F2 := fun_mk (st := s__law_left) l2 c2 k2
  have b2 := F2.binds (ps := ["_law_script", "_law_k"]) fun _ _ _ _ _ _ us hl => match us, hl with | [_, _], _ => rfl
  have g2 := PySem.W.mg_of X G a2
  have F3 := fun_mk (st := s__law_pick) l3 c3 k3
  have b3 := F3.binds (ps := ["_law_left_here", "_law_many"]) fun _ _ _ _ _ _ us hl => match us, hl with | [_, _], _ => rfl
  have g3 := PySem.W.mg_of X G a3
  have F4 := fun_mk (st := s__law_prices) l4 c4 k4
  have b4 := F4.binds (ps := ["_law_left_here", "_law_many"]) fun _ _ _ _ _ _ us hl => match us, hl with | [_, _], _ => rfl
  have g4 := PySem.W.mg_of X G a4
  have F5 := fun_mk (st := s_is_price) l5 c5 k5
  have b5 := F5.binds (ps := ["thing"]) fun _ _ _ _ _ _ us hl => match us, hl with | [_], _ => rfl
  have g5 := PySem.W.mg_of X G a5
  have F6 := fun_mk (st := s_are_prices) l6 c6 k6
  have b6 := F6.binds (ps := ["thing"]) fun _ _ _ _ _ _ us hl => match us, hl with | [_], _ => rfl
  have g6 := PySem.W.mg_of X G a6
  have F7 := fun_mk (st := s__law_is_number) l7 c7 k7
  have b7 := F7.binds (ps := ["_law_thing"]) fun _ _ _ _ _ _ us hl => match us, hl with | [_], _ => rfl
  have g7 := PySem.W.mg_of X G a7
  have F8 := fun_mk (st := s__law_odd) l8 c8 k8
  have b8 := F8.binds (ps := ["_law_left_here"]) fun _ _ _ _ _ _ us hl => match us, hl with | [_], _ => rfl
  have g8 := PySem.W.mg_of X G a8
  have F9 := fun_mk (st := s__law_are_prices) l9 c9 k9
  have b9 := F9.binds (ps := ["_law_thing"]) fun _ _ _ _ _ _ us hl => match us, hl with | [_], _ => rfl
  have g9 := PySem.W.mg_of X G a9
  have F10 := fun_mk (st := s__law_bent) l10 c10 k10
  have b10 := F10.binds (ps := ["_law_left_here", "_law_prices_here"]) fun _ _ _ _ _ _ us hl => match us, hl with | [_, _], _ => rfl
  have g10 := PySem.W.mg_of X G a10
  have F11 := fun_mk (st := s__law_year_right) l11 c11 k11
  have b11 := F11.binds (ps := []) fun _ _ _ _ _ _ us hl => match us, hl with | [], _ => rfl
  have g11 := PySem.W.mg_of X G a11
  have F12 := fun_mk (st := s_law) l12 c12 k12
  have m_isinstance := PySem.W.mg_none_of X G z_isinstance
  have m_bool := PySem.W.mg_none_of X G z_bool
  have m_int := PySem.W.mg_none_of X G z_int
  have m_len := PySem.W.mg_none_of X G z_len
  have m_abs := PySem.W.mg_none_of X G z_abs
  have m_range := PySem.W.mg_none_of X G z_range
  have m_tuple := PySem.W.mg_none_of X G z_tuple
  have m_all := PySem.W.mg_none_of X G z_all
  have m_list := PySem.W.mg_none_of X G z_list
  have m_zip := PySem.W.mg_none_of X G z_zip
  have m_sorted := PySem.W.mg_none_of X G z_sorted
  have m_set := PySem.W.mg_none_of X G z_set
  have m_max := PySem.W.mg_none_of X G z_max
  have m_min := PySem.W.mg_none_of X G z_min
  have m_repr := PySem.W.mg_none_of X G z_repr
  have g_MOST_PRICE := PySem.W.mg_of X G y_MOST_PRICE
  have g_LAST_DAY := PySem.W.mg_of X G y_LAST_DAY
  refine ⟨PySem.W.fnOf "law" "law" (defArgs s_law) (defBody s_law) (defScope s_law) .none kV12 dc12 pm12 an12 cd12 ct12, fun s v => .of_eq rfl, fun base _ _ => ?_⟩
  have C_is_number_in := ok_is_number_in (P := l.prog) (w := w) (base := base) F0 g0 b0 m_isinstance m_bool m_int
  have C__law_mix := ok__law_mix (P := l.prog) (w := w) (base := base) F1 g1 b1
  have C__law_left := ok__law_left (P := l.prog) (w := w) (base := base) F2 g2 b2 m_len m_abs m_int
  have C__law_pick := ok__law_pick (P := l.prog) (w := w) (base := base) F3 g3 b3 C__law_mix
  have C__law_prices := ok__law_prices (P := l.prog) (w := w) (base := base) F4 g4 b4 m_range C__law_pick
  have C_is_price := ok_is_price (P := l.prog) (w := w) (base := base) F5 g5 b5 m_len m_isinstance m_tuple g_MOST_PRICE g_LAST_DAY C_is_number_in
  have C_are_prices := ok_are_prices (P := l.prog) (w := w) (base := base) F6 g6 b6 m_all m_isinstance m_tuple m_list m_zip C_is_price
  have C__law_is_number := ok__law_is_number (P := l.prog) (w := w) (base := base) F7 g7 b7 m_isinstance m_bool m_int
  have C__law_odd := ok__law_odd (P := l.prog) (w := w) (base := base) F8 g8 b8 m_range C__law_pick
  have C__law_are_prices := ok__law_are_prices (P := l.prog) (w := w) (base := base) F9 g9 b9 m_isinstance m_tuple m_list m_all m_len m_sorted m_set C__law_is_number
  have C__law_bent := ok__law_bent (P := l.prog) (w := w) (base := base) F10 g10 b10 m_max m_len m_list C__law_pick C__law_odd
  have C__law_year_right := ok__law_year_right (P := l.prog) (w := w) (base := base) F11 g11 b11 m_range m_tuple C_are_prices
  exact ok_law F12 m_range m_max m_min m_len m_tuple m_isinstance m_list m_repr m_bool C__law_left C__law_pick C__law_prices C_are_prices C__law_bent C__law_are_prices C__law_year_right
end Pw
open PySem PySem.W PyProof.Rows
set_option maxHeartbeats 0 in
theorem PySem.Challenge.cw_partwares_k28_what_prices_are_holds : PySem.Challenge.rw_partwares_k28_what_prices_are.Holds := by
  w_on; o_law; k_head; (case hw => w_witness2)
  k_fill
  refine Pw.walk_ofG (l := PySem.Challenge.rw_partwares_k28_what_prices_are) (n := 63) (k := 5) (x := "_law_script") (sp := fun w => Pw.sp_law _) rfl (by decide) rfl ⟨rfl, by decide, by decide⟩ (fun w h Y => PySem.W.kIn_of Y) ?F (fun _ _ a ns hl _ hS => ⟨a, ns, rfl, hS, hl, fun _ => rfl⟩)
  case F =>
    intro w mg fa h KX G hmg
    refine' Pw.all_mk KX G hmg ?a0 ?l0 ?c0 ?k0 ?a1 ?l1 ?c1 ?k1 ?a2 ?l2 ?c2 ?k2 ?a3 ?l3 ?c3 ?k3 ?a4 ?l4 ?c4 ?k4 ?a5 ?l5 ?c5 ?k5 ?a6 ?l6 ?c6 ?k6 ?a7 ?l7 ?c7 ?k7 ?a8 ?l8 ?c8 ?k8 ?a9 ?l9 ?c9 ?k9 ?a10 ?l10 ?c10 ?k10 ?a11 ?l11 ?c11 ?k11 ?a12 ?l12 ?c12 ?k12 ?z_isinstance ?z_bool ?z_int ?z_len ?z_abs ?z_range ?z_tuple ?z_all ?z_list ?z_zip ?z_sorted ?z_set ?z_max ?z_min ?z_repr ?y_MOST_PRICE ?y_LAST_DAY
    (case a0 => k_is); (case l0 => k_is); (case c0 => k_is); (case k0 => k_is); (case a1 => k_is); (case l1 => k_is); (case c1 => k_is); (case k1 => k_is); (case a2 => k_is); (case l2 => k_is); (case c2 => k_is); (case k2 => k_is); (case a3 => k_is); (case l3 => k_is); (case c3 => k_is); (case k3 => k_is); (case a4 => k_is); (case l4 => k_is); (case c4 => k_is); (case k4 => k_is); (case a5 => k_is); (case l5 => k_is); (case c5 => k_is); (case k5 => k_is); (case a6 => k_is); (case l6 => k_is); (case c6 => k_is); (case k6 => k_is); (case a7 => k_is); (case l7 => k_is); (case c7 => k_is); (case k7 => k_is); (case a8 => k_is); (case l8 => k_is); (case c8 => k_is); (case k8 => k_is); (case a9 => k_is); (case l9 => k_is); (case c9 => k_is); (case k9 => k_is); (case a10 => k_is); (case l10 => k_is); (case c10 => k_is); (case k10 => k_is); (case a11 => k_is); (case l11 => k_is); (case c11 => k_is); (case k11 => k_is); (case a12 => k_is); (case l12 => k_is); (case c12 => k_is); (case k12 => k_is); (case z_isinstance => k_is); (case z_bool => k_is); (case z_int => k_is); (case z_len => k_is); (case z_abs => k_is); (case z_range => k_is); (case z_tuple => k_is); (case z_all => k_is); (case z_list => k_is); (case z_zip => k_is); (case z_sorted => k_is); (case z_set => k_is); (case z_max => k_is); (case z_min => k_is); (case z_repr => k_is); (case y_MOST_PRICE => k_is); (case y_LAST_DAY => k_is)
