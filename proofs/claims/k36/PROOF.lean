import PyProof.Rows.All
import Wide.All
import OpenK.AllK
import Wide.FinOn
import HandS.Base
import HandS.Call
import HandS.List
import HandS.Comp
import HandS.Ends
import HandS.Iter
import HandS.Text
import HandS.Words
import HandS.WordsList
import HandS.IsInst
import HandS.Style
import HandS.Walk
import HandS.Defaults
import HandS.TupMul
import HandS.Zip
import HandS.More
import HandS.TupAny
import HandS.Set
import HandS.Strs
import HandS.SetBool
import HandS.SetFor
import HandS.SortInts
import PyProof.Rows.SortShellAny
import HandS.MakeKw
import HandS.SortKw
import KE.DatumOrd
import HandS.Lambda
import HandS.EndTab
import KE.SortKeyHeap
import HandS.Star
import HandS.DictComp
import HandS.Conv
import KE.KDictSum
import HandS.Dict
import HandS.StrMore
import KE.GoesEnum
import KE.GoesMore
import PySem.Challenge.RW_partwares_k36_prices_and_purses_at_their
set_option Elab.async false
set_option linter.all false
set_option maxRecDepth 100000
namespace Pw
open PySem PySem.Spec PyProof.Rows L2
/-! ### a def of the text by its promise, its address left aside -/
structure CF (P : Program) (w : World) (K : PySem.W.Frag) (mg : Str → Option Value) (base : Heap) (k : Nat) (x : Str) (ps : List Str) (sp : Sp) : Prop where
  ex : ∃ (f : Addr) (fd : FuncData), FnOk P w K mg base CX0 k f fd ps sp ∧ mg x = some (.ref f) ∧ PySem.W.keepIn K (.ref f) = true ∧ Binds K fd ps []
theorem pe_cf {X : Cx} {k : Nat} {x : Str} {ps : List Str} {sp : Sp} {e : Expr} {es : List Expr} {t : TA} {p pos : Pos} (C : CF X.prog X.w X.K X.mg X.base k x ps sp) (hr : Room k X.A) (hg : Gl X x) (ha : PA X (e :: es) t)
    (hdb : (x == ("__debug__" : Str)) = false := by decide) (he : starEach (e :: es) X.env = (false, eval e X.env) :: starEach es X.env := by rfl) (hpl : (backTo pos (starEach es X.env)).any (·.1) = false := by rfl) :
    PE X (.Call (.Name x p) (e :: es) [] pos) (tCall sp [] E0 t) := by
  obtain ⟨f, fd, F, g, kp, b⟩ := C.ex
  exact pe_call F hr hg g kp b .nil pass0 ha hdb he hpl
theorem pe_cf0 {X : Cx} {k : Nat} {x : Str} {sp : Sp} {p pos : Pos} (C : CF X.prog X.w X.K X.mg X.base k x [] sp) (hr : Room k X.A) (hg : Gl X x) (hdb : (x == ("__debug__" : Str)) = false := by decide) : PE X (.Call (.Name x p) [] [] pos) (tCall sp [] E0 tNil) := by
  obtain ⟨f, fd, F, g, kp, b⟩ := C.ex
  exact pe_call0 F hr hg g kp b .nil pass0 hdb
/-! ### the rules with their written part named (within a comprehension it must not hang on the block) -/
section
variable (K : PySem.W.Frag) {X : Cx}
theorem kk_isi (h : X.K = K := by rfl) : CallR X (.builtin "isinstance") (rIsi K) := h ▸ call_isi
theorem kk_isiT (h : X.K = K := by rfl) : CallR X (.builtin "isinstance") (rIsiT K) := h ▸ call_isiT
theorem kk_len (h : X.K = K := by rfl) : CallR X (.builtin "len") (fun xs H Q => ∃ p ys, xs = [.ref p] ∧ (SqL K H p ys ∨ SqT K H p ys) ∧ Q (.int ys.length) H) := h ▸ call_len_seq
theorem kk_list (h : X.K = K := by rfl) : CallR X (.type "list") (fun xs H Q => ∃ p ys, xs = [.ref p] ∧ (SqL K H p ys ∨ SqT K H p ys) ∧ ∀ l, H l = none → Q (.ref l) (upd H l (.lst ys))) := h ▸ call_list_of
theorem kk_tuple (h : X.K = K := by rfl) : CallR X (.type "tuple") (fun xs H Q => ∃ p ys, xs = [.ref p] ∧ ((SqL K H p ys ∧ ∀ l, H l = none → Q (.ref l) (upd H l (.tup ys))) ∨ (SqT K H p ys ∧ Q (.ref p) H))) := h ▸ call_tuple_of
theorem kk_sum (hc : X.calm = true) (h : X.K = K := by rfl) : CallR X (.builtin "sum") (rSum K) := h ▸ cr_sum hc
theorem kk_max (hc : X.calm = true) (h : X.K = K := by rfl) : CallR X (.builtin "max") (rMax K) := h ▸ cr_max hc
theorem kk_min (hc : X.calm = true) (h : X.K = K := by rfl) : CallR X (.builtin "min") (rMin K) := h ▸ cr_min hc
theorem kk_any (hc : X.calm = true) (h : X.K = K := by rfl) : CallR X (.builtin "any") (rAny K) := h ▸ cr_any hc
theorem kk_all (hc : X.calm = true) (h : X.K = K := by rfl) : CallR X (.builtin "all") (rAll K) := h ▸ cr_all hc
theorem kk_sorted (h : X.K = K := by rfl) : CallR X (.builtin "sorted") (rSorted K) := h ▸ cr_sorted
theorem kk_ixl (h : X.K = K := by rfl) : IxR X (rIxL K) := h ▸ ix_list
theorem kk_ixt (h : X.K = K := by rfl) : IxR X (rIxT K) := h ▸ ix_tup
theorem kk_sll (h : X.K = K := by rfl) : SlR X (rSlL K) := h ▸ sl_list
theorem kk_slt (h : X.K = K := by rfl) : SlR X (rSlT K) := h ▸ sl_tup
theorem kk_in (h : X.K = K := by rfl) : OpR X (compareOp .In) (rIn K false) := h ▸ op_in_seq
theorem kk_nin (h : X.K = K := by rfl) : OpR X (compareOp .NotIn) (rIn K true) := h ▸ op_notIn_seq
theorem kk_catT (h : X.K = K := by rfl) : OpR X (binaryOp .Add) (rCatT K) := h ▸ op_catT
theorem kk_eqD (hu : X.A.units + 64 < cLine) (h : X.K = K := by rfl) : OpR X (compareOp .Eq) (rEqD K) := h ▸ op_eqD hu
theorem kk_neD (hu : X.A.units + 64 < cLine) (h : X.K = K := by rfl) : OpR X (compareOp .NotEq) (rNeD K) := h ▸ op_neD hu
theorem kk_revL {e : Expr} {te : TE} {k : Nat} {p1 p2 p3 pos : Pos} (he : PE X e te) (h : X.K = K := by rfl) : PE X (.Subscript e (.Slice none none (some (.UnaryOp .USub (.Constant (.int 1) k p1) p2)) p3) pos) (tRevL K te) := h ▸ pe_revL he
end
/-! ### heaps: all as it was, but one place -/
def But (b : Addr) (H H' : Hp) : Prop := ∀ c o, c ≠ b → H c = some o → H' c = some o
theorem But.refl (b : Addr) (H : Hp) : But b H H := fun _ _ _ h => h
theorem But.trans {b : Addr} {H H1 H2 : Hp} (x : But b H H1) (y : But b H1 H2) : But b H H2 := fun c o n h => y c o n (x c o n h)
theorem But.of {b : Addr} {H H1 : Hp} (x : Same H H1) : But b H H1 := fun c o _ h => x c o h
theorem But.upd {b : Addr} {H : Hp} {o : HO} : But b H (L2.upd H b o) := fun c u n h => by
  rw [upd_ne n]
  exact h
theorem But.new {b p : Addr} {H : Hp} {o : HO} (h : H p = none) : But b H (L2.upd H p o) := fun c u _ e => by
  rw [upd_ne (ne_of_none e h)]
  exact e
theorem same_new {H : Hp} {p : Addr} {o : HO} (h : H p = none) : Same H (upd H p o) := fun b x e => by
  rw [upd_ne (ne_of_none e h)]
  exact e
theorem But.seq {K : PySem.W.Frag} {b a : Addr} {H H' : Hp} {xs : List V} (e : But b H H') (n : a ≠ b) (h : SqL K H a xs) : SqL K H' a xs := by
  rcases h with (h | ⟨o, h⟩) | h
  · exact .inl (.inl (e _ _ n h))
  · exact .inl (.inr ⟨o, e _ _ n h⟩)
  · exact .inr h
/-! ### the law's box of three numbers -/
def Box (H : Hp) (b : Addr) (n : Int) : Prop := ∃ x y z : Int, H b = some (.lst [.int x, .int y, .int z]) ∧ 0 ≤ x ∧ 0 ≤ y ∧ y ≤ 3000000000 ∧ 0 ≤ z ∧ z ≤ n
theorem Box.mono {H : Hp} {b : Addr} {n m : Int} (h : Box H b n) (l : n ≤ m) : Box H b m := by
  obtain ⟨x, y, z, h0, h1, h2, h3, h4, h5⟩ := h
  exact ⟨x, y, z, h0, h1, h2, h3, h4, by omega⟩
theorem Box.same {H H' : Hp} {b : Addr} {n : Int} (e : Same H H') (h : Box H b n) : Box H' b n := by
  obtain ⟨x, y, z, h0, h1⟩ := h
  exact ⟨x, y, z, e _ _ h0, h1⟩
theorem Box.new {H : Hp} {b p : Addr} {o : HO} {n : Int} (h : Box H b n) (e : H p = none) : Box (upd H p o) b n := h.same (same_new e)
theorem Box.ne {H : Hp} {b p : Addr} {n : Int} (h : Box H b n) (e : H p = none) : p ≠ b := fun z => by
  obtain ⟨_, _, _, h0, _⟩ := h
  rw [z, h0] at e
  cases e
section
variable {K : PySem.W.Frag}
theorem at_int {ns : List Int} {k : Int} (h0 : 0 ≤ k) (h1 : k < ns.length) : ∃ c, atI (ns.map V.int) k = some (.int c) := by
  obtain ⟨j, rfl⟩ := Int.eq_ofNat_of_zero_le h0
  have hj : j < ns.length := by omega
  refine ⟨ns[j], atI_nat ?_⟩
  rw [List.getElem?_map, List.getElem?_eq_getElem hj]
  rfl
def partsL (p m : Int) : List Int := List.replicate (p % m).toNat (p / m + 1) ++ List.replicate (m - p % m).toNat (p / m)
theorem rep1 {α : Type} (k : Nat) (x : α) : (List.replicate k [x]).flatten = List.replicate k x := by
  induction k with
  | zero => rfl
  | succ n ih => rw [List.replicate_succ, List.flatten_cons, ih]; rfl
theorem size_small {n : Nat} (h : n ≤ 1000) : n ≤ sizeLine := Nat.le_of_lt (small1000 h)
theorem iteN {c A B : Prop} [Decidable c] (hc : ¬ c) (h : B) : if decide c = true then A else B := by
  rw [decide_eq_false hc]
  exact iteF h
theorem iteY {c A B : Prop} [Decidable c] (hc : c) (h : A) : if decide c = true then A else B := by
  rw [decide_eq_true hc]
  exact iteT h
theorem same_but {b : Addr} {H0 H1 H2 : Hp} (s : Same H0 H1) (n : H0 b = none) (t : But b H1 H2) : Same H0 H2 := fun c o h => t c o (fun e => by rw [e, n] at h; cases h) (s c o h)
theorem dpAll_ints {H : Hp} : ∀ ns : List Int, DpAll K H (ns.map V.int) (ns.map PyData.int)
  | [] => .nil
  | n :: r => .cons (.int n) (dpAll_ints r)
theorem dp_ints {H : Hp} {a : Addr} {ns : List Int} (h : SqL K H a (ns.map V.int)) : Dp K H (.ref a) (.list (ns.map PyData.int)) := .lst h (dpAll_ints ns)
theorem lay_ints : ∀ ns : List Int, PyData.canLayAll0 (ns.map PyData.int) = true
  | [] => by simp [PyData.canLayAll0]
  | n :: r => by simp [PyData.canLayAll0, PyData.canLay0, lay_ints r]
theorem depth_ints : ∀ ns : List Int, PyData.depthAll (ns.map PyData.int) ≤ 1
  | [] => by simp [PyData.depthAll]
  | n :: r => by
    have h := depth_ints r
    simp only [List.map_cons, PyData.depthAll, PyData.depth]
    omega
theorem sh_ints (ns : List Int) : SeqAt.shaped (.list (ns.map PyData.int)) = true := by
  have h1 := depth_ints ns
  have h2 : PyData.depth (.list (ns.map PyData.int)) ≤ 64 := by
    simp only [PyData.depth]
    omega
  show (PyData.canLay0 (.list (ns.map PyData.int)) && decide (PyData.depth (.list (ns.map PyData.int)) ≤ 64)) = true
  rw [Bool.and_eq_true]
  exact ⟨by simp only [PyData.canLay0]; exact lay_ints ns, decide_eq_true h2⟩
theorem eqv_same (ns : List Int) : PyData.eqv (.list (ns.map PyData.int)) (.list (ns.map PyData.int)) = true := SeqAt.eqv_refl _ (SeqAt.canLay_of_shaped (sh_ints ns))

theorem sum_rep (k : Nat) (x : Int) : (List.replicate k x).sum = k * x := by
  induction k with
  | zero => simp
  | succ n ih =>
    rw [List.replicate_succ, List.sum_cons, ih, Int.natCast_add, Int.add_mul]
    omega
theorem parts_len {p m : Int} (hm : 1 ≤ m) : ((partsL p m).length : Int) = m := by
  have hr0 := Int.emod_nonneg p (show m ≠ 0 by omega)
  have hr1 := Int.emod_lt_of_pos p (show 0 < m by omega)
  unfold partsL
  rw [List.length_append, List.length_replicate, List.length_replicate]
  omega
theorem parts_sum {p m : Int} (hm : 1 ≤ m) : (partsL p m).sum = p := by
  have hr0 := Int.emod_nonneg p (show m ≠ 0 by omega)
  have hr1 := Int.emod_lt_of_pos p (show 0 < m by omega)
  have e := Int.mul_ediv_add_emod p m
  unfold partsL
  rw [List.sum_append, sum_rep, sum_rep, Int.toNat_of_nonneg hr0, Int.toNat_of_nonneg (by omega), Int.sub_mul, Int.mul_add]
  omega
theorem parts_mem {p m x : Int} (h : x ∈ partsL p m) : x = p / m + 1 ∨ x = p / m := by
  unfold partsL at h
  rcases List.mem_append.mp h with h | h
  · exact .inl (List.eq_of_mem_replicate h)
  · exact .inr (List.eq_of_mem_replicate h)
theorem parts_fall (p m : Int) : (partsL p m).Pairwise (fun a b => b ≤ a) := by
  unfold partsL
  refine List.pairwise_append.mpr ⟨List.pairwise_replicate.mpr (.inr (Int.le_refl _)), List.pairwise_replicate.mpr (.inr (Int.le_refl _)), fun a ha b hb => ?_⟩
  rw [List.eq_of_mem_replicate ha, List.eq_of_mem_replicate hb]
  omega
theorem parts_sorted {p m : Int} {ns : List Int} (h : ns.Perm (partsL p m)) (hs : ns.Pairwise (· ≤ ·)) : ns.reverse = partsL p m := by
  refine List.Perm.eq_of_pairwise (le := fun a b => b ≤ a) (fun x y _ _ h1 h2 => Int.le_antisymm h2 h1) ?_ (parts_fall p m) ((List.reverse_perm ns).trans h)
  exact List.pairwise_reverse.mpr hs
theorem ends_of {ns : List Int} (h : 0 < ns.length) : ∃ x y, x ∈ ns ∧ y ∈ ns ∧ atI (ns.map V.int) 0 = some (.int x) ∧ atI (ns.map V.int) (-1) = some (.int y) := by
  cases ns with
  | nil => cases h
  | cons x r =>
    refine ⟨x, (x :: r).getLast (List.cons_ne_nil _ _), List.mem_cons_self, List.getLast_mem _, atI_nat (j := 0) rfl, ?_⟩
    have hz : ((x :: r).map V.int) = ((x :: r).dropLast.map V.int) ++ [.int ((x :: r).getLast (List.cons_ne_nil _ _))] := by
      rw [← List.map_singleton, ← List.map_append, List.dropLast_concat_getLast]
    rw [hz]
    exact atI_last _ _
theorem all_true (n : Nat) : (List.replicate n true).all id = true := by
  induction n with
  | zero => rfl
  | succ k ih => rw [List.replicate_succ, List.all_cons, ih]; rfl
theorem pick6 {r x : Int} (h0 : 0 ≤ r) (h1 : r < 6) (x0 : 0 ≤ x) (x1 : x ≤ 100) : ∃ c : Int, atI [V.int 0, .int 1, .int 50, .int 99, .int 100, .int x] r = some (.int c) ∧ 0 ≤ c ∧ c ≤ 100 := by
  have h : r = 0 ∨ r = 1 ∨ r = 2 ∨ r = 3 ∨ r = 4 ∨ r = 5 := by omega
  rcases h with rfl | rfl | rfl | rfl | rfl | rfl
  · exact ⟨0, rfl, by decide, by decide⟩
  · exact ⟨1, rfl, by decide, by decide⟩
  · exact ⟨50, rfl, by decide, by decide⟩
  · exact ⟨99, rfl, by decide, by decide⟩
  · exact ⟨100, rfl, by decide, by decide⟩
  · exact ⟨x, rfl, x0, x1⟩
end
end Pw
namespace Pw
open PySem PySem.Spec PyProof.Rows L2
/-! ### defs that are called where no repr is under way (so that the repr of a list, of a tuple, is its text) -/
structure FnG (P : Program) (w : World) (K : PySem.W.Frag) (mg : Str → Option Value) (base : Heap) (k : Nat) (f : Addr) (fd : FuncData) (ps : List Str) (sp : Sp) : Prop where
  many : ∀ vs H Q E, sp vs H Q E → vs.length = ps.length
  runs : ∀ (A : Around) (out : List Env) (s : Shared) (H : Hp) (ar : Args) (us : List Value) (vs : List V) (Q : VK) (E : XK), Room k A → A.guards = some [] → Env0 P w K mg base A out s H →
    BindsTo s fd ar (ps.zip us) → Vals vs us → sp vs H Q E → codeAny (model P w) A (.call (.ref f) ar) (CR CX0 out P w H s Q E) s
theorem FnG.of {P : Program} {w : World} {K : PySem.W.Frag} {mg : Str → Option Value} {base : Heap} {k : Nat} {f : Addr} {fd : FuncData} {ps : List Str} {sp : Sp} (F : FnOk P w K mg base CX0 k f fd ps sp) : FnG P w K mg base k f fd ps sp :=
  ⟨F.len, fun A out s H ar us vs Q E hr _ => F.run A out s H ar us vs Q E hr⟩
theorem guards_deeper {A : Around} {env : Env} (h : A.guards = some []) : (A.deeper env).guards = some [] := h
theorem okG {P : Program} {w : World} {K : PySem.W.Frag} {mg : Str → Option Value} {base : Heap} {x qual : Str} {st : Stmt} {f : Addr} {fd : FuncData} {N ps : List Str} {k : Nat} {sp : Sp} (F : Fun K x qual st f fd) (S : FnScope N ps (defScope st))
    (many : ∀ vs H Q E, sp vs H Q E → vs.length = ps.length)
    (walk : ∀ (cdv : Value) (A : Around) (out : List Env) (s : Shared) (H : Hp) (vs : List V) (Q : VK) (E : XK), Room k (A.deeper (envOfC qual (defScope st) s.heap.objs.size f cdv)) → (A.deeper (envOfC qual (defScope st) s.heap.objs.size f cdv)).guards = some [] → sp vs H Q E →
      ∃ t, PSs (cxOf CX0 P w K mg base N qual (defScope st) f cdv A out s H E).nox (defBody st) t ∧ t { nx := fun _ H' => Q .non H', rt := Q } (start N vs) H) : FnG P w K mg base (k + 1) f fd ps sp := by
  obtain ⟨oc, od, kV, dc, pm, an, cv, ct, ol, rfl, look, code⟩ := F.ex
  constructor
  · exact many
  · intro A out s H ar us vs Q E room gd env0 binds rel want
    have inK : K.In s.heap := env0.mod.kin.keeps (fun b o e => And.left (env0.bs b o e))
    have noLim : s.heap.NoLimit := env0.mod.nolimit.keeps (fun b o e => And.left (env0.bs b o e))
    apply codeAny_call_function room.depth (inK _ _ look) rfl S.co S.gen rfl (PySem.W.codeRec_of inK code)
    apply binds
    apply wpAny_newFunctionEnv_cells S.kind
    · rintro ⟨n, v⟩ hy
      cases S.par n (List.of_mem_zip hy).1 with
      | inl q => exact Or.inl q
      | inr q => exact Or.inr ⟨q, PySem.W.cellsFrom_some _ _ _ (Or.inl q)⟩
    · intro env he s1 inCall
      cases he
      refine And.intro (noLim.keeps inCall.toInCall.keep) (codeAny_func ?_)
      obtain ⟨t, term, reading⟩ := walk cv A out s H vs Q E (room.deeper _) (guards_deeper gd) want
      have start : Inv (cxOf CX0 P w K mg base N qual (defScope st) f cv A out s H E) [] (L2.start N vs) H s1 := inv_start S room.hd env0 (many _ _ _ _ want) rel inCall
      apply wpAny_mono (term.nox.run [] s1 (L2.start N vs) H _ start reading)
      · intro fl s' told
        cases fl with
        | ret u =>
          obtain ⟨v, σ', H', J, rv, q⟩ := told
          exact ⟨v, H', J.os, J.bare, J.base, J.hok, rv, q⟩
        | next =>
          obtain ⟨σ', H', J, q⟩ := told
          exact ⟨V.non, H', J.os, J.bare, J.base, J.hok, rfl, q⟩
        | brk => exact (And.right (Exists.choose_spec (Exists.choose_spec told))).elim
        | cont => exact (And.right (Exists.choose_spec (Exists.choose_spec told))).elim
      · intro e s' told
        exact told
structure CG (P : Program) (w : World) (K : PySem.W.Frag) (mg : Str → Option Value) (base : Heap) (k : Nat) (x : Str) (ps : List Str) (sp : Sp) : Prop where
  ex : ∃ (f : Addr) (fd : FuncData), FnG P w K mg base k f fd ps sp ∧ mg x = some (.ref f) ∧ PySem.W.keepIn K (.ref f) = true ∧ Binds K fd ps []
theorem CF.g {P : Program} {w : World} {K : PySem.W.Frag} {mg : Str → Option Value} {base : Heap} {k : Nat} {x : Str} {ps : List Str} {sp : Sp} (C : CF P w K mg base k x ps sp) : CG P w K mg base k x ps sp := by
  obtain ⟨f, fd, F, r⟩ := C.ex
  exact ⟨f, fd, FnG.of F, r⟩
theorem pe_cg {X : Cx} {k : Nat} {x : Str} {ps : List Str} {sp : Sp} {e : Expr} {es : List Expr} {t : TA} {p pos : Pos} (C : CG X.prog X.w X.K X.mg X.base k x ps sp) (hr : Room k X.A) (gd : X.A.guards = some []) (hg : Gl X x) (ha : PA X (e :: es) t)
    (hdb : (x == ("__debug__" : Str)) = false := by decide) (he : starEach (e :: es) X.env = (false, eval e X.env) :: starEach es X.env := by rfl) (hpl : (backTo pos (starEach es X.env)).any (·.1) = false := by rfl) :
    PE X (.Call (.Name x p) (e :: es) [] pos) (tCall sp [] E0 t) := by
  obtain ⟨f, fd, F, g, kp, b⟩ := C.ex
  constructor
  intro pins s σ H Q I h
  apply wpAny_Call_Name_kw (ld_glob I hg g ?_ hdb)
  apply PySem.W.callWith_K (h₀ := X.base) I.ok.mod.kin kp (thn (ha.run pos pins s σ H _ I h) ?_) he hpl
  rintro us s1 ⟨vs, H1, I1, r, q⟩
  refine ⟨I1.kIn, wpAny_call (codeAny_mono (F.runs X.A X.stack s1 H1 ⟨us, []⟩ (us ++ []) (vs ++ []) Q E0 hr gd I1.env0 (b s1 us I1.kIn ?_) (r.append .nil) q) ?_)⟩
  · have hl := F.many _ _ _ _ q
    rw [(r.append .nil).length] at hl
    exact hl
  · intro res s' told
    cases res with
    | error e => exact told.elim
    | ok fl =>
      cases fl with
      | ret u => exact I1.after told
      | next => exact told.elim
      | brk => exact told.elim
      | cont => exact told.elim
/-! ### repr of data -/
def rRepr (K : PySem.W.Frag) : List V → Hp → VK → Prop := fun xs H Q => ∃ (x : V) (d : PyData), xs = [x] ∧ Dp K H x d ∧ d.showable = true ∧ d.shown.length ≤ sizeLine ∧ d.depth ≤ 60 ∧ d.hasDict = false ∧ Q (.str d.shown) H
theorem kk_repr (K : PySem.W.Frag) {X : Cx} (gd : X.A.guards = some []) (hu : X.A.units + 64 < cLine) (h : X.K = K := by rfl) : CallR X (.builtin "repr") (rRepr K) := by
  subst h
  intro pins s σ H xs us Q I r want
  obtain ⟨x, d, rfl, hd, hs, hz, hp, hn, q⟩ := want
  obtain ⟨u, rfl, ru⟩ := vals1 r
  cases hd with
  | non =>
    cases (show u = Value.none from ru)
    simp only [PyData.shown] at q
    exact PySem.P.repr_of_none ⟨.str _, H, I.tok _, ⟨_, rfl⟩, q⟩
  | bl b =>
    cases (show u = Value.bool b from ru)
    simp only [PyData.shown] at q
    exact PySem.P.repr_of_bool ⟨.str _, H, I.tok _, ⟨_, rfl⟩, q⟩
  | int i =>
    obtain ⟨t, e⟩ := (show ∃ t, u = Value.int i t from ru)
    cases e
    simp only [PyData.shown] at q
    exact PySem.P.repr_of_int (by simpa [PyData.showable] using hs) ⟨.str _, H, I.tok _, ⟨_, rfl⟩, q⟩
  | str y =>
    obtain ⟨t, e⟩ := (show ∃ t, u = Value.str y t from ru)
    cases e
    simp only [PyData.shown] at q hz
    exact PySem.P.repr_of_str ⟨.str _, H, I.tok _, ⟨_, rfl⟩, q⟩ hz
  | lst a b =>
    obtain ⟨as, rd⟩ := Dp.reads I _ _ u (.lst a b) ru
    cases ru
    exact repr_of_reads' rd hs (fun z => by rw [hn] at z; cases z) gd (by omega) (fun _ _ e => e) (fun h' t tk keep => ⟨.str _, H, I.kept keep, ⟨_, rfl⟩, q⟩) hz
  | tup a b =>
    obtain ⟨as, rd⟩ := Dp.reads I _ _ u (.tup a b) ru
    cases ru
    exact repr_of_reads' rd hs (fun z => by rw [hn] at z; cases z) gd (by omega) (fun _ _ e => e) (fun h' t tk keep => ⟨.str _, H, I.kept keep, ⟨_, rfl⟩, q⟩) hz
/-! ### the law's call, for such a def -/
theorem law_callG {P : Program} {w : World} {K : PySem.W.Frag} {mg mb : Str → Option Value} {k : Nat} {fa a : Addr} {fd : FuncData} {x : Str} {sp : Sp} {s₁ : Shared} {vs : List Value} {ns : List Int}
    (inK : K.In s₁.heap) (nsM : s₁.heap.Ns mainGlobals mg) (nsB : s₁.heap.Ns builtinsNs mb) (boot : ∀ y : Str, y ≠ "__name__" → mb y = bootBuiltins y) (lim : s₁.heap.NoLimit) (gens : s₁.gens = #[])
    (at_a : s₁.heap.get? a = some { cls := .type "list", data := .seq vs.toArray }) (areI : IntsAre vs ns) (fits : ns.length ≤ sizeLine) (room : Room k callerA)
    (F : ∀ base : Heap, K.In base → base.Ns mainGlobals mg → FnG P w K mg base k fa fd [x] sp) (bind : ∀ (s : Shared) (u : Value), BindsTo s fd ⟨[u], []⟩ [(x, u)])
    (want : ∀ H : Hp, Only H → SqL K H a (ns.map V.int) → sp [.ref a] H (fun v _ => v = .bl true) fun _ _ _ => False) :
    codeAny (model P w) callerA (.call (.ref fa) ⟨[.ref a], []⟩) (fun r s' => r = .ok (.ret (.bool true)) ∧ OldK s₁.heap s'.heap ∧ s'.os = s₁.os ∧ AllBare s'.gens) s₁ := by
  have many := areI.length
  have goes : ∀ H : Hp, Only H → SqL K H a (ns.map V.int) → HOk P w H s₁.heap → (∀ b, H b ≠ none → b = a) → (H a ≠ none → K.lookup a = none) →
      codeAny (model P w) callerA (.call (.ref fa) ⟨[.ref a], []⟩) (fun r s' => r = .ok (.ret (.bool true)) ∧ OldK s₁.heap s'.heap ∧ s'.os = s₁.os ∧ AllBare s'.gens) s₁ := by
    intro H only isL ok one notK
    have free : ∀ {b : Addr}, b ≠ a → H b = none := by
      intro b nb
      cases hb : H b with
      | none => rfl
      | some u => exact absurd (one b (by rw [hb]; simp)) nb
    have dictFree : ∀ {b : Addr} {o : Obj} {es : Array DictEntry} {ep : Nat}, s₁.heap.get? b = some o → o.data = .dict es ep → H b = none := by
      intro b o es ep e dd
      refine free (fun z => ?_)
      rw [z, at_a] at e
      cases e
      cases (show Data.seq vs.toArray _ = Data.dict es ep from dd)
    have nsH : ∀ {b : Addr} {m : Str → Option Value}, s₁.heap.Ns b m → (hidT s₁.heap H).Ns b m := by
      rintro b m ⟨o, es, ep, e, dd, rr⟩
      exact ⟨o, es, ep, hidT_get e (dictFree e dd), dd, rr⟩
    have inH : K.In (hidT s₁.heap H) := by
      intro b o e
      refine hidT_get (inK b o e) ?_
      cases hb : H b with
      | none => rfl
      | some u =>
        have ba := one b (by rw [hb]; simp)
        rw [ba] at hb e
        rw [notK (by rw [hb]; simp)] at e
        cases e
    have modH : Mod K mg (hidT s₁.heap H) := by
      obtain ⟨mc, l1, l2⟩ := lim
      exact ⟨inH, nsH nsM, ⟨mb, nsH nsB, boot⟩, ⟨mc, nsH l1, l2⟩⟩
    have env : Env0 P w K mg (hidT s₁.heap H) callerA [] s₁ H := by
      refine ⟨rfl, modH, fun b o e => of_hidT e, Nat.le_of_eq (hidT_size _ _), trivial, ?_, ok, .of_eq gens⟩
      intro b hb
      cases hb
    apply codeAny_mono ((F _ inH (nsH nsM)).runs callerA [] s₁ H ⟨[.ref a], []⟩ [.ref a] [.ref a] _ _ room rfl env (bind s₁ (.ref a)) (.cons rfl .nil) (want H only isL))
    intro res s' told
    cases res with
    | error e => exact told.elim
    | ok fl =>
      cases fl with
      | next => exact told.elim
      | brk => exact told.elim
      | cont => exact told.elim
      | ret u =>
        obtain ⟨v, H', os, bare, un, ok', rel, qv⟩ := told
        cases (show v = .bl true from qv)
        cases (show u = Value.bool true from rel)
        refine ⟨rfl, OldK.of_keep (fun b o e => ?_), os, bare⟩
        cases hb : H b with
        | none => exact un.keep b o e hb (fun z => by cases z) (fun z => by cases z)
        | some u2 =>
          rcases only b with z | ⟨ob, xs, z⟩
          · rw [hb] at z
            cases z
          · have e1 := And.left (ok b _ z)
            have e2 := And.left (ok' b _ (un.frzs b ob _ z))
            rw [e] at e1
            cases e1
            exact e2
  cases hk : K.lookup a with
  | some o =>
    have e := inK a o hk
    rw [at_a] at e
    cases e
    apply goes (fun _ => none)
    · exact fun _ => Or.inl rfl
    · exact Or.inr ⟨_, vs.toArray, _, hk, rfl, rfl, rfl, by rw [List.size_toArray, many]; exact fits, by simpa using vals_ints areI⟩
    · intro b u z
      cases (show (none : Option HO) = some u from z)
    · exact fun b z => absurd rfl z
    · exact fun z => absurd rfl z
  | none =>
    apply goes (fun b => if b = a then some (.frz { cls := .type "list", data := .seq vs.toArray } (.lst (ns.map V.int))) else none)
    · intro b
      by_cases hb : b = a
      · exact Or.inr ⟨_, _, if_pos hb⟩
      · exact Or.inl (if_neg hb)
    · exact Or.inl (Or.inr ⟨{ cls := .type "list", data := .seq vs.toArray }, if_pos rfl⟩)
    · intro b u z
      by_cases hb : b = a
      · have z' := (if_pos hb).symm.trans z
        cases z'
        rw [hb]
        exact ⟨at_a, by rw [List.length_map]; exact fits, vs, _, vals_ints areI, at_a⟩
      · cases (if_neg hb).symm.trans z
    · intro b z
      by_cases hb : b = a
      · exact hb
      · exact absurd (if_neg hb) z
    · exact fun _ => hk
theorem walk_ofG {l : PySem.W.OpenLaw} {n k : Nat} {q : Program} {loose : List Str} {XP : (Str → Option Value) → Heap → Prop} {YP : World → Heap → Prop} {d : DefRec} {K : Params → PySem.W.Frag} {sp : World → Sp} {x : Str}
    (hn : l.most = some n) (hn2 : n ≤ sizeLine) (hdf : d.params.defaults = []) (hr : Room k callerA) (hY : ∀ (w : World) (h : Heap), YP w h → (K w.params).In h)
    (F : ∀ (w : World) (mg : Str → Option Value) (fa : Addr) (h : Heap), (K w.params).In h → h.Ns mainGlobals mg → mg d.name = some (.ref fa) →
      ∃ fd : FuncData, (∀ (s : Shared) (u : Value), BindsTo s fd ⟨[u], []⟩ [(x, u)]) ∧ ∀ base : Heap, (K w.params).In base → base.Ns mainGlobals mg → FnG l.prog w (K w.params) mg base k fa fd [x] (sp w))
    (hsp : ∀ (w : World) (H : Hp) (a : Addr) (ns : List Int), ns.length ≤ n → Only H → SqL (K w.params) H a (ns.map V.int) → sp w [.ref a] H (fun v _ => v = .bl true) fun _ _ _ => False) :
    PySem.W.WalkO q loose XP YP l.row.toRowW d [] (fun f vs => PySem.call f vs) := by
  apply Att.attach_call hn hdf
  intro w s₀ s₁ mg mb fa o pm cd doc a vs ns G Y ho hd hcd hmg hobj hints hlen hg
  obtain ⟨fd, hb, hF⟩ := F w mg fa _ (hY w _ Y) G.T.g hmg
  exact law_callG (hY w _ Y) G.T.g G.T.b G.T.builtins G.T.nolimit hg hobj hints (Nat.le_trans hlen hn2) hr hF hb (fun H hO hS => hsp w H a ns hlen hO hS)
/-! ### texts and data -/
theorem op_mul_str {X : Cx} : OpR X (binaryOp .Mult) (fun x y H Q => ∃ (z : Str) (k : Int), x = .str z ∧ y = .int k ∧ MulOk z k ∧ Q (.str (Txt.mul z k)) H) := by
  intro pins s σ H x y v u Q I rx ry h
  obtain ⟨z, k, rfl, rfl, ok, q⟩ := h
  obtain ⟨t, rfl⟩ := rx
  obtain ⟨t', rfl⟩ := ry
  exact SB.mul ok fun t' tk => ⟨.str _, H, I.tok _, ⟨_, rfl⟩, q⟩
theorem len_app (x y : Str) : (x ++ y).length = x.length + y.length := by
  rw [TL.len_tl, TL.tl_append, List.length_append, ← TL.len_tl, ← TL.len_tl]
def tyD : PyData → String
  | .none => "NoneType"
  | .bool _ => "bool"
  | .int _ => "int"
  | .str _ => "str"
  | .list _ => "list"
  | .tuple _ => "tuple"
  | .dict _ => "dict"
theorem ty_of_dp {K : PySem.W.Frag} {H : Hp} {x : V} {d : PyData} (h : Dp K H x d) : TyX K H x (.type (tyD d)) := by
  cases h with
  | non => exact .base .non
  | bl b => exact .base (.bl b)
  | int i => exact .base (.int i)
  | str z => exact .base (.str z)
  | lst a _ =>
    rcases a with (a | ⟨o, a⟩) | ⟨o, its, n, a, c, _⟩
    · exact .base (.lst a)
    · exact .base (.frz a)
    · exact .kList a c
  | tup a _ =>
    rcases a with (a | ⟨o, a⟩) | ⟨o, its, n, a, c, _⟩
    · exact .base (.tup a)
    · exact .fTuple a
    · exact .kTuple a c
theorem seqT_same {K : PySem.W.Frag} {H H' : Hp} {a : Addr} {xs : List V} (e : Same H H') (h : SqT K H a xs) : SqT K H' a xs := by
  rcases h with (h | ⟨o, h⟩) | h
  · exact .inl (.inl (e _ _ h))
  · exact .inl (.inr ⟨o, e _ _ h⟩)
  · exact .inr h
mutual
theorem dp_same {K : PySem.W.Frag} {H H' : Hp} (e : Same H H') : ∀ {x : V} {d : PyData}, Dp K H x d → Dp K H' x d
  | _, _, .non => .non
  | _, _, .bl b => .bl b
  | _, _, .int i => .int i
  | _, _, .str z => .str z
  | _, _, .lst a b => .lst (e.seq a) (dpAll_same e b)
  | _, _, .tup a b => .tup (seqT_same e a) (dpAll_same e b)
theorem dpAll_same {K : PySem.W.Frag} {H H' : Hp} (e : Same H H') : ∀ {xs : List V} {ds : List PyData}, DpAll K H xs ds → DpAll K H' xs ds
  | _, _, .nil => .nil
  | _, _, .cons a b => .cons (dp_same e a) (dpAll_same e b)
end
/-- the heap without the place b -/
def wo (b : Addr) (H : Hp) : Hp := fun c => if c = b then none else H c
theorem wo_sub (b : Addr) (H : Hp) : Same (wo b H) H := fun c o h => by
  unfold wo at h
  split at h
  · cases h
  · exact h
theorem wo_but {b : Addr} {H H' : Hp} (t : But b H H') : Same (wo b H) (wo b H') := fun c o h => by
  unfold wo at h ⊢
  split at h
  · cases h
  · rename_i n
    rw [if_neg n]
    exact t c o n h
theorem wo_same {b : Addr} {H H' : Hp} (t : Same H H') : Same (wo b H) (wo b H') := wo_but (But.of t)
theorem wo_at {b c : Addr} {H : Hp} {o : HO} (n : c ≠ b) (h : H c = some o) : wo b H c = some o := by
  unfold wo
  rw [if_neg n]
  exact h
def Asc (s : Str) : Prop := ∀ c ∈ TL.tl s, c < 128
theorem Asc.app {x y : Str} (hx : Asc x) (hy : Asc y) : Asc (x ++ y) := fun c hc => by
  rw [TL.tl_append] at hc
  rcases List.mem_append.mp hc with h | h
  · exact hx c h
  · exact hy c h
theorem Asc.cut {x : Str} {lo hi : Option Int} (hx : Asc x) : Asc (cutS x lo hi) := fun c hc => hx c (List.mem_of_mem_drop (List.mem_of_mem_take hc))
theorem Asc.one {c : Nat} (h : c < 128) : Asc ⟨#[c]⟩ := fun d hd => by
  rw [List.mem_singleton.mp (show d ∈ [c] from hd)]
  exact h
/-! ### kinds of data -/
def isT (T t : String) : Bool := decide (t = T) || (decide (T = "int") && decide (t = "bool"))
abbrev isK (T : String) (d : PyData) : Bool := isT T (tyD d)
theorem kit_t : ∀ t ∈ ["NoneType", "bool", "int", "str", "list", "tuple", "dict"], ∀ T ∈ ["int", "bool", "str", "list", "tuple"], kitB t T = some (isT T t) := by decide +kernel
theorem ty_mem (d : PyData) : tyD d ∈ ["NoneType", "bool", "int", "str", "list", "tuple", "dict"] := by
  cases d <;> simp [tyD]
theorem kit_d {K : PySem.W.Frag} {T : String} (hT : T ∈ ["int", "bool", "str", "list", "tuple"]) (d : PyData) : PySem.W.kitOne K (.type (tyD d)) (.type T) = some (isK T d) := kit_ty (kit_t _ (ty_mem d) T hT)
theorem sh_int (i : Int) : SeqAt.shaped (.int i) = true := by
  show (PyData.canLay0 (.int i) && decide (PyData.depth (.int i) ≤ 64)) = true
  simp [PyData.canLay0, PyData.depth]
theorem tuple_mul1 (l : Addr) (items : Array Value) (n : Nat) (dd : Option Addr) (sl : Array (Option Value)) (u : Tok) (hne : items.isEmpty = false) :
    Meets (Builtin.«tuple.__mul__» ⟨[.ref l, .int 1 u], []⟩) (fun _ R s => s.heap.get? l = some { cls := .type "tuple", dict := dd, data := .seq items n, slots := sl } ∧ R (.ok (.ret (Value.ref l))) s) :=
  .of_wp fun prog w A R s h => by
    obtain ⟨hp, g, d, tk, os⟩ := s
    obtain ⟨hl, h⟩ := h
    have f1 := AutoSeq1.idx_int
    wp_walk using wpAny_loadPart' hl
    exact ⟨_, rfl, h⟩
theorem op_rep1 {X : Cx} : OpR X (binaryOp .Mult) (fun x y H Q => ∃ (l : Addr) (xs : List V), x = .ref l ∧ y = .int 1 ∧ SqT X.K H l xs ∧ xs ≠ [] ∧ Q (.ref l) H) := by
  intro pins s σ H x y v u Q I rx ry h
  obtain ⟨l, xs, rfl, rfl, hT, hne, q⟩ := h
  cases rx
  obtain ⟨t, rfl⟩ := ry
  obtain ⟨its, r, ⟨⟨cls, dd, data, sl⟩, ho, hc, n, hd⟩, hs⟩ := I.tuple hT
  simp only at hc hd
  subst hc hd
  have hi : its.toArray.isEmpty = false := by
    cases its with
    | nil => exact absurd (List.eq_nil_of_length_eq_zero (r.length.trans rfl)) hne
    | cons a b => rfl
  refine wpAny_binaryOp_repeat_ref (T := "tuple") (U := "int") (by decide) ⟨_, ho, rfl⟩ (fun s' => typeIs_int s' 1 t) noFill_tuple_mul F.fills_int_mul F.slot_int_rmul repeat_tuple F.slot_int_index.lookup
    (call_meets F.slot_int_rmul (typeIs_int s 1 t) F.entry_int_rmul (F.args_int_rmul_2 _ _) (int_rmul_tuple 1 t l its.toArray n dd sl)
      ⟨ho, rfl, ⟨_, ho, rfl⟩, call_meets F.slot_tuple_mul ⟨_, ho, rfl⟩ F.entry_tuple_mul (F.args_tuple_mul_2 _ _) (tuple_mul1 l its.toArray n dd sl t hi) ⟨ho, ?_⟩⟩)
  exact ⟨.ref l, H, I, rfl, q⟩
def rRepA (K : PySem.W.Frag) : R2 := fun x y H Q => rRepT K x y H Q ∨ ∃ (l : Addr) (xs : List V), x = .ref l ∧ y = .int 1 ∧ SqT K H l xs ∧ xs ≠ [] ∧ Q (.ref l) H
theorem kk_repA (K : PySem.W.Frag) {X : Cx} (h : X.K = K := by rfl) : OpR X (binaryOp .Mult) (rRepA K) := h ▸ OpR.or op_repT op_rep1
/-! ### classes: a method, the making of an instance, by their promises -/
structure CMt (P : Program) (w : World) (K : PySem.W.Frag) (mg : Str → Option Value) (base : Heap) (C : Addr) (k : Nat) (m : Str) (ps : List Str) (dvs : List V) (sp : Sp) : Prop where
  ex : ∃ (f : Addr) (fd : FuncData) (ds : List Value), FnOk P w K mg base CX0 k f fd ps sp ∧ Meth K C m f ∧ Vals dvs ds ∧ Binds K fd ps ds
structure CMk (P : Program) (w : World) (K : PySem.W.Frag) (mg : Str → Option Value) (base : Heap) (C : Addr) (k : Nat) (x : Str) (ps : List Str) (dvs : List V) (sp : Sp) : Prop where
  ex : ∃ (f : Addr) (fd : FuncData) (ds : List Value), FnOk P w K mg base CX0 k f fd ps sp ∧ Mk K C f ∧ mg x = some (.ref C) ∧ Vals dvs ds ∧ Binds K fd ps ds
section
variable {X : Cx} {k : Nat} {C : Addr} {x m : Str} {ps : List Str} {dvs : List V} {sp : Sp} {p pos apos : Pos} {e o : Expr} {es : List Expr} {ta : TE} {t : TA}
theorem pe_mt {pl : Sem Bool} (M : CMt X.prog X.w X.K X.mg X.base C k m ps dvs sp) (c : Cls X.K C) (hr : Room k X.A) (he : PE X o ta) (ha : PA X (e :: es) t)
    (hst : starEach (e :: es) X.env = (false, eval e X.env) :: starEach es X.env := by rfl) (hpl : (backTo pos (starEach es X.env)).any (·.1) = false := by rfl)
    (ht : eval (.Call (.Attribute o m apos) (e :: es) [] pos) X.env = (do
      let ov ← eval o X.env
      standAt apos.atName
      let (f, first) ← holding [ov] (getMethod ov m pl)
      callWith pos f first (backTo pos (starEach (e :: es) X.env)) (backToKw pos (keywordEach [] X.env))) := by rfl) :
    PE X (.Call (.Attribute o m apos) (e :: es) [] pos) (tMeth C m sp dvs E0 ta t) := by
  obtain ⟨f, fd, ds, F, me, vd, b⟩ := M.ex
  exact pe_meth (pl := pl) he c me F hr b vd pass0 ha hst hpl ht
theorem pe_mt0 {pl : Sem Bool} (M : CMt X.prog X.w X.K X.mg X.base C k m ps dvs sp) (c : Cls X.K C) (hr : Room k X.A) (he : PE X o ta)
    (ht : eval (.Call (.Attribute o m apos) [] [] pos) X.env = (do
      let ov ← eval o X.env
      standAt apos.atName
      let (f, first) ← holding [ov] (getMethod ov m pl)
      callWith pos f first (backTo pos (starEach [] X.env)) (backToKw pos (keywordEach [] X.env))) := by rfl) :
    PE X (.Call (.Attribute o m apos) [] [] pos) (tMeth C m sp dvs E0 ta tNil) := by
  obtain ⟨f, fd, ds, F, me, vd, b⟩ := M.ex
  exact pe_meth0 (pl := pl) he c me F hr b vd pass0 ht
theorem pe_mkc (M : CMk X.prog X.w X.K X.mg X.base C k x ps dvs sp) (hr : Room (k + 1) X.A) (hg : Gl X x) (ha : PA X (e :: es) t)
    (hdb : (x == ("__debug__" : Str)) = false := by decide) (he : starEach (e :: es) X.env = (false, eval e X.env) :: starEach es X.env := by rfl) (hpl : (backTo pos (starEach es X.env)).any (·.1) = false := by rfl) :
    PE X (.Call (.Name x p) (e :: es) [] pos) (tMake C sp dvs E0 t) := by
  obtain ⟨f, fd, ds, F, mk, g, vd, b⟩ := M.ex
  exact pe_make mk F hr hg g b vd pass0 ha hdb he hpl
end
/-! ### o.m(e, .., k = v) -/
structure CMtK (P : Program) (w : World) (K : PySem.W.Frag) (mg : Str → Option Value) (base : Heap) (C : Addr) (k : Nat) (m : Str) (ps : List Str) (n : Nat) (ks : List Str) (gV : List V → List V → List V) (sp : Sp) : Prop where
  ex : ∃ (f : Addr) (fd : FuncData) (g : List Value → List Value → List Value), FnOk P w K mg base CX0 k f fd ps sp ∧ Meth K C m f ∧ KBn K fd ps n ks g gV
def tMethK (C : Addr) (m : Str) (n j : Nat) (sp : Sp) (gV : List V → List V → List V) (ta : TE) (t tk : TA) : TE := fun σ H Q => ta σ H fun x H1 => ∃ (a dx : Addr) (fs : List (Str × V)), x = .ref a ∧ H1 a = some (.ins C dx fs) ∧ fs.lookup m = none ∧
  t σ H1 fun vs H2 => tk σ H2 fun zs H3 => (x :: vs).length = n ∧ zs.length = j ∧ sp (gV (x :: vs) zs) H3 Q E0
theorem pe_mtK {X : Cx} {k n : Nat} {C : Addr} {m : Str} {ps ks : List Str} {sp : Sp} {gV : List V → List V → List V} {pos apos : Pos} {e o : Expr} {es : List Expr} {kws : List Keyword} {ta : TE} {t tk : TA} {pl : Sem Bool}
    (M : CMtK X.prog X.w X.K X.mg X.base C k m ps n ks gV sp) (c : Cls X.K C) (hr : Room k X.A) (he : PE X o ta) (ha : PA X (e :: es) t) (hkw : PK X kws tk)
    (hall : (backToKw pos (keywordEach kws X.env)).all (·.1.isSome) = true := by rfl) (hks : (backToKw pos (keywordEach kws X.env)).filterMap (·.1) = ks := by rfl)
    (hst : starEach (e :: es) X.env = (false, eval e X.env) :: starEach es X.env := by rfl)
    (hpl : ((backTo pos (starEach (e :: es) X.env)).any (·.1) || (backToKw pos (keywordEach kws X.env)).any (·.1.isNone)) = false := by rfl)
    (ht : eval (.Call (.Attribute o m apos) (e :: es) kws pos) X.env = (do
      let ov ← eval o X.env
      standAt apos.atName
      let (f, first) ← holding [ov] (getMethod ov m pl)
      callWith pos f first (backTo pos (starEach (e :: es) X.env)) (backToKw pos (keywordEach kws X.env))) := by rfl) :
    PE X (.Call (.Attribute o m apos) (e :: es) kws pos) (tMethK C m n ks.length sp gV ta t tk) := by
  obtain ⟨f, fd, g, F, me, b⟩ := M.ex
  constructor
  intro pins s σ H Q I h
  refine PySem.W.methodCall_KW (pl := pl) (thn (he.run pins s σ H _ I h) ?_) ht
  rintro u s1 ⟨x, H1, I1, rx, a, dx, fs, rfl, ea, l, q⟩
  cases (show u = Value.ref a from rx)
  refine getmeth_ok I1 ea c me l ?_
  refine PySem.W.callWith_KW (first := [.ref a]) (h₀ := X.base) I.ok.mod.kin me.kp hall (thn (ha.run pos pins s1 σ H1 _ I1 q) ?_) hpl hst
  rintro us s2 ⟨vs, H2, I2, r, q2⟩
  refine thn (hkw.run pos pins s2 σ H2 _ I2 q2) ?_
  rintro ws s3 ⟨zs, H3, I3, rz, l1, l2, q3⟩
  refine ⟨I3.kIn, ?_⟩
  rw [hks]
  exact run_fnN (us := .ref a :: us) (vs := .ref a :: vs) F hr b pass0 I3 (.cons rfl r) rz l1 l2 q3
theorem okD {P : Program} {w : World} {K : PySem.W.Frag} {mg : Str → Option Value} {base : Heap} {x qual : Str} {params : Arguments} {body : List Stmt} {scope : Scope} {dvs : List V} {kws : List (Str × V)} {f : Addr} {fd : FuncData} {N ps : List Str} {k : Nat} {sp : Sp}
    (F : FunD K x qual params body scope dvs kws f fd) (S : FnScope N ps scope) (len : ∀ vs H Q E, sp vs H Q E → vs.length = ps.length)
    (walk : ∀ (cdv : Value) (A : Around) (outer : List Env) (s : Shared) (H : Hp) (vs : List V) (Q : VK) (E : XK), Room k (A.deeper (envOfC qual scope s.heap.objs.size f cdv)) → sp vs H Q E →
      ∃ t, PSs (cxOf CX0 P w K mg base N qual scope f cdv A outer s H E).nox body t ∧ t { nx := fun _ H' => Q .non H', rt := Q } (start N vs) H) : FnOk P w K mg base CX0 (k + 1) f fd ps sp := by
  refine F.ok S len (fun cdv A outer s H vs Q E hr h => ?_)
  obtain ⟨t, ht, q⟩ := walk cdv A outer s H vs Q E hr h
  exact ⟨t, ht.nox, q⟩
/-! ### numbers in bounds, what is kept -/
def numIn : PyData → Int → Int → Bool
  | .int i, lo, hi => decide (lo ≤ i) && decide (i ≤ hi)
  | _, _, _ => false
def keptOk : PyData → PyData → Bool
  | .tuple ds, e => PyData.eqv (.int (ds.length : Int)) e && ds.all fun d => numIn d 0 100
  | d, _ => numIn d 0 100
def firstWrong (ws : List (Str × Bool)) : V := match ws.find? (fun p => !p.2) with
  | some p => .str p.1
  | none => .non
theorem firstWrong_at {ws : List (Str × Bool)} {i : Nat} {w : Str} (h : ∀ p ∈ ws.take i, p.2 = true) (hi : ws[i]? = some (w, false)) : firstWrong ws = .str w := by
  have hs : ws = ws.take i ++ (w, false) :: ws.drop (i + 1) := by
    obtain ⟨hl, he⟩ := List.getElem?_eq_some_iff.mp hi
    rw [← he, List.getElem_cons_drop, List.take_append_drop]
  unfold firstWrong
  rw [hs, List.find?_append, List.find?_eq_none.mpr (fun p hp => by rw [h p hp]; decide)]
  rfl
theorem firstWrong_none {ws : List (Str × Bool)} (h : ∀ p ∈ ws, p.2 = true) : firstWrong ws = .non := by
  unfold firstWrong
  rw [List.find?_eq_none.mpr (fun p hp => by rw [h p hp]; decide)]
theorem dpAll_len {K : PySem.W.Frag} {H : Hp} : ∀ {xs : List V} {ds : List PyData}, DpAll K H xs ds → xs.length = ds.length
  | _, _, .nil => rfl
  | _, _, .cons _ b => by rw [List.length_cons, List.length_cons, dpAll_len b]
theorem dpAll_get {K : PySem.W.Frag} {H : Hp} : ∀ {xs : List V} {ds : List PyData} {i : Nat} {x : V}, DpAll K H xs ds → xs[i]? = some x → ∃ d, ds[i]? = some d ∧ Dp K H x d
  | _, _, 0, _, .cons a _, h => ⟨_, rfl, by cases (Option.some.inj h); exact a⟩
  | _, _, i + 1, _, .cons _ b, h => dpAll_get (i := i) b h
  | _, _, _, _, .nil, h => by simp at h
/-! ### a block over an iterator of a known length; zip of two lists, of two tuples -/
theorem lc_gen {J : It} {n : Nat} {g : TG} {tt : TT} {te : TE} {vs : List Nat} {σ : L2.St} {H1 : Hp} {D : Addr} {Qd : Hp → Prop} (Pv : Nat → Hp → Prop) (first : Pv 0 (upd H1 D (.lst [])))
    (can : ∀ i H, Pv i H → (i < n → J.go i H) ∧ (i = n → J.stop i H))
    (turn : ∀ i H v H', i < n → Pv i H → J.yld i H v H' → g v (wipe σ vs) H' fun σ2 H2 => wipe σ2 vs = wipe σ vs ∧ tt σ2 H2 fun b H3 => if b = true then te σ2 H3 fun y H4 => ∃ acc, H4 D = some (.lst acc) ∧ acc.length < sizeLine ∧ Pv (i + 1) (upd H4 D (.lst (acc ++ [y]))) else Pv (i + 1) H3)
    (last : ∀ H, Pv n H → Qd H) :
    ∃ W : Nat → Nat → Hp → Prop, (∃ m, W 0 m (upd H1 D (.lst []))) ∧ ∀ i m H, W i m H → (J.stop i H ∧ Qd H) ∨ (J.go i H ∧ ∃ Nx : Hp → Prop, (∀ H', Nx H' → ∃ m', m' < m ∧ W (i + 1) m' H') ∧ ∀ x H', J.yld i H x H' → g x (wipe σ vs) H' fun σ2 H2 => wipe σ2 vs = wipe σ vs ∧ tt σ2 H2 fun b H3 => if b = true then te σ2 H3 fun y H4 => ∃ acc, H4 D = some (.lst acc) ∧ acc.length < sizeLine ∧ Nx (upd H4 D (.lst (acc ++ [y]))) else Nx H3) := by
  refine ⟨fun i m H => m + i = n ∧ Pv i H, ⟨n, by omega, first⟩, ?_⟩
  intro i m H hw
  obtain ⟨e, p⟩ := hw
  by_cases c : i < n
  · exact .inr ⟨(can i H p).1 c, Pv (i + 1), fun H' p' => ⟨n - (i + 1), by omega, by omega, p'⟩, fun v H' y => turn i H v H' c p y⟩
  · have z : i = n := by omega
    exact .inl ⟨(can i H p).2 z, last H (z ▸ p)⟩
section
variable {K : PySem.W.Frag} {a b : Addr} {xs ys : List V}
theorem canL {H : Hp} {i : Nat} (l : xs.length = ys.length) (x : SqL K H a xs) (y : SqL K H b ys) : (i < xs.length → (Itz K a b).go i H) ∧ (i = xs.length → (Itz K a b).stop i H) :=
  ⟨fun c => ⟨xs, ys, _, _, x, y, List.getElem?_eq_getElem c, List.getElem?_eq_getElem (l ▸ c)⟩, fun c => ⟨xs, ys, x, y, .inl (by omega)⟩⟩
theorem canT {H : Hp} {i : Nat} (l : xs.length = ys.length) (x : SqT K H a xs) (y : SqT K H b ys) : (i < xs.length → (RZ.ItzT K a b).go i H) ∧ (i = xs.length → (RZ.ItzT K a b).stop i H) :=
  ⟨fun c => ⟨xs, ys, _, _, x, y, List.getElem?_eq_getElem c, List.getElem?_eq_getElem (l ▸ c)⟩, fun c => ⟨xs, ys, x, y, .inl (by omega)⟩⟩
end
/-! ### data of short lists -/
mutual
def thin : PyData → Bool
  | .list xs => decide (xs.length ≤ 1000) && thinAll xs
  | .tuple xs => decide (xs.length ≤ 1000) && thinAll xs
  | _ => true
def thinAll : List PyData → Bool
  | [] => true
  | x :: r => thin x && thinAll r
end
theorem thin_at {d : PyData} : ∀ {ds : List PyData} {i : Nat}, thinAll ds = true → ds[i]? = some d → thin d = true
  | e :: r, 0, h, he => by
    cases he
    simp only [thinAll, Bool.and_eq_true] at h
    exact h.1
  | e :: r, i + 1, h, he => by
    simp only [thinAll, Bool.and_eq_true] at h
    exact thin_at (i := i) h.2 he
theorem depth_at {d : PyData} : ∀ {ds : List PyData} {i : Nat}, ds[i]? = some d → PyData.depth d ≤ PyData.depthAll ds
  | e :: r, 0, he => by
    cases he
    simp only [PyData.depthAll]
    omega
  | e :: r, i + 1, he => by
    have := depth_at (i := i) (ds := r) he
    simp only [PyData.depthAll]
    omega
theorem kitLT {K : PySem.W.Frag} (d : PyData) : PySem.W.kitAny K (.type (tyD d)) [.type "list", .type "tuple"] = some (isK "list" d || isK "tuple" d) := by
  unfold PySem.W.kitAny
  rw [kit_d (by decide)]
  cases isK "list" d with
  | true => rfl
  | false =>
    unfold PySem.W.kitAny
    rw [kit_d (by decide)]
    cases isK "tuple" d <;> rfl
theorem qY {c : Prop} [Decidable c] {Q : VK} {H : Hp} (hc : c) (q : Q (.bl true) H) : Q (.bl (decide c)) H := by
  rw [decide_eq_true hc]
  exact q
theorem rep_snoc (i : Nat) : (List.replicate i true).map V.bl ++ [V.bl true] = (List.replicate (i + 1) true).map V.bl := by
  rw [List.map_replicate, List.map_replicate, List.replicate_succ']
/-! ### len of an instance by its class's own def; a walk over a list or a tuple -/
theorem call_lenO {X : Cx} {C : Addr} {k : Nat} {sp : Sp} (M : CMt X.prog X.w X.K X.mg X.base C k "__len__" ["self"] [] sp) (hr : Room (k + 1) X.A) :
    CallR X (.builtin "len") (fun xs H Q => ∃ (r dx : Addr) (fs : List (Str × V)), xs = [.ref r] ∧ H r = some (.ins C dx fs) ∧ sp [.ref r] H (fun v H' => ∃ n : Int, v = .int n ∧ 0 ≤ n ∧ n < 1000000 ∧ Q (.int n) H') E0) := by
  intro pins s σ H xs us Q I rv h
  obtain ⟨r, dx, fs, rfl, ea, h⟩ := h
  obtain ⟨f, fd, ds, F, me, vd, hb⟩ := M.ex
  cases vd
  cases rv with
  | cons e rr =>
    cases rr
    cases e
    obtain ⟨mA, O, _⟩ := ins_get I.hok ea
    obtain ⟨od, J, _⟩ := O.look
    refine Calls.call_function_entry kind_len plain_len entry_len (args_len1 _) ?_
    unfold Builtin.«len»
    refine wpAny_bind (wpAny_pure ?_)
    refine wpAny_bind (PySem.W.special_fn (args := []) I.kIn J me.at_ (beq_iff_eq.mp me.fn) ?_)
    have hl : ([Value.ref r] ++ ([] : List Value)).length = (["self"] : List Str).length := rfl
    refine wpAny_call (codeAny_mono (F.run X.A.in1 X.stack s H ⟨[.ref r], []⟩ [.ref r] [.ref r] _ _ hr.in1 I.env0.in1 (hb s [.ref r] I.kIn hl) (.cons rfl .nil) h) fun x s' hq => ?_)
    cases x with
    | error e => exact pass0 pins σ H s e s' I hq
    | ok fl =>
      cases fl with
      | ret u =>
        obtain ⟨v, H', I', rv, n, rfl, n0, n1, q⟩ := I.after hq
        obtain ⟨t, rfl⟩ := rv
        refine wpAny_bind (wpAny_holding (wpAny_pure ?_))
        refine wpAny_bind (wpAny_letGo ?_)
        show wpAny _ _ (if n < 0 then _ else _) _ _ _
        rw [if_neg (by omega)]
        show wpAny _ _ (if n ≥ 2 ^ 63 then _ else _) _ _ _
        rw [if_neg (by omega)]
        exact wpAny_bind (wpAny_mkInt (wpAny_pure ⟨_, rfl, .int n, H', I'.tok _, ⟨_, rfl⟩, q⟩))
      | next => exact False.elim hq
      | brk => exact False.elim hq
      | cont => exact False.elim hq
theorem pi_or {X : Cx} {tg e : Expr} {w1 w2 : TI} (h : PI X tg e w1) (h' : PI X tg e w2) : PI X tg e (fun σ H R => w1 σ H R ∨ w2 σ H R) :=
  ⟨fun pins s σ H R I q => q.elim (h.run pins s σ H R I) (h'.run pins s σ H R I)⟩
/-! ### sets of numbers: in rising order, of a list, by a block -/
section
variable {P : Program} {w : World} {A : Around} {E : Value → Shared → Prop} {s : Shared}
theorem rise_set {a : Addr} {S : Int → Bool} {n : Nat} {Q : Value → Shared → Prop} (there : SetR w s.heap a S n) (free : A.handled = none)
    (then_ : ∀ (s' : Shared) (p : Addr) (out : Array Value) (c : Nat) (ns : List Int), (∀ b o, s.heap.get? b = some o → s'.heap.get? b = some o) → s'.gens = s.gens → s'.os = s.os → s.heap.objs.size ≤ p →
      s'.heap.get? p = some (seqObj "list" out c) → IntsAre out.toList ns → ns.Pairwise (· < ·) → (∀ k, k ∈ ns ↔ S k = true) → ns.length = n → n < scanBound → Q (.ref p) s') :
    wpAny (model P w) A (call (.builtin "sorted") [.ref a]) Q E s := by
  obtain ⟨ob, es, ep, tb, hob, hex, hdat, good, nodup, mem, small, fits, size, ris, led⟩ := there
  have big : n ≤ sizeLine := by rw [← size]; exact fits_of_scanBound small
  refine Calls.call_function_entry kind_sorted plain_sorted entry_sorted (args_sorted1 _) ?_
  unfold Builtin.«sorted»
  refine wpAny_bind (m := checkCount "sorted" 1 1 _) (wpAny_pure (wpAny_bind (collect_set (A := A.in1) free ⟨ob, hob, hex.1, hdat⟩ fits small ris led fun s1 vs k1 z1 g1 o1 pm => ?_)))
  have many : vs.length = n := by rw [pm.length_eq, List.length_map, Array.length_toList, size]
  have nums : IntsAre vs (vs.map Builtin.Re.reRawOf) := ints_of vs fun v hv => by
    obtain ⟨e, he, ev⟩ := List.mem_map.mp (pm.mem_iff.mp hv)
    obtain ⟨k, tk, ek, _⟩ := good e he
    exact ⟨k, tk, ev.symm.trans ek⟩
  have same : (vs.map Builtin.Re.reRawOf).Perm (es.toList.map keyOf) := by
    have := pm.map Builtin.Re.reRawOf
    rw [List.map_map] at this
    exact this
  refine wpAny_bind (wpAny_newList ?_ (by rw [many]; exact big))
  have laid : (s1.heap.push (seqObj "list" vs.toArray 0)).get? s1.heap.objs.size = some (seqObj "list" vs.toArray 0) := Heap.get?_push_size _ rfl
  refine wpAny_bind (wpAny_holding (wpAny_call_entry slot_list_sort ⟨_, laid, rfl⟩ entry_list_sort (list_sort_treeAny laid nums (by rw [many]; exact big) fun out ns' x1 x2 x3 => ⟨_, rfl, ?_⟩) (args_list_sort _)))
  obtain ⟨c, hc⟩ := sortedHeap_at (vs := vs) (out := out) laid
  have pn := x2.trans same
  refine wpAny_pure ⟨_, rfl, then_ _ s1.heap.objs.size out c ns' (fun b u e => ?_) g1 o1 z1 hc x1 (lt_of_le_nodup ns' x3 (pn.nodup_iff.mpr nodup)) (fun k => by rw [pn.mem_iff, mem k]) (by rw [pn.length_eq, List.length_map, Array.length_toList, size]) (by rw [← size]; exact small)⟩
  have old := k1 b u e
  have below := Heap.lt_size old
  show (sortedHeap (s1.heap.push (seqObj "list" vs.toArray 0)) s1.heap.objs.size vs out).get? b = some u
  rw [sortedHeap_old (Nat.ne_of_lt below) (by rw [size_push']; exact Nat.lt_succ_of_lt below)]
  exact Heap.get?_push_of_some _ old
end
section
variable {X : Cx}
def rSortedSN (w : World) : List V → Hp → VK → Prop := fun vs H Q => ∃ (a : Addr) (S : Int → Bool) (n : Nat), vs = [V.ref a] ∧ H a = some (SetO w a S n) ∧
  ∀ (ns : List Int) (p : Addr), ns.Pairwise (· < ·) → (∀ k : Int, k ∈ ns ↔ S k = true) → ns.length = n → H p = none → Q (.ref p) (upd H p (.lst (ns.map V.int)))
theorem cr_sortedSN (calm : X.calm = true) : CallR X (.builtin "sorted") (rSortedSN X.w) := fun pins s σ H vs us Q I r h => by
  obtain ⟨a, S, n, rfl, ha, q⟩ := h
  rw [Vals.ref1 r]
  refine rise_set (setO_get I ha) (I.ok.hd calm) fun s' p out c ns k g o hp hg hi hs hm hl hsm => ?_
  have fit : (ns.map V.int).length ≤ sizeLine := by rw [List.length_map, hl]; exact fits_of_scanBound hsm
  have new : H p = none := I.hok.fresh hp
  have J : Inv X pins σ (upd H p (.lst (ns.map V.int))) { s with heap := s'.heap, gens := s'.gens, drawn := s'.drawn, toks := s'.toks } :=
    I.call (ch := []) (Un.laid k hp new) (I.hok.laid k hp ⟨fit, out.toList, c, vals_of_ints hi, hg⟩) (by rw [g]; exact I.bare) (fun _ z => nomatch z)
  have whole : s' = { s with heap := s'.heap, gens := s'.gens, drawn := s'.drawn, toks := s'.toks } := by
    cases s'
    cases s
    cases o
    rfl
  rw [whole]
  exact ⟨.ref p, _, J, rfl, q ns p hs hm hl new⟩
/-- one number more -/
theorem add_num {pins : List (Addr × Obj)} {σ : L2.St} {H : Hp} {s : Shared} {E : Value → Shared → Prop} {D : Addr} {S : Int → Bool} {n : Nat} {y : Int} {tk : Tok} {Q : Value → Shared → Prop} (I : Inv X pins σ H s) (hD : H D = some (SetO X.w D S n)) (room : n + 1 < scanBound)
    (h : ∀ s', Inv X pins σ (upd H D (SetO X.w D (fun j => S j || decide (j = y)) (if S y = true then n else n + 1))) s' → Q .none s') : wpAny (model X.prog X.w) X.A (call (.builtin "set.add") [.ref D, .int y tk]) Q E s := by
  refine setR_add (setO_get I hD) room fun h' but new => h _ ?_
  obtain ⟨o, es, ep, tb, ho, rest⟩ := id new
  exact I.write (e := D) (t' := s.toks + 1) (by rw [hD]; trivial) (.inl rfl) (fun b u hb hu => (but.2 b hb).trans hu) ⟨o, ho⟩ (setO_new new)
/-- {elt for target in iter if ..}, elt a number; D the new set -/
def tScI (w : World) (wi : TI) (g : TG) (tt : TT) (te : TE) (vs : List Nat) : TE := fun σ H Q => wi σ H fun J G => ∀ D, G D = none → ∃ W : Nat → Nat → Hp → Prop, (∃ m, W 0 m (upd G D (SetO w D (fun _ => false) 0))) ∧ ∀ i m H, W i m H →
  (J.stop i H ∧ Q (.ref D) H) ∨ (J.go i H ∧ ∃ Nx : Hp → Prop, (∀ H', Nx H' → ∃ m', m' < m ∧ W (i + 1) m' H') ∧ ∀ x H', J.yld i H x H' → g x (wipe σ vs) H' fun σ2 H2 => wipe σ2 vs = wipe σ vs ∧ tt σ2 H2 fun b H3 =>
    if b = true then te σ2 H3 fun y H4 => ∃ (c : Int) (S : Int → Bool) (n : Nat), y = .int c ∧ H4 D = some (SetO w D S n) ∧ n + 1 < scanBound ∧ Nx (upd H4 D (SetO w D (fun j => S j || decide (j = c)) (if S c = true then n else n + 1))) else Nx H3)
abbrev emptyS (w : World) : Obj := { cls := .type "set", dict := none, data := .set #[] 0 (.fresh 0 0 (!w.params.followText "set-order")) }
theorem pe_scI {elt tg iter : Expr} {ifs : List Expr} {scope : Scope} {own : List (PySem.Str × Nat)} {pos : Pos} {wi : TI} {g : TG} {tt : TT} {te : TE} (calm : X.calm = true) (nd : X.N.Nodup) (walk : PI X tg iter wi) (ok : BlkOk X.N X.env.scope scope own)
    (hg : ∀ (s : Shared) (H : Hp) (C : Addr) (cl : List (PySem.Str × Addr)) (fp : List Addr), PG (X.blk s H scope (compEnvC scope cl C X.env) fp) tg g)
    (ht : ∀ (s : Shared) (H : Hp) (C : Addr) (cl : List (PySem.Str × Addr)) (fp : List Addr), PTs (X.blk s H scope (compEnvC scope cl C X.env) fp) ifs tt)
    (he : ∀ (s : Shared) (H : Hp) (C : Addr) (cl : List (PySem.Str × Addr)) (fp : List Addr), PE (X.blk s H scope (compEnvC scope cl C X.env) fp) elt te)
    (fold : ∀ x, foldedSetIterable iter X.env x = pure x := by intro _; rfl) :
    PE X (.SetComp elt [⟨tg, iter, ifs, 0⟩] scope pos) (tScI X.w wi g tt te (own.map (·.2))) := by
  refine ⟨fun pins s σ H Q I h => ?_⟩
  rw [PpSet.eval_SetComp]
  have captured : ∀ y ∈ scope.names, y.2 = .free → ∃ c, X.env.cells.lookup y.1 = some c := fun y hy e => (ok.free y hy e).elim (fun k => I.ok.has _ (.inl k)) (fun k => I.ok.has _ (.inr k))
  refine wpAny_comprehension_free (use := none) rfl fold (closure_ok captured) ok.kind (fun y hy e => by rw [ok.uniq y hy, e]) (thn (walk.run pins s σ H _ I h) fun xv s1 hx => thn hx fun itv s2 h2 => ?_)
  obtain ⟨it, fp, tn, J, H2, rfl, I2, T, st2, f2, q⟩ := h2
  refine PpSet.newSet_ok (newEnv_comp ?_)
  generalize atD : s2.heap.objs.size = D
  have freshD : H2 D = none := I2.hok.fresh (Nat.le_of_eq atD)
  obtain ⟨W, ⟨m0, w0⟩, turn⟩ := q D freshD
  generalize at3 : ({ s2 with heap := s2.heap.push (emptyS X.w) } : Shared) = s3
  have heap3 : s3.heap = s2.heap.push (emptyS X.w) := by rw [← at3]
  have I3 : Inv X pins σ (upd H2 D (SetO X.w D (fun _ => false) 0)) s3 := by
    rw [← at3]
    refine I2.laid (t' := s2.toks) (fun b o e => Heap.get?_push_of_some _ e) (Nat.le_of_eq atD) (setO_new ?_)
    rw [← atD]
    exact setR_fresh X.w
  have low : ∀ b ∈ fp, b < s2.heap.objs.size := fun b hb => by
    obtain ⟨o, e, _⟩ := T.obj _ _ st2 b hb
    exact Heap.lt_size e
  have f3 : ∀ b ∈ fp, FpOk X pins (upd H2 D (SetO X.w D (fun _ => false) 0)) b ∧ b < s3.heap.objs.size := fun b hb => by
    have lt := low b hb
    refine ⟨⟨?_, (f2 b hb).2⟩, by rw [heap3, Heap.size_push]; exact Nat.lt_succ_of_lt lt⟩
    rw [upd_ne (by rw [← atD]; exact Nat.ne_of_lt lt)]
    exact (f2 b hb).1
  have st3 : tn 0 s3.heap := T.keep _ _ _ st2 fun b _ o e => by rw [heap3]; exact Heap.get?_push_of_some _ e
  have I4 := block_start I3 ok nd f3
  generalize cells : cellsFrom (s3.heap.objs.size + 1) scope.names (cloFrom X.env.cells scope.names []) = cl at I4 ⊢
  have pg := hg s3 (upd H2 D (SetO X.w D (fun _ => false) 0)) s3.heap.objs.size cl fp
  have pt := ht s3 (upd H2 D (SetO X.w D (fun _ => false) 0)) s3.heap.objs.size cl fp
  have pe := he s3 (upd H2 D (SetO X.w D (fun _ => false) 0)) s3.heap.objs.size cl fp
  have none3 : ∀ b ∈ fp, (upd H2 D (SetO X.w D (fun _ => false) 0)) b = none := fun b hb => (f3 b hb).1.1
  show codeAny _ _ (.compStart (.SetComp elt [⟨tg, iter, ifs, 0⟩] scope pos) 0 (.ref it) (.ref D) (compEnvC scope cl s3.heap.objs.size X.env)) (compPost (model X.prog X.w) X.A X.xe none _ (.ref D) s3.heap.objs.size) { s3 with heap := pushCells (s3.heap.push { cls := .type "dict", data := .dict #[] }) scope.names }
  generalize inner : compEnvC scope cl s3.heap.objs.size X.env = ce at I4 pg pt pe ⊢
  have cL : ce.locals = s3.heap.objs.size := by rw [← inner]; rfl
  generalize upd H2 D (SetO X.w D (fun _ => false) 0) = H3 at I3 I4 pg pt pe w0 none3 f3
  generalize at4 : ({ s3 with heap := pushCells (s3.heap.push { cls := .type "dict", data := .dict #[] }) scope.names } : Shared) = s4 at I4 ⊢
  have st4 : tn 0 s4.heap := T.keep _ _ _ st3 fun b _ o e => by rw [← at4]; exact pushCells_keeps _ _ _ _ (Heap.get?_push_of_some _ e)
  have still : ∀ {σ' : L2.St} {H' : Hp} {s' : Shared}, Inv (X.blk s3 H3 scope ce fp) [] σ' H' s' → (∀ b ∈ fp, H' b = none) → ∀ b ∈ fp, FpOk (X.blk s3 H3 scope ce fp) [] H' b := fun {σ' H' s'} I' hn b hb =>
    ⟨hn b hb, (I'.ok.exf b hb).1, I'.ok.exfs b hb, .inl hb, fun x c e => (I'.ok.exf b hb).2 x c e, fun p hp => absurd (show p ∈ ([] : List (Addr × Obj)) ++ [] from hp) (by simp)⟩
  have loop : codeAny (model X.prog X.w) X.A (.compLoop (.SetComp elt [⟨tg, iter, ifs, 0⟩] scope pos) 0 (.ref it) (.ref D) ce) (compPost (model X.prog X.w) X.A X.xe none (fun u s' => ∃ v H', Inv X pins σ H' s' ∧ RelV v u ∧ Q v H') (.ref D) s3.heap.objs.size) s4 := by
    refine PpSet.compLoopS_any (fun n s' => ∃ i H', Inv (X.blk s3 H3 scope ce fp) [] (wipe σ (own.map (·.2))) H' s' ∧ tn i s'.heap ∧ (∀ b ∈ fp, H' b = none) ∧ W i n H') (fun n s5 now => ?_) m0 ⟨0, H3, I4, st4, none3, w0⟩
    obtain ⟨i, H5, I5, st5, n5, w5⟩ := now
    rcases turn i n H5 w5 with ⟨stop, fin⟩ | ⟨go, Nx, less, step⟩
    · refine thnF (T.done (X.blk s3 H3 scope ce fp) rfl rfl rfl calm i [] s5 _ H5 (fun _ _ => False) I5 (still I5 n5) st5 stop) fun r s6 ⟨er, I6⟩ => ?_
      subst er
      have I7 : Inv X pins σ H5 s6 := I3.call' (ch := fp) I6.os I6.base I6.hok I6.bare fun b hb => ⟨(f3 b hb).1.2.2.2.1, (f3 b hb).1.2.1, (f3 b hb).1.2.2.2.2.1, (f3 b hb).1.2.2.2.2.2⟩
      have gone : H5 s3.heap.objs.size = none := by
        have z : H5 ce.locals = none := I6.free
        rwa [cL] at z
      obtain ⟨m, hn, _⟩ := I6.loc
      have hn : s6.heap.Ns ce.locals m := hn
      rw [cL] at hn
      obtain ⟨f0, f1, f2', f3', f4, f5⟩ := I3.fpOk (Nat.le_refl _) gone
      exact ⟨m, hn, fun h'' sb => ⟨.ref D, H5, I7.turned (t' := s6.toks) (fun b o hb e => (sb.2 b hb).trans e) f0 f1 f3' f4 f5, rfl, fin⟩⟩
    · refine thnF (T.item (X.blk s3 H3 scope ce fp) rfl rfl rfl calm i [] s5 _ H5 (fun _ _ => False) I5 (still I5 n5) st5 go) fun r s6 ⟨u, er, h6⟩ => ?_
      subst er
      refine thnF h6 fun _ s7 ⟨x, H7, I7, r7, y7, st7, n7⟩ => ?_
      refine thnF (pg.run _ s7 _ H7 x u _ (I7.pinned (still I7 n7) (T.obj _ _ st7)) r7 (step x H7 y7)) fun _ s8 ⟨σ8, H8, I8, hw8, q8⟩ => ?_
      refine thnF (pt.run _ s8 σ8 H8 _ I8 q8) fun b s9 ⟨H9, I9, q9⟩ => ?_
      have close : ∀ {s' : Shared} {H' : Hp}, Inv (X.blk s3 H3 scope ce fp) ([] ++ pinsAt fp s7.heap) σ8 H' s' → Nx H' → ∃ m, m < n ∧ ∃ i H', Inv (X.blk s3 H3 scope ce fp) [] (wipe σ (own.map (·.2))) H' s' ∧ tn i s'.heap ∧ (∀ b ∈ fp, H' b = none) ∧ W i m H' := fun {s' H'} I' nx => by
        obtain ⟨m', lt, w'⟩ := less H' nx
        have pinned : ∀ b ∈ fp, ∀ o, s7.heap.get? b = some o → s'.heap.get? b = some o ∧ H' b = none := fun b hb o e =>
          let z := I'.pin (b, o) (List.mem_append_right _ (List.mem_append_right _ (mem_pinsAt hb e)))
          ⟨z.1, z.2.1⟩
        refine ⟨m', lt, i + 1, H', (I'.unpinned (pins := [])).weak (by rw [← hw8, wipe_length]) (fun j v e => ?_), T.keep _ _ _ st7 fun b hb o e => (pinned b hb o e).1, fun b hb => ?_, w'⟩
        · rw [← hw8] at e
          exact (wipe_some e).1
        · obtain ⟨o, e, _⟩ := T.obj _ _ st7 b hb
          exact (pinned b hb o e).2
      cases b with
      | false =>
        simp only [Bool.false_eq_true, if_false] at q9 ⊢
        exact close I9 q9
      | true =>
        simp only [if_true] at q9 ⊢
        refine thnF (pe.run _ s9 σ8 H9 _ I9 q9) fun z s10 ⟨yv, H10, I10, r10, c, S0, n0, ey, hD10, hz10, nx⟩ => ?_
        subst ey
        obtain ⟨tk, rfl⟩ := r10
        exact add_num (X := X.blk s3 H3 scope ce fp) I10 hD10 hz10 fun s11 I11 => close I11 nx
  exact PpSet.codeAny_compStart_set loop (T.self X.A 0 _ _ _ st4 loop)
end
/-! set(xs), xs a list of numbers -/
section
variable {P : Program} {w : World} {A : Around} {E : Value → Shared → Prop} {s : Shared}
set_option maxHeartbeats 6000000 in
theorem set_of_list {l : Addr} {items : Array Value} {ns : List Int} {Q : Value → Shared → Prop} (free : A.handled = none) (list : s.heap.IsList l items) (nums : IntsAre items.toList ns) (room : ns.length + 1 < scanBound)
    (then_ : ∀ (h' : Heap) (tk c : Nat), SetR w h' s.heap.objs.size (fun j => decide (j ∈ ns)) c → c ≤ ns.length → (∀ b o, s.heap.get? b = some o → h'.get? b = some o) → Q (.ref s.heap.objs.size) { s with heap := h', toks := tk }) :
    wpAny (model P w) A (call (.type "set") [.ref l]) Q E s := by
  have many : items.size = ns.length := by
    have := IntsAre.length nums
    rwa [Array.length_toList] at this
  obtain ⟨first, rest, mro⟩ := F.called_set.mro
  have made := F.called_set.made
  have sub := F.called_set.sub
  have notT := F.called_set.notType
  have can := F.called_set.canCreate
  have one := F.typeCall_set_1 (.ref l)
  refine wpAny_call (codeAny_of_tree ?_)
  show wpAny _ _ (callAny (.type "set") _) _ _ _
  refine wpAny_pure ⟨Code.quiet_builtin _ (by decide +kernel), codeAny_builtin F.entry_type_call ?_⟩
  rw [Around.under_plain (weight_type_call_type "set" [.ref l] []) rfl]
  repeat (any_goals (first | assumption | wp_step))
  refine codeAny_mono (code_set_led1 (.ref l) (E := E) (Q₁ := fun v s1 => v = .ref s.heap.objs.size ∧ s1 = { s with heap := s.heap.push (emptyS w) }) ⟨rfl, rfl⟩) fun r s1 hr => ?_
  match r, hr with
  | .error e, hr => exact hr
  | .ok (.ret _), ⟨e1, e2⟩ =>
    subst e1 e2
    have stands : (s.heap.push (emptyS w)).get? s.heap.objs.size = some (emptyS w) := Heap.get?_push_size _ rfl
    have typed : Shared.TypeIs { s with heap := s.heap.push (emptyS w) } (.ref s.heap.objs.size) "set" := ⟨_, stands, rfl⟩
    have look := F.called_set.init.lookup
    have bound := F.called_set.init.bind (.ref s.heap.objs.size)
    repeat (any_goals (first | assumption | wp_step))
    refine codeAny_mono (codeAny_call_builtin (R := wants (fun r s2 => r = .none ∧ ∃ h' tk c, s2 = { s with heap := h', toks := tk } ∧ SetR w h' s.heap.objs.size (fun j => decide (j ∈ ns)) c ∧ c ≤ ns.length ∧ (∀ b o, s.heap.get? b = some o → h'.get? b = some o)) E) F.called_set.init.plain F.entry_set_init (check_set_init_1 typed ?_)) fun r2 s2 hr2 => ?_
    · obtain ⟨⟨cl, dc, dt, sl⟩, at_, ecl, nl, edt⟩ := list
      simp only at ecl edt
      subst ecl edt
      have at2 : (s.heap.push (emptyS w)).get? l = some { cls := .type "list", dict := dc, data := .seq items nl, slots := sl } := Heap.get?_push_of_some _ at_
      have n1 := F.sub_list_set
      have n2 := F.sub_list_frozenset
      have n3 : (Value.type "list" == Value.type "dict") = false := by decide
      have list2 : (s.heap.push (emptyS w)).IsList l items := ⟨_, at2, rfl, nl, rfl⟩
      unfold Builtin.«set.__init__» noKeywords Builtin.Frozenset.updateFrom
      generalize iterAs : pyIter = PI
      wp_walk
      subst iterAs
      refine wpAny_pyIter_list list2 (wpAny_bind (wpAny_runValue ?_))
      have ll : l < s.heap.objs.size := Heap.lt_size at_
      have sz : (s.heap.push (emptyS w)).objs.size = s.heap.objs.size + 1 := Heap.size_push ..
      have free3 : A.in1.in1.in1.handled = none := by simp [free]
      have unlike : l ≠ (s.heap.push (emptyS w)).objs.size := by rw [sz]; exact Nat.ne_of_lt (Nat.lt_succ_of_lt ll)
      have out : s.heap.objs.size ∉ [(s.heap.push (emptyS w)).objs.size, l] := by
        rw [sz]
        simp only [List.mem_cons, List.mem_singleton, List.not_mem_nil, or_false, not_or]
        exact ⟨Nat.ne_of_lt (Nat.lt_succ_self _), Nat.ne_of_gt ll⟩
      have vals : ∀ (i : Nat) (v : Value), items[i]? = some v → ∃ k t, ns[i]? = some k ∧ v = .int k t := fun i v hv => by
        have hi : i < ns.length := by rw [← many]; exact (Array.getElem?_eq_some_iff.mp hv).1
        obtain ⟨t, e⟩ := PyProof.Rows.IntsAre.int_at nums i v (by rw [Array.getElem?_toList]; exact hv)
        exact ⟨ns[i], t, List.getElem?_eq_getElem hi, by rw [e, List.getD_eq_getElem?_getD, List.getElem?_eq_getElem hi] <;> rfl⟩
      refine set_update_ints ((Walks.list free3 _ l unlike items).toS) s.heap.objs.size out ns many room vals (items.size - 0) 0 _ (by omega) (Nat.zero_le _) ⟨⟨_, Heap.get?_push_size _ rfl, rfl, rfl⟩, (list2.push _)⟩ ⟨0, Nat.le_refl 0, setR_new_at (Heap.get?_push_of_some _ stands)⟩ fun s' c' mv hc' hS' => ?_
      obtain ⟨h', g2, d', tk', os'⟩ := s'
      have eg : g2 = s.gens := mv.gens
      have ed : d' = s.drawn := mv.drawn
      have eo : os' = s.os := mv.os
      subst eg ed eo
      show wpAny _ _ _ _ _ _
      refine wpAny_pure ?_
      show wpAny _ _ (ret Value.none) _ _ _
      rw [many] at hc'
      refine wpAny_pure ⟨rfl, h', tk', c', rfl, hS', hc', fun b o e => ?_⟩
      have below : b < s.heap.objs.size := Heap.lt_size e
      refine mv.heap b o ?_ (Heap.get?_push_of_some _ (Heap.get?_push_of_some _ e))
      simp only [List.mem_cons, List.mem_singleton, List.not_mem_nil, or_false, not_or]
      exact ⟨Nat.ne_of_lt below, by rw [sz]; exact Nat.ne_of_lt (Nat.lt_succ_of_lt below)⟩
    · match r2, hr2 with
      | .error e, hr2 => exact hr2
      | .ok (.ret _), ⟨e1, h', tk, c', e2, hS', hc', hk'⟩ =>
        subst e1 e2
        repeat (any_goals (first | assumption | wp_step))
        exact then_ _ _ _ hS' hc' hk'
end
section
variable {X : Cx}
def rSetI (K : PySem.W.Frag) (w : World) : List V → Hp → VK → Prop := fun xs H Q => ∃ (l : Addr) (ns : List Int), xs = [.ref l] ∧ SqL K H l (ns.map V.int) ∧ ns.length < 4000 ∧ ∀ p c, H p = none → c ≤ ns.length → Q (.ref p) (upd H p (SetO w p (fun j => decide (j ∈ ns)) c))
theorem cr_setI (calm : X.calm = true) : CallR X (.type "set") (rSetI X.K X.w) := fun pins s σ H xs us Q I r h => by
  obtain ⟨l, ns, rfl, hs, small, q⟩ := h
  rw [Vals.ref1 r]
  obtain ⟨its, rv, hl, _⟩ := I.list hs
  refine set_of_list (I.ok.hd calm) hl.isList (ints_of_vals rv) (by unfold scanBound; omega) fun h' tk c new hc keep => ?_
  exact ⟨.ref _, upd H s.heap.objs.size (SetO X.w s.heap.objs.size (fun j => decide (j ∈ ns)) c), I.laid (t' := tk) keep (Nat.le_refl _) (setO_new new), rfl, q _ c (I.hok.fresh (Nat.le_refl _)) hc⟩
theorem kk_sortedSN (w : World) (calm : X.calm = true) (h : X.w = w := by rfl) : CallR X (.builtin "sorted") (rSortedSN w) := h ▸ cr_sortedSN calm
theorem kk_setI (K : PySem.W.Frag) (w : World) (calm : X.calm = true) (h1 : X.K = K := by rfl) (h2 : X.w = w := by rfl) : CallR X (.type "set") (rSetI K w) := by
  subst h1 h2
  exact cr_setI calm
end
/-! ### lists of tuples: the addresses beside what stands there -/
abbrev refs {α : Type} (L : List (Addr × α)) : List V := L.map fun q => V.ref q.1
def RowsAt {α : Type} (f : α → List V) (H : Hp) (L : List (Addr × α)) : Prop := ∀ q ∈ L, H q.1 = some (.tup (f q.2))
section
variable {α : Type} {f : α → List V} {H H' : Hp} {L M : List (Addr × α)} {K : PySem.W.Frag}
theorem RowsAt.same (h : RowsAt f H L) (e : Same H H') : RowsAt f H' L := fun q hq => e _ _ (h q hq)
theorem RowsAt.sub (h : RowsAt f H L) (e : ∀ q ∈ M, q ∈ L) : RowsAt f H M := fun q hq => h q (e q hq)
theorem RowsAt.but {b : Addr} {xs : List V} (h : RowsAt f H L) (hb : H b = some (.lst xs)) (t : But b H H') : RowsAt f H' L := fun q hq => t _ _ (ne_of (h q hq) hb (by intro z; cases z)) (h q hq)
theorem RowsAt.updL {D : Addr} {xs : List V} {o : HO} (h : RowsAt f H L) (hD : H D = some (.lst xs)) : RowsAt f (upd H D o) L := fun q hq => by
  rw [upd_ne (ne_of (h q hq) hD (by intro z; cases z))]
  exact h q hq
theorem RowsAt.snoc {q : Addr × α} (h : RowsAt f H L) (hq : H q.1 = some (.tup (f q.2))) : RowsAt f H (L ++ [q]) := fun x hx => by
  rcases List.mem_append.mp hx with y | y
  · exact h x y
  · rw [List.mem_singleton.mp y]
    exact hq
theorem RowsAt.nil : RowsAt f H ([] : List (Addr × α)) := fun _ h => (nomatch h)
theorem refs_at {i : Nat} {x : V} (h : (refs L)[i]? = some x) : ∃ q, L[i]? = some q ∧ x = .ref q.1 ∧ q ∈ L := by
  rw [List.getElem?_map] at h
  obtain ⟨q, hq, rfl⟩ := Option.map_eq_some_iff.mp h
  exact ⟨q, hq, rfl, List.mem_of_getElem? hq⟩
end
theorem refs_snoc {α : Type} (S : List (Addr × α)) (q : Addr × α) : refs (S ++ [q]) = refs S ++ [V.ref q.1] := by
  unfold refs
  rw [List.map_append]
  rfl
/-! what walks a list or a tuple that stands still -/
def JOk (H : Hp) (J : It) (xs : List V) : Prop := ∀ i G, Same H G → (i < xs.length → J.go i G) ∧ (i = xs.length → J.stop i G) ∧ ∀ x G', J.yld i G x G' → G' = G ∧ xs[i]? = some x
section
variable {K : PySem.W.Frag} {H : Hp} {a : Addr} {xs : List V}
theorem jok_l (h : SqL K H a xs) : JOk H (Itl K a) xs := fun i G s => by
  have q := s.seq h
  exact ⟨fun c => ⟨xs, _, q, List.getElem?_eq_getElem c⟩, fun c => ⟨xs, q, by omega⟩, fun x G' y => ⟨y.1, y.2 xs q⟩⟩
theorem jok_t (h : SqT K H a xs) : JOk H (Itt K a) xs := fun i G s => by
  have q := seqT_same s h
  exact ⟨fun c => ⟨xs, _, q, List.getElem?_eq_getElem c⟩, fun c => ⟨xs, q, by omega⟩, fun x G' y => ⟨y.1, y.2 xs q⟩⟩
theorem walk_or {σ : L2.St} {j : Nat} {R : It → Hp → Prop} (hv : σ[j]? = some (some (.ref a))) (hS : SqL K H a xs ∨ SqT K H a xs) (h : ∀ J, JOk H J xs → R J H) : iList K (tVar j) σ H R ∨ iTup K (tVar j) σ H R := by
  rcases hS with hS | hS
  · exact .inl ⟨_, hv, a, rfl, ⟨_, hS⟩, h _ (jok_l hS)⟩
  · exact .inr ⟨_, hv, a, rfl, ⟨_, hS⟩, h _ (jok_t hS)⟩
theorem walk_l {σ : L2.St} {j : Nat} {R : It → Hp → Prop} (hv : σ[j]? = some (some (.ref a))) (hS : SqL K H a xs) (h : ∀ J, JOk H J xs → R J H) : iList K (tVar j) σ H R := ⟨_, hv, a, rfl, ⟨_, hS⟩, h _ (jok_l hS)⟩
end
section
variable {α : Type} {f : α → List V} {H : Hp} {L : List (Addr × α)} {J : It} {g : TG} {tt : TT} {te : TE} {vs : List Nat} {σ : L2.St} {D : Addr} {Qd : Hp → Prop}
theorem take_snoc {β : Type} {l : List β} {i : Nat} {x : β} (h : l[i]? = some x) : l.take (i + 1) = l.take i ++ [x] := by
  rw [List.take_add_one, h]
  rfl
theorem filt_snoc {β : Type} {p : β → Bool} {l : List β} {x : β} : (l ++ [x]).filter p = l.filter p ++ (if p x = true then [x] else []) := by
  rw [List.filter_append, List.filter_cons]
  rfl
/-- a block over rows that takes some thing of some rows -/
theorem rows_lc (p : α → Bool) (el : Addr × α → V) (ok : JOk H J (refs L)) (hR : RowsAt f H L) (small : L.length ≤ 1000) (hD : H D = none)
    (turn : ∀ q ∈ L, ∀ G, Same H G → G q.1 = some (.tup (f q.2)) → ∀ (Y : VK) (N : Hp → Prop), (p q.2 = true → Y (el q) G) → (p q.2 = false → N G) → g (.ref q.1) (wipe σ vs) G fun σ2 H2 => wipe σ2 vs = wipe σ vs ∧ tt σ2 H2 fun b H3 => if b = true then te σ2 H3 Y else N H3)
    (last : ∀ G, Same H G → G D = some (.lst ((L.filter fun q => p q.2).map el)) → Qd G) :
    ∃ W : Nat → Nat → Hp → Prop, (∃ m, W 0 m (upd H D (.lst []))) ∧ ∀ i m H, W i m H → (J.stop i H ∧ Qd H) ∨ (J.go i H ∧ ∃ Nx : Hp → Prop, (∀ H', Nx H' → ∃ m', m' < m ∧ W (i + 1) m' H') ∧ ∀ x H', J.yld i H x H' → g x (wipe σ vs) H' fun σ2 H2 => wipe σ2 vs = wipe σ vs ∧ tt σ2 H2 fun b H3 =>
      if b = true then te σ2 H3 fun y H4 => ∃ acc, H4 D = some (.lst acc) ∧ acc.length < sizeLine ∧ Nx (upd H4 D (.lst (acc ++ [y]))) else Nx H3) := by
  have ln : (refs L).length = L.length := List.length_map ..
  refine lc_gen (n := L.length) (fun i G => Same H G ∧ G D = some (.lst (((L.take i).filter fun q => p q.2).map el))) ⟨same_new hD, upd_same⟩ (fun i G h => ?_) (fun i G v G' hi h y => ?_) (fun G h => ?_)
  · have := ok i G h.1
    rw [ln] at this
    exact ⟨this.1, this.2.1⟩
  · obtain ⟨rfl, hx⟩ := (ok i G h.1).2.2 v G' y
    obtain ⟨q, hq, rfl, hm⟩ := refs_at hx
    have le : (((L.take i).filter fun q => p q.2).map el).length ≤ i := by
      rw [List.length_map]
      exact Nat.le_trans (List.length_filter_le _ _) (by rw [List.length_take]; omega)
    refine turn q hm G' h.1 (h.1 _ _ (hR q hm)) _ _ (fun hp => ⟨_, h.2, Nat.lt_of_le_of_lt le (small1000 (by omega)), fun c o e => ?_, ?_⟩) (fun hp => ⟨h.1, ?_⟩)
    · rw [upd_ne (ne_of_none e hD)]
      exact h.1 _ _ e
    · rw [upd_same, take_snoc hq, filt_snoc, if_pos hp, List.map_append]
      rfl
    · rw [h.2, take_snoc hq, filt_snoc, if_neg (by rw [hp]; decide), List.append_nil]
  · obtain ⟨s, e⟩ := h
    rw [List.take_of_length_le (Nat.le_refl _)] at e
    exact last G s e
/-- a block over rows that makes a new tuple of some rows -/
theorem rows_lcA {β : Type} {f2 : β → List V} (p : α → Bool) (el : α → β) (ok : JOk H J (refs L)) (hR : RowsAt f H L) (small : L.length ≤ 1000) (hD : H D = none)
    (turn : ∀ q ∈ L, ∀ G, Same H G → G q.1 = some (.tup (f q.2)) → ∀ (Y : VK) (N : Hp → Prop), (p q.2 = true → ∀ t, G t = none → Y (.ref t) (upd G t (.tup (f2 (el q.2))))) → (p q.2 = false → N G) → g (.ref q.1) (wipe σ vs) G fun σ2 H2 => wipe σ2 vs = wipe σ vs ∧ tt σ2 H2 fun b H3 => if b = true then te σ2 H3 Y else N H3)
    (last : ∀ G (S : List (Addr × β)), Same H G → G D = some (.lst (refs S)) → RowsAt f2 G S → S.map (·.2) = ((L.map (·.2)).filter p).map el → Qd G) :
    ∃ W : Nat → Nat → Hp → Prop, (∃ m, W 0 m (upd H D (.lst []))) ∧ ∀ i m H, W i m H → (J.stop i H ∧ Qd H) ∨ (J.go i H ∧ ∃ Nx : Hp → Prop, (∀ H', Nx H' → ∃ m', m' < m ∧ W (i + 1) m' H') ∧ ∀ x H', J.yld i H x H' → g x (wipe σ vs) H' fun σ2 H2 => wipe σ2 vs = wipe σ vs ∧ tt σ2 H2 fun b H3 =>
      if b = true then te σ2 H3 fun y H4 => ∃ acc, H4 D = some (.lst acc) ∧ acc.length < sizeLine ∧ Nx (upd H4 D (.lst (acc ++ [y]))) else Nx H3) := by
  have ln : (refs L).length = L.length := List.length_map ..
  refine lc_gen (n := L.length) (fun i G => Same H G ∧ ∃ S : List (Addr × β), G D = some (.lst (refs S)) ∧ RowsAt f2 G S ∧ S.map (·.2) = (((L.take i).map (·.2)).filter p).map el) ⟨same_new hD, [], upd_same, .nil, rfl⟩ (fun i G h => ?_) (fun i G v G' hi h y => ?_) (fun G h => ?_)
  · have := ok i G h.1
    rw [ln] at this
    exact ⟨this.1, this.2.1⟩
  · obtain ⟨s, S, e, hS, hm⟩ := h
    obtain ⟨rfl, hx⟩ := (ok i G s).2.2 v G' y
    obtain ⟨q, hq, rfl, hmem⟩ := refs_at hx
    have le : (refs S).length ≤ i := by
      rw [List.length_map, ← List.length_map (f := (·.2)) (as := S), hm, List.length_map]
      exact Nat.le_trans (List.length_filter_le _ _) (by rw [List.length_map, List.length_take]; omega)
    have e1 : ((L.take (i + 1)).map (·.2)) = (L.take i).map (·.2) ++ [q.2] := by
      rw [take_snoc hq, List.map_append]
      rfl
    refine turn q hmem G' s (s _ _ (hR q hmem)) _ _ (fun hp t ht => ⟨_, same_new ht _ _ e, Nat.lt_of_le_of_lt le (small1000 (by omega)), fun c o ec => ?_, S ++ [(t, el q.2)], ?_, ?_, ?_⟩) (fun hp => ⟨s, S, e, hS, ?_⟩)
    · rw [upd_ne (ne_of_none ec hD)]
      exact same_new ht _ _ (s _ _ ec)
    · rw [upd_same, refs_snoc]
    · refine ((hS.same (same_new ht)).updL (same_new ht _ _ e)).snoc ?_
      show (upd (upd G' t _) D _) t = _
      rw [upd_ne (fun z => by rw [z, e] at ht; cases ht), upd_same]
    · rw [List.map_append, hm, e1, filt_snoc, if_pos hp, List.map_append]
      rfl
    · rw [hm, e1, filt_snoc, if_neg (by rw [hp]; decide), List.append_nil]
  · obtain ⟨s, S, e, hS, hm⟩ := h
    rw [List.take_of_length_le (Nat.le_refl _)] at hm
    exact last G S s e hS hm
end
section
variable {α : Type} {f : α → List V} {H : Hp} {L : List (Addr × α)} {J : It} {g : TG} {tt : TT} {te : TE} {vs : List Nat} {σ : L2.St} {D : Addr} {Qd : Hp → Prop}
/-- a set by a block over rows -/
theorem rows_sc {w : World} (key : α → Int) (ok : JOk H J (refs L)) (hR : RowsAt f H L) (small : L.length ≤ 1000) (hD : H D = none)
    (turn : ∀ q ∈ L, ∀ G, Same H G → G q.1 = some (.tup (f q.2)) → ∀ (Y : VK) (N : Hp → Prop), Y (.int (key q.2)) G → g (.ref q.1) (wipe σ vs) G fun σ2 H2 => wipe σ2 vs = wipe σ vs ∧ tt σ2 H2 fun b H3 => if b = true then te σ2 H3 Y else N H3)
    (last : ∀ G n, Same H G → n ≤ L.length → G D = some (SetO w D (fun k => decide (k ∈ L.map fun q => key q.2)) n) → Qd G) :
    ∃ W : Nat → Nat → Hp → Prop, (∃ m, W 0 m (upd H D (SetO w D (fun _ => false) 0))) ∧ ∀ i m H, W i m H → (J.stop i H ∧ Qd H) ∨ (J.go i H ∧ ∃ Nx : Hp → Prop, (∀ H', Nx H' → ∃ m', m' < m ∧ W (i + 1) m' H') ∧ ∀ x H', J.yld i H x H' → g x (wipe σ vs) H' fun σ2 H2 => wipe σ2 vs = wipe σ vs ∧ tt σ2 H2 fun b H3 =>
      if b = true then te σ2 H3 fun y H4 => ∃ (c : Int) (S : Int → Bool) (n : Nat), y = .int c ∧ H4 D = some (SetO w D S n) ∧ n + 1 < scanBound ∧ Nx (upd H4 D (SetO w D (fun j => S j || decide (j = c)) (if S c = true then n else n + 1))) else Nx H3) := by
  have ln : (refs L).length = L.length := List.length_map ..
  refine ⟨fun i m G => m + i = L.length ∧ Same H G ∧ ∃ n, n ≤ i ∧ G D = some (SetO w D (fun k => decide (k ∈ (L.take i).map fun q => key q.2)) n), ⟨L.length, by omega, same_new hD, 0, Nat.le_refl _, ?_⟩, fun i m G now => ?_⟩
  · rw [upd_same]
    congr 2
  · obtain ⟨em, s, n, le, e⟩ := now
    obtain ⟨c1, c2, c3⟩ := ok i G s
    rw [ln] at c1 c2
    by_cases c : i < L.length
    · refine .inr ⟨c1 c, fun G' => Same H G' ∧ ∃ n, n ≤ i + 1 ∧ G' D = some (SetO w D (fun k => decide (k ∈ (L.take (i + 1)).map fun q => key q.2)) n), fun G' z => ⟨m - 1, by omega, by omega, z.1, z.2⟩, fun x G' y => ?_⟩
      obtain ⟨rfl, hx⟩ := c3 x G' y
      obtain ⟨q, hq, rfl, hmem⟩ := refs_at hx
      refine turn q hmem G' s (s _ _ (hR q hmem)) _ _ ⟨_, _, _, rfl, e, by unfold scanBound; omega, fun c o ec => ?_, (if decide (key q.2 ∈ (L.take i).map fun q => key q.2) = true then n else n + 1), ?_, ?_⟩
      · rw [upd_ne (ne_of_none ec hD)]
        exact s _ _ ec
      · split <;> omega
      · rw [upd_same]
        congr 2
        funext k
        rw [take_snoc hq, List.map_append, List.map_singleton]
        by_cases z : k = key q.2
        · simp [z]
        · simp [z]
    · have z : i = L.length := by omega
      rw [z, List.take_of_length_le (Nat.le_refl _)] at e
      exact .inl ⟨c2 z, last G n s (by omega) e⟩
end
/-! ### min of a list of numbers, None of none -/
theorem ints_hold {h : Heap} : ∀ {ns : List Int} {us : List Value}, Vals (ns.map V.int) us → PySem.W.HoldAll h us ns
  | [], _, .nil => PySem.W.HoldAll.nil
  | n :: r, _, .cons ⟨t, e⟩ rr => by
    rw [e]
    exact PySem.W.HoldAll.cons (PySem.W.holds_int n t) (ints_hold rr)
theorem minOf_mem (x : Int) : ∀ ys : List Int, PySem.W.minOf x ys ∈ x :: ys ∧ ∀ n ∈ x :: ys, PySem.W.minOf x ys ≤ n := fun ys => by
  induction ys generalizing x with
  | nil => exact ⟨List.mem_cons_self, fun n hn => by rw [List.mem_singleton.mp hn]; exact Int.le_refl _⟩
  | cons y r ih =>
    have e : PySem.W.minOf x (y :: r) = PySem.W.minOf (if PySem.W.DatumOrd.lt y x = true then y else x) r := rfl
    have hlt : PySem.W.DatumOrd.lt y x = decide (y < x) := rfl
    rw [e, hlt]
    by_cases c : y < x
    · rw [decide_eq_true c, if_pos rfl]
      obtain ⟨h1, h2⟩ := ih y
      refine ⟨List.mem_cons_of_mem _ h1, fun n hn => ?_⟩
      rcases List.mem_cons.mp hn with rfl | hn
      · have := h2 y List.mem_cons_self
        omega
      · exact h2 n hn
    · rw [decide_eq_false c, if_neg (by decide)]
      obtain ⟨h1, h2⟩ := ih x
      refine ⟨?_, fun n hn => ?_⟩
      · rcases List.mem_cons.mp h1 with h | h
        · rw [h]
          exact List.mem_cons_self
        · exact List.mem_cons_of_mem _ (List.mem_cons_of_mem _ h)
      · rcases List.mem_cons.mp hn with rfl | hn
        · exact h2 n List.mem_cons_self
        · rcases List.mem_cons.mp hn with rfl | hn
          · have := h2 x List.mem_cons_self
            omega
          · exact h2 n (List.mem_cons_of_mem _ hn)
def rMinD (K : PySem.W.Frag) : List V → List V → Hp → VK → Prop := fun xs zs H Q => ∃ (a : Addr) (ns : List Int), xs = [.ref a] ∧ zs = [.non] ∧ SqL K H a (ns.map V.int) ∧ (ns = [] → Q .non H) ∧ ∀ m, m ∈ ns → (∀ n ∈ ns, m ≤ n) → Q (.int m) H
theorem call_minD (K : PySem.W.Frag) {X : Cx} (hc : X.calm = true) (hu : X.A.units + 64 < cLine) (h : X.K = K := by rfl) : CallRK X (.builtin "min") ["default"] (rMinD K) := by
  subst h
  intro pins s σ H xs zs us ws Q I rx rz h
  obtain ⟨a, ns, rfl, rfl, hs, q0, q1⟩ := h
  obtain ⟨its, rv, hl, _⟩ := I.list hs
  rw [Vals.ref1 rx]
  cases rz with
  | cons e rr =>
    cases rr
    cases (show _ = Value.none from e)
    refine PySem.W.min_list_datum_default (I.ok.hd hc) hl.isList (ints_hold rv) (by show X.A.units + 1 + 0 < cLine; omega) (fun e h' tk hk => ⟨.non, H, I.kept hk, rfl, q0 e⟩) (fun y ys i v h' tk e hi hv hk => ?_)
    subst e
    obtain ⟨h1, h2⟩ := minOf_mem y ys
    obtain ⟨bs, r⟩ := hv
    have q2 := q1 _ h1 h2
    have e3 : PySem.W.Datum.toD (PySem.W.minOf y ys) = PyData.int (PySem.W.minOf y ys) := rfl
    rw [e3] at r
    generalize PySem.W.minOf y ys = m at r q2
    cases r
    exact ⟨.int m, H, I.kept hk, ⟨_, rfl⟩, q2⟩
/-! ### the law's call where a def of the program makes a lambda: its code's table is written -/
theorem okC {P : Program} {w : World} {K : PySem.W.Frag} {mg : Str → Option Value} {base : Heap} {x qual : Str} {st : Stmt} {f c : Addr} {fd : FuncData} {N ps : List Str} {k : Nat} {sp : Sp} (F : Fun K x qual st f fd) (fc : fd.code = .ref c) (S : FnScope N ps (defScope st))
    (many : ∀ vs H Q E, sp vs H Q E → vs.length = ps.length)
    (walk : ∀ (A : Around) (out : List Env) (s : Shared) (H : Hp) (vs : List V) (Q : VK) (E : XK), Room k (A.deeper (envOfC qual (defScope st) s.heap.objs.size f (.ref c))) → sp vs H Q E →
      ∃ t, PSs (cxOf CX0 P w K mg base N qual (defScope st) f (.ref c) A out s H E).nox (defBody st) t ∧ t { nx := fun _ H' => Q .non H', rt := Q } (start N vs) H) : FnOk P w K mg base CX0 (k + 1) f fd ps sp := by
  obtain ⟨oc, od, kV, dc, pm, an, cv, ct, ol, rfl, look, code⟩ := F.ex
  cases (show cv = Value.ref c from fc)
  refine fn_of look code S many fun A out s H vs Q E room want => ?_
  obtain ⟨t, term, reading⟩ := walk A out s H vs Q E room want
  exact ⟨t, term.nox, reading⟩
/-- the tables at the law's entry: all empty, none else is tracked but the script -/
def Bare (H : Hp) (a : Addr) (tb : List Addr) : Prop := (∀ b ∈ tb, H b = some (.tbl #[])) ∧ ∀ b u, H b = some u → b ∉ tb → b = a ∧ ∃ o xs, u = .frz o (.lst xs)
theorem law_callGT {P : Program} {w : World} {K : PySem.W.Frag} {mg mb : Str → Option Value} {k : Nat} {fa a : Addr} {cs : List (Addr × Addr)} {fd : FuncData} {x : Str} {sp : Sp} {s₁ : Shared} {vs : List Value} {ns : List Int}
    (inK : K.In s₁.heap) (nsM : s₁.heap.Ns mainGlobals mg) (nsB : s₁.heap.Ns builtinsNs mb) (boot : ∀ y : Str, y ≠ "__name__" → mb y = bootBuiltins y) (lim : s₁.heap.NoLimit) (gens : s₁.gens = #[])
    (empty : ∀ p ∈ cs, s₁.heap.get? p.2 = some { cls := .none, data := .fields #[] }) (notK : ∀ p ∈ cs, K.lookup p.2 = none) (codes : ∀ p ∈ cs, PySem.W.CodeHd s₁.heap p.1 p.2)
    (bmain : ∃ (bm : Addr) (ob : Obj), mg "__builtins__" = some (.ref bm) ∧ bm ≠ builtinsNs ∧ s₁.heap.get? bm = some ob ∧ ob.cls = .type "module" ∧ ob.dict = some builtinsNs ∧ ob.data = .plain)
    (at_a : s₁.heap.get? a = some { cls := .type "list", data := .seq vs.toArray }) (areI : IntsAre vs ns) (fits : ns.length ≤ sizeLine) (room : Room k callerA)
    (F : ∀ base : Heap, K.In base → base.Ns mainGlobals mg → (∀ p ∈ cs, LamX.TabB base mg p.1 p.2) → FnG P w K mg base k fa fd [x] sp) (bind : ∀ (s : Shared) (u : Value), BindsTo s fd ⟨[u], []⟩ [(x, u)])
    (want : ∀ H : Hp, (∀ p ∈ cs, H p.2 = some (.tbl #[])) → SqL K H a (ns.map V.int) → sp [.ref a] H (fun v _ => v = .bl true) fun _ _ _ => False) :
    codeAny (model P w) callerA (.call (.ref fa) ⟨[.ref a], []⟩) (fun r s' => r = .ok (.ret (.bool true)) ∧ OldK s₁.heap s'.heap ∧ s'.os = s₁.os ∧ AllBare s'.gens) s₁ := by
  have many := areI.length
  obtain ⟨tb, htb⟩ : ∃ tb : List Addr, tb = cs.map (·.2) := ⟨_, rfl⟩
  have inTb : ∀ p ∈ cs, p.2 ∈ tb := fun p hp => by rw [htb]; exact List.mem_map.mpr ⟨p, hp, rfl⟩
  have ofTb : ∀ {b}, b ∈ tb → ∃ p ∈ cs, p.2 = b := fun {b} hb => by rw [htb] at hb; exact List.mem_map.mp hb
  have bare : ∀ {b}, b ∈ tb → s₁.heap.get? b = some { cls := .none, data := .fields #[] } := fun hb => by
    obtain ⟨p, hp, rfl⟩ := ofTb hb
    exact empty p hp
  have aOut : a ∉ tb := fun z => by
    have q := bare z
    rw [at_a] at q
    cases (show Data.seq vs.toArray _ = Data.fields #[] from congrArg Obj.data (Option.some.inj q))
  have goes : ∀ H : Hp, Bare H a tb → SqL K H a (ns.map V.int) → HOk P w H s₁.heap → (H a ≠ none → K.lookup a = none) →
      codeAny (model P w) callerA (.call (.ref fa) ⟨[.ref a], []⟩) (fun r s' => r = .ok (.ret (.bool true)) ∧ OldK s₁.heap s'.heap ∧ s'.os = s₁.os ∧ AllBare s'.gens) s₁ := by
    intro H shape isL ok aK
    -- what is no list and no empty table is not tracked
    have free : ∀ {b : Addr} {o : Obj}, s₁.heap.get? b = some o → (∀ ws n, o.data ≠ .seq ws n) → o.data ≠ .fields #[] → H b = none := by
      intro b o e n1 n2
      cases hb : H b with
      | none => rfl
      | some u =>
        by_cases c : b ∈ tb
        · rw [bare c] at e
          cases e
          exact absurd rfl n2
        · rw [(shape.2 b u hb c).1, at_a] at e
          cases e
          exact absurd rfl (n1 _ _)
    have freeD : ∀ {b : Addr} {o : Obj} {es : Array DictEntry} {ep : Nat}, s₁.heap.get? b = some o → o.data = .dict es ep → H b = none := fun {b o es ep} e dd =>
      free e (fun ws n z => by rw [dd] at z; cases z) (fun z => by rw [dd] at z; cases z)
    have nsH : ∀ {b : Addr} {m : Str → Option Value}, s₁.heap.Ns b m → (hidT s₁.heap H).Ns b m := by
      rintro b m ⟨o, es, ep, e, dd, rr⟩
      exact ⟨o, es, ep, hidT_get e (freeD e dd), dd, rr⟩
    have inH : K.In (hidT s₁.heap H) := by
      intro b o e
      refine hidT_get (inK b o e) ?_
      cases hb : H b with
      | none => rfl
      | some u =>
        by_cases c : b ∈ tb
        · obtain ⟨p, hp, rfl⟩ := ofTb c
          rw [notK p hp] at e
          cases e
        · have ba := (shape.2 b u hb c).1
          subst ba
          rw [aK (by rw [hb]; simp)] at e
          cases e
    have modH : Mod K mg (hidT s₁.heap H) := by
      obtain ⟨mc, l1, l2⟩ := lim
      exact ⟨inH, nsH nsM, ⟨mb, nsH nsB, boot⟩, ⟨mc, nsH l1, l2⟩⟩
    have tabs : ∀ p ∈ cs, LamX.TabB (hidT s₁.heap H) mg p.1 p.2 := by
      intro p hp
      have tp := empty p hp
      constructor
      · obtain ⟨o, us, file, tf, flags, tg, inF, text, tt, e1, r1, r2, r3, rest⟩ := codes p hp
        refine ⟨o, us, file, tf, flags, tg, inF, text, tt, hidT_get e1 (free e1 (fun ws n z => ?_) fun z => ?_), r1, r2, r3, rest⟩
        · rw [r2] at z
          cases z
        · rw [r2] at z
          cases z
          simp at r3
      · obtain ⟨bm, ob, b1, b2, b3, b4, b5, b6⟩ := bmain
        refine ⟨bm, ob, b1, b2, fun q => ?_, fun q => ?_, hidT_get b3 (free b3 (fun ws n z => by rw [b6] at z; cases z) fun z => by rw [b6] at z; cases z), b4, b5, b6⟩
        · obtain ⟨o, es, ep, e, hd, _⟩ := nsM
          rw [q, e] at b3
          cases b3
          rw [hd] at b6
          cases b6
        · rw [q, tp] at b3
          cases b3
          cases b6
      · intro z
        obtain ⟨o, es, ep, e, hd, _⟩ := nsM
        rw [z, tp] at e
        cases e
        cases hd
    have env : Env0 P w K mg (hidT s₁.heap H) callerA [] s₁ H := by
      refine ⟨rfl, modH, fun b o e => of_hidT e, Nat.le_of_eq (hidT_size _ _), trivial, ?_, ok, .of_eq gens⟩
      intro b hb
      cases hb
    apply codeAny_mono ((F _ inH (nsH nsM) tabs).runs callerA [] s₁ H ⟨[.ref a], []⟩ [.ref a] [.ref a] _ _ room rfl env (bind s₁ (.ref a)) (.cons rfl .nil) (want H (fun p hp => shape.1 p.2 (inTb p hp)) isL))
    intro res s' told
    cases res with
    | error e => exact told.elim
    | ok fl =>
      cases fl with
      | next => exact told.elim
      | brk => exact told.elim
      | cont => exact told.elim
      | ret u =>
        obtain ⟨v, H', os, bareG, un, ok', rel, qv⟩ := told
        cases (show v = .bl true from qv)
        cases (show u = Value.bool true from rel)
        have key : ∀ b o, b ∉ tb → s₁.heap.get? b = some o → s'.heap.get? b = some o := by
          intro b o nb e
          cases hb : H b with
          | none => exact un.keep b o e hb (fun z => by cases z) (fun z => by cases z)
          | some u2 =>
            obtain ⟨_, ob, xs, z⟩ := shape.2 b u2 hb nb
            rw [z] at hb
            have e1 := And.left (ok b _ hb)
            have e2 := And.left (ok' b _ (un.frzs b ob _ hb))
            rw [e] at e1
            cases e1
            exact e2
        have grown : ∀ {b : Addr}, b ∈ tb → ∃ more : Array Value, s'.heap.get? b = some { cls := .none, data := .fields more } := fun {b} hb => by
          obtain ⟨more, z⟩ := un.tbls b #[] (shape.1 b hb)
          exact ⟨_, ok' b _ z⟩
        refine ⟨rfl, ⟨fun b o e => ?_, fun b o e => ?_⟩, os, bareG⟩
        · by_cases hb : b ∈ tb
          · obtain ⟨more, hm⟩ := grown hb
            obtain ⟨p, hp, rfl⟩ := ofTb hb
            rw [empty p hp] at e
            cases e
            exact .inr (.inl ⟨((codes p hp).tab (empty p hp)).isCodeTable, rfl, #[], more, rfl, by rw [Array.empty_append]; exact hm⟩)
          · exact .inl (key b o hb e)
        · by_cases hb : b ∈ tb
          · obtain ⟨more, hm⟩ := grown hb
            exact ⟨_, hm⟩
          · exact ⟨o, key b o hb e⟩
  cases hk : K.lookup a with
  | some o =>
    have e := inK a o hk
    rw [at_a] at e
    cases e
    apply goes (fun b => if b ∈ tb then some (.tbl #[]) else none)
    · exact ⟨fun b hb => if_pos hb, fun b u e hb => by cases (if_neg hb).symm.trans e⟩
    · exact Or.inr ⟨_, vs.toArray, _, hk, rfl, rfl, rfl, by rw [List.size_toArray, many]; exact fits, by simpa using vals_ints areI⟩
    · intro b u z
      by_cases hb : b ∈ tb
      · cases (if_pos hb).symm.trans z
        exact bare hb
      · cases (if_neg hb).symm.trans z
    · exact fun z => absurd (if_neg aOut) z
  | none =>
    apply goes (fun b => if b = a then some (.frz { cls := .type "list", data := .seq vs.toArray } (.lst (ns.map V.int))) else if b ∈ tb then some (.tbl #[]) else none)
    · refine ⟨fun b hb => (if_neg (fun z : b = a => aOut (by rw [← z]; exact hb))).trans (if_pos hb), fun b u e hb => ?_⟩
      by_cases c : b = a
      · cases (if_pos c).symm.trans e
        exact ⟨c, _, _, rfl⟩
      · cases ((if_neg c).trans (if_neg hb)).symm.trans e
    · exact Or.inl (Or.inr ⟨{ cls := .type "list", data := .seq vs.toArray }, if_pos rfl⟩)
    · intro b u z
      by_cases c : b = a
      · cases (if_pos c).symm.trans z
        rw [c]
        exact ⟨at_a, by rw [List.length_map]; exact fits, vs, _, vals_ints areI, at_a⟩
      · have z := (if_neg c).symm.trans z
        by_cases hb : b ∈ tb
        · cases (if_pos hb).symm.trans z
          exact bare hb
        · cases (if_neg hb).symm.trans z
    · exact fun _ => hk
theorem walk_ofGT {l : PySem.W.OpenLaw} {n k : Nat} {q : Program} {loose : List Str} {XP : (Str → Option Value) → Heap → Prop} {YP : World → Heap → Prop} {d : DefRec} {K : Params → PySem.W.Frag} {x : Str}
    (hn : l.most = some n) (hn2 : n ≤ sizeLine) (hdf : d.params.defaults = []) (hr : Room k callerA) (hY : ∀ (w : World) (h : Heap), YP w h → (K w.params).In h)
    (F : ∀ (w : World) (mg : Str → Option Value) (fa : Addr) (h : Heap), YP w h → (K w.params).In h → h.Ns mainGlobals mg → mg d.name = some (.ref fa) →
      ∃ (fd : FuncData) (cs : List (Addr × Addr)) (sp : Sp), (∀ p ∈ cs, PySem.W.CodeHd h p.1 p.2 ∧ h.get? p.2 = some { cls := .none, data := .fields #[] }) ∧ (∀ p ∈ cs, (K w.params).lookup p.2 = none) ∧ (∀ (s : Shared) (u : Value), BindsTo s fd ⟨[u], []⟩ [(x, u)]) ∧
        (∀ (H : Hp) (a : Addr) (ns : List Int), ns.length ≤ n → (∀ p ∈ cs, H p.2 = some (.tbl #[])) → SqL (K w.params) H a (ns.map V.int) → sp [.ref a] H (fun v _ => v = .bl true) fun _ _ _ => False) ∧
        ∀ base : Heap, (K w.params).In base → base.Ns mainGlobals mg → (∀ p ∈ cs, LamX.TabB base mg p.1 p.2) → FnG l.prog w (K w.params) mg base k fa fd [x] sp) :
    PySem.W.WalkO q loose XP YP l.row.toRowW d [] (fun f vs => PySem.call f vs) := by
  apply Att.attach_call hn hdf
  intro w s₀ s₁ mg mb fa o pm cd doc a vs ns G Y ho hd hcd hmg hobj hints hlen hg
  obtain ⟨fd, cs, sp, hT, hK, hb, hsp, hF⟩ := F w mg fa _ Y (hY w _ Y) G.T.g hmg
  exact law_callGT (hY w _ Y) G.T.g G.T.b G.T.builtins G.T.nolimit hg (fun p hp => (hT p hp).2) hK (fun p hp => (hT p hp).1) G.T.bmain hobj hints (Nat.le_trans hlen hn2) hr hF hb (fun H hH hS => hsp H a ns hlen hH hS)
/-! ### sorted(xs, key=lambda p: p[i]), the keys whole numbers -/
namespace SLam
open PySem PySem.Spec PyProof.Rows L2 LamX
structure LamP (scope : Scope) (x : Str) : Prop where
  kind : scope.kind = .function
  co : scope.isCoroutine = false
  gen : scope.isGenerator = false
  cell : ∀ y ∈ scope.names, y.2 ≠ .cell
  free : ∀ y ∈ scope.names, y.2 ≠ .free
  par : scope.names.lookup x = some .local
def lamPB (scope : Scope) (x : Str) : Bool :=
  decide (scope.kind = .function) && !scope.isCoroutine && !scope.isGenerator && (scope.names.all fun y => !decide (y.2 = .cell) && !decide (y.2 = .free)) && decide (scope.names.lookup x = some .local)
theorem lamP_by {scope : Scope} {x : Str} (h : lamPB scope x = true) : LamP scope x := by
  unfold lamPB at h
  simp only [Bool.and_eq_true, Bool.not_eq_true', decide_eq_true_eq, decide_eq_false_iff_not, List.all_eq_true] at h
  obtain ⟨⟨⟨⟨a, b⟩, c⟩, d⟩, e⟩ := h
  exact ⟨a, b, c, fun y hy => (d y hy).1, fun y hy => (d y hy).2, e⟩
theorem key_one {prog : Program} {w : World} {A : Around} {s : Shared} {f c' a : Addr} {x qual : Str} {params : Arguments} {scope : Scope} {cl : List (Str × Addr)} {pm ctv : Value} {p1 p2 p3 : Pos} {kd j : Nat} {i k : Int} {tk : Tok} {its : Array Value}
    (room : A.depth < recursionLimit) (lim : s.heap.NoLimit) (there : s.heap.get? f = some (PySem.W.kla_obj "<lambda>" qual params (.Subscript (.Name x p1) (.Constant (.int i) kd p2) p3) scope cl pm c' ctv)) (code : s.heap.CodeRec (.ref c') qual)
    (L : LamP scope x) (bind : bindArgs (PySem.W.kla_fn "<lambda>" qual params (.Subscript (.Name x p1) (.Constant (.int i) kd p2) p3) scope cl pm (.ref c') ctv) ⟨[.ref a], []⟩ = pure [(x, .ref a)])
    (tup : IsTup s.heap a its) (lo : -(2 ^ 63) ≤ i) (hi : i < 2 ^ 63) (hj : seqIndex? i its.size = some j) (hx : its[j]? = some (.int k tk)) (nd : (x == ("__debug__" : Str)) = false) :
    wpAny (model prog w) A (call (.ref f) [.ref a]) (PySem.W.KeyPure (.int k) s) (fun _ _ => False) s := by
  refine wpAny_call (PySem.W.kla_callFunE room there rfl L.co L.gen rfl code ?_)
  rw [bind]
  refine wpAny_pure (wpAny_newFunctionEnv L.cell (fun y hy => ?_) (fun h₁ hns hsb => ⟨lim.fresh _ hsb, ?_⟩) L.kind)
  · rw [List.mem_singleton.mp hy]
    exact L.par
  · have kp : ∀ b o, s.heap.get? b = some o → h₁.get? b = some o := fun b o e => hsb.extBut b o (Nat.ne_of_lt (Heap.lt_size e)) (Heap.get?_push_of_some _ e)
    have tup1 : IsTup h₁ a its := by
      obtain ⟨o, e, r⟩ := tup
      exact ⟨o, kp _ _ e, r⟩
    refine PySem.W.kla_codeExpr (wpAny_Subscript_Constant_late (wpAny_Name (wpAny_loadName_local L.kind L.par hns (v := .ref a) ?_ (wpAny_Constant_int ?_)) nd))
    · simp
    · refine ⟨"tuple", _, slot_tuple_getitem.lookup, tup1.typeIs, getItem_tuple tup1 lo hi hj hx ?_⟩
      exact ⟨h₁, _, rfl, kp, .int _ _⟩
end SLam
namespace SLam
open PySem PySem.Spec PyProof.Rows L2 LamX
/-- sorted(l, key=f), l a list or a tuple, f's answers whole numbers -/
theorem sorted_nums {prog : Program} {w : World} {A : Around} {E : Value → Shared → Prop} {s : Shared} {l f : Addr} {vs : List Value} {β : Type} {bs : List β} {R : Value → β → Prop} {Q : Value → Shared → Prop} (k : β → Int)
    (coll : ∀ (A : Around) (Q : List Value → Shared → Prop), (∀ h', (∀ b o, s.heap.get? b = some o → h'.get? b = some o) → Q vs { s with heap := h' }) → wpAny (model prog w) A (collect (.ref l)) Q E s)
    (e : PySem.W.EachIs R vs bs) (fits : bs.length ≤ sizeLine) (room : A.units + 2 < cLine)
    (turn : ∀ (v : Value) (x : β), R v x → x ∈ bs → ∀ (h : Heap) (tk : Nat), (∀ b o, s.heap.get? b = some o → h.get? b = some o) →
      wpAny (model prog w) A.in1.in1 (call (.ref f) [v]) (PySem.W.KeyPure (.int (k x)) { s with heap := h, toks := tk }) (fun _ _ => False) { s with heap := h, toks := tk })
    (then_ : ∀ (out : List Value) (c : Nat) (h1 h' : Heap) (tk : Nat) (p : Addr), (∀ b o, s.heap.get? b = some o → h1.get? b = some o) → (∀ b o, h1.get? b = some o → h'.get? b = some o) → h1.objs.size ≤ p → h'.get? p = some (seqObj "list" out.toArray c) → out.length = bs.length →
      PySem.W.EachIs R out (bs.mergeSort fun a b => decide (k a ≤ k b)) → Q (.ref p) { s with heap := h', toks := tk }) :
    wpAny (model prog w) A (call (.builtin "sorted") [.ref l] [(Str.ofString "key", .ref f)]) Q E s := by
  refine call_function_entry_kw kind_sorted plain_sorted entry_sorted (ksk_s1 _ _) ?_
  unfold Builtin.«sorted»
  refine wpAny_bind (m := checkCount "sorted" 1 1 _) (wpAny_pure (wpAny_bind (coll _ _ fun h1 k1 => ?_)))
  have z : vs.length ≤ sizeLine := by rw [e.length]; exact fits
  refine wpAny_bind (wpAny_newList ?_ z)
  have laid : (h1.push (seqObj "list" vs.toArray 0)).get? h1.objs.size = some (seqObj "list" vs.toArray 0) := Heap.get?_push_size _ rfl
  have old : ∀ b o, s.heap.get? b = some o → b ≠ h1.objs.size ∧ (h1.push (seqObj "list" vs.toArray 0)).get? b = some o := fun b o h => ⟨Nat.ne_of_lt (Heap.lt_size (k1 b o h)), Heap.get?_push_of_some _ (k1 b o h)⟩
  refine wpAny_bind (wpAny_holding (PySem.W.list_sort_key_data (A := A.in1) (s := { s with heap := h1.push (seqObj "list" vs.toArray 0) }) (b := false) (fun x => .int (k x)) laid e (PySem.W.AllAlike.of (enc := fun x => .int (k x)) fun _ _ => rfl) (PySem.W.Sortable.others (enc := fun x => .int (k x)) fun _ => ⟨(fun c => by cases c), (fun _ c => by cases c)⟩) fits (fun x _ => ?_) (ksk_l1 _ _) (ksk_t1 _ _) (fun v x hr hx h tk kb => turn v x hr hx h tk fun b o ho => kb b o (old b o ho).1 (old b o ho).2) fun out c h' tk kb hl hn he => ?_))
  · simp only [PyData.depth]
    show A.units + 1 + 1 + 0 < cLine
    omega
  · refine wpAny_pure ⟨_, rfl, then_ out c h1 h' tk h1.objs.size k1 (fun b o ho => kb b o (Nat.ne_of_lt (Heap.lt_size ho)) (Heap.get?_push_of_some _ ho)) (Nat.le_refl _) hl hn ?_⟩
    rw [PySem.W.dataLe_int] at he
    exact he
end SLam
namespace SLam
open PySem PySem.Spec PyProof.Rows L2 LamX
theorem extN_l {K : PySem.W.Frag} {H H' : Hp} {a : Addr} {xs : List V} (e : ExtN H H') (h : SqL K H a xs) : SqL K H' a xs := by
  rcases h with (h | ⟨o, h⟩) | h
  · exact .inl (.inl (e _ _ h fun _ z => by cases z))
  · exact .inl (.inr ⟨o, e _ _ h fun _ z => by cases z⟩)
  · exact .inr h
theorem extN_t {K : PySem.W.Frag} {H H' : Hp} {a : Addr} {xs : List V} (e : ExtN H H') (h : SqT K H a xs) : SqT K H' a xs := by
  rcases h with (h | ⟨o, h⟩) | h
  · exact .inl (.inl (e _ _ h fun _ z => by cases z))
  · exact .inl (.inr ⟨o, e _ _ h fun _ z => by cases z⟩)
  · exact .inr h
theorem each_of {α : Type} {g : α → V} : ∀ {rs : List α} {its : List Value}, Vals (rs.map g) its → PySem.W.EachIs (fun v b => RelV (g b) v) its rs
  | [], _, .nil => .nil
  | _ :: _, _, .cons a r => .cons a (each_of r)
theorem vals_of {α : Type} {g : α → V} : ∀ {out : List Value} {rs : List α}, PySem.W.EachIs (fun v b => RelV (g b) v) out rs → Vals (rs.map g) out
  | _, _, .nil => .nil
  | _, _, .cons a r => .cons a (vals_of r)
/-- a row and the number that stands at its place i -/
def KeyAt (K : PySem.W.Frag) (H : Hp) (i : Int) (r : V × Int) : Prop := ∃ a ts, r.1 = .ref a ∧ SqT K H a ts ∧ atI ts i = some (.int r.2)
def LastK (K : PySem.W.Frag) (T : List (Addr × Str)) (i : Int) (Q : VK) : V → Hp → Prop := fun v H1 => ∃ (l : Addr) (rs : List (V × Int)), v = .ref l ∧ (SqL K H1 l (rs.map (·.1)) ∨ SqT K H1 l (rs.map (·.1))) ∧ (∀ r ∈ rs, KeyAt K H1 i r) ∧ Tabs T H1 ∧
  ∀ H2, ExtN H1 H2 → Tabs T H2 → ∀ p, H2 p = none → Q (.ref p) (upd H2 p (.lst ((rs.mergeSort fun x y => decide (x.2 ≤ y.2)).map (·.1))))
def tSortLam (K : PySem.W.Frag) (T : List (Addr × Str)) (i : Int) (te : TE) : TE := fun σ H Q => te σ H (LastK K T i Q)
def one (G : V → Hp → Prop) : List V → Hp → Prop
  | [v], H => G v H
  | _, _ => False
theorem pe_sortLam {X : Cx} {T : List (Addr × Str)} {c P : Addr} {x : Str} {params : Arguments} {scope : Scope} {p p1 p2 p3 pos lpos kpos : Pos} {kd : Nat} {i : Int} {e : Expr} {te : TE}
    (TB : TabB X.base X.mg c P) (hcode : X.env.code = .ref c) (hm : (P, X.env.qual ++ "<lambda>") ∈ T) (hu : ∀ p ∈ T, p.1 = P → p.2 = X.env.qual ++ "<lambda>") (hr : Room 2 X.A) (L : LamP scope x) (hdef : defaultsOf params X.env = ([], []))
    (hbind : ∀ (q : Str) (cl : List (Str × Addr)) (pm cv ctv v : Value), bindArgs (PySem.W.kla_fn "<lambda>" q params (.Subscript (.Name x p1) (.Constant (.int i) kd p2) p3) scope cl pm cv ctv) ⟨[v], []⟩ = pure [(x, v)])
    (hg : Gl X "sorted") (hms : X.mg "sorted" = none) (he : PE X e te) (lo : -(2 ^ 63) ≤ i := by decide) (hi : i < 2 ^ 63 := by decide) (nd : (x == ("__debug__" : Str)) = false := by decide)
    (h0 : starEach [e] X.env = (false, eval e X.env) :: starEach [] X.env := by rfl) (h1 : backTo pos (starEach [e] X.env) = (false, eval e X.env) :: backTo pos (starEach [] X.env) := by rfl) (h2 : (backTo pos (starEach [e] X.env)).any (·.1) = false := by rfl) :
    PE X (.Call (.Name "sorted" p) [e] [⟨some "key", .Lambda params (.Subscript (.Name x p1) (.Constant (.int i) kd p2) p3) scope lpos, kpos⟩] pos) (tSortLam X.K T i te) := by
  refine ⟨fun pins s σ H Q I h => ?_⟩
  refine wpAny_Call_Name_kw (ld_blt I hg hms (show bootBuiltins "sorted" = some (.builtin "sorted") from by decide +kernel) ?_ (by decide) (by decide))
  refine PyProof.Rows.callWith_kw (thn ((pa_cons he pa_nil h0).run pos pins s σ H (one (LastK X.K T i Q)) I h) fun us s1 ⟨vs, H1, I1, r1, q1⟩ => ?_) h1 h2
  match vs, r1, q1 with
  | [v], r1, q1 =>
    obtain ⟨l, rs, rfl, hS, hK, hT, q⟩ := (show LastK X.K T i Q v H1 from q1)
    rw [Vals.ref1 r1]
    show wpAny _ _ (evalAll [(do let v ← eval (.Lambda params (.Subscript (.Name x p1) (.Constant (.int i) kd p2) p3) scope lpos) X.env; standAt pos; pure v)]) _ _ s1
    refine wpAny_evalAll_cons (wpAny_bind (lam_make2 I1 TB hcode hm hu hT hdef (fun y hy z => absurd z (L.free y hy)) fun f c' pm ctv H2 s2 I2 eN T2 hf hfn hfr hco => wpAny_bind (wpAny_standAt (wpAny_pure (wpAny_evalAll_nil ?_)))))
    show wpAny _ _ (call (.builtin "sorted") [.ref l] [(Str.ofString "key", .ref f)]) _ _ s2
    have S2 : SqL X.K H2 l (rs.map (·.1)) ∨ SqT X.K H2 l (rs.map (·.1)) := hS.elim (fun z => .inl (extN_l eN z)) (fun z => .inr (extN_t eN z))
    obtain ⟨its, rv, fits, coll⟩ : ∃ its : List Value, Vals (rs.map (·.1)) its ∧ its.length ≤ sizeLine ∧ ∀ (A : Around) (Q : List Value → Shared → Prop), (∀ h', (∀ b o, s2.heap.get? b = some o → h'.get? b = some o) → Q its { s2 with heap := h' }) → wpAny (model X.prog X.w) A (collect (.ref l)) Q X.xe s2 := by
      rcases S2 with z | z
      · obtain ⟨its, r, pl, hz⟩ := I2.list z
        obtain ⟨o, ho, hc, n, hd⟩ := pl.isList
        have len : its.toArray.size ≤ sizeLine := by rw [List.size_toArray, ← r.length]; exact hz
        exact ⟨its, r, by rw [← r.length]; exact hz, fun A Q hq => wpAny_collect_seq l (.inl rfl) ho hc hd (fun h' hk => by simpa using hq h' hk) len⟩
      · obtain ⟨its, r, pl, hz⟩ := I2.tuple z
        obtain ⟨o, ho, hc, n, hd⟩ := pl
        have len : its.toArray.size ≤ sizeLine := by rw [List.size_toArray, ← r.length]; exact hz
        exact ⟨its, r, by rw [← r.length]; exact hz, fun A Q hq => wpAny_collect_seq l (.inr rfl) ho hc hd (fun h' hk => by simpa using hq h' hk) len⟩
    have hl : its.length = rs.length := by rw [← rv.length, List.length_map]
    refine sorted_nums (k := fun b : V × Int => b.2) (bs := rs) coll (each_of rv) (by rw [← hl]; exact fits) (by have := hr.units; omega) (fun v b hb mem h tk kp => ?_) fun out cc h1 h' tk p' k1 k2 hp hget hlen he => ?_
    · obtain ⟨a, ts, ea, ht, hat⟩ := hK b mem
      obtain ⟨its2, r2, tup, _⟩ := I2.tuple (extN_t eN ht)
      rw [ea] at hb
      obtain rfl : v = Value.ref a := hb
      obtain ⟨j, a1, a2, _⟩ := atI_get hat
      obtain ⟨u, eu, ru⟩ := r2.get a2
      obtain ⟨t3, rfl⟩ := ru
      obtain ⟨⟨oc, vc, tc, hoc, hdc, hvc⟩, _, _⟩ := I2.hok c' _ hco
      have tup2 : IsTup h a its2.toArray := by
        obtain ⟨o, e', r'⟩ := tup
        exact ⟨o, kp _ _ e', r'⟩
      exact key_one (s := { s2 with heap := h, toks := tk }) hr.depth (I2.nolimit.keeps kp) (kp _ _ hf) ⟨c', oc, vc, tc, rfl, kp _ _ hoc, hdc, hvc⟩ L (hbind _ _ _ _ _ _) tup2 lo hi (by rw [List.size_toArray, ← r2.length]; exact a1) (by simpa using eu) nd
    · have J1 : Inv X pins σ H2 { s2 with heap := h1, toks := tk } := I2.kept (t' := tk) k1
      have J2 := J1.laid (a := p') (o := .lst ((rs.mergeSort fun x y => decide (x.2 ≤ y.2)).map (·.1))) (t' := tk) k2 hp ⟨?_, out, cc, vals_of he, hget⟩
      · exact ⟨.ref p', _, J2, rfl, q H2 eN T2 p' (J1.hok.fresh hp)⟩
      · rw [List.length_map, List.length_mergeSort, ← hl]
        exact fits
  | [], _, q1 => exact (show False from q1).elim
  | _ :: _ :: _, _, q1 => exact (show False from q1).elim
end SLam
/-! ### [*d, *e] of dicts; max of a list of numbers, None of none; list(d) -/
namespace SD
open PySem PySem.Spec PyProof.Rows L2
/-- *e in a display, e a dict: its keys -/
def tStarD (te : TE) (t : TA) : TA := fun σ H Q => te σ H fun x G => ∃ (a : Addr) (kvs : List (Key × V)), x = V.ref a ∧ Rd G a (.dK kvs) ∧ t σ G fun ys G2 => Q ((kvs.map fun kv => kV kv.1) ++ ys) G2
section
variable {X : Cx} {e : Expr} {es : List Expr} {te : TE} {t : TA} {p : Pos}
theorem pa_starD (calm : X.calm = true) (he : PE X e te) (rest : PA X es t) (hs : starEach (.Starred e p :: es) X.env = (true, eval e X.env) :: starEach es X.env := by rfl) : PA X (.Starred e p :: es) (tStarD te t) := by
  constructor
  intro pos pins s σ H Q I h
  refine PySem.W.items_star (thn (he.run pins s σ H _ I h) fun v s1 ⟨y, G, J, ry, a, kvs, ey, hd, q⟩ => ?_) hs
  subst ey
  obtain rfl : v = Value.ref a := ry
  obtain ⟨z, lo, vs, rel, dd⟩ := dk_rd J.hok hd
  obtain ⟨ep, hat⟩ := dd.dictAt
  have ek : (kvs.map fun kv => kV kv.1) = vs.map fun p => kV p.1 := by
    have e := congrArg (List.map kV) rel.keys
    rw [List.map_map, List.map_map] at e
    exact e
  have got : wpAny (model X.prog X.w) X.A (collect (.ref a)) (fun us s2 => Inv X pins σ G s2 ∧ Vals (kvs.map fun kv => kV kv.1) us) X.xe s1 := by
    refine PySem.W.kdu_collect (PySem.W.kdl_dict (knd := mixKind X.prog X.w) (kvs := vs) (ep := ep) lo) (J.ok.hd calm) hat (by rw [← rel.length]; exact z) fun h' tk acc hk hacc => ⟨J.kept hk, ?_⟩
    rw [ek]
    exact keys_at (by rw [Array.length_toList]; exact hacc.1) fun j v e => hacc.2 j v (by rw [← Array.getElem?_toList]; exact e)
  have ty : s1.TypeIs (.ref a) "dict" := hat.dictOf.typeIs
  unfold PySem.W.StarOf notIterableAtAll
  refine wpAny_bind (wpAny_specialOf ty PySem.F.slot_dict_iter.lookup (wpAny_pure ⟨rfl, thn got fun us s2 ⟨J2, rv⟩ => ?_⟩))
  exact thn (rest.run pos pins s2 σ G _ J2 q) fun ws s3 ⟨ys, G3, J3, r3, q3⟩ => ⟨_, G3, J3, rv.append r3, q3⟩
theorem maxOf_mem (x : Int) : ∀ ys : List Int, PySem.W.maxOf x ys ∈ x :: ys ∧ ∀ n ∈ x :: ys, n ≤ PySem.W.maxOf x ys := fun ys => by
  induction ys generalizing x with
  | nil => exact ⟨List.mem_cons_self, fun n hn => by rw [List.mem_singleton.mp hn]; exact Int.le_refl _⟩
  | cons y r ih =>
    have e : PySem.W.maxOf x (y :: r) = PySem.W.maxOf (if PySem.W.DatumOrd.lt x y = true then y else x) r := rfl
    have hlt : PySem.W.DatumOrd.lt x y = decide (x < y) := rfl
    rw [e, hlt]
    by_cases c : x < y
    · rw [decide_eq_true c, if_pos rfl]
      obtain ⟨h1, h2⟩ := ih y
      refine ⟨List.mem_cons_of_mem _ h1, fun n hn => ?_⟩
      rcases List.mem_cons.mp hn with rfl | hn
      · have := h2 y List.mem_cons_self
        omega
      · exact h2 n hn
    · rw [decide_eq_false c, if_neg (by decide)]
      obtain ⟨h1, h2⟩ := ih x
      refine ⟨?_, fun n hn => ?_⟩
      · rcases List.mem_cons.mp h1 with h | h
        · rw [h]
          exact List.mem_cons_self
        · exact List.mem_cons_of_mem _ (List.mem_cons_of_mem _ h)
      · rcases List.mem_cons.mp hn with rfl | hn
        · exact h2 n List.mem_cons_self
        · rcases List.mem_cons.mp hn with rfl | hn
          · have := h2 x List.mem_cons_self
            omega
          · exact h2 n (List.mem_cons_of_mem _ hn)
end
def rMaxD (K : PySem.W.Frag) : List V → List V → Hp → VK → Prop := fun xs zs H Q => ∃ (a : Addr) (ns : List Int), xs = [.ref a] ∧ zs = [.non] ∧ SqL K H a (ns.map V.int) ∧ (ns = [] → Q .non H) ∧ ∀ m, m ∈ ns → (∀ n ∈ ns, n ≤ m) → Q (.int m) H
theorem ints_holdM {h : Heap} : ∀ {ns : List Int} {us : List Value}, Vals (ns.map V.int) us → PySem.W.HoldAll h us ns
  | [], _, .nil => PySem.W.HoldAll.nil
  | n :: r, _, .cons ⟨t, e⟩ rr => by
    rw [e]
    exact PySem.W.HoldAll.cons (PySem.W.holds_int n t) (ints_holdM rr)
theorem call_maxD (K : PySem.W.Frag) {X : Cx} (hc : X.calm = true) (hu : X.A.units + 64 < cLine) (h : X.K = K := by rfl) : CallRK X (.builtin "max") ["default"] (rMaxD K) := by
  subst h
  intro pins s σ H xs zs us ws Q I rx rz h
  obtain ⟨a, ns, rfl, rfl, hs, q0, q1⟩ := h
  obtain ⟨its, rv, hl, _⟩ := I.list hs
  rw [Vals.ref1 rx]
  cases rz with
  | cons e rr =>
    cases rr
    cases (show _ = Value.none from e)
    refine PySem.W.max_list_datum_default (I.ok.hd hc) hl.isList (ints_holdM rv) (by show X.A.units + 1 + 0 < cLine; omega) (fun e h' tk hk => ⟨.non, H, I.kept hk, rfl, q0 e⟩) (fun y ys i v h' tk e hi hv hk => ?_)
    subst e
    obtain ⟨h1, h2⟩ := maxOf_mem y ys
    obtain ⟨bs, r⟩ := hv
    have q2 := q1 _ h1 h2
    have e3 : PySem.W.Datum.toD (PySem.W.maxOf y ys) = PyData.int (PySem.W.maxOf y ys) := rfl
    rw [e3] at r
    generalize PySem.W.maxOf y ys = m at r q2
    cases r
    exact ⟨.int m, H, I.kept hk, ⟨_, rfl⟩, q2⟩
theorem kk_sortedS (K : PySem.W.Frag) {X : Cx} (h : X.K = K := by rfl) : CallR X (.builtin "sorted") (rSortedS K) := h ▸ cr_sortedS
theorem kk_listD (K : PySem.W.Frag) {X : Cx} (hc : X.calm = true) : CallR X (.type "list") (fun xs H Q => ∃ (a : Addr) (kvs : List (Key × V)), xs = [.ref a] ∧ Rd H a (.dK kvs) ∧ ∀ p, H p = none → Q (.ref p) (upd H p (.lst (kvs.map fun kv => kV kv.1)))) := call_listD hc
/-- name = {k: v for ..} on one line, the name a local one -/
theorem sw_dict {kx vx : Expr} {gs : List Comprehension} {scope : Scope} {pos py : Pos} {y : Str} {l : Nat} {env : Env} (fn : env.scope.kind = .function) (loc : env.scope.names.lookup y = some .local) (line : (py.line == pos.line) = true)
    (own : (scope.names.any fun (n, k) => n == y && (k == .local || k == .cell)) = false) : swapsWith (.DictComp kx vx gs scope pos) (some (.Name y py)) l env = pure true := by
  have ky : env.kindOf y = some .local := loc
  have kb : env.blockKind = .function := by
    unfold Env.blockKind
    rw [fn]
    rfl
  unfold swapsWith
  simp only [kb, ky, own, Expr.pos, line]
  rfl
theorem ps_setDc {X : Cx} {i : Nat} {y : Str} {py : Pos} {kx vx tg iter : Expr} {ifs : List Expr} {scope : Scope} {own : List (Str × Nat)} {pos spos : Pos} {wi : TI} {g : TG} {tt : TT} {tk tv : TE} (calm : X.calm = true) (nd : X.N.Nodup) (at_ : X.N[i]? = some y) (loc : X.env.scope.names.lookup y = some .local)
    (sw : swapsWith (.DictComp kx vx [⟨tg, iter, ifs, 0⟩] scope pos) (some (.Name y py)) spos.line X.env = pure true) (walk : PI X tg iter wi) (ok : BlkOk X.N X.env.scope scope own)
    (hg : ∀ (s : Shared) (H : Hp) (C : Addr) (cl : List (Str × Addr)) (fp : List Addr), PG (X.blk s H scope (compEnvC scope cl C X.env) fp) tg g)
    (ht : ∀ (s : Shared) (H : Hp) (C : Addr) (cl : List (Str × Addr)) (fp : List Addr), PTs (X.blk s H scope (compEnvC scope cl C X.env) fp) ifs tt)
    (hk : ∀ (s : Shared) (H : Hp) (C : Addr) (cl : List (Str × Addr)) (fp : List Addr), PE (X.blk s H scope (compEnvC scope cl C X.env) fp) kx tk)
    (hv : ∀ (s : Shared) (H : Hp) (C : Addr) (cl : List (Str × Addr)) (fp : List Addr), PE (X.blk s H scope (compEnvC scope cl C X.env) fp) vx tv)
    (fold : ∀ x, foldedSetIterable iter X.env x = pure x := by intro _; rfl) :
    PS X (.Assign [.Name y py] (.DictComp kx vx [⟨tg, iter, ifs, 0⟩] scope pos) spos) (tAsg (tDc wi g tt tk tv (own.map (·.2))) (gName i)) := by
  constructor
  intro pins s σ H D I h
  rw [exec_Assign_Name_used _ _ _ _ sw]
  refine wpAny_bind (wpAny_standAt (wpAny_bind ?_))
  show wpAny _ X.A (do let _ ← comprehension (.DictComp kx vx [⟨tg, iter, ifs, 0⟩] scope pos) scope X.env (firstIterPos [⟨tg, iter, ifs, 0⟩] pos) newDict false (eval iter X.env) (some (assign (.Name y py) X.env))) _ _ s
  have want : tDc wi g tt tk tv (own.map (·.2)) σ H (fun x G => gName i x σ G D.nx) := h
  refine wpAny_bind (thn (dc_core (Qf := fun _ s' => SP X pins D .next s') calm nd I walk ok hg ht hk hv fold want fun L C s' m G J q ns fp => ?_) fun _ s' hq => wpAny_pure (wpAny_pure hq))
  show wpAny _ _ (assign (.Name y py) X.env (.ref L)) _ _ _
  refine wpAny_assign_Name (store_ok2 (v := V.ref L) J nd at_ (.inl loc) rfl (fun s2 J2 ⟨a, same, which⟩ => ?_) (.inr loc))
  obtain ⟨f0, f1, _, f3, f4, f5⟩ := fp
  have apart : C ≠ a := which.elim (fun z => by rw [z]; exact f1) (fun z e => f4 y a z e.symm)
  exact ⟨m, ns.sameBut same apart, fun h3 same3 => ⟨_, G, J2.turned (t' := s2.toks) (fun b o hb e => (same3.2 b hb).trans e) f0 f1 f3 f4 f5, q⟩⟩
end SD
/-! ### xs[::k], xs a list -/
namespace EV
open PySem PySem.Spec PyProof.Rows L2
def ixs (k : Int) (n : Nat) : List Nat := sliceRange (sliceBounds none none (some k) n).1 (sliceBounds none none (some k) n).2.1 (sliceBounds none none (some k) n).2.2
def pick {α : Type} (k : Int) (xs : List α) : List α := (ixs k xs.length).filterMap (xs[·]?)
theorem pick_map {α β : Type} (f : α → β) (k : Int) (xs : List α) : pick k (xs.map f) = (pick k xs).map f := by
  unfold pick
  rw [List.length_map, List.map_filterMap]
  congr 1
  funext i
  rw [List.getElem?_map]
theorem pick_mem {α : Type} {k : Int} {xs : List α} {x : α} (h : x ∈ pick k xs) : x ∈ xs := by
  obtain ⟨i, _, e⟩ := List.mem_filterMap.mp h
  exact List.mem_of_getElem? e
theorem vals_pick {xs : List V} {its : List Value} (r : Vals xs its) : ∀ ix : List Nat, Vals (ix.filterMap (xs[·]?)) (ix.filterMap (its[·]?))
  | [] => .nil
  | i :: t => by
    rw [List.filterMap_cons, List.filterMap_cons]
    cases e : xs[i]? with
    | none =>
      rw [r.none_of e]
      exact vals_pick r t
    | some x =>
      obtain ⟨u, eu, ru⟩ := r.get e
      rw [eu]
      exact .cons ru (vals_pick r t)
def tEvery (K : PySem.W.Frag) (k : Int) (te : TE) : TE := fun σ H Q => te σ H fun x G => ∃ a xs, x = .ref a ∧ SqL K G a xs ∧ (pick k xs).length ≤ sizeLine ∧ ∀ p, G p = none → Q (.ref p) (upd G p (.lst (pick k xs)))
theorem pe_every {X : Cx} {e : Expr} {te : TE} {k : Int} {j : Nat} {p1 p3 pos : Pos} (he : PE X e te) (k0 : k ≠ 0 := by decide) : PE X (.Subscript e (.Slice none none (some (.Constant (.int k) j p1)) p3) pos) (tEvery X.K k te) := by
  constructor
  intro pins s σ H Q I h
  refine Subscript_ (thn (he.run pins s σ H _ I h) fun v s1 ⟨x, G, J, r1, a, xs, ex, hx, fit, q⟩ => ?_)
  subst ex
  obtain rfl : v = Value.ref a := r1
  have hst : PO X (some (.Constant (.int k) j p1)) (tPart (tC (.int k))) := po_some pe_int
  refine wpAny_Slice (thn (po_none.run pins s1 σ G (fun o G2 => o = none ∧ G2 = G) J ⟨rfl, rfl⟩) fun vl s2 ⟨l, G2, J2, pl, el, e2⟩ => ?_)
  subst el e2
  refine thn (po_none.run pins s2 σ G2 (fun o G3 => o = none ∧ G3 = G2) J2 ⟨rfl, rfl⟩) fun vu s3 ⟨u, G3, J3, pu, eu, e3⟩ => ?_
  subst eu e3
  refine thn (hst.run pins s3 σ G3 (fun o G4 => o = some k ∧ G4 = G3) J3 ⟨k, rfl, rfl, rfl⟩) fun vs s4 ⟨o, G4, J4, ps, eo, e4⟩ => ?_
  subst eo e4
  have J5 : Inv X pins σ G4 { s4 with heap := s4.heap.push { cls := .type "slice", data := .fields #[vl, vu, vs] } } := J4.kept (t' := s4.toks) fun b ob q => Heap.get?_push_of_some _ q
  obtain ⟨its, r, ht, hz⟩ := J5.list hx
  have many := r.length
  show wpAny (model X.prog X.w) X.A (subscriptTail e (.Slice none none (some (.Constant (.int k) j p1)) p3) (.ref a) (.ref s4.heap.objs.size)) (EP X pins σ Q) X.xe { s4 with heap := s4.heap.push { cls := .type "slice", data := .fields #[vl, vu, vs] } }
  refine tail_any (ops := [.ref a, .ref s4.heap.objs.size]) ht.isList.typeIs (PySem.slot_list_getitem.lookup) ?_ (by with_unfolding_all rfl)
  refine wpAny_getItem_list_slice ht.isList (Heap.IsSliceOf.new _ vl vu vs) pl pu ps (by simpa using k0) ?_ (by rw [List.size_toArray]; omega)
  have made : (slicePick its.toArray none none (some k)) = ((ixs k xs.length).filterMap (its[·]?)).toArray := by
    unfold slicePick ixs
    rw [List.size_toArray, ← many]
    simp
  rw [made]
  refine ⟨.ref _, _, J5.laid (t' := s4.toks) (o := .lst (pick k xs)) (fun b ob q => Heap.get?_push_of_some _ q) (Nat.le_refl _) ?_, rfl, q _ (J5.hok.fresh (Nat.le_refl _))⟩
  exact ⟨fit, _, 0, vals_pick r _, Heap.get?_push_size _ rfl⟩
end EV
/-! ### shown texts: all their signs are signs -/
def Low (s : Str) : Prop := ∀ c ∈ TL.tl s, c < 16 ^ 8
theorem Low.app {x y : Str} (hx : Low x) (hy : Low y) : Low (x ++ y) := fun c hc => by
  rw [TL.tl_append] at hc
  exact (List.mem_append.mp hc).elim (hx c) (hy c)
theorem low_chars (l : List Char) : ∀ c ∈ l.map Char.toNat, c < 16 ^ 8 := fun c hc => by
  obtain ⟨ch, _, rfl⟩ := List.mem_map.mp hc
  have h : ch.toNat < 1114112 := by
    have := ch.valid
    rcases this with h | h
    · exact Nat.lt_of_lt_of_le h (by decide)
    · exact h.2
  exact Nat.lt_of_lt_of_le h (by decide)
theorem low_of (s : String) : Low (Str.ofString s) := fun c hc => by
  rw [TL.tl_ofString] at hc
  exact low_chars _ c hc
theorem low_join {y : Str} (hy : Low y) : ∀ {ws : List Str}, (∀ w ∈ ws, Low w) → Low (Str.join y ws)
  | [], _ => fun c hc => by cases hc
  | [a], h => h a List.mem_cons_self
  | a :: b :: r, h => ((h a List.mem_cons_self).app hy).app (low_join hy fun w hw => h w (List.mem_cons_of_mem _ hw))
theorem low_hex (k n : Nat) : ∀ c ∈ List.replicate k 48 ++ (Nat.toDigits 16 n).map Char.toNat, c < 16 ^ 8 := fun c hc => by
  rcases List.mem_append.mp hc with h | h
  · rw [List.eq_of_mem_replicate h]
    decide
  · exact low_chars _ c h
theorem low_char {q c : Nat} (hc : c < 16 ^ 8) : ∀ d ∈ Builtin.Str.reprChar q c, d < 16 ^ 8 := by
  unfold Builtin.Str.reprChar
  dsimp only
  have two : ∀ {a b d : Nat}, a < 16 ^ 8 → b < 16 ^ 8 → d ∈ [a, b] → d < 16 ^ 8 := fun {a b d} ha hb h => by
    rcases List.mem_cons.mp h with rfl | h
    · exact ha
    · rw [List.mem_singleton.mp h]
      exact hb
  repeat' split
  all_goals intro d hd
  all_goals first
    | exact two (by decide) hc hd
    | exact two (by decide) (by decide) hd
    | (rw [List.mem_singleton.mp hd]; exact hc)
    | (rcases List.mem_append.mp hd with h | h
       · exact two (by decide) (by decide) h
       · exact low_hex _ _ d h)
theorem low_fold (q : Nat) : ∀ (l : List Nat) (acc : Array Nat), (∀ c ∈ l, c < 16 ^ 8) → (∀ c ∈ acc.toList, c < 16 ^ 8) → ∀ c ∈ (l.foldl (fun out c => out ++ (Builtin.Str.reprChar q c).toArray) acc).toList, c < 16 ^ 8
  | [], acc, _, ha => ha
  | x :: r, acc, h, ha => by
    rw [List.foldl_cons]
    refine low_fold q r _ (fun c hc => h c (List.mem_cons_of_mem _ hc)) fun c hc => ?_
    rw [Array.toList_append] at hc
    rcases List.mem_append.mp hc with z | z
    · exact ha c z
    · exact low_char (h x List.mem_cons_self) c (by simpa using z)
theorem low_repr {x : Str} (hx : Low x) : Low (reprText x) := fun c hc => by
  unfold reprText at hc
  have hq : reprQuote x < 16 ^ 8 := by
    unfold reprQuote
    split <;> decide
  have e : TL.tl (⟨(x.cps.foldl (fun out c => out ++ (Builtin.Str.reprChar (reprQuote x) c).toArray) #[reprQuote x]).push (reprQuote x)⟩ : Str) = (x.cps.foldl (fun out c => out ++ (Builtin.Str.reprChar (reprQuote x) c).toArray) #[reprQuote x]).toList ++ [reprQuote x] := Array.toList_push
  have hc := (show c ∈ (x.cps.foldl (fun out c => out ++ (Builtin.Str.reprChar (reprQuote x) c).toArray) #[reprQuote x]).toList ++ [reprQuote x] from e ▸ hc)
  rcases List.mem_append.mp hc with z | z
  · rw [← Array.foldl_toList] at z
    exact low_fold (reprQuote x) x.cps.toList #[reprQuote x] (fun d hd => hx d hd) (fun d hd => by rw [show d = reprQuote x from by simpa using hd]; exact hq) c z
  · rw [List.mem_singleton.mp z]
    exact hq
theorem low_int (i : Int) : Low (PyData.shown (.int i)) := by
  simp only [PyData.shown]
  exact low_of _
theorem low_all : ∀ {l : List PyData}, (∀ d ∈ l, Low (PyData.shown d)) → ∀ w ∈ PyData.shownAll l, Low w
  | [], _, w, hw => by
    rw [PyData.shownAll_nil] at hw
    cases hw
  | d :: r, h, w, hw => by
    rw [PyData.shownAll_cons] at hw
    rcases List.mem_cons.mp hw with rfl | hw
    · exact h d List.mem_cons_self
    · exact low_all (fun x hx => h x (List.mem_cons_of_mem _ hx)) w hw
theorem low_list {l : List PyData} (h : ∀ d ∈ l, Low (PyData.shown d)) : Low (PyData.shown (.list l)) := by
  rw [PyData.shown_list]
  exact ((low_of "[").app (low_join (low_of ", ") (low_all h))).app (low_of "]")
theorem low_tuple {l : List PyData} (h : ∀ d ∈ l, Low (PyData.shown d)) : Low (PyData.shown (.tuple l)) := by
  rw [PyData.shown_tuple]
  refine ((low_of "(").app (low_join (low_of ", ") (low_all h))).app ?_
  split <;> exact low_of _
theorem low_str {x : Str} (h : Low x) : Low (PyData.shown (.str x)) := by
  rw [PyData.shown_str]
  exact low_repr h
theorem Asc.low {x : Str} (h : Asc x) : Low x := fun c hc => Nat.lt_of_lt_of_le (h c hc) (by decide)
theorem repr_len {x : Str} (h : Low x) : (reprText x).length ≤ 10 * x.length + 2 := StrLaws.reprText_len x h
/-! ### zip of a list and a tuple, of a text and a list -/
end Pw
namespace ZM
open PySem PySem.Spec PyProof.Rows L2
/-- what a zip draws of -/
structure Src (P : Program) (w : World) (K : PySem.W.Frag) (ad : List Addr) where
  St : Addr → Nat → Heap → Prop
  At : Nat → V → Hp → Prop
  End : Nat → Hp → Prop
  Fact : Nat → V → Hp → Prop
  obj : ∀ it i h, St it i h → ∃ o, h.get? it = some o ∧ ∀ v, o.data ≠ .cell v
  keep : ∀ it i h h', St it i h → (∀ o, h.get? it = some o → h'.get? it = some o) → St it i h'
  item : ∀ (X : Cx), X.prog = P → X.w = w → X.K = K → ∀ (pins : List (Addr × Obj)) (s : Shared) (σ : L2.St) (H : Hp), Inv X pins σ H s → ∀ (A : Around), A.handled = none → ∀ (it : Addr) (i : Nat) (x : V), (∀ a ∈ ad, a ≠ it) → St it i s.heap → At i x H →
    Fact i x H ∧ ∃ (n : Nat) (Pv : Nat → Value → Prop) (Sv : Nat → Heap → Prop), Draws P w A it (it :: ad) n Pv Sv ∧ i < n ∧ Sv i s.heap ∧ (∀ v, Pv i v → RelV x v) ∧ ∀ h, Sv (i + 1) h → St it (i + 1) h
  stop : ∀ (X : Cx), X.prog = P → X.w = w → X.K = K → ∀ (pins : List (Addr × Obj)) (s : Shared) (σ : L2.St) (H : Hp), Inv X pins σ H s → ∀ (A : Around), A.handled = none → ∀ (it : Addr) (i : Nat), (∀ a ∈ ad, a ≠ it) → St it i s.heap → End i H →
    ∃ (n : Nat) (Pv : Nat → Value → Prop) (Sv : Nat → Heap → Prop), Draws P w A it (it :: ad) n Pv Sv ∧ i = n ∧ Sv i s.heap
def itOf (A1 A2 F1 F2 : Nat → V → Hp → Prop) (E1 E2 : Nat → Hp → Prop) : It :=
  ⟨fun i H => ∃ x y, A1 i x H ∧ A2 i y H,
    fun i H v H' => ∃ T x y, v = .ref T ∧ H T = none ∧ H' = upd H T (.tup [x, y]) ∧ F1 i x H ∧ F2 i y H,
    fun i H => (E1 i H ∧ (E2 i H ∨ ∃ y, A2 i y H)) ∨ (E2 i H ∧ ∃ x, A1 i x H)⟩
theorem turn_zipM {P : Program} {w : World} {K : PySem.W.Frag} {elts : List Expr} {kk : Nat} {tpos : Pos} {ad1 ad2 : List Addr} (S1 : Src P w K ad1) (S2 : Src P w K ad2) {z TI TO i1 i2 : Addr} (D : ZipSep2 z TI TO i1 i2 (i1 :: ad1) (i2 :: ad2)) (q1 : ∀ a ∈ ad1, a ≠ i1) (q2 : ∀ a ∈ ad2, a ≠ i2) :
    Turn P w K (.Tuple elts kk tpos) (itOf S1.At S2.At S1.Fact S2.Fact S1.End S2.End) [z, TI, TO, i1, i2] z (fun i h => IsZip h z TI TO .none ∧ IsTupOf2 h TI (.ref i1) (.ref i2) ∧ (∃ x y, IsTupOf2 h TO x y) ∧ S1.St i1 i h ∧ S2.St i2 i h) where
  mem := by simp
  obj := fun i h st c hc => by
    obtain ⟨hz, hTI, ⟨x, y, hTO⟩, h1, h2⟩ := st
    have e' : c = z ∨ c = TI ∨ c = TO ∨ c = i1 ∨ c = i2 := by simpa using hc
    rcases e' with q | q | q | q | q
    · rw [q]; exact ⟨_, hz, fun v q => nomatch q⟩
    · rw [q]; exact ⟨_, hTI, fun v q => nomatch q⟩
    · rw [q]; exact ⟨_, hTO, fun v q => nomatch q⟩
    · rw [q]; exact S1.obj _ _ _ h1
    · rw [q]; exact S2.obj _ _ _ h2
  keep := fun i h h' st k => by
    obtain ⟨hz, hTI, ⟨x, y, hTO⟩, h1, h2⟩ := st
    exact ⟨k z (by simp) _ hz, k TI (by simp) _ hTI, ⟨x, y, k TO (by simp) _ hTO⟩, S1.keep _ _ _ _ h1 fun o q => k i1 (by simp) o q, S2.keep _ _ _ _ h2 fun o q => k i2 (by simp) o q⟩
  item := by
    intro X hP hw hK hc i pins s σ H E I hf st hg
    obtain ⟨hz, hTI, ⟨x0, y0, hTO⟩, h1, h2⟩ := st
    obtain ⟨x, y, hx, hy⟩ := hg
    have hd := I.ok.hd hc
    obtain ⟨f1, n1, P1, V1, D1, l1, e1, r1, b1⟩ := S1.item X hP hw hK pins s σ H I X.A.in1 hd i1 i x q1 h1 hx
    obtain ⟨f2, n2, P2, V2, D2, l2, e2, r2, b2⟩ := S2.item X hP hw hK pins s σ H I X.A.in1 hd i2 i y q2 h2 hy
    subst hP hw hK
    have hzl : z < s.heap.objs.size := Heap.lt_size hz
    refine wpAny_pyNext_zipD2_item D D1 D2 hz hTI hTO e1 e2 l1 l2 fun u u2 h' tk hu hu2 z' TO' g1 g2 hT hsz hk => ?_
    refine ⟨_, rfl, wpAny_letOwnedTupleGo_zip (s := { s with heap := h', toks := tk }) z' fun h'' z'' sb => ?_⟩
    have hT2 : h''.get? s.heap.objs.size = some { cls := .type "tuple", data := .seq #[u, u2] } := (sb.2 _ (Nat.ne_of_gt hzl)).trans hT
    have new : ObjOk X.prog X.w (upd H s.heap.objs.size (.tup [x, y])) h'' s.heap.objs.size (.tup [x, y]) :=
      ⟨by show 2 ≤ sizeLine; decide, [u, u2], .cons (r1 _ hu) (.cons (r2 _ hu2) .nil), ⟨_, hT2, rfl, _, rfl⟩⟩
    have I1 : Inv X pins σ (upd H s.heap.objs.size (.tup [x, y])) { s with heap := h'', toks := tk } :=
      I.turnedNew (t' := tk) (ch := [z, TI, TO, i1, i2]) (fun c o hb q => (sb.2 c (fun q' => hb (by simp [q']))).trans (hk c o (fun q' => hb (by simp [q'])) (fun q' => hb (by simp [q'])) (fun q' => hb (by simp [q'])) (fun q' => hb (by simp [q'])) q)) hf (Nat.le_refl _) new
    refine ⟨.ref s.heap.objs.size, _, I1, rfl, ⟨_, x, y, rfl, I.hok.fresh (Nat.le_refl _), rfl, f1, f2⟩, ⟨z'', ?_, ⟨u, u2, ?_⟩, ?_, ?_⟩, fun c hcm => ?_⟩
    · exact (sb.2 _ D.TIz).trans (hk _ _ D.TIz D.TITO D.TIi1 D.TIi2 hTI)
    · exact (sb.2 _ D.TOz).trans TO'
    · exact S1.keep _ _ _ _ (b1 _ g1) fun o q => (sb.2 _ D.zi1.symm).trans q
    · exact S2.keep _ _ _ _ (b2 _ g2) fun o q => (sb.2 _ D.zi2.symm).trans q
    · have hlt : c < s.heap.objs.size := by
        have e' : c = z ∨ c = TI ∨ c = TO ∨ c = i1 ∨ c = i2 := by simpa using hcm
        rcases e' with q | q | q | q | q
        · rw [q]; exact hzl
        · rw [q]; exact Heap.lt_size hTI
        · rw [q]; exact Heap.lt_size hTO
        · rw [q]; obtain ⟨_, e1, _⟩ := S1.obj _ _ _ h1; exact Heap.lt_size e1
        · rw [q]; obtain ⟨_, e2, _⟩ := S2.obj _ _ _ h2; exact Heap.lt_size e2
      rw [upd_ne (Nat.ne_of_lt hlt)]
      exact (hf c hcm).1
  done := by
    intro X hP hw hK hc i pins s σ H E I hf st hg
    obtain ⟨hz, hTI, ⟨x0, y0, hTO⟩, h1, h2⟩ := st
    have hd := I.ok.hd hc
    have fin : ∀ {n1 n2 : Nat} {P1 P2 : Nat → Value → Prop} {V1 V2 : Nat → Heap → Prop}, Draws P w X.A.in1 i1 (i1 :: ad1) n1 P1 V1 → Draws P w X.A.in1 i2 (i2 :: ad2) n2 P2 V2 → V1 i s.heap → V2 i s.heap → i ≤ n1 → i ≤ n2 → (i = n1 ∨ i = n2) →
        wpAny (model P w) X.A (pyNext (.ref z)) (fun r s1 => r = none ∧ Inv X pins σ H s1) E s := fun D1 D2 e1 e2 l1 l2 le => by
      refine wpAny_pyNext_zipD2_end D D1 D2 hz hTI hTO e1 e2 l1 l2 le fun h' tk hk => ⟨rfl, I.turnedL (t' := tk) (ch := [z, TI, TO, i1, i2]) (fun c o hb q =>
        hk c o (fun q' => hb (by simp [q'])) (fun q' => hb (by simp [q'])) (fun q' => hb (by simp [q'])) (fun q' => hb (by simp [q'])) q) hf⟩
    rcases hg with ⟨g1, g2 | ⟨y, g2⟩⟩ | ⟨g2, x, g1⟩
    · obtain ⟨n1, P1, V1, D1, l1, e1⟩ := S1.stop X hP hw hK pins s σ H I X.A.in1 hd i1 i q1 h1 g1
      obtain ⟨n2, P2, V2, D2, l2, e2⟩ := S2.stop X hP hw hK pins s σ H I X.A.in1 hd i2 i q2 h2 g2
      exact fin D1 D2 e1 e2 (Nat.le_of_eq l1) (Nat.le_of_eq l2) (.inl l1)
    · obtain ⟨n1, P1, V1, D1, l1, e1⟩ := S1.stop X hP hw hK pins s σ H I X.A.in1 hd i1 i q1 h1 g1
      obtain ⟨f2, n2, P2, V2, D2, l2, e2, r2, b2⟩ := S2.item X hP hw hK pins s σ H I X.A.in1 hd i2 i y q2 h2 g2
      exact fin D1 D2 e1 e2 (Nat.le_of_eq l1) (Nat.le_of_lt l2) (.inl l1)
    · obtain ⟨f1, n1, P1, V1, D1, l1, e1, r1, b1⟩ := S1.item X hP hw hK pins s σ H I X.A.in1 hd i1 i x q1 h1 g1
      obtain ⟨n2, P2, V2, D2, l2, e2⟩ := S2.stop X hP hw hK pins s σ H I X.A.in1 hd i2 i q2 h2 g2
      exact fin D1 D2 e1 e2 (Nat.le_of_lt l1) (Nat.le_of_eq l2) (.inr l2)
  self := fun A i s Q E st h => wpAny_pyIter_zip st.1 h
/-! the three sorts -/
section
variable {P : Program} {w : World} {K : PySem.W.Frag}
def AtL (K : PySem.W.Frag) (a : Addr) : Nat → V → Hp → Prop := fun i x H => ∃ xs, SqL K H a xs ∧ xs[i]? = some x
def EndL (K : PySem.W.Frag) (a : Addr) : Nat → Hp → Prop := fun i H => ∃ xs, SqL K H a xs ∧ xs.length = i
def FactL (K : PySem.W.Frag) (a : Addr) : Nat → V → Hp → Prop := fun i x H => ∀ xs, SqL K H a xs → xs[i]? = some x
def AtT (K : PySem.W.Frag) (a : Addr) : Nat → V → Hp → Prop := fun i x H => ∃ xs, SqT K H a xs ∧ xs[i]? = some x
def EndT (K : PySem.W.Frag) (a : Addr) : Nat → Hp → Prop := fun i H => ∃ xs, SqT K H a xs ∧ xs.length = i
def FactT (K : PySem.W.Frag) (a : Addr) : Nat → V → Hp → Prop := fun i x H => ∀ xs, SqT K H a xs → xs[i]? = some x
def AtS (z : Str) : Nat → V → Hp → Prop := fun i x _ => ∃ c, z.cps[i]? = some c ∧ x = .str ⟨#[c]⟩
def EndS (z : Str) : Nat → Hp → Prop := fun i _ => z.cps.size = i
def srcL (a : Addr) : Src P w K [a] where
  St := fun it i h => h.IsListIter it a i
  At := AtL K a
  End := EndL K a
  Fact := FactL K a
  obj := fun it i h st => by
    obtain ⟨o1, e1, _, d1⟩ := st
    exact ⟨o1, e1, fun v q => by rw [d1] at q; cases q⟩
  keep := fun it i h h' st k => st.at k
  item := fun X hP hw hK pins s σ H I A hh it i x ne st hx => by
    subst hP hw hK
    obtain ⟨xs, hq, hx⟩ := hx
    obtain ⟨its, rv, p, _⟩ := I.list hq
    obtain ⟨u, hu, ru⟩ := rv.get hx
    refine ⟨fun l hl => by rw [I.list_inj hl hq]; exact hx, _, _, _, Draws.list hh it a (ne a (by simp)) its.toArray, ?_, ⟨st, p.isList⟩, fun v hv => ?_, fun h st => st.1⟩
    · rw [List.size_toArray]
      exact (List.getElem?_eq_some_iff.mp hu).1
    · have hv : its[i]? = some v := by simpa using hv
      rw [hu] at hv
      cases hv
      exact ru
  stop := fun X hP hw hK pins s σ H I A hh it i ne st hx => by
    subst hP hw hK
    obtain ⟨xs, hq, hx⟩ := hx
    obtain ⟨its, rv, p, _⟩ := I.list hq
    exact ⟨_, _, _, Draws.list hh it a (ne a (by simp)) its.toArray, by rw [List.size_toArray, ← rv.length, hx], st, p.isList⟩
def srcT (a : Addr) : Src P w K [a] where
  St := fun it i h => h.IsTupleIter it a i
  At := AtT K a
  End := EndT K a
  Fact := FactT K a
  obj := fun it i h st => by
    obtain ⟨o1, e1, _, d1⟩ := st
    exact ⟨o1, e1, fun v q => by rw [d1] at q; cases q⟩
  keep := fun it i h h' st k => st.at k
  item := fun X hP hw hK pins s σ H I A hh it i x ne st hx => by
    subst hP hw hK
    obtain ⟨xs, hq, hx⟩ := hx
    obtain ⟨its, rv, p, _⟩ := I.tuple hq
    obtain ⟨u, hu, ru⟩ := rv.get hx
    have p2 : s.heap.IsTuple a its.toArray := p
    refine ⟨fun l hl => by rw [I.tuple_inj hl hq]; exact hx, _, _, _, Draws.tuple hh it a (ne a (by simp)) its.toArray, ?_, ⟨st, p2⟩, fun v hv => ?_, fun h st => st.1⟩
    · rw [List.size_toArray]
      exact (List.getElem?_eq_some_iff.mp hu).1
    · have hv : its[i]? = some v := by simpa using hv
      rw [hu] at hv
      cases hv
      exact ru
  stop := fun X hP hw hK pins s σ H I A hh it i ne st hx => by
    subst hP hw hK
    obtain ⟨xs, hq, hx⟩ := hx
    obtain ⟨its, rv, p, _⟩ := I.tuple hq
    have p2 : s.heap.IsTuple a its.toArray := p
    exact ⟨_, _, _, Draws.tuple hh it a (ne a (by simp)) its.toArray, by rw [List.size_toArray, ← rv.length, hx], st, p2⟩
def srcS (z : Str) : Src P w K [] where
  St := fun it i h => ∃ t, h.IsStrIter it (strIterType z) z t i
  At := AtS z
  End := EndS z
  Fact := AtS z
  obj := fun it i h st => by
    obtain ⟨t, o1, e1, _, d1⟩ := st
    exact ⟨o1, e1, fun v q => by rw [d1] at q; cases q⟩
  keep := fun it i h h' st k => by
    obtain ⟨t, o1, e1, r⟩ := st
    exact ⟨t, o1, k _ e1, r⟩
  item := fun X hP hw hK pins s σ H I A hh it i x ne st hx => by
    subst hP hw hK
    obtain ⟨c, hc, rfl⟩ := id hx
    obtain ⟨t, st⟩ := st
    refine ⟨hx, _, _, _, Draws.text hh it z t, (Array.getElem?_eq_some_iff.mp hc).1, st, fun v hv => ?_, fun h st => ⟨t, st⟩⟩
    obtain ⟨d, u, hd, rfl⟩ := hv
    rw [hc] at hd
    cases hd
    exact ⟨u, rfl⟩
  stop := fun X hP hw hK pins s σ H I A hh it i ne st hx => by
    subst hP hw hK
    obtain ⟨t, st⟩ := st
    exact ⟨_, _, _, Draws.text hh it z t, hx.symm, st⟩
end
def ItLT (K : PySem.W.Frag) (a b : Addr) : It := itOf (AtL K a) (AtT K b) (FactL K a) (FactT K b) (EndL K a) (EndT K b)
def ItSL (K : PySem.W.Frag) (z : Str) (b : Addr) : It := itOf (AtS z) (AtL K b) (AtS z) (FactL K b) (EndS z) (EndL K b)
def iZipLT (K : PySem.W.Frag) (ta : TA) : TI := fun σ H R => ta σ H fun vs H1 => ∃ a b xs ys, vs = [.ref a, .ref b] ∧ SqL K H1 a xs ∧ SqT K H1 b ys ∧ R (ItLT K a b) H1
def iZipSL (K : PySem.W.Frag) (ta : TA) : TI := fun σ H R => ta σ H fun vs H1 => ∃ z b ys, vs = [.str z, .ref b] ∧ SqL K H1 b ys ∧ R (ItSL K z b) H1
section
variable {X : Cx} {e e2 : Expr} {ta : TA} {p pos tpos : Pos} {elts : List Expr} {kk : Nat}
theorem pie_mix {pins : List (Addr × Obj)} {σ : L2.St} {H1 : Hp} {s1 : Shared} {R : It → Hp → Prop} {ad1 ad2 : List Addr} (I1 : Inv X pins σ H1 s1) (S1 : Src X.prog X.w X.K ad1) (S2 : Src X.prog X.w X.K ad2) {v1 v2 : Value} {o1 o2 : Obj} {P1 P2 : Heap → Prop} (B1 : Begins v1 o1 P1) (B2 : Begins v2 o2 P2) (h1 : P1 s1.heap) (h2 : P2 s1.heap)
    (l1 : ∀ a ∈ ad1, a < s1.heap.objs.size) (l2 : ∀ a ∈ ad2, a < s1.heap.objs.size) (b1 : ∀ it h', h'.get? it = some o1 → S1.St it 0 h') (b2 : ∀ it h', h'.get? it = some o2 → S2.St it 0 h') (q : R (itOf S1.At S2.At S1.Fact S2.Fact S1.End S2.End) H1) :
    wpAny (model X.prog X.w) X.A (call (.type "zip") [v1, v2]) (fun v s2 => wpAny (model X.prog X.w) X.A (pyIter v) (PIE X pins σ (.Tuple elts kk tpos) R) X.xe s2) X.xe s1 := by
  have fresh5 : ∀ c, c ∈ [s1.heap.objs.size + 4, s1.heap.objs.size + 2, s1.heap.objs.size + 3, s1.heap.objs.size, s1.heap.objs.size + 1] → FpOk X pins H1 c := fun c hcm => by
    have e' : c = s1.heap.objs.size + 4 ∨ c = s1.heap.objs.size + 2 ∨ c = s1.heap.objs.size + 3 ∨ c = s1.heap.objs.size ∨ c = s1.heap.objs.size + 1 := by simpa using hcm
    have hle : s1.heap.objs.size ≤ c := by
      rcases e' with z | z | z | z | z
      · rw [z]; exact Nat.le_add_right _ _
      · rw [z]; exact Nat.le_add_right _ _
      · rw [z]; exact Nat.le_add_right _ _
      · rw [z]; exact Nat.le_refl _
      · rw [z]; exact Nat.le_add_right _ _
    exact I1.fpOk hle (I1.hok.fresh hle)
  refine zip_begins2 B1 B2 h1 h2 fun h' hz hTI hTO g1 g2 hsz hk => wpAny_pyIter_zip hz ?_
  have I2 : Inv X pins σ H1 { s1 with heap := h' } := I1.kept (t' := s1.toks) hk
  exact ⟨s1.heap.objs.size + 4, [s1.heap.objs.size + 4, s1.heap.objs.size + 2, s1.heap.objs.size + 3, s1.heap.objs.size, s1.heap.objs.size + 1], _, _, H1, rfl, I2, turn_zipM S1 S2 (zip_sep2 l1 l2) (fun a ha => Nat.ne_of_lt (l1 a ha)) (fun a ha => Nat.ne_of_lt (Nat.lt_succ_of_lt (l2 a ha))), ⟨hz, hTI, ⟨_, _, hTO⟩, b1 _ _ g1, b2 _ _ g2⟩, fresh5, q⟩
theorem pi_zipLT (hg : Gl X "zip") (hm : X.mg "zip" = none) (ha : PA X [e, e2] ta)
    (hs : starEach [e, e2] X.env = (false, eval e X.env) :: starEach [e2] X.env := by rfl) (hpl : (backTo pos (starEach [e2] X.env)).any (·.1) = false := by rfl) :
    PI X (.Tuple elts kk tpos) (.Call (.Name "zip" p) [e, e2] [] pos) (iZipLT X.K ta) := by
  refine ⟨fun pins s σ H R I h => ?_⟩
  refine Call_ (ld_blt I hg hm PyProof.Rows.boot_zip (PyProof.Rows.callWith_type1 (thn (ha.run pos pins s σ H _ I h) fun us s1 ⟨vs, H1, I1, r1, q1⟩ => ?_) hs hpl))
  obtain ⟨a, b, xs, ys, ex, hqx, hqy, q⟩ := q1
  subst ex
  cases r1 with
  | cons r rr =>
    cases rr with
    | cons r' rr =>
      cases rr
      cases r
      cases r'
      obtain ⟨its, rv, p1, _⟩ := I1.list hqx
      obtain ⟨its2, rv2, p2, _⟩ := I1.tuple hqy
      have p3 : s1.heap.IsTuple b its2.toArray := p2
      obtain ⟨o2, ho2, _⟩ := id p2
      exact pie_mix I1 (srcL a) (srcT b) (begins_list a its.toArray) (begins_tuple b its2.toArray) p1.isList p3 (fun c hc => by rw [List.mem_singleton.mp hc]; exact p1.lt) (fun c hc => by rw [List.mem_singleton.mp hc]; exact Heap.lt_size ho2) (fun it h' e => ⟨_, e, rfl, rfl⟩) (fun it h' e => ⟨_, e, rfl, rfl⟩) q
theorem pi_zipSL (hg : Gl X "zip") (hm : X.mg "zip" = none) (ha : PA X [e, e2] ta)
    (hs : starEach [e, e2] X.env = (false, eval e X.env) :: starEach [e2] X.env := by rfl) (hpl : (backTo pos (starEach [e2] X.env)).any (·.1) = false := by rfl) :
    PI X (.Tuple elts kk tpos) (.Call (.Name "zip" p) [e, e2] [] pos) (iZipSL X.K ta) := by
  refine ⟨fun pins s σ H R I h => ?_⟩
  refine Call_ (ld_blt I hg hm PyProof.Rows.boot_zip (PyProof.Rows.callWith_type1 (thn (ha.run pos pins s σ H _ I h) fun us s1 ⟨vs, H1, I1, r1, q1⟩ => ?_) hs hpl))
  obtain ⟨z, b, ys, ex, hqy, q⟩ := q1
  subst ex
  cases r1 with
  | cons r rr =>
    cases rr with
    | cons r' rr =>
      cases rr
      obtain ⟨t, rfl⟩ := r
      cases r'
      obtain ⟨its2, rv2, p2, _⟩ := I1.list hqy
      exact pie_mix I1 (srcS z) (srcL b) (begins_text z t) (begins_list b its2.toArray) trivial p2.isList (fun c hc => nomatch hc) (fun c hc => by rw [List.mem_singleton.mp hc]; exact p2.lt) (fun it h' e => ⟨t, _, e, rfl, rfl⟩) (fun it h' e => ⟨_, e, rfl, rfl⟩) q
end
section
variable {K : PySem.W.Frag} {H : Hp} {a b : Addr} {xs ys : List V} {z : Str} {i : Nat}
theorem canLT (x : SqL K H a xs) (y : SqT K H b ys) : (i < min xs.length ys.length → (ItLT K a b).go i H) ∧ (i = min xs.length ys.length → (ItLT K a b).stop i H) := by
  refine ⟨fun c => ⟨_, _, ⟨xs, x, List.getElem?_eq_getElem (by omega)⟩, ⟨ys, y, List.getElem?_eq_getElem (by omega)⟩⟩, fun c => ?_⟩
  by_cases h : xs.length ≤ ys.length
  · refine .inl ⟨⟨xs, x, by omega⟩, ?_⟩
    by_cases h2 : xs.length = ys.length
    · exact .inl ⟨ys, y, by omega⟩
    · exact .inr ⟨_, ys, y, List.getElem?_eq_getElem (by omega)⟩
  · exact .inr ⟨⟨ys, y, by omega⟩, _, xs, x, List.getElem?_eq_getElem (by omega)⟩
theorem canSL (y : SqL K H b ys) : (i < min z.length ys.length → (ItSL K z b).go i H) ∧ (i = min z.length ys.length → (ItSL K z b).stop i H) := by
  have ez : z.length = z.cps.size := rfl
  refine ⟨fun c => ⟨_, _, ⟨z.cps[i]'(by omega), Array.getElem?_eq_getElem _, rfl⟩, ⟨ys, y, List.getElem?_eq_getElem (by omega)⟩⟩, fun c => ?_⟩
  by_cases h : z.length ≤ ys.length
  · refine .inl ⟨by show z.cps.size = i; omega, ?_⟩
    by_cases h2 : z.length = ys.length
    · exact .inl ⟨ys, y, by omega⟩
    · exact .inr ⟨_, ys, y, List.getElem?_eq_getElem (by omega)⟩
  · exact .inr ⟨⟨ys, y, by omega⟩, _, z.cps[i]'(by omega), Array.getElem?_eq_getElem _, rfl⟩
end
end ZM
namespace Pw
open PySem PySem.Spec PyProof.Rows L2
def topS (i : Nat) : Stmt := PySem.Challenge.pw_partwares_k36_prices_and_purses_at_their.main.body.getD i (.Pass ⟨0, 0, 0, 0⟩)
section
variable {P : Program} {w : World} {K : PySem.W.Frag} {mg : Str → Option Value} {base : Heap}
/-! ### _law_mix -/
abbrev s__law_mix : Stmt := topS 13
abbrev N__law_mix : List Str := ["_law_cell", "_law_k", "_law_m"]
theorem sc__law_mix : FnScope N__law_mix ["_law_cell", "_law_k"] (defScope s__law_mix) := ⟨rfl, rfl, rfl, by decide +kernel, rfl, by decide +kernel, by decide +kernel⟩
def sp__law_mix (K : PySem.W.Frag) : Sp := fun vs H Q _ => ∃ (x k : Int), vs = [.int x, .int k] ∧ 0 ≤ k ∧ k < 10000000000 ∧ ∀ r : Int, 0 ≤ r → r < 1999999973 → Q (.int r) H
theorem ok__law_mix {f : Addr} {fd : FuncData} (F : Fun K "_law_mix" "_law_mix" s__law_mix f fd) (g : mg "_law_mix" = some (.ref f)) (bd : Binds K fd ["_law_cell", "_law_k"] []) : CF P w K mg base 1 "_law_mix" ["_law_cell", "_law_k"] (sp__law_mix K) := by
  refine ⟨f, fd, F.ok sc__law_mix (fun vs H Q E h => ?_) (fun cdv A outer s H vs Q E hr h => ?_), g, F.kp, bd⟩
  · first | (obtain ⟨_, rfl, _⟩ := h; rfl) | (obtain ⟨_, _, rfl, _⟩ := h; rfl) | (obtain ⟨_, _, _, rfl, _⟩ := h; rfl) | (obtain ⟨_, _, _, _, rfl, _⟩ := h; rfl) | (obtain ⟨_, _, _, _, _, rfl, _⟩ := h; rfl) | (obtain ⟨_, _, _, _, _, _, rfl, _⟩ := h; rfl) | (obtain ⟨_, _, _, _, _, _, _, rfl, _⟩ := h; rfl) | (obtain ⟨_, _, _, _, _, _, _, _, rfl, _⟩ := h; rfl) | (obtain ⟨_, _, _, _, _, _, _, _, _, rfl, _⟩ := h; rfl) | (obtain ⟨_, _, _, _, _, _, _, _, _, _, rfl, _⟩ := h; rfl) | (obtain ⟨_, _, _, _, _, _, _, _, _, _, _, rfl, _⟩ := h; rfl) | (obtain ⟨_, _, _, _, _, _, _, _, _, _, _, _, rfl, _⟩ := h; rfl) | (obtain ⟨_, _, _, _, _, _, _, _, _, _, _, _, _, rfl, _⟩ := h; rfl) | (obtain ⟨_, _, _, _, _, _, _, _, _, _, _, _, _, _, rfl, _⟩ := h; rfl) | (obtain ⟨_, _, _, _, _, _, _, _, _, _, _, _, _, _, _, rfl, _⟩ := h; rfl)
  · have hu64 := hr.units
    obtain ⟨x, k, rfl, k0, k1, q⟩ := h
    refine ⟨_, (pss_cons (ps_set (i := 2) sc__law_mix.nd rfl (.inl rfl) (pe_op op_mod (pe_op op_mul (pe_op op_add (pe_op op_add (pe_op op_mod (pv 0) pe_int) (pe_op op_mul (pe_op op_mul (pv 1) (pv 1)) pe_int)) pe_int) pe_int) pe_int))
      (pss_one (ps_ret (pe_op op_mod (pe_op op_mul (pv 2) (pv 2)) pe_int)))), ?_⟩
    refine ⟨_, rfl, _, _, rfl, rfl, (by show (0 : Int) < 2147483629; decide), _, rfl, _, rfl, _, _, rfl, rfl, .inl ⟨by omega, by omega⟩, _, _, rfl, rfl, .inr ⟨by decide, by decide⟩, _, _, rfl, rfl, _, _, rfl, rfl, _, _, rfl, rfl, .inr ⟨by decide, by decide⟩, _, _, rfl, rfl, (by show (0 : Int) < 2147483647; decide), ?_⟩
    have o0 := Int.emod_nonneg ((x % 2147483629 + k * k * 7919 + 11) * 48271) (show (2147483647 : Int) ≠ 0 by decide)
    have o1 := Int.emod_lt_of_pos ((x % 2147483629 + k * k * 7919 + 11) * 48271) (show (0 : Int) < 2147483647 by decide)
    exact ⟨_, rfl, _, rfl, _, _, rfl, rfl, .inl ⟨by omega, by omega⟩, _, _, rfl, rfl, (by show (0 : Int) < 1999999973; decide), q _ (Int.emod_nonneg _ (by decide)) (Int.emod_lt_of_pos _ (by decide))⟩
/-! ### what is drawn from: three numbers -/
def Three (H : Hp) (b : Addr) (n : Int) : Prop := ∃ x c z : Int, H b = some (.lst [.int x, .int c, .int z]) ∧ 0 ≤ x ∧ 0 ≤ z ∧ z ≤ n
section
variable {K : PySem.W.Frag} {H H' : Hp} {b p : Addr} {n m : Int} {o : HO}
theorem Three.mono (h : Three H b n) (l : n ≤ m) : Three H b m := by
  obtain ⟨x, c, z, h0, h1, h2, h3⟩ := h
  exact ⟨x, c, z, h0, h1, h2, by omega⟩
theorem Three.same (h : Three H b n) (e : Same H H') : Three H' b n := by
  obtain ⟨x, c, z, h0, h1⟩ := h
  exact ⟨x, c, z, e _ _ h0, h1⟩
theorem Three.new (h : Three H b n) (e : H p = none) : Three (upd H p o) b n := h.same (same_new e)
theorem Three.ne (h : Three H b n) (e : H p = none) : p ≠ b := fun z => by
  obtain ⟨_, _, _, h0, _⟩ := h
  rw [z, h0] at e
  cases e
theorem Three.upd (h : Three H b n) (e : p ≠ b) : Three (upd H p o) b n := by
  obtain ⟨x, c, z, h0, h1⟩ := h
  exact ⟨x, c, z, by rw [upd_ne e.symm]; exact h0, h1⟩
theorem none_of {H H' : Hp} {p : Addr} (s : Same H H') (h : H' p = none) : H p = none := by
  cases e : H p with
  | none => rfl
  | some o =>
    rw [s _ _ e] at h
    cases h
theorem updNew {b D : Addr} {H G : Hp} {o : HO} (t : But b H G) (hD : H D = none) : But b H (L2.upd G D o) := fun c u n h => by
  rw [upd_ne (ne_of_none h hD)]
  exact t c u n h
/-- prices in the heap -/
def Prs (H : Hp) (as : List Addr) (ps : List (Int × Int)) : Prop := as.length = ps.length ∧ ∀ (i : Nat) (a : Addr) (p : Int × Int), as[i]? = some a → ps[i]? = some p → H a = some (.tup [.int p.1, .int p.2])
theorem Prs.same {as : List Addr} {ps : List (Int × Int)} (h : Prs H as ps) (e : Same H H') : Prs H' as ps := ⟨h.1, fun i a p h1 h2 => e _ _ (h.2 i a p h1 h2)⟩
theorem Prs.but {as : List Addr} {ps : List (Int × Int)} (h : Prs H as ps) (t : But b H H') (hb : Three H b n) : Prs H' as ps := by
  refine ⟨h.1, fun i a p h1 h2 => ?_⟩
  obtain ⟨_, _, _, h0, _⟩ := hb
  have := h.2 i a p h1 h2
  exact t _ _ (ne_of this h0 (by intro z; cases z)) this
theorem Prs.updL {as : List Addr} {ps : List (Int × Int)} {D : Addr} {xs : List V} (h : Prs H as ps) (hD : H D = some (.lst xs)) : Prs (L2.upd H D o) as ps := by
  refine ⟨h.1, fun i a p h1 h2 => ?_⟩
  have := h.2 i a p h1 h2
  rw [upd_ne (ne_of this hD (by intro z; cases z))]
  exact this
theorem Prs.snoc {as : List Addr} {ps : List (Int × Int)} {a : Addr} {q : Int × Int} (h : Prs H as ps) (ha : H a = some (.tup [.int q.1, .int q.2])) : Prs H (as ++ [a]) (ps ++ [q]) := by
  refine ⟨by rw [List.length_append, List.length_append, h.1]; rfl, fun i a' p h1 h2 => ?_⟩
  by_cases c : i < as.length
  · rw [List.getElem?_append_left c] at h1
    rw [List.getElem?_append_left (h.1 ▸ c)] at h2
    exact h.2 i a' p h1 h2
  · have hi : i < (as ++ [a]).length := (List.getElem?_eq_some_iff.mp h1).1
    rw [List.length_append] at hi
    have e : i = as.length := by
      have : [a].length = 1 := rfl
      omega
    rw [e, List.getElem?_append_right (Nat.le_refl _)] at h1
    rw [e, h.1, List.getElem?_append_right (Nat.le_refl _)] at h2
    simp at h1 h2
    subst h1 h2
    exact ha
end
theorem pick2i {r x y lo hi : Int} (h0 : 0 ≤ r) (h1 : r < 2) (hx : lo ≤ x ∧ x ≤ hi) (hy : lo ≤ y ∧ y ≤ hi) : ∃ v : Int, atI [V.int x, .int y] r = some (.int v) ∧ lo ≤ v ∧ v ≤ hi := by
  have h : r = 0 ∨ r = 1 := by omega
  rcases h with rfl | rfl
  · exact ⟨x, rfl, hx⟩
  · exact ⟨y, rfl, hy⟩
theorem pick3j {r x y z lo hi : Int} (h0 : 0 ≤ r) (h1 : r < 3) (hx : lo ≤ x ∧ x ≤ hi) (hy : lo ≤ y ∧ y ≤ hi) (hz : lo ≤ z ∧ z ≤ hi) : ∃ v : Int, atI [V.int x, .int y, .int z] r = some (.int v) ∧ lo ≤ v ∧ v ≤ hi := by
  have h : r = 0 ∨ r = 1 ∨ r = 2 := by omega
  rcases h with rfl | rfl | rfl
  · exact ⟨x, rfl, hx⟩
  · exact ⟨y, rfl, hy⟩
  · exact ⟨z, rfl, hz⟩
/-! ### _law_left -/
abbrev s__law_left : Stmt := topS 14
abbrev N__law_left : List Str := ["_law_script", "_law_k", "_law_cell"]
theorem sc__law_left : FnScope N__law_left ["_law_script", "_law_k"] (defScope s__law_left) := ⟨rfl, rfl, rfl, by decide +kernel, rfl, by decide +kernel, by decide +kernel⟩
def sp__law_left (K : PySem.W.Frag) : Sp := fun vs H Q _ => ∃ (a : Addr) (k : Int) (ns : List Int), vs = [.ref a, .int k] ∧ SqL K H a (ns.map V.int) ∧ 0 ≤ k ∧ k ≤ 63 ∧ ∀ H' b, H b = none → Same H H' → Three H' b 0 → Q (.ref b) H'
theorem ok__law_left {f : Addr} {fd : FuncData} (F : Fun K "_law_left" "_law_left" s__law_left f fd) (g : mg "_law_left" = some (.ref f)) (bd : Binds K fd ["_law_script", "_law_k"] []) (m_len : mg "len" = none) (m_abs : mg "abs" = none) (m_int : mg "int" = none) : CF P w K mg base 1 "_law_left" ["_law_script", "_law_k"] (sp__law_left K) := by
  refine ⟨f, fd, F.ok sc__law_left (fun vs H Q E h => ?_) (fun cdv A outer s H vs Q E hr h => ?_), g, F.kp, bd⟩
  · first | (obtain ⟨_, rfl, _⟩ := h; rfl) | (obtain ⟨_, _, rfl, _⟩ := h; rfl) | (obtain ⟨_, _, _, rfl, _⟩ := h; rfl) | (obtain ⟨_, _, _, _, rfl, _⟩ := h; rfl) | (obtain ⟨_, _, _, _, _, rfl, _⟩ := h; rfl) | (obtain ⟨_, _, _, _, _, _, rfl, _⟩ := h; rfl) | (obtain ⟨_, _, _, _, _, _, _, rfl, _⟩ := h; rfl) | (obtain ⟨_, _, _, _, _, _, _, _, rfl, _⟩ := h; rfl) | (obtain ⟨_, _, _, _, _, _, _, _, _, rfl, _⟩ := h; rfl) | (obtain ⟨_, _, _, _, _, _, _, _, _, _, rfl, _⟩ := h; rfl) | (obtain ⟨_, _, _, _, _, _, _, _, _, _, _, rfl, _⟩ := h; rfl) | (obtain ⟨_, _, _, _, _, _, _, _, _, _, _, _, rfl, _⟩ := h; rfl) | (obtain ⟨_, _, _, _, _, _, _, _, _, _, _, _, _, rfl, _⟩ := h; rfl) | (obtain ⟨_, _, _, _, _, _, _, _, _, _, _, _, _, _, rfl, _⟩ := h; rfl) | (obtain ⟨_, _, _, _, _, _, _, _, _, _, _, _, _, _, _, rfl, _⟩ := h; rfl)
  · have hu64 := hr.units
    obtain ⟨a, k, ns, rfl, hS, hk0, hk, q⟩ := h
    refine ⟨_, (pss_cons (ps_set (i := 2) sc__law_left.nd rfl (.inl rfl) (pe_ifExp (pt_cmpR op_lt (pv 1) (pe_callB (kk_len K) (by rfl) m_len PySem.boot_len (pa_cons (pv 0) pa_nil)) (nomark _)) (pe_ix (kk_ixl K) (pv 0) (pv 1) (fun _ _ => rfl)) pe_int))
      (pss_one (ps_ret (pe_lst (pa_cons (pe_op op_mul (pe_callB call_abs (by rfl) m_abs (by decide +kernel) (pa_cons (pv 2) pa_nil)) (pe_callTy call_int1 (by rfl) m_int (by decide +kernel) (pa_cons (pe_cmpR op_ge (pe_callB call_abs (by rfl) m_abs (by decide +kernel) (pa_cons (pv 2) pa_nil)) (pe_op op_pow pe_int pe_int) (nomark _)) pa_nil))) (pa_cons (pe_op op_add (pv 2) (pe_op op_mul pe_int (pv 1))) (pa_cons pe_int pa_nil))))))), ?_⟩
    refine ⟨_, rfl, _, rfl, a, _, rfl, .inl hS, _, _, rfl, rfl, _, rfl, ite2 (fun e => ?_) (fun e => ?_)⟩
    · have e1 := of_decide_eq_true e
      rw [List.length_map] at e1
      obtain ⟨c, hc⟩ := at_int hk0 e1
      refine ⟨_, rfl, _, rfl, a, _, _, _, rfl, rfl, hS, hc, ?_⟩
      refine ⟨_, rfl, _, rfl, _, rfl, _, rfl, _, _, rfl, rfl, ⟨by decide, by decide, by decide⟩, _, _, rfl, rfl, .inr ⟨_, rfl, _, _, rfl, rfl, .inr ⟨?_, ?_⟩, _, rfl, _, rfl, _, _, rfl, rfl, .inl ⟨by decide, by decide⟩, _, _, rfl, rfl, (by show 3 ≤ sizeLine; decide), fun p hp => ?_⟩⟩
      · split <;> omega
      · split <;> omega
      · refine q _ p hp (same_new hp) ⟨_, _, _, upd_same, ?_, by omega, by omega⟩
        refine Int.mul_nonneg ?_ ?_ <;> split <;> omega
    · refine ⟨_, rfl, _, rfl, _, rfl, _, rfl, _, _, rfl, rfl, ⟨by decide, by decide, by decide⟩, _, _, rfl, rfl, .inr ⟨_, rfl, _, _, rfl, rfl, .inr ⟨?_, ?_⟩, _, rfl, _, rfl, _, _, rfl, rfl, .inl ⟨by decide, by decide⟩, _, _, rfl, rfl, (by show 3 ≤ sizeLine; decide), fun p hp => ?_⟩⟩
      · split <;> omega
      · split <;> omega
      · refine q _ p hp (same_new hp) ⟨_, _, _, upd_same, ?_, by omega, by omega⟩
        refine Int.mul_nonneg ?_ ?_ <;> split <;> omega
/-! ### _law_pick -/
abbrev s__law_pick : Stmt := topS 15
abbrev N__law_pick : List Str := ["_law_left_here", "_law_many", "_law_digit"]
theorem sc__law_pick : FnScope N__law_pick ["_law_left_here", "_law_many"] (defScope s__law_pick) := ⟨rfl, rfl, rfl, by decide +kernel, rfl, by decide +kernel, by decide +kernel⟩
def sp__law_pick (K : PySem.W.Frag) : Sp := fun vs H Q _ => ∃ (b : Addr) (m n : Int), vs = [.ref b, .int m] ∧ Three H b n ∧ 0 < m ∧ m < 1073741824 ∧ n < 1000000000 ∧ ∀ (r : Int) H', 0 ≤ r → r < m → Three H' b (n + 1) → But b H H' → Q (.int r) H'
theorem ok__law_pick {f : Addr} {fd : FuncData} (F : Fun K "_law_pick" "_law_pick" s__law_pick f fd) (g : mg "_law_pick" = some (.ref f)) (bd : Binds K fd ["_law_left_here", "_law_many"] []) (C__law_mix : CF P w K mg base 1 "_law_mix" ["_law_cell", "_law_k"] (sp__law_mix K)) : CF P w K mg base 2 "_law_pick" ["_law_left_here", "_law_many"] (sp__law_pick K) := by
  refine ⟨f, fd, F.ok sc__law_pick (fun vs H Q E h => ?_) (fun cdv A outer s H vs Q E hr h => ?_), g, F.kp, bd⟩
  · first | (obtain ⟨_, rfl, _⟩ := h; rfl) | (obtain ⟨_, _, rfl, _⟩ := h; rfl) | (obtain ⟨_, _, _, rfl, _⟩ := h; rfl) | (obtain ⟨_, _, _, _, rfl, _⟩ := h; rfl) | (obtain ⟨_, _, _, _, _, rfl, _⟩ := h; rfl) | (obtain ⟨_, _, _, _, _, _, rfl, _⟩ := h; rfl) | (obtain ⟨_, _, _, _, _, _, _, rfl, _⟩ := h; rfl) | (obtain ⟨_, _, _, _, _, _, _, _, rfl, _⟩ := h; rfl) | (obtain ⟨_, _, _, _, _, _, _, _, _, rfl, _⟩ := h; rfl) | (obtain ⟨_, _, _, _, _, _, _, _, _, _, rfl, _⟩ := h; rfl) | (obtain ⟨_, _, _, _, _, _, _, _, _, _, _, rfl, _⟩ := h; rfl) | (obtain ⟨_, _, _, _, _, _, _, _, _, _, _, _, rfl, _⟩ := h; rfl) | (obtain ⟨_, _, _, _, _, _, _, _, _, _, _, _, _, rfl, _⟩ := h; rfl) | (obtain ⟨_, _, _, _, _, _, _, _, _, _, _, _, _, _, rfl, _⟩ := h; rfl) | (obtain ⟨_, _, _, _, _, _, _, _, _, _, _, _, _, _, _, rfl, _⟩ := h; rfl)
  · have hu64 := hr.units
    obtain ⟨b, m, n, rfl, ⟨x, c, z, hb, hx, hz, hz2⟩, hm, hm2, hn, q⟩ := h
    refine ⟨_, (pss_cons (ps_asg (pe_op op_add (pe_ix (kk_ixl K) (pv 0) pe_int (fun _ _ => rfl)) pe_int) (pg_sub (pv 0) pe_int set_list))
      (pss_cons (ps_if (pt_cmpR op_gt (pe_ix (kk_ixl K) (pv 0) pe_int (fun _ _ => rfl)) pe_int (nomark _))
         (pss_cons (ps_set (i := 2) sc__law_pick.nd rfl (.inl rfl) (pe_op op_mod (pe_ix (kk_ixl K) (pv 0) pe_int (fun _ _ => rfl)) (pv 1)))
          (pss_cons (ps_asg (pe_op op_fdiv (pe_ix (kk_ixl K) (pv 0) pe_int (fun _ _ => rfl)) (pv 1)) (pg_sub (pv 0) pe_int set_list))
          (pss_one (ps_ret (pv 2)))))
         pss_nil)
      (pss_one (ps_ret (pe_op op_mod (pe_op op_fdiv (pe_cf C__law_mix (hr.mono (by decide)) (by rfl) (pa_cons (pe_cf C__law_mix (hr.mono (by decide)) (by rfl) (pa_cons (pe_ix (kk_ixl K) (pv 0) pe_int (fun _ _ => rfl)) (pa_cons (pe_ix (kk_ixl K) (pv 0) pe_int (fun _ _ => rfl)) pa_nil))) (pa_cons (pe_op op_add (pe_ix (kk_ixl K) (pv 0) pe_int (fun _ _ => rfl)) pe_int) pa_nil))) pe_int) (pv 1)))))), ?_⟩
    have h1 : (upd H b (.lst [.int x, .int c, .int (z + 1)])) b = some (.lst [.int x, .int c, .int (z + 1)]) := upd_same
    refine ⟨_, rfl, b, _, _, _, rfl, rfl, SqL.of hb, rfl, _, _, rfl, rfl, _, rfl, b, _, _, _, rfl, rfl, hb, rfl, ?_⟩
    refine ⟨_, rfl, b, _, _, _, rfl, rfl, SqL.of h1, rfl, _, _, rfl, rfl, _, rfl, ite2 (fun e => ?_) (fun e => ?_)⟩
    · refine ⟨_, rfl, b, _, _, _, rfl, rfl, SqL.of h1, rfl, _, rfl, _, _, rfl, rfl, hm, ?_⟩
      refine ⟨_, rfl, b, _, _, _, rfl, rfl, SqL.of h1, rfl, _, rfl, _, _, rfl, rfl, ⟨hm, hm2⟩, _, rfl, b, _, _, _, rfl, rfl, h1, rfl, ?_⟩
      exact ⟨_, rfl, q _ _ (Int.emod_nonneg _ (by omega)) (Int.emod_lt_of_pos _ hm) ⟨x / m, c, z + 1, upd_same, Int.ediv_nonneg hx (by omega), by omega, by omega⟩ (But.upd.trans But.upd)⟩
    · refine ⟨_, rfl, b, _, _, _, rfl, rfl, SqL.of h1, rfl, _, rfl, b, _, _, _, rfl, rfl, SqL.of h1, rfl, c, z + 1, rfl, by omega, by omega, fun r1 r10 r11 => ?_⟩
      refine ⟨_, rfl, b, _, _, _, rfl, rfl, SqL.of h1, rfl, _, _, rfl, rfl, r1, z + 1 + 64, rfl, by omega, by omega, fun r2 r20 r21 => ?_⟩
      exact ⟨_, _, rfl, rfl, ⟨by decide, by decide⟩, _, rfl, _, _, rfl, rfl, hm, q _ _ (Int.emod_nonneg _ (by omega)) (Int.emod_lt_of_pos _ hm) ⟨x, c, z + 1, h1, hx, by omega, by omega⟩ But.upd⟩
/-! ### _law_prices -/
abbrev s__law_prices : Stmt := topS 17
abbrev N__law_prices : List Str := ["_law_left_here", "_law_many", "_law_day", "_law_found", "_law_most", "_law_turn"]
theorem sc__law_prices : FnScope N__law_prices ["_law_left_here", "_law_many"] (defScope s__law_prices) := ⟨rfl, rfl, rfl, by decide +kernel, rfl, by decide +kernel, by decide +kernel⟩
abbrev RiseS (ps : List (Int × Int)) : Prop := ps.Pairwise (fun a b => a.1 < b.1)
def Okp (ps : List (Int × Int)) : Prop := ∀ p ∈ ps, 0 ≤ p.1 ∧ p.1 ≤ 400 ∧ 1 ≤ p.2 ∧ p.2 ≤ 1000000
def sp__law_prices (K : PySem.W.Frag) : Sp := fun vs H Q _ => ∃ (b : Addr) (many n : Int), vs = [.ref b, .int many] ∧ Three H b n ∧ n < 1000000 ∧ 0 ≤ many ∧ many ≤ 60 ∧
  ∀ H' L as ps, Three H' b (n + 3 + 3 * many) → But b H H' → H L = none → L ≠ b → H' L = some (.lst (as.map V.ref)) → Prs H' as ps → RiseS ps → Okp ps → (ps.length : Int) ≤ many → Q (.ref L) H'
theorem ok__law_prices {f : Addr} {fd : FuncData} (F : Fun K "_law_prices" "_law_prices" s__law_prices f fd) (g : mg "_law_prices" = some (.ref f)) (bd : Binds K fd ["_law_left_here", "_law_many"] []) (m_range : mg "range" = none) (C__law_pick : CF P w K mg base 2 "_law_pick" ["_law_left_here", "_law_many"] (sp__law_pick K)) : CF P w K mg base 3 "_law_prices" ["_law_left_here", "_law_many"] (sp__law_prices K) := by
  refine ⟨f, fd, F.ok sc__law_prices (fun vs H Q E h => ?_) (fun cdv A outer s H vs Q E hr h => ?_), g, F.kp, bd⟩
  · first | (obtain ⟨_, rfl, _⟩ := h; rfl) | (obtain ⟨_, _, rfl, _⟩ := h; rfl) | (obtain ⟨_, _, _, rfl, _⟩ := h; rfl) | (obtain ⟨_, _, _, _, rfl, _⟩ := h; rfl) | (obtain ⟨_, _, _, _, _, rfl, _⟩ := h; rfl) | (obtain ⟨_, _, _, _, _, _, rfl, _⟩ := h; rfl) | (obtain ⟨_, _, _, _, _, _, _, rfl, _⟩ := h; rfl) | (obtain ⟨_, _, _, _, _, _, _, _, rfl, _⟩ := h; rfl) | (obtain ⟨_, _, _, _, _, _, _, _, _, rfl, _⟩ := h; rfl) | (obtain ⟨_, _, _, _, _, _, _, _, _, _, rfl, _⟩ := h; rfl) | (obtain ⟨_, _, _, _, _, _, _, _, _, _, _, rfl, _⟩ := h; rfl) | (obtain ⟨_, _, _, _, _, _, _, _, _, _, _, _, rfl, _⟩ := h; rfl) | (obtain ⟨_, _, _, _, _, _, _, _, _, _, _, _, _, rfl, _⟩ := h; rfl) | (obtain ⟨_, _, _, _, _, _, _, _, _, _, _, _, _, _, rfl, _⟩ := h; rfl) | (obtain ⟨_, _, _, _, _, _, _, _, _, _, _, _, _, _, _, rfl, _⟩ := h; rfl)
  · have hu64 := hr.units
    obtain ⟨b, many, n, rfl, hb, hn, m0, m1, q⟩ := h
    refine ⟨_, (pss_cons (ps_par3 (i := 2) (j := 3) (l := 4) (by rfl) sc__law_prices.nd rfl rfl rfl (by decide) (by decide) (by decide) rfl rfl rfl (pa_cons (pe_cf C__law_pick (hr.mono (by decide)) (by rfl) (pa_cons (pv 0) (pa_cons (pe_ix (kk_ixl K) (pe_lst (pa_cons pe_int (pa_cons pe_int pa_nil))) (pe_cf C__law_pick (hr.mono (by decide)) (by rfl) (pa_cons (pv 0) (pa_cons pe_int pa_nil))) (fun _ _ => rfl)) pa_nil))) (pa_cons (pe_lst pa_nil) (pa_cons (pe_ix (kk_ixl K) (pe_lst (pa_cons pe_int (pa_cons pe_int (pa_cons (pe_op op_pow pe_int pe_int) pa_nil)))) (pe_cf C__law_pick (hr.mono (by decide)) (by rfl) (pa_cons (pv 0) (pa_cons pe_int pa_nil))) (fun _ _ => rfl)) pa_nil))) (by rfl))
      (pss_cons (ps_for PassesOwn.never rfl (pi_range1 (by rfl) m_range (pa_cons (pv 1) pa_nil)) (pg_name (i := 5) sc__law_prices.nd rfl (.inl rfl))
         (pss_cons (ps_if (pt_cmpR op_le (pv 2) pe_int (nomark _))
             (pss_one (ps_expr (pe_bm PySem.F.plainAttrs_list PySem.F.slot_list_append PySem.F.type_list_append mt_append (pv 3) (pa_cons (pe_tup (pa_cons (pv 2) (pa_cons (pe_op op_add pe_int (pe_cf C__law_pick (hr.mono (by decide)) (by rfl) (pa_cons (pv 0) (pa_cons (pv 4) pa_nil)))) pa_nil))) pa_nil))))
             pss_nil)
          (pss_one (ps_set (i := 2) sc__law_prices.nd rfl (.inl rfl) (pe_op op_add (pe_op op_add (pv 2) pe_int) (pe_cf C__law_pick (hr.mono (by decide)) (by rfl) (pa_cons (pv 0) (pa_cons (pe_ix (kk_ixl K) (pe_lst (pa_cons pe_int (pa_cons pe_int (pa_cons pe_int pa_nil)))) (pe_cf C__law_pick (hr.mono (by decide)) (by rfl) (pa_cons (pv 0) (pa_cons pe_int pa_nil))) (fun _ _ => rfl)) pa_nil))))))))
      (pss_one (ps_ret (pv 3))))), ?_⟩
    refine ⟨_, rfl, (by show 2 ≤ sizeLine; decide), fun l1 n1 => ?_⟩
    refine ⟨_, rfl, b, 2, _, rfl, hb.new n1, by decide, by decide, by omega, fun r1 H1 r10 r11 b1 t1 => ?_⟩
    obtain ⟨v1, hv1, v10, v11⟩ := pick2i (lo := 3) (hi := 300) (x := 3) (y := 300) r10 r11 (by omega) (by omega)
    refine ⟨l1, _, _, _, rfl, rfl, SqL.of (t1 _ _ (hb.ne n1) upd_same), hv1, ?_⟩
    refine ⟨b, v1, _, rfl, b1, by omega, by omega, by omega, fun d0 H2 d00 d01 b2 t2 => ?_⟩
    have T2 := ((But.new (b := b) (o := .lst [.int 3, .int 300]) n1).trans t1).trans t2
    refine ⟨(by show 0 ≤ sizeLine; decide), fun L nL => ?_⟩
    have nLb : L ≠ b := b2.ne nL
    have nL0 : H L = none := by
      cases e : H L with
      | none => rfl
      | some o =>
        rw [T2 _ _ nLb e] at nL
        cases nL
    refine ⟨_, _, rfl, rfl, ⟨by decide, by decide, by decide⟩, (by show 3 ≤ sizeLine; decide), fun l2 n2 => ?_⟩
    have s2 := (same_new (o := .lst []) nL).trans (same_new (o := .lst [.int 5, .int 99, .int (10 ^ (6 : Int).toNat)]) n2)
    have hL2 := (same_new (o := .lst [.int 5, .int 99, .int (10 ^ (6 : Int).toNat)]) n2) _ _ (upd_same (H := H2) (a := L) (o := .lst []))
    have b3 := b2.same s2
    have n2b : l2 ≠ b := (b2.new nL).ne n2
    have hl2 := upd_same (H := upd H2 L (.lst [])) (a := l2) (o := .lst [.int 5, .int 99, .int (10 ^ (6 : Int).toNat)])
    have T3 := T2.trans (But.of s2)
    generalize upd (upd H2 L (.lst [])) l2 (.lst [.int 5, .int 99, .int (10 ^ (6 : Int).toNat)]) = G3 at *
    refine ⟨_, rfl, b, 3, _, rfl, b3, by decide, by decide, by omega, fun r2 H4 r20 r21 b4 t4 => ?_⟩
    obtain ⟨v2, hv2, v20, v21⟩ := pick3j (lo := 5) (hi := 1000000) (x := 5) (y := 99) (z := 10 ^ (6 : Int).toNat) r20 r21 (by omega) (by omega) (by show (5 : Int) ≤ 1000000 ∧ (1000000 : Int) ≤ 1000000; omega)
    refine ⟨l2, _, _, _, rfl, rfl, SqL.of (t4 _ _ n2b hl2), hv2, _, _, _, rfl, ?_⟩
    have T4 := T3.trans t4
    have hL4 := t4 _ _ nLb hL2
    refine ⟨_, rfl, _, rfl, by omega, by omega, for_range (fun i σ H' => ∃ (day : Int) (as : List Addr) (ps : List (Int × Int)) (s5 : Option V), σ = [some (.ref b), some (.int many), some (.int day), some (.ref L), some (.int v2), s5] ∧ 0 ≤ day ∧ Three H' b (n + 3 + 3 * i) ∧ But b H H' ∧ H' L = some (.lst (as.map V.ref)) ∧ Prs H' as ps ∧ RiseS ps ∧ Okp ps ∧ ps.length ≤ i ∧ ∀ p ∈ ps, p.1 < day) ⟨d0, [], [], _, rfl, d00, b4.mono (by omega), T4, hL4, ⟨rfl, fun i a p h _ => by simp at h⟩, .nil, fun p h => (nomatch h), Nat.le_refl _, fun p h => (nomatch h)⟩ (fun i σ H' hi h => ?_) (fun σ H' h => ?_)⟩
    · obtain ⟨day, as, ps, s5, rfl, hd0, bI, tI, hLI, hP, hrs, hok, hlen, hlt⟩ := h
      have stepE : ∀ (H5 : Hp) (as' : List Addr) (ps' : List (Int × Int)), Three H5 b (n + 3 + 3 * i + 1) → But b H H5 → H5 L = some (.lst (as'.map V.ref)) → Prs H5 as' ps' → RiseS ps' → Okp ps' → ps'.length ≤ i + 1 → (∀ p ∈ ps', p.1 ≤ day) → ∀ (D : Ends), (∀ σ2 H6, (∃ (day : Int) (as : List Addr) (ps : List (Int × Int)) (s5 : Option V), σ2 = [some (.ref b), some (.int many), some (.int day), some (.ref L), some (.int v2), s5] ∧ 0 ≤ day ∧ Three H6 b (n + 3 + 3 * (i + 1 : Nat)) ∧ But b H H6 ∧ H6 L = some (.lst (as.map V.ref)) ∧ Prs H6 as ps ∧ RiseS ps ∧ Okp ps ∧ ps.length ≤ i + 1 ∧ ∀ p ∈ ps, p.1 < day) → D.nx σ2 H6) →
          (tAsg (tOp (rI0 fun i j => V.int (i + j)) (tOp (rI0 fun i j => V.int (i + j)) (tVar 2) (tC (V.int 1))) (tCall (sp__law_pick K) [] E0 (tCons (tVar 0) (tCons (tOp (rIxL K) (tLst (tCons (tC (V.int 1)) (tCons (tC (V.int 4)) (tCons (tC (V.int 40)) tNil)))) (tCall (sp__law_pick K) [] E0 (tCons (tVar 0) (tCons (tC (V.int 3)) tNil)))) tNil)))) (gName 2)) D [some (.ref b), some (.int many), some (.int day), some (.ref L), some (.int v2), some (.int (0 + i))] H5 := fun H5 as' ps' b5 t5 hL5 hP5 hr5 ho5 hl5 hle D hD => by
        refine ⟨_, rfl, _, _, rfl, rfl, _, rfl, (by show 3 ≤ sizeLine; decide), fun c1 m1' => ?_⟩
        have u1 := same_new (o := .lst [.int 1, .int 4, .int 40]) m1'
        refine ⟨_, rfl, b, 3, _, rfl, b5.new m1', by decide, by decide, by omega, fun x H6 x0 x1 b6 t6 => ?_⟩
        obtain ⟨w, hw, w0, w1⟩ := pick3j (lo := 1) (hi := 40) (x := 1) (y := 4) (z := 40) x0 x1 (by omega) (by omega) (by omega)
        refine ⟨c1, _, _, _, rfl, rfl, SqL.of (t6 _ _ (b5.ne m1') upd_same), hw, ?_⟩
        refine ⟨b, w, _, rfl, b6, by omega, by omega, by omega, fun y H7 y0 y1 b7 t7 => ⟨_, _, rfl, rfl, hD _ _ ⟨day + 1 + y, as', ps', _, rfl, by omega, b7.mono (by omega), ((t5.trans (But.of u1)).trans t6).trans t7, ?_, ((hP5.same u1).but t6 (b5.new m1')).but t7 b6, hr5, ho5, hl5, fun p hp => by have := hle p hp; omega⟩⟩⟩
        exact t7 _ _ nLb (t6 _ _ nLb (u1 _ _ hL5))
      refine ⟨_, rfl, _, _, rfl, rfl, _, rfl, ite2 (fun z => ?_) (fun z => ?_)⟩
      · have z1 : day ≤ 400 := of_decide_eq_true z
        refine ⟨_, rfl, .inl ⟨rfl, _, SqL.of hLI⟩, _, rfl, _, rfl, _, rfl, b, v2, _, rfl, bI, by omega, by omega, by omega, fun x H5 x0 x1 b5 t5 => ⟨_, _, rfl, rfl, (by show 2 ≤ sizeLine; decide), fun u nu => ?_⟩⟩
        have sU := same_new (o := .tup [.int day, .int (1 + x)]) nu
        have hL5 := sU _ _ (t5 _ _ nLb hLI)
        have hU := upd_same (H := H5) (a := u) (o := .tup [.int day, .int (1 + x)])
        have hP5 := (hP.but t5 bI).same sU
        have b6 := b5.same sU
        have T5 := (tI.trans t5).trans (But.of sU)
        generalize upd H5 u (.tup [.int day, .int (1 + x)]) = G5 at *
        refine ⟨L, _, _, rfl, rfl, hL5, ?_, ?_⟩
        · rw [List.length_map, hP.1]
          exact small1000 (by omega)
        refine stepE _ (as ++ [u]) (ps ++ [(day, 1 + x)]) ((b6.mono (by omega)).upd nLb) (updNew T5 nL0) (by rw [upd_same, List.map_append]; rfl) ?_ ?_ ?_ (by rw [List.length_append]; exact Nat.add_le_add_right hlen 1) ?_ _ (fun σ2 H6 h => h)
        · refine (hP5.updL hL5).snoc ?_
          rw [upd_ne (ne_of hU hL5 (by intro z; cases z))]
          exact hU
        · refine List.pairwise_append.mpr ⟨hrs, List.pairwise_singleton _ _, fun p hp r hr' => ?_⟩
          rw [List.mem_singleton.mp hr']
          exact hlt p hp
        · intro p hp
          rcases List.mem_append.mp hp with h | h
          · exact hok p h
          · rw [List.mem_singleton.mp h]
            exact ⟨hd0, z1, by show 1 ≤ 1 + x; omega, by show 1 + x ≤ 1000000; omega⟩
        · intro p hp
          rcases List.mem_append.mp hp with h | h
          · exact Int.le_of_lt (hlt p h)
          · rw [List.mem_singleton.mp h]
            exact Int.le_refl _
      · exact stepE H' as ps (bI.mono (by omega)) tI hLI hP hrs hok (by omega) (fun p hp => Int.le_of_lt (hlt p hp)) _ (fun σ2 H6 h => h)
    · obtain ⟨day, as, ps, s5, rfl, hd0, bI, tI, hLI, hP, hrs, hok, hlen, hlt⟩ := h
      exact ⟨_, rfl, q _ L as ps (bI.mono (by omega)) tI nL0 nLb hLI hP hrs hok (by omega)⟩
/-- the price of a day -/
def pOn (ps : List (Int × Int)) (day : Int) : V := ps.foldl (fun t q => if q.1 ≤ day then .int q.2 else t) .non
theorem pOn_take {ps : List (Int × Int)} {i : Nat} {p : Int × Int} {day : Int} (h : ps[i]? = some p) : pOn (ps.take (i + 1)) day = if p.1 ≤ day then .int p.2 else pOn (ps.take i) day := by
  unfold pOn
  rw [List.take_add_one, h, List.foldl_append]
  rfl
theorem Prs.at {H : Hp} {as : List Addr} {ps : List (Int × Int)} (h : Prs H as ps) {i : Nat} {v : V} (hv : (as.map V.ref)[i]? = some v) : ∃ a p, v = .ref a ∧ as[i]? = some a ∧ ps[i]? = some p ∧ H a = some (.tup [.int p.1, .int p.2]) := by
  rw [List.getElem?_map] at hv
  obtain ⟨a, ha, rfl⟩ := Option.map_eq_some_iff.mp hv
  have hi : i < ps.length := h.1 ▸ (List.getElem?_eq_some_iff.mp ha).1
  exact ⟨a, ps[i], rfl, ha, List.getElem?_eq_getElem hi, h.2 i a _ ha (List.getElem?_eq_getElem hi)⟩
/-! ### price_on -/
abbrev s_price_on : Stmt := topS 1
abbrev N_price_on : List Str := ["prices", "day", "told", "begin", "pence"]
theorem sc_price_on : FnScope N_price_on ["prices", "day"] (defScope s_price_on) := ⟨rfl, rfl, rfl, by decide +kernel, rfl, by decide +kernel, by decide +kernel⟩
def sp_price_on (K : PySem.W.Frag) : Sp := fun vs H Q _ => ∃ (L : Addr) (day : Int) (as : List Addr) (ps : List (Int × Int)), vs = [.ref L, .int day] ∧ (SqL K H L (as.map V.ref) ∨ SqT K H L (as.map V.ref)) ∧ Prs H as ps ∧ Q (pOn ps day) H
theorem ok_price_on {f : Addr} {fd : FuncData} (F : Fun K "price_on" "price_on" s_price_on f fd) (g : mg "price_on" = some (.ref f)) (bd : Binds K fd ["prices", "day"] []) : CF P w K mg base 1 "price_on" ["prices", "day"] (sp_price_on K) := by
  refine ⟨f, fd, F.ok sc_price_on (fun vs H Q E h => ?_) (fun cdv A outer s H vs Q E hr h => ?_), g, F.kp, bd⟩
  · first | (obtain ⟨_, rfl, _⟩ := h; rfl) | (obtain ⟨_, _, rfl, _⟩ := h; rfl) | (obtain ⟨_, _, _, rfl, _⟩ := h; rfl) | (obtain ⟨_, _, _, _, rfl, _⟩ := h; rfl) | (obtain ⟨_, _, _, _, _, rfl, _⟩ := h; rfl) | (obtain ⟨_, _, _, _, _, _, rfl, _⟩ := h; rfl) | (obtain ⟨_, _, _, _, _, _, _, rfl, _⟩ := h; rfl) | (obtain ⟨_, _, _, _, _, _, _, _, rfl, _⟩ := h; rfl) | (obtain ⟨_, _, _, _, _, _, _, _, _, rfl, _⟩ := h; rfl) | (obtain ⟨_, _, _, _, _, _, _, _, _, _, rfl, _⟩ := h; rfl) | (obtain ⟨_, _, _, _, _, _, _, _, _, _, _, rfl, _⟩ := h; rfl) | (obtain ⟨_, _, _, _, _, _, _, _, _, _, _, _, rfl, _⟩ := h; rfl) | (obtain ⟨_, _, _, _, _, _, _, _, _, _, _, _, _, rfl, _⟩ := h; rfl) | (obtain ⟨_, _, _, _, _, _, _, _, _, _, _, _, _, _, rfl, _⟩ := h; rfl) | (obtain ⟨_, _, _, _, _, _, _, _, _, _, _, _, _, _, _, rfl, _⟩ := h; rfl)
  · have hu64 := hr.units
    obtain ⟨L, day, as, ps, rfl, hS, hP, q⟩ := h
    refine ⟨_, (pss_cons (ps_set (i := 2) sc_price_on.nd rfl (.inl rfl) pe_non)
      (pss_cons (ps_for PassesOwn.never rfl (pi_or (pi_list (pv 0)) (pi_tup (pv 0))) (pg_tup (by rfl) (pgs_cons (pg_name (i := 3) sc_price_on.nd rfl (.inl rfl)) (pgs_cons (pg_name (i := 4) sc_price_on.nd rfl (.inl rfl)) pgs_nil)))
         (pss_one (ps_if (pt_cmpR op_le (pv 3) (pv 1) (nomark _))
             (pss_one (ps_set (i := 2) sc_price_on.nd rfl (.inl rfl) (pv 4)))
             pss_nil)))
      (pss_one (ps_ret (pv 2))))), ?_⟩
    have turn : ∀ (i : Nat) (x : V) (σ : L2.St) (H' : Hp), (as.map V.ref)[i]? = some x → (∃ s3 s4, σ = [some (.ref L), some (.int day), some (pOn (ps.take i) day), s3, s4] ∧ H' = H) → ∀ D : Ends, (∀ σ2 H2, (∃ s3 s4, σ2 = [some (.ref L), some (.int day), some (pOn (ps.take (i + 1)) day), s3, s4] ∧ H2 = H) → D.nx σ2 H2) → gTup K 2 (gCons (gName 3) (gCons (gName 4) gNil)) x σ H' fun σ2 H2 => tIfS (tTest (tOp (rI0 fun i j => V.bl (decide (i ≤ j))) (tVar 3) (tVar 1))) (tAsg (tVar 4) (gName 2)) tNext D σ2 H2 := fun i x σ H' hx h D hD => by
      obtain ⟨s3, s4, rfl, rfl⟩ := h
      obtain ⟨a, p, rfl, ha, hp, hA⟩ := hP.at hx
      have hN := hD
      rw [pOn_take hp] at hN
      refine ⟨a, _, rfl, SqT.of hA, rfl, _, _, rfl, _, _, rfl, rfl, ?_⟩
      refine ⟨_, rfl, _, rfl, _, _, rfl, rfl, _, rfl, ite2 (fun z => ?_) (fun z => ?_)⟩
      · rw [if_pos (of_decide_eq_true z)] at hN
        exact ⟨_, rfl, hN _ _ ⟨_, _, rfl, rfl⟩⟩
      · rw [if_neg fun y => z (decide_eq_true y)] at hN
        exact hN _ _ ⟨_, _, rfl, rfl⟩
    have fin : ∀ σ H', (∃ s3 s4, σ = [some (.ref L), some (.int day), some (pOn (ps.take (as.map V.ref).length) day), s3, s4] ∧ H' = H) → tRet (tVar 2) { nx := fun x H' => Q V.non H', rt := Q } σ H' := fun σ H' h => by
      obtain ⟨s3, s4, rfl, rfl⟩ := h
      rw [List.length_map, hP.1, List.take_of_length_le (Nat.le_refl _)]
      exact ⟨_, rfl, q⟩
    rcases hS with hS | hS
    · exact .inl ⟨_, rfl, L, rfl, ⟨_, hS⟩, for_list (K := K) (a := L) (xs := as.map V.ref) (fun i σ H' => ∃ s3 s4, σ = [some (.ref L), some (.int day), some (pOn (ps.take i) day), s3, s4] ∧ H' = H) ⟨_, _, rfl, rfl⟩ (fun i σ H' _ h => by obtain ⟨_, _, _, rfl⟩ := h; exact hS) (fun i x σ H' hx h => turn i x σ H' hx h _ (fun _ _ h => h)) fin⟩
    · exact .inr ⟨_, rfl, L, rfl, ⟨_, hS⟩, for_tup (K := K) (a := L) (xs := as.map V.ref) (fun i σ H' => ∃ s3 s4, σ = [some (.ref L), some (.int day), some (pOn (ps.take i) day), s3, s4] ∧ H' = H) ⟨_, _, rfl, rfl⟩ (fun i σ H' _ h => by obtain ⟨_, _, _, rfl⟩ := h; exact hS) (fun i x σ H' hx h => turn i x σ H' hx h _ (fun _ _ h => h)) fin⟩
theorem kk_sla (K : PySem.W.Frag) {X : Cx} (h : X.K = K := by rfl) : SlR X (rSlA K) := h ▸ sl_tupA
def prD (p : Int × Int) : PyData := .tuple [.int p.1, .int p.2]
theorem prs_dpAll {K : PySem.W.Frag} {H : Hp} : ∀ {as : List Addr} {ps : List (Int × Int)}, Prs H as ps → DpAll K H (as.map V.ref) (ps.map prD)
  | [], [], _ => .nil
  | [], q :: r, h => by cases h.1
  | a :: r, [], h => by cases h.1
  | a :: r, q :: ps, h => .cons (.tup (SqT.of (h.2 0 a q rfl rfl)) (.cons (.int _) (.cons (.int _) .nil))) (prs_dpAll ⟨by have := h.1; simpa using this, fun i a' p h1 h2 => h.2 (i + 1) a' p h1 h2⟩)
theorem prs_dp {K : PySem.W.Frag} {H : Hp} {L : Addr} {as : List Addr} {ps : List (Int × Int)} (hL : SqL K H L (as.map V.ref)) (h : Prs H as ps) : Dp K H (.ref L) (.list (ps.map prD)) := .lst hL (prs_dpAll h)
theorem lay_pr : ∀ ps : List (Int × Int), PyData.canLayAll0 (ps.map prD) = true
  | [] => by simp [PyData.canLayAll0]
  | p :: r => by
    simp [PyData.canLayAll0, PyData.canLay0, prD]
    exact lay_pr r
theorem depth_pr : ∀ ps : List (Int × Int), PyData.depthAll (ps.map prD) ≤ 4
  | [] => by simp [PyData.depthAll]
  | p :: r => by
    have := depth_pr r
    simp only [List.map_cons, prD, PyData.depthAll, PyData.depth]
    omega
theorem sh_pr (ps : List (Int × Int)) : SeqAt.shaped (.list (ps.map prD)) = true := by
  have h1 := depth_pr ps
  have h2 : PyData.depth (.list (ps.map prD)) ≤ 64 := by
    simp only [PyData.depth]
    omega
  show (PyData.canLay0 (.list (ps.map prD)) && decide (PyData.depth (.list (ps.map prD)) ≤ 64)) = true
  rw [Bool.and_eq_true]
  exact ⟨by simp only [PyData.canLay0]; exact lay_pr ps, decide_eq_true h2⟩
theorem eqv_pr (ps : List (Int × Int)) : PyData.eqv (.list (ps.map prD)) (.list (ps.map prD)) = true := SeqAt.eqv_refl _ (SeqAt.canLay_of_shaped (sh_pr ps))
theorem pr_nil {ps : List (Int × Int)} : PyData.eqv (.list (ps.map prD)) (.list []) = decide (ps = []) := by
  cases ps with
  | nil => simp [PyData.eqv, PyData.eqvAll]
  | cons x r => simp [PyData.eqv, PyData.eqvAll]
theorem nePr {K : PySem.W.Frag} {H : Hp} {x y : Addr} {as bs : List Addr} {ps : List (Int × Int)} {Q : VK} (hx : SqL K H x (as.map V.ref)) (hy : SqL K H y (bs.map V.ref)) (h1 : Prs H as ps) (h2 : Prs H bs ps) (q : Q (.bl false) H) : rNeD K (.ref x) (.ref y) H Q := by
  refine ⟨_, _, prs_dp hx h1, prs_dp hy h2, sh_pr ps, sh_pr ps, ?_⟩
  rw [eqv_pr]
  exact q
theorem Prs.drop {H : Hp} {as : List Addr} {ps : List (Int × Int)} (h : Prs H as ps) (k : Nat) : Prs H (as.drop k) (ps.drop k) := by
  refine ⟨by rw [List.length_drop, List.length_drop, h.1], fun i a p h1 h2 => ?_⟩
  rw [List.getElem?_drop] at h1 h2
  exact h.2 _ a p h1 h2
/-- the fallen ones -/
def fa (as : List Addr) (ps : List (Int × Int)) (i : Nat) : List (Addr × (Int × Int)) := match as[i + 1]?, ps[i]?, ps[i + 1]? with
  | some a, some p, some q => if q.2 < p.2 then [(a, q)] else []
  | _, _, _ => []
def fallsN (as : List Addr) (ps : List (Int × Int)) : Nat → List (Addr × (Int × Int))
  | 0 => []
  | n + 1 => fallsN as ps n ++ fa as ps n
theorem falls_len (as : List Addr) (ps : List (Int × Int)) : ∀ n, (fallsN as ps n).length ≤ n
  | 0 => Nat.le_refl _
  | n + 1 => by
    have h := falls_len as ps n
    have h2 : (fa as ps n).length ≤ 1 := by
      unfold fa
      split
      · split <;> simp
      · simp
    show (fallsN as ps n ++ fa as ps n).length ≤ n + 1
    rw [List.length_append]
    omega
theorem falls_prs {H : Hp} {as : List Addr} {ps : List (Int × Int)} (h : Prs H as ps) : ∀ n, ∀ x ∈ fallsN as ps n, H x.1 = some (.tup [.int x.2.1, .int x.2.2])
  | 0, x, hx => (nomatch hx)
  | n + 1, x, hx => by
    rcases List.mem_append.mp hx with hx | hx
    · exact falls_prs h n x hx
    · unfold fa at hx
      split at hx
      · rename_i a p q e1 e2 e3
        split at hx
        · rw [List.mem_singleton.mp hx]
          exact h.2 _ _ _ e1 e3
        · cases hx
      · cases hx
theorem prs_of {H : Hp} : ∀ {l : List (Addr × (Int × Int))}, (∀ x ∈ l, H x.1 = some (.tup [.int x.2.1, .int x.2.2])) → Prs H (l.map (·.1)) (l.map (·.2)) := fun {l} h => by
  refine ⟨by rw [List.length_map, List.length_map], fun i a p h1 h2 => ?_⟩
  rw [List.getElem?_map] at h1 h2
  obtain ⟨x, hx, rfl⟩ := Option.map_eq_some_iff.mp h1
  obtain ⟨y, hy, rfl⟩ := Option.map_eq_some_iff.mp h2
  rw [hx] at hy
  cases hy
  exact h x (List.mem_of_getElem? hx)
theorem cut_tail {xs : List V} : cutV xs (some 1) none = xs.drop 1 := by
  unfold cutV
  rw [show (some (1 : Int)) = some ((1 : Nat) : Int) from rfl, HT.sIx_nat, HT.sIx_none]
  cases xs with
  | nil => rfl
  | cons x r =>
    have : min 1 (x :: r).length = 1 := Nat.min_eq_left (by simp)
    rw [this]
    simp
/-! ### falls_of -/
abbrev s_falls_of : Stmt := topS 2
abbrev N_falls_of : List Str := ["prices", "earlier", "later"]
theorem sc_falls_of : FnScope N_falls_of ["prices"] (defScope s_falls_of) := ⟨rfl, rfl, rfl, by decide +kernel, rfl, by decide +kernel, by decide +kernel⟩
def sp_falls_of (K : PySem.W.Frag) : Sp := fun vs H Q _ => ∃ (L : Addr) (as : List Addr) (ps : List (Int × Int)), vs = [.ref L] ∧ (SqL K H L (as.map V.ref) ∨ SqT K H L (as.map V.ref)) ∧ Prs H as ps ∧ ps.length ≤ 60 ∧ ∀ H' D, H D = none → Same H H' → H' D = some (.lst (((fallsN as ps (ps.length - 1)).map (·.1)).map V.ref)) → Q (.ref D) H'
theorem fa_of {as : List Addr} {ps : List (Int × Int)} {i : Nat} {a : Addr} {p q : Int × Int} (h1 : as[i + 1]? = some a) (h2 : ps[i]? = some p) (h3 : ps[i + 1]? = some q) : fa as ps i = if q.2 < p.2 then [(a, q)] else [] := by
  unfold fa
  rw [h1, h2, h3]
theorem ok_falls_of {f : Addr} {fd : FuncData} (F : Fun K "falls_of" "falls_of" s_falls_of f fd) (g : mg "falls_of" = some (.ref f)) (bd : Binds K fd ["prices"] []) (m_zip : mg "zip" = none) : CF P w K mg base 1 "falls_of" ["prices"] (sp_falls_of K) := by
  refine ⟨f, fd, F.ok sc_falls_of (fun vs H Q E h => ?_) (fun cdv A outer s H vs Q E hr h => ?_), g, F.kp, bd⟩
  · first | (obtain ⟨_, rfl, _⟩ := h; rfl) | (obtain ⟨_, _, rfl, _⟩ := h; rfl) | (obtain ⟨_, _, _, rfl, _⟩ := h; rfl) | (obtain ⟨_, _, _, _, rfl, _⟩ := h; rfl) | (obtain ⟨_, _, _, _, _, rfl, _⟩ := h; rfl) | (obtain ⟨_, _, _, _, _, _, rfl, _⟩ := h; rfl) | (obtain ⟨_, _, _, _, _, _, _, rfl, _⟩ := h; rfl) | (obtain ⟨_, _, _, _, _, _, _, _, rfl, _⟩ := h; rfl) | (obtain ⟨_, _, _, _, _, _, _, _, _, rfl, _⟩ := h; rfl) | (obtain ⟨_, _, _, _, _, _, _, _, _, _, rfl, _⟩ := h; rfl) | (obtain ⟨_, _, _, _, _, _, _, _, _, _, _, rfl, _⟩ := h; rfl) | (obtain ⟨_, _, _, _, _, _, _, _, _, _, _, _, rfl, _⟩ := h; rfl) | (obtain ⟨_, _, _, _, _, _, _, _, _, _, _, _, _, rfl, _⟩ := h; rfl) | (obtain ⟨_, _, _, _, _, _, _, _, _, _, _, _, _, _, rfl, _⟩ := h; rfl) | (obtain ⟨_, _, _, _, _, _, _, _, _, _, _, _, _, _, _, rfl, _⟩ := h; rfl)
  · have hu64 := hr.units
    obtain ⟨L, as, ps, rfl, hS, hP, hl60, q⟩ := h
    refine ⟨_, (pss_one (ps_ret (pe_lc (own := [("earlier", 1), ("later", 2)]) (g := (gTup K 2 (gCons (gName 1) (gCons (gName 2) gNil)))) rfl sc_falls_of.nd (RZ.pi_zipA (by rfl) m_zip (pa_cons (pv 0) (pa_cons (pe_slice ((kk_sll K).or (kk_sla K)) (pv 0) (po_some pe_int) po_none) pa_nil))) (blkOk_by (own := [("earlier", 1), ("later", 2)]) (N := N_falls_of) (sc := defScope s_falls_of) (by decide +kernel)) (fun _ _ _ _ _ => (pg_tup (by rfl) (pgs_cons (pg_name (i := 1) sc_falls_of.nd rfl (.inl rfl)) (pgs_cons (pg_name (i := 2) sc_falls_of.nd rfl (.inl rfl)) pgs_nil)))) (fun _ _ _ _ _ => (pts_one (pt_cmpR op_lt (pe_ix (kk_ixt K) (pv 2) pe_int (fun _ _ => rfl)) (pe_ix (kk_ixt K) (pv 1) pe_int (fun _ _ => rfl)) (nomark _)))) (fun _ _ _ _ _ => (pv 2))))), ?_⟩
    have al := hP.1
    rcases hS with hS | hS
    · refine ⟨_, rfl, _, rfl, _, rfl, .inl ⟨L, _, rfl, hS, fun c nc => ?_⟩⟩
      have sC := same_new (o := .lst (cutV (as.map V.ref) (some 1) none)) nc
      have hC : SqL K (upd H c (.lst (cutV (as.map V.ref) (some 1) none))) c ((as.drop 1).map V.ref) := by
        refine SqL.of ?_
        rw [upd_same, cut_tail, List.map_drop]
      generalize upd H c (.lst (cutV (as.map V.ref) (some 1) none)) = G at *
      have hSG := sC.seq hS
      refine ⟨L, c, _, _, rfl, .inl ⟨hSG, hC, fun D hD => lc_gen (n := ps.length - 1) (fun i H' => Same G H' ∧ H' D = some (.lst (((fallsN as ps i).map (·.1)).map V.ref))) ⟨same_new hD, upd_same⟩ (fun i H' h => ?_) (fun i H' v H'' hi h hy => ?_) (fun H' h => ?_)⟩⟩
      · have h1 := h.1.seq hSG
        have h2 := h.1.seq hC
        refine ⟨fun z => ⟨_, _, _, _, h1, h2, List.getElem?_eq_getElem (by rw [List.length_map]; omega), List.getElem?_eq_getElem (by rw [List.length_map, List.length_drop]; omega)⟩, fun z => ⟨_, _, h1, h2, .inr (by rw [List.length_map, List.length_drop]; omega)⟩⟩
      · obtain ⟨T, x, y, rfl, hT, rfl, f1, f2⟩ := hy
        have g1 := f1 _ (h.1.seq hSG)
        have g2 := f2 _ (h.1.seq hC)
        obtain ⟨a, p, rfl, ha, hp, hA⟩ := (hP.same (sC.trans h.1)).at g1
        rw [List.getElem?_map, List.getElem?_drop, Nat.add_comm] at g2
        obtain ⟨a2, ha2, rfl⟩ := Option.map_eq_some_iff.mp g2
        have hi2 : i + 1 < ps.length := by omega
        have hq := List.getElem?_eq_getElem hi2
        have hA2 := (hP.same (sC.trans h.1)).2 _ _ _ ha2 hq
        have sT := same_new (o := .tup [.ref a, .ref a2]) hT
        have fe := fa_of ha2 hp hq
        refine ⟨T, _, rfl, SqT.of upd_same, rfl, _, _, rfl, _, _, rfl, rfl, rfl, ?_⟩
        refine ⟨_, rfl, a2, _, _, _, rfl, rfl, SqT.of (sT _ _ hA2), rfl, _, rfl, a, _, _, _, rfl, rfl, SqT.of (sT _ _ hA), rfl, _, _, rfl, rfl, _, rfl, ite2 (fun z => ?_) (fun z => ?_)⟩
        · rw [if_pos (of_decide_eq_true z)] at fe
          refine ⟨_, rfl, _, sT _ _ h.2, ?_, ?_, ?_⟩
          · rw [List.length_map, List.length_map]
            have := falls_len as ps i
            exact small1000 (by omega)
          · exact fun c o e => by
              rw [upd_ne (ne_of_none e hD)]
              exact sT _ _ (h.1 _ _ e)
          · rw [upd_same]
            show _ = some (HO.lst (((fallsN as ps i ++ fa as ps i).map (·.1)).map V.ref))
            rw [fe, List.map_append, List.map_append]
            rfl
        · rw [if_neg fun y => z (decide_eq_true y)] at fe
          refine ⟨h.1.trans sT, ?_⟩
          show _ = some (HO.lst (((fallsN as ps i ++ fa as ps i).map (·.1)).map V.ref))
          rw [fe, List.append_nil]
          exact sT _ _ h.2
      · exact q _ D (none_of sC hD) (sC.trans h.1) h.2
    · refine ⟨_, rfl, _, rfl, _, rfl, .inr ⟨L, _, rfl, hS, fun hw => ?_, fun hw c nc => ?_⟩⟩
      · have h0 : as.length = 0 := by
          have := hw.1
          rw [show (some (1 : Int)) = some ((1 : Nat) : Int) from rfl, HT.sIx_nat, List.length_map] at this
          omega
        have hp0 : ps.length - 1 = 0 := by omega
        refine ⟨L, L, _, _, rfl, .inr ⟨hS, hS, fun D hD => lc_gen (n := 0) (fun i H' => Same H H' ∧ H' D = some (.lst [])) ⟨same_new hD, upd_same⟩ (fun i H' h => ⟨fun z => absurd z (by omega), fun z => ⟨_, _, seqT_same h.1 hS, seqT_same h.1 hS, .inl (by rw [List.length_map]; omega)⟩⟩) (fun i H' v H'' hi h hy => absurd hi (by omega)) (fun H' h => ?_)⟩⟩
        refine q _ D hD h.1 ?_
        rw [hp0]
        exact h.2
      · have sC := same_new (o := .tup (cutV (as.map V.ref) (some 1) none)) nc
        have hC : SqT K (upd H c (.tup (cutV (as.map V.ref) (some 1) none))) c ((as.drop 1).map V.ref) := by
          refine SqT.of ?_
          rw [upd_same, cut_tail, List.map_drop]
        generalize upd H c (.tup (cutV (as.map V.ref) (some 1) none)) = G at *
        have hSG := seqT_same sC hS
        refine ⟨L, c, _, _, rfl, .inr ⟨hSG, hC, fun D hD => lc_gen (n := ps.length - 1) (fun i H' => Same G H' ∧ H' D = some (.lst (((fallsN as ps i).map (·.1)).map V.ref))) ⟨same_new hD, upd_same⟩ (fun i H' h => ?_) (fun i H' v H'' hi h hy => ?_) (fun H' h => ?_)⟩⟩
        · have h1 := seqT_same h.1 hSG
          have h2 := seqT_same h.1 hC
          refine ⟨fun z => ⟨_, _, _, _, h1, h2, List.getElem?_eq_getElem (by rw [List.length_map]; omega), List.getElem?_eq_getElem (by rw [List.length_map, List.length_drop]; omega)⟩, fun z => ⟨_, _, h1, h2, .inr (by rw [List.length_map, List.length_drop]; omega)⟩⟩
        · obtain ⟨T, x, y, rfl, hT, rfl, f1, f2⟩ := hy
          have g1 := f1 _ (seqT_same h.1 hSG)
          have g2 := f2 _ (seqT_same h.1 hC)
          obtain ⟨a, p, rfl, ha, hp, hA⟩ := (hP.same (sC.trans h.1)).at g1
          rw [List.getElem?_map, List.getElem?_drop, Nat.add_comm] at g2
          obtain ⟨a2, ha2, rfl⟩ := Option.map_eq_some_iff.mp g2
          have hi2 : i + 1 < ps.length := by omega
          have hq := List.getElem?_eq_getElem hi2
          have hA2 := (hP.same (sC.trans h.1)).2 _ _ _ ha2 hq
          have sT := same_new (o := .tup [.ref a, .ref a2]) hT
          have fe := fa_of ha2 hp hq
          refine ⟨T, _, rfl, SqT.of upd_same, rfl, _, _, rfl, _, _, rfl, rfl, rfl, ?_⟩
          refine ⟨_, rfl, a2, _, _, _, rfl, rfl, SqT.of (sT _ _ hA2), rfl, _, rfl, a, _, _, _, rfl, rfl, SqT.of (sT _ _ hA), rfl, _, _, rfl, rfl, _, rfl, ite2 (fun z => ?_) (fun z => ?_)⟩
          · rw [if_pos (of_decide_eq_true z)] at fe
            refine ⟨_, rfl, _, sT _ _ h.2, ?_, ?_, ?_⟩
            · rw [List.length_map, List.length_map]
              have := falls_len as ps i
              exact small1000 (by omega)
            · exact fun c o e => by
                rw [upd_ne (ne_of_none e hD)]
                exact sT _ _ (h.1 _ _ e)
            · rw [upd_same]
              show _ = some (HO.lst (((fallsN as ps i ++ fa as ps i).map (·.1)).map V.ref))
              rw [fe, List.map_append, List.map_append]
              rfl
          · rw [if_neg fun y => z (decide_eq_true y)] at fe
            refine ⟨h.1.trans sT, ?_⟩
            show _ = some (HO.lst (((fallsN as ps i ++ fa as ps i).map (·.1)).map V.ref))
            rw [fe, List.append_nil]
            exact sT _ _ h.2
        · exact q _ D (none_of sC hD) (sC.trans h.1) h.2
def pv' (ps : List (Int × Int)) (k : Nat) : V := (ps.take k).foldl (fun _ q => .int q.2) V.non
theorem fold_low {D : Int} : ∀ (l : List (Int × Int)) (v : V), (∀ p ∈ l, p.1 ≤ D) → l.foldl (fun t q => if q.1 ≤ D then .int q.2 else t) v = l.foldl (fun _ q => .int q.2) v
  | [], _, _ => rfl
  | p :: r, v, h => by
    rw [List.foldl_cons, List.foldl_cons, if_pos (h p List.mem_cons_self)]
    exact fold_low r _ fun x hx => h x (List.mem_cons_of_mem _ hx)
theorem fold_high {D : Int} : ∀ (l : List (Int × Int)) (v : V), (∀ p ∈ l, D < p.1) → l.foldl (fun t q => if q.1 ≤ D then .int q.2 else t) v = v
  | [], _, _ => rfl
  | p :: r, v, h => by
    have := h p List.mem_cons_self
    rw [List.foldl_cons, if_neg (by omega)]
    exact fold_high r _ fun x hx => h x (List.mem_cons_of_mem _ hx)
theorem pv_on {ps : List (Int × Int)} {k : Nat} {D : Int} (h1 : ∀ p ∈ ps.take k, p.1 ≤ D) (h2 : ∀ p ∈ ps.drop k, D < p.1) : pOn ps D = pv' ps k := by
  have e : pOn ps D = pOn (ps.take k ++ ps.drop k) D := by rw [List.take_append_drop]
  rw [e]
  unfold pOn pv'
  rw [List.foldl_append, fold_high _ _ h2, fold_low _ _ h1]
theorem pv_s {ps : List (Int × Int)} {k : Nat} {p : Int × Int} (h : ps[k]? = some p) : pv' ps (k + 1) = .int p.2 := by
  unfold pv'
  rw [List.take_add_one, h, List.foldl_append]
  rfl
theorem pv_is (ps : List (Int × Int)) (k : Nat) : pv' ps k = .non ∨ ∃ i, pv' ps k = .int i := by
  unfold pv'
  have : ∀ (l : List (Int × Int)) (v : V), (v = .non ∨ ∃ i, v = .int i) → (l.foldl (fun _ q => V.int q.2) v = .non ∨ ∃ i, l.foldl (fun _ q => V.int q.2) v = .int i) := by
    intro l
    induction l with
    | nil => exact fun v h => h
    | cons p r ih => exact fun v _ => ih _ (.inr ⟨_, rfl⟩)
  exact this _ _ (.inl rfl)
theorem pOn_is (ps : List (Int × Int)) (D : Int) : pOn ps D = .non ∨ ∃ i, pOn ps D = .int i := by
  unfold pOn
  have : ∀ (l : List (Int × Int)) (v : V), (v = .non ∨ ∃ i, v = .int i) → (l.foldl (fun t q => if q.1 ≤ D then V.int q.2 else t) v = .non ∨ ∃ i, l.foldl (fun t q => if q.1 ≤ D then V.int q.2 else t) v = .int i) := by
    intro l
    induction l with
    | nil => exact fun v h => h
    | cons p r ih =>
      intro v h
      refine ih _ ?_
      show (if p.1 ≤ D then V.int p.2 else v) = .non ∨ ∃ i, (if p.1 ≤ D then V.int p.2 else v) = .int i
      split
      · exact .inr ⟨_, rfl⟩
      · exact h
  exact this _ _ (.inl rfl)
def toI : V → Option Int
  | .int i => some i
  | _ => none
def vals (ps : List (Int × Int)) (bg : Int) (n : Nat) : List Int := ((List.range n).map fun d : Nat => pOn ps (bg + d)).filterMap toI
def IsLeast (l : List Int) (v : V) : Prop := (l = [] ∧ v = .non) ∨ ∃ m, m ∈ l ∧ (∀ n ∈ l, m ≤ n) ∧ v = .int m
theorem least_one {l : List Int} {v w : V} (h1 : IsLeast l v) (h2 : IsLeast l w) : v = w := by
  rcases h1 with ⟨e1, r1⟩ | ⟨m, m1, m2, r1⟩ <;> rcases h2 with ⟨e2, r2⟩ | ⟨k, k1, k2, r2⟩
  · rw [r1, r2]
  · rw [e1] at k1
    cases k1
  · rw [e2] at m1
    cases m1
  · have a := m2 k k1
    have b := k2 m m1
    rw [r1, r2, show m = k by omega]
theorem least_is {l : List Int} {v : V} (h : IsLeast l v) : v = .non ∨ ∃ i, v = .int i := by
  rcases h with ⟨_, r⟩ | ⟨m, _, _, r⟩
  · exact .inl r
  · exact .inr ⟨m, r⟩
theorem vals_s (ps : List (Int × Int)) (bg : Int) (n : Nat) : vals ps bg (n + 1) = vals ps bg n ++ (toI (pOn ps (bg + n))).toList := by
  unfold vals
  rw [List.range_succ, List.map_append, List.filterMap_append]
  congr 1
def addL (i : Int) : V → V
  | .int j => .int (if i < j then i else j)
  | _ => .int i
theorem least_add {l : List Int} {v : V} {i : Int} (h : IsLeast l v) : IsLeast (l ++ [i]) (addL i v) := by
  rcases h with ⟨e, rfl⟩ | ⟨m, m1, m2, rfl⟩
  · rw [e]
    exact .inr ⟨i, List.mem_singleton.mpr rfl, fun n hn => by rw [List.mem_singleton.mp hn]; exact Int.le_refl _, rfl⟩
  · refine .inr ⟨if i < m then i else m, ?_, fun n hn => ?_, rfl⟩
    · split
      · exact List.mem_append_right _ (List.mem_singleton.mpr rfl)
      · exact List.mem_append_left _ m1
    · rcases List.mem_append.mp hn with h | h
      · have := m2 n h
        split <;> omega
      · rw [List.mem_singleton.mp h]
        split <;> omega
theorem map_vals {l : List V} (h : ∀ v ∈ l, v = .non ∨ ∃ i, v = .int i) {i : Nat} {x : V} (hx : l[i]? = some x) : (l.take (i + 1)).filterMap toI = (l.take i).filterMap toI ++ (toI x).toList := by
  rw [List.take_add_one, hx, List.filterMap_append]
  cases e : toI x <;> simp [e]
/-! ### least_since -/
abbrev s_least_since : Stmt := topS 3
abbrev N_least_since : List Str := ["prices", "begin", "within", "told", "day", "pence"]
theorem sc_least_since : FnScope N_least_since ["prices", "begin", "within"] (defScope s_least_since) := ⟨rfl, rfl, rfl, by decide +kernel, rfl, by decide +kernel, by decide +kernel⟩
def sp_least_since (K : PySem.W.Frag) : Sp := fun vs H Q _ => ∃ (L : Addr) (bg wi : Int) (as : List Addr) (ps : List (Int × Int)), vs = [.ref L, .int bg, .int wi] ∧ (SqL K H L (as.map V.ref) ∨ SqT K H L (as.map V.ref)) ∧ Prs H as ps ∧ 0 ≤ bg ∧ bg ≤ 400 ∧ 0 ≤ wi ∧ wi ≤ 400 ∧ ∀ H' v, Same H H' → IsLeast (vals ps bg (wi + 1).toNat) v → Q v H'
theorem ok_least_since {f : Addr} {fd : FuncData} (F : Fun K "least_since" "least_since" s_least_since f fd) (g : mg "least_since" = some (.ref f)) (bd : Binds K fd ["prices", "begin", "within"] []) (m_range : mg "range" = none) (m_min : mg "min" = none) (C_price_on : CF P w K mg base 1 "price_on" ["prices", "day"] (sp_price_on K)) : CF P w K mg base 2 "least_since" ["prices", "begin", "within"] (sp_least_since K) := by
  refine ⟨f, fd, F.ok sc_least_since (fun vs H Q E h => ?_) (fun cdv A outer s H vs Q E hr h => ?_), g, F.kp, bd⟩
  · first | (obtain ⟨_, rfl, _⟩ := h; rfl) | (obtain ⟨_, _, rfl, _⟩ := h; rfl) | (obtain ⟨_, _, _, rfl, _⟩ := h; rfl) | (obtain ⟨_, _, _, _, rfl, _⟩ := h; rfl) | (obtain ⟨_, _, _, _, _, rfl, _⟩ := h; rfl) | (obtain ⟨_, _, _, _, _, _, rfl, _⟩ := h; rfl) | (obtain ⟨_, _, _, _, _, _, _, rfl, _⟩ := h; rfl) | (obtain ⟨_, _, _, _, _, _, _, _, rfl, _⟩ := h; rfl) | (obtain ⟨_, _, _, _, _, _, _, _, _, rfl, _⟩ := h; rfl) | (obtain ⟨_, _, _, _, _, _, _, _, _, _, rfl, _⟩ := h; rfl) | (obtain ⟨_, _, _, _, _, _, _, _, _, _, _, rfl, _⟩ := h; rfl) | (obtain ⟨_, _, _, _, _, _, _, _, _, _, _, _, rfl, _⟩ := h; rfl) | (obtain ⟨_, _, _, _, _, _, _, _, _, _, _, _, _, rfl, _⟩ := h; rfl) | (obtain ⟨_, _, _, _, _, _, _, _, _, _, _, _, _, _, rfl, _⟩ := h; rfl) | (obtain ⟨_, _, _, _, _, _, _, _, _, _, _, _, _, _, _, rfl, _⟩ := h; rfl)
  · have hu64 := hr.units
    obtain ⟨L, bg, wi, as, ps, rfl, hS, hP, b0, b1, w0, w1, q⟩ := h
    refine ⟨_, (pss_cons (ps_setLc (i := 3) (own := [("day", 4)]) (g := (gName 4)) (tt := tYes) rfl sc_least_since.nd rfl rfl (sw_true rfl rfl rfl (by decide +kernel)) (pi_range2 (by rfl) m_range (pa_cons (pv 1) (pa_cons (pe_op op_add (pe_op op_add (pv 1) (pv 2)) pe_int) pa_nil))) (blkOk_by (own := [("day", 4)]) (N := N_least_since) (sc := defScope s_least_since) (by decide +kernel)) (fun _ _ _ _ _ => pg_name (i := 4) sc_least_since.nd rfl (Or.inl rfl)) (fun _ _ _ _ _ => pts_nil) (fun _ _ _ _ _ => (pe_cf C_price_on (hr.mono (by decide)) (by rfl) (pa_cons (pv 0) (pa_cons (pv 4) pa_nil)))))
      (pss_one (ps_ret (pe_callBK (call_minD K rfl hu64) (by rfl) m_min (by decide +kernel) (pa_cons (pe_lc (own := [("pence", 5)]) (g := (gName 5)) rfl sc_least_since.nd (pi_list (pv 3)) (blkOk_by (own := [("pence", 5)]) (N := N_least_since) (sc := defScope s_least_since) (by decide +kernel)) (fun _ _ _ _ _ => pg_name (i := 5) sc_least_since.nd rfl (Or.inl rfl)) (fun _ _ _ _ _ => (pts_one (pt_cmpR op_notN (pv 5) pe_non (nomark _)))) (fun _ _ _ _ _ => (pv 5))) pa_nil) (pk_cons pe_non pk_nil))))), ?_⟩
    have HJ := fun {X : Hp} (z : Same H X) => hS.elim (fun h => Or.inl (z.seq h)) (fun h => Or.inr (seqT_same z h))
    have hn : (bg + wi + 1 - bg).toNat = (wi + 1).toNat := by omega
    refine ⟨_, rfl, _, rfl, _, rfl, _, _, rfl, rfl, _, _, rfl, rfl, _, _, rfl, ⟨by omega, by omega, by omega, by omega⟩, fun D hD => lc_range (lo := bg) (n := (bg + wi + 1 - bg).toNat) (fun i H' => Same H H' ∧ H' D = some (.lst ((List.range i).map fun d : Nat => pOn ps (bg + d)))) ⟨same_new hD, upd_same⟩ (fun i H' hi h => ?_) (fun H1 h => ?_)⟩
    · refine ⟨rfl, _, rfl, _, rfl, L, _, as, ps, rfl, HJ h.1, hP.same h.1, _, h.2, ?_, ?_, ?_⟩
      · rw [List.length_map, List.length_range]
        exact small1000 (by omega)
      · exact fun c o e => by
          rw [upd_ne (ne_of_none e hD)]
          exact h.1 _ _ e
      · rw [upd_same, List.range_succ, List.map_append]
        rfl
    obtain ⟨s1, hDl⟩ := h
    rw [hn] at hDl
    have hvl : ∀ v ∈ ((List.range (wi + 1).toNat).map fun d : Nat => pOn ps (bg + d)), v = .non ∨ ∃ i, v = .int i := fun v hv => by
      obtain ⟨d, _, rfl⟩ := List.mem_map.mp hv
      exact pOn_is ps _
    have q2 := fun H' v (s : Same H H') (h : IsLeast (((List.range (wi + 1).toNat).map fun d : Nat => pOn ps (bg + d)).filterMap toI) v) => q H' v s h
    have hll : ((List.range (wi + 1).toNat).map fun d : Nat => pOn ps (bg + d)).length ≤ 401 := by
      rw [List.length_map, List.length_range]
      omega
    generalize ((List.range (wi + 1).toNat).map fun d : Nat => pOn ps (bg + d)) = l at *
    refine ⟨_, rfl, D, rfl, ⟨_, SqL.of hDl⟩, fun M nM => lc_list (K := K) (a := D) (xs := l) (fun i H' => Same H1 H' ∧ H' M = some (.lst (((l.take i).filterMap toI).map V.int))) ⟨same_new nM, upd_same⟩ (fun i H' _ h => SqL.of (h.1 _ _ hDl)) (fun i x H' hx h => ?_) (fun H2 h => ?_)⟩
    · have hi3 : i < l.length := (List.getElem?_eq_some_iff.mp hx).1
      have mv := map_vals hvl hx
      rcases hvl x (List.mem_of_getElem? hx) with rfl | ⟨j, rfl⟩
      · refine ⟨rfl, _, rfl, rfl, _, rfl, iteF ⟨h.1, ?_⟩⟩
        rw [mv, h.2]
        simp [toI]
      · refine ⟨rfl, _, rfl, rfl, _, rfl, iteT ⟨_, rfl, _, h.2, ?_, ?_, ?_⟩⟩
        · rw [List.length_map]
          refine Nat.lt_of_le_of_lt ?_ (small1000 (n := i) (by omega))
          exact Nat.le_trans (List.length_filterMap_le _ _) (by rw [List.length_take]; omega)
        · exact fun c o e => by
            rw [upd_ne (ne_of_none e nM)]
            exact h.1 _ _ e
        · rw [upd_same, mv, List.map_append]
          rfl
    · obtain ⟨s2, hM⟩ := h
      rw [List.take_of_length_le (Nat.le_refl _)] at hM
      exact ⟨M, _, rfl, rfl, SqL.of hM, fun e => q2 _ _ (s1.trans s2) (.inl ⟨e, rfl⟩), fun m m1 m2 => q2 _ _ (s1.trans s2) (.inr ⟨m, m1, m2, rfl⟩)⟩
set_option maxHeartbeats 2000000
/-! ### wants and incomes -/
structure Wt where
  n : Str
  p : Int
  l : Int
def wV (w : Wt) : List V := [.str w.n, .int w.p, .int w.l]
def iV (i : Int × Int) : List V := [.int i.1, .int i.2]
def dueF (ws : List Wt) (d : Int) : Int := ((ws.filter fun w => decide (w.l ≤ d)).map (·.p)).sum
def comF (is : List (Int × Int)) (d : Int) : Int := ((is.filter fun i => decide (i.1 ≤ d)).map (·.2)).sum
def shortF (ws : List Wt) (is : List (Int × Int)) (ns : List Int) : List (Int × Int) := (ns.map fun d => (d, dueF ws d - comF is d)).filter fun q => decide (q.2 > 0)
/-- the days of wants, each once, rising -/
def Lasts (ws : List Wt) (ns : List Int) : Prop := ns.Pairwise (· < ·) ∧ ∀ k, k ∈ ns ↔ ∃ w ∈ ws, w.l = k
theorem filt_map {α β : Type} {g : α → β} {p : β → Bool} (l : List α) : (l.filter fun q => p (g q)).map g = (l.map g).filter p := by
  rw [List.filter_map]
  rfl
theorem rise_one : ∀ {l m : List Int}, l.Pairwise (· < ·) → m.Pairwise (· < ·) → (∀ k, k ∈ l ↔ k ∈ m) → l = m
  | [], [], _, _, _ => rfl
  | [], b :: m, _, _, h => absurd ((h b).mpr List.mem_cons_self) (by simp)
  | a :: l, [], _, _, h => absurd ((h a).mp List.mem_cons_self) (by simp)
  | a :: l, b :: m, h1, h2, h => by
    obtain ⟨a1, a2⟩ := List.pairwise_cons.mp h1
    obtain ⟨b1, b2⟩ := List.pairwise_cons.mp h2
    have e : a = b := by
      rcases List.mem_cons.mp ((h a).mp List.mem_cons_self) with x | x
      · exact x
      · rcases List.mem_cons.mp ((h b).mpr List.mem_cons_self) with y | y
        · exact y.symm
        · have := a1 b y
          have := b1 a x
          omega
    subst e
    rw [rise_one a2 b2 fun k => ?_]
    constructor
    · intro hk
      rcases List.mem_cons.mp ((h k).mp (List.mem_cons_of_mem _ hk)) with x | x
      · have := a1 k hk
        omega
      · exact x
    · intro hk
      rcases List.mem_cons.mp ((h k).mpr (List.mem_cons_of_mem _ hk)) with x | x
      · have := b1 k hk
        omega
      · exact x
theorem Lasts.one {ws vs : List Wt} {l m : List Int} (h1 : Lasts ws l) (h2 : Lasts vs m) (p : ∀ w, w ∈ ws ↔ w ∈ vs) : l = m := by
  refine rise_one h1.1 h2.1 fun k => ?_
  rw [h1.2, h2.2]
  constructor
  · exact fun ⟨w, a, b⟩ => ⟨w, (p w).mp a, b⟩
  · exact fun ⟨w, a, b⟩ => ⟨w, (p w).mpr a, b⟩
theorem perm_sum {l m : List Int} (h : l.Perm m) : l.sum = m.sum := by
  induction h with
  | nil => rfl
  | cons x _ ih => rw [List.sum_cons, List.sum_cons, ih]
  | swap x y l =>
    simp only [List.sum_cons]
    omega
  | trans _ _ a b => exact a.trans b
theorem due_perm {ws vs : List Wt} (p : ws.Perm vs) (d : Int) : dueF ws d = dueF vs d := by
  unfold dueF
  exact perm_sum ((p.filter _).map _)
theorem com_perm {ws vs : List (Int × Int)} (p : ws.Perm vs) (d : Int) : comF ws d = comF vs d := by
  unfold comF
  exact perm_sum ((p.filter _).map _)
theorem filter_le {l : List Int} (h : l.length ≤ 1000) (p : Int → Bool) : (l.filter p).length ≤ 1000 := Nat.le_trans (List.length_filter_le _ _) h
def prD2 (p : Int × Int) : PyData := .tuple [.int p.1, .int p.2]
theorem row_dp {α : Type} {f : α → List V} {fd : α → PyData} {K : PySem.W.Frag} {H : Hp} (hf : ∀ (a : Addr) x, SqT K H a (f x) → Dp K H (.ref a) (fd x)) : ∀ {L : List (Addr × α)}, RowsAt f H L → DpAll K H (refs L) (L.map fun q => fd q.2)
  | [], _ => .nil
  | q :: r, h => .cons (hf _ _ (SqT.of (h q List.mem_cons_self))) (row_dp hf fun x hx => h x (List.mem_cons_of_mem _ hx))
theorem iV_dp {K : PySem.W.Frag} {H : Hp} (a : Addr) (x : Int × Int) (h : SqT K H a (iV x)) : Dp K H (.ref a) (prD2 x) := .tup h (.cons (.int _) (.cons (.int _) .nil))
def wtD (w : Wt) : PyData := .tuple [.str w.n, .int w.p, .int w.l]
theorem wV_dp {K : PySem.W.Frag} {H : Hp} (a : Addr) (x : Wt) (h : SqT K H a (wV x)) : Dp K H (.ref a) (wtD x) := .tup h (.cons (.str _) (.cons (.int _) (.cons (.int _) .nil)))
theorem pairs_lay : ∀ l : List (Int × Int), PyData.canLayAll0 (l.map prD2) = true
  | [] => by simp [PyData.canLayAll0]
  | p :: r => by simp [PyData.canLayAll0, PyData.canLay0, prD2, pairs_lay r]
theorem pairs_depth : ∀ l : List (Int × Int), PyData.depthAll (l.map prD2) ≤ 2
  | [] => by simp [PyData.depthAll]
  | p :: r => by
    have := pairs_depth r
    simp only [List.map_cons, PyData.depthAll, PyData.depth, prD2]
    omega
theorem sh_pairs (l : List (Int × Int)) : SeqAt.shaped (.list (l.map prD2)) = true := by
  have h1 := pairs_depth l
  have h2 : PyData.depth (.list (l.map prD2)) ≤ 64 := by
    simp only [PyData.depth]
    omega
  show (PyData.canLay0 _ && decide (_ ≤ 64)) = true
  rw [Bool.and_eq_true]
  exact ⟨by simp only [PyData.canLay0]; exact pairs_lay l, decide_eq_true h2⟩
theorem eqv_pairs (l : List (Int × Int)) : PyData.eqv (.list (l.map prD2)) (.list (l.map prD2)) = true := SeqAt.eqv_refl _ (SeqAt.canLay_of_shaped (sh_pairs l))
theorem pairs_dp {K : PySem.W.Frag} {H : Hp} {a : Addr} {S : List (Addr × (Int × Int))} (h : SqL K H a (refs S)) (hS : RowsAt iV H S) : Dp K H (.ref a) (.list ((S.map (·.2)).map prD2)) := by
  rw [List.map_map]
  exact .lst h (row_dp iV_dp hS)
theorem eqv_nil {l : List PyData} : PyData.eqv (.list l) (.list []) = decide (l = []) := by
  cases l <;> simp [PyData.eqv, PyData.eqvAll]
/-! ### due_by -/
abbrev s_due_by : Stmt := topS 7
abbrev N_due_by : List Str := ["wants", "day", "name", "pence", "last"]
theorem sc_due_by : FnScope N_due_by ["wants", "day"] (defScope s_due_by) := ⟨rfl, rfl, rfl, by decide +kernel, rfl, by decide +kernel, by decide +kernel⟩
def sp_due_by (K : PySem.W.Frag) : Sp := fun vs H Q _ => ∃ (a : Addr) (d : Int) (L : List (Addr × Wt)), vs = [.ref a, .int d] ∧ (SqL K H a (refs L) ∨ SqT K H a (refs L)) ∧ RowsAt wV H L ∧ L.length ≤ 1000 ∧ ∀ H', Same H H' → Q (.int (dueF (L.map (·.2)) d)) H'
theorem ok_due_by {f : Addr} {fd : FuncData} (F : Fun K "due_by" "due_by" s_due_by f fd) (g : mg "due_by" = some (.ref f)) (bd : Binds K fd ["wants", "day"] []) (m_sum : mg "sum" = none) : CF P w K mg base 1 "due_by" ["wants", "day"] (sp_due_by K) := by
  refine ⟨f, fd, F.ok sc_due_by (fun vs H Q E h => ?_) (fun cdv A outer s H vs Q E hr h => ?_), g, F.kp, bd⟩
  · first | (obtain ⟨_, rfl, _⟩ := h; rfl) | (obtain ⟨_, _, rfl, _⟩ := h; rfl) | (obtain ⟨_, _, _, rfl, _⟩ := h; rfl) | (obtain ⟨_, _, _, _, rfl, _⟩ := h; rfl) | (obtain ⟨_, _, _, _, _, rfl, _⟩ := h; rfl) | (obtain ⟨_, _, _, _, _, _, rfl, _⟩ := h; rfl) | (obtain ⟨_, _, _, _, _, _, _, rfl, _⟩ := h; rfl) | (obtain ⟨_, _, _, _, _, _, _, _, rfl, _⟩ := h; rfl) | (obtain ⟨_, _, _, _, _, _, _, _, _, rfl, _⟩ := h; rfl) | (obtain ⟨_, _, _, _, _, _, _, _, _, _, rfl, _⟩ := h; rfl) | (obtain ⟨_, _, _, _, _, _, _, _, _, _, _, rfl, _⟩ := h; rfl) | (obtain ⟨_, _, _, _, _, _, _, _, _, _, _, _, rfl, _⟩ := h; rfl) | (obtain ⟨_, _, _, _, _, _, _, _, _, _, _, _, _, rfl, _⟩ := h; rfl) | (obtain ⟨_, _, _, _, _, _, _, _, _, _, _, _, _, _, rfl, _⟩ := h; rfl) | (obtain ⟨_, _, _, _, _, _, _, _, _, _, _, _, _, _, _, rfl, _⟩ := h; rfl)
  · have hu64 := hr.units
    obtain ⟨a, d, L, rfl, hS, hR, small, q⟩ := h
    refine ⟨_, (pss_one (ps_ret (pe_callB (kk_sum K rfl) (by rfl) m_sum (by decide +kernel) (pa_cons (pe_lc (own := [("name", 2), ("pence", 3), ("last", 4)]) (g := (gTup K 3 (gCons (gName 2) (gCons (gName 3) (gCons (gName 4) gNil))))) rfl sc_due_by.nd (pi_or (pi_list (pv 0)) (pi_tup (pv 0))) (blkOk_by (own := [("name", 2), ("pence", 3), ("last", 4)]) (N := N_due_by) (sc := defScope s_due_by) (by decide +kernel)) (fun _ _ _ _ _ => (pg_tup (by rfl) (pgs_cons (pg_name (i := 2) sc_due_by.nd rfl (.inl rfl)) (pgs_cons (pg_name (i := 3) sc_due_by.nd rfl (.inl rfl)) (pgs_cons (pg_name (i := 4) sc_due_by.nd rfl (.inl rfl)) pgs_nil))))) (fun _ _ _ _ _ => (pts_one (pt_cmpR op_le (pv 4) (pv 1) (nomark _)))) (fun _ _ _ _ _ => (pv 3))) pa_nil)))), ?_⟩
    refine walk_or rfl hS fun J ok D hD => rows_lc (fun w : Wt => decide (w.l ≤ d)) (fun q => V.int q.2.p) ok hR small hD (fun q hq G s hG Y N h1 h2 => ?_) (fun G s hG => ?_)
    · refine ⟨q.1, _, rfl, SqT.of hG, rfl, _, _, rfl, _, _, rfl, _, _, rfl, rfl, rfl, _, rfl, _, rfl, _, _, rfl, rfl, _, rfl, ite2 (fun z => ⟨_, rfl, h1 z⟩) (fun z => h2 (by simpa using z))⟩
    · refine ⟨D, ((L.filter fun q => decide (q.2.l ≤ d)).map fun q => q.2.p), rfl, SqL.of (hG.trans (by rw [List.map_map]; rfl)), ?_⟩
      have e : dueF (L.map (·.2)) d = ((L.filter fun q => decide (q.2.l ≤ d)).map fun q => q.2.p).sum := by
        unfold dueF
        rw [← filt_map, List.map_map]
        rfl
      rw [← e]
      exact q G s
/-! ### come_by -/
abbrev s_come_by : Stmt := topS 8
abbrev N_come_by : List Str := ["incomes", "day", "come", "pence"]
theorem sc_come_by : FnScope N_come_by ["incomes", "day"] (defScope s_come_by) := ⟨rfl, rfl, rfl, by decide +kernel, rfl, by decide +kernel, by decide +kernel⟩
def sp_come_by (K : PySem.W.Frag) : Sp := fun vs H Q _ => ∃ (a : Addr) (d : Int) (L : List (Addr × (Int × Int))), vs = [.ref a, .int d] ∧ (SqL K H a (refs L) ∨ SqT K H a (refs L)) ∧ RowsAt iV H L ∧ L.length ≤ 1000 ∧ ∀ H', Same H H' → Q (.int (comF (L.map (·.2)) d)) H'
theorem ok_come_by {f : Addr} {fd : FuncData} (F : Fun K "come_by" "come_by" s_come_by f fd) (g : mg "come_by" = some (.ref f)) (bd : Binds K fd ["incomes", "day"] []) (m_sum : mg "sum" = none) : CF P w K mg base 1 "come_by" ["incomes", "day"] (sp_come_by K) := by
  refine ⟨f, fd, F.ok sc_come_by (fun vs H Q E h => ?_) (fun cdv A outer s H vs Q E hr h => ?_), g, F.kp, bd⟩
  · first | (obtain ⟨_, rfl, _⟩ := h; rfl) | (obtain ⟨_, _, rfl, _⟩ := h; rfl) | (obtain ⟨_, _, _, rfl, _⟩ := h; rfl) | (obtain ⟨_, _, _, _, rfl, _⟩ := h; rfl) | (obtain ⟨_, _, _, _, _, rfl, _⟩ := h; rfl) | (obtain ⟨_, _, _, _, _, _, rfl, _⟩ := h; rfl) | (obtain ⟨_, _, _, _, _, _, _, rfl, _⟩ := h; rfl) | (obtain ⟨_, _, _, _, _, _, _, _, rfl, _⟩ := h; rfl) | (obtain ⟨_, _, _, _, _, _, _, _, _, rfl, _⟩ := h; rfl) | (obtain ⟨_, _, _, _, _, _, _, _, _, _, rfl, _⟩ := h; rfl) | (obtain ⟨_, _, _, _, _, _, _, _, _, _, _, rfl, _⟩ := h; rfl) | (obtain ⟨_, _, _, _, _, _, _, _, _, _, _, _, rfl, _⟩ := h; rfl) | (obtain ⟨_, _, _, _, _, _, _, _, _, _, _, _, _, rfl, _⟩ := h; rfl) | (obtain ⟨_, _, _, _, _, _, _, _, _, _, _, _, _, _, rfl, _⟩ := h; rfl) | (obtain ⟨_, _, _, _, _, _, _, _, _, _, _, _, _, _, _, rfl, _⟩ := h; rfl)
  · have hu64 := hr.units
    obtain ⟨a, d, L, rfl, hS, hR, small, q⟩ := h
    refine ⟨_, (pss_one (ps_ret (pe_callB (kk_sum K rfl) (by rfl) m_sum (by decide +kernel) (pa_cons (pe_lc (own := [("come", 2), ("pence", 3)]) (g := (gTup K 2 (gCons (gName 2) (gCons (gName 3) gNil)))) rfl sc_come_by.nd (pi_or (pi_list (pv 0)) (pi_tup (pv 0))) (blkOk_by (own := [("come", 2), ("pence", 3)]) (N := N_come_by) (sc := defScope s_come_by) (by decide +kernel)) (fun _ _ _ _ _ => (pg_tup (by rfl) (pgs_cons (pg_name (i := 2) sc_come_by.nd rfl (.inl rfl)) (pgs_cons (pg_name (i := 3) sc_come_by.nd rfl (.inl rfl)) pgs_nil)))) (fun _ _ _ _ _ => (pts_one (pt_cmpR op_le (pv 2) (pv 1) (nomark _)))) (fun _ _ _ _ _ => (pv 3))) pa_nil)))), ?_⟩
    refine walk_or rfl hS fun J ok D hD => rows_lc (fun w : Int × Int => decide (w.1 ≤ d)) (fun q => V.int q.2.2) ok hR small hD (fun q hq G s hG Y N h1 h2 => ?_) (fun G s hG => ?_)
    · refine ⟨q.1, _, rfl, SqT.of hG, rfl, _, _, rfl, _, _, rfl, rfl, rfl, _, rfl, _, rfl, _, _, rfl, rfl, _, rfl, ite2 (fun z => ⟨_, rfl, h1 z⟩) (fun z => h2 (by simpa using z))⟩
    · refine ⟨D, ((L.filter fun q => decide (q.2.1 ≤ d)).map fun q => q.2.2), rfl, SqL.of (hG.trans (by rw [List.map_map]; rfl)), ?_⟩
      have e : comF (L.map (·.2)) d = ((L.filter fun q => decide (q.2.1 ≤ d)).map fun q => q.2.2).sum := by
        unfold comF
        rw [← filt_map, List.map_map]
        rfl
      rw [← e]
      exact q G s
/-! ### short_of -/
abbrev s_short_of : Stmt := topS 6
abbrev N_short_of : List Str := ["wants", "incomes", "days", "name", "pence", "last", "shorts", "day"]
theorem sc_short_of : FnScope N_short_of ["wants", "incomes"] (defScope s_short_of) := ⟨rfl, rfl, rfl, by decide +kernel, rfl, by decide +kernel, by decide +kernel⟩
def sp_short_of (K : PySem.W.Frag) : Sp := fun vs H Q _ => ∃ (a c : Addr) (L : List (Addr × Wt)) (M : List (Addr × (Int × Int))), vs = [.ref a, .ref c] ∧ (SqL K H a (refs L) ∨ SqT K H a (refs L)) ∧ RowsAt wV H L ∧ L.length ≤ 1000 ∧ (SqL K H c (refs M) ∨ SqT K H c (refs M)) ∧ RowsAt iV H M ∧ M.length ≤ 1000 ∧
  ∀ H' D S ns, H D = none → Same H H' → H' D = some (.lst (refs S)) → RowsAt iV H' S → Lasts (L.map (·.2)) ns → S.map (·.2) = shortF (L.map (·.2)) (M.map (·.2)) ns → S.length ≤ 1000 → Q (.ref D) H'
theorem ok_short_of {f : Addr} {fd : FuncData} (F : Fun K "short_of" "short_of" s_short_of f fd) (g : mg "short_of" = some (.ref f)) (bd : Binds K fd ["wants", "incomes"] []) (m_sorted : mg "sorted" = none) (C_due_by : CF P w K mg base 1 "due_by" ["wants", "day"] (sp_due_by K)) (C_come_by : CF P w K mg base 1 "come_by" ["incomes", "day"] (sp_come_by K)) : CF P w K mg base 2 "short_of" ["wants", "incomes"] (sp_short_of K) := by
  refine ⟨f, fd, F.ok sc_short_of (fun vs H Q E h => ?_) (fun cdv A outer s H vs Q E hr h => ?_), g, F.kp, bd⟩
  · first | (obtain ⟨_, rfl, _⟩ := h; rfl) | (obtain ⟨_, _, rfl, _⟩ := h; rfl) | (obtain ⟨_, _, _, rfl, _⟩ := h; rfl) | (obtain ⟨_, _, _, _, rfl, _⟩ := h; rfl) | (obtain ⟨_, _, _, _, _, rfl, _⟩ := h; rfl) | (obtain ⟨_, _, _, _, _, _, rfl, _⟩ := h; rfl) | (obtain ⟨_, _, _, _, _, _, _, rfl, _⟩ := h; rfl) | (obtain ⟨_, _, _, _, _, _, _, _, rfl, _⟩ := h; rfl) | (obtain ⟨_, _, _, _, _, _, _, _, _, rfl, _⟩ := h; rfl) | (obtain ⟨_, _, _, _, _, _, _, _, _, _, rfl, _⟩ := h; rfl) | (obtain ⟨_, _, _, _, _, _, _, _, _, _, _, rfl, _⟩ := h; rfl) | (obtain ⟨_, _, _, _, _, _, _, _, _, _, _, _, rfl, _⟩ := h; rfl) | (obtain ⟨_, _, _, _, _, _, _, _, _, _, _, _, _, rfl, _⟩ := h; rfl) | (obtain ⟨_, _, _, _, _, _, _, _, _, _, _, _, _, _, rfl, _⟩ := h; rfl) | (obtain ⟨_, _, _, _, _, _, _, _, _, _, _, _, _, _, _, rfl, _⟩ := h; rfl)
  · have hu64 := hr.units
    obtain ⟨a, c, L, M, rfl, hS, hR, small, hS2, hR2, small2, q⟩ := h
    refine ⟨_, (pss_cons (ps_set (i := 2) sc_short_of.nd rfl (.inl rfl) (pe_callB (kk_sortedSN w rfl) (by rfl) m_sorted (by decide +kernel) (pa_cons (pe_scI (own := [("name", 3), ("pence", 4), ("last", 5)]) (g := (gTup K 3 (gCons (gName 3) (gCons (gName 4) (gCons (gName 5) gNil))))) (tt := tYes) rfl sc_short_of.nd (pi_or (pi_list (pv 0)) (pi_tup (pv 0))) (blkOk_by (own := [("name", 3), ("pence", 4), ("last", 5)]) (N := N_short_of) (sc := defScope s_short_of) (by decide +kernel)) (fun _ _ _ _ _ => (pg_tup (by rfl) (pgs_cons (pg_name (i := 3) sc_short_of.nd rfl (.inl rfl)) (pgs_cons (pg_name (i := 4) sc_short_of.nd rfl (.inl rfl)) (pgs_cons (pg_name (i := 5) sc_short_of.nd rfl (.inl rfl)) pgs_nil))))) (fun _ _ _ _ _ => pts_nil) (fun _ _ _ _ _ => (pv 5))) pa_nil)))
      (pss_cons (ps_setLc (i := 6) (own := [("day", 7)]) (g := (gName 7)) (tt := tYes) rfl sc_short_of.nd rfl rfl (sw_true rfl rfl rfl (by decide +kernel)) (pi_list (pv 2)) (blkOk_by (own := [("day", 7)]) (N := N_short_of) (sc := defScope s_short_of) (by decide +kernel)) (fun _ _ _ _ _ => pg_name (i := 7) sc_short_of.nd rfl (Or.inl rfl)) (fun _ _ _ _ _ => pts_nil) (fun _ _ _ _ _ => (pe_tup (pa_cons (pv 7) (pa_cons (pe_op op_sub (pe_cf C_due_by (hr.mono (by decide)) (by rfl) (pa_cons (pv 0) (pa_cons (pv 7) pa_nil))) (pe_cf C_come_by (hr.mono (by decide)) (by rfl) (pa_cons (pv 1) (pa_cons (pv 7) pa_nil)))) pa_nil)))))
      (pss_one (ps_ret (pe_lc (own := [("day", 7), ("pence", 4)]) (g := (gTup K 2 (gCons (gName 7) (gCons (gName 4) gNil)))) rfl sc_short_of.nd (pi_list (pv 6)) (blkOk_by (own := [("day", 7), ("pence", 4)]) (N := N_short_of) (sc := defScope s_short_of) (by decide +kernel)) (fun _ _ _ _ _ => (pg_tup (by rfl) (pgs_cons (pg_name (i := 7) sc_short_of.nd rfl (.inl rfl)) (pgs_cons (pg_name (i := 4) sc_short_of.nd rfl (.inl rfl)) pgs_nil)))) (fun _ _ _ _ _ => (pts_one (pt_cmpR op_gt (pv 4) pe_int (nomark _)))) (fun _ _ _ _ _ => (pe_tup (pa_cons (pv 7) (pa_cons (pv 4) pa_nil))))))))), ?_⟩
    have HS := fun {X : Hp} (z : Same H X) => hS.elim (fun h => Or.inl (z.seq h)) (fun h => Or.inr (seqT_same z h))
    have HS2 := fun {X : Hp} (z : Same H X) => hS2.elim (fun h => Or.inl (z.seq h)) (fun h => Or.inr (seqT_same z h))
    refine walk_or rfl hS fun J ok D hD => rows_sc (w := w) (fun x : Wt => x.l) ok hR small hD (fun q hq G s hG Y N h1 => ?_) (fun G n s hn hG => ?_)
    · exact ⟨q.1, _, rfl, SqT.of hG, rfl, _, _, rfl, _, _, rfl, _, _, rfl, rfl, rfl, _, rfl, h1⟩
    refine ⟨D, _, _, rfl, hG, fun ns p hrise hmem hlen hp => ?_⟩
    have lasts : Lasts (L.map (·.2)) ns := ⟨hrise, fun k => by
      rw [hmem k, decide_eq_true_eq]
      constructor
      · intro h
        obtain ⟨x, hx, e⟩ := List.mem_map.mp h
        exact ⟨x.2, List.mem_map.mpr ⟨x, hx, rfl⟩, e⟩
      · rintro ⟨x, hx, e⟩
        obtain ⟨y, hy, rfl⟩ := List.mem_map.mp hx
        exact List.mem_map.mpr ⟨y, hy, e⟩⟩
    have s1 := s.trans (same_new (o := .lst (ns.map V.int)) hp)
    have hP := upd_same (H := G) (a := p) (o := .lst (ns.map V.int))
    generalize upd G p (.lst (ns.map V.int)) = G1 at *
    refine ⟨_, rfl, p, rfl, ⟨_, SqL.of hP⟩, fun E nE => lc_list (K := K) (a := p) (xs := ns.map V.int) (fun i G2 => Same G1 G2 ∧ ∃ S : List (Addr × (Int × Int)), G2 E = some (.lst (refs S)) ∧ RowsAt iV G2 S ∧ S.map (·.2) = (ns.take i).map fun d => (d, dueF (L.map (·.2)) d - comF (M.map (·.2)) d)) ⟨same_new nE, [], upd_same, .nil, rfl⟩ (fun i G2 _ h => SqL.of (h.1 _ _ hP)) (fun i x G2 hx h => ?_) (fun G2 h => ?_)⟩
    · obtain ⟨s2, S, e, hSr, hSm⟩ := h
      rw [List.getElem?_map] at hx
      obtain ⟨d, hd, rfl⟩ := Option.map_eq_some_iff.mp hx
      have hi : i < ns.length := (List.getElem?_eq_some_iff.mp hd).1
      have le : (refs S).length ≤ i := by
        rw [List.length_map, ← List.length_map (f := (·.2)) (as := S), hSm, List.length_map, List.length_take]
        omega
      refine ⟨rfl, _, rfl, _, rfl, _, rfl, a, d, L, rfl, HS (s1.trans s2), hR.same (s1.trans s2), small, fun G3 s3 => ?_⟩
      refine ⟨_, rfl, _, rfl, c, d, M, rfl, HS2 ((s1.trans s2).trans s3), hR2.same ((s1.trans s2).trans s3), small2, fun G4 s4 => ⟨_, _, rfl, rfl, (by show 2 ≤ sizeLine; decide), fun t ht => ?_⟩⟩
      have e4 := s4 _ _ (s3 _ _ e)
      refine ⟨_, same_new ht _ _ e4, Nat.lt_of_le_of_lt le (small1000 (by omega)), fun x o ex => ?_, S ++ [(t, (d, dueF (L.map (·.2)) d - comF (M.map (·.2)) d))], ?_, ?_, ?_⟩
      · rw [upd_ne (ne_of_none ex nE)]
        exact same_new ht _ _ (s4 _ _ (s3 _ _ (s2 _ _ ex)))
      · rw [upd_same, refs_snoc]
      · refine ((((hSr.same s3).same s4).same (same_new ht)).updL (same_new ht _ _ e4)).snoc ?_
        show (upd (upd G4 t _) E _) t = _
        rw [upd_ne (fun z => by rw [z, e4] at ht; cases ht), upd_same]
        rfl
      · rw [List.map_append, hSm, take_snoc hd, List.map_append]
        rfl
    obtain ⟨s2, S, e, hSr, hSm⟩ := h
    rw [List.length_map, List.take_of_length_le (Nat.le_refl _)] at hSm
    have le : S.length ≤ 1000 := by
      rw [← List.length_map (f := (·.2)) (as := S), hSm, List.length_map]
      omega
    refine ⟨_, rfl, E, rfl, ⟨_, SqL.of e⟩, fun F nF => rows_lcA (f2 := iV) (fun x : Int × Int => decide (x.2 > 0)) id (jok_l (K := K) (SqL.of e)) hSr le nF (fun q hq G s hG Y N h1 h2 => ?_) (fun G T s hG hT hTm => ?_)⟩
    · exact ⟨q.1, _, rfl, SqT.of hG, rfl, _, _, rfl, _, _, rfl, rfl, rfl, _, rfl, _, _, rfl, rfl, _, rfl, ite2 (fun z => ⟨_, rfl, _, rfl, (by show 2 ≤ sizeLine; decide), fun t ht => h1 z t ht⟩) (fun z => h2 (by simpa using z))⟩
    · refine q G F T ns (none_of (s1.trans s2) nF) ((s1.trans s2).trans s) hG hT lasts ?_ ?_
      · rw [hTm, hSm, List.map_id]
        rfl
      · rw [← List.length_map (f := (·.2)) (as := T), hTm, List.length_map]
        refine Nat.le_trans (List.length_filter_le _ _) ?_
        rw [List.length_map]
        exact le
/-! ### can_pay -/
abbrev s_can_pay : Stmt := topS 5
abbrev N_can_pay : List Str := ["wants", "incomes", "names", "want"]
theorem sc_can_pay : FnScope N_can_pay ["wants", "incomes", "names"] (defScope s_can_pay) := ⟨rfl, rfl, rfl, by decide +kernel, rfl, by decide +kernel, by decide +kernel⟩
def selF (nm : List Str) (ws : List Wt) : List Wt := ws.filter fun w => decide (w.n ∈ nm)
theorem in_strs (s : Str) (nm : List Str) : inV (.str s) (nm.map V.str) = decide (s ∈ nm) := by
  unfold inV
  rw [List.any_map]
  induction nm with
  | nil => simp
  | cons x r ih =>
    rw [List.any_cons, ih]
    show ((x == s) || _) = _
    by_cases h : x = s
    · subst h
      simp
    · have e : (x == s) = false := by
        cases c : (x == s) with
        | false => rfl
        | true => exact absurd (eq_of_beq c) h
      rw [e]
      have h2 : s ≠ x := fun z => h z.symm
      simp [h2]
theorem flat_strs (nm : List Str) : (nm.map V.str).all flatV = true := by
  rw [List.all_map, List.all_eq_true]
  exact fun _ _ => rfl
def sp_can_pay (K : PySem.W.Frag) : Sp := fun vs H Q _ => ∃ (a c e : Addr) (L : List (Addr × Wt)) (M : List (Addr × (Int × Int))) (nm : List Str), vs = [.ref a, .ref c, .ref e] ∧ (SqL K H a (refs L) ∨ SqT K H a (refs L)) ∧ RowsAt wV H L ∧ L.length ≤ 1000 ∧ (SqL K H c (refs M) ∨ SqT K H c (refs M)) ∧ RowsAt iV H M ∧ M.length ≤ 1000 ∧ (SqL K H e (nm.map V.str) ∨ SqT K H e (nm.map V.str)) ∧
  ∀ H' ns, Same H H' → Lasts (selF nm (L.map (·.2))) ns → Q (.bl (decide (shortF (selF nm (L.map (·.2))) (M.map (·.2)) ns = []))) H'
theorem ok_can_pay {f : Addr} {fd : FuncData} (F : Fun K "can_pay" "can_pay" s_can_pay f fd) (g : mg "can_pay" = some (.ref f)) (bd : Binds K fd ["wants", "incomes", "names"] []) (C_short_of : CF P w K mg base 2 "short_of" ["wants", "incomes"] (sp_short_of K)) : CF P w K mg base 3 "can_pay" ["wants", "incomes", "names"] (sp_can_pay K) := by
  refine ⟨f, fd, F.ok sc_can_pay (fun vs H Q E h => ?_) (fun cdv A outer s H vs Q E hr h => ?_), g, F.kp, bd⟩
  · first | (obtain ⟨_, rfl, _⟩ := h; rfl) | (obtain ⟨_, _, rfl, _⟩ := h; rfl) | (obtain ⟨_, _, _, rfl, _⟩ := h; rfl) | (obtain ⟨_, _, _, _, rfl, _⟩ := h; rfl) | (obtain ⟨_, _, _, _, _, rfl, _⟩ := h; rfl) | (obtain ⟨_, _, _, _, _, _, rfl, _⟩ := h; rfl) | (obtain ⟨_, _, _, _, _, _, _, rfl, _⟩ := h; rfl) | (obtain ⟨_, _, _, _, _, _, _, _, rfl, _⟩ := h; rfl) | (obtain ⟨_, _, _, _, _, _, _, _, _, rfl, _⟩ := h; rfl) | (obtain ⟨_, _, _, _, _, _, _, _, _, _, rfl, _⟩ := h; rfl) | (obtain ⟨_, _, _, _, _, _, _, _, _, _, _, rfl, _⟩ := h; rfl) | (obtain ⟨_, _, _, _, _, _, _, _, _, _, _, _, rfl, _⟩ := h; rfl) | (obtain ⟨_, _, _, _, _, _, _, _, _, _, _, _, _, rfl, _⟩ := h; rfl) | (obtain ⟨_, _, _, _, _, _, _, _, _, _, _, _, _, _, rfl, _⟩ := h; rfl) | (obtain ⟨_, _, _, _, _, _, _, _, _, _, _, _, _, _, _, rfl, _⟩ := h; rfl)
  · have hu64 := hr.units
    obtain ⟨a, c, e, L, M, nm, rfl, hS, hR, small, hS2, hR2, small2, hN, q⟩ := h
    refine ⟨_, (pss_one (ps_ret (pe_cmpR (kk_eqD K hu64) (pe_cf C_short_of (hr.mono (by decide)) (by rfl) (pa_cons (pe_lc (own := [("want", 3)]) (g := (gName 3)) rfl sc_can_pay.nd (pi_or (pi_list (pv 0)) (pi_tup (pv 0))) (blkOk_by (own := [("want", 3)]) (N := N_can_pay) (sc := defScope s_can_pay) (by decide +kernel)) (fun _ _ _ _ _ => pg_name (i := 3) sc_can_pay.nd rfl (Or.inl rfl)) (fun _ _ _ _ _ => (pts_one (pt_cmpR (kk_in K) (pe_ix (kk_ixt K) (pv 3) pe_int (fun _ _ => rfl)) (pv 2) (by rfl)))) (fun _ _ _ _ _ => (pv 3))) (pa_cons (pv 1) pa_nil))) (pe_lst pa_nil) (nomark _)))), ?_⟩
    have HS2 := fun {X : Hp} (z : Same H X) => hS2.elim (fun h => Or.inl (z.seq h)) (fun h => Or.inr (seqT_same z h))
    have HN := fun {X : Hp} (z : Same H X) => hN.elim (fun h => Or.inl (z.seq h)) (fun h => Or.inr (seqT_same z h))
    refine walk_or rfl hS fun J ok D hD => rows_lc (fun w : Wt => decide (w.n ∈ nm)) (fun q => V.ref q.1) ok hR small hD (fun q hq G s hG Y N h1 h2 => ?_) (fun G s hG => ?_)
    · refine ⟨rfl, _, rfl, q.1, _, _, _, rfl, rfl, SqT.of hG, rfl, _, rfl, e, _, rfl, HN s, rfl, flat_strs nm, _, rfl, ?_⟩
      show if inV (.str q.2.n) (nm.map V.str) = true then _ else _
      rw [in_strs]
      exact ite2 (fun z => ⟨_, rfl, h1 z⟩) (fun z => h2 (by simpa using z))
    · have es : selF nm (L.map (·.2)) = (L.filter fun q => decide (q.2.n ∈ nm)).map (·.2) := (filt_map (p := fun w : Wt => decide (w.n ∈ nm)) L).symm
      rw [es] at q
      refine ⟨_, rfl, D, c, L.filter fun q => decide (q.2.n ∈ nm), M, rfl, .inl (SqL.of hG), (hR.same s).sub (fun x hx => (List.mem_filter.mp hx).1), Nat.le_trans (List.length_filter_le _ _) small, HS2 s, hR2.same s, small2, fun H1 E S ns nE s1 hE hSr lasts hSm _ => ?_⟩
      refine ⟨(by show 0 ≤ sizeLine; decide), fun z nz => ⟨_, _, pairs_dp (SqL.of (same_new nz _ _ hE)) (hSr.same (same_new nz)), .lst (SqL.of upd_same) .nil, sh_pairs _, sh_pairs [], ?_⟩⟩
      rw [eqv_nil, hSm]
      have e2 : decide ((shortF ((L.filter fun q => decide (q.2.n ∈ nm)).map (·.2)) (M.map (·.2)) ns).map prD2 = []) = decide (shortF ((L.filter fun q => decide (q.2.n ∈ nm)).map (·.2)) (M.map (·.2)) ns = []) := by
        rw [decide_eq_decide, List.map_eq_nil_iff]
      rw [e2]
      exact q _ ns ((s.trans s1).trans (same_new nz)) lasts
/-! ### _law_strewn -/
abbrev s__law_strewn : Stmt := topS 18
abbrev N__law_strewn : List Str := ["_law_left_here", "_law_some", "_law_rest", "_law_found"]
theorem sc__law_strewn : FnScope N__law_strewn ["_law_left_here", "_law_some"] (defScope s__law_strewn) := ⟨rfl, rfl, rfl, by decide +kernel, rfl, by decide +kernel, by decide +kernel⟩
theorem erase_map {α β : Type} (g : α → β) : ∀ (l : List α) (k : Nat), (l.map g).eraseIdx k = (l.eraseIdx k).map g
  | [], _ => rfl
  | x :: r, 0 => rfl
  | x :: r, k + 1 => by
    rw [List.map_cons, List.eraseIdx_cons_succ, List.eraseIdx_cons_succ, List.map_cons, erase_map g r k]
theorem dpAll_of {γ : Type} {fv : γ → V} {fd : γ → PyData} {K : PySem.W.Frag} {H : Hp} : ∀ {L : List γ}, (∀ q ∈ L, Dp K H (fv q) (fd q)) → DpAll K H (L.map fv) (L.map fd)
  | [], _ => .nil
  | q :: r, h => .cons (h q List.mem_cons_self) (dpAll_of fun x hx => h x (List.mem_cons_of_mem _ hx))
theorem lay_of {γ : Type} {fd : γ → PyData} : ∀ {L : List γ}, (∀ q ∈ L, PyData.canLay0 (fd q) = true ∧ PyData.depth (fd q) ≤ 60) → PyData.canLayAll0 (L.map fd) = true ∧ PyData.depthAll (L.map fd) ≤ 60
  | [], _ => by simp [PyData.canLayAll0, PyData.depthAll]
  | q :: r, h => by
    obtain ⟨a, b⟩ := h q List.mem_cons_self
    obtain ⟨c, d⟩ := lay_of (L := r) fun x hx => h x (List.mem_cons_of_mem _ hx)
    simp only [List.map_cons, PyData.canLayAll0, PyData.depthAll, a, c, Bool.and_self]
    exact ⟨trivial, by omega⟩
theorem sh_of {γ : Type} {fd : γ → PyData} {L : List γ} (h : ∀ q ∈ L, PyData.canLay0 (fd q) = true ∧ PyData.depth (fd q) ≤ 60) : SeqAt.shaped (.list (L.map fd)) = true := by
  obtain ⟨a, b⟩ := lay_of h
  show (PyData.canLay0 _ && decide (_ ≤ 64)) = true
  rw [Bool.and_eq_true]
  refine ⟨by simp only [PyData.canLay0]; exact a, decide_eq_true ?_⟩
  simp only [PyData.depth]
  omega
theorem seq_ix {r : Int} {n : Nat} (h0 : 0 ≤ r) (h1 : r < n) : seqIndex? r n = some r.toNat := by
  obtain ⟨j, rfl⟩ := Int.eq_ofNat_of_zero_le h0
  unfold seqIndex?
  simp
  omega
def sp__law_strewn (K : PySem.W.Frag) : Sp := fun vs H Q _ => ∃ (γ : Type) (fv : γ → V) (fd : γ → PyData) (b S : Addr) (n : Int) (L : List γ), vs = [.ref b, .ref S] ∧ Three H b n ∧ n < 1000000 ∧ SqL K H S (L.map fv) ∧ L.length ≤ 100 ∧ (∀ G, But b H G → ∀ q ∈ L, Dp K G (fv q) (fd q)) ∧ (∀ q ∈ L, PyData.canLay0 (fd q) = true ∧ PyData.depth (fd q) ≤ 60) ∧
  ∀ (H' : Hp) (R : Addr) (L' : List γ), Three H' b (n + L.length) → But b H H' → H R = none → R ≠ b → H' R = some (.lst (L'.map fv)) → L'.Perm L → Q (.ref R) H'
theorem ok__law_strewn {f : Addr} {fd : FuncData} (F : Fun K "_law_strewn" "_law_strewn" s__law_strewn f fd) (g : mg "_law_strewn" = some (.ref f)) (bd : Binds K fd ["_law_left_here", "_law_some"] []) (m_list : mg "list" = none) (m_len : mg "len" = none) (C__law_pick : CF P w K mg base 2 "_law_pick" ["_law_left_here", "_law_many"] (sp__law_pick K)) : CF P w K mg base 3 "_law_strewn" ["_law_left_here", "_law_some"] (sp__law_strewn K) := by
  refine ⟨f, fd, F.ok sc__law_strewn (fun vs H Q E h => ?_) (fun cdv A outer s H vs Q E hr h => ?_), g, F.kp, bd⟩
  · first | (obtain ⟨_, rfl, _⟩ := h; rfl) | (obtain ⟨_, _, rfl, _⟩ := h; rfl) | (obtain ⟨_, _, _, rfl, _⟩ := h; rfl) | (obtain ⟨_, _, _, _, rfl, _⟩ := h; rfl) | (obtain ⟨_, _, _, _, _, rfl, _⟩ := h; rfl) | (obtain ⟨_, _, _, _, _, _, rfl, _⟩ := h; rfl) | (obtain ⟨_, _, _, _, _, _, _, rfl, _⟩ := h; rfl) | (obtain ⟨_, _, _, _, _, _, _, _, rfl, _⟩ := h; rfl) | (obtain ⟨_, _, _, _, _, _, _, _, _, rfl, _⟩ := h; rfl) | (obtain ⟨_, _, _, _, _, _, _, _, _, _, rfl, _⟩ := h; rfl) | (obtain ⟨_, _, _, _, _, _, _, _, _, _, _, rfl, _⟩ := h; rfl) | (obtain ⟨_, _, _, _, _, _, _, _, _, _, _, _, rfl, _⟩ := h; rfl) | (obtain ⟨_, _, _, _, _, _, _, _, _, _, _, _, _, rfl, _⟩ := h; rfl) | (obtain ⟨_, _, _, _, _, _, _, _, _, _, _, _, _, _, rfl, _⟩ := h; rfl) | (obtain ⟨_, _, _, _, _, _, _, _, _, _, _, _, _, _, _, rfl, _⟩ := h; rfl)
  · have hu64 := hr.units
    obtain ⟨γ, fv, fd', b, S, n, L, rfl, hb, hn, hS, hl, hdp, hlay, q⟩ := h
    refine ⟨_, (pss_cons (ps_par (i := 2) (j := 3) (by rfl) sc__law_strewn.nd rfl rfl (by decide) rfl rfl (pa_cons (pe_callTy (kk_list K) (by rfl) m_list (by decide +kernel) (pa_cons (pv 1) pa_nil)) (pa_cons (pe_lst pa_nil) pa_nil)) (by rfl))
      (pss_cons (ps_while PassesOwn.never (pt_cmpR (kk_neD K hu64) (pv 2) (pe_lst pa_nil) (nomark _))
         (pss_one (ps_expr (pe_bm PySem.F.plainAttrs_list PySem.F.slot_list_append PySem.F.type_list_append mt_append (pv 3) (pa_cons (pe_bm PySem.F.plainAttrs_list PySem.F.slot_list_pop PySem.F.type_list_pop mt_popAt (pv 2) (pa_cons (pe_cf C__law_pick (hr.mono (by decide)) (by rfl) (pa_cons (pv 0) (pa_cons (pe_callB (kk_len K) (by rfl) m_len PySem.boot_len (pa_cons (pv 2) pa_nil)) pa_nil))) pa_nil)) pa_nil)))))
      (pss_one (ps_ret (pv 3))))), ?_⟩
    refine ⟨_, rfl, S, _, rfl, .inl hS, fun R nR => ⟨(by show 0 ≤ sizeLine; decide), fun D nD => ⟨_, _, rfl, ?_⟩⟩⟩
    have s1 := same_new (o := .lst (L.map fv)) nR
    have s2 := same_new (o := .lst []) nD
    have hR := s2 _ _ (upd_same (H := H) (a := R) (o := .lst (L.map fv)))
    have hD := upd_same (H := upd H R (.lst (L.map fv))) (a := D) (o := .lst [])
    have s12 := s1.trans s2
    have nRb : R ≠ b := hb.ne nR
    have nD0 : H D = none := none_of s1 nD
    have nDb : D ≠ b := hb.ne nD0
    have nDR : D ≠ R := (ne_of_none upd_same nD).symm
    have b2 := hb.same s12
    generalize upd (upd H R (.lst (L.map fv))) D (.lst []) = G at *
    refine ⟨fun m σ H2 => ∃ (Lr Lf : List γ), σ = [some (.ref b), some (.ref S), some (.ref R), some (.ref D)] ∧ H2 R = some (.lst (Lr.map fv)) ∧ H2 D = some (.lst (Lf.map fv)) ∧ (Lf ++ Lr).Perm L ∧ m = Lr.length ∧ Three H2 b (n + Lf.length) ∧ But b H H2, ⟨_, L, [], rfl, hR, hD, List.Perm.refl _, rfl, b2.mono (by simp), But.of s12⟩, fun m σ H2 h => ?_⟩
    obtain ⟨Lr, Lf, rfl, hR, hD, pm, rfl, b3, t3⟩ := h
    have lens : Lf.length + Lr.length = L.length := by rw [← pm.length_eq, List.length_append]
    have sub : ∀ x ∈ Lr, x ∈ L := fun x hx => pm.mem_iff.mp (List.mem_append_right _ hx)
    refine ⟨_, rfl, (by show 0 ≤ sizeLine; decide), fun z nz => ⟨_, _, .lst (SqL.of (same_new nz _ _ hR)) (dpAll_of fun x hx => hdp _ (t3.trans (But.new nz)) x (sub x hx)), .lst (SqL.of upd_same) .nil, sh_of fun x hx => hlay x (sub x hx), sh_pairs [], ?_⟩⟩
    rw [eqv_nil]
    have hR := same_new (o := .lst []) nz _ _ hR
    have hD := same_new (o := .lst []) nz _ _ hD
    have b3 := b3.same (same_new (o := .lst []) nz)
    have t3 := t3.trans (But.new (b := b) (o := .lst []) nz)
    generalize upd H2 z (.lst []) = G2 at *
    cases hlr : Lr with
    | nil =>
      subst hlr
      refine ⟨_, rfl, iteF ?_⟩
      rw [List.append_nil] at pm
      exact ⟨_, rfl, q _ D Lf (b3.mono (by rw [pm.length_eq]; omega)) t3 nD0 nDb hD pm⟩
    | cons y0 r0 =>
      have pos : 0 < Lr.length := by rw [hlr]; simp
      have e0 : (!decide ((y0 :: r0).map fd' = [])) = true := by simp
      rw [e0]
      rw [← hlr]
      refine ⟨_, rfl, iteT ⟨_, fun σ2 H3 h3 => ⟨Lr.length - 1, by omega, h3⟩, ?_⟩⟩
      have lm : (Lr.map fv).length = Lr.length := List.length_map ..
      refine ⟨_, rfl, .inl ⟨rfl, _, SqL.of hD⟩, _, rfl, .inl ⟨rfl, _, SqL.of hR⟩, _, rfl, _, rfl, R, _, rfl, .inl (SqL.of hR), b, _, _, rfl, b3, by rw [lm]; omega, by rw [lm]; omega, by omega, fun r H3 r0' r1' b4 t4 => ?_⟩
      rw [lm] at r1'
      have hk : r.toNat < Lr.length := by omega
      have hy := List.getElem?_eq_getElem hk
      have hR3 := t4 _ _ nRb hR
      have hD3 := t4 _ _ nDb hD
      refine ⟨R, _, r, r.toNat, fv Lr[r.toNat], rfl, rfl, hR3, by omega, by omega, by rw [lm]; exact seq_ix r0' r1', by rw [List.getElem?_map, hy]; rfl, ?_⟩
      have hD4 : (upd H3 R (.lst ((Lr.map fv).eraseIdx r.toNat))) D = some (.lst (Lf.map fv)) := by rw [upd_ne nDR]; exact hD3
      refine ⟨D, _, _, rfl, rfl, hD4, ?_, Lr.eraseIdx r.toNat, Lf ++ [Lr[r.toNat]], rfl, ?_, ?_, ?_, ?_, ?_, ?_⟩
      · rw [List.length_map]
        exact small1000 (by omega)
      · rw [upd_ne nDR.symm, upd_same, erase_map]
      · rw [upd_same, List.map_append]
        rfl
      · refine List.Perm.trans ?_ pm
        rw [List.append_assoc]
        exact List.Perm.append_left _ (erase_perm _ _ _ hy)
      · rw [List.length_eraseIdx_of_lt hk]
      · refine ((b4.upd nRb).upd nDb).mono ?_
        rw [List.length_append]
        show _ ≤ n + ((Lf.length + 1 : Nat) : Int)
        omega
      · exact updNew (updNew (t3.trans t4) nR) nD0
/-! ### _law_names -/
abbrev s__law_names : Stmt := topS 16
abbrev N__law_names : List Str := ["_law_left_here", "_law_many", "_law_letters", "_law_stem", "_law_k", "_law_at", "_law_first", "_law_found", "_law_sign"]
theorem sc__law_names : FnScope N__law_names ["_law_left_here", "_law_many"] (defScope s__law_names) := ⟨rfl, rfl, rfl, by decide +kernel, rfl, by decide +kernel, by decide +kernel⟩
def Nm (s : Str) : Prop := Asc s ∧ s.length ≤ 11
theorem low_at {r : Int} (h0 : 0 ≤ r) (h1 : r < 26) : ∃ c, atI (Str.ofString "abcdefghijklmnopqrstuvwxyz").cps.toList r = some c ∧ c < 128 := by
  obtain ⟨j, rfl⟩ := Int.eq_ofNat_of_zero_le h0
  have hl : (Str.ofString "abcdefghijklmnopqrstuvwxyz").cps.toList.length = 26 := by decide +kernel
  have hj : j < (Str.ofString "abcdefghijklmnopqrstuvwxyz").cps.toList.length := by omega
  exact ⟨_, atI_nat (List.getElem?_eq_getElem hj), (by decide +kernel : ∀ c ∈ (Str.ofString "abcdefghijklmnopqrstuvwxyz").cps.toList, c < 128) _ (List.getElem_mem hj)⟩
theorem join_signs (cs : List Nat) : TL.tl (Txt.join (Str.ofString "") (cs.map fun c => (⟨#[c]⟩ : Str))) = cs := by
  rw [TL.join_eq, TL.tl_join]
  induction cs with
  | nil => rfl
  | cons c r ih =>
    cases r with
    | nil => rfl
    | cons d r =>
      show [c] ++ (TL.tl (Str.ofString "") ++ TL.joinL (TL.tl (Str.ofString "")) (((d :: r).map fun c => (⟨#[c]⟩ : Str)).map TL.tl)) = c :: d :: r
      rw [ih]
      rfl
theorem sum_len1 : ∀ cs : List Nat, ((cs.map fun c => (⟨#[c]⟩ : Str)).map (·.length)).sum = cs.length
  | [] => rfl
  | c :: r => by
    rw [List.map_cons, List.map_cons, List.sum_cons, sum_len1 r, List.length_cons]
    show 1 + r.length = r.length + 1
    omega
theorem pick2s {r : Int} {x y : Str} (h0 : 0 ≤ r) (h1 : r < 2) : ∃ u : Str, atI [V.str x, .str y] r = some (.str u) ∧ (u = x ∨ u = y) := by
  have h : r = 0 ∨ r = 1 := by omega
  rcases h with rfl | rfl
  · exact ⟨x, rfl, .inl rfl⟩
  · exact ⟨y, rfl, .inr rfl⟩
def sp__law_names (K : PySem.W.Frag) : Sp := fun vs H Q _ => ∃ (b : Addr) (many n : Int), vs = [.ref b, .int many] ∧ Three H b n ∧ n < 1000000 ∧ 0 ≤ many ∧ many ≤ 100 ∧ ∀ (H' : Hp) (D : Addr) (ss : List Str), Three H' b (n + 10) → But b H H' → H D = none → D ≠ b → H' D = some (.lst (ss.map V.str)) → (ss.length : Int) = many → (∀ s ∈ ss, Nm s) → Q (.ref D) H'
theorem ok__law_names {f : Addr} {fd : FuncData} (F : Fun K "_law_names" "_law_names" s__law_names f fd) (g : mg "_law_names" = some (.ref f)) (bd : Binds K fd ["_law_left_here", "_law_many"] []) (m_range : mg "range" = none) (m_len : mg "len" = none) (C__law_pick : CF P w K mg base 2 "_law_pick" ["_law_left_here", "_law_many"] (sp__law_pick K)) : CF P w K mg base 3 "_law_names" ["_law_left_here", "_law_many"] (sp__law_names K) := by
  refine ⟨f, fd, F.ok sc__law_names (fun vs H Q E h => ?_) (fun cdv A outer s H vs Q E hr h => ?_), g, F.kp, bd⟩
  · first | (obtain ⟨_, rfl, _⟩ := h; rfl) | (obtain ⟨_, _, rfl, _⟩ := h; rfl) | (obtain ⟨_, _, _, rfl, _⟩ := h; rfl) | (obtain ⟨_, _, _, _, rfl, _⟩ := h; rfl) | (obtain ⟨_, _, _, _, _, rfl, _⟩ := h; rfl) | (obtain ⟨_, _, _, _, _, _, rfl, _⟩ := h; rfl) | (obtain ⟨_, _, _, _, _, _, _, rfl, _⟩ := h; rfl) | (obtain ⟨_, _, _, _, _, _, _, _, rfl, _⟩ := h; rfl) | (obtain ⟨_, _, _, _, _, _, _, _, _, rfl, _⟩ := h; rfl) | (obtain ⟨_, _, _, _, _, _, _, _, _, _, rfl, _⟩ := h; rfl) | (obtain ⟨_, _, _, _, _, _, _, _, _, _, _, rfl, _⟩ := h; rfl) | (obtain ⟨_, _, _, _, _, _, _, _, _, _, _, _, rfl, _⟩ := h; rfl) | (obtain ⟨_, _, _, _, _, _, _, _, _, _, _, _, _, rfl, _⟩ := h; rfl) | (obtain ⟨_, _, _, _, _, _, _, _, _, _, _, _, _, _, rfl, _⟩ := h; rfl) | (obtain ⟨_, _, _, _, _, _, _, _, _, _, _, _, _, _, _, rfl, _⟩ := h; rfl)
  · have hu64 := hr.units
    obtain ⟨b, many, n, rfl, hb, hn, m0, m1, q⟩ := h
    refine ⟨_, (pss_cons (ps_set (i := 2) sc__law_names.nd rfl (.inr rfl) pe_str)
      (pss_cons (ps_set (i := 3) sc__law_names.nd rfl (.inl rfl) (pe_join pe_str (pe_lc (own := [("_law_k", 4)]) (g := (gName 4)) (tt := tYes) rfl sc__law_names.nd (pi_range1 (by rfl) m_range (pa_cons (pe_op op_add pe_int (pe_cf C__law_pick (hr.mono (by decide)) (by rfl) (pa_cons (pv 0) (pa_cons pe_int pa_nil)))) pa_nil)) (blkOk_by (own := [("_law_k", 4)]) (N := N__law_names) (sc := defScope s__law_names) (by decide +kernel)) (fun _ _ _ _ _ => pg_name (i := 4) sc__law_names.nd rfl (Or.inl rfl)) (fun _ _ _ _ _ => pts_nil) (fun _ _ _ _ _ => (pe_ix ix_str (pv 2) (pe_cf C__law_pick (hr.mono (by decide)) (by rfl) (pa_cons (pv 0) (pa_cons pe_int pa_nil))) (fun _ _ => rfl))))))
      (pss_cons (ps_par3 (i := 5) (j := 6) (l := 7) (by rfl) sc__law_names.nd rfl rfl rfl (by decide) (by decide) (by decide) rfl rfl rfl (pa_cons (pe_cf C__law_pick (hr.mono (by decide)) (by rfl) (pa_cons (pv 0) (pa_cons (pe_op op_add (pe_callB call_len_str (by rfl) m_len PySem.boot_len (pa_cons (pv 3) pa_nil)) pe_int) pa_nil))) (pa_cons (pe_cf C__law_pick (hr.mono (by decide)) (by rfl) (pa_cons (pv 0) (pa_cons pe_int pa_nil))) (pa_cons (pe_lst pa_nil) pa_nil))) (by rfl))
      (pss_cons (ps_for PassesOwn.never rfl (pi_range1 (by rfl) m_range (pa_cons (pv 1) pa_nil)) (pg_name (i := 4) sc__law_names.nd rfl (.inl rfl))
         (pss_cons (ps_set (i := 8) sc__law_names.nd rfl (.inl rfl) (pe_ix ix_str (pv 2) (pe_op op_mod (pe_op op_add (pv 6) (pe_op op_mul pe_int (pv 4))) pe_int) (fun _ _ => rfl)))
          (pss_one (ps_expr (pe_bm PySem.F.plainAttrs_list PySem.F.slot_list_append PySem.F.type_list_append mt_append (pv 7) (pa_cons (pe_ix (kk_ixl K) (pe_lst (pa_cons (pe_op op_add_str (pe_op op_add_str (pe_slice sl_str (pv 3) po_none (po_some (pv 5))) (pv 8)) (pe_slice sl_str (pv 3) (po_some (pv 5)) po_none)) (pa_cons (pv 8) pa_nil))) (pe_op op_mod (pv 4) pe_int) (fun _ _ => rfl)) pa_nil))))))
      (pss_one (ps_ret (pv 7))))))), ?_⟩
    refine ⟨⟨_, rfl⟩, _, rfl, b, 5, _, rfl, hb, by decide, by decide, by omega, fun r1 H1 r10 r11 b1 t1 => ⟨_, _, rfl, rfl, _, rfl, by omega, by omega, fun D hD => lc_range (lo := 0) (n := (1 + r1).toNat) (fun i H' => But b H1 H' ∧ Three H' b (n + 1 + i) ∧ ∃ cs : List Nat, cs.length = i ∧ (∀ c ∈ cs, c < 128) ∧ H' D = some (.lst ((cs.map fun c => (⟨#[c]⟩ : Str)).map V.str))) ⟨But.new hD, (b1.mono (by omega)).new hD, [], rfl, fun _ h => (nomatch h), upd_same⟩ (fun i H' hi h => ?_) (fun H2 h => ?_)⟩⟩
    · obtain ⟨t4, b4, cs, hcs, hlow, hDl⟩ := h
      have hDb : D ≠ b := b1.ne hD
      refine ⟨rfl, _, rfl, _, rfl, b, 26, _, rfl, b4, by decide, by decide, by omega, fun r' H5 r0' r1' b5 t5 => ?_⟩
      obtain ⟨c, hc, hcl⟩ := low_at r0' r1'
      refine ⟨_, _, c, rfl, rfl, by decide +kernel, hc, _, t5 _ _ hDb hDl, ?_, updNew (t4.trans t5) hD, ((b5.mono (by omega)).upd hDb), cs ++ [c], ?_, ?_, ?_⟩
      · rw [List.length_map, List.length_map, hcs]
        exact small1000 (by omega)
      · rw [List.length_append, hcs]
        rfl
      · intro d hd
        rcases List.mem_append.mp hd with h | h
        · exact hlow d h
        · rw [List.mem_singleton.mp h]
          exact hcl
      · rw [upd_same, List.map_append, List.map_append]
        rfl
    obtain ⟨t2, b2, cs, hcs, hlow, hDl⟩ := h
    refine ⟨_, D, _, rfl, rfl, .inl (SqL.of hDl), ?_, ?_⟩
    · rw [sum_len1, List.length_map]
      show cs.length + cs.length * 0 ≤ 16777216
      omega
    have htl := join_signs cs
    have aS : Asc (Txt.join (Str.ofString "") (cs.map fun c => (⟨#[c]⟩ : Str))) := fun c hc => hlow c (by rw [← htl]; exact hc)
    have lS : (Txt.join (Str.ofString "") (cs.map fun c => (⟨#[c]⟩ : Str))).length ≤ 5 := by rw [TL.len_tl, htl, hcs]; omega
    generalize Txt.join (Str.ofString "") (cs.map fun c => (⟨#[c]⟩ : Str)) = st at *
    have fit : ∀ {k : Nat}, k ≤ 1000 → k ≤ sizeLine := fun h => size_small h
    refine ⟨_, rfl, _, rfl, _, rfl, fit (by omega), _, _, rfl, rfl, b, _, _, rfl, b2, by omega, by omega, by omega, fun at_ H3 at0 at1 b3 t3 => ?_⟩
    refine ⟨_, rfl, b, 26, _, rfl, b3, by decide, by decide, by omega, fun fst H4 f0 f1 b4 t4 => ⟨(by show 0 ≤ sizeLine; decide), fun F nF => ⟨_, _, _, rfl, ?_⟩⟩⟩
    have T4 := ((t1.trans t2).trans t3).trans t4
    have nFb := b4.ne nF
    have nF0 : H F = none := by
      cases e : H F with
      | none => rfl
      | some o =>
        rw [T4 _ _ nFb e] at nF
        cases nF
    have sF := same_new (o := .lst []) nF
    refine ⟨_, rfl, _, rfl, by omega, by omega, for_range (fun i σ H' => ∃ (ss : List Str) (s4 s8 : Option V), σ = [some (.ref b), some (.int many), some (.str (Str.ofString "abcdefghijklmnopqrstuvwxyz")), some (.str st), s4, some (.int at_), some (.int fst), some (.ref F), s8] ∧ ss.length = i ∧ (∀ s ∈ ss, Nm s) ∧ H' F = some (.lst (ss.map V.str)) ∧ Three H' b (n + 10) ∧ But b H H') ⟨[], _, _, rfl, rfl, fun _ h => (nomatch h), upd_same, (b4.same sF).mono (by omega), T4.trans (But.of sF)⟩ (fun i σ H' hi h => ?_) (fun σ H' h => ?_)⟩
    · obtain ⟨ss, s4, s8, rfl, hss, hok, hF, bX, tX⟩ := h
      have o0 := Int.emod_nonneg (fst + 7 * (0 + (i : Int))) (show (26 : Int) ≠ 0 by decide)
      have o1 := Int.emod_lt_of_pos (fst + 7 * (0 + (i : Int))) (show (0 : Int) < 26 by decide)
      obtain ⟨c, hc, hcl⟩ := low_at o0 o1
      refine ⟨_, rfl, _, rfl, _, rfl, _, _, rfl, rfl, .inl ⟨by decide, by decide⟩, _, _, rfl, rfl, _, _, rfl, rfl, (by show (0 : Int) < 26; decide), _, _, c, rfl, rfl, by decide +kernel, hc, ?_⟩
      have lA := cutS_length st none (some at_)
      have lB := cutS_length st (some at_) none
      have aA : Asc (cutS st none (some at_)) := aS.cut
      have aB : Asc (cutS st (some at_) none) := aS.cut
      have aC : Asc ⟨#[c]⟩ := .one hcl
      have lC : (⟨#[c]⟩ : Str).length = 1 := rfl
      have l1 := len_app (cutS st none (some at_)) ⟨#[c]⟩
      have l2 := len_app (cutS st none (some at_) ++ ⟨#[c]⟩) (cutS st (some at_) none)
      have p0 := Int.emod_nonneg (0 + (i : Int)) (show (2 : Int) ≠ 0 by decide)
      have p1 := Int.emod_lt_of_pos (0 + (i : Int)) (show (0 : Int) < 2 by decide)
      obtain ⟨u, hu, huc⟩ := pick2s (x := cutS st none (some at_) ++ ⟨#[c]⟩ ++ cutS st (some at_) none) (y := ⟨#[c]⟩) p0 p1
      refine ⟨_, rfl, .inl ⟨rfl, _, SqL.of hF⟩, _, rfl, _, rfl, _, rfl, _, rfl, fit (by omega), _, rfl, _, _, rfl, rfl, fit (by omega), _, rfl, _, rfl, _, rfl, _, rfl, fit (by omega), _, _, rfl, rfl, fit (by omega), _, rfl, (by show 2 ≤ sizeLine; decide), fun l nl => ?_⟩
      have sl := same_new (o := .lst [.str (cutS st none (some at_) ++ ⟨#[c]⟩ ++ cutS st (some at_) none), .str ⟨#[c]⟩]) nl
      refine ⟨_, rfl, _, _, rfl, rfl, (by show (0 : Int) < 2; decide), l, _, _, _, rfl, rfl, SqL.of upd_same, hu, F, _, _, rfl, rfl, sl _ _ hF, ?_, ss ++ [u], _, _, rfl, ?_, ?_, ?_, (bX.same sl).upd nFb, updNew (tX.trans (But.of sl)) nF0⟩
      · rw [List.length_map, hss]
        exact small1000 (by omega)
      · rw [List.length_append, hss]
        rfl
      · intro s hs
        rcases List.mem_append.mp hs with h | h
        · exact hok s h
        · rw [List.mem_singleton.mp h]
          rcases huc with rfl | rfl
          · exact ⟨(aA.app aC).app aB, by omega⟩
          · exact ⟨aC, by omega⟩
      · rw [upd_same, List.map_append]
        rfl
    · obtain ⟨ss, s4, s8, rfl, hss, hok, hF, bX, tX⟩ := h
      exact ⟨_, rfl, q _ F ss bX tX nF0 nFb hF (by omega) hok⟩
/-! ### _law_wants -/
abbrev s__law_wants : Stmt := topS 19
abbrev N__law_wants : List Str := ["_law_left_here", "_law_many", "_law_most", "_law_far", "_law_found", "_law_name"]
theorem sc__law_wants : FnScope N__law_wants ["_law_left_here", "_law_many"] (defScope s__law_wants) := ⟨rfl, rfl, rfl, by decide +kernel, rfl, by decide +kernel, by decide +kernel⟩
def WtOk (w : Wt) : Prop := Nm w.n ∧ 1 ≤ w.p ∧ w.p ≤ 1000000 ∧ 0 ≤ w.l ∧ w.l ≤ 900
theorem cut_take {xs : List V} {k : Nat} : cutV xs none (some (k : Int)) = xs.take k := by
  unfold cutV
  rw [HT.sIx_nat, HT.sIx_none]
  simp [List.take_eq_take_iff]
theorem strOk_asc {s : Str} (h : Asc s) : PyData.strOk s = true := by
  unfold PyData.strOk
  rw [← Array.all_toList, List.all_eq_true]
  exact fun c hc => decide_eq_true (Nat.lt_of_lt_of_le (h c hc) (by decide))
theorem pick4j {r x y z u lo hi : Int} (h0 : 0 ≤ r) (h1 : r < 4) (hx : lo ≤ x ∧ x ≤ hi) (hy : lo ≤ y ∧ y ≤ hi) (hz : lo ≤ z ∧ z ≤ hi) (hu : lo ≤ u ∧ u ≤ hi) : ∃ v : Int, atI [V.int x, .int y, .int z, .int u] r = some (.int v) ∧ lo ≤ v ∧ v ≤ hi := by
  have h : r = 0 ∨ r = 1 ∨ r = 2 ∨ r = 3 := by omega
  rcases h with rfl | rfl | rfl | rfl
  · exact ⟨x, rfl, hx⟩
  · exact ⟨y, rfl, hy⟩
  · exact ⟨z, rfl, hz⟩
  · exact ⟨u, rfl, hu⟩
theorem wt_lay (w : Wt) (h : Nm w.n) : PyData.canLay0 (wtD w) = true ∧ PyData.depth (wtD w) ≤ 60 := by
  have h2 : PyData.strOk w.n = true := strOk_asc h.1
  simp [wtD, PyData.canLay0, PyData.canLayAll0, PyData.depth, PyData.depthAll, h2]
def sp__law_wants (K : PySem.W.Frag) : Sp := fun vs H Q _ => ∃ (b : Addr) (many n : Int), vs = [.ref b, .int many] ∧ Three H b n ∧ n < 100000 ∧ 0 ≤ many ∧ many ≤ 24 ∧ ∀ (H' : Hp) (R : Addr) (W : List (Addr × Wt)), Three H' b (n + 100) → But b H H' → H R = none → R ≠ b → H' R = some (.lst (refs W)) → RowsAt wV H' W → W.length ≤ 24 → (∀ q ∈ W, WtOk q.2) → Q (.ref R) H'
theorem ok__law_wants {f : Addr} {fd : FuncData} (F : Fun K "_law_wants" "_law_wants" s__law_wants f fd) (g : mg "_law_wants" = some (.ref f)) (bd : Binds K fd ["_law_left_here", "_law_many"] []) (C__law_pick : CF P w K mg base 2 "_law_pick" ["_law_left_here", "_law_many"] (sp__law_pick K)) (C__law_names : CF P w K mg base 3 "_law_names" ["_law_left_here", "_law_many"] (sp__law_names K)) (C__law_strewn : CF P w K mg base 3 "_law_strewn" ["_law_left_here", "_law_some"] (sp__law_strewn K)) : CF P w K mg base 4 "_law_wants" ["_law_left_here", "_law_many"] (sp__law_wants K) := by
  refine ⟨f, fd, F.ok sc__law_wants (fun vs H Q E h => ?_) (fun cdv A outer s H vs Q E hr h => ?_), g, F.kp, bd⟩
  · first | (obtain ⟨_, rfl, _⟩ := h; rfl) | (obtain ⟨_, _, rfl, _⟩ := h; rfl) | (obtain ⟨_, _, _, rfl, _⟩ := h; rfl) | (obtain ⟨_, _, _, _, rfl, _⟩ := h; rfl) | (obtain ⟨_, _, _, _, _, rfl, _⟩ := h; rfl) | (obtain ⟨_, _, _, _, _, _, rfl, _⟩ := h; rfl) | (obtain ⟨_, _, _, _, _, _, _, rfl, _⟩ := h; rfl) | (obtain ⟨_, _, _, _, _, _, _, _, rfl, _⟩ := h; rfl) | (obtain ⟨_, _, _, _, _, _, _, _, _, rfl, _⟩ := h; rfl) | (obtain ⟨_, _, _, _, _, _, _, _, _, _, rfl, _⟩ := h; rfl) | (obtain ⟨_, _, _, _, _, _, _, _, _, _, _, rfl, _⟩ := h; rfl) | (obtain ⟨_, _, _, _, _, _, _, _, _, _, _, _, rfl, _⟩ := h; rfl) | (obtain ⟨_, _, _, _, _, _, _, _, _, _, _, _, _, rfl, _⟩ := h; rfl) | (obtain ⟨_, _, _, _, _, _, _, _, _, _, _, _, _, _, rfl, _⟩ := h; rfl) | (obtain ⟨_, _, _, _, _, _, _, _, _, _, _, _, _, _, _, rfl, _⟩ := h; rfl)
  · have hu64 := hr.units
    obtain ⟨b, many, n, rfl, hb, hn, m0, m1, q⟩ := h
    refine ⟨_, (pss_cons (ps_par3 (i := 2) (j := 3) (l := 4) (by rfl) sc__law_wants.nd rfl rfl rfl (by decide) (by decide) (by decide) rfl rfl rfl (pa_cons (pe_ix (kk_ixl K) (pe_lst (pa_cons pe_int (pa_cons pe_int (pa_cons (pe_op op_pow pe_int pe_int) pa_nil)))) (pe_cf C__law_pick (hr.mono (by decide)) (by rfl) (pa_cons (pv 0) (pa_cons pe_int pa_nil))) (fun _ _ => rfl)) (pa_cons (pe_ix (kk_ixl K) (pe_lst (pa_cons pe_int (pa_cons pe_int (pa_cons pe_int (pa_cons pe_int pa_nil))))) (pe_cf C__law_pick (hr.mono (by decide)) (by rfl) (pa_cons (pv 0) (pa_cons pe_int pa_nil))) (fun _ _ => rfl)) (pa_cons (pe_lst pa_nil) pa_nil))) (by rfl))
      (pss_cons (ps_for PassesOwn.never rfl (pi_list (pe_slice (kk_sll K) (pe_cf C__law_names (hr.mono (by decide)) (by rfl) (pa_cons (pv 0) (pa_cons pe_int pa_nil))) po_none (po_some (pv 1)))) (pg_name (i := 5) sc__law_wants.nd rfl (.inl rfl))
         (pss_one (ps_expr (pe_bm PySem.F.plainAttrs_list PySem.F.slot_list_append PySem.F.type_list_append mt_append (pv 4) (pa_cons (pe_tup (pa_cons (pv 5) (pa_cons (pe_op op_add pe_int (pe_cf C__law_pick (hr.mono (by decide)) (by rfl) (pa_cons (pv 0) (pa_cons (pv 2) pa_nil)))) (pa_cons (pe_cf C__law_pick (hr.mono (by decide)) (by rfl) (pa_cons (pv 0) (pa_cons (pv 3) pa_nil))) pa_nil)))) pa_nil)))))
      (pss_one (ps_ret (pe_cf C__law_strewn (hr.mono (by decide)) (by rfl) (pa_cons (pv 0) (pa_cons (pv 4) pa_nil))))))), ?_⟩
    refine ⟨_, _, rfl, rfl, ⟨by decide, by decide, by decide⟩, (by show 3 ≤ sizeLine; decide), fun l1 n1 => ?_⟩
    refine ⟨_, rfl, b, 3, _, rfl, hb.new n1, by decide, by decide, by omega, fun r1 H1 r10 r11 b1 t1 => ?_⟩
    obtain ⟨most, hmost, ms0, ms1⟩ := pick3j (lo := 3) (hi := 1000000) (x := 3) (y := 20) (z := 10 ^ (6 : Int).toNat) r10 r11 (by omega) (by omega) (by show (3 : Int) ≤ 1000000 ∧ (1000000 : Int) ≤ 1000000; omega)
    refine ⟨l1, _, _, _, rfl, rfl, SqL.of (t1 _ _ (hb.ne n1) upd_same), hmost, (by show 4 ≤ sizeLine; decide), fun l2 n2 => ?_⟩
    refine ⟨_, rfl, b, 4, _, rfl, b1.new n2, by decide, by decide, by omega, fun r2 H2 r20 r21 b2 t2 => ?_⟩
    obtain ⟨far, hfar, fr0, fr1⟩ := pick4j (lo := 3) (hi := 900) (x := 3) (y := 12) (z := 400) (u := 900) r20 r21 (by omega) (by omega) (by omega) (by omega)
    refine ⟨l2, _, _, _, rfl, rfl, SqL.of (t2 _ _ (b1.ne n2) upd_same), hfar, (by show 0 ≤ sizeLine; decide), fun F nF => ⟨_, _, _, rfl, ?_⟩⟩
    have T2 := ((But.new (b := b) (o := .lst [.int 3, .int 20, .int (10 ^ (6 : Int).toNat)]) n1).trans t1).trans ((But.new (b := b) (o := .lst [.int 3, .int 12, .int 400, .int 900]) n2).trans t2)
    have nFb := b2.ne nF
    have nF0 : H F = none := by
      cases e : H F with
      | none => rfl
      | some o =>
        rw [T2 _ _ nFb e] at nF
        cases nF
    have sF := same_new (o := .lst []) nF
    have b3 := b2.same sF
    have T3 := T2.trans (But.of (b := b) sF)
    have hF := upd_same (H := H2) (a := F) (o := .lst [])
    generalize upd H2 F (.lst []) = G2 at *
    refine ⟨_, rfl, b, 24, _, rfl, b3, by omega, by decide, by decide, fun H4 D ss b4 t4 nD nDb hD hss hok => ?_⟩
    have hF4 := t4 _ _ nFb hF
    have T4 := T3.trans t4
    refine ⟨_, rfl, _, rfl, D, _, rfl, SqL.of hD, fun E nE => ?_⟩
    obtain ⟨mn, rfl⟩ := Int.eq_ofNat_of_zero_le m0
    rw [cut_take, ← List.map_take]
    have okE : ∀ s ∈ ss.take mn, Nm s := fun s hs => hok s (List.mem_of_mem_take hs)
    have lenE : (ss.take mn).length ≤ 24 := by rw [List.length_take]; omega
    generalize ss.take mn = sE at *
    have sE' := same_new (o := .lst (sE.map V.str)) nE
    have hE := upd_same (H := H4) (a := E) (o := .lst (sE.map V.str))
    have hF5 := sE' _ _ hF4
    have b5 := b4.same sE'
    have T5 := T4.trans (But.of (b := b) sE')
    have nEb := b4.ne nE
    have nEF : E ≠ F := (ne_of_none hF4 nE).symm
    generalize upd H4 E (.lst (sE.map V.str)) = G4 at *
    refine ⟨E, rfl, ⟨_, SqL.of hE⟩, for_list (K := K) (a := E) (xs := sE.map V.str) (fun i σ H' => ∃ (W : List (Addr × Wt)) (s5 : Option V), σ = [some (.ref b), some (.int mn), some (.int most), some (.int far), some (.ref F), s5] ∧ W.length = i ∧ H' F = some (.lst (refs W)) ∧ RowsAt wV H' W ∧ (∀ q ∈ W, WtOk q.2) ∧ H' E = some (.lst (sE.map V.str)) ∧ Three H' b (n + 20 + 2 * i) ∧ But b H H') ⟨[], _, rfl, rfl, hF5, .nil, fun _ h => (nomatch h), hE, b5.mono (by omega), T5⟩ (fun i σ H' _ h => by obtain ⟨_, _, _, _, _, _, _, h, _⟩ := h; exact SqL.of h) (fun i x σ H' hx h => ?_) (fun σ H' h => ?_)⟩
    · obtain ⟨W, s5, rfl, hW, hFX, hRX, hokX, hEX, bX, tX⟩ := h
      rw [List.getElem?_map] at hx
      obtain ⟨nm, hnm, rfl⟩ := Option.map_eq_some_iff.mp hx
      have hi : i < sE.length := (List.getElem?_eq_some_iff.mp hnm).1
      obtain ⟨_, _, _, hbX, _⟩ := id bX
      refine ⟨_, rfl, .inl ⟨rfl, _, SqL.of hFX⟩, _, rfl, _, rfl, _, rfl, b, most, _, rfl, bX, by omega, by omega, by omega, fun x1 J1 x10 x11 c1 u1 => ⟨_, _, rfl, rfl, ?_⟩⟩
      obtain ⟨_, _, _, hc1, _⟩ := id c1
      refine ⟨_, rfl, _, rfl, b, far, _, rfl, c1, by omega, by omega, by omega, fun x2 J2 x20 x21 c2 u2 => ⟨(by show 3 ≤ sizeLine; decide), fun t nt => ?_⟩⟩
      have hF6 := same_new (o := .tup [.str nm, .int (1 + x1), .int x2]) nt _ _ (u2 _ _ nFb (u1 _ _ nFb hFX))
      have hE6 := same_new (o := .tup [.str nm, .int (1 + x1), .int x2]) nt _ _ (u2 _ _ nEb (u1 _ _ nEb hEX))
      have hR6 := ((hRX.but hbX u1).but hc1 u2).same (same_new (o := .tup [.str nm, .int (1 + x1), .int x2]) nt)
      have ht6 := upd_same (H := J2) (a := t) (o := .tup [.str nm, .int (1 + x1), .int x2])
      refine ⟨F, _, _, rfl, rfl, hF6, ?_, W ++ [(t, ⟨nm, 1 + x1, x2⟩)], _, rfl, ?_, ?_, ?_, ?_, ?_, ((c2.new nt).mono (by omega)).upd nFb, updNew (((tX.trans u1).trans u2).trans (But.new nt)) nF0⟩
      · rw [List.length_map]
        exact small1000 (by omega)
      · rw [List.length_append, hW]
        rfl
      · rw [upd_same, refs_snoc]
      · refine (hR6.updL hF6).snoc ?_
        show (upd _ F _) t = _
        rw [upd_ne (ne_of ht6 hF6 (by intro z; cases z))]
        exact ht6
      · intro q' hq'
        rcases List.mem_append.mp hq' with h | h
        · exact hokX q' h
        · rw [List.mem_singleton.mp h]
          exact ⟨okE nm (List.mem_of_getElem? hnm), by show 1 ≤ 1 + x1; omega, by show 1 + x1 ≤ 1000000; omega, x20, by show x2 ≤ 900; omega⟩
      · rw [upd_ne nEF]
        exact hE6
    · obtain ⟨W, s5, rfl, hW, hFX, hRX, hokX, hEX, bX, tX⟩ := h
      rw [List.length_map] at hW bX
      obtain ⟨_, _, _, hbX, _⟩ := id bX
      refine ⟨_, rfl, _, rfl, Addr × Wt, (fun q => .ref q.1), (fun q => wtD q.2), b, F, _, W, rfl, bX, by omega, SqL.of hFX, by omega, fun G t x hx => wV_dp _ _ (SqT.of ((hRX.but hbX t) x hx)), fun x hx => wt_lay x.2 (hokX x hx).1, fun H7 R W' b7 t7 nR nRb hR pm => ?_⟩
      refine q _ R W' (b7.mono (by omega)) (tX.trans t7) ?_ nRb hR ((hRX.but hbX t7).sub fun x hx => pm.mem_iff.mp hx) (by rw [pm.length_eq]; omega) fun x hx => hokX x (pm.mem_iff.mp hx)
      cases e : H R with
      | none => rfl
      | some o =>
        rw [tX _ _ nRb e] at nR
        cases nR
/-! ### _law_incomes -/
abbrev s__law_incomes : Stmt := topS 20
abbrev N__law_incomes : List Str := ["_law_left_here", "_law_wants_here", "_law_many", "_law_whole", "_law_far", "_law_want", "_law_found", "_law_turn"]
theorem sc__law_incomes : FnScope N__law_incomes ["_law_left_here", "_law_wants_here", "_law_many"] (defScope s__law_incomes) := ⟨rfl, rfl, rfl, by decide +kernel, rfl, by decide +kernel, by decide +kernel⟩
def InOk (i : Int × Int) : Prop := 0 ≤ i.1 ∧ i.1 ≤ 400 ∧ 0 ≤ i.2 ∧ i.2 ≤ 1000000000
theorem sum_bnd {B : Int} : ∀ {l : List Int}, (∀ x ∈ l, 0 ≤ x ∧ x ≤ B) → 0 ≤ l.sum ∧ l.sum ≤ B * l.length
  | [], _ => by simp
  | x :: r, h => by
    obtain ⟨a, b⟩ := h x List.mem_cons_self
    obtain ⟨c, d⟩ := sum_bnd (l := r) fun y hy => h y (List.mem_cons_of_mem _ hy)
    rw [List.sum_cons, List.length_cons]
    have e : B * ((r.length + 1 : Nat) : Int) = B * r.length + B := by rw [Int.natCast_add, Int.mul_add]; simp
    rw [e]
    omega
theorem rep_b (b : Bool) (x : V) : (List.replicate (if b = true then (1 : Int) else 0).toNat [x]).flatten = if b = true then [x] else [] := by cases b <;> rfl
theorem in_lay (i : Int × Int) : PyData.canLay0 (prD2 i) = true ∧ PyData.depth (prD2 i) ≤ 60 := by
  simp [prD2, PyData.canLay0, PyData.canLayAll0, PyData.depth, PyData.depthAll]
def sp__law_incomes (K : PySem.W.Frag) : Sp := fun vs H Q _ => ∃ (b a : Addr) (many n : Int) (W : List (Addr × Wt)), vs = [.ref b, .ref a, .int many] ∧ Three H b n ∧ n < 100000 ∧ H a = some (.lst (refs W)) ∧ a ≠ b ∧ RowsAt wV H W ∧ W.length ≤ 24 ∧ (∀ q ∈ W, WtOk q.2) ∧ 0 ≤ many ∧ many ≤ 40 ∧ ∀ (H' : Hp) (R : Addr) (M : List (Addr × (Int × Int))), Three H' b (n + 200) → But b H H' → H R = none → R ≠ b → H' R = some (.lst (refs M)) → RowsAt iV H' M → M.length ≤ 41 → (∀ q ∈ M, InOk q.2) → Q (.ref R) H'
theorem ok__law_incomes {f : Addr} {fd : FuncData} (F : Fun K "_law_incomes" "_law_incomes" s__law_incomes f fd) (g : mg "_law_incomes" = some (.ref f)) (bd : Binds K fd ["_law_left_here", "_law_wants_here", "_law_many"] []) (m_sum : mg "sum" = none) (m_int : mg "int" = none) (m_range : mg "range" = none) (m_len : mg "len" = none) (m_min : mg "min" = none) (m_max : mg "max" = none) (C__law_pick : CF P w K mg base 2 "_law_pick" ["_law_left_here", "_law_many"] (sp__law_pick K)) (C__law_strewn : CF P w K mg base 3 "_law_strewn" ["_law_left_here", "_law_some"] (sp__law_strewn K)) : CF P w K mg base 4 "_law_incomes" ["_law_left_here", "_law_wants_here", "_law_many"] (sp__law_incomes K) := by
  refine ⟨f, fd, F.ok sc__law_incomes (fun vs H Q E h => ?_) (fun cdv A outer s H vs Q E hr h => ?_), g, F.kp, bd⟩
  · first | (obtain ⟨_, rfl, _⟩ := h; rfl) | (obtain ⟨_, _, rfl, _⟩ := h; rfl) | (obtain ⟨_, _, _, rfl, _⟩ := h; rfl) | (obtain ⟨_, _, _, _, rfl, _⟩ := h; rfl) | (obtain ⟨_, _, _, _, _, rfl, _⟩ := h; rfl) | (obtain ⟨_, _, _, _, _, _, rfl, _⟩ := h; rfl) | (obtain ⟨_, _, _, _, _, _, _, rfl, _⟩ := h; rfl) | (obtain ⟨_, _, _, _, _, _, _, _, rfl, _⟩ := h; rfl) | (obtain ⟨_, _, _, _, _, _, _, _, _, rfl, _⟩ := h; rfl) | (obtain ⟨_, _, _, _, _, _, _, _, _, _, rfl, _⟩ := h; rfl) | (obtain ⟨_, _, _, _, _, _, _, _, _, _, _, rfl, _⟩ := h; rfl) | (obtain ⟨_, _, _, _, _, _, _, _, _, _, _, _, rfl, _⟩ := h; rfl) | (obtain ⟨_, _, _, _, _, _, _, _, _, _, _, _, _, rfl, _⟩ := h; rfl) | (obtain ⟨_, _, _, _, _, _, _, _, _, _, _, _, _, _, rfl, _⟩ := h; rfl) | (obtain ⟨_, _, _, _, _, _, _, _, _, _, _, _, _, _, _, rfl, _⟩ := h; rfl)
  · have hu64 := hr.units
    obtain ⟨b, a, many, n, W, rfl, hb, hn, ha, nab, hRW, hlW, hokW, m0, m1, q⟩ := h
    refine ⟨_, (pss_cons (ps_par (i := 3) (j := 4) (by rfl) sc__law_incomes.nd rfl rfl (by decide) rfl rfl (pa_cons (pe_op op_add (pe_callB (kk_sum K rfl) (by rfl) m_sum (by decide +kernel) (pa_cons (pe_lc (own := [("_law_want", 5)]) (g := (gName 5)) (tt := tYes) rfl sc__law_incomes.nd (pi_list (pv 1)) (blkOk_by (own := [("_law_want", 5)]) (N := N__law_incomes) (sc := defScope s__law_incomes) (by decide +kernel)) (fun _ _ _ _ _ => pg_name (i := 5) sc__law_incomes.nd rfl (Or.inl rfl)) (fun _ _ _ _ _ => pts_nil) (fun _ _ _ _ _ => (pe_ix (kk_ixt K) (pv 5) pe_int (fun _ _ => rfl)))) pa_nil)) pe_int) (pa_cons (pe_ix (kk_ixl K) (pe_lst (pa_cons pe_int (pa_cons pe_int (pa_cons pe_int pa_nil)))) (pe_cf C__law_pick (hr.mono (by decide)) (by rfl) (pa_cons (pv 0) (pa_cons pe_int pa_nil))) (fun _ _ => rfl)) pa_nil)) (by rfl))
      (pss_cons (ps_set (i := 6) sc__law_incomes.nd rfl (.inl rfl) (pe_op op_rep (pe_lst (pa_cons (pe_tup (pa_cons pe_int (pa_cons pe_int pa_nil))) pa_nil)) (pe_callTy call_int1 (by rfl) m_int (by decide +kernel) (pa_cons (pe_cmpR op_eq (pe_cf C__law_pick (hr.mono (by decide)) (by rfl) (pa_cons (pv 0) (pa_cons pe_int pa_nil))) pe_int (nomark _)) pa_nil))))
      (pss_cons (ps_for PassesOwn.never rfl (pi_range1 (by rfl) m_range (pa_cons (pe_op op_sub (pv 2) (pe_callB (kk_len K) (by rfl) m_len PySem.boot_len (pa_cons (pv 6) pa_nil))) pa_nil)) (pg_name (i := 7) sc__law_incomes.nd rfl (.inl rfl))
         (pss_one (ps_expr (pe_bm PySem.F.plainAttrs_list PySem.F.slot_list_append PySem.F.type_list_append mt_append (pv 6) (pa_cons (pe_tup (pa_cons (pe_cf C__law_pick (hr.mono (by decide)) (by rfl) (pa_cons (pv 0) (pa_cons (pv 4) pa_nil))) (pa_cons (pe_callB (call_min2 rfl) (by rfl) m_min (by decide +kernel) (pa_cons (pe_op op_pow pe_int pe_int) (pa_cons (pe_cf C__law_pick (hr.mono (by decide)) (by rfl) (pa_cons (pv 0) (pa_cons (pe_op op_add pe_int (pe_op op_fdiv (pe_op op_mul pe_int (pv 3)) (pe_callB (call_max2 rfl) (by rfl) m_max (by decide +kernel) (pa_cons pe_int (pa_cons (pv 2) pa_nil))))) pa_nil))) pa_nil))) pa_nil))) pa_nil)))))
      (pss_one (ps_ret (pe_cf C__law_strewn (hr.mono (by decide)) (by rfl) (pa_cons (pv 0) (pa_cons (pv 6) pa_nil)))))))), ?_⟩
    refine ⟨_, rfl, a, rfl, ⟨_, SqL.of ha⟩, fun D nD => rows_lc (fun _ : Wt => true) (fun q => V.int q.2.p) (jok_l (K := K) (SqL.of ha)) hRW (by omega) nD (fun q hq G s hG Y N h1 h2 => ⟨rfl, _, rfl, q.1, _, _, _, rfl, rfl, SqT.of hG, rfl, h1 rfl⟩) (fun G s hG => ?_)⟩
    rw [List.filter_eq_self.mpr (fun _ _ => rfl)] at hG
    have hbs := sum_bnd (B := 1000000) (l := W.map fun q => q.2.p) (fun x hx => by
      obtain ⟨y, hy, rfl⟩ := List.mem_map.mp hx
      have := hokW y hy
      exact ⟨by have := this.2.1; omega, this.2.2.1⟩)
    rw [List.length_map] at hbs
    have hG2 : G D = some (.lst ((W.map fun q => q.2.p).map V.int)) := by
      rw [hG, List.map_map]
      rfl
    refine ⟨D, _, rfl, SqL.of hG2, _, _, rfl, rfl, (by show 3 ≤ sizeLine; decide), fun l1 n1 => ?_⟩
    have s1 := s.trans (same_new (o := .lst [.int 4, .int 12, .int 400]) n1)
    have b1 := hb.same s1
    generalize (W.map fun q => q.2.p).sum = sm at *
    refine ⟨_, rfl, b, 3, _, rfl, b1, by decide, by decide, by omega, fun r1 H1 r10 r11 b2 t2 => ?_⟩
    obtain ⟨far, hfar, fr0, fr1⟩ := pick3j (lo := 4) (hi := 400) (x := 4) (y := 12) (z := 400) r10 r11 (by omega) (by omega) (by omega)
    refine ⟨l1, _, _, _, rfl, rfl, SqL.of (t2 _ _ ((hb.same s).ne n1) upd_same), hfar, _, _, rfl, ?_⟩
    have T2 := (But.of (b := b) s1).trans t2
    refine ⟨(by show 2 ≤ sizeLine; decide), fun z nz => ⟨(by show 1 ≤ sizeLine; decide), fun l2 n2 => ?_⟩⟩
    have sz := (same_new (o := .tup [.int 0, .int 0]) nz).trans (same_new (o := .lst [.ref z]) n2)
    have hz := same_new (o := .lst [.ref z]) n2 _ _ (upd_same (H := H1) (a := z) (o := .tup [.int 0, .int 0]))
    have hl2 := upd_same (H := upd H1 z (.tup [.int 0, .int 0])) (a := l2) (o := .lst [.ref z])
    have nl2b := (b2.new (o := .tup [.int 0, .int 0]) nz).ne n2
    have nzb := b2.ne nz
    have b3 := b2.same sz
    have T3 := T2.trans (But.of (b := b) sz)
    generalize upd (upd H1 z (.tup [.int 0, .int 0])) l2 (.lst [.ref z]) = G3 at *
    refine ⟨_, rfl, b, 4, _, rfl, b3, by decide, by decide, by omega, fun r2 H2 r20 r21 b4 t4 => ⟨rfl, .inr ⟨_, rfl, l2, _, _, rfl, rfl, t4 _ _ nl2b hl2, by split <;> decide, by split <;> decide, ?_, fun F nF => ?_⟩⟩⟩
    · split
      · show 1 * 1 ≤ sizeLine
        decide
      · show 1 * 0 ≤ sizeLine
        decide
    rw [rep_b]
    have hz4 := t4 _ _ nzb hz
    have T4 := T3.trans t4
    have nFb := b4.ne nF
    have nF0 : H F = none := by
      cases e : H F with
      | none => rfl
      | some o =>
        rw [T4 _ _ nFb e] at nF
        cases nF
    obtain ⟨M0, hM0, hM0r, hM0l, hM0o⟩ : ∃ M0 : List (Addr × (Int × Int)), (if decide (V.int r2 = V.int 0) = true then [V.ref z] else []) = refs M0 ∧ RowsAt iV H2 M0 ∧ M0.length ≤ 1 ∧ ∀ q ∈ M0, InOk q.2 := by
      split
      · refine ⟨[(z, (0, 0))], rfl, fun q hq => ?_, Nat.le_refl _, fun q hq => ?_⟩
        · rw [List.mem_singleton.mp hq]
          exact hz4
        · rw [List.mem_singleton.mp hq]
          exact ⟨Int.le_refl 0, by show (0 : Int) ≤ 400; decide, Int.le_refl 0, by show (0 : Int) ≤ 1000000000; decide⟩
      · exact ⟨[], rfl, .nil, Nat.zero_le _, fun _ h => (nomatch h)⟩
    rw [hM0]
    have sF := same_new (o := .lst (refs M0)) nF
    have hF := upd_same (H := H2) (a := F) (o := .lst (refs M0))
    have hM0r := hM0r.same sF
    have b5 := b4.same sF
    have T5 := T4.trans (But.of (b := b) sF)
    generalize upd H2 F (.lst (refs M0)) = G4 at *
    have lm : (refs M0).length = M0.length := List.length_map ..
    refine ⟨_, rfl, _, rfl, F, _, rfl, .inl (SqL.of hF), _, _, rfl, rfl, _, rfl, by omega, by omega, for_range (fun i σ H' => ∃ (M : List (Addr × (Int × Int))) (s5 s7 : Option V), σ = [some (.ref b), some (.ref a), some (.int many), some (.int (sm + 1)), some (.int far), s5, some (.ref F), s7] ∧ M.length = M0.length + i ∧ H' F = some (.lst (refs M)) ∧ RowsAt iV H' M ∧ (∀ q ∈ M, InOk q.2) ∧ Three H' b (n + 10 + 2 * i) ∧ But b H H') ⟨M0, _, _, rfl, rfl, hF, hM0r, hM0o, b5.mono (by omega), T5⟩ (fun i σ H' hi h => ?_) (fun σ H' h => ?_)⟩
    · obtain ⟨M, s5, s7, rfl, hM, hFX, hRX, hokX, bX, tX⟩ := h
      obtain ⟨_, _, _, hbX, _⟩ := id bX
      have q0 : 0 ≤ (if many > 1 then many else 1 : Int) - 1 := by split <;> omega
      have q1 : (if many > 1 then many else 1 : Int) ≤ 40 := by split <;> omega
      have d0 := Int.ediv_nonneg (a := 2 * (sm + 1)) (b := if many > 1 then many else 1) (by omega) (by omega)
      have d1 := Int.ediv_le_self (a := 2 * (sm + 1)) (if many > 1 then many else 1) (by omega)
      refine ⟨_, rfl, .inl ⟨rfl, _, SqL.of hFX⟩, _, rfl, _, rfl, b, far, _, rfl, bX, by omega, by omega, by omega, fun x1 J1 x10 x11 c1 u1 => ?_⟩
      obtain ⟨_, _, _, hc1, _⟩ := id c1
      refine ⟨_, _, rfl, rfl, ⟨by decide, by decide, by decide⟩, _, rfl, _, rfl, _, _, rfl, rfl, .inl ⟨by decide, by decide⟩, _, rfl, _, _, rfl, _, _, rfl, rfl, ⟨by omega, by omega⟩, _, _, rfl, rfl, b, _, _, rfl, c1, by omega, by omega, by omega, fun x2 J2 x20 x21 c2 u2 => ⟨_, _, rfl, (by show 2 ≤ sizeLine; decide), fun t nt => ?_⟩⟩
      have e9 : (10 ^ (9 : Int).toNat : Int) = 1000000000 := by decide
      rw [e9]
      generalize hv : (if x2 < 1000000000 then x2 else 1000000000 : Int) = v at *
      have v0 : 0 ≤ v ∧ v ≤ 1000000000 := by rw [← hv]; split <;> omega
      have hF6 := same_new (o := .tup [.int x1, .int v]) nt _ _ (u2 _ _ nFb (u1 _ _ nFb hFX))
      have hR6 := ((hRX.but hbX u1).but hc1 u2).same (same_new (o := .tup [.int x1, .int v]) nt)
      have ht6 := upd_same (H := J2) (a := t) (o := .tup [.int x1, .int v])
      refine ⟨F, _, _, rfl, rfl, hF6, ?_, M ++ [(t, (x1, v))], _, _, rfl, ?_, ?_, ?_, ?_, ((c2.new nt).mono (by omega)).upd nFb, updNew (((tX.trans u1).trans u2).trans (But.new nt)) nF0⟩
      · rw [List.length_map]
        exact small1000 (by omega)
      · rw [List.length_append, hM]
        rfl
      · rw [upd_same, refs_snoc]
      · refine (hR6.updL hF6).snoc ?_
        show (upd _ F _) t = _
        rw [upd_ne (ne_of ht6 hF6 (by intro z; cases z))]
        exact ht6
      · intro q' hq'
        rcases List.mem_append.mp hq' with h | h
        · exact hokX q' h
        · rw [List.mem_singleton.mp h]
          exact ⟨x10, by show x1 ≤ 400; omega, v0.1, v0.2⟩
    · obtain ⟨M, s5, s7, rfl, hM, hFX, hRX, hokX, bX, tX⟩ := h
      have hM41 : M.length ≤ 41 := by omega
      obtain ⟨_, _, _, hbX, _⟩ := id bX
      refine ⟨_, rfl, _, rfl, Addr × (Int × Int), (fun q => .ref q.1), (fun q => prD2 q.2), b, F, _, M, rfl, bX, by omega, SqL.of hFX, by omega, fun G t x hx => iV_dp _ _ (SqT.of ((hRX.but hbX t) x hx)), fun x hx => in_lay x.2, fun H7 R M' b7 t7 nR nRb hR pm => ?_⟩
      refine q _ R M' (b7.mono (by omega)) (tX.trans t7) ?_ nRb hR ((hRX.but hbX t7).sub fun x hx => pm.mem_iff.mp hx) (by rw [pm.length_eq]; exact hM41) fun x hx => hokX x (pm.mem_iff.mp hx)
      cases e : H R with
      | none => rfl
      | some o =>
        rw [tX _ _ nRb e] at nR
        cases nR
/-! ### dicts of numbers; the least pence for so many wants -/
abbrev DD := List (Int × Int)
def dkv (D : DD) : List (Key × V) := D.map fun q => (.inl q.1, .int q.2)
def lk (D : DD) (k : Int) : Option Int := (D.find? fun q => decide (q.1 = k)).map (·.2)
def putI (D : DD) (k v : Int) : DD := if (D.any fun q => decide (q.1 = k)) = true then D.map (fun q => if q.1 = k then (q.1, v) else q) else D ++ [(k, v)]
theorem inl_eq (a b : Int) : decide ((Sum.inl a : Key) = .inl b) = decide (a = b) := by
  by_cases h : a = b
  · rw [h, decide_eq_true rfl, decide_eq_true rfl]
  · rw [decide_eq_false h, decide_eq_false fun z => h (Sum.inl.inj z)]
theorem lk_cons (q : Int × Int) (D : DD) (k : Int) : lk (q :: D) k = if q.1 = k then some q.2 else lk D k := by
  unfold lk
  rw [List.find?_cons]
  by_cases h : q.1 = k
  · rw [decide_eq_true h, if_pos h]
    rfl
  · rw [decide_eq_false h, if_neg h]
theorem valV_dkv : ∀ (D : DD) (k : Int), valV (dkv D) (.inl k) = (lk D k).map V.int
  | [], _ => rfl
  | q :: D, k => by
    rw [lk_cons]
    by_cases h : q.1 = k
    · rw [if_pos h]
      exact valV_pos (congrArg Sum.inl h)
    · rw [if_neg h, ← valV_dkv D k]
      exact valV_neg fun z => h (Sum.inl.inj z)
theorem any_dkv (D : DD) (k : Int) : ((dkv D).any fun kv => decide (kv.1 = .inl k)) = D.any fun q => decide (q.1 = k) := by
  unfold dkv
  rw [List.any_map]
  congr 1
  funext q
  exact inl_eq q.1 k
theorem putK_dkv (D : DD) (k v : Int) : putK (dkv D) (.inl k) (.int v) = dkv (putI D k v) := by
  unfold putK putI
  rw [any_dkv]
  split
  · unfold dkv
    rw [List.map_map, List.map_map]
    refine List.map_congr_left fun q _ => ?_
    show (if (Sum.inl q.1 : Key) = .inl k then ((.inl q.1 : Key), V.int v) else (.inl q.1, .int q.2)) = _
    by_cases h : q.1 = k
    · rw [if_pos (by rw [h])]
      simp [h]
    · rw [if_neg fun z => h (Sum.inl.inj z)]
      simp [h]
  · unfold dkv
    rw [List.map_append]
    rfl
theorem lk_put (D : DD) (k v j : Int) : lk (putI D k v) j = if j = k then some v else lk D j := by
  have h : (lk (putI D k v) j).map V.int = (if j = k then some v else lk D j).map V.int := by
    rw [← valV_dkv, ← putK_dkv, valV_put, valV_dkv]
    by_cases e : j = k
    · rw [if_pos (by rw [e]), if_pos e]
      rfl
    · rw [if_neg fun z => e (Sum.inl.inj z), if_neg e]
  generalize lk (putI D k v) j = a at h ⊢
  generalize (if j = k then some v else lk D j) = b at h ⊢
  cases a <;> cases b <;> simp_all
def keysI (D : DD) : List Int := D.map (·.1)
theorem put_len (D : DD) (k v : Int) : (putI D k v).length ≤ D.length + 1 := by
  unfold putI
  split
  · rw [List.length_map]
    omega
  · rw [List.length_append]
    simp
theorem put_nodup {D : DD} (h : (keysI D).Nodup) (k v : Int) : (keysI (putI D k v)).Nodup := by
  unfold putI
  split
  · have e : keysI (D.map fun q => if q.1 = k then (q.1, v) else q) = keysI D := by
      unfold keysI
      rw [List.map_map]
      refine List.map_congr_left fun q _ => ?_
      show (if q.1 = k then (q.1, v) else q).1 = q.1
      split <;> rfl
    rw [e]
    exact h
  · rename_i c
    unfold keysI at h ⊢
    rw [List.map_append]
    refine List.nodup_append.mpr ⟨h, by simp, fun a ha b hb => ?_⟩
    rw [List.map_cons, List.map_nil, List.mem_singleton] at hb
    rintro rfl
    obtain ⟨q, hq, e⟩ := List.mem_map.mp ha
    exact c (List.any_eq_true.mpr ⟨q, hq, decide_eq_true (e.trans hb)⟩)
theorem lk_key {D : DD} {k : Int} : (∃ v, lk D k = some v) ↔ k ∈ keysI D := by
  induction D with
  | nil => simp [lk, keysI]
  | cons q r ih =>
    rw [lk_cons]
    show _ ↔ k ∈ q.1 :: keysI r
    by_cases h : q.1 = k
    · rw [if_pos h]
      simp [h]
    · rw [if_neg h, ih, List.mem_cons]
      constructor
      · exact .inr
      · rintro (z | z)
        · exact absurd z.symm h
        · exact z
theorem lk_none {D : DD} {k : Int} : lk D k = none ↔ k ∉ keysI D := by
  rw [← lk_key]
  cases lk D k <;> simp
theorem lk_snoc {D : DD} {q : Int × Int} (h : q.1 ∉ keysI D) (k : Int) : lk (D ++ [q]) k = if q.1 = k then some q.2 else lk D k := by
  induction D with
  | nil => exact lk_cons q [] k
  | cons x r ih =>
    have h1 : q.1 ≠ x.1 := fun z => h (by rw [z]; exact List.mem_cons_self)
    have h2 : q.1 ∉ keysI r := fun z => h (List.mem_cons_of_mem _ z)
    rw [List.cons_append, lk_cons, ih h2, lk_cons]
    by_cases c : x.1 = k
    · rw [if_pos c, if_pos c, if_neg fun z => h1 (z.trans c.symm)]
    · rw [if_neg c, if_neg c]
def payI (p c : Int) (acc : DD) (q : Int × Int) : DD := if q.2 + p ≤ c then putI acc (q.1 + 1) (q.2 + p) else acc
def paidI (D : DD) (p c : Int) : DD := D.foldl (payI p c) []
def payO (p c : Int) (v : Int) : Option Int := if v + p ≤ c then some (v + p) else none
theorem paid_snoc (D : DD) (q : Int × Int) (p c : Int) : paidI (D ++ [q]) p c = payI p c (paidI D p c) q := by
  unfold paidI
  rw [List.foldl_append]
  rfl
theorem snoc_ind {α : Type} {P : List α → Prop} (h0 : P []) (h1 : ∀ l a, P l → P (l ++ [a])) (l : List α) : P l := by
  have h : ∀ n (l : List α), l.length = n → P l := fun n => by
    induction n with
    | zero => exact fun l e => by rw [List.length_eq_zero_iff.mp e]; exact h0
    | succ n ih =>
      intro l e
      have hl : l ≠ [] := fun z => by rw [z] at e; cases e
      rw [← List.dropLast_concat_getLast hl]
      exact h1 _ _ (ih _ (by rw [List.length_dropLast, e]; rfl))
  exact h _ l rfl
theorem pay_facts (p c : Int) (D : DD) : (keysI D).Nodup → (keysI (paidI D p c)).Nodup ∧ (paidI D p c).length ≤ D.length ∧ ∀ k, lk (paidI D p c) k = (lk D (k - 1)).bind (payO p c) := by
  refine snoc_ind (P := fun D => (keysI D).Nodup → (keysI (paidI D p c)).Nodup ∧ (paidI D p c).length ≤ D.length ∧ ∀ k, lk (paidI D p c) k = (lk D (k - 1)).bind (payO p c)) ?_ ?_ D
  · exact fun _ => ⟨List.Pairwise.nil, Nat.le_refl _, fun k => rfl⟩
  · intro l q ih h
    unfold keysI at h
    rw [List.map_append] at h
    obtain ⟨h1, _, h3⟩ := List.nodup_append.mp h
    obtain ⟨a, b, e⟩ := ih h1
    have nq : q.1 ∉ keysI l := fun z => h3 _ z q.1 (by simp) rfl
    rw [paid_snoc]
    unfold payI
    refine ⟨?_, ?_, fun k => ?_⟩
    · split
      · exact put_nodup a _ _
      · exact a
    · rw [List.length_append]
      split
      · have := put_len (paidI l p c) (q.1 + 1) (q.2 + p)
        show _ ≤ l.length + 1
        omega
      · show _ ≤ l.length + 1
        omega
    · rw [lk_snoc nq]
      by_cases o : q.2 + p ≤ c
      · rw [if_pos o, lk_put, e]
        by_cases kk : q.1 = k - 1
        · rw [if_pos (by omega), if_pos kk]
          show _ = payO p c q.2
          unfold payO
          rw [if_pos o]
        · rw [if_neg (by omega), if_neg kk]
      · rw [if_neg o, e]
        by_cases kk : q.1 = k - 1
        · rw [if_pos kk, ← kk, lk_none.mpr nq]
          show none = payO p c q.2
          unfold payO
          rw [if_neg o]
        · rw [if_neg kk]
def comb : Option Int → Option Int → Option Int
  | some x, some y => some (if y < x then y else x)
  | some x, none => some x
  | none, r => r
def lessI (A B : DD) (ks : List Int) : DD := ks.foldl (fun acc k => putI acc k ((comb (lk A k) (lk B k)).getD 0)) []
theorem less_snoc (A B : DD) (ks : List Int) (k : Int) : lessI A B (ks ++ [k]) = putI (lessI A B ks) k ((comb (lk A k) (lk B k)).getD 0) := by
  unfold lessI
  rw [List.foldl_append]
  rfl
theorem less_facts (A B : DD) (ks : List Int) : (keysI (lessI A B ks)).Nodup ∧ (lessI A B ks).length ≤ ks.length ∧ ∀ j, lk (lessI A B ks) j = if j ∈ ks then some ((comb (lk A j) (lk B j)).getD 0) else none := by
  refine snoc_ind (P := fun ks => (keysI (lessI A B ks)).Nodup ∧ (lessI A B ks).length ≤ ks.length ∧ ∀ j, lk (lessI A B ks) j = if j ∈ ks then some ((comb (lk A j) (lk B j)).getD 0) else none) ?_ ?_ ks
  · exact ⟨List.Pairwise.nil, Nat.le_refl _, fun j => by rw [if_neg (by simp)]; rfl⟩
  · rintro l k ⟨a, b, e⟩
    rw [less_snoc]
    refine ⟨put_nodup a _ _, ?_, fun j => ?_⟩
    · have := put_len (lessI A B l) k ((comb (lk A k) (lk B k)).getD 0)
      rw [List.length_append]
      show _ ≤ l.length + 1
      omega
    · rw [lk_put, e]
      by_cases c : j = k
      · rw [if_pos c, if_pos (by rw [c]; simp), c]
      · rw [if_neg c]
        have : (j ∈ l ++ [k]) ↔ j ∈ l := by simp [c]
        simp only [this]
theorem less_all (A B : DD) (j : Int) : lk (lessI A B (keysI A ++ keysI B)) j = comb (lk A j) (lk B j) := by
  rw [(less_facts A B _).2.2 j]
  by_cases c : j ∈ keysI A ++ keysI B
  · rw [if_pos c]
    rcases List.mem_append.mp c with h | h
    · obtain ⟨v, e⟩ := lk_key.mpr h
      rw [e]
      cases lk B j <;> rfl
    · obtain ⟨v, e⟩ := lk_key.mpr h
      rw [e]
      cases lk A j <;> rfl
  · rw [if_neg c]
    have h1 : lk A j = none := lk_none.mpr fun z => c (List.mem_append_left _ z)
    have h2 : lk B j = none := lk_none.mpr fun z => c (List.mem_append_right _ z)
    rw [h1, h2]
    rfl
/-- the least pence for so many of the wants, by a dict's reading -/
def leastO : Int → Option Int := fun k => if k = 0 then some 0 else none
def paidF (is : List (Int × Int)) (f : Int → Option Int) (w : Wt) : Int → Option Int := fun k => (f (k - 1)).bind (payO w.p (comF is w.l))
def stepF (is : List (Int × Int)) (nm : List Str) (f : Int → Option Int) (w : Wt) : Int → Option Int := if w.n ∈ nm then paidF is f w else fun k => comb (f k) (paidF is f w k)
def leastF (is : List (Int × Int)) (nm : List Str) (ws : List Wt) : Int → Option Int := ws.foldl (stepF is nm) leastO
theorem least_snoc (is : List (Int × Int)) (nm : List Str) (ws : List Wt) (w : Wt) : leastF is nm (ws ++ [w]) = stepF is nm (leastF is nm ws) w := by
  unfold leastF
  rw [List.foldl_append]
  rfl
def sortW (ws : List Wt) : List Wt := ws.mergeSort fun x y => decide (x.l ≤ y.l)
/-- the most that f knows of -/
def IsMost (f : Int → Option Int) (r : Option Int) : Prop := match r with
  | some m => (∃ v, f m = some v) ∧ ∀ k, (∃ v, f k = some v) → k ≤ m
  | none => ∀ k, f k = none
theorem most_one {f : Int → Option Int} {r s : Option Int} (a : IsMost f r) (b : IsMost f s) : r = s := by
  match r, s, a, b with
  | none, none, _, _ => rfl
  | none, some m, a, b =>
    obtain ⟨⟨v, e⟩, _⟩ := (show (∃ v, f m = some v) ∧ _ from b)
    rw [(show ∀ k, f k = none from a) m] at e
    cases e
  | some m, none, a, b =>
    obtain ⟨⟨v, e⟩, _⟩ := (show (∃ v, f m = some v) ∧ _ from a)
    rw [(show ∀ k, f k = none from b) m] at e
    cases e
  | some m, some n, a, b =>
    obtain ⟨a1, a2⟩ := (show (∃ v, f m = some v) ∧ ∀ k, (∃ v, f k = some v) → k ≤ m from a)
    obtain ⟨b1, b2⟩ := (show (∃ v, f n = some v) ∧ ∀ k, (∃ v, f k = some v) → k ≤ n from b)
    have := a2 n b1
    have := b2 m a1
    rw [show m = n by omega]
def optV : Option Int → V
  | some i => .int i
  | none => .non
/-- a comprehension that makes a dict, walked -/
theorem dc_gen {J : It} {n : Nat} {g : TG} {tt : TT} {tk tv : TE} {vs : List Nat} {σ : L2.St} {H1 : Hp} {D : Addr} {Qd : Hp → Prop} (Pv : Nat → Hp → Prop) (first : Pv 0 (upd H1 D (.dK [])))
    (can : ∀ i H, Pv i H → (i < n → J.go i H) ∧ (i = n → J.stop i H))
    (turn : ∀ i H v H', i < n → Pv i H → J.yld i H v H' → g v (wipe σ vs) H' fun σ2 H2 => wipe σ2 vs = wipe σ vs ∧ tt σ2 H2 fun b H3 => if b = true then tk σ2 H3 fun y H4 => tv σ2 H4 fun z H5 => ∃ kvs k, y = kV k ∧ H5 D = some (.dK kvs) ∧ kvs.length < sizeLine ∧ Pv (i + 1) (upd H5 D (.dK (putK kvs k z))) else Pv (i + 1) H3)
    (last : ∀ H, Pv n H → Qd H) :
    ∃ W : Nat → Nat → Hp → Prop, (∃ m, W 0 m (upd H1 D (.dK []))) ∧ ∀ i m H, W i m H → (J.stop i H ∧ Qd H) ∨ (J.go i H ∧ ∃ Nx : Hp → Prop, (∀ H', Nx H' → ∃ m', m' < m ∧ W (i + 1) m' H') ∧ ∀ x H', J.yld i H x H' → g x (wipe σ vs) H' fun σ2 H2 => wipe σ2 vs = wipe σ vs ∧ tt σ2 H2 fun b H3 => if b = true then tk σ2 H3 fun y H4 => tv σ2 H4 fun z H5 => ∃ kvs k, y = kV k ∧ H5 D = some (.dK kvs) ∧ kvs.length < sizeLine ∧ Nx (upd H5 D (.dK (putK kvs k z))) else Nx H3) := by
  refine ⟨fun i m H => m + i = n ∧ Pv i H, ⟨n, by omega, first⟩, ?_⟩
  intro i m H hw
  obtain ⟨e, p⟩ := hw
  by_cases c : i < n
  · exact .inr ⟨(can i H p).1 c, Pv (i + 1), fun H' p' => ⟨n - (i + 1), by omega, by omega, p'⟩, fun v H' y => turn i H v H' c p y⟩
  · have z : i = n := by omega
    exact .inl ⟨(can i H p).2 z, last H (z ▸ p)⟩
theorem hu1_of {n : Nat} (h : n + 64 < cLine) : n + 1 < cLine := by omega
theorem dc_list {K : PySem.W.Frag} {a : Addr} {xs : List V} {g : TG} {tt : TT} {tk tv : TE} {vs : List Nat} {σ : L2.St} {H1 : Hp} {D : Addr} {Qd : Hp → Prop} (Pv : Nat → Hp → Prop) (first : Pv 0 (upd H1 D (.dK []))) (here : ∀ i H, Pv i H → SqL K H a xs)
    (turn : ∀ i H v, xs[i]? = some v → Pv i H → g v (wipe σ vs) H fun σ2 H2 => wipe σ2 vs = wipe σ vs ∧ tt σ2 H2 fun b H3 => if b = true then tk σ2 H3 fun y H4 => tv σ2 H4 fun z H5 => ∃ kvs k, y = kV k ∧ H5 D = some (.dK kvs) ∧ kvs.length < sizeLine ∧ Pv (i + 1) (upd H5 D (.dK (putK kvs k z))) else Pv (i + 1) H3)
    (last : ∀ H, Pv xs.length H → Qd H) :
    ∃ W : Nat → Nat → Hp → Prop, (∃ m, W 0 m (upd H1 D (.dK []))) ∧ ∀ i m H, W i m H → ((Itl K a).stop i H ∧ Qd H) ∨ ((Itl K a).go i H ∧ ∃ Nx : Hp → Prop, (∀ H', Nx H' → ∃ m', m' < m ∧ W (i + 1) m' H') ∧ ∀ x H', (Itl K a).yld i H x H' → g x (wipe σ vs) H' fun σ2 H2 => wipe σ2 vs = wipe σ vs ∧ tt σ2 H2 fun b H3 => if b = true then tk σ2 H3 fun y H4 => tv σ2 H4 fun z H5 => ∃ kvs k, y = kV k ∧ H5 D = some (.dK kvs) ∧ kvs.length < sizeLine ∧ Nx (upd H5 D (.dK (putK kvs k z))) else Nx H3) := by
  refine dc_gen (n := xs.length) Pv first (fun i H p => ⟨fun c => ⟨xs, _, here i H p, List.getElem?_eq_getElem c⟩, fun c => ⟨xs, here i H p, by omega⟩⟩) (fun i H v H' c p y => ?_) last
  obtain ⟨e, y⟩ := y
  subst e
  exact turn i H' v (y xs (here i H' p)) p
theorem get_two {A B : DD} {k : Int} (h : k ∈ keysI A ++ keysI B) : ∃ x y : Int, (valV (dkv A) (.inl k)).getD ((valV (dkv B) (.inl k)).getD .non) = .int x ∧ (valV (dkv B) (.inl k)).getD ((valV (dkv A) (.inl k)).getD .non) = .int y ∧ (if y < x then y else x) = (comb (lk A k) (lk B k)).getD 0 := by
  rw [valV_dkv, valV_dkv]
  have h2 : ¬ (lk A k = none ∧ lk B k = none) := fun ⟨z1, z2⟩ => (List.mem_append.mp h).elim (lk_none.mp z1) (lk_none.mp z2)
  generalize lk A k = p at h2 ⊢
  generalize lk B k = r at h2 ⊢
  match p, r, h2 with
  | some x, some y, _ => exact ⟨x, y, rfl, rfl, rfl⟩
  | some x, none, _ => exact ⟨x, x, rfl, rfl, if_neg (Int.lt_irrefl x)⟩
  | none, some y, _ => exact ⟨y, y, rfl, rfl, if_neg (Int.lt_irrefl y)⟩
  | none, none, h2 => exact absurd ⟨rfl, rfl⟩ h2
theorem keys_dkv (D : DD) : ((dkv D).map fun kv => kV kv.1) = (keysI D).map V.int := by
  unfold dkv keysI
  rw [List.map_map, List.map_map]
  rfl
/-! ### lesser_of -/
abbrev s_lesser_of : Stmt := topS 11
abbrev N_lesser_of : List Str := ["one", "other", "key"]
theorem sc_lesser_of : FnScope N_lesser_of ["one", "other"] (defScope s_lesser_of) := ⟨rfl, rfl, rfl, by decide +kernel, rfl, by decide +kernel, by decide +kernel⟩
def sp_lesser_of (K : PySem.W.Frag) : Sp := fun vs H Q _ => ∃ (a b : Addr) (A B : DD), vs = [.ref a, .ref b] ∧ H a = some (.dK (dkv A)) ∧ H b = some (.dK (dkv B)) ∧ A.length ≤ 1000 ∧ B.length ≤ 1000 ∧
  ∀ H' p, Same H H' → H p = none → H' p = some (.dK (dkv (lessI A B (keysI A ++ keysI B)))) → Q (.ref p) H'
theorem ok_lesser_of {f : Addr} {fd : FuncData} (F : Fun K "lesser_of" "lesser_of" s_lesser_of f fd) (g : mg "lesser_of" = some (.ref f)) (bd : Binds K fd ["one", "other"] []) (m_min : mg "min" = none) : CF P w K mg base 1 "lesser_of" ["one", "other"] (sp_lesser_of K) := by
  refine ⟨f, fd, F.ok sc_lesser_of (fun vs H Q E h => ?_) (fun cdv A outer s H vs Q E hr h => ?_), g, F.kp, bd⟩
  · first | (obtain ⟨_, rfl, _⟩ := h; rfl) | (obtain ⟨_, _, rfl, _⟩ := h; rfl) | (obtain ⟨_, _, _, rfl, _⟩ := h; rfl) | (obtain ⟨_, _, _, _, rfl, _⟩ := h; rfl) | (obtain ⟨_, _, _, _, _, rfl, _⟩ := h; rfl) | (obtain ⟨_, _, _, _, _, _, rfl, _⟩ := h; rfl) | (obtain ⟨_, _, _, _, _, _, _, rfl, _⟩ := h; rfl) | (obtain ⟨_, _, _, _, _, _, _, _, rfl, _⟩ := h; rfl) | (obtain ⟨_, _, _, _, _, _, _, _, _, rfl, _⟩ := h; rfl) | (obtain ⟨_, _, _, _, _, _, _, _, _, _, rfl, _⟩ := h; rfl) | (obtain ⟨_, _, _, _, _, _, _, _, _, _, _, rfl, _⟩ := h; rfl) | (obtain ⟨_, _, _, _, _, _, _, _, _, _, _, _, rfl, _⟩ := h; rfl) | (obtain ⟨_, _, _, _, _, _, _, _, _, _, _, _, _, rfl, _⟩ := h; rfl) | (obtain ⟨_, _, _, _, _, _, _, _, _, _, _, _, _, _, rfl, _⟩ := h; rfl) | (obtain ⟨_, _, _, _, _, _, _, _, _, _, _, _, _, _, _, rfl, _⟩ := h; rfl)
  · have hu64 := hr.units
    have hu1 := hu1_of hu64
    obtain ⟨a, b, A, B, rfl, ha, hb, la, lb, q⟩ := h
    refine ⟨_, (pss_one (ps_ret (pe_dc (own := [("key", 2)]) (g := (gName 2)) (tt := tYes) rfl sc_lesser_of.nd (pi_list (pe_lst (SD.pa_starD rfl (pv 0) (SD.pa_starD rfl (pv 1) pa_nil)))) (blkOk_by (own := [("key", 2)]) (N := N_lesser_of) (sc := defScope s_lesser_of) (by decide +kernel)) (fun _ _ _ _ _ => pg_name (i := 2) sc_lesser_of.nd rfl (Or.inl rfl)) (fun _ _ _ _ _ => pts_nil) (fun _ _ _ _ _ => (pv 2)) (fun _ _ _ _ _ => (pe_callB (call_min2 rfl) (by rfl) m_min (by decide +kernel) (pa_cons (pe_dget2 hu1 (pv 0) (pv 2) (pe_dget1 hu1 (pv 1) (pv 2) ⟨rfl, rfl, rfl, rfl⟩) ⟨rfl, rfl, rfl, rfl⟩) (pa_cons (pe_dget2 hu1 (pv 1) (pv 2) (pe_dget1 hu1 (pv 0) (pv 2) ⟨rfl, rfl, rfl, rfl⟩) ⟨rfl, rfl, rfl, rfl⟩) pa_nil))))))), ?_⟩
    have ex : ((dkv A).map fun kv => kV kv.1) ++ (((dkv B).map fun kv => kV kv.1) ++ []) = (keysI A ++ keysI B).map V.int := by
      rw [keys_dkv, keys_dkv, List.append_nil, List.map_append]
    have lks : (keysI A ++ keysI B).length ≤ 2000 := by
      unfold keysI
      rw [List.length_append, List.length_map, List.length_map]
      omega
    refine ⟨_, rfl, a, _, rfl, .inl ha, _, rfl, b, _, rfl, .inl hb, ?_, fun l nl => ?_⟩
    · rw [ex, List.length_map, sizeLine_eq]
      omega
    rw [ex]
    have s1 := same_new (o := .lst ((keysI A ++ keysI B).map V.int)) nl
    have hl := upd_same (H := H) (a := l) (o := .lst ((keysI A ++ keysI B).map V.int))
    have ha1 := s1 _ _ ha
    have hb1 := s1 _ _ hb
    generalize upd H l (.lst ((keysI A ++ keysI B).map V.int)) = H1 at *
    have q0 := q
    clear q
    generalize eks : keysI A ++ keysI B = ks at *
    refine ⟨l, rfl, ⟨_, SqL.of hl⟩, fun D nD => dc_list (K := K) (a := l) (xs := ks.map V.int) (fun i G => Same H1 G ∧ G D = some (.dK (dkv (lessI A B (ks.take i))))) ⟨same_new nD, upd_same⟩ (fun i G p => SqL.of (p.1 _ _ hl)) (fun i G v hv p => ?_) (fun G p => ?_)⟩
    · obtain ⟨sg, hD⟩ := p
      rw [List.getElem?_map] at hv
      obtain ⟨k, hk, rfl⟩ := Option.map_eq_some_iff.mp hv
      have hm : k ∈ keysI A ++ keysI B := by
        rw [eks]
        exact List.mem_of_getElem? hk
      obtain ⟨x, y, e1, e2, e3⟩ := get_two hm
      have ga := sg _ _ ha1
      have gb := sg _ _ hb1
      refine ⟨rfl, _, rfl, _, rfl, a, rfl, .inl ⟨_, .inl ga⟩, _, rfl, _, rfl, b, rfl, .inl ⟨_, .inl gb⟩, _, rfl, _, DGet.k (k := .inl k) gb, _, DGet.k (k := .inl k) ga, _, rfl, b, rfl, .inl ⟨_, .inl gb⟩, _, rfl, _, rfl, a, rfl, .inl ⟨_, .inl ga⟩, _, rfl, _, DGet.k (k := .inl k) ga, _, DGet.k (k := .inl k) gb, ?_⟩
      rw [e1, e2]
      refine ⟨x, y, rfl, dkv (lessI A B (ks.take i)), .inl k, rfl, hD, ?_, ?_, ?_⟩
      · unfold dkv
        rw [List.length_map, sizeLine_eq]
        have := (less_facts A B (ks.take i)).2.1
        rw [List.length_take] at this
        omega
      · intro c o h
        rw [upd_ne (ne_of_none h nD)]
        exact sg _ _ h
      · rw [upd_same, e3, putK_dkv, take_snoc hk, less_snoc]
    · obtain ⟨sg, hD⟩ := p
      rw [List.length_map, List.take_of_length_le (Nat.le_refl _)] at hD
      exact q0 G D (s1.trans sg) (none_of s1 nD) hD
theorem map_sort {α β : Type} (f : α → β) (k : β → Int) (l : List α) : (l.mergeSort fun x y => decide (k (f x) ≤ k (f y))).map f = (l.map f).mergeSort fun x y => decide (k x ≤ k y) := List.map_mergeSort fun _ _ _ _ => rfl
def sortR (L : List (Addr × Wt)) : List (Addr × Wt) := L.mergeSort fun x y => decide (x.2.l ≤ y.2.l)
theorem sortR_data (L : List (Addr × Wt)) : (sortR L).map (·.2) = sortW (L.map (·.2)) := map_sort (fun q : Addr × Wt => q.2) (fun w => w.l) L
theorem sortR_refs (L : List (Addr × Wt)) : ((L.map fun q => (V.ref q.1, q.2.l)).mergeSort fun x y => decide (x.2 ≤ y.2)).map (·.1) = refs (sortR L) := by
  rw [← map_sort (fun q : Addr × Wt => (V.ref q.1, q.2.l)) (fun r : V × Int => r.2) L, List.map_map]
  rfl
theorem keyAt_rows {K : PySem.W.Frag} {H : Hp} {L : List (Addr × Wt)} (h : RowsAt wV H L) : ∀ r ∈ L.map (fun q => (V.ref q.1, q.2.l)), SLam.KeyAt K H 2 r := fun r hr => by
  obtain ⟨q, hq, rfl⟩ := List.mem_map.mp hr
  exact ⟨q.1, _, rfl, SqT.of (h q hq), rfl⟩
theorem rows_ext {α : Type} {f : α → List V} {H H' : Hp} {L : List (Addr × α)} (h : RowsAt f H L) (e : LamX.ExtN H H') : RowsAt f H' L := fun q hq => e _ _ (h q hq) fun _ z => by cases z
theorem seq_ext {K : PySem.W.Frag} {H H' : Hp} {a : Addr} {xs : List V} (h : SqL K H a xs ∨ SqT K H a xs) (e : LamX.ExtN H H') : SqL K H' a xs ∨ SqT K H' a xs := h.elim (fun z => .inl (SLam.extN_l e z)) (fun z => .inr (SLam.extN_t e z))
theorem seq_same {K : PySem.W.Frag} {H H' : Hp} {a : Addr} {xs : List V} (h : SqL K H a xs ∨ SqT K H a xs) (e : Same H H') : SqL K H' a xs ∨ SqT K H' a xs := h.elim (fun z => .inl (e.seq z)) (fun z => .inr (seqT_same e z))
theorem ext_same {H H' : Hp} (s : Same H H') : LamX.ExtN H H' := LamX.ExtN.of s
theorem few_keys : ∀ (n : Nat) (l : List Int), l.Nodup → (∀ k ∈ l, 0 ≤ k ∧ k < n) → l.length ≤ n
  | 0, [], _, _ => Nat.le_refl 0
  | 0, a :: _, _, h => by
    have := h a List.mem_cons_self
    omega
  | n + 1, l, nd, h => by
    by_cases c : (n : Int) ∈ l
    · have h1 := few_keys n (l.erase n) (nd.erase _) fun k hk => by
        obtain ⟨k1, k2⟩ := nd.mem_erase_iff.mp hk
        have := h k k2
        omega
      rw [List.length_erase_of_mem c] at h1
      omega
    · have h1 := few_keys n l nd fun k hk => by
        have := h k hk
        have : k ≠ n := fun z => c (z ▸ hk)
        omega
      omega
theorem least_supp (is : List (Int × Int)) (nm : List Str) (ws : List Wt) : ∀ k v, leastF is nm ws k = some v → 0 ≤ k ∧ k ≤ ws.length := by
  refine snoc_ind (P := fun ws => ∀ k v, leastF is nm ws k = some v → 0 ≤ k ∧ k ≤ ws.length) ?_ ?_ ws
  · intro k v h
    have h : leastO k = some v := h
    unfold leastO at h
    split at h
    · rename_i c
      rw [c]
      exact ⟨Int.le_refl _, Int.le_refl _⟩
    · cases h
  · intro l w ih k v h
    rw [least_snoc] at h
    have paid : ∀ v, paidF is (leastF is nm l) w k = some v → 0 ≤ k ∧ k ≤ (l ++ [w]).length := fun v h => by
      unfold paidF at h
      cases e : leastF is nm l (k - 1) with
      | none => rw [e] at h; cases h
      | some u =>
        have := ih _ _ e
        rw [List.length_append]
        show 0 ≤ k ∧ k ≤ ((l.length + 1 : Nat) : Int)
        omega
    have old : ∀ v, leastF is nm l k = some v → 0 ≤ k ∧ k ≤ (l ++ [w]).length := fun v h => by
      have := ih _ _ h
      rw [List.length_append]
      show 0 ≤ k ∧ k ≤ ((l.length + 1 : Nat) : Int)
      omega
    unfold stepF at h
    split at h
    · exact paid v h
    · have h : comb (leastF is nm l k) (paidF is (leastF is nm l) w k) = some v := h
      cases e1 : leastF is nm l k with
      | some x => exact old x e1
      | none =>
        rw [e1] at h
        exact paid v h
theorem dd_len {is : List (Int × Int)} {nm : List Str} {ws : List Wt} {D : DD} (nd : (keysI D).Nodup) (rd : ∀ k, lk D k = leastF is nm ws k) : D.length ≤ ws.length + 1 := by
  have h := few_keys (ws.length + 1) (keysI D) nd fun k hk => by
    obtain ⟨v, hv⟩ := lk_key.mpr hk
    rw [rd] at hv
    have := least_supp is nm ws k v hv
    omega
  unfold keysI at h
  rw [List.length_map] at h
  exact h
theorem isMost_of {f : Int → Option Int} {D : DD} (e : ∀ k, lk D k = f k) {m : Int} (hm : m ∈ keysI D) (hle : ∀ n ∈ keysI D, n ≤ m) : IsMost f (some m) := by
  refine ⟨?_, fun k hk => hle k ?_⟩
  · rw [← e]
    exact lk_key.mpr hm
  · rw [← e] at hk
    exact lk_key.mp hk
theorem isMost_none {f : Int → Option Int} {D : DD} (e : ∀ k, lk D k = f k) (h : keysI D = []) : IsMost f none := fun k => by
  rw [← e, lk_none, h]
  exact List.not_mem_nil
/-! ### most_with -/
abbrev s_most_with : Stmt := topS 10
abbrev N_most_with : List Str := ["wants", "incomes", "names", "least", "name", "pence", "last", "come", "paid", "many", "spent"]
theorem sc_most_with : FnScope N_most_with ["wants", "incomes", "names"] (defScope s_most_with) := ⟨rfl, rfl, rfl, by decide +kernel, rfl, by decide +kernel, by decide +kernel⟩
def sp_most_with (K : PySem.W.Frag) (TT : List (Addr × Str)) : Sp := fun vs H Q _ => ∃ (a c e : Addr) (L : List (Addr × Wt)) (M : List (Addr × (Int × Int))) (nm : List Str), vs = [.ref a, .ref c, .ref e] ∧ (SqL K H a (refs L) ∨ SqT K H a (refs L)) ∧ RowsAt wV H L ∧ L.length ≤ 900 ∧ (SqL K H c (refs M) ∨ SqT K H c (refs M)) ∧ RowsAt iV H M ∧ M.length ≤ 1000 ∧ (SqL K H e (nm.map V.str) ∨ SqT K H e (nm.map V.str)) ∧ LamX.Tabs TT H ∧
  ∀ H' r, LamX.ExtN H H' → LamX.Tabs TT H' → IsMost (leastF (M.map (·.2)) nm (sortW (L.map (·.2)))) r → Q (optV r) H'
theorem ok_most_with {f : Addr} {fd : FuncData} (F : Fun K "most_with" "most_with" s_most_with f fd) (g : mg "most_with" = some (.ref f)) (bd : Binds K fd ["wants", "incomes", "names"] []) {TT : List (Addr × Str)} {TC TP : Addr} (fc : fd.code = .ref TC) (TB : LamX.TabB base mg TC TP) (tm : (TP, ("most_with.<locals>.<lambda>" : Str)) ∈ TT) (tu : ∀ p ∈ TT, p.1 = TP → p.2 = ("most_with.<locals>.<lambda>" : Str)) (m_sorted : mg "sorted" = none) (m_max : mg "max" = none) (m_list : mg "list" = none) (C_come_by : CF P w K mg base 1 "come_by" ["incomes", "day"] (sp_come_by K)) (C_lesser_of : CF P w K mg base 1 "lesser_of" ["one", "other"] (sp_lesser_of K)) : CF P w K mg base 3 "most_with" ["wants", "incomes", "names"] (sp_most_with K TT) := by
  refine ⟨f, fd, okC F fc sc_most_with (fun vs H Q E h => ?_) (fun A outer s H vs Q E hr h => ?_), g, F.kp, bd⟩
  · first | (obtain ⟨_, rfl, _⟩ := h; rfl) | (obtain ⟨_, _, rfl, _⟩ := h; rfl) | (obtain ⟨_, _, _, rfl, _⟩ := h; rfl) | (obtain ⟨_, _, _, _, rfl, _⟩ := h; rfl) | (obtain ⟨_, _, _, _, _, rfl, _⟩ := h; rfl) | (obtain ⟨_, _, _, _, _, _, rfl, _⟩ := h; rfl) | (obtain ⟨_, _, _, _, _, _, _, rfl, _⟩ := h; rfl) | (obtain ⟨_, _, _, _, _, _, _, _, rfl, _⟩ := h; rfl) | (obtain ⟨_, _, _, _, _, _, _, _, _, rfl, _⟩ := h; rfl) | (obtain ⟨_, _, _, _, _, _, _, _, _, _, rfl, _⟩ := h; rfl) | (obtain ⟨_, _, _, _, _, _, _, _, _, _, _, rfl, _⟩ := h; rfl) | (obtain ⟨_, _, _, _, _, _, _, _, _, _, _, _, rfl, _⟩ := h; rfl) | (obtain ⟨_, _, _, _, _, _, _, _, _, _, _, _, _, rfl, _⟩ := h; rfl) | (obtain ⟨_, _, _, _, _, _, _, _, _, _, _, _, _, _, rfl, _⟩ := h; rfl) | (obtain ⟨_, _, _, _, _, _, _, _, _, _, _, _, _, _, _, rfl, _⟩ := h; rfl)
  · have hu64 := hr.units
    obtain ⟨a, c, e, L, M, nm, rfl, hS, hR, small, hS2, hR2, small2, hN, hT, q⟩ := h
    refine ⟨_, (pss_cons (ps_set (i := 3) sc_most_with.nd rfl (.inl rfl) (pe_disp (pps_cons pe_int pe_int pps_nil) (by rfl) (by rfl) (by simp) (by decide)))
      (pss_cons (ps_for PassesOwn.never rfl (pi_list (SLam.pe_sortLam TB rfl tm tu (hr.mono (by decide)) (SLam.lamP_by (by decide +kernel)) rfl (fun _ _ _ _ _ _ => rfl) (by rfl) m_sorted (pv 0))) (pg_tup (by rfl) (pgs_cons (pg_name (i := 4) sc_most_with.nd rfl (.inl rfl)) (pgs_cons (pg_name (i := 5) sc_most_with.nd rfl (.inr rfl)) (pgs_cons (pg_name (i := 6) sc_most_with.nd rfl (.inl rfl)) pgs_nil))))
         (pss_cons (ps_set (i := 7) sc_most_with.nd rfl (.inr rfl) (pe_cf C_come_by (hr.mono (by decide)) (by rfl) (pa_cons (pv 1) (pa_cons (pv 6) pa_nil))))
          (pss_cons (ps_lock (SD.ps_setDc (i := 8) (own := [("many", 9), ("spent", 10)]) (g := (gTup K 2 (gCons (gName 9) (gCons (gName 10) gNil)))) rfl sc_most_with.nd rfl rfl (SD.sw_dict rfl rfl rfl (by decide +kernel)) (pi_items (pv 3)) (blkOk_by (own := [("many", 9), ("spent", 10)]) (N := N_most_with) (sc := defScope s_most_with) (by decide +kernel)) (fun _ _ _ _ _ => (pg_tup (by rfl) (pgs_cons (pg_name (i := 9) sc_most_with.nd rfl (.inl rfl)) (pgs_cons (pg_name (i := 10) sc_most_with.nd rfl (.inl rfl)) pgs_nil)))) (fun _ _ _ _ _ => (pts_one (pt_cmpR op_le (pe_op op_add (pv 10) (pv 5)) (pv 7) (nomark _)))) (fun _ _ _ _ _ => (pe_op op_add (pv 9) pe_int)) (fun _ _ _ _ _ => (pe_op op_add (pv 10) (pv 5)))))
          (pss_one (ps_set (i := 3) sc_most_with.nd rfl (.inl rfl) (pe_ifExp (pt_cmpR (kk_in K) (pv 4) (pv 2) (by rfl)) (pv 8) (pe_cf C_lesser_of (hr.mono (by decide)) (by rfl) (pa_cons (pv 3) (pa_cons (pv 8) pa_nil)))))))))
      (pss_one (ps_ret (pe_callBK (SD.call_maxD K rfl hu64) (by rfl) m_max (by decide +kernel) (pa_cons (pe_callTy (SD.kk_listD K rfl) (by rfl) m_list (by decide +kernel) (pa_cons (pv 3) pa_nil)) pa_nil) (pk_cons pe_non pk_nil)))))), ?_⟩
    refine fun d nd => ⟨upd_same, [(.inl 0, .int 0)], rfl, by decide, ?_⟩
    rw [upd_upd]
    have e0 : mergeK [] [((.inl 0 : Key), V.int 0)] = dkv [(0, 0)] := rfl
    rw [e0]
    have s0 := same_new (o := .dK (dkv [(0, 0)])) nd
    have hd0 := upd_same (H := H) (a := d) (o := .dK (dkv [(0, 0)]))
    have hS := seq_same hS s0
    have hR := hR.same s0
    have hS2 := seq_same hS2 s0
    have hR2 := hR2.same s0
    have hN := seq_same hN s0
    have hT := hT.ext s0
    generalize upd H d (.dK (dkv [(0, 0)])) = H1 at *
    refine ⟨_, rfl, a, L.map fun q => (V.ref q.1, q.2.l), rfl, ?_, keyAt_rows hR, hT, fun H2 eN T2 p np => ?_⟩
    · rw [List.map_map]
      exact hS
    rw [sortR_refs]
    have s3 := same_new (o := .lst (refs (sortR L))) np
    have hp := upd_same (H := H2) (a := p) (o := .lst (refs (sortR L)))
    have hT3 := T2.ext s3
    have eA := ((ext_same s0).trans eN).trans (ext_same s3)
    have eB := eN.trans (ext_same s3)
    have hRs : RowsAt wV (upd H2 p (.lst (refs (sortR L)))) (sortR L) := ((rows_ext hR eN).same s3).sub fun x hx => List.mem_mergeSort.mp hx
    have hS2 := seq_ext hS2 eB
    have hR2 := rows_ext hR2 eB
    have hN := seq_ext hN eB
    have hd3 := eB _ _ hd0 fun _ z => by cases z
    have lT : (sortR L).length = L.length := List.length_mergeSort ..
    have dT := sortR_data L
    generalize sortR L = T at *
    generalize upd H2 p (.lst (refs T)) = H3 at *
    refine ⟨p, rfl, ⟨_, SqL.of hp⟩, for_list (K := K) (a := p) (xs := refs T) (fun i σ G => ∃ (dA : Addr) (D : DD) (s4 s5 s6 s7 s8 s9 s10 : Option V), σ = [some (.ref a), some (.ref c), some (.ref e), some (.ref dA), s4, s5, s6, s7, s8, s9, s10] ∧ Same H3 G ∧ G dA = some (.dK (dkv D)) ∧ (keysI D).Nodup ∧ ∀ k, lk D k = leastF (M.map (·.2)) nm ((T.map (·.2)).take i) k) ⟨d, [(0, 0)], _, _, _, _, _, _, _, rfl, Same.refl _, hd3, by decide, fun k => ?_⟩ (fun i σ G _ h => by obtain ⟨_, _, _, _, _, _, _, _, _, rfl, s, _⟩ := h; exact SqL.of (s _ _ hp)) (fun i x σ G hx h => ?_) (fun σ G h => ?_)⟩
    · show lk [(0, 0)] k = leastO k
      rw [lk_cons]
      unfold leastO
      by_cases c : k = 0
      · rw [if_pos c, if_pos c.symm]
      · rw [if_neg c, if_neg fun z => c z.symm]
        rfl
    · obtain ⟨dA, D, s4, s5, s6, s7, s8, s9, s10, rfl, sg, hdA, nod, rd⟩ := h
      have len := dd_len nod rd
      have lt1 : ((T.map (·.2)).take i).length ≤ 900 := by
        rw [List.length_take, List.length_map]
        omega
      obtain ⟨t, ht, rfl, hmem⟩ := refs_at hx
      have ht2 : (T.map (·.2))[i]? = some t.2 := by rw [List.getElem?_map, ht]; rfl
      have hi : i < T.length := (List.getElem?_eq_some_iff.mp ht).1
      refine ⟨t.1, _, rfl, SqT.of (sg _ _ (hRs t hmem)), rfl, _, _, rfl, _, _, rfl, _, _, rfl, rfl, ?_⟩
      refine ⟨_, rfl, _, rfl, c, _, M, rfl, seq_same hS2 sg, hR2.same sg, small2, fun G1 g1 => ?_⟩
      have sg1 := sg.trans g1
      refine ⟨dA, .dK (dkv D), g1 _ _ hdA, trivial, fun od => ⟨_, rfl, dA, od, _, rfl, upd_same, fun E nE => ?_⟩⟩
      have hF : upd G1 dA (.frz od (.dK (dkv D))) dA = some (.frz od (.dK (dkv D))) := upd_same
      have hdF := g1 _ _ hdA
      have nE1 : G1 E = none := by
        rw [← nE, upd_ne]
        rintro rfl
        rw [hF] at nE
        cases nE
      have nEd : E ≠ dA := fun z => by
        rw [z, hF] at nE
        cases nE
      have pay := pay_facts t.2.p (comF (M.map (·.2)) t.2.l)
      refine dc_gen (n := (dkv D).length) (fun j F => (∀ x o, x ≠ dA → G1 x = some o → F x = some o) ∧ F dA = some (.frz od (.dK (dkv D))) ∧ F E = some (.dK (dkv (paidI (D.take j) t.2.p (comF (M.map (·.2)) t.2.l))))) ⟨fun x o nx hx => ?_, ?_, upd_same⟩ (fun j F p => ⟨fun cj => ⟨p.2.1, cj⟩, fun cj => ⟨p.2.1, by omega⟩⟩) (fun j F v F' cj p y => ?_) (fun F p => ?_)
      · rw [upd_ne (ne_of_none hx nE1), upd_ne nx]
        exact hx
      · rw [upd_ne nEd.symm]
        exact hF
      · obtain ⟨keep, fd, fE⟩ := p
        obtain ⟨U, k0, v0, hkv, rfl, nU, rfl⟩ := y
        unfold dkv at hkv
        rw [List.getElem?_map] at hkv
        obtain ⟨kq, hq, e⟩ := Option.map_eq_some_iff.mp hkv
        cases e
        have nUE : E ≠ U := ne_of_none fE nU
        have nUd : dA ≠ U := ne_of_none fd nU
        have fE1 : upd F U (.tup [kV (.inl kq.1), .int kq.2]) E = some (.dK (dkv (paidI (D.take j) t.2.p (comF (M.map (·.2)) t.2.l)))) := by rw [upd_ne nUE]; exact fE
        have fd1 : upd F U (.tup [kV (.inl kq.1), .int kq.2]) dA = some (.frz od (.dK (dkv D))) := by rw [upd_ne nUd]; exact fd
        have keep1 : ∀ x o, x ≠ dA → G1 x = some o → upd F U (.tup [kV (.inl kq.1), .int kq.2]) x = some o := fun x o nx hx => by
          have h1 := keep x o nx hx
          rw [upd_ne (ne_of_none h1 nU)]
          exact h1
        have step : paidI (D.take (j + 1)) t.2.p (comF (M.map (·.2)) t.2.l) = payI t.2.p (comF (M.map (·.2)) t.2.l) (paidI (D.take j) t.2.p (comF (M.map (·.2)) t.2.l)) kq := by
          rw [take_snoc hq, paid_snoc]
        have hj : j < D.length := (List.getElem?_eq_some_iff.mp hq).1
        refine ⟨U, _, rfl, SqT.of upd_same, rfl, _, _, rfl, _, _, rfl, rfl, rfl, _, rfl, _, rfl, _, _, rfl, rfl, _, rfl, _, _, rfl, rfl, _, rfl, ite2 (fun z => ?_) (fun z => ?_)⟩
        · have ok : kq.2 + t.2.p ≤ comF (M.map (·.2)) t.2.l := of_decide_eq_true z
          refine ⟨_, rfl, _, _, rfl, rfl, _, rfl, _, rfl, _, _, rfl, rfl, _, .inl (kq.1 + 1), rfl, fE1, ?_, ?_, ?_, ?_⟩
          · unfold dkv
            rw [List.length_map, sizeLine_eq]
            have := (pay (D.take j) ((List.take_sublist j D).map _ |>.nodup nod)).2.1
            rw [List.length_take] at this
            omega
          · intro x o nx hx
            rw [upd_ne (ne_of_none hx nE1)]
            exact keep1 x o nx hx
          · rw [upd_ne nEd.symm]
            exact fd1
          · rw [upd_same, putK_dkv, step]
            unfold payI
            rw [if_pos ok]
        · have ok : ¬ kq.2 + t.2.p ≤ comF (M.map (·.2)) t.2.l := fun y => z (decide_eq_true y)
          refine ⟨keep1, fd1, ?_⟩
          rw [step]
          unfold payI
          rw [if_neg ok]
          exact fE1
      · obtain ⟨keep, fd, fE⟩ := p
        rw [show (dkv D).length = D.length from List.length_map .., List.take_of_length_le (Nat.le_refl _)] at fE
        refine ⟨fd, ?_⟩
        have g2 : Same G1 (upd F dA (.dK (dkv D))) := fun x o hx => by
          by_cases cx : x = dA
          · rw [cx] at hx ⊢
            rw [upd_same, ← hx, hdF]
          · rw [upd_ne cx]
            exact keep x o cx hx
        have hd2 : upd F dA (.dK (dkv D)) dA = some (.dK (dkv D)) := upd_same
        have hE2 : upd F dA (.dK (dkv D)) E = some (.dK (dkv (paidI D t.2.p (comF (M.map (·.2)) t.2.l)))) := by rw [upd_ne nEd]; exact fE
        generalize upd F dA (.dK (dkv D)) = G2 at *
        have sg2 := sg1.trans g2
        obtain ⟨p1, p2, p3⟩ := pay D nod
        have fold : ∀ k, lk (paidI D t.2.p (comF (M.map (·.2)) t.2.l)) k = paidF (M.map (·.2)) (leastF (M.map (·.2)) nm ((T.map (·.2)).take i)) t.2 k := fun k => by
          rw [p3, rd]
          rfl
        have up : ∀ k, leastF (M.map (·.2)) nm ((T.map (·.2)).take (i + 1)) k = stepF (M.map (·.2)) nm (leastF (M.map (·.2)) nm ((T.map (·.2)).take i)) t.2 k := fun k => by rw [take_snoc ht2, least_snoc]
        refine ⟨_, rfl, _, rfl, e, _, rfl, seq_same hN sg2, rfl, flat_strs nm, _, rfl, ?_⟩
        show if inV (.str t.2.n) (nm.map V.str) = true then _ else _
        rw [in_strs]
        refine ite2 (fun z => ?_) (fun z => ?_)
        · have z1 : t.2.n ∈ nm := of_decide_eq_true z
          refine ⟨_, rfl, E, paidI D t.2.p (comF (M.map (·.2)) t.2.l), _, _, _, _, _, _, _, rfl, sg2, hE2, p1, fun k => ?_⟩
          rw [up, fold]
          unfold stepF
          rw [if_pos z1]
        · have z1 : ¬ t.2.n ∈ nm := fun y => z (decide_eq_true y)
          refine ⟨_, rfl, _, rfl, dA, E, D, _, rfl, hd2, hE2, by omega, by omega, fun G3 r g3 nr hr => ⟨r, _, _, _, _, _, _, _, _, rfl, sg2.trans g3, hr, (less_facts _ _ _).1, fun k => ?_⟩⟩
          rw [up, less_all, fold, rd]
          unfold stepF
          rw [if_neg z1]
    · obtain ⟨dA, D, s4, s5, s6, s7, s8, s9, s10, rfl, sg, hdA, nod, rd⟩ := h
      rw [List.take_of_length_le (by rw [List.length_map, List.length_map]; exact Nat.le_refl _), dT] at rd
      refine ⟨_, rfl, dA, _, rfl, .inl hdA, fun l nl => ?_⟩
      rw [keys_dkv]
      have sl := same_new (o := .lst ((keysI D).map V.int)) nl
      refine ⟨l, keysI D, rfl, rfl, SqL.of upd_same, fun e => ?_, fun m hm hle => ?_⟩
      · exact q _ none (eA.trans (ext_same (sg.trans sl))) (hT3.ext (sg.trans sl)) (isMost_none rd e)
      · exact q _ (some m) (eA.trans (ext_same (sg.trans sl))) (hT3.ext (sg.trans sl)) (isMost_of rd hm hle)
/-! ### heaps but their tables; names in their order -/
def dT (H : Hp) : Hp := fun a => match H a with
  | some (.tbl _) => none
  | o => o
theorem dT_of {H : Hp} {a : Addr} {o : HO} (h : H a = some o) (n : ∀ ps, o ≠ .tbl ps) : dT H a = some o := by
  unfold dT
  rw [h]
  cases o <;> first | rfl | exact absurd rfl (n _)
theorem dT_some {H : Hp} {a : Addr} {o : HO} (h : dT H a = some o) : H a = some o ∧ ∀ ps, o ≠ .tbl ps := by
  unfold dT at h
  cases e : H a with
  | none =>
    rw [e] at h
    cases h
  | some u =>
    rw [e] at h
    cases u <;> first | (cases h; exact ⟨rfl, fun _ z => by cases z⟩) | cases h
theorem dT_none {H : Hp} {a : Addr} (h : H a = none) : dT H a = none := by
  unfold dT
  rw [h]
theorem ext_dT {H H' : Hp} (e : LamX.ExtN H H') : Same (dT H) H' := fun a o h => e a o (dT_some h).1 (dT_some h).2
theorem dT_ext {H H' : Hp} (s : Same (dT H) H') : LamX.ExtN H H' := fun _ _ h n => s _ _ (dT_of h n)
theorem dT_same (H : Hp) : Same (dT H) H := fun _ _ h => (dT_some h).1
theorem dT_seq {K : PySem.W.Frag} {H : Hp} {a : Addr} {xs : List V} (h : SqL K H a xs ∨ SqT K H a xs) : SqL K (dT H) a xs ∨ SqT K (dT H) a xs := by
  rcases h with ((h | ⟨o, h⟩) | h) | ((h | ⟨o, h⟩) | h)
  · exact .inl (.inl (.inl (dT_of h fun _ z => by cases z)))
  · exact .inl (.inl (.inr ⟨o, dT_of h fun _ z => by cases z⟩))
  · exact .inl (.inr h)
  · exact .inr (.inl (.inl (dT_of h fun _ z => by cases z)))
  · exact .inr (.inl (.inr ⟨o, dT_of h fun _ z => by cases z⟩))
  · exact .inr (.inr h)
theorem dT_rows {α : Type} {f : α → List V} {H : Hp} {L : List (Addr × α)} (h : RowsAt f H L) : RowsAt f (dT H) L := fun q hq => dT_of (h q hq) fun _ z => by cases z
theorem dT_trans {H H1 H2 : Hp} (a : Same (dT H) H1) (b : Same (dT H1) H2) : Same (dT H) H2 := fun c o h => b c o (dT_of (a c o h) (dT_some h).2)
/-- a list is written: the tables stay -/
theorem tabs_upd {TT : List (Addr × Str)} {H : Hp} {a : Addr} {xs : List V} {o : HO} (t : LamX.Tabs TT H) (h : H a = some (.lst xs)) : LamX.Tabs TT (upd H a o) := fun p hp => by
  obtain ⟨ps, h1, h2, h3⟩ := t p hp
  refine ⟨ps, ?_, h2, fun pos cv hc => ?_⟩
  · rw [upd_ne (ne_of h1 h fun z => by cases z)]
    exact h1
  · obtain ⟨c, e1, e2⟩ := h3 pos cv hc
    refine ⟨c, e1, ?_⟩
    rw [upd_ne (ne_of e2 h fun z => by unfold LamX.CodeO at z; cases z)]
    exact e2
def codeS (s : Str) : List Nat := s.cps.toList
theorem codeS_inj {s t : Str} (h : codeS s = codeS t) : s = t := by
  obtain ⟨a⟩ := s
  obtain ⟨b⟩ := t
  have e : a.toList = b.toList := h
  rw [show a = b from Array.toList_inj.mp e]
theorem rising_pair : ∀ (p : Str) (l : List Str), risingS p l = true → (p :: l).Pairwise fun a b => codeS a ≤ codeS b
  | p, [], _ => List.pairwise_singleton _ _
  | p, x :: r, h => by
    have h0 : (!ltCps x.cps.toList p.cps.toList && risingS x r) = true := h
    rw [Bool.and_eq_true, ltCps_eq] at h0
    have h1 : codeS p ≤ codeS x := by
      have := h0.1
      rw [Bool.not_eq_true', decide_eq_false_iff_not] at this
      exact List.not_lt.mp this
    have h2 := rising_pair x r h0.2
    refine List.pairwise_cons.mpr ⟨fun y hy => ?_, h2⟩
    rcases List.mem_cons.mp hy with rfl | hy
    · exact h1
    · exact List.le_trans h1 ((List.pairwise_cons.mp h2).1 y hy)
theorem sorted_pair : ∀ {l : List Str}, sortedS l = true → l.Pairwise fun a b => codeS a ≤ codeS b
  | [], _ => .nil
  | x :: r, h => rising_pair x r h
theorem sort_one {l m : List Str} (p : l.Perm m) (h1 : sortedS l = true) (h2 : sortedS m = true) : l = m :=
  List.Perm.eq_of_pairwise (le := fun a b => codeS a ≤ codeS b) (fun _ _ _ _ a b => codeS_inj (List.le_antisymm a b)) (sorted_pair h1) (sorted_pair h2) p
open Classical in
/-- what f knows of at most -/
noncomputable def mostO (f : Int → Option Int) : Option Int := if h : ∃ r, IsMost f r then choose h else none
theorem most_is {f : Int → Option Int} {r : Option Int} (h : IsMost f r) : r = mostO f := by
  unfold mostO
  rw [dif_pos ⟨r, h⟩]
  exact most_one h (Classical.choose_spec (⟨r, h⟩ : ∃ r, IsMost f r))
/-- how many of all wants, these names among them -/
noncomputable def manyF (is : List (Int × Int)) (ws : List Wt) (nm : List Str) : Option Int := mostO (leastF is nm (sortW ws))
noncomputable def takeN (is : List (Int × Int)) (ws : List Wt) (acc : List Str) (n : Str) : List Str := if manyF is ws (acc ++ [n]) = manyF is ws [] then acc ++ [n] else acc
noncomputable def greedF (is : List (Int × Int)) (ws : List Wt) (ns : List Str) : List Str := ns.foldl (takeN is ws) []
theorem greed_snoc (is : List (Int × Int)) (ws : List Wt) (ns : List Str) (n : Str) : greedF is ws (ns ++ [n]) = takeN is ws (greedF is ws ns) n := by
  unfold greedF
  rw [List.foldl_append]
  rfl
theorem greed_len (is : List (Int × Int)) (ws : List Wt) (ns : List Str) : (greedF is ws ns).length ≤ ns.length := by
  refine snoc_ind (P := fun ns => (greedF is ws ns).length ≤ ns.length) (Nat.le_refl 0) (fun l a ih => ?_) ns
  rw [greed_snoc, List.length_append]
  unfold takeN
  split
  · rw [List.length_append]
    show _ + 1 ≤ _ + 1
    omega
  · show _ ≤ _ + 1
    omega
theorem optV_dec (r s : Option Int) : decide (optV r = optV s) = decide (r = s) := by
  cases r <;> cases s <;> simp [optV]
theorem scal_opt (r s : Option Int) : scal (optV r) (optV s) = true := by
  cases r <;> cases s <;> rfl
/-! ### most_paid -/
abbrev s_most_paid : Stmt := topS 9
abbrev N_most_paid : List Str := ["wants", "incomes", "most", "names", "name", "want"]
theorem sc_most_paid : FnScope N_most_paid ["wants", "incomes"] (defScope s_most_paid) := ⟨rfl, rfl, rfl, by decide +kernel, rfl, by decide +kernel, by decide +kernel⟩
def sp_most_paid (K : PySem.W.Frag) (TT : List (Addr × Str)) : Sp := fun vs H Q _ => ∃ (a c : Addr) (L : List (Addr × Wt)) (M : List (Addr × (Int × Int))), vs = [.ref a, .ref c] ∧ (SqL K H a (refs L) ∨ SqT K H a (refs L)) ∧ RowsAt wV H L ∧ L.length ≤ 60 ∧ (SqL K H c (refs M) ∨ SqT K H c (refs M)) ∧ RowsAt iV H M ∧ M.length ≤ 1000 ∧ LamX.Tabs TT H ∧
  ∀ H' D ns, Same (dT H) H' → LamX.Tabs TT H' → dT H D = none → ns.Perm ((L.map (·.2)).map (·.n)) → sortedS ns = true → H' D = some (.lst ((greedF (M.map (·.2)) (L.map (·.2)) ns).map V.str)) → Q (.ref D) H'
theorem ok_most_paid {f : Addr} {fd : FuncData} (F : Fun K "most_paid" "most_paid" s_most_paid f fd) (g : mg "most_paid" = some (.ref f)) (bd : Binds K fd ["wants", "incomes"] []) {TT : List (Addr × Str)} (m_sorted : mg "sorted" = none) (C_most_with : CF P w K mg base 3 "most_with" ["wants", "incomes", "names"] (sp_most_with K TT)) : CF P w K mg base 4 "most_paid" ["wants", "incomes"] (sp_most_paid K TT) := by
  refine ⟨f, fd, F.ok sc_most_paid (fun vs H Q E h => ?_) (fun cdv A outer s H vs Q E hr h => ?_), g, F.kp, bd⟩
  · first | (obtain ⟨_, rfl, _⟩ := h; rfl) | (obtain ⟨_, _, rfl, _⟩ := h; rfl) | (obtain ⟨_, _, _, rfl, _⟩ := h; rfl) | (obtain ⟨_, _, _, _, rfl, _⟩ := h; rfl) | (obtain ⟨_, _, _, _, _, rfl, _⟩ := h; rfl) | (obtain ⟨_, _, _, _, _, _, rfl, _⟩ := h; rfl) | (obtain ⟨_, _, _, _, _, _, _, rfl, _⟩ := h; rfl) | (obtain ⟨_, _, _, _, _, _, _, _, rfl, _⟩ := h; rfl) | (obtain ⟨_, _, _, _, _, _, _, _, _, rfl, _⟩ := h; rfl) | (obtain ⟨_, _, _, _, _, _, _, _, _, _, rfl, _⟩ := h; rfl) | (obtain ⟨_, _, _, _, _, _, _, _, _, _, _, rfl, _⟩ := h; rfl) | (obtain ⟨_, _, _, _, _, _, _, _, _, _, _, _, rfl, _⟩ := h; rfl) | (obtain ⟨_, _, _, _, _, _, _, _, _, _, _, _, _, rfl, _⟩ := h; rfl) | (obtain ⟨_, _, _, _, _, _, _, _, _, _, _, _, _, _, rfl, _⟩ := h; rfl) | (obtain ⟨_, _, _, _, _, _, _, _, _, _, _, _, _, _, _, rfl, _⟩ := h; rfl)
  · have hu64 := hr.units
    obtain ⟨a, c, L, M, rfl, hS, hR, small, hS2, hR2, small2, hT, q⟩ := h
    refine ⟨_, (pss_cons (ps_set (i := 2) sc_most_paid.nd rfl (.inl rfl) (pe_cf C_most_with (hr.mono (by decide)) (by rfl) (pa_cons (pv 0) (pa_cons (pv 1) (pa_cons (pe_lst pa_nil) pa_nil)))))
      (pss_cons (ps_set (i := 3) sc_most_paid.nd rfl (.inl rfl) (pe_lst pa_nil))
      (pss_cons (ps_for PassesOwn.never rfl (pi_list (pe_callB (SD.kk_sortedS K) (by rfl) m_sorted (by decide +kernel) (pa_cons (pe_lc (own := [("want", 5)]) (g := (gName 5)) (tt := tYes) rfl sc_most_paid.nd (pi_or (pi_list (pv 0)) (pi_tup (pv 0))) (blkOk_by (own := [("want", 5)]) (N := N_most_paid) (sc := defScope s_most_paid) (by decide +kernel)) (fun _ _ _ _ _ => pg_name (i := 5) sc_most_paid.nd rfl (Or.inl rfl)) (fun _ _ _ _ _ => pts_nil) (fun _ _ _ _ _ => (pe_ix (kk_ixt K) (pv 5) pe_int (fun _ _ => rfl)))) pa_nil))) (pg_name (i := 4) sc_most_paid.nd rfl (.inl rfl))
         (pss_one (ps_if (pt_cmpR op_eq (pe_cf C_most_with (hr.mono (by decide)) (by rfl) (pa_cons (pv 0) (pa_cons (pv 1) (pa_cons (pe_op op_cat (pv 3) (pe_lst (pa_cons (pv 4) pa_nil))) pa_nil)))) (pv 2) (nomark _))
             (pss_one (ps_expr (pe_bm PySem.F.plainAttrs_list PySem.F.slot_list_append PySem.F.type_list_append mt_append (pv 3) (pa_cons (pv 4) pa_nil))))
             pss_nil)))
      (pss_one (ps_ret (pv 3)))))), ?_⟩
    refine ⟨_, rfl, _, rfl, (by show 0 ≤ sizeLine; decide), fun z nz => ⟨a, c, z, L, M, [], rfl, seq_same hS (same_new nz), hR.same (same_new nz), by omega, seq_same hS2 (same_new nz), hR2.same (same_new nz), small2, .inl (SqL.of upd_same), hT.ext (same_new nz), fun H1 r e1 T1 most => ?_⟩⟩
    rw [most_is most]
    have s1 : Same (dT H) H1 := dT_trans (ext_dT (ext_same (same_new nz))) (ext_dT e1)
    refine ⟨(by show 0 ≤ sizeLine; decide), fun b nb => ?_⟩
    have nbT : dT H b = none := none_of s1 nb
    have S1 := seq_same (dT_seq hS) s1
    have R1 := (dT_rows hR).same s1
    have S21 := seq_same (dT_seq hS2) s1
    have R21 := (dT_rows hR2).same s1
    have v2 := same_new (o := .lst []) nb
    have hb2 := upd_same (H := H1) (a := b) (o := .lst [])
    have S2 := seq_same S1 v2
    have R2 := R1.same v2
    have T2 := T1.ext v2
    generalize upd H1 b (.lst []) = H2 at *
    refine walk_or rfl S2 fun J ok D nD => rows_lc (fun _ : Wt => true) (fun q => V.str q.2.n) ok R2 (by omega) nD (fun q hq G s hG Y N h1 h2 => ⟨rfl, _, rfl, q.1, _, _, _, rfl, rfl, SqT.of hG, rfl, h1 rfl⟩) (fun H3 s3 hD => ?_)
    rw [List.filter_eq_self.mpr (fun _ _ => rfl)] at hD
    have hD : H3 D = some (.lst (((L.map (·.2)).map (·.n)).map V.str)) := by
      rw [hD, List.map_map, List.map_map]
      rfl
    refine ⟨D, (L.map (·.2)).map (·.n), rfl, SqL.of hD, by rw [List.length_map, List.length_map]; omega, fun ns p pm srt np => ⟨p, rfl, ⟨_, SqL.of upd_same⟩, ?_⟩⟩
    have lns : ns.length ≤ 60 := by
      rw [pm.length_eq, List.length_map, List.length_map]
      exact small
    have v4 := same_new (o := .lst (ns.map V.str)) np
    have hp := upd_same (H := H3) (a := p) (o := .lst (ns.map V.str))
    have v14 := (v2.trans s3).trans v4
    have hb4 := v4 _ _ (s3 _ _ hb2)
    have T4 := (T2.ext s3).ext v4
    have npb : p ≠ b := (ne_of_none (s3 _ _ hb2) np).symm
    generalize upd H3 p (.lst (ns.map V.str)) = H4 at *
    refine for_list (K := K) (a := p) (xs := ns.map V.str) (fun i σ G => ∃ (s4 s5 : Option V), σ = [some (.ref a), some (.ref c), some (optV (manyF (M.map (·.2)) (L.map (·.2)) [])), some (.ref b), s4, s5] ∧ Same (dT H1) G ∧ LamX.Tabs TT G ∧ G p = some (.lst (ns.map V.str)) ∧ G b = some (.lst ((greedF (M.map (·.2)) (L.map (·.2)) (ns.take i)).map V.str))) ⟨_, _, rfl, (dT_same H1).trans v14, T4, hp, hb4⟩ (fun i σ G _ h => by obtain ⟨_, _, rfl, _, _, s, _⟩ := h; exact SqL.of s) (fun i x σ G hx h => ?_) (fun σ G h => ?_)
    · obtain ⟨s4, s5, rfl, sG, TG, gp, gb⟩ := h
      rw [List.getElem?_map] at hx
      obtain ⟨nm, hn, rfl⟩ := Option.map_eq_some_iff.mp hx
      have lg := greed_len (M.map (·.2)) (L.map (·.2)) (ns.take i)
      rw [List.length_take] at lg
      have up : greedF (M.map (·.2)) (L.map (·.2)) (ns.take (i + 1)) = takeN (M.map (·.2)) (L.map (·.2)) (greedF (M.map (·.2)) (L.map (·.2)) (ns.take i)) nm := by rw [take_snoc hn, greed_snoc]
      generalize greedF (M.map (·.2)) (L.map (·.2)) (ns.take i) = acc at *
      refine ⟨_, rfl, _, rfl, _, rfl, _, rfl, (by show 1 ≤ sizeLine; decide), fun y ny => ?_⟩
      have w1 := same_new (o := .lst [V.str nm]) ny
      refine ⟨b, y, _, _, rfl, rfl, w1 _ _ gb, upd_same, ?_, fun u nu => ?_⟩
      · rw [List.length_map]
        exact size_small (by show acc.length + 1 ≤ 1000; omega)
      have w2 := same_new (o := .lst (acc.map V.str ++ [V.str nm])) nu
      have hu : upd (upd G y (.lst [V.str nm])) u (.lst (acc.map V.str ++ [V.str nm])) u = some (.lst ((acc ++ [nm]).map V.str)) := by rw [upd_same, List.map_append]; rfl
      have w12 := w1.trans w2
      generalize upd (upd G y (.lst [V.str nm])) u (.lst (acc.map V.str ++ [V.str nm])) = G1 at *
      have sA := sG.trans w12
      refine ⟨a, c, u, L, M, acc ++ [nm], rfl, seq_same (dT_seq S1) sA, (dT_rows R1).same sA, by omega, seq_same (dT_seq S21) sA, (dT_rows R21).same sA, small2, .inl (SqL.of hu), TG.ext w12, fun G2 r2 e2 T2' most2 => ?_⟩
      rw [most_is most2]
      have sB := dT_trans sA (ext_dT e2)
      have gp2 := e2 _ _ (w12 _ _ gp) fun _ z => by cases z
      have gb2 := e2 _ _ (w12 _ _ gb) fun _ z => by cases z
      have go : (decide (optV (mostO (leastF (M.map (·.2)) (acc ++ [nm]) (sortW (L.map (·.2))))) = optV (manyF (M.map (·.2)) (L.map (·.2)) []))) = decide (manyF (M.map (·.2)) (L.map (·.2)) (acc ++ [nm]) = manyF (M.map (·.2)) (L.map (·.2)) []) := optV_dec _ _
      refine ⟨_, rfl, scal_opt _ _, _, rfl, ?_⟩
      rw [go]
      refine ite2 (fun z => ?_) (fun z => ?_)
      · have z1 := of_decide_eq_true z
        refine ⟨_, rfl, .inl ⟨rfl, _, SqL.of gb2⟩, _, rfl, b, _, _, rfl, rfl, gb2, ?_, _, _, rfl, ?_, tabs_upd T2' gb2, ?_, ?_⟩
        · rw [List.length_map]
          exact small1000 (by omega)
        · intro x o hx
          have := sB x o hx
          rw [upd_ne fun e => ?_]
          · exact this
          · rw [e, dT_none nb] at hx
            cases hx
        · rw [upd_ne npb]
          exact gp2
        · rw [upd_same, up]
          unfold takeN
          rw [if_pos z1, List.map_append]
          rfl
      · have z1 : ¬ manyF (M.map (·.2)) (L.map (·.2)) (acc ++ [nm]) = manyF (M.map (·.2)) (L.map (·.2)) [] := fun y => z (decide_eq_true y)
        refine ⟨_, _, rfl, sB, T2', gp2, ?_⟩
        rw [up]
        unfold takeN
        rw [if_neg z1]
        exact gb2
    · obtain ⟨s4, s5, rfl, sG, TG, gp, gb⟩ := h
      rw [List.length_map, List.take_of_length_le (Nat.le_refl _)] at gb
      exact ⟨_, rfl, q G b ns (dT_trans s1 sG) TG nbT pm srt gb⟩
theorem log_few {i : Int} (h0 : 0 ≤ i) (h1 : i ≤ 1000000000) : i.natAbs.log2 < 1920 := by
  by_cases z : i.natAbs = 0
  · rw [z]
    decide
  · have : i.natAbs.log2 < 30 := (Nat.log2_lt z).mpr (by show i.natAbs < 1073741824; omega)
    omega
theorem join_len (sep : Str) : ∀ ts : List Str, (Str.join sep ts).length ≤ (ts.map (·.length)).sum + ts.length * sep.length
  | [] => Nat.zero_le _
  | [x] => by
    show x.length ≤ _
    simp only [List.map_cons, List.map_nil, List.sum_cons, List.sum_nil]
    omega
  | x :: y :: r => by
    have h := join_len sep (y :: r)
    show (x ++ sep ++ Str.join sep (y :: r)).length ≤ _
    rw [len_app, len_app, List.map_cons, List.sum_cons, List.length_cons, Nat.add_mul, Nat.one_mul]
    omega
theorem all_len {B : Nat} : ∀ {l : List PyData}, (∀ d ∈ l, (PyData.shown d).length ≤ B) → ((PyData.shownAll l).map (·.length)).sum ≤ B * l.length ∧ (PyData.shownAll l).length = l.length
  | [], _ => ⟨Nat.le_refl _, rfl⟩
  | d :: r, h => by
    obtain ⟨a, b⟩ := all_len (l := r) fun x hx => h x (List.mem_cons_of_mem _ hx)
    have c := h d List.mem_cons_self
    rw [PyData.shownAll_cons, List.map_cons, List.sum_cons, List.length_cons, List.length_cons, b, Nat.mul_add]
    exact ⟨by omega, rfl⟩
theorem list_len {B : Nat} {l : List PyData} (h : ∀ d ∈ l, (PyData.shown d).length ≤ B) : (PyData.shown (.list l)).length ≤ 2 + (B + 2) * l.length := by
  obtain ⟨a, b⟩ := all_len h
  have c := join_len ", " (PyData.shownAll l)
  rw [PyData.shown_list, len_app, len_app]
  have e1 : (Str.ofString "[").length = 1 := rfl
  have e2 : (Str.ofString "]").length = 1 := rfl
  have e3 : (Str.ofString ", ").length = 2 := rfl
  rw [e1, e2]
  rw [b, e3] at c
  rw [Nat.add_mul]
  omega
theorem all_seen {k : Nat} : ∀ {l : List PyData}, (∀ d ∈ l, d.showable = true ∧ d.hasDict = false ∧ d.depth ≤ k) → PyData.showableAll l = true ∧ PyData.hasDictAll l = false ∧ PyData.depthAll l ≤ k
  | [], _ => by simp [PyData.showableAll, PyData.hasDictAll, PyData.depthAll]
  | d :: r, h => by
    obtain ⟨a, b, c⟩ := h d List.mem_cons_self
    obtain ⟨a2, b2, c2⟩ := all_seen (l := r) fun x hx => h x (List.mem_cons_of_mem _ hx)
    simp only [PyData.showableAll, PyData.hasDictAll, PyData.depthAll, a, b, a2, b2, Bool.and_self, Bool.or_self]
    exact ⟨trivial, trivial, by omega⟩
theorem int_len {i : Int} (h0 : 0 ≤ i) (h1 : i ≤ 1000000000) : (PyData.shown (.int i)).length ≤ 10 := by
  have l1 := PyProof.Rows.toString_length_le (v := i) h0 (k := 10) (by decide) (by show i < 10000000000; omega)
  have e1 : PyData.shown (.int i) = Str.ofString (toString i) := by simp only [PyData.shown]
  rw [e1]
  exact l1
theorem wt_seen {w : Wt} (h : WtOk w) : (wtD w).showable = true ∧ (wtD w).hasDict = false ∧ (wtD w).depth ≤ 2 := by
  obtain ⟨_, a, b, c, d⟩ := h
  have h1 := log_few (i := w.p) (by omega) (by omega)
  have h2 := log_few (i := w.l) c (by omega)
  simp [wtD, PyData.showable, PyData.showableAll, PyData.hasDict, PyData.hasDictAll, PyData.depth, PyData.depthAll, h1, h2]
theorem wt_len {w : Wt} (h : WtOk w) : (PyData.shown (wtD w)).length ≤ 150 := by
  obtain ⟨⟨n1, n2⟩, a, b, c, d⟩ := h
  have l1 := int_len (i := w.p) (by omega) (by omega)
  have l2 := int_len (i := w.l) c (by omega)
  have l3 := StrLaws.reprText_len w.n (fun x hx => Nat.lt_of_lt_of_le (n1 x hx) (by decide))
  unfold wtD
  rw [PyData.shown_tuple, PyData.shownAll_cons, PyData.shownAll_cons, PyData.shownAll_cons, PyData.shownAll_nil, PyData.shown_str]
  show (_ ++ (reprText w.n ++ _ ++ (PyData.shown (.int w.p) ++ _ ++ PyData.shown (.int w.l))) ++ _).length ≤ 150
  rw [len_app, len_app, len_app, len_app, len_app, len_app]
  show 1 + ((reprText w.n).length + 2 + ((PyData.shown (.int w.p)).length + 2 + (PyData.shown (.int w.l)).length)) + 1 ≤ 150
  omega
theorem in_seen {i : Int × Int} (h : InOk i) : (prD2 i).showable = true ∧ (prD2 i).hasDict = false ∧ (prD2 i).depth ≤ 2 := by
  obtain ⟨a, b, c, d⟩ := h
  have h1 := log_few (i := i.1) a (by omega)
  have h2 := log_few (i := i.2) c d
  simp [prD2, PyData.showable, PyData.showableAll, PyData.hasDict, PyData.hasDictAll, PyData.depth, PyData.depthAll, h1, h2]
theorem in_len {i : Int × Int} (h : InOk i) : (PyData.shown (prD2 i)).length ≤ 150 := by
  obtain ⟨a, b, c, d⟩ := h
  have l1 := int_len (i := i.1) a (by omega)
  have l2 := int_len (i := i.2) c d
  unfold prD2
  rw [PyData.shown_tuple, PyData.shownAll_cons, PyData.shownAll_cons, PyData.shownAll_nil]
  show (_ ++ (PyData.shown (.int i.1) ++ _ ++ PyData.shown (.int i.2)) ++ _).length ≤ 150
  rw [len_app, len_app, len_app, len_app]
  show 1 + ((PyData.shown (.int i.1)).length + 2 + (PyData.shown (.int i.2)).length) + 1 ≤ 150
  omega
def bothD (W : List (Addr × Wt)) (M : List (Addr × (Int × Int))) : PyData := .list [.list (W.map fun q => wtD q.2), .list (M.map fun q => prD2 q.2)]
theorem both_seen {W : List (Addr × Wt)} {M : List (Addr × (Int × Int))} (hW : ∀ q ∈ W, WtOk q.2) (hM : ∀ q ∈ M, InOk q.2) (lW : W.length ≤ 24) (lM : M.length ≤ 41) : (bothD W M).showable = true ∧ (PyData.shown (bothD W M)).length ≤ sizeLine ∧ (bothD W M).depth ≤ 60 ∧ (bothD W M).hasDict = false := by
  obtain ⟨a1, a2, a3⟩ := all_seen (k := 2) (l := W.map fun q => wtD q.2) fun d hd => by
    obtain ⟨q, hq, rfl⟩ := List.mem_map.mp hd
    exact wt_seen (hW q hq)
  obtain ⟨b1, b2, b3⟩ := all_seen (k := 2) (l := M.map fun q => prD2 q.2) fun d hd => by
    obtain ⟨q, hq, rfl⟩ := List.mem_map.mp hd
    exact in_seen (hM q hq)
  have c1 := list_len (B := 150) (l := W.map fun q => wtD q.2) fun d hd => by
    obtain ⟨q, hq, rfl⟩ := List.mem_map.mp hd
    exact wt_len (hW q hq)
  have c2 := list_len (B := 150) (l := M.map fun q => prD2 q.2) fun d hd => by
    obtain ⟨q, hq, rfl⟩ := List.mem_map.mp hd
    exact in_len (hM q hq)
  rw [List.length_map] at c1 c2
  have c3 := list_len (B := 10000) (l := [.list (W.map fun q => wtD q.2), .list (M.map fun q => prD2 q.2)]) fun d hd => by
    rcases List.mem_cons.mp hd with rfl | hd
    · omega
    · rw [List.mem_singleton.mp hd]
      omega
  unfold bothD
  refine ⟨by simp [PyData.showable, PyData.showableAll, a1, b1], ?_, ?_, by simp [PyData.hasDict, PyData.hasDictAll, a2, b2]⟩
  · refine Nat.le_trans c3 ?_
    rw [sizeLine_eq]
    show 2 + (10000 + 2) * 2 ≤ 16777216
    decide
  · simp only [PyData.depth, PyData.depthAll]
    omega
theorem both_dp {K : PySem.W.Frag} {H : Hp} {l a c : Addr} {W : List (Addr × Wt)} {M : List (Addr × (Int × Int))} (hl : H l = some (.lst [.ref a, .ref c])) (ha : H a = some (.lst (refs W))) (hW : RowsAt wV H W) (hc : H c = some (.lst (refs M))) (hM : RowsAt iV H M) : Dp K H (.ref l) (bothD W M) :=
  .lst (SqL.of hl) (.cons (.lst (SqL.of ha) (row_dp wV_dp hW)) (.cons (.lst (SqL.of hc) (row_dp iV_dp hM)) .nil))
section
variable {K : PySem.W.Frag} {σ : L2.St} {H : Hp} {Q : VK} {b : Addr} {n : Int}
theorem great_any {k : Int} (h1 : σ[1]? = some (some (.int k))) (h2 : σ[2]? = some (some (.ref b))) (hb : Three H b n) (hn : n < 1000000) (q : ∀ (gr : Bool) H2, Three H2 b (n + 1) → But b H H2 → Q (.bl gr) H2) :
    tAndV (tOp rEq (tVar 1) (tC (V.int 0))) (tOp rEq (tCall (sp__law_pick K) [] E0 (tCons (tVar 2) (tCons (tC (V.int 6)) tNil))) (tC (V.int 0))) σ H Q := by
  refine ⟨_, h1, rfl, _, rfl, ite2 (fun _ => ?_) (fun z => ?_)⟩
  · exact ⟨_, h2, b, 6, n, rfl, hb, by decide, by decide, by omega, fun x H2 _ _ b2 t2 => ⟨rfl, q _ _ b2 t2⟩⟩
  · exact q _ _ (hb.mono (by omega)) (But.refl b H)
theorem many_g {x m : Int} {gr : Bool} (h1 : σ[3]? = some (some (.bl gr))) (h2 : σ[2]? = some (some (.ref b))) (hb : Three H b n) (hn : n < 1000000) (m0 : 0 < m) (m1 : m < 1000) (q : ∀ (v : Int) H2, (v = x ∨ (0 ≤ v ∧ v < m)) → Three H2 b (n + 1) → But b H H2 → Q (.int v) H2) :
    tIf (tB (tVar 3)) (tC (V.int x)) (tCall (sp__law_pick K) [] E0 (tCons (tVar 2) (tCons (tC (V.int m)) tNil))) σ H Q := by
  refine ⟨_, h1, gr, rfl, ?_⟩
  cases gr with
  | true => exact iteT (q x H (.inl rfl) (hb.mono (by omega)) (But.refl b H))
  | false => exact iteF ⟨_, h2, b, m, n, rfl, hb, m0, by omega, by omega, fun y H2 y0 y1 b2 t2 => q y H2 (.inr ⟨y0, y1⟩) b2 t2⟩
end
theorem nePairs {K : PySem.W.Frag} {H : Hp} {a c : Addr} {S T : List (Addr × (Int × Int))} {Q : VK} (ha : H a = some (.lst (refs S))) (hc : H c = some (.lst (refs T))) (hS : RowsAt iV H S) (hT : RowsAt iV H T) (e : S.map (·.2) = T.map (·.2)) (q : Q (.bl false) H) : rNeD K (.ref a) (.ref c) H Q := by
  refine ⟨_, _, pairs_dp (SqL.of ha) hS, pairs_dp (SqL.of hc) hT, sh_pairs _, sh_pairs _, ?_⟩
  rw [e, eqv_pairs]
  exact q
theorem sel_all {ws : List Wt} : selF (ws.map (·.n)) ws = ws := List.filter_eq_self.mpr fun w hw => decide_eq_true (List.mem_map.mpr ⟨w, hw, rfl⟩)
theorem short_perm {ws vs : List Wt} {is js : List (Int × Int)} (p : ws.Perm vs) (r : is.Perm js) (ns : List Int) : shortF ws is ns = shortF vs js ns := by
  unfold shortF
  congr 1
  refine List.map_congr_left fun d _ => ?_
  rw [due_perm p, com_perm r]
theorem bl_ne (x : Bool) : (!decide (V.bl x = V.bl x)) = false := by simp
theorem deep_le {k : Nat} : ∀ {l : List PyData}, (∀ d ∈ l, d.depth ≤ k) → PyData.depthAll l ≤ k
  | [], _ => by simp [PyData.depthAll]
  | d :: r, h => by
    have a := h d List.mem_cons_self
    have b := deep_le (l := r) fun x hx => h x (List.mem_cons_of_mem _ hx)
    simp only [PyData.depthAll]
    omega
/-! ### what is told of prices, wants and incomes -/
def fp (ps : List (Int × Int)) (i : Nat) : List (Int × Int) := match ps[i]?, ps[i + 1]? with
  | some p, some q => if q.2 < p.2 then [q] else []
  | _, _ => []
def fallsP (ps : List (Int × Int)) : Nat → List (Int × Int)
  | 0 => []
  | n + 1 => fallsP ps n ++ fp ps n
theorem falls_data {as : List Addr} {ps : List (Int × Int)} (h : as.length = ps.length) : ∀ n, (fallsN as ps n).map (·.2) = fallsP ps n
  | 0 => rfl
  | n + 1 => by
    show (fallsN as ps n ++ fa as ps n).map (·.2) = fallsP ps n ++ fp ps n
    rw [List.map_append, falls_data h n]
    congr 1
    unfold fa fp
    cases e3 : ps[n + 1]? with
    | none => cases as[n + 1]? <;> cases ps[n]? <;> rfl
    | some q =>
      have : n + 1 < as.length := by rw [h]; exact (List.getElem?_eq_some_iff.mp e3).1
      rw [List.getElem?_eq_getElem this]
      cases ps[n]? with
      | none => rfl
      | some p =>
        show (if q.2 < p.2 then [(as[n + 1], q)] else []).map (·.2) = if q.2 < p.2 then [q] else []
        split <;> rfl
theorem falls_in {ps : List (Int × Int)} : ∀ n, ∀ x ∈ fallsP ps n, x ∈ ps
  | 0, x, hx => by cases hx
  | n + 1, x, hx => by
    rcases List.mem_append.mp hx with h | h
    · exact falls_in n x h
    · unfold fp at h
      split at h
      · rename_i p q e1 e2
        split at h
        · rw [List.mem_singleton.mp h]
          exact List.mem_of_getElem? e2
        · cases h
      · cases h
theorem falls_few (ps : List (Int × Int)) : ∀ n, (fallsP ps n).length ≤ n
  | 0 => Nat.le_refl 0
  | n + 1 => by
    have h := falls_few ps n
    have h2 : (fp ps n).length ≤ 1 := by
      unfold fp
      split
      · split <;> simp
      · simp
    show (fallsP ps n ++ fp ps n).length ≤ n + 1
    rw [List.length_append]
    omega
def vD : V → PyData
  | .int i => .int i
  | _ => .none
theorem vD_dp {K : PySem.W.Frag} {H : Hp} {v : V} (h : v = .non ∨ ∃ i, v = .int i) : Dp K H v (vD v) := by
  rcases h with rfl | ⟨i, rfl⟩
  · exact .non
  · exact .int i
theorem pOn_in {ps : List (Int × Int)} {d i : Int} (h : pOn ps d = .int i) : ∃ p ∈ ps, p.2 = i := by
  have go : ∀ (l : List (Int × Int)) (v : V), l.foldl (fun t q => if q.1 ≤ d then V.int q.2 else t) v = .int i → v = .int i ∨ ∃ p ∈ l, p.2 = i := by
    intro l
    induction l with
    | nil => exact fun v h => .inl h
    | cons p r ih =>
      intro v h
      rw [List.foldl_cons] at h
      rcases ih _ h with z | ⟨x, hx, e⟩
      · split at z
        · cases z
          exact .inr ⟨p, List.mem_cons_self, rfl⟩
        · exact .inl z
      · exact .inr ⟨x, List.mem_cons_of_mem _ hx, e⟩
  rcases go ps V.non h with z | z
  · cases z
  · exact z
/-- a price that may be shown -/
def Pr1 (v : V) : Prop := v = .non ∨ ∃ i : Int, v = .int i ∧ 0 ≤ i ∧ i ≤ 1000000000
theorem pOn_pr {ps : List (Int × Int)} (h : Okp ps) (d : Int) : Pr1 (pOn ps d) := by
  rcases pOn_is ps d with e | ⟨i, e⟩
  · exact .inl e
  · obtain ⟨p, hp, rfl⟩ := pOn_in e
    have := h p hp
    exact .inr ⟨p.2, e, by omega, by omega⟩
theorem least_pr {ps : List (Int × Int)} (h : Okp ps) {bg : Int} {n : Nat} {v : V} (l : IsLeast (vals ps bg n) v) : Pr1 v := by
  rcases l with ⟨_, rfl⟩ | ⟨m, hm, _, rfl⟩
  · exact .inl rfl
  · unfold vals at hm
    obtain ⟨x, hx, e⟩ := List.mem_filterMap.mp hm
    obtain ⟨d, _, rfl⟩ := List.mem_map.mp hx
    rcases pOn_pr h (bg + d) with z | ⟨i, z, a, b⟩
    · rw [z] at e
      cases e
    · rw [z] at e
      cases e
      exact .inr ⟨_, rfl, a, b⟩
def Seen (B : Nat) (d : PyData) : Prop := (d.showable = true ∧ d.hasDict = false ∧ d.depth ≤ 20) ∧ (PyData.shown d).length ≤ B ∧ Low (PyData.shown d)
theorem Seen.mono {A B : Nat} {d : PyData} (h : Seen A d) (l : A ≤ B) : Seen B d := ⟨h.1, Nat.le_trans h.2.1 l, h.2.2⟩
theorem seen_int {i : Int} (h0 : 0 ≤ i) (h1 : i ≤ 1000000000) : Seen 10 (.int i) := by
  have h := log_few h0 h1
  exact ⟨⟨by simp [PyData.showable, h], by simp [PyData.hasDict], by simp [PyData.depth]⟩, int_len h0 h1, low_int i⟩
theorem seen_v {v : V} (h : Pr1 v) : Seen 10 (vD v) := by
  rcases h with rfl | ⟨i, rfl, a, b⟩
  · refine ⟨⟨rfl, rfl, by simp [vD, PyData.depth]⟩, ?_, ?_⟩
    · simp only [vD, PyData.shown]
      decide
    · simp only [vD, PyData.shown]
      exact low_of _
  · exact seen_int a b
theorem seen_list {B n : Nat} {l : List PyData} (h : ∀ d ∈ l, Seen B d ∧ d.depth ≤ 10) (few : l.length ≤ n) : Seen (2 + (B + 2) * n) (.list l) ∧ PyData.depth (.list l) ≤ 11 := by
  obtain ⟨a, b, c⟩ := all_seen (k := 10) (l := l) fun d hd => ⟨(h d hd).1.1.1, (h d hd).1.1.2.1, (h d hd).2⟩
  have len := list_len (l := l) fun d hd => (h d hd).1.2.1
  have := Nat.mul_le_mul_left (B + 2) few
  refine ⟨⟨⟨by simp [PyData.showable, a], by simp [PyData.hasDict, b], ?_⟩, by omega, low_list fun d hd => (h d hd).1.2.2⟩, ?_⟩ <;>
  · simp only [PyData.depth]
    omega
theorem seen_pair {x y : Int} (x0 : 0 ≤ x) (x1 : x ≤ 1000000000) (y0 : 0 ≤ y) (y1 : y ≤ 1000000000) : Seen 150 (.tuple [.int x, .int y]) ∧ PyData.depth (.tuple [.int x, .int y]) ≤ 2 := by
  have h1 := log_few x0 x1
  have h2 := log_few y0 y1
  have l1 := int_len x0 x1
  have l2 := int_len y0 y1
  refine ⟨⟨⟨by simp [PyData.showable, PyData.showableAll, h1, h2], by simp [PyData.hasDict, PyData.hasDictAll], by simp [PyData.depth, PyData.depthAll]⟩, ?_, low_tuple fun d hd => ?_⟩, by simp [PyData.depth, PyData.depthAll]⟩
  · rw [PyData.shown_tuple, PyData.shownAll_cons, PyData.shownAll_cons, PyData.shownAll_nil]
    show (_ ++ (PyData.shown (.int x) ++ _ ++ PyData.shown (.int y)) ++ _).length ≤ 150
    rw [len_app, len_app, len_app, len_app]
    show 1 + ((PyData.shown (.int x)).length + 2 + (PyData.shown (.int y)).length) + 1 ≤ 150
    omega
  · rcases List.mem_cons.mp hd with rfl | hd
    · exact low_int _
    · rw [List.mem_singleton.mp hd]
      exact low_int _
theorem seen_txt {B : Nat} {x : Str} (lo : Low x) (h : x.length ≤ B) : Seen (10 * B + 2) (.str x) ∧ PyData.depth (.str x) ≤ 1 := by
  have := repr_len lo
  refine ⟨⟨⟨rfl, by simp [PyData.hasDict], by simp [PyData.depth]⟩, ?_, low_str lo⟩, by simp [PyData.depth]⟩
  rw [PyData.shown_str]
  omega
theorem sub_len : ∀ {l m : List Int}, l.Nodup → (∀ x ∈ l, x ∈ m) → l.length ≤ m.length
  | [], _, _, _ => Nat.zero_le _
  | x :: r, m, nd, h => by
    obtain ⟨n1, n2⟩ := List.nodup_cons.mp nd
    have hx := h x List.mem_cons_self
    have := sub_len (l := r) (m := m.erase x) n2 fun y hy => (List.mem_erase_of_ne (fun e => n1 (by rw [← e]; exact hy))).mpr (h y (List.mem_cons_of_mem _ hy))
    rw [List.length_erase_of_mem hx] at this
    have := List.length_pos_of_mem hx
    rw [List.length_cons]
    omega
theorem lasts_few {ws : List Wt} {la : List Int} (h : Lasts ws la) : la.length ≤ ws.length := by
  rw [← List.length_map (f := fun w : Wt => w.l) (as := ws)]
  refine sub_len (h.1.imp fun hab => Int.ne_of_lt hab) fun k hk => ?_
  obtain ⟨w, hw, e⟩ := (h.2 k).mp hk
  exact List.mem_map.mpr ⟨w, hw, e⟩
theorem due_bnd {ws : List Wt} (h : ∀ w ∈ ws, WtOk w) (few : ws.length ≤ 30) (d : Int) : 0 ≤ dueF ws d ∧ dueF ws d ≤ 30000000 := by
  have b := sum_bnd (B := 1000000) (l := (ws.filter fun w => decide (w.l ≤ d)).map (·.p)) fun x hx => by
    obtain ⟨w, hw, rfl⟩ := List.mem_map.mp hx
    have := h w (List.mem_filter.mp hw).1
    exact ⟨by have := this.2.1; omega, this.2.2.1⟩
  have := List.length_filter_le (fun w : Wt => decide (w.l ≤ d)) ws
  rw [List.length_map] at b
  unfold dueF
  omega
theorem com_pos {is : List (Int × Int)} (h : ∀ i ∈ is, InOk i) (d : Int) : 0 ≤ comF is d := by
  unfold comF
  exact (sum_bnd (B := 1000000000) (l := (is.filter fun i => decide (i.1 ≤ d)).map (·.2)) fun x hx => by
    obtain ⟨i, hi, rfl⟩ := List.mem_map.mp hx
    have := h i (List.mem_filter.mp hi).1
    exact this.2.2).1
theorem short_ok {ws : List Wt} {is : List (Int × Int)} {la : List Int} (hw : ∀ w ∈ ws, WtOk w) (few : ws.length ≤ 30) (hi : ∀ i ∈ is, InOk i) (hl : Lasts ws la) : ∀ q ∈ shortF ws is la, 0 ≤ q.1 ∧ q.1 ≤ 1000000000 ∧ 0 ≤ q.2 ∧ q.2 ≤ 1000000000 := fun q hq => by
  obtain ⟨h1, h2⟩ := List.mem_filter.mp hq
  obtain ⟨d, hd, rfl⟩ := List.mem_map.mp h1
  obtain ⟨w, hw1, e⟩ := (hl.2 d).mp hd
  have a := (hw w hw1).2.2.2
  have b := due_bnd hw few d
  have c := com_pos hi d
  have h2 := of_decide_eq_true h2
  have h2 : 0 < dueF ws d - comF is d := h2
  show 0 ≤ d ∧ d ≤ 1000000000 ∧ 0 ≤ dueF ws d - comF is d ∧ dueF ws d - comF is d ≤ 1000000000
  omega
theorem short_few {ws : List Wt} {is : List (Int × Int)} {la : List Int} (hl : Lasts ws la) : (shortF ws is la).length ≤ ws.length := by
  unfold shortF
  refine Nat.le_trans (List.length_filter_le _ _) ?_
  rw [List.length_map]
  exact lasts_few hl
theorem small1000' {n : Nat} (h : n ≤ 3000) : n < sizeLine := by
  rw [sizeLine_eq]
  omega
theorem least_vd {l : List Int} {v : V} (h : IsLeast l v) : v = .non ∨ ∃ i, v = .int i := by
  rcases h with ⟨_, e⟩ | ⟨m, _, _, e⟩
  · exact .inl e
  · exact .inr ⟨m, e⟩
theorem strs_dp {K : PySem.W.Frag} {H : Hp} : ∀ l : List Str, DpAll K H (l.map V.str) (l.map PyData.str)
  | [] => .nil
  | x :: r => .cons (.str x) (strs_dp r)
theorem greed_in {is : List (Int × Int)} {ws : List Wt} {ns : List Str} : ∀ n ∈ greedF is ws ns, n ∈ ns := by
  refine snoc_ind (P := fun ns => ∀ n ∈ greedF is ws ns, n ∈ ns) (fun n h => h) (fun l a ih n hn => ?_) ns
  rw [greed_snoc] at hn
  unfold takeN at hn
  split at hn
  · rcases List.mem_append.mp hn with h | h
    · exact List.mem_append_left _ (ih n h)
    · exact List.mem_append_right _ h
  · exact List.mem_append_left _ (ih n hn)
noncomputable def listsD (ps : List (Int × Int)) (ws : List Wt) (is : List (Int × Int)) (la : List Int) (ns : List Str) : PyData :=
  .list [.list ((fallsP ps (ps.length - 1)).map prD), .list ((shortF ws is la).map prD2), .list ((greedF is ws ns).map .str)]
noncomputable def foundD (ps : List (Int × Int)) (ws : List Wt) (is : List (Int × Int)) (la : List Int) (ns : List Str) (v : V) (la2 : List Int) : PyData :=
  .list [.str (PyData.shown (listsD ps ws is la ns)), vD (pOn ps 200), vD v, .bool (decide (shortF (selF (EV.pick 2 ns) ws) is la2 = []))]
/-- the told text -/
def Told (ps : List (Int × Int)) (ws : List Wt) (is : List (Int × Int)) (t : Str) : Prop := ∃ la ns v la2, Lasts ws la ∧ ns.Perm (ws.map (·.n)) ∧ sortedS ns = true ∧ IsLeast (vals ps 3 91) v ∧ Lasts (selF (EV.pick 2 ns) ws) la2 ∧ t = PyData.shown (foundD ps ws is la ns v la2)
theorem told_one {ps : List (Int × Int)} {ws : List Wt} {is : List (Int × Int)} {t u : Str} (a : Told ps ws is t) (b : Told ps ws is u) : t = u := by
  obtain ⟨la, ns, v, la2, a1, a2, a3, a4, a5, rfl⟩ := a
  obtain ⟨lb, ms, x, lb2, b1, b2, b3, b4, b5, rfl⟩ := b
  rw [a1.one b1 fun _ => Iff.rfl]
  have e := sort_one (a2.trans b2.symm) a3 b3
  subst e
  rw [least_one a4 b4, a5.one b5 fun _ => Iff.rfl]
theorem lists_seen {ps : List (Int × Int)} {ws : List Wt} {is : List (Int × Int)} {la : List Int} {ns : List Str} (hp : Okp ps) (lp : ps.length ≤ 60) (hw : ∀ w ∈ ws, WtOk w) (lw : ws.length ≤ 24) (hi : ∀ i ∈ is, InOk i) (hl : Lasts ws la) (pm : ns.Perm (ws.map (·.n))) : Seen 30000 (listsD ps ws is la ns) ∧ PyData.depth (listsD ps ws is la ns) ≤ 11 := by
  have h1 := seen_list (B := 150) (n := 60) (l := (fallsP ps (ps.length - 1)).map prD) (fun d hd => by
    obtain ⟨q, hq, rfl⟩ := List.mem_map.mp hd
    have ok := hp q (falls_in _ q hq)
    have h := seen_pair (x := q.1) (y := q.2) ok.1 (by omega) (by omega) (by omega)
    exact ⟨h.1, Nat.le_trans h.2 (by decide)⟩) (by rw [List.length_map]; have := falls_few ps (ps.length - 1); omega)
  have h2 := seen_list (B := 150) (n := 60) (l := (shortF ws is la).map prD2) (fun d hd => by
    obtain ⟨q, hq, rfl⟩ := List.mem_map.mp hd
    have ok := short_ok hw (by omega) hi hl q hq
    have h := seen_pair (x := q.1) (y := q.2) ok.1 ok.2.1 ok.2.2.1 ok.2.2.2
    exact ⟨h.1, Nat.le_trans h.2 (by decide)⟩) (by rw [List.length_map]; have := short_few (is := is) hl; omega)
  have h3 := seen_list (B := 150) (n := 60) (l := (greedF is ws ns).map PyData.str) (fun d hd => by
    obtain ⟨q, hq, rfl⟩ := List.mem_map.mp hd
    have hm := pm.mem_iff.mp (greed_in q hq)
    obtain ⟨w, hw1, rfl⟩ := List.mem_map.mp hm
    obtain ⟨asc, len⟩ := (hw w hw1).1
    have h := seen_txt asc.low len
    exact ⟨h.1.mono (by decide), Nat.le_trans h.2 (by decide)⟩) (by
      rw [List.length_map]
      have := greed_len is ws ns
      rw [pm.length_eq, List.length_map] at this
      omega)
  have three : ∀ d ∈ [PyData.list ((fallsP ps (ps.length - 1)).map prD), .list ((shortF ws is la).map prD2), .list ((greedF is ws ns).map .str)], (Seen 9122 d ∧ d.depth ≤ 11) := fun d hd => by
    rcases List.mem_cons.mp hd with rfl | hd
    · exact h1
    · rcases List.mem_cons.mp hd with rfl | hd
      · exact h2
      · rw [List.mem_singleton.mp hd]
        exact h3
  have dep : ∀ d ∈ [PyData.list ((fallsP ps (ps.length - 1)).map prD), .list ((shortF ws is la).map prD2), .list ((greedF is ws ns).map .str)], d.depth ≤ 10 := fun d hd => by
    have two : ∀ {l : List PyData}, (∀ x ∈ l, x.depth ≤ 2) → PyData.depth (.list l) ≤ 10 := fun {l} h => by
      have := deep_le h
      simp only [PyData.depth]
      omega
    rcases List.mem_cons.mp hd with rfl | hd
    · exact two fun x hx => by
        obtain ⟨q, _, rfl⟩ := List.mem_map.mp hx
        simp [prD, PyData.depth, PyData.depthAll]
    · rcases List.mem_cons.mp hd with rfl | hd
      · exact two fun x hx => by
          obtain ⟨q, _, rfl⟩ := List.mem_map.mp hx
          simp [prD2, PyData.depth, PyData.depthAll]
      · rw [List.mem_singleton.mp hd]
        exact two fun x hx => by
          obtain ⟨q, _, rfl⟩ := List.mem_map.mp hx
          simp [PyData.depth]
  have h := seen_list (B := 9122) (n := 3) (fun d hd => ⟨(three d hd).1, dep d hd⟩) (Nat.le_refl 3)
  exact ⟨h.1.mono (by decide), h.2⟩
theorem found_seen {ps : List (Int × Int)} {ws : List Wt} {is : List (Int × Int)} {la la2 : List Int} {ns : List Str} {v : V} (hp : Okp ps) (lp : ps.length ≤ 60) (hw : ∀ w ∈ ws, WtOk w) (lw : ws.length ≤ 24) (hi : ∀ i ∈ is, InOk i) (hl : Lasts ws la) (pm : ns.Perm (ws.map (·.n))) (hv : IsLeast (vals ps 3 91) v) : Seen 2000000 (foundD ps ws is la ns v la2) ∧ PyData.depth (foundD ps ws is la ns v la2) ≤ 11 := by
  obtain ⟨⟨_, l1, l2⟩, _⟩ := lists_seen (ns := ns) hp lp hw lw hi hl pm
  have h1 := seen_txt l2 l1
  have h2 := seen_v (pOn_pr hp 200)
  have h3 := seen_v (least_pr hp hv)
  have d3 : ∀ x, PyData.depth (vD x) ≤ 1 := fun x => by cases x <;> simp [vD, PyData.depth]
  have hb : ∀ b : Bool, Seen 10 (.bool b) ∧ PyData.depth (.bool b) ≤ 1 := fun b => by
    refine ⟨⟨⟨rfl, by simp [PyData.hasDict], by simp [PyData.depth]⟩, ?_, ?_⟩, by simp [PyData.depth]⟩
    · simp only [PyData.shown]
      cases b <;> decide
    · simp only [PyData.shown]
      cases b <;> exact low_of _
  have h := seen_list (B := 300002) (n := 4) (l := [.str (PyData.shown (listsD ps ws is la ns)), vD (pOn ps 200), vD v, .bool (decide (shortF (selF (EV.pick 2 ns) ws) is la2 = []))]) (fun d hd => by
    rcases List.mem_cons.mp hd with rfl | hd
    · exact ⟨h1.1, Nat.le_trans h1.2 (by decide)⟩
    · rcases List.mem_cons.mp hd with rfl | hd
      · exact ⟨h2.mono (by decide), Nat.le_trans (d3 _) (by decide)⟩
      · rcases List.mem_cons.mp hd with rfl | hd
        · exact ⟨h3.mono (by decide), Nat.le_trans (d3 _) (by decide)⟩
        · rw [List.mem_singleton.mp hd]
          exact ⟨(hb _).1.mono (by decide), Nat.le_trans (hb _).2 (by decide)⟩) (Nat.le_refl 4)
  exact ⟨h.1.mono (by decide), h.2⟩
/-! ### _law_told -/
abbrev s__law_told : Stmt := topS 21
abbrev N__law_told : List Str := ["_law_prices_here", "_law_wants_here", "_law_incomes_here", "_law_names_here", "_law_want", "_law_lists", "_law_found", "_law_one"]
theorem sc__law_told : FnScope N__law_told ["_law_prices_here", "_law_wants_here", "_law_incomes_here"] (defScope s__law_told) := ⟨rfl, rfl, rfl, by decide +kernel, rfl, by decide +kernel, by decide +kernel⟩
def sp__law_told (K : PySem.W.Frag) (TT : List (Addr × Str)) : Sp := fun vs H Q _ => ∃ (p a c : Addr) (as : List Addr) (ps : List (Int × Int)) (L : List (Addr × Wt)) (M : List (Addr × (Int × Int))), vs = [.ref p, .ref a, .ref c] ∧ H p = some (.lst (as.map V.ref)) ∧ Prs H as ps ∧ Okp ps ∧ ps.length ≤ 60 ∧
  H a = some (.lst (refs L)) ∧ RowsAt wV H L ∧ L.length ≤ 24 ∧ (∀ q ∈ L, WtOk q.2) ∧ H c = some (.lst (refs M)) ∧ RowsAt iV H M ∧ M.length ≤ 100 ∧ (∀ q ∈ M, InOk q.2) ∧ LamX.Tabs TT H ∧ ∀ H' t, Same (dT H) H' → LamX.Tabs TT H' → Told ps (L.map (·.2)) (M.map (·.2)) t → Q (.str t) H'
theorem ok__law_told {f : Addr} {fd : FuncData} (F : Fun K "_law_told" "_law_told" s__law_told f fd) (g : mg "_law_told" = some (.ref f)) (bd : Binds K fd ["_law_prices_here", "_law_wants_here", "_law_incomes_here"] []) {TT : List (Addr × Str)} (m_sorted : mg "sorted" = none) (m_repr : mg "repr" = none) (C_most_paid : CF P w K mg base 4 "most_paid" ["wants", "incomes"] (sp_most_paid K TT)) (C_short_of : CF P w K mg base 2 "short_of" ["wants", "incomes"] (sp_short_of K)) (C_falls_of : CF P w K mg base 1 "falls_of" ["prices"] (sp_falls_of K)) (C_can_pay : CF P w K mg base 3 "can_pay" ["wants", "incomes", "names"] (sp_can_pay K)) (C_least_since : CF P w K mg base 2 "least_since" ["prices", "begin", "within"] (sp_least_since K)) (C_price_on : CF P w K mg base 1 "price_on" ["prices", "day"] (sp_price_on K)) : CG P w K mg base 5 "_law_told" ["_law_prices_here", "_law_wants_here", "_law_incomes_here"] (sp__law_told K TT) := by
  refine ⟨f, fd, okG F sc__law_told (fun vs H Q E h => ?_) (fun cdv A outer s H vs Q E hr gd h => ?_), g, F.kp, bd⟩
  · first | (obtain ⟨_, rfl, _⟩ := h; rfl) | (obtain ⟨_, _, rfl, _⟩ := h; rfl) | (obtain ⟨_, _, _, rfl, _⟩ := h; rfl) | (obtain ⟨_, _, _, _, rfl, _⟩ := h; rfl) | (obtain ⟨_, _, _, _, _, rfl, _⟩ := h; rfl) | (obtain ⟨_, _, _, _, _, _, rfl, _⟩ := h; rfl) | (obtain ⟨_, _, _, _, _, _, _, rfl, _⟩ := h; rfl) | (obtain ⟨_, _, _, _, _, _, _, _, rfl, _⟩ := h; rfl) | (obtain ⟨_, _, _, _, _, _, _, _, _, rfl, _⟩ := h; rfl) | (obtain ⟨_, _, _, _, _, _, _, _, _, _, rfl, _⟩ := h; rfl) | (obtain ⟨_, _, _, _, _, _, _, _, _, _, _, rfl, _⟩ := h; rfl) | (obtain ⟨_, _, _, _, _, _, _, _, _, _, _, _, rfl, _⟩ := h; rfl) | (obtain ⟨_, _, _, _, _, _, _, _, _, _, _, _, _, rfl, _⟩ := h; rfl) | (obtain ⟨_, _, _, _, _, _, _, _, _, _, _, _, _, _, rfl, _⟩ := h; rfl) | (obtain ⟨_, _, _, _, _, _, _, _, _, _, _, _, _, _, _, rfl, _⟩ := h; rfl)
  · have hu64 := hr.units
    obtain ⟨p, a, c, as, ps, L, M, rfl, hp, hP, okp, lp, ha, hR, lL, okW, hc, hR2, lM, okM, hT, q⟩ := h
    refine ⟨_, (pss_cons (ps_set (i := 3) sc__law_told.nd rfl (.inl rfl) (pe_callB (SD.kk_sortedS K) (by rfl) m_sorted (by decide +kernel) (pa_cons (pe_lc (own := [("_law_want", 4)]) (g := (gName 4)) (tt := tYes) rfl sc__law_told.nd (pi_list (pv 1)) (blkOk_by (own := [("_law_want", 4)]) (N := N__law_told) (sc := defScope s__law_told) (by decide +kernel)) (fun _ _ _ _ _ => pg_name (i := 4) sc__law_told.nd rfl (Or.inl rfl)) (fun _ _ _ _ _ => pts_nil) (fun _ _ _ _ _ => (pe_ix (kk_ixt K) (pv 4) pe_int (fun _ _ => rfl)))) pa_nil)))
      (pss_cons (ps_set (i := 5) sc__law_told.nd rfl (.inl rfl) (pe_lst (pa_cons (pe_cf C_falls_of (hr.mono (by decide)) (by rfl) (pa_cons (pv 0) pa_nil)) (pa_cons (pe_cf C_short_of (hr.mono (by decide)) (by rfl) (pa_cons (pv 1) (pa_cons (pv 2) pa_nil))) (pa_cons (pe_cf C_most_paid (hr.mono (by decide)) (by rfl) (pa_cons (pv 1) (pa_cons (pv 2) pa_nil))) pa_nil)))))
      (pss_cons (ps_set (i := 6) sc__law_told.nd rfl (.inl rfl) (pe_lst (pa_cons (pe_callB (kk_repr K gd hu64) (by rfl) m_repr (by decide +kernel) (pa_cons (pv 5) pa_nil)) (pa_cons (pe_cf C_price_on (hr.mono (by decide)) (by rfl) (pa_cons (pv 0) (pa_cons pe_int pa_nil))) (pa_cons (pe_cf C_least_since (hr.mono (by decide)) (by rfl) (pa_cons (pv 0) (pa_cons pe_int (pa_cons pe_int pa_nil)))) (pa_cons (pe_cf C_can_pay (hr.mono (by decide)) (by rfl) (pa_cons (pv 1) (pa_cons (pv 2) (pa_cons (EV.pe_every (pv 3)) pa_nil)))) pa_nil))))))
      (pss_cons (ps_for PassesOwn.never rfl (pi_list (pv 5)) (pg_name (i := 7) sc__law_told.nd rfl (.inl rfl))
         (pss_cons (ps_expr (pe_bm PySem.F.plainAttrs_list PySem.F.slot_list_append PySem.F.type_list_append mt_append (pv 7) (pa_cons pe_str pa_nil)))
          (pss_one (ps_expr (pe_bm0 PySem.F.plainAttrs_list PySem.F.slot_list_reverse PySem.F.type_list_reverse mt_reverse (pv 7))))))
      (pss_one (ps_ret (pe_callB (kk_repr K gd hu64) (by rfl) m_repr (by decide +kernel) (pa_cons (pv 6) pa_nil)))))))), ?_⟩
    refine ⟨_, rfl, a, rfl, ⟨_, SqL.of ha⟩, fun D nD => rows_lc (fun _ : Wt => true) (fun q => V.str q.2.n) (jok_l (K := K) (SqL.of ha)) hR (by omega) nD (fun q hq G s hG Y N h1 h2 => ⟨rfl, _, rfl, q.1, _, _, _, rfl, rfl, SqT.of hG, rfl, h1 rfl⟩) (fun H1 s1 hD => ?_)⟩
    rw [List.filter_eq_self.mpr (fun _ _ => rfl)] at hD
    have hD : H1 D = some (.lst (((L.map (·.2)).map (·.n)).map V.str)) := by
      rw [hD, List.map_map, List.map_map]
      rfl
    refine ⟨D, (L.map (·.2)).map (·.n), rfl, SqL.of hD, by rw [List.length_map, List.length_map]; omega, fun ns N pm srt nN => ?_⟩
    have s2 := s1.trans (same_new (o := .lst (ns.map V.str)) nN)
    have hN := upd_same (H := H1) (a := N) (o := .lst (ns.map V.str))
    generalize upd H1 N (.lst (ns.map V.str)) = H2 at *
    have hP2 := hP.same s2
    refine ⟨_, rfl, p, as, ps, rfl, .inl (SqL.of (s2 _ _ hp)), hP2, lp, fun H3 D1 nD1 s3 hD1 => ?_⟩
    have s23 := s2.trans s3
    refine ⟨_, rfl, _, rfl, a, c, L, M, rfl, .inl (SqL.of (s23 _ _ ha)), hR.same s23, by omega, .inl (SqL.of (s23 _ _ hc)), hR2.same s23, by omega, fun H4 D2 S la nD2 s4 hD2 hS hla eS lS => ?_⟩
    have s24 := s23.trans s4
    have T4 := hT.ext s24
    refine ⟨_, rfl, _, rfl, a, c, L, M, rfl, .inl (SqL.of (s24 _ _ ha)), hR.same s24, by omega, .inl (SqL.of (s24 _ _ hc)), hR2.same s24, by omega, T4, fun H5 D3 ms s5 T5 nD3 pm2 srt2 hD3 => ?_⟩
    have ems : ms = ns := sort_one (pm2.trans pm.symm) srt2 srt
    subst ems
    refine ⟨(by show 3 ≤ sizeLine; decide), fun Z nZ => ?_⟩
    have s6 := same_new (o := .lst [.ref D1, .ref D2, .ref D3]) nZ
    have hZ := upd_same (H := H5) (a := Z) (o := .lst [.ref D1, .ref D2, .ref D3])
    have dA : ∀ {x : Addr} {xs : List V}, H4 x = some (.lst xs) → dT H4 x = some (.lst xs) := fun h => dT_of h fun _ z => by cases z
    have g1 := s6 _ _ (s5 _ _ (dA (s4 _ _ hD1)))
    have g2 := s6 _ _ (s5 _ _ (dA hD2))
    have g3 := s6 _ _ hD3
    have n12 : D1 ≠ D2 := ne_of_none hD1 nD2
    have n13 : D1 ≠ D3 := ne_of_none (dA (s4 _ _ hD1)) nD3
    have n23 : D2 ≠ D3 := ne_of_none (dA hD2) nD3
    have nZ1 : D1 ≠ Z := ne_of_none (s5 _ _ (dA (s4 _ _ hD1))) nZ
    have nZ2 : D2 ≠ Z := ne_of_none (s5 _ _ (dA hD2)) nZ
    have nZ3 : D3 ≠ Z := ne_of_none hD3 nZ
    have o1 : dT H D1 = none := none_of ((dT_same H).trans s2) nD1
    have o2 : dT H D2 = none := none_of ((dT_same H).trans s23) nD2
    have o3 : dT H D3 = none := none_of (fun x o h => dT_of (s24 _ _ (dT_some h).1) (dT_some h).2 : Same (dT H) (dT H4)) nD3
    have sE : Same (dT H) H5 := fun x o h => s5 _ _ (dT_of (s24 _ _ (dT_some h).1) (dT_some h).2)
    have oZ : dT H Z = none := none_of sE nZ
    have sF := sE.trans s6
    have fP := falls_prs (hP2.same s3) (ps.length - 1)
    have kP : ∀ x ∈ fallsN as ps (ps.length - 1), upd H5 Z (.lst [.ref D1, .ref D2, .ref D3]) x.1 = some (.tup [.int x.2.1, .int x.2.2]) := fun x hx => s6 _ _ (s5 _ _ (dT_of (s4 _ _ (fP x hx)) fun _ z => by cases z))
    have kS : RowsAt iV (upd H5 Z (.lst [.ref D1, .ref D2, .ref D3])) S := ((dT_rows hS).same s5).same s6
    have hN6 := s6 _ _ (s5 _ _ (dA (s4 _ _ (s3 _ _ hN))))
    have T6 := T5.ext s6
    have hDp : upd H5 Z (.lst [.ref D1, .ref D2, .ref D3]) p = some (.lst (as.map V.ref)) := sF _ _ (dT_of hp fun _ z => by cases z)
    have hDa := sF _ _ (dT_of ha fun _ z => by cases z)
    have hDc := sF _ _ (dT_of hc fun _ z => by cases z)
    have hRF := (dT_rows hR).same sF
    have hR2F := (dT_rows hR2).same sF
    have hPF : Prs (upd H5 Z (.lst [.ref D1, .ref D2, .ref D3])) as ps := ⟨hP.1, fun i x y h1 h2 => sF _ _ (dT_of (hP.2 i x y h1 h2) fun _ z => by cases z)⟩
    generalize upd H5 Z (.lst [.ref D1, .ref D2, .ref D3]) = H6 at *
    have okw : ∀ w ∈ L.map (·.2), WtOk w := fun w hw => by
      obtain ⟨y, hy, rfl⟩ := List.mem_map.mp hw
      exact okW y hy
    have okm : ∀ w ∈ M.map (·.2), InOk w := fun w hw => by
      obtain ⟨y, hy, rfl⟩ := List.mem_map.mp hw
      exact okM y hy
    have lw : (L.map (·.2)).length ≤ 24 := by rw [List.length_map]; exact lL
    have seen1 := lists_seen (ns := ms) okp lp okw lw okm hla pm
    have dp1 : Dp K H6 (.ref Z) (listsD ps (L.map (·.2)) (M.map (·.2)) la ms) := by
      refine .lst (SqL.of hZ) (.cons ?_ (.cons ?_ (.cons ?_ .nil)))
      · have z := prs_dp (K := K) (SqL.of g1) (prs_of kP)
        rw [falls_data hP.1] at z
        exact z
      · have z := pairs_dp (K := K) (SqL.of g2) kS
        rw [eS] at z
        exact z
      · exact .lst (SqL.of g3) (strs_dp _)
    refine ⟨_, rfl, _, _, rfl, dp1, seen1.1.1.1, Nat.le_trans seen1.1.2.1 (by rw [sizeLine_eq]; decide), Nat.le_trans seen1.2 (by decide), seen1.1.1.2.1, ?_⟩
    refine ⟨_, rfl, p, 200, as, ps, rfl, .inl (SqL.of hDp), hPF, ?_⟩
    refine ⟨_, rfl, p, 3, 90, as, ps, rfl, .inl (SqL.of hDp), hPF, by decide, by decide, by decide, by decide, fun H7 v s7 hv => ?_⟩
    have hN7 := s7 _ _ hN6
    refine ⟨_, rfl, _, rfl, _, rfl, N, _, rfl, SqL.of hN7, ?_, fun U nU => ?_⟩
    · rw [EV.pick_map, List.length_map]
      have : (EV.pick 2 ms).length ≤ 100 := by
        unfold EV.pick
        refine Nat.le_trans (List.length_filterMap_le _ _) ?_
        have lm : ms.length ≤ 24 := by
          rw [pm.length_eq, List.length_map]
          exact lw
        have all : ∀ i : Fin 25, (EV.ixs 2 i.val).length ≤ 100 := by decide +kernel
        exact all ⟨ms.length, by omega⟩
      exact size_small (by omega)
    rw [EV.pick_map]
    have s8 := s7.trans (same_new (o := .lst ((EV.pick 2 ms).map V.str)) nU)
    have hU := upd_same (H := H7) (a := U) (o := .lst ((EV.pick 2 ms).map V.str))
    generalize upd H7 U (.lst ((EV.pick 2 ms).map V.str)) = H8 at *
    refine ⟨a, c, U, L, M, EV.pick 2 ms, rfl, .inl (SqL.of (s8 _ _ hDa)), hRF.same s8, by omega, .inl (SqL.of (s8 _ _ hDc)), hR2F.same s8, by omega, .inl (SqL.of hU), fun H9 la2 s9 hla2 => ?_⟩
    refine ⟨(by show 4 ≤ sizeLine; decide), fun F nF => ?_⟩
    have s10 := (s8.trans s9).trans (same_new (o := .lst [.str (PyData.shown (listsD ps (L.map (·.2)) (M.map (·.2)) la ms)), pOn ps 200, v, .bl (decide (shortF (selF (EV.pick 2 ms) (L.map (·.2))) (M.map (·.2)) la2 = []))]) nF)
    have hF := upd_same (H := H9) (a := F) (o := .lst [.str (PyData.shown (listsD ps (L.map (·.2)) (M.map (·.2)) la ms)), pOn ps 200, v, .bl (decide (shortF (selF (EV.pick 2 ms) (L.map (·.2))) (M.map (·.2)) la2 = []))])
    have nF1 : D1 ≠ F := ne_of_none ((s8.trans s9) _ _ g1) nF
    have nF2 : D2 ≠ F := ne_of_none ((s8.trans s9) _ _ g2) nF
    have nF3 : D3 ≠ F := ne_of_none ((s8.trans s9) _ _ g3) nF
    have oF : dT H F = none := none_of (sF.trans (s8.trans s9)) nF
    generalize upd H9 F (.lst [.str (PyData.shown (listsD ps (L.map (·.2)) (M.map (·.2)) la ms)), pOn ps 200, v, .bl (decide (shortF (selF (EV.pick 2 ms) (L.map (·.2))) (M.map (·.2)) la2 = []))]) = HF at *
    have told : Told ps (L.map (·.2)) (M.map (·.2)) (PyData.shown (foundD ps (L.map (·.2)) (M.map (·.2)) la ms v la2)) := ⟨la, ms, v, la2, hla, pm, srt, hv, hla2, rfl⟩
    have seen2 := found_seen (ns := ms) (la2 := la2) okp lp okw lw okm hla pm hv
    have h1 := s10 _ _ g1
    have h2 := s10 _ _ g2
    have h3 := s10 _ _ g3
    have hZ' := s10 _ _ hZ
    have T10 := T6.ext s10
    have sG := sF.trans s10
    refine ⟨_, rfl, Z, rfl, ⟨_, SqL.of hZ'⟩, for_list (K := K) (a := Z) (xs := [.ref D1, .ref D2, .ref D3]) (fun i σ G => ∃ s7 : Option V, σ = [some (.ref p), some (.ref a), some (.ref c), some (.ref N), none, some (.ref Z), some (.ref F), s7] ∧ Same (dT H) G ∧ LamX.Tabs TT G ∧ G Z = some (.lst [.ref D1, .ref D2, .ref D3]) ∧ G F = HF F ∧ ∀ D ∈ [D1, D2, D3], ∃ xs : List V, G D = some (.lst xs) ∧ xs.length ≤ 2000 + i) ⟨_, rfl, sG, T10, hZ', rfl, fun D hD => ?_⟩ (fun i σ G _ h => by obtain ⟨_, _, _, _, h, _⟩ := h; exact SqL.of h) (fun i x σ G hx h => ?_) (fun σ G h => ?_)⟩
    · rcases List.mem_cons.mp hD with rfl | hD
      · refine ⟨_, h1, ?_⟩
        rw [List.length_map, List.length_map]
        have := falls_len as ps (ps.length - 1)
        omega
      · rcases List.mem_cons.mp hD with rfl | hD
        · refine ⟨_, h2, ?_⟩
          rw [List.length_map]
          omega
        · rw [List.mem_singleton.mp hD]
          refine ⟨_, h3, ?_⟩
          rw [List.length_map]
          have := greed_len (M.map (·.2)) (L.map (·.2)) ms
          have lm : ms.length ≤ 24 := by
            rw [pm.length_eq, List.length_map]
            exact lw
          omega
    · obtain ⟨s7, rfl, sG, TG, gZ, gF, all⟩ := h
      obtain ⟨D, hDm, rfl⟩ : ∃ D ∈ [D1, D2, D3], x = .ref D := by
        have := List.mem_of_getElem? hx
        rcases List.mem_cons.mp this with rfl | this
        · exact ⟨D1, by simp, rfl⟩
        · rcases List.mem_cons.mp this with rfl | this
          · exact ⟨D2, by simp, rfl⟩
          · rw [List.mem_singleton.mp this]
            exact ⟨D3, by simp, rfl⟩
      have hi : i < 3 := (List.getElem?_eq_some_iff.mp hx).1
      have oD : dT H D = none ∧ Z ≠ D ∧ F ≠ D := by
        rcases List.mem_cons.mp hDm with rfl | hDm
        · exact ⟨o1, nZ1.symm, nF1.symm⟩
        · rcases List.mem_cons.mp hDm with rfl | hDm
          · exact ⟨o2, nZ2.symm, nF2.symm⟩
          · rw [List.mem_singleton.mp hDm]
            exact ⟨o3, nZ3.symm, nF3.symm⟩
      obtain ⟨oD, nDZ, nDF⟩ := oD
      obtain ⟨xs, gD, lx⟩ := all D hDm
      refine ⟨_, rfl, .inl ⟨rfl, _, SqL.of gD⟩, D, _, _, rfl, rfl, gD, small1000' (by omega), ?_⟩
      refine ⟨_, rfl, .inl ⟨rfl, _, SqL.of upd_same⟩, D, _, rfl, rfl, upd_same, ?_⟩
      rw [upd_upd]
      refine ⟨_, rfl, fun y o hy => ?_, tabs_upd TG gD, ?_, ?_, fun D' hD' => ?_⟩
      · rw [upd_ne fun z => by rw [z, oD] at hy; cases hy]
        exact sG y o hy
      · rw [upd_ne nDZ]
        exact gZ
      · rw [upd_ne nDF]
        exact gF
      · by_cases c : D' = D
        · rw [c, upd_same]
          refine ⟨_, rfl, ?_⟩
          rw [List.length_reverse, List.length_append]
          show xs.length + 1 ≤ 2000 + (i + 1)
          omega
        · rw [upd_ne c]
          obtain ⟨ys, gy, ly⟩ := all D' hD'
          exact ⟨ys, gy, by omega⟩
    · obtain ⟨s7, rfl, sG, TG, gZ, gF, all⟩ := h
      rw [hF] at gF
      have dp2 : Dp K G (.ref F) (foundD ps (L.map (·.2)) (M.map (·.2)) la ms v la2) := .lst (SqL.of gF) (.cons (.str _) (.cons (vD_dp (pOn_is ps 200)) (.cons (vD_dp (least_vd hv)) (.cons (.bl _) .nil))))
      exact ⟨_, rfl, _, _, rfl, dp2, seen2.1.1.1, Nat.le_trans seen2.1.2.1 (by rw [sizeLine_eq]; decide), Nat.le_trans seen2.2 (by decide), seen2.1.1.2.1, q G _ sG TG told⟩
/-! ### a case: prices, wants, incomes -/
structure Case (H : Hp) (b T p a c : Addr) (as : List Addr) (ps : List (Int × Int)) (L : List (Addr × Wt)) (M : List (Addr × (Int × Int))) : Prop where
  tup : H T = some (.tup [.ref p, .ref a, .ref c])
  pl : H p = some (.lst (as.map V.ref))
  pr : Prs H as ps
  po : Okp ps
  pn : ps.length ≤ 60
  al : H a = some (.lst (refs L))
  ar : RowsAt wV H L
  ao : ∀ q ∈ L, WtOk q.2
  an : L.length ≤ 24
  cl : H c = some (.lst (refs M))
  cr : RowsAt iV H M
  co : ∀ q ∈ M, InOk q.2
  cn : M.length ≤ 60
  nb : p ≠ b ∧ a ≠ b ∧ c ≠ b
theorem Case.same {H H' : Hp} {b T p a c : Addr} {as : List Addr} {ps : List (Int × Int)} {L : List (Addr × Wt)} {M : List (Addr × (Int × Int))} (h : Case H b T p a c as ps L M) (e : Same H H') : Case H' b T p a c as ps L M :=
  ⟨e _ _ h.tup, e _ _ h.pl, h.pr.same e, h.po, h.pn, e _ _ h.al, h.ar.same e, h.ao, h.an, e _ _ h.cl, h.cr.same e, h.co, h.cn, h.nb⟩
theorem Case.but {H H' : Hp} {b T p a c : Addr} {as : List Addr} {ps : List (Int × Int)} {L : List (Addr × Wt)} {M : List (Addr × (Int × Int))} {xs : List V} (h : Case H b T p a c as ps L M) (hb : H b = some (.lst xs)) (e : But b H H') : Case H' b T p a c as ps L M :=
  ⟨e _ _ (ne_of h.tup hb fun z => by cases z) h.tup, e _ _ h.nb.1 h.pl, ⟨h.pr.1, fun i x y h1 h2 => e _ _ (ne_of (h.pr.2 i x y h1 h2) hb fun z => by cases z) (h.pr.2 i x y h1 h2)⟩, h.po, h.pn, e _ _ h.nb.2.1 h.al, h.ar.but hb e, h.ao, h.an, e _ _ h.nb.2.2 h.cl, h.cr.but hb e, h.co, h.cn, h.nb⟩
section
variable {K : PySem.W.Frag} {σ : L2.St} {H : Hp} {Q : VK} {b : Addr} {n : Int}
theorem case_if {x y : Int} {gr : Bool} (h1 : σ[1]? = some (some (.bl gr))) (q : ∀ v : Int, v = x ∨ v = y → Q (.int v) H) : tIf (tB (tVar 1)) (tC (V.int x)) (tC (V.int y)) σ H Q := by
  refine ⟨_, h1, gr, rfl, ?_⟩
  cases gr with
  | true => exact iteT (q x (.inl rfl))
  | false => exact iteF (q y (.inr rfl))
theorem case_pick {x m : Int} {gr : Bool} (h1 : σ[1]? = some (some (.bl gr))) (h0 : σ[0]? = some (some (.ref b))) (hb : Three H b n) (hn : n < 1000000) (m0 : 0 < m) (m1 : m < 1000) (q : ∀ (v : Int) H2, (v = x ∨ (0 ≤ v ∧ v < m)) → Three H2 b (n + 1) → But b H H2 → Q (.int v) H2) :
    tIf (tB (tVar 1)) (tC (V.int x)) (tCall (sp__law_pick K) [] E0 (tCons (tVar 0) (tCons (tC (V.int m)) tNil))) σ H Q := by
  refine ⟨_, h1, gr, rfl, ?_⟩
  cases gr with
  | true => exact iteT (q x H (.inl rfl) (hb.mono (by omega)) (But.refl b H))
  | false => exact iteF ⟨_, h0, b, m, n, rfl, hb, m0, by omega, by omega, fun y H2 y0 y1 b2 t2 => q y H2 (.inr ⟨y0, y1⟩) b2 t2⟩
end
/-! ### _law_case -/
abbrev s__law_case : Stmt := topS 22
abbrev N__law_case : List Str := ["_law_left_here", "_law_great", "_law_prices_here", "_law_wants_here", "_law_incomes_here"]
theorem sc__law_case : FnScope N__law_case ["_law_left_here", "_law_great"] (defScope s__law_case) := ⟨rfl, rfl, rfl, by decide +kernel, rfl, by decide +kernel, by decide +kernel⟩
def sp__law_case (K : PySem.W.Frag) : Sp := fun vs H Q _ => ∃ (b : Addr) (gr : Bool) (n : Int), vs = [.ref b, .bl gr] ∧ Three H b n ∧ n < 90000 ∧ ∀ H' T p a c as ps L M, Three H' b (n + 700) → But b H H' → H T = none → Case H' b T p a c as ps L M → Q (.ref T) H'
theorem ok__law_case {f : Addr} {fd : FuncData} (F : Fun K "_law_case" "_law_case" s__law_case f fd) (g : mg "_law_case" = some (.ref f)) (bd : Binds K fd ["_law_left_here", "_law_great"] []) (m_int : mg "int" = none) (m_len : mg "len" = none) (C__law_wants : CF P w K mg base 4 "_law_wants" ["_law_left_here", "_law_many"] (sp__law_wants K)) (C__law_pick : CF P w K mg base 2 "_law_pick" ["_law_left_here", "_law_many"] (sp__law_pick K)) (C__law_prices : CF P w K mg base 3 "_law_prices" ["_law_left_here", "_law_many"] (sp__law_prices K)) (C__law_incomes : CF P w K mg base 4 "_law_incomes" ["_law_left_here", "_law_wants_here", "_law_many"] (sp__law_incomes K)) : CF P w K mg base 5 "_law_case" ["_law_left_here", "_law_great"] (sp__law_case K) := by
  refine ⟨f, fd, F.ok sc__law_case (fun vs H Q E h => ?_) (fun cdv A outer s H vs Q E hr h => ?_), g, F.kp, bd⟩
  · first | (obtain ⟨_, rfl, _⟩ := h; rfl) | (obtain ⟨_, _, rfl, _⟩ := h; rfl) | (obtain ⟨_, _, _, rfl, _⟩ := h; rfl) | (obtain ⟨_, _, _, _, rfl, _⟩ := h; rfl) | (obtain ⟨_, _, _, _, _, rfl, _⟩ := h; rfl) | (obtain ⟨_, _, _, _, _, _, rfl, _⟩ := h; rfl) | (obtain ⟨_, _, _, _, _, _, _, rfl, _⟩ := h; rfl) | (obtain ⟨_, _, _, _, _, _, _, _, rfl, _⟩ := h; rfl) | (obtain ⟨_, _, _, _, _, _, _, _, _, rfl, _⟩ := h; rfl) | (obtain ⟨_, _, _, _, _, _, _, _, _, _, rfl, _⟩ := h; rfl) | (obtain ⟨_, _, _, _, _, _, _, _, _, _, _, rfl, _⟩ := h; rfl) | (obtain ⟨_, _, _, _, _, _, _, _, _, _, _, _, rfl, _⟩ := h; rfl) | (obtain ⟨_, _, _, _, _, _, _, _, _, _, _, _, _, rfl, _⟩ := h; rfl) | (obtain ⟨_, _, _, _, _, _, _, _, _, _, _, _, _, _, rfl, _⟩ := h; rfl) | (obtain ⟨_, _, _, _, _, _, _, _, _, _, _, _, _, _, _, rfl, _⟩ := h; rfl)
  · have hu64 := hr.units
    obtain ⟨b, gr, n, rfl, hb, small, q⟩ := h
    refine ⟨_, (pss_cons (ps_par (i := 2) (j := 3) (by rfl) sc__law_case.nd rfl rfl (by decide) rfl rfl (pa_cons (pe_cf C__law_prices (hr.mono (by decide)) (by rfl) (pa_cons (pv 0) (pa_cons (pe_ifExp (pt_val (pv 1)) pe_int pe_int) pa_nil))) (pa_cons (pe_cf C__law_wants (hr.mono (by decide)) (by rfl) (pa_cons (pv 0) (pa_cons (pe_ifExp (pt_val (pv 1)) pe_int (pe_cf C__law_pick (hr.mono (by decide)) (by rfl) (pa_cons (pv 0) (pa_cons pe_int pa_nil)))) pa_nil))) pa_nil)) (by rfl))
      (pss_cons (ps_set (i := 4) sc__law_case.nd rfl (.inl rfl) (pe_cf C__law_incomes (hr.mono (by decide)) (by rfl) (pa_cons (pv 0) (pa_cons (pv 3) (pa_cons (pe_ifExp (pt_val (pv 1)) pe_int (pe_cf C__law_pick (hr.mono (by decide)) (by rfl) (pa_cons (pv 0) (pa_cons pe_int pa_nil)))) pa_nil)))))
      (pss_one (ps_ret (pe_tup (pa_cons (pv 2) (pa_cons (pv 3) (pa_cons (pe_op op_cat (pv 4) (pe_op op_rep (pe_lst (pa_cons (pe_tup (pa_cons pe_int (pa_cons (pe_op op_pow pe_int pe_int) pa_nil))) pa_nil)) (pe_callTy call_int1 (by rfl) m_int (by decide +kernel) (pa_cons (pe_and (pe_cmpR op_lt (pe_callB (kk_len K) (by rfl) m_len PySem.boot_len (pa_cons (pv 4) pa_nil)) pe_int (nomark _)) (pe_one (pe_cmpR op_eq (pe_cf C__law_pick (hr.mono (by decide)) (by rfl) (pa_cons (pv 0) (pa_cons pe_int pa_nil))) pe_int (nomark _)))) pa_nil)))) pa_nil)))))))), ?_⟩
    refine ⟨_, rfl, case_if rfl fun v hv => ⟨b, v, n, rfl, hb, by omega, by omega, by omega, fun H1 p as ps b1 t1 np npb hp hP rise okp lp => ?_⟩⟩
    have b1 := b1.mono (m := n + 130) (by omega)
    refine ⟨_, rfl, case_pick (n := n + 130) rfl rfl b1 (by omega) (by decide) (by decide) fun w H2 hw b2 t2 => ⟨b, w, n + 131, rfl, b2.mono (by omega), by omega, by omega, by omega, fun H3 a L b3 t3 na nab ha hR lL okL => ?_⟩⟩
    obtain ⟨_, _, _, hb1, _⟩ := id b1
    obtain ⟨_, _, _, hb2, _⟩ := id b2
    obtain ⟨_, _, _, hb3, _⟩ := id b3
    refine ⟨_, _, rfl, ?_⟩
    refine ⟨_, rfl, _, rfl, case_pick (n := n + 231) rfl rfl (b3.mono (by omega)) (by omega) (by decide) (by decide) fun w2 H4 hw2 b4 t4 => ?_⟩
    obtain ⟨_, _, _, hb4, _⟩ := id b4
    refine ⟨b, a, w2, n + 232, L, rfl, b4.mono (by omega), by omega, t4 _ _ nab ha, nab, hR.but hb3 t4, lL, okL, by omega, by omega, fun H5 c M b5 t5 nc ncb hc hR2 lM okM => ?_⟩
    obtain ⟨_, _, _, hb5, _⟩ := id b5
    have hp5 := t5 _ _ npb (t4 _ _ npb (t3 _ _ npb (t2 _ _ npb hp)))
    have ha5 := t5 _ _ nab (t4 _ _ nab ha)
    have hR5 := (hR.but hb3 t4).but hb4 t5
    have prs_but : ∀ {X Y : Hp} {zs : List V}, X b = some (.lst zs) → But b X Y → Prs X as ps → Prs Y as ps := fun hz e h => ⟨h.1, fun i x y h1 h2 => e _ _ (ne_of (h.2 i x y h1 h2) hz fun z => by cases z) (h.2 i x y h1 h2)⟩
    have hP5 := prs_but hb4 t5 (prs_but hb3 t4 (prs_but hb2 t3 (prs_but hb1 t2 hP)))
    have tA := (((t1.trans t2).trans t3).trans t4).trans t5
    clear hp ha hR hP t2 t3 t4 t5 hb1 hb2 hb3 hb4 b1 b2 b3 b4 t1
    refine ⟨_, rfl, _, rfl, _, rfl, _, _, rfl, rfl, ⟨by decide, by decide, by decide⟩, (by show 2 ≤ sizeLine; decide), fun t nt => ⟨(by show 1 ≤ sizeLine; decide), fun l nl => ?_⟩⟩
    have e9 : HO.tup [V.int 400, (fun i j : Int => V.int (i ^ j.toNat)) 10 9] = HO.tup [V.int 400, V.int 1000000000] := rfl
    rw [e9] at nl
    erw [e9]
    have s6 := (same_new (o := .tup [.int 400, .int 1000000000]) nt).trans (same_new (o := .lst [.ref t]) nl)
    have ht : upd (upd H5 t (.tup [.int 400, .int 1000000000])) l (.lst [.ref t]) t = some (.tup [.int 400, .int 1000000000]) := same_new (o := .lst [.ref t]) nl _ _ (upd_same (H := H5) (a := t) (o := .tup [.int 400, .int 1000000000]))
    have hl := upd_same (H := upd H5 t (.tup [.int 400, .int 1000000000])) (a := l) (o := .lst [.ref t])
    have b6 := b5.same s6
    have ntb := b5.ne nt
    have nlb := (b5.new (o := .tup [.int 400, .int 1000000000]) nt).ne nl
    have hp6 := s6 _ _ hp5
    have ha6 := s6 _ _ ha5
    have hc6 := s6 _ _ hc
    have hR6 := hR5.same s6
    have hR26 := hR2.same s6
    have hP6 := hP5.same s6
    have tB := tA.trans (But.of (b := b) s6)
    generalize upd (upd H5 t (.tup [.int 400, .int 1000000000])) l (.lst [.ref t]) = H6 at *
    obtain ⟨_, _, _, hb6, _⟩ := id b6
    have back : ∀ (k : Bool) H7, Three H7 b (n + 700) → But b H6 H7 → rRep (V.ref l) (V.int (if k then 1 else 0)) H7 fun y H2 => rCat (V.ref c) y H2 fun x H1 => [V.ref p, V.ref a, x].length ≤ sizeLine ∧ ∀ r : Addr, H1 r = none → Q (V.ref r) (upd H1 r (HO.tup [V.ref p, V.ref a, x])) := fun k H7 b7 t7 => by
      refine ⟨l, _, _, rfl, rfl, t7 _ _ nlb hl, by split <;> decide, by split <;> decide, ?_, fun F nF => ?_⟩
      · cases k
        · show 1 * 0 ≤ sizeLine
          decide
        · show 1 * 1 ≤ sizeLine
          decide
      obtain ⟨M0, hM0, hM0r, hM0l, hM0o⟩ : ∃ M0 : List (Addr × (Int × Int)), (List.replicate (if k then 1 else 0 : Int).toNat [V.ref t]).flatten = refs M0 ∧ RowsAt iV H7 M0 ∧ M0.length ≤ 1 ∧ ∀ q ∈ M0, InOk q.2 := by
        cases k
        · exact ⟨[], rfl, .nil, Nat.zero_le _, fun _ h => (nomatch h)⟩
        · refine ⟨[(t, (400, 1000000000))], rfl, fun q hq => ?_, Nat.le_refl _, fun q hq => ?_⟩
          · rw [List.mem_singleton.mp hq]
            exact t7 _ _ ntb ht
          · rw [List.mem_singleton.mp hq]
            exact ⟨by show (0 : Int) ≤ 400; decide, by show (400 : Int) ≤ 400; decide, by show (0 : Int) ≤ 1000000000; decide, by show (1000000000 : Int) ≤ 1000000000; decide⟩
      rw [hM0]
      have sF := same_new (o := .lst (refs M0)) nF
      have hF := upd_same (H := H7) (a := F) (o := .lst (refs M0))
      have e2 : refs M ++ refs M0 = refs (M ++ M0) := List.map_append.symm
      refine ⟨c, F, _, _, rfl, rfl, sF _ _ (t7 _ _ ncb hc6), hF, ?_, fun G nG => ⟨(by show 3 ≤ sizeLine; decide), fun T nT => ?_⟩⟩
      · rw [List.length_map, List.length_map]
        exact size_small (by omega)
      rw [e2] at nT ⊢
      have sG := same_new (o := .lst (refs (M ++ M0))) nG
      have hG := upd_same (H := upd H7 F (.lst (refs M0))) (a := G) (o := .lst (refs (M ++ M0)))
      have sT := same_new (o := .tup [V.ref p, V.ref a, V.ref G]) nT
      have sA := (sF.trans sG).trans sT
      have nGb : G ≠ b := (b7.same sF).ne nG
      refine q _ T p a G as ps L (M ++ M0) (b7.same sA) (tB.trans (t7.trans (But.of sA))) ?_ ⟨upd_same, sA _ _ (t7 _ _ npb hp6), (prs_but hb6 t7 hP6).same sA, okp, by omega, sA _ _ (t7 _ _ nab ha6), (hR6.but hb6 t7).same sA, okL, lL, sT _ _ hG, ?_, ?_, ?_, npb, nab, nGb⟩
      · have nTb : T ≠ b := ((b7.same sF).same sG).ne nT
        cases eT : H T with
        | none => rfl
        | some o =>
          have := (sF.trans sG) _ _ (t7 _ _ nTb (tB _ _ nTb eT))
          rw [this] at nT
          cases nT
      · have hh : RowsAt iV H7 (M ++ M0) := fun q hq => (List.mem_append.mp hq).elim ((hR26.but hb6 t7) q) (hM0r q)
        exact hh.same sA
      · exact fun q hq => (List.mem_append.mp hq).elim (okM q) (hM0o q)
      · rw [List.length_append]
        omega
    refine ⟨_, rfl, c, _, rfl, .inl (SqL.of hc6), _, _, rfl, rfl, _, rfl, ite2 (fun _ => ?_) (fun _ => ?_)⟩
    · exact ⟨_, rfl, b, 4, n + 500, rfl, b6.mono (by omega), by decide, by omega, by omega, fun r H7 r0 r1 b7 t7 => ⟨rfl, .inr ⟨_, rfl, back _ H7 (b7.mono (by omega)) t7⟩⟩⟩
    · exact .inr ⟨_, rfl, back _ H6 (b6.mono (by omega)) (But.refl b H6)⟩
/-! ### the law's two cases -/
structure Cv where
  T : Addr
  p : Addr
  a : Addr
  c : Addr
  as : List Addr
  ps : List (Int × Int)
  L : List (Addr × Wt)
  M : List (Addr × (Int × Int))
def CaseV (H : Hp) (b : Addr) (v : Cv) : Prop := Case H b v.T v.p v.a v.c v.as v.ps v.L v.M
def Cv.told (v : Cv) (t : Str) : Prop := Told v.ps (v.L.map (·.2)) (v.M.map (·.2)) t
theorem CaseV.dT {H : Hp} {b : Addr} {v : Cv} (h : CaseV H b v) : CaseV (dT H) b v :=
  have k : ∀ {x : Addr} {xs : List V}, H x = some (.lst xs) → Pw.dT H x = some (.lst xs) := fun e => dT_of e fun _ z => by cases z
  ⟨dT_of h.tup (fun _ z => by cases z), k h.pl, ⟨h.pr.1, fun i x y h1 h2 => dT_of (h.pr.2 i x y h1 h2) (fun _ z => by cases z)⟩, h.po, h.pn, k h.al, dT_rows h.ar, h.ao, h.an, k h.cl, dT_rows h.cr, h.co, h.cn, h.nb⟩
theorem CaseV.same {H H' : Hp} {b : Addr} {v : Cv} (h : CaseV H b v) (e : Same H H') : CaseV H' b v := Case.same h e
theorem CaseV.go {H H' : Hp} {b : Addr} {v : Cv} (h : CaseV H b v) (e : Same (Pw.dT H) H') : CaseV H' b v := h.dT.same e
theorem CaseV.but {H H' : Hp} {b : Addr} {v : Cv} {n : Int} (h : CaseV H b v) (hb : Three H b n) (e : But b H H') : CaseV H' b v := by
  obtain ⟨_, _, _, h0, _⟩ := hb
  exact Case.but h h0 e
theorem three_go {H H' : Hp} {b : Addr} {n : Int} (h : Three H b n) (e : Same (dT H) H') : Three H' b n := by
  obtain ⟨x, c, z, h0, r⟩ := h
  exact ⟨x, c, z, e _ _ (dT_of h0 fun _ z => by cases z), r⟩
theorem three_dT {H : Hp} {b : Addr} {n : Int} (h : Three H b n) : Three (dT H) b n := by
  obtain ⟨x, c, z, h0, r⟩ := h
  exact ⟨x, c, z, dT_of h0 (fun _ z => by cases z), r⟩
theorem tabs_but {TT : List (Addr × Str)} {H H' : Hp} {b : Addr} {n : Int} (t : LamX.Tabs TT H) (hb : Three H b n) (e : But b H H') : LamX.Tabs TT H' := fun p hp => by
  obtain ⟨_, _, _, h0, _⟩ := hb
  obtain ⟨ps, h1, h2, h3⟩ := t p hp
  refine ⟨ps, e _ _ (ne_of h1 h0 fun z => by cases z) h1, h2, fun pos cv hc => ?_⟩
  obtain ⟨c, e1, e2⟩ := h3 pos cv hc
  exact ⟨c, e1, e _ _ (ne_of e2 h0 fun z => by unfold LamX.CodeO at z; cases z) e2⟩
def caseD (v : Cv) : PyData := .tuple [.list (v.ps.map prD), .list ((v.L.map (·.2)).map wtD), .list ((v.M.map (·.2)).map prD2)]
def casesD (v w : Cv) : PyData := .list [caseD v, caseD w]
theorem case_dp {K : PySem.W.Frag} {H : Hp} {b : Addr} {v : Cv} (h : CaseV H b v) : Dp K H (.ref v.T) (caseD v) := by
  refine .tup (SqT.of h.tup) (.cons (prs_dp (SqL.of h.pl) h.pr) (.cons ?_ (.cons (pairs_dp (SqL.of h.cl) h.cr) .nil)))
  rw [List.map_map]
  exact .lst (SqL.of h.al) (row_dp wV_dp h.ar)
theorem case_seen {H : Hp} {b : Addr} {v : Cv} (h : CaseV H b v) : Seen 40000 (caseD v) ∧ PyData.depth (caseD v) ≤ 8 := by
  have h1 := seen_list (B := 150) (n := 60) (l := v.ps.map prD) (fun d hd => by
    obtain ⟨q, hq, rfl⟩ := List.mem_map.mp hd
    have ok := h.po q hq
    have h := seen_pair (x := q.1) (y := q.2) ok.1 (by omega) (by omega) (by omega)
    exact ⟨h.1, Nat.le_trans h.2 (by decide)⟩) (by rw [List.length_map]; exact h.pn)
  have h2 := seen_list (B := 150) (n := 60) (l := (v.L.map (·.2)).map wtD) (fun d hd => by
    obtain ⟨q, hq, rfl⟩ := List.mem_map.mp hd
    obtain ⟨y, hy, rfl⟩ := List.mem_map.mp hq
    have ok := h.ao y hy
    have s := wt_seen ok
    refine ⟨⟨⟨s.1, s.2.1, Nat.le_trans s.2.2 (by decide)⟩, wt_len ok, low_tuple fun d hd => ?_⟩, Nat.le_trans s.2.2 (by decide)⟩
    rcases List.mem_cons.mp hd with rfl | hd
    · exact low_str ok.1.1.low
    · rcases List.mem_cons.mp hd with rfl | hd
      · exact low_int _
      · rw [List.mem_singleton.mp hd]
        exact low_int _) (by rw [List.length_map, List.length_map]; have := h.an; omega)
  have h3 := seen_list (B := 150) (n := 60) (l := (v.M.map (·.2)).map prD2) (fun d hd => by
    obtain ⟨q, hq, rfl⟩ := List.mem_map.mp hd
    obtain ⟨y, hy, rfl⟩ := List.mem_map.mp hq
    have ok := h.co y hy
    have h := seen_pair (x := y.2.1) (y := y.2.2) ok.1 (by have := ok.2.1; omega) ok.2.2.1 ok.2.2.2
    exact ⟨h.1, Nat.le_trans h.2 (by decide)⟩) (by rw [List.length_map, List.length_map]; exact h.cn)
  have two : ∀ {l : List PyData}, (∀ x ∈ l, x.depth ≤ 2) → PyData.depth (.list l) ≤ 5 := fun {l} h => by
    have := deep_le h
    simp only [PyData.depth]
    omega
  have d1 : PyData.depth (.list (v.ps.map prD)) ≤ 5 := two fun x hx => by
    obtain ⟨q, _, rfl⟩ := List.mem_map.mp hx
    simp [prD, PyData.depth, PyData.depthAll]
  have d2 : PyData.depth (.list ((v.L.map (·.2)).map wtD)) ≤ 5 := two fun x hx => by
    obtain ⟨q, _, rfl⟩ := List.mem_map.mp hx
    simp [wtD, PyData.depth, PyData.depthAll]
  have d3 : PyData.depth (.list ((v.M.map (·.2)).map prD2)) ≤ 5 := two fun x hx => by
    obtain ⟨q, _, rfl⟩ := List.mem_map.mp hx
    simp [prD2, PyData.depth, PyData.depthAll]
  have dep : PyData.depth (caseD v) ≤ 8 := by
    unfold caseD
    simp only [PyData.depth, PyData.depthAll] at d1 d2 d3 ⊢
    omega
  refine ⟨⟨⟨?_, ?_, by omega⟩, ?_, low_tuple fun d hd => ?_⟩, dep⟩
  · have a := h1.1.1.1
    have b := h2.1.1.1
    have c := h3.1.1.1
    unfold caseD
    simp only [PyData.showable, PyData.showableAll] at a b c ⊢
    rw [a, b, c]
    rfl
  · have a := h1.1.1.2.1
    have b := h2.1.1.2.1
    have c := h3.1.1.2.1
    unfold caseD
    simp only [PyData.hasDict, PyData.hasDictAll] at a b c ⊢
    rw [a, b, c]
    rfl
  · unfold caseD
    rw [PyData.shown_tuple, PyData.shownAll_cons, PyData.shownAll_cons, PyData.shownAll_cons, PyData.shownAll_nil]
    have a := h1.1.2.1
    have b := h2.1.2.1
    have c := h3.1.2.1
    show (_ ++ (PyData.shown (.list (v.ps.map prD)) ++ _ ++ (PyData.shown (.list ((v.L.map (·.2)).map wtD)) ++ _ ++ PyData.shown (.list ((v.M.map (·.2)).map prD2)))) ++ _).length ≤ 40000
    rw [len_app, len_app, len_app, len_app, len_app, len_app]
    show 1 + ((PyData.shown (.list (v.ps.map prD))).length + 2 + ((PyData.shown (.list ((v.L.map (·.2)).map wtD))).length + 2 + (PyData.shown (.list ((v.M.map (·.2)).map prD2))).length)) + 1 ≤ 40000
    omega
  · rcases List.mem_cons.mp hd with rfl | hd
    · exact h1.1.2.2
    · rcases List.mem_cons.mp hd with rfl | hd
      · exact h2.1.2.2
      · rw [List.mem_singleton.mp hd]
        exact h3.1.2.2
theorem cases_seen {H : Hp} {b : Addr} {v w : Cv} (h1 : CaseV H b v) (h2 : CaseV H b w) : Seen 100000 (casesD v w) ∧ PyData.depth (casesD v w) ≤ 11 := by
  have h := seen_list (B := 40000) (n := 2) (l := [caseD v, caseD w]) (fun d hd => by
    rcases List.mem_cons.mp hd with rfl | hd
    · exact ⟨(case_seen h1).1, Nat.le_trans (case_seen h1).2 (by decide)⟩
    · rw [List.mem_singleton.mp hd]
      exact ⟨(case_seen h2).1, Nat.le_trans (case_seen h2).2 (by decide)⟩) (Nat.le_refl 2)
  exact ⟨h.1.mono (by decide), h.2⟩
theorem cases_dp {K : PySem.W.Frag} {H : Hp} {b Z : Addr} {v w : Cv} (hZ : H Z = some (.lst [.ref v.T, .ref w.T])) (h1 : CaseV H b v) (h2 : CaseV H b w) : Dp K H (.ref Z) (casesD v w) := .lst (SqL.of hZ) (.cons (case_dp h1) (.cons (case_dp h2) .nil))
section
variable {K : PySem.W.Frag} {σ : L2.St} {H : Hp} {Q : VK} {b : Addr} {n : Int}
theorem great_two {k : Int} (h1 : σ[1]? = some (some (.int k))) (h2 : σ[2]? = some (some (.ref b))) (hb : Three H b n) (hn : n < 1000000) (q : ∀ (gr : Bool) H2, Three H2 b (n + 1) → But b H H2 → Q (.bl gr) H2) :
    tAndV (tOp rEq (tVar 1) (tC (V.int 0))) (tOp rEq (tCall (sp__law_pick K) [] E0 (tCons (tVar 2) (tCons (tC (V.int 2)) tNil))) (tC (V.int 0))) σ H Q := by
  refine ⟨_, h1, rfl, _, rfl, ite2 (fun _ => ?_) (fun z => ?_)⟩
  · exact ⟨_, h2, b, 2, n, rfl, hb, by decide, by decide, by omega, fun x H2 _ _ b2 t2 => ⟨rfl, q _ _ b2 t2⟩⟩
  · exact q _ _ (hb.mono (by omega)) (But.refl b H)
end
theorem for_zm {K : PySem.W.Frag} {a b : Addr} {xs ys : List V} {g : TG} {tb : TS} {D : Ends} {σ : L2.St} {H : Hp} (Pv : Nat → L2.St → Hp → Prop) (h0 : Pv 0 σ H) (hl : ∀ i σ H, Pv i σ H → SqL K H a xs ∧ SqT K H b ys)
    (hs : ∀ i x y σ H T, xs[i]? = some x → ys[i]? = some y → Pv i σ H → H T = none → g (.ref T) σ (upd H T (.tup [x, y])) fun σ2 H2 => tb { D with nx := Pv (i + 1), ct := Pv (i + 1), bk := D.nx } σ2 H2) (hd : ∀ σ H, Pv (min xs.length ys.length) σ H → D.nx σ H) :
    ∃ W : Nat → Nat → L2.St → Hp → Prop, (∃ m, W 0 m σ H) ∧ ∀ i m σ H, W i m σ H → ((ZM.ItLT K a b).stop i H ∧ D.nx σ H) ∨ ((ZM.ItLT K a b).go i H ∧ ∃ N : L2.St → Hp → Prop, (∀ σ' H', N σ' H' → ∃ m', m' < m ∧ W (i + 1) m' σ' H') ∧ ∀ x H', (ZM.ItLT K a b).yld i H x H' → g x σ H' fun σ2 H2 => tb { D with nx := N, ct := N, bk := D.nx } σ2 H2) := by
  refine ⟨fun i m σ H => m + i = min xs.length ys.length ∧ Pv i σ H, ⟨min xs.length ys.length, rfl, h0⟩, fun i m σ H ⟨e, p⟩ => ?_⟩
  obtain ⟨x1, y1⟩ := hl i σ H p
  have can := ZM.canLT (i := i) x1 y1
  by_cases c : i < min xs.length ys.length
  · refine .inr ⟨can.1 c, Pv (i + 1), fun σ' H' p' => ⟨m - 1, by omega, by omega, p'⟩, fun x H' y => ?_⟩
    obtain ⟨T, u, v, rfl, nT, rfl, e1, e2⟩ := y
    exact hs i u v σ H T (e1 xs x1) (e2 ys y1) p nT
  · have z : i = min xs.length ys.length := by omega
    exact .inl ⟨can.2 z, hd σ H (z ▸ p)⟩
/-! ### law -/
abbrev s_law : Stmt := topS 23
abbrev N_law : List Str := ["_law_script", "_law_k", "_law_left_here", "_law_cases", "_law_kept", "_law_due", "_law_prices_here", "_law_wants_here", "_law_incomes_here", "_law_lists", "_law_turn", "_law_at", "_law_own", "_law_other"]
theorem sc_law : FnScope N_law ["_law_script"] (defScope s_law) := ⟨rfl, rfl, rfl, by decide +kernel, rfl, by decide +kernel, by decide +kernel⟩
def sp_law (K : PySem.W.Frag) (TT : List (Addr × Str)) : Sp := fun vs H Q _ => ∃ (a : Addr) (ns : List Int), vs = [.ref a] ∧ SqL K H a (ns.map V.int) ∧ ns.length ≤ 63 ∧ LamX.Tabs TT H ∧ ∀ H', Q (.bl true) H'
theorem ok_law {f : Addr} {fd : FuncData} (F : Fun K "law" "law" s_law f fd) {TT : List (Addr × Str)} (m_range : mg "range" = none) (m_max : mg "max" = none) (m_min : mg "min" = none) (m_len : mg "len" = none) (m_repr : mg "repr" = none) (m_zip : mg "zip" = none) (C__law_left : CF P w K mg base 1 "_law_left" ["_law_script", "_law_k"] (sp__law_left K)) (C__law_case : CF P w K mg base 5 "_law_case" ["_law_left_here", "_law_great"] (sp__law_case K)) (C__law_pick : CF P w K mg base 2 "_law_pick" ["_law_left_here", "_law_many"] (sp__law_pick K)) (C__law_told : CG P w K mg base 5 "_law_told" ["_law_prices_here", "_law_wants_here", "_law_incomes_here"] (sp__law_told K TT)) : FnG P w K mg base 6 f fd ["_law_script"] (sp_law K TT) := by
  refine okG F sc_law (fun vs H Q E h => ?_) (fun cdv A outer s H vs Q E hr gd h => ?_)
  · first | (obtain ⟨_, rfl, _⟩ := h; rfl) | (obtain ⟨_, _, rfl, _⟩ := h; rfl) | (obtain ⟨_, _, _, rfl, _⟩ := h; rfl) | (obtain ⟨_, _, _, _, rfl, _⟩ := h; rfl) | (obtain ⟨_, _, _, _, _, rfl, _⟩ := h; rfl) | (obtain ⟨_, _, _, _, _, _, rfl, _⟩ := h; rfl) | (obtain ⟨_, _, _, _, _, _, _, rfl, _⟩ := h; rfl) | (obtain ⟨_, _, _, _, _, _, _, _, rfl, _⟩ := h; rfl) | (obtain ⟨_, _, _, _, _, _, _, _, _, rfl, _⟩ := h; rfl) | (obtain ⟨_, _, _, _, _, _, _, _, _, _, rfl, _⟩ := h; rfl) | (obtain ⟨_, _, _, _, _, _, _, _, _, _, _, rfl, _⟩ := h; rfl) | (obtain ⟨_, _, _, _, _, _, _, _, _, _, _, _, rfl, _⟩ := h; rfl) | (obtain ⟨_, _, _, _, _, _, _, _, _, _, _, _, _, rfl, _⟩ := h; rfl) | (obtain ⟨_, _, _, _, _, _, _, _, _, _, _, _, _, _, rfl, _⟩ := h; rfl) | (obtain ⟨_, _, _, _, _, _, _, _, _, _, _, _, _, _, _, rfl, _⟩ := h; rfl)
  · have hu64 := hr.units
    obtain ⟨a, ns, rfl, hS, hlen, hT, q⟩ := h
    refine ⟨_, (pss_cons (ps_for PassesOwn.never rfl (pi_range1 (by rfl) m_range (pa_cons (pe_callB (call_max2 rfl) (by rfl) m_max (by decide +kernel) (pa_cons pe_int (pa_cons (pe_callB (call_min2 rfl) (by rfl) m_min (by decide +kernel) (pa_cons pe_int (pa_cons (pe_callB (kk_len K) (by rfl) m_len PySem.boot_len (pa_cons (pv 0) pa_nil)) pa_nil))) pa_nil))) pa_nil)) (pg_name (i := 1) sc_law.nd rfl (.inl rfl))
         (pss_cons (ps_set (i := 2) sc_law.nd rfl (.inl rfl) (pe_cf C__law_left (hr.mono (by decide)) (by rfl) (pa_cons (pv 0) (pa_cons (pv 1) pa_nil))))
          (pss_cons (ps_set (i := 3) sc_law.nd rfl (.inl rfl) (pe_lst (pa_cons (pe_cf C__law_case (hr.mono (by decide)) (by rfl) (pa_cons (pv 2) (pa_cons (pe_and (pe_cmpR op_eq (pv 1) pe_int (nomark _)) (pe_one (pe_cmpR op_eq (pe_cf C__law_pick (hr.mono (by decide)) (by rfl) (pa_cons (pv 2) (pa_cons pe_int pa_nil))) pe_int (nomark _)))) pa_nil))) (pa_cons (pe_cf C__law_case (hr.mono (by decide)) (by rfl) (pa_cons (pv 2) (pa_cons pe_bl pa_nil))) pa_nil))))
          (pss_cons (ps_par (i := 4) (j := 5) (by rfl) sc_law.nd rfl rfl (by decide) rfl rfl (pa_cons (pe_callB (kk_repr K gd hu64) (by rfl) m_repr (by decide +kernel) (pa_cons (pv 3) pa_nil)) (pa_cons (pe_lc (own := [("_law_prices_here", 6), ("_law_wants_here", 7), ("_law_incomes_here", 8)]) (g := (gTup K 3 (gCons (gName 6) (gCons (gName 7) (gCons (gName 8) gNil))))) (tt := tYes) rfl sc_law.nd (pi_list (pv 3)) (blkOk_by (own := [("_law_prices_here", 6), ("_law_wants_here", 7), ("_law_incomes_here", 8)]) (N := N_law) (sc := defScope s_law) (by decide +kernel)) (fun _ _ _ _ _ => (pg_tup (by rfl) (pgs_cons (pg_name (i := 6) sc_law.nd rfl (.inl rfl)) (pgs_cons (pg_name (i := 7) sc_law.nd rfl (.inl rfl)) (pgs_cons (pg_name (i := 8) sc_law.nd rfl (.inl rfl)) pgs_nil))))) (fun _ _ _ _ _ => pts_nil) (fun _ _ _ _ _ => (pe_cg C__law_told (hr.mono (by decide)) gd (by rfl) (pa_cons (pv 6) (pa_cons (pv 7) (pa_cons (pv 8) pa_nil)))))) pa_nil)) (by rfl))
          (pss_cons (ps_set (i := 9) sc_law.nd rfl (.inl rfl) (pe_lst (pa_cons (pe_lst pa_nil) (pa_cons (pe_lst pa_nil) (pa_cons (pe_lst pa_nil) pa_nil)))))
          (pss_one (ps_for PassesOwn.never rfl (pi_range1 (by rfl) m_range (pa_cons pe_int pa_nil)) (pg_name (i := 10) sc_law.nd rfl (.inl rfl))
             (pss_cons (ps_set (i := 11) sc_law.nd rfl (.inl rfl) (pe_cf C__law_pick (hr.mono (by decide)) (by rfl) (pa_cons (pv 2) (pa_cons pe_int pa_nil))))
              (pss_cons (ps_for PassesOwn.never rfl (ZM.pi_zipLT (by rfl) m_zip (pa_cons (pv 9) (pa_cons (pe_ix (kk_ixl K) (pv 3) (pv 11) (fun _ _ => rfl)) pa_nil))) (pg_tup (by rfl) (pgs_cons (pg_name (i := 12) sc_law.nd rfl (.inl rfl)) (pgs_cons (pg_name (i := 13) sc_law.nd rfl (.inl rfl)) pgs_nil)))
                 (pss_cons (ps_expr (pe_bm0 PySem.F.plainAttrs_list PySem.F.slot_list_clear PySem.F.type_list_clear mt_clear (pv 12)))
                  (pss_one (ps_expr (pe_bm PySem.F.plainAttrs_list PySem.F.slot_list_extend PySem.F.type_list_extend mt_extend (pv 12) (pa_cons (pv 13) pa_nil))))))
              (pss_one (ps_if (PW.pt (pw_or (pt_cmpR op_ne (pe_cg C__law_told (hr.mono (by decide)) gd (by rfl) (pa_cons (pe_ix (kk_ixl K) (pv 9) pe_int (fun _ _ => rfl)) (pa_cons (pe_ix (kk_ixl K) (pv 9) pe_int (fun _ _ => rfl)) (pa_cons (pe_ix (kk_ixl K) (pv 9) pe_int (fun _ _ => rfl)) pa_nil)))) (pe_ix (kk_ixl K) (pv 5) (pv 11) (fun _ _ => rfl)) (nomark _)) (pw_or1 (pt_cmpR op_ne (pe_callB (kk_repr K gd hu64) (by rfl) m_repr (by decide +kernel) (pa_cons (pv 3) pa_nil)) (pv 4) (nomark _)))))
                 (pss_one (ps_ret pe_bl))
                 pss_nil)))))))))))
      (pss_one (ps_ret pe_bl))), ?_⟩
    have hS0 : SqL K (dT H) a (ns.map V.int) := by
      rcases hS with (h | ⟨o, h⟩) | h
      · exact .inl (.inl (dT_of h fun _ z => by cases z))
      · exact .inl (.inr ⟨o, dT_of h fun _ z => by cases z⟩)
      · exact .inr h
    refine ⟨_, rfl, a, _, rfl, .inl hS, _, _, rfl, _, _, rfl, _, rfl, ?_, ?_, for_range (fun i σ G => ∃ s1 s2 s3 s4 s5 s6 s7 s8 s9 s10 s11 s12 s13, σ = [some (.ref a), s1, s2, s3, s4, s5, s6, s7, s8, s9, s10, s11, s12, s13] ∧ Same (dT H) G ∧ LamX.Tabs TT G) ⟨_, _, _, _, _, _, _, _, _, _, _, _, _, rfl, dT_same H, hT⟩ (fun i0 σ G hi h => ?_) (fun σ H' _ => q _)⟩
    · split <;> (try split) <;> omega
    · split <;> (try split) <;> omega
    · obtain ⟨s1, s2, s3, s4, s5, s6, s7, s8, s9, s10, s11, s12, s13, rfl, sm, TG⟩ := h
      have hi2 : i0 < 10 := by
        split at hi
        · split at hi <;> omega
        · omega
      refine ⟨_, rfl, _, rfl, a, _, ns, rfl, sm.seq hS0, by omega, by omega, fun H1 b nb sb hb => ?_⟩
      have nb0 : dT H b = none := none_of sm nb
      have sm1 := sm.trans sb
      have T1 := TG.ext sb
      refine ⟨_, rfl, great_two rfl rfl hb (by decide) fun gr H2 b2 t2 => ⟨b, gr, _, rfl, b2, by decide, fun H3 A1 p1 a1 c1 as1 ps1 L1 M1 b3 t3 nA1 C1 => ⟨_, rfl, b, false, _, rfl, b3, by decide, fun H4 A2 p2 a2 c2 as2 ps2 L2' M2 b4 t4 nA2 C2 => ⟨(by show 2 ≤ sizeLine; decide), fun Z nZ => ?_⟩⟩⟩⟩
      have T2 := tabs_but T1 hb t2
      have T3 := tabs_but T2 b2 t3
      have T4 := tabs_but T3 b3 t4
      have sm4 := same_but (same_but (same_but sm1 nb0 t2) nb0 t3) nb0 t4
      obtain ⟨v, hv⟩ : ∃ v : Cv, v = ⟨A1, p1, a1, c1, as1, ps1, L1, M1⟩ := ⟨_, rfl⟩
      obtain ⟨w2, hw⟩ : ∃ v : Cv, v = ⟨A2, p2, a2, c2, as2, ps2, L2', M2⟩ := ⟨_, rfl⟩
      have Cv1 : CaseV H4 b v := by
        rw [hv]
        exact CaseV.but (v := ⟨A1, p1, a1, c1, as1, ps1, L1, M1⟩) C1 b3 t4
      have Cw1 : CaseV H4 b w2 := by rw [hw]; exact C2
      have ev : A1 = v.T := by rw [hv]
      have ew : A2 = w2.T := by rw [hw]
      rw [ev, ew]
      clear hv hw ev ew C1 C2 t2 t3 t4 T1 T2 T3 b2 b3 hb nA1 nA2
      have s5' := same_new (o := .lst [V.ref v.T, V.ref w2.T]) nZ
      have hZ := upd_same (H := H4) (a := Z) (o := .lst [V.ref v.T, V.ref w2.T])
      have nZb : Z ≠ b := b4.ne nZ
      have Cv5 := Cv1.same s5'
      have Cw5 := Cw1.same s5'
      have b5 := b4.same s5'
      have T5 := T4.ext s5'
      have sm5 := sm4.trans s5'
      generalize upd H4 Z (.lst [V.ref v.T, V.ref w2.T]) = H5 at *
      clear Cv1 Cw1 b4 T4 sm4 s5' nZ
      have see := cases_seen Cv5 Cw5
      refine ⟨_, rfl, _, _, rfl, cases_dp hZ Cv5 Cw5, see.1.1.1, Nat.le_trans see.1.2.1 (by rw [sizeLine_eq]; decide), Nat.le_trans see.2 (by decide), see.1.1.2.1, ?_⟩
      refine ⟨_, rfl, Z, rfl, ⟨_, SqL.of hZ⟩, fun E nE => lc_list (K := K) (a := Z) (xs := [V.ref v.T, V.ref w2.T]) (fun i G => Same (dT H5) G ∧ LamX.Tabs TT G ∧ ∃ ts : List Str, G E = some (.lst (ts.map V.str)) ∧ ts.length = i ∧ ∀ (j : Nat) (t : Str) (u : Cv), ts[j]? = some t → [v, w2][j]? = some u → u.told t) ⟨(dT_same H5).trans (same_new nE), T5.ext (same_new nE), [], upd_same, rfl, fun j t u e => by simp at e⟩ (fun i G _ h => SqL.of (h.1 _ _ (dT_of hZ fun _ z => by cases z))) (fun i x G hx h => ?_) (fun G h => ?_)⟩
      · obtain ⟨sg, Tg, ts, hE, lts, told⟩ := h
        obtain ⟨u, hu, rfl⟩ : ∃ u : Cv, [v, w2][i]? = some u ∧ x = .ref u.T := by
          have e : [V.ref v.T, V.ref w2.T] = [v, w2].map fun u => V.ref u.T := rfl
          rw [e, List.getElem?_map] at hx
          obtain ⟨u, a1, a2⟩ := Option.map_eq_some_iff.mp hx
          exact ⟨u, a1, a2.symm⟩
        have hi3 : i < 2 := (List.getElem?_eq_some_iff.mp hu).1
        have cu : CaseV H5 b u := by
          rcases List.mem_cons.mp (List.mem_of_getElem? hu) with rfl | hm
          · exact Cv5
          · rw [List.mem_singleton.mp hm]
            exact Cw5
        have cg := cu.go sg
        refine ⟨u.T, _, rfl, SqT.of cg.tup, rfl, _, _, rfl, _, _, rfl, _, _, rfl, rfl, rfl, ?_⟩
        refine ⟨_, rfl, _, rfl, _, rfl, u.p, u.a, u.c, u.as, u.ps, u.L, u.M, rfl, cg.pl, cg.pr, cg.po, cg.pn, cg.al, cg.ar, cg.an, cg.ao, cg.cl, cg.cr, by have := cg.cn; omega, cg.co, Tg, fun G2 t sm2 T2 tt => ?_⟩
        have hE2 := sm2 _ _ (dT_of hE fun _ z => by cases z)
        have nE5 : dT H5 E = none := dT_none nE
        refine ⟨_, hE2, ?_, fun y o hy => ?_, tabs_upd T2 hE2, ts ++ [t], ?_, ?_, fun j t' u' h1 h2 => ?_⟩
        · rw [List.length_map]
          exact small1000 (by omega)
        · rw [upd_ne fun z => by rw [z, nE5] at hy; cases hy]
          exact dT_trans sg sm2 y o hy
        · rw [upd_same, List.map_append]
          rfl
        · rw [List.length_append, lts]
          rfl
        · by_cases c : j < ts.length
          · rw [List.getElem?_append_left c] at h1
            exact told j t' u' h1 h2
          · rw [List.getElem?_append_right (by omega)] at h1
            have ej : j = i := by
              have := (List.getElem?_eq_some_iff.mp h1).1
              simp at this
              omega
            rw [ej, lts, Nat.sub_self] at h1
            cases h1
            rw [ej, hu] at h2
            cases h2
            exact tt
      · obtain ⟨sg, Tg, ts, hE, lts, told⟩ := h
        have lts : ts.length = 2 := lts
        refine ⟨_, _, rfl, ?_⟩
        have b6 := three_go b5 sg
        have nEb : E ≠ b := b5.ne nE
        have hZ6 := sg _ _ (dT_of hZ fun _ z => by cases z)
        have Cv6 := Cv5.go sg
        have Cw6 := Cw5.go sg
        have sm6 : Same (dT H) G := dT_trans sm5 sg
        clear b5 hZ Cv5 Cw5 T5 sm5 sg nE sm sb
        refine ⟨(by show 0 ≤ sizeLine; decide), fun o1 n1 => ⟨(by show 0 ≤ sizeLine; decide), fun o2 n2 => ⟨(by show 0 ≤ sizeLine; decide), fun o3 n3 => ⟨(by show 3 ≤ sizeLine; decide), fun O nO => ?_⟩⟩⟩⟩
        have w1 := same_new (o := .lst []) n1
        have w2s := w1.trans (same_new (o := .lst []) n2)
        have w3 := w2s.trans (same_new (o := .lst []) n3)
        have w4 := w3.trans (same_new (o := .lst [V.ref o1, .ref o2, .ref o3]) nO)
        have g3 := same_new (o := .lst [V.ref o1, .ref o2, .ref o3]) nO _ _ (upd_same (H := upd (upd G o1 (.lst [])) o2 (.lst [])) (a := o3) (o := .lst []))
        have g2 := ((same_new (o := .lst []) n3).trans (same_new (o := .lst [V.ref o1, .ref o2, .ref o3]) nO)) _ _ (upd_same (H := upd G o1 (.lst [])) (a := o2) (o := .lst []))
        have g1 := (((same_new (o := .lst []) n2).trans (same_new (o := .lst []) n3)).trans (same_new (o := .lst [V.ref o1, .ref o2, .ref o3]) nO)) _ _ (upd_same (H := G) (a := o1) (o := .lst []))
        have gO := upd_same (H := upd (upd (upd G o1 (.lst [])) o2 (.lst [])) o3 (.lst [])) (a := O) (o := .lst [V.ref o1, .ref o2, .ref o3])
        have m1 : dT G o1 = none := dT_none n1
        have m2 : dT G o2 = none := dT_none (none_of w1 n2)
        have m3 : dT G o3 = none := dT_none (none_of w2s n3)
        have mO : dT G O = none := dT_none (none_of w3 nO)
        have n12 : o1 ≠ o2 := ne_of_none (upd_same (H := G) (a := o1) (o := .lst [])) n2
        have n13 : o1 ≠ o3 := ne_of_none (same_new n2 _ _ (upd_same (H := G) (a := o1) (o := .lst []))) n3
        have n23 : o2 ≠ o3 := ne_of_none (upd_same (H := upd G o1 (.lst [])) (a := o2) (o := .lst [])) n3
        have nO1 : o1 ≠ O := ne_of_none (((same_new n2).trans (same_new n3)) _ _ (upd_same (H := G) (a := o1) (o := .lst []))) nO
        have nO2 : o2 ≠ O := ne_of_none (same_new n3 _ _ (upd_same (H := upd G o1 (.lst [])) (a := o2) (o := .lst []))) nO
        have nO3 : o3 ≠ O := ne_of_none (upd_same (H := upd (upd G o1 (.lst [])) o2 (.lst [])) (a := o3) (o := .lst [])) nO
        have T7 := Tg.ext w4
        generalize upd (upd (upd (upd G o1 (.lst [])) o2 (.lst [])) o3 (.lst [])) O (.lst [V.ref o1, .ref o2, .ref o3]) = G7 at *
        have sB : Same (dT G) G7 := (dT_same G).trans w4
        have b6 := b6.mono (m := 2000) (by decide)
        have bT : Three (dT G) b 2000 := three_dT b6
        obtain ⟨os, hos⟩ : ∃ os : List Addr, os = [o1, o2, o3] := ⟨_, rfl⟩
        have mos : ∀ x ∈ os, dT G x = none ∧ x ≠ O ∧ x ≠ b := fun x hx => by
          have go : dT G x = none := by
            rw [hos] at hx
            rcases List.mem_cons.mp hx with rfl | hx
            · exact m1
            · rcases List.mem_cons.mp hx with rfl | hx
              · exact m2
              · rw [List.mem_singleton.mp hx]
                exact m3
          refine ⟨go, ?_, fun z => ?_⟩
          · rw [hos] at hx
            rcases List.mem_cons.mp hx with rfl | hx
            · exact nO1
            · rcases List.mem_cons.mp hx with rfl | hx
              · exact nO2
              · rw [List.mem_singleton.mp hx]
                exact nO3
          · obtain ⟨_, _, _, h0, _⟩ := bT
            rw [z, h0] at go
            cases go
        have nOb : O ≠ b := fun z => by
          obtain ⟨_, _, _, h0, _⟩ := bT
          rw [z, h0] at mO
          cases mO
        have dis : ∀ (i j : Nat) (x : Addr), os[i]? = some x → os[j]? = some x → i = j := fun i j x h1 h2 => by
          have nd : os.Nodup := by
            rw [hos]
            simp [n12, n13, n23]
          exact (List.getElem?_inj (List.getElem?_eq_some_iff.mp h1).1 nd).mp (h1.trans h2.symm)
        have gos : ∀ x ∈ os, ∃ xs : List V, G7 x = some (.lst xs) ∧ xs.length ≤ 200 := fun x hx => by
          rw [hos] at hx
          rcases List.mem_cons.mp hx with rfl | hx
          · exact ⟨_, g1, by decide⟩
          · rcases List.mem_cons.mp hx with rfl | hx
            · exact ⟨_, g2, by decide⟩
            · rw [List.mem_singleton.mp hx]
              exact ⟨_, g3, by decide⟩
        have eos : [V.ref o1, .ref o2, .ref o3] = os.map V.ref := by rw [hos]; rfl
        rw [eos] at gO
        have kept0 : ∃ kk : Str, kk = PyData.shown (casesD v w2) := ⟨_, rfl⟩
        obtain ⟨kk, hkk⟩ := kept0
        rw [← hkk]
        clear w1 w2s w3 w4 g1 g2 g3 m1 m2 m3 n12 n13 n23 nO1 nO2 nO3 n1 n2 n3 nO
        refine ⟨_, rfl, by decide, by decide, for_range (fun i σ F => ∃ s6 s7 s8 s10 s11 s12 s13 : Option V, σ = [some (.ref a), some (.int ((0 : Int) + i0)), some (.ref b), some (.ref Z), some (.str kk), some (.ref E), s6, s7, s8, some (.ref O), s10, s11, s12, s13] ∧ But b (dT G) F ∧ Three F b (2000 + i) ∧ LamX.Tabs TT F ∧ F O = some (.lst (os.map V.ref)) ∧ ∀ x ∈ os, ∃ xs : List V, F x = some (.lst xs) ∧ xs.length ≤ 200) ⟨_, _, _, _, _, _, _, rfl, But.of sB, three_go b6 sB, T7, gO, gos⟩ (fun i σ F hi h => ?_) (fun σ F h => ?_)⟩
        · obtain ⟨s6, s7, s8, s10, s11, s12, s13, rfl, tF, bF, TF, gF, oF⟩ := h
          have hi4 : i < 4 := by simpa using hi
          refine ⟨_, rfl, b, 2, _, rfl, bF, by decide, by decide, by omega, fun r F1 r0 r1 bF1 tF1 => ?_⟩
          have TF1 := tabs_but TF bF tF1
          have tFF := tF.trans tF1
          have gF1 := tF1 _ _ nOb gF
          have oF1 : ∀ x ∈ os, ∃ xs : List V, F1 x = some (.lst xs) ∧ xs.length ≤ 200 := fun x hx => by
            obtain ⟨xs, h1, h2⟩ := oF x hx
            exact ⟨xs, tF1 _ _ (mos x hx).2.2 h1, h2⟩
          obtain ⟨j, u, hj, hu, eu⟩ : ∃ (j : Nat) (u : Cv), r = (j : Int) ∧ [v, w2][j]? = some u ∧ CaseV G b u := by
            have : r = 0 ∨ r = 1 := by omega
            rcases this with rfl | rfl
            · exact ⟨0, v, rfl, rfl, Cv6⟩
            · exact ⟨1, w2, rfl, rfl, Cw6⟩
          have hZ1 : F1 Z = some (.lst [V.ref v.T, V.ref w2.T]) := tFF _ _ nZb (dT_of hZ6 fun _ z => by cases z)
          have hE1 : F1 E = some (.lst (ts.map V.str)) := tFF _ _ nEb (dT_of hE fun _ z => by cases z)
          have hat : atI [V.ref v.T, V.ref w2.T] r = some (.ref u.T) := by
            rw [hj]
            refine atI_nat ?_
            have e : [V.ref v.T, V.ref w2.T] = [v, w2].map fun u => V.ref u.T := rfl
            rw [e, List.getElem?_map, hu]
            rfl
          obtain ⟨tu, htu⟩ : ∃ tu, ts[j]? = some tu := ⟨_, List.getElem?_eq_getElem (by have := (List.getElem?_eq_some_iff.mp hu).1; rw [lts]; exact this)⟩
          have tolu := told j tu u htu hu
          have caseAt : ∀ {X : Hp}, But b (dT G) X → CaseV X b u := fun {X} e => eu.dT.but bT e
          obtain ⟨zs, hzs⟩ : ∃ zs : List Addr, zs = [u.p, u.a, u.c] := ⟨_, rfl⟩
          obtain ⟨W, hWd⟩ : ∃ W : List (List V), W = [u.as.map V.ref, refs u.L, refs u.M] := ⟨_, rfl⟩
          have lzs : zs.length = 3 := by rw [hzs]; rfl
          have los : os.length = 3 := by rw [hos]; rfl
          have lW : W.length = 3 := by rw [hWd]; rfl
          have hW : ∀ (k : Nat) (z : Addr) (y : List V), zs[k]? = some z → W[k]? = some y → dT G z = some (.lst y) ∧ z ≠ b ∧ y.length ≤ 60 := fun k z y h1 h2 => by
            have c := eu.dT
            have c0 := eu
            rw [hzs] at h1
            rw [hWd] at h2
            match k, h1, h2 with
            | 0, h1, h2 =>
              cases h1
              cases h2
              exact ⟨c.pl, c0.nb.1, by rw [List.length_map, c0.pr.1]; exact c0.pn⟩
            | 1, h1, h2 =>
              cases h1
              cases h2
              exact ⟨c.al, c0.nb.2.1, by rw [List.length_map]; have := c0.an; omega⟩
            | 2, h1, h2 =>
              cases h1
              cases h2
              exact ⟨c.cl, c0.nb.2.2, by rw [List.length_map]; exact c0.cn⟩
            | k + 3, h1, _ => cases h1
          have tupU : F1 u.T = some (.tup (zs.map V.ref)) := by rw [hzs]; exact (caseAt tFF).tup
          have nuT : ∀ {X : Hp}, But b (dT G) X → X u.T = some (.tup (zs.map V.ref)) := fun {X} e => by rw [hzs]; exact (caseAt e).tup
          refine ⟨_, rfl, _, rfl, _, rfl, Z, _, _, _, rfl, rfl, SqL.of hZ1, hat, O, u.T, os.map V.ref, zs.map V.ref, rfl, SqL.of gF1, SqT.of tupU, for_zm (K := K) (a := O) (b := u.T) (xs := os.map V.ref) (ys := zs.map V.ref) (fun k σ X => ∃ s12 s13 : Option V, σ = [some (.ref a), some (.int ((0 : Int) + i0)), some (.ref b), some (.ref Z), some (.str kk), some (.ref E), s6, s7, s8, some (.ref O), some (.int ((0 : Int) + i)), some (.int r), s12, s13] ∧ But b (dT G) X ∧ Three X b (2000 + i + 1) ∧ LamX.Tabs TT X ∧ X O = some (.lst (os.map V.ref)) ∧ ∀ (m : Nat) (x : Addr) (y : List V), os[m]? = some x → W[m]? = some y → ∃ xs : List V, X x = some (.lst xs) ∧ xs.length ≤ 200 ∧ (m < k → xs = y)) ⟨_, _, rfl, tFF, bF1, TF1, gF1, fun m x y h1 h2 => ?_⟩ (fun k σ X h => ?_) (fun k x y σ X T hx hy h nT => ?_) (fun σ X h => ?_)⟩
          · obtain ⟨xs, a1, a2⟩ := oF1 x (List.mem_of_getElem? h1)
            exact ⟨xs, a1, a2, fun z => by cases z⟩
          · obtain ⟨_, _, rfl, t0, _, _, g0, _⟩ := h
            exact ⟨SqL.of g0, SqT.of (nuT t0)⟩
          · obtain ⟨s12, s13, rfl, t0, bX, TX, g0, oX⟩ := h
            rw [List.getElem?_map] at hx hy
            obtain ⟨own, ho, rfl⟩ := Option.map_eq_some_iff.mp hx
            obtain ⟨oth, hz, rfl⟩ := Option.map_eq_some_iff.mp hy
            have hk : k < 3 := by rw [← los]; exact (List.getElem?_eq_some_iff.mp ho).1
            obtain ⟨y, hy2⟩ : ∃ y, W[k]? = some y := ⟨_, List.getElem?_eq_getElem (by rw [lW]; exact hk)⟩
            obtain ⟨z1, z2, z3⟩ := hW k oth y hz hy2
            obtain ⟨xs, x1, x2, _⟩ := oX k own y ho hy2
            have m0 := mos own (List.mem_of_getElem? ho)
            have sT := same_new (o := .tup [V.ref own, V.ref oth]) nT
            have hoth : X oth = some (.lst y) := t0 _ _ z2 z1
            have noo : oth ≠ own := fun e => by rw [e, m0.1] at z1; cases z1
            refine ⟨T, _, rfl, SqT.of upd_same, rfl, _, _, rfl, _, _, rfl, rfl, ?_⟩
            refine ⟨_, rfl, .inl ⟨rfl, _, SqL.of (sT _ _ x1)⟩, own, _, rfl, rfl, sT _ _ x1, ?_⟩
            refine ⟨_, rfl, .inl ⟨rfl, _, SqL.of upd_same⟩, _, rfl, own, oth, _, y, rfl, rfl, upd_same, ?_, ?_, ?_⟩
            · rw [upd_ne noo]
              exact sT _ _ hoth
            · show 0 + y.length ≤ sizeLine
              exact size_small (by omega)
            rw [upd_upd]
            have far : ∀ {q : Addr} {o : HO}, q ≠ own → X q = some o → upd (upd X T (.tup [V.ref own, V.ref oth])) own (.lst ([] ++ y)) q = some o := fun {q o} n e => by
              rw [upd_ne n]
              exact sT _ _ e
            refine ⟨_, _, rfl, fun q o nq hq => ?_, ?_, ?_, far m0.2.1.symm g0, fun m x' y' h1 h2 => ?_⟩
            · exact far (fun e => by rw [e, m0.1] at hq; cases hq) (t0 q o nq hq)
            · obtain ⟨x0, c0, zz, h0, r0⟩ := bX
              exact ⟨x0, c0, zz, far m0.2.2.symm h0, r0⟩
            · exact tabs_upd (TX.ext sT) (sT _ _ x1)
            · by_cases cm : m = k
              · rw [cm] at h1 h2
                rw [ho] at h1
                cases h1
                rw [hy2] at h2
                cases h2
                exact ⟨y, upd_same, by omega, fun _ => rfl⟩
              · obtain ⟨xs', a1, a2, a3⟩ := oX m x' y' h1 h2
                have nx : x' ≠ own := fun e => by
                  rw [e] at h1
                  exact cm (dis m k own h1 ho)
                exact ⟨xs', far nx a1, a2, fun lt => a3 (by omega)⟩
          · obtain ⟨s12, s13, rfl, t0, bX, TX, g0, oX⟩ := h
            rw [List.length_map, List.length_map, los, lzs] at oX
            have cX := caseAt t0
            have p0 : X o1 = some (.lst (u.as.map V.ref)) := by
              obtain ⟨xs, a1, _, a3⟩ := oX 0 o1 (u.as.map V.ref) (by rw [hos]; rfl) (by rw [hWd]; rfl)
              rw [a1, a3 (by decide)]
            have p1 : X o2 = some (.lst (refs u.L)) := by
              obtain ⟨xs, a1, _, a3⟩ := oX 1 o2 (refs u.L) (by rw [hos]; rfl) (by rw [hWd]; rfl)
              rw [a1, a3 (by decide)]
            have p2 : X o3 = some (.lst (refs u.M)) := by
              obtain ⟨xs, a1, _, a3⟩ := oX 2 o3 (refs u.M) (by rw [hos]; rfl) (by rw [hWd]; rfl)
              rw [a1, a3 (by decide)]
            have g0' : X O = some (.lst [V.ref o1, .ref o2, .ref o3]) := by rw [g0, eos]
            refine ⟨_, rfl, O, _, 0, _, rfl, rfl, SqL.of g0', rfl, _, rfl, O, _, 1, _, rfl, rfl, SqL.of g0', rfl, _, rfl, O, _, 2, _, rfl, rfl, SqL.of g0', rfl, ?_⟩
            refine ⟨o1, o2, o3, u.as, u.ps, u.L, u.M, rfl, p0, cX.pr, cX.po, cX.pn, p1, cX.ar, cX.an, cX.ao, p2, cX.cr, by have := cX.cn; omega, cX.co, TX, fun X2 t sX TX2 tt => ?_⟩
            have et : t = tu := told_one tt tolu
            have hEX : X E = some (.lst (ts.map V.str)) := t0 _ _ nEb (dT_of hE fun _ z => by cases z)
            have hZX : X Z = some (.lst [V.ref v.T, V.ref w2.T]) := t0 _ _ nZb (dT_of hZ6 fun _ z => by cases z)
            have hEX2 := sX _ _ (dT_of hEX fun _ z => by cases z)
            have hZX2 := sX _ _ (dT_of hZX fun _ z => by cases z)
            have cv2 : CaseV X2 b v := (Cv6.dT.but bT t0).go sX
            have cw2 : CaseV X2 b w2 := (Cw6.dT.but bT t0).go sX
            refine ⟨_, rfl, _, rfl, E, _, _, _, rfl, rfl, SqL.of hEX2, by rw [hj]; exact atI_nat (by rw [List.getElem?_map, htu]; rfl), rfl, ?_⟩
            have e1 : (!decide (V.str t = V.str tu)) = false := by
              rw [et]
              simp
            rw [e1]
            refine ⟨_, rfl, iteF ?_⟩
            have see2 := cases_seen cv2 cw2
            refine ⟨_, rfl, _, _, rfl, cases_dp hZX2 cv2 cw2, see2.1.1.1, Nat.le_trans see2.1.2.1 (by rw [sizeLine_eq]; decide), Nat.le_trans see2.2 (by decide), see2.1.1.2.1, _, rfl, rfl, ?_⟩
            have e2 : (!decide (V.str (PyData.shown (casesD v w2)) = V.str kk)) = false := by
              rw [hkk]
              simp
            rw [e2]
            refine ⟨_, rfl, iteF ⟨_, _, _, _, _, _, _, rfl, fun q o nq hq => sX _ _ (dT_of (t0 q o nq hq) (dT_some hq).2), (three_go bX sX).mono (by omega), TX2, sX _ _ (dT_of g0 fun _ z => by cases z), fun x hx => ?_⟩⟩
            obtain ⟨m, hm⟩ := List.getElem?_of_mem hx
            have lm : m < 3 := by rw [← los]; exact (List.getElem?_eq_some_iff.mp hm).1
            obtain ⟨xs, a1, a2, _⟩ := oX m x _ hm (List.getElem?_eq_getElem (by rw [lW]; exact lm))
            exact ⟨xs, sX _ _ (dT_of a1 fun _ z => by cases z), a2⟩
        · obtain ⟨s6, s7, s8, s10, s11, s12, s13, rfl, tF, bF, TF, gF, _⟩ := h
          exact ⟨_, _, _, _, _, _, _, _, _, _, _, _, _, rfl, fun x o hx => tF _ _ (fun z => by rw [z, nb0] at hx; cases hx) (dT_of (sm6 x o hx) (dT_some hx).2), TF⟩
end
set_option maxHeartbeats 0 in
theorem all_mk {l : PySem.W.OpenLaw} {w : World} {K : PySem.W.Frag} {h : Heap} {mg : Str → Option Value} {fa f0 f1 f2 f3 f4 f5 f6 f7 f8 f9 f10 f11 f12 f13 f14 f15 f16 f17 f18 f19 f20 : Addr} (X : K.In h) (G : h.Ns mainGlobals mg) (hfa : mg "law" = some (.ref fa))
    {od0 an0 od1 an1 od2 an2 od3 an3 od4 an4 od5 an5 od6 an6 od7 an7 od8 an8 od9 an9 od10 an10 od11 an11 od12 an12 od13 an13 od14 an14 od15 an15 od16 an16 od17 an17 od18 an18 od19 an19 od20 an20 : Option Addr} {sl0 sl1 sl2 sl3 sl4 sl5 sl6 sl7 sl8 sl9 sl10 sl11 sl12 sl13 sl14 sl15 sl16 sl17 sl18 sl19 sl20 : Array (Option Value)} {oc0 kV0 dc0 pm0 cd0 ct0 oc1 kV1 dc1 pm1 cd1 ct1 oc2 kV2 dc2 pm2 cd2 ct2 oc3 kV3 dc3 pm3 cd3 ct3 oc4 kV4 dc4 pm4 cd4 ct4 oc5 kV5 dc5 pm5 cd5 ct5 oc6 kV6 dc6 pm6 cd6 ct6 oc7 kV7 dc7 pm7 cd7 ct7 oc8 kV8 dc8 pm8 cd8 ct8 oc9 kV9 dc9 pm9 cd9 ct9 oc10 kV10 dc10 pm10 cd10 ct10 oc11 kV11 dc11 pm11 cd11 ct11 oc12 kV12 dc12 pm12 cd12 ct12 oc13 kV13 dc13 pm13 cd13 ct13 oc14 kV14 dc14 pm14 cd14 ct14 oc15 kV15 dc15 pm15 cd15 ct15 oc16 kV16 dc16 pm16 cd16 ct16 oc17 kV17 dc17 pm17 cd17 ct17 oc18 kV18 dc18 pm18 cd18 ct18 oc19 kV19 dc19 pm19 cd19 ct19 oc20 kV20 dc20 pm20 cd20 ct20 : Value}
    (a0 : PySem.W.nsIn K mainGlobals "_law_mix" = some (some (.ref f0))) (l0 : K.lookup f0 = some ⟨oc0, od0, .func (PySem.W.fnOf "_law_mix" "_law_mix" (defArgs s__law_mix) (defBody s__law_mix) (defScope s__law_mix) .none kV0 dc0 pm0 an0 cd0 ct0), sl0⟩) (c0 : PySem.W.codeIn K cd0 "_law_mix" = true) (k0 : PySem.W.keepIn K (.ref f0) = true)
    (a1 : PySem.W.nsIn K mainGlobals "_law_left" = some (some (.ref f1))) (l1 : K.lookup f1 = some ⟨oc1, od1, .func (PySem.W.fnOf "_law_left" "_law_left" (defArgs s__law_left) (defBody s__law_left) (defScope s__law_left) .none kV1 dc1 pm1 an1 cd1 ct1), sl1⟩) (c1 : PySem.W.codeIn K cd1 "_law_left" = true) (k1 : PySem.W.keepIn K (.ref f1) = true)
    (a2 : PySem.W.nsIn K mainGlobals "_law_pick" = some (some (.ref f2))) (l2 : K.lookup f2 = some ⟨oc2, od2, .func (PySem.W.fnOf "_law_pick" "_law_pick" (defArgs s__law_pick) (defBody s__law_pick) (defScope s__law_pick) .none kV2 dc2 pm2 an2 cd2 ct2), sl2⟩) (c2 : PySem.W.codeIn K cd2 "_law_pick" = true) (k2 : PySem.W.keepIn K (.ref f2) = true)
    (a3 : PySem.W.nsIn K mainGlobals "_law_prices" = some (some (.ref f3))) (l3 : K.lookup f3 = some ⟨oc3, od3, .func (PySem.W.fnOf "_law_prices" "_law_prices" (defArgs s__law_prices) (defBody s__law_prices) (defScope s__law_prices) .none kV3 dc3 pm3 an3 cd3 ct3), sl3⟩) (c3 : PySem.W.codeIn K cd3 "_law_prices" = true) (k3 : PySem.W.keepIn K (.ref f3) = true)
    (a4 : PySem.W.nsIn K mainGlobals "price_on" = some (some (.ref f4))) (l4 : K.lookup f4 = some ⟨oc4, od4, .func (PySem.W.fnOf "price_on" "price_on" (defArgs s_price_on) (defBody s_price_on) (defScope s_price_on) .none kV4 dc4 pm4 an4 cd4 ct4), sl4⟩) (c4 : PySem.W.codeIn K cd4 "price_on" = true) (k4 : PySem.W.keepIn K (.ref f4) = true)
    (a5 : PySem.W.nsIn K mainGlobals "falls_of" = some (some (.ref f5))) (l5 : K.lookup f5 = some ⟨oc5, od5, .func (PySem.W.fnOf "falls_of" "falls_of" (defArgs s_falls_of) (defBody s_falls_of) (defScope s_falls_of) .none kV5 dc5 pm5 an5 cd5 ct5), sl5⟩) (c5 : PySem.W.codeIn K cd5 "falls_of" = true) (k5 : PySem.W.keepIn K (.ref f5) = true)
    (a6 : PySem.W.nsIn K mainGlobals "least_since" = some (some (.ref f6))) (l6 : K.lookup f6 = some ⟨oc6, od6, .func (PySem.W.fnOf "least_since" "least_since" (defArgs s_least_since) (defBody s_least_since) (defScope s_least_since) .none kV6 dc6 pm6 an6 cd6 ct6), sl6⟩) (c6 : PySem.W.codeIn K cd6 "least_since" = true) (k6 : PySem.W.keepIn K (.ref f6) = true)
    (a7 : PySem.W.nsIn K mainGlobals "due_by" = some (some (.ref f7))) (l7 : K.lookup f7 = some ⟨oc7, od7, .func (PySem.W.fnOf "due_by" "due_by" (defArgs s_due_by) (defBody s_due_by) (defScope s_due_by) .none kV7 dc7 pm7 an7 cd7 ct7), sl7⟩) (c7 : PySem.W.codeIn K cd7 "due_by" = true) (k7 : PySem.W.keepIn K (.ref f7) = true)
    (a8 : PySem.W.nsIn K mainGlobals "come_by" = some (some (.ref f8))) (l8 : K.lookup f8 = some ⟨oc8, od8, .func (PySem.W.fnOf "come_by" "come_by" (defArgs s_come_by) (defBody s_come_by) (defScope s_come_by) .none kV8 dc8 pm8 an8 cd8 ct8), sl8⟩) (c8 : PySem.W.codeIn K cd8 "come_by" = true) (k8 : PySem.W.keepIn K (.ref f8) = true)
    (a9 : PySem.W.nsIn K mainGlobals "short_of" = some (some (.ref f9))) (l9 : K.lookup f9 = some ⟨oc9, od9, .func (PySem.W.fnOf "short_of" "short_of" (defArgs s_short_of) (defBody s_short_of) (defScope s_short_of) .none kV9 dc9 pm9 an9 cd9 ct9), sl9⟩) (c9 : PySem.W.codeIn K cd9 "short_of" = true) (k9 : PySem.W.keepIn K (.ref f9) = true)
    (a10 : PySem.W.nsIn K mainGlobals "can_pay" = some (some (.ref f10))) (l10 : K.lookup f10 = some ⟨oc10, od10, .func (PySem.W.fnOf "can_pay" "can_pay" (defArgs s_can_pay) (defBody s_can_pay) (defScope s_can_pay) .none kV10 dc10 pm10 an10 cd10 ct10), sl10⟩) (c10 : PySem.W.codeIn K cd10 "can_pay" = true) (k10 : PySem.W.keepIn K (.ref f10) = true)
    (a11 : PySem.W.nsIn K mainGlobals "_law_strewn" = some (some (.ref f11))) (l11 : K.lookup f11 = some ⟨oc11, od11, .func (PySem.W.fnOf "_law_strewn" "_law_strewn" (defArgs s__law_strewn) (defBody s__law_strewn) (defScope s__law_strewn) .none kV11 dc11 pm11 an11 cd11 ct11), sl11⟩) (c11 : PySem.W.codeIn K cd11 "_law_strewn" = true) (k11 : PySem.W.keepIn K (.ref f11) = true)
    (a12 : PySem.W.nsIn K mainGlobals "_law_names" = some (some (.ref f12))) (l12 : K.lookup f12 = some ⟨oc12, od12, .func (PySem.W.fnOf "_law_names" "_law_names" (defArgs s__law_names) (defBody s__law_names) (defScope s__law_names) .none kV12 dc12 pm12 an12 cd12 ct12), sl12⟩) (c12 : PySem.W.codeIn K cd12 "_law_names" = true) (k12 : PySem.W.keepIn K (.ref f12) = true)
    (a13 : PySem.W.nsIn K mainGlobals "_law_wants" = some (some (.ref f13))) (l13 : K.lookup f13 = some ⟨oc13, od13, .func (PySem.W.fnOf "_law_wants" "_law_wants" (defArgs s__law_wants) (defBody s__law_wants) (defScope s__law_wants) .none kV13 dc13 pm13 an13 cd13 ct13), sl13⟩) (c13 : PySem.W.codeIn K cd13 "_law_wants" = true) (k13 : PySem.W.keepIn K (.ref f13) = true)
    (a14 : PySem.W.nsIn K mainGlobals "_law_incomes" = some (some (.ref f14))) (l14 : K.lookup f14 = some ⟨oc14, od14, .func (PySem.W.fnOf "_law_incomes" "_law_incomes" (defArgs s__law_incomes) (defBody s__law_incomes) (defScope s__law_incomes) .none kV14 dc14 pm14 an14 cd14 ct14), sl14⟩) (c14 : PySem.W.codeIn K cd14 "_law_incomes" = true) (k14 : PySem.W.keepIn K (.ref f14) = true)
    (a15 : PySem.W.nsIn K mainGlobals "lesser_of" = some (some (.ref f15))) (l15 : K.lookup f15 = some ⟨oc15, od15, .func (PySem.W.fnOf "lesser_of" "lesser_of" (defArgs s_lesser_of) (defBody s_lesser_of) (defScope s_lesser_of) .none kV15 dc15 pm15 an15 cd15 ct15), sl15⟩) (c15 : PySem.W.codeIn K cd15 "lesser_of" = true) (k15 : PySem.W.keepIn K (.ref f15) = true)
    (a16 : PySem.W.nsIn K mainGlobals "most_with" = some (some (.ref f16))) (l16 : K.lookup f16 = some ⟨oc16, od16, .func (PySem.W.fnOf "most_with" "most_with" (defArgs s_most_with) (defBody s_most_with) (defScope s_most_with) .none kV16 dc16 pm16 an16 cd16 ct16), sl16⟩) (c16 : PySem.W.codeIn K cd16 "most_with" = true) (k16 : PySem.W.keepIn K (.ref f16) = true)
    (a17 : PySem.W.nsIn K mainGlobals "most_paid" = some (some (.ref f17))) (l17 : K.lookup f17 = some ⟨oc17, od17, .func (PySem.W.fnOf "most_paid" "most_paid" (defArgs s_most_paid) (defBody s_most_paid) (defScope s_most_paid) .none kV17 dc17 pm17 an17 cd17 ct17), sl17⟩) (c17 : PySem.W.codeIn K cd17 "most_paid" = true) (k17 : PySem.W.keepIn K (.ref f17) = true)
    (a18 : PySem.W.nsIn K mainGlobals "_law_told" = some (some (.ref f18))) (l18 : K.lookup f18 = some ⟨oc18, od18, .func (PySem.W.fnOf "_law_told" "_law_told" (defArgs s__law_told) (defBody s__law_told) (defScope s__law_told) .none kV18 dc18 pm18 an18 cd18 ct18), sl18⟩) (c18 : PySem.W.codeIn K cd18 "_law_told" = true) (k18 : PySem.W.keepIn K (.ref f18) = true)
    (a19 : PySem.W.nsIn K mainGlobals "_law_case" = some (some (.ref f19))) (l19 : K.lookup f19 = some ⟨oc19, od19, .func (PySem.W.fnOf "_law_case" "_law_case" (defArgs s__law_case) (defBody s__law_case) (defScope s__law_case) .none kV19 dc19 pm19 an19 cd19 ct19), sl19⟩) (c19 : PySem.W.codeIn K cd19 "_law_case" = true) (k19 : PySem.W.keepIn K (.ref f19) = true)
    (a20 : PySem.W.nsIn K mainGlobals "law" = some (some (.ref f20))) (l20 : K.lookup f20 = some ⟨oc20, od20, .func (PySem.W.fnOf "law" "law" (defArgs s_law) (defBody s_law) (defScope s_law) .none kV20 dc20 pm20 an20 cd20 ct20), sl20⟩) (c20 : PySem.W.codeIn K cd20 "law" = true) (k20 : PySem.W.keepIn K (.ref f20) = true)
    (z_len : PySem.W.nsIn K mainGlobals "len" = some none) (z_abs : PySem.W.nsIn K mainGlobals "abs" = some none) (z_int : PySem.W.nsIn K mainGlobals "int" = some none) (z_range : PySem.W.nsIn K mainGlobals "range" = some none) (z_zip : PySem.W.nsIn K mainGlobals "zip" = some none) (z_min : PySem.W.nsIn K mainGlobals "min" = some none) (z_sum : PySem.W.nsIn K mainGlobals "sum" = some none) (z_sorted : PySem.W.nsIn K mainGlobals "sorted" = some none) (z_list : PySem.W.nsIn K mainGlobals "list" = some none) (z_max : PySem.W.nsIn K mainGlobals "max" = some none) (z_repr : PySem.W.nsIn K mainGlobals "repr" = some none)
    {TC16 TP16 : Addr} (tc16 : cd16 = .ref TC16) (ti16 : PySem.W.tabIn K "most_with" = some (TC16, TP16)) (tn16 : K.lookup TP16 = none) (th16 : PySem.W.CodeHd h TC16 TP16 ∧ h.get? TP16 = some { cls := .none, data := .fields #[] }) :
    ∃ (fd : FuncData) (cs : List (Addr × Addr)) (sp : Sp), (∀ p ∈ cs, PySem.W.CodeHd h p.1 p.2 ∧ h.get? p.2 = some { cls := .none, data := .fields #[] }) ∧ (∀ p ∈ cs, K.lookup p.2 = none) ∧ (∀ (s : Shared) (v : Value), BindsTo s fd ⟨[v], []⟩ [("_law_script", v)]) ∧ (∀ (H : Hp) (a : Addr) (ns : List Int), ns.length ≤ 63 → (∀ p ∈ cs, H p.2 = some (.tbl #[])) → SqL K H a (ns.map V.int) → sp [.ref a] H (fun v _ => v = .bl true) fun _ _ _ => False) ∧ ∀ base : Heap, K.In base → base.Ns mainGlobals mg → (∀ p ∈ cs, LamX.TabB base mg p.1 p.2) → FnG l.prog w K mg base 6 fa fd ["_law_script"] sp := by
  have e := hfa.symm.trans (PySem.W.mg_of X G a20)
  cases e
  have F0 := fun_mk (st := s__law_mix) l0 c0 k0
  have b0 := F0.binds (ps := ["_law_cell", "_law_k"]) fun _ _ _ _ _ _ us hl => match us, hl with | [_, _], _ => rfl
  have g0 := PySem.W.mg_of X G a0
  have F1 := fun_mk (st := s__law_left) l1 c1 k1
  have b1 := F1.binds (ps := ["_law_script", "_law_k"]) fun _ _ _ _ _ _ us hl => match us, hl with | [_, _], _ => rfl
  have g1 := PySem.W.mg_of X G a1
  have F2 := fun_mk (st := s__law_pick) l2 c2 k2
  have b2 := F2.binds (ps := ["_law_left_here", "_law_many"]) fun _ _ _ _ _ _ us hl => match us, hl with | [_, _], _ => rfl
  have g2 := PySem.W.mg_of X G a2
  have F3 := fun_mk (st := s__law_prices) l3 c3 k3
  have b3 := F3.binds (ps := ["_law_left_here", "_law_many"]) fun _ _ _ _ _ _ us hl => match us, hl with | [_, _], _ => rfl
  have g3 := PySem.W.mg_of X G a3
  have F4 := fun_mk (st := s_price_on) l4 c4 k4
  have b4 := F4.binds (ps := ["prices", "day"]) fun _ _ _ _ _ _ us hl => match us, hl with | [_, _], _ => rfl
  have g4 := PySem.W.mg_of X G a4
  have F5 := fun_mk (st := s_falls_of) l5 c5 k5
  have b5 := F5.binds (ps := ["prices"]) fun _ _ _ _ _ _ us hl => match us, hl with | [_], _ => rfl
  have g5 := PySem.W.mg_of X G a5
  have F6 := fun_mk (st := s_least_since) l6 c6 k6
  have b6 := F6.binds (ps := ["prices", "begin", "within"]) fun _ _ _ _ _ _ us hl => match us, hl with | [_, _, _], _ => rfl
  have g6 := PySem.W.mg_of X G a6
  have F7 := fun_mk (st := s_due_by) l7 c7 k7
  have b7 := F7.binds (ps := ["wants", "day"]) fun _ _ _ _ _ _ us hl => match us, hl with | [_, _], _ => rfl
  have g7 := PySem.W.mg_of X G a7
  have F8 := fun_mk (st := s_come_by) l8 c8 k8
  have b8 := F8.binds (ps := ["incomes", "day"]) fun _ _ _ _ _ _ us hl => match us, hl with | [_, _], _ => rfl
  have g8 := PySem.W.mg_of X G a8
  have F9 := fun_mk (st := s_short_of) l9 c9 k9
  have b9 := F9.binds (ps := ["wants", "incomes"]) fun _ _ _ _ _ _ us hl => match us, hl with | [_, _], _ => rfl
  have g9 := PySem.W.mg_of X G a9
  have F10 := fun_mk (st := s_can_pay) l10 c10 k10
  have b10 := F10.binds (ps := ["wants", "incomes", "names"]) fun _ _ _ _ _ _ us hl => match us, hl with | [_, _, _], _ => rfl
  have g10 := PySem.W.mg_of X G a10
  have F11 := fun_mk (st := s__law_strewn) l11 c11 k11
  have b11 := F11.binds (ps := ["_law_left_here", "_law_some"]) fun _ _ _ _ _ _ us hl => match us, hl with | [_, _], _ => rfl
  have g11 := PySem.W.mg_of X G a11
  have F12 := fun_mk (st := s__law_names) l12 c12 k12
  have b12 := F12.binds (ps := ["_law_left_here", "_law_many"]) fun _ _ _ _ _ _ us hl => match us, hl with | [_, _], _ => rfl
  have g12 := PySem.W.mg_of X G a12
  have F13 := fun_mk (st := s__law_wants) l13 c13 k13
  have b13 := F13.binds (ps := ["_law_left_here", "_law_many"]) fun _ _ _ _ _ _ us hl => match us, hl with | [_, _], _ => rfl
  have g13 := PySem.W.mg_of X G a13
  have F14 := fun_mk (st := s__law_incomes) l14 c14 k14
  have b14 := F14.binds (ps := ["_law_left_here", "_law_wants_here", "_law_many"]) fun _ _ _ _ _ _ us hl => match us, hl with | [_, _, _], _ => rfl
  have g14 := PySem.W.mg_of X G a14
  have F15 := fun_mk (st := s_lesser_of) l15 c15 k15
  have b15 := F15.binds (ps := ["one", "other"]) fun _ _ _ _ _ _ us hl => match us, hl with | [_, _], _ => rfl
  have g15 := PySem.W.mg_of X G a15
  have F16 := fun_mk (st := s_most_with) l16 c16 k16
  have b16 := F16.binds (ps := ["wants", "incomes", "names"]) fun _ _ _ _ _ _ us hl => match us, hl with | [_, _, _], _ => rfl
  have g16 := PySem.W.mg_of X G a16
  have F17 := fun_mk (st := s_most_paid) l17 c17 k17
  have b17 := F17.binds (ps := ["wants", "incomes"]) fun _ _ _ _ _ _ us hl => match us, hl with | [_, _], _ => rfl
  have g17 := PySem.W.mg_of X G a17
  have F18 := fun_mk (st := s__law_told) l18 c18 k18
  have b18 := F18.binds (ps := ["_law_prices_here", "_law_wants_here", "_law_incomes_here"]) fun _ _ _ _ _ _ us hl => match us, hl with | [_, _, _], _ => rfl
  have g18 := PySem.W.mg_of X G a18
  have F19 := fun_mk (st := s__law_case) l19 c19 k19
  have b19 := F19.binds (ps := ["_law_left_here", "_law_great"]) fun _ _ _ _ _ _ us hl => match us, hl with | [_, _], _ => rfl
  have g19 := PySem.W.mg_of X G a19
  have F20 := fun_mk (st := s_law) l20 c20 k20
  have m_len := PySem.W.mg_none_of X G z_len
  have m_abs := PySem.W.mg_none_of X G z_abs
  have m_int := PySem.W.mg_none_of X G z_int
  have m_range := PySem.W.mg_none_of X G z_range
  have m_zip := PySem.W.mg_none_of X G z_zip
  have m_min := PySem.W.mg_none_of X G z_min
  have m_sum := PySem.W.mg_none_of X G z_sum
  have m_sorted := PySem.W.mg_none_of X G z_sorted
  have m_list := PySem.W.mg_none_of X G z_list
  have m_max := PySem.W.mg_none_of X G z_max
  have m_repr := PySem.W.mg_none_of X G z_repr
  refine ⟨PySem.W.fnOf "law" "law" (defArgs s_law) (defBody s_law) (defScope s_law) .none kV20 dc20 pm20 an20 cd20 ct20, [(TC16, TP16)], sp_law K [(TP16, ("most_with.<locals>.<lambda>" : Str))], fun p hp => by
    rcases List.mem_singleton.mp hp with rfl
    exact th16, fun p hp => by
    rcases List.mem_singleton.mp hp with rfl
    exact tn16, fun s v => .of_eq rfl, fun H a ns hl hT hS => ⟨a, ns, rfl, hS, hl, fun p hp => ?_, fun _ => rfl⟩, fun base _ _ hB => ?_⟩
  · rcases List.mem_singleton.mp hp with rfl
    exact LamX.TabS.nil (hT (TC16, TP16) (List.mem_singleton.mpr rfl))
  have TB16 := hB (TC16, TP16) (List.mem_singleton.mpr rfl)
  have C__law_mix := ok__law_mix (P := l.prog) (w := w) (base := base) F0 g0 b0
  have C__law_left := ok__law_left (P := l.prog) (w := w) (base := base) F1 g1 b1 m_len m_abs m_int
  have C__law_pick := ok__law_pick (P := l.prog) (w := w) (base := base) F2 g2 b2 C__law_mix
  have C__law_prices := ok__law_prices (P := l.prog) (w := w) (base := base) F3 g3 b3 m_range C__law_pick
  have C_price_on := ok_price_on (P := l.prog) (w := w) (base := base) F4 g4 b4
  have C_falls_of := ok_falls_of (P := l.prog) (w := w) (base := base) F5 g5 b5 m_zip
  have C_least_since := ok_least_since (P := l.prog) (w := w) (base := base) F6 g6 b6 m_range m_min C_price_on
  have C_due_by := ok_due_by (P := l.prog) (w := w) (base := base) F7 g7 b7 m_sum
  have C_come_by := ok_come_by (P := l.prog) (w := w) (base := base) F8 g8 b8 m_sum
  have C_short_of := ok_short_of (P := l.prog) (w := w) (base := base) F9 g9 b9 m_sorted C_due_by C_come_by
  have C_can_pay := ok_can_pay (P := l.prog) (w := w) (base := base) F10 g10 b10 C_short_of
  have C__law_strewn := ok__law_strewn (P := l.prog) (w := w) (base := base) F11 g11 b11 m_list m_len C__law_pick
  have C__law_names := ok__law_names (P := l.prog) (w := w) (base := base) F12 g12 b12 m_range m_len C__law_pick
  have C__law_wants := ok__law_wants (P := l.prog) (w := w) (base := base) F13 g13 b13 C__law_pick C__law_names C__law_strewn
  have C__law_incomes := ok__law_incomes (P := l.prog) (w := w) (base := base) F14 g14 b14 m_sum m_int m_range m_len m_min m_max C__law_pick C__law_strewn
  have C_lesser_of := ok_lesser_of (P := l.prog) (w := w) (base := base) F15 g15 b15 m_min
  have C_most_with := ok_most_with (P := l.prog) (w := w) (base := base) (TT := [(TP16, ("most_with.<locals>.<lambda>" : Str))]) F16 g16 b16 tc16 TB16 (List.mem_singleton.mpr rfl) (fun p hp _ => by rw [List.mem_singleton.mp hp]) m_sorted m_max m_list C_come_by C_lesser_of
  have C_most_paid := ok_most_paid (P := l.prog) (w := w) (base := base) (TT := [(TP16, ("most_with.<locals>.<lambda>" : Str))]) F17 g17 b17 m_sorted C_most_with
  have C__law_told := ok__law_told (P := l.prog) (w := w) (base := base) (TT := [(TP16, ("most_with.<locals>.<lambda>" : Str))]) F18 g18 b18 m_sorted m_repr C_most_paid C_short_of C_falls_of C_can_pay C_least_since C_price_on
  have C__law_case := ok__law_case (P := l.prog) (w := w) (base := base) F19 g19 b19 m_int m_len C__law_wants C__law_pick C__law_prices C__law_incomes
  exact ok_law (TT := [(TP16, ("most_with.<locals>.<lambda>" : Str))]) F20 m_range m_max m_min m_len m_repr m_zip C__law_left C__law_case C__law_pick C__law_told
end Pw
open PySem PySem.W PyProof.Rows
set_option maxHeartbeats 0 in
theorem PySem.Challenge.cw_partwares_k36_prices_and_purses_at_their_holds : PySem.Challenge.rw_partwares_k36_prices_and_purses_at_their.Holds := by
  w_on; o_law; k_head; (case hw => w_witness2)
  k_fill
  refine Pw.walk_ofGT (l := PySem.Challenge.rw_partwares_k36_prices_and_purses_at_their) (n := 63) (k := 6) (x := "_law_script") rfl (by decide) rfl ⟨rfl, by decide, by decide⟩ (fun w h Y => PySem.W.km_in_of Y) ?F
  case F =>
    intro w mg fa h Y KX G hmg
    refine' Pw.all_mk KX G hmg ?a0 ?l0 ?c0 ?k0 ?a1 ?l1 ?c1 ?k1 ?a2 ?l2 ?c2 ?k2 ?a3 ?l3 ?c3 ?k3 ?a4 ?l4 ?c4 ?k4 ?a5 ?l5 ?c5 ?k5 ?a6 ?l6 ?c6 ?k6 ?a7 ?l7 ?c7 ?k7 ?a8 ?l8 ?c8 ?k8 ?a9 ?l9 ?c9 ?k9 ?a10 ?l10 ?c10 ?k10 ?a11 ?l11 ?c11 ?k11 ?a12 ?l12 ?c12 ?k12 ?a13 ?l13 ?c13 ?k13 ?a14 ?l14 ?c14 ?k14 ?a15 ?l15 ?c15 ?k15 ?a16 ?l16 ?c16 ?k16 ?a17 ?l17 ?c17 ?k17 ?a18 ?l18 ?c18 ?k18 ?a19 ?l19 ?c19 ?k19 ?a20 ?l20 ?c20 ?k20 ?z_len ?z_abs ?z_int ?z_range ?z_zip ?z_min ?z_sum ?z_sorted ?z_list ?z_max ?z_repr ?tc16 ?ti16 ?tn16 ?th16
    (case a0 => k_is); (case l0 => k_is); (case c0 => k_is); (case k0 => k_is); (case a1 => k_is); (case l1 => k_is); (case c1 => k_is); (case k1 => k_is); (case a2 => k_is); (case l2 => k_is); (case c2 => k_is); (case k2 => k_is); (case a3 => k_is); (case l3 => k_is); (case c3 => k_is); (case k3 => k_is); (case a4 => k_is); (case l4 => k_is); (case c4 => k_is); (case k4 => k_is); (case a5 => k_is); (case l5 => k_is); (case c5 => k_is); (case k5 => k_is); (case a6 => k_is); (case l6 => k_is); (case c6 => k_is); (case k6 => k_is); (case a7 => k_is); (case l7 => k_is); (case c7 => k_is); (case k7 => k_is); (case a8 => k_is); (case l8 => k_is); (case c8 => k_is); (case k8 => k_is); (case a9 => k_is); (case l9 => k_is); (case c9 => k_is); (case k9 => k_is); (case a10 => k_is); (case l10 => k_is); (case c10 => k_is); (case k10 => k_is); (case a11 => k_is); (case l11 => k_is); (case c11 => k_is); (case k11 => k_is); (case a12 => k_is); (case l12 => k_is); (case c12 => k_is); (case k12 => k_is); (case a13 => k_is); (case l13 => k_is); (case c13 => k_is); (case k13 => k_is); (case a14 => k_is); (case l14 => k_is); (case c14 => k_is); (case k14 => k_is); (case a15 => k_is); (case l15 => k_is); (case c15 => k_is); (case k15 => k_is); (case a16 => k_is); (case l16 => k_is); (case c16 => k_is); (case k16 => k_is); (case a17 => k_is); (case l17 => k_is); (case c17 => k_is); (case k17 => k_is); (case a18 => k_is); (case l18 => k_is); (case c18 => k_is); (case k18 => k_is); (case a19 => k_is); (case l19 => k_is); (case c19 => k_is); (case k19 => k_is); (case a20 => k_is); (case l20 => k_is); (case c20 => k_is); (case k20 => k_is); (case z_len => k_is); (case z_abs => k_is); (case z_int => k_is); (case z_range => k_is); (case z_zip => k_is); (case z_min => k_is); (case z_sum => k_is); (case z_sorted => k_is); (case z_list => k_is); (case z_max => k_is); (case z_repr => k_is); (case tc16 => rfl); (case ti16 => rfl); (case tn16 => rfl); (case th16 => exact ⟨PySem.W.codeHd_of_K KX (by first | rfl | kernel_rfl), PySem.W.km_tabs_of Y _ (by decide +kernel)⟩)
