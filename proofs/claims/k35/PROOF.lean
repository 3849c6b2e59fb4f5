import PyProof.Rows.All
import Wide.All
import OpenK.AllK
import Wide.FinOn
import HandS.Base
import HandS.Call
import HandS.List
import HandS.Comp
import HandS.Ends
import HandS.Iter
import HandS.Text
import HandS.Words
import HandS.WordsList
import HandS.IsInst
import HandS.Style
import HandS.Walk
import HandS.Defaults
import HandS.TupMul
import HandS.Zip
import HandS.More
import HandS.TupAny
import HandS.Set
import HandS.Strs
import HandS.SetBool
import HandS.SetFor
import HandS.SortInts
import PyProof.Rows.SortShellAny
import HandS.MakeKw
import HandS.SortKw
import KE.DatumOrd
import HandS.Lambda
import HandS.EndTab
import KE.SortKeyHeap
import HandS.Star
import HandS.DictComp
import HandS.Conv
import KE.KDictSum
import HandS.Dict
import HandS.StrMore
import KE.GoesEnum
import KE.GoesMore
import HandS.SortRule
import PyProof.Claim2Refuses
import HandS.Small
import PySem.Challenge.RW_partwares_k35_purses_called_otherwise
set_option Elab.async false
set_option linter.all false
set_option maxRecDepth 100000
namespace Pw
open PySem PySem.Spec PyProof.Rows L2
/-! ### a def of the text by its promise, its address left aside -/
structure CF (P : Program) (w : World) (K : PySem.W.Frag) (mg : Str → Option Value) (base : Heap) (k : Nat) (x : Str) (ps : List Str) (sp : Sp) : Prop where
  ex : ∃ (f : Addr) (fd : FuncData), FnOk P w K mg base CX0 k f fd ps sp ∧ mg x = some (.ref f) ∧ PySem.W.keepIn K (.ref f) = true ∧ Binds K fd ps []
theorem pe_cf {X : Cx} {k : Nat} {x : Str} {ps : List Str} {sp : Sp} {e : Expr} {es : List Expr} {t : TA} {p pos : Pos} (C : CF X.prog X.w X.K X.mg X.base k x ps sp) (hr : Room k X.A) (hg : Gl X x) (ha : PA X (e :: es) t)
    (hdb : (x == ("__debug__" : Str)) = false := by decide) (he : starEach (e :: es) X.env = (false, eval e X.env) :: starEach es X.env := by rfl) (hpl : (backTo pos (starEach es X.env)).any (·.1) = false := by rfl) :
    PE X (.Call (.Name x p) (e :: es) [] pos) (tCall sp [] E0 t) := by
  obtain ⟨f, fd, F, g, kp, b⟩ := C.ex
  exact pe_call F hr hg g kp b .nil pass0 ha hdb he hpl
theorem pe_cf0 {X : Cx} {k : Nat} {x : Str} {sp : Sp} {p pos : Pos} (C : CF X.prog X.w X.K X.mg X.base k x [] sp) (hr : Room k X.A) (hg : Gl X x) (hdb : (x == ("__debug__" : Str)) = false := by decide) : PE X (.Call (.Name x p) [] [] pos) (tCall sp [] E0 tNil) := by
  obtain ⟨f, fd, F, g, kp, b⟩ := C.ex
  exact pe_call0 F hr hg g kp b .nil pass0 hdb
/-! ### the rules with their written part named (within a comprehension it must not hang on the block) -/
section
variable (K : PySem.W.Frag) {X : Cx}
theorem kk_isi (h : X.K = K := by rfl) : CallR X (.builtin "isinstance") (rIsi K) := h ▸ call_isi
theorem kk_isiT (h : X.K = K := by rfl) : CallR X (.builtin "isinstance") (rIsiT K) := h ▸ call_isiT
theorem kk_len (h : X.K = K := by rfl) : CallR X (.builtin "len") (fun xs H Q => ∃ p ys, xs = [.ref p] ∧ (SqL K H p ys ∨ SqT K H p ys) ∧ Q (.int ys.length) H) := h ▸ call_len_seq
theorem kk_list (h : X.K = K := by rfl) : CallR X (.type "list") (fun xs H Q => ∃ p ys, xs = [.ref p] ∧ (SqL K H p ys ∨ SqT K H p ys) ∧ ∀ l, H l = none → Q (.ref l) (upd H l (.lst ys))) := h ▸ call_list_of
theorem kk_tuple (h : X.K = K := by rfl) : CallR X (.type "tuple") (fun xs H Q => ∃ p ys, xs = [.ref p] ∧ ((SqL K H p ys ∧ ∀ l, H l = none → Q (.ref l) (upd H l (.tup ys))) ∨ (SqT K H p ys ∧ Q (.ref p) H))) := h ▸ call_tuple_of
theorem kk_sum (hc : X.calm = true) (h : X.K = K := by rfl) : CallR X (.builtin "sum") (rSum K) := h ▸ cr_sum hc
theorem kk_max (hc : X.calm = true) (h : X.K = K := by rfl) : CallR X (.builtin "max") (rMax K) := h ▸ cr_max hc
theorem kk_min (hc : X.calm = true) (h : X.K = K := by rfl) : CallR X (.builtin "min") (rMin K) := h ▸ cr_min hc
theorem kk_any (hc : X.calm = true) (h : X.K = K := by rfl) : CallR X (.builtin "any") (rAny K) := h ▸ cr_any hc
theorem kk_all (hc : X.calm = true) (h : X.K = K := by rfl) : CallR X (.builtin "all") (rAll K) := h ▸ cr_all hc
theorem kk_sorted (h : X.K = K := by rfl) : CallR X (.builtin "sorted") (rSorted K) := h ▸ cr_sorted
theorem kk_ixl (h : X.K = K := by rfl) : IxR X (rIxL K) := h ▸ ix_list
theorem kk_ixt (h : X.K = K := by rfl) : IxR X (rIxT K) := h ▸ ix_tup
theorem kk_sll (h : X.K = K := by rfl) : SlR X (rSlL K) := h ▸ sl_list
theorem kk_slt (h : X.K = K := by rfl) : SlR X (rSlT K) := h ▸ sl_tup
theorem kk_in (h : X.K = K := by rfl) : OpR X (compareOp .In) (rIn K false) := h ▸ op_in_seq
theorem kk_nin (h : X.K = K := by rfl) : OpR X (compareOp .NotIn) (rIn K true) := h ▸ op_notIn_seq
theorem kk_catT (h : X.K = K := by rfl) : OpR X (binaryOp .Add) (rCatT K) := h ▸ op_catT
theorem kk_eqD (hu : X.A.units + 64 < cLine) (h : X.K = K := by rfl) : OpR X (compareOp .Eq) (rEqD K) := h ▸ op_eqD hu
theorem kk_neD (hu : X.A.units + 64 < cLine) (h : X.K = K := by rfl) : OpR X (compareOp .NotEq) (rNeD K) := h ▸ op_neD hu
theorem kk_revL {e : Expr} {te : TE} {k : Nat} {p1 p2 p3 pos : Pos} (he : PE X e te) (h : X.K = K := by rfl) : PE X (.Subscript e (.Slice none none (some (.UnaryOp .USub (.Constant (.int 1) k p1) p2)) p3) pos) (tRevL K te) := h ▸ pe_revL he
end
/-! ### heaps: all as it was, but one place -/
def But (b : Addr) (H H' : Hp) : Prop := ∀ c o, c ≠ b → H c = some o → H' c = some o
theorem But.refl (b : Addr) (H : Hp) : But b H H := fun _ _ _ h => h
theorem But.trans {b : Addr} {H H1 H2 : Hp} (x : But b H H1) (y : But b H1 H2) : But b H H2 := fun c o n h => y c o n (x c o n h)
theorem But.of {b : Addr} {H H1 : Hp} (x : Same H H1) : But b H H1 := fun c o _ h => x c o h
theorem But.upd {b : Addr} {H : Hp} {o : HO} : But b H (L2.upd H b o) := fun c u n h => by
  rw [upd_ne n]
  exact h
theorem But.new {b p : Addr} {H : Hp} {o : HO} (h : H p = none) : But b H (L2.upd H p o) := fun c u _ e => by
  rw [upd_ne (ne_of_none e h)]
  exact e
theorem same_new {H : Hp} {p : Addr} {o : HO} (h : H p = none) : Same H (upd H p o) := fun b x e => by
  rw [upd_ne (ne_of_none e h)]
  exact e
theorem But.seq {K : PySem.W.Frag} {b a : Addr} {H H' : Hp} {xs : List V} (e : But b H H') (n : a ≠ b) (h : SqL K H a xs) : SqL K H' a xs := by
  rcases h with (h | ⟨o, h⟩) | h
  · exact .inl (.inl (e _ _ n h))
  · exact .inl (.inr ⟨o, e _ _ n h⟩)
  · exact .inr h
/-! ### the law's box of three numbers -/
def Box (H : Hp) (b : Addr) (n : Int) : Prop := ∃ x y z : Int, H b = some (.lst [.int x, .int y, .int z]) ∧ 0 ≤ x ∧ 0 ≤ y ∧ y ≤ 3000000000 ∧ 0 ≤ z ∧ z ≤ n
theorem Box.mono {H : Hp} {b : Addr} {n m : Int} (h : Box H b n) (l : n ≤ m) : Box H b m := by
  obtain ⟨x, y, z, h0, h1, h2, h3, h4, h5⟩ := h
  exact ⟨x, y, z, h0, h1, h2, h3, h4, by omega⟩
theorem Box.same {H H' : Hp} {b : Addr} {n : Int} (e : Same H H') (h : Box H b n) : Box H' b n := by
  obtain ⟨x, y, z, h0, h1⟩ := h
  exact ⟨x, y, z, e _ _ h0, h1⟩
theorem Box.new {H : Hp} {b p : Addr} {o : HO} {n : Int} (h : Box H b n) (e : H p = none) : Box (upd H p o) b n := h.same (same_new e)
theorem Box.ne {H : Hp} {b p : Addr} {n : Int} (h : Box H b n) (e : H p = none) : p ≠ b := fun z => by
  obtain ⟨_, _, _, h0, _⟩ := h
  rw [z, h0] at e
  cases e
section
variable {K : PySem.W.Frag}
theorem at_int {ns : List Int} {k : Int} (h0 : 0 ≤ k) (h1 : k < ns.length) : ∃ c, atI (ns.map V.int) k = some (.int c) := by
  obtain ⟨j, rfl⟩ := Int.eq_ofNat_of_zero_le h0
  have hj : j < ns.length := by omega
  refine ⟨ns[j], atI_nat ?_⟩
  rw [List.getElem?_map, List.getElem?_eq_getElem hj]
  rfl
def partsL (p m : Int) : List Int := List.replicate (p % m).toNat (p / m + 1) ++ List.replicate (m - p % m).toNat (p / m)
theorem rep1 {α : Type} (k : Nat) (x : α) : (List.replicate k [x]).flatten = List.replicate k x := by
  induction k with
  | zero => rfl
  | succ n ih => rw [List.replicate_succ, List.flatten_cons, ih]; rfl
theorem size_small {n : Nat} (h : n ≤ 1000) : n ≤ sizeLine := Nat.le_of_lt (small1000 h)
theorem iteN {c A B : Prop} [Decidable c] (hc : ¬ c) (h : B) : if decide c = true then A else B := by
  rw [decide_eq_false hc]
  exact iteF h
theorem iteY {c A B : Prop} [Decidable c] (hc : c) (h : A) : if decide c = true then A else B := by
  rw [decide_eq_true hc]
  exact iteT h
theorem same_but {b : Addr} {H0 H1 H2 : Hp} (s : Same H0 H1) (n : H0 b = none) (t : But b H1 H2) : Same H0 H2 := fun c o h => t c o (fun e => by rw [e, n] at h; cases h) (s c o h)
theorem dpAll_ints {H : Hp} : ∀ ns : List Int, DpAll K H (ns.map V.int) (ns.map PyData.int)
  | [] => .nil
  | n :: r => .cons (.int n) (dpAll_ints r)
theorem dp_ints {H : Hp} {a : Addr} {ns : List Int} (h : SqL K H a (ns.map V.int)) : Dp K H (.ref a) (.list (ns.map PyData.int)) := .lst h (dpAll_ints ns)
theorem lay_ints : ∀ ns : List Int, PyData.canLayAll0 (ns.map PyData.int) = true
  | [] => by simp [PyData.canLayAll0]
  | n :: r => by simp [PyData.canLayAll0, PyData.canLay0, lay_ints r]
theorem depth_ints : ∀ ns : List Int, PyData.depthAll (ns.map PyData.int) ≤ 1
  | [] => by simp [PyData.depthAll]
  | n :: r => by
    have h := depth_ints r
    simp only [List.map_cons, PyData.depthAll, PyData.depth]
    omega
theorem sh_ints (ns : List Int) : SeqAt.shaped (.list (ns.map PyData.int)) = true := by
  have h1 := depth_ints ns
  have h2 : PyData.depth (.list (ns.map PyData.int)) ≤ 64 := by
    simp only [PyData.depth]
    omega
  show (PyData.canLay0 (.list (ns.map PyData.int)) && decide (PyData.depth (.list (ns.map PyData.int)) ≤ 64)) = true
  rw [Bool.and_eq_true]
  exact ⟨by simp only [PyData.canLay0]; exact lay_ints ns, decide_eq_true h2⟩
theorem eqv_same (ns : List Int) : PyData.eqv (.list (ns.map PyData.int)) (.list (ns.map PyData.int)) = true := SeqAt.eqv_refl _ (SeqAt.canLay_of_shaped (sh_ints ns))

theorem sum_rep (k : Nat) (x : Int) : (List.replicate k x).sum = k * x := by
  induction k with
  | zero => simp
  | succ n ih =>
    rw [List.replicate_succ, List.sum_cons, ih, Int.natCast_add, Int.add_mul]
    omega
theorem parts_len {p m : Int} (hm : 1 ≤ m) : ((partsL p m).length : Int) = m := by
  have hr0 := Int.emod_nonneg p (show m ≠ 0 by omega)
  have hr1 := Int.emod_lt_of_pos p (show 0 < m by omega)
  unfold partsL
  rw [List.length_append, List.length_replicate, List.length_replicate]
  omega
theorem parts_sum {p m : Int} (hm : 1 ≤ m) : (partsL p m).sum = p := by
  have hr0 := Int.emod_nonneg p (show m ≠ 0 by omega)
  have hr1 := Int.emod_lt_of_pos p (show 0 < m by omega)
  have e := Int.mul_ediv_add_emod p m
  unfold partsL
  rw [List.sum_append, sum_rep, sum_rep, Int.toNat_of_nonneg hr0, Int.toNat_of_nonneg (by omega), Int.sub_mul, Int.mul_add]
  omega
theorem parts_mem {p m x : Int} (h : x ∈ partsL p m) : x = p / m + 1 ∨ x = p / m := by
  unfold partsL at h
  rcases List.mem_append.mp h with h | h
  · exact .inl (List.eq_of_mem_replicate h)
  · exact .inr (List.eq_of_mem_replicate h)
theorem parts_fall (p m : Int) : (partsL p m).Pairwise (fun a b => b ≤ a) := by
  unfold partsL
  refine List.pairwise_append.mpr ⟨List.pairwise_replicate.mpr (.inr (Int.le_refl _)), List.pairwise_replicate.mpr (.inr (Int.le_refl _)), fun a ha b hb => ?_⟩
  rw [List.eq_of_mem_replicate ha, List.eq_of_mem_replicate hb]
  omega
theorem parts_sorted {p m : Int} {ns : List Int} (h : ns.Perm (partsL p m)) (hs : ns.Pairwise (· ≤ ·)) : ns.reverse = partsL p m := by
  refine List.Perm.eq_of_pairwise (le := fun a b => b ≤ a) (fun x y _ _ h1 h2 => Int.le_antisymm h2 h1) ?_ (parts_fall p m) ((List.reverse_perm ns).trans h)
  exact List.pairwise_reverse.mpr hs
theorem ends_of {ns : List Int} (h : 0 < ns.length) : ∃ x y, x ∈ ns ∧ y ∈ ns ∧ atI (ns.map V.int) 0 = some (.int x) ∧ atI (ns.map V.int) (-1) = some (.int y) := by
  cases ns with
  | nil => cases h
  | cons x r =>
    refine ⟨x, (x :: r).getLast (List.cons_ne_nil _ _), List.mem_cons_self, List.getLast_mem _, atI_nat (j := 0) rfl, ?_⟩
    have hz : ((x :: r).map V.int) = ((x :: r).dropLast.map V.int) ++ [.int ((x :: r).getLast (List.cons_ne_nil _ _))] := by
      rw [← List.map_singleton, ← List.map_append, List.dropLast_concat_getLast]
    rw [hz]
    exact atI_last _ _
theorem all_true (n : Nat) : (List.replicate n true).all id = true := by
  induction n with
  | zero => rfl
  | succ k ih => rw [List.replicate_succ, List.all_cons, ih]; rfl
theorem pick6 {r x : Int} (h0 : 0 ≤ r) (h1 : r < 6) (x0 : 0 ≤ x) (x1 : x ≤ 100) : ∃ c : Int, atI [V.int 0, .int 1, .int 50, .int 99, .int 100, .int x] r = some (.int c) ∧ 0 ≤ c ∧ c ≤ 100 := by
  have h : r = 0 ∨ r = 1 ∨ r = 2 ∨ r = 3 ∨ r = 4 ∨ r = 5 := by omega
  rcases h with rfl | rfl | rfl | rfl | rfl | rfl
  · exact ⟨0, rfl, by decide, by decide⟩
  · exact ⟨1, rfl, by decide, by decide⟩
  · exact ⟨50, rfl, by decide, by decide⟩
  · exact ⟨99, rfl, by decide, by decide⟩
  · exact ⟨100, rfl, by decide, by decide⟩
  · exact ⟨x, rfl, x0, x1⟩
end
end Pw
namespace Pw
open PySem PySem.Spec PyProof.Rows L2
/-! ### defs that are called where no repr is under way (so that the repr of a list, of a tuple, is its text) -/
structure FnG (P : Program) (w : World) (K : PySem.W.Frag) (mg : Str → Option Value) (base : Heap) (k : Nat) (f : Addr) (fd : FuncData) (ps : List Str) (sp : Sp) : Prop where
  many : ∀ vs H Q E, sp vs H Q E → vs.length = ps.length
  runs : ∀ (A : Around) (out : List Env) (s : Shared) (H : Hp) (ar : Args) (us : List Value) (vs : List V) (Q : VK) (E : XK), Room k A → A.guards = some [] → Env0 P w K mg base A out s H →
    BindsTo s fd ar (ps.zip us) → Vals vs us → sp vs H Q E → codeAny (model P w) A (.call (.ref f) ar) (CR CX0 out P w H s Q E) s
theorem FnG.of {P : Program} {w : World} {K : PySem.W.Frag} {mg : Str → Option Value} {base : Heap} {k : Nat} {f : Addr} {fd : FuncData} {ps : List Str} {sp : Sp} (F : FnOk P w K mg base CX0 k f fd ps sp) : FnG P w K mg base k f fd ps sp :=
  ⟨F.len, fun A out s H ar us vs Q E hr _ => F.run A out s H ar us vs Q E hr⟩
theorem guards_deeper {A : Around} {env : Env} (h : A.guards = some []) : (A.deeper env).guards = some [] := h
theorem okG {P : Program} {w : World} {K : PySem.W.Frag} {mg : Str → Option Value} {base : Heap} {x qual : Str} {st : Stmt} {f : Addr} {fd : FuncData} {N ps : List Str} {k : Nat} {sp : Sp} (F : Fun K x qual st f fd) (S : FnScope N ps (defScope st))
    (many : ∀ vs H Q E, sp vs H Q E → vs.length = ps.length)
    (walk : ∀ (cdv : Value) (A : Around) (out : List Env) (s : Shared) (H : Hp) (vs : List V) (Q : VK) (E : XK), Room k (A.deeper (envOfC qual (defScope st) s.heap.objs.size f cdv)) → (A.deeper (envOfC qual (defScope st) s.heap.objs.size f cdv)).guards = some [] → sp vs H Q E →
      ∃ t, PSs (cxOf CX0 P w K mg base N qual (defScope st) f cdv A out s H E).nox (defBody st) t ∧ t { nx := fun _ H' => Q .non H', rt := Q } (start N vs) H) : FnG P w K mg base (k + 1) f fd ps sp := by
  obtain ⟨oc, od, kV, dc, pm, an, cv, ct, ol, rfl, look, code⟩ := F.ex
  constructor
  · exact many
  · intro A out s H ar us vs Q E room gd env0 binds rel want
    have inK : K.In s.heap := env0.mod.kin.keeps (fun b o e => And.left (env0.bs b o e))
    have noLim : s.heap.NoLimit := env0.mod.nolimit.keeps (fun b o e => And.left (env0.bs b o e))
    apply codeAny_call_function room.depth (inK _ _ look) rfl S.co S.gen rfl (PySem.W.codeRec_of inK code)
    apply binds
    apply wpAny_newFunctionEnv_cells S.kind
    · rintro ⟨n, v⟩ hy
      cases S.par n (List.of_mem_zip hy).1 with
      | inl q => exact Or.inl q
      | inr q => exact Or.inr ⟨q, PySem.W.cellsFrom_some _ _ _ (Or.inl q)⟩
    · intro env he s1 inCall
      cases he
      refine And.intro (noLim.keeps inCall.toInCall.keep) (codeAny_func ?_)
      obtain ⟨t, term, reading⟩ := walk cv A out s H vs Q E (room.deeper _) (guards_deeper gd) want
      have start : Inv (cxOf CX0 P w K mg base N qual (defScope st) f cv A out s H E) [] (L2.start N vs) H s1 := inv_start S room.hd env0 (many _ _ _ _ want) rel inCall
      apply wpAny_mono (term.nox.run [] s1 (L2.start N vs) H _ start reading)
      · intro fl s' told
        cases fl with
        | ret u =>
          obtain ⟨v, σ', H', J, rv, q⟩ := told
          exact ⟨v, H', J.os, J.bare, J.base, J.hok, rv, q⟩
        | next =>
          obtain ⟨σ', H', J, q⟩ := told
          exact ⟨V.non, H', J.os, J.bare, J.base, J.hok, rfl, q⟩
        | brk => exact (And.right (Exists.choose_spec (Exists.choose_spec told))).elim
        | cont => exact (And.right (Exists.choose_spec (Exists.choose_spec told))).elim
      · intro e s' told
        exact told
structure CG (P : Program) (w : World) (K : PySem.W.Frag) (mg : Str → Option Value) (base : Heap) (k : Nat) (x : Str) (ps : List Str) (sp : Sp) : Prop where
  ex : ∃ (f : Addr) (fd : FuncData), FnG P w K mg base k f fd ps sp ∧ mg x = some (.ref f) ∧ PySem.W.keepIn K (.ref f) = true ∧ Binds K fd ps []
theorem CF.g {P : Program} {w : World} {K : PySem.W.Frag} {mg : Str → Option Value} {base : Heap} {k : Nat} {x : Str} {ps : List Str} {sp : Sp} (C : CF P w K mg base k x ps sp) : CG P w K mg base k x ps sp := by
  obtain ⟨f, fd, F, r⟩ := C.ex
  exact ⟨f, fd, FnG.of F, r⟩
theorem pe_cg {X : Cx} {k : Nat} {x : Str} {ps : List Str} {sp : Sp} {e : Expr} {es : List Expr} {t : TA} {p pos : Pos} (C : CG X.prog X.w X.K X.mg X.base k x ps sp) (hr : Room k X.A) (gd : X.A.guards = some []) (hg : Gl X x) (ha : PA X (e :: es) t)
    (hdb : (x == ("__debug__" : Str)) = false := by decide) (he : starEach (e :: es) X.env = (false, eval e X.env) :: starEach es X.env := by rfl) (hpl : (backTo pos (starEach es X.env)).any (·.1) = false := by rfl) :
    PE X (.Call (.Name x p) (e :: es) [] pos) (tCall sp [] E0 t) := by
  obtain ⟨f, fd, F, g, kp, b⟩ := C.ex
  constructor
  intro pins s σ H Q I h
  apply wpAny_Call_Name_kw (ld_glob I hg g ?_ hdb)
  apply PySem.W.callWith_K (h₀ := X.base) I.ok.mod.kin kp (thn (ha.run pos pins s σ H _ I h) ?_) he hpl
  rintro us s1 ⟨vs, H1, I1, r, q⟩
  refine ⟨I1.kIn, wpAny_call (codeAny_mono (F.runs X.A X.stack s1 H1 ⟨us, []⟩ (us ++ []) (vs ++ []) Q E0 hr gd I1.env0 (b s1 us I1.kIn ?_) (r.append .nil) q) ?_)⟩
  · have hl := F.many _ _ _ _ q
    rw [(r.append .nil).length] at hl
    exact hl
  · intro res s' told
    cases res with
    | error e => exact told.elim
    | ok fl =>
      cases fl with
      | ret u => exact I1.after told
      | next => exact told.elim
      | brk => exact told.elim
      | cont => exact told.elim
/-! ### repr of data -/
def rRepr (K : PySem.W.Frag) : List V → Hp → VK → Prop := fun xs H Q => ∃ (x : V) (d : PyData), xs = [x] ∧ Dp K H x d ∧ d.showable = true ∧ d.shown.length ≤ sizeLine ∧ d.depth ≤ 60 ∧ d.hasDict = false ∧ Q (.str d.shown) H
theorem kk_repr (K : PySem.W.Frag) {X : Cx} (gd : X.A.guards = some []) (hu : X.A.units + 64 < cLine) (h : X.K = K := by rfl) : CallR X (.builtin "repr") (rRepr K) := by
  subst h
  intro pins s σ H xs us Q I r want
  obtain ⟨x, d, rfl, hd, hs, hz, hp, hn, q⟩ := want
  obtain ⟨u, rfl, ru⟩ := vals1 r
  cases hd with
  | non =>
    cases (show u = Value.none from ru)
    simp only [PyData.shown] at q
    exact PySem.P.repr_of_none ⟨.str _, H, I.tok _, ⟨_, rfl⟩, q⟩
  | bl b =>
    cases (show u = Value.bool b from ru)
    simp only [PyData.shown] at q
    exact PySem.P.repr_of_bool ⟨.str _, H, I.tok _, ⟨_, rfl⟩, q⟩
  | int i =>
    obtain ⟨t, e⟩ := (show ∃ t, u = Value.int i t from ru)
    cases e
    simp only [PyData.shown] at q
    exact PySem.P.repr_of_int (by simpa [PyData.showable] using hs) ⟨.str _, H, I.tok _, ⟨_, rfl⟩, q⟩
  | str y =>
    obtain ⟨t, e⟩ := (show ∃ t, u = Value.str y t from ru)
    cases e
    simp only [PyData.shown] at q hz
    exact PySem.P.repr_of_str ⟨.str _, H, I.tok _, ⟨_, rfl⟩, q⟩ hz
  | lst a b =>
    obtain ⟨as, rd⟩ := Dp.reads I _ _ u (.lst a b) ru
    cases ru
    exact repr_of_reads' rd hs (fun z => by rw [hn] at z; cases z) gd (by omega) (fun _ _ e => e) (fun h' t tk keep => ⟨.str _, H, I.kept keep, ⟨_, rfl⟩, q⟩) hz
  | tup a b =>
    obtain ⟨as, rd⟩ := Dp.reads I _ _ u (.tup a b) ru
    cases ru
    exact repr_of_reads' rd hs (fun z => by rw [hn] at z; cases z) gd (by omega) (fun _ _ e => e) (fun h' t tk keep => ⟨.str _, H, I.kept keep, ⟨_, rfl⟩, q⟩) hz
/-! ### the law's call, for such a def -/
theorem law_callG {P : Program} {w : World} {K : PySem.W.Frag} {mg mb : Str → Option Value} {k : Nat} {fa a : Addr} {fd : FuncData} {x : Str} {sp : Sp} {s₁ : Shared} {vs : List Value} {ns : List Int}
    (inK : K.In s₁.heap) (nsM : s₁.heap.Ns mainGlobals mg) (nsB : s₁.heap.Ns builtinsNs mb) (boot : ∀ y : Str, y ≠ "__name__" → mb y = bootBuiltins y) (lim : s₁.heap.NoLimit) (gens : s₁.gens = #[])
    (at_a : s₁.heap.get? a = some { cls := .type "list", data := .seq vs.toArray }) (areI : IntsAre vs ns) (fits : ns.length ≤ sizeLine) (room : Room k callerA)
    (F : ∀ base : Heap, K.In base → base.Ns mainGlobals mg → FnG P w K mg base k fa fd [x] sp) (bind : ∀ (s : Shared) (u : Value), BindsTo s fd ⟨[u], []⟩ [(x, u)])
    (want : ∀ H : Hp, Only H → SqL K H a (ns.map V.int) → sp [.ref a] H (fun v _ => v = .bl true) fun _ _ _ => False) :
    codeAny (model P w) callerA (.call (.ref fa) ⟨[.ref a], []⟩) (fun r s' => r = .ok (.ret (.bool true)) ∧ OldK s₁.heap s'.heap ∧ s'.os = s₁.os ∧ AllBare s'.gens) s₁ := by
  have many := areI.length
  have goes : ∀ H : Hp, Only H → SqL K H a (ns.map V.int) → HOk P w H s₁.heap → (∀ b, H b ≠ none → b = a) → (H a ≠ none → K.lookup a = none) →
      codeAny (model P w) callerA (.call (.ref fa) ⟨[.ref a], []⟩) (fun r s' => r = .ok (.ret (.bool true)) ∧ OldK s₁.heap s'.heap ∧ s'.os = s₁.os ∧ AllBare s'.gens) s₁ := by
    intro H only isL ok one notK
    have free : ∀ {b : Addr}, b ≠ a → H b = none := by
      intro b nb
      cases hb : H b with
      | none => rfl
      | some u => exact absurd (one b (by rw [hb]; simp)) nb
    have dictFree : ∀ {b : Addr} {o : Obj} {es : Array DictEntry} {ep : Nat}, s₁.heap.get? b = some o → o.data = .dict es ep → H b = none := by
      intro b o es ep e dd
      refine free (fun z => ?_)
      rw [z, at_a] at e
      cases e
      cases (show Data.seq vs.toArray _ = Data.dict es ep from dd)
    have nsH : ∀ {b : Addr} {m : Str → Option Value}, s₁.heap.Ns b m → (hidT s₁.heap H).Ns b m := by
      rintro b m ⟨o, es, ep, e, dd, rr⟩
      exact ⟨o, es, ep, hidT_get e (dictFree e dd), dd, rr⟩
    have inH : K.In (hidT s₁.heap H) := by
      intro b o e
      refine hidT_get (inK b o e) ?_
      cases hb : H b with
      | none => rfl
      | some u =>
        have ba := one b (by rw [hb]; simp)
        rw [ba] at hb e
        rw [notK (by rw [hb]; simp)] at e
        cases e
    have modH : Mod K mg (hidT s₁.heap H) := by
      obtain ⟨mc, l1, l2⟩ := lim
      exact ⟨inH, nsH nsM, ⟨mb, nsH nsB, boot⟩, ⟨mc, nsH l1, l2⟩⟩
    have env : Env0 P w K mg (hidT s₁.heap H) callerA [] s₁ H := by
      refine ⟨rfl, modH, fun b o e => of_hidT e, Nat.le_of_eq (hidT_size _ _), trivial, ?_, ok, .of_eq gens⟩
      intro b hb
      cases hb
    apply codeAny_mono ((F _ inH (nsH nsM)).runs callerA [] s₁ H ⟨[.ref a], []⟩ [.ref a] [.ref a] _ _ room rfl env (bind s₁ (.ref a)) (.cons rfl .nil) (want H only isL))
    intro res s' told
    cases res with
    | error e => exact told.elim
    | ok fl =>
      cases fl with
      | next => exact told.elim
      | brk => exact told.elim
      | cont => exact told.elim
      | ret u =>
        obtain ⟨v, H', os, bare, un, ok', rel, qv⟩ := told
        cases (show v = .bl true from qv)
        cases (show u = Value.bool true from rel)
        refine ⟨rfl, OldK.of_keep (fun b o e => ?_), os, bare⟩
        cases hb : H b with
        | none => exact un.keep b o e hb (fun z => by cases z) (fun z => by cases z)
        | some u2 =>
          rcases only b with z | ⟨ob, xs, z⟩
          · rw [hb] at z
            cases z
          · have e1 := And.left (ok b _ z)
            have e2 := And.left (ok' b _ (un.frzs b ob _ z))
            rw [e] at e1
            cases e1
            exact e2
  cases hk : K.lookup a with
  | some o =>
    have e := inK a o hk
    rw [at_a] at e
    cases e
    apply goes (fun _ => none)
    · exact fun _ => Or.inl rfl
    · exact Or.inr ⟨_, vs.toArray, _, hk, rfl, rfl, rfl, by rw [List.size_toArray, many]; exact fits, by simpa using vals_ints areI⟩
    · intro b u z
      cases (show (none : Option HO) = some u from z)
    · exact fun b z => absurd rfl z
    · exact fun z => absurd rfl z
  | none =>
    apply goes (fun b => if b = a then some (.frz { cls := .type "list", data := .seq vs.toArray } (.lst (ns.map V.int))) else none)
    · intro b
      by_cases hb : b = a
      · exact Or.inr ⟨_, _, if_pos hb⟩
      · exact Or.inl (if_neg hb)
    · exact Or.inl (Or.inr ⟨{ cls := .type "list", data := .seq vs.toArray }, if_pos rfl⟩)
    · intro b u z
      by_cases hb : b = a
      · have z' := (if_pos hb).symm.trans z
        cases z'
        rw [hb]
        exact ⟨at_a, by rw [List.length_map]; exact fits, vs, _, vals_ints areI, at_a⟩
      · cases (if_neg hb).symm.trans z
    · intro b z
      by_cases hb : b = a
      · exact hb
      · exact absurd (if_neg hb) z
    · exact fun _ => hk
theorem walk_ofG {l : PySem.W.OpenLaw} {n k : Nat} {q : Program} {loose : List Str} {XP : (Str → Option Value) → Heap → Prop} {YP : World → Heap → Prop} {d : DefRec} {K : Params → PySem.W.Frag} {sp : World → Sp} {x : Str}
    (hn : l.most = some n) (hn2 : n ≤ sizeLine) (hdf : d.params.defaults = []) (hr : Room k callerA) (hY : ∀ (w : World) (h : Heap), YP w h → (K w.params).In h)
    (F : ∀ (w : World) (mg : Str → Option Value) (fa : Addr) (h : Heap), (K w.params).In h → h.Ns mainGlobals mg → mg d.name = some (.ref fa) →
      ∃ fd : FuncData, (∀ (s : Shared) (u : Value), BindsTo s fd ⟨[u], []⟩ [(x, u)]) ∧ ∀ base : Heap, (K w.params).In base → base.Ns mainGlobals mg → FnG l.prog w (K w.params) mg base k fa fd [x] (sp w))
    (hsp : ∀ (w : World) (H : Hp) (a : Addr) (ns : List Int), ns.length ≤ n → Only H → SqL (K w.params) H a (ns.map V.int) → sp w [.ref a] H (fun v _ => v = .bl true) fun _ _ _ => False) :
    PySem.W.WalkO q loose XP YP l.row.toRowW d [] (fun f vs => PySem.call f vs) := by
  apply Att.attach_call hn hdf
  intro w s₀ s₁ mg mb fa o pm cd doc a vs ns G Y ho hd hcd hmg hobj hints hlen hg
  obtain ⟨fd, hb, hF⟩ := F w mg fa _ (hY w _ Y) G.T.g hmg
  exact law_callG (hY w _ Y) G.T.g G.T.b G.T.builtins G.T.nolimit hg hobj hints (Nat.le_trans hlen hn2) hr hF hb (fun H hO hS => hsp w H a ns hlen hO hS)
/-! ### texts and data -/
theorem op_mul_str {X : Cx} : OpR X (binaryOp .Mult) (fun x y H Q => ∃ (z : Str) (k : Int), x = .str z ∧ y = .int k ∧ MulOk z k ∧ Q (.str (Txt.mul z k)) H) := by
  intro pins s σ H x y v u Q I rx ry h
  obtain ⟨z, k, rfl, rfl, ok, q⟩ := h
  obtain ⟨t, rfl⟩ := rx
  obtain ⟨t', rfl⟩ := ry
  exact SB.mul ok fun t' tk => ⟨.str _, H, I.tok _, ⟨_, rfl⟩, q⟩
theorem len_app (x y : Str) : (x ++ y).length = x.length + y.length := by
  rw [TL.len_tl, TL.tl_append, List.length_append, ← TL.len_tl, ← TL.len_tl]
def tyD : PyData → String
  | .none => "NoneType"
  | .bool _ => "bool"
  | .int _ => "int"
  | .str _ => "str"
  | .list _ => "list"
  | .tuple _ => "tuple"
  | .dict _ => "dict"
theorem ty_of_dp {K : PySem.W.Frag} {H : Hp} {x : V} {d : PyData} (h : Dp K H x d) : TyX K H x (.type (tyD d)) := by
  cases h with
  | non => exact .base .non
  | bl b => exact .base (.bl b)
  | int i => exact .base (.int i)
  | str z => exact .base (.str z)
  | lst a _ =>
    rcases a with (a | ⟨o, a⟩) | ⟨o, its, n, a, c, _⟩
    · exact .base (.lst a)
    · exact .base (.frz a)
    · exact .kList a c
  | tup a _ =>
    rcases a with (a | ⟨o, a⟩) | ⟨o, its, n, a, c, _⟩
    · exact .base (.tup a)
    · exact .fTuple a
    · exact .kTuple a c
theorem seqT_same {K : PySem.W.Frag} {H H' : Hp} {a : Addr} {xs : List V} (e : Same H H') (h : SqT K H a xs) : SqT K H' a xs := by
  rcases h with (h | ⟨o, h⟩) | h
  · exact .inl (.inl (e _ _ h))
  · exact .inl (.inr ⟨o, e _ _ h⟩)
  · exact .inr h
mutual
theorem dp_same {K : PySem.W.Frag} {H H' : Hp} (e : Same H H') : ∀ {x : V} {d : PyData}, Dp K H x d → Dp K H' x d
  | _, _, .non => .non
  | _, _, .bl b => .bl b
  | _, _, .int i => .int i
  | _, _, .str z => .str z
  | _, _, .lst a b => .lst (e.seq a) (dpAll_same e b)
  | _, _, .tup a b => .tup (seqT_same e a) (dpAll_same e b)
theorem dpAll_same {K : PySem.W.Frag} {H H' : Hp} (e : Same H H') : ∀ {xs : List V} {ds : List PyData}, DpAll K H xs ds → DpAll K H' xs ds
  | _, _, .nil => .nil
  | _, _, .cons a b => .cons (dp_same e a) (dpAll_same e b)
end
/-- the heap without the place b -/
def wo (b : Addr) (H : Hp) : Hp := fun c => if c = b then none else H c
theorem wo_sub (b : Addr) (H : Hp) : Same (wo b H) H := fun c o h => by
  unfold wo at h
  split at h
  · cases h
  · exact h
theorem wo_but {b : Addr} {H H' : Hp} (t : But b H H') : Same (wo b H) (wo b H') := fun c o h => by
  unfold wo at h ⊢
  split at h
  · cases h
  · rename_i n
    rw [if_neg n]
    exact t c o n h
theorem wo_same {b : Addr} {H H' : Hp} (t : Same H H') : Same (wo b H) (wo b H') := wo_but (But.of t)
theorem wo_at {b c : Addr} {H : Hp} {o : HO} (n : c ≠ b) (h : H c = some o) : wo b H c = some o := by
  unfold wo
  rw [if_neg n]
  exact h
def Asc (s : Str) : Prop := ∀ c ∈ TL.tl s, c < 128
theorem Asc.app {x y : Str} (hx : Asc x) (hy : Asc y) : Asc (x ++ y) := fun c hc => by
  rw [TL.tl_append] at hc
  rcases List.mem_append.mp hc with h | h
  · exact hx c h
  · exact hy c h
theorem Asc.cut {x : Str} {lo hi : Option Int} (hx : Asc x) : Asc (cutS x lo hi) := fun c hc => hx c (List.mem_of_mem_drop (List.mem_of_mem_take hc))
theorem Asc.one {c : Nat} (h : c < 128) : Asc ⟨#[c]⟩ := fun d hd => by
  rw [List.mem_singleton.mp (show d ∈ [c] from hd)]
  exact h
/-! ### kinds of data -/
def isT (T t : String) : Bool := decide (t = T) || (decide (T = "int") && decide (t = "bool"))
abbrev isK (T : String) (d : PyData) : Bool := isT T (tyD d)
theorem kit_t : ∀ t ∈ ["NoneType", "bool", "int", "str", "list", "tuple", "dict"], ∀ T ∈ ["int", "bool", "str", "list", "tuple"], kitB t T = some (isT T t) := by decide +kernel
theorem ty_mem (d : PyData) : tyD d ∈ ["NoneType", "bool", "int", "str", "list", "tuple", "dict"] := by
  cases d <;> simp [tyD]
theorem kit_d {K : PySem.W.Frag} {T : String} (hT : T ∈ ["int", "bool", "str", "list", "tuple"]) (d : PyData) : PySem.W.kitOne K (.type (tyD d)) (.type T) = some (isK T d) := kit_ty (kit_t _ (ty_mem d) T hT)
theorem sh_int (i : Int) : SeqAt.shaped (.int i) = true := by
  show (PyData.canLay0 (.int i) && decide (PyData.depth (.int i) ≤ 64)) = true
  simp [PyData.canLay0, PyData.depth]
theorem tuple_mul1 (l : Addr) (items : Array Value) (n : Nat) (dd : Option Addr) (sl : Array (Option Value)) (u : Tok) (hne : items.isEmpty = false) :
    Meets (Builtin.«tuple.__mul__» ⟨[.ref l, .int 1 u], []⟩) (fun _ R s => s.heap.get? l = some { cls := .type "tuple", dict := dd, data := .seq items n, slots := sl } ∧ R (.ok (.ret (Value.ref l))) s) :=
  .of_wp fun prog w A R s h => by
    obtain ⟨hp, g, d, tk, os⟩ := s
    obtain ⟨hl, h⟩ := h
    have f1 := AutoSeq1.idx_int
    wp_walk using wpAny_loadPart' hl
    exact ⟨_, rfl, h⟩
theorem op_rep1 {X : Cx} : OpR X (binaryOp .Mult) (fun x y H Q => ∃ (l : Addr) (xs : List V), x = .ref l ∧ y = .int 1 ∧ SqT X.K H l xs ∧ xs ≠ [] ∧ Q (.ref l) H) := by
  intro pins s σ H x y v u Q I rx ry h
  obtain ⟨l, xs, rfl, rfl, hT, hne, q⟩ := h
  cases rx
  obtain ⟨t, rfl⟩ := ry
  obtain ⟨its, r, ⟨⟨cls, dd, data, sl⟩, ho, hc, n, hd⟩, hs⟩ := I.tuple hT
  simp only at hc hd
  subst hc hd
  have hi : its.toArray.isEmpty = false := by
    cases its with
    | nil => exact absurd (List.eq_nil_of_length_eq_zero (r.length.trans rfl)) hne
    | cons a b => rfl
  refine wpAny_binaryOp_repeat_ref (T := "tuple") (U := "int") (by decide) ⟨_, ho, rfl⟩ (fun s' => typeIs_int s' 1 t) noFill_tuple_mul F.fills_int_mul F.slot_int_rmul repeat_tuple F.slot_int_index.lookup
    (call_meets F.slot_int_rmul (typeIs_int s 1 t) F.entry_int_rmul (F.args_int_rmul_2 _ _) (int_rmul_tuple 1 t l its.toArray n dd sl)
      ⟨ho, rfl, ⟨_, ho, rfl⟩, call_meets F.slot_tuple_mul ⟨_, ho, rfl⟩ F.entry_tuple_mul (F.args_tuple_mul_2 _ _) (tuple_mul1 l its.toArray n dd sl t hi) ⟨ho, ?_⟩⟩)
  exact ⟨.ref l, H, I, rfl, q⟩
def rRepA (K : PySem.W.Frag) : R2 := fun x y H Q => rRepT K x y H Q ∨ ∃ (l : Addr) (xs : List V), x = .ref l ∧ y = .int 1 ∧ SqT K H l xs ∧ xs ≠ [] ∧ Q (.ref l) H
theorem kk_repA (K : PySem.W.Frag) {X : Cx} (h : X.K = K := by rfl) : OpR X (binaryOp .Mult) (rRepA K) := h ▸ OpR.or op_repT op_rep1
/-! ### classes: a method, the making of an instance, by their promises -/
structure CMt (P : Program) (w : World) (K : PySem.W.Frag) (mg : Str → Option Value) (base : Heap) (C : Addr) (k : Nat) (m : Str) (ps : List Str) (dvs : List V) (sp : Sp) : Prop where
  ex : ∃ (f : Addr) (fd : FuncData) (ds : List Value), FnOk P w K mg base CX0 k f fd ps sp ∧ Meth K C m f ∧ Vals dvs ds ∧ Binds K fd ps ds
structure CMk (P : Program) (w : World) (K : PySem.W.Frag) (mg : Str → Option Value) (base : Heap) (C : Addr) (k : Nat) (x : Str) (ps : List Str) (dvs : List V) (sp : Sp) : Prop where
  ex : ∃ (f : Addr) (fd : FuncData) (ds : List Value), FnOk P w K mg base CX0 k f fd ps sp ∧ Mk K C f ∧ mg x = some (.ref C) ∧ Vals dvs ds ∧ Binds K fd ps ds
section
variable {X : Cx} {k : Nat} {C : Addr} {x m : Str} {ps : List Str} {dvs : List V} {sp : Sp} {p pos apos : Pos} {e o : Expr} {es : List Expr} {ta : TE} {t : TA}
theorem pe_mt {pl : Sem Bool} (M : CMt X.prog X.w X.K X.mg X.base C k m ps dvs sp) (c : Cls X.K C) (hr : Room k X.A) (he : PE X o ta) (ha : PA X (e :: es) t)
    (hst : starEach (e :: es) X.env = (false, eval e X.env) :: starEach es X.env := by rfl) (hpl : (backTo pos (starEach es X.env)).any (·.1) = false := by rfl)
    (ht : eval (.Call (.Attribute o m apos) (e :: es) [] pos) X.env = (do
      let ov ← eval o X.env
      standAt apos.atName
      let (f, first) ← holding [ov] (getMethod ov m pl)
      callWith pos f first (backTo pos (starEach (e :: es) X.env)) (backToKw pos (keywordEach [] X.env))) := by rfl) :
    PE X (.Call (.Attribute o m apos) (e :: es) [] pos) (tMeth C m sp dvs E0 ta t) := by
  obtain ⟨f, fd, ds, F, me, vd, b⟩ := M.ex
  exact pe_meth (pl := pl) he c me F hr b vd pass0 ha hst hpl ht
theorem pe_mt0 {pl : Sem Bool} (M : CMt X.prog X.w X.K X.mg X.base C k m ps dvs sp) (c : Cls X.K C) (hr : Room k X.A) (he : PE X o ta)
    (ht : eval (.Call (.Attribute o m apos) [] [] pos) X.env = (do
      let ov ← eval o X.env
      standAt apos.atName
      let (f, first) ← holding [ov] (getMethod ov m pl)
      callWith pos f first (backTo pos (starEach [] X.env)) (backToKw pos (keywordEach [] X.env))) := by rfl) :
    PE X (.Call (.Attribute o m apos) [] [] pos) (tMeth C m sp dvs E0 ta tNil) := by
  obtain ⟨f, fd, ds, F, me, vd, b⟩ := M.ex
  exact pe_meth0 (pl := pl) he c me F hr b vd pass0 ht
theorem pe_mkc (M : CMk X.prog X.w X.K X.mg X.base C k x ps dvs sp) (hr : Room (k + 1) X.A) (hg : Gl X x) (ha : PA X (e :: es) t)
    (hdb : (x == ("__debug__" : Str)) = false := by decide) (he : starEach (e :: es) X.env = (false, eval e X.env) :: starEach es X.env := by rfl) (hpl : (backTo pos (starEach es X.env)).any (·.1) = false := by rfl) :
    PE X (.Call (.Name x p) (e :: es) [] pos) (tMake C sp dvs E0 t) := by
  obtain ⟨f, fd, ds, F, mk, g, vd, b⟩ := M.ex
  exact pe_make mk F hr hg g b vd pass0 ha hdb he hpl
end
/-! ### o.m(e, .., k = v) -/
structure CMtK (P : Program) (w : World) (K : PySem.W.Frag) (mg : Str → Option Value) (base : Heap) (C : Addr) (k : Nat) (m : Str) (ps : List Str) (n : Nat) (ks : List Str) (gV : List V → List V → List V) (sp : Sp) : Prop where
  ex : ∃ (f : Addr) (fd : FuncData) (g : List Value → List Value → List Value), FnOk P w K mg base CX0 k f fd ps sp ∧ Meth K C m f ∧ KBn K fd ps n ks g gV
def tMethK (C : Addr) (m : Str) (n j : Nat) (sp : Sp) (gV : List V → List V → List V) (ta : TE) (t tk : TA) : TE := fun σ H Q => ta σ H fun x H1 => ∃ (a dx : Addr) (fs : List (Str × V)), x = .ref a ∧ H1 a = some (.ins C dx fs) ∧ fs.lookup m = none ∧
  t σ H1 fun vs H2 => tk σ H2 fun zs H3 => (x :: vs).length = n ∧ zs.length = j ∧ sp (gV (x :: vs) zs) H3 Q E0
theorem pe_mtK {X : Cx} {k n : Nat} {C : Addr} {m : Str} {ps ks : List Str} {sp : Sp} {gV : List V → List V → List V} {pos apos : Pos} {e o : Expr} {es : List Expr} {kws : List Keyword} {ta : TE} {t tk : TA} {pl : Sem Bool}
    (M : CMtK X.prog X.w X.K X.mg X.base C k m ps n ks gV sp) (c : Cls X.K C) (hr : Room k X.A) (he : PE X o ta) (ha : PA X (e :: es) t) (hkw : PK X kws tk)
    (hall : (backToKw pos (keywordEach kws X.env)).all (·.1.isSome) = true := by rfl) (hks : (backToKw pos (keywordEach kws X.env)).filterMap (·.1) = ks := by rfl)
    (hst : starEach (e :: es) X.env = (false, eval e X.env) :: starEach es X.env := by rfl)
    (hpl : ((backTo pos (starEach (e :: es) X.env)).any (·.1) || (backToKw pos (keywordEach kws X.env)).any (·.1.isNone)) = false := by rfl)
    (ht : eval (.Call (.Attribute o m apos) (e :: es) kws pos) X.env = (do
      let ov ← eval o X.env
      standAt apos.atName
      let (f, first) ← holding [ov] (getMethod ov m pl)
      callWith pos f first (backTo pos (starEach (e :: es) X.env)) (backToKw pos (keywordEach kws X.env))) := by rfl) :
    PE X (.Call (.Attribute o m apos) (e :: es) kws pos) (tMethK C m n ks.length sp gV ta t tk) := by
  obtain ⟨f, fd, g, F, me, b⟩ := M.ex
  constructor
  intro pins s σ H Q I h
  refine PySem.W.methodCall_KW (pl := pl) (thn (he.run pins s σ H _ I h) ?_) ht
  rintro u s1 ⟨x, H1, I1, rx, a, dx, fs, rfl, ea, l, q⟩
  cases (show u = Value.ref a from rx)
  refine getmeth_ok I1 ea c me l ?_
  refine PySem.W.callWith_KW (first := [.ref a]) (h₀ := X.base) I.ok.mod.kin me.kp hall (thn (ha.run pos pins s1 σ H1 _ I1 q) ?_) hpl hst
  rintro us s2 ⟨vs, H2, I2, r, q2⟩
  refine thn (hkw.run pos pins s2 σ H2 _ I2 q2) ?_
  rintro ws s3 ⟨zs, H3, I3, rz, l1, l2, q3⟩
  refine ⟨I3.kIn, ?_⟩
  rw [hks]
  exact run_fnN (us := .ref a :: us) (vs := .ref a :: vs) F hr b pass0 I3 (.cons rfl r) rz l1 l2 q3
theorem okD {P : Program} {w : World} {K : PySem.W.Frag} {mg : Str → Option Value} {base : Heap} {x qual : Str} {params : Arguments} {body : List Stmt} {scope : Scope} {dvs : List V} {kws : List (Str × V)} {f : Addr} {fd : FuncData} {N ps : List Str} {k : Nat} {sp : Sp}
    (F : FunD K x qual params body scope dvs kws f fd) (S : FnScope N ps scope) (len : ∀ vs H Q E, sp vs H Q E → vs.length = ps.length)
    (walk : ∀ (cdv : Value) (A : Around) (outer : List Env) (s : Shared) (H : Hp) (vs : List V) (Q : VK) (E : XK), Room k (A.deeper (envOfC qual scope s.heap.objs.size f cdv)) → sp vs H Q E →
      ∃ t, PSs (cxOf CX0 P w K mg base N qual scope f cdv A outer s H E).nox body t ∧ t { nx := fun _ H' => Q .non H', rt := Q } (start N vs) H) : FnOk P w K mg base CX0 (k + 1) f fd ps sp := by
  refine F.ok S len (fun cdv A outer s H vs Q E hr h => ?_)
  obtain ⟨t, ht, q⟩ := walk cdv A outer s H vs Q E hr h
  exact ⟨t, ht.nox, q⟩
/-! ### numbers in bounds, what is kept -/
def numIn : PyData → Int → Int → Bool
  | .int i, lo, hi => decide (lo ≤ i) && decide (i ≤ hi)
  | _, _, _ => false
def keptOk : PyData → PyData → Bool
  | .tuple ds, e => PyData.eqv (.int (ds.length : Int)) e && ds.all fun d => numIn d 0 100
  | d, _ => numIn d 0 100
def firstWrong (ws : List (Str × Bool)) : V := match ws.find? (fun p => !p.2) with
  | some p => .str p.1
  | none => .non
theorem firstWrong_at {ws : List (Str × Bool)} {i : Nat} {w : Str} (h : ∀ p ∈ ws.take i, p.2 = true) (hi : ws[i]? = some (w, false)) : firstWrong ws = .str w := by
  have hs : ws = ws.take i ++ (w, false) :: ws.drop (i + 1) := by
    obtain ⟨hl, he⟩ := List.getElem?_eq_some_iff.mp hi
    rw [← he, List.getElem_cons_drop, List.take_append_drop]
  unfold firstWrong
  rw [hs, List.find?_append, List.find?_eq_none.mpr (fun p hp => by rw [h p hp]; decide)]
  rfl
theorem firstWrong_none {ws : List (Str × Bool)} (h : ∀ p ∈ ws, p.2 = true) : firstWrong ws = .non := by
  unfold firstWrong
  rw [List.find?_eq_none.mpr (fun p hp => by rw [h p hp]; decide)]
theorem dpAll_len {K : PySem.W.Frag} {H : Hp} : ∀ {xs : List V} {ds : List PyData}, DpAll K H xs ds → xs.length = ds.length
  | _, _, .nil => rfl
  | _, _, .cons _ b => by rw [List.length_cons, List.length_cons, dpAll_len b]
theorem dpAll_get {K : PySem.W.Frag} {H : Hp} : ∀ {xs : List V} {ds : List PyData} {i : Nat} {x : V}, DpAll K H xs ds → xs[i]? = some x → ∃ d, ds[i]? = some d ∧ Dp K H x d
  | _, _, 0, _, .cons a _, h => ⟨_, rfl, by cases (Option.some.inj h); exact a⟩
  | _, _, i + 1, _, .cons _ b, h => dpAll_get (i := i) b h
  | _, _, _, _, .nil, h => by simp at h
/-! ### a block over an iterator of a known length; zip of two lists, of two tuples -/
theorem lc_gen {J : It} {n : Nat} {g : TG} {tt : TT} {te : TE} {vs : List Nat} {σ : L2.St} {H1 : Hp} {D : Addr} {Qd : Hp → Prop} (Pv : Nat → Hp → Prop) (first : Pv 0 (upd H1 D (.lst [])))
    (can : ∀ i H, Pv i H → (i < n → J.go i H) ∧ (i = n → J.stop i H))
    (turn : ∀ i H v H', i < n → Pv i H → J.yld i H v H' → g v (wipe σ vs) H' fun σ2 H2 => wipe σ2 vs = wipe σ vs ∧ tt σ2 H2 fun b H3 => if b = true then te σ2 H3 fun y H4 => ∃ acc, H4 D = some (.lst acc) ∧ acc.length < sizeLine ∧ Pv (i + 1) (upd H4 D (.lst (acc ++ [y]))) else Pv (i + 1) H3)
    (last : ∀ H, Pv n H → Qd H) :
    ∃ W : Nat → Nat → Hp → Prop, (∃ m, W 0 m (upd H1 D (.lst []))) ∧ ∀ i m H, W i m H → (J.stop i H ∧ Qd H) ∨ (J.go i H ∧ ∃ Nx : Hp → Prop, (∀ H', Nx H' → ∃ m', m' < m ∧ W (i + 1) m' H') ∧ ∀ x H', J.yld i H x H' → g x (wipe σ vs) H' fun σ2 H2 => wipe σ2 vs = wipe σ vs ∧ tt σ2 H2 fun b H3 => if b = true then te σ2 H3 fun y H4 => ∃ acc, H4 D = some (.lst acc) ∧ acc.length < sizeLine ∧ Nx (upd H4 D (.lst (acc ++ [y]))) else Nx H3) := by
  refine ⟨fun i m H => m + i = n ∧ Pv i H, ⟨n, by omega, first⟩, ?_⟩
  intro i m H hw
  obtain ⟨e, p⟩ := hw
  by_cases c : i < n
  · exact .inr ⟨(can i H p).1 c, Pv (i + 1), fun H' p' => ⟨n - (i + 1), by omega, by omega, p'⟩, fun v H' y => turn i H v H' c p y⟩
  · have z : i = n := by omega
    exact .inl ⟨(can i H p).2 z, last H (z ▸ p)⟩
section
variable {K : PySem.W.Frag} {a b : Addr} {xs ys : List V}
theorem canL {H : Hp} {i : Nat} (l : xs.length = ys.length) (x : SqL K H a xs) (y : SqL K H b ys) : (i < xs.length → (Itz K a b).go i H) ∧ (i = xs.length → (Itz K a b).stop i H) :=
  ⟨fun c => ⟨xs, ys, _, _, x, y, List.getElem?_eq_getElem c, List.getElem?_eq_getElem (l ▸ c)⟩, fun c => ⟨xs, ys, x, y, .inl (by omega)⟩⟩
theorem canT {H : Hp} {i : Nat} (l : xs.length = ys.length) (x : SqT K H a xs) (y : SqT K H b ys) : (i < xs.length → (RZ.ItzT K a b).go i H) ∧ (i = xs.length → (RZ.ItzT K a b).stop i H) :=
  ⟨fun c => ⟨xs, ys, _, _, x, y, List.getElem?_eq_getElem c, List.getElem?_eq_getElem (l ▸ c)⟩, fun c => ⟨xs, ys, x, y, .inl (by omega)⟩⟩
end
/-! ### data of short lists -/
mutual
def thin : PyData → Bool
  | .list xs => decide (xs.length ≤ 1000) && thinAll xs
  | .tuple xs => decide (xs.length ≤ 1000) && thinAll xs
  | _ => true
def thinAll : List PyData → Bool
  | [] => true
  | x :: r => thin x && thinAll r
end
theorem thin_at {d : PyData} : ∀ {ds : List PyData} {i : Nat}, thinAll ds = true → ds[i]? = some d → thin d = true
  | e :: r, 0, h, he => by
    cases he
    simp only [thinAll, Bool.and_eq_true] at h
    exact h.1
  | e :: r, i + 1, h, he => by
    simp only [thinAll, Bool.and_eq_true] at h
    exact thin_at (i := i) h.2 he
theorem depth_at {d : PyData} : ∀ {ds : List PyData} {i : Nat}, ds[i]? = some d → PyData.depth d ≤ PyData.depthAll ds
  | e :: r, 0, he => by
    cases he
    simp only [PyData.depthAll]
    omega
  | e :: r, i + 1, he => by
    have := depth_at (i := i) (ds := r) he
    simp only [PyData.depthAll]
    omega
theorem kitLT {K : PySem.W.Frag} (d : PyData) : PySem.W.kitAny K (.type (tyD d)) [.type "list", .type "tuple"] = some (isK "list" d || isK "tuple" d) := by
  unfold PySem.W.kitAny
  rw [kit_d (by decide)]
  cases isK "list" d with
  | true => rfl
  | false =>
    unfold PySem.W.kitAny
    rw [kit_d (by decide)]
    cases isK "tuple" d <;> rfl
theorem qY {c : Prop} [Decidable c] {Q : VK} {H : Hp} (hc : c) (q : Q (.bl true) H) : Q (.bl (decide c)) H := by
  rw [decide_eq_true hc]
  exact q
theorem rep_snoc (i : Nat) : (List.replicate i true).map V.bl ++ [V.bl true] = (List.replicate (i + 1) true).map V.bl := by
  rw [List.map_replicate, List.map_replicate, List.replicate_succ']
/-! ### len of an instance by its class's own def; a walk over a list or a tuple -/
theorem call_lenO {X : Cx} {C : Addr} {k : Nat} {sp : Sp} (M : CMt X.prog X.w X.K X.mg X.base C k "__len__" ["self"] [] sp) (hr : Room (k + 1) X.A) :
    CallR X (.builtin "len") (fun xs H Q => ∃ (r dx : Addr) (fs : List (Str × V)), xs = [.ref r] ∧ H r = some (.ins C dx fs) ∧ sp [.ref r] H (fun v H' => ∃ n : Int, v = .int n ∧ 0 ≤ n ∧ n < 1000000 ∧ Q (.int n) H') E0) := by
  intro pins s σ H xs us Q I rv h
  obtain ⟨r, dx, fs, rfl, ea, h⟩ := h
  obtain ⟨f, fd, ds, F, me, vd, hb⟩ := M.ex
  cases vd
  cases rv with
  | cons e rr =>
    cases rr
    cases e
    obtain ⟨mA, O, _⟩ := ins_get I.hok ea
    obtain ⟨od, J, _⟩ := O.look
    refine Calls.call_function_entry kind_len plain_len entry_len (args_len1 _) ?_
    unfold Builtin.«len»
    refine wpAny_bind (wpAny_pure ?_)
    refine wpAny_bind (PySem.W.special_fn (args := []) I.kIn J me.at_ (beq_iff_eq.mp me.fn) ?_)
    have hl : ([Value.ref r] ++ ([] : List Value)).length = (["self"] : List Str).length := rfl
    refine wpAny_call (codeAny_mono (F.run X.A.in1 X.stack s H ⟨[.ref r], []⟩ [.ref r] [.ref r] _ _ hr.in1 I.env0.in1 (hb s [.ref r] I.kIn hl) (.cons rfl .nil) h) fun x s' hq => ?_)
    cases x with
    | error e => exact pass0 pins σ H s e s' I hq
    | ok fl =>
      cases fl with
      | ret u =>
        obtain ⟨v, H', I', rv, n, rfl, n0, n1, q⟩ := I.after hq
        obtain ⟨t, rfl⟩ := rv
        refine wpAny_bind (wpAny_holding (wpAny_pure ?_))
        refine wpAny_bind (wpAny_letGo ?_)
        show wpAny _ _ (if n < 0 then _ else _) _ _ _
        rw [if_neg (by omega)]
        show wpAny _ _ (if n ≥ 2 ^ 63 then _ else _) _ _ _
        rw [if_neg (by omega)]
        exact wpAny_bind (wpAny_mkInt (wpAny_pure ⟨_, rfl, .int n, H', I'.tok _, ⟨_, rfl⟩, q⟩))
      | next => exact False.elim hq
      | brk => exact False.elim hq
      | cont => exact False.elim hq
theorem pi_or {X : Cx} {tg e : Expr} {w1 w2 : TI} (h : PI X tg e w1) (h' : PI X tg e w2) : PI X tg e (fun σ H R => w1 σ H R ∨ w2 σ H R) :=
  ⟨fun pins s σ H R I q => q.elim (h.run pins s σ H R I) (h'.run pins s σ H R I)⟩
/-! ### sets of numbers: in rising order, of a list, by a block -/
section
variable {P : Program} {w : World} {A : Around} {E : Value → Shared → Prop} {s : Shared}
theorem rise_set {a : Addr} {S : Int → Bool} {n : Nat} {Q : Value → Shared → Prop} (there : SetR w s.heap a S n) (free : A.handled = none)
    (then_ : ∀ (s' : Shared) (p : Addr) (out : Array Value) (c : Nat) (ns : List Int), (∀ b o, s.heap.get? b = some o → s'.heap.get? b = some o) → s'.gens = s.gens → s'.os = s.os → s.heap.objs.size ≤ p →
      s'.heap.get? p = some (seqObj "list" out c) → IntsAre out.toList ns → ns.Pairwise (· < ·) → (∀ k, k ∈ ns ↔ S k = true) → ns.length = n → n < scanBound → Q (.ref p) s') :
    wpAny (model P w) A (call (.builtin "sorted") [.ref a]) Q E s := by
  obtain ⟨ob, es, ep, tb, hob, hex, hdat, good, nodup, mem, small, fits, size, ris, led⟩ := there
  have big : n ≤ sizeLine := by rw [← size]; exact fits_of_scanBound small
  refine Calls.call_function_entry kind_sorted plain_sorted entry_sorted (args_sorted1 _) ?_
  unfold Builtin.«sorted»
  refine wpAny_bind (m := checkCount "sorted" 1 1 _) (wpAny_pure (wpAny_bind (collect_set (A := A.in1) free ⟨ob, hob, hex.1, hdat⟩ fits small ris led fun s1 vs k1 z1 g1 o1 pm => ?_)))
  have many : vs.length = n := by rw [pm.length_eq, List.length_map, Array.length_toList, size]
  have nums : IntsAre vs (vs.map Builtin.Re.reRawOf) := ints_of vs fun v hv => by
    obtain ⟨e, he, ev⟩ := List.mem_map.mp (pm.mem_iff.mp hv)
    obtain ⟨k, tk, ek, _⟩ := good e he
    exact ⟨k, tk, ev.symm.trans ek⟩
  have same : (vs.map Builtin.Re.reRawOf).Perm (es.toList.map keyOf) := by
    have := pm.map Builtin.Re.reRawOf
    rw [List.map_map] at this
    exact this
  refine wpAny_bind (wpAny_newList ?_ (by rw [many]; exact big))
  have laid : (s1.heap.push (seqObj "list" vs.toArray 0)).get? s1.heap.objs.size = some (seqObj "list" vs.toArray 0) := Heap.get?_push_size _ rfl
  refine wpAny_bind (wpAny_holding (wpAny_call_entry slot_list_sort ⟨_, laid, rfl⟩ entry_list_sort (list_sort_treeAny laid nums (by rw [many]; exact big) fun out ns' x1 x2 x3 => ⟨_, rfl, ?_⟩) (args_list_sort _)))
  obtain ⟨c, hc⟩ := sortedHeap_at (vs := vs) (out := out) laid
  have pn := x2.trans same
  refine wpAny_pure ⟨_, rfl, then_ _ s1.heap.objs.size out c ns' (fun b u e => ?_) g1 o1 z1 hc x1 (lt_of_le_nodup ns' x3 (pn.nodup_iff.mpr nodup)) (fun k => by rw [pn.mem_iff, mem k]) (by rw [pn.length_eq, List.length_map, Array.length_toList, size]) (by rw [← size]; exact small)⟩
  have old := k1 b u e
  have below := Heap.lt_size old
  show (sortedHeap (s1.heap.push (seqObj "list" vs.toArray 0)) s1.heap.objs.size vs out).get? b = some u
  rw [sortedHeap_old (Nat.ne_of_lt below) (by rw [size_push']; exact Nat.lt_succ_of_lt below)]
  exact Heap.get?_push_of_some _ old
end
section
variable {X : Cx}
def rSortedSN (w : World) : List V → Hp → VK → Prop := fun vs H Q => ∃ (a : Addr) (S : Int → Bool) (n : Nat), vs = [V.ref a] ∧ H a = some (SetO w a S n) ∧
  ∀ (ns : List Int) (p : Addr), ns.Pairwise (· < ·) → (∀ k : Int, k ∈ ns ↔ S k = true) → ns.length = n → H p = none → Q (.ref p) (upd H p (.lst (ns.map V.int)))
theorem cr_sortedSN (calm : X.calm = true) : CallR X (.builtin "sorted") (rSortedSN X.w) := fun pins s σ H vs us Q I r h => by
  obtain ⟨a, S, n, rfl, ha, q⟩ := h
  rw [Vals.ref1 r]
  refine rise_set (setO_get I ha) (I.ok.hd calm) fun s' p out c ns k g o hp hg hi hs hm hl hsm => ?_
  have fit : (ns.map V.int).length ≤ sizeLine := by rw [List.length_map, hl]; exact fits_of_scanBound hsm
  have new : H p = none := I.hok.fresh hp
  have J : Inv X pins σ (upd H p (.lst (ns.map V.int))) { s with heap := s'.heap, gens := s'.gens, drawn := s'.drawn, toks := s'.toks } :=
    I.call (ch := []) (Un.laid k hp new) (I.hok.laid k hp ⟨fit, out.toList, c, vals_of_ints hi, hg⟩) (by rw [g]; exact I.bare) (fun _ z => nomatch z)
  have whole : s' = { s with heap := s'.heap, gens := s'.gens, drawn := s'.drawn, toks := s'.toks } := by
    cases s'
    cases s
    cases o
    rfl
  rw [whole]
  exact ⟨.ref p, _, J, rfl, q ns p hs hm hl new⟩
/-- one number more -/
theorem add_num {pins : List (Addr × Obj)} {σ : L2.St} {H : Hp} {s : Shared} {E : Value → Shared → Prop} {D : Addr} {S : Int → Bool} {n : Nat} {y : Int} {tk : Tok} {Q : Value → Shared → Prop} (I : Inv X pins σ H s) (hD : H D = some (SetO X.w D S n)) (room : n + 1 < scanBound)
    (h : ∀ s', Inv X pins σ (upd H D (SetO X.w D (fun j => S j || decide (j = y)) (if S y = true then n else n + 1))) s' → Q .none s') : wpAny (model X.prog X.w) X.A (call (.builtin "set.add") [.ref D, .int y tk]) Q E s := by
  refine setR_add (setO_get I hD) room fun h' but new => h _ ?_
  obtain ⟨o, es, ep, tb, ho, rest⟩ := id new
  exact I.write (e := D) (t' := s.toks + 1) (by rw [hD]; trivial) (.inl rfl) (fun b u hb hu => (but.2 b hb).trans hu) ⟨o, ho⟩ (setO_new new)
/-- {elt for target in iter if ..}, elt a number; D the new set -/
def tScI (w : World) (wi : TI) (g : TG) (tt : TT) (te : TE) (vs : List Nat) : TE := fun σ H Q => wi σ H fun J G => ∀ D, G D = none → ∃ W : Nat → Nat → Hp → Prop, (∃ m, W 0 m (upd G D (SetO w D (fun _ => false) 0))) ∧ ∀ i m H, W i m H →
  (J.stop i H ∧ Q (.ref D) H) ∨ (J.go i H ∧ ∃ Nx : Hp → Prop, (∀ H', Nx H' → ∃ m', m' < m ∧ W (i + 1) m' H') ∧ ∀ x H', J.yld i H x H' → g x (wipe σ vs) H' fun σ2 H2 => wipe σ2 vs = wipe σ vs ∧ tt σ2 H2 fun b H3 =>
    if b = true then te σ2 H3 fun y H4 => ∃ (c : Int) (S : Int → Bool) (n : Nat), y = .int c ∧ H4 D = some (SetO w D S n) ∧ n + 1 < scanBound ∧ Nx (upd H4 D (SetO w D (fun j => S j || decide (j = c)) (if S c = true then n else n + 1))) else Nx H3)
abbrev emptyS (w : World) : Obj := { cls := .type "set", dict := none, data := .set #[] 0 (.fresh 0 0 (!w.params.followText "set-order")) }
theorem pe_scI {elt tg iter : Expr} {ifs : List Expr} {scope : Scope} {own : List (PySem.Str × Nat)} {pos : Pos} {wi : TI} {g : TG} {tt : TT} {te : TE} (calm : X.calm = true) (nd : X.N.Nodup) (walk : PI X tg iter wi) (ok : BlkOk X.N X.env.scope scope own)
    (hg : ∀ (s : Shared) (H : Hp) (C : Addr) (cl : List (PySem.Str × Addr)) (fp : List Addr), PG (X.blk s H scope (compEnvC scope cl C X.env) fp) tg g)
    (ht : ∀ (s : Shared) (H : Hp) (C : Addr) (cl : List (PySem.Str × Addr)) (fp : List Addr), PTs (X.blk s H scope (compEnvC scope cl C X.env) fp) ifs tt)
    (he : ∀ (s : Shared) (H : Hp) (C : Addr) (cl : List (PySem.Str × Addr)) (fp : List Addr), PE (X.blk s H scope (compEnvC scope cl C X.env) fp) elt te)
    (fold : ∀ x, foldedSetIterable iter X.env x = pure x := by intro _; rfl) :
    PE X (.SetComp elt [⟨tg, iter, ifs, 0⟩] scope pos) (tScI X.w wi g tt te (own.map (·.2))) := by
  refine ⟨fun pins s σ H Q I h => ?_⟩
  rw [PpSet.eval_SetComp]
  have captured : ∀ y ∈ scope.names, y.2 = .free → ∃ c, X.env.cells.lookup y.1 = some c := fun y hy e => (ok.free y hy e).elim (fun k => I.ok.has _ (.inl k)) (fun k => I.ok.has _ (.inr k))
  refine wpAny_comprehension_free (use := none) rfl fold (closure_ok captured) ok.kind (fun y hy e => by rw [ok.uniq y hy, e]) (thn (walk.run pins s σ H _ I h) fun xv s1 hx => thn hx fun itv s2 h2 => ?_)
  obtain ⟨it, fp, tn, J, H2, rfl, I2, T, st2, f2, q⟩ := h2
  refine PpSet.newSet_ok (newEnv_comp ?_)
  generalize atD : s2.heap.objs.size = D
  have freshD : H2 D = none := I2.hok.fresh (Nat.le_of_eq atD)
  obtain ⟨W, ⟨m0, w0⟩, turn⟩ := q D freshD
  generalize at3 : ({ s2 with heap := s2.heap.push (emptyS X.w) } : Shared) = s3
  have heap3 : s3.heap = s2.heap.push (emptyS X.w) := by rw [← at3]
  have I3 : Inv X pins σ (upd H2 D (SetO X.w D (fun _ => false) 0)) s3 := by
    rw [← at3]
    refine I2.laid (t' := s2.toks) (fun b o e => Heap.get?_push_of_some _ e) (Nat.le_of_eq atD) (setO_new ?_)
    rw [← atD]
    exact setR_fresh X.w
  have low : ∀ b ∈ fp, b < s2.heap.objs.size := fun b hb => by
    obtain ⟨o, e, _⟩ := T.obj _ _ st2 b hb
    exact Heap.lt_size e
  have f3 : ∀ b ∈ fp, FpOk X pins (upd H2 D (SetO X.w D (fun _ => false) 0)) b ∧ b < s3.heap.objs.size := fun b hb => by
    have lt := low b hb
    refine ⟨⟨?_, (f2 b hb).2⟩, by rw [heap3, Heap.size_push]; exact Nat.lt_succ_of_lt lt⟩
    rw [upd_ne (by rw [← atD]; exact Nat.ne_of_lt lt)]
    exact (f2 b hb).1
  have st3 : tn 0 s3.heap := T.keep _ _ _ st2 fun b _ o e => by rw [heap3]; exact Heap.get?_push_of_some _ e
  have I4 := block_start I3 ok nd f3
  generalize cells : cellsFrom (s3.heap.objs.size + 1) scope.names (cloFrom X.env.cells scope.names []) = cl at I4 ⊢
  have pg := hg s3 (upd H2 D (SetO X.w D (fun _ => false) 0)) s3.heap.objs.size cl fp
  have pt := ht s3 (upd H2 D (SetO X.w D (fun _ => false) 0)) s3.heap.objs.size cl fp
  have pe := he s3 (upd H2 D (SetO X.w D (fun _ => false) 0)) s3.heap.objs.size cl fp
  have none3 : ∀ b ∈ fp, (upd H2 D (SetO X.w D (fun _ => false) 0)) b = none := fun b hb => (f3 b hb).1.1
  show codeAny _ _ (.compStart (.SetComp elt [⟨tg, iter, ifs, 0⟩] scope pos) 0 (.ref it) (.ref D) (compEnvC scope cl s3.heap.objs.size X.env)) (compPost (model X.prog X.w) X.A X.xe none _ (.ref D) s3.heap.objs.size) { s3 with heap := pushCells (s3.heap.push { cls := .type "dict", data := .dict #[] }) scope.names }
  generalize inner : compEnvC scope cl s3.heap.objs.size X.env = ce at I4 pg pt pe ⊢
  have cL : ce.locals = s3.heap.objs.size := by rw [← inner]; rfl
  generalize upd H2 D (SetO X.w D (fun _ => false) 0) = H3 at I3 I4 pg pt pe w0 none3 f3
  generalize at4 : ({ s3 with heap := pushCells (s3.heap.push { cls := .type "dict", data := .dict #[] }) scope.names } : Shared) = s4 at I4 ⊢
  have st4 : tn 0 s4.heap := T.keep _ _ _ st3 fun b _ o e => by rw [← at4]; exact pushCells_keeps _ _ _ _ (Heap.get?_push_of_some _ e)
  have still : ∀ {σ' : L2.St} {H' : Hp} {s' : Shared}, Inv (X.blk s3 H3 scope ce fp) [] σ' H' s' → (∀ b ∈ fp, H' b = none) → ∀ b ∈ fp, FpOk (X.blk s3 H3 scope ce fp) [] H' b := fun {σ' H' s'} I' hn b hb =>
    ⟨hn b hb, (I'.ok.exf b hb).1, I'.ok.exfs b hb, .inl hb, fun x c e => (I'.ok.exf b hb).2 x c e, fun p hp => absurd (show p ∈ ([] : List (Addr × Obj)) ++ [] from hp) (by simp)⟩
  have loop : codeAny (model X.prog X.w) X.A (.compLoop (.SetComp elt [⟨tg, iter, ifs, 0⟩] scope pos) 0 (.ref it) (.ref D) ce) (compPost (model X.prog X.w) X.A X.xe none (fun u s' => ∃ v H', Inv X pins σ H' s' ∧ RelV v u ∧ Q v H') (.ref D) s3.heap.objs.size) s4 := by
    refine PpSet.compLoopS_any (fun n s' => ∃ i H', Inv (X.blk s3 H3 scope ce fp) [] (wipe σ (own.map (·.2))) H' s' ∧ tn i s'.heap ∧ (∀ b ∈ fp, H' b = none) ∧ W i n H') (fun n s5 now => ?_) m0 ⟨0, H3, I4, st4, none3, w0⟩
    obtain ⟨i, H5, I5, st5, n5, w5⟩ := now
    rcases turn i n H5 w5 with ⟨stop, fin⟩ | ⟨go, Nx, less, step⟩
    · refine thnF (T.done (X.blk s3 H3 scope ce fp) rfl rfl rfl calm i [] s5 _ H5 (fun _ _ => False) I5 (still I5 n5) st5 stop) fun r s6 ⟨er, I6⟩ => ?_
      subst er
      have I7 : Inv X pins σ H5 s6 := I3.call' (ch := fp) I6.os I6.base I6.hok I6.bare fun b hb => ⟨(f3 b hb).1.2.2.2.1, (f3 b hb).1.2.1, (f3 b hb).1.2.2.2.2.1, (f3 b hb).1.2.2.2.2.2⟩
      have gone : H5 s3.heap.objs.size = none := by
        have z : H5 ce.locals = none := I6.free
        rwa [cL] at z
      obtain ⟨m, hn, _⟩ := I6.loc
      have hn : s6.heap.Ns ce.locals m := hn
      rw [cL] at hn
      obtain ⟨f0, f1, f2', f3', f4, f5⟩ := I3.fpOk (Nat.le_refl _) gone
      exact ⟨m, hn, fun h'' sb => ⟨.ref D, H5, I7.turned (t' := s6.toks) (fun b o hb e => (sb.2 b hb).trans e) f0 f1 f3' f4 f5, rfl, fin⟩⟩
    · refine thnF (T.item (X.blk s3 H3 scope ce fp) rfl rfl rfl calm i [] s5 _ H5 (fun _ _ => False) I5 (still I5 n5) st5 go) fun r s6 ⟨u, er, h6⟩ => ?_
      subst er
      refine thnF h6 fun _ s7 ⟨x, H7, I7, r7, y7, st7, n7⟩ => ?_
      refine thnF (pg.run _ s7 _ H7 x u _ (I7.pinned (still I7 n7) (T.obj _ _ st7)) r7 (step x H7 y7)) fun _ s8 ⟨σ8, H8, I8, hw8, q8⟩ => ?_
      refine thnF (pt.run _ s8 σ8 H8 _ I8 q8) fun b s9 ⟨H9, I9, q9⟩ => ?_
      have close : ∀ {s' : Shared} {H' : Hp}, Inv (X.blk s3 H3 scope ce fp) ([] ++ pinsAt fp s7.heap) σ8 H' s' → Nx H' → ∃ m, m < n ∧ ∃ i H', Inv (X.blk s3 H3 scope ce fp) [] (wipe σ (own.map (·.2))) H' s' ∧ tn i s'.heap ∧ (∀ b ∈ fp, H' b = none) ∧ W i m H' := fun {s' H'} I' nx => by
        obtain ⟨m', lt, w'⟩ := less H' nx
        have pinned : ∀ b ∈ fp, ∀ o, s7.heap.get? b = some o → s'.heap.get? b = some o ∧ H' b = none := fun b hb o e =>
          let z := I'.pin (b, o) (List.mem_append_right _ (List.mem_append_right _ (mem_pinsAt hb e)))
          ⟨z.1, z.2.1⟩
        refine ⟨m', lt, i + 1, H', (I'.unpinned (pins := [])).weak (by rw [← hw8, wipe_length]) (fun j v e => ?_), T.keep _ _ _ st7 fun b hb o e => (pinned b hb o e).1, fun b hb => ?_, w'⟩
        · rw [← hw8] at e
          exact (wipe_some e).1
        · obtain ⟨o, e, _⟩ := T.obj _ _ st7 b hb
          exact (pinned b hb o e).2
      cases b with
      | false =>
        simp only [Bool.false_eq_true, if_false] at q9 ⊢
        exact close I9 q9
      | true =>
        simp only [if_true] at q9 ⊢
        refine thnF (pe.run _ s9 σ8 H9 _ I9 q9) fun z s10 ⟨yv, H10, I10, r10, c, S0, n0, ey, hD10, hz10, nx⟩ => ?_
        subst ey
        obtain ⟨tk, rfl⟩ := r10
        exact add_num (X := X.blk s3 H3 scope ce fp) I10 hD10 hz10 fun s11 I11 => close I11 nx
  exact PpSet.codeAny_compStart_set loop (T.self X.A 0 _ _ _ st4 loop)
end
/-! set(xs), xs a list of numbers -/
section
variable {P : Program} {w : World} {A : Around} {E : Value → Shared → Prop} {s : Shared}
set_option maxHeartbeats 6000000 in
theorem set_of_list {l : Addr} {items : Array Value} {ns : List Int} {Q : Value → Shared → Prop} (free : A.handled = none) (list : s.heap.IsList l items) (nums : IntsAre items.toList ns) (room : ns.length + 1 < scanBound)
    (then_ : ∀ (h' : Heap) (tk c : Nat), SetR w h' s.heap.objs.size (fun j => decide (j ∈ ns)) c → c ≤ ns.length → (∀ b o, s.heap.get? b = some o → h'.get? b = some o) → Q (.ref s.heap.objs.size) { s with heap := h', toks := tk }) :
    wpAny (model P w) A (call (.type "set") [.ref l]) Q E s := by
  have many : items.size = ns.length := by
    have := IntsAre.length nums
    rwa [Array.length_toList] at this
  obtain ⟨first, rest, mro⟩ := F.called_set.mro
  have made := F.called_set.made
  have sub := F.called_set.sub
  have notT := F.called_set.notType
  have can := F.called_set.canCreate
  have one := F.typeCall_set_1 (.ref l)
  refine wpAny_call (codeAny_of_tree ?_)
  show wpAny _ _ (callAny (.type "set") _) _ _ _
  refine wpAny_pure ⟨Code.quiet_builtin _ (by decide +kernel), codeAny_builtin F.entry_type_call ?_⟩
  rw [Around.under_plain (weight_type_call_type "set" [.ref l] []) rfl]
  repeat (any_goals (first | assumption | wp_step))
  refine codeAny_mono (code_set_led1 (.ref l) (E := E) (Q₁ := fun v s1 => v = .ref s.heap.objs.size ∧ s1 = { s with heap := s.heap.push (emptyS w) }) ⟨rfl, rfl⟩) fun r s1 hr => ?_
  match r, hr with
  | .error e, hr => exact hr
  | .ok (.ret _), ⟨e1, e2⟩ =>
    subst e1 e2
    have stands : (s.heap.push (emptyS w)).get? s.heap.objs.size = some (emptyS w) := Heap.get?_push_size _ rfl
    have typed : Shared.TypeIs { s with heap := s.heap.push (emptyS w) } (.ref s.heap.objs.size) "set" := ⟨_, stands, rfl⟩
    have look := F.called_set.init.lookup
    have bound := F.called_set.init.bind (.ref s.heap.objs.size)
    repeat (any_goals (first | assumption | wp_step))
    refine codeAny_mono (codeAny_call_builtin (R := wants (fun r s2 => r = .none ∧ ∃ h' tk c, s2 = { s with heap := h', toks := tk } ∧ SetR w h' s.heap.objs.size (fun j => decide (j ∈ ns)) c ∧ c ≤ ns.length ∧ (∀ b o, s.heap.get? b = some o → h'.get? b = some o)) E) F.called_set.init.plain F.entry_set_init (check_set_init_1 typed ?_)) fun r2 s2 hr2 => ?_
    · obtain ⟨⟨cl, dc, dt, sl⟩, at_, ecl, nl, edt⟩ := list
      simp only at ecl edt
      subst ecl edt
      have at2 : (s.heap.push (emptyS w)).get? l = some { cls := .type "list", dict := dc, data := .seq items nl, slots := sl } := Heap.get?_push_of_some _ at_
      have n1 := F.sub_list_set
      have n2 := F.sub_list_frozenset
      have n3 : (Value.type "list" == Value.type "dict") = false := by decide
      have list2 : (s.heap.push (emptyS w)).IsList l items := ⟨_, at2, rfl, nl, rfl⟩
      unfold Builtin.«set.__init__» noKeywords Builtin.Frozenset.updateFrom
      generalize iterAs : pyIter = PI
      wp_walk
      subst iterAs
      refine wpAny_pyIter_list list2 (wpAny_bind (wpAny_runValue ?_))
      have ll : l < s.heap.objs.size := Heap.lt_size at_
      have sz : (s.heap.push (emptyS w)).objs.size = s.heap.objs.size + 1 := Heap.size_push ..
      have free3 : A.in1.in1.in1.handled = none := by simp [free]
      have unlike : l ≠ (s.heap.push (emptyS w)).objs.size := by rw [sz]; exact Nat.ne_of_lt (Nat.lt_succ_of_lt ll)
      have out : s.heap.objs.size ∉ [(s.heap.push (emptyS w)).objs.size, l] := by
        rw [sz]
        simp only [List.mem_cons, List.mem_singleton, List.not_mem_nil, or_false, not_or]
        exact ⟨Nat.ne_of_lt (Nat.lt_succ_self _), Nat.ne_of_gt ll⟩
      have vals : ∀ (i : Nat) (v : Value), items[i]? = some v → ∃ k t, ns[i]? = some k ∧ v = .int k t := fun i v hv => by
        have hi : i < ns.length := by rw [← many]; exact (Array.getElem?_eq_some_iff.mp hv).1
        obtain ⟨t, e⟩ := PyProof.Rows.IntsAre.int_at nums i v (by rw [Array.getElem?_toList]; exact hv)
        exact ⟨ns[i], t, List.getElem?_eq_getElem hi, by rw [e, List.getD_eq_getElem?_getD, List.getElem?_eq_getElem hi] <;> rfl⟩
      refine set_update_ints ((Walks.list free3 _ l unlike items).toS) s.heap.objs.size out ns many room vals (items.size - 0) 0 _ (by omega) (Nat.zero_le _) ⟨⟨_, Heap.get?_push_size _ rfl, rfl, rfl⟩, (list2.push _)⟩ ⟨0, Nat.le_refl 0, setR_new_at (Heap.get?_push_of_some _ stands)⟩ fun s' c' mv hc' hS' => ?_
      obtain ⟨h', g2, d', tk', os'⟩ := s'
      have eg : g2 = s.gens := mv.gens
      have ed : d' = s.drawn := mv.drawn
      have eo : os' = s.os := mv.os
      subst eg ed eo
      show wpAny _ _ _ _ _ _
      refine wpAny_pure ?_
      show wpAny _ _ (ret Value.none) _ _ _
      rw [many] at hc'
      refine wpAny_pure ⟨rfl, h', tk', c', rfl, hS', hc', fun b o e => ?_⟩
      have below : b < s.heap.objs.size := Heap.lt_size e
      refine mv.heap b o ?_ (Heap.get?_push_of_some _ (Heap.get?_push_of_some _ e))
      simp only [List.mem_cons, List.mem_singleton, List.not_mem_nil, or_false, not_or]
      exact ⟨Nat.ne_of_lt below, by rw [sz]; exact Nat.ne_of_lt (Nat.lt_succ_of_lt below)⟩
    · match r2, hr2 with
      | .error e, hr2 => exact hr2
      | .ok (.ret _), ⟨e1, h', tk, c', e2, hS', hc', hk'⟩ =>
        subst e1 e2
        repeat (any_goals (first | assumption | wp_step))
        exact then_ _ _ _ hS' hc' hk'
end
section
variable {X : Cx}
def rSetI (K : PySem.W.Frag) (w : World) : List V → Hp → VK → Prop := fun xs H Q => ∃ (l : Addr) (ns : List Int), xs = [.ref l] ∧ SqL K H l (ns.map V.int) ∧ ns.length < 4000 ∧ ∀ p c, H p = none → c ≤ ns.length → Q (.ref p) (upd H p (SetO w p (fun j => decide (j ∈ ns)) c))
theorem cr_setI (calm : X.calm = true) : CallR X (.type "set") (rSetI X.K X.w) := fun pins s σ H xs us Q I r h => by
  obtain ⟨l, ns, rfl, hs, small, q⟩ := h
  rw [Vals.ref1 r]
  obtain ⟨its, rv, hl, _⟩ := I.list hs
  refine set_of_list (I.ok.hd calm) hl.isList (ints_of_vals rv) (by unfold scanBound; omega) fun h' tk c new hc keep => ?_
  exact ⟨.ref _, upd H s.heap.objs.size (SetO X.w s.heap.objs.size (fun j => decide (j ∈ ns)) c), I.laid (t' := tk) keep (Nat.le_refl _) (setO_new new), rfl, q _ c (I.hok.fresh (Nat.le_refl _)) hc⟩
theorem kk_sortedSN (w : World) (calm : X.calm = true) (h : X.w = w := by rfl) : CallR X (.builtin "sorted") (rSortedSN w) := h ▸ cr_sortedSN calm
theorem kk_setI (K : PySem.W.Frag) (w : World) (calm : X.calm = true) (h1 : X.K = K := by rfl) (h2 : X.w = w := by rfl) : CallR X (.type "set") (rSetI K w) := by
  subst h1 h2
  exact cr_setI calm
end
/-! ### lists of tuples: the addresses beside what stands there -/
abbrev refs {α : Type} (L : List (Addr × α)) : List V := L.map fun q => V.ref q.1
def RowsAt {α : Type} (f : α → List V) (H : Hp) (L : List (Addr × α)) : Prop := ∀ q ∈ L, H q.1 = some (.tup (f q.2))
section
variable {α : Type} {f : α → List V} {H H' : Hp} {L M : List (Addr × α)} {K : PySem.W.Frag}
theorem RowsAt.same (h : RowsAt f H L) (e : Same H H') : RowsAt f H' L := fun q hq => e _ _ (h q hq)
theorem RowsAt.sub (h : RowsAt f H L) (e : ∀ q ∈ M, q ∈ L) : RowsAt f H M := fun q hq => h q (e q hq)
theorem RowsAt.but {b : Addr} {xs : List V} (h : RowsAt f H L) (hb : H b = some (.lst xs)) (t : But b H H') : RowsAt f H' L := fun q hq => t _ _ (ne_of (h q hq) hb (by intro z; cases z)) (h q hq)
theorem RowsAt.updL {D : Addr} {xs : List V} {o : HO} (h : RowsAt f H L) (hD : H D = some (.lst xs)) : RowsAt f (upd H D o) L := fun q hq => by
  rw [upd_ne (ne_of (h q hq) hD (by intro z; cases z))]
  exact h q hq
theorem RowsAt.snoc {q : Addr × α} (h : RowsAt f H L) (hq : H q.1 = some (.tup (f q.2))) : RowsAt f H (L ++ [q]) := fun x hx => by
  rcases List.mem_append.mp hx with y | y
  · exact h x y
  · rw [List.mem_singleton.mp y]
    exact hq
theorem RowsAt.nil : RowsAt f H ([] : List (Addr × α)) := fun _ h => (nomatch h)
theorem refs_at {i : Nat} {x : V} (h : (refs L)[i]? = some x) : ∃ q, L[i]? = some q ∧ x = .ref q.1 ∧ q ∈ L := by
  rw [List.getElem?_map] at h
  obtain ⟨q, hq, rfl⟩ := Option.map_eq_some_iff.mp h
  exact ⟨q, hq, rfl, List.mem_of_getElem? hq⟩
end
theorem refs_snoc {α : Type} (S : List (Addr × α)) (q : Addr × α) : refs (S ++ [q]) = refs S ++ [V.ref q.1] := by
  unfold refs
  rw [List.map_append]
  rfl
/-! what walks a list or a tuple that stands still -/
def JOk (H : Hp) (J : It) (xs : List V) : Prop := ∀ i G, Same H G → (i < xs.length → J.go i G) ∧ (i = xs.length → J.stop i G) ∧ ∀ x G', J.yld i G x G' → G' = G ∧ xs[i]? = some x
section
variable {K : PySem.W.Frag} {H : Hp} {a : Addr} {xs : List V}
theorem jok_l (h : SqL K H a xs) : JOk H (Itl K a) xs := fun i G s => by
  have q := s.seq h
  exact ⟨fun c => ⟨xs, _, q, List.getElem?_eq_getElem c⟩, fun c => ⟨xs, q, by omega⟩, fun x G' y => ⟨y.1, y.2 xs q⟩⟩
theorem jok_t (h : SqT K H a xs) : JOk H (Itt K a) xs := fun i G s => by
  have q := seqT_same s h
  exact ⟨fun c => ⟨xs, _, q, List.getElem?_eq_getElem c⟩, fun c => ⟨xs, q, by omega⟩, fun x G' y => ⟨y.1, y.2 xs q⟩⟩
theorem walk_or {σ : L2.St} {j : Nat} {R : It → Hp → Prop} (hv : σ[j]? = some (some (.ref a))) (hS : SqL K H a xs ∨ SqT K H a xs) (h : ∀ J, JOk H J xs → R J H) : iList K (tVar j) σ H R ∨ iTup K (tVar j) σ H R := by
  rcases hS with hS | hS
  · exact .inl ⟨_, hv, a, rfl, ⟨_, hS⟩, h _ (jok_l hS)⟩
  · exact .inr ⟨_, hv, a, rfl, ⟨_, hS⟩, h _ (jok_t hS)⟩
theorem walk_l {σ : L2.St} {j : Nat} {R : It → Hp → Prop} (hv : σ[j]? = some (some (.ref a))) (hS : SqL K H a xs) (h : ∀ J, JOk H J xs → R J H) : iList K (tVar j) σ H R := ⟨_, hv, a, rfl, ⟨_, hS⟩, h _ (jok_l hS)⟩
end
section
variable {α : Type} {f : α → List V} {H : Hp} {L : List (Addr × α)} {J : It} {g : TG} {tt : TT} {te : TE} {vs : List Nat} {σ : L2.St} {D : Addr} {Qd : Hp → Prop}
theorem take_snoc {β : Type} {l : List β} {i : Nat} {x : β} (h : l[i]? = some x) : l.take (i + 1) = l.take i ++ [x] := by
  rw [List.take_add_one, h]
  rfl
theorem filt_snoc {β : Type} {p : β → Bool} {l : List β} {x : β} : (l ++ [x]).filter p = l.filter p ++ (if p x = true then [x] else []) := by
  rw [List.filter_append, List.filter_cons]
  rfl
/-- a block over rows that takes some thing of some rows -/
theorem rows_lc (p : α → Bool) (el : Addr × α → V) (ok : JOk H J (refs L)) (hR : RowsAt f H L) (small : L.length ≤ 1000) (hD : H D = none)
    (turn : ∀ q ∈ L, ∀ G, Same H G → G q.1 = some (.tup (f q.2)) → ∀ (Y : VK) (N : Hp → Prop), (p q.2 = true → Y (el q) G) → (p q.2 = false → N G) → g (.ref q.1) (wipe σ vs) G fun σ2 H2 => wipe σ2 vs = wipe σ vs ∧ tt σ2 H2 fun b H3 => if b = true then te σ2 H3 Y else N H3)
    (last : ∀ G, Same H G → G D = some (.lst ((L.filter fun q => p q.2).map el)) → Qd G) :
    ∃ W : Nat → Nat → Hp → Prop, (∃ m, W 0 m (upd H D (.lst []))) ∧ ∀ i m H, W i m H → (J.stop i H ∧ Qd H) ∨ (J.go i H ∧ ∃ Nx : Hp → Prop, (∀ H', Nx H' → ∃ m', m' < m ∧ W (i + 1) m' H') ∧ ∀ x H', J.yld i H x H' → g x (wipe σ vs) H' fun σ2 H2 => wipe σ2 vs = wipe σ vs ∧ tt σ2 H2 fun b H3 =>
      if b = true then te σ2 H3 fun y H4 => ∃ acc, H4 D = some (.lst acc) ∧ acc.length < sizeLine ∧ Nx (upd H4 D (.lst (acc ++ [y]))) else Nx H3) := by
  have ln : (refs L).length = L.length := List.length_map ..
  refine lc_gen (n := L.length) (fun i G => Same H G ∧ G D = some (.lst (((L.take i).filter fun q => p q.2).map el))) ⟨same_new hD, upd_same⟩ (fun i G h => ?_) (fun i G v G' hi h y => ?_) (fun G h => ?_)
  · have := ok i G h.1
    rw [ln] at this
    exact ⟨this.1, this.2.1⟩
  · obtain ⟨rfl, hx⟩ := (ok i G h.1).2.2 v G' y
    obtain ⟨q, hq, rfl, hm⟩ := refs_at hx
    have le : (((L.take i).filter fun q => p q.2).map el).length ≤ i := by
      rw [List.length_map]
      exact Nat.le_trans (List.length_filter_le _ _) (by rw [List.length_take]; omega)
    refine turn q hm G' h.1 (h.1 _ _ (hR q hm)) _ _ (fun hp => ⟨_, h.2, Nat.lt_of_le_of_lt le (small1000 (by omega)), fun c o e => ?_, ?_⟩) (fun hp => ⟨h.1, ?_⟩)
    · rw [upd_ne (ne_of_none e hD)]
      exact h.1 _ _ e
    · rw [upd_same, take_snoc hq, filt_snoc, if_pos hp, List.map_append]
      rfl
    · rw [h.2, take_snoc hq, filt_snoc, if_neg (by rw [hp]; decide), List.append_nil]
  · obtain ⟨s, e⟩ := h
    rw [List.take_of_length_le (Nat.le_refl _)] at e
    exact last G s e
/-- a block over rows that makes a new tuple of some rows -/
theorem rows_lcA {β : Type} {f2 : β → List V} (p : α → Bool) (el : α → β) (ok : JOk H J (refs L)) (hR : RowsAt f H L) (small : L.length ≤ 1000) (hD : H D = none)
    (turn : ∀ q ∈ L, ∀ G, Same H G → G q.1 = some (.tup (f q.2)) → ∀ (Y : VK) (N : Hp → Prop), (p q.2 = true → ∀ t, G t = none → Y (.ref t) (upd G t (.tup (f2 (el q.2))))) → (p q.2 = false → N G) → g (.ref q.1) (wipe σ vs) G fun σ2 H2 => wipe σ2 vs = wipe σ vs ∧ tt σ2 H2 fun b H3 => if b = true then te σ2 H3 Y else N H3)
    (last : ∀ G (S : List (Addr × β)), Same H G → G D = some (.lst (refs S)) → RowsAt f2 G S → S.map (·.2) = ((L.map (·.2)).filter p).map el → Qd G) :
    ∃ W : Nat → Nat → Hp → Prop, (∃ m, W 0 m (upd H D (.lst []))) ∧ ∀ i m H, W i m H → (J.stop i H ∧ Qd H) ∨ (J.go i H ∧ ∃ Nx : Hp → Prop, (∀ H', Nx H' → ∃ m', m' < m ∧ W (i + 1) m' H') ∧ ∀ x H', J.yld i H x H' → g x (wipe σ vs) H' fun σ2 H2 => wipe σ2 vs = wipe σ vs ∧ tt σ2 H2 fun b H3 =>
      if b = true then te σ2 H3 fun y H4 => ∃ acc, H4 D = some (.lst acc) ∧ acc.length < sizeLine ∧ Nx (upd H4 D (.lst (acc ++ [y]))) else Nx H3) := by
  have ln : (refs L).length = L.length := List.length_map ..
  refine lc_gen (n := L.length) (fun i G => Same H G ∧ ∃ S : List (Addr × β), G D = some (.lst (refs S)) ∧ RowsAt f2 G S ∧ S.map (·.2) = (((L.take i).map (·.2)).filter p).map el) ⟨same_new hD, [], upd_same, .nil, rfl⟩ (fun i G h => ?_) (fun i G v G' hi h y => ?_) (fun G h => ?_)
  · have := ok i G h.1
    rw [ln] at this
    exact ⟨this.1, this.2.1⟩
  · obtain ⟨s, S, e, hS, hm⟩ := h
    obtain ⟨rfl, hx⟩ := (ok i G s).2.2 v G' y
    obtain ⟨q, hq, rfl, hmem⟩ := refs_at hx
    have le : (refs S).length ≤ i := by
      rw [List.length_map, ← List.length_map (f := (·.2)) (as := S), hm, List.length_map]
      exact Nat.le_trans (List.length_filter_le _ _) (by rw [List.length_map, List.length_take]; omega)
    have e1 : ((L.take (i + 1)).map (·.2)) = (L.take i).map (·.2) ++ [q.2] := by
      rw [take_snoc hq, List.map_append]
      rfl
    refine turn q hmem G' s (s _ _ (hR q hmem)) _ _ (fun hp t ht => ⟨_, same_new ht _ _ e, Nat.lt_of_le_of_lt le (small1000 (by omega)), fun c o ec => ?_, S ++ [(t, el q.2)], ?_, ?_, ?_⟩) (fun hp => ⟨s, S, e, hS, ?_⟩)
    · rw [upd_ne (ne_of_none ec hD)]
      exact same_new ht _ _ (s _ _ ec)
    · rw [upd_same, refs_snoc]
    · refine ((hS.same (same_new ht)).updL (same_new ht _ _ e)).snoc ?_
      show (upd (upd G' t _) D _) t = _
      rw [upd_ne (fun z => by rw [z, e] at ht; cases ht), upd_same]
    · rw [List.map_append, hm, e1, filt_snoc, if_pos hp, List.map_append]
      rfl
    · rw [hm, e1, filt_snoc, if_neg (by rw [hp]; decide), List.append_nil]
  · obtain ⟨s, S, e, hS, hm⟩ := h
    rw [List.take_of_length_le (Nat.le_refl _)] at hm
    exact last G S s e hS hm
end
section
variable {α : Type} {f : α → List V} {H : Hp} {L : List (Addr × α)} {J : It} {g : TG} {tt : TT} {te : TE} {vs : List Nat} {σ : L2.St} {D : Addr} {Qd : Hp → Prop}
/-- a set by a block over rows -/
theorem rows_sc {w : World} (key : α → Int) (ok : JOk H J (refs L)) (hR : RowsAt f H L) (small : L.length ≤ 1000) (hD : H D = none)
    (turn : ∀ q ∈ L, ∀ G, Same H G → G q.1 = some (.tup (f q.2)) → ∀ (Y : VK) (N : Hp → Prop), Y (.int (key q.2)) G → g (.ref q.1) (wipe σ vs) G fun σ2 H2 => wipe σ2 vs = wipe σ vs ∧ tt σ2 H2 fun b H3 => if b = true then te σ2 H3 Y else N H3)
    (last : ∀ G n, Same H G → n ≤ L.length → G D = some (SetO w D (fun k => decide (k ∈ L.map fun q => key q.2)) n) → Qd G) :
    ∃ W : Nat → Nat → Hp → Prop, (∃ m, W 0 m (upd H D (SetO w D (fun _ => false) 0))) ∧ ∀ i m H, W i m H → (J.stop i H ∧ Qd H) ∨ (J.go i H ∧ ∃ Nx : Hp → Prop, (∀ H', Nx H' → ∃ m', m' < m ∧ W (i + 1) m' H') ∧ ∀ x H', J.yld i H x H' → g x (wipe σ vs) H' fun σ2 H2 => wipe σ2 vs = wipe σ vs ∧ tt σ2 H2 fun b H3 =>
      if b = true then te σ2 H3 fun y H4 => ∃ (c : Int) (S : Int → Bool) (n : Nat), y = .int c ∧ H4 D = some (SetO w D S n) ∧ n + 1 < scanBound ∧ Nx (upd H4 D (SetO w D (fun j => S j || decide (j = c)) (if S c = true then n else n + 1))) else Nx H3) := by
  have ln : (refs L).length = L.length := List.length_map ..
  refine ⟨fun i m G => m + i = L.length ∧ Same H G ∧ ∃ n, n ≤ i ∧ G D = some (SetO w D (fun k => decide (k ∈ (L.take i).map fun q => key q.2)) n), ⟨L.length, by omega, same_new hD, 0, Nat.le_refl _, ?_⟩, fun i m G now => ?_⟩
  · rw [upd_same]
    congr 2
  · obtain ⟨em, s, n, le, e⟩ := now
    obtain ⟨c1, c2, c3⟩ := ok i G s
    rw [ln] at c1 c2
    by_cases c : i < L.length
    · refine .inr ⟨c1 c, fun G' => Same H G' ∧ ∃ n, n ≤ i + 1 ∧ G' D = some (SetO w D (fun k => decide (k ∈ (L.take (i + 1)).map fun q => key q.2)) n), fun G' z => ⟨m - 1, by omega, by omega, z.1, z.2⟩, fun x G' y => ?_⟩
      obtain ⟨rfl, hx⟩ := c3 x G' y
      obtain ⟨q, hq, rfl, hmem⟩ := refs_at hx
      refine turn q hmem G' s (s _ _ (hR q hmem)) _ _ ⟨_, _, _, rfl, e, by unfold scanBound; omega, fun c o ec => ?_, (if decide (key q.2 ∈ (L.take i).map fun q => key q.2) = true then n else n + 1), ?_, ?_⟩
      · rw [upd_ne (ne_of_none ec hD)]
        exact s _ _ ec
      · split <;> omega
      · rw [upd_same]
        congr 2
        funext k
        rw [take_snoc hq, List.map_append, List.map_singleton]
        by_cases z : k = key q.2
        · simp [z]
        · simp [z]
    · have z : i = L.length := by omega
      rw [z, List.take_of_length_le (Nat.le_refl _)] at e
      exact .inl ⟨c2 z, last G n s (by omega) e⟩
end
/-! ### sorted of triples of numbers, of any many -/
abbrev Tr : Type := Int × Int × Int
def trV (t : Tr) : List V := [.int t.1, .int t.2.1, .int t.2.2]
def lt3 (p q : Tr) : Bool := if p.1 = q.1 then (if p.2.1 = q.2.1 then decide (p.2.2 < q.2.2) else decide (p.2.1 < q.2.1)) else decide (p.1 < q.1)
theorem lt3_iff {p q : Tr} : lt3 p q = true ↔ p.1 < q.1 ∨ (p.1 = q.1 ∧ (p.2.1 < q.2.1 ∨ (p.2.1 = q.2.1 ∧ p.2.2 < q.2.2))) := by
  unfold lt3
  by_cases a : p.1 = q.1
  · by_cases b : p.2.1 = q.2.1
    · rw [if_pos a, if_pos b, decide_eq_true_eq]
      omega
    · rw [if_pos a, if_neg b, decide_eq_true_eq]
      omega
  · rw [if_neg a, decide_eq_true_eq]
    omega
theorem lt3_no {p q : Tr} : lt3 p q = false ↔ ¬ (p.1 < q.1 ∨ (p.1 = q.1 ∧ (p.2.1 < q.2.1 ∨ (p.2.1 = q.2.1 ∧ p.2.2 < q.2.2)))) := by
  rw [← lt3_iff]
  cases lt3 p q <;> simp
theorem swo3 {α : Type} (k : α → Tr) : SrtO.Swo fun v u => lt3 (k v) (k u) := by
  refine ⟨fun x y h => ?_, fun x y z h1 h2 => ?_⟩
  · have a := lt3_iff.mp h
    refine lt3_no.mpr ?_
    omega
  · have a := lt3_no.mp h1
    have b := lt3_no.mp h2
    refine lt3_no.mpr ?_
    omega
def IsTri (h : Heap) (v : Value) (k : Tr) : Prop := ∃ a o t u r n, v = .ref a ∧ h.get? a = some o ∧ o.cls = .type "tuple" ∧ o.data = .seq #[.int k.1 t, .int k.2.1 u, .int k.2.2 r] n
theorem IsTri.keeps {h h' : Heap} {v : Value} {k : Tr} (p : IsTri h v k) (e : ∀ b o, h.get? b = some o → o.cls = .type "tuple" → h'.get? b = some o) : IsTri h' v k := by
  obtain ⟨a, o, t, u, r, n, e1, e2, e3, e4⟩ := p
  exact ⟨a, o, t, u, r, n, e1, e a o e2 e3, e3, e4⟩
theorem tri_firsts {h : Heap} {k : Value → Tr} : ∀ {vs : List Value}, (∀ v ∈ vs, IsTri h v (k v)) → ∃ fs : List Value, PySem.W.KatTups h vs fs ∧ fs.length = vs.length ∧ ∀ f ∈ fs, ∃ x t, f = Value.int x t
  | [], _ => ⟨[], PySem.W.KatTups.nil, rfl, fun _ hm => (nomatch hm)⟩
  | v :: vs, hp => by
    obtain ⟨fs, c1, c2, c3⟩ := tri_firsts (vs := vs) fun x hx => hp x (List.mem_cons_of_mem _ hx)
    obtain ⟨a, o, t, u, r, n, e, ho, hc, hd⟩ := hp v List.mem_cons_self
    generalize (k v).1 = x at hd
    subst e
    refine ⟨.int x t :: fs, PySem.W.KatTups.cons ho hc hd rfl c1, by rw [List.length_cons, List.length_cons, c2], fun f hm => ?_⟩
    rcases List.mem_cons.mp hm with rfl | hm
    · exact ⟨x, t, rfl⟩
    · exact c3 f hm
section
variable {prog : Program} {w : World} {A : Around} {E : Value → Shared → Prop} {s : Shared}
theorem tri_cmp {vs : List Value} {k : Value → Tr} (hp : ∀ v ∈ vs, IsTri s.heap v (k v)) : SrtO.Cmp prog w A s (tuples' true) (fun p => p.1 ∈ vs) (SrtO.lt2 fun v u => lt3 (k v) (k u)) := by
  intro p q hm hm'
  have h1 := hp _ hm
  have h2 := hp _ hm'
  show wpAny (model prog w) A (keyLt' (tuples' true) p.1 q.1) (fun r s' => s' = s ∧ r = lt3 (k p.1) (k q.1)) (fun _ _ => False) s
  generalize k p.1 = m at h1 ⊢
  generalize k q.1 = m' at h2 ⊢
  obtain ⟨x, y, z⟩ := m
  obtain ⟨x', y', z'⟩ := m'
  obtain ⟨a, o, t, u, r, n, e, ho, hc, hd⟩ := h1
  obtain ⟨a', o', t', u', r', n', e', ho', hc', hd'⟩ := h2
  rw [e, e']
  refine PySem.W.kat_lt ho hd ho' hd' ?_
  show PySem.W.KatLex prog w A true (decide (3 < 3)) _ [(.int x t, .int x' t'), (.int y u, .int y' u'), (.int z r, .int z' r')] 0 s
  refine PySem.W.kat_cons (SeqAt.EqAt.int_int x t x' t' prog w _ _ (PySem.W.kat_go (fun c1 => ?_) (fun c1 => ?_)))
  · have ex : x = x' := by simpa using c1
    refine PySem.W.kat_yes (PySem.W.kat_cons (SeqAt.EqAt.int_int y u y' u' prog w _ _ (PySem.W.kat_go (fun c2 => ?_) (fun c2 => ?_))))
    · have ey : y = y' := by simpa using c2
      refine PySem.W.kat_yes (PySem.W.kat_cons (SeqAt.EqAt.int_int z r z' r' prog w _ _ (PySem.W.kat_go (fun c3 => ?_) (fun c3 => ?_))))
      · have ez : z = z' := by simpa using c3
        have no : lt3 (x, y, z) (x', y', z') = false := lt3_no.mpr (by show ¬ (x < x' ∨ (x = x' ∧ (y < y' ∨ (y = y' ∧ z < z')))); omega)
        exact PySem.W.kat_yes (PySem.W.kat_nil ⟨rfl, no.symm⟩)
      · refine PySem.W.kat_no (PySem.W.kat_one _ _ (PyProof.Rows.lt_int ?_))
        have is : lt3 (x, y, z) (x', y', z') = decide (z < z') := by
          show (if x = x' then (if y = y' then _ else _) else _) = _
          rw [if_pos ex, if_pos ey]
        exact (show s = s ∧ decide (z < z') = lt3 (x, y, z) (x', y', z') from ⟨rfl, is.symm⟩)
    · refine PySem.W.kat_no (PySem.W.kat_one _ _ (PyProof.Rows.lt_int ?_))
      have ey : ¬ y = y' := by simpa using c2
      have is : lt3 (x, y, z) (x', y', z') = decide (y < y') := by
        show (if x = x' then (if y = y' then _ else _) else _) = _
        rw [if_pos ex, if_neg ey]
      exact (show s = s ∧ decide (y < y') = lt3 (x, y, z) (x', y', z') from ⟨rfl, is.symm⟩)
  · have ex : ¬ x = x' := by simpa using c1
    have is : lt3 (x, y, z) (x', y', z') = decide (x < x') := by
      show (if x = x' then _ else _) = _
      rw [if_neg ex]
    exact PySem.W.kat_no (oneLt_int ⟨rfl, is.symm⟩)
theorem sorted_tri {l : Addr} {vs : List Value} {k : Value → Tr} {Q : Value → Shared → Prop} (hl : s.heap.IsList l vs.toArray) (hz : vs.length ≤ sizeLine) (hp : ∀ v ∈ vs, IsTri s.heap v (k v))
    (h : ∀ (h' : Heap) (d : Addr) (out : List Value), SrtO.Srtd (fun v u => lt3 (k v) (k u)) out → out.Perm vs → (∀ b o, s.heap.get? b = some o → h'.get? b = some o) → s.heap.objs.size ≤ d → (∃ n, h'.get? d = some (seqObj "list" out.toArray n)) → Q (.ref d) { s with heap := h' }) :
    wpAny (model prog w) A (call (.builtin "sorted") [.ref l]) Q E s := by
  refine SrtO.sorted_ord (swo3 k) hl hz (fun two h1 a ha kk => fun h' keep => ?_) fun out hs hb => h _ _ out hs hb.perm (fun b o e => sortedAll_old e) (Nat.le_succ _) (sortedAll_at s.heap vs out.toArray)
  have hp1 : ∀ v ∈ vs, IsTri h' v (k v) := fun v hm => (hp v hm).keeps fun b o e _ => keep b o (kk b o e).1 (kk b o e).2
  obtain ⟨fs, c1, c2, c3⟩ := tri_firsts hp1
  refine ⟨tuples' true, fun Q E hq => PySem.W.kat_kind (T := .type "int") c1 (by omega) (fun f hm => ?_) (by rfl) ?_, tri_cmp hp1⟩
  · obtain ⟨x, t, rfl⟩ := c3 f hm
    exact PySem.W.Looks.now
  · have e : (Value.type "int" != Value.type "tuple") = true := by first | decide +kernel | rfl | decide
    rw [e]
    exact hq
end
theorem perm_unmap {α β : Type} {f : α → β} {l m : List β} (h : l.Perm m) : ∀ w : List α, m = w.map f → ∃ v : List α, v.Perm w ∧ l = v.map f := by
  induction h with
  | nil =>
    intro w e
    exact ⟨w, List.Perm.refl _, e⟩
  | cons x _ ih =>
    intro w e
    match w, e with
    | y :: w', e =>
      obtain ⟨e1, e2⟩ := List.cons.inj e
      obtain ⟨v, p, ev⟩ := ih w' e2
      exact ⟨y :: v, p.cons y, by rw [List.map_cons, ev, e1]⟩
  | swap x y l =>
    intro w e
    match w, e with
    | a :: b :: w', e =>
      obtain ⟨e1, e2⟩ := List.cons.inj e
      obtain ⟨e3, e4⟩ := List.cons.inj e2
      exact ⟨b :: a :: w', List.Perm.swap _ _ _, by rw [List.map_cons, List.map_cons, ← e1, ← e3, ← e4]⟩
  | trans _ _ ih1 ih2 =>
    intro w e
    obtain ⟨v, p, ev⟩ := ih2 w e
    obtain ⟨u, p2, eu⟩ := ih1 v ev
    exact ⟨u, p2.trans p, eu⟩
/-- the three numbers at an address -/
def triAt (H : Hp) : V → Tr
  | .ref a => match H a with
    | some (.tup [.int x, .int y, .int z]) => (x, y, z)
    | _ => (0, 0, 0)
  | _ => (0, 0, 0)
section
variable {X : Cx}
def rSorted3 (K : PySem.W.Frag) : List V → Hp → VK → Prop := fun vs H Q => ∃ (a : Addr) (L : List (Addr × Tr)), vs = [.ref a] ∧ SqL K H a (refs L) ∧ RowsAt trV H L ∧ ∀ (M : List (Addr × Tr)) (p : Addr), M.Perm L → M.Pairwise (fun x y => lt3 y.2 x.2 = false) → H p = none → Q (.ref p) (upd H p (.lst (refs M)))
theorem cr_sorted3 : CallR X (.builtin "sorted") (rSorted3 X.K) := fun pins s σ H vs us Q I r h => by
  obtain ⟨a, L, rfl, hs, hR, q⟩ := h
  obtain ⟨its, rv, hl, hz⟩ := I.list hs
  obtain ⟨u, rfl, ru⟩ := vals1 r
  obtain rfl : u = Value.ref a := ru
  have key : ∀ x ∈ L, triAt H (.ref x.1) = x.2 := fun x hx => by
    show (match H x.1 with | some (.tup [.int x, .int y, .int z]) => (x, y, z) | _ => (0, 0, 0)) = x.2
    rw [hR x hx]
    rfl
  obtain ⟨e1, e2⟩ := refs_back rv fun x m => by
    obtain ⟨y, hy, rfl⟩ := List.mem_map.mp m
    exact ⟨y.1, rfl⟩
  refine sorted_tri (k := fun u => triAt H (backV u)) hl.isList (by rw [← rv.length]; exact hz) (fun v hv => ?_) fun h' d out h1 h2 kp hd hn => ?_
  · obtain ⟨t, rfl⟩ := e2 v hv
    have hm : V.ref t ∈ refs L := by rw [e1]; exact List.mem_map.mpr ⟨_, hv, rfl⟩
    obtain ⟨y, hy, e⟩ := List.mem_map.mp hm
    cases e
    obtain ⟨_, its2, r2, o, ho, hc, n, hd⟩ := I.hok _ _ (hR y hy)
    have ky : triAt H (backV (.ref y.1)) = y.2 := key y hy
    rw [ky]
    cases r2 with
    | cons a1 r2 =>
      cases r2 with
      | cons a2 r2 =>
        cases r2 with
        | cons a3 r2 =>
          cases r2
          obtain ⟨t1, rfl⟩ := a1
          obtain ⟨t2, rfl⟩ := a2
          obtain ⟨t3, rfl⟩ := a3
          exact ⟨y.1, o, t1, t2, t3, n, rfl, ho, hc, hd⟩
  · have h3 : ∀ u ∈ out, ∃ a, u = Value.ref a := fun u hu => e2 u (h2.mem_iff.mp hu)
    obtain ⟨n, hn⟩ := hn
    have pm : (out.map backV).Perm (refs L) := by
      rw [e1]
      exact h2.map backV
    obtain ⟨M, pM, eM⟩ := perm_unmap pm L rfl
    have srt : M.Pairwise (fun x y => lt3 y.2 x.2 = false) := by
      have z : (out.map backV).Pairwise (fun x y => lt3 (triAt H y) (triAt H x) = false) := List.pairwise_map.mpr h1
      rw [eM] at z
      refine (List.pairwise_map.mp z).imp_of_mem fun {x y} hx hy c => ?_
      rw [key x (pM.mem_iff.mp hx), key y (pM.mem_iff.mp hy)] at c
      exact c
    refine ⟨.ref d, upd H d (.lst (refs M)), I.laid (t' := s.toks) kp hd ⟨?_, out, n, ?_, hn⟩, rfl, q M d pM srt (I.hok.fresh hd)⟩
    · show (M.map fun q => V.ref q.1).length ≤ sizeLine
      rw [← eM, pm.length_eq]
      exact hz
    · show Vals (M.map fun q => V.ref q.1) out
      rw [← eM]
      exact vals_back h3
theorem kk_sorted3 (K : PySem.W.Frag) (h : X.K = K := by rfl) : CallR X (.builtin "sorted") (rSorted3 K) := h ▸ cr_sorted3
end
/-! ### min of a list of numbers, None of none -/
theorem ints_hold {h : Heap} : ∀ {ns : List Int} {us : List Value}, Vals (ns.map V.int) us → PySem.W.HoldAll h us ns
  | [], _, .nil => PySem.W.HoldAll.nil
  | n :: r, _, .cons ⟨t, e⟩ rr => by
    rw [e]
    exact PySem.W.HoldAll.cons (PySem.W.holds_int n t) (ints_hold rr)
theorem minOf_mem (x : Int) : ∀ ys : List Int, PySem.W.minOf x ys ∈ x :: ys ∧ ∀ n ∈ x :: ys, PySem.W.minOf x ys ≤ n := fun ys => by
  induction ys generalizing x with
  | nil => exact ⟨List.mem_cons_self, fun n hn => by rw [List.mem_singleton.mp hn]; exact Int.le_refl _⟩
  | cons y r ih =>
    have e : PySem.W.minOf x (y :: r) = PySem.W.minOf (if PySem.W.DatumOrd.lt y x = true then y else x) r := rfl
    have hlt : PySem.W.DatumOrd.lt y x = decide (y < x) := rfl
    rw [e, hlt]
    by_cases c : y < x
    · rw [decide_eq_true c, if_pos rfl]
      obtain ⟨h1, h2⟩ := ih y
      refine ⟨List.mem_cons_of_mem _ h1, fun n hn => ?_⟩
      rcases List.mem_cons.mp hn with rfl | hn
      · have := h2 y List.mem_cons_self
        omega
      · exact h2 n hn
    · rw [decide_eq_false c, if_neg (by decide)]
      obtain ⟨h1, h2⟩ := ih x
      refine ⟨?_, fun n hn => ?_⟩
      · rcases List.mem_cons.mp h1 with h | h
        · rw [h]
          exact List.mem_cons_self
        · exact List.mem_cons_of_mem _ (List.mem_cons_of_mem _ h)
      · rcases List.mem_cons.mp hn with rfl | hn
        · exact h2 n List.mem_cons_self
        · rcases List.mem_cons.mp hn with rfl | hn
          · have := h2 x List.mem_cons_self
            omega
          · exact h2 n (List.mem_cons_of_mem _ hn)
def rMinD (K : PySem.W.Frag) : List V → List V → Hp → VK → Prop := fun xs zs H Q => ∃ (a : Addr) (ns : List Int), xs = [.ref a] ∧ zs = [.non] ∧ SqL K H a (ns.map V.int) ∧ (ns = [] → Q .non H) ∧ ∀ m, m ∈ ns → (∀ n ∈ ns, m ≤ n) → Q (.int m) H
theorem call_minD (K : PySem.W.Frag) {X : Cx} (hc : X.calm = true) (hu : X.A.units + 64 < cLine) (h : X.K = K := by rfl) : CallRK X (.builtin "min") ["default"] (rMinD K) := by
  subst h
  intro pins s σ H xs zs us ws Q I rx rz h
  obtain ⟨a, ns, rfl, rfl, hs, q0, q1⟩ := h
  obtain ⟨its, rv, hl, _⟩ := I.list hs
  rw [Vals.ref1 rx]
  cases rz with
  | cons e rr =>
    cases rr
    cases (show _ = Value.none from e)
    refine PySem.W.min_list_datum_default (I.ok.hd hc) hl.isList (ints_hold rv) (by show X.A.units + 1 + 0 < cLine; omega) (fun e h' tk hk => ⟨.non, H, I.kept hk, rfl, q0 e⟩) (fun y ys i v h' tk e hi hv hk => ?_)
    subst e
    obtain ⟨h1, h2⟩ := minOf_mem y ys
    obtain ⟨bs, r⟩ := hv
    have q2 := q1 _ h1 h2
    have e3 : PySem.W.Datum.toD (PySem.W.minOf y ys) = PyData.int (PySem.W.minOf y ys) := rfl
    rw [e3] at r
    generalize PySem.W.minOf y ys = m at r q2
    cases r
    exact ⟨.int m, H, I.kept hk, ⟨_, rfl⟩, q2⟩
/-! ### the law's call where a def of the program makes a lambda: its code's table is written -/
theorem okC {P : Program} {w : World} {K : PySem.W.Frag} {mg : Str → Option Value} {base : Heap} {x qual : Str} {st : Stmt} {f c : Addr} {fd : FuncData} {N ps : List Str} {k : Nat} {sp : Sp} (F : Fun K x qual st f fd) (fc : fd.code = .ref c) (S : FnScope N ps (defScope st))
    (many : ∀ vs H Q E, sp vs H Q E → vs.length = ps.length)
    (walk : ∀ (A : Around) (out : List Env) (s : Shared) (H : Hp) (vs : List V) (Q : VK) (E : XK), Room k (A.deeper (envOfC qual (defScope st) s.heap.objs.size f (.ref c))) → sp vs H Q E →
      ∃ t, PSs (cxOf CX0 P w K mg base N qual (defScope st) f (.ref c) A out s H E).nox (defBody st) t ∧ t { nx := fun _ H' => Q .non H', rt := Q } (start N vs) H) : FnOk P w K mg base CX0 (k + 1) f fd ps sp := by
  obtain ⟨oc, od, kV, dc, pm, an, cv, ct, ol, rfl, look, code⟩ := F.ex
  cases (show cv = Value.ref c from fc)
  refine fn_of look code S many fun A out s H vs Q E room want => ?_
  obtain ⟨t, term, reading⟩ := walk A out s H vs Q E room want
  exact ⟨t, term.nox, reading⟩
/-- the tables at the law's entry: all empty, none else is tracked but the script -/
def Bare (H : Hp) (a : Addr) (tb : List Addr) : Prop := (∀ b ∈ tb, H b = some (.tbl #[])) ∧ ∀ b u, H b = some u → b ∉ tb → b = a ∧ ∃ o xs, u = .frz o (.lst xs)
theorem law_callGT {P : Program} {w : World} {K : PySem.W.Frag} {mg mb : Str → Option Value} {k : Nat} {fa a : Addr} {cs : List (Addr × Addr)} {fd : FuncData} {x : Str} {sp : Sp} {s₁ : Shared} {vs : List Value} {ns : List Int}
    (inK : K.In s₁.heap) (nsM : s₁.heap.Ns mainGlobals mg) (nsB : s₁.heap.Ns builtinsNs mb) (boot : ∀ y : Str, y ≠ "__name__" → mb y = bootBuiltins y) (lim : s₁.heap.NoLimit) (gens : s₁.gens = #[])
    (empty : ∀ p ∈ cs, s₁.heap.get? p.2 = some { cls := .none, data := .fields #[] }) (notK : ∀ p ∈ cs, K.lookup p.2 = none) (codes : ∀ p ∈ cs, PySem.W.CodeHd s₁.heap p.1 p.2)
    (bmain : ∃ (bm : Addr) (ob : Obj), mg "__builtins__" = some (.ref bm) ∧ bm ≠ builtinsNs ∧ s₁.heap.get? bm = some ob ∧ ob.cls = .type "module" ∧ ob.dict = some builtinsNs ∧ ob.data = .plain)
    (at_a : s₁.heap.get? a = some { cls := .type "list", data := .seq vs.toArray }) (areI : IntsAre vs ns) (fits : ns.length ≤ sizeLine) (room : Room k callerA)
    (F : ∀ base : Heap, K.In base → base.Ns mainGlobals mg → (∀ p ∈ cs, LamX.TabB base mg p.1 p.2) → FnG P w K mg base k fa fd [x] sp) (bind : ∀ (s : Shared) (u : Value), BindsTo s fd ⟨[u], []⟩ [(x, u)])
    (want : ∀ H : Hp, (∀ p ∈ cs, H p.2 = some (.tbl #[])) → SqL K H a (ns.map V.int) → sp [.ref a] H (fun v _ => v = .bl true) fun _ _ _ => False) :
    codeAny (model P w) callerA (.call (.ref fa) ⟨[.ref a], []⟩) (fun r s' => r = .ok (.ret (.bool true)) ∧ OldK s₁.heap s'.heap ∧ s'.os = s₁.os ∧ AllBare s'.gens) s₁ := by
  have many := areI.length
  obtain ⟨tb, htb⟩ : ∃ tb : List Addr, tb = cs.map (·.2) := ⟨_, rfl⟩
  have inTb : ∀ p ∈ cs, p.2 ∈ tb := fun p hp => by rw [htb]; exact List.mem_map.mpr ⟨p, hp, rfl⟩
  have ofTb : ∀ {b}, b ∈ tb → ∃ p ∈ cs, p.2 = b := fun {b} hb => by rw [htb] at hb; exact List.mem_map.mp hb
  have bare : ∀ {b}, b ∈ tb → s₁.heap.get? b = some { cls := .none, data := .fields #[] } := fun hb => by
    obtain ⟨p, hp, rfl⟩ := ofTb hb
    exact empty p hp
  have aOut : a ∉ tb := fun z => by
    have q := bare z
    rw [at_a] at q
    cases (show Data.seq vs.toArray _ = Data.fields #[] from congrArg Obj.data (Option.some.inj q))
  have goes : ∀ H : Hp, Bare H a tb → SqL K H a (ns.map V.int) → HOk P w H s₁.heap → (H a ≠ none → K.lookup a = none) →
      codeAny (model P w) callerA (.call (.ref fa) ⟨[.ref a], []⟩) (fun r s' => r = .ok (.ret (.bool true)) ∧ OldK s₁.heap s'.heap ∧ s'.os = s₁.os ∧ AllBare s'.gens) s₁ := by
    intro H shape isL ok aK
    -- what is no list and no empty table is not tracked
    have free : ∀ {b : Addr} {o : Obj}, s₁.heap.get? b = some o → (∀ ws n, o.data ≠ .seq ws n) → o.data ≠ .fields #[] → H b = none := by
      intro b o e n1 n2
      cases hb : H b with
      | none => rfl
      | some u =>
        by_cases c : b ∈ tb
        · rw [bare c] at e
          cases e
          exact absurd rfl n2
        · rw [(shape.2 b u hb c).1, at_a] at e
          cases e
          exact absurd rfl (n1 _ _)
    have freeD : ∀ {b : Addr} {o : Obj} {es : Array DictEntry} {ep : Nat}, s₁.heap.get? b = some o → o.data = .dict es ep → H b = none := fun {b o es ep} e dd =>
      free e (fun ws n z => by rw [dd] at z; cases z) (fun z => by rw [dd] at z; cases z)
    have nsH : ∀ {b : Addr} {m : Str → Option Value}, s₁.heap.Ns b m → (hidT s₁.heap H).Ns b m := by
      rintro b m ⟨o, es, ep, e, dd, rr⟩
      exact ⟨o, es, ep, hidT_get e (freeD e dd), dd, rr⟩
    have inH : K.In (hidT s₁.heap H) := by
      intro b o e
      refine hidT_get (inK b o e) ?_
      cases hb : H b with
      | none => rfl
      | some u =>
        by_cases c : b ∈ tb
        · obtain ⟨p, hp, rfl⟩ := ofTb c
          rw [notK p hp] at e
          cases e
        · have ba := (shape.2 b u hb c).1
          subst ba
          rw [aK (by rw [hb]; simp)] at e
          cases e
    have modH : Mod K mg (hidT s₁.heap H) := by
      obtain ⟨mc, l1, l2⟩ := lim
      exact ⟨inH, nsH nsM, ⟨mb, nsH nsB, boot⟩, ⟨mc, nsH l1, l2⟩⟩
    have tabs : ∀ p ∈ cs, LamX.TabB (hidT s₁.heap H) mg p.1 p.2 := by
      intro p hp
      have tp := empty p hp
      constructor
      · obtain ⟨o, us, file, tf, flags, tg, inF, text, tt, e1, r1, r2, r3, rest⟩ := codes p hp
        refine ⟨o, us, file, tf, flags, tg, inF, text, tt, hidT_get e1 (free e1 (fun ws n z => ?_) fun z => ?_), r1, r2, r3, rest⟩
        · rw [r2] at z
          cases z
        · rw [r2] at z
          cases z
          simp at r3
      · obtain ⟨bm, ob, b1, b2, b3, b4, b5, b6⟩ := bmain
        refine ⟨bm, ob, b1, b2, fun q => ?_, fun q => ?_, hidT_get b3 (free b3 (fun ws n z => by rw [b6] at z; cases z) fun z => by rw [b6] at z; cases z), b4, b5, b6⟩
        · obtain ⟨o, es, ep, e, hd, _⟩ := nsM
          rw [q, e] at b3
          cases b3
          rw [hd] at b6
          cases b6
        · rw [q, tp] at b3
          cases b3
          cases b6
      · intro z
        obtain ⟨o, es, ep, e, hd, _⟩ := nsM
        rw [z, tp] at e
        cases e
        cases hd
    have env : Env0 P w K mg (hidT s₁.heap H) callerA [] s₁ H := by
      refine ⟨rfl, modH, fun b o e => of_hidT e, Nat.le_of_eq (hidT_size _ _), trivial, ?_, ok, .of_eq gens⟩
      intro b hb
      cases hb
    apply codeAny_mono ((F _ inH (nsH nsM) tabs).runs callerA [] s₁ H ⟨[.ref a], []⟩ [.ref a] [.ref a] _ _ room rfl env (bind s₁ (.ref a)) (.cons rfl .nil) (want H (fun p hp => shape.1 p.2 (inTb p hp)) isL))
    intro res s' told
    cases res with
    | error e => exact told.elim
    | ok fl =>
      cases fl with
      | next => exact told.elim
      | brk => exact told.elim
      | cont => exact told.elim
      | ret u =>
        obtain ⟨v, H', os, bareG, un, ok', rel, qv⟩ := told
        cases (show v = .bl true from qv)
        cases (show u = Value.bool true from rel)
        have key : ∀ b o, b ∉ tb → s₁.heap.get? b = some o → s'.heap.get? b = some o := by
          intro b o nb e
          cases hb : H b with
          | none => exact un.keep b o e hb (fun z => by cases z) (fun z => by cases z)
          | some u2 =>
            obtain ⟨_, ob, xs, z⟩ := shape.2 b u2 hb nb
            rw [z] at hb
            have e1 := And.left (ok b _ hb)
            have e2 := And.left (ok' b _ (un.frzs b ob _ hb))
            rw [e] at e1
            cases e1
            exact e2
        have grown : ∀ {b : Addr}, b ∈ tb → ∃ more : Array Value, s'.heap.get? b = some { cls := .none, data := .fields more } := fun {b} hb => by
          obtain ⟨more, z⟩ := un.tbls b #[] (shape.1 b hb)
          exact ⟨_, ok' b _ z⟩
        refine ⟨rfl, ⟨fun b o e => ?_, fun b o e => ?_⟩, os, bareG⟩
        · by_cases hb : b ∈ tb
          · obtain ⟨more, hm⟩ := grown hb
            obtain ⟨p, hp, rfl⟩ := ofTb hb
            rw [empty p hp] at e
            cases e
            exact .inr (.inl ⟨((codes p hp).tab (empty p hp)).isCodeTable, rfl, #[], more, rfl, by rw [Array.empty_append]; exact hm⟩)
          · exact .inl (key b o hb e)
        · by_cases hb : b ∈ tb
          · obtain ⟨more, hm⟩ := grown hb
            exact ⟨_, hm⟩
          · exact ⟨o, key b o hb e⟩
  cases hk : K.lookup a with
  | some o =>
    have e := inK a o hk
    rw [at_a] at e
    cases e
    apply goes (fun b => if b ∈ tb then some (.tbl #[]) else none)
    · exact ⟨fun b hb => if_pos hb, fun b u e hb => by cases (if_neg hb).symm.trans e⟩
    · exact Or.inr ⟨_, vs.toArray, _, hk, rfl, rfl, rfl, by rw [List.size_toArray, many]; exact fits, by simpa using vals_ints areI⟩
    · intro b u z
      by_cases hb : b ∈ tb
      · cases (if_pos hb).symm.trans z
        exact bare hb
      · cases (if_neg hb).symm.trans z
    · exact fun z => absurd (if_neg aOut) z
  | none =>
    apply goes (fun b => if b = a then some (.frz { cls := .type "list", data := .seq vs.toArray } (.lst (ns.map V.int))) else if b ∈ tb then some (.tbl #[]) else none)
    · refine ⟨fun b hb => (if_neg (fun z : b = a => aOut (by rw [← z]; exact hb))).trans (if_pos hb), fun b u e hb => ?_⟩
      by_cases c : b = a
      · cases (if_pos c).symm.trans e
        exact ⟨c, _, _, rfl⟩
      · cases ((if_neg c).trans (if_neg hb)).symm.trans e
    · exact Or.inl (Or.inr ⟨{ cls := .type "list", data := .seq vs.toArray }, if_pos rfl⟩)
    · intro b u z
      by_cases c : b = a
      · cases (if_pos c).symm.trans z
        rw [c]
        exact ⟨at_a, by rw [List.length_map]; exact fits, vs, _, vals_ints areI, at_a⟩
      · have z := (if_neg c).symm.trans z
        by_cases hb : b ∈ tb
        · cases (if_pos hb).symm.trans z
          exact bare hb
        · cases (if_neg hb).symm.trans z
    · exact fun _ => hk
theorem walk_ofGT {l : PySem.W.OpenLaw} {n k : Nat} {q : Program} {loose : List Str} {XP : (Str → Option Value) → Heap → Prop} {YP : World → Heap → Prop} {d : DefRec} {K : Params → PySem.W.Frag} {x : Str}
    (hn : l.most = some n) (hn2 : n ≤ sizeLine) (hdf : d.params.defaults = []) (hr : Room k callerA) (hY : ∀ (w : World) (h : Heap), YP w h → (K w.params).In h)
    (F : ∀ (w : World) (mg : Str → Option Value) (fa : Addr) (h : Heap), YP w h → (K w.params).In h → h.Ns mainGlobals mg → mg d.name = some (.ref fa) →
      ∃ (fd : FuncData) (cs : List (Addr × Addr)) (sp : Sp), (∀ p ∈ cs, PySem.W.CodeHd h p.1 p.2 ∧ h.get? p.2 = some { cls := .none, data := .fields #[] }) ∧ (∀ p ∈ cs, (K w.params).lookup p.2 = none) ∧ (∀ (s : Shared) (u : Value), BindsTo s fd ⟨[u], []⟩ [(x, u)]) ∧
        (∀ (H : Hp) (a : Addr) (ns : List Int), ns.length ≤ n → (∀ p ∈ cs, H p.2 = some (.tbl #[])) → SqL (K w.params) H a (ns.map V.int) → sp [.ref a] H (fun v _ => v = .bl true) fun _ _ _ => False) ∧
        ∀ base : Heap, (K w.params).In base → base.Ns mainGlobals mg → (∀ p ∈ cs, LamX.TabB base mg p.1 p.2) → FnG l.prog w (K w.params) mg base k fa fd [x] sp) :
    PySem.W.WalkO q loose XP YP l.row.toRowW d [] (fun f vs => PySem.call f vs) := by
  apply Att.attach_call hn hdf
  intro w s₀ s₁ mg mb fa o pm cd doc a vs ns G Y ho hd hcd hmg hobj hints hlen hg
  obtain ⟨fd, cs, sp, hT, hK, hb, hsp, hF⟩ := F w mg fa _ Y (hY w _ Y) G.T.g hmg
  exact law_callGT (hY w _ Y) G.T.g G.T.b G.T.builtins G.T.nolimit hg (fun p hp => (hT p hp).2) hK (fun p hp => (hT p hp).1) G.T.bmain hobj hints (Nat.le_trans hlen hn2) hr hF hb (fun H hH hS => hsp H a ns hlen hH hS)
/-! ### sorted(xs, key=lambda p: p[i]), the keys whole numbers -/
namespace SLam
open PySem PySem.Spec PyProof.Rows L2 LamX
structure LamP (scope : Scope) (x : Str) : Prop where
  kind : scope.kind = .function
  co : scope.isCoroutine = false
  gen : scope.isGenerator = false
  cell : ∀ y ∈ scope.names, y.2 ≠ .cell
  free : ∀ y ∈ scope.names, y.2 ≠ .free
  par : scope.names.lookup x = some .local
def lamPB (scope : Scope) (x : Str) : Bool :=
  decide (scope.kind = .function) && !scope.isCoroutine && !scope.isGenerator && (scope.names.all fun y => !decide (y.2 = .cell) && !decide (y.2 = .free)) && decide (scope.names.lookup x = some .local)
theorem lamP_by {scope : Scope} {x : Str} (h : lamPB scope x = true) : LamP scope x := by
  unfold lamPB at h
  simp only [Bool.and_eq_true, Bool.not_eq_true', decide_eq_true_eq, decide_eq_false_iff_not, List.all_eq_true] at h
  obtain ⟨⟨⟨⟨a, b⟩, c⟩, d⟩, e⟩ := h
  exact ⟨a, b, c, fun y hy => (d y hy).1, fun y hy => (d y hy).2, e⟩
theorem key_one {prog : Program} {w : World} {A : Around} {s : Shared} {f c' a : Addr} {x qual : Str} {params : Arguments} {scope : Scope} {cl : List (Str × Addr)} {pm ctv : Value} {p1 p2 p3 : Pos} {kd j : Nat} {i k : Int} {tk : Tok} {its : Array Value}
    (room : A.depth < recursionLimit) (lim : s.heap.NoLimit) (there : s.heap.get? f = some (PySem.W.kla_obj "<lambda>" qual params (.Subscript (.Name x p1) (.Constant (.int i) kd p2) p3) scope cl pm c' ctv)) (code : s.heap.CodeRec (.ref c') qual)
    (L : LamP scope x) (bind : bindArgs (PySem.W.kla_fn "<lambda>" qual params (.Subscript (.Name x p1) (.Constant (.int i) kd p2) p3) scope cl pm (.ref c') ctv) ⟨[.ref a], []⟩ = pure [(x, .ref a)])
    (tup : IsTup s.heap a its) (lo : -(2 ^ 63) ≤ i) (hi : i < 2 ^ 63) (hj : seqIndex? i its.size = some j) (hx : its[j]? = some (.int k tk)) (nd : (x == ("__debug__" : Str)) = false) :
    wpAny (model prog w) A (call (.ref f) [.ref a]) (PySem.W.KeyPure (.int k) s) (fun _ _ => False) s := by
  refine wpAny_call (PySem.W.kla_callFunE room there rfl L.co L.gen rfl code ?_)
  rw [bind]
  refine wpAny_pure (wpAny_newFunctionEnv L.cell (fun y hy => ?_) (fun h₁ hns hsb => ⟨lim.fresh _ hsb, ?_⟩) L.kind)
  · rw [List.mem_singleton.mp hy]
    exact L.par
  · have kp : ∀ b o, s.heap.get? b = some o → h₁.get? b = some o := fun b o e => hsb.extBut b o (Nat.ne_of_lt (Heap.lt_size e)) (Heap.get?_push_of_some _ e)
    have tup1 : IsTup h₁ a its := by
      obtain ⟨o, e, r⟩ := tup
      exact ⟨o, kp _ _ e, r⟩
    refine PySem.W.kla_codeExpr (wpAny_Subscript_Constant_late (wpAny_Name (wpAny_loadName_local L.kind L.par hns (v := .ref a) ?_ (wpAny_Constant_int ?_)) nd))
    · simp
    · refine ⟨"tuple", _, slot_tuple_getitem.lookup, tup1.typeIs, getItem_tuple tup1 lo hi hj hx ?_⟩
      exact ⟨h₁, _, rfl, kp, .int _ _⟩
end SLam
namespace SLam
open PySem PySem.Spec PyProof.Rows L2 LamX
/-- sorted(l, key=f), l a list or a tuple, f's answers whole numbers -/
theorem sorted_nums {prog : Program} {w : World} {A : Around} {E : Value → Shared → Prop} {s : Shared} {l f : Addr} {vs : List Value} {β : Type} {bs : List β} {R : Value → β → Prop} {Q : Value → Shared → Prop} (k : β → Int)
    (coll : ∀ (A : Around) (Q : List Value → Shared → Prop), (∀ h', (∀ b o, s.heap.get? b = some o → h'.get? b = some o) → Q vs { s with heap := h' }) → wpAny (model prog w) A (collect (.ref l)) Q E s)
    (e : PySem.W.EachIs R vs bs) (fits : bs.length ≤ sizeLine) (room : A.units + 2 < cLine)
    (turn : ∀ (v : Value) (x : β), R v x → x ∈ bs → ∀ (h : Heap) (tk : Nat), (∀ b o, s.heap.get? b = some o → h.get? b = some o) →
      wpAny (model prog w) A.in1.in1 (call (.ref f) [v]) (PySem.W.KeyPure (.int (k x)) { s with heap := h, toks := tk }) (fun _ _ => False) { s with heap := h, toks := tk })
    (then_ : ∀ (out : List Value) (c : Nat) (h1 h' : Heap) (tk : Nat) (p : Addr), (∀ b o, s.heap.get? b = some o → h1.get? b = some o) → (∀ b o, h1.get? b = some o → h'.get? b = some o) → h1.objs.size ≤ p → h'.get? p = some (seqObj "list" out.toArray c) → out.length = bs.length →
      PySem.W.EachIs R out (bs.mergeSort fun a b => decide (k a ≤ k b)) → Q (.ref p) { s with heap := h', toks := tk }) :
    wpAny (model prog w) A (call (.builtin "sorted") [.ref l] [(Str.ofString "key", .ref f)]) Q E s := by
  refine call_function_entry_kw kind_sorted plain_sorted entry_sorted (ksk_s1 _ _) ?_
  unfold Builtin.«sorted»
  refine wpAny_bind (m := checkCount "sorted" 1 1 _) (wpAny_pure (wpAny_bind (coll _ _ fun h1 k1 => ?_)))
  have z : vs.length ≤ sizeLine := by rw [e.length]; exact fits
  refine wpAny_bind (wpAny_newList ?_ z)
  have laid : (h1.push (seqObj "list" vs.toArray 0)).get? h1.objs.size = some (seqObj "list" vs.toArray 0) := Heap.get?_push_size _ rfl
  have old : ∀ b o, s.heap.get? b = some o → b ≠ h1.objs.size ∧ (h1.push (seqObj "list" vs.toArray 0)).get? b = some o := fun b o h => ⟨Nat.ne_of_lt (Heap.lt_size (k1 b o h)), Heap.get?_push_of_some _ (k1 b o h)⟩
  refine wpAny_bind (wpAny_holding (PySem.W.list_sort_key_data (A := A.in1) (s := { s with heap := h1.push (seqObj "list" vs.toArray 0) }) (b := false) (fun x => .int (k x)) laid e (PySem.W.AllAlike.of (enc := fun x => .int (k x)) fun _ _ => rfl) (PySem.W.Sortable.others (enc := fun x => .int (k x)) fun _ => ⟨(fun c => by cases c), (fun _ c => by cases c)⟩) fits (fun x _ => ?_) (ksk_l1 _ _) (ksk_t1 _ _) (fun v x hr hx h tk kb => turn v x hr hx h tk fun b o ho => kb b o (old b o ho).1 (old b o ho).2) fun out c h' tk kb hl hn he => ?_))
  · simp only [PyData.depth]
    show A.units + 1 + 1 + 0 < cLine
    omega
  · refine wpAny_pure ⟨_, rfl, then_ out c h1 h' tk h1.objs.size k1 (fun b o ho => kb b o (Nat.ne_of_lt (Heap.lt_size ho)) (Heap.get?_push_of_some _ ho)) (Nat.le_refl _) hl hn ?_⟩
    rw [PySem.W.dataLe_int] at he
    exact he
end SLam
namespace SLam
open PySem PySem.Spec PyProof.Rows L2 LamX
theorem extN_l {K : PySem.W.Frag} {H H' : Hp} {a : Addr} {xs : List V} (e : ExtN H H') (h : SqL K H a xs) : SqL K H' a xs := by
  rcases h with (h | ⟨o, h⟩) | h
  · exact .inl (.inl (e _ _ h fun _ z => by cases z))
  · exact .inl (.inr ⟨o, e _ _ h fun _ z => by cases z⟩)
  · exact .inr h
theorem extN_t {K : PySem.W.Frag} {H H' : Hp} {a : Addr} {xs : List V} (e : ExtN H H') (h : SqT K H a xs) : SqT K H' a xs := by
  rcases h with (h | ⟨o, h⟩) | h
  · exact .inl (.inl (e _ _ h fun _ z => by cases z))
  · exact .inl (.inr ⟨o, e _ _ h fun _ z => by cases z⟩)
  · exact .inr h
theorem each_of {α : Type} {g : α → V} : ∀ {rs : List α} {its : List Value}, Vals (rs.map g) its → PySem.W.EachIs (fun v b => RelV (g b) v) its rs
  | [], _, .nil => .nil
  | _ :: _, _, .cons a r => .cons a (each_of r)
theorem vals_of {α : Type} {g : α → V} : ∀ {out : List Value} {rs : List α}, PySem.W.EachIs (fun v b => RelV (g b) v) out rs → Vals (rs.map g) out
  | _, _, .nil => .nil
  | _, _, .cons a r => .cons a (vals_of r)
/-- a row and the number that stands at its place i -/
def KeyAt (K : PySem.W.Frag) (H : Hp) (i : Int) (r : V × Int) : Prop := ∃ a ts, r.1 = .ref a ∧ SqT K H a ts ∧ atI ts i = some (.int r.2)
def LastK (K : PySem.W.Frag) (T : List (Addr × Str)) (i : Int) (Q : VK) : V → Hp → Prop := fun v H1 => ∃ (l : Addr) (rs : List (V × Int)), v = .ref l ∧ (SqL K H1 l (rs.map (·.1)) ∨ SqT K H1 l (rs.map (·.1))) ∧ (∀ r ∈ rs, KeyAt K H1 i r) ∧ Tabs T H1 ∧
  ∀ H2, ExtN H1 H2 → Tabs T H2 → ∀ p, H2 p = none → Q (.ref p) (upd H2 p (.lst ((rs.mergeSort fun x y => decide (x.2 ≤ y.2)).map (·.1))))
def tSortLam (K : PySem.W.Frag) (T : List (Addr × Str)) (i : Int) (te : TE) : TE := fun σ H Q => te σ H (LastK K T i Q)
def one (G : V → Hp → Prop) : List V → Hp → Prop
  | [v], H => G v H
  | _, _ => False
theorem pe_sortLam {X : Cx} {T : List (Addr × Str)} {c P : Addr} {x : Str} {params : Arguments} {scope : Scope} {p p1 p2 p3 pos lpos kpos : Pos} {kd : Nat} {i : Int} {e : Expr} {te : TE}
    (TB : TabB X.base X.mg c P) (hcode : X.env.code = .ref c) (hm : (P, X.env.qual ++ "<lambda>") ∈ T) (hu : ∀ p ∈ T, p.1 = P → p.2 = X.env.qual ++ "<lambda>") (hr : Room 2 X.A) (L : LamP scope x) (hdef : defaultsOf params X.env = ([], []))
    (hbind : ∀ (q : Str) (cl : List (Str × Addr)) (pm cv ctv v : Value), bindArgs (PySem.W.kla_fn "<lambda>" q params (.Subscript (.Name x p1) (.Constant (.int i) kd p2) p3) scope cl pm cv ctv) ⟨[v], []⟩ = pure [(x, v)])
    (hg : Gl X "sorted") (hms : X.mg "sorted" = none) (he : PE X e te) (lo : -(2 ^ 63) ≤ i := by decide) (hi : i < 2 ^ 63 := by decide) (nd : (x == ("__debug__" : Str)) = false := by decide)
    (h0 : starEach [e] X.env = (false, eval e X.env) :: starEach [] X.env := by rfl) (h1 : backTo pos (starEach [e] X.env) = (false, eval e X.env) :: backTo pos (starEach [] X.env) := by rfl) (h2 : (backTo pos (starEach [e] X.env)).any (·.1) = false := by rfl) :
    PE X (.Call (.Name "sorted" p) [e] [⟨some "key", .Lambda params (.Subscript (.Name x p1) (.Constant (.int i) kd p2) p3) scope lpos, kpos⟩] pos) (tSortLam X.K T i te) := by
  refine ⟨fun pins s σ H Q I h => ?_⟩
  refine wpAny_Call_Name_kw (ld_blt I hg hms (show bootBuiltins "sorted" = some (.builtin "sorted") from by decide +kernel) ?_ (by decide) (by decide))
  refine PyProof.Rows.callWith_kw (thn ((pa_cons he pa_nil h0).run pos pins s σ H (one (LastK X.K T i Q)) I h) fun us s1 ⟨vs, H1, I1, r1, q1⟩ => ?_) h1 h2
  match vs, r1, q1 with
  | [v], r1, q1 =>
    obtain ⟨l, rs, rfl, hS, hK, hT, q⟩ := (show LastK X.K T i Q v H1 from q1)
    rw [Vals.ref1 r1]
    show wpAny _ _ (evalAll [(do let v ← eval (.Lambda params (.Subscript (.Name x p1) (.Constant (.int i) kd p2) p3) scope lpos) X.env; standAt pos; pure v)]) _ _ s1
    refine wpAny_evalAll_cons (wpAny_bind (lam_make2 I1 TB hcode hm hu hT hdef (fun y hy z => absurd z (L.free y hy)) fun f c' pm ctv H2 s2 I2 eN T2 hf hfn hfr hco => wpAny_bind (wpAny_standAt (wpAny_pure (wpAny_evalAll_nil ?_)))))
    show wpAny _ _ (call (.builtin "sorted") [.ref l] [(Str.ofString "key", .ref f)]) _ _ s2
    have S2 : SqL X.K H2 l (rs.map (·.1)) ∨ SqT X.K H2 l (rs.map (·.1)) := hS.elim (fun z => .inl (extN_l eN z)) (fun z => .inr (extN_t eN z))
    obtain ⟨its, rv, fits, coll⟩ : ∃ its : List Value, Vals (rs.map (·.1)) its ∧ its.length ≤ sizeLine ∧ ∀ (A : Around) (Q : List Value → Shared → Prop), (∀ h', (∀ b o, s2.heap.get? b = some o → h'.get? b = some o) → Q its { s2 with heap := h' }) → wpAny (model X.prog X.w) A (collect (.ref l)) Q X.xe s2 := by
      rcases S2 with z | z
      · obtain ⟨its, r, pl, hz⟩ := I2.list z
        obtain ⟨o, ho, hc, n, hd⟩ := pl.isList
        have len : its.toArray.size ≤ sizeLine := by rw [List.size_toArray, ← r.length]; exact hz
        exact ⟨its, r, by rw [← r.length]; exact hz, fun A Q hq => wpAny_collect_seq l (.inl rfl) ho hc hd (fun h' hk => by simpa using hq h' hk) len⟩
      · obtain ⟨its, r, pl, hz⟩ := I2.tuple z
        obtain ⟨o, ho, hc, n, hd⟩ := pl
        have len : its.toArray.size ≤ sizeLine := by rw [List.size_toArray, ← r.length]; exact hz
        exact ⟨its, r, by rw [← r.length]; exact hz, fun A Q hq => wpAny_collect_seq l (.inr rfl) ho hc hd (fun h' hk => by simpa using hq h' hk) len⟩
    have hl : its.length = rs.length := by rw [← rv.length, List.length_map]
    refine sorted_nums (k := fun b : V × Int => b.2) (bs := rs) coll (each_of rv) (by rw [← hl]; exact fits) (by have := hr.units; omega) (fun v b hb mem h tk kp => ?_) fun out cc h1 h' tk p' k1 k2 hp hget hlen he => ?_
    · obtain ⟨a, ts, ea, ht, hat⟩ := hK b mem
      obtain ⟨its2, r2, tup, _⟩ := I2.tuple (extN_t eN ht)
      rw [ea] at hb
      obtain rfl : v = Value.ref a := hb
      obtain ⟨j, a1, a2, _⟩ := atI_get hat
      obtain ⟨u, eu, ru⟩ := r2.get a2
      obtain ⟨t3, rfl⟩ := ru
      obtain ⟨⟨oc, vc, tc, hoc, hdc, hvc⟩, _, _⟩ := I2.hok c' _ hco
      have tup2 : IsTup h a its2.toArray := by
        obtain ⟨o, e', r'⟩ := tup
        exact ⟨o, kp _ _ e', r'⟩
      exact key_one (s := { s2 with heap := h, toks := tk }) hr.depth (I2.nolimit.keeps kp) (kp _ _ hf) ⟨c', oc, vc, tc, rfl, kp _ _ hoc, hdc, hvc⟩ L (hbind _ _ _ _ _ _) tup2 lo hi (by rw [List.size_toArray, ← r2.length]; exact a1) (by simpa using eu) nd
    · have J1 : Inv X pins σ H2 { s2 with heap := h1, toks := tk } := I2.kept (t' := tk) k1
      have J2 := J1.laid (a := p') (o := .lst ((rs.mergeSort fun x y => decide (x.2 ≤ y.2)).map (·.1))) (t' := tk) k2 hp ⟨?_, out, cc, vals_of he, hget⟩
      · exact ⟨.ref p', _, J2, rfl, q H2 eN T2 p' (J1.hok.fresh hp)⟩
      · rw [List.length_map, List.length_mergeSort, ← hl]
        exact fits
  | [], _, q1 => exact (show False from q1).elim
  | _ :: _ :: _, _, q1 => exact (show False from q1).elim
end SLam
/-! ### [*d, *e] of dicts; max of a list of numbers, None of none; list(d) -/
namespace SD
open PySem PySem.Spec PyProof.Rows L2
/-- *e in a display, e a dict: its keys -/
def tStarD (te : TE) (t : TA) : TA := fun σ H Q => te σ H fun x G => ∃ (a : Addr) (kvs : List (Key × V)), x = V.ref a ∧ Rd G a (.dK kvs) ∧ t σ G fun ys G2 => Q ((kvs.map fun kv => kV kv.1) ++ ys) G2
section
variable {X : Cx} {e : Expr} {es : List Expr} {te : TE} {t : TA} {p : Pos}
theorem pa_starD (calm : X.calm = true) (he : PE X e te) (rest : PA X es t) (hs : starEach (.Starred e p :: es) X.env = (true, eval e X.env) :: starEach es X.env := by rfl) : PA X (.Starred e p :: es) (tStarD te t) := by
  constructor
  intro pos pins s σ H Q I h
  refine PySem.W.items_star (thn (he.run pins s σ H _ I h) fun v s1 ⟨y, G, J, ry, a, kvs, ey, hd, q⟩ => ?_) hs
  subst ey
  obtain rfl : v = Value.ref a := ry
  obtain ⟨z, lo, vs, rel, dd⟩ := dk_rd J.hok hd
  obtain ⟨ep, hat⟩ := dd.dictAt
  have ek : (kvs.map fun kv => kV kv.1) = vs.map fun p => kV p.1 := by
    have e := congrArg (List.map kV) rel.keys
    rw [List.map_map, List.map_map] at e
    exact e
  have got : wpAny (model X.prog X.w) X.A (collect (.ref a)) (fun us s2 => Inv X pins σ G s2 ∧ Vals (kvs.map fun kv => kV kv.1) us) X.xe s1 := by
    refine PySem.W.kdu_collect (PySem.W.kdl_dict (knd := mixKind X.prog X.w) (kvs := vs) (ep := ep) lo) (J.ok.hd calm) hat (by rw [← rel.length]; exact z) fun h' tk acc hk hacc => ⟨J.kept hk, ?_⟩
    rw [ek]
    exact keys_at (by rw [Array.length_toList]; exact hacc.1) fun j v e => hacc.2 j v (by rw [← Array.getElem?_toList]; exact e)
  have ty : s1.TypeIs (.ref a) "dict" := hat.dictOf.typeIs
  unfold PySem.W.StarOf notIterableAtAll
  refine wpAny_bind (wpAny_specialOf ty PySem.F.slot_dict_iter.lookup (wpAny_pure ⟨rfl, thn got fun us s2 ⟨J2, rv⟩ => ?_⟩))
  exact thn (rest.run pos pins s2 σ G _ J2 q) fun ws s3 ⟨ys, G3, J3, r3, q3⟩ => ⟨_, G3, J3, rv.append r3, q3⟩
theorem maxOf_mem (x : Int) : ∀ ys : List Int, PySem.W.maxOf x ys ∈ x :: ys ∧ ∀ n ∈ x :: ys, n ≤ PySem.W.maxOf x ys := fun ys => by
  induction ys generalizing x with
  | nil => exact ⟨List.mem_cons_self, fun n hn => by rw [List.mem_singleton.mp hn]; exact Int.le_refl _⟩
  | cons y r ih =>
    have e : PySem.W.maxOf x (y :: r) = PySem.W.maxOf (if PySem.W.DatumOrd.lt x y = true then y else x) r := rfl
    have hlt : PySem.W.DatumOrd.lt x y = decide (x < y) := rfl
    rw [e, hlt]
    by_cases c : x < y
    · rw [decide_eq_true c, if_pos rfl]
      obtain ⟨h1, h2⟩ := ih y
      refine ⟨List.mem_cons_of_mem _ h1, fun n hn => ?_⟩
      rcases List.mem_cons.mp hn with rfl | hn
      · have := h2 y List.mem_cons_self
        omega
      · exact h2 n hn
    · rw [decide_eq_false c, if_neg (by decide)]
      obtain ⟨h1, h2⟩ := ih x
      refine ⟨?_, fun n hn => ?_⟩
      · rcases List.mem_cons.mp h1 with h | h
        · rw [h]
          exact List.mem_cons_self
        · exact List.mem_cons_of_mem _ (List.mem_cons_of_mem _ h)
      · rcases List.mem_cons.mp hn with rfl | hn
        · exact h2 n List.mem_cons_self
        · rcases List.mem_cons.mp hn with rfl | hn
          · have := h2 x List.mem_cons_self
            omega
          · exact h2 n (List.mem_cons_of_mem _ hn)
end
def rMaxD (K : PySem.W.Frag) : List V → List V → Hp → VK → Prop := fun xs zs H Q => ∃ (a : Addr) (ns : List Int), xs = [.ref a] ∧ zs = [.non] ∧ SqL K H a (ns.map V.int) ∧ (ns = [] → Q .non H) ∧ ∀ m, m ∈ ns → (∀ n ∈ ns, n ≤ m) → Q (.int m) H
theorem ints_holdM {h : Heap} : ∀ {ns : List Int} {us : List Value}, Vals (ns.map V.int) us → PySem.W.HoldAll h us ns
  | [], _, .nil => PySem.W.HoldAll.nil
  | n :: r, _, .cons ⟨t, e⟩ rr => by
    rw [e]
    exact PySem.W.HoldAll.cons (PySem.W.holds_int n t) (ints_holdM rr)
theorem call_maxD (K : PySem.W.Frag) {X : Cx} (hc : X.calm = true) (hu : X.A.units + 64 < cLine) (h : X.K = K := by rfl) : CallRK X (.builtin "max") ["default"] (rMaxD K) := by
  subst h
  intro pins s σ H xs zs us ws Q I rx rz h
  obtain ⟨a, ns, rfl, rfl, hs, q0, q1⟩ := h
  obtain ⟨its, rv, hl, _⟩ := I.list hs
  rw [Vals.ref1 rx]
  cases rz with
  | cons e rr =>
    cases rr
    cases (show _ = Value.none from e)
    refine PySem.W.max_list_datum_default (I.ok.hd hc) hl.isList (ints_holdM rv) (by show X.A.units + 1 + 0 < cLine; omega) (fun e h' tk hk => ⟨.non, H, I.kept hk, rfl, q0 e⟩) (fun y ys i v h' tk e hi hv hk => ?_)
    subst e
    obtain ⟨h1, h2⟩ := maxOf_mem y ys
    obtain ⟨bs, r⟩ := hv
    have q2 := q1 _ h1 h2
    have e3 : PySem.W.Datum.toD (PySem.W.maxOf y ys) = PyData.int (PySem.W.maxOf y ys) := rfl
    rw [e3] at r
    generalize PySem.W.maxOf y ys = m at r q2
    cases r
    exact ⟨.int m, H, I.kept hk, ⟨_, rfl⟩, q2⟩
theorem kk_sortedS (K : PySem.W.Frag) {X : Cx} (h : X.K = K := by rfl) : CallR X (.builtin "sorted") (rSortedS K) := h ▸ cr_sortedS
theorem kk_listD (K : PySem.W.Frag) {X : Cx} (hc : X.calm = true) : CallR X (.type "list") (fun xs H Q => ∃ (a : Addr) (kvs : List (Key × V)), xs = [.ref a] ∧ Rd H a (.dK kvs) ∧ ∀ p, H p = none → Q (.ref p) (upd H p (.lst (kvs.map fun kv => kV kv.1)))) := call_listD hc
/-- name = {k: v for ..} on one line, the name a local one -/
theorem sw_dict {kx vx : Expr} {gs : List Comprehension} {scope : Scope} {pos py : Pos} {y : Str} {l : Nat} {env : Env} (fn : env.scope.kind = .function) (loc : env.scope.names.lookup y = some .local) (line : (py.line == pos.line) = true)
    (own : (scope.names.any fun (n, k) => n == y && (k == .local || k == .cell)) = false) : swapsWith (.DictComp kx vx gs scope pos) (some (.Name y py)) l env = pure true := by
  have ky : env.kindOf y = some .local := loc
  have kb : env.blockKind = .function := by
    unfold Env.blockKind
    rw [fn]
    rfl
  unfold swapsWith
  simp only [kb, ky, own, Expr.pos, line]
  rfl
theorem ps_setDc {X : Cx} {i : Nat} {y : Str} {py : Pos} {kx vx tg iter : Expr} {ifs : List Expr} {scope : Scope} {own : List (Str × Nat)} {pos spos : Pos} {wi : TI} {g : TG} {tt : TT} {tk tv : TE} (calm : X.calm = true) (nd : X.N.Nodup) (at_ : X.N[i]? = some y) (loc : X.env.scope.names.lookup y = some .local)
    (sw : swapsWith (.DictComp kx vx [⟨tg, iter, ifs, 0⟩] scope pos) (some (.Name y py)) spos.line X.env = pure true) (walk : PI X tg iter wi) (ok : BlkOk X.N X.env.scope scope own)
    (hg : ∀ (s : Shared) (H : Hp) (C : Addr) (cl : List (Str × Addr)) (fp : List Addr), PG (X.blk s H scope (compEnvC scope cl C X.env) fp) tg g)
    (ht : ∀ (s : Shared) (H : Hp) (C : Addr) (cl : List (Str × Addr)) (fp : List Addr), PTs (X.blk s H scope (compEnvC scope cl C X.env) fp) ifs tt)
    (hk : ∀ (s : Shared) (H : Hp) (C : Addr) (cl : List (Str × Addr)) (fp : List Addr), PE (X.blk s H scope (compEnvC scope cl C X.env) fp) kx tk)
    (hv : ∀ (s : Shared) (H : Hp) (C : Addr) (cl : List (Str × Addr)) (fp : List Addr), PE (X.blk s H scope (compEnvC scope cl C X.env) fp) vx tv)
    (fold : ∀ x, foldedSetIterable iter X.env x = pure x := by intro _; rfl) :
    PS X (.Assign [.Name y py] (.DictComp kx vx [⟨tg, iter, ifs, 0⟩] scope pos) spos) (tAsg (tDc wi g tt tk tv (own.map (·.2))) (gName i)) := by
  constructor
  intro pins s σ H D I h
  rw [exec_Assign_Name_used _ _ _ _ sw]
  refine wpAny_bind (wpAny_standAt (wpAny_bind ?_))
  show wpAny _ X.A (do let _ ← comprehension (.DictComp kx vx [⟨tg, iter, ifs, 0⟩] scope pos) scope X.env (firstIterPos [⟨tg, iter, ifs, 0⟩] pos) newDict false (eval iter X.env) (some (assign (.Name y py) X.env))) _ _ s
  have want : tDc wi g tt tk tv (own.map (·.2)) σ H (fun x G => gName i x σ G D.nx) := h
  refine wpAny_bind (thn (dc_core (Qf := fun _ s' => SP X pins D .next s') calm nd I walk ok hg ht hk hv fold want fun L C s' m G J q ns fp => ?_) fun _ s' hq => wpAny_pure (wpAny_pure hq))
  show wpAny _ _ (assign (.Name y py) X.env (.ref L)) _ _ _
  refine wpAny_assign_Name (store_ok2 (v := V.ref L) J nd at_ (.inl loc) rfl (fun s2 J2 ⟨a, same, which⟩ => ?_) (.inr loc))
  obtain ⟨f0, f1, _, f3, f4, f5⟩ := fp
  have apart : C ≠ a := which.elim (fun z => by rw [z]; exact f1) (fun z e => f4 y a z e.symm)
  exact ⟨m, ns.sameBut same apart, fun h3 same3 => ⟨_, G, J2.turned (t' := s2.toks) (fun b o hb e => (same3.2 b hb).trans e) f0 f1 f3 f4 f5, q⟩⟩
end SD
/-! ### xs[::k], xs a list -/
namespace EV
open PySem PySem.Spec PyProof.Rows L2
def ixs (k : Int) (n : Nat) : List Nat := sliceRange (sliceBounds none none (some k) n).1 (sliceBounds none none (some k) n).2.1 (sliceBounds none none (some k) n).2.2
def pick {α : Type} (k : Int) (xs : List α) : List α := (ixs k xs.length).filterMap (xs[·]?)
theorem pick_map {α β : Type} (f : α → β) (k : Int) (xs : List α) : pick k (xs.map f) = (pick k xs).map f := by
  unfold pick
  rw [List.length_map, List.map_filterMap]
  congr 1
  funext i
  rw [List.getElem?_map]
theorem pick_mem {α : Type} {k : Int} {xs : List α} {x : α} (h : x ∈ pick k xs) : x ∈ xs := by
  obtain ⟨i, _, e⟩ := List.mem_filterMap.mp h
  exact List.mem_of_getElem? e
theorem vals_pick {xs : List V} {its : List Value} (r : Vals xs its) : ∀ ix : List Nat, Vals (ix.filterMap (xs[·]?)) (ix.filterMap (its[·]?))
  | [] => .nil
  | i :: t => by
    rw [List.filterMap_cons, List.filterMap_cons]
    cases e : xs[i]? with
    | none =>
      rw [r.none_of e]
      exact vals_pick r t
    | some x =>
      obtain ⟨u, eu, ru⟩ := r.get e
      rw [eu]
      exact .cons ru (vals_pick r t)
def tEvery (K : PySem.W.Frag) (k : Int) (te : TE) : TE := fun σ H Q => te σ H fun x G => ∃ a xs, x = .ref a ∧ SqL K G a xs ∧ (pick k xs).length ≤ sizeLine ∧ ∀ p, G p = none → Q (.ref p) (upd G p (.lst (pick k xs)))
theorem pe_every {X : Cx} {e : Expr} {te : TE} {k : Int} {j : Nat} {p1 p3 pos : Pos} (he : PE X e te) (k0 : k ≠ 0 := by decide) : PE X (.Subscript e (.Slice none none (some (.Constant (.int k) j p1)) p3) pos) (tEvery X.K k te) := by
  constructor
  intro pins s σ H Q I h
  refine Subscript_ (thn (he.run pins s σ H _ I h) fun v s1 ⟨x, G, J, r1, a, xs, ex, hx, fit, q⟩ => ?_)
  subst ex
  obtain rfl : v = Value.ref a := r1
  have hst : PO X (some (.Constant (.int k) j p1)) (tPart (tC (.int k))) := po_some pe_int
  refine wpAny_Slice (thn (po_none.run pins s1 σ G (fun o G2 => o = none ∧ G2 = G) J ⟨rfl, rfl⟩) fun vl s2 ⟨l, G2, J2, pl, el, e2⟩ => ?_)
  subst el e2
  refine thn (po_none.run pins s2 σ G2 (fun o G3 => o = none ∧ G3 = G2) J2 ⟨rfl, rfl⟩) fun vu s3 ⟨u, G3, J3, pu, eu, e3⟩ => ?_
  subst eu e3
  refine thn (hst.run pins s3 σ G3 (fun o G4 => o = some k ∧ G4 = G3) J3 ⟨k, rfl, rfl, rfl⟩) fun vs s4 ⟨o, G4, J4, ps, eo, e4⟩ => ?_
  subst eo e4
  have J5 : Inv X pins σ G4 { s4 with heap := s4.heap.push { cls := .type "slice", data := .fields #[vl, vu, vs] } } := J4.kept (t' := s4.toks) fun b ob q => Heap.get?_push_of_some _ q
  obtain ⟨its, r, ht, hz⟩ := J5.list hx
  have many := r.length
  show wpAny (model X.prog X.w) X.A (subscriptTail e (.Slice none none (some (.Constant (.int k) j p1)) p3) (.ref a) (.ref s4.heap.objs.size)) (EP X pins σ Q) X.xe { s4 with heap := s4.heap.push { cls := .type "slice", data := .fields #[vl, vu, vs] } }
  refine tail_any (ops := [.ref a, .ref s4.heap.objs.size]) ht.isList.typeIs (PySem.slot_list_getitem.lookup) ?_ (by with_unfolding_all rfl)
  refine wpAny_getItem_list_slice ht.isList (Heap.IsSliceOf.new _ vl vu vs) pl pu ps (by simpa using k0) ?_ (by rw [List.size_toArray]; omega)
  have made : (slicePick its.toArray none none (some k)) = ((ixs k xs.length).filterMap (its[·]?)).toArray := by
    unfold slicePick ixs
    rw [List.size_toArray, ← many]
    simp
  rw [made]
  refine ⟨.ref _, _, J5.laid (t' := s4.toks) (o := .lst (pick k xs)) (fun b ob q => Heap.get?_push_of_some _ q) (Nat.le_refl _) ?_, rfl, q _ (J5.hok.fresh (Nat.le_refl _))⟩
  exact ⟨fit, _, 0, vals_pick r _, Heap.get?_push_size _ rfl⟩
end EV
/-! ### shown texts: all their signs are signs -/
def Low (s : Str) : Prop := ∀ c ∈ TL.tl s, c < 16 ^ 8
theorem Low.app {x y : Str} (hx : Low x) (hy : Low y) : Low (x ++ y) := fun c hc => by
  rw [TL.tl_append] at hc
  exact (List.mem_append.mp hc).elim (hx c) (hy c)
theorem low_chars (l : List Char) : ∀ c ∈ l.map Char.toNat, c < 16 ^ 8 := fun c hc => by
  obtain ⟨ch, _, rfl⟩ := List.mem_map.mp hc
  have h : ch.toNat < 1114112 := by
    have := ch.valid
    rcases this with h | h
    · exact Nat.lt_of_lt_of_le h (by decide)
    · exact h.2
  exact Nat.lt_of_lt_of_le h (by decide)
theorem low_of (s : String) : Low (Str.ofString s) := fun c hc => by
  rw [TL.tl_ofString] at hc
  exact low_chars _ c hc
theorem low_join {y : Str} (hy : Low y) : ∀ {ws : List Str}, (∀ w ∈ ws, Low w) → Low (Str.join y ws)
  | [], _ => fun c hc => by cases hc
  | [a], h => h a List.mem_cons_self
  | a :: b :: r, h => ((h a List.mem_cons_self).app hy).app (low_join hy fun w hw => h w (List.mem_cons_of_mem _ hw))
theorem low_hex (k n : Nat) : ∀ c ∈ List.replicate k 48 ++ (Nat.toDigits 16 n).map Char.toNat, c < 16 ^ 8 := fun c hc => by
  rcases List.mem_append.mp hc with h | h
  · rw [List.eq_of_mem_replicate h]
    decide
  · exact low_chars _ c h
theorem low_char {q c : Nat} (hc : c < 16 ^ 8) : ∀ d ∈ Builtin.Str.reprChar q c, d < 16 ^ 8 := by
  unfold Builtin.Str.reprChar
  dsimp only
  have two : ∀ {a b d : Nat}, a < 16 ^ 8 → b < 16 ^ 8 → d ∈ [a, b] → d < 16 ^ 8 := fun {a b d} ha hb h => by
    rcases List.mem_cons.mp h with rfl | h
    · exact ha
    · rw [List.mem_singleton.mp h]
      exact hb
  repeat' split
  all_goals intro d hd
  all_goals first
    | exact two (by decide) hc hd
    | exact two (by decide) (by decide) hd
    | (rw [List.mem_singleton.mp hd]; exact hc)
    | (rcases List.mem_append.mp hd with h | h
       · exact two (by decide) (by decide) h
       · exact low_hex _ _ d h)
theorem low_fold (q : Nat) : ∀ (l : List Nat) (acc : Array Nat), (∀ c ∈ l, c < 16 ^ 8) → (∀ c ∈ acc.toList, c < 16 ^ 8) → ∀ c ∈ (l.foldl (fun out c => out ++ (Builtin.Str.reprChar q c).toArray) acc).toList, c < 16 ^ 8
  | [], acc, _, ha => ha
  | x :: r, acc, h, ha => by
    rw [List.foldl_cons]
    refine low_fold q r _ (fun c hc => h c (List.mem_cons_of_mem _ hc)) fun c hc => ?_
    rw [Array.toList_append] at hc
    rcases List.mem_append.mp hc with z | z
    · exact ha c z
    · exact low_char (h x List.mem_cons_self) c (by simpa using z)
theorem low_repr {x : Str} (hx : Low x) : Low (reprText x) := fun c hc => by
  unfold reprText at hc
  have hq : reprQuote x < 16 ^ 8 := by
    unfold reprQuote
    split <;> decide
  have e : TL.tl (⟨(x.cps.foldl (fun out c => out ++ (Builtin.Str.reprChar (reprQuote x) c).toArray) #[reprQuote x]).push (reprQuote x)⟩ : Str) = (x.cps.foldl (fun out c => out ++ (Builtin.Str.reprChar (reprQuote x) c).toArray) #[reprQuote x]).toList ++ [reprQuote x] := Array.toList_push
  have hc := (show c ∈ (x.cps.foldl (fun out c => out ++ (Builtin.Str.reprChar (reprQuote x) c).toArray) #[reprQuote x]).toList ++ [reprQuote x] from e ▸ hc)
  rcases List.mem_append.mp hc with z | z
  · rw [← Array.foldl_toList] at z
    exact low_fold (reprQuote x) x.cps.toList #[reprQuote x] (fun d hd => hx d hd) (fun d hd => by rw [show d = reprQuote x from by simpa using hd]; exact hq) c z
  · rw [List.mem_singleton.mp z]
    exact hq
theorem low_int (i : Int) : Low (PyData.shown (.int i)) := by
  simp only [PyData.shown]
  exact low_of _
theorem low_all : ∀ {l : List PyData}, (∀ d ∈ l, Low (PyData.shown d)) → ∀ w ∈ PyData.shownAll l, Low w
  | [], _, w, hw => by
    rw [PyData.shownAll_nil] at hw
    cases hw
  | d :: r, h, w, hw => by
    rw [PyData.shownAll_cons] at hw
    rcases List.mem_cons.mp hw with rfl | hw
    · exact h d List.mem_cons_self
    · exact low_all (fun x hx => h x (List.mem_cons_of_mem _ hx)) w hw
theorem low_list {l : List PyData} (h : ∀ d ∈ l, Low (PyData.shown d)) : Low (PyData.shown (.list l)) := by
  rw [PyData.shown_list]
  exact ((low_of "[").app (low_join (low_of ", ") (low_all h))).app (low_of "]")
theorem low_tuple {l : List PyData} (h : ∀ d ∈ l, Low (PyData.shown d)) : Low (PyData.shown (.tuple l)) := by
  rw [PyData.shown_tuple]
  refine ((low_of "(").app (low_join (low_of ", ") (low_all h))).app ?_
  split <;> exact low_of _
theorem low_str {x : Str} (h : Low x) : Low (PyData.shown (.str x)) := by
  rw [PyData.shown_str]
  exact low_repr h
theorem Asc.low {x : Str} (h : Asc x) : Low x := fun c hc => Nat.lt_of_lt_of_le (h c hc) (by decide)
theorem repr_len {x : Str} (h : Low x) : (reprText x).length ≤ 10 * x.length + 2 := StrLaws.reprText_len x h
/-! ### comprehensions over rows of any make -/
section
variable {α β : Type} {J : It} {H : Hp} {L : List (Addr × α)} {g : TG} {tt : TT} {te : TE} {vs : List Nat} {σ : L2.St} {D : Addr} {Qd : Hp → Prop}
theorem fam_lc (P : Hp → Addr × α → Prop) (mono : ∀ {G G' q}, Same G G' → P G q → P G' q) (p : Addr × α → Bool) (el : Addr × α → V) (ok : JOk H J (refs L)) (hR : ∀ q ∈ L, P H q) (small : L.length ≤ 1000) (hD : H D = none)
    (turn : ∀ q ∈ L, ∀ G, Same H G → P G q → ∀ (Y : VK) (N : Hp → Prop), (p q = true → ∀ G', Same G G' → Y (el q) G') → (p q = false → ∀ G', Same G G' → N G') → g (.ref q.1) (wipe σ vs) G fun σ2 H2 => wipe σ2 vs = wipe σ vs ∧ tt σ2 H2 fun b H3 => if b = true then te σ2 H3 Y else N H3)
    (last : ∀ G, Same H G → G D = some (.lst ((L.filter p).map el)) → Qd G) :
    ∃ W : Nat → Nat → Hp → Prop, (∃ m, W 0 m (upd H D (.lst []))) ∧ ∀ i m H, W i m H → (J.stop i H ∧ Qd H) ∨ (J.go i H ∧ ∃ Nx : Hp → Prop, (∀ H', Nx H' → ∃ m', m' < m ∧ W (i + 1) m' H') ∧ ∀ x H', J.yld i H x H' → g x (wipe σ vs) H' fun σ2 H2 => wipe σ2 vs = wipe σ vs ∧ tt σ2 H2 fun b H3 =>
      if b = true then te σ2 H3 fun y H4 => ∃ acc, H4 D = some (.lst acc) ∧ acc.length < sizeLine ∧ Nx (upd H4 D (.lst (acc ++ [y]))) else Nx H3) := by
  have ln : (refs L).length = L.length := List.length_map ..
  refine lc_gen (n := L.length) (fun i G => Same H G ∧ G D = some (.lst (((L.take i).filter p).map el))) ⟨same_new hD, upd_same⟩ (fun i G h => ?_) (fun i G v G' hi h y => ?_) (fun G h => ?_)
  · have := ok i G h.1
    rw [ln] at this
    exact ⟨this.1, this.2.1⟩
  · obtain ⟨rfl, hx⟩ := (ok i G h.1).2.2 v G' y
    obtain ⟨q, hq, rfl, hm⟩ := refs_at hx
    have le : (((L.take i).filter p).map el).length ≤ i := by
      rw [List.length_map]
      exact Nat.le_trans (List.length_filter_le _ _) (by rw [List.length_take]; omega)
    refine turn q hm G' h.1 (mono h.1 (hR q hm)) _ _ (fun hp G2 s2 => ⟨_, s2 _ _ h.2, Nat.lt_of_le_of_lt le (small1000 (by omega)), fun c o e => ?_, ?_⟩) (fun hp G2 s2 => ⟨h.1.trans s2, ?_⟩)
    · rw [upd_ne (ne_of_none e hD)]
      exact s2 _ _ (h.1 _ _ e)
    · rw [upd_same, take_snoc hq, List.filter_append, List.map_append]
      congr 3
      rw [List.filter_cons_of_pos hp]
      rfl
    · rw [take_snoc hq, List.filter_append, List.filter_cons_of_neg (by rw [hp]; decide), List.filter_nil, List.append_nil]
      exact s2 _ _ h.2
  · obtain ⟨s, e⟩ := h
    rw [List.take_of_length_le (Nat.le_refl _)] at e
    exact last G s e
/-- each item makes a new thing -/
theorem fam_new (P : Hp → Addr × α → Prop) (mono : ∀ {G G' q}, Same G G' → P G q → P G' q) (R : Hp → Addr × β → Prop) (monoR : ∀ {G G' : Hp} {q : Addr × β}, Same G G' → R G q → R G' q) (el : α → β) (ok : JOk H J (refs L)) (hR : ∀ q ∈ L, P H q) (small : L.length ≤ 1000) (hD : H D = none)
    (turn : ∀ q ∈ L, ∀ G, Same H G → P G q → ∀ (Y : VK) (N : Hp → Prop), (∀ G' t, Same G G' → G t = none → R G' (t, el q.2) → Y (.ref t) G') → g (.ref q.1) (wipe σ vs) G fun σ2 H2 => wipe σ2 vs = wipe σ vs ∧ tt σ2 H2 fun b H3 => if b = true then te σ2 H3 Y else N H3)
    (keep : ∀ (G : Hp) (q : Addr × β) x xs, R G q → q.1 ≠ D → G D = some (.lst xs) → R (upd G D (.lst x)) q)
    (last : ∀ G (S : List (Addr × β)), Same H G → G D = some (.lst (refs S)) → (∀ q ∈ S, R G q ∧ q.1 ≠ D ∧ H q.1 = none) → S.map (·.2) = (L.map (·.2)).map el → Qd G) :
    ∃ W : Nat → Nat → Hp → Prop, (∃ m, W 0 m (upd H D (.lst []))) ∧ ∀ i m H, W i m H → (J.stop i H ∧ Qd H) ∨ (J.go i H ∧ ∃ Nx : Hp → Prop, (∀ H', Nx H' → ∃ m', m' < m ∧ W (i + 1) m' H') ∧ ∀ x H', J.yld i H x H' → g x (wipe σ vs) H' fun σ2 H2 => wipe σ2 vs = wipe σ vs ∧ tt σ2 H2 fun b H3 =>
      if b = true then te σ2 H3 fun y H4 => ∃ acc, H4 D = some (.lst acc) ∧ acc.length < sizeLine ∧ Nx (upd H4 D (.lst (acc ++ [y]))) else Nx H3) := by
  have ln : (refs L).length = L.length := List.length_map ..
  refine lc_gen (n := L.length) (fun i G => Same H G ∧ ∃ S : List (Addr × β), G D = some (.lst (refs S)) ∧ (∀ q ∈ S, R G q ∧ q.1 ≠ D ∧ H q.1 = none) ∧ S.map (·.2) = ((L.take i).map (·.2)).map el) ⟨same_new hD, [], upd_same, (fun _ h => nomatch h), rfl⟩ (fun i G h => ?_) (fun i G v G' hi h y => ?_) (fun G h => ?_)
  · have := ok i G h.1
    rw [ln] at this
    exact ⟨this.1, this.2.1⟩
  · obtain ⟨rfl, hx⟩ := (ok i G h.1).2.2 v G' y
    obtain ⟨q, hq, rfl, hm⟩ := refs_at hx
    obtain ⟨s, S, e, hS, hSm⟩ := h
    have le : (refs S).length ≤ i := by
      rw [List.length_map, ← List.length_map (f := (·.2)) (as := S), hSm, List.length_map, List.length_map, List.length_take]
      omega
    refine turn q hm G' s (mono s (hR q hm)) _ _ (fun G2 t s2 nt rt => ?_)
    have ntD : t ≠ D := fun z => by rw [z, e] at nt; cases nt
    have eD := s2 _ _ e
    refine ⟨refs S, eD, Nat.lt_of_le_of_lt le (small1000 (by omega)), fun c o h => ?_, S ++ [(t, el q.2)], ?_, fun x hx2 => ?_, ?_⟩
    · rw [upd_ne (ne_of_none h hD)]
      exact s2 _ _ (s _ _ h)
    · rw [upd_same, refs_snoc]
    · rcases List.mem_append.mp hx2 with h | h
      · exact ⟨keep G2 x _ _ (monoR s2 (hS x h).1) (hS x h).2.1 eD, (hS x h).2⟩
      · rw [List.mem_singleton.mp h]
        exact ⟨keep G2 (t, el q.2) _ _ rt ntD eD, ntD, s.free nt⟩
    · rw [List.map_append, hSm, take_snoc hq, List.map_append, List.map_append]
      rfl
  · obtain ⟨s, S, e, hS, hSm⟩ := h
    rw [List.take_of_length_le (Nat.le_refl _)] at hSm
    exact last G S s e hS hSm
end
/-! ### max(d) of whole numbers; d != {}; dict of a list of pairs -/
namespace SD
open PySem PySem.Spec PyProof PyProof.Rows L2
theorem keyIs_intE {j : Int} {v : Value} (h : keyIs (.inl j) v = true) : ∃ t, v = .int j t := by
  cases v <;> simp [keyIs, Value.isInt] at h
  rename_i i t
  exact ⟨t, by rw [h]⟩
def rMaxK : List V → Hp → VK → Prop := fun xs H Q => ∃ (a : Addr) (kvs : List (Key × V)) (ns : List Int), xs = [.ref a] ∧ Rd H a (.dK kvs) ∧ (kvs.map fun kv => kV kv.1) = ns.map V.int ∧ 0 < ns.length ∧ ∀ m, m ∈ ns → (∀ n ∈ ns, n ≤ m) → Q (.int m) H
theorem kk_maxK {X : Cx} (hc : X.calm = true) : CallR X (.builtin "max") rMaxK := by
  intro pins s σ H xs us Q I rx h
  obtain ⟨a, kvs, ns, rfl, hd, hns, hne, q⟩ := h
  rw [Vals.ref1 rx]
  obtain ⟨z, lo, vs, rel, dd⟩ := dk_rd I.hok hd
  obtain ⟨ep, hat⟩ := dd.dictAt
  have ek : (vs.map fun p => kV p.1) = ns.map V.int := by
    have e := congrArg (List.map kV) rel.keys
    rw [List.map_map, List.map_map] at e
    rw [← hns]
    exact e.symm
  have hln : vs.length = ns.length := by
    have e := congrArg List.length ek
    rw [List.length_map, List.length_map] at e
    exact e
  have hval : ∀ (i : Nat) (v : Value), (∃ k x, vs[i]? = some (k, x) ∧ (mixKind X.prog X.w).is k v = true) → ∃ t, v = .int (ns.getD i 0) t := fun i v hv => by
    obtain ⟨k, x, hx, hk⟩ := hv
    have hi : i < ns.length := by
      have := (List.getElem?_eq_some_iff.mp hx).1
      omega
    have e : (vs.map fun p => kV p.1)[i]? = (ns.map V.int)[i]? := by rw [ek]
    rw [List.getElem?_map, List.getElem?_map, hx, List.getElem?_eq_getElem hi] at e
    have e : kV k = V.int ns[i] := Option.some.inj e
    have e3 : ns.getD i 0 = ns[i] := by rw [List.getD_eq_getElem?_getD, List.getElem?_eq_getElem hi] <;> rfl
    rw [e3]
    cases k with
    | inl j =>
      have ej : j = ns[i] := V.int.inj e
      rw [← ej]
      exact keyIs_intE hk
    | inr y => cases e
  refine call_max_walk ?_
  obtain ⟨oI, St, hit, W, st⟩ := (PySem.W.kdl_dict (prog := X.prog) (w := X.w) (knd := mixKind X.prog X.w) (kvs := vs) (ep := ep) lo).iter X.A.in1 s (I.ok.hd hc) hat
  refine hit _ _ ⟨s.heap.objs.size, _, _, vs.length, _, St, fun i j => decide (ns.getD i 0 > ns.getD j 0), rfl, W, st, fun b hb => ?_, by omega, CmpOf.ints_gt (fun i => ns.getD i 0) hval, fun v h' tk hv hk => ?_⟩
  · show b < (s.heap.push _).objs.size
    rw [size_push']
    rcases List.mem_cons.mp hb with z | z
    · rw [z]
      exact Nat.lt_succ_self _
    · rw [List.mem_singleton.mp z]
      exact Nat.lt_succ_of_lt hat.lt_size
  · obtain ⟨t, rfl⟩ := hval _ _ hv
    obtain ⟨m1', m2'⟩ := argBest_gt (fun i => ns.getD i 0) (vs.length - 1)
    have m1 : argBest (fun i j => decide (ns.getD i 0 > ns.getD j 0)) (vs.length - 1) ≤ vs.length - 1 := m1'
    have m2 : ∀ j, j ≤ vs.length - 1 → ns.getD j 0 ≤ ns.getD (argBest (fun i j => decide (ns.getD i 0 > ns.getD j 0)) (vs.length - 1)) 0 := m2'
    have hk2 : ∀ b o, s.heap.get? b = some o → h'.get? b = some o := fun b o e => hk b o (fun z => by rw [List.mem_singleton.mp z] at e; exact absurd (Heap.lt_size e) (Nat.lt_irrefl _)) (Heap.get?_push_of_some _ e)
    refine ⟨.int _, H, I.kept (t' := tk) hk2, ⟨t, rfl⟩, q _ (PySem.getD_mem (by omega)) fun y hy => ?_⟩
    obtain ⟨j, hj, e⟩ := List.mem_iff_getElem.mp hy
    have z := m2 j (by omega)
    have e3 : ns.getD j 0 = y := by rw [List.getD_eq_getElem?_getD, List.getElem?_eq_getElem hj, ← e] <;> rfl
    rw [e3] at z
    exact z
/-- d != {} -/
def rNeE : R2 := fun x y H Q => ∃ a b ks, x = .ref a ∧ y = .ref b ∧ H a = some (.dK ks) ∧ H b = some (.dK []) ∧ Q (.bl (!decide (ks = []))) H
theorem op_neE {X : Cx} (hu : X.A.units + 1 < cLine) : OpR X (compareOp .NotEq) rNeE := by
  intro pins s σ H x y v u Q I rx ry h
  obtain ⟨a, b, ks, rfl, rfl, ea, eb, q⟩ := h
  cases ks with
  | nil => exact op_ne_dictA (by omega) pins s σ H _ _ v u Q I rx ry ⟨a, b, [], [], rfl, rfl, ea, eb, rfl, (fun _ h => nomatch h), q⟩
  | cons k r =>
    obtain rfl : v = Value.ref a := rx
    obtain rfl : u = Value.ref b := ry
    obtain ⟨_, ya, va, ra, da⟩ := (show ObjOk X.prog X.w H s.heap a (.dK (k :: r)) from I.hok a _ ea)
    obtain ⟨_, yb, vb, rb, db⟩ := (show ObjOk X.prog X.w H s.heap b (.dK []) from I.hok b _ eb)
    have la : va.length = r.length + 1 := by rw [← ra.length]; rfl
    have lb : vb.length = 0 := by rw [← rb.length]; rfl
    refine PySem.W.keq_ne (knd := mixKind X.prog X.w) (r := true) ya yb da db (by omega) (fun e => by omega) (fin_bl I q ?_)
    have : (va.length == vb.length) = false := beq_eq_false_iff_ne.mpr (by omega)
    simp [this]
def rDictP (K : PySem.W.Frag) : List V → Hp → VK → Prop := fun xs H Q => ∃ (a : Addr) (ps : List Addr) (kvs : List (Key × V)), xs = [.ref a] ∧ SqL K H a (ps.map V.ref) ∧ Paired (fun p kv => SqT K H p [kV kv.1, kv.2]) ps kvs ∧
    ∀ p, H p = none → Q (.ref p) (upd H p (.dK (mergeK [] kvs)))
theorem kk_dictP (K : PySem.W.Frag) {X : Cx} (hc : X.calm = true) (h : X.K = K := by rfl) : CallR X (.type "dict") (rDictP K) := by
  subst h
  exact call_dictP hc
end SD
def topS (i : Nat) : Stmt := PySem.Challenge.pw_partwares_k35_purses_called_otherwise.main.body.getD i (.Pass ⟨0, 0, 0, 0⟩)
section
variable {P : Program} {w : World} {K : PySem.W.Frag} {mg : Str → Option Value} {base : Heap}
/-! ### _law_mix -/
abbrev s__law_mix : Stmt := topS 9
abbrev N__law_mix : List Str := ["_law_cell", "_law_k", "_law_m"]
theorem sc__law_mix : FnScope N__law_mix ["_law_cell", "_law_k"] (defScope s__law_mix) := ⟨rfl, rfl, rfl, by decide +kernel, rfl, by decide +kernel, by decide +kernel⟩
def sp__law_mix (K : PySem.W.Frag) : Sp := fun vs H Q _ => ∃ (x k : Int), vs = [.int x, .int k] ∧ 0 ≤ k ∧ k < 10000000000 ∧ ∀ r : Int, 0 ≤ r → r < 1999999973 → Q (.int r) H
theorem ok__law_mix {f : Addr} {fd : FuncData} (F : Fun K "_law_mix" "_law_mix" s__law_mix f fd) (g : mg "_law_mix" = some (.ref f)) (bd : Binds K fd ["_law_cell", "_law_k"] []) : CF P w K mg base 1 "_law_mix" ["_law_cell", "_law_k"] (sp__law_mix K) := by
  refine ⟨f, fd, F.ok sc__law_mix (fun vs H Q E h => ?_) (fun cdv A outer s H vs Q E hr h => ?_), g, F.kp, bd⟩
  · first | (obtain ⟨_, rfl, _⟩ := h; rfl) | (obtain ⟨_, _, rfl, _⟩ := h; rfl) | (obtain ⟨_, _, _, rfl, _⟩ := h; rfl) | (obtain ⟨_, _, _, _, rfl, _⟩ := h; rfl) | (obtain ⟨_, _, _, _, _, rfl, _⟩ := h; rfl) | (obtain ⟨_, _, _, _, _, _, rfl, _⟩ := h; rfl) | (obtain ⟨_, _, _, _, _, _, _, rfl, _⟩ := h; rfl) | (obtain ⟨_, _, _, _, _, _, _, _, rfl, _⟩ := h; rfl) | (obtain ⟨_, _, _, _, _, _, _, _, _, rfl, _⟩ := h; rfl) | (obtain ⟨_, _, _, _, _, _, _, _, _, _, rfl, _⟩ := h; rfl) | (obtain ⟨_, _, _, _, _, _, _, _, _, _, _, rfl, _⟩ := h; rfl) | (obtain ⟨_, _, _, _, _, _, _, _, _, _, _, _, rfl, _⟩ := h; rfl) | (obtain ⟨_, _, _, _, _, _, _, _, _, _, _, _, _, rfl, _⟩ := h; rfl) | (obtain ⟨_, _, _, _, _, _, _, _, _, _, _, _, _, _, rfl, _⟩ := h; rfl) | (obtain ⟨_, _, _, _, _, _, _, _, _, _, _, _, _, _, _, rfl, _⟩ := h; rfl)
  · have hu64 := hr.units
    obtain ⟨x, k, rfl, k0, k1, q⟩ := h
    refine ⟨_, (pss_cons (ps_set (i := 2) sc__law_mix.nd rfl (.inl rfl) (pe_op op_mod (pe_op op_mul (pe_op op_add (pe_op op_add (pe_op op_mod (pv 0) pe_int) (pe_op op_mul (pe_op op_mul (pv 1) (pv 1)) pe_int)) pe_int) pe_int) pe_int))
      (pss_one (ps_ret (pe_op op_mod (pe_op op_mul (pv 2) (pv 2)) pe_int)))), ?_⟩
    refine ⟨_, rfl, _, _, rfl, rfl, (by show (0 : Int) < 2147483629; decide), _, rfl, _, rfl, _, _, rfl, rfl, .inl ⟨by omega, by omega⟩, _, _, rfl, rfl, .inr ⟨by decide, by decide⟩, _, _, rfl, rfl, _, _, rfl, rfl, _, _, rfl, rfl, .inr ⟨by decide, by decide⟩, _, _, rfl, rfl, (by show (0 : Int) < 2147483647; decide), ?_⟩
    have o0 := Int.emod_nonneg ((x % 2147483629 + k * k * 7919 + 11) * 48271) (show (2147483647 : Int) ≠ 0 by decide)
    have o1 := Int.emod_lt_of_pos ((x % 2147483629 + k * k * 7919 + 11) * 48271) (show (0 : Int) < 2147483647 by decide)
    exact ⟨_, rfl, _, rfl, _, _, rfl, rfl, .inl ⟨by omega, by omega⟩, _, _, rfl, rfl, (by show (0 : Int) < 1999999973; decide), q _ (Int.emod_nonneg _ (by decide)) (Int.emod_lt_of_pos _ (by decide))⟩
/-! ### what is drawn from: three numbers -/
def Three (H : Hp) (b : Addr) (n : Int) : Prop := ∃ x c z : Int, H b = some (.lst [.int x, .int c, .int z]) ∧ 0 ≤ x ∧ 0 ≤ z ∧ z ≤ n
section
variable {K : PySem.W.Frag} {H H' : Hp} {b p : Addr} {n m : Int} {o : HO}
theorem Three.mono (h : Three H b n) (l : n ≤ m) : Three H b m := by
  obtain ⟨x, c, z, h0, h1, h2, h3⟩ := h
  exact ⟨x, c, z, h0, h1, h2, by omega⟩
theorem Three.same (h : Three H b n) (e : Same H H') : Three H' b n := by
  obtain ⟨x, c, z, h0, h1⟩ := h
  exact ⟨x, c, z, e _ _ h0, h1⟩
theorem Three.new (h : Three H b n) (e : H p = none) : Three (upd H p o) b n := h.same (same_new e)
theorem Three.ne (h : Three H b n) (e : H p = none) : p ≠ b := fun z => by
  obtain ⟨_, _, _, h0, _⟩ := h
  rw [z, h0] at e
  cases e
theorem Three.upd (h : Three H b n) (e : p ≠ b) : Three (upd H p o) b n := by
  obtain ⟨x, c, z, h0, h1⟩ := h
  exact ⟨x, c, z, by rw [upd_ne e.symm]; exact h0, h1⟩
theorem none_of {H H' : Hp} {p : Addr} (s : Same H H') (h : H' p = none) : H p = none := by
  cases e : H p with
  | none => rfl
  | some o =>
    rw [s _ _ e] at h
    cases h
theorem updNew {b D : Addr} {H G : Hp} {o : HO} (t : But b H G) (hD : H D = none) : But b H (L2.upd G D o) := fun c u n h => by
  rw [upd_ne (ne_of_none h hD)]
  exact t c u n h
/-- prices in the heap -/
def Prs (H : Hp) (as : List Addr) (ps : List (Int × Int)) : Prop := as.length = ps.length ∧ ∀ (i : Nat) (a : Addr) (p : Int × Int), as[i]? = some a → ps[i]? = some p → H a = some (.tup [.int p.1, .int p.2])
theorem Prs.same {as : List Addr} {ps : List (Int × Int)} (h : Prs H as ps) (e : Same H H') : Prs H' as ps := ⟨h.1, fun i a p h1 h2 => e _ _ (h.2 i a p h1 h2)⟩
theorem Prs.but {as : List Addr} {ps : List (Int × Int)} (h : Prs H as ps) (t : But b H H') (hb : Three H b n) : Prs H' as ps := by
  refine ⟨h.1, fun i a p h1 h2 => ?_⟩
  obtain ⟨_, _, _, h0, _⟩ := hb
  have := h.2 i a p h1 h2
  exact t _ _ (ne_of this h0 (by intro z; cases z)) this
theorem Prs.updL {as : List Addr} {ps : List (Int × Int)} {D : Addr} {xs : List V} (h : Prs H as ps) (hD : H D = some (.lst xs)) : Prs (L2.upd H D o) as ps := by
  refine ⟨h.1, fun i a p h1 h2 => ?_⟩
  have := h.2 i a p h1 h2
  rw [upd_ne (ne_of this hD (by intro z; cases z))]
  exact this
theorem Prs.snoc {as : List Addr} {ps : List (Int × Int)} {a : Addr} {q : Int × Int} (h : Prs H as ps) (ha : H a = some (.tup [.int q.1, .int q.2])) : Prs H (as ++ [a]) (ps ++ [q]) := by
  refine ⟨by rw [List.length_append, List.length_append, h.1]; rfl, fun i a' p h1 h2 => ?_⟩
  by_cases c : i < as.length
  · rw [List.getElem?_append_left c] at h1
    rw [List.getElem?_append_left (h.1 ▸ c)] at h2
    exact h.2 i a' p h1 h2
  · have hi : i < (as ++ [a]).length := (List.getElem?_eq_some_iff.mp h1).1
    rw [List.length_append] at hi
    have e : i = as.length := by
      have : [a].length = 1 := rfl
      omega
    rw [e, List.getElem?_append_right (Nat.le_refl _)] at h1
    rw [e, h.1, List.getElem?_append_right (Nat.le_refl _)] at h2
    simp at h1 h2
    subst h1 h2
    exact ha
end
theorem pick2i {r x y lo hi : Int} (h0 : 0 ≤ r) (h1 : r < 2) (hx : lo ≤ x ∧ x ≤ hi) (hy : lo ≤ y ∧ y ≤ hi) : ∃ v : Int, atI [V.int x, .int y] r = some (.int v) ∧ lo ≤ v ∧ v ≤ hi := by
  have h : r = 0 ∨ r = 1 := by omega
  rcases h with rfl | rfl
  · exact ⟨x, rfl, hx⟩
  · exact ⟨y, rfl, hy⟩
theorem pick3j {r x y z lo hi : Int} (h0 : 0 ≤ r) (h1 : r < 3) (hx : lo ≤ x ∧ x ≤ hi) (hy : lo ≤ y ∧ y ≤ hi) (hz : lo ≤ z ∧ z ≤ hi) : ∃ v : Int, atI [V.int x, .int y, .int z] r = some (.int v) ∧ lo ≤ v ∧ v ≤ hi := by
  have h : r = 0 ∨ r = 1 ∨ r = 2 := by omega
  rcases h with rfl | rfl | rfl
  · exact ⟨x, rfl, hx⟩
  · exact ⟨y, rfl, hy⟩
  · exact ⟨z, rfl, hz⟩
/-! ### _law_left -/
abbrev s__law_left : Stmt := topS 10
abbrev N__law_left : List Str := ["_law_script", "_law_k", "_law_cell"]
theorem sc__law_left : FnScope N__law_left ["_law_script", "_law_k"] (defScope s__law_left) := ⟨rfl, rfl, rfl, by decide +kernel, rfl, by decide +kernel, by decide +kernel⟩
def sp__law_left (K : PySem.W.Frag) : Sp := fun vs H Q _ => ∃ (a : Addr) (k : Int) (ns : List Int), vs = [.ref a, .int k] ∧ SqL K H a (ns.map V.int) ∧ 0 ≤ k ∧ k ≤ 63 ∧ ∀ H' b, H b = none → Same H H' → Three H' b 0 → Q (.ref b) H'
theorem ok__law_left {f : Addr} {fd : FuncData} (F : Fun K "_law_left" "_law_left" s__law_left f fd) (g : mg "_law_left" = some (.ref f)) (bd : Binds K fd ["_law_script", "_law_k"] []) (m_len : mg "len" = none) (m_abs : mg "abs" = none) (m_int : mg "int" = none) : CF P w K mg base 1 "_law_left" ["_law_script", "_law_k"] (sp__law_left K) := by
  refine ⟨f, fd, F.ok sc__law_left (fun vs H Q E h => ?_) (fun cdv A outer s H vs Q E hr h => ?_), g, F.kp, bd⟩
  · first | (obtain ⟨_, rfl, _⟩ := h; rfl) | (obtain ⟨_, _, rfl, _⟩ := h; rfl) | (obtain ⟨_, _, _, rfl, _⟩ := h; rfl) | (obtain ⟨_, _, _, _, rfl, _⟩ := h; rfl) | (obtain ⟨_, _, _, _, _, rfl, _⟩ := h; rfl) | (obtain ⟨_, _, _, _, _, _, rfl, _⟩ := h; rfl) | (obtain ⟨_, _, _, _, _, _, _, rfl, _⟩ := h; rfl) | (obtain ⟨_, _, _, _, _, _, _, _, rfl, _⟩ := h; rfl) | (obtain ⟨_, _, _, _, _, _, _, _, _, rfl, _⟩ := h; rfl) | (obtain ⟨_, _, _, _, _, _, _, _, _, _, rfl, _⟩ := h; rfl) | (obtain ⟨_, _, _, _, _, _, _, _, _, _, _, rfl, _⟩ := h; rfl) | (obtain ⟨_, _, _, _, _, _, _, _, _, _, _, _, rfl, _⟩ := h; rfl) | (obtain ⟨_, _, _, _, _, _, _, _, _, _, _, _, _, rfl, _⟩ := h; rfl) | (obtain ⟨_, _, _, _, _, _, _, _, _, _, _, _, _, _, rfl, _⟩ := h; rfl) | (obtain ⟨_, _, _, _, _, _, _, _, _, _, _, _, _, _, _, rfl, _⟩ := h; rfl)
  · have hu64 := hr.units
    obtain ⟨a, k, ns, rfl, hS, hk0, hk, q⟩ := h
    refine ⟨_, (pss_cons (ps_set (i := 2) sc__law_left.nd rfl (.inl rfl) (pe_ifExp (pt_cmpR op_lt (pv 1) (pe_callB (kk_len K) (by rfl) m_len PySem.boot_len (pa_cons (pv 0) pa_nil)) (nomark _)) (pe_ix (kk_ixl K) (pv 0) (pv 1) (fun _ _ => rfl)) pe_int))
      (pss_one (ps_ret (pe_lst (pa_cons (pe_op op_mul (pe_callB call_abs (by rfl) m_abs (by decide +kernel) (pa_cons (pv 2) pa_nil)) (pe_callTy call_int1 (by rfl) m_int (by decide +kernel) (pa_cons (pe_cmpR op_ge (pe_callB call_abs (by rfl) m_abs (by decide +kernel) (pa_cons (pv 2) pa_nil)) (pe_op op_pow pe_int pe_int) (nomark _)) pa_nil))) (pa_cons (pe_op op_add (pv 2) (pe_op op_mul pe_int (pv 1))) (pa_cons pe_int pa_nil))))))), ?_⟩
    refine ⟨_, rfl, _, rfl, a, _, rfl, .inl hS, _, _, rfl, rfl, _, rfl, ite2 (fun e => ?_) (fun e => ?_)⟩
    · have e1 := of_decide_eq_true e
      rw [List.length_map] at e1
      obtain ⟨c, hc⟩ := at_int hk0 e1
      refine ⟨_, rfl, _, rfl, a, _, _, _, rfl, rfl, hS, hc, ?_⟩
      refine ⟨_, rfl, _, rfl, _, rfl, _, rfl, _, _, rfl, rfl, ⟨by decide, by decide, by decide⟩, _, _, rfl, rfl, .inr ⟨_, rfl, _, _, rfl, rfl, .inr ⟨?_, ?_⟩, _, rfl, _, rfl, _, _, rfl, rfl, .inl ⟨by decide, by decide⟩, _, _, rfl, rfl, (by show 3 ≤ sizeLine; decide), fun p hp => ?_⟩⟩
      · split <;> omega
      · split <;> omega
      · refine q _ p hp (same_new hp) ⟨_, _, _, upd_same, ?_, by omega, by omega⟩
        refine Int.mul_nonneg ?_ ?_ <;> split <;> omega
    · refine ⟨_, rfl, _, rfl, _, rfl, _, rfl, _, _, rfl, rfl, ⟨by decide, by decide, by decide⟩, _, _, rfl, rfl, .inr ⟨_, rfl, _, _, rfl, rfl, .inr ⟨?_, ?_⟩, _, rfl, _, rfl, _, _, rfl, rfl, .inl ⟨by decide, by decide⟩, _, _, rfl, rfl, (by show 3 ≤ sizeLine; decide), fun p hp => ?_⟩⟩
      · split <;> omega
      · split <;> omega
      · refine q _ p hp (same_new hp) ⟨_, _, _, upd_same, ?_, by omega, by omega⟩
        refine Int.mul_nonneg ?_ ?_ <;> split <;> omega
/-! ### _law_pick -/
abbrev s__law_pick : Stmt := topS 11
abbrev N__law_pick : List Str := ["_law_left_here", "_law_many", "_law_digit"]
theorem sc__law_pick : FnScope N__law_pick ["_law_left_here", "_law_many"] (defScope s__law_pick) := ⟨rfl, rfl, rfl, by decide +kernel, rfl, by decide +kernel, by decide +kernel⟩
def sp__law_pick (K : PySem.W.Frag) : Sp := fun vs H Q _ => ∃ (b : Addr) (m n : Int), vs = [.ref b, .int m] ∧ Three H b n ∧ 0 < m ∧ m < 1073741824 ∧ n < 1000000000 ∧ ∀ (r : Int) H', 0 ≤ r → r < m → Three H' b (n + 1) → But b H H' → Q (.int r) H'
theorem ok__law_pick {f : Addr} {fd : FuncData} (F : Fun K "_law_pick" "_law_pick" s__law_pick f fd) (g : mg "_law_pick" = some (.ref f)) (bd : Binds K fd ["_law_left_here", "_law_many"] []) (C__law_mix : CF P w K mg base 1 "_law_mix" ["_law_cell", "_law_k"] (sp__law_mix K)) : CF P w K mg base 2 "_law_pick" ["_law_left_here", "_law_many"] (sp__law_pick K) := by
  refine ⟨f, fd, F.ok sc__law_pick (fun vs H Q E h => ?_) (fun cdv A outer s H vs Q E hr h => ?_), g, F.kp, bd⟩
  · first | (obtain ⟨_, rfl, _⟩ := h; rfl) | (obtain ⟨_, _, rfl, _⟩ := h; rfl) | (obtain ⟨_, _, _, rfl, _⟩ := h; rfl) | (obtain ⟨_, _, _, _, rfl, _⟩ := h; rfl) | (obtain ⟨_, _, _, _, _, rfl, _⟩ := h; rfl) | (obtain ⟨_, _, _, _, _, _, rfl, _⟩ := h; rfl) | (obtain ⟨_, _, _, _, _, _, _, rfl, _⟩ := h; rfl) | (obtain ⟨_, _, _, _, _, _, _, _, rfl, _⟩ := h; rfl) | (obtain ⟨_, _, _, _, _, _, _, _, _, rfl, _⟩ := h; rfl) | (obtain ⟨_, _, _, _, _, _, _, _, _, _, rfl, _⟩ := h; rfl) | (obtain ⟨_, _, _, _, _, _, _, _, _, _, _, rfl, _⟩ := h; rfl) | (obtain ⟨_, _, _, _, _, _, _, _, _, _, _, _, rfl, _⟩ := h; rfl) | (obtain ⟨_, _, _, _, _, _, _, _, _, _, _, _, _, rfl, _⟩ := h; rfl) | (obtain ⟨_, _, _, _, _, _, _, _, _, _, _, _, _, _, rfl, _⟩ := h; rfl) | (obtain ⟨_, _, _, _, _, _, _, _, _, _, _, _, _, _, _, rfl, _⟩ := h; rfl)
  · have hu64 := hr.units
    obtain ⟨b, m, n, rfl, ⟨x, c, z, hb, hx, hz, hz2⟩, hm, hm2, hn, q⟩ := h
    refine ⟨_, (pss_cons (ps_asg (pe_op op_add (pe_ix (kk_ixl K) (pv 0) pe_int (fun _ _ => rfl)) pe_int) (pg_sub (pv 0) pe_int set_list))
      (pss_cons (ps_if (pt_cmpR op_gt (pe_ix (kk_ixl K) (pv 0) pe_int (fun _ _ => rfl)) pe_int (nomark _))
         (pss_cons (ps_set (i := 2) sc__law_pick.nd rfl (.inl rfl) (pe_op op_mod (pe_ix (kk_ixl K) (pv 0) pe_int (fun _ _ => rfl)) (pv 1)))
          (pss_cons (ps_asg (pe_op op_fdiv (pe_ix (kk_ixl K) (pv 0) pe_int (fun _ _ => rfl)) (pv 1)) (pg_sub (pv 0) pe_int set_list))
          (pss_one (ps_ret (pv 2)))))
         pss_nil)
      (pss_one (ps_ret (pe_op op_mod (pe_op op_fdiv (pe_cf C__law_mix (hr.mono (by decide)) (by rfl) (pa_cons (pe_cf C__law_mix (hr.mono (by decide)) (by rfl) (pa_cons (pe_ix (kk_ixl K) (pv 0) pe_int (fun _ _ => rfl)) (pa_cons (pe_ix (kk_ixl K) (pv 0) pe_int (fun _ _ => rfl)) pa_nil))) (pa_cons (pe_op op_add (pe_ix (kk_ixl K) (pv 0) pe_int (fun _ _ => rfl)) pe_int) pa_nil))) pe_int) (pv 1)))))), ?_⟩
    have h1 : (upd H b (.lst [.int x, .int c, .int (z + 1)])) b = some (.lst [.int x, .int c, .int (z + 1)]) := upd_same
    refine ⟨_, rfl, b, _, _, _, rfl, rfl, SqL.of hb, rfl, _, _, rfl, rfl, _, rfl, b, _, _, _, rfl, rfl, hb, rfl, ?_⟩
    refine ⟨_, rfl, b, _, _, _, rfl, rfl, SqL.of h1, rfl, _, _, rfl, rfl, _, rfl, ite2 (fun e => ?_) (fun e => ?_)⟩
    · refine ⟨_, rfl, b, _, _, _, rfl, rfl, SqL.of h1, rfl, _, rfl, _, _, rfl, rfl, hm, ?_⟩
      refine ⟨_, rfl, b, _, _, _, rfl, rfl, SqL.of h1, rfl, _, rfl, _, _, rfl, rfl, ⟨hm, hm2⟩, _, rfl, b, _, _, _, rfl, rfl, h1, rfl, ?_⟩
      exact ⟨_, rfl, q _ _ (Int.emod_nonneg _ (by omega)) (Int.emod_lt_of_pos _ hm) ⟨x / m, c, z + 1, upd_same, Int.ediv_nonneg hx (by omega), by omega, by omega⟩ (But.upd.trans But.upd)⟩
    · refine ⟨_, rfl, b, _, _, _, rfl, rfl, SqL.of h1, rfl, _, rfl, b, _, _, _, rfl, rfl, SqL.of h1, rfl, c, z + 1, rfl, by omega, by omega, fun r1 r10 r11 => ?_⟩
      refine ⟨_, rfl, b, _, _, _, rfl, rfl, SqL.of h1, rfl, _, _, rfl, rfl, r1, z + 1 + 64, rfl, by omega, by omega, fun r2 r20 r21 => ?_⟩
      exact ⟨_, _, rfl, rfl, ⟨by decide, by decide⟩, _, rfl, _, _, rfl, rfl, hm, q _ _ (Int.emod_nonneg _ (by omega)) (Int.emod_lt_of_pos _ hm) ⟨x, c, z + 1, h1, hx, by omega, by omega⟩ But.upd⟩
set_option maxHeartbeats 2000000
/-! ### wants and incomes -/
structure Wt where
  n : Str
  p : Int
  l : Int
def wV (w : Wt) : List V := [.str w.n, .int w.p, .int w.l]
def iV (i : Int × Int) : List V := [.int i.1, .int i.2]
def dueF (ws : List Wt) (d : Int) : Int := ((ws.filter fun w => decide (w.l ≤ d)).map (·.p)).sum
def comF (is : List (Int × Int)) (d : Int) : Int := ((is.filter fun i => decide (i.1 ≤ d)).map (·.2)).sum
def shortF (ws : List Wt) (is : List (Int × Int)) (ns : List Int) : List (Int × Int) := (ns.map fun d => (d, dueF ws d - comF is d)).filter fun q => decide (q.2 > 0)
/-- the days of wants, each once, rising -/
def Lasts (ws : List Wt) (ns : List Int) : Prop := ns.Pairwise (· < ·) ∧ ∀ k, k ∈ ns ↔ ∃ w ∈ ws, w.l = k
theorem filt_map {α β : Type} {g : α → β} {p : β → Bool} (l : List α) : (l.filter fun q => p (g q)).map g = (l.map g).filter p := by
  rw [List.filter_map]
  rfl
theorem rise_one : ∀ {l m : List Int}, l.Pairwise (· < ·) → m.Pairwise (· < ·) → (∀ k, k ∈ l ↔ k ∈ m) → l = m
  | [], [], _, _, _ => rfl
  | [], b :: m, _, _, h => absurd ((h b).mpr List.mem_cons_self) (by simp)
  | a :: l, [], _, _, h => absurd ((h a).mp List.mem_cons_self) (by simp)
  | a :: l, b :: m, h1, h2, h => by
    obtain ⟨a1, a2⟩ := List.pairwise_cons.mp h1
    obtain ⟨b1, b2⟩ := List.pairwise_cons.mp h2
    have e : a = b := by
      rcases List.mem_cons.mp ((h a).mp List.mem_cons_self) with x | x
      · exact x
      · rcases List.mem_cons.mp ((h b).mpr List.mem_cons_self) with y | y
        · exact y.symm
        · have := a1 b y
          have := b1 a x
          omega
    subst e
    rw [rise_one a2 b2 fun k => ?_]
    constructor
    · intro hk
      rcases List.mem_cons.mp ((h k).mp (List.mem_cons_of_mem _ hk)) with x | x
      · have := a1 k hk
        omega
      · exact x
    · intro hk
      rcases List.mem_cons.mp ((h k).mpr (List.mem_cons_of_mem _ hk)) with x | x
      · have := b1 k hk
        omega
      · exact x
theorem Lasts.one {ws vs : List Wt} {l m : List Int} (h1 : Lasts ws l) (h2 : Lasts vs m) (p : ∀ w, w ∈ ws ↔ w ∈ vs) : l = m := by
  refine rise_one h1.1 h2.1 fun k => ?_
  rw [h1.2, h2.2]
  constructor
  · exact fun ⟨w, a, b⟩ => ⟨w, (p w).mp a, b⟩
  · exact fun ⟨w, a, b⟩ => ⟨w, (p w).mpr a, b⟩
theorem perm_sum {l m : List Int} (h : l.Perm m) : l.sum = m.sum := by
  induction h with
  | nil => rfl
  | cons x _ ih => rw [List.sum_cons, List.sum_cons, ih]
  | swap x y l =>
    simp only [List.sum_cons]
    omega
  | trans _ _ a b => exact a.trans b
theorem due_perm {ws vs : List Wt} (p : ws.Perm vs) (d : Int) : dueF ws d = dueF vs d := by
  unfold dueF
  exact perm_sum ((p.filter _).map _)
theorem com_perm {ws vs : List (Int × Int)} (p : ws.Perm vs) (d : Int) : comF ws d = comF vs d := by
  unfold comF
  exact perm_sum ((p.filter _).map _)
theorem filter_le {l : List Int} (h : l.length ≤ 1000) (p : Int → Bool) : (l.filter p).length ≤ 1000 := Nat.le_trans (List.length_filter_le _ _) h
def prD2 (p : Int × Int) : PyData := .tuple [.int p.1, .int p.2]
theorem row_dp {α : Type} {f : α → List V} {fd : α → PyData} {K : PySem.W.Frag} {H : Hp} (hf : ∀ (a : Addr) x, SqT K H a (f x) → Dp K H (.ref a) (fd x)) : ∀ {L : List (Addr × α)}, RowsAt f H L → DpAll K H (refs L) (L.map fun q => fd q.2)
  | [], _ => .nil
  | q :: r, h => .cons (hf _ _ (SqT.of (h q List.mem_cons_self))) (row_dp hf fun x hx => h x (List.mem_cons_of_mem _ hx))
theorem iV_dp {K : PySem.W.Frag} {H : Hp} (a : Addr) (x : Int × Int) (h : SqT K H a (iV x)) : Dp K H (.ref a) (prD2 x) := .tup h (.cons (.int _) (.cons (.int _) .nil))
def wtD (w : Wt) : PyData := .tuple [.str w.n, .int w.p, .int w.l]
theorem wV_dp {K : PySem.W.Frag} {H : Hp} (a : Addr) (x : Wt) (h : SqT K H a (wV x)) : Dp K H (.ref a) (wtD x) := .tup h (.cons (.str _) (.cons (.int _) (.cons (.int _) .nil)))
theorem pairs_lay : ∀ l : List (Int × Int), PyData.canLayAll0 (l.map prD2) = true
  | [] => by simp [PyData.canLayAll0]
  | p :: r => by simp [PyData.canLayAll0, PyData.canLay0, prD2, pairs_lay r]
theorem pairs_depth : ∀ l : List (Int × Int), PyData.depthAll (l.map prD2) ≤ 2
  | [] => by simp [PyData.depthAll]
  | p :: r => by
    have := pairs_depth r
    simp only [List.map_cons, PyData.depthAll, PyData.depth, prD2]
    omega
theorem sh_pairs (l : List (Int × Int)) : SeqAt.shaped (.list (l.map prD2)) = true := by
  have h1 := pairs_depth l
  have h2 : PyData.depth (.list (l.map prD2)) ≤ 64 := by
    simp only [PyData.depth]
    omega
  show (PyData.canLay0 _ && decide (_ ≤ 64)) = true
  rw [Bool.and_eq_true]
  exact ⟨by simp only [PyData.canLay0]; exact pairs_lay l, decide_eq_true h2⟩
theorem eqv_pairs (l : List (Int × Int)) : PyData.eqv (.list (l.map prD2)) (.list (l.map prD2)) = true := SeqAt.eqv_refl _ (SeqAt.canLay_of_shaped (sh_pairs l))
theorem pairs_dp {K : PySem.W.Frag} {H : Hp} {a : Addr} {S : List (Addr × (Int × Int))} (h : SqL K H a (refs S)) (hS : RowsAt iV H S) : Dp K H (.ref a) (.list ((S.map (·.2)).map prD2)) := by
  rw [List.map_map]
  exact .lst h (row_dp iV_dp hS)
theorem eqv_nil {l : List PyData} : PyData.eqv (.list l) (.list []) = decide (l = []) := by
  cases l <;> simp [PyData.eqv, PyData.eqvAll]
/-! ### due_by -/
abbrev s_due_by : Stmt := topS 3
abbrev N_due_by : List Str := ["wants", "day", "name", "pence", "last"]
theorem sc_due_by : FnScope N_due_by ["wants", "day"] (defScope s_due_by) := ⟨rfl, rfl, rfl, by decide +kernel, rfl, by decide +kernel, by decide +kernel⟩
def sp_due_by (K : PySem.W.Frag) : Sp := fun vs H Q _ => ∃ (a : Addr) (d : Int) (L : List (Addr × Wt)), vs = [.ref a, .int d] ∧ (SqL K H a (refs L) ∨ SqT K H a (refs L)) ∧ RowsAt wV H L ∧ L.length ≤ 1000 ∧ ∀ H', Same H H' → Q (.int (dueF (L.map (·.2)) d)) H'
theorem ok_due_by {f : Addr} {fd : FuncData} (F : Fun K "due_by" "due_by" s_due_by f fd) (g : mg "due_by" = some (.ref f)) (bd : Binds K fd ["wants", "day"] []) (m_sum : mg "sum" = none) : CF P w K mg base 1 "due_by" ["wants", "day"] (sp_due_by K) := by
  refine ⟨f, fd, F.ok sc_due_by (fun vs H Q E h => ?_) (fun cdv A outer s H vs Q E hr h => ?_), g, F.kp, bd⟩
  · first | (obtain ⟨_, rfl, _⟩ := h; rfl) | (obtain ⟨_, _, rfl, _⟩ := h; rfl) | (obtain ⟨_, _, _, rfl, _⟩ := h; rfl) | (obtain ⟨_, _, _, _, rfl, _⟩ := h; rfl) | (obtain ⟨_, _, _, _, _, rfl, _⟩ := h; rfl) | (obtain ⟨_, _, _, _, _, _, rfl, _⟩ := h; rfl) | (obtain ⟨_, _, _, _, _, _, _, rfl, _⟩ := h; rfl) | (obtain ⟨_, _, _, _, _, _, _, _, rfl, _⟩ := h; rfl) | (obtain ⟨_, _, _, _, _, _, _, _, _, rfl, _⟩ := h; rfl) | (obtain ⟨_, _, _, _, _, _, _, _, _, _, rfl, _⟩ := h; rfl) | (obtain ⟨_, _, _, _, _, _, _, _, _, _, _, rfl, _⟩ := h; rfl) | (obtain ⟨_, _, _, _, _, _, _, _, _, _, _, _, rfl, _⟩ := h; rfl) | (obtain ⟨_, _, _, _, _, _, _, _, _, _, _, _, _, rfl, _⟩ := h; rfl) | (obtain ⟨_, _, _, _, _, _, _, _, _, _, _, _, _, _, rfl, _⟩ := h; rfl) | (obtain ⟨_, _, _, _, _, _, _, _, _, _, _, _, _, _, _, rfl, _⟩ := h; rfl)
  · have hu64 := hr.units
    obtain ⟨a, d, L, rfl, hS, hR, small, q⟩ := h
    refine ⟨_, (pss_one (ps_ret (pe_callB (kk_sum K rfl) (by rfl) m_sum (by decide +kernel) (pa_cons (pe_lc (own := [("name", 2), ("pence", 3), ("last", 4)]) (g := (gTup K 3 (gCons (gName 2) (gCons (gName 3) (gCons (gName 4) gNil))))) rfl sc_due_by.nd (pi_or (pi_list (pv 0)) (pi_tup (pv 0))) (blkOk_by (own := [("name", 2), ("pence", 3), ("last", 4)]) (N := N_due_by) (sc := defScope s_due_by) (by decide +kernel)) (fun _ _ _ _ _ => (pg_tup (by rfl) (pgs_cons (pg_name (i := 2) sc_due_by.nd rfl (.inl rfl)) (pgs_cons (pg_name (i := 3) sc_due_by.nd rfl (.inl rfl)) (pgs_cons (pg_name (i := 4) sc_due_by.nd rfl (.inl rfl)) pgs_nil))))) (fun _ _ _ _ _ => (pts_one (pt_cmpR op_le (pv 4) (pv 1) (nomark _)))) (fun _ _ _ _ _ => (pv 3))) pa_nil)))), ?_⟩
    refine walk_or rfl hS fun J ok D hD => rows_lc (fun w : Wt => decide (w.l ≤ d)) (fun q => V.int q.2.p) ok hR small hD (fun q hq G s hG Y N h1 h2 => ?_) (fun G s hG => ?_)
    · refine ⟨q.1, _, rfl, SqT.of hG, rfl, _, _, rfl, _, _, rfl, _, _, rfl, rfl, rfl, _, rfl, _, rfl, _, _, rfl, rfl, _, rfl, ite2 (fun z => ⟨_, rfl, h1 z⟩) (fun z => h2 (by simpa using z))⟩
    · refine ⟨D, ((L.filter fun q => decide (q.2.l ≤ d)).map fun q => q.2.p), rfl, SqL.of (hG.trans (by rw [List.map_map]; rfl)), ?_⟩
      have e : dueF (L.map (·.2)) d = ((L.filter fun q => decide (q.2.l ≤ d)).map fun q => q.2.p).sum := by
        unfold dueF
        rw [← filt_map, List.map_map]
        rfl
      rw [← e]
      exact q G s
/-! ### come_by -/
abbrev s_come_by : Stmt := topS 4
abbrev N_come_by : List Str := ["incomes", "day", "come", "pence"]
theorem sc_come_by : FnScope N_come_by ["incomes", "day"] (defScope s_come_by) := ⟨rfl, rfl, rfl, by decide +kernel, rfl, by decide +kernel, by decide +kernel⟩
def sp_come_by (K : PySem.W.Frag) : Sp := fun vs H Q _ => ∃ (a : Addr) (d : Int) (L : List (Addr × (Int × Int))), vs = [.ref a, .int d] ∧ (SqL K H a (refs L) ∨ SqT K H a (refs L)) ∧ RowsAt iV H L ∧ L.length ≤ 1000 ∧ ∀ H', Same H H' → Q (.int (comF (L.map (·.2)) d)) H'
theorem ok_come_by {f : Addr} {fd : FuncData} (F : Fun K "come_by" "come_by" s_come_by f fd) (g : mg "come_by" = some (.ref f)) (bd : Binds K fd ["incomes", "day"] []) (m_sum : mg "sum" = none) : CF P w K mg base 1 "come_by" ["incomes", "day"] (sp_come_by K) := by
  refine ⟨f, fd, F.ok sc_come_by (fun vs H Q E h => ?_) (fun cdv A outer s H vs Q E hr h => ?_), g, F.kp, bd⟩
  · first | (obtain ⟨_, rfl, _⟩ := h; rfl) | (obtain ⟨_, _, rfl, _⟩ := h; rfl) | (obtain ⟨_, _, _, rfl, _⟩ := h; rfl) | (obtain ⟨_, _, _, _, rfl, _⟩ := h; rfl) | (obtain ⟨_, _, _, _, _, rfl, _⟩ := h; rfl) | (obtain ⟨_, _, _, _, _, _, rfl, _⟩ := h; rfl) | (obtain ⟨_, _, _, _, _, _, _, rfl, _⟩ := h; rfl) | (obtain ⟨_, _, _, _, _, _, _, _, rfl, _⟩ := h; rfl) | (obtain ⟨_, _, _, _, _, _, _, _, _, rfl, _⟩ := h; rfl) | (obtain ⟨_, _, _, _, _, _, _, _, _, _, rfl, _⟩ := h; rfl) | (obtain ⟨_, _, _, _, _, _, _, _, _, _, _, rfl, _⟩ := h; rfl) | (obtain ⟨_, _, _, _, _, _, _, _, _, _, _, _, rfl, _⟩ := h; rfl) | (obtain ⟨_, _, _, _, _, _, _, _, _, _, _, _, _, rfl, _⟩ := h; rfl) | (obtain ⟨_, _, _, _, _, _, _, _, _, _, _, _, _, _, rfl, _⟩ := h; rfl) | (obtain ⟨_, _, _, _, _, _, _, _, _, _, _, _, _, _, _, rfl, _⟩ := h; rfl)
  · have hu64 := hr.units
    obtain ⟨a, d, L, rfl, hS, hR, small, q⟩ := h
    refine ⟨_, (pss_one (ps_ret (pe_callB (kk_sum K rfl) (by rfl) m_sum (by decide +kernel) (pa_cons (pe_lc (own := [("come", 2), ("pence", 3)]) (g := (gTup K 2 (gCons (gName 2) (gCons (gName 3) gNil)))) rfl sc_come_by.nd (pi_or (pi_list (pv 0)) (pi_tup (pv 0))) (blkOk_by (own := [("come", 2), ("pence", 3)]) (N := N_come_by) (sc := defScope s_come_by) (by decide +kernel)) (fun _ _ _ _ _ => (pg_tup (by rfl) (pgs_cons (pg_name (i := 2) sc_come_by.nd rfl (.inl rfl)) (pgs_cons (pg_name (i := 3) sc_come_by.nd rfl (.inl rfl)) pgs_nil)))) (fun _ _ _ _ _ => (pts_one (pt_cmpR op_le (pv 2) (pv 1) (nomark _)))) (fun _ _ _ _ _ => (pv 3))) pa_nil)))), ?_⟩
    refine walk_or rfl hS fun J ok D hD => rows_lc (fun w : Int × Int => decide (w.1 ≤ d)) (fun q => V.int q.2.2) ok hR small hD (fun q hq G s hG Y N h1 h2 => ?_) (fun G s hG => ?_)
    · refine ⟨q.1, _, rfl, SqT.of hG, rfl, _, _, rfl, _, _, rfl, rfl, rfl, _, rfl, _, rfl, _, _, rfl, rfl, _, rfl, ite2 (fun z => ⟨_, rfl, h1 z⟩) (fun z => h2 (by simpa using z))⟩
    · refine ⟨D, ((L.filter fun q => decide (q.2.1 ≤ d)).map fun q => q.2.2), rfl, SqL.of (hG.trans (by rw [List.map_map]; rfl)), ?_⟩
      have e : comF (L.map (·.2)) d = ((L.filter fun q => decide (q.2.1 ≤ d)).map fun q => q.2.2).sum := by
        unfold comF
        rw [← filt_map, List.map_map]
        rfl
      rw [← e]
      exact q G s
/-! ### short_of -/
abbrev s_short_of : Stmt := topS 2
abbrev N_short_of : List Str := ["wants", "incomes", "days", "name", "pence", "last", "shorts", "day"]
theorem sc_short_of : FnScope N_short_of ["wants", "incomes"] (defScope s_short_of) := ⟨rfl, rfl, rfl, by decide +kernel, rfl, by decide +kernel, by decide +kernel⟩
def sp_short_of (K : PySem.W.Frag) : Sp := fun vs H Q _ => ∃ (a c : Addr) (L : List (Addr × Wt)) (M : List (Addr × (Int × Int))), vs = [.ref a, .ref c] ∧ (SqL K H a (refs L) ∨ SqT K H a (refs L)) ∧ RowsAt wV H L ∧ L.length ≤ 1000 ∧ (SqL K H c (refs M) ∨ SqT K H c (refs M)) ∧ RowsAt iV H M ∧ M.length ≤ 1000 ∧
  ∀ H' D S ns, H D = none → Same H H' → H' D = some (.lst (refs S)) → RowsAt iV H' S → Lasts (L.map (·.2)) ns → S.map (·.2) = shortF (L.map (·.2)) (M.map (·.2)) ns → S.length ≤ 1000 → Q (.ref D) H'
theorem ok_short_of {f : Addr} {fd : FuncData} (F : Fun K "short_of" "short_of" s_short_of f fd) (g : mg "short_of" = some (.ref f)) (bd : Binds K fd ["wants", "incomes"] []) (m_sorted : mg "sorted" = none) (C_due_by : CF P w K mg base 1 "due_by" ["wants", "day"] (sp_due_by K)) (C_come_by : CF P w K mg base 1 "come_by" ["incomes", "day"] (sp_come_by K)) : CF P w K mg base 2 "short_of" ["wants", "incomes"] (sp_short_of K) := by
  refine ⟨f, fd, F.ok sc_short_of (fun vs H Q E h => ?_) (fun cdv A outer s H vs Q E hr h => ?_), g, F.kp, bd⟩
  · first | (obtain ⟨_, rfl, _⟩ := h; rfl) | (obtain ⟨_, _, rfl, _⟩ := h; rfl) | (obtain ⟨_, _, _, rfl, _⟩ := h; rfl) | (obtain ⟨_, _, _, _, rfl, _⟩ := h; rfl) | (obtain ⟨_, _, _, _, _, rfl, _⟩ := h; rfl) | (obtain ⟨_, _, _, _, _, _, rfl, _⟩ := h; rfl) | (obtain ⟨_, _, _, _, _, _, _, rfl, _⟩ := h; rfl) | (obtain ⟨_, _, _, _, _, _, _, _, rfl, _⟩ := h; rfl) | (obtain ⟨_, _, _, _, _, _, _, _, _, rfl, _⟩ := h; rfl) | (obtain ⟨_, _, _, _, _, _, _, _, _, _, rfl, _⟩ := h; rfl) | (obtain ⟨_, _, _, _, _, _, _, _, _, _, _, rfl, _⟩ := h; rfl) | (obtain ⟨_, _, _, _, _, _, _, _, _, _, _, _, rfl, _⟩ := h; rfl) | (obtain ⟨_, _, _, _, _, _, _, _, _, _, _, _, _, rfl, _⟩ := h; rfl) | (obtain ⟨_, _, _, _, _, _, _, _, _, _, _, _, _, _, rfl, _⟩ := h; rfl) | (obtain ⟨_, _, _, _, _, _, _, _, _, _, _, _, _, _, _, rfl, _⟩ := h; rfl)
  · have hu64 := hr.units
    obtain ⟨a, c, L, M, rfl, hS, hR, small, hS2, hR2, small2, q⟩ := h
    refine ⟨_, (pss_cons (ps_set (i := 2) sc_short_of.nd rfl (.inl rfl) (pe_callB (kk_sortedSN w rfl) (by rfl) m_sorted (by decide +kernel) (pa_cons (pe_scI (own := [("name", 3), ("pence", 4), ("last", 5)]) (g := (gTup K 3 (gCons (gName 3) (gCons (gName 4) (gCons (gName 5) gNil))))) (tt := tYes) rfl sc_short_of.nd (pi_or (pi_list (pv 0)) (pi_tup (pv 0))) (blkOk_by (own := [("name", 3), ("pence", 4), ("last", 5)]) (N := N_short_of) (sc := defScope s_short_of) (by decide +kernel)) (fun _ _ _ _ _ => (pg_tup (by rfl) (pgs_cons (pg_name (i := 3) sc_short_of.nd rfl (.inl rfl)) (pgs_cons (pg_name (i := 4) sc_short_of.nd rfl (.inl rfl)) (pgs_cons (pg_name (i := 5) sc_short_of.nd rfl (.inl rfl)) pgs_nil))))) (fun _ _ _ _ _ => pts_nil) (fun _ _ _ _ _ => (pv 5))) pa_nil)))
      (pss_cons (ps_setLc (i := 6) (own := [("day", 7)]) (g := (gName 7)) (tt := tYes) rfl sc_short_of.nd rfl rfl (sw_true rfl rfl rfl (by decide +kernel)) (pi_list (pv 2)) (blkOk_by (own := [("day", 7)]) (N := N_short_of) (sc := defScope s_short_of) (by decide +kernel)) (fun _ _ _ _ _ => pg_name (i := 7) sc_short_of.nd rfl (Or.inl rfl)) (fun _ _ _ _ _ => pts_nil) (fun _ _ _ _ _ => (pe_tup (pa_cons (pv 7) (pa_cons (pe_op op_sub (pe_cf C_due_by (hr.mono (by decide)) (by rfl) (pa_cons (pv 0) (pa_cons (pv 7) pa_nil))) (pe_cf C_come_by (hr.mono (by decide)) (by rfl) (pa_cons (pv 1) (pa_cons (pv 7) pa_nil)))) pa_nil)))))
      (pss_one (ps_ret (pe_lc (own := [("day", 7), ("pence", 4)]) (g := (gTup K 2 (gCons (gName 7) (gCons (gName 4) gNil)))) rfl sc_short_of.nd (pi_list (pv 6)) (blkOk_by (own := [("day", 7), ("pence", 4)]) (N := N_short_of) (sc := defScope s_short_of) (by decide +kernel)) (fun _ _ _ _ _ => (pg_tup (by rfl) (pgs_cons (pg_name (i := 7) sc_short_of.nd rfl (.inl rfl)) (pgs_cons (pg_name (i := 4) sc_short_of.nd rfl (.inl rfl)) pgs_nil)))) (fun _ _ _ _ _ => (pts_one (pt_cmpR op_gt (pv 4) pe_int (nomark _)))) (fun _ _ _ _ _ => (pe_tup (pa_cons (pv 7) (pa_cons (pv 4) pa_nil))))))))), ?_⟩
    have HS := fun {X : Hp} (z : Same H X) => hS.elim (fun h => Or.inl (z.seq h)) (fun h => Or.inr (seqT_same z h))
    have HS2 := fun {X : Hp} (z : Same H X) => hS2.elim (fun h => Or.inl (z.seq h)) (fun h => Or.inr (seqT_same z h))
    refine walk_or rfl hS fun J ok D hD => rows_sc (w := w) (fun x : Wt => x.l) ok hR small hD (fun q hq G s hG Y N h1 => ?_) (fun G n s hn hG => ?_)
    · exact ⟨q.1, _, rfl, SqT.of hG, rfl, _, _, rfl, _, _, rfl, _, _, rfl, rfl, rfl, _, rfl, h1⟩
    refine ⟨D, _, _, rfl, hG, fun ns p hrise hmem hlen hp => ?_⟩
    have lasts : Lasts (L.map (·.2)) ns := ⟨hrise, fun k => by
      rw [hmem k, decide_eq_true_eq]
      constructor
      · intro h
        obtain ⟨x, hx, e⟩ := List.mem_map.mp h
        exact ⟨x.2, List.mem_map.mpr ⟨x, hx, rfl⟩, e⟩
      · rintro ⟨x, hx, e⟩
        obtain ⟨y, hy, rfl⟩ := List.mem_map.mp hx
        exact List.mem_map.mpr ⟨y, hy, e⟩⟩
    have s1 := s.trans (same_new (o := .lst (ns.map V.int)) hp)
    have hP := upd_same (H := G) (a := p) (o := .lst (ns.map V.int))
    generalize upd G p (.lst (ns.map V.int)) = G1 at *
    refine ⟨_, rfl, p, rfl, ⟨_, SqL.of hP⟩, fun E nE => lc_list (K := K) (a := p) (xs := ns.map V.int) (fun i G2 => Same G1 G2 ∧ ∃ S : List (Addr × (Int × Int)), G2 E = some (.lst (refs S)) ∧ RowsAt iV G2 S ∧ S.map (·.2) = (ns.take i).map fun d => (d, dueF (L.map (·.2)) d - comF (M.map (·.2)) d)) ⟨same_new nE, [], upd_same, .nil, rfl⟩ (fun i G2 _ h => SqL.of (h.1 _ _ hP)) (fun i x G2 hx h => ?_) (fun G2 h => ?_)⟩
    · obtain ⟨s2, S, e, hSr, hSm⟩ := h
      rw [List.getElem?_map] at hx
      obtain ⟨d, hd, rfl⟩ := Option.map_eq_some_iff.mp hx
      have hi : i < ns.length := (List.getElem?_eq_some_iff.mp hd).1
      have le : (refs S).length ≤ i := by
        rw [List.length_map, ← List.length_map (f := (·.2)) (as := S), hSm, List.length_map, List.length_take]
        omega
      refine ⟨rfl, _, rfl, _, rfl, _, rfl, a, d, L, rfl, HS (s1.trans s2), hR.same (s1.trans s2), small, fun G3 s3 => ?_⟩
      refine ⟨_, rfl, _, rfl, c, d, M, rfl, HS2 ((s1.trans s2).trans s3), hR2.same ((s1.trans s2).trans s3), small2, fun G4 s4 => ⟨_, _, rfl, rfl, (by show 2 ≤ sizeLine; decide), fun t ht => ?_⟩⟩
      have e4 := s4 _ _ (s3 _ _ e)
      refine ⟨_, same_new ht _ _ e4, Nat.lt_of_le_of_lt le (small1000 (by omega)), fun x o ex => ?_, S ++ [(t, (d, dueF (L.map (·.2)) d - comF (M.map (·.2)) d))], ?_, ?_, ?_⟩
      · rw [upd_ne (ne_of_none ex nE)]
        exact same_new ht _ _ (s4 _ _ (s3 _ _ (s2 _ _ ex)))
      · rw [upd_same, refs_snoc]
      · refine ((((hSr.same s3).same s4).same (same_new ht)).updL (same_new ht _ _ e4)).snoc ?_
        show (upd (upd G4 t _) E _) t = _
        rw [upd_ne (fun z => by rw [z, e4] at ht; cases ht), upd_same]
        rfl
      · rw [List.map_append, hSm, take_snoc hd, List.map_append]
        rfl
    obtain ⟨s2, S, e, hSr, hSm⟩ := h
    rw [List.length_map, List.take_of_length_le (Nat.le_refl _)] at hSm
    have le : S.length ≤ 1000 := by
      rw [← List.length_map (f := (·.2)) (as := S), hSm, List.length_map]
      omega
    refine ⟨_, rfl, E, rfl, ⟨_, SqL.of e⟩, fun F nF => rows_lcA (f2 := iV) (fun x : Int × Int => decide (x.2 > 0)) id (jok_l (K := K) (SqL.of e)) hSr le nF (fun q hq G s hG Y N h1 h2 => ?_) (fun G T s hG hT hTm => ?_)⟩
    · exact ⟨q.1, _, rfl, SqT.of hG, rfl, _, _, rfl, _, _, rfl, rfl, rfl, _, rfl, _, _, rfl, rfl, _, rfl, ite2 (fun z => ⟨_, rfl, _, rfl, (by show 2 ≤ sizeLine; decide), fun t ht => h1 z t ht⟩) (fun z => h2 (by simpa using z))⟩
    · refine q G F T ns (none_of (s1.trans s2) nF) ((s1.trans s2).trans s) hG hT lasts ?_ ?_
      · rw [hTm, hSm, List.map_id]
        rfl
      · rw [← List.length_map (f := (·.2)) (as := T), hTm, List.length_map]
        refine Nat.le_trans (List.length_filter_le _ _) ?_
        rw [List.length_map]
        exact le
/-! ### can_pay -/
abbrev s_can_pay : Stmt := topS 1
abbrev N_can_pay : List Str := ["wants", "incomes", "names", "want"]
theorem sc_can_pay : FnScope N_can_pay ["wants", "incomes", "names"] (defScope s_can_pay) := ⟨rfl, rfl, rfl, by decide +kernel, rfl, by decide +kernel, by decide +kernel⟩
def selF (nm : List Str) (ws : List Wt) : List Wt := ws.filter fun w => decide (w.n ∈ nm)
theorem in_strs (s : Str) (nm : List Str) : inV (.str s) (nm.map V.str) = decide (s ∈ nm) := by
  unfold inV
  rw [List.any_map]
  induction nm with
  | nil => simp
  | cons x r ih =>
    rw [List.any_cons, ih]
    show ((x == s) || _) = _
    by_cases h : x = s
    · subst h
      simp
    · have e : (x == s) = false := by
        cases c : (x == s) with
        | false => rfl
        | true => exact absurd (eq_of_beq c) h
      rw [e]
      have h2 : s ≠ x := fun z => h z.symm
      simp [h2]
theorem flat_strs (nm : List Str) : (nm.map V.str).all flatV = true := by
  rw [List.all_map, List.all_eq_true]
  exact fun _ _ => rfl
def sp_can_pay (K : PySem.W.Frag) : Sp := fun vs H Q _ => ∃ (a c e : Addr) (L : List (Addr × Wt)) (M : List (Addr × (Int × Int))) (nm : List Str), vs = [.ref a, .ref c, .ref e] ∧ (SqL K H a (refs L) ∨ SqT K H a (refs L)) ∧ RowsAt wV H L ∧ L.length ≤ 1000 ∧ (SqL K H c (refs M) ∨ SqT K H c (refs M)) ∧ RowsAt iV H M ∧ M.length ≤ 1000 ∧ (SqL K H e (nm.map V.str) ∨ SqT K H e (nm.map V.str)) ∧
  ∀ H' ns, Same H H' → Lasts (selF nm (L.map (·.2))) ns → Q (.bl (decide (shortF (selF nm (L.map (·.2))) (M.map (·.2)) ns = []))) H'
theorem ok_can_pay {f : Addr} {fd : FuncData} (F : Fun K "can_pay" "can_pay" s_can_pay f fd) (g : mg "can_pay" = some (.ref f)) (bd : Binds K fd ["wants", "incomes", "names"] []) (C_short_of : CF P w K mg base 2 "short_of" ["wants", "incomes"] (sp_short_of K)) : CF P w K mg base 3 "can_pay" ["wants", "incomes", "names"] (sp_can_pay K) := by
  refine ⟨f, fd, F.ok sc_can_pay (fun vs H Q E h => ?_) (fun cdv A outer s H vs Q E hr h => ?_), g, F.kp, bd⟩
  · first | (obtain ⟨_, rfl, _⟩ := h; rfl) | (obtain ⟨_, _, rfl, _⟩ := h; rfl) | (obtain ⟨_, _, _, rfl, _⟩ := h; rfl) | (obtain ⟨_, _, _, _, rfl, _⟩ := h; rfl) | (obtain ⟨_, _, _, _, _, rfl, _⟩ := h; rfl) | (obtain ⟨_, _, _, _, _, _, rfl, _⟩ := h; rfl) | (obtain ⟨_, _, _, _, _, _, _, rfl, _⟩ := h; rfl) | (obtain ⟨_, _, _, _, _, _, _, _, rfl, _⟩ := h; rfl) | (obtain ⟨_, _, _, _, _, _, _, _, _, rfl, _⟩ := h; rfl) | (obtain ⟨_, _, _, _, _, _, _, _, _, _, rfl, _⟩ := h; rfl) | (obtain ⟨_, _, _, _, _, _, _, _, _, _, _, rfl, _⟩ := h; rfl) | (obtain ⟨_, _, _, _, _, _, _, _, _, _, _, _, rfl, _⟩ := h; rfl) | (obtain ⟨_, _, _, _, _, _, _, _, _, _, _, _, _, rfl, _⟩ := h; rfl) | (obtain ⟨_, _, _, _, _, _, _, _, _, _, _, _, _, _, rfl, _⟩ := h; rfl) | (obtain ⟨_, _, _, _, _, _, _, _, _, _, _, _, _, _, _, rfl, _⟩ := h; rfl)
  · have hu64 := hr.units
    obtain ⟨a, c, e, L, M, nm, rfl, hS, hR, small, hS2, hR2, small2, hN, q⟩ := h
    refine ⟨_, (pss_one (ps_ret (pe_cmpR (kk_eqD K hu64) (pe_cf C_short_of (hr.mono (by decide)) (by rfl) (pa_cons (pe_lc (own := [("want", 3)]) (g := (gName 3)) rfl sc_can_pay.nd (pi_or (pi_list (pv 0)) (pi_tup (pv 0))) (blkOk_by (own := [("want", 3)]) (N := N_can_pay) (sc := defScope s_can_pay) (by decide +kernel)) (fun _ _ _ _ _ => pg_name (i := 3) sc_can_pay.nd rfl (Or.inl rfl)) (fun _ _ _ _ _ => (pts_one (pt_cmpR (kk_in K) (pe_ix (kk_ixt K) (pv 3) pe_int (fun _ _ => rfl)) (pv 2) (by rfl)))) (fun _ _ _ _ _ => (pv 3))) (pa_cons (pv 1) pa_nil))) (pe_lst pa_nil) (nomark _)))), ?_⟩
    have HS2 := fun {X : Hp} (z : Same H X) => hS2.elim (fun h => Or.inl (z.seq h)) (fun h => Or.inr (seqT_same z h))
    have HN := fun {X : Hp} (z : Same H X) => hN.elim (fun h => Or.inl (z.seq h)) (fun h => Or.inr (seqT_same z h))
    refine walk_or rfl hS fun J ok D hD => rows_lc (fun w : Wt => decide (w.n ∈ nm)) (fun q => V.ref q.1) ok hR small hD (fun q hq G s hG Y N h1 h2 => ?_) (fun G s hG => ?_)
    · refine ⟨rfl, _, rfl, q.1, _, _, _, rfl, rfl, SqT.of hG, rfl, _, rfl, e, _, rfl, HN s, rfl, flat_strs nm, _, rfl, ?_⟩
      show if inV (.str q.2.n) (nm.map V.str) = true then _ else _
      rw [in_strs]
      exact ite2 (fun z => ⟨_, rfl, h1 z⟩) (fun z => h2 (by simpa using z))
    · have es : selF nm (L.map (·.2)) = (L.filter fun q => decide (q.2.n ∈ nm)).map (·.2) := (filt_map (p := fun w : Wt => decide (w.n ∈ nm)) L).symm
      rw [es] at q
      refine ⟨_, rfl, D, c, L.filter fun q => decide (q.2.n ∈ nm), M, rfl, .inl (SqL.of hG), (hR.same s).sub (fun x hx => (List.mem_filter.mp hx).1), Nat.le_trans (List.length_filter_le _ _) small, HS2 s, hR2.same s, small2, fun H1 E S ns nE s1 hE hSr lasts hSm _ => ?_⟩
      refine ⟨(by show 0 ≤ sizeLine; decide), fun z nz => ⟨_, _, pairs_dp (SqL.of (same_new nz _ _ hE)) (hSr.same (same_new nz)), .lst (SqL.of upd_same) .nil, sh_pairs _, sh_pairs [], ?_⟩⟩
      rw [eqv_nil, hSm]
      have e2 : decide ((shortF ((L.filter fun q => decide (q.2.n ∈ nm)).map (·.2)) (M.map (·.2)) ns).map prD2 = []) = decide (shortF ((L.filter fun q => decide (q.2.n ∈ nm)).map (·.2)) (M.map (·.2)) ns = []) := by
        rw [decide_eq_decide, List.map_eq_nil_iff]
      rw [e2]
      exact q _ ns ((s.trans s1).trans (same_new nz)) lasts
/-! ### _law_strewn -/
abbrev s__law_strewn : Stmt := topS 13
abbrev N__law_strewn : List Str := ["_law_left_here", "_law_some", "_law_rest", "_law_found"]
theorem sc__law_strewn : FnScope N__law_strewn ["_law_left_here", "_law_some"] (defScope s__law_strewn) := ⟨rfl, rfl, rfl, by decide +kernel, rfl, by decide +kernel, by decide +kernel⟩
theorem erase_map {α β : Type} (g : α → β) : ∀ (l : List α) (k : Nat), (l.map g).eraseIdx k = (l.eraseIdx k).map g
  | [], _ => rfl
  | x :: r, 0 => rfl
  | x :: r, k + 1 => by
    rw [List.map_cons, List.eraseIdx_cons_succ, List.eraseIdx_cons_succ, List.map_cons, erase_map g r k]
theorem dpAll_of {γ : Type} {fv : γ → V} {fd : γ → PyData} {K : PySem.W.Frag} {H : Hp} : ∀ {L : List γ}, (∀ q ∈ L, Dp K H (fv q) (fd q)) → DpAll K H (L.map fv) (L.map fd)
  | [], _ => .nil
  | q :: r, h => .cons (h q List.mem_cons_self) (dpAll_of fun x hx => h x (List.mem_cons_of_mem _ hx))
theorem lay_of {γ : Type} {fd : γ → PyData} : ∀ {L : List γ}, (∀ q ∈ L, PyData.canLay0 (fd q) = true ∧ PyData.depth (fd q) ≤ 60) → PyData.canLayAll0 (L.map fd) = true ∧ PyData.depthAll (L.map fd) ≤ 60
  | [], _ => by simp [PyData.canLayAll0, PyData.depthAll]
  | q :: r, h => by
    obtain ⟨a, b⟩ := h q List.mem_cons_self
    obtain ⟨c, d⟩ := lay_of (L := r) fun x hx => h x (List.mem_cons_of_mem _ hx)
    simp only [List.map_cons, PyData.canLayAll0, PyData.depthAll, a, c, Bool.and_self]
    exact ⟨trivial, by omega⟩
theorem sh_of {γ : Type} {fd : γ → PyData} {L : List γ} (h : ∀ q ∈ L, PyData.canLay0 (fd q) = true ∧ PyData.depth (fd q) ≤ 60) : SeqAt.shaped (.list (L.map fd)) = true := by
  obtain ⟨a, b⟩ := lay_of h
  show (PyData.canLay0 _ && decide (_ ≤ 64)) = true
  rw [Bool.and_eq_true]
  refine ⟨by simp only [PyData.canLay0]; exact a, decide_eq_true ?_⟩
  simp only [PyData.depth]
  omega
theorem seq_ix {r : Int} {n : Nat} (h0 : 0 ≤ r) (h1 : r < n) : seqIndex? r n = some r.toNat := by
  obtain ⟨j, rfl⟩ := Int.eq_ofNat_of_zero_le h0
  unfold seqIndex?
  simp
  omega
def sp__law_strewn (K : PySem.W.Frag) : Sp := fun vs H Q _ => ∃ (γ : Type) (fv : γ → V) (fd : γ → PyData) (b S : Addr) (n : Int) (L : List γ), vs = [.ref b, .ref S] ∧ Three H b n ∧ n < 1000000 ∧ SqL K H S (L.map fv) ∧ L.length ≤ 100 ∧ (∀ G, But b H G → ∀ q ∈ L, Dp K G (fv q) (fd q)) ∧ (∀ q ∈ L, PyData.canLay0 (fd q) = true ∧ PyData.depth (fd q) ≤ 60) ∧
  ∀ (H' : Hp) (R : Addr) (L' : List γ), Three H' b (n + L.length) → But b H H' → H R = none → R ≠ b → H' R = some (.lst (L'.map fv)) → L'.Perm L → Q (.ref R) H'
theorem ok__law_strewn {f : Addr} {fd : FuncData} (F : Fun K "_law_strewn" "_law_strewn" s__law_strewn f fd) (g : mg "_law_strewn" = some (.ref f)) (bd : Binds K fd ["_law_left_here", "_law_some"] []) (m_list : mg "list" = none) (m_len : mg "len" = none) (C__law_pick : CF P w K mg base 2 "_law_pick" ["_law_left_here", "_law_many"] (sp__law_pick K)) : CF P w K mg base 3 "_law_strewn" ["_law_left_here", "_law_some"] (sp__law_strewn K) := by
  refine ⟨f, fd, F.ok sc__law_strewn (fun vs H Q E h => ?_) (fun cdv A outer s H vs Q E hr h => ?_), g, F.kp, bd⟩
  · first | (obtain ⟨_, rfl, _⟩ := h; rfl) | (obtain ⟨_, _, rfl, _⟩ := h; rfl) | (obtain ⟨_, _, _, rfl, _⟩ := h; rfl) | (obtain ⟨_, _, _, _, rfl, _⟩ := h; rfl) | (obtain ⟨_, _, _, _, _, rfl, _⟩ := h; rfl) | (obtain ⟨_, _, _, _, _, _, rfl, _⟩ := h; rfl) | (obtain ⟨_, _, _, _, _, _, _, rfl, _⟩ := h; rfl) | (obtain ⟨_, _, _, _, _, _, _, _, rfl, _⟩ := h; rfl) | (obtain ⟨_, _, _, _, _, _, _, _, _, rfl, _⟩ := h; rfl) | (obtain ⟨_, _, _, _, _, _, _, _, _, _, rfl, _⟩ := h; rfl) | (obtain ⟨_, _, _, _, _, _, _, _, _, _, _, rfl, _⟩ := h; rfl) | (obtain ⟨_, _, _, _, _, _, _, _, _, _, _, _, rfl, _⟩ := h; rfl) | (obtain ⟨_, _, _, _, _, _, _, _, _, _, _, _, _, rfl, _⟩ := h; rfl) | (obtain ⟨_, _, _, _, _, _, _, _, _, _, _, _, _, _, rfl, _⟩ := h; rfl) | (obtain ⟨_, _, _, _, _, _, _, _, _, _, _, _, _, _, _, rfl, _⟩ := h; rfl)
  · have hu64 := hr.units
    obtain ⟨γ, fv, fd', b, S, n, L, rfl, hb, hn, hS, hl, hdp, hlay, q⟩ := h
    refine ⟨_, (pss_cons (ps_par (i := 2) (j := 3) (by rfl) sc__law_strewn.nd rfl rfl (by decide) rfl rfl (pa_cons (pe_callTy (kk_list K) (by rfl) m_list (by decide +kernel) (pa_cons (pv 1) pa_nil)) (pa_cons (pe_lst pa_nil) pa_nil)) (by rfl))
      (pss_cons (ps_while PassesOwn.never (pt_cmpR (kk_neD K hu64) (pv 2) (pe_lst pa_nil) (nomark _))
         (pss_one (ps_expr (pe_bm PySem.F.plainAttrs_list PySem.F.slot_list_append PySem.F.type_list_append mt_append (pv 3) (pa_cons (pe_bm PySem.F.plainAttrs_list PySem.F.slot_list_pop PySem.F.type_list_pop mt_popAt (pv 2) (pa_cons (pe_cf C__law_pick (hr.mono (by decide)) (by rfl) (pa_cons (pv 0) (pa_cons (pe_callB (kk_len K) (by rfl) m_len PySem.boot_len (pa_cons (pv 2) pa_nil)) pa_nil))) pa_nil)) pa_nil)))))
      (pss_one (ps_ret (pv 3))))), ?_⟩
    refine ⟨_, rfl, S, _, rfl, .inl hS, fun R nR => ⟨(by show 0 ≤ sizeLine; decide), fun D nD => ⟨_, _, rfl, ?_⟩⟩⟩
    have s1 := same_new (o := .lst (L.map fv)) nR
    have s2 := same_new (o := .lst []) nD
    have hR := s2 _ _ (upd_same (H := H) (a := R) (o := .lst (L.map fv)))
    have hD := upd_same (H := upd H R (.lst (L.map fv))) (a := D) (o := .lst [])
    have s12 := s1.trans s2
    have nRb : R ≠ b := hb.ne nR
    have nD0 : H D = none := none_of s1 nD
    have nDb : D ≠ b := hb.ne nD0
    have nDR : D ≠ R := (ne_of_none upd_same nD).symm
    have b2 := hb.same s12
    generalize upd (upd H R (.lst (L.map fv))) D (.lst []) = G at *
    refine ⟨fun m σ H2 => ∃ (Lr Lf : List γ), σ = [some (.ref b), some (.ref S), some (.ref R), some (.ref D)] ∧ H2 R = some (.lst (Lr.map fv)) ∧ H2 D = some (.lst (Lf.map fv)) ∧ (Lf ++ Lr).Perm L ∧ m = Lr.length ∧ Three H2 b (n + Lf.length) ∧ But b H H2, ⟨_, L, [], rfl, hR, hD, List.Perm.refl _, rfl, b2.mono (by simp), But.of s12⟩, fun m σ H2 h => ?_⟩
    obtain ⟨Lr, Lf, rfl, hR, hD, pm, rfl, b3, t3⟩ := h
    have lens : Lf.length + Lr.length = L.length := by rw [← pm.length_eq, List.length_append]
    have sub : ∀ x ∈ Lr, x ∈ L := fun x hx => pm.mem_iff.mp (List.mem_append_right _ hx)
    refine ⟨_, rfl, (by show 0 ≤ sizeLine; decide), fun z nz => ⟨_, _, .lst (SqL.of (same_new nz _ _ hR)) (dpAll_of fun x hx => hdp _ (t3.trans (But.new nz)) x (sub x hx)), .lst (SqL.of upd_same) .nil, sh_of fun x hx => hlay x (sub x hx), sh_pairs [], ?_⟩⟩
    rw [eqv_nil]
    have hR := same_new (o := .lst []) nz _ _ hR
    have hD := same_new (o := .lst []) nz _ _ hD
    have b3 := b3.same (same_new (o := .lst []) nz)
    have t3 := t3.trans (But.new (b := b) (o := .lst []) nz)
    generalize upd H2 z (.lst []) = G2 at *
    cases hlr : Lr with
    | nil =>
      subst hlr
      refine ⟨_, rfl, iteF ?_⟩
      rw [List.append_nil] at pm
      exact ⟨_, rfl, q _ D Lf (b3.mono (by rw [pm.length_eq]; omega)) t3 nD0 nDb hD pm⟩
    | cons y0 r0 =>
      have pos : 0 < Lr.length := by rw [hlr]; simp
      have e0 : (!decide ((y0 :: r0).map fd' = [])) = true := by simp
      rw [e0]
      rw [← hlr]
      refine ⟨_, rfl, iteT ⟨_, fun σ2 H3 h3 => ⟨Lr.length - 1, by omega, h3⟩, ?_⟩⟩
      have lm : (Lr.map fv).length = Lr.length := List.length_map ..
      refine ⟨_, rfl, .inl ⟨rfl, _, SqL.of hD⟩, _, rfl, .inl ⟨rfl, _, SqL.of hR⟩, _, rfl, _, rfl, R, _, rfl, .inl (SqL.of hR), b, _, _, rfl, b3, by rw [lm]; omega, by rw [lm]; omega, by omega, fun r H3 r0' r1' b4 t4 => ?_⟩
      rw [lm] at r1'
      have hk : r.toNat < Lr.length := by omega
      have hy := List.getElem?_eq_getElem hk
      have hR3 := t4 _ _ nRb hR
      have hD3 := t4 _ _ nDb hD
      refine ⟨R, _, r, r.toNat, fv Lr[r.toNat], rfl, rfl, hR3, by omega, by omega, by rw [lm]; exact seq_ix r0' r1', by rw [List.getElem?_map, hy]; rfl, ?_⟩
      have hD4 : (upd H3 R (.lst ((Lr.map fv).eraseIdx r.toNat))) D = some (.lst (Lf.map fv)) := by rw [upd_ne nDR]; exact hD3
      refine ⟨D, _, _, rfl, rfl, hD4, ?_, Lr.eraseIdx r.toNat, Lf ++ [Lr[r.toNat]], rfl, ?_, ?_, ?_, ?_, ?_, ?_⟩
      · rw [List.length_map]
        exact small1000 (by omega)
      · rw [upd_ne nDR.symm, upd_same, erase_map]
      · rw [upd_same, List.map_append]
        rfl
      · refine List.Perm.trans ?_ pm
        rw [List.append_assoc]
        exact List.Perm.append_left _ (erase_perm _ _ _ hy)
      · rw [List.length_eraseIdx_of_lt hk]
      · refine ((b4.upd nRb).upd nDb).mono ?_
        rw [List.length_append]
        show _ ≤ n + ((Lf.length + 1 : Nat) : Int)
        omega
      · exact updNew (updNew (t3.trans t4) nR) nD0
/-! ### _law_names -/
abbrev s__law_names : Stmt := topS 12
abbrev N__law_names : List Str := ["_law_left_here", "_law_many", "_law_letters", "_law_stem", "_law_k", "_law_at", "_law_first", "_law_found", "_law_sign"]
theorem sc__law_names : FnScope N__law_names ["_law_left_here", "_law_many"] (defScope s__law_names) := ⟨rfl, rfl, rfl, by decide +kernel, rfl, by decide +kernel, by decide +kernel⟩
def Nm (s : Str) : Prop := Asc s ∧ s.length ≤ 6
theorem low_at {r : Int} (h0 : 0 ≤ r) (h1 : r < 26) : ∃ c, atI (Str.ofString "abcdefghijklmnopqrstuvwxyz").cps.toList r = some c ∧ c < 128 := by
  obtain ⟨j, rfl⟩ := Int.eq_ofNat_of_zero_le h0
  have hl : (Str.ofString "abcdefghijklmnopqrstuvwxyz").cps.toList.length = 26 := by decide +kernel
  have hj : j < (Str.ofString "abcdefghijklmnopqrstuvwxyz").cps.toList.length := by omega
  exact ⟨_, atI_nat (List.getElem?_eq_getElem hj), (by decide +kernel : ∀ c ∈ (Str.ofString "abcdefghijklmnopqrstuvwxyz").cps.toList, c < 128) _ (List.getElem_mem hj)⟩
theorem join_signs (cs : List Nat) : TL.tl (Txt.join (Str.ofString "") (cs.map fun c => (⟨#[c]⟩ : Str))) = cs := by
  rw [TL.join_eq, TL.tl_join]
  induction cs with
  | nil => rfl
  | cons c r ih =>
    cases r with
    | nil => rfl
    | cons d r =>
      show [c] ++ (TL.tl (Str.ofString "") ++ TL.joinL (TL.tl (Str.ofString "")) (((d :: r).map fun c => (⟨#[c]⟩ : Str)).map TL.tl)) = c :: d :: r
      rw [ih]
      rfl
theorem sum_len1 : ∀ cs : List Nat, ((cs.map fun c => (⟨#[c]⟩ : Str)).map (·.length)).sum = cs.length
  | [] => rfl
  | c :: r => by
    rw [List.map_cons, List.map_cons, List.sum_cons, sum_len1 r, List.length_cons]
    show 1 + r.length = r.length + 1
    omega
theorem pick2s {r : Int} {x y : Str} (h0 : 0 ≤ r) (h1 : r < 2) : ∃ u : Str, atI [V.str x, .str y] r = some (.str u) ∧ (u = x ∨ u = y) := by
  have h : r = 0 ∨ r = 1 := by omega
  rcases h with rfl | rfl
  · exact ⟨x, rfl, .inl rfl⟩
  · exact ⟨y, rfl, .inr rfl⟩
/-! #### the names are unlike -/
def ltrs : List Nat := (Str.ofString "abcdefghijklmnopqrstuvwxyz").cps.toList
theorem ltr_inj {r r' : Int} {c : Nat} (h0 : 0 ≤ r) (h0' : 0 ≤ r') (h : atI ltrs r = some c) (h' : atI ltrs r' = some c) : r = r' := by
  obtain ⟨i, rfl⟩ := Int.eq_ofNat_of_zero_le h0
  obtain ⟨j, rfl⟩ := Int.eq_ofNat_of_zero_le h0'
  have key : ∀ k : Nat, atI ltrs (k : Int) = some c → ltrs[k]? = some c := fun k hk => by
    obtain ⟨m, hm, hc, hl, _, hu⟩ := atI_get hk
    have e := List.getElem?_eq_getElem (show k < ltrs.length by omega)
    rw [e, ← atI_nat e, hk]
  have e1 := key i h
  have e2 := key j h'
  have li : i < ltrs.length := (List.getElem?_eq_some_iff.mp e1).1
  have nd : ltrs.Nodup := by decide +kernel
  have := (List.getElem?_inj li nd).mp (e1.trans e2.symm)
  omega
theorem cut_sum {st : Str} {at_ : Int} (h0 : 0 ≤ at_) : (cutS st none (some at_)).length + (cutS st (some at_) none).length = st.length := by
  obtain ⟨k, rfl⟩ := Int.eq_ofNat_of_zero_le h0
  unfold cutS
  rw [HT.sIx_nat, HT.sIx_nat, HT.sIx_none, HT.sIx_none]
  show ((st.cps.toList.drop 0).take (min k st.length - 0)).toArray.size + ((st.cps.toList.drop (min k st.length)).take (st.length - min k st.length)).toArray.size = st.length
  have l : st.cps.toList.length = st.length := Array.length_toList
  rw [List.size_toArray, List.size_toArray, List.length_take, List.length_take, List.length_drop, List.length_drop, l]
  omega
def Sg (st : Str) (at_ fst : Int) (j : Nat) (s : Str) : Prop := ∃ c, atI ltrs ((fst + 7 * (0 + (j : Int))) % 26) = some c ∧ ((j % 2 = 0 ∧ s = cutS st none (some at_) ++ ⟨#[c]⟩ ++ cutS st (some at_) none) ∨ (j % 2 = 1 ∧ s = ⟨#[c]⟩))
theorem sg_inj {st : Str} {at_ fst : Int} {i j : Nat} {s : Str} (hs : 1 ≤ st.length) (h0 : 0 ≤ at_) (hi : i < 26) (hj : j < 26) (a : Sg st at_ fst i s) (b : Sg st at_ fst j s) : i = j := by
  obtain ⟨c, hc, a⟩ := a
  obtain ⟨d, hd, b⟩ := b
  have cs := cut_sum (st := st) h0
  have same : c = d → i = j := fun e => by
    subst e
    have := ltr_inj (Int.emod_nonneg _ (by decide)) (Int.emod_nonneg _ (by decide)) hc hd
    omega
  have l1 : ∀ c : Nat, (⟨#[c]⟩ : Str).length = 1 := fun _ => rfl
  have ll : ∀ c : Nat, (cutS st none (some at_) ++ (⟨#[c]⟩ : Str) ++ cutS st (some at_) none).length = st.length + 1 := fun c => by
    rw [len_app, len_app, l1]
    omega
  rcases a with ⟨_, rfl⟩ | ⟨_, rfl⟩ <;> rcases b with ⟨_, e⟩ | ⟨_, e⟩
  · have e' := congrArg TL.tl e
    rw [TL.tl_append, TL.tl_append, TL.tl_append, TL.tl_append, List.append_assoc, List.append_assoc] at e'
    exact same (List.cons.inj (List.append_cancel_left e')).1
  · have := congrArg Str.length e
    rw [ll, l1] at this
    omega
  · have := congrArg Str.length e
    rw [ll, l1] at this
    omega
  · have e' := congrArg TL.tl e
    exact same (List.cons.inj e').1
theorem sg_nodup {st : Str} {at_ fst : Int} {ss : List Str} (hs : 1 ≤ st.length) (h0 : 0 ≤ at_) (hl : ss.length ≤ 26) (h : ∀ j s, ss[j]? = some s → Sg st at_ fst j s) : ss.Nodup := by
  refine List.pairwise_iff_getElem.mpr fun i j hi hj hij e => ?_
  have a := h i _ (List.getElem?_eq_getElem hi)
  have b := h j _ (List.getElem?_eq_getElem hj)
  rw [e] at a
  have := sg_inj hs h0 (by omega) (by omega) a b
  omega
theorem pick2p {r : Int} {x y : Str} (h0 : 0 ≤ r) (h1 : r < 2) : ∃ u : Str, atI [V.str x, .str y] r = some (.str u) ∧ ((r = 0 ∧ u = x) ∨ (r = 1 ∧ u = y)) := by
  have h : r = 0 ∨ r = 1 := by omega
  rcases h with rfl | rfl
  · exact ⟨x, rfl, .inl ⟨rfl, rfl⟩⟩
  · exact ⟨y, rfl, .inr ⟨rfl, rfl⟩⟩
def sp__law_names (K : PySem.W.Frag) : Sp := fun vs H Q _ => ∃ (b : Addr) (many n : Int), vs = [.ref b, .int many] ∧ Three H b n ∧ n < 1000000 ∧ 0 ≤ many ∧ many ≤ 26 ∧ ∀ (H' : Hp) (D : Addr) (ss : List Str), Three H' b (n + 10) → But b H H' → H D = none → D ≠ b → H' D = some (.lst (ss.map V.str)) → (ss.length : Int) = many → (∀ s ∈ ss, Nm s) → ss.Nodup → Q (.ref D) H'
theorem ok__law_names {f : Addr} {fd : FuncData} (F : Fun K "_law_names" "_law_names" s__law_names f fd) (g : mg "_law_names" = some (.ref f)) (bd : Binds K fd ["_law_left_here", "_law_many"] []) (m_range : mg "range" = none) (m_len : mg "len" = none) (C__law_pick : CF P w K mg base 2 "_law_pick" ["_law_left_here", "_law_many"] (sp__law_pick K)) : CF P w K mg base 3 "_law_names" ["_law_left_here", "_law_many"] (sp__law_names K) := by
  refine ⟨f, fd, F.ok sc__law_names (fun vs H Q E h => ?_) (fun cdv A outer s H vs Q E hr h => ?_), g, F.kp, bd⟩
  · first | (obtain ⟨_, rfl, _⟩ := h; rfl) | (obtain ⟨_, _, rfl, _⟩ := h; rfl) | (obtain ⟨_, _, _, rfl, _⟩ := h; rfl) | (obtain ⟨_, _, _, _, rfl, _⟩ := h; rfl) | (obtain ⟨_, _, _, _, _, rfl, _⟩ := h; rfl) | (obtain ⟨_, _, _, _, _, _, rfl, _⟩ := h; rfl) | (obtain ⟨_, _, _, _, _, _, _, rfl, _⟩ := h; rfl) | (obtain ⟨_, _, _, _, _, _, _, _, rfl, _⟩ := h; rfl) | (obtain ⟨_, _, _, _, _, _, _, _, _, rfl, _⟩ := h; rfl) | (obtain ⟨_, _, _, _, _, _, _, _, _, _, rfl, _⟩ := h; rfl) | (obtain ⟨_, _, _, _, _, _, _, _, _, _, _, rfl, _⟩ := h; rfl) | (obtain ⟨_, _, _, _, _, _, _, _, _, _, _, _, rfl, _⟩ := h; rfl) | (obtain ⟨_, _, _, _, _, _, _, _, _, _, _, _, _, rfl, _⟩ := h; rfl) | (obtain ⟨_, _, _, _, _, _, _, _, _, _, _, _, _, _, rfl, _⟩ := h; rfl) | (obtain ⟨_, _, _, _, _, _, _, _, _, _, _, _, _, _, _, rfl, _⟩ := h; rfl)
  · have hu64 := hr.units
    obtain ⟨b, many, n, rfl, hb, hn, m0, m1, q⟩ := h
    refine ⟨_, (pss_cons (ps_set (i := 2) sc__law_names.nd rfl (.inr rfl) pe_str)
      (pss_cons (ps_set (i := 3) sc__law_names.nd rfl (.inl rfl) (pe_join pe_str (pe_lc (own := [("_law_k", 4)]) (g := (gName 4)) (tt := tYes) rfl sc__law_names.nd (pi_range1 (by rfl) m_range (pa_cons (pe_op op_add pe_int (pe_cf C__law_pick (hr.mono (by decide)) (by rfl) (pa_cons (pv 0) (pa_cons pe_int pa_nil)))) pa_nil)) (blkOk_by (own := [("_law_k", 4)]) (N := N__law_names) (sc := defScope s__law_names) (by decide +kernel)) (fun _ _ _ _ _ => pg_name (i := 4) sc__law_names.nd rfl (Or.inl rfl)) (fun _ _ _ _ _ => pts_nil) (fun _ _ _ _ _ => (pe_ix ix_str (pv 2) (pe_cf C__law_pick (hr.mono (by decide)) (by rfl) (pa_cons (pv 0) (pa_cons pe_int pa_nil))) (fun _ _ => rfl))))))
      (pss_cons (ps_par3 (i := 5) (j := 6) (l := 7) (by rfl) sc__law_names.nd rfl rfl rfl (by decide) (by decide) (by decide) rfl rfl rfl (pa_cons (pe_cf C__law_pick (hr.mono (by decide)) (by rfl) (pa_cons (pv 0) (pa_cons (pe_op op_add (pe_callB call_len_str (by rfl) m_len PySem.boot_len (pa_cons (pv 3) pa_nil)) pe_int) pa_nil))) (pa_cons (pe_cf C__law_pick (hr.mono (by decide)) (by rfl) (pa_cons (pv 0) (pa_cons pe_int pa_nil))) (pa_cons (pe_lst pa_nil) pa_nil))) (by rfl))
      (pss_cons (ps_for PassesOwn.never rfl (pi_range1 (by rfl) m_range (pa_cons (pv 1) pa_nil)) (pg_name (i := 4) sc__law_names.nd rfl (.inl rfl))
         (pss_cons (ps_set (i := 8) sc__law_names.nd rfl (.inl rfl) (pe_ix ix_str (pv 2) (pe_op op_mod (pe_op op_add (pv 6) (pe_op op_mul pe_int (pv 4))) pe_int) (fun _ _ => rfl)))
          (pss_one (ps_expr (pe_bm PySem.F.plainAttrs_list PySem.F.slot_list_append PySem.F.type_list_append mt_append (pv 7) (pa_cons (pe_ix (kk_ixl K) (pe_lst (pa_cons (pe_op op_add_str (pe_op op_add_str (pe_slice sl_str (pv 3) po_none (po_some (pv 5))) (pv 8)) (pe_slice sl_str (pv 3) (po_some (pv 5)) po_none)) (pa_cons (pv 8) pa_nil))) (pe_op op_mod (pv 4) pe_int) (fun _ _ => rfl)) pa_nil))))))
      (pss_one (ps_ret (pv 7))))))), ?_⟩
    refine ⟨⟨_, rfl⟩, _, rfl, b, 5, _, rfl, hb, by decide, by decide, by omega, fun r1 H1 r10 r11 b1 t1 => ⟨_, _, rfl, rfl, _, rfl, by omega, by omega, fun D hD => lc_range (lo := 0) (n := (1 + r1).toNat) (fun i H' => But b H1 H' ∧ Three H' b (n + 1 + i) ∧ ∃ cs : List Nat, cs.length = i ∧ (∀ c ∈ cs, c < 128) ∧ H' D = some (.lst ((cs.map fun c => (⟨#[c]⟩ : Str)).map V.str))) ⟨But.new hD, (b1.mono (by omega)).new hD, [], rfl, fun _ h => (nomatch h), upd_same⟩ (fun i H' hi h => ?_) (fun H2 h => ?_)⟩⟩
    · obtain ⟨t4, b4, cs, hcs, hlow, hDl⟩ := h
      have hDb : D ≠ b := b1.ne hD
      refine ⟨rfl, _, rfl, _, rfl, b, 26, _, rfl, b4, by decide, by decide, by omega, fun r' H5 r0' r1' b5 t5 => ?_⟩
      obtain ⟨c, hc, hcl⟩ := low_at r0' r1'
      refine ⟨_, _, c, rfl, rfl, by decide +kernel, hc, _, t5 _ _ hDb hDl, ?_, updNew (t4.trans t5) hD, ((b5.mono (by omega)).upd hDb), cs ++ [c], ?_, ?_, ?_⟩
      · rw [List.length_map, List.length_map, hcs]
        exact small1000 (by omega)
      · rw [List.length_append, hcs]
        rfl
      · intro d hd
        rcases List.mem_append.mp hd with h | h
        · exact hlow d h
        · rw [List.mem_singleton.mp h]
          exact hcl
      · rw [upd_same, List.map_append, List.map_append]
        rfl
    obtain ⟨t2, b2, cs, hcs, hlow, hDl⟩ := h
    refine ⟨_, D, _, rfl, rfl, .inl (SqL.of hDl), ?_, ?_⟩
    · rw [sum_len1, List.length_map]
      show cs.length + cs.length * 0 ≤ 16777216
      omega
    have htl := join_signs cs
    have aS : Asc (Txt.join (Str.ofString "") (cs.map fun c => (⟨#[c]⟩ : Str))) := fun c hc => hlow c (by rw [← htl]; exact hc)
    have lS : (Txt.join (Str.ofString "") (cs.map fun c => (⟨#[c]⟩ : Str))).length ≤ 5 := by rw [TL.len_tl, htl, hcs]; omega
    have l0S : 1 ≤ (Txt.join (Str.ofString "") (cs.map fun c => (⟨#[c]⟩ : Str))).length := by rw [TL.len_tl, htl, hcs]; omega
    generalize Txt.join (Str.ofString "") (cs.map fun c => (⟨#[c]⟩ : Str)) = st at *
    have fit : ∀ {k : Nat}, k ≤ 1000 → k ≤ sizeLine := fun h => size_small h
    refine ⟨_, rfl, _, rfl, _, rfl, fit (by omega), _, _, rfl, rfl, b, _, _, rfl, b2, by omega, by omega, by omega, fun at_ H3 at0 at1 b3 t3 => ?_⟩
    refine ⟨_, rfl, b, 26, _, rfl, b3, by decide, by decide, by omega, fun fst H4 f0 f1 b4 t4 => ⟨(by show 0 ≤ sizeLine; decide), fun F nF => ⟨_, _, _, rfl, ?_⟩⟩⟩
    have T4 := ((t1.trans t2).trans t3).trans t4
    have nFb := b4.ne nF
    have nF0 : H F = none := by
      cases e : H F with
      | none => rfl
      | some o =>
        rw [T4 _ _ nFb e] at nF
        cases nF
    have sF := same_new (o := .lst []) nF
    refine ⟨_, rfl, _, rfl, by omega, by omega, for_range (fun i σ H' => ∃ (ss : List Str) (s4 s8 : Option V), σ = [some (.ref b), some (.int many), some (.str (Str.ofString "abcdefghijklmnopqrstuvwxyz")), some (.str st), s4, some (.int at_), some (.int fst), some (.ref F), s8] ∧ ss.length = i ∧ ((∀ s ∈ ss, Nm s) ∧ ∀ j s, ss[j]? = some s → Sg st at_ fst j s) ∧ H' F = some (.lst (ss.map V.str)) ∧ Three H' b (n + 10) ∧ But b H H') ⟨[], _, _, rfl, rfl, ⟨fun _ h => (nomatch h), fun j s h => by cases j <;> cases h⟩, upd_same, (b4.same sF).mono (by omega), T4.trans (But.of sF)⟩ (fun i σ H' hi h => ?_) (fun σ H' h => ?_)⟩
    · obtain ⟨ss, s4, s8, rfl, hss, ⟨hok, hsg⟩, hF, bX, tX⟩ := h
      have o0 := Int.emod_nonneg (fst + 7 * (0 + (i : Int))) (show (26 : Int) ≠ 0 by decide)
      have o1 := Int.emod_lt_of_pos (fst + 7 * (0 + (i : Int))) (show (0 : Int) < 26 by decide)
      obtain ⟨c, hc, hcl⟩ := low_at o0 o1
      refine ⟨_, rfl, _, rfl, _, rfl, _, _, rfl, rfl, .inl ⟨by decide, by decide⟩, _, _, rfl, rfl, _, _, rfl, rfl, (by show (0 : Int) < 26; decide), _, _, c, rfl, rfl, by decide +kernel, hc, ?_⟩
      have lA := cutS_length st none (some at_)
      have lB := cutS_length st (some at_) none
      have lAB := cut_sum (st := st) at0
      have aA : Asc (cutS st none (some at_)) := aS.cut
      have aB : Asc (cutS st (some at_) none) := aS.cut
      have aC : Asc ⟨#[c]⟩ := .one hcl
      have lC : (⟨#[c]⟩ : Str).length = 1 := rfl
      have l1 := len_app (cutS st none (some at_)) ⟨#[c]⟩
      have l2 := len_app (cutS st none (some at_) ++ ⟨#[c]⟩) (cutS st (some at_) none)
      have p0 := Int.emod_nonneg (0 + (i : Int)) (show (2 : Int) ≠ 0 by decide)
      have p1 := Int.emod_lt_of_pos (0 + (i : Int)) (show (0 : Int) < 2 by decide)
      have hcL : atI ltrs ((fst + 7 * (0 + (i : Int))) % 26) = some c := hc
      obtain ⟨u, hu, huc⟩ := pick2p (x := cutS st none (some at_) ++ ⟨#[c]⟩ ++ cutS st (some at_) none) (y := ⟨#[c]⟩) p0 p1
      refine ⟨_, rfl, .inl ⟨rfl, _, SqL.of hF⟩, _, rfl, _, rfl, _, rfl, _, rfl, fit (by omega), _, rfl, _, _, rfl, rfl, fit (by omega), _, rfl, _, rfl, _, rfl, _, rfl, fit (by omega), _, _, rfl, rfl, fit (by omega), _, rfl, (by show 2 ≤ sizeLine; decide), fun l nl => ?_⟩
      have sl := same_new (o := .lst [.str (cutS st none (some at_) ++ ⟨#[c]⟩ ++ cutS st (some at_) none), .str ⟨#[c]⟩]) nl
      refine ⟨_, rfl, _, _, rfl, rfl, (by show (0 : Int) < 2; decide), l, _, _, _, rfl, rfl, SqL.of upd_same, hu, F, _, _, rfl, rfl, sl _ _ hF, ?_, ss ++ [u], _, _, rfl, ?_, ⟨?_, ?_⟩, ?_, (bX.same sl).upd nFb, updNew (tX.trans (But.of sl)) nF0⟩
      · rw [List.length_map, hss]
        exact small1000 (by omega)
      · rw [List.length_append, hss]
        rfl
      · intro s hs
        rcases List.mem_append.mp hs with h | h
        · exact hok s h
        · rw [List.mem_singleton.mp h]
          rcases huc with ⟨_, rfl⟩ | ⟨_, rfl⟩
          · exact ⟨(aA.app aC).app aB, by omega⟩
          · exact ⟨aC, by omega⟩
      · intro j s hj
        rcases Nat.lt_or_ge j ss.length with hl | hl
        · rw [List.getElem?_append_left hl] at hj
          exact hsg j s hj
        · rw [List.getElem?_append_right hl] at hj
          have ej : j = i := by
            have := (List.getElem?_eq_some_iff.mp hj).1
            rw [List.length_singleton] at this
            omega
          subst ej
          rw [hss, Nat.sub_self] at hj
          cases hj
          rcases huc with ⟨he, rfl⟩ | ⟨he, rfl⟩
          · exact ⟨c, hcL, .inl ⟨by omega, rfl⟩⟩
          · exact ⟨c, hcL, .inr ⟨by omega, rfl⟩⟩
      · rw [upd_same, List.map_append]
        rfl
    · obtain ⟨ss, s4, s8, rfl, hss, ⟨hok, hsg⟩, hF, bX, tX⟩ := h
      exact ⟨_, rfl, q _ F ss bX tX nF0 nFb hF (by omega) hok (sg_nodup l0S at0 (by omega) hsg)⟩
/-! ### _law_wants -/
abbrev s__law_wants : Stmt := topS 14
abbrev N__law_wants : List Str := ["_law_left_here", "_law_many", "_law_most", "_law_far", "_law_found", "_law_name"]
theorem sc__law_wants : FnScope N__law_wants ["_law_left_here", "_law_many"] (defScope s__law_wants) := ⟨rfl, rfl, rfl, by decide +kernel, rfl, by decide +kernel, by decide +kernel⟩
def WtOk (w : Wt) : Prop := Nm w.n ∧ 1 ≤ w.p ∧ w.p ≤ 1000000 ∧ 0 ≤ w.l ∧ w.l ≤ 900
theorem cut_take {xs : List V} {k : Nat} : cutV xs none (some (k : Int)) = xs.take k := by
  unfold cutV
  rw [HT.sIx_nat, HT.sIx_none]
  simp [List.take_eq_take_iff]
theorem strOk_asc {s : Str} (h : Asc s) : PyData.strOk s = true := by
  unfold PyData.strOk
  rw [← Array.all_toList, List.all_eq_true]
  exact fun c hc => decide_eq_true (Nat.lt_of_lt_of_le (h c hc) (by decide))
theorem pick4j {r x y z u lo hi : Int} (h0 : 0 ≤ r) (h1 : r < 4) (hx : lo ≤ x ∧ x ≤ hi) (hy : lo ≤ y ∧ y ≤ hi) (hz : lo ≤ z ∧ z ≤ hi) (hu : lo ≤ u ∧ u ≤ hi) : ∃ v : Int, atI [V.int x, .int y, .int z, .int u] r = some (.int v) ∧ lo ≤ v ∧ v ≤ hi := by
  have h : r = 0 ∨ r = 1 ∨ r = 2 ∨ r = 3 := by omega
  rcases h with rfl | rfl | rfl | rfl
  · exact ⟨x, rfl, hx⟩
  · exact ⟨y, rfl, hy⟩
  · exact ⟨z, rfl, hz⟩
  · exact ⟨u, rfl, hu⟩
theorem wt_lay (w : Wt) (h : Nm w.n) : PyData.canLay0 (wtD w) = true ∧ PyData.depth (wtD w) ≤ 60 := by
  have h2 : PyData.strOk w.n = true := strOk_asc h.1
  simp [wtD, PyData.canLay0, PyData.canLayAll0, PyData.depth, PyData.depthAll, h2]
def sp__law_wants (K : PySem.W.Frag) : Sp := fun vs H Q _ => ∃ (b : Addr) (many n : Int), vs = [.ref b, .int many] ∧ Three H b n ∧ n < 100000 ∧ 0 ≤ many ∧ many ≤ 24 ∧ ∀ (H' : Hp) (R : Addr) (W : List (Addr × Wt)), Three H' b (n + 100) → But b H H' → H R = none → R ≠ b → H' R = some (.lst (refs W)) → RowsAt wV H' W → W.length ≤ 24 → (∀ q ∈ W, WtOk q.2) → (W.length : Int) ≤ many → ((W.map (·.2)).map (·.n)).Nodup → Q (.ref R) H'
theorem ok__law_wants {f : Addr} {fd : FuncData} (F : Fun K "_law_wants" "_law_wants" s__law_wants f fd) (g : mg "_law_wants" = some (.ref f)) (bd : Binds K fd ["_law_left_here", "_law_many"] []) (C__law_pick : CF P w K mg base 2 "_law_pick" ["_law_left_here", "_law_many"] (sp__law_pick K)) (C__law_names : CF P w K mg base 3 "_law_names" ["_law_left_here", "_law_many"] (sp__law_names K)) (C__law_strewn : CF P w K mg base 3 "_law_strewn" ["_law_left_here", "_law_some"] (sp__law_strewn K)) : CF P w K mg base 4 "_law_wants" ["_law_left_here", "_law_many"] (sp__law_wants K) := by
  refine ⟨f, fd, F.ok sc__law_wants (fun vs H Q E h => ?_) (fun cdv A outer s H vs Q E hr h => ?_), g, F.kp, bd⟩
  · first | (obtain ⟨_, rfl, _⟩ := h; rfl) | (obtain ⟨_, _, rfl, _⟩ := h; rfl) | (obtain ⟨_, _, _, rfl, _⟩ := h; rfl) | (obtain ⟨_, _, _, _, rfl, _⟩ := h; rfl) | (obtain ⟨_, _, _, _, _, rfl, _⟩ := h; rfl) | (obtain ⟨_, _, _, _, _, _, rfl, _⟩ := h; rfl) | (obtain ⟨_, _, _, _, _, _, _, rfl, _⟩ := h; rfl) | (obtain ⟨_, _, _, _, _, _, _, _, rfl, _⟩ := h; rfl) | (obtain ⟨_, _, _, _, _, _, _, _, _, rfl, _⟩ := h; rfl) | (obtain ⟨_, _, _, _, _, _, _, _, _, _, rfl, _⟩ := h; rfl) | (obtain ⟨_, _, _, _, _, _, _, _, _, _, _, rfl, _⟩ := h; rfl) | (obtain ⟨_, _, _, _, _, _, _, _, _, _, _, _, rfl, _⟩ := h; rfl) | (obtain ⟨_, _, _, _, _, _, _, _, _, _, _, _, _, rfl, _⟩ := h; rfl) | (obtain ⟨_, _, _, _, _, _, _, _, _, _, _, _, _, _, rfl, _⟩ := h; rfl) | (obtain ⟨_, _, _, _, _, _, _, _, _, _, _, _, _, _, _, rfl, _⟩ := h; rfl)
  · have hu64 := hr.units
    obtain ⟨b, many, n, rfl, hb, hn, m0, m1, q⟩ := h
    refine ⟨_, (pss_cons (ps_par3 (i := 2) (j := 3) (l := 4) (by rfl) sc__law_wants.nd rfl rfl rfl (by decide) (by decide) (by decide) rfl rfl rfl (pa_cons (pe_ix (kk_ixl K) (pe_lst (pa_cons pe_int (pa_cons pe_int (pa_cons (pe_op op_pow pe_int pe_int) pa_nil)))) (pe_cf C__law_pick (hr.mono (by decide)) (by rfl) (pa_cons (pv 0) (pa_cons pe_int pa_nil))) (fun _ _ => rfl)) (pa_cons (pe_ix (kk_ixl K) (pe_lst (pa_cons pe_int (pa_cons pe_int (pa_cons pe_int (pa_cons pe_int pa_nil))))) (pe_cf C__law_pick (hr.mono (by decide)) (by rfl) (pa_cons (pv 0) (pa_cons pe_int pa_nil))) (fun _ _ => rfl)) (pa_cons (pe_lst pa_nil) pa_nil))) (by rfl))
      (pss_cons (ps_for PassesOwn.never rfl (pi_list (pe_slice (kk_sll K) (pe_cf C__law_names (hr.mono (by decide)) (by rfl) (pa_cons (pv 0) (pa_cons pe_int pa_nil))) po_none (po_some (pv 1)))) (pg_name (i := 5) sc__law_wants.nd rfl (.inl rfl))
         (pss_one (ps_expr (pe_bm PySem.F.plainAttrs_list PySem.F.slot_list_append PySem.F.type_list_append mt_append (pv 4) (pa_cons (pe_tup (pa_cons (pv 5) (pa_cons (pe_op op_add pe_int (pe_cf C__law_pick (hr.mono (by decide)) (by rfl) (pa_cons (pv 0) (pa_cons (pv 2) pa_nil)))) (pa_cons (pe_cf C__law_pick (hr.mono (by decide)) (by rfl) (pa_cons (pv 0) (pa_cons (pv 3) pa_nil))) pa_nil)))) pa_nil)))))
      (pss_one (ps_ret (pe_cf C__law_strewn (hr.mono (by decide)) (by rfl) (pa_cons (pv 0) (pa_cons (pv 4) pa_nil))))))), ?_⟩
    refine ⟨_, _, rfl, rfl, ⟨by decide, by decide, by decide⟩, (by show 3 ≤ sizeLine; decide), fun l1 n1 => ?_⟩
    refine ⟨_, rfl, b, 3, _, rfl, hb.new n1, by decide, by decide, by omega, fun r1 H1 r10 r11 b1 t1 => ?_⟩
    obtain ⟨most, hmost, ms0, ms1⟩ := pick3j (lo := 3) (hi := 1000000) (x := 3) (y := 20) (z := 10 ^ (6 : Int).toNat) r10 r11 (by omega) (by omega) (by show (3 : Int) ≤ 1000000 ∧ (1000000 : Int) ≤ 1000000; omega)
    refine ⟨l1, _, _, _, rfl, rfl, SqL.of (t1 _ _ (hb.ne n1) upd_same), hmost, (by show 4 ≤ sizeLine; decide), fun l2 n2 => ?_⟩
    refine ⟨_, rfl, b, 4, _, rfl, b1.new n2, by decide, by decide, by omega, fun r2 H2 r20 r21 b2 t2 => ?_⟩
    obtain ⟨far, hfar, fr0, fr1⟩ := pick4j (lo := 3) (hi := 900) (x := 3) (y := 12) (z := 400) (u := 900) r20 r21 (by omega) (by omega) (by omega) (by omega)
    refine ⟨l2, _, _, _, rfl, rfl, SqL.of (t2 _ _ (b1.ne n2) upd_same), hfar, (by show 0 ≤ sizeLine; decide), fun F nF => ⟨_, _, _, rfl, ?_⟩⟩
    have T2 := ((But.new (b := b) (o := .lst [.int 3, .int 20, .int (10 ^ (6 : Int).toNat)]) n1).trans t1).trans ((But.new (b := b) (o := .lst [.int 3, .int 12, .int 400, .int 900]) n2).trans t2)
    have nFb := b2.ne nF
    have nF0 : H F = none := by
      cases e : H F with
      | none => rfl
      | some o =>
        rw [T2 _ _ nFb e] at nF
        cases nF
    have sF := same_new (o := .lst []) nF
    have b3 := b2.same sF
    have T3 := T2.trans (But.of (b := b) sF)
    have hF := upd_same (H := H2) (a := F) (o := .lst [])
    generalize upd H2 F (.lst []) = G2 at *
    refine ⟨_, rfl, b, 24, _, rfl, b3, by omega, by decide, by decide, fun H4 D ss b4 t4 nD nDb hD hss hok hnd => ?_⟩
    have hF4 := t4 _ _ nFb hF
    have T4 := T3.trans t4
    refine ⟨_, rfl, _, rfl, D, _, rfl, SqL.of hD, fun E nE => ?_⟩
    obtain ⟨mn, rfl⟩ := Int.eq_ofNat_of_zero_le m0
    rw [cut_take, ← List.map_take]
    have okE : ∀ s ∈ ss.take mn, Nm s := fun s hs => hok s (List.mem_of_mem_take hs)
    have lenM : (ss.take mn).length ≤ mn := by rw [List.length_take]; omega
    have ndE : (ss.take mn).Nodup := hnd.sublist (List.take_sublist _ _)
    have lenE : (ss.take mn).length ≤ 24 := by rw [List.length_take]; omega
    generalize ss.take mn = sE at *
    have sE' := same_new (o := .lst (sE.map V.str)) nE
    have hE := upd_same (H := H4) (a := E) (o := .lst (sE.map V.str))
    have hF5 := sE' _ _ hF4
    have b5 := b4.same sE'
    have T5 := T4.trans (But.of (b := b) sE')
    have nEb := b4.ne nE
    have nEF : E ≠ F := (ne_of_none hF4 nE).symm
    generalize upd H4 E (.lst (sE.map V.str)) = G4 at *
    refine ⟨E, rfl, ⟨_, SqL.of hE⟩, for_list (K := K) (a := E) (xs := sE.map V.str) (fun i σ H' => ∃ (W : List (Addr × Wt)) (s5 : Option V), σ = [some (.ref b), some (.int mn), some (.int most), some (.int far), some (.ref F), s5] ∧ W.length = i ∧ H' F = some (.lst (refs W)) ∧ RowsAt wV H' W ∧ ((∀ q ∈ W, WtOk q.2) ∧ (W.map (·.2)).map (·.n) = sE.take i) ∧ H' E = some (.lst (sE.map V.str)) ∧ Three H' b (n + 20 + 2 * i) ∧ But b H H') ⟨[], _, rfl, rfl, hF5, .nil, ⟨fun _ h => (nomatch h), rfl⟩, hE, b5.mono (by omega), T5⟩ (fun i σ H' _ h => by obtain ⟨_, _, _, _, _, _, _, h, _⟩ := h; exact SqL.of h) (fun i x σ H' hx h => ?_) (fun σ H' h => ?_)⟩
    · obtain ⟨W, s5, rfl, hW, hFX, hRX, ⟨hokX, hnX⟩, hEX, bX, tX⟩ := h
      rw [List.getElem?_map] at hx
      obtain ⟨nm, hnm, rfl⟩ := Option.map_eq_some_iff.mp hx
      have hi : i < sE.length := (List.getElem?_eq_some_iff.mp hnm).1
      obtain ⟨_, _, _, hbX, _⟩ := id bX
      refine ⟨_, rfl, .inl ⟨rfl, _, SqL.of hFX⟩, _, rfl, _, rfl, _, rfl, b, most, _, rfl, bX, by omega, by omega, by omega, fun x1 J1 x10 x11 c1 u1 => ⟨_, _, rfl, rfl, ?_⟩⟩
      obtain ⟨_, _, _, hc1, _⟩ := id c1
      refine ⟨_, rfl, _, rfl, b, far, _, rfl, c1, by omega, by omega, by omega, fun x2 J2 x20 x21 c2 u2 => ⟨(by show 3 ≤ sizeLine; decide), fun t nt => ?_⟩⟩
      have hF6 := same_new (o := .tup [.str nm, .int (1 + x1), .int x2]) nt _ _ (u2 _ _ nFb (u1 _ _ nFb hFX))
      have hE6 := same_new (o := .tup [.str nm, .int (1 + x1), .int x2]) nt _ _ (u2 _ _ nEb (u1 _ _ nEb hEX))
      have hR6 := ((hRX.but hbX u1).but hc1 u2).same (same_new (o := .tup [.str nm, .int (1 + x1), .int x2]) nt)
      have ht6 := upd_same (H := J2) (a := t) (o := .tup [.str nm, .int (1 + x1), .int x2])
      refine ⟨F, _, _, rfl, rfl, hF6, ?_, W ++ [(t, ⟨nm, 1 + x1, x2⟩)], _, rfl, ?_, ?_, ?_, ⟨?_, ?_⟩, ?_, ((c2.new nt).mono (by omega)).upd nFb, updNew (((tX.trans u1).trans u2).trans (But.new nt)) nF0⟩
      · rw [List.length_map]
        exact small1000 (by omega)
      · rw [List.length_append, hW]
        rfl
      · rw [upd_same, refs_snoc]
      · refine (hR6.updL hF6).snoc ?_
        show (upd _ F _) t = _
        rw [upd_ne (ne_of ht6 hF6 (by intro z; cases z))]
        exact ht6
      · intro q' hq'
        rcases List.mem_append.mp hq' with h | h
        · exact hokX q' h
        · rw [List.mem_singleton.mp h]
          exact ⟨okE nm (List.mem_of_getElem? hnm), by show 1 ≤ 1 + x1; omega, by show 1 + x1 ≤ 1000000; omega, x20, by show x2 ≤ 900; omega⟩
      · rw [List.map_append, List.map_append, hnX, take_snoc hnm]
        rfl
      · rw [upd_ne nEF]
        exact hE6
    · obtain ⟨W, s5, rfl, hW, hFX, hRX, ⟨hokX, hnX⟩, hEX, bX, tX⟩ := h
      rw [List.length_map] at hW bX
      obtain ⟨_, _, _, hbX, _⟩ := id bX
      refine ⟨_, rfl, _, rfl, Addr × Wt, (fun q => .ref q.1), (fun q => wtD q.2), b, F, _, W, rfl, bX, by omega, SqL.of hFX, by omega, fun G t x hx => wV_dp _ _ (SqT.of ((hRX.but hbX t) x hx)), fun x hx => wt_lay x.2 (hokX x hx).1, fun H7 R W' b7 t7 nR nRb hR pm => ?_⟩
      refine q _ R W' (b7.mono (by omega)) (tX.trans t7) ?_ nRb hR ((hRX.but hbX t7).sub fun x hx => pm.mem_iff.mp hx) (by rw [pm.length_eq]; omega) (fun x hx => hokX x (pm.mem_iff.mp hx)) (by rw [pm.length_eq]; omega) ?_
      · cases e : H R with
        | none => rfl
        | some o =>
          rw [tX _ _ nRb e] at nR
          cases nR
      · refine ((pm.map _).map _).nodup_iff.mpr ?_
        rw [hnX, List.length_map, List.take_length]
        exact ndE
/-! ### _law_incomes -/
abbrev s__law_incomes : Stmt := topS 15
abbrev N__law_incomes : List Str := ["_law_left_here", "_law_wants_here", "_law_many", "_law_whole", "_law_far", "_law_want", "_law_found", "_law_turn"]
theorem sc__law_incomes : FnScope N__law_incomes ["_law_left_here", "_law_wants_here", "_law_many"] (defScope s__law_incomes) := ⟨rfl, rfl, rfl, by decide +kernel, rfl, by decide +kernel, by decide +kernel⟩
def InOk (i : Int × Int) : Prop := 0 ≤ i.1 ∧ i.1 ≤ 400 ∧ 0 ≤ i.2 ∧ i.2 ≤ 1000000000
theorem sum_bnd {B : Int} : ∀ {l : List Int}, (∀ x ∈ l, 0 ≤ x ∧ x ≤ B) → 0 ≤ l.sum ∧ l.sum ≤ B * l.length
  | [], _ => by simp
  | x :: r, h => by
    obtain ⟨a, b⟩ := h x List.mem_cons_self
    obtain ⟨c, d⟩ := sum_bnd (l := r) fun y hy => h y (List.mem_cons_of_mem _ hy)
    rw [List.sum_cons, List.length_cons]
    have e : B * ((r.length + 1 : Nat) : Int) = B * r.length + B := by rw [Int.natCast_add, Int.mul_add]; simp
    rw [e]
    omega
theorem rep_b (b : Bool) (x : V) : (List.replicate (if b = true then (1 : Int) else 0).toNat [x]).flatten = if b = true then [x] else [] := by cases b <;> rfl
theorem in_lay (i : Int × Int) : PyData.canLay0 (prD2 i) = true ∧ PyData.depth (prD2 i) ≤ 60 := by
  simp [prD2, PyData.canLay0, PyData.canLayAll0, PyData.depth, PyData.depthAll]
def In2 (i : Int × Int) : Prop := InOk i ∧ i.2 ≤ 10000000
def sp__law_incomes (K : PySem.W.Frag) : Sp := fun vs H Q _ => ∃ (b a : Addr) (many n : Int) (W : List (Addr × Wt)), vs = [.ref b, .ref a, .int many] ∧ Three H b n ∧ n < 100000 ∧ H a = some (.lst (refs W)) ∧ a ≠ b ∧ RowsAt wV H W ∧ W.length ≤ 10 ∧ (∀ q ∈ W, WtOk q.2) ∧ (∀ q ∈ W, q.2.p ≤ 300000) ∧ 0 ≤ many ∧ many ≤ 8 ∧ ∀ (H' : Hp) (R : Addr) (M : List (Addr × (Int × Int))), Three H' b (n + 200) → But b H H' → H R = none → R ≠ b → H' R = some (.lst (refs M)) → RowsAt iV H' M → M.length ≤ 9 → (∀ q ∈ M, In2 q.2) → Q (.ref R) H'
theorem ok__law_incomes {f : Addr} {fd : FuncData} (F : Fun K "_law_incomes" "_law_incomes" s__law_incomes f fd) (g : mg "_law_incomes" = some (.ref f)) (bd : Binds K fd ["_law_left_here", "_law_wants_here", "_law_many"] []) (m_sum : mg "sum" = none) (m_int : mg "int" = none) (m_range : mg "range" = none) (m_len : mg "len" = none) (m_min : mg "min" = none) (m_max : mg "max" = none) (C__law_pick : CF P w K mg base 2 "_law_pick" ["_law_left_here", "_law_many"] (sp__law_pick K)) (C__law_strewn : CF P w K mg base 3 "_law_strewn" ["_law_left_here", "_law_some"] (sp__law_strewn K)) : CF P w K mg base 4 "_law_incomes" ["_law_left_here", "_law_wants_here", "_law_many"] (sp__law_incomes K) := by
  refine ⟨f, fd, F.ok sc__law_incomes (fun vs H Q E h => ?_) (fun cdv A outer s H vs Q E hr h => ?_), g, F.kp, bd⟩
  · first | (obtain ⟨_, rfl, _⟩ := h; rfl) | (obtain ⟨_, _, rfl, _⟩ := h; rfl) | (obtain ⟨_, _, _, rfl, _⟩ := h; rfl) | (obtain ⟨_, _, _, _, rfl, _⟩ := h; rfl) | (obtain ⟨_, _, _, _, _, rfl, _⟩ := h; rfl) | (obtain ⟨_, _, _, _, _, _, rfl, _⟩ := h; rfl) | (obtain ⟨_, _, _, _, _, _, _, rfl, _⟩ := h; rfl) | (obtain ⟨_, _, _, _, _, _, _, _, rfl, _⟩ := h; rfl) | (obtain ⟨_, _, _, _, _, _, _, _, _, rfl, _⟩ := h; rfl) | (obtain ⟨_, _, _, _, _, _, _, _, _, _, rfl, _⟩ := h; rfl) | (obtain ⟨_, _, _, _, _, _, _, _, _, _, _, rfl, _⟩ := h; rfl) | (obtain ⟨_, _, _, _, _, _, _, _, _, _, _, _, rfl, _⟩ := h; rfl) | (obtain ⟨_, _, _, _, _, _, _, _, _, _, _, _, _, rfl, _⟩ := h; rfl) | (obtain ⟨_, _, _, _, _, _, _, _, _, _, _, _, _, _, rfl, _⟩ := h; rfl) | (obtain ⟨_, _, _, _, _, _, _, _, _, _, _, _, _, _, _, rfl, _⟩ := h; rfl)
  · have hu64 := hr.units
    obtain ⟨b, a, many, n, W, rfl, hb, hn, ha, nab, hRW, hlW, hokW, fewW, m0, m1, q⟩ := h
    refine ⟨_, (pss_cons (ps_par (i := 3) (j := 4) (by rfl) sc__law_incomes.nd rfl rfl (by decide) rfl rfl (pa_cons (pe_op op_add (pe_callB (kk_sum K rfl) (by rfl) m_sum (by decide +kernel) (pa_cons (pe_lc (own := [("_law_want", 5)]) (g := (gName 5)) (tt := tYes) rfl sc__law_incomes.nd (pi_list (pv 1)) (blkOk_by (own := [("_law_want", 5)]) (N := N__law_incomes) (sc := defScope s__law_incomes) (by decide +kernel)) (fun _ _ _ _ _ => pg_name (i := 5) sc__law_incomes.nd rfl (Or.inl rfl)) (fun _ _ _ _ _ => pts_nil) (fun _ _ _ _ _ => (pe_ix (kk_ixt K) (pv 5) pe_int (fun _ _ => rfl)))) pa_nil)) pe_int) (pa_cons (pe_ix (kk_ixl K) (pe_lst (pa_cons pe_int (pa_cons pe_int (pa_cons pe_int pa_nil)))) (pe_cf C__law_pick (hr.mono (by decide)) (by rfl) (pa_cons (pv 0) (pa_cons pe_int pa_nil))) (fun _ _ => rfl)) pa_nil)) (by rfl))
      (pss_cons (ps_set (i := 6) sc__law_incomes.nd rfl (.inl rfl) (pe_op op_rep (pe_lst (pa_cons (pe_tup (pa_cons pe_int (pa_cons pe_int pa_nil))) pa_nil)) (pe_callTy call_int1 (by rfl) m_int (by decide +kernel) (pa_cons (pe_cmpR op_eq (pe_cf C__law_pick (hr.mono (by decide)) (by rfl) (pa_cons (pv 0) (pa_cons pe_int pa_nil))) pe_int (nomark _)) pa_nil))))
      (pss_cons (ps_for PassesOwn.never rfl (pi_range1 (by rfl) m_range (pa_cons (pe_op op_sub (pv 2) (pe_callB (kk_len K) (by rfl) m_len PySem.boot_len (pa_cons (pv 6) pa_nil))) pa_nil)) (pg_name (i := 7) sc__law_incomes.nd rfl (.inl rfl))
         (pss_one (ps_expr (pe_bm PySem.F.plainAttrs_list PySem.F.slot_list_append PySem.F.type_list_append mt_append (pv 6) (pa_cons (pe_tup (pa_cons (pe_cf C__law_pick (hr.mono (by decide)) (by rfl) (pa_cons (pv 0) (pa_cons (pv 4) pa_nil))) (pa_cons (pe_callB (call_min2 rfl) (by rfl) m_min (by decide +kernel) (pa_cons (pe_op op_pow pe_int pe_int) (pa_cons (pe_cf C__law_pick (hr.mono (by decide)) (by rfl) (pa_cons (pv 0) (pa_cons (pe_op op_add pe_int (pe_op op_fdiv (pe_op op_mul pe_int (pv 3)) (pe_callB (call_max2 rfl) (by rfl) m_max (by decide +kernel) (pa_cons pe_int (pa_cons (pv 2) pa_nil))))) pa_nil))) pa_nil))) pa_nil))) pa_nil)))))
      (pss_one (ps_ret (pe_cf C__law_strewn (hr.mono (by decide)) (by rfl) (pa_cons (pv 0) (pa_cons (pv 6) pa_nil)))))))), ?_⟩
    refine ⟨_, rfl, a, rfl, ⟨_, SqL.of ha⟩, fun D nD => rows_lc (fun _ : Wt => true) (fun q => V.int q.2.p) (jok_l (K := K) (SqL.of ha)) hRW (by omega) nD (fun q hq G s hG Y N h1 h2 => ⟨rfl, _, rfl, q.1, _, _, _, rfl, rfl, SqT.of hG, rfl, h1 rfl⟩) (fun G s hG => ?_)⟩
    rw [List.filter_eq_self.mpr (fun _ _ => rfl)] at hG
    have hbs := sum_bnd (B := 300000) (l := W.map fun q => q.2.p) (fun x hx => by
      obtain ⟨y, hy, rfl⟩ := List.mem_map.mp hx
      have := hokW y hy
      exact ⟨by have := this.2.1; omega, fewW y hy⟩)
    rw [List.length_map] at hbs
    have hG2 : G D = some (.lst ((W.map fun q => q.2.p).map V.int)) := by
      rw [hG, List.map_map]
      rfl
    refine ⟨D, _, rfl, SqL.of hG2, _, _, rfl, rfl, (by show 3 ≤ sizeLine; decide), fun l1 n1 => ?_⟩
    have s1 := s.trans (same_new (o := .lst [.int 4, .int 12, .int 400]) n1)
    have b1 := hb.same s1
    generalize (W.map fun q => q.2.p).sum = sm at *
    refine ⟨_, rfl, b, 3, _, rfl, b1, by decide, by decide, by omega, fun r1 H1 r10 r11 b2 t2 => ?_⟩
    obtain ⟨far, hfar, fr0, fr1⟩ := pick3j (lo := 4) (hi := 400) (x := 4) (y := 12) (z := 400) r10 r11 (by omega) (by omega) (by omega)
    refine ⟨l1, _, _, _, rfl, rfl, SqL.of (t2 _ _ ((hb.same s).ne n1) upd_same), hfar, _, _, rfl, ?_⟩
    have T2 := (But.of (b := b) s1).trans t2
    refine ⟨(by show 2 ≤ sizeLine; decide), fun z nz => ⟨(by show 1 ≤ sizeLine; decide), fun l2 n2 => ?_⟩⟩
    have sz := (same_new (o := .tup [.int 0, .int 0]) nz).trans (same_new (o := .lst [.ref z]) n2)
    have hz := same_new (o := .lst [.ref z]) n2 _ _ (upd_same (H := H1) (a := z) (o := .tup [.int 0, .int 0]))
    have hl2 := upd_same (H := upd H1 z (.tup [.int 0, .int 0])) (a := l2) (o := .lst [.ref z])
    have nl2b := (b2.new (o := .tup [.int 0, .int 0]) nz).ne n2
    have nzb := b2.ne nz
    have b3 := b2.same sz
    have T3 := T2.trans (But.of (b := b) sz)
    generalize upd (upd H1 z (.tup [.int 0, .int 0])) l2 (.lst [.ref z]) = G3 at *
    refine ⟨_, rfl, b, 4, _, rfl, b3, by decide, by decide, by omega, fun r2 H2 r20 r21 b4 t4 => ⟨rfl, .inr ⟨_, rfl, l2, _, _, rfl, rfl, t4 _ _ nl2b hl2, by split <;> decide, by split <;> decide, ?_, fun F nF => ?_⟩⟩⟩
    · split
      · show 1 * 1 ≤ sizeLine
        decide
      · show 1 * 0 ≤ sizeLine
        decide
    rw [rep_b]
    have hz4 := t4 _ _ nzb hz
    have T4 := T3.trans t4
    have nFb := b4.ne nF
    have nF0 : H F = none := by
      cases e : H F with
      | none => rfl
      | some o =>
        rw [T4 _ _ nFb e] at nF
        cases nF
    obtain ⟨M0, hM0, hM0r, hM0l, hM0o⟩ : ∃ M0 : List (Addr × (Int × Int)), (if decide (V.int r2 = V.int 0) = true then [V.ref z] else []) = refs M0 ∧ RowsAt iV H2 M0 ∧ M0.length ≤ 1 ∧ ∀ q ∈ M0, In2 q.2 := by
      split
      · refine ⟨[(z, (0, 0))], rfl, fun q hq => ?_, Nat.le_refl _, fun q hq => ?_⟩
        · rw [List.mem_singleton.mp hq]
          exact hz4
        · rw [List.mem_singleton.mp hq]
          exact ⟨⟨Int.le_refl 0, by show (0 : Int) ≤ 400; decide, Int.le_refl 0, by show (0 : Int) ≤ 1000000000; decide⟩, by show (0 : Int) ≤ 10000000; decide⟩
      · exact ⟨[], rfl, .nil, Nat.zero_le _, fun _ h => (nomatch h)⟩
    rw [hM0]
    have sF := same_new (o := .lst (refs M0)) nF
    have hF := upd_same (H := H2) (a := F) (o := .lst (refs M0))
    have hM0r := hM0r.same sF
    have b5 := b4.same sF
    have T5 := T4.trans (But.of (b := b) sF)
    generalize upd H2 F (.lst (refs M0)) = G4 at *
    have lm : (refs M0).length = M0.length := List.length_map ..
    refine ⟨_, rfl, _, rfl, F, _, rfl, .inl (SqL.of hF), _, _, rfl, rfl, _, rfl, by omega, by omega, for_range (fun i σ H' => ∃ (M : List (Addr × (Int × Int))) (s5 s7 : Option V), σ = [some (.ref b), some (.ref a), some (.int many), some (.int (sm + 1)), some (.int far), s5, some (.ref F), s7] ∧ M.length = M0.length + i ∧ H' F = some (.lst (refs M)) ∧ RowsAt iV H' M ∧ (∀ q ∈ M, In2 q.2) ∧ Three H' b (n + 10 + 2 * i) ∧ But b H H') ⟨M0, _, _, rfl, rfl, hF, hM0r, hM0o, b5.mono (by omega), T5⟩ (fun i σ H' hi h => ?_) (fun σ H' h => ?_)⟩
    · obtain ⟨M, s5, s7, rfl, hM, hFX, hRX, hokX, bX, tX⟩ := h
      obtain ⟨_, _, _, hbX, _⟩ := id bX
      have q0 : 0 ≤ (if many > 1 then many else 1 : Int) - 1 := by split <;> omega
      have q1 : (if many > 1 then many else 1 : Int) ≤ 40 := by split <;> omega
      have d0 := Int.ediv_nonneg (a := 2 * (sm + 1)) (b := if many > 1 then many else 1) (by omega) (by omega)
      have d1 := Int.ediv_le_self (a := 2 * (sm + 1)) (if many > 1 then many else 1) (by omega)
      refine ⟨_, rfl, .inl ⟨rfl, _, SqL.of hFX⟩, _, rfl, _, rfl, b, far, _, rfl, bX, by omega, by omega, by omega, fun x1 J1 x10 x11 c1 u1 => ?_⟩
      obtain ⟨_, _, _, hc1, _⟩ := id c1
      refine ⟨_, _, rfl, rfl, ⟨by decide, by decide, by decide⟩, _, rfl, _, rfl, _, _, rfl, rfl, .inl ⟨by decide, by decide⟩, _, rfl, _, _, rfl, _, _, rfl, rfl, ⟨by omega, by omega⟩, _, _, rfl, rfl, b, _, _, rfl, c1, by omega, by omega, by omega, fun x2 J2 x20 x21 c2 u2 => ⟨_, _, rfl, (by show 2 ≤ sizeLine; decide), fun t nt => ?_⟩⟩
      have e9 : (10 ^ (9 : Int).toNat : Int) = 1000000000 := by decide
      rw [e9]
      generalize hv : (if x2 < 1000000000 then x2 else 1000000000 : Int) = v at *
      have v0 : 0 ≤ v ∧ v ≤ 1000000000 := by rw [← hv]; split <;> omega
      have vb : v ≤ 10000000 := by rw [← hv]; split <;> omega
      have hF6 := same_new (o := .tup [.int x1, .int v]) nt _ _ (u2 _ _ nFb (u1 _ _ nFb hFX))
      have hR6 := ((hRX.but hbX u1).but hc1 u2).same (same_new (o := .tup [.int x1, .int v]) nt)
      have ht6 := upd_same (H := J2) (a := t) (o := .tup [.int x1, .int v])
      refine ⟨F, _, _, rfl, rfl, hF6, ?_, M ++ [(t, (x1, v))], _, _, rfl, ?_, ?_, ?_, ?_, ((c2.new nt).mono (by omega)).upd nFb, updNew (((tX.trans u1).trans u2).trans (But.new nt)) nF0⟩
      · rw [List.length_map]
        exact small1000 (by omega)
      · rw [List.length_append, hM]
        rfl
      · rw [upd_same, refs_snoc]
      · refine (hR6.updL hF6).snoc ?_
        show (upd _ F _) t = _
        rw [upd_ne (ne_of ht6 hF6 (by intro z; cases z))]
        exact ht6
      · intro q' hq'
        rcases List.mem_append.mp hq' with h | h
        · exact hokX q' h
        · rw [List.mem_singleton.mp h]
          exact ⟨⟨x10, by show x1 ≤ 400; omega, v0.1, v0.2⟩, vb⟩
    · obtain ⟨M, s5, s7, rfl, hM, hFX, hRX, hokX, bX, tX⟩ := h
      have hM41 : M.length ≤ 9 := by omega
      obtain ⟨_, _, _, hbX, _⟩ := id bX
      refine ⟨_, rfl, _, rfl, Addr × (Int × Int), (fun q => .ref q.1), (fun q => prD2 q.2), b, F, _, M, rfl, bX, by omega, SqL.of hFX, by omega, fun G t x hx => iV_dp _ _ (SqT.of ((hRX.but hbX t) x hx)), fun x hx => in_lay x.2, fun H7 R M' b7 t7 nR nRb hR pm => ?_⟩
      refine q _ R M' (b7.mono (by omega)) (tX.trans t7) ?_ nRb hR ((hRX.but hbX t7).sub fun x hx => pm.mem_iff.mp hx) (by rw [pm.length_eq]; exact hM41) fun x hx => hokX x (pm.mem_iff.mp hx)
      cases e : H R with
      | none => rfl
      | some o =>
        rw [tX _ _ nRb e] at nR
        cases nR
/-! ### dicts of numbers; the least pence for so many wants -/
abbrev DD := List (Int × Int)
def dkv (D : DD) : List (Key × V) := D.map fun q => (.inl q.1, .int q.2)
def lk (D : DD) (k : Int) : Option Int := (D.find? fun q => decide (q.1 = k)).map (·.2)
def putI (D : DD) (k v : Int) : DD := if (D.any fun q => decide (q.1 = k)) = true then D.map (fun q => if q.1 = k then (q.1, v) else q) else D ++ [(k, v)]
theorem inl_eq (a b : Int) : decide ((Sum.inl a : Key) = .inl b) = decide (a = b) := by
  by_cases h : a = b
  · rw [h, decide_eq_true rfl, decide_eq_true rfl]
  · rw [decide_eq_false h, decide_eq_false fun z => h (Sum.inl.inj z)]
theorem lk_cons (q : Int × Int) (D : DD) (k : Int) : lk (q :: D) k = if q.1 = k then some q.2 else lk D k := by
  unfold lk
  rw [List.find?_cons]
  by_cases h : q.1 = k
  · rw [decide_eq_true h, if_pos h]
    rfl
  · rw [decide_eq_false h, if_neg h]
theorem valV_dkv : ∀ (D : DD) (k : Int), valV (dkv D) (.inl k) = (lk D k).map V.int
  | [], _ => rfl
  | q :: D, k => by
    rw [lk_cons]
    by_cases h : q.1 = k
    · rw [if_pos h]
      exact valV_pos (congrArg Sum.inl h)
    · rw [if_neg h, ← valV_dkv D k]
      exact valV_neg fun z => h (Sum.inl.inj z)
theorem any_dkv (D : DD) (k : Int) : ((dkv D).any fun kv => decide (kv.1 = .inl k)) = D.any fun q => decide (q.1 = k) := by
  unfold dkv
  rw [List.any_map]
  congr 1
  funext q
  exact inl_eq q.1 k
theorem putK_dkv (D : DD) (k v : Int) : putK (dkv D) (.inl k) (.int v) = dkv (putI D k v) := by
  unfold putK putI
  rw [any_dkv]
  split
  · unfold dkv
    rw [List.map_map, List.map_map]
    refine List.map_congr_left fun q _ => ?_
    show (if (Sum.inl q.1 : Key) = .inl k then ((.inl q.1 : Key), V.int v) else (.inl q.1, .int q.2)) = _
    by_cases h : q.1 = k
    · rw [if_pos (by rw [h])]
      simp [h]
    · rw [if_neg fun z => h (Sum.inl.inj z)]
      simp [h]
  · unfold dkv
    rw [List.map_append]
    rfl
theorem lk_put (D : DD) (k v j : Int) : lk (putI D k v) j = if j = k then some v else lk D j := by
  have h : (lk (putI D k v) j).map V.int = (if j = k then some v else lk D j).map V.int := by
    rw [← valV_dkv, ← putK_dkv, valV_put, valV_dkv]
    by_cases e : j = k
    · rw [if_pos (by rw [e]), if_pos e]
      rfl
    · rw [if_neg fun z => e (Sum.inl.inj z), if_neg e]
  generalize lk (putI D k v) j = a at h ⊢
  generalize (if j = k then some v else lk D j) = b at h ⊢
  cases a <;> cases b <;> simp_all
def keysI (D : DD) : List Int := D.map (·.1)
theorem put_len (D : DD) (k v : Int) : (putI D k v).length ≤ D.length + 1 := by
  unfold putI
  split
  · rw [List.length_map]
    omega
  · rw [List.length_append]
    simp
theorem put_nodup {D : DD} (h : (keysI D).Nodup) (k v : Int) : (keysI (putI D k v)).Nodup := by
  unfold putI
  split
  · have e : keysI (D.map fun q => if q.1 = k then (q.1, v) else q) = keysI D := by
      unfold keysI
      rw [List.map_map]
      refine List.map_congr_left fun q _ => ?_
      show (if q.1 = k then (q.1, v) else q).1 = q.1
      split <;> rfl
    rw [e]
    exact h
  · rename_i c
    unfold keysI at h ⊢
    rw [List.map_append]
    refine List.nodup_append.mpr ⟨h, by simp, fun a ha b hb => ?_⟩
    rw [List.map_cons, List.map_nil, List.mem_singleton] at hb
    rintro rfl
    obtain ⟨q, hq, e⟩ := List.mem_map.mp ha
    exact c (List.any_eq_true.mpr ⟨q, hq, decide_eq_true (e.trans hb)⟩)
theorem lk_key {D : DD} {k : Int} : (∃ v, lk D k = some v) ↔ k ∈ keysI D := by
  induction D with
  | nil => simp [lk, keysI]
  | cons q r ih =>
    rw [lk_cons]
    show _ ↔ k ∈ q.1 :: keysI r
    by_cases h : q.1 = k
    · rw [if_pos h]
      simp [h]
    · rw [if_neg h, ih, List.mem_cons]
      constructor
      · exact .inr
      · rintro (z | z)
        · exact absurd z.symm h
        · exact z
theorem lk_none {D : DD} {k : Int} : lk D k = none ↔ k ∉ keysI D := by
  rw [← lk_key]
  cases lk D k <;> simp
theorem lk_snoc {D : DD} {q : Int × Int} (h : q.1 ∉ keysI D) (k : Int) : lk (D ++ [q]) k = if q.1 = k then some q.2 else lk D k := by
  induction D with
  | nil => exact lk_cons q [] k
  | cons x r ih =>
    have h1 : q.1 ≠ x.1 := fun z => h (by rw [z]; exact List.mem_cons_self)
    have h2 : q.1 ∉ keysI r := fun z => h (List.mem_cons_of_mem _ z)
    rw [List.cons_append, lk_cons, ih h2, lk_cons]
    by_cases c : x.1 = k
    · rw [if_pos c, if_pos c, if_neg fun z => h1 (z.trans c.symm)]
    · rw [if_neg c, if_neg c]
def payI (p c : Int) (acc : DD) (q : Int × Int) : DD := if q.2 + p ≤ c then putI acc (q.1 + 1) (q.2 + p) else acc
def paidI (D : DD) (p c : Int) : DD := D.foldl (payI p c) []
def payO (p c : Int) (v : Int) : Option Int := if v + p ≤ c then some (v + p) else none
theorem paid_snoc (D : DD) (q : Int × Int) (p c : Int) : paidI (D ++ [q]) p c = payI p c (paidI D p c) q := by
  unfold paidI
  rw [List.foldl_append]
  rfl
theorem snoc_ind {α : Type} {P : List α → Prop} (h0 : P []) (h1 : ∀ l a, P l → P (l ++ [a])) (l : List α) : P l := by
  have h : ∀ n (l : List α), l.length = n → P l := fun n => by
    induction n with
    | zero => exact fun l e => by rw [List.length_eq_zero_iff.mp e]; exact h0
    | succ n ih =>
      intro l e
      have hl : l ≠ [] := fun z => by rw [z] at e; cases e
      rw [← List.dropLast_concat_getLast hl]
      exact h1 _ _ (ih _ (by rw [List.length_dropLast, e]; rfl))
  exact h _ l rfl
theorem pay_facts (p c : Int) (D : DD) : (keysI D).Nodup → (keysI (paidI D p c)).Nodup ∧ (paidI D p c).length ≤ D.length ∧ ∀ k, lk (paidI D p c) k = (lk D (k - 1)).bind (payO p c) := by
  refine snoc_ind (P := fun D => (keysI D).Nodup → (keysI (paidI D p c)).Nodup ∧ (paidI D p c).length ≤ D.length ∧ ∀ k, lk (paidI D p c) k = (lk D (k - 1)).bind (payO p c)) ?_ ?_ D
  · exact fun _ => ⟨List.Pairwise.nil, Nat.le_refl _, fun k => rfl⟩
  · intro l q ih h
    unfold keysI at h
    rw [List.map_append] at h
    obtain ⟨h1, _, h3⟩ := List.nodup_append.mp h
    obtain ⟨a, b, e⟩ := ih h1
    have nq : q.1 ∉ keysI l := fun z => h3 _ z q.1 (by simp) rfl
    rw [paid_snoc]
    unfold payI
    refine ⟨?_, ?_, fun k => ?_⟩
    · split
      · exact put_nodup a _ _
      · exact a
    · rw [List.length_append]
      split
      · have := put_len (paidI l p c) (q.1 + 1) (q.2 + p)
        show _ ≤ l.length + 1
        omega
      · show _ ≤ l.length + 1
        omega
    · rw [lk_snoc nq]
      by_cases o : q.2 + p ≤ c
      · rw [if_pos o, lk_put, e]
        by_cases kk : q.1 = k - 1
        · rw [if_pos (by omega), if_pos kk]
          show _ = payO p c q.2
          unfold payO
          rw [if_pos o]
        · rw [if_neg (by omega), if_neg kk]
      · rw [if_neg o, e]
        by_cases kk : q.1 = k - 1
        · rw [if_pos kk, ← kk, lk_none.mpr nq]
          show none = payO p c q.2
          unfold payO
          rw [if_neg o]
        · rw [if_neg kk]
def comb : Option Int → Option Int → Option Int
  | some x, some y => some (if y < x then y else x)
  | some x, none => some x
  | none, r => r
def lessI (A B : DD) (ks : List Int) : DD := ks.foldl (fun acc k => putI acc k ((comb (lk A k) (lk B k)).getD 0)) []
theorem less_snoc (A B : DD) (ks : List Int) (k : Int) : lessI A B (ks ++ [k]) = putI (lessI A B ks) k ((comb (lk A k) (lk B k)).getD 0) := by
  unfold lessI
  rw [List.foldl_append]
  rfl
theorem less_facts (A B : DD) (ks : List Int) : (keysI (lessI A B ks)).Nodup ∧ (lessI A B ks).length ≤ ks.length ∧ ∀ j, lk (lessI A B ks) j = if j ∈ ks then some ((comb (lk A j) (lk B j)).getD 0) else none := by
  refine snoc_ind (P := fun ks => (keysI (lessI A B ks)).Nodup ∧ (lessI A B ks).length ≤ ks.length ∧ ∀ j, lk (lessI A B ks) j = if j ∈ ks then some ((comb (lk A j) (lk B j)).getD 0) else none) ?_ ?_ ks
  · exact ⟨List.Pairwise.nil, Nat.le_refl _, fun j => by rw [if_neg (by simp)]; rfl⟩
  · rintro l k ⟨a, b, e⟩
    rw [less_snoc]
    refine ⟨put_nodup a _ _, ?_, fun j => ?_⟩
    · have := put_len (lessI A B l) k ((comb (lk A k) (lk B k)).getD 0)
      rw [List.length_append]
      show _ ≤ l.length + 1
      omega
    · rw [lk_put, e]
      by_cases c : j = k
      · rw [if_pos c, if_pos (by rw [c]; simp), c]
      · rw [if_neg c]
        have : (j ∈ l ++ [k]) ↔ j ∈ l := by simp [c]
        simp only [this]
theorem less_all (A B : DD) (j : Int) : lk (lessI A B (keysI A ++ keysI B)) j = comb (lk A j) (lk B j) := by
  rw [(less_facts A B _).2.2 j]
  by_cases c : j ∈ keysI A ++ keysI B
  · rw [if_pos c]
    rcases List.mem_append.mp c with h | h
    · obtain ⟨v, e⟩ := lk_key.mpr h
      rw [e]
      cases lk B j <;> rfl
    · obtain ⟨v, e⟩ := lk_key.mpr h
      rw [e]
      cases lk A j <;> rfl
  · rw [if_neg c]
    have h1 : lk A j = none := lk_none.mpr fun z => c (List.mem_append_left _ z)
    have h2 : lk B j = none := lk_none.mpr fun z => c (List.mem_append_right _ z)
    rw [h1, h2]
    rfl
/-- the least pence for so many of the wants, by a dict's reading -/
def leastO : Int → Option Int := fun k => if k = 0 then some 0 else none
def paidF (is : List (Int × Int)) (f : Int → Option Int) (w : Wt) : Int → Option Int := fun k => (f (k - 1)).bind (payO w.p (comF is w.l))
def stepF (is : List (Int × Int)) (nm : List Str) (f : Int → Option Int) (w : Wt) : Int → Option Int := if w.n ∈ nm then paidF is f w else fun k => comb (f k) (paidF is f w k)
def leastF (is : List (Int × Int)) (nm : List Str) (ws : List Wt) : Int → Option Int := ws.foldl (stepF is nm) leastO
theorem least_snoc (is : List (Int × Int)) (nm : List Str) (ws : List Wt) (w : Wt) : leastF is nm (ws ++ [w]) = stepF is nm (leastF is nm ws) w := by
  unfold leastF
  rw [List.foldl_append]
  rfl
def sortW (ws : List Wt) : List Wt := ws.mergeSort fun x y => decide (x.l ≤ y.l)
/-- the most that f knows of -/
def IsMost (f : Int → Option Int) (r : Option Int) : Prop := match r with
  | some m => (∃ v, f m = some v) ∧ ∀ k, (∃ v, f k = some v) → k ≤ m
  | none => ∀ k, f k = none
theorem most_one {f : Int → Option Int} {r s : Option Int} (a : IsMost f r) (b : IsMost f s) : r = s := by
  match r, s, a, b with
  | none, none, _, _ => rfl
  | none, some m, a, b =>
    obtain ⟨⟨v, e⟩, _⟩ := (show (∃ v, f m = some v) ∧ _ from b)
    rw [(show ∀ k, f k = none from a) m] at e
    cases e
  | some m, none, a, b =>
    obtain ⟨⟨v, e⟩, _⟩ := (show (∃ v, f m = some v) ∧ _ from a)
    rw [(show ∀ k, f k = none from b) m] at e
    cases e
  | some m, some n, a, b =>
    obtain ⟨a1, a2⟩ := (show (∃ v, f m = some v) ∧ ∀ k, (∃ v, f k = some v) → k ≤ m from a)
    obtain ⟨b1, b2⟩ := (show (∃ v, f n = some v) ∧ ∀ k, (∃ v, f k = some v) → k ≤ n from b)
    have := a2 n b1
    have := b2 m a1
    rw [show m = n by omega]
def optV : Option Int → V
  | some i => .int i
  | none => .non
/-- a comprehension that makes a dict, walked -/
theorem dc_gen {J : It} {n : Nat} {g : TG} {tt : TT} {tk tv : TE} {vs : List Nat} {σ : L2.St} {H1 : Hp} {D : Addr} {Qd : Hp → Prop} (Pv : Nat → Hp → Prop) (first : Pv 0 (upd H1 D (.dK [])))
    (can : ∀ i H, Pv i H → (i < n → J.go i H) ∧ (i = n → J.stop i H))
    (turn : ∀ i H v H', i < n → Pv i H → J.yld i H v H' → g v (wipe σ vs) H' fun σ2 H2 => wipe σ2 vs = wipe σ vs ∧ tt σ2 H2 fun b H3 => if b = true then tk σ2 H3 fun y H4 => tv σ2 H4 fun z H5 => ∃ kvs k, y = kV k ∧ H5 D = some (.dK kvs) ∧ kvs.length < sizeLine ∧ Pv (i + 1) (upd H5 D (.dK (putK kvs k z))) else Pv (i + 1) H3)
    (last : ∀ H, Pv n H → Qd H) :
    ∃ W : Nat → Nat → Hp → Prop, (∃ m, W 0 m (upd H1 D (.dK []))) ∧ ∀ i m H, W i m H → (J.stop i H ∧ Qd H) ∨ (J.go i H ∧ ∃ Nx : Hp → Prop, (∀ H', Nx H' → ∃ m', m' < m ∧ W (i + 1) m' H') ∧ ∀ x H', J.yld i H x H' → g x (wipe σ vs) H' fun σ2 H2 => wipe σ2 vs = wipe σ vs ∧ tt σ2 H2 fun b H3 => if b = true then tk σ2 H3 fun y H4 => tv σ2 H4 fun z H5 => ∃ kvs k, y = kV k ∧ H5 D = some (.dK kvs) ∧ kvs.length < sizeLine ∧ Nx (upd H5 D (.dK (putK kvs k z))) else Nx H3) := by
  refine ⟨fun i m H => m + i = n ∧ Pv i H, ⟨n, by omega, first⟩, ?_⟩
  intro i m H hw
  obtain ⟨e, p⟩ := hw
  by_cases c : i < n
  · exact .inr ⟨(can i H p).1 c, Pv (i + 1), fun H' p' => ⟨n - (i + 1), by omega, by omega, p'⟩, fun v H' y => turn i H v H' c p y⟩
  · have z : i = n := by omega
    exact .inl ⟨(can i H p).2 z, last H (z ▸ p)⟩
theorem hu1_of {n : Nat} (h : n + 64 < cLine) : n + 1 < cLine := by omega
theorem dc_list {K : PySem.W.Frag} {a : Addr} {xs : List V} {g : TG} {tt : TT} {tk tv : TE} {vs : List Nat} {σ : L2.St} {H1 : Hp} {D : Addr} {Qd : Hp → Prop} (Pv : Nat → Hp → Prop) (first : Pv 0 (upd H1 D (.dK []))) (here : ∀ i H, Pv i H → SqL K H a xs)
    (turn : ∀ i H v, xs[i]? = some v → Pv i H → g v (wipe σ vs) H fun σ2 H2 => wipe σ2 vs = wipe σ vs ∧ tt σ2 H2 fun b H3 => if b = true then tk σ2 H3 fun y H4 => tv σ2 H4 fun z H5 => ∃ kvs k, y = kV k ∧ H5 D = some (.dK kvs) ∧ kvs.length < sizeLine ∧ Pv (i + 1) (upd H5 D (.dK (putK kvs k z))) else Pv (i + 1) H3)
    (last : ∀ H, Pv xs.length H → Qd H) :
    ∃ W : Nat → Nat → Hp → Prop, (∃ m, W 0 m (upd H1 D (.dK []))) ∧ ∀ i m H, W i m H → ((Itl K a).stop i H ∧ Qd H) ∨ ((Itl K a).go i H ∧ ∃ Nx : Hp → Prop, (∀ H', Nx H' → ∃ m', m' < m ∧ W (i + 1) m' H') ∧ ∀ x H', (Itl K a).yld i H x H' → g x (wipe σ vs) H' fun σ2 H2 => wipe σ2 vs = wipe σ vs ∧ tt σ2 H2 fun b H3 => if b = true then tk σ2 H3 fun y H4 => tv σ2 H4 fun z H5 => ∃ kvs k, y = kV k ∧ H5 D = some (.dK kvs) ∧ kvs.length < sizeLine ∧ Nx (upd H5 D (.dK (putK kvs k z))) else Nx H3) := by
  refine dc_gen (n := xs.length) Pv first (fun i H p => ⟨fun c => ⟨xs, _, here i H p, List.getElem?_eq_getElem c⟩, fun c => ⟨xs, here i H p, by omega⟩⟩) (fun i H v H' c p y => ?_) last
  obtain ⟨e, y⟩ := y
  subst e
  exact turn i H' v (y xs (here i H' p)) p
theorem get_two {A B : DD} {k : Int} (h : k ∈ keysI A ++ keysI B) : ∃ x y : Int, (valV (dkv A) (.inl k)).getD ((valV (dkv B) (.inl k)).getD .non) = .int x ∧ (valV (dkv B) (.inl k)).getD ((valV (dkv A) (.inl k)).getD .non) = .int y ∧ (if y < x then y else x) = (comb (lk A k) (lk B k)).getD 0 := by
  rw [valV_dkv, valV_dkv]
  have h2 : ¬ (lk A k = none ∧ lk B k = none) := fun ⟨z1, z2⟩ => (List.mem_append.mp h).elim (lk_none.mp z1) (lk_none.mp z2)
  generalize lk A k = p at h2 ⊢
  generalize lk B k = r at h2 ⊢
  match p, r, h2 with
  | some x, some y, _ => exact ⟨x, y, rfl, rfl, rfl⟩
  | some x, none, _ => exact ⟨x, x, rfl, rfl, if_neg (Int.lt_irrefl x)⟩
  | none, some y, _ => exact ⟨y, y, rfl, rfl, if_neg (Int.lt_irrefl y)⟩
  | none, none, h2 => exact absurd ⟨rfl, rfl⟩ h2
theorem keys_dkv (D : DD) : ((dkv D).map fun kv => kV kv.1) = (keysI D).map V.int := by
  unfold dkv keysI
  rw [List.map_map, List.map_map]
  rfl
/-! ### lesser_of -/
abbrev s_lesser_of : Stmt := topS 7
abbrev N_lesser_of : List Str := ["one", "other", "key"]
theorem sc_lesser_of : FnScope N_lesser_of ["one", "other"] (defScope s_lesser_of) := ⟨rfl, rfl, rfl, by decide +kernel, rfl, by decide +kernel, by decide +kernel⟩
def sp_lesser_of (K : PySem.W.Frag) : Sp := fun vs H Q _ => ∃ (a b : Addr) (A B : DD), vs = [.ref a, .ref b] ∧ H a = some (.dK (dkv A)) ∧ H b = some (.dK (dkv B)) ∧ A.length ≤ 1000 ∧ B.length ≤ 1000 ∧
  ∀ H' p, Same H H' → H p = none → H' p = some (.dK (dkv (lessI A B (keysI A ++ keysI B)))) → Q (.ref p) H'
theorem ok_lesser_of {f : Addr} {fd : FuncData} (F : Fun K "lesser_of" "lesser_of" s_lesser_of f fd) (g : mg "lesser_of" = some (.ref f)) (bd : Binds K fd ["one", "other"] []) (m_min : mg "min" = none) : CF P w K mg base 1 "lesser_of" ["one", "other"] (sp_lesser_of K) := by
  refine ⟨f, fd, F.ok sc_lesser_of (fun vs H Q E h => ?_) (fun cdv A outer s H vs Q E hr h => ?_), g, F.kp, bd⟩
  · first | (obtain ⟨_, rfl, _⟩ := h; rfl) | (obtain ⟨_, _, rfl, _⟩ := h; rfl) | (obtain ⟨_, _, _, rfl, _⟩ := h; rfl) | (obtain ⟨_, _, _, _, rfl, _⟩ := h; rfl) | (obtain ⟨_, _, _, _, _, rfl, _⟩ := h; rfl) | (obtain ⟨_, _, _, _, _, _, rfl, _⟩ := h; rfl) | (obtain ⟨_, _, _, _, _, _, _, rfl, _⟩ := h; rfl) | (obtain ⟨_, _, _, _, _, _, _, _, rfl, _⟩ := h; rfl) | (obtain ⟨_, _, _, _, _, _, _, _, _, rfl, _⟩ := h; rfl) | (obtain ⟨_, _, _, _, _, _, _, _, _, _, rfl, _⟩ := h; rfl) | (obtain ⟨_, _, _, _, _, _, _, _, _, _, _, rfl, _⟩ := h; rfl) | (obtain ⟨_, _, _, _, _, _, _, _, _, _, _, _, rfl, _⟩ := h; rfl) | (obtain ⟨_, _, _, _, _, _, _, _, _, _, _, _, _, rfl, _⟩ := h; rfl) | (obtain ⟨_, _, _, _, _, _, _, _, _, _, _, _, _, _, rfl, _⟩ := h; rfl) | (obtain ⟨_, _, _, _, _, _, _, _, _, _, _, _, _, _, _, rfl, _⟩ := h; rfl)
  · have hu64 := hr.units
    have hu1 := hu1_of hu64
    obtain ⟨a, b, A, B, rfl, ha, hb, la, lb, q⟩ := h
    refine ⟨_, (pss_one (ps_ret (pe_dc (own := [("key", 2)]) (g := (gName 2)) (tt := tYes) rfl sc_lesser_of.nd (pi_list (pe_lst (SD.pa_starD rfl (pv 0) (SD.pa_starD rfl (pv 1) pa_nil)))) (blkOk_by (own := [("key", 2)]) (N := N_lesser_of) (sc := defScope s_lesser_of) (by decide +kernel)) (fun _ _ _ _ _ => pg_name (i := 2) sc_lesser_of.nd rfl (Or.inl rfl)) (fun _ _ _ _ _ => pts_nil) (fun _ _ _ _ _ => (pv 2)) (fun _ _ _ _ _ => (pe_callB (call_min2 rfl) (by rfl) m_min (by decide +kernel) (pa_cons (pe_dget2 hu1 (pv 0) (pv 2) (pe_dget1 hu1 (pv 1) (pv 2) ⟨rfl, rfl, rfl, rfl⟩) ⟨rfl, rfl, rfl, rfl⟩) (pa_cons (pe_dget2 hu1 (pv 1) (pv 2) (pe_dget1 hu1 (pv 0) (pv 2) ⟨rfl, rfl, rfl, rfl⟩) ⟨rfl, rfl, rfl, rfl⟩) pa_nil))))))), ?_⟩
    have ex : ((dkv A).map fun kv => kV kv.1) ++ (((dkv B).map fun kv => kV kv.1) ++ []) = (keysI A ++ keysI B).map V.int := by
      rw [keys_dkv, keys_dkv, List.append_nil, List.map_append]
    have lks : (keysI A ++ keysI B).length ≤ 2000 := by
      unfold keysI
      rw [List.length_append, List.length_map, List.length_map]
      omega
    refine ⟨_, rfl, a, _, rfl, .inl ha, _, rfl, b, _, rfl, .inl hb, ?_, fun l nl => ?_⟩
    · rw [ex, List.length_map, sizeLine_eq]
      omega
    rw [ex]
    have s1 := same_new (o := .lst ((keysI A ++ keysI B).map V.int)) nl
    have hl := upd_same (H := H) (a := l) (o := .lst ((keysI A ++ keysI B).map V.int))
    have ha1 := s1 _ _ ha
    have hb1 := s1 _ _ hb
    generalize upd H l (.lst ((keysI A ++ keysI B).map V.int)) = H1 at *
    have q0 := q
    clear q
    generalize eks : keysI A ++ keysI B = ks at *
    refine ⟨l, rfl, ⟨_, SqL.of hl⟩, fun D nD => dc_list (K := K) (a := l) (xs := ks.map V.int) (fun i G => Same H1 G ∧ G D = some (.dK (dkv (lessI A B (ks.take i))))) ⟨same_new nD, upd_same⟩ (fun i G p => SqL.of (p.1 _ _ hl)) (fun i G v hv p => ?_) (fun G p => ?_)⟩
    · obtain ⟨sg, hD⟩ := p
      rw [List.getElem?_map] at hv
      obtain ⟨k, hk, rfl⟩ := Option.map_eq_some_iff.mp hv
      have hm : k ∈ keysI A ++ keysI B := by
        rw [eks]
        exact List.mem_of_getElem? hk
      obtain ⟨x, y, e1, e2, e3⟩ := get_two hm
      have ga := sg _ _ ha1
      have gb := sg _ _ hb1
      refine ⟨rfl, _, rfl, _, rfl, a, rfl, .inl ⟨_, .inl ga⟩, _, rfl, _, rfl, b, rfl, .inl ⟨_, .inl gb⟩, _, rfl, _, DGet.k (k := .inl k) gb, _, DGet.k (k := .inl k) ga, _, rfl, b, rfl, .inl ⟨_, .inl gb⟩, _, rfl, _, rfl, a, rfl, .inl ⟨_, .inl ga⟩, _, rfl, _, DGet.k (k := .inl k) ga, _, DGet.k (k := .inl k) gb, ?_⟩
      rw [e1, e2]
      refine ⟨x, y, rfl, dkv (lessI A B (ks.take i)), .inl k, rfl, hD, ?_, ?_, ?_⟩
      · unfold dkv
        rw [List.length_map, sizeLine_eq]
        have := (less_facts A B (ks.take i)).2.1
        rw [List.length_take] at this
        omega
      · intro c o h
        rw [upd_ne (ne_of_none h nD)]
        exact sg _ _ h
      · rw [upd_same, e3, putK_dkv, take_snoc hk, less_snoc]
    · obtain ⟨sg, hD⟩ := p
      rw [List.length_map, List.take_of_length_le (Nat.le_refl _)] at hD
      exact q0 G D (s1.trans sg) (none_of s1 nD) hD
theorem map_sort {α β : Type} (f : α → β) (k : β → Int) (l : List α) : (l.mergeSort fun x y => decide (k (f x) ≤ k (f y))).map f = (l.map f).mergeSort fun x y => decide (k x ≤ k y) := List.map_mergeSort fun _ _ _ _ => rfl
def sortR (L : List (Addr × Wt)) : List (Addr × Wt) := L.mergeSort fun x y => decide (x.2.l ≤ y.2.l)
theorem sortR_data (L : List (Addr × Wt)) : (sortR L).map (·.2) = sortW (L.map (·.2)) := map_sort (fun q : Addr × Wt => q.2) (fun w => w.l) L
theorem sortR_refs (L : List (Addr × Wt)) : ((L.map fun q => (V.ref q.1, q.2.l)).mergeSort fun x y => decide (x.2 ≤ y.2)).map (·.1) = refs (sortR L) := by
  rw [← map_sort (fun q : Addr × Wt => (V.ref q.1, q.2.l)) (fun r : V × Int => r.2) L, List.map_map]
  rfl
theorem keyAt_rows {K : PySem.W.Frag} {H : Hp} {L : List (Addr × Wt)} (h : RowsAt wV H L) : ∀ r ∈ L.map (fun q => (V.ref q.1, q.2.l)), SLam.KeyAt K H 2 r := fun r hr => by
  obtain ⟨q, hq, rfl⟩ := List.mem_map.mp hr
  exact ⟨q.1, _, rfl, SqT.of (h q hq), rfl⟩
theorem rows_ext {α : Type} {f : α → List V} {H H' : Hp} {L : List (Addr × α)} (h : RowsAt f H L) (e : LamX.ExtN H H') : RowsAt f H' L := fun q hq => e _ _ (h q hq) fun _ z => by cases z
theorem seq_ext {K : PySem.W.Frag} {H H' : Hp} {a : Addr} {xs : List V} (h : SqL K H a xs ∨ SqT K H a xs) (e : LamX.ExtN H H') : SqL K H' a xs ∨ SqT K H' a xs := h.elim (fun z => .inl (SLam.extN_l e z)) (fun z => .inr (SLam.extN_t e z))
theorem seq_same {K : PySem.W.Frag} {H H' : Hp} {a : Addr} {xs : List V} (h : SqL K H a xs ∨ SqT K H a xs) (e : Same H H') : SqL K H' a xs ∨ SqT K H' a xs := h.elim (fun z => .inl (e.seq z)) (fun z => .inr (seqT_same e z))
theorem ext_same {H H' : Hp} (s : Same H H') : LamX.ExtN H H' := LamX.ExtN.of s
theorem few_keys : ∀ (n : Nat) (l : List Int), l.Nodup → (∀ k ∈ l, 0 ≤ k ∧ k < n) → l.length ≤ n
  | 0, [], _, _ => Nat.le_refl 0
  | 0, a :: _, _, h => by
    have := h a List.mem_cons_self
    omega
  | n + 1, l, nd, h => by
    by_cases c : (n : Int) ∈ l
    · have h1 := few_keys n (l.erase n) (nd.erase _) fun k hk => by
        obtain ⟨k1, k2⟩ := nd.mem_erase_iff.mp hk
        have := h k k2
        omega
      rw [List.length_erase_of_mem c] at h1
      omega
    · have h1 := few_keys n l nd fun k hk => by
        have := h k hk
        have : k ≠ n := fun z => c (z ▸ hk)
        omega
      omega
theorem least_supp (is : List (Int × Int)) (nm : List Str) (ws : List Wt) : ∀ k v, leastF is nm ws k = some v → 0 ≤ k ∧ k ≤ ws.length := by
  refine snoc_ind (P := fun ws => ∀ k v, leastF is nm ws k = some v → 0 ≤ k ∧ k ≤ ws.length) ?_ ?_ ws
  · intro k v h
    have h : leastO k = some v := h
    unfold leastO at h
    split at h
    · rename_i c
      rw [c]
      exact ⟨Int.le_refl _, Int.le_refl _⟩
    · cases h
  · intro l w ih k v h
    rw [least_snoc] at h
    have paid : ∀ v, paidF is (leastF is nm l) w k = some v → 0 ≤ k ∧ k ≤ (l ++ [w]).length := fun v h => by
      unfold paidF at h
      cases e : leastF is nm l (k - 1) with
      | none => rw [e] at h; cases h
      | some u =>
        have := ih _ _ e
        rw [List.length_append]
        show 0 ≤ k ∧ k ≤ ((l.length + 1 : Nat) : Int)
        omega
    have old : ∀ v, leastF is nm l k = some v → 0 ≤ k ∧ k ≤ (l ++ [w]).length := fun v h => by
      have := ih _ _ h
      rw [List.length_append]
      show 0 ≤ k ∧ k ≤ ((l.length + 1 : Nat) : Int)
      omega
    unfold stepF at h
    split at h
    · exact paid v h
    · have h : comb (leastF is nm l k) (paidF is (leastF is nm l) w k) = some v := h
      cases e1 : leastF is nm l k with
      | some x => exact old x e1
      | none =>
        rw [e1] at h
        exact paid v h
theorem dd_len {is : List (Int × Int)} {nm : List Str} {ws : List Wt} {D : DD} (nd : (keysI D).Nodup) (rd : ∀ k, lk D k = leastF is nm ws k) : D.length ≤ ws.length + 1 := by
  have h := few_keys (ws.length + 1) (keysI D) nd fun k hk => by
    obtain ⟨v, hv⟩ := lk_key.mpr hk
    rw [rd] at hv
    have := least_supp is nm ws k v hv
    omega
  unfold keysI at h
  rw [List.length_map] at h
  exact h
theorem isMost_of {f : Int → Option Int} {D : DD} (e : ∀ k, lk D k = f k) {m : Int} (hm : m ∈ keysI D) (hle : ∀ n ∈ keysI D, n ≤ m) : IsMost f (some m) := by
  refine ⟨?_, fun k hk => hle k ?_⟩
  · rw [← e]
    exact lk_key.mpr hm
  · rw [← e] at hk
    exact lk_key.mp hk
theorem isMost_none {f : Int → Option Int} {D : DD} (e : ∀ k, lk D k = f k) (h : keysI D = []) : IsMost f none := fun k => by
  rw [← e, lk_none, h]
  exact List.not_mem_nil
/-! ### most_with -/
abbrev s_most_with : Stmt := topS 6
abbrev N_most_with : List Str := ["wants", "incomes", "names", "least", "name", "pence", "last", "come", "paid", "many", "spent"]
theorem sc_most_with : FnScope N_most_with ["wants", "incomes", "names"] (defScope s_most_with) := ⟨rfl, rfl, rfl, by decide +kernel, rfl, by decide +kernel, by decide +kernel⟩
def sp_most_with (K : PySem.W.Frag) (TT : List (Addr × Str)) : Sp := fun vs H Q _ => ∃ (a c e : Addr) (L : List (Addr × Wt)) (M : List (Addr × (Int × Int))) (nm : List Str), vs = [.ref a, .ref c, .ref e] ∧ (SqL K H a (refs L) ∨ SqT K H a (refs L)) ∧ RowsAt wV H L ∧ L.length ≤ 900 ∧ (SqL K H c (refs M) ∨ SqT K H c (refs M)) ∧ RowsAt iV H M ∧ M.length ≤ 1000 ∧ (SqL K H e (nm.map V.str) ∨ SqT K H e (nm.map V.str)) ∧ LamX.Tabs TT H ∧
  ∀ H' r, LamX.ExtN H H' → LamX.Tabs TT H' → IsMost (leastF (M.map (·.2)) nm (sortW (L.map (·.2)))) r → Q (optV r) H'
theorem ok_most_with {f : Addr} {fd : FuncData} (F : Fun K "most_with" "most_with" s_most_with f fd) (g : mg "most_with" = some (.ref f)) (bd : Binds K fd ["wants", "incomes", "names"] []) {TT : List (Addr × Str)} {TC TP : Addr} (fc : fd.code = .ref TC) (TB : LamX.TabB base mg TC TP) (tm : (TP, ("most_with.<locals>.<lambda>" : Str)) ∈ TT) (tu : ∀ p ∈ TT, p.1 = TP → p.2 = ("most_with.<locals>.<lambda>" : Str)) (m_sorted : mg "sorted" = none) (m_max : mg "max" = none) (m_list : mg "list" = none) (C_come_by : CF P w K mg base 1 "come_by" ["incomes", "day"] (sp_come_by K)) (C_lesser_of : CF P w K mg base 1 "lesser_of" ["one", "other"] (sp_lesser_of K)) : CF P w K mg base 3 "most_with" ["wants", "incomes", "names"] (sp_most_with K TT) := by
  refine ⟨f, fd, okC F fc sc_most_with (fun vs H Q E h => ?_) (fun A outer s H vs Q E hr h => ?_), g, F.kp, bd⟩
  · first | (obtain ⟨_, rfl, _⟩ := h; rfl) | (obtain ⟨_, _, rfl, _⟩ := h; rfl) | (obtain ⟨_, _, _, rfl, _⟩ := h; rfl) | (obtain ⟨_, _, _, _, rfl, _⟩ := h; rfl) | (obtain ⟨_, _, _, _, _, rfl, _⟩ := h; rfl) | (obtain ⟨_, _, _, _, _, _, rfl, _⟩ := h; rfl) | (obtain ⟨_, _, _, _, _, _, _, rfl, _⟩ := h; rfl) | (obtain ⟨_, _, _, _, _, _, _, _, rfl, _⟩ := h; rfl) | (obtain ⟨_, _, _, _, _, _, _, _, _, rfl, _⟩ := h; rfl) | (obtain ⟨_, _, _, _, _, _, _, _, _, _, rfl, _⟩ := h; rfl) | (obtain ⟨_, _, _, _, _, _, _, _, _, _, _, rfl, _⟩ := h; rfl) | (obtain ⟨_, _, _, _, _, _, _, _, _, _, _, _, rfl, _⟩ := h; rfl) | (obtain ⟨_, _, _, _, _, _, _, _, _, _, _, _, _, rfl, _⟩ := h; rfl) | (obtain ⟨_, _, _, _, _, _, _, _, _, _, _, _, _, _, rfl, _⟩ := h; rfl) | (obtain ⟨_, _, _, _, _, _, _, _, _, _, _, _, _, _, _, rfl, _⟩ := h; rfl)
  · have hu64 := hr.units
    obtain ⟨a, c, e, L, M, nm, rfl, hS, hR, small, hS2, hR2, small2, hN, hT, q⟩ := h
    refine ⟨_, (pss_cons (ps_set (i := 3) sc_most_with.nd rfl (.inl rfl) (pe_disp (pps_cons pe_int pe_int pps_nil) (by rfl) (by rfl) (by simp) (by decide)))
      (pss_cons (ps_for PassesOwn.never rfl (pi_list (SLam.pe_sortLam TB rfl tm tu (hr.mono (by decide)) (SLam.lamP_by (by decide +kernel)) rfl (fun _ _ _ _ _ _ => rfl) (by rfl) m_sorted (pv 0))) (pg_tup (by rfl) (pgs_cons (pg_name (i := 4) sc_most_with.nd rfl (.inl rfl)) (pgs_cons (pg_name (i := 5) sc_most_with.nd rfl (.inr rfl)) (pgs_cons (pg_name (i := 6) sc_most_with.nd rfl (.inl rfl)) pgs_nil))))
         (pss_cons (ps_set (i := 7) sc_most_with.nd rfl (.inr rfl) (pe_cf C_come_by (hr.mono (by decide)) (by rfl) (pa_cons (pv 1) (pa_cons (pv 6) pa_nil))))
          (pss_cons (ps_lock (SD.ps_setDc (i := 8) (own := [("many", 9), ("spent", 10)]) (g := (gTup K 2 (gCons (gName 9) (gCons (gName 10) gNil)))) rfl sc_most_with.nd rfl rfl (SD.sw_dict rfl rfl rfl (by decide +kernel)) (pi_items (pv 3)) (blkOk_by (own := [("many", 9), ("spent", 10)]) (N := N_most_with) (sc := defScope s_most_with) (by decide +kernel)) (fun _ _ _ _ _ => (pg_tup (by rfl) (pgs_cons (pg_name (i := 9) sc_most_with.nd rfl (.inl rfl)) (pgs_cons (pg_name (i := 10) sc_most_with.nd rfl (.inl rfl)) pgs_nil)))) (fun _ _ _ _ _ => (pts_one (pt_cmpR op_le (pe_op op_add (pv 10) (pv 5)) (pv 7) (nomark _)))) (fun _ _ _ _ _ => (pe_op op_add (pv 9) pe_int)) (fun _ _ _ _ _ => (pe_op op_add (pv 10) (pv 5)))))
          (pss_one (ps_set (i := 3) sc_most_with.nd rfl (.inl rfl) (pe_ifExp (pt_cmpR (kk_in K) (pv 4) (pv 2) (by rfl)) (pv 8) (pe_cf C_lesser_of (hr.mono (by decide)) (by rfl) (pa_cons (pv 3) (pa_cons (pv 8) pa_nil)))))))))
      (pss_one (ps_ret (pe_callBK (SD.call_maxD K rfl hu64) (by rfl) m_max (by decide +kernel) (pa_cons (pe_callTy (SD.kk_listD K rfl) (by rfl) m_list (by decide +kernel) (pa_cons (pv 3) pa_nil)) pa_nil) (pk_cons pe_non pk_nil)))))), ?_⟩
    refine fun d nd => ⟨upd_same, [(.inl 0, .int 0)], rfl, by decide, ?_⟩
    rw [upd_upd]
    have e0 : mergeK [] [((.inl 0 : Key), V.int 0)] = dkv [(0, 0)] := rfl
    rw [e0]
    have s0 := same_new (o := .dK (dkv [(0, 0)])) nd
    have hd0 := upd_same (H := H) (a := d) (o := .dK (dkv [(0, 0)]))
    have hS := seq_same hS s0
    have hR := hR.same s0
    have hS2 := seq_same hS2 s0
    have hR2 := hR2.same s0
    have hN := seq_same hN s0
    have hT := hT.ext s0
    generalize upd H d (.dK (dkv [(0, 0)])) = H1 at *
    refine ⟨_, rfl, a, L.map fun q => (V.ref q.1, q.2.l), rfl, ?_, keyAt_rows hR, hT, fun H2 eN T2 p np => ?_⟩
    · rw [List.map_map]
      exact hS
    rw [sortR_refs]
    have s3 := same_new (o := .lst (refs (sortR L))) np
    have hp := upd_same (H := H2) (a := p) (o := .lst (refs (sortR L)))
    have hT3 := T2.ext s3
    have eA := ((ext_same s0).trans eN).trans (ext_same s3)
    have eB := eN.trans (ext_same s3)
    have hRs : RowsAt wV (upd H2 p (.lst (refs (sortR L)))) (sortR L) := ((rows_ext hR eN).same s3).sub fun x hx => List.mem_mergeSort.mp hx
    have hS2 := seq_ext hS2 eB
    have hR2 := rows_ext hR2 eB
    have hN := seq_ext hN eB
    have hd3 := eB _ _ hd0 fun _ z => by cases z
    have lT : (sortR L).length = L.length := List.length_mergeSort ..
    have dT := sortR_data L
    generalize sortR L = T at *
    generalize upd H2 p (.lst (refs T)) = H3 at *
    refine ⟨p, rfl, ⟨_, SqL.of hp⟩, for_list (K := K) (a := p) (xs := refs T) (fun i σ G => ∃ (dA : Addr) (D : DD) (s4 s5 s6 s7 s8 s9 s10 : Option V), σ = [some (.ref a), some (.ref c), some (.ref e), some (.ref dA), s4, s5, s6, s7, s8, s9, s10] ∧ Same H3 G ∧ G dA = some (.dK (dkv D)) ∧ (keysI D).Nodup ∧ ∀ k, lk D k = leastF (M.map (·.2)) nm ((T.map (·.2)).take i) k) ⟨d, [(0, 0)], _, _, _, _, _, _, _, rfl, Same.refl _, hd3, by decide, fun k => ?_⟩ (fun i σ G _ h => by obtain ⟨_, _, _, _, _, _, _, _, _, rfl, s, _⟩ := h; exact SqL.of (s _ _ hp)) (fun i x σ G hx h => ?_) (fun σ G h => ?_)⟩
    · show lk [(0, 0)] k = leastO k
      rw [lk_cons]
      unfold leastO
      by_cases c : k = 0
      · rw [if_pos c, if_pos c.symm]
      · rw [if_neg c, if_neg fun z => c z.symm]
        rfl
    · obtain ⟨dA, D, s4, s5, s6, s7, s8, s9, s10, rfl, sg, hdA, nod, rd⟩ := h
      have len := dd_len nod rd
      have lt1 : ((T.map (·.2)).take i).length ≤ 900 := by
        rw [List.length_take, List.length_map]
        omega
      obtain ⟨t, ht, rfl, hmem⟩ := refs_at hx
      have ht2 : (T.map (·.2))[i]? = some t.2 := by rw [List.getElem?_map, ht]; rfl
      have hi : i < T.length := (List.getElem?_eq_some_iff.mp ht).1
      refine ⟨t.1, _, rfl, SqT.of (sg _ _ (hRs t hmem)), rfl, _, _, rfl, _, _, rfl, _, _, rfl, rfl, ?_⟩
      refine ⟨_, rfl, _, rfl, c, _, M, rfl, seq_same hS2 sg, hR2.same sg, small2, fun G1 g1 => ?_⟩
      have sg1 := sg.trans g1
      refine ⟨dA, .dK (dkv D), g1 _ _ hdA, trivial, fun od => ⟨_, rfl, dA, od, _, rfl, upd_same, fun E nE => ?_⟩⟩
      have hF : upd G1 dA (.frz od (.dK (dkv D))) dA = some (.frz od (.dK (dkv D))) := upd_same
      have hdF := g1 _ _ hdA
      have nE1 : G1 E = none := by
        rw [← nE, upd_ne]
        rintro rfl
        rw [hF] at nE
        cases nE
      have nEd : E ≠ dA := fun z => by
        rw [z, hF] at nE
        cases nE
      have pay := pay_facts t.2.p (comF (M.map (·.2)) t.2.l)
      refine dc_gen (n := (dkv D).length) (fun j F => (∀ x o, x ≠ dA → G1 x = some o → F x = some o) ∧ F dA = some (.frz od (.dK (dkv D))) ∧ F E = some (.dK (dkv (paidI (D.take j) t.2.p (comF (M.map (·.2)) t.2.l))))) ⟨fun x o nx hx => ?_, ?_, upd_same⟩ (fun j F p => ⟨fun cj => ⟨p.2.1, cj⟩, fun cj => ⟨p.2.1, by omega⟩⟩) (fun j F v F' cj p y => ?_) (fun F p => ?_)
      · rw [upd_ne (ne_of_none hx nE1), upd_ne nx]
        exact hx
      · rw [upd_ne nEd.symm]
        exact hF
      · obtain ⟨keep, fd, fE⟩ := p
        obtain ⟨U, k0, v0, hkv, rfl, nU, rfl⟩ := y
        unfold dkv at hkv
        rw [List.getElem?_map] at hkv
        obtain ⟨kq, hq, e⟩ := Option.map_eq_some_iff.mp hkv
        cases e
        have nUE : E ≠ U := ne_of_none fE nU
        have nUd : dA ≠ U := ne_of_none fd nU
        have fE1 : upd F U (.tup [kV (.inl kq.1), .int kq.2]) E = some (.dK (dkv (paidI (D.take j) t.2.p (comF (M.map (·.2)) t.2.l)))) := by rw [upd_ne nUE]; exact fE
        have fd1 : upd F U (.tup [kV (.inl kq.1), .int kq.2]) dA = some (.frz od (.dK (dkv D))) := by rw [upd_ne nUd]; exact fd
        have keep1 : ∀ x o, x ≠ dA → G1 x = some o → upd F U (.tup [kV (.inl kq.1), .int kq.2]) x = some o := fun x o nx hx => by
          have h1 := keep x o nx hx
          rw [upd_ne (ne_of_none h1 nU)]
          exact h1
        have step : paidI (D.take (j + 1)) t.2.p (comF (M.map (·.2)) t.2.l) = payI t.2.p (comF (M.map (·.2)) t.2.l) (paidI (D.take j) t.2.p (comF (M.map (·.2)) t.2.l)) kq := by
          rw [take_snoc hq, paid_snoc]
        have hj : j < D.length := (List.getElem?_eq_some_iff.mp hq).1
        refine ⟨U, _, rfl, SqT.of upd_same, rfl, _, _, rfl, _, _, rfl, rfl, rfl, _, rfl, _, rfl, _, _, rfl, rfl, _, rfl, _, _, rfl, rfl, _, rfl, ite2 (fun z => ?_) (fun z => ?_)⟩
        · have ok : kq.2 + t.2.p ≤ comF (M.map (·.2)) t.2.l := of_decide_eq_true z
          refine ⟨_, rfl, _, _, rfl, rfl, _, rfl, _, rfl, _, _, rfl, rfl, _, .inl (kq.1 + 1), rfl, fE1, ?_, ?_, ?_, ?_⟩
          · unfold dkv
            rw [List.length_map, sizeLine_eq]
            have := (pay (D.take j) ((List.take_sublist j D).map _ |>.nodup nod)).2.1
            rw [List.length_take] at this
            omega
          · intro x o nx hx
            rw [upd_ne (ne_of_none hx nE1)]
            exact keep1 x o nx hx
          · rw [upd_ne nEd.symm]
            exact fd1
          · rw [upd_same, putK_dkv, step]
            unfold payI
            rw [if_pos ok]
        · have ok : ¬ kq.2 + t.2.p ≤ comF (M.map (·.2)) t.2.l := fun y => z (decide_eq_true y)
          refine ⟨keep1, fd1, ?_⟩
          rw [step]
          unfold payI
          rw [if_neg ok]
          exact fE1
      · obtain ⟨keep, fd, fE⟩ := p
        rw [show (dkv D).length = D.length from List.length_map .., List.take_of_length_le (Nat.le_refl _)] at fE
        refine ⟨fd, ?_⟩
        have g2 : Same G1 (upd F dA (.dK (dkv D))) := fun x o hx => by
          by_cases cx : x = dA
          · rw [cx] at hx ⊢
            rw [upd_same, ← hx, hdF]
          · rw [upd_ne cx]
            exact keep x o cx hx
        have hd2 : upd F dA (.dK (dkv D)) dA = some (.dK (dkv D)) := upd_same
        have hE2 : upd F dA (.dK (dkv D)) E = some (.dK (dkv (paidI D t.2.p (comF (M.map (·.2)) t.2.l)))) := by rw [upd_ne nEd]; exact fE
        generalize upd F dA (.dK (dkv D)) = G2 at *
        have sg2 := sg1.trans g2
        obtain ⟨p1, p2, p3⟩ := pay D nod
        have fold : ∀ k, lk (paidI D t.2.p (comF (M.map (·.2)) t.2.l)) k = paidF (M.map (·.2)) (leastF (M.map (·.2)) nm ((T.map (·.2)).take i)) t.2 k := fun k => by
          rw [p3, rd]
          rfl
        have up : ∀ k, leastF (M.map (·.2)) nm ((T.map (·.2)).take (i + 1)) k = stepF (M.map (·.2)) nm (leastF (M.map (·.2)) nm ((T.map (·.2)).take i)) t.2 k := fun k => by rw [take_snoc ht2, least_snoc]
        refine ⟨_, rfl, _, rfl, e, _, rfl, seq_same hN sg2, rfl, flat_strs nm, _, rfl, ?_⟩
        show if inV (.str t.2.n) (nm.map V.str) = true then _ else _
        rw [in_strs]
        refine ite2 (fun z => ?_) (fun z => ?_)
        · have z1 : t.2.n ∈ nm := of_decide_eq_true z
          refine ⟨_, rfl, E, paidI D t.2.p (comF (M.map (·.2)) t.2.l), _, _, _, _, _, _, _, rfl, sg2, hE2, p1, fun k => ?_⟩
          rw [up, fold]
          unfold stepF
          rw [if_pos z1]
        · have z1 : ¬ t.2.n ∈ nm := fun y => z (decide_eq_true y)
          refine ⟨_, rfl, _, rfl, dA, E, D, _, rfl, hd2, hE2, by omega, by omega, fun G3 r g3 nr hr => ⟨r, _, _, _, _, _, _, _, _, rfl, sg2.trans g3, hr, (less_facts _ _ _).1, fun k => ?_⟩⟩
          rw [up, less_all, fold, rd]
          unfold stepF
          rw [if_neg z1]
    · obtain ⟨dA, D, s4, s5, s6, s7, s8, s9, s10, rfl, sg, hdA, nod, rd⟩ := h
      rw [List.take_of_length_le (by rw [List.length_map, List.length_map]; exact Nat.le_refl _), dT] at rd
      refine ⟨_, rfl, dA, _, rfl, .inl hdA, fun l nl => ?_⟩
      rw [keys_dkv]
      have sl := same_new (o := .lst ((keysI D).map V.int)) nl
      refine ⟨l, keysI D, rfl, rfl, SqL.of upd_same, fun e => ?_, fun m hm hle => ?_⟩
      · exact q _ none (eA.trans (ext_same (sg.trans sl))) (hT3.ext (sg.trans sl)) (isMost_none rd e)
      · exact q _ (some m) (eA.trans (ext_same (sg.trans sl))) (hT3.ext (sg.trans sl)) (isMost_of rd hm hle)
/-! ### heaps but their tables; names in their order -/
def dT (H : Hp) : Hp := fun a => match H a with
  | some (.tbl _) => none
  | o => o
theorem dT_of {H : Hp} {a : Addr} {o : HO} (h : H a = some o) (n : ∀ ps, o ≠ .tbl ps) : dT H a = some o := by
  unfold dT
  rw [h]
  cases o <;> first | rfl | exact absurd rfl (n _)
theorem dT_some {H : Hp} {a : Addr} {o : HO} (h : dT H a = some o) : H a = some o ∧ ∀ ps, o ≠ .tbl ps := by
  unfold dT at h
  cases e : H a with
  | none =>
    rw [e] at h
    cases h
  | some u =>
    rw [e] at h
    cases u <;> first | (cases h; exact ⟨rfl, fun _ z => by cases z⟩) | cases h
theorem dT_none {H : Hp} {a : Addr} (h : H a = none) : dT H a = none := by
  unfold dT
  rw [h]
theorem ext_dT {H H' : Hp} (e : LamX.ExtN H H') : Same (dT H) H' := fun a o h => e a o (dT_some h).1 (dT_some h).2
theorem dT_ext {H H' : Hp} (s : Same (dT H) H') : LamX.ExtN H H' := fun _ _ h n => s _ _ (dT_of h n)
theorem dT_same (H : Hp) : Same (dT H) H := fun _ _ h => (dT_some h).1
theorem dT_seq {K : PySem.W.Frag} {H : Hp} {a : Addr} {xs : List V} (h : SqL K H a xs ∨ SqT K H a xs) : SqL K (dT H) a xs ∨ SqT K (dT H) a xs := by
  rcases h with ((h | ⟨o, h⟩) | h) | ((h | ⟨o, h⟩) | h)
  · exact .inl (.inl (.inl (dT_of h fun _ z => by cases z)))
  · exact .inl (.inl (.inr ⟨o, dT_of h fun _ z => by cases z⟩))
  · exact .inl (.inr h)
  · exact .inr (.inl (.inl (dT_of h fun _ z => by cases z)))
  · exact .inr (.inl (.inr ⟨o, dT_of h fun _ z => by cases z⟩))
  · exact .inr (.inr h)
theorem dT_rows {α : Type} {f : α → List V} {H : Hp} {L : List (Addr × α)} (h : RowsAt f H L) : RowsAt f (dT H) L := fun q hq => dT_of (h q hq) fun _ z => by cases z
theorem dT_trans {H H1 H2 : Hp} (a : Same (dT H) H1) (b : Same (dT H1) H2) : Same (dT H) H2 := fun c o h => b c o (dT_of (a c o h) (dT_some h).2)
/-- a list is written: the tables stay -/
theorem tabs_upd {TT : List (Addr × Str)} {H : Hp} {a : Addr} {xs : List V} {o : HO} (t : LamX.Tabs TT H) (h : H a = some (.lst xs)) : LamX.Tabs TT (upd H a o) := fun p hp => by
  obtain ⟨ps, h1, h2, h3⟩ := t p hp
  refine ⟨ps, ?_, h2, fun pos cv hc => ?_⟩
  · rw [upd_ne (ne_of h1 h fun z => by cases z)]
    exact h1
  · obtain ⟨c, e1, e2⟩ := h3 pos cv hc
    refine ⟨c, e1, ?_⟩
    rw [upd_ne (ne_of e2 h fun z => by unfold LamX.CodeO at z; cases z)]
    exact e2
def codeS (s : Str) : List Nat := s.cps.toList
theorem codeS_inj {s t : Str} (h : codeS s = codeS t) : s = t := by
  obtain ⟨a⟩ := s
  obtain ⟨b⟩ := t
  have e : a.toList = b.toList := h
  rw [show a = b from Array.toList_inj.mp e]
theorem rising_pair : ∀ (p : Str) (l : List Str), risingS p l = true → (p :: l).Pairwise fun a b => codeS a ≤ codeS b
  | p, [], _ => List.pairwise_singleton _ _
  | p, x :: r, h => by
    have h0 : (!ltCps x.cps.toList p.cps.toList && risingS x r) = true := h
    rw [Bool.and_eq_true, ltCps_eq] at h0
    have h1 : codeS p ≤ codeS x := by
      have := h0.1
      rw [Bool.not_eq_true', decide_eq_false_iff_not] at this
      exact List.not_lt.mp this
    have h2 := rising_pair x r h0.2
    refine List.pairwise_cons.mpr ⟨fun y hy => ?_, h2⟩
    rcases List.mem_cons.mp hy with rfl | hy
    · exact h1
    · exact List.le_trans h1 ((List.pairwise_cons.mp h2).1 y hy)
theorem sorted_pair : ∀ {l : List Str}, sortedS l = true → l.Pairwise fun a b => codeS a ≤ codeS b
  | [], _ => .nil
  | x :: r, h => rising_pair x r h
theorem sort_one {l m : List Str} (p : l.Perm m) (h1 : sortedS l = true) (h2 : sortedS m = true) : l = m :=
  List.Perm.eq_of_pairwise (le := fun a b => codeS a ≤ codeS b) (fun _ _ _ _ a b => codeS_inj (List.le_antisymm a b)) (sorted_pair h1) (sorted_pair h2) p
open Classical in
/-- what f knows of at most -/
noncomputable def mostO (f : Int → Option Int) : Option Int := if h : ∃ r, IsMost f r then choose h else none
theorem most_is {f : Int → Option Int} {r : Option Int} (h : IsMost f r) : r = mostO f := by
  unfold mostO
  rw [dif_pos ⟨r, h⟩]
  exact most_one h (Classical.choose_spec (⟨r, h⟩ : ∃ r, IsMost f r))
/-- how many of all wants, these names among them -/
noncomputable def manyF (is : List (Int × Int)) (ws : List Wt) (nm : List Str) : Option Int := mostO (leastF is nm (sortW ws))
noncomputable def takeN (is : List (Int × Int)) (ws : List Wt) (acc : List Str) (n : Str) : List Str := if manyF is ws (acc ++ [n]) = manyF is ws [] then acc ++ [n] else acc
noncomputable def greedF (is : List (Int × Int)) (ws : List Wt) (ns : List Str) : List Str := ns.foldl (takeN is ws) []
theorem greed_snoc (is : List (Int × Int)) (ws : List Wt) (ns : List Str) (n : Str) : greedF is ws (ns ++ [n]) = takeN is ws (greedF is ws ns) n := by
  unfold greedF
  rw [List.foldl_append]
  rfl
theorem greed_len (is : List (Int × Int)) (ws : List Wt) (ns : List Str) : (greedF is ws ns).length ≤ ns.length := by
  refine snoc_ind (P := fun ns => (greedF is ws ns).length ≤ ns.length) (Nat.le_refl 0) (fun l a ih => ?_) ns
  rw [greed_snoc, List.length_append]
  unfold takeN
  split
  · rw [List.length_append]
    show _ + 1 ≤ _ + 1
    omega
  · show _ ≤ _ + 1
    omega
theorem optV_dec (r s : Option Int) : decide (optV r = optV s) = decide (r = s) := by
  cases r <;> cases s <;> simp [optV]
theorem scal_opt (r s : Option Int) : scal (optV r) (optV s) = true := by
  cases r <;> cases s <;> rfl
/-! ### most_paid -/
abbrev s_most_paid : Stmt := topS 5
abbrev N_most_paid : List Str := ["wants", "incomes", "most", "names", "name", "want"]
theorem sc_most_paid : FnScope N_most_paid ["wants", "incomes"] (defScope s_most_paid) := ⟨rfl, rfl, rfl, by decide +kernel, rfl, by decide +kernel, by decide +kernel⟩
def sp_most_paid (K : PySem.W.Frag) (TT : List (Addr × Str)) : Sp := fun vs H Q _ => ∃ (a c : Addr) (L : List (Addr × Wt)) (M : List (Addr × (Int × Int))), vs = [.ref a, .ref c] ∧ (SqL K H a (refs L) ∨ SqT K H a (refs L)) ∧ RowsAt wV H L ∧ L.length ≤ 60 ∧ (SqL K H c (refs M) ∨ SqT K H c (refs M)) ∧ RowsAt iV H M ∧ M.length ≤ 1000 ∧ LamX.Tabs TT H ∧
  ∀ H' D ns, Same (dT H) H' → LamX.Tabs TT H' → dT H D = none → ns.Perm ((L.map (·.2)).map (·.n)) → sortedS ns = true → H' D = some (.lst ((greedF (M.map (·.2)) (L.map (·.2)) ns).map V.str)) → Q (.ref D) H'
theorem ok_most_paid {f : Addr} {fd : FuncData} (F : Fun K "most_paid" "most_paid" s_most_paid f fd) (g : mg "most_paid" = some (.ref f)) (bd : Binds K fd ["wants", "incomes"] []) {TT : List (Addr × Str)} (m_sorted : mg "sorted" = none) (C_most_with : CF P w K mg base 3 "most_with" ["wants", "incomes", "names"] (sp_most_with K TT)) : CF P w K mg base 4 "most_paid" ["wants", "incomes"] (sp_most_paid K TT) := by
  refine ⟨f, fd, F.ok sc_most_paid (fun vs H Q E h => ?_) (fun cdv A outer s H vs Q E hr h => ?_), g, F.kp, bd⟩
  · first | (obtain ⟨_, rfl, _⟩ := h; rfl) | (obtain ⟨_, _, rfl, _⟩ := h; rfl) | (obtain ⟨_, _, _, rfl, _⟩ := h; rfl) | (obtain ⟨_, _, _, _, rfl, _⟩ := h; rfl) | (obtain ⟨_, _, _, _, _, rfl, _⟩ := h; rfl) | (obtain ⟨_, _, _, _, _, _, rfl, _⟩ := h; rfl) | (obtain ⟨_, _, _, _, _, _, _, rfl, _⟩ := h; rfl) | (obtain ⟨_, _, _, _, _, _, _, _, rfl, _⟩ := h; rfl) | (obtain ⟨_, _, _, _, _, _, _, _, _, rfl, _⟩ := h; rfl) | (obtain ⟨_, _, _, _, _, _, _, _, _, _, rfl, _⟩ := h; rfl) | (obtain ⟨_, _, _, _, _, _, _, _, _, _, _, rfl, _⟩ := h; rfl) | (obtain ⟨_, _, _, _, _, _, _, _, _, _, _, _, rfl, _⟩ := h; rfl) | (obtain ⟨_, _, _, _, _, _, _, _, _, _, _, _, _, rfl, _⟩ := h; rfl) | (obtain ⟨_, _, _, _, _, _, _, _, _, _, _, _, _, _, rfl, _⟩ := h; rfl) | (obtain ⟨_, _, _, _, _, _, _, _, _, _, _, _, _, _, _, rfl, _⟩ := h; rfl)
  · have hu64 := hr.units
    obtain ⟨a, c, L, M, rfl, hS, hR, small, hS2, hR2, small2, hT, q⟩ := h
    refine ⟨_, (pss_cons (ps_set (i := 2) sc_most_paid.nd rfl (.inl rfl) (pe_cf C_most_with (hr.mono (by decide)) (by rfl) (pa_cons (pv 0) (pa_cons (pv 1) (pa_cons (pe_lst pa_nil) pa_nil)))))
      (pss_cons (ps_set (i := 3) sc_most_paid.nd rfl (.inl rfl) (pe_lst pa_nil))
      (pss_cons (ps_for PassesOwn.never rfl (pi_list (pe_callB (SD.kk_sortedS K) (by rfl) m_sorted (by decide +kernel) (pa_cons (pe_lc (own := [("want", 5)]) (g := (gName 5)) (tt := tYes) rfl sc_most_paid.nd (pi_or (pi_list (pv 0)) (pi_tup (pv 0))) (blkOk_by (own := [("want", 5)]) (N := N_most_paid) (sc := defScope s_most_paid) (by decide +kernel)) (fun _ _ _ _ _ => pg_name (i := 5) sc_most_paid.nd rfl (Or.inl rfl)) (fun _ _ _ _ _ => pts_nil) (fun _ _ _ _ _ => (pe_ix (kk_ixt K) (pv 5) pe_int (fun _ _ => rfl)))) pa_nil))) (pg_name (i := 4) sc_most_paid.nd rfl (.inl rfl))
         (pss_one (ps_if (pt_cmpR op_eq (pe_cf C_most_with (hr.mono (by decide)) (by rfl) (pa_cons (pv 0) (pa_cons (pv 1) (pa_cons (pe_op op_cat (pv 3) (pe_lst (pa_cons (pv 4) pa_nil))) pa_nil)))) (pv 2) (nomark _))
             (pss_one (ps_expr (pe_bm PySem.F.plainAttrs_list PySem.F.slot_list_append PySem.F.type_list_append mt_append (pv 3) (pa_cons (pv 4) pa_nil))))
             pss_nil)))
      (pss_one (ps_ret (pv 3)))))), ?_⟩
    refine ⟨_, rfl, _, rfl, (by show 0 ≤ sizeLine; decide), fun z nz => ⟨a, c, z, L, M, [], rfl, seq_same hS (same_new nz), hR.same (same_new nz), by omega, seq_same hS2 (same_new nz), hR2.same (same_new nz), small2, .inl (SqL.of upd_same), hT.ext (same_new nz), fun H1 r e1 T1 most => ?_⟩⟩
    rw [most_is most]
    have s1 : Same (dT H) H1 := dT_trans (ext_dT (ext_same (same_new nz))) (ext_dT e1)
    refine ⟨(by show 0 ≤ sizeLine; decide), fun b nb => ?_⟩
    have nbT : dT H b = none := none_of s1 nb
    have S1 := seq_same (dT_seq hS) s1
    have R1 := (dT_rows hR).same s1
    have S21 := seq_same (dT_seq hS2) s1
    have R21 := (dT_rows hR2).same s1
    have v2 := same_new (o := .lst []) nb
    have hb2 := upd_same (H := H1) (a := b) (o := .lst [])
    have S2 := seq_same S1 v2
    have R2 := R1.same v2
    have T2 := T1.ext v2
    generalize upd H1 b (.lst []) = H2 at *
    refine walk_or rfl S2 fun J ok D nD => rows_lc (fun _ : Wt => true) (fun q => V.str q.2.n) ok R2 (by omega) nD (fun q hq G s hG Y N h1 h2 => ⟨rfl, _, rfl, q.1, _, _, _, rfl, rfl, SqT.of hG, rfl, h1 rfl⟩) (fun H3 s3 hD => ?_)
    rw [List.filter_eq_self.mpr (fun _ _ => rfl)] at hD
    have hD : H3 D = some (.lst (((L.map (·.2)).map (·.n)).map V.str)) := by
      rw [hD, List.map_map, List.map_map]
      rfl
    refine ⟨D, (L.map (·.2)).map (·.n), rfl, SqL.of hD, by rw [List.length_map, List.length_map]; omega, fun ns p pm srt np => ⟨p, rfl, ⟨_, SqL.of upd_same⟩, ?_⟩⟩
    have lns : ns.length ≤ 60 := by
      rw [pm.length_eq, List.length_map, List.length_map]
      exact small
    have v4 := same_new (o := .lst (ns.map V.str)) np
    have hp := upd_same (H := H3) (a := p) (o := .lst (ns.map V.str))
    have v14 := (v2.trans s3).trans v4
    have hb4 := v4 _ _ (s3 _ _ hb2)
    have T4 := (T2.ext s3).ext v4
    have npb : p ≠ b := (ne_of_none (s3 _ _ hb2) np).symm
    generalize upd H3 p (.lst (ns.map V.str)) = H4 at *
    refine for_list (K := K) (a := p) (xs := ns.map V.str) (fun i σ G => ∃ (s4 s5 : Option V), σ = [some (.ref a), some (.ref c), some (optV (manyF (M.map (·.2)) (L.map (·.2)) [])), some (.ref b), s4, s5] ∧ Same (dT H1) G ∧ LamX.Tabs TT G ∧ G p = some (.lst (ns.map V.str)) ∧ G b = some (.lst ((greedF (M.map (·.2)) (L.map (·.2)) (ns.take i)).map V.str))) ⟨_, _, rfl, (dT_same H1).trans v14, T4, hp, hb4⟩ (fun i σ G _ h => by obtain ⟨_, _, rfl, _, _, s, _⟩ := h; exact SqL.of s) (fun i x σ G hx h => ?_) (fun σ G h => ?_)
    · obtain ⟨s4, s5, rfl, sG, TG, gp, gb⟩ := h
      rw [List.getElem?_map] at hx
      obtain ⟨nm, hn, rfl⟩ := Option.map_eq_some_iff.mp hx
      have lg := greed_len (M.map (·.2)) (L.map (·.2)) (ns.take i)
      rw [List.length_take] at lg
      have up : greedF (M.map (·.2)) (L.map (·.2)) (ns.take (i + 1)) = takeN (M.map (·.2)) (L.map (·.2)) (greedF (M.map (·.2)) (L.map (·.2)) (ns.take i)) nm := by rw [take_snoc hn, greed_snoc]
      generalize greedF (M.map (·.2)) (L.map (·.2)) (ns.take i) = acc at *
      refine ⟨_, rfl, _, rfl, _, rfl, _, rfl, (by show 1 ≤ sizeLine; decide), fun y ny => ?_⟩
      have w1 := same_new (o := .lst [V.str nm]) ny
      refine ⟨b, y, _, _, rfl, rfl, w1 _ _ gb, upd_same, ?_, fun u nu => ?_⟩
      · rw [List.length_map]
        exact size_small (by show acc.length + 1 ≤ 1000; omega)
      have w2 := same_new (o := .lst (acc.map V.str ++ [V.str nm])) nu
      have hu : upd (upd G y (.lst [V.str nm])) u (.lst (acc.map V.str ++ [V.str nm])) u = some (.lst ((acc ++ [nm]).map V.str)) := by rw [upd_same, List.map_append]; rfl
      have w12 := w1.trans w2
      generalize upd (upd G y (.lst [V.str nm])) u (.lst (acc.map V.str ++ [V.str nm])) = G1 at *
      have sA := sG.trans w12
      refine ⟨a, c, u, L, M, acc ++ [nm], rfl, seq_same (dT_seq S1) sA, (dT_rows R1).same sA, by omega, seq_same (dT_seq S21) sA, (dT_rows R21).same sA, small2, .inl (SqL.of hu), TG.ext w12, fun G2 r2 e2 T2' most2 => ?_⟩
      rw [most_is most2]
      have sB := dT_trans sA (ext_dT e2)
      have gp2 := e2 _ _ (w12 _ _ gp) fun _ z => by cases z
      have gb2 := e2 _ _ (w12 _ _ gb) fun _ z => by cases z
      have go : (decide (optV (mostO (leastF (M.map (·.2)) (acc ++ [nm]) (sortW (L.map (·.2))))) = optV (manyF (M.map (·.2)) (L.map (·.2)) []))) = decide (manyF (M.map (·.2)) (L.map (·.2)) (acc ++ [nm]) = manyF (M.map (·.2)) (L.map (·.2)) []) := optV_dec _ _
      refine ⟨_, rfl, scal_opt _ _, _, rfl, ?_⟩
      rw [go]
      refine ite2 (fun z => ?_) (fun z => ?_)
      · have z1 := of_decide_eq_true z
        refine ⟨_, rfl, .inl ⟨rfl, _, SqL.of gb2⟩, _, rfl, b, _, _, rfl, rfl, gb2, ?_, _, _, rfl, ?_, tabs_upd T2' gb2, ?_, ?_⟩
        · rw [List.length_map]
          exact small1000 (by omega)
        · intro x o hx
          have := sB x o hx
          rw [upd_ne fun e => ?_]
          · exact this
          · rw [e, dT_none nb] at hx
            cases hx
        · rw [upd_ne npb]
          exact gp2
        · rw [upd_same, up]
          unfold takeN
          rw [if_pos z1, List.map_append]
          rfl
      · have z1 : ¬ manyF (M.map (·.2)) (L.map (·.2)) (acc ++ [nm]) = manyF (M.map (·.2)) (L.map (·.2)) [] := fun y => z (decide_eq_true y)
        refine ⟨_, _, rfl, sB, T2', gp2, ?_⟩
        rw [up]
        unfold takeN
        rw [if_neg z1]
        exact gb2
    · obtain ⟨s4, s5, rfl, sG, TG, gp, gb⟩ := h
      rw [List.length_map, List.take_of_length_le (Nat.le_refl _)] at gb
      exact ⟨_, rfl, q G b ns (dT_trans s1 sG) TG nbT pm srt gb⟩
theorem log_few {i : Int} (h0 : 0 ≤ i) (h1 : i ≤ 1000000000) : i.natAbs.log2 < 1920 := by
  by_cases z : i.natAbs = 0
  · rw [z]
    decide
  · have : i.natAbs.log2 < 30 := (Nat.log2_lt z).mpr (by show i.natAbs < 1073741824; omega)
    omega
theorem join_len (sep : Str) : ∀ ts : List Str, (Str.join sep ts).length ≤ (ts.map (·.length)).sum + ts.length * sep.length
  | [] => Nat.zero_le _
  | [x] => by
    show x.length ≤ _
    simp only [List.map_cons, List.map_nil, List.sum_cons, List.sum_nil]
    omega
  | x :: y :: r => by
    have h := join_len sep (y :: r)
    show (x ++ sep ++ Str.join sep (y :: r)).length ≤ _
    rw [len_app, len_app, List.map_cons, List.sum_cons, List.length_cons, Nat.add_mul, Nat.one_mul]
    omega
theorem all_len {B : Nat} : ∀ {l : List PyData}, (∀ d ∈ l, (PyData.shown d).length ≤ B) → ((PyData.shownAll l).map (·.length)).sum ≤ B * l.length ∧ (PyData.shownAll l).length = l.length
  | [], _ => ⟨Nat.le_refl _, rfl⟩
  | d :: r, h => by
    obtain ⟨a, b⟩ := all_len (l := r) fun x hx => h x (List.mem_cons_of_mem _ hx)
    have c := h d List.mem_cons_self
    rw [PyData.shownAll_cons, List.map_cons, List.sum_cons, List.length_cons, List.length_cons, b, Nat.mul_add]
    exact ⟨by omega, rfl⟩
theorem list_len {B : Nat} {l : List PyData} (h : ∀ d ∈ l, (PyData.shown d).length ≤ B) : (PyData.shown (.list l)).length ≤ 2 + (B + 2) * l.length := by
  obtain ⟨a, b⟩ := all_len h
  have c := join_len ", " (PyData.shownAll l)
  rw [PyData.shown_list, len_app, len_app]
  have e1 : (Str.ofString "[").length = 1 := rfl
  have e2 : (Str.ofString "]").length = 1 := rfl
  have e3 : (Str.ofString ", ").length = 2 := rfl
  rw [e1, e2]
  rw [b, e3] at c
  rw [Nat.add_mul]
  omega
theorem all_seen {k : Nat} : ∀ {l : List PyData}, (∀ d ∈ l, d.showable = true ∧ d.hasDict = false ∧ d.depth ≤ k) → PyData.showableAll l = true ∧ PyData.hasDictAll l = false ∧ PyData.depthAll l ≤ k
  | [], _ => by simp [PyData.showableAll, PyData.hasDictAll, PyData.depthAll]
  | d :: r, h => by
    obtain ⟨a, b, c⟩ := h d List.mem_cons_self
    obtain ⟨a2, b2, c2⟩ := all_seen (l := r) fun x hx => h x (List.mem_cons_of_mem _ hx)
    simp only [PyData.showableAll, PyData.hasDictAll, PyData.depthAll, a, b, a2, b2, Bool.and_self, Bool.or_self]
    exact ⟨trivial, trivial, by omega⟩
theorem int_len {i : Int} (h0 : 0 ≤ i) (h1 : i ≤ 1000000000) : (PyData.shown (.int i)).length ≤ 10 := by
  have l1 := PyProof.Rows.toString_length_le (v := i) h0 (k := 10) (by decide) (by show i < 10000000000; omega)
  have e1 : PyData.shown (.int i) = Str.ofString (toString i) := by simp only [PyData.shown]
  rw [e1]
  exact l1
theorem wt_seen {w : Wt} (h : WtOk w) : (wtD w).showable = true ∧ (wtD w).hasDict = false ∧ (wtD w).depth ≤ 2 := by
  obtain ⟨_, a, b, c, d⟩ := h
  have h1 := log_few (i := w.p) (by omega) (by omega)
  have h2 := log_few (i := w.l) c (by omega)
  simp [wtD, PyData.showable, PyData.showableAll, PyData.hasDict, PyData.hasDictAll, PyData.depth, PyData.depthAll, h1, h2]
theorem wt_len {w : Wt} (h : WtOk w) : (PyData.shown (wtD w)).length ≤ 150 := by
  obtain ⟨⟨n1, n2⟩, a, b, c, d⟩ := h
  have l1 := int_len (i := w.p) (by omega) (by omega)
  have l2 := int_len (i := w.l) c (by omega)
  have l3 := StrLaws.reprText_len w.n (fun x hx => Nat.lt_of_lt_of_le (n1 x hx) (by decide))
  unfold wtD
  rw [PyData.shown_tuple, PyData.shownAll_cons, PyData.shownAll_cons, PyData.shownAll_cons, PyData.shownAll_nil, PyData.shown_str]
  show (_ ++ (reprText w.n ++ _ ++ (PyData.shown (.int w.p) ++ _ ++ PyData.shown (.int w.l))) ++ _).length ≤ 150
  rw [len_app, len_app, len_app, len_app, len_app, len_app]
  show 1 + ((reprText w.n).length + 2 + ((PyData.shown (.int w.p)).length + 2 + (PyData.shown (.int w.l)).length)) + 1 ≤ 150
  omega
theorem in_seen {i : Int × Int} (h : InOk i) : (prD2 i).showable = true ∧ (prD2 i).hasDict = false ∧ (prD2 i).depth ≤ 2 := by
  obtain ⟨a, b, c, d⟩ := h
  have h1 := log_few (i := i.1) a (by omega)
  have h2 := log_few (i := i.2) c d
  simp [prD2, PyData.showable, PyData.showableAll, PyData.hasDict, PyData.hasDictAll, PyData.depth, PyData.depthAll, h1, h2]
theorem in_len {i : Int × Int} (h : InOk i) : (PyData.shown (prD2 i)).length ≤ 150 := by
  obtain ⟨a, b, c, d⟩ := h
  have l1 := int_len (i := i.1) a (by omega)
  have l2 := int_len (i := i.2) c d
  unfold prD2
  rw [PyData.shown_tuple, PyData.shownAll_cons, PyData.shownAll_cons, PyData.shownAll_nil]
  show (_ ++ (PyData.shown (.int i.1) ++ _ ++ PyData.shown (.int i.2)) ++ _).length ≤ 150
  rw [len_app, len_app, len_app, len_app]
  show 1 + ((PyData.shown (.int i.1)).length + 2 + (PyData.shown (.int i.2)).length) + 1 ≤ 150
  omega
def bothD (W : List (Addr × Wt)) (M : List (Addr × (Int × Int))) : PyData := .list [.list (W.map fun q => wtD q.2), .list (M.map fun q => prD2 q.2)]
theorem both_seen {W : List (Addr × Wt)} {M : List (Addr × (Int × Int))} (hW : ∀ q ∈ W, WtOk q.2) (hM : ∀ q ∈ M, InOk q.2) (lW : W.length ≤ 24) (lM : M.length ≤ 41) : (bothD W M).showable = true ∧ (PyData.shown (bothD W M)).length ≤ sizeLine ∧ (bothD W M).depth ≤ 60 ∧ (bothD W M).hasDict = false := by
  obtain ⟨a1, a2, a3⟩ := all_seen (k := 2) (l := W.map fun q => wtD q.2) fun d hd => by
    obtain ⟨q, hq, rfl⟩ := List.mem_map.mp hd
    exact wt_seen (hW q hq)
  obtain ⟨b1, b2, b3⟩ := all_seen (k := 2) (l := M.map fun q => prD2 q.2) fun d hd => by
    obtain ⟨q, hq, rfl⟩ := List.mem_map.mp hd
    exact in_seen (hM q hq)
  have c1 := list_len (B := 150) (l := W.map fun q => wtD q.2) fun d hd => by
    obtain ⟨q, hq, rfl⟩ := List.mem_map.mp hd
    exact wt_len (hW q hq)
  have c2 := list_len (B := 150) (l := M.map fun q => prD2 q.2) fun d hd => by
    obtain ⟨q, hq, rfl⟩ := List.mem_map.mp hd
    exact in_len (hM q hq)
  rw [List.length_map] at c1 c2
  have c3 := list_len (B := 10000) (l := [.list (W.map fun q => wtD q.2), .list (M.map fun q => prD2 q.2)]) fun d hd => by
    rcases List.mem_cons.mp hd with rfl | hd
    · omega
    · rw [List.mem_singleton.mp hd]
      omega
  unfold bothD
  refine ⟨by simp [PyData.showable, PyData.showableAll, a1, b1], ?_, ?_, by simp [PyData.hasDict, PyData.hasDictAll, a2, b2]⟩
  · refine Nat.le_trans c3 ?_
    rw [sizeLine_eq]
    show 2 + (10000 + 2) * 2 ≤ 16777216
    decide
  · simp only [PyData.depth, PyData.depthAll]
    omega
theorem both_dp {K : PySem.W.Frag} {H : Hp} {l a c : Addr} {W : List (Addr × Wt)} {M : List (Addr × (Int × Int))} (hl : H l = some (.lst [.ref a, .ref c])) (ha : H a = some (.lst (refs W))) (hW : RowsAt wV H W) (hc : H c = some (.lst (refs M))) (hM : RowsAt iV H M) : Dp K H (.ref l) (bothD W M) :=
  .lst (SqL.of hl) (.cons (.lst (SqL.of ha) (row_dp wV_dp hW)) (.cons (.lst (SqL.of hc) (row_dp iV_dp hM)) .nil))
section
variable {K : PySem.W.Frag} {σ : L2.St} {H : Hp} {Q : VK} {b : Addr} {n : Int}
theorem great_any {k : Int} (h1 : σ[1]? = some (some (.int k))) (h2 : σ[2]? = some (some (.ref b))) (hb : Three H b n) (hn : n < 1000000) (q : ∀ (gr : Bool) H2, Three H2 b (n + 1) → But b H H2 → Q (.bl gr) H2) :
    tAndV (tOp rEq (tVar 1) (tC (V.int 0))) (tOp rEq (tCall (sp__law_pick K) [] E0 (tCons (tVar 2) (tCons (tC (V.int 6)) tNil))) (tC (V.int 0))) σ H Q := by
  refine ⟨_, h1, rfl, _, rfl, ite2 (fun _ => ?_) (fun z => ?_)⟩
  · exact ⟨_, h2, b, 6, n, rfl, hb, by decide, by decide, by omega, fun x H2 _ _ b2 t2 => ⟨rfl, q _ _ b2 t2⟩⟩
  · exact q _ _ (hb.mono (by omega)) (But.refl b H)
theorem many_g {x m : Int} {gr : Bool} (h1 : σ[3]? = some (some (.bl gr))) (h2 : σ[2]? = some (some (.ref b))) (hb : Three H b n) (hn : n < 1000000) (m0 : 0 < m) (m1 : m < 1000) (q : ∀ (v : Int) H2, (v = x ∨ (0 ≤ v ∧ v < m)) → Three H2 b (n + 1) → But b H H2 → Q (.int v) H2) :
    tIf (tB (tVar 3)) (tC (V.int x)) (tCall (sp__law_pick K) [] E0 (tCons (tVar 2) (tCons (tC (V.int m)) tNil))) σ H Q := by
  refine ⟨_, h1, gr, rfl, ?_⟩
  cases gr with
  | true => exact iteT (q x H (.inl rfl) (hb.mono (by omega)) (But.refl b H))
  | false => exact iteF ⟨_, h2, b, m, n, rfl, hb, m0, by omega, by omega, fun y H2 y0 y1 b2 t2 => q y H2 (.inr ⟨y0, y1⟩) b2 t2⟩
end
theorem nePairs {K : PySem.W.Frag} {H : Hp} {a c : Addr} {S T : List (Addr × (Int × Int))} {Q : VK} (ha : H a = some (.lst (refs S))) (hc : H c = some (.lst (refs T))) (hS : RowsAt iV H S) (hT : RowsAt iV H T) (e : S.map (·.2) = T.map (·.2)) (q : Q (.bl false) H) : rNeD K (.ref a) (.ref c) H Q := by
  refine ⟨_, _, pairs_dp (SqL.of ha) hS, pairs_dp (SqL.of hc) hT, sh_pairs _, sh_pairs _, ?_⟩
  rw [e, eqv_pairs]
  exact q
theorem sel_all {ws : List Wt} : selF (ws.map (·.n)) ws = ws := List.filter_eq_self.mpr fun w hw => decide_eq_true (List.mem_map.mpr ⟨w, hw, rfl⟩)
theorem short_perm {ws vs : List Wt} {is js : List (Int × Int)} (p : ws.Perm vs) (r : is.Perm js) (ns : List Int) : shortF ws is ns = shortF vs js ns := by
  unfold shortF
  congr 1
  refine List.map_congr_left fun d _ => ?_
  rw [due_perm p, com_perm r]
theorem bl_ne (x : Bool) : (!decide (V.bl x = V.bl x)) = false := by simp
/-! ### what can be paid: a purse that never falls below nought -/
def okF (ws : List Wt) (is : List (Int × Int)) : Bool := decide (∀ w ∈ ws, dueF ws w.l ≤ comF is w.l)
theorem ok_short {ws : List Wt} {is : List (Int × Int)} {ns : List Int} (h : Lasts ws ns) : decide (shortF ws is ns = []) = okF ws is := by
  unfold okF
  rw [decide_eq_decide]
  unfold shortF
  rw [List.filter_eq_nil_iff]
  constructor
  · intro c w hw
    have hk := (h.2 w.l).mpr ⟨w, hw, rfl⟩
    have := c (w.l, dueF ws w.l - comF is w.l) (List.mem_map.mpr ⟨w.l, hk, rfl⟩)
    rw [decide_eq_true_eq] at this
    omega
  · intro c q hq
    obtain ⟨d, hd, rfl⟩ := List.mem_map.mp hq
    obtain ⟨w, hw, e⟩ := (h.2 d).mp hd
    have := c w hw
    rw [e] at this
    rw [decide_eq_true_eq]
    omega
def amt (l : List Tr) : Int := (l.map (·.2.2)).sum
def upTo (l : List Tr) (d : Int) : List Tr := l.filter fun t => decide (t.1 ≤ d)
def deedsOf (ws : List Wt) (is : List (Int × Int)) : List Tr := (is.map fun i => (i.1, 0, i.2)) ++ ws.map fun w => (w.l, 1, -w.p)
theorem neg_sum : ∀ l : List Int, (l.map fun x => -x).sum = -l.sum
  | [] => rfl
  | x :: r => by
    rw [List.map_cons, List.sum_cons, List.sum_cons, neg_sum r]
    omega
theorem amt_upTo (ws : List Wt) (is : List (Int × Int)) (d : Int) : amt (upTo (deedsOf ws is) d) = comF is d - dueF ws d := by
  unfold amt upTo deedsOf comF dueF
  rw [List.filter_append, List.map_append, List.sum_append, List.filter_map, List.filter_map, List.map_map, List.map_map]
  have e := neg_sum ((ws.filter fun w => decide (w.l ≤ d)).map (·.p))
  rw [List.map_map] at e
  show ((is.filter fun i => decide (i.1 ≤ d)).map fun i => i.2).sum + ((ws.filter fun w => decide (w.l ≤ d)).map fun w => -w.p).sum = _
  have e2 : ((ws.filter fun w => decide (w.l ≤ d)).map fun w => -w.p).sum = -((ws.filter fun w => decide (w.l ≤ d)).map (·.p)).sum := e
  rw [e2]
  omega
theorem amt_perm {l m : List Tr} (p : l.Perm m) (d : Int) : amt (upTo l d) = amt (upTo m d) := perm_sum ((p.filter _).map _)
theorem upTo_take : ∀ {l : List Tr} (d : Int), l.Pairwise (fun x y => lt3 y x = false) → ∃ k, k ≤ l.length ∧ upTo l d = l.take k
  | [], d, _ => ⟨0, Nat.le_refl _, rfl⟩
  | t :: r, d, h => by
    obtain ⟨h1, h2⟩ := List.pairwise_cons.mp h
    by_cases c : t.1 ≤ d
    · obtain ⟨k, hk, e⟩ := upTo_take d h2
      refine ⟨k + 1, by rw [List.length_cons]; omega, ?_⟩
      unfold upTo at e ⊢
      rw [List.filter_cons_of_pos (p := fun t : Tr => decide (t.1 ≤ d)) (decide_eq_true c), e]
      rfl
    · refine ⟨0, Nat.zero_le _, ?_⟩
      unfold upTo
      rw [List.take_zero, List.filter_eq_nil_iff]
      intro x hx
      rw [decide_eq_true_eq]
      rcases List.mem_cons.mp hx with rfl | hx
      · exact c
      · have := lt3_no.mp (h1 x hx)
        omega
def Sorts (l : List Tr) : Prop := ∀ t ∈ l, (t.2.1 = 0 ∧ 0 ≤ t.2.2) ∨ (t.2.1 = 1 ∧ t.2.2 ≤ 0)
theorem amt_app (l m : List Tr) : amt (l ++ m) = amt l + amt m := by
  unfold amt
  rw [List.map_append, List.sum_append]
theorem amt_neg : ∀ {l : List Tr}, (∀ t ∈ l, t.2.2 ≤ 0) → amt l ≤ 0
  | [], _ => Int.le_refl 0
  | t :: r, h => by
    have a := h t List.mem_cons_self
    have b := amt_neg (l := r) fun x hx => h x (List.mem_cons_of_mem _ hx)
    show (t.2.2 :: r.map (·.2.2)).sum ≤ 0
    rw [List.sum_cons]
    show t.2.2 + amt r ≤ 0
    omega
theorem upTo_all {l : List Tr} {d : Int} (h : ∀ t ∈ l, t.1 ≤ d) : upTo l d = l := List.filter_eq_self.mpr fun t ht => decide_eq_true (h t ht)
/-- where the first prefix falls below nought -/
theorem fall_at {l : List Tr} (hs : l.Pairwise (fun x y => lt3 y x = false)) (ho : Sorts l) {i : Nat} {t : Tr} (ht : l[i]? = some t) (h0 : 0 ≤ amt (l.take i)) (h1 : amt (l.take (i + 1)) < 0) : t.2.1 = 1 ∧ amt (upTo l t.1) < 0 := by
  have hm := List.mem_of_getElem? ht
  have e : amt (l.take (i + 1)) = amt (l.take i) + t.2.2 := by
    rw [take_snoc ht, amt_app]
    show _ + (t.2.2 + 0) = _
    omega
  have hone : t.2.1 = 1 := by
    rcases ho t hm with h | h
    · omega
    · exact h.1
  refine ⟨hone, ?_⟩
  have split := List.take_append_drop (i + 1) l
  have hp := hs
  rw [← split] at hp
  obtain ⟨p1, p2, p3⟩ := List.pairwise_append.mp hp
  have tm : t ∈ l.take (i + 1) := by
    rw [take_snoc ht]
    exact List.mem_append_right _ (List.mem_singleton.mpr rfl)
  have all1 : ∀ x ∈ l.take (i + 1), x.1 ≤ t.1 := fun x hx => by
    rw [take_snoc ht] at hx p1
    obtain ⟨_, _, q3⟩ := List.pairwise_append.mp p1
    rcases List.mem_append.mp hx with h | h
    · have := lt3_no.mp (q3 x h t (List.mem_singleton.mpr rfl))
      omega
    · rw [List.mem_singleton.mp h]
      exact Int.le_refl _
  have e2 : upTo l t.1 = l.take (i + 1) ++ upTo (l.drop (i + 1)) t.1 := by
    have e5 := upTo_all all1
    unfold upTo at e5 ⊢
    conv => rhs; arg 1; rw [← e5]
    rw [← List.filter_append, split]
  rw [e2, amt_app]
  have : amt (upTo (l.drop (i + 1)) t.1) ≤ 0 := amt_neg fun x hx => by
    obtain ⟨hx1, hx2⟩ := List.mem_filter.mp hx
    have c1 := of_decide_eq_true hx2
    have c2 := lt3_no.mp (p3 t tm x hx1)
    rcases ho x (List.mem_of_mem_drop hx1) with h | h
    · omega
    · exact h.2
  omega
theorem fine_all {l : List Tr} (hs : l.Pairwise (fun x y => lt3 y x = false)) (h : ∀ i, i ≤ l.length → 0 ≤ amt (l.take i)) (d : Int) : 0 ≤ amt (upTo l d) := by
  obtain ⟨k, hk, e⟩ := upTo_take d hs
  rw [e]
  exact h k hk
theorem ok_iff {ws : List Wt} {is : List (Int × Int)} {l : List Tr} (p : l.Perm (deedsOf ws is)) : okF ws is = true ↔ ∀ w ∈ ws, 0 ≤ amt (upTo l w.l) := by
  unfold okF
  rw [decide_eq_true_eq]
  constructor
  · intro h w hw
    rw [amt_perm p, amt_upTo]
    have := h w hw
    omega
  · intro h w hw
    have := h w hw
    rw [amt_perm p, amt_upTo] at this
    omega
def NamesAt (H : Hp) (L : List (Addr × List Str)) : Prop := ∀ q ∈ L, H q.1 = some (.lst (q.2.map V.str))
theorem NamesAt.same {H H' : Hp} {L : List (Addr × List Str)} (h : NamesAt H L) (e : Same H H') : NamesAt H' L := fun q hq => e _ _ (h q hq)
def But2 (b c : Addr) (H H' : Hp) : Prop := ∀ x o, x ≠ b → x ≠ c → H x = some o → H' x = some o
theorem But2.refl (b c : Addr) (H : Hp) : But2 b c H H := fun _ _ _ _ h => h
theorem But2.but {b c : Addr} {H H1 H2 : Hp} (x : But2 b c H H1) (y : But b H1 H2) : But2 b c H H2 := fun a o n1 n2 h => y _ _ n1 (x _ _ n1 n2 h)
theorem But2.same {b c : Addr} {H H1 H2 : Hp} (x : But2 b c H H1) (y : Same H1 H2) : But2 b c H H2 := fun a o n1 n2 h => y _ _ (x _ _ n1 n2 h)
theorem But2.upd {b c : Addr} {H H1 : Hp} {o : HO} (x : But2 b c H H1) : But2 b c H (L2.upd H1 c o) := fun a o n1 n2 h => by
  rw [upd_ne n2]
  exact x _ _ n1 n2 h
theorem NamesAt.but2 {b c : Addr} {H H' : Hp} {L : List (Addr × List Str)} (h : NamesAt H L) (u : ∀ q ∈ L, q.1 ≠ b ∧ q.1 ≠ c) (t : But2 b c H H') : NamesAt H' L := fun q hq => t _ _ (u q hq).1 (u q hq).2 (h q hq)
theorem RowsAt.but2 {α : Type} {f : α → List V} {b c : Addr} {xs ys : List V} {H H' : Hp} {L : List (Addr × α)} (h : RowsAt f H L) (hb : H b = some (.lst xs)) (hc : H c = some (.lst ys)) (t : But2 b c H H') : RowsAt f H' L := fun q hq => t _ _ (ne_of (h q hq) hb (by intro z; cases z)) (ne_of (h q hq) hc (by intro z; cases z)) (h q hq)
theorem str_lay {s : Str} (h : Nm s) : PyData.canLay0 (.str s) = true ∧ PyData.depth (.str s) ≤ 60 := by
  simp [PyData.canLay0, PyData.depth, strOk_asc h.1]
/-! ### the most that can be paid, and the first of the longest -/
def tot (ws : List Wt) : Int := (ws.map (·.p)).sum
theorem due_snoc (T : List Wt) (w : Wt) (d : Int) : dueF (T ++ [w]) d = dueF T d + if w.l ≤ d then w.p else 0 := by
  unfold dueF
  rw [List.filter_append, List.map_append, List.sum_append]
  congr 1
  by_cases h : w.l ≤ d
  · rw [List.filter_cons_of_pos (by simpa using h), if_pos h]
    simp
  · rw [List.filter_cons_of_neg (by simpa using h), if_neg h]
    simp
theorem due_all {T : List Wt} {d : Int} (h : ∀ x ∈ T, x.l ≤ d) : dueF T d = tot T := by
  unfold dueF tot
  rw [List.filter_eq_self.mpr fun x hx => decide_eq_true (h x hx)]
theorem tot_snoc (T : List Wt) (w : Wt) : tot (T ++ [w]) = tot T + w.p := by
  unfold tot
  rw [List.map_append, List.sum_append]
  simp
theorem okF_iff {ws : List Wt} {is : List (Int × Int)} : okF ws is = true ↔ ∀ w ∈ ws, dueF ws w.l ≤ comF is w.l := by
  unfold okF
  rw [decide_eq_true_eq]
theorem ok_snoc {T : List Wt} {w : Wt} {is : List (Int × Int)} (h : ∀ x ∈ T, x.l ≤ w.l) (pw : 0 ≤ w.p) : okF (T ++ [w]) is = true ↔ okF T is = true ∧ tot T + w.p ≤ comF is w.l := by
  rw [okF_iff, okF_iff]
  constructor
  · intro g
    constructor
    · intro x hx
      have := g x (List.mem_append_left _ hx)
      rw [due_snoc] at this
      split at this <;> omega
    · have := g w (List.mem_append_right _ (List.mem_singleton.mpr rfl))
      rw [due_snoc, if_pos (Int.le_refl _), due_all h] at this
      exact this
  · rintro ⟨g, e⟩ x hx
    rw [due_snoc]
    rcases List.mem_append.mp hx with hx | hx
    · by_cases c : w.l ≤ x.l
      · rw [if_pos c]
        have : x.l = w.l := by have := h x hx; omega
        rw [this, due_all h]
        exact e
      · rw [if_neg c]
        have := g x hx
        omega
    · rw [List.mem_singleton.mp hx, if_pos (Int.le_refl _), due_all h]
      exact e
theorem sel_snoc (X : List Str) (T : List Wt) (w : Wt) : selF X (T ++ [w]) = selF X T ++ if w.n ∈ X then [w] else [] := by
  unfold selF
  rw [List.filter_append]
  congr 1
  by_cases h : w.n ∈ X
  · rw [List.filter_cons_of_pos (by simpa using h), if_pos h]
    rfl
  · rw [List.filter_cons_of_neg (by simpa using h), if_neg h]
    rfl
theorem sel_same {X Y : List Str} {T : List Wt} (h : ∀ w ∈ T, (w.n ∈ X ↔ w.n ∈ Y)) : selF X T = selF Y T := by
  unfold selF
  refine List.filter_congr fun w hw => ?_
  rw [decide_eq_decide]
  exact h w hw
theorem dp_all (is : List (Int × Int)) (nm : List Str) (P : List Wt) : P.Pairwise (fun x y => x.l ≤ y.l) → (P.map (·.n)).Nodup → (∀ w ∈ P, 0 ≤ w.p) →
    (∀ k v, leastF is nm P k = some v → ∃ X : List Str, (∀ n ∈ nm, n ∈ X) ∧ okF (selF X P) is = true ∧ ((selF X P).length : Int) = k ∧ tot (selF X P) = v) ∧
    (∀ X : List Str, (∀ n ∈ nm, n ∈ X) → okF (selF X P) is = true → ∃ v, leastF is nm P ((selF X P).length : Int) = some v ∧ v ≤ tot (selF X P)) := by
  refine snoc_ind (P := fun P : List Wt => P.Pairwise (fun x y => x.l ≤ y.l) → (P.map (·.n)).Nodup → (∀ w ∈ P, 0 ≤ w.p) →
    (∀ k v, leastF is nm P k = some v → ∃ X : List Str, (∀ n ∈ nm, n ∈ X) ∧ okF (selF X P) is = true ∧ ((selF X P).length : Int) = k ∧ tot (selF X P) = v) ∧
    (∀ X : List Str, (∀ n ∈ nm, n ∈ X) → okF (selF X P) is = true → ∃ v, leastF is nm P ((selF X P).length : Int) = some v ∧ v ≤ tot (selF X P))) ?_ ?_ P
  · intro _ _ _
    constructor
    · intro k v h
      have h : leastO k = some v := h
      unfold leastO at h
      split at h
      · rename_i c
        cases h
        exact ⟨nm, fun n hn => hn, okF_iff.mpr (fun w hw => by cases hw), c.symm, rfl⟩
      · cases h
    · intro X _ _
      exact ⟨0, rfl, Int.le_refl 0⟩
  · intro T w ih pw nd pp
    obtain ⟨p1, p2, p3⟩ := List.pairwise_append.mp pw
    rw [List.map_append] at nd
    obtain ⟨n1, _, n3⟩ := List.nodup_append.mp nd
    have hl : ∀ x ∈ T, x.l ≤ w.l := fun x hx => p3 x hx w (List.mem_singleton.mpr rfl)
    have hn : ∀ x ∈ T, x.n ≠ w.n := fun x hx e => n3 x.n (List.mem_map.mpr ⟨x, hx, rfl⟩) w.n (by simp) e
    have p0 : 0 ≤ w.p := pp w (List.mem_append_right _ (List.mem_singleton.mpr rfl))
    obtain ⟨d1, d2⟩ := ih p1 n1 fun x hx => pp x (List.mem_append_left _ hx)
    have hlX : ∀ (X : List Str), ∀ x ∈ selF X T, x.l ≤ w.l := fun X x hx => hl x (List.mem_filter.mp hx).1
    -- with it
    have take : ∀ k v, paidF is (leastF is nm T) w k = some v → ∃ X : List Str, (∀ n ∈ nm, n ∈ X) ∧ w.n ∈ X ∧ okF (selF X (T ++ [w])) is = true ∧ ((selF X (T ++ [w])).length : Int) = k ∧ tot (selF X (T ++ [w])) = v := by
      intro k v h
      unfold paidF at h
      cases e : leastF is nm T (k - 1) with
      | none => rw [e] at h; cases h
      | some u =>
        rw [e] at h
        have h : payO w.p (comF is w.l) u = some v := h
        unfold payO at h
        split at h
        · rename_i c
          cases h
          obtain ⟨X, x1, x2, x3, x4⟩ := d1 _ _ e
          have es : selF (w.n :: X) T = selF X T := sel_same fun x hx => by
            rw [List.mem_cons]
            exact ⟨fun z => z.resolve_left (hn x hx), .inr⟩
          refine ⟨w.n :: X, fun n hn => List.mem_cons_of_mem _ (x1 n hn), List.mem_cons_self, ?_, ?_, ?_⟩
          · rw [sel_snoc, if_pos List.mem_cons_self, es, ok_snoc (hlX X) p0]
            exact ⟨x2, by rw [x4]; exact c⟩
          · rw [sel_snoc, if_pos List.mem_cons_self, es, List.length_append]
            show (((selF X T).length + 1 : Nat) : Int) = k
            omega
          · rw [sel_snoc, if_pos List.mem_cons_self, es, tot_snoc, x4]
        · cases h
    -- without it
    have leave : w.n ∉ nm → ∀ k v, leastF is nm T k = some v → ∃ X : List Str, (∀ n ∈ nm, n ∈ X) ∧ okF (selF X (T ++ [w])) is = true ∧ ((selF X (T ++ [w])).length : Int) = k ∧ tot (selF X (T ++ [w])) = v := by
      intro nw k v h
      obtain ⟨X, x1, x2, x3, x4⟩ := d1 _ _ h
      have es : selF (X.filter fun n => decide (n ≠ w.n)) T = selF X T := sel_same fun x hx => by
        rw [List.mem_filter]
        exact ⟨fun z => z.1, fun z => ⟨z, decide_eq_true (hn x hx)⟩⟩
      have nin : w.n ∉ X.filter fun n => decide (n ≠ w.n) := fun z => by
        have := (List.mem_filter.mp z).2
        simp at this
      refine ⟨X.filter fun n => decide (n ≠ w.n), fun n hn => List.mem_filter.mpr ⟨x1 n hn, decide_eq_true fun e => nw (e ▸ hn)⟩, ?_, ?_, ?_⟩
      · rw [sel_snoc, if_neg nin, List.append_nil, es]
        exact x2
      · rw [sel_snoc, if_neg nin, List.append_nil, es]
        exact x3
      · rw [sel_snoc, if_neg nin, List.append_nil, es]
        exact x4
    constructor
    · intro k v h
      rw [least_snoc] at h
      unfold stepF at h
      split at h
      · obtain ⟨X, a, _, b⟩ := take k v h
        exact ⟨X, a, b⟩
      · rename_i c
        have h : comb (leastF is nm T k) (paidF is (leastF is nm T) w k) = some v := h
        cases e1 : leastF is nm T k with
        | none =>
          rw [e1] at h
          obtain ⟨X, a, _, b⟩ := take k v h
          exact ⟨X, a, b⟩
        | some x =>
          cases e2 : paidF is (leastF is nm T) w k with
          | none =>
            rw [e1, e2] at h
            cases h
            exact leave c k _ e1
          | some y =>
            rw [e1, e2] at h
            have h : some (if y < x then y else x) = some v := h
            split at h
            · cases h
              obtain ⟨X, a, _, b⟩ := take k _ e2
              exact ⟨X, a, b⟩
            · cases h
              exact leave c k _ e1
    · intro X sub ok
      rw [least_snoc]
      rw [sel_snoc] at ok ⊢
      by_cases c : w.n ∈ X
      · rw [if_pos c] at ok ⊢
        obtain ⟨o1, o2⟩ := (ok_snoc (hlX X) p0).mp ok
        obtain ⟨u, e, le⟩ := d2 X sub o1
        have paid : paidF is (leastF is nm T) w (((selF X T ++ [w]).length : Nat) : Int) = some (u + w.p) := by
          unfold paidF
          have ek : (((selF X T ++ [w]).length : Nat) : Int) - 1 = ((selF X T).length : Int) := by
            rw [List.length_append]
            show (((selF X T).length + 1 : Nat) : Int) - 1 = _
            omega
          rw [ek, e]
          show payO w.p (comF is w.l) u = _
          unfold payO
          rw [if_pos (by omega)]
        rw [tot_snoc]
        unfold stepF
        split
        · exact ⟨_, paid, by omega⟩
        · show ∃ v, comb (leastF is nm T (((selF X T ++ [w]).length : Nat) : Int)) (paidF is (leastF is nm T) w (((selF X T ++ [w]).length : Nat) : Int)) = some v ∧ _
          rw [paid]
          cases leastF is nm T (((selF X T ++ [w]).length : Nat) : Int) with
          | none => exact ⟨_, rfl, by omega⟩
          | some x =>
            refine ⟨_, rfl, ?_⟩
            split <;> omega
      · rw [if_neg c, List.append_nil] at ok ⊢
        obtain ⟨u, e, le⟩ := d2 X sub ok
        have nw : w.n ∉ nm := fun z => c (sub _ z)
        unfold stepF
        rw [if_neg nw]
        show ∃ v, comb (leastF is nm T ((selF X T).length : Int)) (paidF is (leastF is nm T) w ((selF X T).length : Int)) = some v ∧ _
        rw [e]
        cases paidF is (leastF is nm T) w ((selF X T).length : Int) with
        | none => exact ⟨_, rfl, le⟩
        | some x =>
          refine ⟨_, rfl, ?_⟩
          split <;> omega
/-- wants as they are handed in: names unlike, pence not below nought -/
structure Okw (ws : List Wt) : Prop where
  nd : (ws.map (·.n)).Nodup
  pos : ∀ w ∈ ws, 0 ≤ w.p
theorem sortW_perm (ws : List Wt) : (sortW ws).Perm ws := List.mergeSort_perm ..
theorem sortW_rise (ws : List Wt) : (sortW ws).Pairwise (fun x y => x.l ≤ y.l) := by
  have h := List.pairwise_mergeSort (le := fun x y : Wt => decide (x.l ≤ y.l)) (fun a b c h1 h2 => by
    have h1 := of_decide_eq_true h1
    have h2 := of_decide_eq_true h2
    exact decide_eq_true (Int.le_trans h1 h2)) (fun a b => by
    rcases Int.le_total a.l b.l with z | z
    · rw [decide_eq_true z]
      rfl
    · rw [decide_eq_true z, Bool.or_true]) ws
  exact h.imp fun z => of_decide_eq_true z
theorem ok_perm {ws vs : List Wt} {is js : List (Int × Int)} (p : ws.Perm vs) (r : is.Perm js) : okF ws is = okF vs js := by
  have h : okF ws is = true ↔ okF vs js = true := by
    rw [okF_iff, okF_iff]
    constructor
    · intro h w hw
      have := h w (p.mem_iff.mpr hw)
      rw [due_perm p, com_perm r] at this
      exact this
    · intro h w hw
      have := h w (p.mem_iff.mp hw)
      rw [← due_perm p, ← com_perm r] at this
      exact this
  cases a : okF ws is <;> cases b : okF vs js <;> simp_all
theorem sel_perm {ws vs : List Wt} (X : List Str) (p : ws.Perm vs) : (selF X ws).Perm (selF X vs) := p.filter _
/-- X can be paid, so many -/
def Fs (is : List (Int × Int)) (ws : List Wt) (X : List Str) : Prop := okF (selF X ws) is = true
def sz (ws : List Wt) (X : List Str) : Int := (selF X ws).length
theorem is_most {f : Int → Option Int} {N : Nat} (h : ∀ k v, f k = some v → 0 ≤ k ∧ k ≤ N) : ∃ r, IsMost f r := by
  have go : ∀ M : Nat, (∀ k v, f k = some v → k ≤ M) → ∃ r, IsMost f r := fun M => by
    induction M with
    | zero =>
      intro hM
      cases e : f 0 with
      | none =>
        refine ⟨none, fun k => ?_⟩
        cases e2 : f k with
        | none => rfl
        | some v =>
          have a := h k v e2
          have b := hM k v e2
          rw [show k = 0 by omega, e] at e2
          cases e2
      | some v => exact ⟨some 0, ⟨v, e⟩, fun k hk => by obtain ⟨u, hu⟩ := hk; exact hM k u hu⟩
    | succ M ih =>
      intro hM
      cases e : f ((M + 1 : Nat) : Int) with
      | none =>
        refine ih fun k v hk => ?_
        have := hM k v hk
        have ne : k ≠ ((M + 1 : Nat) : Int) := fun z => by rw [z, e] at hk; cases hk
        omega
      | some v => exact ⟨some ((M + 1 : Nat) : Int), ⟨v, e⟩, fun k hk => by obtain ⟨u, hu⟩ := hk; exact hM k u hu⟩
  exact go N fun k v hk => (h k v hk).2
theorem many_is {is : List (Int × Int)} {ws : List Wt} {nm : List Str} : IsMost (leastF is nm (sortW ws)) (manyF is ws nm) := by
  obtain ⟨r, hr⟩ := is_most (least_supp is nm (sortW ws))
  have e := most_is hr
  unfold manyF
  rw [← e]
  exact hr
/-- what manyF tells -/
theorem many_some {is : List (Int × Int)} {ws : List Wt} {nm : List Str} {m : Int} (o : Okw ws) : manyF is ws nm = some m ↔ (∃ X : List Str, (∀ n ∈ nm, n ∈ X) ∧ Fs is ws X ∧ sz ws X = m) ∧ ∀ X : List Str, (∀ n ∈ nm, n ∈ X) → Fs is ws X → sz ws X ≤ m := by
  have p := sortW_perm ws
  obtain ⟨d1, d2⟩ := dp_all is nm (sortW ws) (sortW_rise ws) ((p.map _).nodup_iff.mpr o.nd) fun w hw => o.pos w (p.mem_iff.mp hw)
  have fs : ∀ X, okF (selF X (sortW ws)) is = true ↔ Fs is ws X := fun X => by
    unfold Fs
    rw [ok_perm (sel_perm X p) (List.Perm.refl _)]
  have ss : ∀ X, ((selF X (sortW ws)).length : Int) = sz ws X := fun X => by
    unfold sz
    rw [(sel_perm X p).length_eq]
  have most := many_is (is := is) (ws := ws) (nm := nm)
  constructor
  · intro e
    rw [e] at most
    obtain ⟨⟨v, m1⟩, m2⟩ := (show (∃ v, leastF is nm (sortW ws) m = some v) ∧ ∀ k, (∃ v, leastF is nm (sortW ws) k = some v) → k ≤ m from most)
    obtain ⟨X, x1, x2, x3, _⟩ := d1 _ _ m1
    refine ⟨⟨X, x1, (fs X).mp x2, by rw [← ss]; exact x3⟩, fun Y y1 y2 => ?_⟩
    obtain ⟨u, hu, _⟩ := d2 Y y1 ((fs Y).mpr y2)
    rw [← ss]
    exact m2 _ ⟨u, hu⟩
  · rintro ⟨⟨X, x1, x2, x3⟩, all⟩
    obtain ⟨u, hu, _⟩ := d2 X x1 ((fs X).mpr x2)
    rw [ss, x3] at hu
    have : IsMost (leastF is nm (sortW ws)) (some m) := ⟨⟨u, hu⟩, fun k hk => by
      obtain ⟨v, hv⟩ := hk
      obtain ⟨Y, y1, y2, y3, _⟩ := d1 _ _ hv
      rw [← y3, ss]
      exact all Y y1 ((fs Y).mp y2)⟩
    exact most_one most this
theorem many_none {is : List (Int × Int)} {ws : List Wt} {nm : List Str} (o : Okw ws) : manyF is ws nm = none ↔ ∀ X : List Str, (∀ n ∈ nm, n ∈ X) → ¬ Fs is ws X := by
  constructor
  · intro e X x1 x2
    have p := sortW_perm ws
    obtain ⟨d1, d2⟩ := dp_all is nm (sortW ws) (sortW_rise ws) ((p.map _).nodup_iff.mpr o.nd) fun w hw => o.pos w (p.mem_iff.mp hw)
    have most := many_is (is := is) (ws := ws) (nm := nm)
    rw [e] at most
    obtain ⟨u, hu, _⟩ := d2 X x1 (by
      rw [ok_perm (sel_perm X p) (List.Perm.refl _)]
      exact x2)
    rw [(show ∀ k, leastF is nm (sortW ws) k = none from most)] at hu
    cases hu
  · intro h
    cases e : manyF is ws nm with
    | none => rfl
    | some m =>
      obtain ⟨⟨X, x1, x2, _⟩, _⟩ := (many_some o).mp e
      exact absurd x2 (h X x1)
theorem fs_nil {is : List (Int × Int)} {ws : List Wt} : Fs is ws [] := okF_iff.mpr fun w hw => by
  have := (List.mem_filter.mp hw).2
  simp at this
/-- the most of all -/
def Top (is : List (Int × Int)) (ws : List Wt) (m : Int) : Prop := (∃ X : List Str, Fs is ws X ∧ sz ws X = m) ∧ ∀ X : List Str, Fs is ws X → sz ws X ≤ m
theorem many_top {is : List (Int × Int)} {ws : List Wt} (o : Okw ws) : ∃ m, manyF is ws [] = some m ∧ Top is ws m := by
  cases e : manyF is ws [] with
  | none => exact absurd fs_nil ((many_none o).mp e [] fun _ h => h)
  | some m =>
    obtain ⟨⟨X, _, x2, x3⟩, all⟩ := (many_some o).mp e
    exact ⟨m, rfl, ⟨X, x2, x3⟩, fun Y hY => all Y (fun _ h => by cases h) hY⟩
/-- with these names so many can be paid still -/
def With (is : List (Int × Int)) (ws : List Wt) (m : Int) (nm : List Str) : Prop := ∃ X : List Str, (∀ n ∈ nm, n ∈ X) ∧ Fs is ws X ∧ sz ws X = m
theorem many_with {is : List (Int × Int)} {ws : List Wt} (o : Okw ws) {m : Int} (e : manyF is ws [] = some m) (t : Top is ws m) (nm : List Str) : manyF is ws nm = manyF is ws [] ↔ With is ws m nm := by
  rw [e]
  constructor
  · intro h
    obtain ⟨⟨X, a, b, c⟩, _⟩ := (many_some o).mp h
    exact ⟨X, a, b, c⟩
  · rintro ⟨X, a, b, c⟩
    exact (many_some o).mpr ⟨⟨X, a, b, c⟩, fun Y _ hY => t.2 Y hY⟩
open Classical in
/-- one name more, where it may be -/
noncomputable def addW (is : List (Int × Int)) (ws : List Wt) (m : Int) (acc : List Str) (n : Str) : List Str := if With is ws m (acc ++ [n]) then acc ++ [n] else acc
theorem take_add {is : List (Int × Int)} {ws : List Wt} (o : Okw ws) {m : Int} (e : manyF is ws [] = some m) (t : Top is ws m) (acc : List Str) (n : Str) : takeN is ws acc n = addW is ws m acc n := by
  unfold takeN addW
  by_cases h : With is ws m (acc ++ [n])
  · rw [if_pos h, if_pos ((many_with o e t _).mpr h)]
  · rw [if_neg h, if_neg fun z => h ((many_with o e t _).mp z)]
/-- what stands behind the names up to here: some list of the most that has all of them, and none that has others of these -/
theorem greed_inv {is : List (Int × Int)} {ws : List Wt} (o : Okw ws) {m : Int} (e : manyF is ws [] = some m) (t : Top is ws m) (ns : List Str) :
    (greedF is ws ns).Sublist ns ∧ With is ws m (greedF is ws ns) ∧ ∀ X : List Str, Fs is ws X → sz ws X = m → (∀ n ∈ greedF is ws ns, n ∈ X) → ∀ n ∈ ns, n ∈ X → n ∈ greedF is ws ns := by
  refine snoc_ind (P := fun ns => (greedF is ws ns).Sublist ns ∧ With is ws m (greedF is ws ns) ∧ ∀ X : List Str, Fs is ws X → sz ws X = m → (∀ n ∈ greedF is ws ns, n ∈ X) → ∀ n ∈ ns, n ∈ X → n ∈ greedF is ws ns) ?_ ?_ ns
  · refine ⟨.slnil, ?_, fun X _ _ _ n hn => by cases hn⟩
    obtain ⟨X, a, b⟩ := t.1
    exact ⟨X, (fun _ h => by cases h), a, b⟩
  · intro l n ⟨s, wi, no⟩
    rw [greed_snoc, take_add o e t]
    unfold addW
    by_cases h : With is ws m (greedF is ws l ++ [n])
    · rw [if_pos h]
      refine ⟨s.append (List.Sublist.refl _), h, fun X fx sx sub x hx hxX => ?_⟩
      rcases List.mem_append.mp hx with hx | hx
      · exact List.mem_append_left _ (no X fx sx (fun y hy => sub y (List.mem_append_left _ hy)) x hx hxX)
      · exact List.mem_append_right _ hx
    · rw [if_neg h]
      refine ⟨s.trans (List.sublist_append_left _ _), wi, fun X fx sx sub x hx hxX => ?_⟩
      rcases List.mem_append.mp hx with hx | hx
      · exact no X fx sx sub x hx hxX
      · rw [List.mem_singleton.mp hx] at hxX
        exact absurd ⟨X, fun y hy => (List.mem_append.mp hy).elim (sub y) (fun z => by rw [List.mem_singleton.mp z]; exact hxX), fx, sx⟩ h
/-- the told list can be paid, and is as long as can be -/
theorem greed_top {is : List (Int × Int)} {ws : List Wt} (o : Okw ws) {m : Int} (e : manyF is ws [] = some m) (t : Top is ws m) {ns : List Str} (pm : ns.Perm (ws.map (·.n))) : Fs is ws (greedF is ws ns) ∧ sz ws (greedF is ws ns) = m := by
  obtain ⟨s, ⟨X, x1, x2, x3⟩, no⟩ := greed_inv o e t ns
  have es : selF X ws = selF (greedF is ws ns) ws := sel_same fun w hw => ⟨fun h => no X x2 x3 x1 w.n (pm.mem_iff.mpr (List.mem_map.mpr ⟨w, hw, rfl⟩)) h, fun h => x1 _ h⟩
  unfold Fs at x2
  unfold sz at x3
  unfold Fs sz
  rw [← es]
  exact ⟨x2, x3⟩
theorem sz_sub : ∀ {ws : List Wt} {ns X : List Str}, (ws.map (·.n)).Nodup → ns.Perm (ws.map (·.n)) → X.Sublist ns → sz ws X = X.length := by
  intro ws ns X nd pm s
  unfold sz
  have nX : X.Nodup := s.nodup (pm.nodup_iff.mpr nd)
  have h : ((selF X ws).map (·.n)).Perm X := by
    refine (List.perm_ext_iff_of_nodup ?_ nX).mpr fun x => ?_
    · exact nd.sublist (List.Sublist.map _ List.filter_sublist)
    · rw [List.mem_map]
      constructor
      · rintro ⟨w, hw, rfl⟩
        exact of_decide_eq_true (List.mem_filter.mp hw).2
      · intro hx
        obtain ⟨w, hw, e⟩ := List.mem_map.mp (pm.mem_iff.mp (s.subset hx))
        exact ⟨w, List.mem_filter.mpr ⟨hw, decide_eq_true (by rw [e]; exact hx)⟩, e⟩
  have := h.length_eq
  rw [List.length_map] at this
  rw [this]
theorem greed_size {is : List (Int × Int)} {ws : List Wt} (o : Okw ws) {m : Int} (e : manyF is ws [] = some m) (t : Top is ws m) {ns : List Str} (pm : ns.Perm (ws.map (·.n))) : ((greedF is ws ns).length : Int) = m := by
  have h := (greed_top o e t pm).2
  rw [sz_sub o.nd pm (greed_inv o e t ns).1] at h
  exact h
theorem three_go {H H' : Hp} {b : Addr} {n : Int} (h : Three H b n) (e : Same (dT H) H') : Three H' b n := by
  obtain ⟨x, c, z, h0, r⟩ := h
  exact ⟨x, c, z, e _ _ (dT_of h0 fun _ z => by cases z), r⟩
theorem three_dT {H : Hp} {b : Addr} {n : Int} (h : Three H b n) : Three (dT H) b n := by
  obtain ⟨x, c, z, h0, r⟩ := h
  exact ⟨x, c, z, dT_of h0 (fun _ z => by cases z), r⟩
theorem tabs_but {TT : List (Addr × Str)} {H H' : Hp} {b : Addr} {n : Int} (t : LamX.Tabs TT H) (hb : Three H b n) (e : But b H H') : LamX.Tabs TT H' := fun p hp => by
  obtain ⟨_, _, _, h0, _⟩ := hb
  obtain ⟨ps, h1, h2, h3⟩ := t p hp
  refine ⟨ps, e _ _ (ne_of h1 h0 fun z => by cases z) h1, h2, fun pos cv hc => ?_⟩
  obtain ⟨c, e1, e2⟩ := h3 pos cv hc
  exact ⟨c, e1, e _ _ (ne_of e2 h0 fun z => by unfold LamX.CodeO at z; cases z) e2⟩
theorem many_perm {ws vs : List Wt} {is js : List (Int × Int)} (o : Okw ws) (p : ws.Perm vs) (r : is.Perm js) (nm : List Str) : manyF is ws nm = manyF js vs nm := by
  have o2 : Okw vs := ⟨(p.map _).nodup_iff.mp o.nd, fun w hw => o.pos w (p.mem_iff.mpr hw)⟩
  have fs : ∀ X, Fs is ws X ↔ Fs js vs X := fun X => by
    unfold Fs
    rw [ok_perm (sel_perm X p) r]
  have ss : ∀ X, sz ws X = sz vs X := fun X => by
    unfold sz
    rw [(sel_perm X p).length_eq]
  refine Option.ext fun m => ?_
  rw [many_some o, many_some o2]
  simp only [fs, ss]
theorem greed_perm {ws vs : List Wt} {is js : List (Int × Int)} {ns ms : List Str} (o : Okw ws) (p : ws.Perm vs) (r : is.Perm js) (pn : ns.Perm (ws.map (·.n))) (pm : ms.Perm (vs.map (·.n))) (s1 : sortedS ns = true) (s2 : sortedS ms = true) : greedF is ws ns = greedF js vs ms := by
  have e : ns = ms := sort_one (pn.trans ((p.map _).trans pm.symm)) s1 s2
  subst e
  unfold greedF
  congr 1
  funext acc n
  unfold takeN
  rw [many_perm o p r, many_perm o p r]
theorem greed_ok {ws : List Wt} {is : List (Int × Int)} {ns : List Str} (o : Okw ws) (pm : ns.Perm (ws.map (·.n))) : okF (selF (greedF is ws ns) ws) is = true := by
  obtain ⟨m, e, t⟩ := many_top (is := is) o
  exact (greed_top o e t pm).1
theorem strs_dp {K : PySem.W.Frag} {H : Hp} : ∀ l : List Str, DpAll K H (l.map V.str) (l.map PyData.str)
  | [] => .nil
  | x :: r => .cons (.str x) (strs_dp r)
theorem greed_in {is : List (Int × Int)} {ws : List Wt} {ns : List Str} : ∀ n ∈ greedF is ws ns, n ∈ ns := by
  refine snoc_ind (P := fun ns => ∀ n ∈ greedF is ws ns, n ∈ ns) (fun n h => h) (fun l a ih n hn => ?_) ns
  rw [greed_snoc] at hn
  unfold takeN at hn
  split at hn
  · rcases List.mem_append.mp hn with h | h
    · exact List.mem_append_left _ (ih n h)
    · exact List.mem_append_right _ h
  · exact List.mem_append_left _ (ih n hn)
theorem strs_lay : ∀ l : List Str, (∀ s ∈ l, Asc s) → PyData.canLayAll0 (l.map PyData.str) = true
  | [], _ => rfl
  | s :: r, h => by
    rw [List.map_cons, PyData.canLayAll0, strs_lay r fun t ht => h t (List.mem_cons_of_mem _ ht), Bool.and_true, PyData.canLay0]
    exact strOk_asc (h s List.mem_cons_self)
theorem strs_deep : ∀ l : List Str, PyData.depthAll (l.map PyData.str) ≤ 1
  | [] => by simp [PyData.depthAll]
  | s :: r => by
    have := strs_deep r
    rw [List.map_cons, PyData.depthAll]
    simp only [PyData.depth]
    omega
theorem sh_strs {l : List Str} (h : ∀ s ∈ l, Asc s) : SeqAt.shaped (.list (l.map PyData.str)) = true := by
  have h1 := strs_deep l
  have h2 : PyData.depth (.list (l.map PyData.str)) ≤ 64 := by
    simp only [PyData.depth]
    omega
  show (PyData.canLay0 _ && decide (_ ≤ 64)) = true
  rw [Bool.and_eq_true]
  exact ⟨by simp only [PyData.canLay0]; exact strs_lay l h, decide_eq_true h2⟩
theorem neStrs {K : PySem.W.Frag} {H : Hp} {a c : Addr} {l m : List Str} {Q : VK} (hl : ∀ s ∈ l, Asc s) (e : m = l) (ha : H a = some (.lst (m.map V.str))) (hc : H c = some (.lst (l.map V.str))) (q : Q (.bl false) H) : rNeD K (.ref a) (.ref c) H Q := by
  subst e
  refine ⟨_, _, .lst (SqL.of ha) (strs_dp _), .lst (SqL.of hc) (strs_dp _), sh_strs hl, sh_strs hl, ?_⟩
  rw [SeqAt.eqv_refl _ (SeqAt.canLay_of_shaped (sh_strs hl))]
  exact q
/-! ### day by day: the law's own least sums -/
def LstF (F : Int → Int → Prop) (f : Int → Option Int) : Prop := (∀ k v, f k = some v → F k v) ∧ ∀ k v, F k v → ∃ u, f k = some u ∧ u ≤ v
def Fd (is : List (Int × Int)) (nm : List Str) (T S : List Wt) (k v : Int) : Prop := ∃ X : List Str, (∀ n ∈ nm, n ∈ X) ∧ okF (selF X T) is = true ∧ ((selF X (T ++ S)).length : Int) = k ∧ tot (selF X (T ++ S)) = v
theorem fd_first (is : List (Int × Int)) (nm : List Str) : LstF (Fd is nm [] []) (lk [(0, 0)]) := by
  constructor
  · intro k v h
    rw [lk_cons] at h
    split at h
    · rename_i c
      cases h
      exact ⟨nm, fun n hn => hn, okF_iff.mpr (fun w hw => by cases hw), c, rfl⟩
    · cases h
  · rintro k v ⟨X, _, _, rfl, rfl⟩
    exact ⟨0, rfl, Int.le_refl 0⟩
theorem fd_step {is : List (Int × Int)} {nm : List Str} {T S : List Wt} {w : Wt} {k v : Int} (hn : ∀ x ∈ T ++ S, x.n ≠ w.n) : Fd is nm T (S ++ [w]) k v ↔ Fd is nm T S (k - 1) (v - w.p) ∨ (w.n ∉ nm ∧ Fd is nm T S k v) := by
  constructor
  · rintro ⟨X, x1, x2, x3, x4⟩
    rw [← List.append_assoc, sel_snoc] at x3 x4
    by_cases c : w.n ∈ X
    · rw [if_pos c] at x3 x4
      rw [List.length_append] at x3
      rw [tot_snoc] at x4
      have x3 : (((selF X (T ++ S)).length + 1 : Nat) : Int) = k := x3
      exact .inl ⟨X, x1, x2, by omega, by omega⟩
    · rw [if_neg c, List.append_nil] at x3 x4
      exact .inr ⟨fun z => c (x1 _ z), X, x1, x2, x3, x4⟩
  · rintro (⟨X, x1, x2, x3, x4⟩ | ⟨c, X, x1, x2, x3, x4⟩)
    · have es : ∀ l : List Wt, (∀ x ∈ l, x.n ≠ w.n) → selF (w.n :: X) l = selF X l := fun l hl => sel_same fun x hx => by
        rw [List.mem_cons]
        exact ⟨fun z => z.resolve_left (hl x hx), .inr⟩
      refine ⟨w.n :: X, fun n h => List.mem_cons_of_mem _ (x1 n h), ?_, ?_, ?_⟩
      · rw [es T fun x hx => hn x (List.mem_append_left _ hx)]
        exact x2
      · rw [← List.append_assoc, sel_snoc, if_pos List.mem_cons_self, es _ hn, List.length_append]
        show (((selF X (T ++ S)).length + 1 : Nat) : Int) = k
        omega
      · rw [← List.append_assoc, sel_snoc, if_pos List.mem_cons_self, es _ hn, tot_snoc]
        omega
    · have es : ∀ l : List Wt, (∀ x ∈ l, x.n ≠ w.n) → selF (X.filter fun n => decide (n ≠ w.n)) l = selF X l := fun l hl => sel_same fun x hx => by
        rw [List.mem_filter]
        exact ⟨fun z => z.1, fun z => ⟨z, decide_eq_true (hl x hx)⟩⟩
      have nin : w.n ∉ X.filter fun n => decide (n ≠ w.n) := fun z => by
        have := (List.mem_filter.mp z).2
        simp at this
      refine ⟨X.filter fun n => decide (n ≠ w.n), fun n h => List.mem_filter.mpr ⟨x1 n h, decide_eq_true fun e => c (e ▸ h)⟩, ?_, ?_, ?_⟩
      · rw [es T fun x hx => hn x (List.mem_append_left _ hx)]
        exact x2
      · rw [← List.append_assoc, sel_snoc, if_neg nin, List.append_nil, es _ hn]
        exact x3
      · rw [← List.append_assoc, sel_snoc, if_neg nin, List.append_nil, es _ hn]
        exact x4
def shF (f : Int → Option Int) (p : Int) : Int → Option Int := fun k => (f (k - 1)).map (· + p)
theorem shF_some {f : Int → Option Int} {p k v : Int} : shF f p k = some v ↔ f (k - 1) = some (v - p) := by
  unfold shF
  cases e : f (k - 1) with
  | none => simp
  | some u =>
    simp
    omega
theorem lst_in {is : List (Int × Int)} {nm : List Str} {T S : List Wt} {w : Wt} {f : Int → Option Int} (hn : ∀ x ∈ T ++ S, x.n ≠ w.n) (c : w.n ∈ nm) (h : LstF (Fd is nm T S) f) : LstF (Fd is nm T (S ++ [w])) (shF f w.p) := by
  constructor
  · intro k v e
    exact (fd_step hn).mpr (.inl (h.1 _ _ (shF_some.mp e)))
  · intro k v e
    rcases (fd_step hn).mp e with e | ⟨z, _⟩
    · obtain ⟨u, e1, e2⟩ := h.2 _ _ e
      exact ⟨u + w.p, shF_some.mpr (by rw [e1]; congr 1; omega), by omega⟩
    · exact absurd c z
theorem lst_out {is : List (Int × Int)} {nm : List Str} {T S : List Wt} {w : Wt} {f : Int → Option Int} (hn : ∀ x ∈ T ++ S, x.n ≠ w.n) (c : w.n ∉ nm) (h : LstF (Fd is nm T S) f) : LstF (Fd is nm T (S ++ [w])) (fun k => comb (f k) (shF f w.p k)) := by
  have up : ∀ k v, shF f w.p k = some v → Fd is nm T (S ++ [w]) k v := fun k v e => (fd_step hn).mpr (.inl (h.1 _ _ (shF_some.mp e)))
  have st : ∀ k v, f k = some v → Fd is nm T (S ++ [w]) k v := fun k v e => (fd_step hn).mpr (.inr ⟨c, h.1 _ _ e⟩)
  constructor
  · intro k v e
    have e : comb (f k) (shF f w.p k) = some v := e
    cases e1 : f k with
    | none =>
      rw [e1] at e
      exact up k v e
    | some x =>
      cases e2 : shF f w.p k with
      | none =>
        rw [e1, e2] at e
        cases e
        exact st k _ e1
      | some y =>
        rw [e1, e2] at e
        have e : some (if y < x then y else x) = some v := e
        split at e
        · cases e
          exact up k _ e2
        · cases e
          exact st k _ e1
  · intro k v e
    have key : ∀ u, (f k = some u ∨ shF f w.p k = some u) → u ≤ v → ∃ u, comb (f k) (shF f w.p k) = some u ∧ u ≤ v := fun u hu le => by
      rcases hu with hu | hu
      · rw [hu]
        cases shF f w.p k with
        | none => exact ⟨u, rfl, le⟩
        | some y =>
          refine ⟨_, rfl, ?_⟩
          split <;> omega
      · rw [hu]
        cases f k with
        | none => exact ⟨u, rfl, le⟩
        | some y =>
          refine ⟨_, rfl, ?_⟩
          split <;> omega
    rcases (fd_step hn).mp e with e | ⟨_, e⟩
    · obtain ⟨u, e1, e2⟩ := h.2 _ _ e
      exact key (u + w.p) (.inr (shF_some.mpr (by rw [e1]; congr 1; omega))) (by omega)
    · obtain ⟨u, e1, e2⟩ := h.2 _ _ e
      exact key u (.inl e1) e2
theorem due_app (A B : List Wt) (d : Int) : dueF (A ++ B) d = dueF A d + dueF B d := by
  unfold dueF
  rw [List.filter_append, List.map_append, List.sum_append]
theorem due_none {B : List Wt} {d : Int} (h : ∀ x ∈ B, d < x.l) : dueF B d = 0 := by
  unfold dueF
  rw [List.filter_eq_nil_iff.mpr fun x hx => by have := h x hx; simp; omega]
  rfl
theorem due_pos {B : List Wt} {d : Int} (h : ∀ x ∈ B, 0 ≤ x.p) : 0 ≤ dueF B d := by
  induction B with
  | nil => exact Int.le_refl 0
  | cons x r ih =>
    have e := due_app [x] r d
    have i := ih fun y hy => h y (List.mem_cons_of_mem _ hy)
    have z : 0 ≤ dueF [x] d := by
      have := due_snoc [] x d
      rw [List.nil_append] at this
      rw [this]
      have := h x List.mem_cons_self
      show 0 ≤ (0 : Int) + _
      split <;> omega
    show 0 ≤ dueF ([x] ++ r) d
    omega
theorem com_cons (i : Int × Int) (r : List (Int × Int)) (d : Int) : comF (i :: r) d = (if i.1 ≤ d then i.2 else 0) + comF r d := by
  unfold comF
  by_cases c : i.1 ≤ d
  · rw [List.filter_cons_of_pos (by simpa using c), if_pos c, List.map_cons, List.sum_cons]
  · rw [List.filter_cons_of_neg (by simpa using c), if_neg c]
    omega
theorem com_mono {is : List (Int × Int)} (h : ∀ i ∈ is, 0 ≤ i.2) {d e : Int} (le : d ≤ e) : 0 ≤ comF is d ∧ comF is d ≤ comF is e := by
  induction is with
  | nil => exact ⟨Int.le_refl 0, Int.le_refl 0⟩
  | cons i r ih =>
    obtain ⟨a, b⟩ := ih fun y hy => h y (List.mem_cons_of_mem _ hy)
    have := h i List.mem_cons_self
    rw [com_cons, com_cons]
    split <;> split <;> omega
theorem last_one : ∀ {A : List Wt}, A ≠ [] → ∃ m ∈ A, ∀ x ∈ A, x.l ≤ m.l
  | [], h => absurd rfl h
  | [a], _ => ⟨a, List.mem_cons_self, fun x hx => by rw [List.mem_singleton.mp hx]; exact Int.le_refl _⟩
  | a :: b :: r, _ => by
    obtain ⟨m, h1, h2⟩ := last_one (A := b :: r) (by simp)
    by_cases c : a.l ≤ m.l
    · exact ⟨m, List.mem_cons_of_mem _ h1, fun x hx => (List.mem_cons.mp hx).elim (fun e => by rw [e]; exact c) (h2 x)⟩
    · exact ⟨a, List.mem_cons_self, fun x hx => (List.mem_cons.mp hx).elim (fun e => by rw [e]; exact Int.le_refl _) fun hx => by have := h2 x hx; omega⟩
theorem ok_day {A B : List Wt} {is : List (Int × Int)} {d : Int} (hA : ∀ x ∈ A, x.l < d) (hB : ∀ x ∈ B, x.l = d) (pB : ∀ x ∈ B, 0 ≤ x.p) (pi : ∀ i ∈ is, 0 ≤ i.2) : okF (A ++ B) is = true ↔ okF A is = true ∧ tot (A ++ B) ≤ comF is d := by
  have all : ∀ x ∈ A ++ B, x.l ≤ d := fun x hx => (List.mem_append.mp hx).elim (fun h => by have := hA x h; omega) (fun h => by rw [hB x h]; exact Int.le_refl _)
  rw [okF_iff, okF_iff]
  constructor
  · intro g
    refine ⟨fun w hw => ?_, ?_⟩
    · have := g w (List.mem_append_left _ hw)
      rw [due_app] at this
      have := due_pos (d := w.l) pB
      omega
    · by_cases e : A ++ B = []
      · rw [e]
        exact (com_mono pi (Int.le_refl d)).1
      · obtain ⟨m, h1, h2⟩ := last_one e
        have := g m h1
        rw [due_all h2] at this
        have := (com_mono pi (all m h1)).2
        omega
  · rintro ⟨g, e⟩ w hw
    rcases List.mem_append.mp hw with hw | hw
    · rw [due_app, due_none (B := B) fun x hx => by rw [hB x hx]; exact hA w hw]
      have := g w hw
      omega
    · rw [hB w hw, due_all all]
      exact e
theorem lst_day {is : List (Int × Int)} {nm : List Str} {T S : List Wt} {f g : Int → Option Int} {d : Int} (hT : ∀ x ∈ T, x.l < d) (hS : ∀ x ∈ S, x.l = d) (pS : ∀ x ∈ S, 0 ≤ x.p) (pi : ∀ i ∈ is, 0 ≤ i.2) (h : LstF (Fd is nm T S) f)
    (hg : ∀ k v, g k = some v ↔ f k = some v ∧ v ≤ comF is d) : LstF (Fd is nm (T ++ S) []) g := by
  have key : ∀ k v, Fd is nm (T ++ S) [] k v ↔ Fd is nm T S k v ∧ v ≤ comF is d := fun k v => by
    have ap : ∀ X : List Str, selF X (T ++ S) = selF X T ++ selF X S := fun X => List.filter_append ..
    have od : ∀ X : List Str, okF (selF X (T ++ S)) is = true ↔ okF (selF X T) is = true ∧ tot (selF X (T ++ S)) ≤ comF is d := fun X => by
      rw [ap]
      exact ok_day (fun x hx => hT x (List.mem_filter.mp hx).1) (fun x hx => hS x (List.mem_filter.mp hx).1) (fun x hx => pS x (List.mem_filter.mp hx).1) pi
    constructor
    · rintro ⟨X, x1, x2, x3, x4⟩
      rw [List.append_nil] at x3 x4
      obtain ⟨o1, o2⟩ := (od X).mp x2
      exact ⟨⟨X, x1, o1, x3, x4⟩, by rw [← x4]; exact o2⟩
    · rintro ⟨⟨X, x1, x2, x3, x4⟩, c⟩
      exact ⟨X, x1, (od X).mpr ⟨x2, by rw [x4]; exact c⟩, by rw [List.append_nil]; exact x3, by rw [List.append_nil]; exact x4⟩
  constructor
  · intro k v e
    obtain ⟨e1, e2⟩ := (hg k v).mp e
    exact (key k v).mpr ⟨h.1 _ _ e1, e2⟩
  · intro k v e
    obtain ⟨e1, e2⟩ := (key k v).mp e
    obtain ⟨u, u1, u2⟩ := h.2 _ _ e1
    exact ⟨u, (hg k u).mpr ⟨u1, by omega⟩, u2⟩
theorem lst_many {is : List (Int × Int)} {nm : List Str} {C ws : List Wt} {f : Int → Option Int} {r : Option Int} (o : Okw ws) (p : C.Perm ws) (h : LstF (Fd is nm C []) f) (m : IsMost f r) : r = manyF is ws nm := by
  have fs : ∀ X, okF (selF X C) is = true ↔ Fs is ws X := fun X => by
    unfold Fs
    rw [ok_perm (sel_perm X p) (List.Perm.refl is)]
  have ss : ∀ X, ((selF X C).length : Int) = sz ws X := fun X => by
    unfold sz
    rw [(sel_perm X p).length_eq]
  have fd : ∀ k v, Fd is nm C [] k v → ∃ X : List Str, (∀ n ∈ nm, n ∈ X) ∧ Fs is ws X ∧ sz ws X = k := by
    rintro k v ⟨X, x1, x2, x3, _⟩
    rw [List.append_nil] at x3
    exact ⟨X, x1, (fs X).mp x2, by rw [← ss]; exact x3⟩
  have df : ∀ X : List Str, (∀ n ∈ nm, n ∈ X) → Fs is ws X → ∃ v, f (sz ws X) = some v := fun X x1 x2 => by
    obtain ⟨u, e, _⟩ := h.2 (sz ws X) _ ⟨X, x1, (fs X).mpr x2, by rw [List.append_nil]; exact ss X, rfl⟩
    exact ⟨u, e⟩
  refine most_one m ?_
  cases e : manyF is ws nm with
  | none =>
    have no := (many_none o).mp e
    intro k
    cases c : f k with
    | none => rfl
    | some v =>
      obtain ⟨X, x1, x2, _⟩ := fd k v (h.1 _ _ c)
      exact absurd x2 (no X x1)
  | some j =>
    obtain ⟨⟨X, x1, x2, x3⟩, top⟩ := (many_some o).mp e
    refine ⟨x3 ▸ df X x1 x2, fun k hk => ?_⟩
    obtain ⟨v, hv⟩ := hk
    obtain ⟨Y, y1, y2, y3⟩ := fd k v (h.1 _ _ hv)
    rw [← y3]
    exact top Y y1 y2
theorem day_perm {α : Type} (g : α → Int) (ws : List α) : ∀ ds : List Int, ds.Nodup → (ds.flatMap fun d => ws.filter fun w => decide (g w = d)).Perm (ws.filter fun w => decide (g w ∈ ds))
  | [], _ => by simp
  | d :: r, nd => by
    obtain ⟨n1, n2⟩ := List.nodup_cons.mp nd
    have ih := day_perm g ws r n2
    rw [List.flatMap_cons]
    refine (List.Perm.append_left _ ih).trans ?_
    have e := List.filter_append_perm (fun w => decide (g w = d)) (ws.filter fun w => decide (g w ∈ d :: r))
    rw [List.filter_filter, List.filter_filter] at e
    refine List.Perm.trans (List.Perm.of_eq ?_) e
    congr 1
    · refine List.filter_congr fun w _ => ?_
      by_cases c : g w = d <;> simp [c]
    · refine List.filter_congr fun w _ => ?_
      by_cases c : g w = d
      · simp [c, n1]
      · simp [c]
section
variable {K : PySem.W.Frag} {σ : L2.St} {H : Hp} {Q : VK} {b : Addr} {n i : Int}
theorem if_pick1 (h1 : σ[1]? = some (some (.int i))) (h2 : σ[2]? = some (some (.ref b))) (hb : Three H b n) (hn : n < 1000) (q : ∀ (v : Int) H2, 0 ≤ v → v ≤ 24 → Three H2 b (n + 1) → But b H H2 → Q (.int v) H2) :
    tIf (tTest (tOp rEq (tVar 1) (tC (V.int 0)))) (tOp (rI0 fun i j => V.int (i + j)) (tC (V.int 10)) (tCall (sp__law_pick K) [] E0 (tCons (tVar 2) (tCons (tC (V.int 15)) tNil)))) (tCall (sp__law_pick K) [] E0 (tCons (tVar 2) (tCons (tC (V.int 11)) tNil))) σ H Q := by
  refine ⟨_, h1, rfl, _, rfl, ite2 (fun _ => ?_) (fun _ => ?_)⟩
  · exact ⟨_, h2, b, 15, n, rfl, hb, by decide, by decide, by omega, fun y H2 y0 y1 b2 t2 => ⟨_, _, rfl, rfl, q _ H2 (by omega) (by omega) b2 t2⟩⟩
  · exact ⟨_, h2, b, 11, n, rfl, hb, by decide, by decide, by omega, fun y H2 y0 y1 b2 t2 => q _ H2 (by omega) (by omega) b2 t2⟩
theorem if_pick2 (h1 : σ[1]? = some (some (.int i))) (h2 : σ[2]? = some (some (.ref b))) (hb : Three H b n) (hn : n < 1000) (q : ∀ (v : Int) H2, 0 ≤ v → v ≤ 40 → Three H2 b (n + 1) → But b H H2 → Q (.int v) H2) :
    tIf (tTest (tOp rEq (tVar 1) (tC (V.int 0)))) (tCall (sp__law_pick K) [] E0 (tCons (tVar 2) (tCons (tC (V.int 41)) tNil))) (tCall (sp__law_pick K) [] E0 (tCons (tVar 2) (tCons (tC (V.int 9)) tNil))) σ H Q := by
  refine ⟨_, h1, rfl, _, rfl, ite2 (fun _ => ?_) (fun _ => ?_)⟩
  · exact ⟨_, h2, b, 41, n, rfl, hb, by decide, by decide, by omega, fun y H2 y0 y1 b2 t2 => q _ H2 (by omega) (by omega) b2 t2⟩
  · exact ⟨_, h2, b, 9, n, rfl, hb, by decide, by decide, by omega, fun y H2 y0 y1 b2 t2 => q _ H2 (by omega) (by omega) b2 t2⟩
end
theorem greed_mono {ws : List Wt} {is js : List (Int × Int)} {ns ms : List Str} (o : Okw ws) (h : ∀ d, comF is d ≤ comF js d) (pn : ns.Perm (ws.map (·.n))) (pm : ms.Perm (ws.map (·.n))) : (greedF is ws ns).length ≤ (greedF js ws ms).length := by
  obtain ⟨m, e, t⟩ := many_top (is := is) o
  obtain ⟨m2, e2, t2⟩ := many_top (is := js) o
  have l1 := greed_size o e t pn
  have l2 := greed_size o e2 t2 pm
  obtain ⟨f, s⟩ := greed_top o e t pn
  have f2 : Fs js ws (greedF is ws ns) := by
    unfold Fs at f ⊢
    rw [okF_iff] at f ⊢
    exact fun w hw => Int.le_trans (f w hw) (h w.l)
  have := t2.2 _ f2
  rw [s] at this
  omega
theorem com_app (a b : List (Int × Int)) (d : Int) : comF (a ++ b) d = comF a d + comF b d := by
  unfold comF
  rw [List.filter_append, List.map_append, List.sum_append]
theorem com_pos {is : List (Int × Int)} (h : ∀ i ∈ is, 0 ≤ i.2) (d : Int) : 0 ≤ comF is d := (com_mono h (Int.le_refl d)).1
theorem com_drop {is : List (Int × Int)} (h : ∀ i ∈ is, 0 ≤ i.2) (d : Int) : comF (is.drop 1) d ≤ comF is d := by
  have e : comF is d = comF (is.take 1) d + comF (is.drop 1) d := by rw [← com_app, List.take_append_drop]
  have := com_pos (is := is.take 1) (fun i hi => h i (List.mem_of_mem_take hi)) d
  omega
theorem com_more {is : List (Int × Int)} {x : Int × Int} (hx : 0 ≤ x.2) (d : Int) : comF is d ≤ comF (is.drop 1 ++ [x] ++ is.take 1) d := by
  have e : comF is d = comF (is.take 1) d + comF (is.drop 1) d := by rw [← com_app, List.take_append_drop]
  rw [com_app, com_app]
  have := com_pos (is := [x]) (fun i hi => by rw [List.mem_singleton.mp hi]; exact hx) d
  omega
theorem greed_none {ws : List Wt} {ns : List Str} (o : Okw ws) (pos : ∀ w ∈ ws, 1 ≤ w.p) (pn : ns.Perm (ws.map (·.n))) : greedF [] ws ns = [] := by
  obtain ⟨m, e, t⟩ := many_top (is := []) o
  have l1 := greed_size o e t pn
  obtain ⟨f, s⟩ := greed_top o e t pn
  have em : selF (greedF [] ws ns) ws = [] := by
    cases c : selF (greedF [] ws ns) ws with
    | nil => rfl
    | cons w r =>
      unfold Fs at f
      rw [c, okF_iff] at f
      have h1 := f w List.mem_cons_self
      have hp : ∀ x ∈ w :: r, 1 ≤ x.p := fun x hx => pos x (by rw [← c] at hx; exact (List.mem_filter.mp hx).1)
      have h2 : dueF (w :: r) w.l = dueF [w] w.l + dueF r w.l := due_app [w] r w.l
      have h3 : dueF [w] w.l = w.p := by
        have := due_snoc [] w w.l
        rw [List.nil_append, if_pos (Int.le_refl _)] at this
        rw [this]
        show (0 : Int) + w.p = w.p
        omega
      have h4 := due_pos (B := r) (d := w.l) fun x hx => by have := hp x (List.mem_cons_of_mem _ hx); omega
      have h5 := hp w List.mem_cons_self
      have h6 : comF ([] : List (Int × Int)) w.l = 0 := rfl
      omega
  unfold sz at s
  rw [em] at s
  have s : (0 : Int) = m := s
  exact List.eq_nil_of_length_eq_zero (by omega)
theorem step_if {c : TT} {t : TS} {D : Ends} {σ : L2.St} {H : Hp} (Pv : Hp → Prop) (go : ∀ G, Pv G → D.nx σ G) (h : ∀ Z : Hp → Prop, (∀ G, Pv G → Z G) → c σ H fun p H1 => if p = true then t D σ H1 else Z H1) : tIfS c t tNext D σ H := h (D.nx σ) go
theorem step_ifn {c : TT} {t u : TS} {D : Ends} {r : VK} {b k : L2.St → Hp → Prop} {σ : L2.St} {H : Hp} (Pv : Hp → Prop) (go : ∀ G, Pv G → u D σ G) (h : ∀ Z : Hp → Prop, (∀ G, Pv G → Z G) → c σ H fun p H1 => if p = true then t { D with nx := u D } σ H1 else Z H1) : tNext (Ends.mk (tSeq (tIfS c t tNext) u D) r b k) σ H := h (u D σ) go
theorem step_name {i : Nat} {v : V} {σ : L2.St} {H : Hp} {Q : L2.St → Hp → Prop} (h : Q (σ.set i (some v)) H) : gName i v σ H Q := h
theorem step_nxs {c : TT} {t u : TS} {D : Ends} {r : VK} {b k : L2.St → Hp → Prop} {σ : L2.St} {H : Hp} (Pv : Hp → Prop) (go : ∀ G, Pv G → u D σ G) (h : ∀ Z : Hp → Prop, (∀ G, Pv G → Z G) → c σ H fun p H1 => if p = true then t { D with nx := u D } σ H1 else Z H1) : (Ends.mk (tSeq (tIfS c t tNext) u D) r b k).nx σ H := h (u D σ) go
theorem step_seq {c : TT} {t u : TS} {D : Ends} {σ : L2.St} {H : Hp} (Pv : Hp → Prop) (go : ∀ G, Pv G → u D σ G) (h : ∀ Z : Hp → Prop, (∀ G, Pv G → Z G) → c σ H fun p H1 => if p = true then t { D with nx := u D } σ H1 else Z H1) : tSeq (tIfS c t tNext) u D σ H := h (u D σ) go
theorem cut_drop {xs : List V} {k : Nat} : cutV xs (some (k : Int)) none = xs.drop k := by
  unfold cutV
  rw [HT.sIx_nat, HT.sIx_none]
  by_cases c : k ≤ xs.length
  · rw [Nat.min_eq_left c]
    exact List.take_of_length_le (by rw [List.length_drop]; exact Nat.le_refl _)
  · rw [Nat.min_eq_right (by omega), List.drop_eq_nil_of_le (Nat.le_refl _), List.drop_eq_nil_of_le (by omega), List.take_nil]
theorem row_cut {M : List (Addr × (Int × Int))} : refs (M.drop 1) = (refs M).drop 1 ∧ refs (M.take 1) = (refs M).take 1 := ⟨List.map_drop, List.map_take⟩
/-! ### wants called otherwise, days later, three times the pence -/
def gW (n : Int) (f : Str → Str) (w : Wt) : Wt := ⟨f w.n, 3 * w.p, w.l + n⟩
section
variable {n : Int} {f : Str → Str} {is js : List (Int × Int)} {ws : List Wt}
theorem due_map (T : List Wt) (d : Int) : dueF (T.map (gW n f)) (d + n) = 3 * dueF T d := by
  induction T with
  | nil => rfl
  | cons x r ih =>
    have e1 : dueF ((x :: r).map (gW n f)) (d + n) = dueF [gW n f x] (d + n) + dueF (r.map (gW n f)) (d + n) := due_app [gW n f x] (r.map (gW n f)) (d + n)
    have e2 : dueF (x :: r) d = dueF [x] d + dueF r d := due_app [x] r d
    have o : ∀ (y : Wt) (k : Int), dueF [y] k = if y.l ≤ k then y.p else 0 := fun y k => by
      have := due_snoc [] y k
      rw [List.nil_append] at this
      rw [this]
      show (0 : Int) + _ = _
      omega
    rw [e1, e2, ih, o, o]
    show (if x.l + n ≤ d + n then 3 * x.p else 0) + 3 * dueF r d = 3 * ((if x.l ≤ d then x.p else 0) + dueF r d)
    by_cases c : x.l ≤ d
    · rw [if_pos c, if_pos (by omega)]
      omega
    · rw [if_neg c, if_neg (by omega)]
      omega
theorem ok_map (hc : ∀ d, comF js (d + n) = 3 * comF is d) (T : List Wt) : okF (T.map (gW n f)) js = true ↔ okF T is = true := by
  rw [okF_iff, okF_iff]
  constructor
  · intro h w hw
    have := h _ (List.mem_map.mpr ⟨w, hw, rfl⟩)
    have e : (gW n f w).l = w.l + n := rfl
    rw [e, due_map, hc] at this
    omega
  · intro h w hw
    obtain ⟨y, hy, rfl⟩ := List.mem_map.mp hw
    have := h y hy
    have e : (gW n f y).l = y.l + n := rfl
    rw [e, due_map, hc]
    omega
theorem sel_map (Y : List Str) : selF Y (ws.map (gW n f)) = (selF ((ws.map (·.n)).filter fun x => decide (f x ∈ Y)) ws).map (gW n f) := by
  unfold selF
  rw [List.filter_map]
  congr 1
  refine List.filter_congr fun w hw => ?_
  show decide (f w.n ∈ Y) = _
  rw [decide_eq_decide, List.mem_filter, decide_eq_true_eq]
  exact ⟨fun z => ⟨List.mem_map.mpr ⟨w, hw, rfl⟩, z⟩, fun z => z.2⟩
theorem sel_mapf (inj : ∀ x ∈ ws.map (·.n), ∀ y ∈ ws.map (·.n), f x = f y → x = y) {X : List Str} (hX : ∀ x ∈ X, x ∈ ws.map (·.n)) : selF (X.map f) (ws.map (gW n f)) = (selF X ws).map (gW n f) := by
  rw [sel_map]
  congr 1
  refine sel_same fun w hw => ?_
  rw [List.mem_filter, decide_eq_true_eq]
  have hm : w.n ∈ ws.map (·.n) := List.mem_map.mpr ⟨w, hw, rfl⟩
  constructor
  · rintro ⟨_, z⟩
    obtain ⟨x, hx, e⟩ := List.mem_map.mp z
    rw [← inj x (hX x hx) w.n hm e]
    exact hx
  · exact fun z => ⟨hm, List.mem_map.mpr ⟨w.n, z, rfl⟩⟩
theorem names_map : (ws.map (gW n f)).map (·.n) = (ws.map (·.n)).map f := by
  rw [List.map_map, List.map_map]
  rfl
theorem okw_map (o : Okw ws) (inj : ∀ x ∈ ws.map (·.n), ∀ y ∈ ws.map (·.n), f x = f y → x = y) : Okw (ws.map (gW n f)) := by
  refine ⟨?_, fun w hw => ?_⟩
  · rw [names_map]
    refine List.pairwise_map.mpr (List.Pairwise.imp_of_mem (fun {a b} ha hb ne e => ne (inj a ha b hb e)) o.nd)
  · obtain ⟨y, hy, rfl⟩ := List.mem_map.mp hw
    have := o.pos y hy
    show 0 ≤ 3 * y.p
    omega
theorem many_map (o : Okw ws) (inj : ∀ x ∈ ws.map (·.n), ∀ y ∈ ws.map (·.n), f x = f y → x = y) (hc : ∀ d, comF js (d + n) = 3 * comF is d) {nm : List Str} (hn : ∀ x ∈ nm, x ∈ ws.map (·.n)) : manyF js (ws.map (gW n f)) (nm.map f) = manyF is ws nm := by
  have o2 := okw_map (n := n) o inj
  have down : ∀ Y : List Str, (∀ x ∈ nm.map f, x ∈ Y) → Fs js (ws.map (gW n f)) Y → ∃ X : List Str, (∀ x ∈ nm, x ∈ X) ∧ Fs is ws X ∧ sz ws X = sz (ws.map (gW n f)) Y := fun Y h1 h2 => by
    refine ⟨(ws.map (·.n)).filter fun x => decide (f x ∈ Y), fun x hx => List.mem_filter.mpr ⟨hn x hx, decide_eq_true (h1 _ (List.mem_map.mpr ⟨x, hx, rfl⟩))⟩, ?_, ?_⟩
    · unfold Fs at h2 ⊢
      rw [sel_map, ok_map hc] at h2
      exact h2
    · unfold sz
      rw [sel_map, List.length_map]
  have up : ∀ X : List Str, (∀ x ∈ nm, x ∈ X) → Fs is ws X → ∃ Y : List Str, (∀ x ∈ nm.map f, x ∈ Y) ∧ Fs js (ws.map (gW n f)) Y ∧ sz (ws.map (gW n f)) Y = sz ws X := fun X h1 h2 => by
    have hX : ∀ x ∈ X.filter (fun x => decide (x ∈ ws.map (·.n))), x ∈ ws.map (·.n) := fun x hx => of_decide_eq_true (List.mem_filter.mp hx).2
    have es : selF (X.filter fun x => decide (x ∈ ws.map (·.n))) ws = selF X ws := sel_same fun w hw => by
      rw [List.mem_filter, decide_eq_true_eq]
      exact ⟨fun z => z.1, fun z => ⟨z, List.mem_map.mpr ⟨w, hw, rfl⟩⟩⟩
    refine ⟨(X.filter fun x => decide (x ∈ ws.map (·.n))).map f, fun y hy => ?_, ?_, ?_⟩
    · obtain ⟨x, hx, rfl⟩ := List.mem_map.mp hy
      exact List.mem_map.mpr ⟨x, List.mem_filter.mpr ⟨h1 x hx, decide_eq_true (hn x hx)⟩, rfl⟩
    · unfold Fs at h2 ⊢
      rw [sel_mapf inj hX, ok_map hc, es]
      exact h2
    · unfold sz
      rw [sel_mapf inj hX, List.length_map, es]
  refine Option.ext fun m => ?_
  rw [many_some o2, many_some o]
  constructor
  · rintro ⟨⟨Y, y1, y2, y3⟩, top⟩
    obtain ⟨X, x1, x2, x3⟩ := down Y y1 y2
    refine ⟨⟨X, x1, x2, x3.trans y3⟩, fun X' a b => ?_⟩
    obtain ⟨Y', c1, c2, c3⟩ := up X' a b
    rw [← c3]
    exact top Y' c1 c2
  · rintro ⟨⟨X, x1, x2, x3⟩, top⟩
    obtain ⟨Y, y1, y2, y3⟩ := up X x1 x2
    refine ⟨⟨Y, y1, y2, y3.trans x3⟩, fun Y' a b => ?_⟩
    obtain ⟨X', c1, c2, c3⟩ := down Y' a b
    rw [← c3]
    exact top X' c1 c2
theorem greed_map (o : Okw ws) (inj : ∀ x ∈ ws.map (·.n), ∀ y ∈ ws.map (·.n), f x = f y → x = y) (hc : ∀ d, comF js (d + n) = 3 * comF is d) (l : List Str) : (∀ x ∈ l, x ∈ ws.map (·.n)) → greedF js (ws.map (gW n f)) (l.map f) = (greedF is ws l).map f := by
  refine snoc_ind (P := fun l : List Str => (∀ x ∈ l, x ∈ ws.map (·.n)) → greedF js (ws.map (gW n f)) (l.map f) = (greedF is ws l).map f) (fun _ => rfl) (fun l a ih h => ?_) l
  have hl : ∀ x ∈ l, x ∈ ws.map (·.n) := fun x hx => h x (List.mem_append_left _ hx)
  have e0 := many_map (nm := []) o inj hc (fun _ z => nomatch z)
  have e1 := many_map (nm := greedF is ws l ++ [a]) o inj hc fun x hx => (List.mem_append.mp hx).elim (fun z => hl x (greed_in x z)) (fun z => h x (List.mem_append_right _ z))
  rw [List.map_append] at e1
  rw [List.map_append]
  have gs := greed_snoc js (ws.map (gW n f)) (l.map f) (f a)
  show greedF js (ws.map (gW n f)) (l.map f ++ [f a]) = _
  rw [gs, greed_snoc, ih hl]
  unfold takeN
  have e0 : manyF js (ws.map (gW n f)) [] = manyF is ws [] := e0
  have e1 : manyF js (ws.map (gW n f)) ((greedF is ws l).map f ++ [f a]) = manyF is ws (greedF is ws l ++ [a]) := e1
  rw [e0, e1]
  split
  · rw [List.map_append]
    rfl
  · rfl
theorem short_map (hc : ∀ d, comF js (d + n) = 3 * comF is d) (ds : List Int) : shortF (ws.map (gW n f)) js (ds.map (· + n)) = (shortF ws is ds).map fun q => (q.1 + n, 3 * q.2) := by
  unfold shortF
  induction ds with
  | nil => rfl
  | cons d r ih =>
    rw [List.map_cons, List.map_cons, List.map_cons]
    have e : ((d + n, dueF (ws.map (gW n f)) (d + n) - comF js (d + n)) : Int × Int) = (d + n, 3 * (dueF ws d - comF is d)) := by
      rw [due_map, hc]
      congr 1
      omega
    rw [e]
    by_cases c : dueF ws d - comF is d > 0
    · rw [List.filter_cons_of_pos (by simp; omega), List.filter_cons_of_pos (by simpa using c), List.map_cons, ih]
    · rw [List.filter_cons_of_neg (by simp; omega), List.filter_cons_of_neg (by simpa using c), ih]
theorem lasts_map {ds : List Int} (h : Lasts ws ds) : Lasts (ws.map (gW n f)) (ds.map (· + n)) := by
  obtain ⟨h1, h2⟩ := h
  refine ⟨List.pairwise_map.mpr (h1.imp fun {a b} z => by omega), fun k => ?_⟩
  rw [List.mem_map]
  constructor
  · rintro ⟨d, hd, rfl⟩
    obtain ⟨w, hw, rfl⟩ := (h2 d).mp hd
    exact ⟨gW n f w, List.mem_map.mpr ⟨w, hw, rfl⟩, rfl⟩
  · rintro ⟨w, hw, rfl⟩
    obtain ⟨y, hy, rfl⟩ := List.mem_map.mp hw
    exact ⟨y.l, (h2 y.l).mpr ⟨y, hy, rfl⟩, rfl⟩
end
/-! #### a want that nobody can pay; one of a penny -/
section
variable {is : List (Int × Int)} {ws : List Wt} {z : Wt}
theorem okw_snoc (o : Okw ws) (hz : z.n ∉ ws.map (·.n)) (pz : 0 ≤ z.p) : Okw (ws ++ [z]) := by
  refine ⟨?_, fun w hw => ?_⟩
  · rw [List.map_append]
    refine List.nodup_append.mpr ⟨o.nd, by simp, fun a ha b hb e => ?_⟩
    rw [List.map_cons, List.map_nil, List.mem_singleton] at hb
    rw [e, hb] at ha
    exact hz ha
  · rcases List.mem_append.mp hw with h | h
    · exact o.pos w h
    · rw [List.mem_singleton.mp h]
      exact pz
theorem bad_fs (o : Okw ws) (pz : 0 ≤ z.p) (big : ∀ d, comF is d < z.p) {X : List Str} (hX : z.n ∈ X) : ¬ Fs is (ws ++ [z]) X := fun h => by
  unfold Fs at h
  rw [sel_snoc, if_pos hX, okF_iff] at h
  have h1 := h z (List.mem_append_right _ (List.mem_singleton.mpr rfl))
  rw [due_snoc, if_pos (Int.le_refl _)] at h1
  have h2 := due_pos (B := selF X ws) (d := z.l) fun x hx => o.pos x (List.mem_filter.mp hx).1
  have := big z.l
  omega
theorem many_bad (o : Okw ws) (hz : z.n ∉ ws.map (·.n)) (pz : 0 ≤ z.p) (big : ∀ d, comF is d < z.p) (nm : List Str) : manyF is (ws ++ [z]) nm = if z.n ∈ nm then none else manyF is ws nm := by
  have o2 := okw_snoc o hz pz
  by_cases c : z.n ∈ nm
  · rw [if_pos c, many_none o2]
    exact fun X h => bad_fs o pz big (h _ c)
  · rw [if_neg c]
    have sel : ∀ X : List Str, z.n ∉ X → selF X (ws ++ [z]) = selF X ws := fun X h => by rw [sel_snoc, if_neg h, List.append_nil]
    refine Option.ext fun m => ?_
    rw [many_some o2, many_some o]
    have cut : ∀ X : List Str, (∀ x ∈ nm, x ∈ X) → ∃ Y : List Str, (∀ x ∈ nm, x ∈ Y) ∧ z.n ∉ Y ∧ selF Y ws = selF X ws := fun X h => by
      refine ⟨X.filter fun x => decide (x ≠ z.n), fun x hx => List.mem_filter.mpr ⟨h x hx, decide_eq_true fun e => c (e ▸ hx)⟩, fun y => ?_, sel_same fun w hw => ?_⟩
      · have := (List.mem_filter.mp y).2
        simp at this
      · rw [List.mem_filter, decide_eq_true_eq]
        exact ⟨fun y => y.1, fun y => ⟨y, fun e => hz (by rw [← e]; exact List.mem_map.mpr ⟨w, hw, rfl⟩)⟩⟩
    have fsz : ∀ Y : List Str, z.n ∉ Y → (Fs is (ws ++ [z]) Y ↔ Fs is ws Y) ∧ sz (ws ++ [z]) Y = sz ws Y := fun Y h => by
      unfold Fs sz
      rw [sel Y h]
      exact ⟨Iff.rfl, rfl⟩
    have same : ∀ X Y : List Str, selF Y ws = selF X ws → (Fs is ws Y ↔ Fs is ws X) ∧ sz ws Y = sz ws X := fun X Y e => by
      unfold Fs sz
      rw [e]
      exact ⟨Iff.rfl, rfl⟩
    constructor
    · rintro ⟨⟨X, x1, x2, x3⟩, top⟩
      have nX : z.n ∉ X := fun y => bad_fs o pz big y x2
      refine ⟨⟨X, x1, (fsz X nX).1.mp x2, by rw [← (fsz X nX).2]; exact x3⟩, fun X' a b => ?_⟩
      obtain ⟨Y, y1, y2, y3⟩ := cut X' a
      have := top Y y1 ((fsz Y y2).1.mpr ((same X' Y y3).1.mpr b))
      rw [(fsz Y y2).2, (same X' Y y3).2] at this
      exact this
    · rintro ⟨⟨X, x1, x2, x3⟩, top⟩
      obtain ⟨Y, y1, y2, y3⟩ := cut X x1
      refine ⟨⟨Y, y1, (fsz Y y2).1.mpr ((same X Y y3).1.mpr x2), by rw [(fsz Y y2).2, (same X Y y3).2]; exact x3⟩, fun X' a b => ?_⟩
      have nX : z.n ∉ X' := fun y => bad_fs o pz big y b
      rw [(fsz X' nX).2]
      exact top X' a ((fsz X' nX).1.mp b)
theorem greed_bad (o : Okw ws) (hz : z.n ∉ ws.map (·.n)) (pz : 0 ≤ z.p) (big : ∀ d, comF is d < z.p) (l : List Str) : greedF is (ws ++ [z]) l = greedF is ws (l.filter fun x => decide (x ≠ z.n)) := by
  refine snoc_ind (P := fun l : List Str => greedF is (ws ++ [z]) l = greedF is ws (l.filter fun x => decide (x ≠ z.n))) rfl (fun l a ih => ?_) l
  have nin : z.n ∉ greedF is ws (l.filter fun x => decide (x ≠ z.n)) := fun y => by
    have := (List.mem_filter.mp (greed_in _ y)).2
    simp at this
  obtain ⟨m, e, _⟩ := many_top (is := is) o
  have e0 : manyF is (ws ++ [z]) [] = manyF is ws [] := by rw [many_bad o hz pz big, if_neg (fun y => nomatch y)]
  rw [greed_snoc, List.filter_append, ih]
  unfold takeN
  by_cases c : a = z.n
  · have mb : manyF is (ws ++ [z]) (greedF is ws (l.filter fun x => decide (x ≠ z.n)) ++ [a]) = none := by rw [many_bad o hz pz big, if_pos (by rw [c]; simp)]
    rw [List.filter_cons_of_neg (by simp [c]), List.filter_nil, List.append_nil, mb, e0, e, if_neg (fun y => nomatch y)]
  · have mb : manyF is (ws ++ [z]) (greedF is ws (l.filter fun x => decide (x ≠ z.n)) ++ [a]) = manyF is ws (greedF is ws (l.filter fun x => decide (x ≠ z.n)) ++ [a]) := by
      rw [many_bad o hz pz big, if_neg]
      intro y
      rcases List.mem_append.mp y with y | y
      · exact nin y
      · exact c (List.mem_singleton.mp y).symm
    rw [List.filter_cons_of_pos (by simp [c]), List.filter_nil, greed_snoc, mb, e0]
    rfl
/-- a penny more, and a want of one -/
theorem greed_more {ns ms : List Str} (o : Okw ws) (hz : z.n ∉ ws.map (·.n)) (ep : z.p = 1) (hl : ∀ w ∈ ws, 0 ≤ w.l ∧ w.l ≤ z.l) (z0 : 0 ≤ z.l) (pi : ∀ i ∈ is, 0 ≤ i.2) (pn : ns.Perm (ws.map (·.n))) (pm : ms.Perm ((ws ++ [z]).map (·.n))) : (greedF is ws ns).length < (greedF (is ++ [(0, 1)]) (ws ++ [z]) ms).length := by
  have o2 := okw_snoc o hz (by omega)
  obtain ⟨m, e, t⟩ := many_top (is := is) o
  obtain ⟨m2, e2, t2⟩ := many_top (is := is ++ [(0, 1)]) o2
  have l1 := greed_size o e t pn
  have l2 := greed_size o2 e2 t2 pm
  obtain ⟨⟨X, x1, x2⟩, _⟩ := t
  have cp : ∀ d, 0 ≤ d → comF (is ++ [(0, 1)]) d = comF is d + 1 := fun d hd => by
    rw [com_app, com_cons, if_pos hd]
    rfl
  have es : selF (z.n :: X) ws = selF X ws := sel_same fun w hw => by
    rw [List.mem_cons]
    exact ⟨fun y => y.resolve_left fun e => hz (by rw [← e]; exact List.mem_map.mpr ⟨w, hw, rfl⟩), .inr⟩
  have hA : ∀ w ∈ selF X ws, 0 ≤ w.l ∧ w.l ≤ z.l := fun w hw => hl w (List.mem_filter.mp hw).1
  unfold Fs at x1
  rw [okF_iff] at x1
  have f2 : Fs (is ++ [(0, 1)]) (ws ++ [z]) (z.n :: X) := by
    unfold Fs
    rw [sel_snoc, if_pos List.mem_cons_self, es, okF_iff]
    intro w hw
    rcases List.mem_append.mp hw with hw | hw
    · have h1 := x1 w hw
      have h2 := hA w hw
      rw [due_snoc, cp _ h2.1]
      split <;> omega
    · rw [List.mem_singleton.mp hw, due_snoc, if_pos (Int.le_refl _), cp _ z0, due_all fun x hx => (hA x hx).2]
      by_cases c : selF X ws = []
      · rw [c]
        have := com_pos pi z.l
        show (0 : Int) + z.p ≤ _
        omega
      · obtain ⟨w2, k1, k2⟩ := last_one c
        have h1 := x1 w2 k1
        rw [due_all k2] at h1
        have := (com_mono pi (hA w2 k1).2).2
        omega
  have h := t2.2 _ f2
  unfold sz at h x2
  rw [sel_snoc, if_pos List.mem_cons_self, es, List.length_append] at h
  have h : (((selF X ws).length + 1 : Nat) : Int) ≤ m2 := h
  omega
end
theorem com_merge {x y z : Int × Int} {r : List (Int × Int)} (e : x.1 = z.1) (d : Int) : comF ((x.1, x.2 + z.2) :: y :: r) d = comF (x :: y :: z :: r) d := by
  rw [com_cons, com_cons, com_cons, com_cons, com_cons, ← e]
  by_cases c : x.1 ≤ d
  · rw [if_pos c]
    show x.2 + z.2 + _ = _
    omega
  · rw [if_neg c]
    omega
theorem step_nx2 {c : TT} {t u : TS} {D : Ends} {r : VK} {b k : L2.St → Hp → Prop} {σ : L2.St} {H : Hp} (Pv : L2.St → Hp → Prop) (go : ∀ τ G, Pv τ G → u D τ G) (h : ∀ Z : L2.St → Hp → Prop, (∀ τ G, Pv τ G → Z τ G) → tIfS c t tNext { D with nx := Z } σ H) : (Ends.mk (tSeq (tIfS c t tNext) u D) r b k).nx σ H := h (u D) go
theorem lay_asc (w : Wt) (h : Asc w.n) : PyData.canLay0 (wtD w) = true ∧ PyData.depth (wtD w) ≤ 60 := by
  have h2 : PyData.strOk w.n = true := strOk_asc h
  simp [wtD, PyData.canLay0, PyData.canLayAll0, PyData.depth, PyData.depthAll, h2]
/-- a comprehension over enumerate of a list -/
theorem lc_enum {K : PySem.W.Frag} {a D : Addr} {xs : List V} {g : TG} {tt : TT} {te : TE} {vs : List Nat} {σ : _root_.L2.St} {H1 : Hp} {Qd : Hp → Prop} (Pv : Nat → Hp → Prop) (first : Pv 0 (upd H1 D (.lst []))) (here : ∀ i H, Pv i H → SqL K H a xs)
    (turn : ∀ i x H T, xs[i]? = some x → Pv i H → H T = none → g (.ref T) (wipe σ vs) (upd H T (.tup [.int (i : Nat), x])) fun σ2 H2 => wipe σ2 vs = wipe σ vs ∧ tt σ2 H2 fun b H3 => if b = true then te σ2 H3 fun y H4 => ∃ acc, H4 D = some (.lst acc) ∧ acc.length < sizeLine ∧ Pv (i + 1) (upd H4 D (.lst (acc ++ [y]))) else Pv (i + 1) H3)
    (last : ∀ H, Pv xs.length H → Qd H) :
    ∃ W : Nat → Nat → Hp → Prop, (∃ m, W 0 m (upd H1 D (.lst []))) ∧ ∀ i m H, W i m H → ((Ite K a).stop i H ∧ Qd H) ∨ ((Ite K a).go i H ∧ ∃ Nx : Hp → Prop, (∀ H', Nx H' → ∃ m', m' < m ∧ W (i + 1) m' H') ∧ ∀ x H', (Ite K a).yld i H x H' → g x (wipe σ vs) H' fun σ2 H2 => wipe σ2 vs = wipe σ vs ∧ tt σ2 H2 fun b H3 =>
      if b = true then te σ2 H3 fun y H4 => ∃ acc, H4 D = some (.lst acc) ∧ acc.length < sizeLine ∧ Nx (upd H4 D (.lst (acc ++ [y]))) else Nx H3) := by
  refine lc_gen (n := xs.length) Pv first (fun i H p => ⟨fun c => ⟨xs, xs[i], here i H p, by simp [c]⟩, fun c => ⟨xs, here i H p, by omega⟩⟩) (fun i H v H' c p y => ?_) last
  obtain ⟨T, z, rfl, nT, rfl, hz⟩ := y
  exact turn i z H T (hz xs (here i H p)) p nT
/-! ### _law_otherwise -/
abbrev s__law_otherwise : Stmt := topS 16
abbrev N__law_otherwise : List Str := ["_law_left_here", "_law_wants_here", "_law_incomes_here", "_law_own", "_law_last", "_law_want", "_law_day", "_law_pence", "_law_later", "_law_letters", "_law_names_here", "_law_k", "_law_name", "_law_others", "_law_more", "_law_part"]
theorem sc__law_otherwise : FnScope N__law_otherwise ["_law_left_here", "_law_wants_here", "_law_incomes_here"] (defScope s__law_otherwise) := ⟨rfl, rfl, rfl, by decide +kernel, rfl, by decide +kernel, by decide +kernel⟩
/-- the names called otherwise, by the dict at D -/
structure Names (L : List (Addr × Wt)) (f : Str → Str) (kvs : List (Key × V)) : Prop where
  val : ∀ q ∈ L, valV kvs (.inr q.2.n) = some (.str (f q.2.n))
  asc : ∀ q ∈ L, Asc (f q.2.n)
  inj : ∀ x ∈ (L.map (·.2)).map (·.n), ∀ y ∈ (L.map (·.2)).map (·.n), f x = f y → x = y
  rise : ∀ ns : List Str, ns.Perm ((L.map (·.2)).map (·.n)) → sortedS ns = true → sortedS (ns.map f) = true
/-- the j-th name called otherwise -/
def Wn (j : Nat) (s : Str) : Prop := ∃ c t, atI ltrs ((2 * j : Nat) : Int) = some c ∧ c < 128 ∧ s = Str.ofString "w" ++ ⟨#[c]⟩ ++ t ∧ Asc t ∧ t.length ≤ 2
theorem nd_inj {α β : Type} {f : α → β} : ∀ {l : List α} {x y : α}, (l.map f).Nodup → x ∈ l → y ∈ l → f x = f y → x = y
  | a :: r, x, y, nd, hx, hy, e => by
    rw [List.map_cons] at nd
    obtain ⟨n1, n2⟩ := List.nodup_cons.mp nd
    rcases List.mem_cons.mp hx with rfl | kx <;> rcases List.mem_cons.mp hy with rfl | ky
    · rfl
    · exact (n1 (List.mem_map.mpr ⟨y, ky, e.symm⟩)).elim
    · exact (n1 (List.mem_map.mpr ⟨x, kx, e⟩)).elim
    · exact nd_inj n2 kx ky e
theorem pair_rising : ∀ (p : Str) (l : List Str), ((p :: l).Pairwise fun a b => codeS a ≤ codeS b) → risingS p l = true
  | _, [], _ => rfl
  | p, x :: r, h => by
    obtain ⟨h1, h2⟩ := List.pairwise_cons.mp h
    show (!ltCps x.cps.toList p.cps.toList && risingS x r) = true
    rw [Bool.and_eq_true, ltCps_eq]
    refine ⟨?_, pair_rising x r h2⟩
    have := h1 x List.mem_cons_self
    rw [Bool.not_eq_true', decide_eq_false_iff_not]
    exact List.not_lt.mpr this
theorem pair_sorted : ∀ {l : List Str}, (l.Pairwise fun a b => codeS a ≤ codeS b) → sortedS l = true
  | [], _ => rfl
  | x :: r, h => pair_rising x r h
theorem ltr_is {j : Nat} (h : j < 26) : atI ltrs (j : Int) = some (97 + j) := by
  have e : ∀ i : Fin 26, ltrs[i.val]? = some (97 + i.val) := by decide +kernel
  exact atI_nat (e ⟨j, h⟩)
theorem wn_lt {j k : Nat} {s t : Str} (a : Wn j s) (b : Wn k t) (lt : j < k) (hk : k < 13) : codeS s < codeS t := by
  obtain ⟨c, u, hc, _, rfl, _⟩ := a
  obtain ⟨d, v, hd, _, rfl, _⟩ := b
  rw [ltr_is (by omega)] at hc hd
  cases hc
  cases hd
  have e : ∀ (x : Nat) (y : Str), codeS (Str.ofString "w" ++ ⟨#[x]⟩ ++ y) = 119 :: x :: TL.tl y := fun x y => by
    show TL.tl _ = _
    rw [TL.tl_append, TL.tl_append]
    rfl
  rw [e, e]
  exact List.Lex.cons (List.Lex.rel (by omega))
theorem merge_new : ∀ (A B : List (Key × V)), ((B ++ A).map (·.1)).Nodup → mergeK B A = B ++ A
  | [], B, _ => by rw [List.append_nil]; rfl
  | q :: r, B, nd => by
    have e1 : B ++ q :: r = (B ++ [q]) ++ r := by simp
    have nq : ¬ (B.any fun kv => decide (kv.1 = q.1)) = true := fun z => by
      obtain ⟨x, hx, e⟩ := List.any_eq_true.mp z
      rw [List.map_append] at nd
      exact (List.nodup_append.mp nd).2.2 x.1 (List.mem_map.mpr ⟨x, hx, rfl⟩) q.1 (List.mem_map.mpr ⟨q, List.mem_cons_self, rfl⟩) (of_decide_eq_true e)
    rw [e1] at nd ⊢
    rw [← merge_new r (B ++ [q]) nd]
    show mergeK (putK B q.1 q.2) r = _
    unfold putK
    rw [if_neg nq]
theorem valV_mem : ∀ {A : List (Key × V)} {k : Key} {v : V}, (A.map (·.1)).Nodup → (k, v) ∈ A → valV A k = some v
  | p :: r, k, v, nd, h => by
    rw [List.map_cons] at nd
    obtain ⟨n1, n2⟩ := List.nodup_cons.mp nd
    rcases List.mem_cons.mp h with e | h
    · rw [← e]
      exact valV_pos rfl
    · rw [valV_neg fun e => n1 (by rw [e]; exact List.mem_map.mpr ⟨(k, v), h, rfl⟩)]
      exact valV_mem n2 h
def kvT (S : List (Addr × (Str × Str))) : List (Key × V) := S.map fun q => (.inr q.2.1, .str q.2.2)
def fT (S : List (Addr × (Str × Str))) (x : Str) : Str := match valV (kvT S) (.inr x) with
  | some (.str s) => s
  | _ => x
theorem kvT_keys {S : List (Addr × (Str × Str))} : (kvT S).map (·.1) = (S.map (·.2.1)).map Sum.inr := by
  unfold kvT
  rw [List.map_map, List.map_map]
  rfl
theorem kvT_nodup {S : List (Addr × (Str × Str))} (nd : (S.map (·.2.1)).Nodup) : ((kvT S).map (·.1)).Nodup := by
  rw [kvT_keys]
  exact List.pairwise_map.mpr (nd.imp fun {a b} h e => h (Sum.inr.inj e))
theorem fT_at {S : List (Addr × (Str × Str))} (nd : (S.map (·.2.1)).Nodup) {q : Addr × (Str × Str)} (hq : q ∈ S) : valV (kvT S) (.inr q.2.1) = some (.str q.2.2) ∧ fT S q.2.1 = q.2.2 := by
  have h : valV (kvT S) (.inr q.2.1) = some (.str q.2.2) := valV_mem (kvT_nodup nd) (List.mem_map.mpr ⟨q, hq, rfl⟩)
  refine ⟨h, ?_⟩
  unfold fT
  rw [h]
theorem fT_map {S : List (Addr × (Str × Str))} (nd : (S.map (·.2.1)).Nodup) : (S.map (·.2.1)).map (fT S) = S.map (·.2.2) := by
  rw [List.map_map]
  exact List.map_congr_left fun q hq => (fT_at nd hq).2
theorem names_of {L : List (Addr × Wt)} {S : List (Addr × (Str × Str))} {ns : List Str} (pm : ns.Perm ((L.map (·.2)).map (·.n))) (srt : sortedS ns = true) (ndn : ns.Nodup) (eS : S.map (·.2.1) = ns) (small : S.length ≤ 12) (wS : ∀ j q, S[j]? = some q → Wn j q.2.2) : Names L (fT S) (kvT S) := by
  have nd : (S.map (·.2.1)).Nodup := by rw [eS]; exact ndn
  have em : ns.map (fT S) = S.map (·.2.2) := by rw [← eS]; exact fT_map nd
  have lt : (S.map (·.2.2)).Pairwise fun a b => codeS a < codeS b := by
    refine List.pairwise_map.mpr (List.pairwise_iff_getElem.mpr fun i j hi hj hij => ?_)
    exact wn_lt (wS i _ (List.getElem?_eq_getElem hi)) (wS j _ (List.getElem?_eq_getElem hj)) hij (by omega)
  have at_ : ∀ q ∈ L, ∃ s ∈ S, s.2.1 = q.2.n := fun q hq => by
    have : q.2.n ∈ S.map (·.2.1) := by
      rw [eS]
      exact pm.mem_iff.mpr (List.mem_map.mpr ⟨q.2, List.mem_map.mpr ⟨q, hq, rfl⟩, rfl⟩)
    obtain ⟨s, hs, e⟩ := List.mem_map.mp this
    exact ⟨s, hs, e⟩
  refine ⟨fun q hq => ?_, fun q hq => ?_, fun x hx y hy e => ?_, fun ms pm2 srt2 => ?_⟩
  · obtain ⟨s, hs, e⟩ := at_ q hq
    obtain ⟨h1, h2⟩ := fT_at nd hs
    rw [← e, h2]
    exact h1
  · obtain ⟨s, hs, e⟩ := at_ q hq
    obtain ⟨_, h2⟩ := fT_at nd hs
    rw [← e, h2]
    obtain ⟨j, hj⟩ := List.getElem?_of_mem hs
    obtain ⟨c, t, _, hc, h3, h4, _⟩ := wS j s hj
    rw [h3]
    exact (Asc.app (Asc.app (show Asc (Str.ofString "w") from (by decide +kernel : ∀ c ∈ (Str.ofString "w").cps.toList, c < 128)) (.one hc)) h4)
  · have n2 : (ns.map (fT S)).Nodup := by
      rw [em]
      exact lt.imp fun {a b} h z => by rw [z] at h; exact List.lt_irrefl _ h
    exact nd_inj n2 (pm.mem_iff.mpr hx) (pm.mem_iff.mpr hy) e
  · have e := sort_one (pm2.trans pm.symm) srt2 srt
    rw [e, em]
    exact pair_sorted (lt.imp fun {a b} h => List.le_of_lt h)
theorem pairsT {K : PySem.W.Frag} {G : Hp} : ∀ {S : List (Addr × (Str × Str))}, (∀ q ∈ S, G q.1 = some (.tup [.str q.2.1, .str q.2.2])) → Paired (fun p (kv : Key × V) => SqT K G p [kV kv.1, kv.2]) (S.map (·.1)) (kvT S)
  | [], _ => .nil
  | q :: r, h => .cons (SqT.of (h q List.mem_cons_self)) (pairsT fun x hx => h x (List.mem_cons_of_mem _ hx))
theorem mul_x {r : Int} (h0 : 0 ≤ r) (h1 : r < 3) : MulOk (Str.ofString "x") r ∧ Asc (Txt.mul (Str.ofString "x") r) ∧ (Txt.mul (Str.ofString "x") r).length ≤ 2 := by
  have h : r = 0 ∨ r = 1 ∨ r = 2 := by omega
  rcases h with rfl | rfl | rfl
  · exact ⟨⟨by decide +kernel, by decide +kernel, by decide +kernel⟩, (by decide +kernel : ∀ c ∈ (Txt.mul (Str.ofString "x") 0).cps.toList, c < 128), by decide +kernel⟩
  · exact ⟨⟨by decide +kernel, by decide +kernel, by decide +kernel⟩, (by decide +kernel : ∀ c ∈ (Txt.mul (Str.ofString "x") 1).cps.toList, c < 128), by decide +kernel⟩
  · exact ⟨⟨by decide +kernel, by decide +kernel, by decide +kernel⟩, (by decide +kernel : ∀ c ∈ (Txt.mul (Str.ofString "x") 2).cps.toList, c < 128), by decide +kernel⟩
def sp__law_otherwise (K : PySem.W.Frag) : Sp := fun vs H Q _ => ∃ (b a c : Addr) (n : Int) (L : List (Addr × Wt)) (M : List (Addr × (Int × Int))), vs = [.ref b, .ref a, .ref c] ∧ Three H b n ∧ n < 1000 ∧ H a = some (.lst (refs L)) ∧ a ≠ b ∧ RowsAt wV H L ∧ L.length ≤ 10 ∧ (∀ q ∈ L, WtOk q.2) ∧ ((L.map (·.2)).map (·.n)).Nodup ∧ H c = some (.lst (refs M)) ∧ c ≠ b ∧ RowsAt iV H M ∧ M.length ≤ 9 ∧ (∀ q ∈ M, InOk q.2) ∧ (∀ q ∈ M, q.2.2 ≤ 10000000) ∧
  ∀ H' T A C D (later : Int) (f : Str → Str) kvs L' M', Three H' b (n + 100) → But b H H' → H T = none → H' T = some (.tup [.ref A, .ref C, .ref D, .int later]) → H' A = some (.lst (refs L')) → A ≠ b → RowsAt wV H' L' → (L'.map (·.2)).Perm ((L.map (·.2)).map (gW later f)) → H' C = some (.lst (refs M')) → C ≠ b → RowsAt iV H' M' → M'.length ≤ 30 → (∀ d, comF (M'.map (·.2)) (d + later) = 3 * comF (M.map (·.2)) d) → H' D = some (.dK kvs) → D ≠ b → Names L f kvs → 0 ≤ later → Q (.ref T) H'
theorem ok__law_otherwise {f : Addr} {fd : FuncData} (F : Fun K "_law_otherwise" "_law_otherwise" s__law_otherwise f fd) (g : mg "_law_otherwise" = some (.ref f)) (bd : Binds K fd ["_law_left_here", "_law_wants_here", "_law_incomes_here"] []) (m_max : mg "max" = none) (m_sorted : mg "sorted" = none) (m_dict : mg "dict" = none) (m_enumerate : mg "enumerate" = none) (m_len : mg "len" = none) (C__law_pick : CF P w K mg base 2 "_law_pick" ["_law_left_here", "_law_many"] (sp__law_pick K)) (C__law_strewn : CF P w K mg base 3 "_law_strewn" ["_law_left_here", "_law_some"] (sp__law_strewn K)) : CF P w K mg base 4 "_law_otherwise" ["_law_left_here", "_law_wants_here", "_law_incomes_here"] (sp__law_otherwise K) := by
  refine ⟨f, fd, F.ok sc__law_otherwise (fun vs H Q E h => ?_) (fun cdv A outer s H vs Q E hr h => ?_), g, F.kp, bd⟩
  · first | (obtain ⟨_, rfl, _⟩ := h; rfl) | (obtain ⟨_, _, rfl, _⟩ := h; rfl) | (obtain ⟨_, _, _, rfl, _⟩ := h; rfl) | (obtain ⟨_, _, _, _, rfl, _⟩ := h; rfl) | (obtain ⟨_, _, _, _, _, rfl, _⟩ := h; rfl) | (obtain ⟨_, _, _, _, _, _, rfl, _⟩ := h; rfl) | (obtain ⟨_, _, _, _, _, _, _, rfl, _⟩ := h; rfl) | (obtain ⟨_, _, _, _, _, _, _, _, rfl, _⟩ := h; rfl) | (obtain ⟨_, _, _, _, _, _, _, _, _, rfl, _⟩ := h; rfl) | (obtain ⟨_, _, _, _, _, _, _, _, _, _, rfl, _⟩ := h; rfl) | (obtain ⟨_, _, _, _, _, _, _, _, _, _, _, rfl, _⟩ := h; rfl) | (obtain ⟨_, _, _, _, _, _, _, _, _, _, _, _, rfl, _⟩ := h; rfl) | (obtain ⟨_, _, _, _, _, _, _, _, _, _, _, _, _, rfl, _⟩ := h; rfl) | (obtain ⟨_, _, _, _, _, _, _, _, _, _, _, _, _, _, rfl, _⟩ := h; rfl) | (obtain ⟨_, _, _, _, _, _, _, _, _, _, _, _, _, _, _, rfl, _⟩ := h; rfl)
  · have hu64 := hr.units
    have hu1 := hu1_of hu64
    obtain ⟨b, a, c, n, L, M, rfl, hb, hn, ha, nab, hR, small, okW, nd, hc, ncb, hR2, small2, okM, fewM, q⟩ := h
    refine ⟨_, (pss_cons (ps_par (i := 3) (j := 4) (by rfl) sc__law_otherwise.nd rfl rfl (by decide) rfl rfl (pa_cons (pe_callB (SD.kk_sortedS K) (by rfl) m_sorted (by decide +kernel) (pa_cons (pe_lc (own := [("_law_want", 5)]) (g := (gName 5)) (tt := tYes) rfl sc__law_otherwise.nd (pi_list (pv 1)) (blkOk_by (own := [("_law_want", 5)]) (N := N__law_otherwise) (sc := defScope s__law_otherwise) (by decide +kernel)) (fun _ _ _ _ _ => pg_name (i := 5) sc__law_otherwise.nd rfl (Or.inl rfl)) (fun _ _ _ _ _ => pts_nil) (fun _ _ _ _ _ => (pe_ix (kk_ixt K) (pv 5) pe_int (fun _ _ => rfl)))) pa_nil)) (pa_cons (pe_callB (kk_max K rfl) (by rfl) m_max (by decide +kernel) (pa_cons (pe_op op_cat (pe_lc (own := [("_law_day", 6), ("_law_pence", 7)]) (g := (gTup K 2 (gCons (gName 6) (gCons (gName 7) gNil)))) (tt := tYes) rfl sc__law_otherwise.nd (pi_list (pv 2)) (blkOk_by (own := [("_law_day", 6), ("_law_pence", 7)]) (N := N__law_otherwise) (sc := defScope s__law_otherwise) (by decide +kernel)) (fun _ _ _ _ _ => (pg_tup (by rfl) (pgs_cons (pg_name (i := 6) sc__law_otherwise.nd rfl (.inl rfl)) (pgs_cons (pg_name (i := 7) sc__law_otherwise.nd rfl (.inl rfl)) pgs_nil)))) (fun _ _ _ _ _ => pts_nil) (fun _ _ _ _ _ => (pv 6))) (pe_lst (pa_cons pe_int pa_nil))) pa_nil)) pa_nil)) (by rfl))
      (pss_cons (ps_set (i := 8) sc__law_otherwise.nd rfl (.inr rfl) (pe_cf C__law_pick (hr.mono (by decide)) (by rfl) (pa_cons (pv 0) (pa_cons (pe_op op_sub pe_int (pv 4)) pa_nil))))
      (pss_cons (ps_set (i := 9) sc__law_otherwise.nd rfl (.inr rfl) pe_str)
      (pss_cons (ps_set (i := 10) sc__law_otherwise.nd rfl (.inr rfl) (pe_callTy (SD.kk_dictP K rfl) (by rfl) m_dict (by decide +kernel) (pa_cons (pe_lc (own := [("_law_k", 11), ("_law_name", 12)]) (g := (gTup K 2 (gCons (gName 11) (gCons (gName 12) gNil)))) (tt := tYes) rfl sc__law_otherwise.nd (pi_enum (by rfl) m_enumerate (pa_cons (pv 3) pa_nil)) (blkOk_by (own := [("_law_k", 11), ("_law_name", 12)]) (N := N__law_otherwise) (sc := defScope s__law_otherwise) (by decide +kernel)) (fun _ _ _ _ _ => (pg_tup (by rfl) (pgs_cons (pg_name (i := 11) sc__law_otherwise.nd rfl (.inl rfl)) (pgs_cons (pg_name (i := 12) sc__law_otherwise.nd rfl (.inl rfl)) pgs_nil)))) (fun _ _ _ _ _ => pts_nil) (fun _ _ _ _ _ => (pe_tup (pa_cons (pv 12) (pa_cons (pe_op op_add_str (pe_op op_add_str pe_str (pe_ix ix_str (pv 9) (pe_op op_mul pe_int (pv 11)) (fun _ _ => rfl))) (pe_op op_mul_str pe_str (pe_cf C__law_pick (hr.mono (by decide)) (by rfl) (pa_cons (pv 0) (pa_cons pe_int pa_nil))))) pa_nil))))) pa_nil)))
      (pss_cons (ps_setLc (i := 13) (own := [("_law_name", 12), ("_law_pence", 7), ("_law_last", 4)]) (g := (gTup K 3 (gCons (gName 12) (gCons (gName 7) (gCons (gName 4) gNil))))) (tt := tYes) rfl sc__law_otherwise.nd rfl rfl (sw_true rfl rfl rfl (by decide +kernel)) (pi_list (pv 1)) (blkOk_by (own := [("_law_name", 12), ("_law_pence", 7), ("_law_last", 4)]) (N := N__law_otherwise) (sc := defScope s__law_otherwise) (by decide +kernel)) (fun _ _ _ _ _ => (pg_tup (by rfl) (pgs_cons (pg_name (i := 12) sc__law_otherwise.nd rfl (.inl rfl)) (pgs_cons (pg_name (i := 7) sc__law_otherwise.nd rfl (.inl rfl)) (pgs_cons (pg_name (i := 4) sc__law_otherwise.nd rfl (.inl rfl)) pgs_nil))))) (fun _ _ _ _ _ => pts_nil) (fun _ _ _ _ _ => (pe_tup (pa_cons (pe_dget hu1 (pv 10) (pv 12) (fun _ _ => rfl)) (pa_cons (pe_op op_mul pe_int (pv 7)) (pa_cons (pe_op op_add (pv 4) (pv 8)) pa_nil))))))
      (pss_cons (ps_set (i := 14) sc__law_otherwise.nd rfl (.inl rfl) (pe_lst pa_nil))
      (pss_cons (ps_for PassesOwn.never rfl (pi_list (pv 2)) (pg_tup (by rfl) (pgs_cons (pg_name (i := 6) sc__law_otherwise.nd rfl (.inl rfl)) (pgs_cons (pg_name (i := 7) sc__law_otherwise.nd rfl (.inl rfl)) pgs_nil)))
         (pss_cons (ps_set (i := 15) sc__law_otherwise.nd rfl (.inl rfl) (pe_cf C__law_pick (hr.mono (by decide)) (by rfl) (pa_cons (pv 0) (pa_cons (pe_op op_add (pe_op op_mul pe_int (pv 7)) pe_int) pa_nil))))
          (pss_one (ps_expr (pe_bm PySem.F.plainAttrs_list PySem.F.slot_list_extend PySem.F.type_list_extend mt_extend (pv 14) (pa_cons (pe_lst (pa_cons (pe_tup (pa_cons (pe_op op_add (pv 6) (pv 8)) (pa_cons (pv 15) pa_nil))) (pa_cons (pe_tup (pa_cons (pe_op op_add (pv 6) (pv 8)) (pa_cons (pe_op op_sub (pe_op op_mul pe_int (pv 7)) (pv 15)) pa_nil))) pa_nil))) pa_nil))))))
      (pss_cons (ps_if (PW.pt (pw_and (pt_cmpR op_gt (pe_callB (kk_len K) (by rfl) m_len PySem.boot_len (pa_cons (pv 14) pa_nil)) pe_int (nomark _)) (pw_and1 (pt_cmpR op_eq (pe_ix (kk_ixt K) (pe_ix (kk_ixl K) (pv 14) pe_int (fun _ _ => rfl)) pe_int (fun _ _ => rfl)) (pe_ix (kk_ixt K) (pe_ix (kk_ixl K) (pv 14) pe_int (fun _ _ => rfl)) pe_int (fun _ _ => rfl)) (nomark _)))))
         (pss_one (ps_set (i := 14) sc__law_otherwise.nd rfl (.inl rfl) (pe_op op_cat (pe_lst (pa_cons (pe_tup (pa_cons (pe_ix (kk_ixt K) (pe_ix (kk_ixl K) (pv 14) pe_int (fun _ _ => rfl)) pe_int (fun _ _ => rfl)) (pa_cons (pe_op op_add (pe_ix (kk_ixt K) (pe_ix (kk_ixl K) (pv 14) pe_int (fun _ _ => rfl)) pe_int (fun _ _ => rfl)) (pe_ix (kk_ixt K) (pe_ix (kk_ixl K) (pv 14) pe_int (fun _ _ => rfl)) pe_int (fun _ _ => rfl))) pa_nil))) (pa_cons (pe_ix (kk_ixl K) (pv 14) pe_int (fun _ _ => rfl)) pa_nil))) (pe_slice (kk_sll K) (pv 14) (po_some pe_int) po_none))))
         pss_nil)
      (pss_one (ps_ret (pe_tup (pa_cons (pe_cf C__law_strewn (hr.mono (by decide)) (by rfl) (pa_cons (pv 0) (pa_cons (pv 13) pa_nil))) (pa_cons (pe_cf C__law_strewn (hr.mono (by decide)) (by rfl) (pa_cons (pv 0) (pa_cons (pe_op op_cat (pv 14) (pe_lst (pa_cons (pe_tup (pa_cons (pv 8) (pa_cons pe_int pa_nil))) pa_nil))) pa_nil))) (pa_cons (pv 10) (pa_cons (pv 8) pa_nil))))))))))))))), ?_⟩
    refine ⟨_, rfl, a, rfl, ⟨_, SqL.of ha⟩, fun E nE => rows_lc (fun _ : Wt => true) (fun q => V.str q.2.n) (jok_l (K := K) (SqL.of ha)) hR (by omega) nE (fun q hq G s hG Y N h1 h2 => ⟨rfl, _, rfl, q.1, _, _, _, rfl, rfl, SqT.of hG, rfl, h1 rfl⟩) (fun H1 s1 hE => ?_)⟩
    rw [List.filter_eq_self.mpr (fun _ _ => rfl)] at hE
    have hE : H1 E = some (.lst (((L.map (·.2)).map (·.n)).map V.str)) := by
      rw [hE, List.map_map, List.map_map]
      rfl
    refine ⟨E, (L.map (·.2)).map (·.n), rfl, SqL.of hE, by rw [List.length_map, List.length_map]; omega, fun ns N pm srt nN => ?_⟩
    have v2 := s1.trans (same_new (o := .lst (ns.map V.str)) nN)
    have hN := upd_same (H := H1) (a := N) (o := .lst (ns.map V.str))
    have lns : ns.length ≤ 10 := by
      rw [pm.length_eq, List.length_map, List.length_map]
      exact small
    have ndn : ns.Nodup := pm.nodup_iff.mpr nd
    obtain ⟨_, _, _, hb0, _⟩ := id hb
    have nNb : N ≠ b := (ne_of_none (s1 _ _ hb0) nN).symm
    have N0 : H N = none := none_of s1 nN
    generalize upd H1 N (.lst (ns.map V.str)) = H2 at *
    clear s1 hE nE nN
    refine ⟨_, rfl, c, rfl, ⟨_, SqL.of (v2 _ _ hc)⟩, fun E nE => rows_lc (fun _ : Int × Int => true) (fun q => V.int q.2.1) (jok_l (K := K) (SqL.of (v2 _ _ hc))) (hR2.same v2) (by omega) nE (fun q hq G s hG Y N h1 h2 => ⟨q.1, _, rfl, SqT.of hG, rfl, _, _, rfl, _, _, rfl, rfl, rfl, _, rfl, h1 rfl⟩) (fun H3 s3 hE => ?_)⟩
    rw [List.filter_eq_self.mpr (fun _ _ => rfl)] at hE
    have hE : H3 E = some (.lst (((M.map (·.2)).map (·.1)).map V.int)) := by
      rw [hE, List.map_map, List.map_map]
      rfl
    refine ⟨(by show 1 ≤ sizeLine; decide), fun z nz => ?_⟩
    have vz := same_new (o := .lst [.int 0]) nz
    refine ⟨E, z, _, _, rfl, rfl, vz _ _ hE, upd_same, ?_, fun y ny => ?_⟩
    · rw [List.length_map, List.length_map, List.length_map]
      exact size_small (by show M.length + 1 ≤ 1000; omega)
    have vy := (v2.trans s3).trans (vz.trans (same_new (o := .lst (((M.map (·.2)).map (·.1)).map V.int ++ [.int 0])) ny))
    have hN4 := (s3.trans (vz.trans (same_new (o := .lst (((M.map (·.2)).map (·.1)).map V.int ++ [.int 0])) ny))) _ _ hN
    have hy := upd_same (H := upd H3 z (.lst [.int 0])) (a := y) (o := .lst (((M.map (·.2)).map (·.1)).map V.int ++ [.int 0]))
    generalize upd (upd H3 z (.lst [.int 0])) y (.lst (((M.map (·.2)).map (·.1)).map V.int ++ [.int 0])) = H4 at *
    clear hE nE nz ny vz s3 v2 hN
    refine ⟨y, (M.map (·.2)).map (·.1) ++ [0], rfl, SqL.of (by rw [List.map_append]; exact hy), by simp, fun lst hm top => ⟨_, _, rfl, ?_⟩⟩
    have lb : 0 ≤ lst ∧ lst ≤ 400 := by
      rcases List.mem_append.mp hm with h | h
      · obtain ⟨i, hi, rfl⟩ := List.mem_map.mp h
        obtain ⟨x, hx, rfl⟩ := List.mem_map.mp hi
        exact ⟨(okM x hx).1, (okM x hx).2.1⟩
      · rw [List.mem_singleton.mp h]
        omega
    have b4 := hb.same vy
    refine ⟨_, rfl, _, rfl, _, _, rfl, rfl, b, 401 - lst, n, rfl, b4, by omega, by omega, by omega, fun later H5 t0 t1 b5 u5 => ?_⟩
    refine ⟨_, rfl, ⟨_, _, rfl, SqL.of (u5 _ _ nNb hN4), fun E nE => ?_⟩⟩
    obtain ⟨_, _, _, hb5, _⟩ := id b5
    have nEb : E ≠ b := b5.ne nE
    have hN5 := u5 _ _ nNb hN4
    have nEN : E ≠ N := (ne_of_none hN5 nE).symm
    refine lc_enum (K := K) (a := N) (D := E) (xs := ns.map V.str) (fun i X => But b H5 X ∧ Three X b (n + 1 + i) ∧ ∃ S : List (Addr × (Str × Str)), X E = some (.lst (refs S)) ∧ (∀ q ∈ S, X q.1 = some (.tup [.str q.2.1, .str q.2.2])) ∧ S.map (·.2.1) = ns.take i ∧ ∀ j q, S[j]? = some q → Wn j q.2.2) ⟨But.new nE, (b5.mono (by omega)).new nE, [], upd_same, (fun _ h => nomatch h), rfl, fun j q h => by simp at h⟩ (fun i X p => SqL.of (p.1 _ _ nNb hN5)) (fun i x X T hx p nT => ?_) (fun X p => ?_)
    · obtain ⟨tX, bX, S, hS, rS, eS, wS⟩ := p
      rw [List.getElem?_map] at hx
      obtain ⟨nm, hnm, rfl⟩ := Option.map_eq_some_iff.mp hx
      have hi : i < ns.length := (List.getElem?_eq_some_iff.mp hnm).1
      refine ⟨T, _, rfl, SqT.of upd_same, rfl, _, _, rfl, _, _, rfl, rfl, rfl, ?_⟩
      have sT := same_new (o := .tup [.int (i : Nat), .str nm]) nT
      have hi2 : ((2 * i : Nat) : Int) = 2 * (i : Int) := by omega
      obtain ⟨ch, hch, hcl⟩ := low_at (r := 2 * (i : Int)) (by omega) (by omega)
      refine ⟨_, rfl, _, rfl, _, rfl, _, _, rfl, rfl, .inl ⟨by decide, by decide⟩, _, _, ch, rfl, rfl, by decide +kernel, hch, _, _, rfl, rfl, (by show 2 ≤ sizeLine; decide), _, rfl, b, 3, _, rfl, bX.same sT, by decide, by decide, by omega, fun r X2 r0 r1 b2 u2 => ?_⟩
      obtain ⟨mx1, mx2, mx3⟩ := mul_x r0 r1
      refine ⟨_, _, rfl, rfl, mx1, _, _, rfl, rfl, ?_, (by show 2 ≤ sizeLine; decide), fun U nU => ?_⟩
      · exact size_small (by show 2 + (Txt.mul (Str.ofString "x") r).length ≤ 1000; omega)
      have sU := same_new (o := .tup [.str nm, .str (Str.ofString "w" ++ ⟨#[ch]⟩ ++ Txt.mul (Str.ofString "x") r)]) nU
      have lS : S.length = i := by
        have e := congrArg List.length eS
        rw [List.length_map, List.length_take] at e
        omega
      have eE := sU _ _ (u2 _ _ nEb (sT _ _ hS))
      have rU : ∀ q ∈ S, (upd X2 U (.tup [.str nm, .str (Str.ofString "w" ++ ⟨#[ch]⟩ ++ Txt.mul (Str.ofString "x") r)])) q.1 = some (.tup [.str q.2.1, .str q.2.2]) := fun q hq => sU _ _ (u2 _ _ (by
        obtain ⟨_, _, _, h0, _⟩ := id bX
        exact ne_of (rS q hq) h0 (by intro z; cases z)) (sT _ _ (rS q hq)))
      refine ⟨_, eE, ?_, updNew (((tX.trans (But.of sT)).trans u2).trans (But.of sU)) nE, ((b2.same sU).upd nEb).mono (by omega), S ++ [(U, (nm, Str.ofString "w" ++ ⟨#[ch]⟩ ++ Txt.mul (Str.ofString "x") r))], ?_, fun q hq => ?_, ?_, fun j q hj => ?_⟩
      · rw [List.length_map]
        exact small1000 (by omega)
      · rw [upd_same, refs_snoc]
      · rcases List.mem_append.mp hq with h | h
        · rw [upd_ne (ne_of (rU q h) eE (by intro z; cases z))]
          exact rU q h
        · rw [List.mem_singleton.mp h]
          show (upd (upd X2 U _) E _) U = _
          rw [upd_ne (ne_of upd_same eE (by intro z; cases z)), upd_same]
      · rw [List.map_append, eS, take_snoc hnm]
        rfl
      · rcases Nat.lt_or_ge j S.length with hl | hl
        · rw [List.getElem?_append_left hl] at hj
          exact wS j q hj
        · rw [List.getElem?_append_right hl] at hj
          have ej : j = i := by
            have := (List.getElem?_eq_some_iff.mp hj).1
            rw [List.length_singleton] at this
            omega
          subst ej
          rw [lS, Nat.sub_self] at hj
          cases hj
          exact ⟨ch, _, by rw [hi2]; exact hch, hcl, rfl, mx2, mx3⟩
    · obtain ⟨tX, bX, S, hS, rS, eS, wS⟩ := p
      have eS : S.map (·.2.1) = ns := by rw [eS]; exact List.take_of_length_le (by rw [List.length_map]; exact Nat.le_refl _)
      have lS : S.length = ns.length := by
        have e := congrArg List.length eS
        rw [List.length_map] at e
        exact e
      have nam := names_of (L := L) pm srt ndn eS (by omega) wS
      refine ⟨E, S.map (·.1), kvT S, rfl, SqL.of (by rw [hS, List.map_map]; rfl), ?_, fun D nD => ?_⟩
      · exact pairsT rS
      rw [merge_new (kvT S) [] (kvT_nodup (by rw [eS]; exact ndn)), List.nil_append]
      generalize fT S = f at *
      generalize kvT S = kvs at *
      have vD := same_new (o := .dK kvs) nD
      have hD6 := upd_same (H := X) (a := D) (o := .dK kvs)
      have nDb : D ≠ b := bX.ne nD
      have t6 : But b H (upd X D (.dK kvs)) := ((((But.of vy).trans u5).trans tX).trans (But.of vD))
      have b6 := bX.same vD
      clear wS eS lS rS hS vD nD
      generalize upd X D (.dK kvs) = H6 at *
      clear bX tX hb5 b5 u5 b4 vy hy hN4 hN5 hm top nEN nEb nE
      have ha6 := t6 _ _ nab ha
      have hc6 := t6 _ _ ncb hc
      have hR6 := hR.but hb0 t6
      have hM6 := hR2.but hb0 t6
      refine ⟨_, rfl, a, rfl, ⟨_, SqL.of ha6⟩, fun E nE => fam_new (fun G (q : Addr × Wt) => G q.1 = some (.tup (wV q.2))) (fun s h => s _ _ h) (fun G (q : Addr × Wt) => G q.1 = some (.tup (wV q.2))) (fun s h => s _ _ h) (gW later f) (jok_l (K := K) (SqL.of ha6)) hR6 (by omega) nE (fun q hq G s hP Y N h1 => ?_) (fun G q x xs h1 h2 h3 => ?_) (fun G S sG hE rS eS => ?_)⟩
      · refine ⟨q.1, _, rfl, SqT.of hP, rfl, _, _, rfl, _, _, rfl, _, _, rfl, rfl, rfl, ?_⟩
        exact ⟨_, rfl, _, rfl, D, .str (f q.2.n), rfl, .inl ⟨kvs, .inr q.2.n, .inl (s _ _ hD6), rfl, (nam.val q hq).symm⟩, _, rfl, _, _, rfl, rfl, .inl ⟨by decide, by decide⟩, _, rfl, _, rfl, _, _, rfl, rfl, (by show 3 ≤ sizeLine; decide), fun t nt => h1 _ t (same_new nt) nt upd_same⟩
      · rw [upd_ne h2]
        exact h1
      · refine ⟨(by show 0 ≤ sizeLine; decide), fun Z nZ => ?_⟩
        have nEb : E ≠ b := b6.ne nE
        have vZ := same_new (o := .lst []) nZ
        have b7 := (b6.same sG).same vZ
        have t7 : But b H (upd G Z (.lst [])) := (t6.trans (But.of sG)).trans (But.of vZ)
        have hE7 := vZ _ _ hE
        have rS7 : RowsAt wV (upd G Z (.lst [])) S := fun x hx => vZ _ _ (rS x hx).1
        have hD7 := vZ _ _ (sG _ _ hD6)
        have hc7 := vZ _ _ (sG _ _ hc6)
        have hM7 := (hM6.same sG).same vZ
        have hZ7 := upd_same (H := G) (a := Z) (o := .lst [])
        have nZb : Z ≠ b := (b6.same sG).ne nZ
        have nZE : Z ≠ E := (ne_of_none hE nZ).symm
        have nZc : Z ≠ c := (ne_of_none (sG _ _ hc6) nZ).symm
        have Z0 : G Z = none := nZ
        clear vZ hE hM6 hR6 ha6 hc6 hD6 b6
        generalize eH7 : upd G Z (.lst []) = H7 at *
        refine ⟨_, rfl, c, rfl, ⟨_, SqL.of hc7⟩, for_list (K := K) (a := c) (xs := refs M) (fun i σ X => ∃ (s5 s6 s7 s11 s12 s15 : Option V), σ = [some (.ref b), some (.ref a), some (.ref c), some (.ref N), some (.int lst), s5, s6, s7, some (.int later), some (.str (Str.ofString "abcdefghijklmnopqrstuvwxyz")), some (.ref D), s11, s12, some (.ref E), some (.ref Z), s15] ∧ (∀ x o, x ≠ b → x ≠ Z → H7 x = some o → X x = some o) ∧ Three X b (n + 20 + i) ∧ ∃ S2 : List (Addr × (Int × Int)), X Z = some (.lst (refs S2)) ∧ RowsAt iV X S2 ∧ S2.length = 2 * i ∧ ∀ d, comF (S2.map (·.2)) (d + later) = 3 * comF ((M.map (·.2)).take i) d) ⟨_, _, _, _, _, _, rfl, fun x o _ _ h => h, b7.mono (by have := List.length_map (f := V.str) (as := ns); omega), [], hZ7, .nil, rfl, fun d => rfl⟩ (fun i σ X _ h => by obtain ⟨_, _, _, _, _, _, _, t, _⟩ := h; exact SqL.of (t _ _ ncb nZc.symm hc7)) (fun i x σ X hx h => ?_) (fun σ X h => ?_)⟩
        · obtain ⟨s5, s6, s7, s11, s12, s15, rfl, tX, bX, S2, hZ, rS2, lS2, cS2⟩ := h
          obtain ⟨x2, hx2, rfl, hmem⟩ := refs_at hx
          have okx := okM x2 hmem
          have hxX : X x2.1 = some (.tup (iV x2.2)) := tX _ _ (ne_of (hM7 x2 hmem) b7.choose_spec.choose_spec.choose_spec.1 (by intro z; cases z)) (ne_of (hM7 x2 hmem) hZ7 (by intro z; cases z)) (hM7 x2 hmem)
          refine ⟨x2.1, _, rfl, SqT.of hxX, rfl, _, _, rfl, _, _, rfl, rfl, ?_⟩
          refine ⟨_, rfl, _, rfl, _, _, rfl, rfl, .inl ⟨by decide, by decide⟩, _, _, rfl, rfl, b, 3 * x2.2.2 + 1, _, rfl, bX, by have := okx.2.2.1; omega, by have := fewM x2 hmem; omega, by have hi := (List.getElem?_eq_some_iff.mp hx2).1; omega, fun part X2 p0 p1 b2 u2 => ?_⟩
          have hZ2 := u2 _ _ nZb hZ
          refine ⟨_, rfl, .inl ⟨rfl, _, SqL.of hZ2⟩, ?_⟩
          refine ⟨_, rfl, _, rfl, _, _, rfl, rfl, _, rfl, (by show 2 ≤ sizeLine; decide), fun A1 n1 => ?_⟩
          refine ⟨_, rfl, _, rfl, _, _, rfl, rfl, _, rfl, _, _, rfl, rfl, .inl ⟨by decide, by decide⟩, _, rfl, _, _, rfl, rfl, (by show 2 ≤ sizeLine; decide), fun A2 n2 => ⟨(by show 2 ≤ sizeLine; decide), fun l nl => ?_⟩⟩
          have w1 := same_new (o := .tup [.int (x2.2.1 + later), .int part]) n1
          have w2 := same_new (o := .tup [.int (x2.2.1 + later), .int (3 * x2.2.2 - part)]) n2
          have w3 := same_new (o := .lst [.ref A1, .ref A2]) nl
          have hA2 := w3 _ _ (upd_same (H := upd X2 A1 (.tup [.int (x2.2.1 + later), .int part])) (a := A2) (o := .tup [.int (x2.2.1 + later), .int (3 * x2.2.2 - part)]))
          have hA1 := w3 _ _ (w2 _ _ (upd_same (H := X2) (a := A1) (o := .tup [.int (x2.2.1 + later), .int part])))
          have hl5 := upd_same (H := upd (upd X2 A1 (.tup [.int (x2.2.1 + later), .int part])) A2 (.tup [.int (x2.2.1 + later), .int (3 * x2.2.2 - part)])) (a := l) (o := .lst [.ref A1, .ref A2])
          have w := (w1.trans w2).trans w3
          generalize upd (upd (upd X2 A1 (.tup [.int (x2.2.1 + later), .int part])) A2 (.tup [.int (x2.2.1 + later), .int (3 * x2.2.2 - part)])) l (.lst [.ref A1, .ref A2]) = X5 at *
          have hZ5 := w _ _ hZ2
          obtain ⟨_, _, _, hbX, _⟩ := id bX
          have rows5 : RowsAt iV X5 S2 := (rS2.but hbX u2).same w
          have hi := (List.getElem?_eq_some_iff.mp hx2).1
          refine ⟨Z, l, _, _, rfl, rfl, hZ5, hl5, ?_, _, _, _, _, _, _, rfl, fun y o yb yz hy => ?_, ((b2.same w).upd nZb).mono (by omega), S2 ++ [(A1, (x2.2.1 + later, part)), (A2, (x2.2.1 + later, 3 * x2.2.2 - part))], ?_, fun y hy => ?_, ?_, fun d => ?_⟩
          · rw [List.length_map]
            exact size_small (by show S2.length + 2 ≤ 1000; omega)
          · rw [upd_ne yz]
            exact w _ _ (u2 _ _ yb (tX y o yb yz hy))
          · rw [upd_same]
            unfold refs
            rw [List.map_append]
            rfl
          · have all : ∀ y : Addr × (Int × Int), X5 y.1 = some (.tup (iV y.2)) → (upd X5 Z (.lst (refs S2 ++ [.ref A1, .ref A2]))) y.1 = some (.tup (iV y.2)) := fun y e => by
              rw [upd_ne (ne_of e hZ5 (by intro z; cases z))]
              exact e
            rcases List.mem_append.mp hy with hy | hy
            · exact all y (rows5 y hy)
            · rcases List.mem_cons.mp hy with rfl | hy
              · exact all _ hA1
              · rw [List.mem_singleton.mp hy]
                exact all _ hA2
          · rw [List.length_append, lS2]
            show 2 * i + 2 = 2 * (i + 1)
            omega
          · have hm : (M.map (·.2))[i]? = some x2.2 := by rw [List.getElem?_map, hx2]; rfl
            rw [take_snoc hm, com_app, List.map_append, com_app, cS2 d]
            show 3 * comF ((M.map (·.2)).take i) d + comF [(x2.2.1 + later, part), (x2.2.1 + later, 3 * x2.2.2 - part)] (d + later) = 3 * (comF ((M.map (·.2)).take i) d + comF [x2.2] d)
            rw [com_cons, com_cons, com_cons]
            have e0 : ∀ k, comF [] k = 0 := fun _ => rfl
            rw [e0, e0]
            by_cases c : x2.2.1 ≤ d
            · rw [if_pos (show x2.2.1 + later ≤ d + later by omega), if_pos (show x2.2.1 + later ≤ d + later by omega), if_pos c]
              omega
            · rw [if_neg (show ¬ x2.2.1 + later ≤ d + later by omega), if_neg (show ¬ x2.2.1 + later ≤ d + later by omega), if_neg c]
              omega
        · obtain ⟨s5, s6, s7, s11, s12, s15, rfl, tX, bX, S2, hZ, rS2, lS2, cS2⟩ := h
          have lrM : (refs M).length = M.length := List.length_map ..
          rw [lrM] at cS2 lS2 bX
          rw [List.take_of_length_le (by rw [List.length_map]; exact Nat.le_refl _)] at cS2
          have tHX : But b H X := fun x o nx e => tX x o nx (fun z => by
            have := (t6.trans (But.of sG)) x o nx e
            rw [z, Z0] at this
            cases this) (t7 x o nx e)
          have hEX := tX _ _ nEb nZE.symm hE7
          have hDX := tX _ _ nDb (ne_of hD7 hZ7 (by intro z; cases z)) hD7
          have rSX : RowsAt wV X S := fun x hx => tX _ _ (ne_of (rS7 x hx) b7.choose_spec.choose_spec.choose_spec.1 (by intro z; cases z)) (ne_of (rS7 x hx) hZ7 (by intro z; cases z)) (rS7 x hx)
          refine step_nx2 (fun τ J => ∃ Z' S3, τ = [some (.ref b), some (.ref a), some (.ref c), some (.ref N), some (.int lst), s5, s6, s7, some (.int later), some (.str (Str.ofString "abcdefghijklmnopqrstuvwxyz")), some (.ref D), s11, s12, some (.ref E), some (.ref Z'), s15] ∧ Same X J ∧ J Z' = some (.lst (refs S3)) ∧ Z' ≠ b ∧ RowsAt iV J S3 ∧ S3.length ≤ 20 ∧ ∀ d, comF (S3.map (·.2)) (d + later) = 3 * comF (M.map (·.2)) d) (fun τ J hJ => ?_) (fun Zc go => ?_)
          · obtain ⟨Z', S3, rfl, sJ, hZ3, nZ3, rS3, lS3, cS3⟩ := hJ
            have bJ := bX.same sJ
            have tJ : But b H J := tHX.trans (But.of sJ)
            have hEJ := sJ _ _ hEX
            have hDJ := sJ _ _ hDX
            have rSJ := rSX.same sJ
            have lS : S.length = L.length := by
              have e := congrArg List.length eS
              rw [List.length_map, List.length_map, List.length_map] at e
              exact e
            obtain ⟨_, _, _, hbJ, _⟩ := id bJ
            have ascS : ∀ x ∈ S, Asc x.2.n := fun x hx => by
              have h1 : x.2 ∈ (L.map (·.2)).map (gW later f) := by
                rw [← eS]
                exact List.mem_map.mpr ⟨x, hx, rfl⟩
              obtain ⟨w, hw, e⟩ := List.mem_map.mp h1
              obtain ⟨q, hq, rfl⟩ := List.mem_map.mp hw
              rw [← e]
              exact nam.asc q hq
            clear tX bX hEX hDX rSX hZ rS2 cS2 tHX sJ
            refine ⟨_, rfl, _, rfl, Addr × Wt, (fun q => .ref q.1), (fun q => wtD q.2), b, E, _, S, rfl, bJ, by omega, SqL.of hEJ, by omega, fun G t x hx => wV_dp _ _ (SqT.of ((rSJ.but hbJ t) x hx)), fun x hx => lay_asc x.2 (ascS x hx), fun J1 A L' b1 t1 nA nAb hA pA => ?_⟩
            have hZ4 := t1 _ _ nZ3 hZ3
            have rS4 := rS3.but hbJ t1
            have hD4 := t1 _ _ nDb hDJ
            have rA : RowsAt wV J1 L' := (rSJ.but hbJ t1).sub fun x hx => pA.mem_iff.mp hx
            have tJ1 := tJ.trans t1
            clear hZ3 rS3 hDJ rSJ hEJ tJ t1 bJ hbJ
            refine ⟨_, rfl, _, rfl, _, rfl, (by show 2 ≤ sizeLine; decide), fun U nU => ⟨(by show 1 ≤ sizeLine; decide), fun Y nY => ?_⟩⟩
            have w1 := same_new (o := .tup [.int later, .int 0]) nU
            have w2 := same_new (o := .lst [.ref U]) nY
            refine ⟨Z', Y, _, _, rfl, rfl, w2 _ _ (w1 _ _ hZ4), upd_same, ?_, fun W nW => ?_⟩
            · rw [List.length_map]
              exact size_small (by show S3.length + 1 ≤ 1000; omega)
            have w3 := same_new (o := .lst (refs S3 ++ [.ref U])) nW
            have hU := w3 _ _ (w2 _ _ (upd_same (H := J1) (a := U) (o := .tup [.int later, .int 0])))
            have hW := upd_same (H := upd (upd J1 U (.tup [.int later, .int 0])) Y (.lst [.ref U])) (a := W) (o := .lst (refs S3 ++ [.ref U]))
            have w := w1.trans (w2.trans w3)
            generalize upd (upd (upd J1 U (.tup [.int later, .int 0])) Y (.lst [.ref U])) W (.lst (refs S3 ++ [.ref U])) = J2 at *
            have rW : RowsAt iV J2 (S3 ++ [(U, (later, 0))]) := fun x hx => by
              rcases List.mem_append.mp hx with hx | hx
              · exact w _ _ (rS4 x hx)
              · rw [List.mem_singleton.mp hx]
                exact hU
            have nWb : W ≠ b := by
              obtain ⟨_, _, _, h0, _⟩ := id b1
              exact (ne_of_none ((w1.trans w2) _ _ h0) nW).symm
            have hD5 := w _ _ hD4
            have hA5 := w _ _ hA
            have rA5 := rA.same w
            have b2 := b1.same w
            have tJ2 := tJ1.trans (But.of w)
            obtain ⟨_, _, _, hb2, _⟩ := id b2
            rw [← refs_snoc (q := (U, ((later, 0) : Int × Int)))] at hW
            clear w1 w2 w3 w hU hZ4 rS4 hD4 hA rA tJ1 b1 nU nY nW
            refine ⟨Addr × (Int × Int), (fun q => .ref q.1), (fun q => prD2 q.2), b, W, _, S3 ++ [(U, (later, 0))], rfl, b2, by omega, SqL.of hW, ?_, fun G t x hx => iV_dp _ _ (SqT.of ((rW.but hb2 t) x hx)), fun x _ => in_lay x.2, fun J3 C M' b3 t3 nC nCb hC pC => ⟨_, rfl, _, rfl, (by show 4 ≤ sizeLine; decide), fun T nT => ?_⟩⟩
            · rw [List.length_append]
              show S3.length + 1 ≤ 100
              omega
            have vT := same_new (o := .tup [.ref A, .ref C, .ref D, .int later]) nT
            have tE : But b H (upd J3 T (.tup [.ref A, .ref C, .ref D, .int later])) := (tJ2.trans t3).trans (But.of vT)
            have lC := pC.length_eq
            rw [List.length_append, List.length_singleton] at lC
            refine q _ T A C D later f kvs L' M' ((b3.same vT).mono ?_) tE ?_ upd_same (vT _ _ (t3 _ _ nAb hA5)) nAb ((rA5.but hb2 t3).same vT) ?_ (vT _ _ hC) nCb (((rW.but hb2 t3).sub fun x hx => pC.mem_iff.mp hx).same vT) (by omega) (fun d => ?_) (vT _ _ (t3 _ _ nDb hD5)) nDb nam (by omega)
            · rw [List.length_append, List.length_singleton]
              omega
            · cases e : H T with
              | none => rfl
              | some o =>
                rw [(tJ2.trans t3) _ _ (b3.ne nT) e] at nT
                cases nT
            · rw [← eS]
              exact pA.map _
            · rw [com_perm (pC.map (·.2)) (d + later), List.map_append, com_app, cS3 d]
              show 3 * comF (M.map (·.2)) d + comF [(later, 0)] (d + later) = _
              rw [com_cons]
              have e0 : ∀ k, comF [] k = 0 := fun _ => rfl
              rw [e0]
              split <;> omega
          · refine ⟨_, rfl, Z, _, rfl, .inl (SqL.of hZ), _, _, rfl, rfl, _, rfl, ite2 (fun c3 => ?_) (fun _ => iteF (go _ _ ⟨Z, S2, rfl, Same.refl X, hZ, nZb, rS2, by omega, cS2⟩))⟩
            have c3 : 3 < S2.length := by
              have := of_decide_eq_true c3
              rw [List.length_map] at this
              omega
            obtain ⟨x0, S2, rfl⟩ : ∃ x r, S2 = x :: r := by cases S2 with | nil => cases c3 | cons x r => exact ⟨x, r, rfl⟩
            obtain ⟨x1, S2, rfl⟩ : ∃ x r, S2 = x :: r := by cases S2 with | nil => exact absurd c3 (by simp) | cons x r => exact ⟨x, r, rfl⟩
            obtain ⟨x2, S2, rfl⟩ : ∃ x r, S2 = x :: r := by cases S2 with | nil => exact absurd c3 (by simp) | cons x r => exact ⟨x, r, rfl⟩
            have h0 := rS2 x0 List.mem_cons_self
            have h1 := rS2 x1 (List.mem_cons_of_mem _ List.mem_cons_self)
            have h2 := rS2 x2 (List.mem_cons_of_mem _ (List.mem_cons_of_mem _ List.mem_cons_self))
            have a0 : atI (refs (x0 :: x1 :: x2 :: S2)) 0 = some (.ref x0.1) := atI_nat (j := 0) rfl
            have a1 : atI (refs (x0 :: x1 :: x2 :: S2)) 1 = some (.ref x1.1) := atI_nat (j := 1) rfl
            have a2 : atI (refs (x0 :: x1 :: x2 :: S2)) 2 = some (.ref x2.1) := atI_nat (j := 2) rfl
            refine ⟨_, rfl, Z, _, _, _, rfl, rfl, SqL.of hZ, a0, x0.1, _, _, _, rfl, rfl, SqT.of h0, rfl, _, rfl, Z, _, _, _, rfl, rfl, SqL.of hZ, a2, x2.1, _, _, _, rfl, rfl, SqT.of h2, rfl, rfl, _, rfl, ite2 (fun e => ?_) (fun _ => go _ _ ⟨Z, _, rfl, Same.refl X, hZ, nZb, rS2, by omega, cS2⟩)⟩
            have e : x0.2.1 = x2.2.1 := by
              exact V.int.inj (of_decide_eq_true e)
            refine ⟨_, rfl, Z, _, _, _, rfl, rfl, SqL.of hZ, a0, x0.1, _, _, _, rfl, rfl, SqT.of h0, rfl, _, rfl, Z, _, _, _, rfl, rfl, SqL.of hZ, a0, x0.1, _, _, _, rfl, rfl, SqT.of h0, rfl, _, rfl, Z, _, _, _, rfl, rfl, SqL.of hZ, a2, x2.1, _, _, _, rfl, rfl, SqT.of h2, rfl, _, _, rfl, rfl, (by show 2 ≤ sizeLine; decide), fun U nU => ?_⟩
            have w1 := same_new (o := .tup [.int x0.2.1, .int (x0.2.2 + x2.2.2)]) nU
            refine ⟨_, rfl, Z, _, _, _, rfl, rfl, SqL.of (w1 _ _ hZ), a1, (by show 2 ≤ sizeLine; decide), fun Y nY => ?_⟩
            have w2 := same_new (o := .lst [.ref U, .ref x1.1]) nY
            have w12 := w1.trans w2
            refine ⟨_, rfl, _, rfl, Z, _, rfl, SqL.of (w12 _ _ hZ), fun V1 nV1 => ?_⟩
            have ec : cutV (refs (x0 :: x1 :: x2 :: S2)) (some (3 : Int)) none = refs S2 := (cut_drop (k := 3)).trans rfl
            rw [ec]
            have w3 := same_new (o := .lst (refs S2)) nV1
            refine ⟨Y, V1, _, _, rfl, rfl, w3 _ _ upd_same, upd_same, ?_, fun Z2 nZ2 => ?_⟩
            · rw [List.length_map]
              exact size_small (by
                have : S2.length + 3 ≤ 20 := by
                  have e := lS2
                  rw [List.length_cons, List.length_cons, List.length_cons] at e
                  omega
                show 2 + S2.length ≤ 1000
                omega)
            have w4 := same_new (o := .lst ([V.ref U, V.ref x1.1] ++ refs S2)) nZ2
            have hU := w4 _ _ (w3 _ _ (w2 _ _ (upd_same (H := X) (a := U) (o := .tup [.int x0.2.1, .int (x0.2.2 + x2.2.2)]))))
            have w := w12.trans (w3.trans w4)
            have hZ2 := upd_same (H := upd (upd (upd X U (.tup [.int x0.2.1, .int (x0.2.2 + x2.2.2)])) Y (.lst [.ref U, .ref x1.1])) V1 (.lst (refs S2))) (a := Z2) (o := .lst ([V.ref U, V.ref x1.1] ++ refs S2))
            have nZ2b : Z2 ≠ b := by
              obtain ⟨_, _, _, h0, _⟩ := id bX
              exact (ne_of_none ((w12.trans w3) _ _ h0) nZ2).symm
            generalize upd (upd (upd (upd X U (.tup [.int x0.2.1, .int (x0.2.2 + x2.2.2)])) Y (.lst [.ref U, .ref x1.1])) V1 (.lst (refs S2))) Z2 (.lst ([V.ref U, V.ref x1.1] ++ refs S2)) = X9 at *
            refine go _ _ ⟨Z2, (U, (x0.2.1, x0.2.2 + x2.2.2)) :: x1 :: S2, rfl, w, hZ2, nZ2b, fun x hx => ?_, ?_, fun d => ?_⟩
            · rcases List.mem_cons.mp hx with rfl | hx
              · exact hU
              · rcases List.mem_cons.mp hx with rfl | hx
                · exact w _ _ h1
                · exact w _ _ (rS2 x (List.mem_cons_of_mem _ (List.mem_cons_of_mem _ (List.mem_cons_of_mem _ hx))))
            · have e := lS2
              rw [List.length_cons, List.length_cons, List.length_cons] at e
              rw [List.length_cons, List.length_cons]
              omega
            · rw [← cS2 d]
              exact com_merge (x := x0.2) (y := x1.2) (z := x2.2) (r := S2.map (·.2)) e (d + later)
/-! ### _law_right -/
abbrev s__law_right : Stmt := topS 17
abbrev N__law_right : List Str := ["_law_left_here", "_law_wants_here", "_law_incomes_here", "_law_others", "_law_more", "_law_names_here", "_law_later", "_law_told", "_law_lacks", "_law_name", "_law_day", "_law_pence", "_law_some", "_law_want", "_law_found", "_law_great", "_law_last"]
theorem sc__law_right : FnScope N__law_right ["_law_left_here", "_law_wants_here", "_law_incomes_here"] (defScope s__law_right) := ⟨rfl, rfl, rfl, by decide +kernel, rfl, by decide +kernel, by decide +kernel⟩
/-! #### what the two sides tell -/
theorem pair_of : ∀ {l : List Str}, sortedS l = true → l.Pairwise fun a b => codeS a ≤ codeS b
  | [], _ => .nil
  | x :: r, h => rising_pair x r h
theorem sorted_filter {l : List Str} (p : Str → Bool) (h : sortedS l = true) : sortedS (l.filter p) = true := pair_sorted ((pair_of h).filter p)
section
variable {ws vs : List Wt} {is js : List (Int × Int)} {n : Int} {f : Str → Str} {ns ms : List Str} {z : Wt}
theorem bad_same (o : Okw ws) (hz : z.n ∉ ws.map (·.n)) (pz : 0 ≤ z.p) (big : ∀ d, comF is d < z.p) (pn : ns.Perm (ws.map (·.n))) (sn : sortedS ns = true) (pm : ms.Perm ((ws ++ [z]).map (·.n))) (sm : sortedS ms = true) : greedF is (ws ++ [z]) ms = greedF is ws ns := by
  rw [greed_bad o hz pz big]
  have e0 : ((ws ++ [z]).map (·.n)).filter (fun x => decide (x ≠ z.n)) = ws.map (·.n) := by
    have f1 : (ws.map (·.n)).filter (fun x => decide (x ≠ z.n)) = ws.map (·.n) := List.filter_eq_self.mpr fun x hx => decide_eq_true (show x ≠ z.n from fun e => hz (by rw [← e]; exact hx))
    rw [List.map_append, List.filter_append, f1, List.map_cons, List.map_nil, List.filter_cons_of_neg (by simp), List.filter_nil, List.append_nil]
  have e : ms.filter (fun x => decide (x ≠ z.n)) = ns := sort_one (by
    have p := pm.filter fun x => decide (x ≠ z.n)
    rw [e0] at p
    exact p.trans pn.symm) (sorted_filter _ sm) sn
  rw [e]
theorem told_map (o : Okw ws) (inj : ∀ x ∈ ws.map (·.n), ∀ y ∈ ws.map (·.n), f x = f y → x = y) (hc : ∀ d, comF js (d + n) = 3 * comF is d) (rise : sortedS (ns.map f) = true) (p : vs.Perm (ws.map (gW n f))) (pn : ns.Perm (ws.map (·.n))) (pm : ms.Perm (vs.map (·.n))) (sm : sortedS ms = true) : greedF js vs ms = (greedF is ws ns).map f := by
  have o2 := okw_map (n := n) o inj
  have e := greed_perm o2 p.symm (List.Perm.refl js) (ns := ns.map f) (ms := ms) (by rw [names_map]; exact pn.map f) pm rise sm
  rw [← e]
  exact greed_map o inj hc ns fun x hx => pn.mem_iff.mp hx
theorem short_told {ds es : List Int} (hc : ∀ d, comF js (d + n) = 3 * comF is d) (p : vs.Perm (ws.map (gW n f))) (hd : Lasts ws ds) (he : Lasts vs es) : shortF vs js es = (shortF ws is ds).map fun q => (q.1 + n, 3 * q.2) := by
  have e : es = ds.map (· + n) := Lasts.one he (lasts_map (n := n) (f := f) hd) fun w => p.mem_iff
  rw [e, short_perm p (List.Perm.refl js), short_map hc]
theorem can_told {nm : List Str} {ds es : List Int} (inj : ∀ x ∈ ws.map (·.n), ∀ y ∈ ws.map (·.n), f x = f y → x = y) (hn : ∀ x ∈ nm, x ∈ ws.map (·.n)) (hc : ∀ d, comF js (d + n) = 3 * comF is d) (p : vs.Perm (ws.map (gW n f))) (hd : Lasts (selF nm ws) ds) (he : Lasts (selF (nm.map f) vs) es) : decide (shortF (selF (nm.map f) vs) js es = []) = decide (shortF (selF nm ws) is ds = []) := by
  have p2 : (selF (nm.map f) vs).Perm ((selF nm ws).map (gW n f)) := by
    rw [← sel_mapf inj hn]
    exact sel_perm _ p
  rw [short_told hc p2 hd he]
  simp
theorem com_all (h : ∀ i ∈ is, 0 ≤ i.2) (d : Int) : comF is d ≤ (is.map (·.2)).sum := by
  induction is with
  | nil => exact Int.le_refl 0
  | cons x r ih =>
    rw [com_cons, List.map_cons, List.sum_cons]
    have := ih fun i hi => h i (List.mem_cons_of_mem _ hi)
    have := h x List.mem_cons_self
    split <;> omega
end
/-- what stands while both sides are asked -/
structure Ot (TT : List (Addr × Str)) (H0 : Hp) (b a c A C D E : Addr) (L : List (Addr × Wt)) (M : List (Addr × (Int × Int))) (L' : List (Addr × Wt)) (M' : List (Addr × (Int × Int))) (kvs : List (Key × V)) (told : List Str) (n : Int) (H : Hp) : Prop where
  k0 : But b (dT H0) H
  th : Three H b n
  tb : LamX.Tabs TT H
  a1 : H a = some (.lst (refs L))
  a2 : RowsAt wV H L
  c1 : H c = some (.lst (refs M))
  c2 : RowsAt iV H M
  A1 : H A = some (.lst (refs L'))
  A2 : RowsAt wV H L'
  C1 : H C = some (.lst (refs M'))
  C2 : RowsAt iV H M'
  d1 : H D = some (.dK kvs)
  e1 : H E = some (.lst (told.map V.str))
theorem lst_dT {X : Hp} {x : Addr} {xs : List V} (e : X x = some (.lst xs)) : dT X x = some (.lst xs) := dT_of e fun _ z => by cases z
theorem kp_dT {H0 G G2 : Hp} {b : Addr} (k : But b (dT H0) G) (s : Same (dT G) G2) : But b (dT H0) G2 := fun x o nx e => s _ _ (dT_of (k x o nx e) (dT_some e).2)
section
variable {TT : List (Addr × Str)} {H0 H G : Hp} {b a c A C D E : Addr} {L : List (Addr × Wt)} {M : List (Addr × (Int × Int))} {L' : List (Addr × Wt)} {M' : List (Addr × (Int × Int))} {kvs : List (Key × V)} {told : List Str} {n m : Int}
theorem Ot.dt (o : Ot TT H0 b a c A C D E L M L' M' kvs told n H) (s : Same (dT H) G) (T : LamX.Tabs TT G) : Ot TT H0 b a c A C D E L M L' M' kvs told n G :=
  ⟨kp_dT o.k0 s, three_go o.th s, T, s _ _ (lst_dT o.a1), (dT_rows o.a2).same s, s _ _ (lst_dT o.c1), (dT_rows o.c2).same s, s _ _ (lst_dT o.A1), (dT_rows o.A2).same s, s _ _ (lst_dT o.C1), (dT_rows o.C2).same s, s _ _ (dT_of o.d1 fun _ z => by cases z), s _ _ (lst_dT o.e1)⟩
theorem Ot.same (o : Ot TT H0 b a c A C D E L M L' M' kvs told n H) (s : Same H G) : Ot TT H0 b a c A C D E L M L' M' kvs told n G := o.dt ((dT_same H).trans s) (o.tb.ext s)
theorem Ot.but (o : Ot TT H0 b a c A C D E L M L' M' kvs told n H) (ne : a ≠ b ∧ c ≠ b ∧ A ≠ b ∧ C ≠ b ∧ D ≠ b ∧ E ≠ b) (t : But b H G) (th : Three G b m) : Ot TT H0 b a c A C D E L M L' M' kvs told m G := by
  obtain ⟨n1, n2, n3, n4, n5, n6⟩ := ne
  obtain ⟨_, _, _, h0, _⟩ := id o.th
  exact ⟨o.k0.trans t, th, tabs_but o.tb o.th t, t _ _ n1 o.a1, o.a2.but h0 t, t _ _ n2 o.c1, o.c2.but h0 t, t _ _ n3 o.A1, o.A2.but h0 t, t _ _ n4 o.C1, o.C2.but h0 t, t _ _ n5 o.d1, t _ _ n6 o.e1⟩
end
theorem nx_st {D : Ends} {σ τ : L2.St} {H : Hp} (e : σ = τ) (h : D.nx τ H) : D.nx σ H := e ▸ h
theorem names_back {L : List (Addr × Wt)} {f : Str → Str} {kvs : List (Key × V)} (nam : Names L f kvs) {x : Str} (hx : x ∈ (L.map (·.2)).map (·.n)) : some (V.str (f x)) = valV kvs (.inr x) ∧ Asc (f x) := by
  obtain ⟨w, hw, rfl⟩ := List.mem_map.mp hx
  obtain ⟨q, hq, rfl⟩ := List.mem_map.mp hw
  exact ⟨(nam.val q hq).symm, nam.asc q hq⟩
def sp__law_right (K : PySem.W.Frag) (TT : List (Addr × Str)) : Sp := fun vs H Q _ => ∃ (b a c : Addr) (n : Int) (L : List (Addr × Wt)) (M : List (Addr × (Int × Int))), vs = [.ref b, .ref a, .ref c] ∧ Three H b n ∧ n < 1000 ∧ H a = some (.lst (refs L)) ∧ a ≠ b ∧ RowsAt wV H L ∧ L.length ≤ 10 ∧ (∀ q ∈ L, WtOk q.2) ∧ ((L.map (·.2)).map (·.n)).Nodup ∧ H c = some (.lst (refs M)) ∧ c ≠ b ∧ RowsAt iV H M ∧ M.length ≤ 9 ∧ (∀ q ∈ M, In2 q.2) ∧ LamX.Tabs TT H ∧
  ∀ H', But b (dT H) H' → LamX.Tabs TT H' → Q (.bl true) H'
theorem ok__law_right {f : Addr} {fd : FuncData} (F : Fun K "_law_right" "_law_right" s__law_right f fd) (g : mg "_law_right" = some (.ref f)) (bd : Binds K fd ["_law_left_here", "_law_wants_here", "_law_incomes_here"] []) {TT : List (Addr × Str)} (m_sum : mg "sum" = none) (m_max : mg "max" = none) (m_len : mg "len" = none) (C__law_otherwise : CF P w K mg base 4 "_law_otherwise" ["_law_left_here", "_law_wants_here", "_law_incomes_here"] (sp__law_otherwise K)) (C_short_of : CF P w K mg base 2 "short_of" ["wants", "incomes"] (sp_short_of K)) (C_most_paid : CF P w K mg base 4 "most_paid" ["wants", "incomes"] (sp_most_paid K TT)) (C__law_pick : CF P w K mg base 2 "_law_pick" ["_law_left_here", "_law_many"] (sp__law_pick K)) (C_can_pay : CF P w K mg base 3 "can_pay" ["wants", "incomes", "names"] (sp_can_pay K)) : CF P w K mg base 5 "_law_right" ["_law_left_here", "_law_wants_here", "_law_incomes_here"] (sp__law_right K TT) := by
  refine ⟨f, fd, F.ok sc__law_right (fun vs H Q E h => ?_) (fun cdv A outer s H vs Q E hr h => ?_), g, F.kp, bd⟩
  · first | (obtain ⟨_, rfl, _⟩ := h; rfl) | (obtain ⟨_, _, rfl, _⟩ := h; rfl) | (obtain ⟨_, _, _, rfl, _⟩ := h; rfl) | (obtain ⟨_, _, _, _, rfl, _⟩ := h; rfl) | (obtain ⟨_, _, _, _, _, rfl, _⟩ := h; rfl) | (obtain ⟨_, _, _, _, _, _, rfl, _⟩ := h; rfl) | (obtain ⟨_, _, _, _, _, _, _, rfl, _⟩ := h; rfl) | (obtain ⟨_, _, _, _, _, _, _, _, rfl, _⟩ := h; rfl) | (obtain ⟨_, _, _, _, _, _, _, _, _, rfl, _⟩ := h; rfl) | (obtain ⟨_, _, _, _, _, _, _, _, _, _, rfl, _⟩ := h; rfl) | (obtain ⟨_, _, _, _, _, _, _, _, _, _, _, rfl, _⟩ := h; rfl) | (obtain ⟨_, _, _, _, _, _, _, _, _, _, _, _, rfl, _⟩ := h; rfl) | (obtain ⟨_, _, _, _, _, _, _, _, _, _, _, _, _, rfl, _⟩ := h; rfl) | (obtain ⟨_, _, _, _, _, _, _, _, _, _, _, _, _, _, rfl, _⟩ := h; rfl) | (obtain ⟨_, _, _, _, _, _, _, _, _, _, _, _, _, _, _, rfl, _⟩ := h; rfl)
  · have hu64 := hr.units
    have hu1 := hu1_of hu64
    obtain ⟨b, a, c, n, L, M, rfl, hb, hn, ha, nab, hR, small, okW, nd, hc, ncb, hR2, small2, okM, hT, q⟩ := h
    refine ⟨_, (pss_cons (ps_asg (pe_cf C__law_otherwise (hr.mono (by decide)) (by rfl) (pa_cons (pv 0) (pa_cons (pv 1) (pa_cons (pv 2) pa_nil)))) (pg_tup (by rfl) (pgs_cons (pg_name (i := 3) sc__law_right.nd rfl (.inl rfl)) (pgs_cons (pg_name (i := 4) sc__law_right.nd rfl (.inl rfl)) (pgs_cons (pg_name (i := 5) sc__law_right.nd rfl (.inr rfl)) (pgs_cons (pg_name (i := 6) sc__law_right.nd rfl (.inr rfl)) pgs_nil))))))
      (pss_cons (ps_par (i := 7) (j := 8) (by rfl) sc__law_right.nd rfl rfl (by decide) rfl rfl (pa_cons (pe_cf C_most_paid (hr.mono (by decide)) (by rfl) (pa_cons (pv 1) (pa_cons (pv 2) pa_nil))) (pa_cons (pe_cf C_short_of (hr.mono (by decide)) (by rfl) (pa_cons (pv 1) (pa_cons (pv 2) pa_nil))) pa_nil)) (by rfl))
      (pss_cons (ps_if (pt_cmpR (kk_neD K hu64) (pe_cf C_most_paid (hr.mono (by decide)) (by rfl) (pa_cons (pv 3) (pa_cons (pv 4) pa_nil))) (pe_lc (own := [("_law_name", 9)]) (g := (gName 9)) (tt := tYes) rfl sc__law_right.nd (pi_list (pv 7)) (blkOk_by (own := [("_law_name", 9)]) (N := N__law_right) (sc := defScope s__law_right) (by decide +kernel)) (fun _ _ _ _ _ => pg_name (i := 9) sc__law_right.nd rfl (Or.inl rfl)) (fun _ _ _ _ _ => pts_nil) (fun _ _ _ _ _ => (pe_dget hu1 (pv 5) (pv 9) (fun _ _ => rfl)))) (nomark _))
         (pss_one (ps_ret pe_bl))
         pss_nil)
      (pss_cons (ps_if (pt_cmpR (kk_neD K hu64) (pe_cf C_short_of (hr.mono (by decide)) (by rfl) (pa_cons (pv 3) (pa_cons (pv 4) pa_nil))) (pe_lc (own := [("_law_day", 10), ("_law_pence", 11)]) (g := (gTup K 2 (gCons (gName 10) (gCons (gName 11) gNil)))) (tt := tYes) rfl sc__law_right.nd (pi_list (pv 8)) (blkOk_by (own := [("_law_day", 10), ("_law_pence", 11)]) (N := N__law_right) (sc := defScope s__law_right) (by decide +kernel)) (fun _ _ _ _ _ => (pg_tup (by rfl) (pgs_cons (pg_name (i := 10) sc__law_right.nd rfl (.inl rfl)) (pgs_cons (pg_name (i := 11) sc__law_right.nd rfl (.inl rfl)) pgs_nil)))) (fun _ _ _ _ _ => pts_nil) (fun _ _ _ _ _ => (pe_tup (pa_cons (pe_op op_add (pv 10) (pv 6)) (pa_cons (pe_op op_mul pe_int (pv 11)) pa_nil))))) (nomark _))
         (pss_one (ps_ret pe_bl))
         pss_nil)
      (pss_cons (ps_setLc (i := 12) (own := [("_law_want", 13)]) (g := (gName 13)) rfl sc__law_right.nd rfl rfl (sw_true rfl rfl rfl (by decide +kernel)) (pi_list (pv 1)) (blkOk_by (own := [("_law_want", 13)]) (N := N__law_right) (sc := defScope s__law_right) (by decide +kernel)) (fun _ _ _ _ _ => pg_name (i := 13) sc__law_right.nd rfl (Or.inl rfl)) (fun _ _ _ _ _ => (pts_one (pt_cmpR op_eq (pe_cf C__law_pick (hr.mono (by decide)) (by rfl) (pa_cons (pv 0) (pa_cons pe_int pa_nil))) pe_int (nomark _)))) (fun _ _ _ _ _ => (pe_ix (kk_ixt K) (pv 13) pe_int (fun _ _ => rfl))))
      (pss_cons (ps_set (i := 14) sc__law_right.nd rfl (.inl rfl) (pe_cf C_can_pay (hr.mono (by decide)) (by rfl) (pa_cons (pv 1) (pa_cons (pv 2) (pa_cons (pv 12) pa_nil)))))
      (pss_cons (ps_if (pt_cmpR op_ne (pe_cf C_can_pay (hr.mono (by decide)) (by rfl) (pa_cons (pv 3) (pa_cons (pv 4) (pa_cons (pe_lc (own := [("_law_name", 9)]) (g := (gName 9)) (tt := tYes) rfl sc__law_right.nd (pi_list (pv 12)) (blkOk_by (own := [("_law_name", 9)]) (N := N__law_right) (sc := defScope s__law_right) (by decide +kernel)) (fun _ _ _ _ _ => pg_name (i := 9) sc__law_right.nd rfl (Or.inl rfl)) (fun _ _ _ _ _ => pts_nil) (fun _ _ _ _ _ => (pe_dget hu1 (pv 5) (pv 9) (fun _ _ => rfl)))) pa_nil)))) (pv 14) (nomark _))
         (pss_one (ps_ret pe_bl))
         pss_nil)
      (pss_cons (ps_set (i := 15) sc__law_right.nd rfl (.inl rfl) (pe_op op_add (pe_callB (kk_sum K rfl) (by rfl) m_sum (by decide +kernel) (pa_cons (pe_lc (own := [("_law_day", 10), ("_law_pence", 11)]) (g := (gTup K 2 (gCons (gName 10) (gCons (gName 11) gNil)))) (tt := tYes) rfl sc__law_right.nd (pi_list (pv 2)) (blkOk_by (own := [("_law_day", 10), ("_law_pence", 11)]) (N := N__law_right) (sc := defScope s__law_right) (by decide +kernel)) (fun _ _ _ _ _ => (pg_tup (by rfl) (pgs_cons (pg_name (i := 10) sc__law_right.nd rfl (.inl rfl)) (pgs_cons (pg_name (i := 11) sc__law_right.nd rfl (.inl rfl)) pgs_nil)))) (fun _ _ _ _ _ => pts_nil) (fun _ _ _ _ _ => (pv 11))) pa_nil)) pe_int))
      (pss_cons (ps_if (PW.pt (pw_and (pt_cmpR op_le (pv 15) (pe_op op_pow pe_int pe_int) (nomark _)) (pw_and1 (pt_cmpR (kk_neD K hu64) (pe_cf C_most_paid (hr.mono (by decide)) (by rfl) (pa_cons (pe_op op_cat (pv 1) (pe_lst (pa_cons (pe_tup (pa_cons pe_str (pa_cons (pv 15) (pa_cons pe_int pa_nil)))) pa_nil))) (pa_cons (pv 2) pa_nil))) (pv 7) (nomark _)))))
         (pss_one (ps_ret pe_bl))
         pss_nil)
      (pss_cons (ps_set (i := 16) sc__law_right.nd rfl (.inl rfl) (pe_callB (kk_max K rfl) (by rfl) m_max (by decide +kernel) (pa_cons (pe_op op_cat (pe_lc (own := [("_law_want", 13)]) (g := (gName 13)) (tt := tYes) rfl sc__law_right.nd (pi_list (pv 1)) (blkOk_by (own := [("_law_want", 13)]) (N := N__law_right) (sc := defScope s__law_right) (by decide +kernel)) (fun _ _ _ _ _ => pg_name (i := 13) sc__law_right.nd rfl (Or.inl rfl)) (fun _ _ _ _ _ => pts_nil) (fun _ _ _ _ _ => (pe_ix (kk_ixt K) (pv 13) pe_int (fun _ _ => rfl)))) (pe_lst (pa_cons pe_int pa_nil))) pa_nil)))
      (pss_one (ps_ret (pe_cmpR op_gt (pe_callB (kk_len K) (by rfl) m_len PySem.boot_len (pa_cons (pe_cf C_most_paid (hr.mono (by decide)) (by rfl) (pa_cons (pe_op op_cat (pv 1) (pe_lst (pa_cons (pe_tup (pa_cons pe_str (pa_cons pe_int (pa_cons (pv 16) pa_nil)))) pa_nil))) (pa_cons (pe_op op_cat (pv 2) (pe_lst (pa_cons (pe_tup (pa_cons pe_int (pa_cons pe_int pa_nil))) pa_nil))) pa_nil))) pa_nil)) (pe_callB (kk_len K) (by rfl) m_len PySem.boot_len (pa_cons (pv 7) pa_nil)) (nomark _)))))))))))))), ?_⟩
    refine ⟨_, rfl, _, rfl, _, rfl, b, a, c, n, L, M, rfl, hb, hn, ha, nab, hR, small, okW, nd, hc, ncb, hR2, small2, fun q hq => (okM q hq).1, fun q hq => (okM q hq).2, fun H1 T A C D later f kvs L' M' b1 t1 nT hT1 hA nAb rA pA hC nCb rC lC hcom hD nDb nam l0 => ?_⟩
    refine ⟨T, _, rfl, SqT.of hT1, rfl, _, _, rfl, _, _, rfl, _, _, rfl, _, _, rfl, rfl, ?_⟩
    obtain ⟨_, _, _, h0, _⟩ := id hb
    have ha1 := t1 _ _ nab ha
    have hR1 := hR.but h0 t1
    have hc1 := t1 _ _ ncb hc
    have hRM1 := hR2.but h0 t1
    have T1 := tabs_but hT hb t1
    have k1 : But b (dT H) H1 := fun x o nx e => t1 x o nx (dT_some e).1
    have lL' : L'.length = L.length := by
      have e := pA.length_eq
      rw [List.length_map, List.length_map, List.length_map] at e
      exact e
    have inj := nam.inj
    have okw : Okw (L.map (·.2)) := ⟨nd, fun w hw => by
      obtain ⟨y, hy, rfl⟩ := List.mem_map.mp hw
      have := (okW y hy).2.1
      omega⟩
    have okI : ∀ i ∈ M.map (·.2), 0 ≤ i.2 := fun i hi => by
      obtain ⟨y, hy, rfl⟩ := List.mem_map.mp hi
      exact (okM y hy).1.2.2.1
    clear hT1 nT ha hc hR hR2 t1 hT
    refine ⟨_, rfl, _, rfl, a, c, L, M, rfl, .inl (SqL.of ha1), hR1, by omega, .inl (SqL.of hc1), hRM1, by omega, T1, fun H2 E ns1 v2 T2 nE pm1 srt1 hE => ?_⟩
    have nEb : E ≠ b := by
      obtain ⟨_, _, _, h1, _⟩ := id b1
      exact (ne_of_none (lst_dT h1) nE).symm
    have o2 : Ot TT H b a c A C D E L M L' M' kvs (greedF (M.map (·.2)) (L.map (·.2)) ns1) (n + 100) H2 := ⟨kp_dT k1 v2, three_go b1 v2, T2, v2 _ _ (lst_dT ha1), (dT_rows hR1).same v2, v2 _ _ (lst_dT hc1), (dT_rows hRM1).same v2, v2 _ _ (lst_dT hA), (dT_rows rA).same v2, v2 _ _ (lst_dT hC), (dT_rows rC).same v2, v2 _ _ (dT_of hD fun _ z => by cases z), hE⟩
    have ne6 : a ≠ b ∧ c ≠ b ∧ A ≠ b ∧ C ≠ b ∧ D ≠ b ∧ E ≠ b := ⟨nab, ncb, nAb, nCb, nDb, nEb⟩
    clear k1 v2 b1 T2 ha1 hR1 hc1 hRM1 hA rA hC rC hD hE nE T1 nab ncb nAb nCb nDb nEb
    have toldIn : ∀ x ∈ greedF (M.map (·.2)) (L.map (·.2)) ns1, x ∈ (L.map (·.2)).map (·.n) := fun x hx => pm1.mem_iff.mp (greed_in x hx)
    have tmap : ∀ {ms : List Str}, ms.Perm ((L'.map (·.2)).map (·.n)) → sortedS ms = true → greedF (M'.map (·.2)) (L'.map (·.2)) ms = (greedF (M.map (·.2)) (L.map (·.2)) ns1).map f := fun pm sm => told_map okw inj hcom (nam.rise ns1 pm1 srt1) pA pm1 pm sm
    have lenT : (greedF (M.map (·.2)) (L.map (·.2)) ns1).length ≤ 10 := by
      have h1 := greed_len (M.map (·.2)) (L.map (·.2)) ns1
      have h2 := pm1.length_eq
      rw [List.length_map, List.length_map] at h2
      omega
    have same1 : ∀ {z : Wt} {ms : List Str}, z.n ∉ (L.map (·.2)).map (·.n) → 0 ≤ z.p → (∀ d, comF (M.map (·.2)) d < z.p) → ms.Perm (((L.map (·.2)) ++ [z]).map (·.n)) → sortedS ms = true → greedF (M.map (·.2)) (L.map (·.2) ++ [z]) ms = greedF (M.map (·.2)) (L.map (·.2)) ns1 := fun hz pz big pm sm => bad_same okw hz pz big pm1 srt1 pm sm
    have more1 : ∀ {z : Wt} {ms : List Str}, z.n ∉ (L.map (·.2)).map (·.n) → z.p = 1 → (∀ w ∈ L.map (·.2), 0 ≤ w.l ∧ w.l ≤ z.l) → 0 ≤ z.l → ms.Perm (((L.map (·.2)) ++ [z]).map (·.n)) → (greedF (M.map (·.2)) (L.map (·.2)) ns1).length < (greedF (M.map (·.2) ++ [(0, 1)]) (L.map (·.2) ++ [z]) ms).length := fun hz ep hl z0 pm => greed_more okw hz ep hl z0 okI pm1 pm
    generalize greedF (M.map (·.2)) (L.map (·.2)) ns1 = told at *
    clear pm1 srt1
    refine ⟨_, rfl, _, rfl, a, c, L, M, rfl, .inl (SqL.of o2.a1), o2.a2, by omega, .inl (SqL.of o2.c1), o2.c2, by omega, fun H3 F S ds nF s3 hF rS lasts eS lS => ⟨_, _, rfl, ?_⟩⟩
    have o3 := o2.same s3
    clear o2 s3 nF
    refine ⟨_, rfl, _, rfl, A, C, L', M', rfl, .inl (SqL.of o3.A1), o3.A2, by omega, .inl (SqL.of o3.C1), o3.C2, by omega, o3.tb, fun H4 G1 ns2 v4 T4 nG pm2 srt2 hG => ?_⟩
    have o4 := o3.dt v4 T4
    have hF4 := v4 _ _ (lst_dT hF)
    have rS4 := (dT_rows rS).same v4
    rw [tmap pm2 srt2] at hG
    clear o3 v4 T4 nG hF rS pm2 srt2 tmap
    have ascT : ∀ s ∈ told.map f, Asc s := fun s hs => by
      obtain ⟨x, hx, rfl⟩ := List.mem_map.mp hs
      exact (names_back nam (toldIn x hx)).2
    refine ⟨_, rfl, E, rfl, ⟨_, SqL.of o4.e1⟩, fun P nP => lc_list (K := K) (a := E) (xs := told.map V.str) (fun i X => Same H4 X ∧ X P = some (.lst (((told.take i).map f).map V.str))) ⟨same_new nP, upd_same⟩ (fun i X _ h => SqL.of (h.1 _ _ o4.e1)) (fun i x X hx h => ?_) (fun X h => ?_)⟩
    · obtain ⟨sX, hP⟩ := h
      rw [List.getElem?_map] at hx
      obtain ⟨nm, hnm, rfl⟩ := Option.map_eq_some_iff.mp hx
      have hi := (List.getElem?_eq_some_iff.mp hnm).1
      refine ⟨rfl, _, rfl, _, rfl, D, .str (f nm), rfl, .inl ⟨kvs, .inr nm, .inl (sX _ _ o4.d1), rfl, (names_back nam (toldIn nm (List.mem_of_getElem? hnm))).1⟩, _, hP, ?_, fun x o ex => by
        rw [upd_ne (ne_of_none ex nP)]
        exact sX _ _ ex, ?_⟩
      · rw [List.length_map, List.length_map, List.length_take]
        exact small1000 (by omega)
      · rw [upd_same, take_snoc hnm, List.map_append, List.map_append]
        rfl
    obtain ⟨sX, hP⟩ := h
    rw [List.length_map, List.take_of_length_le (Nat.le_refl _)] at hP
    refine neStrs ascT rfl (sX _ _ hG) hP ⟨_, rfl, iteF ?_⟩
    have o5 := o4.same sX
    have hF5 := sX _ _ hF4
    have rS5 := rS4.same sX
    clear o4 hF4 rS4 sX hP hG nP
    refine ⟨_, rfl, _, rfl, A, C, L', M', rfl, .inl (SqL.of o5.A1), o5.A2, by omega, .inl (SqL.of o5.C1), o5.C2, by omega, fun H6 F2 S2 es nF2 s6 hF2 rS2 lasts2 eS2 lS2 => ?_⟩
    have o6 := o5.same s6
    have hF6 := s6 _ _ hF5
    have rS6 := rS5.same s6
    clear o5 s6 hF5 rS5 nF2
    refine ⟨_, rfl, F, rfl, ⟨_, SqL.of hF6⟩, fun P nP => rows_lcA (f2 := iV) (fun _ : Int × Int => true) (fun x => (x.1 + later, 3 * x.2)) (jok_l (K := K) (SqL.of hF6)) rS6 (by omega) nP (fun q hq G s hG Y N h1 h2 => ?_) (fun G U s hG hU eU => ?_)⟩
    · exact ⟨q.1, _, rfl, SqT.of hG, rfl, _, _, rfl, _, _, rfl, rfl, rfl, _, rfl, _, rfl, _, _, rfl, rfl, _, rfl, _, _, rfl, rfl, .inl ⟨by decide, by decide⟩, (by show 2 ≤ sizeLine; decide), fun t nt => h1 rfl t nt⟩
    have eqS : S2.map (·.2) = U.map (·.2) := by
      rw [eU, List.filter_eq_self.mpr (fun _ _ => rfl), eS, eS2]
      exact short_told hcom pA lasts lasts2
    refine nePairs (s _ _ hF2) hG (rS2.same s) hU eqS ⟨_, rfl, iteF ?_⟩
    have o7 := o6.same s
    clear o6 hF6 rS6 hF2 rS2 hG hU eU eqS eS eS2 lasts lasts2 s nP
    refine ⟨_, rfl, a, rfl, ⟨_, SqL.of o7.a1⟩, fun P nP => lc_list (K := K) (a := a) (xs := refs L) (fun i X => But b G X ∧ Three X b (n + 100 + i) ∧ ∃ nm : List Str, nm.length ≤ i ∧ (∀ x ∈ nm, x ∈ (L.map (·.2)).map (·.n)) ∧ X P = some (.lst (nm.map V.str))) ⟨But.new nP, (o7.th.mono (by omega)).new nP, [], Nat.le_refl _, (fun _ h => nomatch h), upd_same⟩ (fun i X _ h => SqL.of (h.1 _ _ ne6.1 o7.a1)) (fun i x X hx h => ?_) (fun X h => ?_)⟩
    · obtain ⟨tX, bX, nm, lnm, hnm, hP⟩ := h
      obtain ⟨x2, hx2, rfl, hmem⟩ := refs_at hx
      have hi := (List.getElem?_eq_some_iff.mp hx2).1
      have nPb : P ≠ b := o7.th.ne nP
      obtain ⟨_, _, _, hbG, _⟩ := id o7.th
      refine ⟨rfl, _, rfl, b, 2, _, rfl, bX, by decide, by decide, by omega, fun r X2 r0 r1 b2 t2 => ⟨rfl, _, rfl, ite2 (fun _ => ?_) (fun _ => ?_)⟩⟩
      · have hx3 := t2 _ _ (ne_of (o7.a2 x2 hmem) hbG (by intro z; cases z)) (tX _ _ (ne_of (o7.a2 x2 hmem) hbG (by intro z; cases z)) (o7.a2 x2 hmem))
        refine ⟨_, rfl, x2.1, _, _, _, rfl, rfl, SqT.of hx3, rfl, _, t2 _ _ nPb hP, ?_, updNew (tX.trans t2) nP, (b2.mono (by omega)).upd nPb, nm ++ [x2.2.n], ?_, ?_, ?_⟩
        · rw [List.length_map]
          exact small1000 (by omega)
        · rw [List.length_append]
          exact Nat.add_le_add_right lnm 1
        · intro y hy
          rcases List.mem_append.mp hy with h | h
          · exact hnm y h
          · rw [List.mem_singleton.mp h]
            exact List.mem_map.mpr ⟨x2.2, List.mem_map.mpr ⟨x2, hmem, rfl⟩, rfl⟩
        · rw [upd_same, List.map_append]
          rfl
      · exact ⟨tX.trans t2, b2.mono (by omega), nm, by omega, hnm, t2 _ _ nPb hP⟩
    obtain ⟨tX, bX, nm, lnm, hnm, hP⟩ := h
    have lrL : (refs L).length = L.length := List.length_map ..
    rw [lrL] at lnm bX
    have o8 := o7.but ne6 tX bX
    have nPb : P ≠ b := o7.th.ne nP
    clear o7 tX bX nP
    refine ⟨_, rfl, _, rfl, _, rfl, a, c, P, L, M, nm, rfl, .inl (SqL.of o8.a1), o8.a2, by omega, .inl (SqL.of o8.c1), o8.c2, by omega, .inl (SqL.of hP), fun H9 d9 s9 la9 => ?_⟩
    have o9 := o8.same s9
    have hP9 := s9 _ _ hP
    clear o8 s9 hP
    generalize hfd : decide (shortF (selF nm (L.map (·.2))) (M.map (·.2)) d9 = []) = fd
    refine ⟨_, rfl, _, rfl, _, rfl, P, rfl, ⟨_, SqL.of hP9⟩, fun P2 nP2 => lc_list (K := K) (a := P) (xs := nm.map V.str) (fun i X => Same H9 X ∧ X P2 = some (.lst (((nm.take i).map f).map V.str))) ⟨same_new nP2, upd_same⟩ (fun i X _ h => SqL.of (h.1 _ _ hP9)) (fun i x X hx h => ?_) (fun X h => ?_)⟩
    · obtain ⟨sX, hP2⟩ := h
      rw [List.getElem?_map] at hx
      obtain ⟨y, hy, rfl⟩ := Option.map_eq_some_iff.mp hx
      have hi := (List.getElem?_eq_some_iff.mp hy).1
      refine ⟨rfl, _, rfl, _, rfl, D, .str (f y), rfl, .inl ⟨kvs, .inr y, .inl (sX _ _ o9.d1), rfl, (names_back nam (hnm y (List.mem_of_getElem? hy))).1⟩, _, hP2, ?_, fun x o ex => by
        rw [upd_ne (ne_of_none ex nP2)]
        exact sX _ _ ex, ?_⟩
      · rw [List.length_map, List.length_map, List.length_take]
        exact small1000 (by omega)
      · rw [upd_same, take_snoc hy, List.map_append, List.map_append]
        rfl
    obtain ⟨sX, hP2⟩ := h
    rw [List.length_map, List.take_of_length_le (Nat.le_refl _)] at hP2
    have oX := o9.same sX
    clear o9 sX hP9 nP2
    refine ⟨A, C, P2, L', M', nm.map f, rfl, .inl (SqL.of oX.A1), oX.A2, by omega, .inl (SqL.of oX.C1), oX.C2, by omega, .inl (SqL.of hP2), fun H10 d10 s10 la10 => ?_⟩
    rw [can_told inj hnm hcom pA la9 la10, hfd]
    refine ⟨_, rfl, rfl, _, rfl, ?_⟩
    rw [bl_ne]
    refine iteF ?_
    have o10 := oX.same s10
    clear oX s10 hP2 la9 la10 hfd
    refine nx_st (τ := [some (.ref b), some (.ref a), some (.ref c), some (.ref A), some (.ref C), some (.ref D), some (.int later), some (.ref E), some (.ref F), none, none, none, some (.ref P), none, some (.bl fd), none, none]) rfl ?_
    refine ⟨_, rfl, c, rfl, ⟨_, SqL.of o10.c1⟩, fun P3 nP3 => rows_lc (fun _ : Int × Int => true) (fun q => V.int q.2.2) (jok_l (K := K) (SqL.of o10.c1)) o10.c2 (by omega) nP3 (fun q hq G s hG Y N h1 h2 => ⟨q.1, _, rfl, SqT.of hG, rfl, _, _, rfl, _, _, rfl, rfl, rfl, _, rfl, h1 rfl⟩) (fun H11 s11 hP3 => ?_)⟩
    rw [List.filter_eq_self.mpr (fun _ _ => rfl)] at hP3
    have hP3 : H11 P3 = some (.lst (((M.map (·.2)).map (·.2)).map V.int)) := by
      rw [hP3, List.map_map, List.map_map]
      rfl
    refine ⟨P3, _, rfl, SqL.of hP3, _, _, rfl, rfl, ?_⟩
    have o11 := o10.same s11
    have big : ∀ d, comF (M.map (·.2)) d < ((M.map (·.2)).map (·.2)).sum + 1 := fun d => by
      have := com_all okI d
      omega
    have sm0 : 0 ≤ ((M.map (·.2)).map (·.2)).sum := (sum_bnd (B := 10000000) fun x hx => by
      obtain ⟨i, hi, rfl⟩ := List.mem_map.mp hx
      obtain ⟨q, hq, rfl⟩ := List.mem_map.mp hi
      exact ⟨(okM q hq).1.2.2.1, (okM q hq).2⟩).1
    clear o10 s11 hP3 nP3
    generalize ((M.map (·.2)).map (·.2)).sum = sm at *
    have noZ : Str.ofString "zzzzzzzz" ∉ (L.map (·.2)).map (·.n) := fun h => by
      obtain ⟨w, hw, e⟩ := List.mem_map.mp h
      obtain ⟨q, hq, rfl⟩ := List.mem_map.mp hw
      have h1 := (okW q hq).1.2
      rw [e] at h1
      exact absurd h1 (by decide +kernel)
    have ascO : ∀ s ∈ told, Asc s := fun s hs => by
      obtain ⟨w, hw, rfl⟩ := List.mem_map.mp (toldIn s hs)
      obtain ⟨q, hq, rfl⟩ := List.mem_map.mp hw
      exact (okW q hq).1.1
    have rSn : ∀ {G : Hp} {U : Addr} {z : Wt}, RowsAt wV G L → G U = some (.tup (wV z)) → RowsAt wV G (L ++ [(U, z)]) := fun h1 h2 x hx => by
      rcases List.mem_append.mp hx with hx | hx
      · exact h1 x hx
      · rw [List.mem_singleton.mp hx]
        exact h2
    show gName 15 _ _ _ _
    refine step_name ?_
    refine nx_st (τ := [some (.ref b), some (.ref a), some (.ref c), some (.ref A), some (.ref C), some (.ref D), some (.int later), some (.ref E), some (.ref F), none, none, none, some (.ref P), none, some (.bl fd), some (.int (sm + 1)), none]) rfl ?_
    refine step_nxs (fun G => Ot TT H b a c A C D E L M L' M' kvs told (n + 100 + (L.length : Int)) G) (fun G oG => ?_) (fun Z go => ?_)
    · refine ⟨_, rfl, a, rfl, ⟨_, SqL.of oG.a1⟩, fun R nR => rows_lc (fun _ : Wt => true) (fun q => V.int q.2.l) (jok_l (K := K) (SqL.of oG.a1)) oG.a2 (by omega) nR (fun q hq G s hG Y N h1 h2 => ⟨rfl, _, rfl, q.1, _, _, _, rfl, rfl, SqT.of hG, rfl, h1 rfl⟩) (fun G2 s2 hE => ?_)⟩
      rw [List.filter_eq_self.mpr (fun _ _ => rfl)] at hE
      have hE : G2 R = some (.lst (((L.map (·.2)).map (·.l)).map V.int)) := by
        rw [hE, List.map_map, List.map_map]
        rfl
      refine ⟨(by show 1 ≤ sizeLine; decide), fun z nz => ?_⟩
      have vz := same_new (o := .lst [.int 0]) nz
      refine ⟨R, z, _, _, rfl, rfl, vz _ _ hE, upd_same, ?_, fun y ny => ?_⟩
      · rw [List.length_map, List.length_map, List.length_map]
        exact size_small (by show L.length + 1 ≤ 1000; omega)
      have vy := s2.trans (vz.trans (same_new (o := .lst (((L.map (·.2)).map (·.l)).map V.int ++ [.int 0])) ny))
      have hy := upd_same (H := upd G2 z (.lst [.int 0])) (a := y) (o := .lst (((L.map (·.2)).map (·.l)).map V.int ++ [.int 0]))
      refine ⟨y, (L.map (·.2)).map (·.l) ++ [0], rfl, SqL.of (by rw [List.map_append]; exact hy), by simp, fun last hm top => ?_⟩
      have o12 := oG.same vy
      generalize upd (upd G2 z (.lst [.int 0])) y (.lst (((L.map (·.2)).map (·.l)).map V.int ++ [.int 0])) = G3 at *
      clear oG vy vz hE hy nz ny nR s2
      have z0 : 0 ≤ last := top 0 (List.mem_append_right _ (List.mem_singleton.mpr rfl))
      have zl : ∀ w ∈ L.map (·.2), 0 ≤ w.l ∧ w.l ≤ last := fun w hw => by
        obtain ⟨q, hq, rfl⟩ := List.mem_map.mp hw
        exact ⟨(okW q hq).2.2.2.1, top _ (List.mem_append_left _ (List.mem_map.mpr ⟨q.2, List.mem_map.mpr ⟨q, hq, rfl⟩, rfl⟩))⟩
      refine ⟨_, rfl, _, rfl, (by show 3 ≤ sizeLine; decide), fun U nU => ⟨(by show 1 ≤ sizeLine; decide), fun Y nY => ?_⟩⟩
      have w1 := same_new (o := .tup [.str (Str.ofString "zzzzzzzz"), .int 1, .int last]) nU
      have w2 := same_new (o := .lst [.ref U]) nY
      refine ⟨a, Y, _, _, rfl, rfl, w2 _ _ (w1 _ _ o12.a1), upd_same, ?_, fun W nW => ?_⟩
      · rw [lrL]
        exact size_small (by show L.length + 1 ≤ 1000; omega)
      have w3 := same_new (o := .lst (refs L ++ [.ref U])) nW
      have hU := w3 _ _ (w2 _ _ (upd_same (H := G3) (a := U) (o := .tup [.str (Str.ofString "zzzzzzzz"), .int 1, .int last])))
      have hW := upd_same (H := upd (upd G3 U (.tup [.str (Str.ofString "zzzzzzzz"), .int 1, .int last])) Y (.lst [.ref U])) (a := W) (o := .lst (refs L ++ [.ref U]))
      have o13 := o12.same (w1.trans (w2.trans w3))
      generalize upd (upd (upd G3 U (.tup [.str (Str.ofString "zzzzzzzz"), .int 1, .int last])) Y (.lst [.ref U])) W (.lst (refs L ++ [.ref U])) = G4 at *
      clear o12 w1 w2 w3 nU nY nW
      refine ⟨_, rfl, (by show 2 ≤ sizeLine; decide), fun U2 nU2 => ⟨(by show 1 ≤ sizeLine; decide), fun Y2 nY2 => ?_⟩⟩
      have w1 := same_new (o := .tup [.int 0, .int 1]) nU2
      have w2 := same_new (o := .lst [.ref U2]) nY2
      refine ⟨c, Y2, _, _, rfl, rfl, w2 _ _ (w1 _ _ o13.c1), upd_same, ?_, fun W2 nW2 => ?_⟩
      · rw [List.length_map]
        exact size_small (by show M.length + 1 ≤ 1000; omega)
      have w3 := same_new (o := .lst (refs M ++ [.ref U2])) nW2
      have hU2 := w3 _ _ (w2 _ _ (upd_same (H := G4) (a := U2) (o := .tup [.int 0, .int 1])))
      have hW2 := upd_same (H := upd (upd G4 U2 (.tup [.int 0, .int 1])) Y2 (.lst [.ref U2])) (a := W2) (o := .lst (refs M ++ [.ref U2]))
      have o14 := o13.same (w1.trans (w2.trans w3))
      have hU := (w1.trans (w2.trans w3)) _ _ hU
      have hW := (w1.trans (w2.trans w3)) _ _ hW
      generalize upd (upd (upd G4 U2 (.tup [.int 0, .int 1])) Y2 (.lst [.ref U2])) W2 (.lst (refs M ++ [.ref U2])) = G5 at *
      clear o13 w1 w2 w3 nU2 nY2 nW2
      rw [← refs_snoc (q := (U, (⟨Str.ofString "zzzzzzzz", 1, last⟩ : Wt)))] at hW
      rw [← refs_snoc (q := (U2, ((0, 1) : Int × Int)))] at hW2
      refine ⟨W, W2, L ++ [(U, ⟨Str.ofString "zzzzzzzz", 1, last⟩)], M ++ [(U2, (0, 1))], rfl, .inl (SqL.of hW), rSn (z := ⟨Str.ofString "zzzzzzzz", 1, last⟩) o14.a2 hU, ?_, .inl (SqL.of hW2), fun x hx => ?_, ?_, o14.tb, fun G6 D6 ns6 v6 T6 nD6 pm6 srt6 hD6 => ?_⟩
      · rw [List.length_append]
        show L.length + 1 ≤ 60
        omega
      · rcases List.mem_append.mp hx with hx | hx
        · exact o14.c2 x hx
        · rw [List.mem_singleton.mp hx]
          exact hU2
      · rw [List.length_append]
        show M.length + 1 ≤ 1000
        omega
      rw [List.map_append, List.map_append] at hD6
      rw [List.map_append] at pm6
      have lt := more1 (z := ⟨Str.ofString "zzzzzzzz", 1, last⟩) (ms := ns6) noZ rfl zl z0 pm6
      have o15 := o14.dt v6 T6
      refine ⟨D6, _, rfl, .inl (SqL.of hD6), _, rfl, E, _, rfl, .inl (SqL.of o15.e1), _, _, rfl, rfl, ?_⟩
      show Q (V.bl (decide (_ < _))) G6
      rw [decide_eq_true (by
        rw [List.length_map, List.length_map]
        have lt2 : told.length < (greedF (List.map (fun x => x.2) M ++ List.map (fun x => x.2) [(U2, ((0, 1) : Int × Int))]) (List.map (fun x => x.2) L ++ List.map (fun x => x.2) [(U, (⟨Str.ofString "zzzzzzzz", 1, last⟩ : Wt))]) ns6).length := lt
        omega)]
      exact q _ o15.k0 o15.tb
    · refine ⟨_, rfl, _, _, rfl, rfl, ⟨by decide, by decide, by decide⟩, _, _, rfl, rfl, _, rfl, ite2 (fun _ => ?_) (fun _ => iteF (go _ o11))⟩
      refine ⟨_, rfl, _, rfl, (by show 3 ≤ sizeLine; decide), fun U nU => ⟨(by show 1 ≤ sizeLine; decide), fun Y nY => ?_⟩⟩
      have w1 := same_new (o := .tup [.str (Str.ofString "zzzzzzzz"), .int (sm + 1), .int 999]) nU
      have w2 := same_new (o := .lst [.ref U]) nY
      refine ⟨a, Y, _, _, rfl, rfl, w2 _ _ (w1 _ _ o11.a1), upd_same, ?_, fun W nW => ?_⟩
      · rw [lrL]
        exact size_small (by show L.length + 1 ≤ 1000; omega)
      have w3 := same_new (o := .lst (refs L ++ [.ref U])) nW
      have hU := w3 _ _ (w2 _ _ (upd_same (H := H11) (a := U) (o := .tup [.str (Str.ofString "zzzzzzzz"), .int (sm + 1), .int 999])))
      have hW := upd_same (H := upd (upd H11 U (.tup [.str (Str.ofString "zzzzzzzz"), .int (sm + 1), .int 999])) Y (.lst [.ref U])) (a := W) (o := .lst (refs L ++ [.ref U]))
      have o13 := o11.same (w1.trans (w2.trans w3))
      generalize upd (upd (upd H11 U (.tup [.str (Str.ofString "zzzzzzzz"), .int (sm + 1), .int 999])) Y (.lst [.ref U])) W (.lst (refs L ++ [.ref U])) = G4 at *
      clear o11 w1 w2 w3 nU nY nW
      rw [← refs_snoc (q := (U, (⟨Str.ofString "zzzzzzzz", sm + 1, 999⟩ : Wt)))] at hW
      refine ⟨_, rfl, W, c, L ++ [(U, ⟨Str.ofString "zzzzzzzz", sm + 1, 999⟩)], M, rfl, .inl (SqL.of hW), rSn (z := ⟨Str.ofString "zzzzzzzz", sm + 1, 999⟩) o13.a2 hU, ?_, .inl (SqL.of o13.c1), o13.c2, by omega, o13.tb, fun G6 D6 ns6 v6 T6 nD6 pm6 srt6 hD6 => ?_⟩
      · rw [List.length_append]
        show L.length + 1 ≤ 60
        omega
      rw [List.map_append] at hD6 pm6
      have e := same1 (z := ⟨Str.ofString "zzzzzzzz", sm + 1, 999⟩) (ms := ns6) noZ (by show 0 ≤ sm + 1; omega) big pm6 srt6
      have o15 := o13.dt v6 T6
      exact ⟨_, rfl, neStrs ascO e hD6 o15.e1 ⟨_, rfl, iteF (go _ o15)⟩⟩
/-! ### law -/
abbrev s_law : Stmt := topS 18
abbrev N_law : List Str := ["_law_script", "_law_k", "_law_left_here", "_law_wants_here", "_law_name", "_law_pence", "_law_last", "_law_incomes_here", "_law_kept"]
theorem sc_law : FnScope N_law ["_law_script"] (defScope s_law) := ⟨rfl, rfl, rfl, by decide +kernel, rfl, by decide +kernel, by decide +kernel⟩
theorem kp_same {H0 H G : Hp} {b : Addr} (s : Same (dT H0) H) (n : dT H0 b = none) (k : But b (dT H) G) : Same (dT H0) G := fun x o e => k x o (fun z => by rw [z, n] at e; cases e) (dT_of (s x o e) (dT_some e).2)
def sp_law (K : PySem.W.Frag) (TT : List (Addr × Str)) : Sp := fun vs H Q _ => ∃ (a : Addr) (ns : List Int), vs = [.ref a] ∧ SqL K H a (ns.map V.int) ∧ ns.length ≤ 63 ∧ LamX.Tabs TT H ∧ ∀ H', Q (.bl true) H'
theorem ok_law {f : Addr} {fd : FuncData} (F : Fun K "law" "law" s_law f fd) {TT : List (Addr × Str)} (m_range : mg "range" = none) (m_max : mg "max" = none) (m_min : mg "min" = none) (m_len : mg "len" = none) (m_repr : mg "repr" = none) (C__law_left : CF P w K mg base 1 "_law_left" ["_law_script", "_law_k"] (sp__law_left K)) (C__law_wants : CF P w K mg base 4 "_law_wants" ["_law_left_here", "_law_many"] (sp__law_wants K)) (C__law_pick : CF P w K mg base 2 "_law_pick" ["_law_left_here", "_law_many"] (sp__law_pick K)) (C__law_incomes : CF P w K mg base 4 "_law_incomes" ["_law_left_here", "_law_wants_here", "_law_many"] (sp__law_incomes K)) (C__law_right : CF P w K mg base 5 "_law_right" ["_law_left_here", "_law_wants_here", "_law_incomes_here"] (sp__law_right K TT)) : FnG P w K mg base 6 f fd ["_law_script"] (sp_law K TT) := by
  refine okG F sc_law (fun vs H Q E h => ?_) (fun cdv A outer s H vs Q E hr gd h => ?_)
  · first | (obtain ⟨_, rfl, _⟩ := h; rfl) | (obtain ⟨_, _, rfl, _⟩ := h; rfl) | (obtain ⟨_, _, _, rfl, _⟩ := h; rfl) | (obtain ⟨_, _, _, _, rfl, _⟩ := h; rfl) | (obtain ⟨_, _, _, _, _, rfl, _⟩ := h; rfl) | (obtain ⟨_, _, _, _, _, _, rfl, _⟩ := h; rfl) | (obtain ⟨_, _, _, _, _, _, _, rfl, _⟩ := h; rfl) | (obtain ⟨_, _, _, _, _, _, _, _, rfl, _⟩ := h; rfl) | (obtain ⟨_, _, _, _, _, _, _, _, _, rfl, _⟩ := h; rfl) | (obtain ⟨_, _, _, _, _, _, _, _, _, _, rfl, _⟩ := h; rfl) | (obtain ⟨_, _, _, _, _, _, _, _, _, _, _, rfl, _⟩ := h; rfl) | (obtain ⟨_, _, _, _, _, _, _, _, _, _, _, _, rfl, _⟩ := h; rfl) | (obtain ⟨_, _, _, _, _, _, _, _, _, _, _, _, _, rfl, _⟩ := h; rfl) | (obtain ⟨_, _, _, _, _, _, _, _, _, _, _, _, _, _, rfl, _⟩ := h; rfl) | (obtain ⟨_, _, _, _, _, _, _, _, _, _, _, _, _, _, _, rfl, _⟩ := h; rfl)
  · have hu64 := hr.units
    obtain ⟨a, ns, rfl, hS, hlen, hT, q⟩ := h
    refine ⟨_, (pss_cons (ps_for PassesOwn.never rfl (pi_range1 (by rfl) m_range (pa_cons (pe_callB (call_max2 rfl) (by rfl) m_max (by decide +kernel) (pa_cons pe_int (pa_cons (pe_callB (call_min2 rfl) (by rfl) m_min (by decide +kernel) (pa_cons pe_int (pa_cons (pe_callB (kk_len K) (by rfl) m_len PySem.boot_len (pa_cons (pv 0) pa_nil)) pa_nil))) pa_nil))) pa_nil)) (pg_name (i := 1) sc_law.nd rfl (.inl rfl))
         (pss_cons (ps_set (i := 2) sc_law.nd rfl (.inl rfl) (pe_cf C__law_left (hr.mono (by decide)) (by rfl) (pa_cons (pv 0) (pa_cons (pv 1) pa_nil))))
          (pss_cons (ps_setLc (i := 3) (own := [("_law_name", 4), ("_law_pence", 5), ("_law_last", 6)]) (g := (gTup K 3 (gCons (gName 4) (gCons (gName 5) (gCons (gName 6) gNil))))) (tt := tYes) rfl sc_law.nd rfl rfl (sw_true rfl rfl rfl (by decide +kernel)) (pi_list (pe_cf C__law_wants (hr.mono (by decide)) (by rfl) (pa_cons (pv 2) (pa_cons (pe_cf C__law_pick (hr.mono (by decide)) (by rfl) (pa_cons (pv 2) (pa_cons pe_int pa_nil))) pa_nil)))) (blkOk_by (own := [("_law_name", 4), ("_law_pence", 5), ("_law_last", 6)]) (N := N_law) (sc := defScope s_law) (by decide +kernel)) (fun _ _ _ _ _ => (pg_tup (by rfl) (pgs_cons (pg_name (i := 4) sc_law.nd rfl (.inl rfl)) (pgs_cons (pg_name (i := 5) sc_law.nd rfl (.inl rfl)) (pgs_cons (pg_name (i := 6) sc_law.nd rfl (.inl rfl)) pgs_nil))))) (fun _ _ _ _ _ => pts_nil) (fun _ _ _ _ _ => (pe_tup (pa_cons (pv 4) (pa_cons (pe_op op_add pe_int (pe_op op_mod (pv 5) pe_int)) (pa_cons (pv 6) pa_nil))))))
          (pss_cons (ps_set (i := 7) sc_law.nd rfl (.inl rfl) (pe_cf C__law_incomes (hr.mono (by decide)) (by rfl) (pa_cons (pv 2) (pa_cons (pv 3) (pa_cons (pe_cf C__law_pick (hr.mono (by decide)) (by rfl) (pa_cons (pv 2) (pa_cons pe_int pa_nil))) pa_nil)))))
          (pss_cons (ps_set (i := 8) sc_law.nd rfl (.inl rfl) (pe_callB (kk_repr K gd hu64) (by rfl) m_repr (by decide +kernel) (pa_cons (pe_lst (pa_cons (pv 3) (pa_cons (pv 7) pa_nil))) pa_nil)))
          (pss_one (ps_if (PW.pt (pw_or (pt_not (pt_val (pe_cf C__law_right (hr.mono (by decide)) (by rfl) (pa_cons (pv 2) (pa_cons (pv 3) (pa_cons (pv 7) pa_nil)))))) (pw_or1 (pt_cmpR op_ne (pe_callB (kk_repr K gd hu64) (by rfl) m_repr (by decide +kernel) (pa_cons (pe_lst (pa_cons (pv 3) (pa_cons (pv 7) pa_nil))) pa_nil)) (pv 8) (nomark _)))))
             (pss_one (ps_ret pe_bl))
             pss_nil)))))))
      (pss_one (ps_ret pe_bl))), ?_⟩
    have hS0 : SqL K (dT H) a (ns.map V.int) := by
      rcases hS with (h | ⟨o, h⟩) | h
      · exact .inl (.inl (dT_of h fun _ z => by cases z))
      · exact .inl (.inr ⟨o, dT_of h fun _ z => by cases z⟩)
      · exact .inr h
    refine ⟨_, rfl, a, _, rfl, .inl hS, _, _, rfl, _, _, rfl, _, rfl, ?_, ?_, for_range (fun i σ H' => ∃ s1 s2 s3 s4 s5 s6 s7 s8, σ = [some (.ref a), s1, s2, s3, s4, s5, s6, s7, s8] ∧ Same (dT H) H' ∧ LamX.Tabs TT H') ⟨_, _, _, _, _, _, _, _, rfl, dT_same H, hT⟩ (fun i0 σ H' hi h => ?_) (fun σ H' _ => q _)⟩
    · split <;> (try split) <;> omega
    · split <;> (try split) <;> omega
    · obtain ⟨s1, s2, s3, s4, s5, s6, s7, s8, rfl, sm, T0⟩ := h
      have hi2 : i0 < 10 := by
        split at hi
        · split at hi <;> omega
        · omega
      refine ⟨_, rfl, _, rfl, a, _, ns, rfl, sm.seq hS0, by omega, by omega, fun H1 b nb sb hb => ?_⟩
      have nb0 : dT H b = none := none_of sm nb
      refine ⟨_, rfl, _, rfl, b, 11, _, rfl, hb, by decide, by decide, by decide, fun many H3 hm0 hm1 b3 t3 => ?_⟩
      refine ⟨b, many, _, rfl, b3, by decide, by omega, by omega, fun H4 R W b4 t4 nR nRb hR hRW hlW hokW hlm hnd => ?_⟩
      refine ⟨R, rfl, ⟨_, SqL.of hR⟩, fun E nE => rows_lcA (f2 := wV) (fun _ : Wt => true) (fun w => ⟨w.n, 1 + w.p % 300000, w.l⟩) (jok_l (K := K) (SqL.of hR)) hRW (by omega) nE (fun q hq G s hG Y N h1 h2 => ?_) (fun G W2 sG hE rW eW => ?_)⟩
      · exact ⟨q.1, _, rfl, SqT.of hG, rfl, _, _, rfl, _, _, rfl, _, _, rfl, rfl, rfl, _, rfl, _, rfl, _, _, rfl, rfl, (by show (0 : Int) < 300000; decide), _, _, rfl, rfl, _, rfl, (by show 3 ≤ sizeLine; decide), fun t nt => h1 rfl t nt⟩
      rw [List.filter_eq_self.mpr (fun _ _ => rfl)] at eW
      have lW2 : W2.length = W.length := by
        have e := congrArg List.length eW
        rw [List.length_map, List.length_map, List.length_map] at e
        exact e
      have okW2 : ∀ q ∈ W2, WtOk q.2 ∧ q.2.p ≤ 300000 := fun q hq => by
        have h1 : q.2 ∈ (W.map (·.2)).map fun w : Wt => (⟨w.n, 1 + w.p % 300000, w.l⟩ : Wt) := by
          rw [← eW]
          exact List.mem_map.mpr ⟨q, hq, rfl⟩
        obtain ⟨w, hw, e⟩ := List.mem_map.mp h1
        obtain ⟨y, hy, rfl⟩ := List.mem_map.mp hw
        obtain ⟨y1, y2, y3, y4, y5⟩ := hokW y hy
        have m0 := Int.emod_nonneg y.2.p (show (300000 : Int) ≠ 0 by decide)
        have m1 := Int.emod_lt_of_pos y.2.p (show (0 : Int) < 300000 by decide)
        rw [← e]
        exact ⟨⟨y1, by show 1 ≤ 1 + y.2.p % 300000; omega, by show 1 + y.2.p % 300000 ≤ 1000000; omega, y4, y5⟩, by show 1 + y.2.p % 300000 ≤ 300000; omega⟩
      have nd2 : ((W2.map (·.2)).map (·.n)).Nodup := by
        rw [eW, List.map_map]
        exact hnd
      have nEb : E ≠ b := b4.ne nE
      have sm4 : Same (dT H) G := (same_but (same_but (sm.trans sb) nb0 t3) nb0 t4).trans sG
      have T4 := (tabs_but (tabs_but (T0.ext sb) hb t3) b3 t4).ext sG
      have bG := b4.same sG
      clear hR hRW nR nRb hokW hnd eW nE sG b4 t4 b3 t3 hb sb T0 sm nb
      refine ⟨_, rfl, _, rfl, _, rfl, b, 9, _, rfl, bG, by decide, by decide, by decide, fun many2 H5 hm20 hm21 b5 t5 => ?_⟩
      obtain ⟨_, _, _, hbG, _⟩ := id bG
      refine ⟨b, E, many2, _, W2, rfl, b5, by decide, t5 _ _ nEb hE, nEb, rW.but hbG t5, by omega, fun q hq => (okW2 q hq).1, fun q hq => (okW2 q hq).2, by omega, by omega, fun H6 C M b6 t6 nC nCb hC hCM hlM hokM => ?_⟩
      obtain ⟨_, _, _, hb5, _⟩ := id b5
      have hE6 := t6 _ _ nEb (t5 _ _ nEb hE)
      have rW6 := (rW.but hbG t5).but hb5 t6
      have sm6 := same_but (same_but sm4 nb0 t5) nb0 t6
      have T6 := tabs_but (tabs_but T4 bG t5) b5 t6
      clear hE rW hbG hb5 t5 t6 b5 bG sm4 T4 nC
      obtain ⟨w1, w2, w3, w4⟩ := both_seen (fun q hq => (okW2 q hq).1) (fun q hq => (hokM q hq).1) (show W2.length ≤ 24 by omega) (show M.length ≤ 41 by omega)
      refine ⟨_, rfl, _, rfl, (by show 2 ≤ sizeLine; decide), fun l1 n1 => ?_⟩
      have v1 := same_new (o := .lst [.ref E, .ref C]) n1
      refine ⟨_, _, rfl, both_dp upd_same (v1 _ _ hE6) (rW6.same v1) (v1 _ _ hC) (hCM.same v1), w1, w2, w3, w4, ?_⟩
      have hE7 := v1 _ _ hE6
      have hC7 := v1 _ _ hC
      have rW7 := rW6.same v1
      have hCM7 := hCM.same v1
      have b7 := b6.same v1
      have sm7 := sm6.trans v1
      have T7 := T6.ext v1
      generalize upd H6 l1 (.lst [.ref E, .ref C]) = H7 at *
      clear hE6 hC rW6 hCM b6 sm6 v1 n1 T6
      refine ⟨_, rfl, _, rfl, _, rfl, b, E, C, _, W2, M, rfl, b7, by decide, hE7, nEb, rW7, by omega, fun q hq => (okW2 q hq).1, nd2, hC7, nCb, hCM7, hlM, hokM, T7, fun H8 k8 T8 => ?_⟩
      obtain ⟨_, _, _, hb7, _⟩ := id b7
      have hE8 := k8 _ _ nEb (lst_dT hE7)
      have hC8 := k8 _ _ nCb (lst_dT hC7)
      have rW8 : RowsAt wV H8 W2 := fun q hq => k8 _ _ (ne_of (rW7 q hq) hb7 (by intro z; cases z)) (dT_rows rW7 q hq)
      have hCM8 : RowsAt iV H8 M := fun q hq => k8 _ _ (ne_of (hCM7 q hq) hb7 (by intro z; cases z)) (dT_rows hCM7 q hq)
      have sm8 := kp_same sm7 nb0 k8
      clear hE7 hC7 rW7 hCM7 b7 sm7 T7 k8 hb7
      refine ⟨_, rfl, iteF ?_⟩
      refine ⟨_, rfl, _, rfl, (by show 2 ≤ sizeLine; decide), fun l2 n2 => ?_⟩
      have v2 := same_new (o := .lst [.ref E, .ref C]) n2
      refine ⟨_, _, rfl, both_dp upd_same (v2 _ _ hE8) (rW8.same v2) (v2 _ _ hC8) (hCM8.same v2), w1, w2, w3, w4, ?_⟩
      refine ⟨_, rfl, rfl, _, rfl, iteNS rfl ?_⟩
      exact ⟨_, _, _, _, _, _, _, _, rfl, sm8.trans v2, T8.ext v2⟩
end
set_option maxHeartbeats 0 in
theorem all_mk {l : PySem.W.OpenLaw} {w : World} {K : PySem.W.Frag} {h : Heap} {mg : Str → Option Value} {fa f0 f1 f2 f3 f4 f5 f6 f7 f8 f9 f10 f11 f12 f13 f14 f15 f16 : Addr} (X : K.In h) (G : h.Ns mainGlobals mg) (hfa : mg "law" = some (.ref fa))
    {od0 an0 od1 an1 od2 an2 od3 an3 od4 an4 od5 an5 od6 an6 od7 an7 od8 an8 od9 an9 od10 an10 od11 an11 od12 an12 od13 an13 od14 an14 od15 an15 od16 an16 : Option Addr} {sl0 sl1 sl2 sl3 sl4 sl5 sl6 sl7 sl8 sl9 sl10 sl11 sl12 sl13 sl14 sl15 sl16 : Array (Option Value)} {oc0 kV0 dc0 pm0 cd0 ct0 oc1 kV1 dc1 pm1 cd1 ct1 oc2 kV2 dc2 pm2 cd2 ct2 oc3 kV3 dc3 pm3 cd3 ct3 oc4 kV4 dc4 pm4 cd4 ct4 oc5 kV5 dc5 pm5 cd5 ct5 oc6 kV6 dc6 pm6 cd6 ct6 oc7 kV7 dc7 pm7 cd7 ct7 oc8 kV8 dc8 pm8 cd8 ct8 oc9 kV9 dc9 pm9 cd9 ct9 oc10 kV10 dc10 pm10 cd10 ct10 oc11 kV11 dc11 pm11 cd11 ct11 oc12 kV12 dc12 pm12 cd12 ct12 oc13 kV13 dc13 pm13 cd13 ct13 oc14 kV14 dc14 pm14 cd14 ct14 oc15 kV15 dc15 pm15 cd15 ct15 oc16 kV16 dc16 pm16 cd16 ct16 : Value}
    (a0 : PySem.W.nsIn K mainGlobals "_law_mix" = some (some (.ref f0))) (l0 : K.lookup f0 = some ⟨oc0, od0, .func (PySem.W.fnOf "_law_mix" "_law_mix" (defArgs s__law_mix) (defBody s__law_mix) (defScope s__law_mix) .none kV0 dc0 pm0 an0 cd0 ct0), sl0⟩) (c0 : PySem.W.codeIn K cd0 "_law_mix" = true) (k0 : PySem.W.keepIn K (.ref f0) = true)
    (a1 : PySem.W.nsIn K mainGlobals "_law_left" = some (some (.ref f1))) (l1 : K.lookup f1 = some ⟨oc1, od1, .func (PySem.W.fnOf "_law_left" "_law_left" (defArgs s__law_left) (defBody s__law_left) (defScope s__law_left) .none kV1 dc1 pm1 an1 cd1 ct1), sl1⟩) (c1 : PySem.W.codeIn K cd1 "_law_left" = true) (k1 : PySem.W.keepIn K (.ref f1) = true)
    (a2 : PySem.W.nsIn K mainGlobals "_law_pick" = some (some (.ref f2))) (l2 : K.lookup f2 = some ⟨oc2, od2, .func (PySem.W.fnOf "_law_pick" "_law_pick" (defArgs s__law_pick) (defBody s__law_pick) (defScope s__law_pick) .none kV2 dc2 pm2 an2 cd2 ct2), sl2⟩) (c2 : PySem.W.codeIn K cd2 "_law_pick" = true) (k2 : PySem.W.keepIn K (.ref f2) = true)
    (a3 : PySem.W.nsIn K mainGlobals "due_by" = some (some (.ref f3))) (l3 : K.lookup f3 = some ⟨oc3, od3, .func (PySem.W.fnOf "due_by" "due_by" (defArgs s_due_by) (defBody s_due_by) (defScope s_due_by) .none kV3 dc3 pm3 an3 cd3 ct3), sl3⟩) (c3 : PySem.W.codeIn K cd3 "due_by" = true) (k3 : PySem.W.keepIn K (.ref f3) = true)
    (a4 : PySem.W.nsIn K mainGlobals "come_by" = some (some (.ref f4))) (l4 : K.lookup f4 = some ⟨oc4, od4, .func (PySem.W.fnOf "come_by" "come_by" (defArgs s_come_by) (defBody s_come_by) (defScope s_come_by) .none kV4 dc4 pm4 an4 cd4 ct4), sl4⟩) (c4 : PySem.W.codeIn K cd4 "come_by" = true) (k4 : PySem.W.keepIn K (.ref f4) = true)
    (a5 : PySem.W.nsIn K mainGlobals "short_of" = some (some (.ref f5))) (l5 : K.lookup f5 = some ⟨oc5, od5, .func (PySem.W.fnOf "short_of" "short_of" (defArgs s_short_of) (defBody s_short_of) (defScope s_short_of) .none kV5 dc5 pm5 an5 cd5 ct5), sl5⟩) (c5 : PySem.W.codeIn K cd5 "short_of" = true) (k5 : PySem.W.keepIn K (.ref f5) = true)
    (a6 : PySem.W.nsIn K mainGlobals "can_pay" = some (some (.ref f6))) (l6 : K.lookup f6 = some ⟨oc6, od6, .func (PySem.W.fnOf "can_pay" "can_pay" (defArgs s_can_pay) (defBody s_can_pay) (defScope s_can_pay) .none kV6 dc6 pm6 an6 cd6 ct6), sl6⟩) (c6 : PySem.W.codeIn K cd6 "can_pay" = true) (k6 : PySem.W.keepIn K (.ref f6) = true)
    (a7 : PySem.W.nsIn K mainGlobals "_law_strewn" = some (some (.ref f7))) (l7 : K.lookup f7 = some ⟨oc7, od7, .func (PySem.W.fnOf "_law_strewn" "_law_strewn" (defArgs s__law_strewn) (defBody s__law_strewn) (defScope s__law_strewn) .none kV7 dc7 pm7 an7 cd7 ct7), sl7⟩) (c7 : PySem.W.codeIn K cd7 "_law_strewn" = true) (k7 : PySem.W.keepIn K (.ref f7) = true)
    (a8 : PySem.W.nsIn K mainGlobals "_law_names" = some (some (.ref f8))) (l8 : K.lookup f8 = some ⟨oc8, od8, .func (PySem.W.fnOf "_law_names" "_law_names" (defArgs s__law_names) (defBody s__law_names) (defScope s__law_names) .none kV8 dc8 pm8 an8 cd8 ct8), sl8⟩) (c8 : PySem.W.codeIn K cd8 "_law_names" = true) (k8 : PySem.W.keepIn K (.ref f8) = true)
    (a9 : PySem.W.nsIn K mainGlobals "_law_wants" = some (some (.ref f9))) (l9 : K.lookup f9 = some ⟨oc9, od9, .func (PySem.W.fnOf "_law_wants" "_law_wants" (defArgs s__law_wants) (defBody s__law_wants) (defScope s__law_wants) .none kV9 dc9 pm9 an9 cd9 ct9), sl9⟩) (c9 : PySem.W.codeIn K cd9 "_law_wants" = true) (k9 : PySem.W.keepIn K (.ref f9) = true)
    (a10 : PySem.W.nsIn K mainGlobals "_law_incomes" = some (some (.ref f10))) (l10 : K.lookup f10 = some ⟨oc10, od10, .func (PySem.W.fnOf "_law_incomes" "_law_incomes" (defArgs s__law_incomes) (defBody s__law_incomes) (defScope s__law_incomes) .none kV10 dc10 pm10 an10 cd10 ct10), sl10⟩) (c10 : PySem.W.codeIn K cd10 "_law_incomes" = true) (k10 : PySem.W.keepIn K (.ref f10) = true)
    (a11 : PySem.W.nsIn K mainGlobals "lesser_of" = some (some (.ref f11))) (l11 : K.lookup f11 = some ⟨oc11, od11, .func (PySem.W.fnOf "lesser_of" "lesser_of" (defArgs s_lesser_of) (defBody s_lesser_of) (defScope s_lesser_of) .none kV11 dc11 pm11 an11 cd11 ct11), sl11⟩) (c11 : PySem.W.codeIn K cd11 "lesser_of" = true) (k11 : PySem.W.keepIn K (.ref f11) = true)
    (a12 : PySem.W.nsIn K mainGlobals "most_with" = some (some (.ref f12))) (l12 : K.lookup f12 = some ⟨oc12, od12, .func (PySem.W.fnOf "most_with" "most_with" (defArgs s_most_with) (defBody s_most_with) (defScope s_most_with) .none kV12 dc12 pm12 an12 cd12 ct12), sl12⟩) (c12 : PySem.W.codeIn K cd12 "most_with" = true) (k12 : PySem.W.keepIn K (.ref f12) = true)
    (a13 : PySem.W.nsIn K mainGlobals "most_paid" = some (some (.ref f13))) (l13 : K.lookup f13 = some ⟨oc13, od13, .func (PySem.W.fnOf "most_paid" "most_paid" (defArgs s_most_paid) (defBody s_most_paid) (defScope s_most_paid) .none kV13 dc13 pm13 an13 cd13 ct13), sl13⟩) (c13 : PySem.W.codeIn K cd13 "most_paid" = true) (k13 : PySem.W.keepIn K (.ref f13) = true)
    (a14 : PySem.W.nsIn K mainGlobals "_law_otherwise" = some (some (.ref f14))) (l14 : K.lookup f14 = some ⟨oc14, od14, .func (PySem.W.fnOf "_law_otherwise" "_law_otherwise" (defArgs s__law_otherwise) (defBody s__law_otherwise) (defScope s__law_otherwise) .none kV14 dc14 pm14 an14 cd14 ct14), sl14⟩) (c14 : PySem.W.codeIn K cd14 "_law_otherwise" = true) (k14 : PySem.W.keepIn K (.ref f14) = true)
    (a15 : PySem.W.nsIn K mainGlobals "_law_right" = some (some (.ref f15))) (l15 : K.lookup f15 = some ⟨oc15, od15, .func (PySem.W.fnOf "_law_right" "_law_right" (defArgs s__law_right) (defBody s__law_right) (defScope s__law_right) .none kV15 dc15 pm15 an15 cd15 ct15), sl15⟩) (c15 : PySem.W.codeIn K cd15 "_law_right" = true) (k15 : PySem.W.keepIn K (.ref f15) = true)
    (a16 : PySem.W.nsIn K mainGlobals "law" = some (some (.ref f16))) (l16 : K.lookup f16 = some ⟨oc16, od16, .func (PySem.W.fnOf "law" "law" (defArgs s_law) (defBody s_law) (defScope s_law) .none kV16 dc16 pm16 an16 cd16 ct16), sl16⟩) (c16 : PySem.W.codeIn K cd16 "law" = true) (k16 : PySem.W.keepIn K (.ref f16) = true)
    (z_len : PySem.W.nsIn K mainGlobals "len" = some none) (z_abs : PySem.W.nsIn K mainGlobals "abs" = some none) (z_int : PySem.W.nsIn K mainGlobals "int" = some none) (z_sum : PySem.W.nsIn K mainGlobals "sum" = some none) (z_sorted : PySem.W.nsIn K mainGlobals "sorted" = some none) (z_list : PySem.W.nsIn K mainGlobals "list" = some none) (z_range : PySem.W.nsIn K mainGlobals "range" = some none) (z_min : PySem.W.nsIn K mainGlobals "min" = some none) (z_max : PySem.W.nsIn K mainGlobals "max" = some none) (z_dict : PySem.W.nsIn K mainGlobals "dict" = some none) (z_enumerate : PySem.W.nsIn K mainGlobals "enumerate" = some none) (z_repr : PySem.W.nsIn K mainGlobals "repr" = some none)
    {TC12 TP12 : Addr} (tc12 : cd12 = .ref TC12) (ti12 : PySem.W.tabIn K "most_with" = some (TC12, TP12)) (tn12 : K.lookup TP12 = none) (th12 : PySem.W.CodeHd h TC12 TP12 ∧ h.get? TP12 = some { cls := .none, data := .fields #[] }) :
    ∃ (fd : FuncData) (cs : List (Addr × Addr)) (sp : Sp), (∀ p ∈ cs, PySem.W.CodeHd h p.1 p.2 ∧ h.get? p.2 = some { cls := .none, data := .fields #[] }) ∧ (∀ p ∈ cs, K.lookup p.2 = none) ∧ (∀ (s : Shared) (v : Value), BindsTo s fd ⟨[v], []⟩ [("_law_script", v)]) ∧ (∀ (H : Hp) (a : Addr) (ns : List Int), ns.length ≤ 63 → (∀ p ∈ cs, H p.2 = some (.tbl #[])) → SqL K H a (ns.map V.int) → sp [.ref a] H (fun v _ => v = .bl true) fun _ _ _ => False) ∧ ∀ base : Heap, K.In base → base.Ns mainGlobals mg → (∀ p ∈ cs, LamX.TabB base mg p.1 p.2) → FnG l.prog w K mg base 6 fa fd ["_law_script"] sp := by
  have e := hfa.symm.trans (PySem.W.mg_of X G a16)
  cases e
  have F0 := fun_mk (st := s__law_mix) l0 c0 k0
  have b0 := F0.binds (ps := ["_law_cell", "_law_k"]) fun _ _ _ _ _ _ us hl => match us, hl with | [_, _], _ => rfl
  have g0 := PySem.W.mg_of X G a0
  have F1 := fun_mk (st := s__law_left) l1 c1 k1
  have b1 := F1.binds (ps := ["_law_script", "_law_k"]) fun _ _ _ _ _ _ us hl => match us, hl with | [_, _], _ => rfl
  have g1 := PySem.W.mg_of X G a1
  have F2 := fun_mk (st := s__law_pick) l2 c2 k2
  have b2 := F2.binds (ps := ["_law_left_here", "_law_many"]) fun _ _ _ _ _ _ us hl => match us, hl with | [_, _], _ => rfl
  have g2 := PySem.W.mg_of X G a2
  have F3 := fun_mk (st := s_due_by) l3 c3 k3
  have b3 := F3.binds (ps := ["wants", "day"]) fun _ _ _ _ _ _ us hl => match us, hl with | [_, _], _ => rfl
  have g3 := PySem.W.mg_of X G a3
  have F4 := fun_mk (st := s_come_by) l4 c4 k4
  have b4 := F4.binds (ps := ["incomes", "day"]) fun _ _ _ _ _ _ us hl => match us, hl with | [_, _], _ => rfl
  have g4 := PySem.W.mg_of X G a4
  have F5 := fun_mk (st := s_short_of) l5 c5 k5
  have b5 := F5.binds (ps := ["wants", "incomes"]) fun _ _ _ _ _ _ us hl => match us, hl with | [_, _], _ => rfl
  have g5 := PySem.W.mg_of X G a5
  have F6 := fun_mk (st := s_can_pay) l6 c6 k6
  have b6 := F6.binds (ps := ["wants", "incomes", "names"]) fun _ _ _ _ _ _ us hl => match us, hl with | [_, _, _], _ => rfl
  have g6 := PySem.W.mg_of X G a6
  have F7 := fun_mk (st := s__law_strewn) l7 c7 k7
  have b7 := F7.binds (ps := ["_law_left_here", "_law_some"]) fun _ _ _ _ _ _ us hl => match us, hl with | [_, _], _ => rfl
  have g7 := PySem.W.mg_of X G a7
  have F8 := fun_mk (st := s__law_names) l8 c8 k8
  have b8 := F8.binds (ps := ["_law_left_here", "_law_many"]) fun _ _ _ _ _ _ us hl => match us, hl with | [_, _], _ => rfl
  have g8 := PySem.W.mg_of X G a8
  have F9 := fun_mk (st := s__law_wants) l9 c9 k9
  have b9 := F9.binds (ps := ["_law_left_here", "_law_many"]) fun _ _ _ _ _ _ us hl => match us, hl with | [_, _], _ => rfl
  have g9 := PySem.W.mg_of X G a9
  have F10 := fun_mk (st := s__law_incomes) l10 c10 k10
  have b10 := F10.binds (ps := ["_law_left_here", "_law_wants_here", "_law_many"]) fun _ _ _ _ _ _ us hl => match us, hl with | [_, _, _], _ => rfl
  have g10 := PySem.W.mg_of X G a10
  have F11 := fun_mk (st := s_lesser_of) l11 c11 k11
  have b11 := F11.binds (ps := ["one", "other"]) fun _ _ _ _ _ _ us hl => match us, hl with | [_, _], _ => rfl
  have g11 := PySem.W.mg_of X G a11
  have F12 := fun_mk (st := s_most_with) l12 c12 k12
  have b12 := F12.binds (ps := ["wants", "incomes", "names"]) fun _ _ _ _ _ _ us hl => match us, hl with | [_, _, _], _ => rfl
  have g12 := PySem.W.mg_of X G a12
  have F13 := fun_mk (st := s_most_paid) l13 c13 k13
  have b13 := F13.binds (ps := ["wants", "incomes"]) fun _ _ _ _ _ _ us hl => match us, hl with | [_, _], _ => rfl
  have g13 := PySem.W.mg_of X G a13
  have F14 := fun_mk (st := s__law_otherwise) l14 c14 k14
  have b14 := F14.binds (ps := ["_law_left_here", "_law_wants_here", "_law_incomes_here"]) fun _ _ _ _ _ _ us hl => match us, hl with | [_, _, _], _ => rfl
  have g14 := PySem.W.mg_of X G a14
  have F15 := fun_mk (st := s__law_right) l15 c15 k15
  have b15 := F15.binds (ps := ["_law_left_here", "_law_wants_here", "_law_incomes_here"]) fun _ _ _ _ _ _ us hl => match us, hl with | [_, _, _], _ => rfl
  have g15 := PySem.W.mg_of X G a15
  have F16 := fun_mk (st := s_law) l16 c16 k16
  have m_len := PySem.W.mg_none_of X G z_len
  have m_abs := PySem.W.mg_none_of X G z_abs
  have m_int := PySem.W.mg_none_of X G z_int
  have m_sum := PySem.W.mg_none_of X G z_sum
  have m_sorted := PySem.W.mg_none_of X G z_sorted
  have m_list := PySem.W.mg_none_of X G z_list
  have m_range := PySem.W.mg_none_of X G z_range
  have m_min := PySem.W.mg_none_of X G z_min
  have m_max := PySem.W.mg_none_of X G z_max
  have m_dict := PySem.W.mg_none_of X G z_dict
  have m_enumerate := PySem.W.mg_none_of X G z_enumerate
  have m_repr := PySem.W.mg_none_of X G z_repr
  refine ⟨PySem.W.fnOf "law" "law" (defArgs s_law) (defBody s_law) (defScope s_law) .none kV16 dc16 pm16 an16 cd16 ct16, [(TC12, TP12)], sp_law K [(TP12, ("most_with.<locals>.<lambda>" : Str))], fun p hp => by
    rcases List.mem_singleton.mp hp with rfl
    exact th12, fun p hp => by
    rcases List.mem_singleton.mp hp with rfl
    exact tn12, fun s v => .of_eq rfl, fun H a ns hl hT hS => ⟨a, ns, rfl, hS, hl, fun p hp => ?_, fun _ => rfl⟩, fun base _ _ hB => ?_⟩
  · rcases List.mem_singleton.mp hp with rfl
    exact LamX.TabS.nil (hT (TC12, TP12) (List.mem_singleton.mpr rfl))
  have TB12 := hB (TC12, TP12) (List.mem_singleton.mpr rfl)
  have C__law_mix := ok__law_mix (P := l.prog) (w := w) (base := base) F0 g0 b0
  have C__law_left := ok__law_left (P := l.prog) (w := w) (base := base) F1 g1 b1 m_len m_abs m_int
  have C__law_pick := ok__law_pick (P := l.prog) (w := w) (base := base) F2 g2 b2 C__law_mix
  have C_due_by := ok_due_by (P := l.prog) (w := w) (base := base) F3 g3 b3 m_sum
  have C_come_by := ok_come_by (P := l.prog) (w := w) (base := base) F4 g4 b4 m_sum
  have C_short_of := ok_short_of (P := l.prog) (w := w) (base := base) F5 g5 b5 m_sorted C_due_by C_come_by
  have C_can_pay := ok_can_pay (P := l.prog) (w := w) (base := base) F6 g6 b6 C_short_of
  have C__law_strewn := ok__law_strewn (P := l.prog) (w := w) (base := base) F7 g7 b7 m_list m_len C__law_pick
  have C__law_names := ok__law_names (P := l.prog) (w := w) (base := base) F8 g8 b8 m_range m_len C__law_pick
  have C__law_wants := ok__law_wants (P := l.prog) (w := w) (base := base) F9 g9 b9 C__law_pick C__law_names C__law_strewn
  have C__law_incomes := ok__law_incomes (P := l.prog) (w := w) (base := base) F10 g10 b10 m_sum m_int m_range m_len m_min m_max C__law_pick C__law_strewn
  have C_lesser_of := ok_lesser_of (P := l.prog) (w := w) (base := base) F11 g11 b11 m_min
  have C_most_with := ok_most_with (P := l.prog) (w := w) (base := base) (TT := [(TP12, ("most_with.<locals>.<lambda>" : Str))]) F12 g12 b12 tc12 TB12 (List.mem_singleton.mpr rfl) (fun p hp _ => by rw [List.mem_singleton.mp hp]) m_sorted m_max m_list C_come_by C_lesser_of
  have C_most_paid := ok_most_paid (P := l.prog) (w := w) (base := base) (TT := [(TP12, ("most_with.<locals>.<lambda>" : Str))]) F13 g13 b13 m_sorted C_most_with
  have C__law_otherwise := ok__law_otherwise (P := l.prog) (w := w) (base := base) F14 g14 b14 m_max m_sorted m_dict m_enumerate m_len C__law_pick C__law_strewn
  have C__law_right := ok__law_right (P := l.prog) (w := w) (base := base) (TT := [(TP12, ("most_with.<locals>.<lambda>" : Str))]) F15 g15 b15 m_sum m_max m_len C__law_otherwise C_short_of C_most_paid C__law_pick C_can_pay
  exact ok_law (TT := [(TP12, ("most_with.<locals>.<lambda>" : Str))]) F16 m_range m_max m_min m_len m_repr C__law_left C__law_wants C__law_pick C__law_incomes C__law_right
end Pw
open PySem PySem.W PyProof.Rows
set_option maxHeartbeats 0 in
theorem PySem.Challenge.cw_partwares_k35_purses_called_otherwise_holds : PySem.Challenge.rw_partwares_k35_purses_called_otherwise.Holds := by
  w_on; o_law; k_head; (case hw => w_witness2)
  k_fill
  refine Pw.walk_ofGT (l := PySem.Challenge.rw_partwares_k35_purses_called_otherwise) (n := 63) (k := 6) (x := "_law_script") rfl (by decide) rfl ⟨rfl, by decide, by decide⟩ (fun w h Y => PySem.W.km_in_of Y) ?F
  case F =>
    intro w mg fa h Y KX G hmg
    refine' Pw.all_mk KX G hmg ?a0 ?l0 ?c0 ?k0 ?a1 ?l1 ?c1 ?k1 ?a2 ?l2 ?c2 ?k2 ?a3 ?l3 ?c3 ?k3 ?a4 ?l4 ?c4 ?k4 ?a5 ?l5 ?c5 ?k5 ?a6 ?l6 ?c6 ?k6 ?a7 ?l7 ?c7 ?k7 ?a8 ?l8 ?c8 ?k8 ?a9 ?l9 ?c9 ?k9 ?a10 ?l10 ?c10 ?k10 ?a11 ?l11 ?c11 ?k11 ?a12 ?l12 ?c12 ?k12 ?a13 ?l13 ?c13 ?k13 ?a14 ?l14 ?c14 ?k14 ?a15 ?l15 ?c15 ?k15 ?a16 ?l16 ?c16 ?k16 ?z_len ?z_abs ?z_int ?z_sum ?z_sorted ?z_list ?z_range ?z_min ?z_max ?z_dict ?z_enumerate ?z_repr ?tc12 ?ti12 ?tn12 ?th12
    (case a0 => k_is); (case l0 => k_is); (case c0 => k_is); (case k0 => k_is); (case a1 => k_is); (case l1 => k_is); (case c1 => k_is); (case k1 => k_is); (case a2 => k_is); (case l2 => k_is); (case c2 => k_is); (case k2 => k_is); (case a3 => k_is); (case l3 => k_is); (case c3 => k_is); (case k3 => k_is); (case a4 => k_is); (case l4 => k_is); (case c4 => k_is); (case k4 => k_is); (case a5 => k_is); (case l5 => k_is); (case c5 => k_is); (case k5 => k_is); (case a6 => k_is); (case l6 => k_is); (case c6 => k_is); (case k6 => k_is); (case a7 => k_is); (case l7 => k_is); (case c7 => k_is); (case k7 => k_is); (case a8 => k_is); (case l8 => k_is); (case c8 => k_is); (case k8 => k_is); (case a9 => k_is); (case l9 => k_is); (case c9 => k_is); (case k9 => k_is); (case a10 => k_is); (case l10 => k_is); (case c10 => k_is); (case k10 => k_is); (case a11 => k_is); (case l11 => k_is); (case c11 => k_is); (case k11 => k_is); (case a12 => k_is); (case l12 => k_is); (case c12 => k_is); (case k12 => k_is); (case a13 => k_is); (case l13 => k_is); (case c13 => k_is); (case k13 => k_is); (case a14 => k_is); (case l14 => k_is); (case c14 => k_is); (case k14 => k_is); (case a15 => k_is); (case l15 => k_is); (case c15 => k_is); (case k15 => k_is); (case a16 => k_is); (case l16 => k_is); (case c16 => k_is); (case k16 => k_is); (case z_len => k_is); (case z_abs => k_is); (case z_int => k_is); (case z_sum => k_is); (case z_sorted => k_is); (case z_list => k_is); (case z_range => k_is); (case z_min => k_is); (case z_max => k_is); (case z_dict => k_is); (case z_enumerate => k_is); (case z_repr => k_is); (case tc12 => rfl); (case ti12 => rfl); (case tn12 => rfl); (case th12 => exact ⟨PySem.W.codeHd_of_K KX (by first | rfl | kernel_rfl), PySem.W.km_tabs_of Y _ (by decide +kernel)⟩)
