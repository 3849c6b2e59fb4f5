import PyProof.Rows.All
import Wide.All
import OpenK.AllK
import Wide.FinOn
import HandS.Base
import HandS.Call
import HandS.List
import HandS.Comp
import HandS.Ends
import HandS.Iter
import HandS.Text
import HandS.Words
import HandS.WordsList
import HandS.IsInst
import HandS.Style
import HandS.Walk
import HandS.Defaults
import HandS.TupMul
import HandS.Zip
import HandS.MakeKw
import HandS.Set
import HandS.Strs
import HandS.SetKeys
import HandS.FStr
import HandS.Text
import HandS.OwnEq
import HandS.SetFor
import HandS.SetBool
import HandS.SortInts
import HandS.More
import HandS.TupAny
import PyProof.Rows.SortShellAny
import HandS.SortKw
import KE.DatumOrd
import PyProof.InstNe
import KE.KCallOwn
import KE.KFmtOwn
import PyProof.FString
import HandS.Dict
import HandS.Exc
import PyProof.DictUpdate
import HandS.NoneIn
import HandS.Small
import HandS.WordsDict
import HandS.TupSets
import KE.KeyNested
import KE.GoesEnum
import KE.GoesMore
import KE.KDictZip
import KE.KItemsList
import PySem.Challenge.RW_partwares_k47_deeds_of_all_forms
set_option Elab.async false
set_option linter.all false
set_option maxRecDepth 100000
namespace Pw
open PySem PySem.Spec PyProof.Rows L2
/-! ### a def of the text by its promise, its address left aside -/
structure CF (P : Program) (w : World) (K : PySem.W.Frag) (mg : Str → Option Value) (base : Heap) (k : Nat) (x : Str) (ps : List Str) (sp : Sp) : Prop where
  ex : ∃ (f : Addr) (fd : FuncData), FnOk P w K mg base CX0 k f fd ps sp ∧ mg x = some (.ref f) ∧ PySem.W.keepIn K (.ref f) = true ∧ Binds K fd ps []
theorem pe_cf {X : Cx} {k : Nat} {x : Str} {ps : List Str} {sp : Sp} {e : Expr} {es : List Expr} {t : TA} {p pos : Pos} (C : CF X.prog X.w X.K X.mg X.base k x ps sp) (hr : Room k X.A) (hg : Gl X x) (ha : PA X (e :: es) t)
    (hdb : (x == ("__debug__" : Str)) = false := by decide) (he : starEach (e :: es) X.env = (false, eval e X.env) :: starEach es X.env := by rfl) (hpl : (backTo pos (starEach es X.env)).any (·.1) = false := by rfl) :
    PE X (.Call (.Name x p) (e :: es) [] pos) (tCall sp [] E0 t) := by
  obtain ⟨f, fd, F, g, kp, b⟩ := C.ex
  exact pe_call F hr hg g kp b .nil pass0 ha hdb he hpl
theorem pe_cf0 {X : Cx} {k : Nat} {x : Str} {sp : Sp} {p pos : Pos} (C : CF X.prog X.w X.K X.mg X.base k x [] sp) (hr : Room k X.A) (hg : Gl X x) (hdb : (x == ("__debug__" : Str)) = false := by decide) : PE X (.Call (.Name x p) [] [] pos) (tCall sp [] E0 tNil) := by
  obtain ⟨f, fd, F, g, kp, b⟩ := C.ex
  exact pe_call0 F hr hg g kp b .nil pass0 hdb
/-! ### the rules with their written part named (within a comprehension it must not hang on the block) -/
section
variable (K : PySem.W.Frag) {X : Cx}
theorem kk_isi (h : X.K = K := by rfl) : CallR X (.builtin "isinstance") (rIsi K) := h ▸ call_isi
theorem kk_isiT (h : X.K = K := by rfl) : CallR X (.builtin "isinstance") (rIsiT K) := h ▸ call_isiT
theorem kk_len (h : X.K = K := by rfl) : CallR X (.builtin "len") (fun xs H Q => ∃ p ys, xs = [.ref p] ∧ (SqL K H p ys ∨ SqT K H p ys) ∧ Q (.int ys.length) H) := h ▸ call_len_seq
theorem kk_list (h : X.K = K := by rfl) : CallR X (.type "list") (fun xs H Q => ∃ p ys, xs = [.ref p] ∧ (SqL K H p ys ∨ SqT K H p ys) ∧ ∀ l, H l = none → Q (.ref l) (upd H l (.lst ys))) := h ▸ call_list_of
theorem kk_tuple (h : X.K = K := by rfl) : CallR X (.type "tuple") (fun xs H Q => ∃ p ys, xs = [.ref p] ∧ ((SqL K H p ys ∧ ∀ l, H l = none → Q (.ref l) (upd H l (.tup ys))) ∨ (SqT K H p ys ∧ Q (.ref p) H))) := h ▸ call_tuple_of
theorem kk_sum (hc : X.calm = true) (h : X.K = K := by rfl) : CallR X (.builtin "sum") (rSum K) := h ▸ cr_sum hc
theorem kk_max (hc : X.calm = true) (h : X.K = K := by rfl) : CallR X (.builtin "max") (rMax K) := h ▸ cr_max hc
theorem kk_min (hc : X.calm = true) (h : X.K = K := by rfl) : CallR X (.builtin "min") (rMin K) := h ▸ cr_min hc
theorem kk_any (hc : X.calm = true) (h : X.K = K := by rfl) : CallR X (.builtin "any") (rAny K) := h ▸ cr_any hc
theorem kk_all (hc : X.calm = true) (h : X.K = K := by rfl) : CallR X (.builtin "all") (rAll K) := h ▸ cr_all hc
theorem kk_sorted (h : X.K = K := by rfl) : CallR X (.builtin "sorted") (rSorted K) := h ▸ cr_sorted
theorem kk_ixl (h : X.K = K := by rfl) : IxR X (rIxL K) := h ▸ ix_list
theorem kk_ixt (h : X.K = K := by rfl) : IxR X (rIxT K) := h ▸ ix_tup
theorem kk_sll (h : X.K = K := by rfl) : SlR X (rSlL K) := h ▸ sl_list
theorem kk_slt (h : X.K = K := by rfl) : SlR X (rSlT K) := h ▸ sl_tup
theorem kk_in (h : X.K = K := by rfl) : OpR X (compareOp .In) (rIn K false) := h ▸ op_in_seq
theorem kk_nin (h : X.K = K := by rfl) : OpR X (compareOp .NotIn) (rIn K true) := h ▸ op_notIn_seq
theorem kk_catT (h : X.K = K := by rfl) : OpR X (binaryOp .Add) (rCatT K) := h ▸ op_catT
theorem kk_eqD (hu : X.A.units + 64 < cLine) (h : X.K = K := by rfl) : OpR X (compareOp .Eq) (rEqD K) := h ▸ op_eqD hu
theorem kk_neD (hu : X.A.units + 64 < cLine) (h : X.K = K := by rfl) : OpR X (compareOp .NotEq) (rNeD K) := h ▸ op_neD hu
theorem kk_revL {e : Expr} {te : TE} {k : Nat} {p1 p2 p3 pos : Pos} (he : PE X e te) (h : X.K = K := by rfl) : PE X (.Subscript e (.Slice none none (some (.UnaryOp .USub (.Constant (.int 1) k p1) p2)) p3) pos) (tRevL K te) := h ▸ pe_revL he
end
/-! ### heaps: all as it was, but one place -/
def But (b : Addr) (H H' : Hp) : Prop := ∀ c o, c ≠ b → H c = some o → H' c = some o
theorem But.refl (b : Addr) (H : Hp) : But b H H := fun _ _ _ h => h
theorem But.trans {b : Addr} {H H1 H2 : Hp} (x : But b H H1) (y : But b H1 H2) : But b H H2 := fun c o n h => y c o n (x c o n h)
theorem But.of {b : Addr} {H H1 : Hp} (x : Same H H1) : But b H H1 := fun c o _ h => x c o h
theorem But.upd {b : Addr} {H : Hp} {o : HO} : But b H (L2.upd H b o) := fun c u n h => by
  rw [upd_ne n]
  exact h
theorem But.new {b p : Addr} {H : Hp} {o : HO} (h : H p = none) : But b H (L2.upd H p o) := fun c u _ e => by
  rw [upd_ne (ne_of_none e h)]
  exact e
theorem same_new {H : Hp} {p : Addr} {o : HO} (h : H p = none) : Same H (upd H p o) := fun b x e => by
  rw [upd_ne (ne_of_none e h)]
  exact e
theorem But.seq {K : PySem.W.Frag} {b a : Addr} {H H' : Hp} {xs : List V} (e : But b H H') (n : a ≠ b) (h : SqL K H a xs) : SqL K H' a xs := by
  rcases h with (h | ⟨o, h⟩) | h
  · exact .inl (.inl (e _ _ n h))
  · exact .inl (.inr ⟨o, e _ _ n h⟩)
  · exact .inr h
/-! ### the law's box of three numbers -/
def Box (H : Hp) (b : Addr) (n : Int) : Prop := ∃ x y z : Int, H b = some (.lst [.int x, .int y, .int z]) ∧ 0 ≤ x ∧ 0 ≤ y ∧ y ≤ 3000000000 ∧ 0 ≤ z ∧ z ≤ n
theorem Box.mono {H : Hp} {b : Addr} {n m : Int} (h : Box H b n) (l : n ≤ m) : Box H b m := by
  obtain ⟨x, y, z, h0, h1, h2, h3, h4, h5⟩ := h
  exact ⟨x, y, z, h0, h1, h2, h3, h4, by omega⟩
theorem Box.same {H H' : Hp} {b : Addr} {n : Int} (e : Same H H') (h : Box H b n) : Box H' b n := by
  obtain ⟨x, y, z, h0, h1⟩ := h
  exact ⟨x, y, z, e _ _ h0, h1⟩
theorem Box.new {H : Hp} {b p : Addr} {o : HO} {n : Int} (h : Box H b n) (e : H p = none) : Box (upd H p o) b n := h.same (same_new e)
theorem Box.ne {H : Hp} {b p : Addr} {n : Int} (h : Box H b n) (e : H p = none) : p ≠ b := fun z => by
  obtain ⟨_, _, _, h0, _⟩ := h
  rw [z, h0] at e
  cases e
section
variable {K : PySem.W.Frag}
theorem at_int {ns : List Int} {k : Int} (h0 : 0 ≤ k) (h1 : k < ns.length) : ∃ c, atI (ns.map V.int) k = some (.int c) := by
  obtain ⟨j, rfl⟩ := Int.eq_ofNat_of_zero_le h0
  have hj : j < ns.length := by omega
  refine ⟨ns[j], atI_nat ?_⟩
  rw [List.getElem?_map, List.getElem?_eq_getElem hj]
  rfl
def partsL (p m : Int) : List Int := List.replicate (p % m).toNat (p / m + 1) ++ List.replicate (m - p % m).toNat (p / m)
theorem rep1 {α : Type} (k : Nat) (x : α) : (List.replicate k [x]).flatten = List.replicate k x := by
  induction k with
  | zero => rfl
  | succ n ih => rw [List.replicate_succ, List.flatten_cons, ih]; rfl
theorem size_small {n : Nat} (h : n ≤ 1000) : n ≤ sizeLine := Nat.le_of_lt (small1000 h)
theorem iteN {c A B : Prop} [Decidable c] (hc : ¬ c) (h : B) : if decide c = true then A else B := by
  rw [decide_eq_false hc]
  exact iteF h
theorem iteY {c A B : Prop} [Decidable c] (hc : c) (h : A) : if decide c = true then A else B := by
  rw [decide_eq_true hc]
  exact iteT h
theorem same_but {b : Addr} {H0 H1 H2 : Hp} (s : Same H0 H1) (n : H0 b = none) (t : But b H1 H2) : Same H0 H2 := fun c o h => t c o (fun e => by rw [e, n] at h; cases h) (s c o h)
theorem dpAll_ints {H : Hp} : ∀ ns : List Int, DpAll K H (ns.map V.int) (ns.map PyData.int)
  | [] => .nil
  | n :: r => .cons (.int n) (dpAll_ints r)
theorem dp_ints {H : Hp} {a : Addr} {ns : List Int} (h : SqL K H a (ns.map V.int)) : Dp K H (.ref a) (.list (ns.map PyData.int)) := .lst h (dpAll_ints ns)
theorem lay_ints : ∀ ns : List Int, PyData.canLayAll0 (ns.map PyData.int) = true
  | [] => by simp [PyData.canLayAll0]
  | n :: r => by simp [PyData.canLayAll0, PyData.canLay0, lay_ints r]
theorem depth_ints : ∀ ns : List Int, PyData.depthAll (ns.map PyData.int) ≤ 1
  | [] => by simp [PyData.depthAll]
  | n :: r => by
    have h := depth_ints r
    simp only [List.map_cons, PyData.depthAll, PyData.depth]
    omega
theorem sh_ints (ns : List Int) : SeqAt.shaped (.list (ns.map PyData.int)) = true := by
  have h1 := depth_ints ns
  have h2 : PyData.depth (.list (ns.map PyData.int)) ≤ 64 := by
    simp only [PyData.depth]
    omega
  show (PyData.canLay0 (.list (ns.map PyData.int)) && decide (PyData.depth (.list (ns.map PyData.int)) ≤ 64)) = true
  rw [Bool.and_eq_true]
  exact ⟨by simp only [PyData.canLay0]; exact lay_ints ns, decide_eq_true h2⟩
theorem eqv_same (ns : List Int) : PyData.eqv (.list (ns.map PyData.int)) (.list (ns.map PyData.int)) = true := SeqAt.eqv_refl _ (SeqAt.canLay_of_shaped (sh_ints ns))

theorem sum_rep (k : Nat) (x : Int) : (List.replicate k x).sum = k * x := by
  induction k with
  | zero => simp
  | succ n ih =>
    rw [List.replicate_succ, List.sum_cons, ih, Int.natCast_add, Int.add_mul]
    omega
theorem parts_len {p m : Int} (hm : 1 ≤ m) : ((partsL p m).length : Int) = m := by
  have hr0 := Int.emod_nonneg p (show m ≠ 0 by omega)
  have hr1 := Int.emod_lt_of_pos p (show 0 < m by omega)
  unfold partsL
  rw [List.length_append, List.length_replicate, List.length_replicate]
  omega
theorem parts_sum {p m : Int} (hm : 1 ≤ m) : (partsL p m).sum = p := by
  have hr0 := Int.emod_nonneg p (show m ≠ 0 by omega)
  have hr1 := Int.emod_lt_of_pos p (show 0 < m by omega)
  have e := Int.mul_ediv_add_emod p m
  unfold partsL
  rw [List.sum_append, sum_rep, sum_rep, Int.toNat_of_nonneg hr0, Int.toNat_of_nonneg (by omega), Int.sub_mul, Int.mul_add]
  omega
theorem parts_mem {p m x : Int} (h : x ∈ partsL p m) : x = p / m + 1 ∨ x = p / m := by
  unfold partsL at h
  rcases List.mem_append.mp h with h | h
  · exact .inl (List.eq_of_mem_replicate h)
  · exact .inr (List.eq_of_mem_replicate h)
theorem parts_fall (p m : Int) : (partsL p m).Pairwise (fun a b => b ≤ a) := by
  unfold partsL
  refine List.pairwise_append.mpr ⟨List.pairwise_replicate.mpr (.inr (Int.le_refl _)), List.pairwise_replicate.mpr (.inr (Int.le_refl _)), fun a ha b hb => ?_⟩
  rw [List.eq_of_mem_replicate ha, List.eq_of_mem_replicate hb]
  omega
theorem parts_sorted {p m : Int} {ns : List Int} (h : ns.Perm (partsL p m)) (hs : ns.Pairwise (· ≤ ·)) : ns.reverse = partsL p m := by
  refine List.Perm.eq_of_pairwise (le := fun a b => b ≤ a) (fun x y _ _ h1 h2 => Int.le_antisymm h2 h1) ?_ (parts_fall p m) ((List.reverse_perm ns).trans h)
  exact List.pairwise_reverse.mpr hs
theorem ends_of {ns : List Int} (h : 0 < ns.length) : ∃ x y, x ∈ ns ∧ y ∈ ns ∧ atI (ns.map V.int) 0 = some (.int x) ∧ atI (ns.map V.int) (-1) = some (.int y) := by
  cases ns with
  | nil => cases h
  | cons x r =>
    refine ⟨x, (x :: r).getLast (List.cons_ne_nil _ _), List.mem_cons_self, List.getLast_mem _, atI_nat (j := 0) rfl, ?_⟩
    have hz : ((x :: r).map V.int) = ((x :: r).dropLast.map V.int) ++ [.int ((x :: r).getLast (List.cons_ne_nil _ _))] := by
      rw [← List.map_singleton, ← List.map_append, List.dropLast_concat_getLast]
    rw [hz]
    exact atI_last _ _
theorem all_true (n : Nat) : (List.replicate n true).all id = true := by
  induction n with
  | zero => rfl
  | succ k ih => rw [List.replicate_succ, List.all_cons, ih]; rfl
theorem pick6 {r x : Int} (h0 : 0 ≤ r) (h1 : r < 6) (x0 : 0 ≤ x) (x1 : x ≤ 100) : ∃ c : Int, atI [V.int 0, .int 1, .int 50, .int 99, .int 100, .int x] r = some (.int c) ∧ 0 ≤ c ∧ c ≤ 100 := by
  have h : r = 0 ∨ r = 1 ∨ r = 2 ∨ r = 3 ∨ r = 4 ∨ r = 5 := by omega
  rcases h with rfl | rfl | rfl | rfl | rfl | rfl
  · exact ⟨0, rfl, by decide, by decide⟩
  · exact ⟨1, rfl, by decide, by decide⟩
  · exact ⟨50, rfl, by decide, by decide⟩
  · exact ⟨99, rfl, by decide, by decide⟩
  · exact ⟨100, rfl, by decide, by decide⟩
  · exact ⟨x, rfl, x0, x1⟩
end
end Pw
namespace Pw
open PySem PySem.Spec PyProof.Rows L2
/-! ### defs that are called where no repr is under way (so that the repr of a list, of a tuple, is its text) -/
structure FnG (P : Program) (w : World) (K : PySem.W.Frag) (mg : Str → Option Value) (base : Heap) (k : Nat) (f : Addr) (fd : FuncData) (ps : List Str) (sp : Sp) : Prop where
  many : ∀ vs H Q E, sp vs H Q E → vs.length = ps.length
  runs : ∀ (A : Around) (out : List Env) (s : Shared) (H : Hp) (ar : Args) (us : List Value) (vs : List V) (Q : VK) (E : XK), Room k A → A.guards = some [] → Env0 P w K mg base A out s H →
    BindsTo s fd ar (ps.zip us) → Vals vs us → sp vs H Q E → codeAny (model P w) A (.call (.ref f) ar) (CR CX0 out P w H s Q E) s
theorem FnG.of {P : Program} {w : World} {K : PySem.W.Frag} {mg : Str → Option Value} {base : Heap} {k : Nat} {f : Addr} {fd : FuncData} {ps : List Str} {sp : Sp} (F : FnOk P w K mg base CX0 k f fd ps sp) : FnG P w K mg base k f fd ps sp :=
  ⟨F.len, fun A out s H ar us vs Q E hr _ => F.run A out s H ar us vs Q E hr⟩
theorem guards_deeper {A : Around} {env : Env} (h : A.guards = some []) : (A.deeper env).guards = some [] := h
theorem okG {P : Program} {w : World} {K : PySem.W.Frag} {mg : Str → Option Value} {base : Heap} {x qual : Str} {st : Stmt} {f : Addr} {fd : FuncData} {N ps : List Str} {k : Nat} {sp : Sp} (F : Fun K x qual st f fd) (S : FnScope N ps (defScope st))
    (many : ∀ vs H Q E, sp vs H Q E → vs.length = ps.length)
    (walk : ∀ (cdv : Value) (A : Around) (out : List Env) (s : Shared) (H : Hp) (vs : List V) (Q : VK) (E : XK), Room k (A.deeper (envOfC qual (defScope st) s.heap.objs.size f cdv)) → (A.deeper (envOfC qual (defScope st) s.heap.objs.size f cdv)).guards = some [] → sp vs H Q E →
      ∃ t, PSs (cxOf CX0 P w K mg base N qual (defScope st) f cdv A out s H E).nox (defBody st) t ∧ t { nx := fun _ H' => Q .non H', rt := Q } (start N vs) H) : FnG P w K mg base (k + 1) f fd ps sp := by
  obtain ⟨oc, od, kV, dc, pm, an, cv, ct, ol, rfl, look, code⟩ := F.ex
  constructor
  · exact many
  · intro A out s H ar us vs Q E room gd env0 binds rel want
    have inK : K.In s.heap := env0.mod.kin.keeps (fun b o e => And.left (env0.bs b o e))
    have noLim : s.heap.NoLimit := env0.mod.nolimit.keeps (fun b o e => And.left (env0.bs b o e))
    apply codeAny_call_function room.depth (inK _ _ look) rfl S.co S.gen rfl (PySem.W.codeRec_of inK code)
    apply binds
    apply wpAny_newFunctionEnv_cells S.kind
    · rintro ⟨n, v⟩ hy
      cases S.par n (List.of_mem_zip hy).1 with
      | inl q => exact Or.inl q
      | inr q => exact Or.inr ⟨q, PySem.W.cellsFrom_some _ _ _ (Or.inl q)⟩
    · intro env he s1 inCall
      cases he
      refine And.intro (noLim.keeps inCall.toInCall.keep) (codeAny_func ?_)
      obtain ⟨t, term, reading⟩ := walk cv A out s H vs Q E (room.deeper _) (guards_deeper gd) want
      have start : Inv (cxOf CX0 P w K mg base N qual (defScope st) f cv A out s H E) [] (L2.start N vs) H s1 := inv_start S room.hd env0 (many _ _ _ _ want) rel inCall
      apply wpAny_mono (term.nox.run [] s1 (L2.start N vs) H _ start reading)
      · intro fl s' told
        cases fl with
        | ret u =>
          obtain ⟨v, σ', H', J, rv, q⟩ := told
          exact ⟨v, H', J.os, J.bare, J.base, J.hok, rv, q⟩
        | next =>
          obtain ⟨σ', H', J, q⟩ := told
          exact ⟨V.non, H', J.os, J.bare, J.base, J.hok, rfl, q⟩
        | brk => exact (And.right (Exists.choose_spec (Exists.choose_spec told))).elim
        | cont => exact (And.right (Exists.choose_spec (Exists.choose_spec told))).elim
      · intro e s' told
        exact told
structure CG (P : Program) (w : World) (K : PySem.W.Frag) (mg : Str → Option Value) (base : Heap) (k : Nat) (x : Str) (ps : List Str) (sp : Sp) : Prop where
  ex : ∃ (f : Addr) (fd : FuncData), FnG P w K mg base k f fd ps sp ∧ mg x = some (.ref f) ∧ PySem.W.keepIn K (.ref f) = true ∧ Binds K fd ps []
theorem CF.g {P : Program} {w : World} {K : PySem.W.Frag} {mg : Str → Option Value} {base : Heap} {k : Nat} {x : Str} {ps : List Str} {sp : Sp} (C : CF P w K mg base k x ps sp) : CG P w K mg base k x ps sp := by
  obtain ⟨f, fd, F, r⟩ := C.ex
  exact ⟨f, fd, FnG.of F, r⟩
theorem pe_cg {X : Cx} {k : Nat} {x : Str} {ps : List Str} {sp : Sp} {e : Expr} {es : List Expr} {t : TA} {p pos : Pos} (C : CG X.prog X.w X.K X.mg X.base k x ps sp) (hr : Room k X.A) (gd : X.A.guards = some []) (hg : Gl X x) (ha : PA X (e :: es) t)
    (hdb : (x == ("__debug__" : Str)) = false := by decide) (he : starEach (e :: es) X.env = (false, eval e X.env) :: starEach es X.env := by rfl) (hpl : (backTo pos (starEach es X.env)).any (·.1) = false := by rfl) :
    PE X (.Call (.Name x p) (e :: es) [] pos) (tCall sp [] E0 t) := by
  obtain ⟨f, fd, F, g, kp, b⟩ := C.ex
  constructor
  intro pins s σ H Q I h
  apply wpAny_Call_Name_kw (ld_glob I hg g ?_ hdb)
  apply PySem.W.callWith_K (h₀ := X.base) I.ok.mod.kin kp (thn (ha.run pos pins s σ H _ I h) ?_) he hpl
  rintro us s1 ⟨vs, H1, I1, r, q⟩
  refine ⟨I1.kIn, wpAny_call (codeAny_mono (F.runs X.A X.stack s1 H1 ⟨us, []⟩ (us ++ []) (vs ++ []) Q E0 hr gd I1.env0 (b s1 us I1.kIn ?_) (r.append .nil) q) ?_)⟩
  · have hl := F.many _ _ _ _ q
    rw [(r.append .nil).length] at hl
    exact hl
  · intro res s' told
    cases res with
    | error e => exact told.elim
    | ok fl =>
      cases fl with
      | ret u => exact I1.after told
      | next => exact told.elim
      | brk => exact told.elim
      | cont => exact told.elim
/-! ### repr of data -/
def rRepr (K : PySem.W.Frag) : List V → Hp → VK → Prop := fun xs H Q => ∃ (x : V) (d : PyData), xs = [x] ∧ Dp K H x d ∧ d.showable = true ∧ d.shown.length ≤ sizeLine ∧ d.depth ≤ 60 ∧ d.hasDict = false ∧ Q (.str d.shown) H
theorem kk_repr (K : PySem.W.Frag) {X : Cx} (gd : X.A.guards = some []) (hu : X.A.units + 64 < cLine) (h : X.K = K := by rfl) : CallR X (.builtin "repr") (rRepr K) := by
  subst h
  intro pins s σ H xs us Q I r want
  obtain ⟨x, d, rfl, hd, hs, hz, hp, hn, q⟩ := want
  obtain ⟨u, rfl, ru⟩ := vals1 r
  cases hd with
  | non =>
    cases (show u = Value.none from ru)
    simp only [PyData.shown] at q
    exact PySem.P.repr_of_none ⟨.str _, H, I.tok _, ⟨_, rfl⟩, q⟩
  | bl b =>
    cases (show u = Value.bool b from ru)
    simp only [PyData.shown] at q
    exact PySem.P.repr_of_bool ⟨.str _, H, I.tok _, ⟨_, rfl⟩, q⟩
  | int i =>
    obtain ⟨t, e⟩ := (show ∃ t, u = Value.int i t from ru)
    cases e
    simp only [PyData.shown] at q
    exact PySem.P.repr_of_int (by simpa [PyData.showable] using hs) ⟨.str _, H, I.tok _, ⟨_, rfl⟩, q⟩
  | str y =>
    obtain ⟨t, e⟩ := (show ∃ t, u = Value.str y t from ru)
    cases e
    simp only [PyData.shown] at q hz
    exact PySem.P.repr_of_str ⟨.str _, H, I.tok _, ⟨_, rfl⟩, q⟩ hz
  | lst a b =>
    obtain ⟨as, rd⟩ := Dp.reads I _ _ u (.lst a b) ru
    cases ru
    exact repr_of_reads' rd hs (fun z => by rw [hn] at z; cases z) gd (by omega) (fun _ _ e => e) (fun h' t tk keep => ⟨.str _, H, I.kept keep, ⟨_, rfl⟩, q⟩) hz
  | tup a b =>
    obtain ⟨as, rd⟩ := Dp.reads I _ _ u (.tup a b) ru
    cases ru
    exact repr_of_reads' rd hs (fun z => by rw [hn] at z; cases z) gd (by omega) (fun _ _ e => e) (fun h' t tk keep => ⟨.str _, H, I.kept keep, ⟨_, rfl⟩, q⟩) hz
/-! ### the law's call, for such a def -/
theorem law_callG {P : Program} {w : World} {K : PySem.W.Frag} {mg mb : Str → Option Value} {k : Nat} {fa a : Addr} {fd : FuncData} {x : Str} {sp : Sp} {s₁ : Shared} {vs : List Value} {ns : List Int}
    (inK : K.In s₁.heap) (nsM : s₁.heap.Ns mainGlobals mg) (nsB : s₁.heap.Ns builtinsNs mb) (boot : ∀ y : Str, y ≠ "__name__" → mb y = bootBuiltins y) (lim : s₁.heap.NoLimit) (gens : s₁.gens = #[])
    (at_a : s₁.heap.get? a = some { cls := .type "list", data := .seq vs.toArray }) (areI : IntsAre vs ns) (fits : ns.length ≤ sizeLine) (room : Room k callerA)
    (F : ∀ base : Heap, K.In base → base.Ns mainGlobals mg → FnG P w K mg base k fa fd [x] sp) (bind : ∀ (s : Shared) (u : Value), BindsTo s fd ⟨[u], []⟩ [(x, u)])
    (want : ∀ H : Hp, Only H → SqL K H a (ns.map V.int) → sp [.ref a] H (fun v _ => v = .bl true) fun _ _ _ => False) :
    codeAny (model P w) callerA (.call (.ref fa) ⟨[.ref a], []⟩) (fun r s' => r = .ok (.ret (.bool true)) ∧ OldK s₁.heap s'.heap ∧ s'.os = s₁.os ∧ AllBare s'.gens) s₁ := by
  have many := areI.length
  have goes : ∀ H : Hp, Only H → SqL K H a (ns.map V.int) → HOk P w H s₁.heap → (∀ b, H b ≠ none → b = a) → (H a ≠ none → K.lookup a = none) →
      codeAny (model P w) callerA (.call (.ref fa) ⟨[.ref a], []⟩) (fun r s' => r = .ok (.ret (.bool true)) ∧ OldK s₁.heap s'.heap ∧ s'.os = s₁.os ∧ AllBare s'.gens) s₁ := by
    intro H only isL ok one notK
    have free : ∀ {b : Addr}, b ≠ a → H b = none := by
      intro b nb
      cases hb : H b with
      | none => rfl
      | some u => exact absurd (one b (by rw [hb]; simp)) nb
    have dictFree : ∀ {b : Addr} {o : Obj} {es : Array DictEntry} {ep : Nat}, s₁.heap.get? b = some o → o.data = .dict es ep → H b = none := by
      intro b o es ep e dd
      refine free (fun z => ?_)
      rw [z, at_a] at e
      cases e
      cases (show Data.seq vs.toArray _ = Data.dict es ep from dd)
    have nsH : ∀ {b : Addr} {m : Str → Option Value}, s₁.heap.Ns b m → (hidT s₁.heap H).Ns b m := by
      rintro b m ⟨o, es, ep, e, dd, rr⟩
      exact ⟨o, es, ep, hidT_get e (dictFree e dd), dd, rr⟩
    have inH : K.In (hidT s₁.heap H) := by
      intro b o e
      refine hidT_get (inK b o e) ?_
      cases hb : H b with
      | none => rfl
      | some u =>
        have ba := one b (by rw [hb]; simp)
        rw [ba] at hb e
        rw [notK (by rw [hb]; simp)] at e
        cases e
    have modH : Mod K mg (hidT s₁.heap H) := by
      obtain ⟨mc, l1, l2⟩ := lim
      exact ⟨inH, nsH nsM, ⟨mb, nsH nsB, boot⟩, ⟨mc, nsH l1, l2⟩⟩
    have env : Env0 P w K mg (hidT s₁.heap H) callerA [] s₁ H := by
      refine ⟨rfl, modH, fun b o e => of_hidT e, Nat.le_of_eq (hidT_size _ _), trivial, ?_, ok, .of_eq gens⟩
      intro b hb
      cases hb
    apply codeAny_mono ((F _ inH (nsH nsM)).runs callerA [] s₁ H ⟨[.ref a], []⟩ [.ref a] [.ref a] _ _ room rfl env (bind s₁ (.ref a)) (.cons rfl .nil) (want H only isL))
    intro res s' told
    cases res with
    | error e => exact told.elim
    | ok fl =>
      cases fl with
      | next => exact told.elim
      | brk => exact told.elim
      | cont => exact told.elim
      | ret u =>
        obtain ⟨v, H', os, bare, un, ok', rel, qv⟩ := told
        cases (show v = .bl true from qv)
        cases (show u = Value.bool true from rel)
        refine ⟨rfl, OldK.of_keep (fun b o e => ?_), os, bare⟩
        cases hb : H b with
        | none => exact un.keep b o e hb (fun z => by cases z) (fun z => by cases z)
        | some u2 =>
          rcases only b with z | ⟨ob, xs, z⟩
          · rw [hb] at z
            cases z
          · have e1 := And.left (ok b _ z)
            have e2 := And.left (ok' b _ (un.frzs b ob _ z))
            rw [e] at e1
            cases e1
            exact e2
  cases hk : K.lookup a with
  | some o =>
    have e := inK a o hk
    rw [at_a] at e
    cases e
    apply goes (fun _ => none)
    · exact fun _ => Or.inl rfl
    · exact Or.inr ⟨_, vs.toArray, _, hk, rfl, rfl, rfl, by rw [List.size_toArray, many]; exact fits, by simpa using vals_ints areI⟩
    · intro b u z
      cases (show (none : Option HO) = some u from z)
    · exact fun b z => absurd rfl z
    · exact fun z => absurd rfl z
  | none =>
    apply goes (fun b => if b = a then some (.frz { cls := .type "list", data := .seq vs.toArray } (.lst (ns.map V.int))) else none)
    · intro b
      by_cases hb : b = a
      · exact Or.inr ⟨_, _, if_pos hb⟩
      · exact Or.inl (if_neg hb)
    · exact Or.inl (Or.inr ⟨{ cls := .type "list", data := .seq vs.toArray }, if_pos rfl⟩)
    · intro b u z
      by_cases hb : b = a
      · have z' := (if_pos hb).symm.trans z
        cases z'
        rw [hb]
        exact ⟨at_a, by rw [List.length_map]; exact fits, vs, _, vals_ints areI, at_a⟩
      · cases (if_neg hb).symm.trans z
    · intro b z
      by_cases hb : b = a
      · exact hb
      · exact absurd (if_neg hb) z
    · exact fun _ => hk
theorem walk_ofG {l : PySem.W.OpenLaw} {n k : Nat} {q : Program} {loose : List Str} {XP : (Str → Option Value) → Heap → Prop} {YP : World → Heap → Prop} {d : DefRec} {K : Params → PySem.W.Frag} {sp : World → Sp} {x : Str}
    (hn : l.most = some n) (hn2 : n ≤ sizeLine) (hdf : d.params.defaults = []) (hr : Room k callerA) (hY : ∀ (w : World) (h : Heap), YP w h → (K w.params).In h)
    (F : ∀ (w : World) (mg : Str → Option Value) (fa : Addr) (h : Heap), (K w.params).In h → h.Ns mainGlobals mg → mg d.name = some (.ref fa) →
      ∃ fd : FuncData, (∀ (s : Shared) (u : Value), BindsTo s fd ⟨[u], []⟩ [(x, u)]) ∧ ∀ base : Heap, (K w.params).In base → base.Ns mainGlobals mg → FnG l.prog w (K w.params) mg base k fa fd [x] (sp w))
    (hsp : ∀ (w : World) (H : Hp) (a : Addr) (ns : List Int), ns.length ≤ n → Only H → SqL (K w.params) H a (ns.map V.int) → sp w [.ref a] H (fun v _ => v = .bl true) fun _ _ _ => False) :
    PySem.W.WalkO q loose XP YP l.row.toRowW d [] (fun f vs => PySem.call f vs) := by
  apply Att.attach_call hn hdf
  intro w s₀ s₁ mg mb fa o pm cd doc a vs ns G Y ho hd hcd hmg hobj hints hlen hg
  obtain ⟨fd, hb, hF⟩ := F w mg fa _ (hY w _ Y) G.T.g hmg
  exact law_callG (hY w _ Y) G.T.g G.T.b G.T.builtins G.T.nolimit hg hobj hints (Nat.le_trans hlen hn2) hr hF hb (fun H hO hS => hsp w H a ns hlen hO hS)
/-! ### texts and data -/
theorem op_mul_str {X : Cx} : OpR X (binaryOp .Mult) (fun x y H Q => ∃ (z : Str) (k : Int), x = .str z ∧ y = .int k ∧ MulOk z k ∧ Q (.str (Txt.mul z k)) H) := by
  intro pins s σ H x y v u Q I rx ry h
  obtain ⟨z, k, rfl, rfl, ok, q⟩ := h
  obtain ⟨t, rfl⟩ := rx
  obtain ⟨t', rfl⟩ := ry
  exact SB.mul ok fun t' tk => ⟨.str _, H, I.tok _, ⟨_, rfl⟩, q⟩
theorem len_app (x y : Str) : (x ++ y).length = x.length + y.length := by
  rw [TL.len_tl, TL.tl_append, List.length_append, ← TL.len_tl, ← TL.len_tl]
def tyD : PyData → String
  | .none => "NoneType"
  | .bool _ => "bool"
  | .int _ => "int"
  | .str _ => "str"
  | .list _ => "list"
  | .tuple _ => "tuple"
  | .dict _ => "dict"
theorem ty_of_dp {K : PySem.W.Frag} {H : Hp} {x : V} {d : PyData} (h : Dp K H x d) : TyX K H x (.type (tyD d)) := by
  cases h with
  | non => exact .base .non
  | bl b => exact .base (.bl b)
  | int i => exact .base (.int i)
  | str z => exact .base (.str z)
  | lst a _ =>
    rcases a with (a | ⟨o, a⟩) | ⟨o, its, n, a, c, _⟩
    · exact .base (.lst a)
    · exact .base (.frz a)
    · exact .kList a c
  | tup a _ =>
    rcases a with (a | ⟨o, a⟩) | ⟨o, its, n, a, c, _⟩
    · exact .base (.tup a)
    · exact .fTuple a
    · exact .kTuple a c
theorem seqT_same {K : PySem.W.Frag} {H H' : Hp} {a : Addr} {xs : List V} (e : Same H H') (h : SqT K H a xs) : SqT K H' a xs := by
  rcases h with (h | ⟨o, h⟩) | h
  · exact .inl (.inl (e _ _ h))
  · exact .inl (.inr ⟨o, e _ _ h⟩)
  · exact .inr h
mutual
theorem dp_same {K : PySem.W.Frag} {H H' : Hp} (e : Same H H') : ∀ {x : V} {d : PyData}, Dp K H x d → Dp K H' x d
  | _, _, .non => .non
  | _, _, .bl b => .bl b
  | _, _, .int i => .int i
  | _, _, .str z => .str z
  | _, _, .lst a b => .lst (e.seq a) (dpAll_same e b)
  | _, _, .tup a b => .tup (seqT_same e a) (dpAll_same e b)
theorem dpAll_same {K : PySem.W.Frag} {H H' : Hp} (e : Same H H') : ∀ {xs : List V} {ds : List PyData}, DpAll K H xs ds → DpAll K H' xs ds
  | _, _, .nil => .nil
  | _, _, .cons a b => .cons (dp_same e a) (dpAll_same e b)
end
/-- the heap without the place b -/
def wo (b : Addr) (H : Hp) : Hp := fun c => if c = b then none else H c
theorem wo_sub (b : Addr) (H : Hp) : Same (wo b H) H := fun c o h => by
  unfold wo at h
  split at h
  · cases h
  · exact h
theorem wo_but {b : Addr} {H H' : Hp} (t : But b H H') : Same (wo b H) (wo b H') := fun c o h => by
  unfold wo at h ⊢
  split at h
  · cases h
  · rename_i n
    rw [if_neg n]
    exact t c o n h
theorem wo_same {b : Addr} {H H' : Hp} (t : Same H H') : Same (wo b H) (wo b H') := wo_but (But.of t)
theorem wo_at {b c : Addr} {H : Hp} {o : HO} (n : c ≠ b) (h : H c = some o) : wo b H c = some o := by
  unfold wo
  rw [if_neg n]
  exact h
def Asc (s : Str) : Prop := ∀ c ∈ TL.tl s, c < 128
theorem Asc.app {x y : Str} (hx : Asc x) (hy : Asc y) : Asc (x ++ y) := fun c hc => by
  rw [TL.tl_append] at hc
  rcases List.mem_append.mp hc with h | h
  · exact hx c h
  · exact hy c h
theorem Asc.cut {x : Str} {lo hi : Option Int} (hx : Asc x) : Asc (cutS x lo hi) := fun c hc => hx c (List.mem_of_mem_drop (List.mem_of_mem_take hc))
theorem Asc.one {c : Nat} (h : c < 128) : Asc ⟨#[c]⟩ := fun d hd => by
  rw [List.mem_singleton.mp (show d ∈ [c] from hd)]
  exact h
/-! ### kinds of data -/
def isT (T t : String) : Bool := decide (t = T) || (decide (T = "int") && decide (t = "bool"))
abbrev isK (T : String) (d : PyData) : Bool := isT T (tyD d)
theorem kit_t : ∀ t ∈ ["NoneType", "bool", "int", "str", "list", "tuple", "dict"], ∀ T ∈ ["int", "bool", "str", "list", "tuple"], kitB t T = some (isT T t) := by decide +kernel
theorem ty_mem (d : PyData) : tyD d ∈ ["NoneType", "bool", "int", "str", "list", "tuple", "dict"] := by
  cases d <;> simp [tyD]
theorem kit_d {K : PySem.W.Frag} {T : String} (hT : T ∈ ["int", "bool", "str", "list", "tuple"]) (d : PyData) : PySem.W.kitOne K (.type (tyD d)) (.type T) = some (isK T d) := kit_ty (kit_t _ (ty_mem d) T hT)
theorem sh_int (i : Int) : SeqAt.shaped (.int i) = true := by
  show (PyData.canLay0 (.int i) && decide (PyData.depth (.int i) ≤ 64)) = true
  simp [PyData.canLay0, PyData.depth]
theorem tuple_mul1 (l : Addr) (items : Array Value) (n : Nat) (dd : Option Addr) (sl : Array (Option Value)) (u : Tok) (hne : items.isEmpty = false) :
    Meets (Builtin.«tuple.__mul__» ⟨[.ref l, .int 1 u], []⟩) (fun _ R s => s.heap.get? l = some { cls := .type "tuple", dict := dd, data := .seq items n, slots := sl } ∧ R (.ok (.ret (Value.ref l))) s) :=
  .of_wp fun prog w A R s h => by
    obtain ⟨hp, g, d, tk, os⟩ := s
    obtain ⟨hl, h⟩ := h
    have f1 := AutoSeq1.idx_int
    wp_walk using wpAny_loadPart' hl
    exact ⟨_, rfl, h⟩
theorem op_rep1 {X : Cx} : OpR X (binaryOp .Mult) (fun x y H Q => ∃ (l : Addr) (xs : List V), x = .ref l ∧ y = .int 1 ∧ SqT X.K H l xs ∧ xs ≠ [] ∧ Q (.ref l) H) := by
  intro pins s σ H x y v u Q I rx ry h
  obtain ⟨l, xs, rfl, rfl, hT, hne, q⟩ := h
  cases rx
  obtain ⟨t, rfl⟩ := ry
  obtain ⟨its, r, ⟨⟨cls, dd, data, sl⟩, ho, hc, n, hd⟩, hs⟩ := I.tuple hT
  simp only at hc hd
  subst hc hd
  have hi : its.toArray.isEmpty = false := by
    cases its with
    | nil => exact absurd (List.eq_nil_of_length_eq_zero (r.length.trans rfl)) hne
    | cons a b => rfl
  refine wpAny_binaryOp_repeat_ref (T := "tuple") (U := "int") (by decide) ⟨_, ho, rfl⟩ (fun s' => typeIs_int s' 1 t) noFill_tuple_mul F.fills_int_mul F.slot_int_rmul repeat_tuple F.slot_int_index.lookup
    (call_meets F.slot_int_rmul (typeIs_int s 1 t) F.entry_int_rmul (F.args_int_rmul_2 _ _) (int_rmul_tuple 1 t l its.toArray n dd sl)
      ⟨ho, rfl, ⟨_, ho, rfl⟩, call_meets F.slot_tuple_mul ⟨_, ho, rfl⟩ F.entry_tuple_mul (F.args_tuple_mul_2 _ _) (tuple_mul1 l its.toArray n dd sl t hi) ⟨ho, ?_⟩⟩)
  exact ⟨.ref l, H, I, rfl, q⟩
def rRepA (K : PySem.W.Frag) : R2 := fun x y H Q => rRepT K x y H Q ∨ ∃ (l : Addr) (xs : List V), x = .ref l ∧ y = .int 1 ∧ SqT K H l xs ∧ xs ≠ [] ∧ Q (.ref l) H
theorem kk_repA (K : PySem.W.Frag) {X : Cx} (h : X.K = K := by rfl) : OpR X (binaryOp .Mult) (rRepA K) := h ▸ OpR.or op_repT op_rep1
/-! ### classes: a method, the making of an instance, by their promises -/
structure CMt (P : Program) (w : World) (K : PySem.W.Frag) (mg : Str → Option Value) (base : Heap) (C : Addr) (k : Nat) (m : Str) (ps : List Str) (dvs : List V) (sp : Sp) : Prop where
  ex : ∃ (f : Addr) (fd : FuncData) (ds : List Value), FnOk P w K mg base CX0 k f fd ps sp ∧ Meth K C m f ∧ Vals dvs ds ∧ Binds K fd ps ds
structure CMk (P : Program) (w : World) (K : PySem.W.Frag) (mg : Str → Option Value) (base : Heap) (C : Addr) (k : Nat) (x : Str) (ps : List Str) (dvs : List V) (sp : Sp) : Prop where
  ex : ∃ (f : Addr) (fd : FuncData) (ds : List Value), FnOk P w K mg base CX0 k f fd ps sp ∧ Mk K C f ∧ mg x = some (.ref C) ∧ Vals dvs ds ∧ Binds K fd ps ds
section
variable {X : Cx} {k : Nat} {C : Addr} {x m : Str} {ps : List Str} {dvs : List V} {sp : Sp} {p pos apos : Pos} {e o : Expr} {es : List Expr} {ta : TE} {t : TA}
theorem pe_mt {pl : Sem Bool} (M : CMt X.prog X.w X.K X.mg X.base C k m ps dvs sp) (c : Cls X.K C) (hr : Room k X.A) (he : PE X o ta) (ha : PA X (e :: es) t)
    (hst : starEach (e :: es) X.env = (false, eval e X.env) :: starEach es X.env := by rfl) (hpl : (backTo pos (starEach es X.env)).any (·.1) = false := by rfl)
    (ht : eval (.Call (.Attribute o m apos) (e :: es) [] pos) X.env = (do
      let ov ← eval o X.env
      standAt apos.atName
      let (f, first) ← holding [ov] (getMethod ov m pl)
      callWith pos f first (backTo pos (starEach (e :: es) X.env)) (backToKw pos (keywordEach [] X.env))) := by rfl) :
    PE X (.Call (.Attribute o m apos) (e :: es) [] pos) (tMeth C m sp dvs E0 ta t) := by
  obtain ⟨f, fd, ds, F, me, vd, b⟩ := M.ex
  exact pe_meth (pl := pl) he c me F hr b vd pass0 ha hst hpl ht
theorem pe_mt0 {pl : Sem Bool} (M : CMt X.prog X.w X.K X.mg X.base C k m ps dvs sp) (c : Cls X.K C) (hr : Room k X.A) (he : PE X o ta)
    (ht : eval (.Call (.Attribute o m apos) [] [] pos) X.env = (do
      let ov ← eval o X.env
      standAt apos.atName
      let (f, first) ← holding [ov] (getMethod ov m pl)
      callWith pos f first (backTo pos (starEach [] X.env)) (backToKw pos (keywordEach [] X.env))) := by rfl) :
    PE X (.Call (.Attribute o m apos) [] [] pos) (tMeth C m sp dvs E0 ta tNil) := by
  obtain ⟨f, fd, ds, F, me, vd, b⟩ := M.ex
  exact pe_meth0 (pl := pl) he c me F hr b vd pass0 ht
theorem pe_mkc (M : CMk X.prog X.w X.K X.mg X.base C k x ps dvs sp) (hr : Room (k + 1) X.A) (hg : Gl X x) (ha : PA X (e :: es) t)
    (hdb : (x == ("__debug__" : Str)) = false := by decide) (he : starEach (e :: es) X.env = (false, eval e X.env) :: starEach es X.env := by rfl) (hpl : (backTo pos (starEach es X.env)).any (·.1) = false := by rfl) :
    PE X (.Call (.Name x p) (e :: es) [] pos) (tMake C sp dvs E0 t) := by
  obtain ⟨f, fd, ds, F, mk, g, vd, b⟩ := M.ex
  exact pe_make mk F hr hg g b vd pass0 ha hdb he hpl
end
/-! ### o.m(e, .., k = v) -/
structure CMtK (P : Program) (w : World) (K : PySem.W.Frag) (mg : Str → Option Value) (base : Heap) (C : Addr) (k : Nat) (m : Str) (ps : List Str) (n : Nat) (ks : List Str) (gV : List V → List V → List V) (sp : Sp) : Prop where
  ex : ∃ (f : Addr) (fd : FuncData) (g : List Value → List Value → List Value), FnOk P w K mg base CX0 k f fd ps sp ∧ Meth K C m f ∧ KBn K fd ps n ks g gV
def tMethK (C : Addr) (m : Str) (n j : Nat) (sp : Sp) (gV : List V → List V → List V) (ta : TE) (t tk : TA) : TE := fun σ H Q => ta σ H fun x H1 => ∃ (a dx : Addr) (fs : List (Str × V)), x = .ref a ∧ H1 a = some (.ins C dx fs) ∧ fs.lookup m = none ∧
  t σ H1 fun vs H2 => tk σ H2 fun zs H3 => (x :: vs).length = n ∧ zs.length = j ∧ sp (gV (x :: vs) zs) H3 Q E0
theorem pe_mtK {X : Cx} {k n : Nat} {C : Addr} {m : Str} {ps ks : List Str} {sp : Sp} {gV : List V → List V → List V} {pos apos : Pos} {e o : Expr} {es : List Expr} {kws : List Keyword} {ta : TE} {t tk : TA} {pl : Sem Bool}
    (M : CMtK X.prog X.w X.K X.mg X.base C k m ps n ks gV sp) (c : Cls X.K C) (hr : Room k X.A) (he : PE X o ta) (ha : PA X (e :: es) t) (hkw : PK X kws tk)
    (hall : (backToKw pos (keywordEach kws X.env)).all (·.1.isSome) = true := by rfl) (hks : (backToKw pos (keywordEach kws X.env)).filterMap (·.1) = ks := by rfl)
    (hst : starEach (e :: es) X.env = (false, eval e X.env) :: starEach es X.env := by rfl)
    (hpl : ((backTo pos (starEach (e :: es) X.env)).any (·.1) || (backToKw pos (keywordEach kws X.env)).any (·.1.isNone)) = false := by rfl)
    (ht : eval (.Call (.Attribute o m apos) (e :: es) kws pos) X.env = (do
      let ov ← eval o X.env
      standAt apos.atName
      let (f, first) ← holding [ov] (getMethod ov m pl)
      callWith pos f first (backTo pos (starEach (e :: es) X.env)) (backToKw pos (keywordEach kws X.env))) := by rfl) :
    PE X (.Call (.Attribute o m apos) (e :: es) kws pos) (tMethK C m n ks.length sp gV ta t tk) := by
  obtain ⟨f, fd, g, F, me, b⟩ := M.ex
  constructor
  intro pins s σ H Q I h
  refine PySem.W.methodCall_KW (pl := pl) (thn (he.run pins s σ H _ I h) ?_) ht
  rintro u s1 ⟨x, H1, I1, rx, a, dx, fs, rfl, ea, l, q⟩
  cases (show u = Value.ref a from rx)
  refine getmeth_ok I1 ea c me l ?_
  refine PySem.W.callWith_KW (first := [.ref a]) (h₀ := X.base) I.ok.mod.kin me.kp hall (thn (ha.run pos pins s1 σ H1 _ I1 q) ?_) hpl hst
  rintro us s2 ⟨vs, H2, I2, r, q2⟩
  refine thn (hkw.run pos pins s2 σ H2 _ I2 q2) ?_
  rintro ws s3 ⟨zs, H3, I3, rz, l1, l2, q3⟩
  refine ⟨I3.kIn, ?_⟩
  rw [hks]
  exact run_fnN (us := .ref a :: us) (vs := .ref a :: vs) F hr b pass0 I3 (.cons rfl r) rz l1 l2 q3
theorem okD {P : Program} {w : World} {K : PySem.W.Frag} {mg : Str → Option Value} {base : Heap} {x qual : Str} {params : Arguments} {body : List Stmt} {scope : Scope} {dvs : List V} {kws : List (Str × V)} {f : Addr} {fd : FuncData} {N ps : List Str} {k : Nat} {sp : Sp}
    (F : FunD K x qual params body scope dvs kws f fd) (S : FnScope N ps scope) (len : ∀ vs H Q E, sp vs H Q E → vs.length = ps.length)
    (walk : ∀ (cdv : Value) (A : Around) (outer : List Env) (s : Shared) (H : Hp) (vs : List V) (Q : VK) (E : XK), Room k (A.deeper (envOfC qual scope s.heap.objs.size f cdv)) → sp vs H Q E →
      ∃ t, PSs (cxOf CX0 P w K mg base N qual scope f cdv A outer s H E).nox body t ∧ t { nx := fun _ H' => Q .non H', rt := Q } (start N vs) H) : FnOk P w K mg base CX0 (k + 1) f fd ps sp := by
  refine F.ok S len (fun cdv A outer s H vs Q E hr h => ?_)
  obtain ⟨t, ht, q⟩ := walk cdv A outer s H vs Q E hr h
  exact ⟨t, ht.nox, q⟩
/-! ### numbers in bounds, what is kept -/
def numIn : PyData → Int → Int → Bool
  | .int i, lo, hi => decide (lo ≤ i) && decide (i ≤ hi)
  | _, _, _ => false
def keptOk : PyData → PyData → Bool
  | .tuple ds, e => PyData.eqv (.int (ds.length : Int)) e && ds.all fun d => numIn d 0 100
  | d, _ => numIn d 0 100
def firstWrong (ws : List (Str × Bool)) : V := match ws.find? (fun p => !p.2) with
  | some p => .str p.1
  | none => .non
theorem firstWrong_at {ws : List (Str × Bool)} {i : Nat} {w : Str} (h : ∀ p ∈ ws.take i, p.2 = true) (hi : ws[i]? = some (w, false)) : firstWrong ws = .str w := by
  have hs : ws = ws.take i ++ (w, false) :: ws.drop (i + 1) := by
    obtain ⟨hl, he⟩ := List.getElem?_eq_some_iff.mp hi
    rw [← he, List.getElem_cons_drop, List.take_append_drop]
  unfold firstWrong
  rw [hs, List.find?_append, List.find?_eq_none.mpr (fun p hp => by rw [h p hp]; decide)]
  rfl
theorem firstWrong_none {ws : List (Str × Bool)} (h : ∀ p ∈ ws, p.2 = true) : firstWrong ws = .non := by
  unfold firstWrong
  rw [List.find?_eq_none.mpr (fun p hp => by rw [h p hp]; decide)]
theorem dpAll_len {K : PySem.W.Frag} {H : Hp} : ∀ {xs : List V} {ds : List PyData}, DpAll K H xs ds → xs.length = ds.length
  | _, _, .nil => rfl
  | _, _, .cons _ b => by rw [List.length_cons, List.length_cons, dpAll_len b]
theorem dpAll_get {K : PySem.W.Frag} {H : Hp} : ∀ {xs : List V} {ds : List PyData} {i : Nat} {x : V}, DpAll K H xs ds → xs[i]? = some x → ∃ d, ds[i]? = some d ∧ Dp K H x d
  | _, _, 0, _, .cons a _, h => ⟨_, rfl, by cases (Option.some.inj h); exact a⟩
  | _, _, i + 1, _, .cons _ b, h => dpAll_get (i := i) b h
  | _, _, _, _, .nil, h => by simp at h
/-! ### a block over an iterator of a known length; zip of two lists, of two tuples -/
theorem lc_gen {J : It} {n : Nat} {g : TG} {tt : TT} {te : TE} {vs : List Nat} {σ : L2.St} {H1 : Hp} {D : Addr} {Qd : Hp → Prop} (Pv : Nat → Hp → Prop) (first : Pv 0 (upd H1 D (.lst [])))
    (can : ∀ i H, Pv i H → (i < n → J.go i H) ∧ (i = n → J.stop i H))
    (turn : ∀ i H v H', i < n → Pv i H → J.yld i H v H' → g v (wipe σ vs) H' fun σ2 H2 => wipe σ2 vs = wipe σ vs ∧ tt σ2 H2 fun b H3 => if b = true then te σ2 H3 fun y H4 => ∃ acc, H4 D = some (.lst acc) ∧ acc.length < sizeLine ∧ Pv (i + 1) (upd H4 D (.lst (acc ++ [y]))) else Pv (i + 1) H3)
    (last : ∀ H, Pv n H → Qd H) :
    ∃ W : Nat → Nat → Hp → Prop, (∃ m, W 0 m (upd H1 D (.lst []))) ∧ ∀ i m H, W i m H → (J.stop i H ∧ Qd H) ∨ (J.go i H ∧ ∃ Nx : Hp → Prop, (∀ H', Nx H' → ∃ m', m' < m ∧ W (i + 1) m' H') ∧ ∀ x H', J.yld i H x H' → g x (wipe σ vs) H' fun σ2 H2 => wipe σ2 vs = wipe σ vs ∧ tt σ2 H2 fun b H3 => if b = true then te σ2 H3 fun y H4 => ∃ acc, H4 D = some (.lst acc) ∧ acc.length < sizeLine ∧ Nx (upd H4 D (.lst (acc ++ [y]))) else Nx H3) := by
  refine ⟨fun i m H => m + i = n ∧ Pv i H, ⟨n, by omega, first⟩, ?_⟩
  intro i m H hw
  obtain ⟨e, p⟩ := hw
  by_cases c : i < n
  · exact .inr ⟨(can i H p).1 c, Pv (i + 1), fun H' p' => ⟨n - (i + 1), by omega, by omega, p'⟩, fun v H' y => turn i H v H' c p y⟩
  · have z : i = n := by omega
    exact .inl ⟨(can i H p).2 z, last H (z ▸ p)⟩
section
variable {K : PySem.W.Frag} {a b : Addr} {xs ys : List V}
theorem canL {H : Hp} {i : Nat} (l : xs.length = ys.length) (x : SqL K H a xs) (y : SqL K H b ys) : (i < xs.length → (Itz K a b).go i H) ∧ (i = xs.length → (Itz K a b).stop i H) :=
  ⟨fun c => ⟨xs, ys, _, _, x, y, List.getElem?_eq_getElem c, List.getElem?_eq_getElem (l ▸ c)⟩, fun c => ⟨xs, ys, x, y, .inl (by omega)⟩⟩
theorem canT {H : Hp} {i : Nat} (l : xs.length = ys.length) (x : SqT K H a xs) (y : SqT K H b ys) : (i < xs.length → (RZ.ItzT K a b).go i H) ∧ (i = xs.length → (RZ.ItzT K a b).stop i H) :=
  ⟨fun c => ⟨xs, ys, _, _, x, y, List.getElem?_eq_getElem c, List.getElem?_eq_getElem (l ▸ c)⟩, fun c => ⟨xs, ys, x, y, .inl (by omega)⟩⟩
end
/-! ### data of short lists -/
mutual
def thin : PyData → Bool
  | .list xs => decide (xs.length ≤ 1000) && thinAll xs
  | .tuple xs => decide (xs.length ≤ 1000) && thinAll xs
  | _ => true
def thinAll : List PyData → Bool
  | [] => true
  | x :: r => thin x && thinAll r
end
theorem thin_at {d : PyData} : ∀ {ds : List PyData} {i : Nat}, thinAll ds = true → ds[i]? = some d → thin d = true
  | e :: r, 0, h, he => by
    cases he
    simp only [thinAll, Bool.and_eq_true] at h
    exact h.1
  | e :: r, i + 1, h, he => by
    simp only [thinAll, Bool.and_eq_true] at h
    exact thin_at (i := i) h.2 he
theorem depth_at {d : PyData} : ∀ {ds : List PyData} {i : Nat}, ds[i]? = some d → PyData.depth d ≤ PyData.depthAll ds
  | e :: r, 0, he => by
    cases he
    simp only [PyData.depthAll]
    omega
  | e :: r, i + 1, he => by
    have := depth_at (i := i) (ds := r) he
    simp only [PyData.depthAll]
    omega
theorem kitLT {K : PySem.W.Frag} (d : PyData) : PySem.W.kitAny K (.type (tyD d)) [.type "list", .type "tuple"] = some (isK "list" d || isK "tuple" d) := by
  unfold PySem.W.kitAny
  rw [kit_d (by decide)]
  cases isK "list" d with
  | true => rfl
  | false =>
    unfold PySem.W.kitAny
    rw [kit_d (by decide)]
    cases isK "tuple" d <;> rfl
theorem qY {c : Prop} [Decidable c] {Q : VK} {H : Hp} (hc : c) (q : Q (.bl true) H) : Q (.bl (decide c)) H := by
  rw [decide_eq_true hc]
  exact q
theorem rep_snoc (i : Nat) : (List.replicate i true).map V.bl ++ [V.bl true] = (List.replicate (i + 1) true).map V.bl := by
  rw [List.map_replicate, List.map_replicate, List.replicate_succ']
/-! ### len of an instance by its class's own def; a walk over a list or a tuple -/
theorem call_lenO {X : Cx} {C : Addr} {k : Nat} {sp : Sp} (M : CMt X.prog X.w X.K X.mg X.base C k "__len__" ["self"] [] sp) (hr : Room (k + 1) X.A) :
    CallR X (.builtin "len") (fun xs H Q => ∃ (r dx : Addr) (fs : List (Str × V)), xs = [.ref r] ∧ H r = some (.ins C dx fs) ∧ sp [.ref r] H (fun v H' => ∃ n : Int, v = .int n ∧ 0 ≤ n ∧ n < 1000000 ∧ Q (.int n) H') E0) := by
  intro pins s σ H xs us Q I rv h
  obtain ⟨r, dx, fs, rfl, ea, h⟩ := h
  obtain ⟨f, fd, ds, F, me, vd, hb⟩ := M.ex
  cases vd
  cases rv with
  | cons e rr =>
    cases rr
    cases e
    obtain ⟨mA, O, _⟩ := ins_get I.hok ea
    obtain ⟨od, J, _⟩ := O.look
    refine Calls.call_function_entry kind_len plain_len entry_len (args_len1 _) ?_
    unfold Builtin.«len»
    refine wpAny_bind (wpAny_pure ?_)
    refine wpAny_bind (PySem.W.special_fn (args := []) I.kIn J me.at_ (beq_iff_eq.mp me.fn) ?_)
    have hl : ([Value.ref r] ++ ([] : List Value)).length = (["self"] : List Str).length := rfl
    refine wpAny_call (codeAny_mono (F.run X.A.in1 X.stack s H ⟨[.ref r], []⟩ [.ref r] [.ref r] _ _ hr.in1 I.env0.in1 (hb s [.ref r] I.kIn hl) (.cons rfl .nil) h) fun x s' hq => ?_)
    cases x with
    | error e => exact pass0 pins σ H s e s' I hq
    | ok fl =>
      cases fl with
      | ret u =>
        obtain ⟨v, H', I', rv, n, rfl, n0, n1, q⟩ := I.after hq
        obtain ⟨t, rfl⟩ := rv
        refine wpAny_bind (wpAny_holding (wpAny_pure ?_))
        refine wpAny_bind (wpAny_letGo ?_)
        show wpAny _ _ (if n < 0 then _ else _) _ _ _
        rw [if_neg (by omega)]
        show wpAny _ _ (if n ≥ 2 ^ 63 then _ else _) _ _ _
        rw [if_neg (by omega)]
        exact wpAny_bind (wpAny_mkInt (wpAny_pure ⟨_, rfl, .int n, H', I'.tok _, ⟨_, rfl⟩, q⟩))
      | next => exact False.elim hq
      | brk => exact False.elim hq
      | cont => exact False.elim hq
theorem pi_or {X : Cx} {tg e : Expr} {w1 w2 : TI} (h : PI X tg e w1) (h' : PI X tg e w2) : PI X tg e (fun σ H R => w1 σ H R ∨ w2 σ H R) :=
  ⟨fun pins s σ H R I q => q.elim (h.run pins s σ H R I) (h'.run pins s σ H R I)⟩
/-! ### sets of numbers: in rising order, of a list, by a block -/
section
variable {P : Program} {w : World} {A : Around} {E : Value → Shared → Prop} {s : Shared}
theorem rise_set {a : Addr} {S : Int → Bool} {n : Nat} {Q : Value → Shared → Prop} (there : SetR w s.heap a S n) (free : A.handled = none)
    (then_ : ∀ (s' : Shared) (p : Addr) (out : Array Value) (c : Nat) (ns : List Int), (∀ b o, s.heap.get? b = some o → s'.heap.get? b = some o) → s'.gens = s.gens → s'.os = s.os → s.heap.objs.size ≤ p →
      s'.heap.get? p = some (seqObj "list" out c) → IntsAre out.toList ns → ns.Pairwise (· < ·) → (∀ k, k ∈ ns ↔ S k = true) → ns.length = n → n < scanBound → Q (.ref p) s') :
    wpAny (model P w) A (call (.builtin "sorted") [.ref a]) Q E s := by
  obtain ⟨ob, es, ep, tb, hob, hex, hdat, good, nodup, mem, small, fits, size, ris, led⟩ := there
  have big : n ≤ sizeLine := by rw [← size]; exact fits_of_scanBound small
  refine Calls.call_function_entry kind_sorted plain_sorted entry_sorted (args_sorted1 _) ?_
  unfold Builtin.«sorted»
  refine wpAny_bind (m := checkCount "sorted" 1 1 _) (wpAny_pure (wpAny_bind (collect_set (A := A.in1) free ⟨ob, hob, hex.1, hdat⟩ fits small ris led fun s1 vs k1 z1 g1 o1 pm => ?_)))
  have many : vs.length = n := by rw [pm.length_eq, List.length_map, Array.length_toList, size]
  have nums : IntsAre vs (vs.map Builtin.Re.reRawOf) := ints_of vs fun v hv => by
    obtain ⟨e, he, ev⟩ := List.mem_map.mp (pm.mem_iff.mp hv)
    obtain ⟨k, tk, ek, _⟩ := good e he
    exact ⟨k, tk, ev.symm.trans ek⟩
  have same : (vs.map Builtin.Re.reRawOf).Perm (es.toList.map keyOf) := by
    have := pm.map Builtin.Re.reRawOf
    rw [List.map_map] at this
    exact this
  refine wpAny_bind (wpAny_newList ?_ (by rw [many]; exact big))
  have laid : (s1.heap.push (seqObj "list" vs.toArray 0)).get? s1.heap.objs.size = some (seqObj "list" vs.toArray 0) := Heap.get?_push_size _ rfl
  refine wpAny_bind (wpAny_holding (wpAny_call_entry slot_list_sort ⟨_, laid, rfl⟩ entry_list_sort (list_sort_treeAny laid nums (by rw [many]; exact big) fun out ns' x1 x2 x3 => ⟨_, rfl, ?_⟩) (args_list_sort _)))
  obtain ⟨c, hc⟩ := sortedHeap_at (vs := vs) (out := out) laid
  have pn := x2.trans same
  refine wpAny_pure ⟨_, rfl, then_ _ s1.heap.objs.size out c ns' (fun b u e => ?_) g1 o1 z1 hc x1 (lt_of_le_nodup ns' x3 (pn.nodup_iff.mpr nodup)) (fun k => by rw [pn.mem_iff, mem k]) (by rw [pn.length_eq, List.length_map, Array.length_toList, size]) (by rw [← size]; exact small)⟩
  have old := k1 b u e
  have below := Heap.lt_size old
  show (sortedHeap (s1.heap.push (seqObj "list" vs.toArray 0)) s1.heap.objs.size vs out).get? b = some u
  rw [sortedHeap_old (Nat.ne_of_lt below) (by rw [size_push']; exact Nat.lt_succ_of_lt below)]
  exact Heap.get?_push_of_some _ old
end
section
variable {X : Cx}
def rSortedSN (w : World) : List V → Hp → VK → Prop := fun vs H Q => ∃ (a : Addr) (S : Int → Bool) (n : Nat), vs = [V.ref a] ∧ H a = some (SetO w a S n) ∧
  ∀ (ns : List Int) (p : Addr), ns.Pairwise (· < ·) → (∀ k : Int, k ∈ ns ↔ S k = true) → ns.length = n → H p = none → Q (.ref p) (upd H p (.lst (ns.map V.int)))
theorem cr_sortedSN (calm : X.calm = true) : CallR X (.builtin "sorted") (rSortedSN X.w) := fun pins s σ H vs us Q I r h => by
  obtain ⟨a, S, n, rfl, ha, q⟩ := h
  rw [Vals.ref1 r]
  refine rise_set (setO_get I ha) (I.ok.hd calm) fun s' p out c ns k g o hp hg hi hs hm hl hsm => ?_
  have fit : (ns.map V.int).length ≤ sizeLine := by rw [List.length_map, hl]; exact fits_of_scanBound hsm
  have new : H p = none := I.hok.fresh hp
  have J : Inv X pins σ (upd H p (.lst (ns.map V.int))) { s with heap := s'.heap, gens := s'.gens, drawn := s'.drawn, toks := s'.toks } :=
    I.call (ch := []) (Un.laid k hp new) (I.hok.laid k hp ⟨fit, out.toList, c, vals_of_ints hi, hg⟩) (by rw [g]; exact I.bare) (fun _ z => nomatch z)
  have whole : s' = { s with heap := s'.heap, gens := s'.gens, drawn := s'.drawn, toks := s'.toks } := by
    cases s'
    cases s
    cases o
    rfl
  rw [whole]
  exact ⟨.ref p, _, J, rfl, q ns p hs hm hl new⟩
/-- one number more -/
theorem add_num {pins : List (Addr × Obj)} {σ : L2.St} {H : Hp} {s : Shared} {E : Value → Shared → Prop} {D : Addr} {S : Int → Bool} {n : Nat} {y : Int} {tk : Tok} {Q : Value → Shared → Prop} (I : Inv X pins σ H s) (hD : H D = some (SetO X.w D S n)) (room : n + 1 < scanBound)
    (h : ∀ s', Inv X pins σ (upd H D (SetO X.w D (fun j => S j || decide (j = y)) (if S y = true then n else n + 1))) s' → Q .none s') : wpAny (model X.prog X.w) X.A (call (.builtin "set.add") [.ref D, .int y tk]) Q E s := by
  refine setR_add (setO_get I hD) room fun h' but new => h _ ?_
  obtain ⟨o, es, ep, tb, ho, rest⟩ := id new
  exact I.write (e := D) (t' := s.toks + 1) (by rw [hD]; trivial) (.inl rfl) (fun b u hb hu => (but.2 b hb).trans hu) ⟨o, ho⟩ (setO_new new)
/-- {elt for target in iter if ..}, elt a number; D the new set -/
def tScI (w : World) (wi : TI) (g : TG) (tt : TT) (te : TE) (vs : List Nat) : TE := fun σ H Q => wi σ H fun J G => ∀ D, G D = none → ∃ W : Nat → Nat → Hp → Prop, (∃ m, W 0 m (upd G D (SetO w D (fun _ => false) 0))) ∧ ∀ i m H, W i m H →
  (J.stop i H ∧ Q (.ref D) H) ∨ (J.go i H ∧ ∃ Nx : Hp → Prop, (∀ H', Nx H' → ∃ m', m' < m ∧ W (i + 1) m' H') ∧ ∀ x H', J.yld i H x H' → g x (wipe σ vs) H' fun σ2 H2 => wipe σ2 vs = wipe σ vs ∧ tt σ2 H2 fun b H3 =>
    if b = true then te σ2 H3 fun y H4 => ∃ (c : Int) (S : Int → Bool) (n : Nat), y = .int c ∧ H4 D = some (SetO w D S n) ∧ n + 1 < scanBound ∧ Nx (upd H4 D (SetO w D (fun j => S j || decide (j = c)) (if S c = true then n else n + 1))) else Nx H3)
abbrev emptyS (w : World) : Obj := { cls := .type "set", dict := none, data := .set #[] 0 (.fresh 0 0 (!w.params.followText "set-order")) }
theorem pe_scI {elt tg iter : Expr} {ifs : List Expr} {scope : Scope} {own : List (PySem.Str × Nat)} {pos : Pos} {wi : TI} {g : TG} {tt : TT} {te : TE} (calm : X.calm = true) (nd : X.N.Nodup) (walk : PI X tg iter wi) (ok : BlkOk X.N X.env.scope scope own)
    (hg : ∀ (s : Shared) (H : Hp) (C : Addr) (cl : List (PySem.Str × Addr)) (fp : List Addr), PG (X.blk s H scope (compEnvC scope cl C X.env) fp) tg g)
    (ht : ∀ (s : Shared) (H : Hp) (C : Addr) (cl : List (PySem.Str × Addr)) (fp : List Addr), PTs (X.blk s H scope (compEnvC scope cl C X.env) fp) ifs tt)
    (he : ∀ (s : Shared) (H : Hp) (C : Addr) (cl : List (PySem.Str × Addr)) (fp : List Addr), PE (X.blk s H scope (compEnvC scope cl C X.env) fp) elt te)
    (fold : ∀ x, foldedSetIterable iter X.env x = pure x := by intro _; rfl) :
    PE X (.SetComp elt [⟨tg, iter, ifs, 0⟩] scope pos) (tScI X.w wi g tt te (own.map (·.2))) := by
  refine ⟨fun pins s σ H Q I h => ?_⟩
  rw [PpSet.eval_SetComp]
  have captured : ∀ y ∈ scope.names, y.2 = .free → ∃ c, X.env.cells.lookup y.1 = some c := fun y hy e => (ok.free y hy e).elim (fun k => I.ok.has _ (.inl k)) (fun k => I.ok.has _ (.inr k))
  refine wpAny_comprehension_free (use := none) rfl fold (closure_ok captured) ok.kind (fun y hy e => by rw [ok.uniq y hy, e]) (thn (walk.run pins s σ H _ I h) fun xv s1 hx => thn hx fun itv s2 h2 => ?_)
  obtain ⟨it, fp, tn, J, H2, rfl, I2, T, st2, f2, q⟩ := h2
  refine PpSet.newSet_ok (newEnv_comp ?_)
  generalize atD : s2.heap.objs.size = D
  have freshD : H2 D = none := I2.hok.fresh (Nat.le_of_eq atD)
  obtain ⟨W, ⟨m0, w0⟩, turn⟩ := q D freshD
  generalize at3 : ({ s2 with heap := s2.heap.push (emptyS X.w) } : Shared) = s3
  have heap3 : s3.heap = s2.heap.push (emptyS X.w) := by rw [← at3]
  have I3 : Inv X pins σ (upd H2 D (SetO X.w D (fun _ => false) 0)) s3 := by
    rw [← at3]
    refine I2.laid (t' := s2.toks) (fun b o e => Heap.get?_push_of_some _ e) (Nat.le_of_eq atD) (setO_new ?_)
    rw [← atD]
    exact setR_fresh X.w
  have low : ∀ b ∈ fp, b < s2.heap.objs.size := fun b hb => by
    obtain ⟨o, e, _⟩ := T.obj _ _ st2 b hb
    exact Heap.lt_size e
  have f3 : ∀ b ∈ fp, FpOk X pins (upd H2 D (SetO X.w D (fun _ => false) 0)) b ∧ b < s3.heap.objs.size := fun b hb => by
    have lt := low b hb
    refine ⟨⟨?_, (f2 b hb).2⟩, by rw [heap3, Heap.size_push]; exact Nat.lt_succ_of_lt lt⟩
    rw [upd_ne (by rw [← atD]; exact Nat.ne_of_lt lt)]
    exact (f2 b hb).1
  have st3 : tn 0 s3.heap := T.keep _ _ _ st2 fun b _ o e => by rw [heap3]; exact Heap.get?_push_of_some _ e
  have I4 := block_start I3 ok nd f3
  generalize cells : cellsFrom (s3.heap.objs.size + 1) scope.names (cloFrom X.env.cells scope.names []) = cl at I4 ⊢
  have pg := hg s3 (upd H2 D (SetO X.w D (fun _ => false) 0)) s3.heap.objs.size cl fp
  have pt := ht s3 (upd H2 D (SetO X.w D (fun _ => false) 0)) s3.heap.objs.size cl fp
  have pe := he s3 (upd H2 D (SetO X.w D (fun _ => false) 0)) s3.heap.objs.size cl fp
  have none3 : ∀ b ∈ fp, (upd H2 D (SetO X.w D (fun _ => false) 0)) b = none := fun b hb => (f3 b hb).1.1
  show codeAny _ _ (.compStart (.SetComp elt [⟨tg, iter, ifs, 0⟩] scope pos) 0 (.ref it) (.ref D) (compEnvC scope cl s3.heap.objs.size X.env)) (compPost (model X.prog X.w) X.A X.xe none _ (.ref D) s3.heap.objs.size) { s3 with heap := pushCells (s3.heap.push { cls := .type "dict", data := .dict #[] }) scope.names }
  generalize inner : compEnvC scope cl s3.heap.objs.size X.env = ce at I4 pg pt pe ⊢
  have cL : ce.locals = s3.heap.objs.size := by rw [← inner]; rfl
  generalize upd H2 D (SetO X.w D (fun _ => false) 0) = H3 at I3 I4 pg pt pe w0 none3 f3
  generalize at4 : ({ s3 with heap := pushCells (s3.heap.push { cls := .type "dict", data := .dict #[] }) scope.names } : Shared) = s4 at I4 ⊢
  have st4 : tn 0 s4.heap := T.keep _ _ _ st3 fun b _ o e => by rw [← at4]; exact pushCells_keeps _ _ _ _ (Heap.get?_push_of_some _ e)
  have still : ∀ {σ' : L2.St} {H' : Hp} {s' : Shared}, Inv (X.blk s3 H3 scope ce fp) [] σ' H' s' → (∀ b ∈ fp, H' b = none) → ∀ b ∈ fp, FpOk (X.blk s3 H3 scope ce fp) [] H' b := fun {σ' H' s'} I' hn b hb =>
    ⟨hn b hb, (I'.ok.exf b hb).1, I'.ok.exfs b hb, .inl hb, fun x c e => (I'.ok.exf b hb).2 x c e, fun p hp => absurd (show p ∈ ([] : List (Addr × Obj)) ++ [] from hp) (by simp)⟩
  have loop : codeAny (model X.prog X.w) X.A (.compLoop (.SetComp elt [⟨tg, iter, ifs, 0⟩] scope pos) 0 (.ref it) (.ref D) ce) (compPost (model X.prog X.w) X.A X.xe none (fun u s' => ∃ v H', Inv X pins σ H' s' ∧ RelV v u ∧ Q v H') (.ref D) s3.heap.objs.size) s4 := by
    refine PpSet.compLoopS_any (fun n s' => ∃ i H', Inv (X.blk s3 H3 scope ce fp) [] (wipe σ (own.map (·.2))) H' s' ∧ tn i s'.heap ∧ (∀ b ∈ fp, H' b = none) ∧ W i n H') (fun n s5 now => ?_) m0 ⟨0, H3, I4, st4, none3, w0⟩
    obtain ⟨i, H5, I5, st5, n5, w5⟩ := now
    rcases turn i n H5 w5 with ⟨stop, fin⟩ | ⟨go, Nx, less, step⟩
    · refine thnF (T.done (X.blk s3 H3 scope ce fp) rfl rfl rfl calm i [] s5 _ H5 (fun _ _ => False) I5 (still I5 n5) st5 stop) fun r s6 ⟨er, I6⟩ => ?_
      subst er
      have I7 : Inv X pins σ H5 s6 := I3.call' (ch := fp) I6.os I6.base I6.hok I6.bare fun b hb => ⟨(f3 b hb).1.2.2.2.1, (f3 b hb).1.2.1, (f3 b hb).1.2.2.2.2.1, (f3 b hb).1.2.2.2.2.2⟩
      have gone : H5 s3.heap.objs.size = none := by
        have z : H5 ce.locals = none := I6.free
        rwa [cL] at z
      obtain ⟨m, hn, _⟩ := I6.loc
      have hn : s6.heap.Ns ce.locals m := hn
      rw [cL] at hn
      obtain ⟨f0, f1, f2', f3', f4, f5⟩ := I3.fpOk (Nat.le_refl _) gone
      exact ⟨m, hn, fun h'' sb => ⟨.ref D, H5, I7.turned (t' := s6.toks) (fun b o hb e => (sb.2 b hb).trans e) f0 f1 f3' f4 f5, rfl, fin⟩⟩
    · refine thnF (T.item (X.blk s3 H3 scope ce fp) rfl rfl rfl calm i [] s5 _ H5 (fun _ _ => False) I5 (still I5 n5) st5 go) fun r s6 ⟨u, er, h6⟩ => ?_
      subst er
      refine thnF h6 fun _ s7 ⟨x, H7, I7, r7, y7, st7, n7⟩ => ?_
      refine thnF (pg.run _ s7 _ H7 x u _ (I7.pinned (still I7 n7) (T.obj _ _ st7)) r7 (step x H7 y7)) fun _ s8 ⟨σ8, H8, I8, hw8, q8⟩ => ?_
      refine thnF (pt.run _ s8 σ8 H8 _ I8 q8) fun b s9 ⟨H9, I9, q9⟩ => ?_
      have close : ∀ {s' : Shared} {H' : Hp}, Inv (X.blk s3 H3 scope ce fp) ([] ++ pinsAt fp s7.heap) σ8 H' s' → Nx H' → ∃ m, m < n ∧ ∃ i H', Inv (X.blk s3 H3 scope ce fp) [] (wipe σ (own.map (·.2))) H' s' ∧ tn i s'.heap ∧ (∀ b ∈ fp, H' b = none) ∧ W i m H' := fun {s' H'} I' nx => by
        obtain ⟨m', lt, w'⟩ := less H' nx
        have pinned : ∀ b ∈ fp, ∀ o, s7.heap.get? b = some o → s'.heap.get? b = some o ∧ H' b = none := fun b hb o e =>
          let z := I'.pin (b, o) (List.mem_append_right _ (List.mem_append_right _ (mem_pinsAt hb e)))
          ⟨z.1, z.2.1⟩
        refine ⟨m', lt, i + 1, H', (I'.unpinned (pins := [])).weak (by rw [← hw8, wipe_length]) (fun j v e => ?_), T.keep _ _ _ st7 fun b hb o e => (pinned b hb o e).1, fun b hb => ?_, w'⟩
        · rw [← hw8] at e
          exact (wipe_some e).1
        · obtain ⟨o, e, _⟩ := T.obj _ _ st7 b hb
          exact (pinned b hb o e).2
      cases b with
      | false =>
        simp only [Bool.false_eq_true, if_false] at q9 ⊢
        exact close I9 q9
      | true =>
        simp only [if_true] at q9 ⊢
        refine thnF (pe.run _ s9 σ8 H9 _ I9 q9) fun z s10 ⟨yv, H10, I10, r10, c, S0, n0, ey, hD10, hz10, nx⟩ => ?_
        subst ey
        obtain ⟨tk, rfl⟩ := r10
        exact add_num (X := X.blk s3 H3 scope ce fp) I10 hD10 hz10 fun s11 I11 => close I11 nx
  exact PpSet.codeAny_compStart_set loop (T.self X.A 0 _ _ _ st4 loop)
end
/-! set(xs), xs a list of numbers -/
section
variable {P : Program} {w : World} {A : Around} {E : Value → Shared → Prop} {s : Shared}
set_option maxHeartbeats 6000000 in
theorem set_of_list {l : Addr} {items : Array Value} {ns : List Int} {Q : Value → Shared → Prop} (free : A.handled = none) (list : s.heap.IsList l items) (nums : IntsAre items.toList ns) (room : ns.length + 1 < scanBound)
    (then_ : ∀ (h' : Heap) (tk c : Nat), SetR w h' s.heap.objs.size (fun j => decide (j ∈ ns)) c → c ≤ ns.length → (∀ b o, s.heap.get? b = some o → h'.get? b = some o) → Q (.ref s.heap.objs.size) { s with heap := h', toks := tk }) :
    wpAny (model P w) A (call (.type "set") [.ref l]) Q E s := by
  have many : items.size = ns.length := by
    have := IntsAre.length nums
    rwa [Array.length_toList] at this
  obtain ⟨first, rest, mro⟩ := F.called_set.mro
  have made := F.called_set.made
  have sub := F.called_set.sub
  have notT := F.called_set.notType
  have can := F.called_set.canCreate
  have one := F.typeCall_set_1 (.ref l)
  refine wpAny_call (codeAny_of_tree ?_)
  show wpAny _ _ (callAny (.type "set") _) _ _ _
  refine wpAny_pure ⟨Code.quiet_builtin _ (by decide +kernel), codeAny_builtin F.entry_type_call ?_⟩
  rw [Around.under_plain (weight_type_call_type "set" [.ref l] []) rfl]
  repeat (any_goals (first | assumption | wp_step))
  refine codeAny_mono (code_set_led1 (.ref l) (E := E) (Q₁ := fun v s1 => v = .ref s.heap.objs.size ∧ s1 = { s with heap := s.heap.push (emptyS w) }) ⟨rfl, rfl⟩) fun r s1 hr => ?_
  match r, hr with
  | .error e, hr => exact hr
  | .ok (.ret _), ⟨e1, e2⟩ =>
    subst e1 e2
    have stands : (s.heap.push (emptyS w)).get? s.heap.objs.size = some (emptyS w) := Heap.get?_push_size _ rfl
    have typed : Shared.TypeIs { s with heap := s.heap.push (emptyS w) } (.ref s.heap.objs.size) "set" := ⟨_, stands, rfl⟩
    have look := F.called_set.init.lookup
    have bound := F.called_set.init.bind (.ref s.heap.objs.size)
    repeat (any_goals (first | assumption | wp_step))
    refine codeAny_mono (codeAny_call_builtin (R := wants (fun r s2 => r = .none ∧ ∃ h' tk c, s2 = { s with heap := h', toks := tk } ∧ SetR w h' s.heap.objs.size (fun j => decide (j ∈ ns)) c ∧ c ≤ ns.length ∧ (∀ b o, s.heap.get? b = some o → h'.get? b = some o)) E) F.called_set.init.plain F.entry_set_init (check_set_init_1 typed ?_)) fun r2 s2 hr2 => ?_
    · obtain ⟨⟨cl, dc, dt, sl⟩, at_, ecl, nl, edt⟩ := list
      simp only at ecl edt
      subst ecl edt
      have at2 : (s.heap.push (emptyS w)).get? l = some { cls := .type "list", dict := dc, data := .seq items nl, slots := sl } := Heap.get?_push_of_some _ at_
      have n1 := F.sub_list_set
      have n2 := F.sub_list_frozenset
      have n3 : (Value.type "list" == Value.type "dict") = false := by decide
      have list2 : (s.heap.push (emptyS w)).IsList l items := ⟨_, at2, rfl, nl, rfl⟩
      unfold Builtin.«set.__init__» noKeywords Builtin.Frozenset.updateFrom
      generalize iterAs : pyIter = PI
      wp_walk
      subst iterAs
      refine wpAny_pyIter_list list2 (wpAny_bind (wpAny_runValue ?_))
      have ll : l < s.heap.objs.size := Heap.lt_size at_
      have sz : (s.heap.push (emptyS w)).objs.size = s.heap.objs.size + 1 := Heap.size_push ..
      have free3 : A.in1.in1.in1.handled = none := by simp [free]
      have unlike : l ≠ (s.heap.push (emptyS w)).objs.size := by rw [sz]; exact Nat.ne_of_lt (Nat.lt_succ_of_lt ll)
      have out : s.heap.objs.size ∉ [(s.heap.push (emptyS w)).objs.size, l] := by
        rw [sz]
        simp only [List.mem_cons, List.mem_singleton, List.not_mem_nil, or_false, not_or]
        exact ⟨Nat.ne_of_lt (Nat.lt_succ_self _), Nat.ne_of_gt ll⟩
      have vals : ∀ (i : Nat) (v : Value), items[i]? = some v → ∃ k t, ns[i]? = some k ∧ v = .int k t := fun i v hv => by
        have hi : i < ns.length := by rw [← many]; exact (Array.getElem?_eq_some_iff.mp hv).1
        obtain ⟨t, e⟩ := PyProof.Rows.IntsAre.int_at nums i v (by rw [Array.getElem?_toList]; exact hv)
        exact ⟨ns[i], t, List.getElem?_eq_getElem hi, by rw [e, List.getD_eq_getElem?_getD, List.getElem?_eq_getElem hi] <;> rfl⟩
      refine set_update_ints ((Walks.list free3 _ l unlike items).toS) s.heap.objs.size out ns many room vals (items.size - 0) 0 _ (by omega) (Nat.zero_le _) ⟨⟨_, Heap.get?_push_size _ rfl, rfl, rfl⟩, (list2.push _)⟩ ⟨0, Nat.le_refl 0, setR_new_at (Heap.get?_push_of_some _ stands)⟩ fun s' c' mv hc' hS' => ?_
      obtain ⟨h', g2, d', tk', os'⟩ := s'
      have eg : g2 = s.gens := mv.gens
      have ed : d' = s.drawn := mv.drawn
      have eo : os' = s.os := mv.os
      subst eg ed eo
      show wpAny _ _ _ _ _ _
      refine wpAny_pure ?_
      show wpAny _ _ (ret Value.none) _ _ _
      rw [many] at hc'
      refine wpAny_pure ⟨rfl, h', tk', c', rfl, hS', hc', fun b o e => ?_⟩
      have below : b < s.heap.objs.size := Heap.lt_size e
      refine mv.heap b o ?_ (Heap.get?_push_of_some _ (Heap.get?_push_of_some _ e))
      simp only [List.mem_cons, List.mem_singleton, List.not_mem_nil, or_false, not_or]
      exact ⟨Nat.ne_of_lt below, by rw [sz]; exact Nat.ne_of_lt (Nat.lt_succ_of_lt below)⟩
    · match r2, hr2 with
      | .error e, hr2 => exact hr2
      | .ok (.ret _), ⟨e1, h', tk, c', e2, hS', hc', hk'⟩ =>
        subst e1 e2
        repeat (any_goals (first | assumption | wp_step))
        exact then_ _ _ _ hS' hc' hk'
end
section
variable {X : Cx}
def rSetI (K : PySem.W.Frag) (w : World) : List V → Hp → VK → Prop := fun xs H Q => ∃ (l : Addr) (ns : List Int), xs = [.ref l] ∧ SqL K H l (ns.map V.int) ∧ ns.length < 4000 ∧ ∀ p c, H p = none → c ≤ ns.length → Q (.ref p) (upd H p (SetO w p (fun j => decide (j ∈ ns)) c))
theorem cr_setI (calm : X.calm = true) : CallR X (.type "set") (rSetI X.K X.w) := fun pins s σ H xs us Q I r h => by
  obtain ⟨l, ns, rfl, hs, small, q⟩ := h
  rw [Vals.ref1 r]
  obtain ⟨its, rv, hl, _⟩ := I.list hs
  refine set_of_list (I.ok.hd calm) hl.isList (ints_of_vals rv) (by unfold scanBound; omega) fun h' tk c new hc keep => ?_
  exact ⟨.ref _, upd H s.heap.objs.size (SetO X.w s.heap.objs.size (fun j => decide (j ∈ ns)) c), I.laid (t' := tk) keep (Nat.le_refl _) (setO_new new), rfl, q _ c (I.hok.fresh (Nat.le_refl _)) hc⟩
theorem kk_sortedSN (w : World) (calm : X.calm = true) (h : X.w = w := by rfl) : CallR X (.builtin "sorted") (rSortedSN w) := h ▸ cr_sortedSN calm
theorem kk_setI (K : PySem.W.Frag) (w : World) (calm : X.calm = true) (h1 : X.K = K := by rfl) (h2 : X.w = w := by rfl) : CallR X (.type "set") (rSetI K w) := by
  subst h1 h2
  exact cr_setI calm
end
/-! ### lists of tuples: the addresses beside what stands there -/
abbrev refs {α : Type} (L : List (Addr × α)) : List V := L.map fun q => V.ref q.1
def RowsAt {α : Type} (f : α → List V) (H : Hp) (L : List (Addr × α)) : Prop := ∀ q ∈ L, H q.1 = some (.tup (f q.2))
section
variable {α : Type} {f : α → List V} {H H' : Hp} {L M : List (Addr × α)} {K : PySem.W.Frag}
theorem RowsAt.same (h : RowsAt f H L) (e : Same H H') : RowsAt f H' L := fun q hq => e _ _ (h q hq)
theorem RowsAt.sub (h : RowsAt f H L) (e : ∀ q ∈ M, q ∈ L) : RowsAt f H M := fun q hq => h q (e q hq)
theorem RowsAt.but {b : Addr} {xs : List V} (h : RowsAt f H L) (hb : H b = some (.lst xs)) (t : But b H H') : RowsAt f H' L := fun q hq => t _ _ (ne_of (h q hq) hb (by intro z; cases z)) (h q hq)
theorem RowsAt.updL {D : Addr} {xs : List V} {o : HO} (h : RowsAt f H L) (hD : H D = some (.lst xs)) : RowsAt f (upd H D o) L := fun q hq => by
  rw [upd_ne (ne_of (h q hq) hD (by intro z; cases z))]
  exact h q hq
theorem RowsAt.snoc {q : Addr × α} (h : RowsAt f H L) (hq : H q.1 = some (.tup (f q.2))) : RowsAt f H (L ++ [q]) := fun x hx => by
  rcases List.mem_append.mp hx with y | y
  · exact h x y
  · rw [List.mem_singleton.mp y]
    exact hq
theorem RowsAt.nil : RowsAt f H ([] : List (Addr × α)) := fun _ h => (nomatch h)
theorem refs_at {i : Nat} {x : V} (h : (refs L)[i]? = some x) : ∃ q, L[i]? = some q ∧ x = .ref q.1 ∧ q ∈ L := by
  rw [List.getElem?_map] at h
  obtain ⟨q, hq, rfl⟩ := Option.map_eq_some_iff.mp h
  exact ⟨q, hq, rfl, List.mem_of_getElem? hq⟩
end
theorem refs_snoc {α : Type} (S : List (Addr × α)) (q : Addr × α) : refs (S ++ [q]) = refs S ++ [V.ref q.1] := by
  unfold refs
  rw [List.map_append]
  rfl
/-! what walks a list or a tuple that stands still -/
def JOk (H : Hp) (J : It) (xs : List V) : Prop := ∀ i G, Same H G → (i < xs.length → J.go i G) ∧ (i = xs.length → J.stop i G) ∧ ∀ x G', J.yld i G x G' → G' = G ∧ xs[i]? = some x
section
variable {K : PySem.W.Frag} {H : Hp} {a : Addr} {xs : List V}
theorem jok_l (h : SqL K H a xs) : JOk H (Itl K a) xs := fun i G s => by
  have q := s.seq h
  exact ⟨fun c => ⟨xs, _, q, List.getElem?_eq_getElem c⟩, fun c => ⟨xs, q, by omega⟩, fun x G' y => ⟨y.1, y.2 xs q⟩⟩
theorem jok_t (h : SqT K H a xs) : JOk H (Itt K a) xs := fun i G s => by
  have q := seqT_same s h
  exact ⟨fun c => ⟨xs, _, q, List.getElem?_eq_getElem c⟩, fun c => ⟨xs, q, by omega⟩, fun x G' y => ⟨y.1, y.2 xs q⟩⟩
theorem walk_or {σ : L2.St} {j : Nat} {R : It → Hp → Prop} (hv : σ[j]? = some (some (.ref a))) (hS : SqL K H a xs ∨ SqT K H a xs) (h : ∀ J, JOk H J xs → R J H) : iList K (tVar j) σ H R ∨ iTup K (tVar j) σ H R := by
  rcases hS with hS | hS
  · exact .inl ⟨_, hv, a, rfl, ⟨_, hS⟩, h _ (jok_l hS)⟩
  · exact .inr ⟨_, hv, a, rfl, ⟨_, hS⟩, h _ (jok_t hS)⟩
theorem walk_l {σ : L2.St} {j : Nat} {R : It → Hp → Prop} (hv : σ[j]? = some (some (.ref a))) (hS : SqL K H a xs) (h : ∀ J, JOk H J xs → R J H) : iList K (tVar j) σ H R := ⟨_, hv, a, rfl, ⟨_, hS⟩, h _ (jok_l hS)⟩
end
section
variable {α : Type} {f : α → List V} {H : Hp} {L : List (Addr × α)} {J : It} {g : TG} {tt : TT} {te : TE} {vs : List Nat} {σ : L2.St} {D : Addr} {Qd : Hp → Prop}
theorem take_snoc {β : Type} {l : List β} {i : Nat} {x : β} (h : l[i]? = some x) : l.take (i + 1) = l.take i ++ [x] := by
  rw [List.take_add_one, h]
  rfl
theorem filt_snoc {β : Type} {p : β → Bool} {l : List β} {x : β} : (l ++ [x]).filter p = l.filter p ++ (if p x = true then [x] else []) := by
  rw [List.filter_append, List.filter_cons]
  rfl
/-- a block over rows that takes some thing of some rows -/
theorem rows_lc (p : α → Bool) (el : Addr × α → V) (ok : JOk H J (refs L)) (hR : RowsAt f H L) (small : L.length ≤ 1000) (hD : H D = none)
    (turn : ∀ q ∈ L, ∀ G, Same H G → G q.1 = some (.tup (f q.2)) → ∀ (Y : VK) (N : Hp → Prop), (p q.2 = true → Y (el q) G) → (p q.2 = false → N G) → g (.ref q.1) (wipe σ vs) G fun σ2 H2 => wipe σ2 vs = wipe σ vs ∧ tt σ2 H2 fun b H3 => if b = true then te σ2 H3 Y else N H3)
    (last : ∀ G, Same H G → G D = some (.lst ((L.filter fun q => p q.2).map el)) → Qd G) :
    ∃ W : Nat → Nat → Hp → Prop, (∃ m, W 0 m (upd H D (.lst []))) ∧ ∀ i m H, W i m H → (J.stop i H ∧ Qd H) ∨ (J.go i H ∧ ∃ Nx : Hp → Prop, (∀ H', Nx H' → ∃ m', m' < m ∧ W (i + 1) m' H') ∧ ∀ x H', J.yld i H x H' → g x (wipe σ vs) H' fun σ2 H2 => wipe σ2 vs = wipe σ vs ∧ tt σ2 H2 fun b H3 =>
      if b = true then te σ2 H3 fun y H4 => ∃ acc, H4 D = some (.lst acc) ∧ acc.length < sizeLine ∧ Nx (upd H4 D (.lst (acc ++ [y]))) else Nx H3) := by
  have ln : (refs L).length = L.length := List.length_map ..
  refine lc_gen (n := L.length) (fun i G => Same H G ∧ G D = some (.lst (((L.take i).filter fun q => p q.2).map el))) ⟨same_new hD, upd_same⟩ (fun i G h => ?_) (fun i G v G' hi h y => ?_) (fun G h => ?_)
  · have := ok i G h.1
    rw [ln] at this
    exact ⟨this.1, this.2.1⟩
  · obtain ⟨rfl, hx⟩ := (ok i G h.1).2.2 v G' y
    obtain ⟨q, hq, rfl, hm⟩ := refs_at hx
    have le : (((L.take i).filter fun q => p q.2).map el).length ≤ i := by
      rw [List.length_map]
      exact Nat.le_trans (List.length_filter_le _ _) (by rw [List.length_take]; omega)
    refine turn q hm G' h.1 (h.1 _ _ (hR q hm)) _ _ (fun hp => ⟨_, h.2, Nat.lt_of_le_of_lt le (small1000 (by omega)), fun c o e => ?_, ?_⟩) (fun hp => ⟨h.1, ?_⟩)
    · rw [upd_ne (ne_of_none e hD)]
      exact h.1 _ _ e
    · rw [upd_same, take_snoc hq, filt_snoc, if_pos hp, List.map_append]
      rfl
    · rw [h.2, take_snoc hq, filt_snoc, if_neg (by rw [hp]; decide), List.append_nil]
  · obtain ⟨s, e⟩ := h
    rw [List.take_of_length_le (Nat.le_refl _)] at e
    exact last G s e
/-- a block over rows that makes a new tuple of some rows -/
theorem rows_lcA {β : Type} {f2 : β → List V} (p : α → Bool) (el : α → β) (ok : JOk H J (refs L)) (hR : RowsAt f H L) (small : L.length ≤ 1000) (hD : H D = none)
    (turn : ∀ q ∈ L, ∀ G, Same H G → G q.1 = some (.tup (f q.2)) → ∀ (Y : VK) (N : Hp → Prop), (p q.2 = true → ∀ t, G t = none → Y (.ref t) (upd G t (.tup (f2 (el q.2))))) → (p q.2 = false → N G) → g (.ref q.1) (wipe σ vs) G fun σ2 H2 => wipe σ2 vs = wipe σ vs ∧ tt σ2 H2 fun b H3 => if b = true then te σ2 H3 Y else N H3)
    (last : ∀ G (S : List (Addr × β)), Same H G → G D = some (.lst (refs S)) → RowsAt f2 G S → S.map (·.2) = ((L.map (·.2)).filter p).map el → Qd G) :
    ∃ W : Nat → Nat → Hp → Prop, (∃ m, W 0 m (upd H D (.lst []))) ∧ ∀ i m H, W i m H → (J.stop i H ∧ Qd H) ∨ (J.go i H ∧ ∃ Nx : Hp → Prop, (∀ H', Nx H' → ∃ m', m' < m ∧ W (i + 1) m' H') ∧ ∀ x H', J.yld i H x H' → g x (wipe σ vs) H' fun σ2 H2 => wipe σ2 vs = wipe σ vs ∧ tt σ2 H2 fun b H3 =>
      if b = true then te σ2 H3 fun y H4 => ∃ acc, H4 D = some (.lst acc) ∧ acc.length < sizeLine ∧ Nx (upd H4 D (.lst (acc ++ [y]))) else Nx H3) := by
  have ln : (refs L).length = L.length := List.length_map ..
  refine lc_gen (n := L.length) (fun i G => Same H G ∧ ∃ S : List (Addr × β), G D = some (.lst (refs S)) ∧ RowsAt f2 G S ∧ S.map (·.2) = (((L.take i).map (·.2)).filter p).map el) ⟨same_new hD, [], upd_same, .nil, rfl⟩ (fun i G h => ?_) (fun i G v G' hi h y => ?_) (fun G h => ?_)
  · have := ok i G h.1
    rw [ln] at this
    exact ⟨this.1, this.2.1⟩
  · obtain ⟨s, S, e, hS, hm⟩ := h
    obtain ⟨rfl, hx⟩ := (ok i G s).2.2 v G' y
    obtain ⟨q, hq, rfl, hmem⟩ := refs_at hx
    have le : (refs S).length ≤ i := by
      rw [List.length_map, ← List.length_map (f := (·.2)) (as := S), hm, List.length_map]
      exact Nat.le_trans (List.length_filter_le _ _) (by rw [List.length_map, List.length_take]; omega)
    have e1 : ((L.take (i + 1)).map (·.2)) = (L.take i).map (·.2) ++ [q.2] := by
      rw [take_snoc hq, List.map_append]
      rfl
    refine turn q hmem G' s (s _ _ (hR q hmem)) _ _ (fun hp t ht => ⟨_, same_new ht _ _ e, Nat.lt_of_le_of_lt le (small1000 (by omega)), fun c o ec => ?_, S ++ [(t, el q.2)], ?_, ?_, ?_⟩) (fun hp => ⟨s, S, e, hS, ?_⟩)
    · rw [upd_ne (ne_of_none ec hD)]
      exact same_new ht _ _ (s _ _ ec)
    · rw [upd_same, refs_snoc]
    · refine ((hS.same (same_new ht)).updL (same_new ht _ _ e)).snoc ?_
      show (upd (upd G' t _) D _) t = _
      rw [upd_ne (fun z => by rw [z, e] at ht; cases ht), upd_same]
    · rw [List.map_append, hm, e1, filt_snoc, if_pos hp, List.map_append]
      rfl
    · rw [hm, e1, filt_snoc, if_neg (by rw [hp]; decide), List.append_nil]
  · obtain ⟨s, S, e, hS, hm⟩ := h
    rw [List.take_of_length_le (Nat.le_refl _)] at hm
    exact last G S s e hS hm
end
section
variable {α : Type} {f : α → List V} {H : Hp} {L : List (Addr × α)} {J : It} {g : TG} {tt : TT} {te : TE} {vs : List Nat} {σ : L2.St} {D : Addr} {Qd : Hp → Prop}
/-- a set by a block over rows -/
theorem rows_sc {w : World} (key : α → Int) (ok : JOk H J (refs L)) (hR : RowsAt f H L) (small : L.length ≤ 1000) (hD : H D = none)
    (turn : ∀ q ∈ L, ∀ G, Same H G → G q.1 = some (.tup (f q.2)) → ∀ (Y : VK) (N : Hp → Prop), Y (.int (key q.2)) G → g (.ref q.1) (wipe σ vs) G fun σ2 H2 => wipe σ2 vs = wipe σ vs ∧ tt σ2 H2 fun b H3 => if b = true then te σ2 H3 Y else N H3)
    (last : ∀ G n, Same H G → n ≤ L.length → G D = some (SetO w D (fun k => decide (k ∈ L.map fun q => key q.2)) n) → Qd G) :
    ∃ W : Nat → Nat → Hp → Prop, (∃ m, W 0 m (upd H D (SetO w D (fun _ => false) 0))) ∧ ∀ i m H, W i m H → (J.stop i H ∧ Qd H) ∨ (J.go i H ∧ ∃ Nx : Hp → Prop, (∀ H', Nx H' → ∃ m', m' < m ∧ W (i + 1) m' H') ∧ ∀ x H', J.yld i H x H' → g x (wipe σ vs) H' fun σ2 H2 => wipe σ2 vs = wipe σ vs ∧ tt σ2 H2 fun b H3 =>
      if b = true then te σ2 H3 fun y H4 => ∃ (c : Int) (S : Int → Bool) (n : Nat), y = .int c ∧ H4 D = some (SetO w D S n) ∧ n + 1 < scanBound ∧ Nx (upd H4 D (SetO w D (fun j => S j || decide (j = c)) (if S c = true then n else n + 1))) else Nx H3) := by
  have ln : (refs L).length = L.length := List.length_map ..
  refine ⟨fun i m G => m + i = L.length ∧ Same H G ∧ ∃ n, n ≤ i ∧ G D = some (SetO w D (fun k => decide (k ∈ (L.take i).map fun q => key q.2)) n), ⟨L.length, by omega, same_new hD, 0, Nat.le_refl _, ?_⟩, fun i m G now => ?_⟩
  · rw [upd_same]
    congr 2
  · obtain ⟨em, s, n, le, e⟩ := now
    obtain ⟨c1, c2, c3⟩ := ok i G s
    rw [ln] at c1 c2
    by_cases c : i < L.length
    · refine .inr ⟨c1 c, fun G' => Same H G' ∧ ∃ n, n ≤ i + 1 ∧ G' D = some (SetO w D (fun k => decide (k ∈ (L.take (i + 1)).map fun q => key q.2)) n), fun G' z => ⟨m - 1, by omega, by omega, z.1, z.2⟩, fun x G' y => ?_⟩
      obtain ⟨rfl, hx⟩ := c3 x G' y
      obtain ⟨q, hq, rfl, hmem⟩ := refs_at hx
      refine turn q hmem G' s (s _ _ (hR q hmem)) _ _ ⟨_, _, _, rfl, e, by unfold scanBound; omega, fun c o ec => ?_, (if decide (key q.2 ∈ (L.take i).map fun q => key q.2) = true then n else n + 1), ?_, ?_⟩
      · rw [upd_ne (ne_of_none ec hD)]
        exact s _ _ ec
      · split <;> omega
      · rw [upd_same]
        congr 2
        funext k
        rw [take_snoc hq, List.map_append, List.map_singleton]
        by_cases z : k = key q.2
        · simp [z]
        · simp [z]
    · have z : i = L.length := by omega
      rw [z, List.take_of_length_le (Nat.le_refl _)] at e
      exact .inl ⟨c2 z, last G n s (by omega) e⟩
end
/-! ### len(set(t)), t a tuple of numbers -/
section
variable {X : Cx}
theorem one_iff {l : List Int} (nd : l.Nodup) : l.length = 1 ↔ ∃ k, ∀ j, j ∈ l ↔ j = k := by
  constructor
  · intro h
    match l, h with
    | [k], _ => exact ⟨k, fun j => by simp⟩
  · rintro ⟨k, h⟩
    match l, nd, h with
    | [], _, h => exact absurd ((h k).mpr rfl) (by simp)
    | [_], _, _ => rfl
    | a :: b :: r, nd, h =>
      have e1 := (h a).mp (by simp)
      have e2 := (h b).mp (by simp)
      rw [List.nodup_cons] at nd
      exact absurd (show a ∈ b :: r by rw [e1, e2]; exact List.mem_cons_self) nd.1
def tLenSetT (K : PySem.W.Frag) (ta : TE) : TE := fun σ H Q => ta σ H fun x H1 => ∃ (l : Addr) (ns : List Int), x = .ref l ∧ SqT K H1 l (ns.map V.int) ∧ ns.length < 4000 ∧ ∀ c : Nat, (c = 1 ↔ ∃ k, ∀ j, j ∈ ns ↔ j = k) → Q (.int c) H1
theorem pe_lenSetT {a : Expr} {ta : TE} {p p2 q pos : Pos} (hg : Gl X "len") (hm : X.mg "len" = none) (hg2 : Gl X "set") (hm2 : X.mg "set" = none) (ha : PE X a ta) (hc : X.calm = true := by rfl)
    (na : starEach [a] X.env = (false, eval a X.env) :: starEach [] X.env := by rfl) : PE X (.Call (.Name "len" p) [.Call (.Name "set" p2) [a] [] q] [] pos) (tLenSetT X.K ta) := by
  refine ⟨fun pins s σ H Q I h => ?_⟩
  refine Call_ (ld_blt I hg hm boot_len ?_)
  refine PyProof.Rows.callWith_builtin1 (PyProof.Rows.args_cons ?_ rfl) rfl rfl
  refine Call_ (ld_blt I hg2 hm2 boot_set ?_)
  refine PyProof.Rows.callWith_type1 (PyProof.Rows.args_cons (thn (ha.run pins s σ H _ I h) fun v s1 ⟨x, H1, I1, r1, q1⟩ => PyProof.Rows.args_nil ?_) na) na rfl
  obtain ⟨l, ns, rfl, hq, hl, q1⟩ := q1
  cases r1
  obtain ⟨its, r, pl, hz⟩ := I1.tuple hq
  refine call_set_tupI ns (I1.ok.hd hc) pl (by simpa using intsAre_of r) (by unfold scanBound; omega) fun h' tk c hS hcn hk => ?_
  refine PyProof.Rows.args_nil ?_
  obtain ⟨o, es, ep, t, ho, hex, hd, _, nd, hmem, _, hf, hn, _⟩ := hS
  have I2 : Inv X pins σ H1 { s1 with heap := h', toks := tk } := I1.kept fun b o e => hk b o e
  have e1 := one_iff nd
  rw [List.length_map, Array.length_toList, hn] at e1
  refine call_len_set ho hex hd hf (by rw [hn]; omega) ⟨.int c, H1, I2.tok _, ⟨_, by rw [hn]⟩, q1 c (e1.trans ?_)⟩
  constructor
  · rintro ⟨k, hk⟩
    exact ⟨k, fun j => by rw [← hk j, ← hmem j, decide_eq_true_eq]⟩
  · rintro ⟨k, hk⟩
    exact ⟨k, fun j => by rw [← hk j, ← hmem j, decide_eq_true_eq]⟩
end
section
variable {H : Hp} {xs : List V} {J : It} {g : TG} {tt : TT} {te : TE} {vs : List Nat} {σ : L2.St} {D : Addr} {Qd : Hp → Prop}
/-- a block over the items of a list or a tuple, one item made of each -/
theorem vals_lc (el : V → V) (ok : JOk H J xs) (small : xs.length ≤ 1000) (hD : H D = none)
    (turn : ∀ x ∈ xs, ∀ G, Same H G → ∀ (Y : VK) (N : Hp → Prop), (∀ G', Same G G' → Y (el x) G') → g x (wipe σ vs) G fun σ2 H2 => wipe σ2 vs = wipe σ vs ∧ tt σ2 H2 fun b H3 => if b = true then te σ2 H3 Y else N H3)
    (last : ∀ G, Same H G → G D = some (.lst (xs.map el)) → Qd G) :
    ∃ W : Nat → Nat → Hp → Prop, (∃ m, W 0 m (upd H D (.lst []))) ∧ ∀ i m H, W i m H → (J.stop i H ∧ Qd H) ∨ (J.go i H ∧ ∃ Nx : Hp → Prop, (∀ H', Nx H' → ∃ m', m' < m ∧ W (i + 1) m' H') ∧ ∀ x H', J.yld i H x H' → g x (wipe σ vs) H' fun σ2 H2 => wipe σ2 vs = wipe σ vs ∧ tt σ2 H2 fun b H3 =>
      if b = true then te σ2 H3 fun y H4 => ∃ acc, H4 D = some (.lst acc) ∧ acc.length < sizeLine ∧ Nx (upd H4 D (.lst (acc ++ [y]))) else Nx H3) := by
  refine lc_gen (n := xs.length) (fun i G => Same H G ∧ G D = some (.lst ((xs.take i).map el))) ⟨same_new hD, upd_same⟩ (fun i G h => ⟨(ok i G h.1).1, (ok i G h.1).2.1⟩) (fun i G v G' hi h y => ?_) (fun G h => ?_)
  · obtain ⟨rfl, hx⟩ := (ok i G h.1).2.2 v G' y
    refine turn v (List.mem_of_getElem? hx) G' h.1 _ _ fun G2 s2 => ⟨_, s2 _ _ h.2, ?_, fun c o e => ?_, ?_⟩
    · rw [List.length_map, List.length_take]
      exact small1000 (by omega)
    · rw [upd_ne (ne_of_none e hD)]
      exact s2 _ _ (h.1 _ _ e)
    · rw [upd_same, take_snoc hx, List.map_append]
      rfl
  · obtain ⟨s, e⟩ := h
    rw [List.take_of_length_le (Nat.le_refl _)] at e
    exact last G s e
/-- a block over the items of a list or a tuple, those that pass kept -/
theorem pass_lc (p : V → Bool) (ok : JOk H J xs) (small : xs.length ≤ 1000) (hD : H D = none)
    (turn : ∀ x ∈ xs, ∀ G, Same H G → ∀ (Y : VK) (N : Hp → Prop), (p x = true → ∀ G', Same G G' → Y x G') → (p x = false → ∀ G', Same G G' → N G') → g x (wipe σ vs) G fun σ2 H2 => wipe σ2 vs = wipe σ vs ∧ tt σ2 H2 fun b H3 => if b = true then te σ2 H3 Y else N H3)
    (last : ∀ G, Same H G → G D = some (.lst (xs.filter p)) → Qd G) :
    ∃ W : Nat → Nat → Hp → Prop, (∃ m, W 0 m (upd H D (.lst []))) ∧ ∀ i m H, W i m H → (J.stop i H ∧ Qd H) ∨ (J.go i H ∧ ∃ Nx : Hp → Prop, (∀ H', Nx H' → ∃ m', m' < m ∧ W (i + 1) m' H') ∧ ∀ x H', J.yld i H x H' → g x (wipe σ vs) H' fun σ2 H2 => wipe σ2 vs = wipe σ vs ∧ tt σ2 H2 fun b H3 =>
      if b = true then te σ2 H3 fun y H4 => ∃ acc, H4 D = some (.lst acc) ∧ acc.length < sizeLine ∧ Nx (upd H4 D (.lst (acc ++ [y]))) else Nx H3) := by
  refine lc_gen (n := xs.length) (fun i G => Same H G ∧ G D = some (.lst ((xs.take i).filter p))) ⟨same_new hD, upd_same⟩ (fun i G h => ⟨(ok i G h.1).1, (ok i G h.1).2.1⟩) (fun i G v G' hi h y => ?_) (fun G h => ?_)
  · obtain ⟨rfl, hx⟩ := (ok i G h.1).2.2 v G' y
    have el : xs.take (i + 1) = xs.take i ++ [v] := take_snoc hx
    refine turn v (List.mem_of_getElem? hx) G' h.1 _ _ (fun hp G2 s2 => ⟨_, s2 _ _ h.2, ?_, fun c o e => ?_, ?_⟩) (fun hp G2 s2 => ⟨h.1.trans s2, ?_⟩)
    · have := List.length_filter_le p (xs.take i)
      rw [List.length_take] at this
      exact small1000 (by omega)
    · rw [upd_ne (ne_of_none e hD)]
      exact s2 _ _ (h.1 _ _ e)
    · rw [upd_same, el, List.filter_append, List.filter_cons_of_pos hp]
      rfl
    · rw [s2 _ _ h.2, el, List.filter_append, List.filter_cons_of_neg (by rw [hp]; decide)]
      simp
  · obtain ⟨s, e⟩ := h
    rw [List.take_of_length_le (Nat.le_refl _)] at e
    exact last G s e
end
/-! ### len(set(xs)), xs a list of texts -/
def Cnt {α : Type} (l : List α) (c : Nat) : Prop := (c = 0 ↔ l = []) ∧ (c = 1 ↔ ∃ k, ∀ j, j ∈ l ↔ j = k)
theorem cnt_nil {α : Type} : Cnt ([] : List α) 0 := ⟨by simp, by constructor
                                                                 · intro h
                                                                   cases h
                                                                 · rintro ⟨k, h⟩
                                                                   exact absurd ((h k).mpr rfl) (by simp)⟩
theorem cnt_snoc {α : Type} [DecidableEq α] {l : List α} {c : Nat} {x : α} (h : Cnt l c) : Cnt (l ++ [x]) (if x ∈ l then c else c + 1) := by
  by_cases m : x ∈ l
  · rw [if_pos m]
    have ne : l ≠ [] := fun e => by rw [e] at m; cases m
    refine ⟨⟨fun e => absurd (h.1.mp e) ne, fun e => absurd e (by simp)⟩, h.2.trans ?_⟩
    constructor
    · rintro ⟨k, hk⟩
      refine ⟨k, fun j => ?_⟩
      rw [List.mem_append, List.mem_singleton, hk j]
      have := (hk x).mp m
      constructor
      · rintro (e | e)
        · exact e
        · rw [e, this]
      · exact .inl
    · rintro ⟨k, hk⟩
      refine ⟨k, fun j => ?_⟩
      rw [← hk j, List.mem_append, List.mem_singleton]
      constructor
      · exact .inl
      · rintro (e | e)
        · exact e
        · rw [e]; exact m
  · rw [if_neg m]
    refine ⟨⟨fun e => by omega, fun e => absurd e (by simp)⟩, ?_⟩
    constructor
    · intro e
      have : l = [] := h.1.mp (by omega)
      rw [this]
      exact ⟨x, fun j => by simp⟩
    · rintro ⟨k, hk⟩
      have e1 := (hk x).mp (by simp)
      have : l = [] := by
        cases l with
        | nil => rfl
        | cons a r =>
          have e2 := (hk a).mp (by simp)
          exact absurd (show x ∈ a :: r by rw [e1, e2]; exact List.mem_cons_self) m
      have := h.1.mpr this
      omega
section
variable {P : Program} {w : World} {A : Around} {R : Result → Shared → Prop} {I : Addr} {fp wr : List Addr} {G : Array GenState → Array GenState → Prop} {n : Nat} {V' : Nat → Value → Prop} {St : Nat → Shared → Prop}
theorem grow_texts (W : WalksS P w A.in1 I fp wr G n V' St) (S : Addr) (out : S ∉ fp) (xs : List Str) (many : n = xs.length) (room : xs.length + 1 < scanBound) (vals : ∀ i v, V' i v → ∃ x t, xs[i]? = some x ∧ v = .str x t) :
    ∀ (k i : Nat) (s : Shared), n - i = k → i ≤ n → St i s → (∃ c, c ≤ i ∧ Cnt (xs.take i) c ∧ s.heap.SetOf (PySem.strKind P w) S (fun y => decide (y ∈ xs.take i)) c) →
      (∀ s' c, Moved (S :: wr) G s s' → Cnt xs c → s'.heap.SetOf (PySem.strKind P w) S (fun y => decide (y ∈ xs)) c → R (.ok (.ret .none)) s') →
      codeAny (model P w) A (.builtin "set.update.loop" ⟨[.ref S, .ref I], []⟩) R s := by
  have outw : S ∉ wr := fun z => out (W.sub _ z)
  have wide : ∀ b ∈ wr, b ∈ S :: wr := fun b hb => List.mem_cons_of_mem _ hb
  have kept : ∀ {s s' : Shared} {T : Str → Bool} {c : Nat}, Moved wr G s s' → s.heap.SetOf (PySem.strKind P w) S T c → s'.heap.SetOf (PySem.strKind P w) S T c := fun {s s' T c} mv h => by
    obtain ⟨o, es, ep, t, ho, rest⟩ := h
    exact ⟨o, es, ep, t, mv.heap S _ outw ho, rest⟩
  intro k
  induction k with
  | zero =>
    intro i s hk hi st now fin
    obtain ⟨c, _, hc, hS⟩ := now
    have e : xs.take i = xs := List.take_of_length_le (by omega)
    rw [e] at hc hS
    refine codeAny_builtin F.entry_set_update_loop ?_
    rw [Around.under_plainId F.plain_set_update_loop _]
    show wpAny _ A.in1 (pyNext (.ref I) >>= _) _ _ s
    have ei : i = n := by omega
    subst ei
    refine wpAny_bind (W.done s _ _ st fun s' mv => ?_)
    show wpAny _ A.in1 (ret Value.none) _ _ s'
    exact wpAny_pure (fin s' c (mv.mono wide) hc (kept mv hS))
  | succ k ih =>
    intro i s hk hi st now fin
    obtain ⟨c, ci, hc, hS⟩ := now
    have lt : i < n := by omega
    refine codeAny_builtin F.entry_set_update_loop ?_
    rw [Around.under_plainId F.plain_set_update_loop _]
    show wpAny _ A.in1 (pyNext (.ref I) >>= _) _ _ s
    refine wpAny_bind (W.item i s _ _ lt st fun v s' hP st' mv => ?_)
    obtain ⟨x, t, hx, rfl⟩ := vals i v hP
    have hS2 := kept mv hS
    show wpAny _ A.in1 (holding [Value.str x t] (setAdd S (.str x t)) >>= _) _ _ s'
    refine wpAny_bind (wpAny_holding ?_)
    unfold setAdd
    refine wpAny_holding (wpAny_bind ((PySem.strKind P w).pyHash (k := x) (strKind_is _ _ _ _) ?_))
    refine wpAny_setAddHashed_of (knd := PySem.strKind P w) (s := { s' with toks := s'.toks + 1 }) (strKind_is _ _ _ _) rfl hS2 (by omega) fun h' sb hS3 => ?_
    have et : xs.take (i + 1) = xs.take i ++ [x] := by rw [List.take_add_one, hx]; rfl
    have hc3 : Cnt (xs.take (i + 1)) (if decide (x ∈ xs.take i) = true then c else c + 1) := by
      rw [et]
      have := cnt_snoc (x := x) hc
      by_cases m : x ∈ xs.take i
      · rw [if_pos m] at this
        rw [if_pos (decide_eq_true m)]
        exact this
      · rw [if_neg m] at this
        rw [if_neg (by rw [decide_eq_false m]; decide)]
        exact this
    have hS4 : h'.SetOf (PySem.strKind P w) S (fun y => decide (y ∈ xs.take (i + 1))) (if decide (x ∈ xs.take i) = true then c else c + 1) := by
      refine PyProof.Rows.SetOf_congr hS3 (fun y => ?_) rfl
      rw [et]
      simp [List.mem_append, Bool.decide_or]
    refine wpAny_pure ⟨plainId_quiet F.plain_set_update_loop _, ih (i + 1) _ (by omega) lt (W.frame _ s' _ _ st' (Nat.le_succ _) fun b hb o e => ?_) ⟨_, by split <;> omega, hc3, hS4⟩ fun s2 c2 mv2 hc2 hS5 => ?_⟩
    · rw [sb.2 b (fun h : b = S => out (by rw [← h]; exact hb))]
      exact e
    · refine fin s2 c2 (Moved.trans W.gtrans ((mv.mono wide).then_heap (Nat.le_succ _) fun b o hb e => ?_) mv2) hc2 hS5
      rw [sb.2 b (fun h : b = S => hb (by rw [h]; exact List.mem_cons_self))]
      exact e
end
section
variable {P : Program} {w : World} {A : Around} {E : Value → Shared → Prop} {s : Shared}
set_option maxHeartbeats 6000000 in
theorem set_of_texts {l : Addr} {items : Array Value} {xs : List Str} {Q : Value → Shared → Prop} (free : A.handled = none) (list : s.heap.IsList l items) (nums : PyProof.Rows.StrsAre items.toList xs) (room : xs.length + 1 < scanBound)
    (then_ : ∀ (h' : Heap) (tk c : Nat), Cnt xs c → h'.SetOf (PySem.strKind P w) s.heap.objs.size (fun j => decide (j ∈ xs)) c → (∀ b o, s.heap.get? b = some o → h'.get? b = some o) → Q (.ref s.heap.objs.size) { s with heap := h', toks := tk }) :
    wpAny (model P w) A (call (.type "set") [.ref l]) Q E s := by
  have many : items.size = xs.length := by rw [← StrsAre.len_eq nums, Array.length_toList]
  obtain ⟨first, rest, mro⟩ := F.called_set.mro
  have made := F.called_set.made
  have sub := F.called_set.sub
  have notT := F.called_set.notType
  have can := F.called_set.canCreate
  have one := F.typeCall_set_1 (.ref l)
  refine wpAny_call (codeAny_of_tree ?_)
  show wpAny _ _ (callAny (.type "set") _) _ _ _
  refine wpAny_pure ⟨Code.quiet_builtin _ (by decide +kernel), codeAny_builtin F.entry_type_call ?_⟩
  rw [Around.under_plain (weight_type_call_type "set" [.ref l] []) rfl]
  repeat (any_goals (first | assumption | wp_step))
  refine codeAny_mono (code_set_led1 (.ref l) (E := E) (Q₁ := fun v s1 => v = .ref s.heap.objs.size ∧ s1 = { s with heap := s.heap.push (emptyS w) }) ⟨rfl, rfl⟩) fun r s1 hr => ?_
  match r, hr with
  | .error e, hr => exact hr
  | .ok (.ret _), ⟨e1, e2⟩ =>
    subst e1 e2
    have stands : (s.heap.push (emptyS w)).get? s.heap.objs.size = some (emptyS w) := Heap.get?_push_size _ rfl
    have typed : Shared.TypeIs { s with heap := s.heap.push (emptyS w) } (.ref s.heap.objs.size) "set" := ⟨_, stands, rfl⟩
    have look := F.called_set.init.lookup
    have bound := F.called_set.init.bind (.ref s.heap.objs.size)
    repeat (any_goals (first | assumption | wp_step))
    refine codeAny_mono (codeAny_call_builtin (R := wants (fun r s2 => r = .none ∧ ∃ h' tk c, s2 = { s with heap := h', toks := tk } ∧ Cnt xs c ∧ h'.SetOf (PySem.strKind P w) s.heap.objs.size (fun j => decide (j ∈ xs)) c ∧ (∀ b o, s.heap.get? b = some o → h'.get? b = some o)) E) F.called_set.init.plain F.entry_set_init (check_set_init_1 typed ?_)) fun r2 s2 hr2 => ?_
    · obtain ⟨⟨cl, dc, dt, sl⟩, at_, ecl, nl, edt⟩ := list
      simp only at ecl edt
      subst ecl edt
      have at2 : (s.heap.push (emptyS w)).get? l = some { cls := .type "list", dict := dc, data := .seq items nl, slots := sl } := Heap.get?_push_of_some _ at_
      have n1 := F.sub_list_set
      have n2 := F.sub_list_frozenset
      have n3 : (Value.type "list" == Value.type "dict") = false := by decide
      have list2 : (s.heap.push (emptyS w)).IsList l items := ⟨_, at2, rfl, nl, rfl⟩
      unfold Builtin.«set.__init__» noKeywords Builtin.Frozenset.updateFrom
      generalize iterAs : pyIter = PI
      wp_walk
      subst iterAs
      refine wpAny_pyIter_list list2 (wpAny_bind (wpAny_runValue ?_))
      have ll : l < s.heap.objs.size := Heap.lt_size at_
      have sz : (s.heap.push (emptyS w)).objs.size = s.heap.objs.size + 1 := Heap.size_push ..
      have free3 : A.in1.in1.in1.handled = none := by simp [free]
      have unlike : l ≠ (s.heap.push (emptyS w)).objs.size := by rw [sz]; exact Nat.ne_of_lt (Nat.lt_succ_of_lt ll)
      have out : s.heap.objs.size ∉ [(s.heap.push (emptyS w)).objs.size, l] := by
        rw [sz]
        simp only [List.mem_cons, List.mem_singleton, List.not_mem_nil, or_false, not_or]
        exact ⟨Nat.ne_of_lt (Nat.lt_succ_self _), Nat.ne_of_gt ll⟩
      have vals : ∀ (i : Nat) (v : Value), items[i]? = some v → ∃ x t, xs[i]? = some x ∧ v = .str x t := fun i v hv => by
        have hi : i < xs.length := by rw [← many]; exact (Array.getElem?_eq_some_iff.mp hv).1
        obtain ⟨t, e⟩ := SS.strs_at nums i v (by rw [Array.getElem?_toList]; exact hv)
        exact ⟨xs[i], t, List.getElem?_eq_getElem hi, by rw [e, List.getD_eq_getElem?_getD, List.getElem?_eq_getElem hi] <;> rfl⟩
      have fresh : ((s.heap.push (emptyS w)).push { cls := .type "list_iterator", data := .fields #[.ref l, .int 0 0] }).SetOf (PySem.strKind P w) s.heap.objs.size (fun y => decide (y ∈ xs.take 0)) 0 :=
        PyProof.Rows.SetOf_congr ((PyProof.Rows.setObjOf_fresh (knd := PySem.strKind P w) _).setOf (Heap.get?_push_of_some _ stands) (by unfold scanBound; omega)) (fun _ => rfl) rfl
      refine grow_texts ((Walks.list free3 _ l unlike items).toS) s.heap.objs.size out xs many room vals (items.size - 0) 0 _ (by omega) (Nat.zero_le _) ⟨⟨_, Heap.get?_push_size _ rfl, rfl, rfl⟩, (list2.push _)⟩ ⟨0, Nat.le_refl 0, cnt_nil, fresh⟩ fun s' c' mv hc' hS' => ?_
      obtain ⟨h', g2, d', tk', os'⟩ := s'
      have eg : g2 = s.gens := mv.gens
      have ed : d' = s.drawn := mv.drawn
      have eo : os' = s.os := mv.os
      subst eg ed eo
      show wpAny _ _ _ _ _ _
      refine wpAny_pure ?_
      show wpAny _ _ (ret Value.none) _ _ _
      refine wpAny_pure ⟨rfl, h', tk', c', rfl, hc', hS', fun b o e => ?_⟩
      have below : b < s.heap.objs.size := Heap.lt_size e
      refine mv.heap b o ?_ (Heap.get?_push_of_some _ (Heap.get?_push_of_some _ e))
      simp only [List.mem_cons, List.mem_singleton, List.not_mem_nil, or_false, not_or]
      exact ⟨Nat.ne_of_lt below, by rw [sz]; exact Nat.ne_of_lt (Nat.lt_succ_of_lt below)⟩
    · match r2, hr2 with
      | .error e, hr2 => exact hr2
      | .ok (.ret _), ⟨e1, h', tk, c', e2, hc', hS', hk'⟩ =>
        subst e1 e2
        repeat (any_goals (first | assumption | wp_step))
        exact then_ _ _ _ hc' hS' hk'
end
section
variable {X : Cx}
def tLenSetS (K : PySem.W.Frag) (ta : TE) : TE := fun σ H Q => ta σ H fun x H1 => ∃ (l : Addr) (xs : List Str), x = .ref l ∧ SqL K H1 l (xs.map V.str) ∧ xs.length < 4000 ∧ ∀ c : Nat, (c = 1 ↔ ∃ k, ∀ j, j ∈ xs ↔ j = k) → Q (.int c) H1
theorem pe_lenSetS {a : Expr} {ta : TE} {p p2 q pos : Pos} (hg : Gl X "len") (hm : X.mg "len" = none) (hg2 : Gl X "set") (hm2 : X.mg "set" = none) (ha : PE X a ta) (hc : X.calm = true := by rfl)
    (na : starEach [a] X.env = (false, eval a X.env) :: starEach [] X.env := by rfl) : PE X (.Call (.Name "len" p) [.Call (.Name "set" p2) [a] [] q] [] pos) (tLenSetS X.K ta) := by
  refine ⟨fun pins s σ H Q I h => ?_⟩
  refine Call_ (ld_blt I hg hm boot_len ?_)
  refine PyProof.Rows.callWith_builtin1 (PyProof.Rows.args_cons ?_ rfl) rfl rfl
  refine Call_ (ld_blt I hg2 hm2 boot_set ?_)
  refine PyProof.Rows.callWith_type1 (PyProof.Rows.args_cons (thn (ha.run pins s σ H _ I h) fun v s1 ⟨x, H1, I1, r1, q1⟩ => PyProof.Rows.args_nil ?_) na) na rfl
  obtain ⟨l, xs, rfl, hq, small, q1⟩ := q1
  cases r1
  obtain ⟨its, r, pl, hz⟩ := I1.list hq
  refine set_of_texts (I1.ok.hd hc) pl.isList (by simpa using strsAre_of r) (by unfold scanBound; omega) fun h' tk c cnt hS keep => ?_
  refine PyProof.Rows.args_nil ?_
  obtain ⟨o, es, ep, t, ho, hex, hd, _, _, hb, hf, hn⟩ := hS
  have I2 : Inv X pins σ H1 { s1 with heap := h', toks := tk } := I1.kept fun b o e => keep b o e
  have hs : es.size < 1000000 := by
    have : scanBound ≤ 1000000 := by decide
    omega
  exact call_len_set ho hex hd hf (by omega) ⟨.int c, H1, I2.tok _, ⟨_, by rw [hn]⟩, q1 c cnt.2⟩
end
/-! ### min of a list of numbers, None of none -/
theorem ints_hold {h : Heap} : ∀ {ns : List Int} {us : List Value}, Vals (ns.map V.int) us → PySem.W.HoldAll h us ns
  | [], _, .nil => PySem.W.HoldAll.nil
  | n :: r, _, .cons ⟨t, e⟩ rr => by
    rw [e]
    exact PySem.W.HoldAll.cons (PySem.W.holds_int n t) (ints_hold rr)
theorem minOf_mem (x : Int) : ∀ ys : List Int, PySem.W.minOf x ys ∈ x :: ys ∧ ∀ n ∈ x :: ys, PySem.W.minOf x ys ≤ n := fun ys => by
  induction ys generalizing x with
  | nil => exact ⟨List.mem_cons_self, fun n hn => by rw [List.mem_singleton.mp hn]; exact Int.le_refl _⟩
  | cons y r ih =>
    have e : PySem.W.minOf x (y :: r) = PySem.W.minOf (if PySem.W.DatumOrd.lt y x = true then y else x) r := rfl
    have hlt : PySem.W.DatumOrd.lt y x = decide (y < x) := rfl
    rw [e, hlt]
    by_cases c : y < x
    · rw [decide_eq_true c, if_pos rfl]
      obtain ⟨h1, h2⟩ := ih y
      refine ⟨List.mem_cons_of_mem _ h1, fun n hn => ?_⟩
      rcases List.mem_cons.mp hn with rfl | hn
      · have := h2 y List.mem_cons_self
        omega
      · exact h2 n hn
    · rw [decide_eq_false c, if_neg (by decide)]
      obtain ⟨h1, h2⟩ := ih x
      refine ⟨?_, fun n hn => ?_⟩
      · rcases List.mem_cons.mp h1 with h | h
        · rw [h]
          exact List.mem_cons_self
        · exact List.mem_cons_of_mem _ (List.mem_cons_of_mem _ h)
      · rcases List.mem_cons.mp hn with rfl | hn
        · exact h2 n List.mem_cons_self
        · rcases List.mem_cons.mp hn with rfl | hn
          · have := h2 x List.mem_cons_self
            omega
          · exact h2 n (List.mem_cons_of_mem _ hn)
def rMinD (K : PySem.W.Frag) : List V → List V → Hp → VK → Prop := fun xs zs H Q => ∃ (a : Addr) (ns : List Int), xs = [.ref a] ∧ zs = [.non] ∧ SqL K H a (ns.map V.int) ∧ (ns = [] → Q .non H) ∧ ∀ m, m ∈ ns → (∀ n ∈ ns, m ≤ n) → Q (.int m) H
theorem call_minD (K : PySem.W.Frag) {X : Cx} (hc : X.calm = true) (hu : X.A.units + 64 < cLine) (h : X.K = K := by rfl) : CallRK X (.builtin "min") ["default"] (rMinD K) := by
  subst h
  intro pins s σ H xs zs us ws Q I rx rz h
  obtain ⟨a, ns, rfl, rfl, hs, q0, q1⟩ := h
  obtain ⟨its, rv, hl, _⟩ := I.list hs
  rw [Vals.ref1 rx]
  cases rz with
  | cons e rr =>
    cases rr
    cases (show _ = Value.none from e)
    refine PySem.W.min_list_datum_default (I.ok.hd hc) hl.isList (ints_hold rv) (by show X.A.units + 1 + 0 < cLine; omega) (fun e h' tk hk => ⟨.non, H, I.kept hk, rfl, q0 e⟩) (fun y ys i v h' tk e hi hv hk => ?_)
    subst e
    obtain ⟨h1, h2⟩ := minOf_mem y ys
    obtain ⟨bs, r⟩ := hv
    have q2 := q1 _ h1 h2
    have e3 : PySem.W.Datum.toD (PySem.W.minOf y ys) = PyData.int (PySem.W.minOf y ys) := rfl
    rw [e3] at r
    generalize PySem.W.minOf y ys = m at r q2
    cases r
    exact ⟨.int m, H, I.kept hk, ⟨_, rfl⟩, q2⟩
/-! ### max of a tuple of numbers -/
theorem maxOf_mem (x : Int) : ∀ ys : List Int, PySem.W.maxOf x ys ∈ x :: ys ∧ ∀ n ∈ x :: ys, n ≤ PySem.W.maxOf x ys := fun ys => by
  induction ys generalizing x with
  | nil => exact ⟨List.mem_cons_self, fun n hn => by rw [List.mem_singleton.mp hn]; exact Int.le_refl _⟩
  | cons y r ih =>
    have e : PySem.W.maxOf x (y :: r) = PySem.W.maxOf (if PySem.W.DatumOrd.lt x y = true then y else x) r := rfl
    have hlt : PySem.W.DatumOrd.lt x y = decide (x < y) := rfl
    rw [e, hlt]
    by_cases c : x < y
    · rw [decide_eq_true c, if_pos rfl]
      obtain ⟨h1, h2⟩ := ih y
      refine ⟨List.mem_cons_of_mem _ h1, fun n hn => ?_⟩
      rcases List.mem_cons.mp hn with rfl | hn
      · have := h2 y List.mem_cons_self
        omega
      · exact h2 n hn
    · rw [decide_eq_false c, if_neg (by decide)]
      obtain ⟨h1, h2⟩ := ih x
      refine ⟨?_, fun n hn => ?_⟩
      · rcases List.mem_cons.mp h1 with h | h
        · rw [h]
          exact List.mem_cons_self
        · exact List.mem_cons_of_mem _ (List.mem_cons_of_mem _ h)
      · rcases List.mem_cons.mp hn with rfl | hn
        · exact h2 n List.mem_cons_self
        · rcases List.mem_cons.mp hn with rfl | hn
          · have := h2 x List.mem_cons_self
            omega
          · exact h2 n (List.mem_cons_of_mem _ hn)
def rMaxT (K : PySem.W.Frag) : List V → Hp → VK → Prop := fun xs H Q => ∃ (a : Addr) (n : Int) (ns : List Int), xs = [.ref a] ∧ SqT K H a ((n :: ns).map V.int) ∧ ∀ m, m ∈ n :: ns → (∀ k ∈ n :: ns, k ≤ m) → Q (.int m) H
theorem call_maxT (K : PySem.W.Frag) {X : Cx} (hc : X.calm = true) (hu : X.A.units + 64 < cLine) (h : X.K = K := by rfl) : CallR X (.builtin "max") (rMaxT K) := by
  subst h
  intro pins s σ H xs us Q I rx h
  obtain ⟨a, n, ns, rfl, hs, q1⟩ := h
  obtain ⟨its, rv, hl, _⟩ := I.tuple hs
  rw [Vals.ref1 rx]
  refine PySem.W.max_tuple_datum (x := n) (xs := ns) (I.ok.hd hc) hl (ints_hold rv) (by show X.A.units + 1 + 0 < cLine; omega) (fun i v h' tk hi hv hk => ?_)
  obtain ⟨h1, h2⟩ := maxOf_mem n ns
  obtain ⟨bs, r⟩ := hv
  have q2 := q1 _ h1 h2
  have e3 : PySem.W.Datum.toD (PySem.W.maxOf n ns) = PyData.int (PySem.W.maxOf n ns) := rfl
  rw [e3] at r
  generalize PySem.W.maxOf n ns = m at r q2
  cases r
  exact ⟨.int m, H, I.kept hk, ⟨_, rfl⟩, q2⟩
/-! ### == and != by a class's own __eq__, whatever it says; a list of such; repr, str and {x!s} by own defs -/
namespace OEQ
open PySem PySem.Spec PyProof.Rows L2 PySem.SeqAt
/-- what == and != ask of the class at C, whose __eq__ is at f -/
structure OEq (K : PySem.W.Frag) (C f : Addr) : Prop where
  at_ : PySem.W.findIn K (.ref C) "__eq__" = some (some (.ref f))
  fn : PySem.W.isFn K (.ref f) = true
  ne : PySem.W.findIn K (.ref C) "__ne__" = some (some (.builtin "object.__ne__"))
  ob : PySem.W.mroIn K C (.type "object") = some true
  tys : ∀ T ∈ (["int", "bool", "str", "NoneType", "list", "tuple"] : List String), PySem.W.subIn K (.ref C) (.type T) = some false ∧ PySem.W.subIn K (.type T) (.ref C) = some false
/-- what the other one is -/
inductive TyV (K : PySem.W.Frag) (C : Addr) (H : Hp) : V → Value → Prop
  | int (i : Int) : TyV K C H (.int i) (.type "int")
  | bl (b : Bool) : TyV K C H (.bl b) (.type "bool")
  | str (x : Str) : TyV K C H (.str x) (.type "str")
  | non : TyV K C H .non (.type "NoneType")
  | lst {a : Addr} {xs : List V} (h : SqL K H a xs) : TyV K C H (.ref a) (.type "list")
  | tup {a : Addr} {xs : List V} (h : SqT K H a xs) : TyV K C H (.ref a) (.type "tuple")
  | ins {a dx : Addr} {fs : List (Str × V)} (h : H a = some (.ins C dx fs)) : TyV K C H (.ref a) (.ref C)
section
variable {X : Cx} {pins : List (Addr × Obj)} {σ : L2.St} {H : Hp} {s : Shared} {C f a dx : Addr} {fs : List (Str × V)} {y : V} {u tv : Value} {n : Nat} {fd : FuncData} {ps : List Str} {sp : Sp} {A : Around}
theorem looks_ref {M : Model} {h : Heap} {a : Addr} {o : Obj} (e : h.get? a = some o) : PySem.W.Looks M h (typeOf (.ref a)) o.cls := (PySem.W.Looks.ld (part := some headPart) e).andThen PySem.W.Looks.now
theorem TyV.looks {M : Model} (I : Inv X pins σ H s) (t : TyV X.K C H y tv) (r : RelV y u) : PySem.W.Looks M s.heap (typeOf u) tv := by
  cases t with
  | int i => obtain ⟨t, rfl⟩ := (show ∃ t, u = Value.int i t from r); exact PySem.W.Looks.now
  | bl b => cases (show u = Value.bool b from r); exact PySem.W.Looks.now
  | str x => obtain ⟨t, rfl⟩ := (show ∃ t, u = Value.str x t from r); exact PySem.W.Looks.now
  | non => cases (show u = Value.none from r); exact PySem.W.Looks.now
  | lst h =>
    cases (show u = Value.ref _ from r)
    obtain ⟨its, rv, ⟨o, m, ho, hc, _⟩, _⟩ := I.list h
    exact hc ▸ looks_ref ho
  | tup h =>
    cases (show u = Value.ref _ from r)
    obtain ⟨its, rv, ⟨o, ho, hc, _⟩, _⟩ := I.tuple h
    exact hc ▸ looks_ref ho
  | ins h =>
    cases (show u = Value.ref _ from r)
    obtain ⟨mA, J, _⟩ := ins_get I.hok h
    obtain ⟨od, J, _⟩ := J.look
    exact J.type
theorem TyV.not_first (O : OEq X.K C f) (t : TyV X.K C H y tv) : PySem.W.notFirst X.K C tv = true := by
  cases t <;> first | (simp [PySem.W.notFirst]; done) | exact Bool.or_eq_true_iff.mpr (.inr (beq_iff_eq.mpr (O.tys _ (by decide)).2))
theorem TyV.back (O : OEq X.K C f) (t : TyV X.K C H y tv) (hne : tv ≠ .ref C) : PySem.W.subIn X.K (.ref C) tv = some false := by
  cases t <;> first | exact absurd rfl hne | exact (O.tys _ (by decide)).1
/-- the own __eq__ is called -/
theorem own_call (F : FnOk X.prog X.w X.K X.mg X.base CX0 n f fd ps sp) (hb : Binds X.K fd ps []) (sb : Sub X n A) (I : Inv X pins σ H s) (ry : RelV y u) {Q : VK} (q : sp [.ref a, y] H Q E0) :
    wpAny (model X.prog X.w) A (call (.ref f) [.ref a, u]) (EP X pins σ Q) X.xe s := by
  have e0 : Env0 X.prog X.w X.K X.mg X.base A X.stack s H := by
    have e := I.env0
    exact ⟨by rw [sb.fr]; exact e.frames, e.mod, e.bs, e.bsz, e.funs, e.frf, e.hok, e.bare⟩
  have hl := F.len _ _ _ _ q
  have r2 : Vals [V.ref a, y] [Value.ref a, u] := .cons rfl (.cons ry .nil)
  refine wpAny_call (codeAny_mono (F.run A X.stack s H ⟨[.ref a, u], []⟩ [.ref a, u] [.ref a, y] _ E0 sb.room e0 (by
    have := hb s [.ref a, u] I.kIn (by simpa using hl)
    simpa using this) r2 q) fun r s' hq => ?_)
  cases r with
  | error e => exact pass0 pins σ H s e s' I hq
  | ok fl =>
    cases fl with
    | ret w =>
      obtain ⟨z, H', I', rz, q⟩ := I.after hq
      exact ⟨z, H', I', rz, q⟩
    | next => exact False.elim hq
    | brk => exact False.elim hq
    | cont => exact False.elim hq
/-- x == y, x such an instance -/
theorem rc_own (O : OEq X.K C f) (F : FnOk X.prog X.w X.K X.mg X.base CX0 n f fd ps sp) (hb : Binds X.K fd ps []) (sb : Sub X n A) (I : Inv X pins σ H s) (ha : H a = some (.ins C dx fs)) (ty : TyV X.K C H y tv) (ry : RelV y u)
    {Q : Bool → Hp → Prop} (q : sp [.ref a, y] H (fun v H' => ∃ b, v = .bl b ∧ Q b H') E0) :
    wpAny (model X.prog X.w) A (richCompare .Eq (.ref a) u) (fun v s' => ∃ b, v = .bool b ∧ ∃ H', Inv X pins σ H' s' ∧ Q b H') X.xe s := by
  obtain ⟨mA, J, _⟩ := ins_get I.hok ha
  obtain ⟨od, J, _⟩ := J.look
  obtain ⟨m, hF⟩ := I.fr
  refine PySem.W.cmp_K (op := .Eq) (tb := tv) sb.room.units0 hF I.ok.mod.kin J (ty.looks I ry) (ty.not_first O) O.at_ O.fn ?_
  refine wpAny_mono (own_call F hb sb I ry q) (fun v s' h => ?_) fun _ _ x => x
  obtain ⟨z, H', I', rz, b, rfl, q⟩ := h
  cases (show v = Value.bool b from rz)
  exact ⟨b, rfl, H', I', q⟩
/-- x != y, x such an instance -/
theorem rc_ownNe (O : OEq X.K C f) (F : FnOk X.prog X.w X.K X.mg X.base CX0 n f fd ps sp) (hb : Binds X.K fd ps []) (sb : Sub X (n + 1) A) (I : Inv X pins σ H s) (ha : H a = some (.ins C dx fs)) (ty : TyV X.K C H y tv) (ry : RelV y u)
    {Q : Bool → Hp → Prop} (q : sp [.ref a, y] H (fun v H' => ∃ b, v = .bl b ∧ Q (!b) H') E0) :
    wpAny (model X.prog X.w) A (richCompare .NotEq (.ref a) u) (fun v s' => ∃ b, v = .bool b ∧ ∃ H', Inv X pins σ H' s' ∧ Q b H') X.xe s := by
  obtain ⟨mA, J, _⟩ := ins_get I.hok ha
  obtain ⟨od, J, _⟩ := J.look
  have hK := I.kIn
  have bindB : ∀ {M : Model} {A : Around} {E : Value → Shared → Prop} {args : List Value} {R : Option Value → Shared → Prop}, wpAny M A (call (.builtin "object.__ne__") (.ref a :: args)) (fun v => R (some v)) E s → wpAny M A (callSpecialIfBound? (.ref a) "__ne__" args) R E s := fun {M A E args R} h => by
    simp only [callSpecialIfBound?, bindSpecialIfBound?]
    refine wpAny_holding (wpAny_bind (wpAny_bind (wpAny_bind (J.type.here ((PySem.W.looks_findIn hK O.ne).here ?_)))))
    refine wpAny_bind (wpAny_askSetting (wpAny_ite ?_))
    have fin : wpAny M A (call (.builtin "object.__ne__") ([.ref a] ++ args) >>= fun v => pure (some v)) R E s := wpAny_bind (wpAny_mono h (fun v s' h' => wpAny_pure h') fun _ _ h' => h')
    split
    · exact wpAny_bind ((PySem.W.Looks.of_pure (PySem.F.cmp_object.ne.bind _)).here (wpAny_pure (by exact fin)))
    · exact wpAny_tryCatch (wpAny_bind ((PySem.W.Looks.of_pure (PySem.F.cmp_object.ne.bind _)).here (wpAny_pure (by exact fin))))
  have one : wpAny (model X.prog X.w) A (tryCompare (.ref a) "__ne__" u) (fun r s' => ∃ v, r = some v ∧ ∃ b, v = Value.bool b ∧ ∃ H', Inv X pins σ H' s' ∧ Q b H') X.xe s := by
    unfold tryCompare
    refine wpAny_bind (bindB (wpAny_call (codeAny_call_builtin PySem.F.cmp_object.ne.plain PySem.F.cmpEntry_ne (PySem.W.check_slot PySem.F.cmpKind_ne PySem.F.cmpSplit_ne (J.type.andThen (PySem.W.looks_mroIn hK O.ob)) (PySem.F.cmpArgs_ne _ _) ?_))))
    unfold Builtin.«object.__ne__»
    refine wpAny_bind (m := PySem.slotArgs "__ne__" 1 _) (wpAny_pure ?_)
    refine wpAny_bind (m := cRoomFor _ _) (wpAny_cRoomFor sb.in1.room.units0 ?_)
    refine wpAny_bind (m := callSpecialIfBound? (.ref a) (Str.ofString "__eq__") [u]) (PySem.W.ifBound_K hK J O.at_ O.fn (wpAny_mono (own_call F hb sb.in1 I ry q) (fun v s' h => ?_) fun _ _ x => x))
    obtain ⟨z, H', I', rz, b, rfl, q⟩ := h
    cases (show v = Value.bool b from rz)
    refine wpAny_bind (m := truthy (.bool b)) (wpAny_truthy_bool ?_)
    exact wpAny_pure (wpAny_pure ⟨_, rfl, !b, rfl, H', I', q⟩)
  unfold richCompare
  simp only [oneThing_ref]
  refine wpAny_holding (wpAny_bind (wpAny_cRoomFor sb.room.units0 ?_))
  rw [cmpInfo_NotEq]
  dsimp only
  refine wpAny_bind (J.type.here (wpAny_bind ((ty.looks I ry).here ?_)))
  have fin : wpAny (model X.prog X.w) A (tryCompare (.ref a) "__ne__" u) (fun r s' => ∃ v, r = some v ∧ ∃ b, v = Value.bool b ∧ ∃ H', Inv X pins σ H' s' ∧ Q b H') X.xe s := one
  split
  · rename_i q'
    have e : PySem.W.subIn X.K tv (.ref C) = some false := by
      rcases Bool.or_eq_true_iff.mp (ty.not_first O) with e | e
      · rw [beq_iff_eq.mp e] at q'; simp at q'
      · exact beq_iff_eq.mp e
    refine wpAny_bind ((PySem.W.looks_subIn hK e).here ?_)
    simp only [Bool.false_eq_true, if_false]
    refine wpAny_bind (wpAny_mono fin (fun r s' z => ?_) fun _ _ e => e)
    obtain ⟨v, rfl, hq⟩ := z
    exact wpAny_pure hq
  · refine wpAny_bind (wpAny_pure ?_)
    simp only [Bool.false_eq_true, if_false]
    refine wpAny_bind (wpAny_mono fin (fun r s' z => ?_) fun _ _ e => e)
    obtain ⟨v, rfl, hq⟩ := z
    exact wpAny_pure hq
end
/-! ### == of other kinds and such an instance: its __eq__ is asked second -/
section
variable {M : Model} {A : Around} {E : Value → Shared → Prop} {s : Shared}
theorem int_declines_ins (b : Int) (u : Tok) (l : Addr) (o : Obj) (hd : o.data = .plain) :
    Meets (Builtin.«int.__eq__» ⟨[.int b u, .ref l], []⟩) (fun _ R s => s.heap.get? l = some o ∧ R (.ok (.ret .notImplemented)) s) :=
  .of_wp fun prog w A R s h => by obtain ⟨hp, g, d, tk, os⟩ := s; obtain ⟨hl, h⟩ := h; obtain ⟨oc, od, oda, osl⟩ := o; cases hd; wp_walk using PySem.AutoSeq1.wpAny_loadPart' hl, wpAny_load hl; exact ⟨_, rfl, h⟩
theorem bool_declines_ins (b : Bool) (l : Addr) (o : Obj) (hd : o.data = .plain) :
    Meets (Builtin.«int.__eq__» ⟨[.bool b, .ref l], []⟩) (fun _ R s => s.heap.get? l = some o ∧ R (.ok (.ret .notImplemented)) s) :=
  .of_wp fun prog w A R s h => by obtain ⟨hp, g, d, tk, os⟩ := s; obtain ⟨hl, h⟩ := h; obtain ⟨oc, od, oda, osl⟩ := o; cases hd; wp_walk using PySem.AutoSeq1.wpAny_loadPart' hl, wpAny_load hl; exact ⟨_, rfl, h⟩
theorem str_declines_ins (b : Str) (u : Tok) (l : Addr) (o : Obj) (hd : o.data = .plain) :
    Meets (Builtin.«str.__eq__» ⟨[.str b u, .ref l], []⟩) (fun _ R s => s.heap.get? l = some o ∧ R (.ok (.ret .notImplemented)) s) :=
  .of_wp fun prog w A R s h => by obtain ⟨hp, g, d, tk, os⟩ := s; obtain ⟨hl, h⟩ := h; obtain ⟨oc, od, oda, osl⟩ := o; cases hd; wp_walk using PySem.AutoSeq1.wpAny_loadPart' hl, wpAny_load hl; exact ⟨_, rfl, h⟩
theorem list_declines_ins (l b : Addr) (items : Array Value) (n : Nat) (dd : Option Addr) (sl : Array (Option Value)) :
    Meets (Builtin.«list.__eq__» ⟨[.ref l, .ref b], []⟩) (fun _ R s => s.heap.get? l = some { cls := .type "list", dict := dd, data := .seq items n, slots := sl } ∧ (∀ (M : Model) (A : Around) (E : Value → Shared → Prop) (Q : Bool → Shared → Prop), Q false s → wpAny M A (isInstance (.ref b) (.type "list")) Q E s) ∧ R (.ok (.ret .notImplemented)) s) :=
  .of_wp fun prog w A R s h => by
    obtain ⟨hp, g, d, tk, os⟩ := s
    obtain ⟨hl, hi, h⟩ := h
    wp_walk using PySem.AutoSeq1.wpAny_loadPart' hl, hi _ _ _ _
    exact ⟨_, rfl, h⟩
theorem tuple_declines_ins (l b : Addr) (items : Array Value) (n : Nat) (dd : Option Addr) (sl : Array (Option Value)) :
    Meets (Builtin.«tuple.__eq__» ⟨[.ref l, .ref b], []⟩) (fun _ R s => s.heap.get? l = some { cls := .type "tuple", dict := dd, data := .seq items n, slots := sl } ∧ (∀ (M : Model) (A : Around) (E : Value → Shared → Prop) (Q : Bool → Shared → Prop), Q false s → wpAny M A (isInstance (.ref b) (.type "tuple")) Q E s) ∧ R (.ok (.ret .notImplemented)) s) :=
  .of_wp fun prog w A R s h => by
    obtain ⟨hp, g, d, tk, os⟩ := s
    obtain ⟨hl, hi, h⟩ := h
    wp_walk using PySem.AutoSeq1.wpAny_loadPart' hl, hi _ _ _ _
    exact ⟨_, rfl, h⟩
end
section
variable {X : Cx} {pins : List (Addr × Obj)} {σ : L2.St} {H : Hp} {s : Shared} {C f a dx : Addr} {fs : List (Str × V)} {y : V} {u tv : Value} {n : Nat} {fd : FuncData} {ps : List Str} {sp : Sp} {A : Around}
theorem rc_back_of {T id : String} (O : OEq X.K C f) (F : FnOk X.prog X.w X.K X.mg X.base CX0 n f fd ps sp) (hb : Binds X.K fd ps []) (sb : Sub X n A) (I : Inv X pins σ H s) (ha : H a = some (.ins C dx fs)) (ry : RelV y u)
    (hT : s.TypeIs u T) (hS : Slot T "__eq__" id) (hsub : PySem.W.subIn X.K (.ref C) (.type T) = some false)
    (dec : ∀ Q' : Value → Shared → Prop, Q' .notImplemented s → wpAny (model X.prog X.w) A (call (.builtin id) [u, .ref a]) Q' X.xe s)
    {Q : Bool → Hp → Prop} (q : sp [.ref a, y] H (fun v H' => ∃ b, v = .bl b ∧ Q b H') E0) :
    wpAny (model X.prog X.w) A (richCompare .Eq u (.ref a)) (fun v s' => ∃ b, v = .bool b ∧ ∃ H', Inv X pins σ H' s' ∧ Q b H') X.xe s := by
  obtain ⟨mA, J, _⟩ := ins_get I.hok ha
  obtain ⟨od, J, _⟩ := J.look
  have hK := I.kIn
  unfold richCompare
  simp only [hT.oneThing_none]
  refine wpAny_holding (wpAny_bind (wpAny_cRoomFor sb.room.units0 ?_))
  rw [cmpInfo_Eq]
  dsimp only
  refine wpAny_bind (wpAny_typeOf hT (wpAny_bind (J.type.here ?_)))
  rw [if_pos (show (Value.type T != Value.ref C) = true by simp)]
  refine wpAny_bind ((PySem.W.looks_subIn hK hsub).here ?_)
  simp only [Bool.false_eq_true, if_false, Bool.not_false, if_true]
  refine wpAny_bind (m := tryCompare u _ (.ref a)) (wpAny_tryCompare_declines hT hS (dec _ ⟨rfl, ?_⟩))
  have one : wpAny (model X.prog X.w) A (tryCompare (.ref a) "__eq__" u) (fun r s' => ∃ v, r = some v ∧ ∃ b, v = Value.bool b ∧ ∃ H', Inv X pins σ H' s' ∧ Q b H') X.xe s := by
    unfold tryCompare
    refine wpAny_bind (PySem.W.ifBound_K hK J O.at_ O.fn (wpAny_mono (own_call F hb sb I ry q) (fun v s' h => ?_) fun _ _ e => e))
    obtain ⟨z, H', I', rz, b, rfl, q⟩ := h
    cases (show v = Value.bool b from rz)
    exact wpAny_pure ⟨_, rfl, b, rfl, H', I', q⟩
  refine wpAny_bind (m := tryCompare (.ref a) _ u) (wpAny_mono one (fun r s' z => ?_) fun _ _ e => e)
  obtain ⟨v, rfl, hq⟩ := z
  exact wpAny_pure hq
/-- x == y, y such an instance, x of another kind -/
theorem rc_back (O : OEq X.K C f) (F : FnOk X.prog X.w X.K X.mg X.base CX0 n f fd ps sp) (hb : Binds X.K fd ps []) (sb : Sub X n A) (I : Inv X pins σ H s) (ha : H a = some (.ins C dx fs)) (ty : TyV X.K C H y tv) (hne : tv ≠ .ref C) (ry : RelV y u)
    {Q : Bool → Hp → Prop} (q : sp [.ref a, y] H (fun v H' => ∃ b, v = .bl b ∧ Q b H') E0) :
    wpAny (model X.prog X.w) A (richCompare .Eq u (.ref a)) (fun v s' => ∃ b, v = .bool b ∧ ∃ H', Inv X pins σ H' s' ∧ Q b H') X.xe s := by
  have hbk := ty.back O hne
  obtain ⟨mA, J, _⟩ := ins_get I.hok ha
  obtain ⟨od, J, _⟩ := J.look
  have hK := I.kIn
  have isi : ∀ {T : String}, PySem.W.subIn X.K (.ref C) (.type T) = some false → ∀ (M : Model) (A : Around) (E : Value → Shared → Prop) (Q : Bool → Shared → Prop), Q false s → wpAny M A (isInstance (.ref a) (.type T)) Q E s := fun {T} hs M A E Q q => by
    have L : PySem.W.Looks M s.heap (isInstance (.ref a) (.type T)) false := J.type.andThen (PySem.W.looks_subIn hK hs)
    exact L.here q
  cases ty with
  | int i =>
    obtain ⟨t, rfl⟩ := (show ∃ t, u = Value.int i t from ry)
    exact rc_back_of O F hb sb I ha ry (typeIs_int s i t) PySem.F.slot_int_eq hbk (fun Q' hq => call_meets PySem.F.slot_int_eq (typeIs_int s i t) PySem.F.entry_int_eq (PySem.F.args_int_eq_2 _ _) (int_declines_ins i t a _ rfl) ⟨J.at_, hq⟩) q
  | bl b =>
    cases (show u = Value.bool b from ry)
    exact rc_back_of O F hb sb I ha ry rfl PySem.F.slot_bool_eq hbk (fun Q' hq => call_meets PySem.F.slot_bool_eq rfl PySem.F.entry_int_eq (PySem.F.args_int_eq_2 _ _) (bool_declines_ins b a _ rfl) ⟨J.at_, hq⟩) q
  | str x =>
    obtain ⟨t, rfl⟩ := (show ∃ t, u = Value.str x t from ry)
    exact rc_back_of O F hb sb I ha ry (typeIs_str s x t) PySem.F.slot_str_eq hbk (fun Q' hq => call_meets PySem.F.slot_str_eq (typeIs_str s x t) PySem.F.entry_str_eq (PySem.F.args_str_eq_2 _ _) (str_declines_ins x t a _ rfl) ⟨J.at_, hq⟩) q
  | non =>
    cases (show u = Value.none from ry)
    exact rc_back_of O F hb sb I ha ry rfl PySem.F.slot_NoneType_eq hbk (fun Q' hq => call_gives PySem.F.slot_NoneType_eq rfl PySem.F.entry_NoneType_eq (PySem.F.args_NoneType_eq_2 _ _) (NoneType___eq___none_ref_0 a) hq) q
  | lst h =>
    cases (show u = Value.ref _ from ry)
    obtain ⟨its, rv, ⟨⟨cls, dd, data, sl⟩, m, ho, hc, hdn, hd⟩, _⟩ := I.list h
    simp only at hc hd
    subst hc hd
    exact rc_back_of O F hb sb I ha ry ⟨_, ho, rfl⟩ PySem.F.slot_list_eq hbk (fun Q' hq => call_meets PySem.F.slot_list_eq ⟨_, ho, rfl⟩ PySem.F.entry_list_eq (PySem.F.args_list_eq_2 _ _) (list_declines_ins _ a _ _ _ _) ⟨ho, isi hbk, hq⟩) q
  | tup h =>
    cases (show u = Value.ref _ from ry)
    obtain ⟨its, rv, ⟨⟨cls, dd, data, sl⟩, ho, hc, m, hd⟩, _⟩ := I.tuple h
    simp only at hc hd
    subst hc hd
    exact rc_back_of O F hb sb I ha ry ⟨_, ho, rfl⟩ PySem.F.slot_tuple_eq hbk (fun Q' hq => call_meets PySem.F.slot_tuple_eq ⟨_, ho, rfl⟩ PySem.F.entry_tuple_eq (PySem.F.args_tuple_eq_2 _ _) (tuple_declines_ins _ a _ _ _ _) ⟨ho, isi hbk, hq⟩) q
  | ins h => exact absurd rfl hne
end
/-! ### a list of such: in, count, index -/
section
variable {prog : Program} {w : World} {A : Around} {R : Result → Shared → Prop} {l : Addr} {items : Array Value} {x : Value} {e : Nat → Bool} {J : Shared → Prop}
open GQ MeetsSeq MeetsSeq2 MeetsSeq3
/-- l is the list of these items wherever J is; what == says is told by e -/
structure LJ (prog : Program) (w : World) (A : Around) (E : Value → Shared → Prop) (l : Addr) (items : Array Value) (x : Value) (e : Nat → Bool) (J : Shared → Prop) : Prop where
  at_ : ∀ s, J s → ∃ n, s.heap.get? l = some { cls := .type "list", data := .seq items n }
  eq : ∀ i (h : i < items.size) s, J s → wpAny (model prog w) A.in1 (eqBool items[i] x) (fun r s' => r = e i ∧ J s') E s
theorem contains_no (hj : LJ prog w A (fun e s' => R (.error e) s') l items x e J) (no : ∀ i, i < items.size → e i = false) (fin : ∀ s, J s → R (.ok (.ret (.bool false))) s) (k : Nat) :
    ∀ i : Nat, items.size - i = k → ∀ s, J s → wpAny (model prog w) A.in1 (Builtin.«list.__contains__.loop» ⟨[.ref l, x, rawInt i], []⟩) (FinOf prog w A R) (fun e s' => R (.error e) s') s := by
  induction k with
  | zero =>
    intro i hk s h
    obtain ⟨n, hl⟩ := hj.at_ _ h
    have hR := fin s h
    obtain ⟨hp, g, d, tk, os⟩ := s
    wp_walk using PySem.AutoSeq1.wpAny_loadPart' hl
    have hi : items[((i : Nat) : Int).toNat]? = none := by simp; omega
    rw [hi]
    wp_walk
    exact hR
  | succ k ih =>
    intro i hk s h
    obtain ⟨n, hl⟩ := hj.at_ _ h
    have hlt : i < items.size := by omega
    have ht := hj.eq i hlt s h
    obtain ⟨hp, g, d, tk, os⟩ := s
    wp_walk using PySem.AutoSeq1.wpAny_loadPart' hl
    have hi : items[((i : Nat) : Int).toNat]? = some items[i] := by simp [hlt]
    have hc : ((i : Int) + 1) = ((i + 1 : Nat) : Int) := by omega
    rw [hi]
    refine wpAny_bind (wpAny_mono ht (fun r s2 h2 => ?_) fun _ _ x => x)
    obtain ⟨hr, h2⟩ := h2
    rw [no i hlt] at hr
    subst hr
    have hrec := ih (i + 1) (by omega) s2 h2
    obtain ⟨hp2, g2, d2, tk2, os2⟩ := s2
    wp_walk
    rw [hc]
    exact ⟨plainId_quiet plain_contains_loop _, codeAny_builtin entry_contains_loop (by
      rw [Around.under_plainId plain_contains_loop _]
      exact hrec)⟩
theorem list_contains_no (hj : LJ prog w A (fun e s' => R (.error e) s') l items x e J) (no : ∀ i, i < items.size → e i = false) (fin : ∀ s, J s → R (.ok (.ret (.bool false))) s) {s : Shared} (h : J s) :
    wpAny (model prog w) A.in1 (Builtin.«list.__contains__» ⟨[.ref l, x], []⟩) (FinOf prog w A R) (fun e s' => R (.error e) s') s := by
  obtain ⟨n, hl⟩ := hj.at_ _ h
  have hrec := contains_no hj no fin _ 0 rfl s h
  obtain ⟨hp, g, d, tk, os⟩ := s
  wp_walk using PySem.AutoSeq1.wpAny_loadPart' hl
  wp_walk using PySem.AutoSeq1.wpAny_loadPart' hl
  exact ⟨plainId_quiet plain_contains_loop _, codeAny_builtin entry_contains_loop (by
    rw [Around.under_plainId plain_contains_loop _]
    exact hrec)⟩
theorem count_no (hj : LJ prog w A (fun e s' => R (.error e) s') l items x e J) (no : ∀ i, i < items.size → e i = false) (fin : ∀ s, J s → R (.ok (.ret (.int 0 s.toks))) { s with toks := s.toks + 1 }) (k : Nat) :
    ∀ i : Nat, items.size - i = k → ∀ s, J s → wpAny (model prog w) A.in1 (Builtin.«list.count.loop» ⟨[.ref l, x, rawInt i, rawInt 0], []⟩) (FinOf prog w A R) (fun e s' => R (.error e) s') s := by
  induction k with
  | zero =>
    intro i hk s h
    obtain ⟨n, hl⟩ := hj.at_ _ h
    have hR := fin s h
    obtain ⟨hp, g, d, tk, os⟩ := s
    wp_walk using PySem.AutoSeq1.wpAny_loadPart' hl
    have hi : items[((i : Nat) : Int).toNat]? = none := by simp; omega
    rw [hi]
    wp_walk
    exact hR
  | succ k ih =>
    intro i hk s h
    obtain ⟨n, hl⟩ := hj.at_ _ h
    have hlt : i < items.size := by omega
    have ht := hj.eq i hlt s h
    obtain ⟨hp, g, d, tk, os⟩ := s
    wp_walk using PySem.AutoSeq1.wpAny_loadPart' hl
    have hi : items[((i : Nat) : Int).toNat]? = some items[i] := by simp [hlt]
    have hc : ((i : Int) + 1) = ((i + 1 : Nat) : Int) := by omega
    rw [hi]
    refine wpAny_bind (wpAny_mono ht (fun r s2 h2 => ?_) fun _ _ x => x)
    obtain ⟨hr, h2⟩ := h2
    rw [no i hlt] at hr
    subst hr
    have hrec := ih (i + 1) (by omega) s2 h2
    obtain ⟨hp2, g2, d2, tk2, os2⟩ := s2
    wp_walk
    rw [hc]
    exact ⟨plainId_quiet plain_count_loop _, codeAny_builtin entry_count_loop (by
      rw [Around.under_plainId plain_count_loop _]
      exact hrec)⟩
theorem list_count_no (hj : LJ prog w A (fun e s' => R (.error e) s') l items x e J) (no : ∀ i, i < items.size → e i = false) (fin : ∀ s, J s → R (.ok (.ret (.int 0 s.toks))) { s with toks := s.toks + 1 }) {s : Shared} (h : J s) :
    wpAny (model prog w) A.in1 (Builtin.«list.count» ⟨[.ref l, x], []⟩) (FinOf prog w A R) (fun e s' => R (.error e) s') s := by
  obtain ⟨n, hl⟩ := hj.at_ _ h
  have hrec := count_no hj no fin _ 0 rfl s h
  obtain ⟨hp, g, d, tk, os⟩ := s
  wp_walk using PySem.AutoSeq1.wpAny_loadPart' hl
  exact ⟨plainId_quiet plain_count_loop _, codeAny_builtin entry_count_loop (by
    rw [Around.under_plainId plain_count_loop _]
    exact hrec)⟩
theorem index_loop (hj : LJ prog w A (fun e s' => R (.error e) s') l items x e J) {j : Nat} {upto : Int} (hjl : j < items.size) (hupto : (j : Int) < upto) (hit : e j = true) (no : ∀ i, i < j → e i = false)
    (fin : ∀ s, J s → R (.ok (.ret (.int j s.toks))) { s with toks := s.toks + 1 }) (k : Nat) :
    ∀ i : Nat, j - i = k → i ≤ j → ∀ s, J s → wpAny (model prog w) A.in1 (Builtin.«list.index.loop» ⟨[.ref l, x, rawInt i, rawInt upto], []⟩) (FinOf prog w A R) (fun e s' => R (.error e) s') s := by
  induction k with
  | zero =>
    intro i hk hij s h
    have hij' : i = j := by omega
    subst hij'
    obtain ⟨n, hl⟩ := hj.at_ _ h
    have ht := hj.eq i hjl s h
    obtain ⟨hp, g, d, tk, os⟩ := s
    wp_walk using PySem.AutoSeq1.wpAny_loadPart' hl
    have hi : (if (i : Int) < upto then items[((i : Nat) : Int).toNat]? else none) = some items[i] := by simp [hupto, hjl]
    rw [hi]
    refine wpAny_bind (wpAny_mono ht (fun r s2 h2 => ?_) fun _ _ x => x)
    obtain ⟨hr, h2⟩ := h2
    rw [hit] at hr
    subst hr
    have hR := fin s2 h2
    obtain ⟨hp2, g2, d2, tk2, os2⟩ := s2
    wp_walk
    exact hR
  | succ k ih =>
    intro i hk hij s h
    obtain ⟨n, hl⟩ := hj.at_ _ h
    have hlt : i < items.size := by omega
    have hst : (i : Int) < upto := by omega
    have ht := hj.eq i hlt s h
    obtain ⟨hp, g, d, tk, os⟩ := s
    wp_walk using PySem.AutoSeq1.wpAny_loadPart' hl
    have hi : (if (i : Int) < upto then items[((i : Nat) : Int).toNat]? else none) = some items[i] := by simp [hst, hlt]
    have hc : ((i : Int) + 1) = ((i + 1 : Nat) : Int) := by omega
    rw [hi]
    refine wpAny_bind (wpAny_mono ht (fun r s2 h2 => ?_) fun _ _ x => x)
    obtain ⟨hr, h2⟩ := h2
    rw [no i (by omega)] at hr
    subst hr
    have hrec := ih (i + 1) (by omega) (by omega) s2 h2
    obtain ⟨hp2, g2, d2, tk2, os2⟩ := s2
    wp_walk
    rw [hc]
    exact ⟨plainId_quiet plain_index_loop _, codeAny_builtin entry_index_loop (by
      rw [Around.under_plainId plain_index_loop _]
      exact hrec)⟩
theorem list_index_at (hj : LJ prog w A (fun e s' => R (.error e) s') l items x e J) {j : Nat} (hjl : j < items.size) (hsmall : (j : Int) < 2 ^ 63 - 1) (hit : e j = true) (no : ∀ i, i < j → e i = false)
    (fin : ∀ s, J s → R (.ok (.ret (.int j s.toks))) { s with toks := s.toks + 1 }) {s : Shared} (h : J s) :
    wpAny (model prog w) A.in1 (Builtin.«list.index» ⟨[.ref l, x], []⟩) (FinOf prog w A R) (fun e s' => R (.error e) s') s := by
  obtain ⟨n, hl⟩ := hj.at_ _ h
  have hrec := index_loop hj hjl hsmall hit no fin _ 0 rfl (Nat.zero_le _) s h
  obtain ⟨hp, g, d, tk, os⟩ := s
  wp_walk using PySem.AutoSeq1.wpAny_loadPart' hl
  have a1 : ((fun i : Int => if i < 0 then max 0 (i + (items.size : Int)) else i) ((none : Option Int).getD 0)) = ((0 : Nat) : Int) := by simp
  have a2 : ((fun i : Int => if i < 0 then max 0 (i + (items.size : Int)) else i) ((none : Option Int).getD (2 ^ 63 - 1))) = 2 ^ 63 - 1 := by simp
  rw [a1, a2]
  exact ⟨plainId_quiet plain_index_loop _, codeAny_builtin entry_index_loop (by
    rw [Around.under_plainId plain_index_loop _]
    exact hrec)⟩
end
section
variable {X : Cx} {C f : Addr} {n : Nat} {fd : FuncData} {ps : List Str} {sp : Sp}
/-- what == says of each of the list's and of a -/
def Asks (C : Addr) (sp : Sp) (a : Addr) (bs : List Addr) (e : Nat → Bool) (H : Hp) : Prop := ∀ i b, bs[i]? = some b → ∀ H', Ext H H' → (∃ dx fs, H' b = some (.ins C dx fs)) ∧ (∃ dx fs, H' a = some (.ins C dx fs)) ∧ (b = a → e i = true) ∧
  ∀ Q : VK, (∀ H'', Ext H' H'' → Q (.bl (e i)) H'') → sp [.ref b, .ref a] H' Q E0
theorem asks_lj (O : OEq X.K C f) (F : FnOk X.prog X.w X.K X.mg X.base CX0 n f fd ps sp) (hb : Binds X.K fd ps []) (hr : Room (n + 1) X.A) {pins : List (Addr × Obj)} {σ : L2.St} {H : Hp} {l a : Addr} {bs : List Addr} {e : Nat → Bool}
    (hl : H l = some (.lst (bs.map V.ref))) (h : Asks C sp a bs e H) : LJ X.prog X.w X.A X.xe l (bs.map Value.ref).toArray (.ref a) e (fun s' => ∃ H', Inv X pins σ H' s' ∧ Ext H H') := by
  refine ⟨fun s ⟨H', I, x⟩ => ?_, fun i hi s ⟨H', I, x⟩ => ?_⟩
  · obtain ⟨its, m, r, ho, hz⟩ := I.lst (x _ _ hl)
    have : its = bs.map Value.ref := by
      clear ho hl h hz
      induction bs generalizing its with
      | nil => cases r; rfl
      | cons b t ih =>
        cases r with
        | cons r1 r2 =>
          rw [List.map_cons, ← ih _ r2, (show _ = Value.ref b from r1)]
    exact ⟨m, by rw [ho, this]⟩
  · have hi' : i < bs.length := by simpa using hi
    have hg : bs[i]? = some bs[i] := List.getElem?_eq_getElem hi'
    obtain ⟨⟨dx, fs, eb⟩, ⟨dy, gs, ea⟩, same, q⟩ := h i bs[i] hg H' x
    have hv : (bs.map Value.ref).toArray[i] = .ref bs[i] := by simp
    rw [hv]
    by_cases hab : bs[i] = a
    · rw [hab]
      exact SeqAt.EqAt.same (A := X.A.in1) (s := s) (.ref a) X.prog X.w X.xe _ ⟨(same hab).symm, H', I, x⟩
    · refine GQ.eqBool_refG hab ?_
      refine wpAny_mono (rc_own O F hb (A := X.A.in1) ⟨hr.in1, rfl⟩ I eb (.ins ea) (u := .ref a) rfl (Q := fun b H'' => b = e i ∧ Ext H' H'') (q _ fun H'' x2 => ⟨_, rfl, rfl, x2⟩)) (fun v s' z => ?_) fun _ _ x => x
      obtain ⟨b, rfl, H'', I', rfl, x2⟩ := z
      exact ⟨_, rfl, rfl, H'', I', x.trans x2⟩
variable (K : PySem.W.Frag)
/-- x in l: none of the list's is alike -/
def rInO (C : Addr) (sp : Sp) : R2 := fun x y H Q => ∃ (a l : Addr) (bs : List Addr), x = .ref a ∧ y = .ref l ∧ H l = some (.lst (bs.map V.ref)) ∧ Asks C sp a bs (fun _ => false) H ∧ ∀ H', Ext H H' → Q (.bl false) H'
theorem op_inO (O : OEq X.K C f) (F : FnOk X.prog X.w X.K X.mg X.base CX0 n f fd ps sp) (hb : Binds X.K fd ps []) (hr : Room (n + 1) X.A) : OpR X (compareOp .In) (rInO C sp) := by
  intro pins s σ H x y v u Q I rx ry h
  obtain ⟨a, l, bs, rfl, rfl, hl, hA, q⟩ := h
  cases rx
  cases ry
  obtain ⟨its, m, r, ho, _⟩ := I.lst hl
  have hj := asks_lj (pins := pins) (σ := σ) O F hb hr hl hA
  show wpAny _ X.A (do return Value.bool (← contains (.ref l) (.ref a))) _ _ s
  refine wpAny_bind (wpAny_contains_slot ⟨_, ho, rfl⟩ PySem.F.slot_list_contains (GQ.call_here PySem.F.slot_list_contains ⟨_, ho, rfl⟩ PySem.F.entry_list_contains (PySem.F.args_list_contains_2 _ _) (list_contains_no (R := wants _ _) hj (fun _ _ => rfl) (fun s' ⟨H', I', x⟩ => ?_) ⟨H, I, fun _ _ h => h⟩)))
  exact wpAny_truthy_bool (wpAny_pure ⟨.bl false, H', I', rfl, q H' x⟩)
/-- l.count(x): none of the list's is alike -/
def rCountO (C : Addr) (sp : Sp) : V → List V → Hp → VK → Prop := fun x xs H Q => ∃ (a l : Addr) (bs : List Addr), x = .ref l ∧ xs = [.ref a] ∧ H l = some (.lst (bs.map V.ref)) ∧ Asks C sp a bs (fun _ => false) H ∧ ∀ H', Ext H H' → Q (.int 0) H'
theorem mt_countO (O : OEq X.K C f) (F : FnOk X.prog X.w X.K X.mg X.base CX0 n f fd ps sp) (hb : Binds X.K fd ps []) (hr : Room (n + 1) X.A) : MtR X "list.count" (rCountO C sp) := by
  intro pins s σ H x xs v us Q I rx rxs h
  obtain ⟨a, l, bs, rfl, rfl, hl, hA, q⟩ := h
  cases rx
  cases rxs with
  | cons ry rt =>
    cases rt
    cases ry
    obtain ⟨its, m, r, ho, _⟩ := I.lst hl
    have hj := asks_lj (pins := pins) (σ := σ) O F hb hr hl hA
    refine GQ.call_here PySem.F.slot_list_count ⟨_, ho, rfl⟩ PySem.F.entry_list_count (PySem.F.args_list_count_2 _ _) (list_count_no (R := wants _ _) hj (fun _ _ => rfl) (fun s' ⟨H', I', x⟩ => ?_) ⟨H, I, fun _ _ h => h⟩)
    exact ⟨.int 0, H', I'.tok _, ⟨_, rfl⟩, q H' x⟩
/-- l.index(x): the first alike one -/
def rIndexO (C : Addr) (sp : Sp) : V → List V → Hp → VK → Prop := fun x xs H Q => ∃ (a l : Addr) (bs : List Addr) (j : Nat) (e : Nat → Bool), x = .ref l ∧ xs = [.ref a] ∧ H l = some (.lst (bs.map V.ref)) ∧ j < bs.length ∧ j < 1000 ∧ e j = true ∧ (∀ i, i < j → e i = false) ∧ Asks C sp a bs e H ∧ ∀ H', Ext H H' → Q (.int (j : Nat)) H'
theorem mt_indexO (O : OEq X.K C f) (F : FnOk X.prog X.w X.K X.mg X.base CX0 n f fd ps sp) (hb : Binds X.K fd ps []) (hr : Room (n + 1) X.A) : MtR X "list.index" (rIndexO C sp) := by
  intro pins s σ H x xs v us Q I rx rxs h
  obtain ⟨a, l, bs, j, e, rfl, rfl, hl, hj1, hj2, hit, no, hA, q⟩ := h
  cases rx
  cases rxs with
  | cons ry rt =>
    cases rt
    cases ry
    obtain ⟨its, m, r, ho, _⟩ := I.lst hl
    have hj := asks_lj (pins := pins) (σ := σ) O F hb hr hl hA
    refine GQ.call_here PySem.F.slot_list_index ⟨_, ho, rfl⟩ PySem.F.entry_list_index (PySem.F.args_list_index_2 _ _) (list_index_at (R := wants _ _) hj (j := j) (by simpa using hj1) (by omega) hit no (fun s' ⟨H', I', x⟩ => ?_) ⟨H, I, fun _ _ h => h⟩)
    exact ⟨.int (j : Nat), H', I'.tok _, ⟨_, rfl⟩, q H' x⟩
end
/-! ### ==, != as expressions; repr(x), str(x), {x!s} by own defs -/
section
variable {X : Cx} {C f : Addr} {n : Nat} {fd : FuncData} {ps : List Str} {sp : Sp} {A : Around} {pins : List (Addr × Obj)} {σ : L2.St} {H : Hp} {s : Shared}
theorem own_callN {xs : List V} {us : List Value} (F : FnOk X.prog X.w X.K X.mg X.base CX0 n f fd ps sp) (hb : Binds X.K fd ps []) (sb : Sub X n A) (I : Inv X pins σ H s) (r2 : Vals xs us) {Q : VK} (q : sp xs H Q E0) :
    wpAny (model X.prog X.w) A (call (.ref f) us) (EP X pins σ Q) X.xe s := by
  have e0 : Env0 X.prog X.w X.K X.mg X.base A X.stack s H := by
    have e := I.env0
    exact ⟨by rw [sb.fr]; exact e.frames, e.mod, e.bs, e.bsz, e.funs, e.frf, e.hok, e.bare⟩
  have hl := F.len _ _ _ _ q
  refine wpAny_call (codeAny_mono (F.run A X.stack s H ⟨us, []⟩ us xs _ E0 sb.room e0 (by
    have := hb s us I.kIn (by rw [List.append_nil, ← r2.length]; exact hl)
    simpa using this) r2 q) fun r s' hq => ?_)
  cases r with
  | error e => exact pass0 pins σ H s e s' I hq
  | ok fl =>
    cases fl with
    | ret w =>
      obtain ⟨z, H', I', rz, q⟩ := I.after hq
      exact ⟨z, H', I', rz, q⟩
    | next => exact False.elim hq
    | brk => exact False.elim hq
    | cont => exact False.elim hq
def rEqO (K : PySem.W.Frag) (C : Addr) (sp : Sp) : R2 := fun x y H Q =>
  (∃ (a dx : Addr) (fs : List (Str × V)) (tv : Value), x = .ref a ∧ H a = some (.ins C dx fs) ∧ TyV K C H y tv ∧ sp [x, y] H (fun v H' => ∃ b, v = .bl b ∧ Q (.bl b) H') E0) ∨
  (∃ (a dx : Addr) (fs : List (Str × V)) (tv : Value), y = .ref a ∧ H a = some (.ins C dx fs) ∧ TyV K C H x tv ∧ tv ≠ .ref C ∧ sp [y, x] H (fun v H' => ∃ b, v = .bl b ∧ Q (.bl b) H') E0)
def rNeO (K : PySem.W.Frag) (C : Addr) (sp : Sp) : R2 := fun x y H Q =>
  ∃ (a dx : Addr) (fs : List (Str × V)) (tv : Value), x = .ref a ∧ H a = some (.ins C dx fs) ∧ TyV K C H y tv ∧ sp [x, y] H (fun v H' => ∃ b, v = .bl b ∧ Q (.bl (!b)) H') E0
theorem op_eqO (O : OEq X.K C f) (F : FnOk X.prog X.w X.K X.mg X.base CX0 n f fd ps sp) (hb : Binds X.K fd ps []) (hr : Room n X.A) : OpR X (compareOp .Eq) (rEqO X.K C sp) := by
  intro pins s σ H x y v u Q I rx ry h
  have fin : ∀ {v : Value} {s' : Shared}, (∃ b, v = Value.bool b ∧ ∃ H', Inv X pins σ H' s' ∧ Q (.bl b) H') → EP X pins σ Q v s' := fun h => by
    obtain ⟨b, rfl, H', I', q⟩ := h
    exact ⟨.bl b, H', I', rfl, q⟩
  rcases h with ⟨a, dx, fs, tv, rfl, ha, ty, q⟩ | ⟨a, dx, fs, tv, rfl, ha, ty, hne, q⟩
  · cases (show v = Value.ref a from rx)
    exact wpAny_mono (rc_own O F hb (A := X.A) ⟨hr, rfl⟩ I ha ty ry (Q := fun b H' => Q (.bl b) H') q) (fun v s' z => fin z) fun _ _ x => x
  · cases (show u = Value.ref a from ry)
    exact wpAny_mono (rc_back O F hb (A := X.A) ⟨hr, rfl⟩ I ha ty hne rx (Q := fun b H' => Q (.bl b) H') q) (fun v s' z => fin z) fun _ _ x => x
theorem op_neO (O : OEq X.K C f) (F : FnOk X.prog X.w X.K X.mg X.base CX0 n f fd ps sp) (hb : Binds X.K fd ps []) (hr : Room (n + 1) X.A) : OpR X (compareOp .NotEq) (rNeO X.K C sp) := by
  intro pins s σ H x y v u Q I rx ry h
  obtain ⟨a, dx, fs, tv, rfl, ha, ty, q⟩ := h
  cases (show v = Value.ref a from rx)
  refine wpAny_mono (rc_ownNe O F hb (A := X.A) ⟨hr, rfl⟩ I ha ty ry (Q := fun b H' => Q (.bl b) H') q) (fun v s' z => ?_) fun _ _ x => x
  obtain ⟨b, rfl, H', I', q⟩ := z
  exact ⟨.bl b, H', I', rfl, q⟩
/-- an own def that tells a text -/
structure OTx (K : PySem.W.Frag) (C f : Addr) (m : Str) : Prop where
  at_ : PySem.W.findIn K (.ref C) m = some (some (.ref f))
  fn : PySem.W.isFn K (.ref f) = true
def rTxO (C : Addr) (sp : Sp) : List V → Hp → VK → Prop := fun xs H Q => ∃ (a dx : Addr) (fs : List (Str × V)), xs = [.ref a] ∧ H a = some (.ins C dx fs) ∧ sp [.ref a] H (fun v H' => ∃ y : Str, v = .str y ∧ Q (.str y) H') E0
theorem strback {Q : VK} {v : Value} {s' : Shared} (h : EP X pins σ (fun v H' => ∃ y : Str, v = .str y ∧ Q (.str y) H') v s') : PySem.W.StrBack (EP X pins σ Q) v s' := by
  obtain ⟨z, H', I', rz, y, rfl, q⟩ := h
  obtain ⟨t, rfl⟩ := (show ∃ t, v = Value.str y t from rz)
  exact ⟨.str y, H', I', ⟨t, rfl⟩, q⟩
theorem call_reprO (O : OTx X.K C f "__repr__") (F : FnOk X.prog X.w X.K X.mg X.base CX0 n f fd ps sp) (hb : Binds X.K fd ps []) (hr : Room (n + 1) X.A) : CallR X (.builtin "repr") (rTxO C sp) := by
  intro pins s σ H xs us Q I rv h
  obtain ⟨a, dx, fs, rfl, ha, q⟩ := h
  cases rv with
  | cons e rr =>
    cases rr
    cases e
    obtain ⟨mA, J, _⟩ := ins_get I.hok ha
    obtain ⟨od, J, _⟩ := J.look
    obtain ⟨m, hF⟩ := I.fr
    exact PySem.W.repr_K hr.in1.units0 hF I.ok.mod.kin J O.at_ O.fn (wpAny_mono (own_callN F hb (A := X.A.in1) ⟨hr.in1, rfl⟩ (xs := [.ref a]) (us := [.ref a]) I (.cons rfl .nil) q) (fun v s' z => strback z) fun _ _ x => x)
theorem call_strO (O : OTx X.K C f "__str__") (F : FnOk X.prog X.w X.K X.mg X.base CX0 n f fd ps sp) (hb : Binds X.K fd ps []) (hr : Room (n + 2) X.A) : CallR X (.type "str") (rTxO C sp) := by
  intro pins s σ H xs us Q I rv h
  obtain ⟨a, dx, fs, rfl, ha, q⟩ := h
  cases rv with
  | cons e rr =>
    cases rr
    cases e
    obtain ⟨mA, J, _⟩ := ins_get I.hok ha
    obtain ⟨od, J, _⟩ := J.look
    have hr2 : Room n X.A.in1.in1 := (show Room (n + 1) X.A.in1 from Room.in1 hr).in1
    exact PySem.W.kso_call hr2.units0 I.kIn J O.at_ O.fn (wpAny_mono (own_callN F hb (A := X.A.in1.in1) ⟨hr2, rfl⟩ (xs := [.ref a]) (us := [.ref a]) I (.cons rfl .nil) q) (fun v s' z => strback z) fun _ _ x => x)
/-- {x!s} -/
def tFmtS (C : Addr) (sp : Sp) (te : TE) : TE := fun σ H Q => te σ H fun x H1 => ∃ (a dx : Addr) (fs : List (Str × V)), x = .ref a ∧ H1 a = some (.ins C dx fs) ∧ sp [.ref a] H1 (fun v H' => ∃ y : Str, v = .str y ∧ y.length ≤ sizeLine ∧ Q (.str y) H') E0
theorem pe_fmtS {e : Expr} {te : TE} {pos : Pos} (O : OTx X.K C f "__str__") (F : FnOk X.prog X.w X.K X.mg X.base CX0 n f fd ps sp) (hb : Binds X.K fd ps []) (hr : Room n X.A) (he : PE X e te) : PE X (.FormattedValue e 115 none pos) (tFmtS C sp te) := by
  refine ⟨fun pins s σ H Q I h => ?_⟩
  rw [arm_eval_FormattedValue]
  refine wpAny_bind (wpAny_mono (he.run pins s σ H _ I h) (fun v s1 hv => ?_) fun _ _ x => x)
  obtain ⟨x, H1, I1, r1, a, dx, fs, rfl, ha, q⟩ := hv
  cases (show v = Value.ref a from r1)
  refine wpAny_bind (wpAny_standAt ?_)
  show wpAny _ _ (do let v' ← holding [Value.ref a] (pyStrObj (Value.ref a)); formatField v' Str.empty) _ _ s1
  obtain ⟨mA, J, _⟩ := ins_get I1.hok ha
  obtain ⟨od, J, _⟩ := J.look
  refine wpAny_bind (wpAny_holding (PySem.W.kfo_str hr.units0 I1.kIn J O.at_ O.fn (wpAny_mono (own_callN F hb (A := X.A) ⟨hr, rfl⟩ (xs := [.ref a]) (us := [.ref a]) I1 (.cons rfl .nil) q) (fun v s' z => ?_) fun _ _ x => x)))
  obtain ⟨z, H', I', rz, y, rfl, hz, q⟩ := z
  obtain ⟨t, rfl⟩ := (show ∃ t, v = Value.str y t from rz)
  exact wpAny_formatField_str ⟨.str y, H', I', ⟨t, rfl⟩, q⟩ ⟨.str y, H', I'.tok _, ⟨_, rfl⟩, q⟩ hz
end
end OEQ
/-! ### an own __eq__, __str__, __repr__ by their promises; a class as a value -/
structure CEq (P : Program) (w : World) (K : PySem.W.Frag) (mg : Str → Option Value) (base : Heap) (C : Addr) (k : Nat) (sp : Sp) : Prop where
  ex : ∃ (f : Addr) (fd : FuncData), FnOk P w K mg base CX0 k f fd ["self", "other"] sp ∧ OEQ.OEq K C f ∧ Binds K fd ["self", "other"] []
structure CTx (P : Program) (w : World) (K : PySem.W.Frag) (mg : Str → Option Value) (base : Heap) (C : Addr) (k : Nat) (m : Str) (sp : Sp) : Prop where
  ex : ∃ (f : Addr) (fd : FuncData), FnOk P w K mg base CX0 k f fd ["self"] sp ∧ OEQ.OTx K C f m ∧ Binds K fd ["self"] []
section
variable (K : PySem.W.Frag) {X : Cx} {C : Addr} {k : Nat} {sp : Sp}
theorem kk_eqO (M : CEq X.prog X.w X.K X.mg X.base C k sp) (hr : Room k X.A) (h : X.K = K := by rfl) : OpR X (compareOp .Eq) (OEQ.rEqO K C sp) := by
  obtain ⟨f, fd, F, O, b⟩ := M.ex
  exact h ▸ OEQ.op_eqO O F b hr
theorem kk_neO (M : CEq X.prog X.w X.K X.mg X.base C k sp) (hr : Room (k + 1) X.A) (h : X.K = K := by rfl) : OpR X (compareOp .NotEq) (OEQ.rNeO K C sp) := by
  obtain ⟨f, fd, F, O, b⟩ := M.ex
  exact h ▸ OEQ.op_neO O F b hr
theorem kk_inO (M : CEq X.prog X.w X.K X.mg X.base C k sp) (hr : Room (k + 1) X.A) : OpR X (compareOp .In) (OEQ.rInO C sp) := by
  obtain ⟨f, fd, F, O, b⟩ := M.ex
  exact OEQ.op_inO O F b hr
theorem mt_countO (M : CEq X.prog X.w X.K X.mg X.base C k sp) (hr : Room (k + 1) X.A) : MtR X "list.count" (OEQ.rCountO C sp) := by
  obtain ⟨f, fd, F, O, b⟩ := M.ex
  exact OEQ.mt_countO O F b hr
theorem mt_indexO (M : CEq X.prog X.w X.K X.mg X.base C k sp) (hr : Room (k + 1) X.A) : MtR X "list.index" (OEQ.rIndexO C sp) := by
  obtain ⟨f, fd, F, O, b⟩ := M.ex
  exact OEQ.mt_indexO O F b hr
theorem kk_reprO (M : CTx X.prog X.w X.K X.mg X.base C k "__repr__" sp) (hr : Room (k + 1) X.A) : CallR X (.builtin "repr") (OEQ.rTxO C sp) := by
  obtain ⟨f, fd, F, O, b⟩ := M.ex
  exact OEQ.call_reprO O F b hr
theorem kk_strO (M : CTx X.prog X.w X.K X.mg X.base C k "__str__" sp) (hr : Room (k + 2) X.A) : CallR X (.type "str") (OEQ.rTxO C sp) := by
  obtain ⟨f, fd, F, O, b⟩ := M.ex
  exact OEQ.call_strO O F b hr
theorem pe_fmtSO {e : Expr} {te : TE} {pos : Pos} (M : CTx X.prog X.w X.K X.mg X.base C k "__str__" sp) (hr : Room k X.A) (he : PE X e te) : PE X (.FormattedValue e 115 none pos) (OEQ.tFmtS C sp te) := by
  obtain ⟨f, fd, F, O, b⟩ := M.ex
  exact OEQ.pe_fmtS O F b hr he
end
/-- the class at C, of the name x, as a value: what isinstance asks -/
structure TEq (K : PySem.W.Frag) (mg : Str → Option Value) (C : Addr) (x : Str) : Prop where
  g : mg x = some (.ref C)
  ca : PySem.W.findIn K (.ref C) "__class__" = some (some (.builtin "object.__class__"))
  cn : PySem.W.specialIn K (.builtin "object.__class__") "__get__" = some (some (.builtin "getset_descriptor.__get__"))
  ct : PySem.W.takesIn K (.builtin "object.__class__") = some true
  cm : PySem.W.mroIn K C (.type "object") = some true
  me : PySem.W.kitOne K (.ref C) (.ref C) = some true
  no : ∀ T ∈ (["int", "bool", "str", "NoneType", "list", "tuple"] : List String), PySem.W.kitOne K (.type T) (.ref C) = some false
theorem TEq.tyi {K : PySem.W.Frag} {mg : Str → Option Value} {C a dx : Addr} {x : Str} {H : Hp} {fs : List (Str × V)} (T : TEq K mg C x) (c : Cls K C) (h : H a = some (.ins C dx fs)) : TyX K H (.ref a) (.ref C) := .base (.ins h c T.ca T.cn T.ct T.cm)
theorem kit_self {K : PySem.W.Frag} {t : Addr} : PySem.W.kitOne K (.ref t) (.ref t) = some true := by
  unfold PySem.W.kitOne
  rw [if_pos (beq_self_eq_true _)]
theorem kit_tr {K : PySem.W.Frag} {T : String} {C : Addr} {b : Bool} (hc : PySem.W.isClsIn K C = true) (ht : PySem.W.typeIn K (.ref C) = some (.type "type")) (hs : PySem.W.subIn K (.type T) (.ref C) = some b) : PySem.W.kitOne K (.type T) (.ref C) = some b := by
  have h1 : (Value.type T == Value.ref C) = false := beq_eq_false_iff_ne.mpr fun e => nomatch e
  have h2 : ((PySem.W.clsIn K C).isSome && PySem.W.typeIn K (.ref C) == some (.type "type")) = true := by
    rw [show (PySem.W.clsIn K C).isSome = true from hc, ht]
    rfl
  unfold PySem.W.kitOne
  rw [h1, if_neg (by decide)]
  unfold PySem.W.kitCls
  dsimp only
  rw [if_pos h2]
  exact hs
theorem six_of {T : String} (h : T ∈ (["int", "bool", "str", "NoneType", "list", "tuple"] : List String)) : T = "int" ∨ T = "bool" ∨ T = "str" ∨ T = "NoneType" ∨ T = "list" ∨ T = "tuple" := by simpa using h
/-- of another kind: its type, and isinstance says no -/
theorem OEQ.TyV.tyx {K : PySem.W.Frag} {C : Addr} {H : Hp} {y : V} {tv : Value} (t : OEQ.TyV K C H y tv) (hne : tv ≠ .ref C) : ∃ T : String, tv = .type T ∧ T ∈ (["int", "bool", "str", "NoneType", "list", "tuple"] : List String) ∧ TyX K H y (.type T) := by
  cases t with
  | int i => exact ⟨_, rfl, by decide, .base (.int i)⟩
  | bl b => exact ⟨_, rfl, by decide, .base (.bl b)⟩
  | str x => exact ⟨_, rfl, by decide, .base (.str x)⟩
  | non => exact ⟨_, rfl, by decide, .base .non⟩
  | lst h =>
    rcases h with (h | ⟨o, h⟩) | ⟨o, its, n, hk, hc, _⟩
    · exact ⟨_, rfl, by decide, .base (.lst h)⟩
    · exact ⟨_, rfl, by decide, .base (.frz h)⟩
    · exact ⟨_, rfl, by decide, .kList hk hc⟩
  | tup h =>
    rcases h with (h | ⟨o, h⟩) | ⟨o, its, n, hk, hc, _⟩
    · exact ⟨_, rfl, by decide, .base (.tup h)⟩
    · exact ⟨_, rfl, by decide, .fTuple h⟩
    · exact ⟨_, rfl, by decide, .kTuple hk hc⟩
  | ins h => exact absurd rfl hne
/-! ### C(**d): the keywords out of a dict -/
namespace KWS
open PySem PySem.Spec PyProof.Rows L2
section
variable {prog : Program} {w : World} {K : Type} [DecidableEq K] {knd : KeyKind prog w K} {A : Around} {E : Value → Shared → Prop} {s : Shared}
theorem find_new {d : Addr} {kvs : List (K × Value)} {k : K} {key : Value} {Q : Option Nat → Shared → Prop} (hkey : knd.is k key = true) (hm : s.heap.DictOf knd d kvs) (fresh : k ∉ kvs.map (·.1)) (q : Q none s) :
    wpAny (model prog w) A (dictFind d key (knd.hash k)) Q E s := by
  obtain ⟨o, es, ep, ho, hc, hd, hk, hp, hn⟩ := hm
  refine wpAny_dictFind_of hkey ho hd hk ?_
  have hidx : (es.findIdx? fun e => knd.is k e.key) = kvs.findIdx? fun kv => decide (kv.1 = k) := by
    rw [← hp.findIdx k]; obtain ⟨l⟩ := es; simp
  have e : (kvs.findIdx? fun kv => decide (kv.1 = k)) = none := by
    rw [List.findIdx?_eq_none_iff]
    intro x hx
    exact decide_eq_false fun z => fresh (List.mem_map.mpr ⟨x, hx, z⟩)
  rw [hidx, e]
  exact q
theorem put_new {d : Addr} {kvs : List (K × Value)} {k : K} {key v : Value} {Q : Unit → Shared → Prop} (hkey : knd.is k key = true) (hm : s.heap.DictOf knd d kvs) (fresh : k ∉ kvs.map (·.1))
    (hQ : ∀ h', h'.DictOf knd d (kvs ++ [(k, v)]) → Heap.SameBut d s.heap h' → Q () { s with heap := h' }) (hsz : kvs.length ≤ sizeLine) :
    wpAny (model prog w) A (dictPut d (knd.hash k) key v) Q E s := by
  unfold dictPut
  refine wpAny_bind (find_new hkey hm fresh ?_)
  obtain ⟨o, es, ep, ho, hc, hd, hk, hp, hn⟩ := hm
  have hes : es.size ≤ sizeLine := by
    have e1 := hp.length
    have e2 : es.toList.length = es.size := by simp
    omega
  refine wpAny_updateDictKeys (hz := hes) ho hd (hQ _ ⟨_, _, ep + 1, Heap.get?_update_self _ ho (Obj.isFreed_of_dict (Obj.data_mapDictKeys hd _)),
    hc.mapDictKeys _, Obj.data_mapDictKeys hd _, hk.push hkey _, ?_, ?_⟩ (Heap.SameBut.update ..))
  · have := hp.append hkey (knd.hash k) v
    obtain ⟨l⟩ := es
    simpa using this
  · rw [List.map_append, List.nodup_append]
    refine ⟨hn, by simp, ?_⟩
    intro a ha b hb
    simp only [List.map_cons, List.map_nil, List.mem_singleton] at hb
    subst hb
    exact fun e => fresh (e ▸ ha)
/-- an empty dict d is merged with the dict o -/
theorem merge_map {d o : Addr} {more : List (K × Value)} {Q : Unit → Shared → Prop} (hdo : d ≠ o) (hoS : (o == sysModules) = false) (nr : ∀ k v, knd.is k v = true → ∀ a, v ≠ .ref a)
    (hd : s.heap.DictOf knd d []) (ho : s.heap.DictOf knd o more)
    (hQ : ∀ h', h'.DictOf knd d more → h'.DictOf knd o more → Heap.SameBut d s.heap h' → Q () { s with heap := h' }) (hsz : more.length ≤ sizeLine) :
    wpAny (model prog w) A (mergeMapping d (.ref o) true) Q E s := by
  obtain ⟨od, esd, epd, hod, hcd, hdd, hkd, hpd, hnd⟩ := id hd
  obtain ⟨oo, eso, epo, hoo, hco, hdo', hko, hpo, hno⟩ := id ho
  have hlen : more.length = eso.size := by rw [← hpo.length]; simp
  have h0 : esd = #[] := by
    have := hpd.length
    exact Array.eq_empty_of_size_eq_zero (by simpa using this)
  unfold mergeMapping
  refine wpAny_bind (m := isInstance (.ref o) (.type "dict")) (wpAny_isInstance ho.typeIs isSubtype_dict_dict ?_)
  dsimp only
  rw [if_pos rfl]
  refine wpAny_bind (m := specialOf (.ref o) (Str.ofString "__iter__")) (wpAny_specialOf ho.typeIs PySem.F.slot_dict_iter.lookup (wpAny_bind (wpAny_pure ?_)))
  simp only [beq_self_eq_true]
  rw [if_neg (by rw [hoS]; exact Bool.false_ne_true)]
  refine wpAny_bind (wpAny_dictEntries hod hdd ?_)
  rw [if_pos (by rw [h0]; rfl)]
  refine wpAny_bind (wpAny_dictEntries hoo hdo' ?_)
  have each : ∀ f : DictEntry → PUnit → Sem (ForInStep PUnit), (∀ e ∈ eso.toList, f e PUnit.unit = pure (.yield PUnit.unit)) → forIn eso PUnit.unit f = pure PUnit.unit := fun f hf => by
    rw [← Array.forIn_toList]
    exact forIn_yield_id _ fun e he c => hf e he
  refine wpAny_bind (wpAny_of_eq (each _ fun e he => ?_) ?_)
  · obtain ⟨k, hkey, _⟩ := hko e (Array.mem_toList_iff.mp he)
    have hn := nr k _ hkey
    cases h : e.key <;> first | rfl | exact absurd h (hn _)
  refine wpAny_bind (wpAny_dictEntries hoo hdo' ?_)
  refine wpAny_bind (wpAny_dictEpoch hoo hdo' ?_)
  refine wpAny_bind ?_
  refine wpAny_forIn_list _
    (fun rest _ s' => ∃ h' i, s' = { s with heap := h' } ∧ rest = List.range' i (eso.size - i) ∧ i ≤ eso.size ∧ h'.DictOf knd d (more.take i) ∧ h'.get? o = some oo ∧ Heap.SameBut d s.heap h')
    _ ?_ ?_ _ _ ⟨s.heap, 0, rfl, by simp [List.range_eq_range'], Nat.zero_le _, by simpa using hd, hoo, Heap.SameBut.refl _ _⟩
  · rintro x rest b s' ⟨h', i, rfl, hr, hi, hd', hoo', hs'⟩
    have hlt : i < eso.size := by
      rcases Nat.lt_or_ge i eso.size with h | h
      · exact h
      · rw [Nat.sub_eq_zero_of_le h] at hr; simp at hr
    obtain ⟨rfl, hrest⟩ : x = i ∧ rest = List.range' (i + 1) (eso.size - (i + 1)) := by
      have e : eso.size - i = (eso.size - (i + 1)) + 1 := by omega
      rw [e, List.range'_succ] at hr
      injection hr with h1 h2
      exact ⟨h1, h2⟩
    refine wpAny_bind (wpAny_dictEntries hoo' hdo' ?_)
    rw [Array.getElem?_eq_getElem hlt]
    have hml : x < more.length := by rw [hlen]; exact hlt
    obtain ⟨kv, hkv⟩ : ∃ kv, more[x]? = some kv := ⟨more[x]'hml, List.getElem?_eq_getElem _⟩
    obtain ⟨k, v⟩ := kv
    obtain ⟨hkey, hval⟩ := hpo.get? (e := eso[x]) (by simp [hlt]) hkv
    obtain ⟨k', hkey', hhash⟩ := hko eso[x] (Array.getElem_mem hlt)
    obtain rfl : k' = k := knd.inj _ _ _ hkey' hkey
    have tk : more.take (x + 1) = more.take x ++ [(k', v)] := by rw [List.take_add_one, hkv]; rfl
    have fresh : k' ∉ (more.take x).map (·.1) := by
      have h1 : ((more.take (x + 1)).map (·.1)).Nodup := List.Nodup.sublist ((List.take_sublist _ _).map _) hno
      rw [tk, List.map_append, List.nodup_append] at h1
      exact fun z => h1.2.2 k' z k' (by simp) rfl
    have hmx : (more.take x).length ≤ sizeLine := by
      rw [List.length_take]
      omega
    dsimp only
    rw [if_pos trivial, hhash, hval]
    refine wpAny_bind (wpAny_holding (wpAny_bind (find_new hkey hd' fresh ?_)))
    rw [if_neg (by simp)]
    refine put_new hkey hd' fresh (fun h'' hd'' hs'' => ?_) hmx
    have hoo'' : h''.get? o = some oo := (hs''.2 o (Ne.symm hdo)).trans hoo'
    refine wpAny_bind (wpAny_dictEpoch hoo'' hdo' ?_)
    rw [if_neg (by simp)]
    exact wpAny_pure ⟨h'', x + 1, rfl, hrest, hlt, by rw [tk]; exact hd'', hoo'', hs'.trans hs''⟩
  · rintro b s' ⟨h', i, rfl, hr, hi, hd', hoo', hs'⟩
    have hin : i = eso.size := by
      rcases Nat.lt_or_ge i eso.size with h | h
      · have e : eso.size - i = (eso.size - (i + 1)) + 1 := by omega
        rw [e, List.range'_succ] at hr; exact nomatch hr
      · exact Nat.le_antisymm hi h
    refine wpAny_pure (hQ h' ?_ ⟨oo, eso, epo, hoo', hco, hdo', hko, hpo, hno⟩ hs')
    rw [hin, ← hlen, List.take_length] at hd'; exact hd'
end
section
variable {prog : Program} {w : World} {A : Around} {E : Value → Shared → Prop} {s : Shared}
/-- the keywords that stand in a dict of texts -/
theorem kws_in {f : Value} {d : Addr} {nvs : List (Str × Value)} {Q : List (Str × Value) → Shared → Prop} (hd : s.heap.DictOf (mixKind prog w) d (nvs.map fun p => (Sum.inr p.1, p.2))) (q : Q nvs s) :
    wpAny (model prog w) A (keywordsIn f d) Q E s := by
  obtain ⟨o, es, ep, ho, hc, hdt, hk, hp, hn⟩ := hd
  unfold keywordsIn
  refine wpAny_bind (wpAny_dictEntries ho hdt ?_)
  have hlen : nvs.length = es.size := by
    have := hp.length
    rw [List.length_map] at this
    rw [← this]
    simp
  rw [← Array.forIn_toList]
  refine wpAny_bind (wpAny_forIn_list _ (fun rest b s' => s' = s ∧ ∃ i, rest = es.toList.drop i ∧ i ≤ es.size ∧ b = nvs.take i) _ ?_ ?_ _ _ ⟨rfl, 0, rfl, Nat.zero_le _, rfl⟩)
  · rintro e rest b s' ⟨rfl, i, hr, hi, rfl⟩
    have hlt : i < es.toList.length := by
      rcases Nat.lt_or_ge i es.toList.length with h | h
      · exact h
      · rw [List.drop_of_length_le h] at hr; cases hr
    rw [List.drop_eq_getElem_cons hlt] at hr
    injection hr with he hrest
    have hi' : i < nvs.length := by rw [hlen]; simpa using hlt
    obtain ⟨hkey, hval⟩ := hp.get? (e := e) (by rw [List.getElem?_eq_getElem hlt, he]) (show (nvs.map fun p => ((Sum.inr p.1 : Key), p.2))[i]? = some (Sum.inr (nvs[i]).1, (nvs[i]).2) by rw [List.getElem?_map, List.getElem?_eq_getElem hi']; rfl)
    rcases keyIs_shape (show keyIs (Sum.inr (nvs[i]).1) e.key = true from hkey) with ⟨j, t, h1, _⟩ | ⟨x, t, h1, h2⟩
    · exact nomatch h1
    · have hx := Sum.inr.inj h1
      rw [h2]
      have hz : es.toList.length = es.size := by simp
      refine wpAny_pure ⟨rfl, i + 1, hrest, (by omega), ?_⟩
      rw [List.take_add_one, List.getElem?_eq_getElem hi', hval, ← hx]
      rfl
  · rintro b s' ⟨rfl, i, hr, hi, rfl⟩
    have : es.size ≤ i := by
      rcases Nat.lt_or_ge i es.toList.length with h | h
      · rw [List.drop_eq_getElem_cons h] at hr; cases hr
      · simpa using h
    rw [List.take_of_length_le (by omega)]
    exact wpAny_pure q
/-- the keywords of C(**x) -/
theorem merged_one {f : Value} {x : Sem Value} {Q : Addr → Shared → Prop}
    (h : wpAny (model prog w) A x (fun v s1 => ∃ (o : Addr) (more : List (Key × Value)), v = .ref o ∧ s.heap.objs.size ≠ o ∧ (o == sysModules) = false ∧ s1.heap.DictOf (mixKind prog w) s.heap.objs.size [] ∧ s1.heap.DictOf (mixKind prog w) o more ∧ more.length ≤ sizeLine ∧
      ∀ h', h'.DictOf (mixKind prog w) s.heap.objs.size more → h'.DictOf (mixKind prog w) o more → Heap.SameBut s.heap.objs.size s1.heap h' → Q s.heap.objs.size { s1 with heap := h' }) E { s with heap := s.heap.push { cls := .type "dict", data := .dict #[] } }) :
    wpAny (model prog w) A (mergedKeywords f [(none, x)]) Q E s := by
  unfold mergedKeywords
  refine wpAny_bind (wpAny_alloc ?_)
  refine wpAny_bind (wpAny_holding ?_)
  dsimp only
  rw [List.forIn_cons]
  dsimp only
  refine wpAny_bind (wpAny_bind (wpAny_bind ?_))
  rw [if_pos (by rfl)]
  refine wpAny_pure (wpAny_bind (wpAny_mono h (fun v s1 hv => ?_) fun _ _ e => e))
  obtain ⟨o, more, rfl, hdo, hoS, hd, ho, hsz, q⟩ := hv
  refine wpAny_bind (wpAny_onRaise (wpAny_holding (wpAny_tryCatch (wpAny_onRaise (merge_map hdo hoS (fun k v hk a e => ?_) hd ho (fun h' h1 h2 h3 => ?_) hsz)))))
  · rw [e] at hk
    rcases keyIs_shape hk with ⟨j, t, _, h2⟩ | ⟨x, t, _, h2⟩ <;> exact nomatch h2
  · refine wpAny_pure ?_
    dsimp only
    rw [List.forIn_nil]
    refine wpAny_pure ?_
    rw [if_pos (by rfl)]
    exact wpAny_pure (wpAny_pure (q h' h1 h2 h3))
theorem lk_mem {α β : Type} [BEq α] [LawfulBEq α] : ∀ {l : List (α × β)} {p : α × β}, (l.map (·.1)).Nodup → p ∈ l → l.lookup p.1 = some p.2
  | (a, b) :: r, p, hn, hp => by
    rw [List.map_cons, List.nodup_cons] at hn
    rw [List.lookup_cons]
    rcases List.mem_cons.mp hp with rfl | hp
    · rw [beq_self_eq_true]
    · have : (p.1 == a) = false := beq_eq_false_iff_ne.mpr fun e => hn.1 (List.mem_map.mpr ⟨p, hp, e⟩)
      rw [this]
      exact lk_mem hn.2 hp
theorem lk_none {α β : Type} [BEq α] [LawfulBEq α] : ∀ {l : List (α × β)} {k : α}, k ∉ l.map (·.1) → l.lookup k = none
  | [], _, _ => rfl
  | (a, b) :: r, k, h => by
    rw [List.map_cons, List.mem_cons, not_or] at h
    rw [List.lookup_cons, beq_eq_false_iff_ne.mpr h.1]
    exact lk_none h.2
theorem fm_map {α β : Type} {f : α → Option β} {g : α → β} : ∀ {l : List α}, (∀ n ∈ l, f n = some (g n)) → l.filterMap f = l.map g
  | [], _ => rfl
  | a :: r, h => by
    rw [List.filterMap_cons, h a List.mem_cons_self, List.map_cons, fm_map fun n hn => h n (List.mem_cons_of_mem _ hn)]
theorem zip_fst {α β : Type} : ∀ {l : List α} {r : List β}, l.length = r.length → (l.zip r).map (·.1) = l
  | [], _, _ => rfl
  | a :: l, [], h => by simp at h
  | a :: l, b :: r, h => by
    rw [List.zip_cons_cons, List.map_cons, zip_fst (by simpa using h)]
/-- a def's parameters by one value and keywords -/
theorem binds_kw {qual x : Str} {params : Arguments} {body : List Stmt} {scope : Scope} {T : Addr} {o : Obj} {kV doc pm cdv ct u : Value} {an : Option Addr} {its ws : List Value} {self : Str} {req opts ks : List Str} {M : Model}
    (h1 : params.posonlyargs = []) (h2 : params.args.map (·.arg) = self :: (req ++ opts)) (h3 : params.kwonlyargs = []) (h4 : params.vararg.isNone = true) (h4' : params.vararg = none) (h5 : params.kwarg = none)
    (hT : s.heap.get? T = some o) (hl : its.length = opts.length) (hn : (self :: (req ++ opts)).Nodup) (hk : ks.Nodup) (hs : ∀ k ∈ ks, k ∈ req ++ opts) (hr : ∀ k ∈ req, k ∈ ks) (hw : ws.length = ks.length)
    (hit : ∀ (Q : Option (Array Value) → Shared → Prop), Q (some its.toArray) s → wpAny M A (seqItems? (.ref T)) Q E s) {Q : List (Str × Value) → Shared → Prop}
    (q : Q ((self, u) :: (req.map fun k => (k, ((ks.zip ws).lookup k).getD .none)) ++ (opts.zip its).map fun p => (p.1, ((ks.zip ws).lookup p.1).getD p.2)) s) :
    wpAny M A (bindArgs (PySem.W.fnOf x qual params body scope (.ref T) kV doc pm an cdv ct) ⟨[u], ks.zip ws⟩) Q E s := by
  unfold bindArgs
  simp only [PySem.W.fnOf, h1, h2, h3, h4', h5, List.map_nil, List.nil_append, List.append_nil]
  have kz : (ks.zip ws).map (·.1) = ks := zip_fst hw.symm
  have oz : (opts.zip its).map (·.1) = opts := zip_fst hl.symm
  rw [List.nodup_cons, List.nodup_append] at hn
  obtain ⟨hself, hreq, hopt, hdis⟩ := hn
  have self_k : self ∉ ks := fun h => hself (hs _ h)
  refine wpAny_bind (wpAny_forIn_list _ (fun rest b s' => s' = s ∧ ∃ i, rest = (ks.zip ws).drop i ∧ i ≤ ks.length ∧ b = ((self, u) :: (ks.zip ws).take i, [])) _ ?_ ?_ _ _ ⟨rfl, 0, rfl, Nat.zero_le _, by simp⟩)
  · rintro e rest b s' ⟨rfl, i, hr', hi, rfl⟩
    have hzl : (ks.zip ws).length = ks.length := by rw [List.length_zip, hw, Nat.min_self]
    have hlt : i < (ks.zip ws).length := by
      rcases Nat.lt_or_ge i (ks.zip ws).length with h | h
      · exact h
      · rw [List.drop_of_length_le h] at hr'; cases hr'
    rw [List.drop_eq_getElem_cons hlt] at hr'
    injection hr' with he hrest
    have hm : e.1 ∈ ks := by
      rw [← kz, he]
      exact List.mem_map.mpr ⟨_, List.getElem_mem hlt, rfl⟩
    have hc : ((self :: (req ++ opts)).contains e.1 || ([] : List Str).contains e.1) = true := by
      rw [Bool.or_eq_true]
      exact .inl (List.contains_iff_mem.mpr (List.mem_cons_of_mem _ (hs _ hm)))
    have hnd : ((ks.zip ws).map (·.1)).Nodup := by rw [kz]; exact hk
    have fresh : e.1 ∉ (((self, u) :: (ks.zip ws).take i).map (·.1)) := by
      rw [List.map_cons, List.mem_cons, not_or]
      refine ⟨fun z => self_k (by rw [← (show e.1 = self from z)]; exact hm), fun z => ?_⟩
      have h1 : (((ks.zip ws).take (i + 1)).map (·.1)).Nodup := List.Nodup.sublist ((List.take_sublist _ _).map _) hnd
      rw [List.take_add_one, List.getElem?_eq_getElem hlt, ← he, List.map_append, List.nodup_append] at h1
      exact h1.2.2 e.1 z e.1 (by simp) rfl
    dsimp only
    rw [if_pos hc, lk_none fresh, if_neg (by simp)]
    refine wpAny_pure ⟨rfl, i + 1, hrest, by omega, ?_⟩
    rw [List.take_add_one, List.getElem?_eq_getElem hlt, ← he]
    rfl
  · rintro b s' ⟨rfl, i, hr', hi, rfl⟩
    have hzl : (ks.zip ws).length = ks.length := by rw [List.length_zip, hw, Nat.min_self]
    have hge : (ks.zip ws).length ≤ i := by
      rcases Nat.lt_or_ge i (ks.zip ws).length with h | h
      · rw [List.drop_eq_getElem_cons h] at hr'; cases hr'
      · exact h
    rw [List.take_of_length_le hge]
    dsimp only
    refine wpAny_bind (hit _ ?_)
    have e1 : ((some its.toArray).getD #[]).toList = its := by simp
    have e2 : (self :: (req ++ opts)).length = 1 + req.length + opts.length := by simp; omega
    have e3 : its.length - (self :: (req ++ opts)).length = 0 := by omega
    have e4 : (self :: (req ++ opts)).length - its.length = (self :: req).length := by rw [e2, List.length_cons]; omega
    have e5 : (self :: (req ++ opts)).take (self :: req).length = self :: req := by
      rw [← List.cons_append]
      exact List.take_left
    have e6 : (self :: (req ++ opts)).drop (self :: req).length = opts := by
      rw [← List.cons_append]
      exact List.drop_left
    have e7 : (self :: req).filter (fun n => (List.lookup n ((self, u) :: ks.zip ws)).isNone) = [] := by
      rw [List.filter_eq_nil_iff]
      intro n hn
      rcases List.mem_cons.mp hn with rfl | hn
      · rw [List.lookup_cons, beq_self_eq_true]
        simp
      · have h1 : n ∈ (ks.zip ws).map (·.1) := by rw [kz]; exact hr n hn
        obtain ⟨p, hp, rfl⟩ := List.mem_map.mp h1
        rw [List.lookup_cons, beq_eq_false_iff_ne.mpr (fun z : p.1 = self => hself (z ▸ List.mem_append_left _ hn))]
        rw [lk_mem (by rw [kz]; exact hk) hp]
        simp
    simp only [e1, e3, List.drop_zero, e4, e5, e6, e7]
    rw [if_neg (by simp)]
    rw [if_neg (show ¬ ((!([] : List Str).isEmpty) = true) by decide)]
    have hnd : ((ks.zip ws).map (·.1)).Nodup := by rw [kz]; exact hk
    have ond : ((opts.zip its).map (·.1)).Nodup := by rw [oz]; exact hopt
    have look : ∀ (D : List (Str × Value)) (k : Str), k ≠ self → List.lookup k ((self, u) :: ks.zip ws ++ D) = ((ks.zip ws).lookup k).or (D.lookup k) := fun D k nk => by
      rw [List.lookup_append, List.lookup_cons, beq_eq_false_iff_ne.mpr nk]
    have inK : ∀ k, k ∈ ks → ∃ v, (ks.zip ws).lookup k = some v := fun k h => by
      rw [← kz] at h
      obtain ⟨p, hp, rfl⟩ := List.mem_map.mp h
      exact ⟨p.2, lk_mem hnd hp⟩
    have outK : ∀ k, k ∉ ks → (ks.zip ws).lookup k = none := fun k h => lk_none (by rw [kz]; exact h)
    have optn : ∀ p ∈ opts.zip its, p.1 ≠ self := fun p hp e => hself (List.mem_append_right _ (by
      rw [← oz, ← e]
      exact List.mem_map.mpr ⟨p, hp, rfl⟩))
    refine wpAny_bind (wpAny_forIn_list _ (fun rest b s2 => s2 = s' ∧ ∃ i, rest = (opts.zip its).drop i ∧ b = ((self, u) :: ks.zip ws) ++ ((opts.zip its).take i).filter (fun p => !ks.contains p.1)) _ ?_ ?_ _ _ ⟨rfl, 0, rfl, by simp⟩)
    · rintro e rest b s2 ⟨rfl, i, hr', rfl⟩
      have hlt : i < (opts.zip its).length := by
        rcases Nat.lt_or_ge i (opts.zip its).length with h | h
        · exact h
        · rw [List.drop_of_length_le h] at hr'; cases hr'
      rw [List.drop_eq_getElem_cons hlt] at hr'
      injection hr' with he hrest
      have em : e ∈ opts.zip its := by rw [he]; exact List.getElem_mem hlt
      have nse := optn e em
      have tk : (opts.zip its).take (i + 1) = (opts.zip its).take i ++ [e] := by
        rw [List.take_add_one, List.getElem?_eq_getElem hlt, ← he]
        rfl
      have hD : (((opts.zip its).take i).filter (fun p => !ks.contains p.1)).lookup e.1 = none := by
        refine lk_none fun z => ?_
        obtain ⟨p, hp, hpe⟩ := List.mem_map.mp z
        have h1 : (((opts.zip its).take (i + 1)).map (·.1)).Nodup := List.Nodup.sublist ((List.take_sublist _ _).map _) ond
        rw [tk, List.map_append, List.nodup_append] at h1
        exact h1.2.2 e.1 (List.mem_map.mpr ⟨p, (List.mem_filter.mp hp).1, hpe⟩) e.1 (by simp) rfl
      rw [look _ _ nse, hD]
      by_cases hk1 : e.1 ∈ ks
      · obtain ⟨v, hv⟩ := inK _ hk1
        rw [hv, if_neg (by simp)]
        refine wpAny_pure ⟨rfl, i + 1, hrest, ?_⟩
        rw [tk, List.filter_append, List.filter_cons_of_neg (by simp [hk1])]
        simp
      · rw [outK _ hk1, if_pos (by simp)]
        refine wpAny_pure ⟨rfl, i + 1, hrest, ?_⟩
        rw [tk, List.filter_append, List.filter_cons_of_pos (by simp [hk1])]
        simp
    · rintro b s2 ⟨rfl, i, hr', rfl⟩
      have hge : (opts.zip its).length ≤ i := by
        rcases Nat.lt_or_ge i (opts.zip its).length with h | h
        · rw [List.drop_eq_getElem_cons h] at hr'; cases hr'
        · exact h
      rw [List.take_of_length_le hge]
      rw [List.forIn_nil]
      refine wpAny_bind (wpAny_pure ?_)
      dsimp only
      rw [if_neg (show ¬ ((!([] : List Str).isEmpty) = true) by decide)]
      refine wpAny_pure ?_
      have hS : (self :: (req ++ opts)).filterMap (fun n => Option.map (fun x => (n, x)) (List.lookup n (((self, u) :: ks.zip ws) ++ (opts.zip its).filter (fun p => !ks.contains p.1)))) =
          (self, u) :: (req.map fun k => (k, ((ks.zip ws).lookup k).getD .none)) ++ (opts.zip its).map fun p => (p.1, ((ks.zip ws).lookup p.1).getD p.2) := by
        rw [List.filterMap_cons, List.filterMap_append]
        have a1 : List.lookup self (((self, u) :: ks.zip ws) ++ (opts.zip its).filter (fun p => !ks.contains p.1)) = some u := by
          rw [List.cons_append, List.lookup_cons, beq_self_eq_true]
        rw [a1]
        have a2 := fm_map (f := fun n => Option.map (fun x => (n, x)) (List.lookup n (((self, u) :: ks.zip ws) ++ (opts.zip its).filter (fun p => !ks.contains p.1)))) (g := fun k => (k, ((ks.zip ws).lookup k).getD Value.none)) (l := req) fun n hn => by
          have ns : n ≠ self := fun e => hself (e ▸ List.mem_append_left _ hn)
          obtain ⟨v, hv⟩ := inK n (hr n hn)
          rw [look _ _ ns, hv]
          rfl
        have a3 := fm_map (f := fun p : Str × Value => Option.map (fun x => (p.1, x)) (List.lookup p.1 (((self, u) :: ks.zip ws) ++ (opts.zip its).filter (fun p => !ks.contains p.1)))) (g := fun p => (p.1, ((ks.zip ws).lookup p.1).getD p.2)) (l := opts.zip its) fun p hp => by
          rw [look _ _ (optn p hp)]
          by_cases hk1 : p.1 ∈ ks
          · obtain ⟨v, hv⟩ := inK _ hk1
            rw [hv]
            rfl
          · rw [outK _ hk1, Option.none_or, lk_mem (List.Nodup.sublist (List.filter_sublist.map _) ond) (List.mem_filter.mpr ⟨hp, by simp [hk1]⟩)]
            rfl
        have a4 : opts.filterMap (fun n => Option.map (fun x => (n, x)) (List.lookup n (((self, u) :: ks.zip ws) ++ (opts.zip its).filter (fun p => !ks.contains p.1)))) = (opts.zip its).filterMap (fun p => Option.map (fun x => (p.1, x)) (List.lookup p.1 (((self, u) :: ks.zip ws) ++ (opts.zip its).filter (fun p => !ks.contains p.1)))) := by
          have := List.filterMap_map (f := fun p : Str × Value => p.1) (g := fun n => Option.map (fun x => (n, x)) (List.lookup n (((self, u) :: ks.zip ws) ++ (opts.zip its).filter (fun p => !ks.contains p.1)))) (l := opts.zip its)
          rw [oz] at this
          exact this
        rw [a2, a4, a3]
        rfl
      rw [hS]
      exact q
end
def vsK (req opts : List Str) (dvs : List V) (nvs : List (Str × V)) : List V := (req.map fun k => (nvs.lookup k).getD .non) ++ (opts.zip dvs).map fun p => (nvs.lookup p.1).getD p.2
structure CMkS (CX : CXT) (P : Program) (w : World) (K : PySem.W.Frag) (mg : Str → Option Value) (base : Heap) (C : Addr) (k : Nat) (x : Str) (me : Str) (req opts : List Str) (dvs : List V) (sp : Sp) : Prop where
  ex : ∃ (f : Addr) (fd : FuncData) (its : List Value), FnOk P w K mg base CX k f fd (me :: (req ++ opts)) sp ∧ Mk K C f ∧ mg x = some (.ref C) ∧ Vals dvs its ∧ dvs.length = opts.length ∧
    ∀ (s : Shared) (u : Value) (ks : List Str) (ws : List Value), K.In s.heap → ks.Nodup → (∀ k ∈ ks, k ∈ req ++ opts) → (∀ k ∈ req, k ∈ ks) → ws.length = ks.length →
      BindsTo s fd ⟨[u], ks.zip ws⟩ ((me :: (req ++ opts)).zip (u :: ((req.map fun k => ((ks.zip ws).lookup k).getD .none) ++ (opts.zip its).map fun p => ((ks.zip ws).lookup p.1).getD p.2)))
def tMakeS (C : Addr) (sp : Sp) (req opts : List Str) (dvs : List V) (E : XK) (te : TE) : TE := fun σ H Q => ∀ d, H d = none → te σ (upd H d (.dK [])) fun x H1 => ∃ (a : Addr) (nvs : List (Str × V)), x = .ref a ∧ a ≠ d ∧ H1 d = some (.dK []) ∧
  H1 a = some (.dK (nvs.map fun p => (Sum.inr p.1, p.2))) ∧ (nvs.map (·.1)).Nodup ∧ (∀ k ∈ nvs.map (·.1), k ∈ req ++ opts) ∧ (∀ k ∈ req, k ∈ nvs.map (·.1)) ∧
  ∀ x dx, upd H1 d (.dK (nvs.map fun p => (Sum.inr p.1, p.2))) x = none → upd H1 d (.dK (nvs.map fun p => (Sum.inr p.1, p.2))) dx = none → dx ≠ x →
    sp (.ref x :: vsK req opts dvs nvs) (upd (upd (upd H1 d (.dK (nvs.map fun p => (Sum.inr p.1, p.2)))) dx (.own x)) x (.ins C dx [])) (fun v H2 => v = .non ∧ Q (.ref x) H2) E
theorem kv_split {nvs : List (Str × V)} : ∀ {vs : List (Key × Value)}, KV (nvs.map fun p => ((Sum.inr p.1 : Key), p.2)) vs → ∃ ws : List Value, vs = ((nvs.map (·.1)).zip ws).map (fun p => (Sum.inr p.1, p.2)) ∧ ws.length = (nvs.map (·.1)).length ∧ Vals (nvs.map (·.2)) ws := by
  induction nvs with
  | nil =>
    intro vs h
    cases h
    exact ⟨[], rfl, rfl, .nil⟩
  | cons p r ih =>
    intro vs h
    cases h with
    | cons h1 h2 =>
      rename_i q t
      obtain ⟨ws, rfl, hl, hv⟩ := ih h2
      obtain ⟨k, v⟩ := q
      obtain ⟨e1, e2⟩ := h1
      simp only at e1 e2
      subst e1
      exact ⟨v :: ws, rfl, by simp [hl], .cons e2 hv⟩
theorem lk_rel {nvs : List (Str × V)} {ws : List Value} (k : Str) (hv : Vals (nvs.map (·.2)) ws) {d : V} {e : Value} (hd : RelV d e) : RelV ((nvs.lookup k).getD d) ((((nvs.map (·.1)).zip ws).lookup k).getD e) := by
  induction nvs generalizing ws with
  | nil =>
    cases hv
    exact hd
  | cons p r ih =>
    cases hv with
    | cons h1 h2 =>
      obtain ⟨n, v⟩ := p
      rw [List.map_cons, List.zip_cons_cons, List.lookup_cons, List.lookup_cons]
      by_cases c : (k == n) = true
      · rw [c]
        exact h1
      · rw [Bool.not_eq_true] at c
        rw [c]
        exact ih h2
theorem vs_rel {req opts : List Str} {dvs : List V} {its : List Value} {nvs : List (Str × V)} {ws : List Value} (hv : Vals (nvs.map (·.2)) ws) (hd : Vals dvs its) :
    Vals (vsK req opts dvs nvs) ((req.map fun k => (((nvs.map (·.1)).zip ws).lookup k).getD .none) ++ (opts.zip its).map fun p => (((nvs.map (·.1)).zip ws).lookup p.1).getD p.2) := by
  refine Vals.append ?_ ?_
  · induction req with
    | nil => exact .nil
    | cons k r ih => exact .cons (lk_rel k hv rfl) ih
  · induction opts generalizing dvs its with
    | nil => exact .nil
    | cons k r ih =>
      cases hd with
      | nil => exact .nil
      | cons h1 h2 => exact .cons (lk_rel k hv h1) (ih h2)
section
variable {X : Cx} {CX : CXT} {k : Nat} {C : Addr} {x me : Str} {req opts : List Str} {dvs : List V} {sp : Sp} {E : XK} {p pos kpos : Pos} {e : Expr} {te : TE}
theorem callWith_D {M : Model} {A : Around} {E : Value → Shared → Prop} {s : Shared} {K : PySem.W.Frag} {f : Value} {y : Sem Value} {pos : Pos} {Q : Value → Shared → Prop} (hk : PySem.W.keepIn K f = true)
    (h : wpAny M A (mergedKeywords f [(none, y)]) (fun d s1 => wpAny M A (keywordsIn f d) (fun kw s2 => K.In s2.heap ∧ wpAny M A (call f [] kw) Q E s2) E s1) E s) : wpAny M A (callWith pos f [] [] [(none, y)]) Q E s := by
  unfold callWith
  refine wpAny_bind (wpAny_holding ?_)
  have ev : wpAny M A (evalArgs f true [] [(none, y)]) (fun a s2 => a.pos = [] ∧ K.In s2.heap ∧ wpAny M A (call f [] a.kw) Q E s2) E s := by
    unfold evalArgs
    dsimp only
    refine wpAny_bind (wpAny_of_eq (show spliced [] = pure [] by rfl) (wpAny_bind (wpAny_pure ?_)))
    refine wpAny_holding ?_
    dsimp only
    rw [if_neg (by simp)]
    refine wpAny_bind (wpAny_mono h (fun d s1 h1 => ?_) fun _ _ e => e)
    refine wpAny_bind (wpAny_pure ?_)
    refine wpAny_bind (wpAny_holding (wpAny_mono h1 (fun kw s2 h2 => ?_) fun _ _ e => e))
    exact wpAny_pure ⟨rfl, h2⟩
  refine wpAny_mono ev (fun a s2 h2 => ?_) fun _ _ e => e
  obtain ⟨ep, hK, h2⟩ := h2
  refine wpAny_bind (wpAny_standAt ?_)
  obtain ⟨k, hk', L⟩ := PySem.W.keeps_K (M := M) hk _ hK
  rw [ep]
  simp only [List.any_nil, List.any_cons, Option.isNone_none, Bool.true_or, Bool.or_true, Bool.false_or]
  refine wpAny_bind (L.here ?_)
  have tail : ∀ {t : Sem Value}, wpAny M A t Q E s2 → wpAny M A (t >>= fun r => holding [r] point >>= fun _ => pure r) Q E s2 :=
    fun ht => wpAny_bind (wpAny_mono ht (fun r s₂ hr => wpAny_bind (wpAny_holding (wpAny_point (wpAny_pure hr)))) fun _ _ x => x)
  have marked (mk : Value) : wpAny M A (callMarked mk f [] a.kw) Q E s2 := by unfold callMarked; exact Calls.wpAny_keep h2
  rcases hk' with rfl | rfl | rfl <;> dsimp only <;> first | exact tail (marked _) | exact tail (PySem.W.wpAny_operating h2) | exact tail (wpAny_operating h2)
theorem pe_mkS (M : CMkS CX X.prog X.w X.K X.mg X.base C k x me req opts dvs sp) (hr : Room (k + 1) X.A) (hg : Gl X x) (hx : Passes CX X E) (he : PE X e te) (hdb : (x == ("__debug__" : Str)) = false := by decide) :
    PE X (.Call (.Name x p) [] [⟨none, e, kpos⟩] pos) (tMakeS C sp req opts dvs E te) := by
  obtain ⟨f, fd, its, F, Mk, hm, rd, hdl, hb⟩ := M.ex
  refine ⟨fun pins s σ H Q I h => ?_⟩
  refine wpAny_Call_Name_kw (ld_glob I hg hm ?_ hdb)
  have hkk : backToKw pos (keywordEach [⟨none, e, kpos⟩] X.env) = [(none, (do let v ← eval e X.env; standAt pos; pure v))] := by rfl
  have hss : backTo pos (starEach [] X.env) = [] := by rfl
  rw [hkk, hss]
  refine callWith_D Mk.kp (merged_one ?_)
  have hd0 : H s.heap.objs.size = none := I.hok.fresh (Nat.le_refl _)
  have big : (s.heap.objs.size == sysModules) = false := beq_eq_false_iff_ne.mpr (Nat.ne_of_gt I.big)
  have I0 := I.laid (a := s.heap.objs.size) (o := .dK []) (h' := s.heap.push { cls := .type "dict", data := .dict #[] }) (t' := s.toks) (fun b u q => Heap.get?_push_of_some _ q) (Nat.le_refl _) (dk_new (Nat.zero_le _) big .nil (Heap.DictOf.new s.heap))
  refine wpAny_bind (thn (he.run pins _ σ _ _ I0 (h _ hd0)) fun v s1 hv => wpAny_bind (wpAny_standAt (wpAny_pure ?_)))
  obtain ⟨y, H1, I1, ry, a, nvs, rfl, nad, hd1, ha, nd, sub, hreq, q⟩ := hv
  cases (show v = Value.ref a from ry)
  obtain ⟨_, _, vs0, r0, D0⟩ := dk_of I1.hok hd1
  cases r0
  obtain ⟨z, nsys, vs, rel, D1⟩ := dk_of I1.hok ha
  refine ⟨a, vs, rfl, nad.symm, nsys, D0, D1, by rw [← rel.length]; exact z, fun h' d1 d2 sb => ?_⟩
  have hex : ∃ q, h'.get? s.heap.objs.size = some q := let ⟨q, _, _, hq, _⟩ := d1; ⟨q, hq⟩
  have I2 := d_write (t' := s1.toks) I1 (by rw [hd1]; exact True.intro) sb hex (dk_new z big rel d1)
  have q2 := q
  obtain ⟨ws, rfl, hwl, hv⟩ := kv_split rel
  refine kws_in d1 ⟨I2.kIn, ?_⟩
  generalize upd H1 s.heap.objs.size (.dK (nvs.map fun p => (Sum.inr p.1, p.2))) = H2 at *
  generalize hs2 : ({ s1 with heap := h', toks := s1.toks } : Shared) = s2 at I2
  have hq := q (s2.heap.objs.size + 1) s2.heap.objs.size (I2.hok.fresh (Nat.le_succ _)) (I2.hok.fresh (Nat.le_refl _)) (Nat.ne_of_lt (Nat.lt_succ_self _))
  have I3 := Inv.made (C := C) I2
  have r2 : Vals (V.ref (s2.heap.objs.size + 1) :: vsK req opts dvs nvs) (Value.ref (s2.heap.objs.size + 1) :: ((req.map fun k => (((nvs.map (·.1)).zip ws).lookup k).getD .none) ++ (opts.zip its).map fun p => (((nvs.map (·.1)).zip ws).lookup p.1).getD p.2)) := .cons rfl (vs_rel hv rd)
  refine wpAny_call (make_map (f := f) I2.kIn Mk.makes Mk.init (beq_iff_eq.mp Mk.fn) (codeAny_mono (F.run _ X.stack _ _ ⟨[Value.ref (s2.heap.objs.size + 1)], (nvs.map (·.1)).zip ws⟩ _ _ _ E (hr.make C [] ((nvs.map (·.1)).zip ws))
    (I3.env0.make C [] ((nvs.map (·.1)).zip ws)) (hb _ _ _ _ I3.kIn nd sub hreq hwl) r2 hq) fun r s' hq' => ?_))
  cases r with
  | error e => exact hx pins σ _ _ e s' I3 hq'
  | ok fl =>
    cases fl with
    | ret u =>
      obtain ⟨v, H', I4, rv, ev, q3⟩ := I3.after hq'
      subst ev
      exact ⟨rv, ⟨V.ref (s2.heap.objs.size + 1), H', I4, rfl, q3⟩⟩
    | next => exact False.elim hq'
    | brk => exact False.elim hq'
    | cont => exact False.elim hq'
end
theorem zip_map {α β : Type} (f : α → β) : ∀ l : List α, l.zip (l.map f) = l.map fun a => (a, f a)
  | [] => rfl
  | a :: r => by rw [List.map_cons, List.zip_cons_cons, zip_map f r, List.map_cons]
theorem zip_map2 {α β γ : Type} (g : α × β → γ) : ∀ (l : List α) (r : List β), l.length = r.length → l.zip ((l.zip r).map g) = (l.zip r).map fun p => (p.1, g p)
  | [], _, _ => rfl
  | a :: l, [], h => by simp at h
  | a :: l, b :: r, h => by rw [List.zip_cons_cons, List.map_cons, List.zip_cons_cons, zip_map2 g l r (by simpa using h), List.map_cons]
theorem starK {K : PySem.W.Frag} {x qual : Str} {params : Arguments} {body : List Stmt} {scope : Scope} {dvs : List V} {kws : List (Str × V)} {f : Addr} {fd : FuncData} {me : Str} {req opts : List Str} (F : FunD K x qual params body scope dvs kws f fd) (hd : dvs ≠ [])
    (h1 : params.posonlyargs = []) (h2 : params.args.map (·.arg) = me :: (req ++ opts)) (h3 : params.kwonlyargs = []) (h4 : params.vararg = none) (h5 : params.kwarg = none) (hl : dvs.length = opts.length) (hn : (me :: (req ++ opts)).Nodup) :
    ∃ its : List Value, Vals dvs its ∧ dvs.length = opts.length ∧ ∀ (s : Shared) (u : Value) (ks : List Str) (ws : List Value), K.In s.heap → ks.Nodup → (∀ k ∈ ks, k ∈ req ++ opts) → (∀ k ∈ req, k ∈ ks) → ws.length = ks.length →
      BindsTo s fd ⟨[u], ks.zip ws⟩ ((me :: (req ++ opts)).zip (u :: ((req.map fun k => ((ks.zip ws).lookup k).getD .none) ++ (opts.zip its).map fun p => ((ks.zip ws).lookup p.1).getD p.2))) := by
  obtain ⟨oc, od, dV, kV, doc, pm, an, cdv, ct, osl, rfl, lk, hcd, hD, hK⟩ := F.ex
  rcases hD with ⟨e, _⟩ | ⟨_, T, o, its, m, rfl, lT, oT, rT⟩
  · exact absurd e hd
  · refine ⟨its, rT, hl, fun s u ks ws X nd sub hreq hw M A E Q q => ?_⟩
    have hil : its.length = opts.length := rT.length.symm.trans hl
    refine binds_kw (o := o) h1 h2 h3 (by rw [h4]; rfl) h4 h5 (X _ _ lT) hil hn nd sub hreq hw (fun R hR => ?_) ?_
    · have L : PySem.W.Looks M s.heap (seqItems? (.ref T) >>= fun r => pure r) (some its.toArray) := looks_items X lT oT (.of_pure rfl)
      rw [bind_pure] at L
      exact L.here hR
    · have e : (me :: (req ++ opts)).zip (u :: ((req.map fun k => ((ks.zip ws).lookup k).getD .none) ++ (opts.zip its).map fun p => ((ks.zip ws).lookup p.1).getD p.2)) = (me, u) :: (req.map fun k => (k, ((ks.zip ws).lookup k).getD .none)) ++ (opts.zip its).map fun p => (p.1, ((ks.zip ws).lookup p.1).getD p.2) := by
        rw [List.zip_cons_cons, List.zip_append (by rw [List.length_map]), zip_map, zip_map2 _ _ _ hil.symm]
        rfl
      rw [e] at q
      exact q
end KWS
/-! ### dict(d), d.update(e) -/
theorem call_dictD {X : Cx} : CallR X (.type "dict") (fun xs H Q => ∃ (a : Addr) (kvs : List (Key × V)), xs = [.ref a] ∧ H a = some (.dK kvs) ∧ ∀ p, H p = none → Q (.ref p) (upd H p (.dK kvs))) := by
  intro pins s σ H xs us Q I r h
  obtain ⟨a, kvs, rfl, ha, q⟩ := h
  obtain ⟨u, rfl, ru⟩ := r.one
  cases ru
  exact d_copyOf I (.inl ha) fun p s' hp I' => ⟨.ref p, _, I', rfl, q p hp⟩
def rUpdD : V → List V → Hp → VK → Prop := fun x xs H Q => ∃ (d o : Addr) (kvs more : List (Key × V)), x = .ref d ∧ xs = [.ref o] ∧ d ≠ o ∧ H d = some (.dK kvs) ∧ H o = some (.dK more) ∧ kvs.length + more.length ≤ sizeLine ∧ Q .non (upd H d (.dK (mergeK kvs more)))
theorem mt_update {X : Cx} : MtR X "dict.update" rUpdD := by
  intro pins s σ H x xs v us Q I rx rxs h
  obtain ⟨d, o, kvs, more, rfl, rfl, ne, hd, ho, hl, q⟩ := h
  cases rx
  obtain ⟨u, rfl, ru⟩ := rxs.one
  cases ru
  obtain ⟨z1, n1, vs, r1, D1⟩ := dk_of I.hok hd
  obtain ⟨z2, n2, ws, r2, D2⟩ := dk_of I.hok ho
  refine call_meetsIn PySem.F.slot_dict_update D1.typeIs PySem.F.entry_dict_update (PySem.F.args_dict_update_2 _ _) (meets_dict_update (mixKind X.prog X.w) d o ne n2) ⟨vs, ws, D1, D2, by rw [← r1.length, ← r2.length]; exact hl, fun h' d1 d2 sb => ?_⟩
  have he : ∃ q, h'.get? d = some q := let ⟨q, _, _, hq, _⟩ := d1; ⟨q, hq⟩
  refine ⟨.non, _, d_write (t' := s.toks) I (by rw [hd]; exact True.intro) sb he (dk_new (Nat.le_trans (length_mergeK more kvs) hl) n1 (r2.merge r1) d1), rfl, q⟩
/-! ### list.count(True) of truths -/
def isYes : Value → Bool
  | .bool b => b
  | _ => false
theorem vals_bl : ∀ {bs : List Bool} {us : List Value}, Vals (bs.map V.bl) us → us = bs.map Value.bool
  | [], _, .nil => rfl
  | b :: r, _, .cons e h => by
    cases e
    rw [vals_bl h]
    rfl
theorem count_yes : ∀ bs : List Bool, (bs.map Value.bool).countP isYes = bs.count true
  | [] => rfl
  | b :: r => by
    rw [List.map_cons, List.countP_cons, List.count_cons, count_yes r]
    cases b <;> rfl
def rCntB (K : PySem.W.Frag) : V → List V → Hp → VK → Prop := fun x xs H Q => ∃ (p : Addr) (bs : List Bool), x = .ref p ∧ xs = [.bl true] ∧ SqL K H p (bs.map V.bl) ∧ Q (.int (bs.count true : Nat)) H
theorem mt_countB (K : PySem.W.Frag) {X : Cx} (hK : X.K = K := by rfl) : MtR X "list.count" (rCntB K) := by
  subst hK
  intro pins s σ H x xs v us Q I rx rxs h
  obtain ⟨p, bs, rfl, rfl, hs, q⟩ := h
  cases rx
  obtain ⟨u, rfl, ru⟩ := rxs.one
  cases ru
  obtain ⟨its, rv, ⟨⟨cls, dd, data, sl⟩, n, ho, hc, hdn, hd⟩, hlen⟩ := I.list hs
  simp only at hc hd
  subst hc hd
  have ev := vals_bl rv
  subst ev
  refine call_meets PySem.F.slot_list_count ⟨_, ho, rfl⟩ PySem.F.entry_list_count (PySem.F.args_list_count_2 _ _) (SeqAt.list_countAt p (bs.map Value.bool).toArray n dd sl (.bool true) isYes) ⟨ho, fun y hy => ?_, ?_⟩
  · have hm : y ∈ bs.map Value.bool := by simpa using hy
    obtain ⟨b, _, rfl⟩ := List.mem_map.mp hm
    cases b with
    | true => exact SeqAt.EqAt.bool_bool true true
    | false => exact SeqAt.EqAt.bool_bool false true
  · refine ⟨.int (bs.count true : Nat), H, I.tok _, ⟨s.toks, ?_⟩, q⟩
    show Value.int (((bs.map Value.bool).toArray.toList.countP isYes : Nat) : Int) s.toks = Value.int ((bs.count true : Nat) : Int) s.toks
    rw [List.toList_toArray, count_yes]
theorem kk_sla (K : PySem.W.Frag) {X : Cx} (h : X.K = K := by rfl) : SlR X (rSlA K) := h ▸ sl_tupA
/-- a small thing -/
structure Sm (k B : Nat) (d : PyData) : Prop where
  sh : d.showable = true
  di : d.hasDict = false
  de : d.depth ≤ k
  le : d.shown.length ≤ B
theorem Sm.mono {k m B C : Nat} {d : PyData} (h : Sm k B d) (l : k ≤ m) (r : B ≤ C) : Sm m C d := ⟨h.sh, h.di, Nat.le_trans h.de l, Nat.le_trans h.le r⟩
theorem sm_int {i : Int} (h0 : -1000002 ≤ i) (h1 : i ≤ 1000002) : Sm 1 11 (.int i) := by
  refine ⟨?_, rfl, by simp [PyData.depth], ?_⟩
  · have : i.natAbs.log2 < 1920 := by
      by_cases z : i.natAbs = 0
      · rw [z]
        decide
      · have : i.natAbs.log2 < 30 := (Nat.log2_lt z).mpr (by show i.natAbs < 1073741824; omega)
        omega
    simp [PyData.showable, this]
  · have e1 : PyData.shown (.int i) = Str.ofString (toString i) := by simp only [PyData.shown]
    rw [e1]
    by_cases c : 0 ≤ i
    · exact Nat.le_trans (PyProof.Rows.toString_length_le (v := i) c (k := 10) (by decide) (by show i < 10000000000; omega)) (by decide)
    · have a := PyProof.Rows.len_text_negI (n := i) (by omega)
      have b := PyProof.Rows.toString_length_le (v := 0 - i) (by omega) (k := 10) (by decide) (by show 0 - i < 10000000000; omega)
      omega
theorem join_len (sep : Str) : ∀ ts : List Str, (Str.join sep ts).length ≤ (ts.map (·.length)).sum + ts.length * sep.length
  | [] => Nat.zero_le _
  | [x] => by
    show x.length ≤ _
    simp only [List.map_cons, List.map_nil, List.sum_cons, List.sum_nil]
    omega
  | x :: y :: r => by
    have h := join_len sep (y :: r)
    show (x ++ sep ++ Str.join sep (y :: r)).length ≤ _
    rw [len_app, len_app, List.map_cons, List.sum_cons, List.length_cons, Nat.add_mul, Nat.one_mul]
    omega
theorem all_len {B : Nat} : ∀ {l : List PyData}, (∀ d ∈ l, (PyData.shown d).length ≤ B) → ((PyData.shownAll l).map (·.length)).sum ≤ B * l.length ∧ (PyData.shownAll l).length = l.length
  | [], _ => ⟨Nat.le_refl _, rfl⟩
  | d :: r, h => by
    obtain ⟨a, b⟩ := all_len (l := r) fun x hx => h x (List.mem_cons_of_mem _ hx)
    have c := h d List.mem_cons_self
    rw [PyData.shownAll_cons, List.map_cons, List.sum_cons, List.length_cons, List.length_cons, b, Nat.mul_add]
    exact ⟨by omega, rfl⟩
theorem all_seen {k : Nat} : ∀ {l : List PyData}, (∀ d ∈ l, d.showable = true ∧ d.hasDict = false ∧ d.depth ≤ k) → PyData.showableAll l = true ∧ PyData.hasDictAll l = false ∧ PyData.depthAll l ≤ k
  | [], _ => by simp [PyData.showableAll, PyData.hasDictAll, PyData.depthAll]
  | d :: r, h => by
    obtain ⟨a, b, c⟩ := h d List.mem_cons_self
    obtain ⟨a2, b2, c2⟩ := all_seen (l := r) fun x hx => h x (List.mem_cons_of_mem _ hx)
    simp only [PyData.showableAll, PyData.hasDictAll, PyData.depthAll, a, b, a2, b2, Bool.and_self, Bool.or_self]
    exact ⟨trivial, trivial, by omega⟩
theorem sm_seq {k B : Nat} {l : List PyData} (h : ∀ d ∈ l, Sm k B d) (hl : l.length ≤ 9) : Sm (k + 1) (B * 9 + 21) (.list l) ∧ Sm (k + 1) (B * 9 + 21) (.tuple l) := by
  obtain ⟨a, b, c⟩ := all_seen (k := k) fun d hd => ⟨(h d hd).sh, (h d hd).di, (h d hd).de⟩
  obtain ⟨u, v⟩ := all_len (B := B) fun d hd => (h d hd).le
  have w := join_len ", " (PyData.shownAll l)
  have e3 : (Str.ofString ", ").length = 2 := rfl
  rw [v, e3] at w
  have e1 : (Str.ofString "[").length = 1 := rfl
  have e2 : (Str.ofString "]").length = 1 := rfl
  have u2 : B * l.length ≤ B * 9 := Nat.mul_le_mul_left B hl
  refine ⟨⟨by simp [PyData.showable, a], by simp [PyData.hasDict, b], by simp only [PyData.depth]; omega, ?_⟩, ⟨by simp [PyData.showable, a], by simp [PyData.hasDict, b], by simp only [PyData.depth]; omega, ?_⟩⟩
  · rw [PyData.shown_list, len_app, len_app, e1, e2]
    omega
  · have e4 : (Str.ofString (if (l.length == 1) = true then ",)" else ")")).length ≤ 2 := by split <;> decide +kernel
    have e5 : (Str.ofString "(").length = 1 := rfl
    rw [PyData.shown_tuple, len_app, len_app, e5]
    omega
theorem sm_ints {ns : List Int} (h : ∀ n ∈ ns, -1000002 ≤ n ∧ n ≤ 1000002) (hl : ns.length ≤ 9) : Sm 2 120 (.list (ns.map PyData.int)) ∧ Sm 2 120 (.tuple (ns.map PyData.int)) := by
  refine sm_seq (k := 1) (B := 11) (fun d hd => ?_) (by rw [List.length_map]; exact hl)
  obtain ⟨n, hn, rfl⟩ := List.mem_map.mp hd
  exact sm_int (h n hn).1 (h n hn).2
/-! ### a block that makes a thing of each item; data beside their addresses -/
def JOkN (H : Hp) (J : It) (xs : List V) : Prop := ∀ i G, Same H G → (i < xs.length → J.go i G) ∧ (i = xs.length → J.stop i G) ∧ ∀ x G', i < xs.length → J.yld i G x G' → G' = G ∧ xs[i]? = some x
theorem JOk.n {H : Hp} {J : It} {xs : List V} (h : JOk H J xs) : JOkN H J xs := fun i G s => ⟨(h i G s).1, (h i G s).2.1, fun x G' _ y => (h i G s).2.2 x G' y⟩
section
variable {H : Hp} {xs : List V} {J : It} {g : TG} {tt : TT} {te : TE} {vs : List Nat} {σ : L2.St} {D : Addr} {Qd : Hp → Prop}
theorem acc_lc (P : Nat → Hp → V → Prop) (ok : JOkN H J xs) (small : xs.length ≤ 1000) (hD : H D = none)
    (turn : ∀ i x, xs[i]? = some x → ∀ G acc, Same H G → G D = some (.lst acc) → ∀ (Y : VK) (N : Hp → Prop), (∀ G' v, Same G G' → (∀ G2, But D G' G2 → P i G2 v) → Y v G') → g x (wipe σ vs) G fun σ2 H2 => wipe σ2 vs = wipe σ vs ∧ tt σ2 H2 fun b H3 => if b = true then te σ2 H3 Y else N H3)
    (last : ∀ G ws, Same H G → G D = some (.lst ws) → ws.length = xs.length → (∀ i v, ws[i]? = some v → P i G v) → Qd G) :
    ∃ W : Nat → Nat → Hp → Prop, (∃ m, W 0 m (upd H D (.lst []))) ∧ ∀ i m H, W i m H → (J.stop i H ∧ Qd H) ∨ (J.go i H ∧ ∃ Nx : Hp → Prop, (∀ H', Nx H' → ∃ m', m' < m ∧ W (i + 1) m' H') ∧ ∀ x H', J.yld i H x H' → g x (wipe σ vs) H' fun σ2 H2 => wipe σ2 vs = wipe σ vs ∧ tt σ2 H2 fun b H3 =>
      if b = true then te σ2 H3 fun y H4 => ∃ acc, H4 D = some (.lst acc) ∧ acc.length < sizeLine ∧ Nx (upd H4 D (.lst (acc ++ [y]))) else Nx H3) := by
  refine lc_gen (n := xs.length) (fun i G => Same H G ∧ ∃ ws : List V, G D = some (.lst ws) ∧ ws.length = i ∧ ∀ j v, ws[j]? = some v → ∀ G2, But D G G2 → P j G2 v) ⟨same_new hD, [], upd_same, rfl, fun j v h => (nomatch h)⟩ (fun i G h => ⟨(ok i G h.1).1, (ok i G h.1).2.1⟩) (fun i G v G' hi h y => ?_) (fun G h => ?_)
  · obtain ⟨s, ws, e, hl, hw⟩ := h
    obtain ⟨rfl, hx⟩ := (ok i G s).2.2 v G' hi y
    refine turn i v hx G' ws s e _ _ fun G2 y s2 hy => ⟨ws, s2 _ _ e, ?_, fun c o ec => ?_, ws ++ [y], upd_same, ?_, fun j v hj G3 t => ?_⟩
    · rw [hl]
      exact small1000 (by omega)
    · rw [upd_ne (ne_of_none ec hD)]
      exact s2 _ _ (s _ _ ec)
    · rw [List.length_append, hl]
      rfl
    · have t1 : But D G2 (upd G2 D (.lst (ws ++ [y]))) := fun a o ne ea => by
        rw [upd_ne ne]
        exact ea
      have t2 : But D G2 G3 := fun a o ne ea => t a o ne (t1 a o ne ea)
      rcases Nat.lt_or_ge j ws.length with z | z
      · rw [List.getElem?_append_left z] at hj
        exact hw j v hj G3 fun a o ne ea => t2 a o ne (s2 _ _ ea)
      · rw [List.getElem?_append_right z] at hj
        have z2 : j - ws.length = 0 := by
          have := (List.getElem?_eq_some_iff.mp hj).1
          have h1 : ([y] : List V).length = 1 := rfl
          omega
        rw [z2] at hj
        have e1 : v = y := (Option.some.inj hj).symm
        have e2 : j = i := by omega
        rw [e1, e2]
        exact hy G3 t2
  · obtain ⟨s, ws, e, hl, hw⟩ := h
    exact last G ws s e hl fun i v hi => hw i v hi G fun a o _ ea => ea
end
theorem jok_r {H : Hp} {n : Nat} : JOkN H (Itr 0 n) ((List.range n).map fun (i : Nat) => V.int (i : Int)) := fun i G _ => by
  rw [List.length_map, List.length_range]
  refine ⟨fun c => c, fun c => by show n ≤ i; omega, fun x G' hi y => ?_⟩
  obtain ⟨e1, e2⟩ := y
  refine ⟨e1, ?_⟩
  rw [e2, List.getElem?_map, List.getElem?_range hi, Int.zero_add]
  rfl
theorem dpAll_of {K : PySem.W.Frag} {G : Hp} : ∀ {ws : List V} {ds : List PyData}, ws.length = ds.length → (∀ (i : Nat) (v : V) (d : PyData), ws[i]? = some v → ds[i]? = some d → Dp K G v d) → DpAll K G ws ds
  | [], [], _, _ => .nil
  | [], _ :: _, h, _ => by cases h
  | _ :: _, [], h, _ => by cases h
  | w :: ws, d :: ds, h, f => .cons (f 0 w d rfl rfl) (dpAll_of (Nat.succ.inj h) fun i v e h1 h2 => f (i + 1) v e h1 h2)
/-! ### a dict at the module's top: texts, and tuples of texts that stand under them -/
/-- one entry: its key, the tuple that stands there -/
structure KRow (w : World) (K : PySem.W.Frag) (e : DictEntry) (r : Str × List Str) : Prop where
  ha : e.hash = hashStr w r.1
  ke : ∃ t, e.key = .str r.1 t
  va : ∃ a, e.val = .ref a ∧ ∃ (o : Obj) (its : Array Value) (n : Nat), K.lookup a = some o ∧ o.cls = .type "tuple" ∧ o.data = .seq its n ∧ its.size ≤ sizeLine ∧ Vals (r.2.map V.str) its.toList
inductive KRows (w : World) (K : PySem.W.Frag) : List DictEntry → List (Str × List Str) → Prop
  | nil : KRows w K [] []
  | cons {e : DictEntry} {r : Str × List Str} {es : List DictEntry} {rs : List (Str × List Str)} : KRow w K e r → KRows w K es rs → KRows w K (e :: es) (r :: rs)
structure KTab (w : World) (K : PySem.W.Frag) (a : Addr) (tab : List (Str × List Str)) : Prop where
  ns : (a == sysModules) = false
  ob : ∃ (o : Obj) (es : Array DictEntry) (ep : Nat), K.lookup a = some o ∧ o.ExactDict ∧ o.data = .dict es ep ∧ KRows w K es.toList tab
  nd : (tab.map (·.1)).Nodup
/-- what stands under the text k -/
def KUnder (K : PySem.W.Frag) (vs : List (Key × Value)) (tab : List (Str × List Str)) (k : Str) : Prop :=
  (tab.lookup k = none ∧ valueAt vs (Sum.inr k) = none) ∨ ∃ ss t, tab.lookup k = some ss ∧ valueAt vs (Sum.inr k) = some (.ref t) ∧ ∀ H, SqT K H t (ss.map V.str)
theorem KRows.made {P : Program} {w : World} {K : PySem.W.Frag} : ∀ {es : List DictEntry} {tab : List (Str × List Str)}, KRows w K es tab → ∃ vs : List (Key × Value), (∀ e ∈ es, ∃ k, (mixKind P w).is k e.key = true ∧ e.hash = (mixKind P w).hash k) ∧ Pairs (mixKind P w) es vs ∧ vs.map (·.1) = tab.map (fun r => (Sum.inr r.1 : Key)) ∧ ∀ k, KUnder K vs tab k
  | _, _, .nil => ⟨[], fun e h => (nomatch h), .nil, rfl, fun k => .inl ⟨rfl, rfl⟩⟩
  | e :: es, r :: tab, .cons h t => by
    obtain ⟨vs, a1, a2, a3, a4⟩ := KRows.made (P := P) t
    obtain ⟨tk, ek⟩ := h.ke
    obtain ⟨a, ea, o, its, n, k1, k2, k3, k4, k5⟩ := h.va
    have is1 : (mixKind P w).is (Sum.inr r.1) e.key = true := by
      rw [ek]
      exact mixKind_str P w r.1 tk
    refine ⟨(Sum.inr r.1, e.val) :: vs, fun x hx => ?_, .cons is1 rfl a2, by rw [List.map_cons, List.map_cons, a3], fun k => ?_⟩
    · rcases List.mem_cons.mp hx with z | z
      · rw [z]
        exact ⟨Sum.inr r.1, is1, h.ha⟩
      · exact a1 x z
    · by_cases c : r.1 = k
      · refine .inr ⟨r.2, a, ?_, ?_, fun H => .inr ⟨o, its, n, k1, k2, k3, k4, k5⟩⟩
        · rw [List.lookup_cons, c, beq_self_eq_true]
        · unfold valueAt
          rw [List.find?_cons, decide_eq_true (show (Sum.inr r.1 : Key) = Sum.inr k by rw [c])]
          show some e.val = _
          rw [ea]
      · have e1 : ((r.1, r.2) :: tab).lookup k = tab.lookup k := by
          rw [List.lookup_cons, beq_eq_false_iff_ne.mpr (fun z => c z.symm)]
        have e2 : valueAt ((Sum.inr r.1, e.val) :: vs) (Sum.inr k : Key) = valueAt vs (Sum.inr k) := by
          unfold valueAt
          rw [List.find?_cons, decide_eq_false (show ¬ (Sum.inr r.1 : Key) = Sum.inr k from fun z => c (Sum.inr.inj z))]
        unfold KUnder
        rw [show (r :: tab).lookup k = tab.lookup k from e1, e2]
        exact a4 k
theorem nodup_inr : ∀ {tab : List (Str × List Str)}, (tab.map (·.1)).Nodup → (tab.map fun r => (Sum.inr r.1 : Key)).Nodup
  | [], _ => List.nodup_nil
  | r :: tab, h => by
    rw [List.map_cons, List.nodup_cons] at h ⊢
    refine ⟨fun z => h.1 ?_, nodup_inr h.2⟩
    obtain ⟨q, hq, e⟩ := List.mem_map.mp z
    exact List.mem_map.mpr ⟨q, hq, Sum.inr.inj e⟩
section
variable {X : Cx} {o i : Expr} {pos : Pos} {ty : TE} {a : Addr} {tab : List (Str × List Str)}
theorem KTab.dict {pins : List (Addr × Obj)} {σ : L2.St} {H : Hp} {s : Shared} (T : KTab X.w X.K a tab) (I : Inv X pins σ H s) : ∃ vs : List (Key × Value), s.heap.DictOf (mixKind X.prog X.w) a vs ∧ ∀ k, KUnder X.K vs tab k := by
  obtain ⟨o, es, ep, h1, h2, h3, h4⟩ := T.ob
  obtain ⟨vs, a1, a2, a3, a4⟩ := KRows.made (P := X.prog) h4
  refine ⟨vs, ⟨o, es, ep, I.kIn a o h1, h2, h3, fun e he => a1 e (by simpa using he), a2, ?_⟩, a4⟩
  rw [a3]
  exact nodup_inr T.nd
def tTGet (K : PySem.W.Frag) (tab : List (Str × List Str)) (ty : TE) : TE := fun σ H Q => ty σ H fun y H1 => ∃ k ss, y = .str k ∧ tab.lookup k = some ss ∧ ∀ t, (∀ H', SqT K H' t (ss.map V.str)) → Q (.ref t) H1
theorem pe_tget (T : KTab X.w X.K a tab) (ho : PE X o (tC (.ref a))) (hi : PE X i ty) (hs : NoSl i) : PE X (.Subscript o i pos) (tTGet X.K tab ty) := by
  refine ⟨fun pins s σ H Q I h => ?_⟩
  refine subD_of PySem.F.slot_dict_getitem.lookup hs (thn (ho.run pins s σ H (fun x H1 => x = .ref a ∧ H1 = H) I ⟨rfl, rfl⟩) fun u s1 ⟨x, H1, I1, rx, q1⟩ => ?_)
  obtain ⟨rfl, rfl⟩ := q1
  obtain rfl : u = Value.ref a := rx
  refine thn (hi.run pins s1 σ H1 _ I1 h) fun iv s2 ⟨y, H2, I2, ry, k, ss, ey, hl, q2⟩ => ?_
  subst ey
  obtain ⟨vs, dd, un⟩ := T.dict I2
  rcases un k with ⟨z, _⟩ | ⟨ss2, t, z1, z2, z3⟩
  · rw [hl] at z
    cases z
  · rw [hl] at z1
    cases z1
    exact ⟨dd.typeIs, wpAny_getItem_of (kV_is (k := Sum.inr k) ry) dd.mapOf z2 ⟨.ref t, H2, I2.tok _, rfl, q2 t z3⟩⟩
def tTIn (tab : List (Str × List Str)) (ty : TE) : TE := fun σ H Q => ty σ H fun y H1 => ∃ k, y = .str k ∧ Q (.bl (tab.lookup k).isSome) H1
def tTNotIn (tab : List (Str × List Str)) (ty : TE) : TE := fun σ H Q => ty σ H fun y H1 => ∃ k, y = .str k ∧ Q (.bl (!(tab.lookup k).isSome)) H1
theorem KUnder.isSome {K : PySem.W.Frag} {vs : List (Key × Value)} {k : Str} (h : KUnder K vs tab k) : (valueAt vs (Sum.inr k)).isSome = (tab.lookup k).isSome := by
  rcases h with ⟨a, b⟩ | ⟨ss, t, a, b, _⟩
  · rw [a, b]
    rfl
  · rw [a, b]
    rfl
theorem pc_tnotin (T : KTab X.w X.K a tab) (hi : PE X i ty) (ho : PE X o (tC (.ref a))) : PC X .NotIn i o (tTNotIn tab ty) := by
  refine ⟨fun pins s σ H Q I h => ?_⟩
  refine thn (hi.run pins s σ H _ I h) fun iv s1 ⟨y, H1, I1, ry, k, ey, q1⟩ => thn (ho.run pins s1 σ H1 (fun x H2 => x = .ref a ∧ H2 = H1) I1 ⟨rfl, rfl⟩) fun u s2 ⟨x, H2, I2, rx, q2⟩ => ?_
  obtain ⟨rfl, rfl⟩ := q2
  obtain rfl : u = Value.ref a := rx
  subst ey
  obtain ⟨vs, dd, un⟩ := T.dict I2
  refine wpAny_notIn_of (kV_is (k := Sum.inr k) ry) T.ns dd.mapOf ⟨.bl (!(tab.lookup k).isSome), H2, I2.tok _, ?_, q1⟩
  rw [(un k).isSome]
  rfl
theorem pc_tin (T : KTab X.w X.K a tab) (hi : PE X i ty) (ho : PE X o (tC (.ref a))) : PC X .In i o (tTIn tab ty) := by
  refine ⟨fun pins s σ H Q I h => ?_⟩
  refine thn (hi.run pins s σ H _ I h) fun iv s1 ⟨y, H1, I1, ry, k, ey, q1⟩ => thn (ho.run pins s1 σ H1 (fun x H2 => x = .ref a ∧ H2 = H1) I1 ⟨rfl, rfl⟩) fun u s2 ⟨x, H2, I2, rx, q2⟩ => ?_
  obtain ⟨rfl, rfl⟩ := q2
  obtain rfl : u = Value.ref a := rx
  subst ey
  obtain ⟨vs, dd, un⟩ := T.dict I2
  refine wpAny_in_of (kV_is (k := Sum.inr k) ry) T.ns dd.mapOf ⟨.bl (tab.lookup k).isSome, H2, I2.tok _, ?_, q1⟩
  rw [(un k).isSome]
  rfl
end
/-! ### len(set(xs)), xs a list of texts: as many as the list just where no two are alike -/
def CnD {α : Type} (l : List α) (c : Nat) : Prop := c ≤ l.length ∧ (c = l.length ↔ l.Nodup)
theorem cnd_nil {α : Type} : CnD ([] : List α) 0 := ⟨Nat.le_refl _, by simp⟩
theorem cnd_snoc {α : Type} [DecidableEq α] {l : List α} {c : Nat} {x : α} (h : CnD l c) : CnD (l ++ [x]) (if x ∈ l then c else c + 1) := by
  have nd : (l ++ [x]).Nodup ↔ l.Nodup ∧ x ∉ l := by
    rw [List.nodup_append]
    constructor
    · rintro ⟨a, _, b⟩
      exact ⟨a, fun m => b x m x (by simp) rfl⟩
    · rintro ⟨a, b⟩
      exact ⟨a, by simp, fun y hy z hz e => b (by rw [← List.mem_singleton.mp hz, ← e]; exact hy)⟩
  have ln : (l ++ [x]).length = l.length + 1 := by rw [List.length_append]; rfl
  obtain ⟨h1, h2⟩ := h
  by_cases m : x ∈ l
  · rw [if_pos m]
    refine ⟨by omega, ⟨fun e => by omega, fun e => absurd m (nd.mp e).2⟩⟩
  · rw [if_neg m]
    refine ⟨by omega, ⟨fun e => nd.mpr ⟨h2.mp (by omega), m⟩, fun e => ?_⟩⟩
    have := h2.mpr (nd.mp e).1
    omega
section
variable {P : Program} {w : World} {A : Around} {R : Result → Shared → Prop} {I : Addr} {fp wr : List Addr} {G : Array GenState → Array GenState → Prop} {n : Nat} {V' : Nat → Value → Prop} {St : Nat → Shared → Prop}
theorem grow_textsD (W : WalksS P w A.in1 I fp wr G n V' St) (S : Addr) (out : S ∉ fp) (xs : List Str) (many : n = xs.length) (room : xs.length + 1 < scanBound) (vals : ∀ i v, V' i v → ∃ x t, xs[i]? = some x ∧ v = .str x t) :
    ∀ (k i : Nat) (s : Shared), n - i = k → i ≤ n → St i s → (∃ c, c ≤ i ∧ CnD (xs.take i) c ∧ s.heap.SetOf (PySem.strKind P w) S (fun y => decide (y ∈ xs.take i)) c) →
      (∀ s' c, Moved (S :: wr) G s s' → CnD xs c → s'.heap.SetOf (PySem.strKind P w) S (fun y => decide (y ∈ xs)) c → R (.ok (.ret .none)) s') →
      codeAny (model P w) A (.builtin "set.update.loop" ⟨[.ref S, .ref I], []⟩) R s := by
  have outw : S ∉ wr := fun z => out (W.sub _ z)
  have wide : ∀ b ∈ wr, b ∈ S :: wr := fun b hb => List.mem_cons_of_mem _ hb
  have kept : ∀ {s s' : Shared} {T : Str → Bool} {c : Nat}, Moved wr G s s' → s.heap.SetOf (PySem.strKind P w) S T c → s'.heap.SetOf (PySem.strKind P w) S T c := fun {s s' T c} mv h => by
    obtain ⟨o, es, ep, t, ho, rest⟩ := h
    exact ⟨o, es, ep, t, mv.heap S _ outw ho, rest⟩
  intro k
  induction k with
  | zero =>
    intro i s hk hi st now fin
    obtain ⟨c, _, hc, hS⟩ := now
    have e : xs.take i = xs := List.take_of_length_le (by omega)
    rw [e] at hc hS
    refine codeAny_builtin F.entry_set_update_loop ?_
    rw [Around.under_plainId F.plain_set_update_loop _]
    show wpAny _ A.in1 (pyNext (.ref I) >>= _) _ _ s
    have ei : i = n := by omega
    subst ei
    refine wpAny_bind (W.done s _ _ st fun s' mv => ?_)
    show wpAny _ A.in1 (ret Value.none) _ _ s'
    exact wpAny_pure (fin s' c (mv.mono wide) hc (kept mv hS))
  | succ k ih =>
    intro i s hk hi st now fin
    obtain ⟨c, ci, hc, hS⟩ := now
    have lt : i < n := by omega
    refine codeAny_builtin F.entry_set_update_loop ?_
    rw [Around.under_plainId F.plain_set_update_loop _]
    show wpAny _ A.in1 (pyNext (.ref I) >>= _) _ _ s
    refine wpAny_bind (W.item i s _ _ lt st fun v s' hP st' mv => ?_)
    obtain ⟨x, t, hx, rfl⟩ := vals i v hP
    have hS2 := kept mv hS
    show wpAny _ A.in1 (holding [Value.str x t] (setAdd S (.str x t)) >>= _) _ _ s'
    refine wpAny_bind (wpAny_holding ?_)
    unfold setAdd
    refine wpAny_holding (wpAny_bind ((PySem.strKind P w).pyHash (k := x) (strKind_is _ _ _ _) ?_))
    refine wpAny_setAddHashed_of (knd := PySem.strKind P w) (s := { s' with toks := s'.toks + 1 }) (strKind_is _ _ _ _) rfl hS2 (by omega) fun h' sb hS3 => ?_
    have et : xs.take (i + 1) = xs.take i ++ [x] := by rw [List.take_add_one, hx]; rfl
    have hc3 : CnD (xs.take (i + 1)) (if decide (x ∈ xs.take i) = true then c else c + 1) := by
      rw [et]
      have := cnd_snoc (x := x) hc
      by_cases m : x ∈ xs.take i
      · rw [if_pos m] at this
        rw [if_pos (decide_eq_true m)]
        exact this
      · rw [if_neg m] at this
        rw [if_neg (by rw [decide_eq_false m]; decide)]
        exact this
    have hS4 : h'.SetOf (PySem.strKind P w) S (fun y => decide (y ∈ xs.take (i + 1))) (if decide (x ∈ xs.take i) = true then c else c + 1) := by
      refine PyProof.Rows.SetOf_congr hS3 (fun y => ?_) rfl
      rw [et]
      simp [List.mem_append, Bool.decide_or]
    refine wpAny_pure ⟨plainId_quiet F.plain_set_update_loop _, ih (i + 1) _ (by omega) lt (W.frame _ s' _ _ st' (Nat.le_succ _) fun b hb o e => ?_) ⟨_, by split <;> omega, hc3, hS4⟩ fun s2 c2 mv2 hc2 hS5 => ?_⟩
    · rw [sb.2 b (fun h : b = S => out (by rw [← h]; exact hb))]
      exact e
    · refine fin s2 c2 (Moved.trans W.gtrans ((mv.mono wide).then_heap (Nat.le_succ _) fun b o hb e => ?_) mv2) hc2 hS5
      rw [sb.2 b (fun h : b = S => hb (by rw [h]; exact List.mem_cons_self))]
      exact e
end
section
variable {P : Program} {w : World} {A : Around} {E : Value → Shared → Prop} {s : Shared}
set_option maxHeartbeats 6000000 in
theorem set_of_textsD {l : Addr} {items : Array Value} {xs : List Str} {Q : Value → Shared → Prop} (free : A.handled = none) (list : s.heap.IsList l items) (nums : PyProof.Rows.StrsAre items.toList xs) (room : xs.length + 1 < scanBound)
    (then_ : ∀ (h' : Heap) (tk c : Nat), CnD xs c → h'.SetOf (PySem.strKind P w) s.heap.objs.size (fun j => decide (j ∈ xs)) c → (∀ b o, s.heap.get? b = some o → h'.get? b = some o) → Q (.ref s.heap.objs.size) { s with heap := h', toks := tk }) :
    wpAny (model P w) A (call (.type "set") [.ref l]) Q E s := by
  have many : items.size = xs.length := by rw [← StrsAre.len_eq nums, Array.length_toList]
  obtain ⟨first, rest, mro⟩ := F.called_set.mro
  have made := F.called_set.made
  have sub := F.called_set.sub
  have notT := F.called_set.notType
  have can := F.called_set.canCreate
  have one := F.typeCall_set_1 (.ref l)
  refine wpAny_call (codeAny_of_tree ?_)
  show wpAny _ _ (callAny (.type "set") _) _ _ _
  refine wpAny_pure ⟨Code.quiet_builtin _ (by decide +kernel), codeAny_builtin F.entry_type_call ?_⟩
  rw [Around.under_plain (weight_type_call_type "set" [.ref l] []) rfl]
  repeat (any_goals (first | assumption | wp_step))
  refine codeAny_mono (code_set_led1 (.ref l) (E := E) (Q₁ := fun v s1 => v = .ref s.heap.objs.size ∧ s1 = { s with heap := s.heap.push (emptyS w) }) ⟨rfl, rfl⟩) fun r s1 hr => ?_
  match r, hr with
  | .error e, hr => exact hr
  | .ok (.ret _), ⟨e1, e2⟩ =>
    subst e1 e2
    have stands : (s.heap.push (emptyS w)).get? s.heap.objs.size = some (emptyS w) := Heap.get?_push_size _ rfl
    have typed : Shared.TypeIs { s with heap := s.heap.push (emptyS w) } (.ref s.heap.objs.size) "set" := ⟨_, stands, rfl⟩
    have look := F.called_set.init.lookup
    have bound := F.called_set.init.bind (.ref s.heap.objs.size)
    repeat (any_goals (first | assumption | wp_step))
    refine codeAny_mono (codeAny_call_builtin (R := wants (fun r s2 => r = .none ∧ ∃ h' tk c, s2 = { s with heap := h', toks := tk } ∧ CnD xs c ∧ h'.SetOf (PySem.strKind P w) s.heap.objs.size (fun j => decide (j ∈ xs)) c ∧ (∀ b o, s.heap.get? b = some o → h'.get? b = some o)) E) F.called_set.init.plain F.entry_set_init (check_set_init_1 typed ?_)) fun r2 s2 hr2 => ?_
    · obtain ⟨⟨cl, dc, dt, sl⟩, at_, ecl, nl, edt⟩ := list
      simp only at ecl edt
      subst ecl edt
      have at2 : (s.heap.push (emptyS w)).get? l = some { cls := .type "list", dict := dc, data := .seq items nl, slots := sl } := Heap.get?_push_of_some _ at_
      have n1 := F.sub_list_set
      have n2 := F.sub_list_frozenset
      have n3 : (Value.type "list" == Value.type "dict") = false := by decide
      have list2 : (s.heap.push (emptyS w)).IsList l items := ⟨_, at2, rfl, nl, rfl⟩
      unfold Builtin.«set.__init__» noKeywords Builtin.Frozenset.updateFrom
      generalize iterAs : pyIter = PI
      wp_walk
      subst iterAs
      refine wpAny_pyIter_list list2 (wpAny_bind (wpAny_runValue ?_))
      have ll : l < s.heap.objs.size := Heap.lt_size at_
      have sz : (s.heap.push (emptyS w)).objs.size = s.heap.objs.size + 1 := Heap.size_push ..
      have free3 : A.in1.in1.in1.handled = none := by simp [free]
      have unlike : l ≠ (s.heap.push (emptyS w)).objs.size := by rw [sz]; exact Nat.ne_of_lt (Nat.lt_succ_of_lt ll)
      have out : s.heap.objs.size ∉ [(s.heap.push (emptyS w)).objs.size, l] := by
        rw [sz]
        simp only [List.mem_cons, List.mem_singleton, List.not_mem_nil, or_false, not_or]
        exact ⟨Nat.ne_of_lt (Nat.lt_succ_self _), Nat.ne_of_gt ll⟩
      have vals : ∀ (i : Nat) (v : Value), items[i]? = some v → ∃ x t, xs[i]? = some x ∧ v = .str x t := fun i v hv => by
        have hi : i < xs.length := by rw [← many]; exact (Array.getElem?_eq_some_iff.mp hv).1
        obtain ⟨t, e⟩ := SS.strs_at nums i v (by rw [Array.getElem?_toList]; exact hv)
        exact ⟨xs[i], t, List.getElem?_eq_getElem hi, by rw [e, List.getD_eq_getElem?_getD, List.getElem?_eq_getElem hi] <;> rfl⟩
      have fresh : ((s.heap.push (emptyS w)).push { cls := .type "list_iterator", data := .fields #[.ref l, .int 0 0] }).SetOf (PySem.strKind P w) s.heap.objs.size (fun y => decide (y ∈ xs.take 0)) 0 :=
        PyProof.Rows.SetOf_congr ((PyProof.Rows.setObjOf_fresh (knd := PySem.strKind P w) _).setOf (Heap.get?_push_of_some _ stands) (by unfold scanBound; omega)) (fun _ => rfl) rfl
      refine grow_textsD ((Walks.list free3 _ l unlike items).toS) s.heap.objs.size out xs many room vals (items.size - 0) 0 _ (by omega) (Nat.zero_le _) ⟨⟨_, Heap.get?_push_size _ rfl, rfl, rfl⟩, (list2.push _)⟩ ⟨0, Nat.le_refl 0, cnd_nil, fresh⟩ fun s' c' mv hc' hS' => ?_
      obtain ⟨h', g2, d', tk', os'⟩ := s'
      have eg : g2 = s.gens := mv.gens
      have ed : d' = s.drawn := mv.drawn
      have eo : os' = s.os := mv.os
      subst eg ed eo
      show wpAny _ _ _ _ _ _
      refine wpAny_pure ?_
      show wpAny _ _ (ret Value.none) _ _ _
      refine wpAny_pure ⟨rfl, h', tk', c', rfl, hc', hS', fun b o e => ?_⟩
      have below : b < s.heap.objs.size := Heap.lt_size e
      refine mv.heap b o ?_ (Heap.get?_push_of_some _ (Heap.get?_push_of_some _ e))
      simp only [List.mem_cons, List.mem_singleton, List.not_mem_nil, or_false, not_or]
      exact ⟨Nat.ne_of_lt below, by rw [sz]; exact Nat.ne_of_lt (Nat.lt_succ_of_lt below)⟩
    · match r2, hr2 with
      | .error e, hr2 => exact hr2
      | .ok (.ret _), ⟨e1, h', tk, c', e2, hc', hS', hk'⟩ =>
        subst e1 e2
        repeat (any_goals (first | assumption | wp_step))
        exact then_ _ _ _ hc' hS' hk'
end
section
variable {X : Cx}
def tLenSetD (K : PySem.W.Frag) (ta : TE) : TE := fun σ H Q => ta σ H fun x H1 => ∃ (l : Addr) (xs : List Str), x = .ref l ∧ SqL K H1 l (xs.map V.str) ∧ xs.length < 4000 ∧ ∀ c : Nat, c ≤ xs.length → (c = xs.length ↔ xs.Nodup) → Q (.int c) H1
theorem pe_lenSetD {a : Expr} {ta : TE} {p p2 q pos : Pos} (hg : Gl X "len") (hm : X.mg "len" = none) (hg2 : Gl X "set") (hm2 : X.mg "set" = none) (ha : PE X a ta) (hc : X.calm = true := by rfl)
    (na : starEach [a] X.env = (false, eval a X.env) :: starEach [] X.env := by rfl) : PE X (.Call (.Name "len" p) [.Call (.Name "set" p2) [a] [] q] [] pos) (tLenSetD X.K ta) := by
  refine ⟨fun pins s σ H Q I h => ?_⟩
  refine Call_ (ld_blt I hg hm boot_len ?_)
  refine PyProof.Rows.callWith_builtin1 (PyProof.Rows.args_cons ?_ rfl) rfl rfl
  refine Call_ (ld_blt I hg2 hm2 boot_set ?_)
  refine PyProof.Rows.callWith_type1 (PyProof.Rows.args_cons (thn (ha.run pins s σ H _ I h) fun v s1 ⟨x, H1, I1, r1, q1⟩ => PyProof.Rows.args_nil ?_) na) na rfl
  obtain ⟨l, xs, rfl, hq, small, q1⟩ := q1
  cases r1
  obtain ⟨its, r, pl, hz⟩ := I1.list hq
  refine set_of_textsD (I1.ok.hd hc) pl.isList (by simpa using strsAre_of r) (by unfold scanBound; omega) fun h' tk c cnt hS keep => ?_
  refine PyProof.Rows.args_nil ?_
  obtain ⟨o, es, ep, t, ho, hex, hd, _, _, hb, hf, hn⟩ := hS
  have I2 : Inv X pins σ H1 { s1 with heap := h', toks := tk } := I1.kept fun b o e => keep b o e
  have hs : es.size < 1000000 := by
    have : scanBound ≤ 1000000 := by decide
    omega
  exact call_len_set ho hex hd hf (by omega) ⟨.int c, H1, I2.tok _, ⟨_, by rw [hn]⟩, q1 c cnt.1 cnt.2⟩
end
/-! ### list(zip(a, b)), a and b lists or tuples, a the shorter one -/
namespace LZ
open PySem PySem.Spec PyProof.Rows L2
theorem zip_no_len : typeLookup (.type "zip") "__len__" = pure none := by rw [typeLookup_type, builtinLookup_eq_fast]; kernel_rfl
theorem zip_no_hint : typeLookup (.type "zip") "__length_hint__" = pure none := by rw [typeLookup_type, builtinLookup_eq_fast]; kernel_rfl
section
variable {prog : Program} {w : World} {A : Around} {E : Value → Shared → Prop} {s : Shared} {z TI TO i1 i2 T : Addr} {f : Bool} {oT : Obj} {fp1 fp2 : List Addr} {n1 n2 i : Nat} {P1 P2 : Nat → Value → Prop} {St1 St2 : Nat → Heap → Prop}
theorem held_item {Q : Value → Shared → Prop} (S : ZipSep2 z TI TO i1 i2 fp1 fp2) (D1 : Draws prog w A i1 fp1 n1 P1 St1) (D2 : Draws prog w A i2 fp2 n2 P2 St2)
    (hz : IsZipHeld s.heap z TI TO T f) (hT : s.heap.get? T = some oT) (hTI : IsTupOf2 s.heap TI (.ref i1) (.ref i2)) (st1 : St1 i s.heap) (st2 : St2 i s.heap) (hlt1 : i < n1) (hlt2 : i < n2)
    (hQ : ∀ x1 x2 h' tk, P1 i x1 → P2 i x2 → IsZipHeld h' z TI TO T true → St1 (i + 1) h' → St2 (i + 1) h' → IsTupOf2 h' s.heap.objs.size x1 x2 → h'.objs.size = s.heap.objs.size + 1 →
      (∀ c o, c ≠ z → c ≠ i1 → c ≠ i2 → s.heap.get? c = some o → h'.get? c = some o) → Q (.ref s.heap.objs.size) { s with heap := h', toks := tk }) :
    wpAny (model prog w) A (Builtin.«zip.__next__» ⟨[.ref z], []⟩) (fun fin s' => ∃ v, fin = .done (.ret v) ∧ Q v s') E s := by
  obtain ⟨hp, g, d, tk0, os⟩ := s
  show wpAny _ _ (field (.ref z) 2 >>= _) _ _ _
  refine wpAny_bind (wpAny_field hz rfl (x := .bool false) rfl ?_)
  show wpAny _ _ (field (.ref z) 3 >>= _) _ _ _
  refine wpAny_bind (wpAny_field hz rfl (x := .ref TI) rfl ?_)
  refine wpAny_bind (wpAny_seqItems hTI rfl ?_)
  show wpAny _ _ (Builtin.SmallTypes.ownedTupleIsFree (.ref z) >>= _) _ _ _
  refine wpAny_bind (wpAny_tupleHeld_zip hz hT fun h₁ hz₁ hs₁ => ?_)
  replace hs₁ : Heap.SameBut z hp h₁ := hs₁
  simp only [Bool.false_eq_true, if_false]
  refine wpAny_bind ?_
  rw [← Array.forIn_toList]
  simp only [List.forIn_cons, List.forIn_nil]
  refine wpAny_bind (wpAny_bind (wpAny_holding ?_))
  show wpAny _ _ (Builtin.SmallTypes.nextOf (.ref i1) >>= _) _ _ ⟨h₁, g, d, tk0, os⟩
  refine wpAny_bind (D1.item i _ _ _ hlt1 (D1.over st1 hs₁ S.zf1) fun x1 h₂ tk1 hx1 sn1 hs₂ => wpAny_pure ?_)
  replace hs₂ : Heap.SameBut i1 h₁ h₂ := hs₂
  refine wpAny_pure ?_
  refine wpAny_bind (wpAny_bind (wpAny_holding ?_))
  show wpAny _ _ (Builtin.SmallTypes.nextOf (.ref i2) >>= _) _ _ ⟨h₂, g, d, tk1, os⟩
  refine wpAny_bind (D2.item i _ _ _ hlt2 (D2.over (D2.over st2 hs₁ S.zf2) hs₂ S.sep1_2) fun x2 h₃ tk2 hx2 sn2 hs₃ => wpAny_pure ?_)
  replace hs₃ : Heap.SameBut i2 h₂ h₃ := hs₃
  refine wpAny_pure (wpAny_pure ?_)
  show wpAny _ _ (newTuple [x1, x2] >>= _) _ _ _
  refine wpAny_bind (wpAny_newTuple ?_)
  have hsz : h₃.objs.size = hp.objs.size := by rw [hs₃.1, hs₂.1, hs₁.1]
  have hz₃ : IsZipHeld h₃ z TI TO T true := hs₃.extBut _ _ S.zi2 (hs₂.extBut _ _ S.zi1 hz₁)
  have hk : ∀ c o, c ≠ z → c ≠ i1 → c ≠ i2 → hp.get? c = some o → h₃.get? c = some o := fun c o c1 c2 c3 e => hs₃.extBut _ _ c3 (hs₂.extBut _ _ c2 (hs₁.extBut _ _ c1 e))
  have hj1 : St1 (i + 1) h₃ := D1.over sn1 hs₃ S.sep2_1
  refine wpAny_pure ⟨_, rfl, ?_⟩
  show Q (.ref h₃.objs.size) ⟨h₃.push { cls := .type "tuple", data := .seq #[x1, x2] }, g, d, tk2, os⟩
  have hp4 : IsTupOf2 (h₃.push { cls := .type "tuple", data := .seq #[x1, x2] }) h₃.objs.size x1 x2 := Heap.get?_push_size _ rfl
  have hz4 : (h₃.push { cls := .type "tuple", data := .seq #[x1, x2] }).objs.size = h₃.objs.size + 1 := Heap.size_push ..
  rw [hsz] at hp4 hz4 ⊢
  exact hQ x1 x2 _ tk2 hx1 hx2 (Heap.get?_push_of_some _ hz₃) (D1.frame _ _ _ hj1 fun b _ o e => Heap.get?_push_of_some _ e) (D2.frame _ _ _ sn2 fun b _ o e => Heap.get?_push_of_some _ e) hp4 hz4 fun c o c1 c2 c3 e => Heap.get?_push_of_some _ (hk c o c1 c2 c3 e)

theorem held_end {Q : Fin → Shared → Prop} (S : ZipSep2 z TI TO i1 i2 fp1 fp2) (D1 : Draws prog w A i1 fp1 n1 P1 St1)
    (hz : IsZipHeld s.heap z TI TO T f) (hT : s.heap.get? T = some oT) (hTI : IsTupOf2 s.heap TI (.ref i1) (.ref i2)) (st1 : St1 n1 s.heap)
    (hE : ∀ h' e, (∀ c o, c ≠ z → c ≠ i1 → c ≠ i2 → s.heap.get? c = some o → h'.get? c = some o) → (∃ o, h'.get? e = some o ∧ o.cls = .type "StopIteration") → E (.ref e) { s with heap := h' }) :
    wpAny (model prog w) A (Builtin.«zip.__next__» ⟨[.ref z], []⟩) Q E s := by
  obtain ⟨hp, g, d, tk0, os⟩ := s
  show wpAny _ _ (field (.ref z) 2 >>= _) _ _ _
  refine wpAny_bind (wpAny_field hz rfl (x := .bool false) rfl ?_)
  show wpAny _ _ (field (.ref z) 3 >>= _) _ _ _
  refine wpAny_bind (wpAny_field hz rfl (x := .ref TI) rfl ?_)
  refine wpAny_bind (wpAny_seqItems hTI rfl ?_)
  show wpAny _ _ (Builtin.SmallTypes.ownedTupleIsFree (.ref z) >>= _) _ _ _
  refine wpAny_bind (wpAny_tupleHeld_zip hz hT fun h₁ hz₁ hs₁ => ?_)
  replace hs₁ : Heap.SameBut z hp h₁ := hs₁
  simp only [Bool.false_eq_true, if_false]
  refine wpAny_bind ?_
  rw [← Array.forIn_toList]
  simp only [List.forIn_cons, List.forIn_nil]
  refine wpAny_bind (wpAny_bind (wpAny_holding ?_))
  show wpAny _ _ (Builtin.SmallTypes.nextOf (.ref i1) >>= _) _ _ ⟨h₁, g, d, tk0, os⟩
  refine wpAny_bind (D1.done ⟨h₁, g, d, tk0, os⟩ _ _ (D1.over st1 hs₁ S.zf1) fun h₂ e hs₂ he => ?_)
  exact hE h₂ e (fun c o c1 c2 _ x => hs₂ _ _ c2 (hs₁.extBut _ _ c1 x)) he
end
/-- where a zip stands whose tuples are kept: S is the list that takes them -/
def ZSt (h : Heap) (z TI TO i1 i2 S : Addr) : Prop := (IsZip h z TI TO .none ∧ ∃ a b, IsTupOf2 h TO a b) ∨ ∃ T f oT, IsZipHeld h z TI TO T f ∧ h.get? T = some oT ∧ T ≠ z ∧ T ≠ i1 ∧ T ≠ i2 ∧ T ≠ S
theorem ZSt.keep {h h' : Heap} {z TI TO i1 i2 S : Addr} (x : ZSt h z TI TO i1 i2 S) (hk : ∀ b o, b ≠ S → h.get? b = some o → h'.get? b = some o) (hz : z ≠ S) (hTO : TO ≠ S) : ZSt h' z TI TO i1 i2 S := by
  rcases x with ⟨e, a, b, t⟩ | ⟨T, f, oT, e, t, r1, r2, r3, r4⟩
  · exact .inl ⟨hk _ _ hz e, a, b, hk _ _ hTO t⟩
  · exact .inr ⟨T, f, oT, hk _ _ hz e, hk _ _ r4 t, r1, r2, r3, r4⟩
section
variable {prog : Program} {w : World} {A : Around} {E : Value → Shared → Prop} {s : Shared} {z TI TO i1 i2 S : Addr} {fp1 fp2 : List Addr} {n n2 i : Nat} {P1 P2 : Nat → Value → Prop} {St1 St2 : Nat → Heap → Prop}
theorem zl_item {Q : Option Value → Shared → Prop} (Z : ZipSep2 z TI TO i1 i2 fp1 fp2) (D1 : Draws prog w A.in1 i1 fp1 n P1 St1) (D2 : Draws prog w A.in1 i2 fp2 n2 P2 St2) (hle : n ≤ n2)
    (hz : ZSt s.heap z TI TO i1 i2 S) (hS : S < s.heap.objs.size) (hTI : IsTupOf2 s.heap TI (.ref i1) (.ref i2)) (st1 : St1 i s.heap) (st2 : St2 i s.heap) (hlt : i < n)
    (hQ : ∀ x1 x2 h' tk, P1 i x1 → P2 i x2 → ZSt h' z TI TO i1 i2 S → IsTupOf2 h' TI (.ref i1) (.ref i2) → St1 (i + 1) h' → St2 (i + 1) h' → IsTupOf2 h' s.heap.objs.size x1 x2 → h'.objs.size = s.heap.objs.size + 1 →
      (∀ c o, c ≠ z → c ≠ TO → c ≠ i1 → c ≠ i2 → s.heap.get? c = some o → h'.get? c = some o) → Q (some (.ref s.heap.objs.size)) { s with heap := h', toks := tk }) :
    wpAny (model prog w) A (pyNext (.ref z)) Q E s := by
  have l1 : s.heap.objs.size ≠ i1 := by
    obtain ⟨o, e⟩ := D1.live _ _ st1
    exact Nat.ne_of_gt (Heap.lt_size e)
  have l2 : s.heap.objs.size ≠ i2 := by
    obtain ⟨o, e⟩ := D2.live _ _ st2
    exact Nat.ne_of_gt (Heap.lt_size e)
  rcases hz with ⟨hz, a, b, hTO⟩ | ⟨T, f, oT, hz, hT, r1, r2, r3, r4⟩
  · have lz : s.heap.objs.size ≠ z := Nat.ne_of_gt (Heap.lt_size hz)
    exact wpAny_pyNext_zipD2_item Z D1 D2 hz hTI hTO st1 st2 hlt (Nat.lt_of_lt_of_le hlt hle) fun x1 x2 h' tk p1 p2 q1 q2 q3 q4 q5 q6 k =>
      hQ x1 x2 h' tk p1 p2 (.inr ⟨_, false, _, q1, q5, lz, l1, l2, Nat.ne_of_gt hS⟩) (k _ _ Z.TIz Z.TITO Z.TIi1 Z.TIi2 hTI) q3 q4 q5 q6 k
  · have hTy : s.TypeIs (.ref z) "zip" := ⟨_, hz, rfl⟩
    unfold pyNext
    exact wpAny_bind (wpAny_attempt (wpAny_callSpecial?_slot (name := Str.ofString "__next__") hTy F.slot_zip_next
      (wpAny_call_entry F.slot_zip_next hTy F.entry_zip_next
        (held_item Z D1 D2 hz hT hTI st1 st2 hlt (Nat.lt_of_lt_of_le hlt hle) fun x1 x2 h' tk p1 p2 q1 q3 q4 q5 q6 k => wpAny_pure
          (hQ x1 x2 h' tk p1 p2 (.inr ⟨T, true, oT, q1, k _ _ r1 r2 r3 hT, r1, r2, r3, r4⟩) (k _ _ Z.TIz Z.TIi1 Z.TIi2 hTI) q3 q4 q5 q6 fun c o c1 _ c3 c4 e => k c o c1 c3 c4 e)) (F.args_zip_next_1 _))))
theorem zl_done {Q : Option Value → Shared → Prop} (Z : ZipSep2 z TI TO i1 i2 fp1 fp2) (D1 : Draws prog w A.in1 i1 fp1 n P1 St1) (D2 : Draws prog w A.in1 i2 fp2 n2 P2 St2) (hle : n ≤ n2)
    (hz : ZSt s.heap z TI TO i1 i2 S) (hTI : IsTupOf2 s.heap TI (.ref i1) (.ref i2)) (st1 : St1 n s.heap) (st2 : St2 n s.heap)
    (hQ : ∀ h' tk, (∀ c o, c ≠ z → c ≠ TO → c ≠ i1 → c ≠ i2 → s.heap.get? c = some o → h'.get? c = some o) → Q none { s with heap := h', toks := tk }) : wpAny (model prog w) A (pyNext (.ref z)) Q E s := by
  rcases hz with ⟨hz, a, b, hTO⟩ | ⟨T, f, oT, hz, hT, r1, r2, r3, r4⟩
  · exact wpAny_pyNext_zipD2_end Z D1 D2 hz hTI hTO st1 st2 (Nat.le_refl _) hle (.inl rfl) hQ
  · have hTy : s.TypeIs (.ref z) "zip" := ⟨_, hz, rfl⟩
    unfold pyNext
    refine wpAny_bind (wpAny_attempt (wpAny_callSpecial?_slot (name := Str.ofString "__next__") hTy F.slot_zip_next
      (wpAny_call_entry F.slot_zip_next hTy F.entry_zip_next (held_end Z D1 hz hT hTI st1 fun h' e hk he => ?_) (F.args_zip_next_1 _))))
    obtain ⟨o, ho, hc⟩ := he
    refine wpAny_bind (wpAny_isInstance (T := "StopIteration") (b := true) ⟨o, ho, hc⟩ isSubtype_stop ?_)
    exact wpAny_pure (hQ _ _ fun c o c1 _ c3 c4 e => hk c o c1 c3 c4 e)
end
/-- the pairs that were made -/
structure ZG (P1 P2 : Nat → Value → Prop) (lo : Addr) (h : Heap) (as : List Addr) : Prop where
  rise : as.Pairwise (· < ·)
  above : ∀ a ∈ as, lo ≤ a
  pairs : ∀ (j : Nat) (a : Addr), as[j]? = some a → ∃ x y, P1 j x ∧ P2 j y ∧ IsTupOf2 h a x y
theorem ZG.there {P1 P2 : Nat → Value → Prop} {lo : Addr} {h : Heap} {as : List Addr} (g : ZG P1 P2 lo h as) {a : Addr} (ha : a ∈ as) : a < h.objs.size := by
  obtain ⟨j, hj⟩ := List.mem_iff_getElem?.mp ha
  obtain ⟨_, _, _, _, e⟩ := g.pairs j a hj
  exact Heap.lt_size e
/-- all that lies below -/
structure Low (lo S z TI TO i1 i2 : Addr) (fp1 fp2 : List Addr) : Prop where
  lS : S < lo
  lz : z < lo
  lTO : TO < lo
  l1 : i1 < lo
  l2 : i2 < lo
  zS : z ≠ S
  TIS : TI ≠ S
  TOS : TO ≠ S
  S1 : S ∉ fp1
  S2 : S ∉ fp2
section
variable {prog : Program} {w : World} {A : Around} {s : Shared} {R : Result → Shared → Prop} {z TI TO i1 i2 S lo : Addr} {fp1 fp2 : List Addr} {n n2 : Nat} {P1 P2 : Nat → Value → Prop} {St1 St2 : Nat → Heap → Prop}
theorem zl_loop (Z : ZipSep2 z TI TO i1 i2 fp1 fp2) (D1 : Draws prog w A.in1.in1 i1 fp1 n P1 St1) (D2 : Draws prog w A.in1.in1 i2 fp2 n2 P2 St2) (hle : n ≤ n2) (L : Low lo S z TI TO i1 i2 fp1 fp2) (hn : n ≤ sizeLine) (res : Value) {h₁ : Heap}
    (hR : ∀ h' tk acc c as, (∀ b o, b ≠ S → b ≠ z → b ≠ TO → b ≠ i1 → b ≠ i2 → h₁.get? b = some o → h'.get? b = some o) → h'.get? S = some { cls := .type "list", dict := none, data := .seq acc c, slots := #[] } → as.length = n → ZG P1 P2 lo h' as →
      acc.toList = as.map Value.ref → R (.ok (.ret res)) { s with heap := h', toks := tk }) :
    ∀ (k i : Nat) (h : Heap) (tk c : Nat) (acc : Array Value) (as : List Addr), n - i = k → i ≤ n → ZSt h z TI TO i1 i2 S → IsTupOf2 h TI (.ref i1) (.ref i2) → St1 i h → St2 i h → (∀ b o, b ≠ S → b ≠ z → b ≠ TO → b ≠ i1 → b ≠ i2 → h₁.get? b = some o → h.get? b = some o) →
      h.get? S = some { cls := .type "list", dict := none, data := .seq acc c, slots := #[] } → acc.toList = as.map Value.ref → as.length = i → ZG P1 P2 lo h as → lo ≤ h.objs.size →
      codeAny (model prog w) A (.builtin "list.extend.loop" ⟨[.ref S, .ref z, res], []⟩) R { s with heap := h, toks := tk } := by
  have sz : S ≠ z := fun e => L.zS e.symm
  have sTO : S ≠ TO := fun e => L.TOS e.symm
  have s1 : S ≠ i1 := fun e => L.S1 (e ▸ Z.mem1)
  have s2 : S ≠ i2 := fun e => L.S2 (e ▸ Z.mem2)
  intro k
  induction k with
  | zero =>
    intro i h tk c acc as hk hi hst hTI st1 st2 hkeep hS hacc hal hG hIs
    have hin : i = n := by omega
    rw [hin] at st1 st2 hal
    refine codeAny_builtin PySem.F.entry_extend_loop ?_
    rw [Around.under_plainId PySem.F.plain_extend_loop _]
    show wpAny _ A.in1 (pyNext (.ref z) >>= _) _ _ _
    refine wpAny_bind (zl_done (s := { s with heap := h, toks := tk }) (A := A.in1) Z D1 D2 hle hst hTI st1 st2 fun h' tk' he => ?_)
    refine wpAny_pure (hR h' tk' acc c as (fun b o h1 h2 h3 h4 h5 e => he b o h2 h3 h4 h5 (hkeep b o h1 h2 h3 h4 h5 e)) (he S _ sz sTO s1 s2 hS) hal ⟨hG.rise, hG.above, fun j a hj => ?_⟩ hacc)
    obtain ⟨x, y, e1, e2, e3⟩ := hG.pairs j a hj
    have ab := hG.above a (List.mem_of_getElem? hj)
    exact ⟨x, y, e1, e2, he a _ (Nat.ne_of_gt (Nat.lt_of_lt_of_le L.lz ab)) (Nat.ne_of_gt (Nat.lt_of_lt_of_le L.lTO ab)) (Nat.ne_of_gt (Nat.lt_of_lt_of_le L.l1 ab)) (Nat.ne_of_gt (Nat.lt_of_lt_of_le L.l2 ab)) e3⟩
  | succ k ih =>
    intro i h tk c acc as hk hi hst hTI st1 st2 hkeep hS hacc hal hG hIs
    have hlt : i < n := by omega
    have hsz : acc.size = i := by rw [← Array.length_toList, hacc, List.length_map, hal]
    refine codeAny_builtin PySem.F.entry_extend_loop ?_
    rw [Around.under_plainId PySem.F.plain_extend_loop _]
    show wpAny _ A.in1 (pyNext (.ref z) >>= _) _ _ _
    refine wpAny_bind (zl_item (s := { s with heap := h, toks := tk }) (S := S) (A := A.in1) Z D1 D2 hle hst (Heap.lt_size hS) hTI st1 st2 hlt fun x1 x2 h' tk' p1 p2 hst' hTI' st1' st2' ht hz hkp => ?_)
    dsimp only at ht hz hkp ⊢
    have hS' := hkp S _ sz sTO s1 s2 hS
    have up : ∀ b o, b ≠ S → h'.get? b = some o → (h'.update S (Obj.mapSeq (·.push (Value.ref h.objs.size)))).get? b = some o := fun b o hb e => (Heap.get?_update_other _ _ (Ne.symm hb)).trans e
    have hSl : S < h.objs.size := Heap.lt_size hS
    show wpAny _ A.in1 (updateSeq S (·.push (Value.ref h.objs.size)) >>= _) _ _ _
    refine wpAny_bind ?_
    refine wpAny_updateSeq hS' rfl (wpAny_pure ⟨plainId_quiet PySem.F.plain_extend_loop _, ih (i + 1) _ tk' _ (acc.push (Value.ref h.objs.size)) (as ++ [h.objs.size]) (by omega) hlt (hst'.keep up L.zS L.TOS) (up _ _ L.TIS hTI')
      (D1.frame _ _ _ st1' fun b hb o e => up b o (fun q => L.S1 (q ▸ hb)) e) (D2.frame _ _ _ st2' fun b hb o e => up b o (fun q => L.S2 (q ▸ hb)) e)
      (fun b o h1 h2 h3 h4 h5 e => up b o h1 (hkp b o h2 h3 h4 h5 (hkeep b o h1 h2 h3 h4 h5 e))) (Heap.get?_update_self _ hS' rfl) (by rw [Array.toList_push, hacc, List.map_append]; rfl) (by rw [List.length_append, hal]; rfl) ⟨?_, ?_, ?_⟩ ?_⟩) (by rw [hsz]; omega) (by show (acc.push (Value.ref h.objs.size)).size ≤ sizeLine + 1; rw [Array.size_push, hsz]; omega)
    · refine List.pairwise_append.mpr ⟨hG.rise, List.pairwise_singleton _ _, fun a ha b hb => ?_⟩
      rw [List.mem_singleton.mp hb]
      exact hG.there ha
    · intro a ha
      rcases List.mem_append.mp ha with ha | ha
      · exact hG.above a ha
      · rw [List.mem_singleton.mp ha]; exact hIs
    · intro j b hj
      rcases Nat.lt_trichotomy j as.length with h1 | h1 | h1
      · rw [List.getElem?_append_left h1] at hj
        obtain ⟨x', y', e1, e2, e3⟩ := hG.pairs j b hj
        have ab := hG.above b (List.mem_of_getElem? hj)
        exact ⟨x', y', e1, e2, up b _ (Nat.ne_of_gt (Nat.lt_of_lt_of_le L.lS ab)) (hkp b _ (Nat.ne_of_gt (Nat.lt_of_lt_of_le L.lz ab)) (Nat.ne_of_gt (Nat.lt_of_lt_of_le L.lTO ab)) (Nat.ne_of_gt (Nat.lt_of_lt_of_le L.l1 ab)) (Nat.ne_of_gt (Nat.lt_of_lt_of_le L.l2 ab)) e3)⟩
      · subst h1
        have hb : h.objs.size = b := by simpa using hj
        subst hb
        exact ⟨x1, x2, by rw [hal]; exact p1, by rw [hal]; exact p2, up _ _ (Nat.ne_of_gt hSl) ht⟩
      · have hnone : (as ++ [h.objs.size])[j]? = none := List.getElem?_eq_none (by rw [List.length_append, List.length_singleton]; omega)
        rw [hnone] at hj; cases hj
    · have e : (h'.update S (Obj.mapSeq (·.push (Value.ref h.objs.size)))).get? h.objs.size = _ := up _ _ (Nat.ne_of_gt hSl) ht
      exact Nat.le_trans hIs (Nat.le_of_lt (Heap.lt_size e))
theorem zl_hint {E : Value → Shared → Prop} (hT : s.TypeIs (.ref z) "zip") {Q : Bool → Shared → Prop} (h : Q true s) : wpAny (model prog w) A (Builtin.List.listLengthHint (.ref z)) Q E s := by
  unfold Builtin.List.listLengthHint
  refine wpAny_bind (wpAny_specialOf hT zip_no_len ?_)
  show wpAny _ _ (specialOf (Value.ref z) (Str.ofString "__length_hint__") >>= _) _ _ _
  refine wpAny_bind (wpAny_specialOf hT zip_no_hint ?_)
  exact wpAny_pure h
theorem zl_extend (Z : ZipSep2 z TI TO i1 i2 fp1 fp2) (D1 : Draws prog w A.in1.in1 i1 fp1 n P1 St1) (D2 : Draws prog w A.in1.in1 i2 fp2 n2 P2 St2) (hle : n ≤ n2) (L : Low lo S z TI TO i1 i2 fp1 fp2) (hn : n ≤ sizeLine) (res : Value) {a b : Value}
    (hz : IsZip s.heap z TI TO .none) (hTI : IsTupOf2 s.heap TI (.ref i1) (.ref i2)) (hTO : IsTupOf2 s.heap TO a b) (st1 : St1 0 s.heap) (st2 : St2 0 s.heap) (hlo : lo ≤ s.heap.objs.size) (c₀ : Nat) (hS : s.heap.get? S = some { cls := .type "list", data := .seq #[] c₀ })
    (hR : ∀ h' tk acc c as, (∀ b o, b ≠ S → b ≠ z → b ≠ TO → b ≠ i1 → b ≠ i2 → s.heap.get? b = some o → h'.get? b = some o) → h'.get? S = some { cls := .type "list", dict := none, data := .seq acc c, slots := #[] } → as.length = n → ZG P1 P2 lo h' as →
      acc.toList = as.map Value.ref → R (.ok (.ret res)) { s with heap := h', toks := tk }) :
    wpAny (model prog w) A.in1 (Builtin.List.listExtendWith (.ref S) (.ref z) res)
      (fun fin s' => match fin with | .done f => R (.ok f) s' | .again c' => c'.quiet = true ∧ codeAny (model prog w) A c' R s') (fun e s' => R (.error e) s') s := by
  have hTy : s.TypeIs (.ref z) "zip" := ⟨_, hz, rfl⟩
  unfold Builtin.List.listExtendWith
  refine wpAny_bind (wpAny_typeOf (T := "zip") hTy ?_)
  have h1 : Builtin.List.listSameRef (.ref S) (.ref z) = false := by
    have : S ≠ z := fun e => L.zS e.symm
    simp [Builtin.List.listSameRef, this]
  have h2 : (Value.type "zip" == Value.type "list") = false := by decide
  have h3 : (Value.type "zip" == Value.type "tuple") = false := by decide
  simp only [h1, h2, h3, Bool.or_false, Bool.false_eq_true, if_false]
  refine wpAny_bind (wpAny_pyIter_zip hz ?_)
  refine wpAny_bind (wpAny_holding (zl_hint hTy ?_))
  have go : ∀ (h : Heap) (c₁ tk : Nat), h.objs.size = s.heap.objs.size → (∀ b o, b ≠ S → s.heap.get? b = some o → h.get? b = some o) → h.get? S = some { cls := .type "list", data := .seq #[] c₁ } → codeAny (model prog w) A (.builtin "list.extend.loop" ⟨[.ref S, .ref z, res], []⟩) R { s with heap := h, toks := tk } := by
    intro h c₁ tk hsz hk hS₁
    have e1 : ZSt h z TI TO i1 i2 S := .inl ⟨hk _ _ L.zS hz, a, b, hk _ _ L.TOS hTO⟩
    exact zl_loop (h₁ := s.heap) Z D1 D2 hle L hn res hR n 0 h tk c₁ #[] [] (Nat.sub_zero _) (Nat.zero_le _) e1 (hk _ _ L.TIS hTI) (D1.frame _ _ _ st1 fun b hb o e => hk b o (fun q => L.S1 (q ▸ hb)) e) (D2.frame _ _ _ st2 fun b hb o e => hk b o (fun q => L.S2 (q ▸ hb)) e)
      (fun b o h1 _ _ _ _ e => hk b o h1 e) hS₁ rfl rfl ⟨List.Pairwise.nil, (fun _ ha => nomatch ha), (fun j a hj => by simp at hj)⟩ (by rw [hsz]; exact hlo)
  refine wpAny_bind (wpAny_rule ?_)
  refine wpAny_bind ?_
  show wpAny _ _ (updateSeq S (·.push .none) >>= fun _ => updateSeq S (·.pop)) _ _ _
  refine wpAny_bind (wpAny_updateSeq hS rfl ?_)
  have hS₂ := Heap.get?_update_self (Obj.mapSeq (·.push Value.none)) hS rfl
  refine wpAny_updateSeq (hz := by seq_fits) hS₂ rfl ?_
  have hS₃ := Heap.get?_update_self (Obj.mapSeq (·.pop)) hS₂ rfl
  refine wpAny_pure ⟨plainId_quiet PySem.F.plain_extend_loop _, go _ _ _ (by rw [Heap.size_update, Heap.size_update]) (fun b o hb e => ?_) hS₃⟩
  exact (Heap.get?_update_other _ _ (Ne.symm hb)).trans ((Heap.get?_update_other _ _ (Ne.symm hb)).trans e)
theorem zl_init (Z : ZipSep2 z TI TO i1 i2 fp1 fp2) (D1 : Draws prog w A.in1.in1 i1 fp1 n P1 St1) (D2 : Draws prog w A.in1.in1 i2 fp2 n2 P2 St2) (hle : n ≤ n2) (L : Low lo S z TI TO i1 i2 fp1 fp2) (hn : n ≤ sizeLine) {a b : Value}
    (hz : IsZip s.heap z TI TO .none) (hTI : IsTupOf2 s.heap TI (.ref i1) (.ref i2)) (hTO : IsTupOf2 s.heap TO a b) (st1 : St1 0 s.heap) (st2 : St2 0 s.heap) (hlo : lo ≤ s.heap.objs.size) (hS : s.heap.get? S = some { cls := .type "list", data := .seq #[] })
    (hR : ∀ h' tk acc c as, (∀ b o, b ≠ S → b ≠ z → b ≠ TO → b ≠ i1 → b ≠ i2 → s.heap.get? b = some o → h'.get? b = some o) → h'.get? S = some { cls := .type "list", dict := none, data := .seq acc c, slots := #[] } → as.length = n → ZG P1 P2 lo h' as →
      acc.toList = as.map Value.ref → R (.ok (.ret .none)) { s with heap := h', toks := tk }) :
    wpAny (model prog w) A.in1 (Builtin.«list.__init__» ⟨[.ref S, .ref z], []⟩)
      (fun fin s' => match fin with | .done f => R (.ok f) s' | .again c' => c'.quiet = true ∧ codeAny (model prog w) A c' R s') (fun e s' => R (.error e) s') s := by
  show wpAny _ _ (do let old ← Builtin.List.listItems (.ref S); Builtin.List.listUpdate (.ref S) (fun _ => #[]); letGo old.toList.reverse; Builtin.List.listExtendWith (.ref S) (.ref z) .none) _ _ s
  refine wpAny_bind ?_
  unfold Builtin.List.listItems
  refine wpAny_bind (wpAny_seqItems hS rfl (wpAny_pure ?_))
  show wpAny _ _ (updateSeq S (fun _ => #[]) >>= fun _ => letGo (#[] : Array Value).toList.reverse >>= fun _ => Builtin.List.listExtendWith (.ref S) (.ref z) .none) _ _ s
  refine wpAny_bind (wpAny_updateSeq hS rfl ?_)
  have hS₂ := Heap.get?_update_self (Obj.mapSeq (fun _ => (#[] : Array Value))) hS rfl
  have oth : ∀ b o, b ≠ S → s.heap.get? b = some o → (s.heap.update S (Obj.mapSeq (fun _ => (#[] : Array Value)))).get? b = some o :=
    fun b o hb e => (Heap.get?_update_other _ _ (Ne.symm hb)).trans e
  refine wpAny_bind (wpAny_letGo ?_)
  refine zl_extend Z D1 D2 hle L hn .none (oth _ _ L.zS hz) (oth _ _ L.TIS hTI) (oth _ _ L.TOS hTO) (D1.frame _ _ _ st1 fun b hb o e => oth b o (fun q => L.S1 (q ▸ hb)) e) (D2.frame _ _ _ st2 fun b hb o e => oth b o (fun q => L.S2 (q ▸ hb)) e) (by rw [Heap.size_update]; exact hlo) _ hS₂ (fun h' tk acc c as hk hS' hl hG hacc => ?_)
  exact hR h' tk acc c as (fun b o h1 h2 h3 h4 h5 e => hk b o h1 h2 h3 h4 h5 (oth b o h1 e)) hS' hl hG hacc
theorem zl_call {E : Value → Shared → Prop} {Q : Value → Shared → Prop} (Z : ZipSep2 z TI TO i1 i2 fp1 fp2) (D1 : Draws prog w A.in1.in1.in1 i1 fp1 n P1 St1) (D2 : Draws prog w A.in1.in1.in1 i2 fp2 n2 P2 St2) (hle : n ≤ n2) (hn : n ≤ sizeLine) {a b : Value}
    (hz : IsZip s.heap z TI TO .none) (hTI : IsTupOf2 s.heap TI (.ref i1) (.ref i2)) (hTO : IsTupOf2 s.heap TO a b) (st1 : St1 0 s.heap) (st2 : St2 0 s.heap) (f1 : ∀ b ∈ fp1, b < s.heap.objs.size) (f2 : ∀ b ∈ fp2, b < s.heap.objs.size)
    (hQ : ∀ h' tk acc c as, (∀ b o, b ≠ z → b ≠ TO → b ≠ i1 → b ≠ i2 → s.heap.get? b = some o → h'.get? b = some o) → h'.get? s.heap.objs.size = some { cls := .type "list", dict := none, data := .seq acc c, slots := #[] } → as.length = n → ZG P1 P2 (s.heap.objs.size + 1) h' as →
      acc.toList = as.map Value.ref → Q (.ref s.heap.objs.size) { s with heap := h', toks := tk }) :
    wpAny (model prog w) A (call (.type "list") [.ref z]) Q E s := by
  refine callType_codes (Q₁ := fun obj s₁ => obj = .ref s.heap.objs.size ∧ s₁ = { s with heap := s.heap.push { cls := .type "list", data := .seq #[] } }) PySem.F.called_list (PySem.F.typeCall_list_1 _) PySem.F.entry_list_init
    (code_list_new _ ⟨rfl, rfl⟩) fun obj s₁ h₁ => ?_
  obtain ⟨rfl, rfl⟩ := h₁
  have hS : (s.heap.push { cls := .type "list", data := .seq #[] }).get? s.heap.objs.size = some { cls := .type "list", data := .seq #[] } := Heap.get?_push_size _ rfl
  have up : ∀ b o, s.heap.get? b = some o → (s.heap.push { cls := .type "list", data := .seq #[] }).get? b = some o := fun b o e => Heap.get?_push_of_some _ e
  have lz : z < s.heap.objs.size := Heap.lt_size hz
  have lTI : TI < s.heap.objs.size := Heap.lt_size hTI
  have lTO : TO < s.heap.objs.size := Heap.lt_size hTO
  have l1 : i1 < s.heap.objs.size := f1 _ Z.mem1
  have l2 : i2 < s.heap.objs.size := f2 _ Z.mem2
  have L : Low (s.heap.objs.size + 1) s.heap.objs.size z TI TO i1 i2 fp1 fp2 := ⟨Nat.lt_succ_self _, Nat.lt_succ_of_lt lz, Nat.lt_succ_of_lt lTO, Nat.lt_succ_of_lt l1, Nat.lt_succ_of_lt l2, Nat.ne_of_lt lz, Nat.ne_of_lt lTI, Nat.ne_of_lt lTO, fun q => Nat.lt_irrefl _ (f1 _ q), fun q => Nat.lt_irrefl _ (f2 _ q)⟩
  refine ⟨⟨_, hS, rfl⟩, PySem.F.args_list_init_2 _ _, zl_init (A := A.in1) Z D1 D2 hle L hn (up _ _ hz) (up _ _ hTI) (up _ _ hTO) (D1.frame _ _ _ st1 fun b _ o e => up b o e) (D2.frame _ _ _ st2 fun b _ o e => up b o e) (by show _ ≤ (s.heap.push _).objs.size; rw [Heap.size_push]; exact Nat.le_refl _) hS (fun h' tk acc c as hk hS' hl hG hacc => ?_)⟩
  exact ⟨rfl, hQ h' tk acc c as (fun b o h2 h3 h4 h5 e => hk b o (Nat.ne_of_lt (Heap.lt_size e)) h2 h3 h4 h5 (up b o e)) hS' hl hG hacc⟩
end
/-! ### over the layer -/
/-- the tuples tracked at their addresses -/
def putP : Hp → List Addr → List (V × V) → Hp
  | H, a :: as, p :: ps => putP (upd H a (.tup [p.1, p.2])) as ps
  | H, _, _ => H
theorem putP_off {b : Addr} : ∀ (as : List Addr) (ps : List (V × V)) (H : Hp), b ∉ as → putP H as ps b = H b
  | [], _, _, _ => rfl
  | _ :: _, [], _, _ => rfl
  | a :: as, p :: ps, H, h => by
    show putP (upd H a (.tup [p.1, p.2])) as ps b = H b
    rw [putP_off as ps _ (fun z => h (List.mem_cons_of_mem _ z)), upd_ne (fun z => h (by rw [z]; exact List.mem_cons_self))]
theorem putP_at : ∀ (as : List Addr) (ps : List (V × V)) (H : Hp), as.length = ps.length → as.Nodup → ∀ (j : Nat) (a : Addr) (p : V × V), as[j]? = some a → ps[j]? = some p → putP H as ps a = some (.tup [p.1, p.2])
  | [], [], _, _, _, j, _, _, h, _ => by simp at h
  | [], _ :: _, _, h, _, _, _, _, _, _ => by cases h
  | _ :: _, [], _, h, _, _, _, _, _, _ => by cases h
  | a :: as, p :: ps, H, h, hn, 0, a', p', h1, h2 => by
    have e1 : a = a' := Option.some.inj h1
    have e2 : p = p' := Option.some.inj h2
    subst e1
    subst e2
    show putP (upd H a (.tup [p.1, p.2])) as ps a = _
    rw [putP_off as ps _ (List.nodup_cons.mp hn).1, upd_same]
  | a :: as, p :: ps, H, h, hn, j + 1, a', p', h1, h2 => putP_at as ps (upd H a (.tup [p.1, p.2])) (Nat.succ.inj h) (List.nodup_cons.mp hn).2 j a' p' (by simpa using h1) (by simpa using h2)
theorem vals_refs : ∀ as : List Addr, Vals (as.map V.ref) (as.map Value.ref)
  | [] => .nil
  | _ :: as => .cons rfl (vals_refs as)
/-- what list(zip(..)) gives over us, vs -/
def ZipList (H H' : Hp) (p : Addr) (ts : List Addr) (us vs : List V) : Prop := (∀ b o, H b = some o → H' b = some o) ∧ H p = none ∧ (∀ t ∈ ts, H t = none) ∧ p ∉ ts ∧ ts.Nodup ∧ H' p = some (.lst (ts.map V.ref)) ∧ ts.length = us.length ∧ ∀ (j : Nat) (t : Addr) (x y : V), ts[j]? = some t → us[j]? = some x → vs[j]? = some y → H' t = some (.tup [x, y])
def tListZip (K : PySem.W.Frag) (ta : TA) : TE := fun σ H Q => ta σ H fun xs H2 => ∃ (a b : Addr) (us vs : List V), xs = [.ref a, .ref b] ∧ (SqL K H2 a us ∨ SqT K H2 a us) ∧ (SqL K H2 b vs ∨ SqT K H2 b vs) ∧ us.length ≤ vs.length ∧
  ∀ H' p ts, ZipList H2 H' p ts us vs → Q (.ref p) H'
section
variable {X : Cx} {pins : List (Addr × Obj)} {σ : L2.St} {H : Hp} {s : Shared}
theorem src {a : Addr} {us : List V} (I : Inv X pins σ H s) (h : SqL X.K H a us ∨ SqT X.K H a us) : ∃ (its : List Value) (o : Obj) (Hd : Heap → Prop), Vals us its ∧ us.length ≤ sizeLine ∧ a < s.heap.objs.size ∧ Begins (.ref a) o Hd ∧ Hd s.heap ∧
    ∀ (A : Around) (it : Addr), A.handled = none → a ≠ it → ∃ St : Nat → Heap → Prop, Draws X.prog X.w A it [it, a] its.toArray.size (fun i v => its.toArray[i]? = some v) St ∧ ∀ h', h'.get? it = some o → Hd h' → St 0 h' := by
  rcases h with h | h
  · obtain ⟨its, rv, p1, z⟩ := I.list h
    exact ⟨its, _, _, rv, z, p1.lt, begins_list a its.toArray, p1.isList, fun A it hh ne => ⟨_, Draws.list hh it a ne its.toArray, fun h' e d => ⟨⟨_, e, rfl, rfl⟩, d⟩⟩⟩
  · obtain ⟨its, rv, p1, z⟩ := I.tuple h
    have p2 : s.heap.IsTuple a its.toArray := p1
    obtain ⟨o1, ho1, _⟩ := id p1
    exact ⟨its, _, _, rv, z, Heap.lt_size ho1, begins_tuple a its.toArray, p2, fun A it hh ne => ⟨_, Draws.tuple hh it a ne its.toArray, fun h' e d => ⟨⟨_, e, rfl, rfl⟩, d⟩⟩⟩
theorem zip_laid {h' : Heap} {tk : Nat} {us vs : List V} {its its2 : List Value} {acc : Array Value} {c : Nat} {as : List Addr} {S : Addr} (I : Inv X pins σ H s) (hz : us.length ≤ sizeLine) (rv : Vals us its) (rv2 : Vals vs its2) (hl : us.length ≤ vs.length) (hsz : s.heap.objs.size ≤ S)
    (hk : ∀ b o, s.heap.get? b = some o → h'.get? b = some o) (hS : h'.get? S = some { cls := .type "list", dict := none, data := .seq acc c, slots := #[] }) (hla : as.length = us.length) (hG : ZG (fun i v => its.toArray[i]? = some v) (fun i v => its2.toArray[i]? = some v) (S + 1) h' as) (hacc : acc.toList = as.map Value.ref) :
    ∃ H' : Hp, ZipList H H' S as us vs ∧ Inv X pins σ H' { s with heap := h', toks := tk } := by
  have gt : ∀ a ∈ as, S < a := fun a ha => hG.above a ha
  have hSn : S ∉ as := fun z => Nat.lt_irrefl _ (gt _ z)
  have nd : as.Nodup := List.Pairwise.imp (fun {a b} (h : a < b) => Nat.ne_of_lt h) hG.rise
  have new : ∀ t ∈ as, H t = none := fun t ht => I.hok.fresh (Nat.le_trans hsz (Nat.le_of_lt (gt t ht)))
  have newS : H S = none := I.hok.fresh hsz
  have lps : as.length = (us.zip vs).length := by rw [List.length_zip, Nat.min_eq_left hl, hla]
  have atP := putP_at as (us.zip vs) (upd H S (.lst (as.map V.ref))) lps nd
  have off : ∀ b, b ∉ as → b ≠ S → putP (upd H S (.lst (as.map V.ref))) as (us.zip vs) b = H b := fun b h1 h2 => by rw [putP_off as _ _ h1, upd_ne h2]
  have low : ∀ b o, s.heap.get? b = some o → b ∉ as ∧ b ≠ S := fun b o e => ⟨fun z => absurd (Heap.lt_size e) (Nat.not_lt.mpr (Nat.le_trans hsz (Nat.le_of_lt (gt b z)))), fun z => absurd (Heap.lt_size e) (Nat.not_lt.mpr (by rw [z]; exact hsz))⟩
  have kp : ∀ b u, H b = some u → (putP (upd H S (.lst (as.map V.ref))) as (us.zip vs)) b = some u := fun b u e => by
    rw [off b (fun z => by rw [new b z] at e; cases e) (fun z => by rw [z, newS] at e; cases e)]
    exact e
  have eS : putP (upd H S (.lst (as.map V.ref))) as (us.zip vs) S = some (.lst (as.map V.ref)) := by rw [putP_off as _ _ hSn, upd_same]
  have two : ∀ (j : Nat) (x y : V), us[j]? = some x → vs[j]? = some y → (us.zip vs)[j]? = some (x, y) := fun j x y e1 e2 => List.getElem?_zip_eq_some.mpr ⟨e1, e2⟩
  refine ⟨putP (upd H S (.lst (as.map V.ref))) as (us.zip vs), ⟨kp, newS, new, hSn, nd, eS, hla, fun j t x y e1 e2 e3 => atP j t (x, y) e1 (two j x y e2 e3)⟩, ?_⟩
  refine I.call' (ch := []) rfl ⟨fun b o q _ _ _ => hk b o q, fun b o q _ _ _ => ⟨o.slots, hk b o q⟩, fun b o q n _ => ?_, fun b o q _ => ⟨o, hk b o q⟩, fun b xs q => kp b _ q, fun b o u q => kp b _ q, fun b ps q => ⟨#[], by rw [kp b _ q]; simp⟩⟩ (fun b u q => ?_) I.bare fun b z => by simp at z
  · obtain ⟨z1, z2⟩ := low b o q
    rw [off b z1 z2]
    exact n
  · by_cases hb : b ∈ as
    · obtain ⟨j, hj⟩ := List.mem_iff_getElem?.mp hb
      have lj : j < as.length := (List.getElem?_eq_some_iff.mp hj).1
      have ex : us[j]? = some us[j] := List.getElem?_eq_getElem (by omega)
      have ey : vs[j]? = some vs[j] := List.getElem?_eq_getElem (by omega)
      rw [atP j b (us[j], vs[j]) hj (two j _ _ ex ey)] at q
      cases q
      obtain ⟨x, y, f1, f2, f3⟩ := hG.pairs j b hj
      obtain ⟨u1, g1, r1⟩ := rv.get ex
      obtain ⟨u2, g2, r2⟩ := rv2.get ey
      have f1 : its[j]? = some x := by simpa using f1
      have f2 : its2[j]? = some y := by simpa using f2
      rw [f1] at g1
      rw [f2] at g2
      cases g1
      cases g2
      exact ⟨by show 2 ≤ sizeLine; decide, [x, y], .cons r1 (.cons r2 .nil), ⟨_, f3, rfl, _, rfl⟩⟩
    · by_cases hb2 : b = S
      · rw [hb2] at q ⊢
        rw [eS] at q
        cases q
        refine ⟨by rw [List.length_map, hla]; exact hz, acc.toList, c, by rw [hacc]; exact vals_refs as, ?_⟩
        rw [Array.toArray_toList]
        exact hS
      · rw [off b hb hb2] at q
        exact (I.hok b u q).stay (fun d v _ y => hk d v y) (fun d y => kp d _ y) fun d xs y => kp d _ y
theorem pe_listZip {e1 e2 : Expr} {ta : TA} {p p2 q pos : Pos} (hg : Gl X "list") (hm : X.mg "list" = none) (hg2 : Gl X "zip") (hm2 : X.mg "zip" = none) (ha : PA X [e1, e2] ta) (hc : X.calm = true := by rfl)
    (hs : starEach [e1, e2] X.env = (false, eval e1 X.env) :: starEach [e2] X.env := by rfl) (hpl : (backTo q (starEach [e2] X.env)).any (·.1) = false := by rfl)
    (hz : starEach [.Call (.Name "zip" p2) [e1, e2] [] q] X.env = (false, eval (.Call (.Name "zip" p2) [e1, e2] [] q) X.env) :: starEach [] X.env := by rfl) :
    PE X (.Call (.Name "list" p) [.Call (.Name "zip" p2) [e1, e2] [] q] [] pos) (tListZip X.K ta) := by
  refine ⟨fun pins s σ H Q I h => ?_⟩
  refine Call_ (ld_blt I hg hm (u := .type "list") (by decide +kernel) ?_)
  refine PyProof.Rows.callWith_type1 (PyProof.Rows.args_cons ?_ hz) hz rfl
  refine Call_ (ld_blt I hg2 hm2 PyProof.Rows.boot_zip ?_)
  refine PyProof.Rows.callWith_type1 (thn (ha.run q pins s σ H _ I h) fun us0 s1 ⟨xs, H1, I1, r1, q1⟩ => ?_) hs hpl
  obtain ⟨a, b, us, vs, rfl, hqx, hqy, hl, q1⟩ := q1
  cases r1 with
  | cons r rr =>
    cases rr with
    | cons r' rr =>
      cases rr
      cases r
      cases r'
      obtain ⟨its, o1, Hd1, rv, z1, la, B1, h1, mk1⟩ := src I1 hqx
      obtain ⟨its2, o2, Hd2, rv2, z2, lb, B2, h2, mk2⟩ := src I1 hqy
      refine zip_begins2 B1 B2 h1 h2 fun h' hz hTI hTO g1 g2 hsz hk => ?_
      refine PyProof.Rows.args_nil ?_
      have hd := I1.ok.hd hc
      obtain ⟨St1, D1, b1⟩ := mk1 X.A.in1.in1.in1 s1.heap.objs.size hd (Nat.ne_of_lt la)
      obtain ⟨St2, D2, b2⟩ := mk2 X.A.in1.in1.in1 (s1.heap.objs.size + 1) hd (Nat.ne_of_lt (Nat.lt_succ_of_lt lb))
      have Z := zip_sep2 (N := s1.heap.objs.size) (fp1 := [a]) (fp2 := [b]) (fun c hc => by rw [List.mem_singleton.mp hc]; exact la) (fun c hc => by rw [List.mem_singleton.mp hc]; exact lb)
      have n1 : its.length = us.length := rv.length.symm
      have n2 : its2.length = vs.length := rv2.length.symm
      have e1 : its.toArray.size = us.length := by rw [List.size_toArray, n1]
      have hle2 : us.length ≤ its2.toArray.size := by rw [List.size_toArray, n2]; exact hl
      rw [e1] at D1
      have lt5 : ∀ k, k < 5 → s1.heap.objs.size + k < h'.objs.size := fun k hk5 => by rw [hsz]; exact Nat.add_lt_add_left hk5 _
      have ltN : ∀ {c : Addr}, c < s1.heap.objs.size → c < h'.objs.size := fun h => Nat.lt_of_lt_of_le h (by rw [hsz]; exact Nat.le_add_right _ _)
      refine zl_call Z D1 D2 hle2 z1 hz hTI hTO (b1 h' g1 (B1.keeps _ _ h1 hk)) (b2 h' g2 (B2.keeps _ _ h2 hk)) (fun c hc => ?_) (fun c hc => ?_) fun h'' tk acc c as hk2 hS hla hG hacc => ?_
      · rcases List.mem_cons.mp hc with rfl | hc
        · exact lt5 0 (by decide)
        · rw [List.mem_singleton.mp hc]; exact ltN la
      · rcases List.mem_cons.mp hc with rfl | hc
        · exact lt5 1 (by decide)
        · rw [List.mem_singleton.mp hc]; exact ltN lb
      · have keep : ∀ c o, s1.heap.get? c = some o → h''.get? c = some o := fun c o e => by
          have lt : c < s1.heap.objs.size := Heap.lt_size e
          have no : ∀ k, c ≠ s1.heap.objs.size + k := fun k => Nat.ne_of_lt (Nat.lt_of_lt_of_le lt (Nat.le_add_right _ _))
          exact hk2 c o (no 4) (no 3) (no 0) (no 1) (hk c o e)
        obtain ⟨H', ZL, J⟩ := zip_laid (tk := tk) I1 z1 rv rv2 hl (by show s1.heap.objs.size ≤ h'.objs.size; rw [hsz]; exact Nat.le_add_right _ _) keep hS hla hG hacc
        exact ⟨.ref _, H', J, rfl, q1 H' _ as ZL⟩
end
end LZ
def topS (i : Nat) : Stmt := PySem.Challenge.pw_partwares_k47_deeds_of_all_forms.main.body.getD i (.Pass ⟨0, 0, 0, 0⟩)
section
variable {P : Program} {w : World} {K : PySem.W.Frag} {mg : Str → Option Value} {base : Heap}
/-! ### is_number_in -/
abbrev s_is_number_in : Stmt := topS 16
abbrev N_is_number_in : List Str := ["thing", "low", "high"]
theorem sc_is_number_in : FnScope N_is_number_in ["thing", "low", "high"] (defScope s_is_number_in) := ⟨rfl, rfl, rfl, by decide +kernel, rfl, by decide +kernel, by decide +kernel⟩
def sp_is_number_in (K : PySem.W.Frag) : Sp := fun vs H Q _ => ∃ (x : V) (d : PyData) (lo hi : Int), vs = [x, .int lo, .int hi] ∧ Dp K H x d ∧ Q (.bl (numIn d lo hi)) H
theorem ok_is_number_in {f : Addr} {fd : FuncData} (F : Fun K "is_number_in" "is_number_in" s_is_number_in f fd) (g : mg "is_number_in" = some (.ref f)) (bd : Binds K fd ["thing", "low", "high"] []) (m_isinstance : mg "isinstance" = none) (m_bool : mg "bool" = none) (m_int : mg "int" = none) : CF P w K mg base 1 "is_number_in" ["thing", "low", "high"] (sp_is_number_in K) := by
  refine ⟨f, fd, F.ok sc_is_number_in (fun vs H Q E h => ?_) (fun cdv A outer s H vs Q E hr h => ?_), g, F.kp, bd⟩
  · first | (obtain ⟨_, rfl, _⟩ := h; rfl) | (obtain ⟨_, _, rfl, _⟩ := h; rfl) | (obtain ⟨_, _, _, rfl, _⟩ := h; rfl) | (obtain ⟨_, _, _, _, rfl, _⟩ := h; rfl) | (obtain ⟨_, _, _, _, _, rfl, _⟩ := h; rfl) | (obtain ⟨_, _, _, _, _, _, rfl, _⟩ := h; rfl) | (obtain ⟨_, _, _, _, _, _, _, rfl, _⟩ := h; rfl) | (obtain ⟨_, _, _, _, _, _, _, _, rfl, _⟩ := h; rfl) | (obtain ⟨_, _, _, _, _, _, _, _, _, rfl, _⟩ := h; rfl) | (obtain ⟨_, _, _, _, _, _, _, _, _, _, rfl, _⟩ := h; rfl) | (obtain ⟨_, _, _, _, _, _, _, _, _, _, _, rfl, _⟩ := h; rfl) | (obtain ⟨_, _, _, _, _, _, _, _, _, _, _, _, rfl, _⟩ := h; rfl) | (obtain ⟨_, _, _, _, _, _, _, _, _, _, _, _, _, rfl, _⟩ := h; rfl) | (obtain ⟨_, _, _, _, _, _, _, _, _, _, _, _, _, _, rfl, _⟩ := h; rfl) | (obtain ⟨_, _, _, _, _, _, _, _, _, _, _, _, _, _, _, rfl, _⟩ := h; rfl)
  · have hu64 := hr.units
    obtain ⟨x, d, lo, hi, rfl, hd, q⟩ := h
    refine ⟨_, (pss_one (ps_ret (pe_and (pe_callB (kk_isi K) (by rfl) m_isinstance (by decide +kernel) (pa_cons (pv 0) (pa_cons (pe_bltn (v := .ty "int") (by rfl) m_int (by decide +kernel) rfl) pa_nil))) (pe_and (pe_not (pe_callB (kk_isi K) (by rfl) m_isinstance (by decide +kernel) (pa_cons (pv 0) (pa_cons (pe_bltn (v := .ty "bool") (by rfl) m_bool (by decide +kernel) rfl) pa_nil)))) (pe_one (pe_chain op_le op_le (pv 1) (pv 0) (pv 2))))))), ?_⟩
    have k1 := kit_d (K := K) (T := "int") (by decide) d
    have k2 := kit_d (K := K) (T := "bool") (by decide) d
    have ty := ty_of_dp hd
    refine ⟨_, rfl, _, _, _, _, _, rfl, .ty _, ty, k1, _, rfl, ?_⟩
    cases hd with
    | int i =>
      refine iteT ⟨_, rfl, _, _, _, _, _, rfl, .ty _, ty, k2, _, rfl, _, rfl, iteT ⟨_, rfl, _, rfl, _, _, rfl, rfl, _, rfl, ?_⟩⟩
      have e : numIn (.int i) lo hi = (decide (lo ≤ i) && decide (i ≤ hi)) := rfl
      rw [e] at q
      by_cases h1 : lo ≤ i
      · rw [decide_eq_true h1] at q ⊢
        exact iteT ⟨_, rfl, _, _, rfl, rfl, q⟩
      · rw [decide_eq_false h1] at q ⊢
        exact iteF q
    | bl b => exact iteT ⟨_, rfl, _, _, _, _, _, rfl, .ty _, ty, k2, _, rfl, _, rfl, iteF q⟩
    | non => exact iteF q
    | str z => exact iteF q
    | lst a b => exact iteF q
    | tup a b => exact iteF q
/-! ### may_be_kept -/
abbrev s_may_be_kept : Stmt := topS 21
abbrev N_may_be_kept : List Str := ["keep", "parts", "percent"]
theorem sc_may_be_kept : FnScope N_may_be_kept ["keep", "parts"] (defScope s_may_be_kept) := ⟨rfl, rfl, rfl, by decide +kernel, rfl, by decide +kernel, by decide +kernel⟩
def sp_may_be_kept (K : PySem.W.Frag) : Sp := fun vs H Q _ => ∃ (x y : V) (d e : PyData), vs = [x, y] ∧ Dp K H x d ∧ Dp K H y e ∧ SeqAt.shaped e = true ∧ (∀ ds, d = .tuple ds → ds.length ≤ 1000) ∧ ∀ H', Same H H' → Q (.bl (keptOk d e)) H'
theorem ok_may_be_kept {f : Addr} {fd : FuncData} (F : Fun K "may_be_kept" "may_be_kept" s_may_be_kept f fd) (g : mg "may_be_kept" = some (.ref f)) (bd : Binds K fd ["keep", "parts"] []) (m_isinstance : mg "isinstance" = none) (m_tuple : mg "tuple" = none) (m_all : mg "all" = none) (m_len : mg "len" = none) (C_is_number_in : CF P w K mg base 1 "is_number_in" ["thing", "low", "high"] (sp_is_number_in K)) : CF P w K mg base 2 "may_be_kept" ["keep", "parts"] (sp_may_be_kept K) := by
  refine ⟨f, fd, F.ok sc_may_be_kept (fun vs H Q E h => ?_) (fun cdv A outer s H vs Q E hr h => ?_), g, F.kp, bd⟩
  · first | (obtain ⟨_, rfl, _⟩ := h; rfl) | (obtain ⟨_, _, rfl, _⟩ := h; rfl) | (obtain ⟨_, _, _, rfl, _⟩ := h; rfl) | (obtain ⟨_, _, _, _, rfl, _⟩ := h; rfl) | (obtain ⟨_, _, _, _, _, rfl, _⟩ := h; rfl) | (obtain ⟨_, _, _, _, _, _, rfl, _⟩ := h; rfl) | (obtain ⟨_, _, _, _, _, _, _, rfl, _⟩ := h; rfl) | (obtain ⟨_, _, _, _, _, _, _, _, rfl, _⟩ := h; rfl) | (obtain ⟨_, _, _, _, _, _, _, _, _, rfl, _⟩ := h; rfl) | (obtain ⟨_, _, _, _, _, _, _, _, _, _, rfl, _⟩ := h; rfl) | (obtain ⟨_, _, _, _, _, _, _, _, _, _, _, rfl, _⟩ := h; rfl) | (obtain ⟨_, _, _, _, _, _, _, _, _, _, _, _, rfl, _⟩ := h; rfl) | (obtain ⟨_, _, _, _, _, _, _, _, _, _, _, _, _, rfl, _⟩ := h; rfl) | (obtain ⟨_, _, _, _, _, _, _, _, _, _, _, _, _, _, rfl, _⟩ := h; rfl) | (obtain ⟨_, _, _, _, _, _, _, _, _, _, _, _, _, _, _, rfl, _⟩ := h; rfl)
  · have hu64 := hr.units
    obtain ⟨x, y, d, e, rfl, hd, he, sh, hz, q⟩ := h
    refine ⟨_, (pss_cons (ps_if (pt_not (pt_val (pe_callB (kk_isi K) (by rfl) m_isinstance (by decide +kernel) (pa_cons (pv 0) (pa_cons (pe_bltn (v := .ty "tuple") (by rfl) m_tuple (by decide +kernel) rfl) pa_nil)))))
         (pss_one (ps_ret (pe_cf C_is_number_in (hr.mono (by decide)) (by rfl) (pa_cons (pv 0) (pa_cons pe_int (pa_cons pe_int pa_nil))))))
         pss_nil)
      (pss_one (ps_ret (pe_and (pe_cmpR (kk_eqD K hu64) (pe_callB (kk_len K) (by rfl) m_len PySem.boot_len (pa_cons (pv 0) pa_nil)) (pv 1) (nomark _)) (pe_one (pe_callB (kk_all K rfl) (by rfl) m_all (by decide +kernel) (pa_cons (pe_lc (own := [("percent", 2)]) (g := (gName 2)) (tt := tYes) rfl sc_may_be_kept.nd (pi_tup (pv 0)) (blkOk_by (own := [("percent", 2)]) (N := N_may_be_kept) (sc := defScope s_may_be_kept) (by decide +kernel)) (fun _ _ _ _ _ => pg_name (i := 2) sc_may_be_kept.nd rfl (Or.inl rfl)) (fun _ _ _ _ _ => pts_nil) (fun _ _ _ _ _ => (pe_cf C_is_number_in (hr.mono (by decide)) (by rfl) (pa_cons (pv 2) (pa_cons pe_int (pa_cons pe_int pa_nil)))))) pa_nil))))))), ?_⟩
    have k1 := kit_d (K := K) (T := "tuple") (by decide) d
    have ty := ty_of_dp hd
    refine ⟨_, rfl, _, _, _, _, _, rfl, .ty _, ty, k1, _, rfl, ?_⟩
    have other : isK "tuple" d = false → keptOk d e = numIn d 0 100 := fun h => by
      cases d with
      | tuple ds => cases h
      | _ => rfl
    cases hd with
    | @tup a xs ds hS hA =>
      refine iteF ?_
      have hlen := dpAll_len hA
      have hl := hz ds rfl
      refine ⟨_, rfl, a, _, rfl, .inr hS, _, rfl, _, _, .int _, he, sh_int _, sh, _, rfl, ?_⟩
      have e2 : keptOk (.tuple ds) e = (PyData.eqv (.int (xs.length : Int)) e && ds.all fun d => numIn d 0 100) := by
        rw [hlen]
        rfl
      rw [e2] at q
      cases hq : PyData.eqv (.int (xs.length : Int)) e with
      | false =>
        rw [hq] at q
        exact iteF (q H (Same.refl H))
      | true =>
        rw [hq] at q
        refine iteT ⟨_, rfl, a, rfl, ⟨_, hS⟩, fun D hD => lc_tup (K := K) (a := a) (xs := xs) (fun i H' => Same H H' ∧ H' D = some (.lst (((ds.take i).map fun d => numIn d 0 100).map V.bl))) ⟨same_new hD, upd_same⟩ (fun i H' _ h => seqT_same h.1 hS) (fun i x H' hx h => ?_) (fun H' h => ?_)⟩
        · obtain ⟨d, hd1, hd2⟩ := dpAll_get hA hx
          have hi : i < ds.length := (List.getElem?_eq_some_iff.mp hd1).1
          refine ⟨rfl, _, rfl, x, d, 0, 100, rfl, dp_same h.1 hd2, _, h.2, ?_, ?_, ?_⟩
          · rw [List.length_map, List.length_map, List.length_take]
            exact small1000 (by omega)
          · exact fun c o e => by
              rw [upd_ne (ne_of_none e hD)]
              exact h.1 _ _ e
          · rw [upd_same, List.take_add_one, hd1, Option.toList_some, List.map_append, List.map_append]
            rfl
        · obtain ⟨s1, h1⟩ := h
          rw [hlen, List.take_of_length_le (Nat.le_refl _)] at h1
          refine ⟨D, _, rfl, SqL.of h1, ?_⟩
          have e3 : (ds.map fun d => numIn d 0 100).all id = ds.all fun d => numIn d 0 100 := by
            rw [List.all_map]
            rfl
          rw [e3]
          exact q _ s1
    | non => exact iteT ⟨_, rfl, _, _, 0, 100, rfl, .non, by rw [← other rfl]; exact q H (Same.refl H)⟩
    | bl b => exact iteT ⟨_, rfl, _, _, 0, 100, rfl, .bl b, by rw [← other rfl]; exact q H (Same.refl H)⟩
    | int i => exact iteT ⟨_, rfl, _, _, 0, 100, rfl, .int i, by rw [← other rfl]; exact q H (Same.refl H)⟩
    | str z => exact iteT ⟨_, rfl, _, _, 0, 100, rfl, .str z, by rw [← other rfl]; exact q H (Same.refl H)⟩
    | lst a b => exact iteT ⟨_, rfl, _, _, 0, 100, rfl, .lst a b, by rw [← other rfl]; exact q H (Same.refl H)⟩
/-! ### wrong_figure -/
abbrev s_wrong_figure : Stmt := topS 20
abbrev N_wrong_figure : List Str := ["parts", "step", "grace", "last", "misses", "keep", "fine", "falls", "back", "checks", "word", "right"]
theorem sc_wrong_figure : FnScope N_wrong_figure ["parts", "step", "grace", "last", "misses", "keep", "fine", "falls", "back"] (defScope s_wrong_figure) := ⟨rfl, rfl, rfl, by decide +kernel, rfl, by decide +kernel, by decide +kernel⟩
def figChecks (d1 d2 d3 d4 d5 d6 d7 d8 d9 : PyData) : List (Str × Bool) :=
  [(Str.ofString "parts", numIn d1 1 6), (Str.ofString "step", numIn d2 1 14), (Str.ofString "grace", numIn d3 0 7), (Str.ofString "last", isK "bool" d4), (Str.ofString "misses", numIn d5 0 2), (Str.ofString "keep", keptOk d6 d1), (Str.ofString "fine", numIn d7 0 100), (Str.ofString "falls", numIn d8 0 30), (Str.ofString "back", numIn d9 0 30)]
def sp_wrong_figure (K : PySem.W.Frag) : Sp := fun vs H Q _ => ∃ (x1 x2 x3 x4 x5 x6 x7 x8 x9 : V) (d1 d2 d3 d4 d5 d6 d7 d8 d9 : PyData), vs = [x1, x2, x3, x4, x5, x6, x7, x8, x9] ∧ (Dp K H x1 d1 ∧ Dp K H x2 d2 ∧ Dp K H x3 d3 ∧ Dp K H x4 d4 ∧ Dp K H x5 d5 ∧ Dp K H x6 d6 ∧ Dp K H x7 d7 ∧ Dp K H x8 d8 ∧ Dp K H x9 d9) ∧ SeqAt.shaped d1 = true ∧ (∀ ds, d6 = .tuple ds → ds.length ≤ 1000) ∧ ∀ H', Same H H' → Q (firstWrong (figChecks d1 d2 d3 d4 d5 d6 d7 d8 d9)) H'
theorem at9_of {HH : Hp} {t1 t2 t3 t4 t5 t6 t7 t8 t9 : Addr} {p1 p2 p3 p4 p5 p6 p7 p8 p9 : Str × Bool} (c1 : HH t1 = some (.tup [.str p1.1, .bl p1.2])) (c2 : HH t2 = some (.tup [.str p2.1, .bl p2.2])) (c3 : HH t3 = some (.tup [.str p3.1, .bl p3.2])) (c4 : HH t4 = some (.tup [.str p4.1, .bl p4.2])) (c5 : HH t5 = some (.tup [.str p5.1, .bl p5.2])) (c6 : HH t6 = some (.tup [.str p6.1, .bl p6.2])) (c7 : HH t7 = some (.tup [.str p7.1, .bl p7.2])) (c8 : HH t8 = some (.tup [.str p8.1, .bl p8.2])) (c9 : HH t9 = some (.tup [.str p9.1, .bl p9.2])) : ∀ (j : Nat) (t : Addr) (p : Str × Bool), [t1, t2, t3, t4, t5, t6, t7, t8, t9][j]? = some t → [p1, p2, p3, p4, p5, p6, p7, p8, p9][j]? = some p → HH t = some (.tup [.str p.1, .bl p.2]) := fun j t p ht hp => by
  match j, ht, hp with
  | 0, ht, hp => cases ht; cases hp; exact c1
  | 1, ht, hp => cases ht; cases hp; exact c2
  | 2, ht, hp => cases ht; cases hp; exact c3
  | 3, ht, hp => cases ht; cases hp; exact c4
  | 4, ht, hp => cases ht; cases hp; exact c5
  | 5, ht, hp => cases ht; cases hp; exact c6
  | 6, ht, hp => cases ht; cases hp; exact c7
  | 7, ht, hp => cases ht; cases hp; exact c8
  | 8, ht, hp => cases ht; cases hp; exact c9
  | n + 9, ht, hp => cases ht
theorem pick9 {ts : List Addr} {ws : List (Str × Bool)} {H : Hp} {i : Nat} {x : V} (hl : ts.length = ws.length) (h : ∀ (j : Nat) (t : Addr) (p : Str × Bool), ts[j]? = some t → ws[j]? = some p → H t = some (.tup [.str p.1, .bl p.2])) (hx : (ts.map V.ref)[i]? = some x) : ∃ t p, x = .ref t ∧ ws[i]? = some p ∧ H t = some (.tup [.str p.1, .bl p.2]) := by
  rw [List.getElem?_map] at hx
  obtain ⟨t, ht, rfl⟩ := Option.map_eq_some_iff.mp hx
  have hi : i < ws.length := by
    rw [← hl]
    exact (List.getElem?_eq_some_iff.mp ht).1
  exact ⟨t, ws[i], rfl, List.getElem?_eq_getElem hi, h i t _ ht (List.getElem?_eq_getElem hi)⟩
theorem ok_wrong_figure {f : Addr} {fd : FuncData} (F : Fun K "wrong_figure" "wrong_figure" s_wrong_figure f fd) (g : mg "wrong_figure" = some (.ref f)) (bd : Binds K fd ["parts", "step", "grace", "last", "misses", "keep", "fine", "falls", "back"] []) (m_isinstance : mg "isinstance" = none) (m_bool : mg "bool" = none) (C_is_number_in : CF P w K mg base 1 "is_number_in" ["thing", "low", "high"] (sp_is_number_in K)) (C_may_be_kept : CF P w K mg base 2 "may_be_kept" ["keep", "parts"] (sp_may_be_kept K)) : CF P w K mg base 3 "wrong_figure" ["parts", "step", "grace", "last", "misses", "keep", "fine", "falls", "back"] (sp_wrong_figure K) := by
  refine ⟨f, fd, F.ok sc_wrong_figure (fun vs H Q E h => ?_) (fun cdv A outer s H vs Q E hr h => ?_), g, F.kp, bd⟩
  · first | (obtain ⟨_, rfl, _⟩ := h; rfl) | (obtain ⟨_, _, rfl, _⟩ := h; rfl) | (obtain ⟨_, _, _, rfl, _⟩ := h; rfl) | (obtain ⟨_, _, _, _, rfl, _⟩ := h; rfl) | (obtain ⟨_, _, _, _, _, rfl, _⟩ := h; rfl) | (obtain ⟨_, _, _, _, _, _, rfl, _⟩ := h; rfl) | (obtain ⟨_, _, _, _, _, _, _, rfl, _⟩ := h; rfl) | (obtain ⟨_, _, _, _, _, _, _, _, rfl, _⟩ := h; rfl) | (obtain ⟨_, _, _, _, _, _, _, _, _, rfl, _⟩ := h; rfl) | (obtain ⟨_, _, _, _, _, _, _, _, _, _, rfl, _⟩ := h; rfl) | (obtain ⟨_, _, _, _, _, _, _, _, _, _, _, rfl, _⟩ := h; rfl) | (obtain ⟨_, _, _, _, _, _, _, _, _, _, _, _, rfl, _⟩ := h; rfl) | (obtain ⟨_, _, _, _, _, _, _, _, _, _, _, _, _, rfl, _⟩ := h; rfl) | (obtain ⟨_, _, _, _, _, _, _, _, _, _, _, _, _, _, rfl, _⟩ := h; rfl) | (obtain ⟨_, _, _, _, _, _, _, _, _, _, _, _, _, _, _, rfl, _⟩ := h; rfl) | (obtain ⟨_, _, _, _, _, _, _, _, _, _, _, _, _, _, _, _, rfl, _⟩ := h; rfl) | (obtain ⟨_, _, _, _, _, _, _, _, _, _, _, _, _, _, _, _, _, rfl, _⟩ := h; rfl) | (obtain ⟨_, _, _, _, _, _, _, _, _, _, _, _, _, _, _, _, _, _, rfl, _⟩ := h; rfl) | (obtain ⟨_, _, _, _, _, _, _, _, _, _, _, _, _, _, _, _, _, _, _, rfl, _⟩ := h; rfl) | (obtain ⟨_, _, _, _, _, _, _, _, _, _, _, _, _, _, _, _, _, _, _, _, rfl, _⟩ := h; rfl) | (obtain ⟨_, _, _, _, _, _, _, _, _, _, _, _, _, _, _, _, _, _, _, _, _, rfl, _⟩ := h; rfl) | (obtain ⟨_, _, _, _, _, _, _, _, _, _, _, _, _, _, _, _, _, _, _, _, _, _, rfl, _⟩ := h; rfl) | (obtain ⟨_, _, _, _, _, _, _, _, _, _, _, _, _, _, _, _, _, _, _, _, _, _, _, rfl, _⟩ := h; rfl)
  · have hu64 := hr.units
    obtain ⟨x1, x2, x3, x4, x5, x6, x7, x8, x9, d1, d2, d3, d4, d5, d6, d7, d8, d9, rfl, ⟨h1, h2, h3, h4, h5, h6, h7, h8, h9⟩, sh, hz, q⟩ := h
    refine ⟨_, (pss_cons (ps_set (i := 9) sc_wrong_figure.nd rfl (.inl rfl) (pe_lst (pa_cons (pe_tup (pa_cons pe_str (pa_cons (pe_cf C_is_number_in (hr.mono (by decide)) (by rfl) (pa_cons (pv 0) (pa_cons pe_int (pa_cons pe_int pa_nil)))) pa_nil))) (pa_cons (pe_tup (pa_cons pe_str (pa_cons (pe_cf C_is_number_in (hr.mono (by decide)) (by rfl) (pa_cons (pv 1) (pa_cons pe_int (pa_cons pe_int pa_nil)))) pa_nil))) (pa_cons (pe_tup (pa_cons pe_str (pa_cons (pe_cf C_is_number_in (hr.mono (by decide)) (by rfl) (pa_cons (pv 2) (pa_cons pe_int (pa_cons pe_int pa_nil)))) pa_nil))) (pa_cons (pe_tup (pa_cons pe_str (pa_cons (pe_callB (kk_isi K) (by rfl) m_isinstance (by decide +kernel) (pa_cons (pv 3) (pa_cons (pe_bltn (v := .ty "bool") (by rfl) m_bool (by decide +kernel) rfl) pa_nil))) pa_nil))) (pa_cons (pe_tup (pa_cons pe_str (pa_cons (pe_cf C_is_number_in (hr.mono (by decide)) (by rfl) (pa_cons (pv 4) (pa_cons pe_int (pa_cons pe_int pa_nil)))) pa_nil))) (pa_cons (pe_tup (pa_cons pe_str (pa_cons (pe_cf C_may_be_kept (hr.mono (by decide)) (by rfl) (pa_cons (pv 5) (pa_cons (pv 0) pa_nil))) pa_nil))) (pa_cons (pe_tup (pa_cons pe_str (pa_cons (pe_cf C_is_number_in (hr.mono (by decide)) (by rfl) (pa_cons (pv 6) (pa_cons pe_int (pa_cons pe_int pa_nil)))) pa_nil))) (pa_cons (pe_tup (pa_cons pe_str (pa_cons (pe_cf C_is_number_in (hr.mono (by decide)) (by rfl) (pa_cons (pv 7) (pa_cons pe_int (pa_cons pe_int pa_nil)))) pa_nil))) (pa_cons (pe_tup (pa_cons pe_str (pa_cons (pe_cf C_is_number_in (hr.mono (by decide)) (by rfl) (pa_cons (pv 8) (pa_cons pe_int (pa_cons pe_int pa_nil)))) pa_nil))) pa_nil)))))))))))
      (pss_cons (ps_for PassesOwn.never rfl (pi_list (pv 9)) (pg_tup (by rfl) (pgs_cons (pg_name (i := 10) sc_wrong_figure.nd rfl (.inl rfl)) (pgs_cons (pg_name (i := 11) sc_wrong_figure.nd rfl (.inl rfl)) pgs_nil)))
         (pss_one (ps_if (pt_not (pt_val (pv 11)))
             (pss_one (ps_ret (pv 10)))
             pss_nil)))
      (pss_one (ps_ret pe_non)))), ?_⟩
    have k4 := kit_d (K := K) (T := "bool") (by decide) d4
    refine ⟨_, rfl, x1, d1, 1, 6, rfl, h1, (by show 2 ≤ sizeLine; decide), fun t1 n1 => ?_⟩
    have s1 := same_new (o := .tup [.str (Str.ofString "parts"), .bl (numIn d1 1 6)]) n1
    refine ⟨_, rfl, x2, d2, 1, 14, rfl, dp_same s1 h2, (by show 2 ≤ sizeLine; decide), fun t2 n2 => ?_⟩
    have s2 := s1.trans (same_new (o := .tup [.str (Str.ofString "step"), .bl (numIn d2 1 14)]) n2)
    refine ⟨_, rfl, x3, d3, 0, 7, rfl, dp_same s2 h3, (by show 2 ≤ sizeLine; decide), fun t3 n3 => ?_⟩
    have s3 := s2.trans (same_new (o := .tup [.str (Str.ofString "grace"), .bl (numIn d3 0 7)]) n3)
    refine ⟨_, rfl, _, _, _, _, _, rfl, .ty _, ty_of_dp (dp_same s3 h4), k4, (by show 2 ≤ sizeLine; decide), fun t4 n4 => ?_⟩
    have s4 := s3.trans (same_new (o := .tup [.str (Str.ofString "last"), .bl (isK "bool" d4)]) n4)
    refine ⟨_, rfl, x5, d5, 0, 2, rfl, dp_same s4 h5, (by show 2 ≤ sizeLine; decide), fun t5 n5 => ?_⟩
    have s5 := s4.trans (same_new (o := .tup [.str (Str.ofString "misses"), .bl (numIn d5 0 2)]) n5)
    refine ⟨_, rfl, _, rfl, x6, x1, d6, d1, rfl, dp_same s5 h6, dp_same s5 h1, sh, hz, fun G g => ⟨(by show 2 ≤ sizeLine; decide), fun t6 n6 => ?_⟩⟩
    have s6 := (s5.trans g).trans (same_new (o := .tup [.str (Str.ofString "keep"), .bl (keptOk d6 d1)]) n6)
    refine ⟨_, rfl, x7, d7, 0, 100, rfl, dp_same s6 h7, (by show 2 ≤ sizeLine; decide), fun t7 n7 => ?_⟩
    have s7 := s6.trans (same_new (o := .tup [.str (Str.ofString "fine"), .bl (numIn d7 0 100)]) n7)
    refine ⟨_, rfl, x8, d8, 0, 30, rfl, dp_same s7 h8, (by show 2 ≤ sizeLine; decide), fun t8 n8 => ?_⟩
    have s8 := s7.trans (same_new (o := .tup [.str (Str.ofString "falls"), .bl (numIn d8 0 30)]) n8)
    refine ⟨_, rfl, x9, d9, 0, 30, rfl, dp_same s8 h9, (by show 2 ≤ sizeLine; decide), fun t9 n9 => ?_⟩
    have s9 := s8.trans (same_new (o := .tup [.str (Str.ofString "back"), .bl (numIn d9 0 30)]) n9)
    refine ⟨(by show 9 ≤ sizeLine; decide), fun L nL => ?_⟩
    have sL := same_new (o := .lst [.ref t1, .ref t2, .ref t3, .ref t4, .ref t5, .ref t6, .ref t7, .ref t8, .ref t9]) nL
    have c9 := sL _ _ (upd_same (a := t9) (o := .tup [.str (Str.ofString "back"), .bl (numIn d9 0 30)]))
    have m9 := (same_new (o := .tup [.str (Str.ofString "back"), .bl (numIn d9 0 30)]) n9).trans sL
    have c8 := m9 _ _ (upd_same (a := t8) (o := .tup [.str (Str.ofString "falls"), .bl (numIn d8 0 30)]))
    have m8 := (same_new (o := .tup [.str (Str.ofString "falls"), .bl (numIn d8 0 30)]) n8).trans m9
    have c7 := m8 _ _ (upd_same (a := t7) (o := .tup [.str (Str.ofString "fine"), .bl (numIn d7 0 100)]))
    have m7 := (same_new (o := .tup [.str (Str.ofString "fine"), .bl (numIn d7 0 100)]) n7).trans m8
    have c6 := m7 _ _ (upd_same (a := t6) (o := .tup [.str (Str.ofString "keep"), .bl (keptOk d6 d1)]))
    have m6 := (g.trans (same_new (o := .tup [.str (Str.ofString "keep"), .bl (keptOk d6 d1)]) n6)).trans m7
    have c5 := m6 _ _ (upd_same (a := t5) (o := .tup [.str (Str.ofString "misses"), .bl (numIn d5 0 2)]))
    have m5 := (same_new (o := .tup [.str (Str.ofString "misses"), .bl (numIn d5 0 2)]) n5).trans m6
    have c4 := m5 _ _ (upd_same (a := t4) (o := .tup [.str (Str.ofString "last"), .bl (isK "bool" d4)]))
    have m4 := (same_new (o := .tup [.str (Str.ofString "last"), .bl (isK "bool" d4)]) n4).trans m5
    have c3 := m4 _ _ (upd_same (a := t3) (o := .tup [.str (Str.ofString "grace"), .bl (numIn d3 0 7)]))
    have m3 := (same_new (o := .tup [.str (Str.ofString "grace"), .bl (numIn d3 0 7)]) n3).trans m4
    have c2 := m3 _ _ (upd_same (a := t2) (o := .tup [.str (Str.ofString "step"), .bl (numIn d2 1 14)]))
    have m2 := (same_new (o := .tup [.str (Str.ofString "step"), .bl (numIn d2 1 14)]) n2).trans m3
    have c1 := m2 _ _ (upd_same (a := t1) (o := .tup [.str (Str.ofString "parts"), .bl (numIn d1 1 6)]))
    have at9 := at9_of (p1 := (Str.ofString "parts", numIn d1 1 6)) (p2 := (Str.ofString "step", numIn d2 1 14)) (p3 := (Str.ofString "grace", numIn d3 0 7)) (p4 := (Str.ofString "last", isK "bool" d4)) (p5 := (Str.ofString "misses", numIn d5 0 2)) (p6 := (Str.ofString "keep", keptOk d6 d1)) (p7 := (Str.ofString "fine", numIn d7 0 100)) (p8 := (Str.ofString "falls", numIn d8 0 30)) (p9 := (Str.ofString "back", numIn d9 0 30)) c1 c2 c3 c4 c5 c6 c7 c8 c9
    have sAll := s9.trans sL
    refine ⟨_, rfl, L, rfl, ⟨_, SqL.of upd_same⟩, for_list (K := K) (a := L) (xs := [t1, t2, t3, t4, t5, t6, t7, t8, t9].map V.ref) (fun i σ H' => ∃ s10 s11, σ = [some x1, some x2, some x3, some x4, some x5, some x6, some x7, some x8, some x9, some (.ref L), s10, s11] ∧ Same H H' ∧ H' L = some (.lst [.ref t1, .ref t2, .ref t3, .ref t4, .ref t5, .ref t6, .ref t7, .ref t8, .ref t9]) ∧ (∀ (j : Nat) (t : Addr) (p : Str × Bool), [t1, t2, t3, t4, t5, t6, t7, t8, t9][j]? = some t → (figChecks d1 d2 d3 d4 d5 d6 d7 d8 d9)[j]? = some p → H' t = some (.tup [.str p.1, .bl p.2])) ∧ ∀ p ∈ (figChecks d1 d2 d3 d4 d5 d6 d7 d8 d9).take i, p.2 = true) ⟨_, _, rfl, sAll, upd_same, at9, fun p hp => (nomatch hp)⟩ (fun i σ H' _ h => by obtain ⟨_, _, _, _, h, _⟩ := h; exact SqL.of h) (fun i x σ H' hx h => ?_) (fun σ H' h => ?_)⟩
    · obtain ⟨s10, s11, rfl, sm, eL, hat, hall⟩ := h
      obtain ⟨t, p, rfl, hp, ht⟩ := pick9 (ws := figChecks d1 d2 d3 d4 d5 d6 d7 d8 d9) rfl hat hx
      refine ⟨t, _, rfl, .inl (.inl ht), rfl, _, _, rfl, _, _, rfl, rfl, ?_⟩
      obtain ⟨w', b⟩ := p
      cases b with
      | false =>
        refine ⟨_, rfl, _, rfl, iteT ⟨_, rfl, ?_⟩⟩
        rw [← firstWrong_at hall hp]
        exact q _ sm
      | true =>
        refine ⟨_, rfl, _, rfl, iteF ⟨_, _, rfl, sm, eL, hat, fun p' hp' => ?_⟩⟩
        rw [List.take_add_one, hp] at hp'
        rcases List.mem_append.mp hp' with z | z
        · exact hall p' z
        · rw [List.mem_singleton.mp z]
    · obtain ⟨s10, s11, rfl, sm, _, _, hall⟩ := h
      have hf : firstWrong (figChecks d1 d2 d3 d4 d5 d6 d7 d8 d9) = .non := firstWrong_none fun p hp => hall p hp
      rw [hf] at q
      exact q _ sm
/-! ### a rule in the heap -/
structure TRule (K : PySem.W.Frag) (mg : Str → Option Value) (C : Addr) : Prop where
  cl : Cls K C
  n1 : NoAttr K C "parts"
  n2 : NoAttr K C "step"
  n3 : NoAttr K C "grace"
  n4 : NoAttr K C "last"
  n5 : NoAttr K C "misses"
  n6 : NoAttr K C "keep"
  n7 : NoAttr K C "fine"
  n8 : NoAttr K C "falls"
  n9 : NoAttr K C "back"
def ruleF (p s g : Int) (l : Bool) (m : Int) (kt : Addr) (fi fa ba : Int) : List (Str × V) := [("parts", .int p), ("step", .int s), ("grace", .int g), ("last", .bl l), ("misses", .int m), ("keep", .ref kt), ("fine", .int fi), ("falls", .int fa), ("back", .int ba)]
theorem putF_new {f : Str} {v : V} : ∀ {fs : List (Str × V)}, (∀ q ∈ fs, q.1 ≠ f) → putF f v fs = fs ++ [(f, v)]
  | [], _ => rfl
  | (g, x) :: r, h => by
    show (if g = f then (g, v) :: r else (g, x) :: putF f v r) = _
    rw [if_neg (h (g, x) List.mem_cons_self), putF_new fun q hq => h q (List.mem_cons_of_mem _ hq)]
    rfl
theorem unlike9 : (["parts", "step", "grace", "last", "misses", "keep", "fine", "falls", "back"] : List Str).Nodup := by decide +kernel
theorem putF_len (f : Str) (v : V) : ∀ fs : List (Str × V), (putF f v fs).length ≤ fs.length + 1
  | [] => Nat.le_refl _
  | (g, x) :: r => by
    show (if g = f then (g, v) :: r else (g, x) :: putF f v r).length ≤ _
    have := putF_len f v r
    split
    · simp
    · rw [List.length_cons, List.length_cons]
      omega
theorem put_lt {f : Str} {v : V} {fs : List (Str × V)} {n : Nat} (h : fs.length ≤ n) : (putF f v fs).length ≤ n + 1 := Nat.le_trans (putF_len f v fs) (by omega)
theorem ruleF_eq (p s g : Int) (l : Bool) (m : Int) (kt : Addr) (fi fa ba : Int) : putF "back" (.int ba) (putF "falls" (.int fa) (putF "fine" (.int fi) (putF "keep" (.ref kt) (putF "misses" (.int m) (putF "last" (.bl l) (putF "grace" (.int g) (putF "step" (.int s) (putF "parts" (.int p) [])))))))) = ruleF p s g l m kt fi fa ba := by
  have nd := unlike9
  simp only [List.nodup_cons, List.mem_cons, List.not_mem_nil, or_false, not_or] at nd
  obtain ⟨⟨a1, a2, a3, a4, a5, a6, a7, a8⟩, ⟨b1, b2, b3, b4, b5, b6, b7⟩, ⟨c1, c2, c3, c4, c5, c6⟩, ⟨d1, d2, d3, d4, d5⟩, ⟨e1, e2, e3, e4⟩, ⟨f1, f2, f3⟩, ⟨g1, g2⟩, h1, _⟩ := nd
  simp only [putF, if_neg a1, if_neg a2, if_neg a3, if_neg a4, if_neg a5, if_neg a6, if_neg a7, if_neg a8, if_neg b1, if_neg b2, if_neg b3, if_neg b4, if_neg b5, if_neg b6, if_neg b7, if_neg c1, if_neg c2, if_neg c3, if_neg c4, if_neg c5, if_neg c6, if_neg d1, if_neg d2, if_neg d3, if_neg d4, if_neg d5, if_neg e1, if_neg e2, if_neg e3, if_neg e4, if_neg f1, if_neg f2, if_neg f3, if_neg g1, if_neg g2, if_neg h1]
  rfl
/-- what is kept as it is handed in: one number, or a tuple of as many as parts -/
inductive Keep (K : PySem.W.Frag) (H : Hp) (p : Int) (ks : List Int) : V → PyData → Prop where
  | one (k : Int) (h0 : 0 ≤ k) (h1 : k ≤ 100) (e : ks = List.replicate p.toNat k) : Keep K H p ks (.int k) (.int k)
  | all (a : Addr) (h : SqT K H a (ks.map V.int)) (hl : (ks.length : Int) = p) (hb : ∀ k ∈ ks, 0 ≤ k ∧ k ≤ 100) : Keep K H p ks (.ref a) (.tuple (ks.map PyData.int))
structure Figs (p s g m fi fa ba : Int) : Prop where
  p0 : 1 ≤ p
  p1 : p ≤ 6
  s0 : 1 ≤ s
  s1 : s ≤ 14
  g0 : 0 ≤ g
  g1 : g ≤ 7
  m0 : 0 ≤ m
  m1 : m ≤ 2
  fi0 : 0 ≤ fi
  fi1 : fi ≤ 100
  fa0 : 0 ≤ fa
  fa1 : fa ≤ 30
  ba0 : 0 ≤ ba
  ba1 : ba ≤ 30
theorem dpAll_intsT {K : PySem.W.Frag} {H : Hp} {a : Addr} {ns : List Int} (h : SqT K H a (ns.map V.int)) : Dp K H (.ref a) (.tuple (ns.map PyData.int)) := .tup h (dpAll_ints ns)
theorem Keep.dp {K : PySem.W.Frag} {H : Hp} {p : Int} {ks : List Int} {v : V} {d : PyData} (h : Keep K H p ks v d) : Dp K H v d := by
  cases h with
  | one k _ _ _ => exact .int k
  | all a h _ _ => exact dpAll_intsT h
theorem Keep.ok {K : PySem.W.Frag} {H : Hp} {p : Int} {ks : List Int} {v : V} {d : PyData} (h : Keep K H p ks v d) : keptOk d (.int p) = true := by
  cases h with
  | one k h0 h1 _ =>
    show (decide (0 ≤ k) && decide (k ≤ 100)) = true
    rw [decide_eq_true h0, decide_eq_true h1]
    rfl
  | all a _ hl hb =>
    show (PyData.eqv (.int (((ks.map PyData.int).length : Nat) : Int)) (.int p) && (ks.map PyData.int).all fun d => numIn d 0 100) = true
    rw [Bool.and_eq_true]
    refine ⟨?_, ?_⟩
    · rw [List.length_map, hl]
      simp [PyData.eqv]
    · rw [List.all_map, List.all_eq_true]
      intro k hk
      show (decide (0 ≤ k) && decide (k ≤ 100)) = true
      rw [decide_eq_true (hb k hk).1, decide_eq_true (hb k hk).2]
      rfl
theorem right_all {p s g m fi fa ba : Int} {l : Bool} {d6 : PyData} (F : Figs p s g m fi fa ba) (h6 : keptOk d6 (.int p) = true) : firstWrong (figChecks (.int p) (.int s) (.int g) (.bool l) (.int m) d6 (.int fi) (.int fa) (.int ba)) = .non := by
  refine firstWrong_none fun q hq => ?_
  have two : ∀ {i lo hi : Int}, lo ≤ i → i ≤ hi → numIn (.int i) lo hi = true := fun {i lo hi} a b => by
    show (decide (lo ≤ i) && decide (i ≤ hi)) = true
    rw [decide_eq_true a, decide_eq_true b]
    rfl
  unfold figChecks at hq
  simp only [List.mem_cons, List.not_mem_nil, or_false] at hq
  rcases hq with rfl | rfl | rfl | rfl | rfl | rfl | rfl | rfl | rfl
  · exact two F.p0 F.p1
  · exact two F.s0 F.s1
  · exact two F.g0 F.g1
  · rfl
  · exact two F.m0 F.m1
  · exact h6
  · exact two F.fi0 F.fi1
  · exact two F.fa0 F.fa1
  · exact two F.ba0 F.ba1
/-! ### Rule___init__ -/
abbrev s_Rule___init__ : Stmt := inClass (topS 19) 0
abbrev N_Rule___init__ : List Str := ["self", "parts", "step", "grace", "last", "misses", "keep", "fine", "falls", "back", "word"]
theorem sc_Rule___init__ : FnScope N_Rule___init__ ["self", "parts", "step", "grace", "last", "misses", "keep", "fine", "falls", "back"] (defScope s_Rule___init__) := ⟨rfl, rfl, rfl, by decide +kernel, rfl, by decide +kernel, by decide +kernel⟩
def sp_Rule___init__ (K : PySem.W.Frag) (C : Addr) : Sp := fun vs H Q _ => ∃ (x dx : Addr) (p s g : Int) (l : Bool) (m : Int) (kv : V) (kd : PyData) (ks : List Int) (fi fa ba : Int), vs = [.ref x, .int p, .int s, .int g, .bl l, .int m, kv, .int fi, .int fa, .int ba] ∧ H x = some (.ins C dx []) ∧ Figs p s g m fi fa ba ∧ Keep K H p ks kv kd ∧
  ∀ H' kt, But x H H' → H' x = some (.ins C dx (ruleF p s g l m kt fi fa ba)) → SqT K H' kt (ks.map V.int) → Q .non H'
theorem ok_Rule___init__ {f : Addr} {fd : FuncData} {CR : Addr} (TQ : TEq K mg CR "Rule") (T_Rule : TRule K mg CR) (m_isinstance : mg "isinstance" = none) (m_tuple : mg "tuple" = none) (C_wrong_figure : CF P w K mg base 3 "wrong_figure" ["parts", "step", "grace", "last", "misses", "keep", "fine", "falls", "back"] (sp_wrong_figure K)) (F : FunD K "__init__" "Rule.__init__" (defArgs s_Rule___init__) (defBody s_Rule___init__) (defScope s_Rule___init__) [.int 0, .bl false, .int 0, .int 0, .int 0, .int 0, .int 0] [] f fd) : FnOk P w K mg base CX0 4 f fd ["self", "parts", "step", "grace", "last", "misses", "keep", "fine", "falls", "back"] (sp_Rule___init__ K CR) := by
  refine okD F sc_Rule___init__ (fun vs H Q E h => ?_) (fun cdv A outer s H vs Q E hr h => ?_)
  · first | (obtain ⟨_, rfl, _⟩ := h; rfl) | (obtain ⟨_, _, rfl, _⟩ := h; rfl) | (obtain ⟨_, _, _, rfl, _⟩ := h; rfl) | (obtain ⟨_, _, _, _, rfl, _⟩ := h; rfl) | (obtain ⟨_, _, _, _, _, rfl, _⟩ := h; rfl) | (obtain ⟨_, _, _, _, _, _, rfl, _⟩ := h; rfl) | (obtain ⟨_, _, _, _, _, _, _, rfl, _⟩ := h; rfl) | (obtain ⟨_, _, _, _, _, _, _, _, rfl, _⟩ := h; rfl) | (obtain ⟨_, _, _, _, _, _, _, _, _, rfl, _⟩ := h; rfl) | (obtain ⟨_, _, _, _, _, _, _, _, _, _, rfl, _⟩ := h; rfl) | (obtain ⟨_, _, _, _, _, _, _, _, _, _, _, rfl, _⟩ := h; rfl) | (obtain ⟨_, _, _, _, _, _, _, _, _, _, _, _, rfl, _⟩ := h; rfl) | (obtain ⟨_, _, _, _, _, _, _, _, _, _, _, _, _, rfl, _⟩ := h; rfl) | (obtain ⟨_, _, _, _, _, _, _, _, _, _, _, _, _, _, rfl, _⟩ := h; rfl) | (obtain ⟨_, _, _, _, _, _, _, _, _, _, _, _, _, _, _, rfl, _⟩ := h; rfl) | (obtain ⟨_, _, _, _, _, _, _, _, _, _, _, _, _, _, _, _, rfl, _⟩ := h; rfl) | (obtain ⟨_, _, _, _, _, _, _, _, _, _, _, _, _, _, _, _, _, rfl, _⟩ := h; rfl) | (obtain ⟨_, _, _, _, _, _, _, _, _, _, _, _, _, _, _, _, _, _, rfl, _⟩ := h; rfl) | (obtain ⟨_, _, _, _, _, _, _, _, _, _, _, _, _, _, _, _, _, _, _, rfl, _⟩ := h; rfl) | (obtain ⟨_, _, _, _, _, _, _, _, _, _, _, _, _, _, _, _, _, _, _, _, rfl, _⟩ := h; rfl) | (obtain ⟨_, _, _, _, _, _, _, _, _, _, _, _, _, _, _, _, _, _, _, _, _, rfl, _⟩ := h; rfl) | (obtain ⟨_, _, _, _, _, _, _, _, _, _, _, _, _, _, _, _, _, _, _, _, _, _, rfl, _⟩ := h; rfl) | (obtain ⟨_, _, _, _, _, _, _, _, _, _, _, _, _, _, _, _, _, _, _, _, _, _, _, rfl, _⟩ := h; rfl)
  · have hu64 := hr.units
    obtain ⟨x, dx, p, s', g, l, m, kv, kd, ks, fi, fa, ba, rfl, hx, F, hk, q⟩ := h
    refine ⟨_, (pss_cons (ps_set (i := 10) sc_Rule___init__.nd rfl (.inl rfl) (pe_cf C_wrong_figure (hr.mono (by decide)) (by rfl) (pa_cons (pv 1) (pa_cons (pv 2) (pa_cons (pv 3) (pa_cons (pv 4) (pa_cons (pv 5) (pa_cons (pv 6) (pa_cons (pv 7) (pa_cons (pv 8) (pa_cons (pv 9) pa_nil)))))))))))
      (pss_cons (ps_if (pt_cmpR op_notN (pv 10) pe_non (nomark _))
         (pss_one ps_never)
         pss_nil)
      (pss_cons (ps_fld (pv 0) (pv 1) rfl)
      (pss_cons (ps_fld (pv 0) (pv 2) rfl)
      (pss_cons (ps_fld (pv 0) (pv 3) rfl)
      (pss_cons (ps_fld (pv 0) (pv 4) rfl)
      (pss_cons (ps_fld (pv 0) (pv 5) rfl)
      (pss_cons (ps_fld (pv 0) (pe_ifExp (pt_val (pe_callB (kk_isi K) (by rfl) m_isinstance (by decide +kernel) (pa_cons (pv 6) (pa_cons (pe_bltn (v := .ty "tuple") (by rfl) m_tuple (by decide +kernel) rfl) pa_nil)))) (pv 6) (pe_op (kk_repA K) (pe_tup (pa_cons (pv 6) pa_nil)) (pv 1))) rfl)
      (pss_cons (ps_fld (pv 0) (pv 7) rfl)
      (pss_cons (ps_fld (pv 0) (pv 8) rfl)
      (pss_one (ps_fld (pv 0) (pv 9) rfl)))))))))))), ?_⟩
    have hz : ∀ ds, kd = .tuple ds → ds.length ≤ 1000 := fun ds e => by
      cases hk with
      | one k _ _ _ => cases e
      | all a h hl hb =>
        cases e
        rw [List.length_map]
        have := F.p1
        omega
    refine ⟨_, rfl, _, rfl, _, rfl, _, rfl, _, rfl, _, rfl, _, rfl, _, rfl, _, rfl, _, _, _, _, _, _, _, _, _, .int p, .int s', .int g, .bool l, .int m, kd, .int fi, .int fa, .int ba, rfl, ⟨.int _, .int _, .int _, .bl _, .int _, hk.dp, .int _, .int _, .int _⟩, sh_int _, hz, fun H1 s1 => ?_⟩
    rw [right_all F hk.ok]
    refine ⟨_, rfl, rfl, _, rfl, iteF ?_⟩
    refine ⟨_, rfl, _, rfl, x, CR, dx, _, rfl, s1 _ _ hx, T_Rule.cl, T_Rule.n1, by decide, ?_⟩
    refine ⟨_, rfl, _, rfl, x, CR, dx, _, rfl, upd_same, T_Rule.cl, T_Rule.n2, Nat.lt_of_le_of_lt (put_lt (Nat.le_refl 0)) (by decide), ?_⟩
    refine ⟨_, rfl, _, rfl, x, CR, dx, _, rfl, upd_same, T_Rule.cl, T_Rule.n3, Nat.lt_of_le_of_lt (put_lt (put_lt (Nat.le_refl 0))) (by decide), ?_⟩
    refine ⟨_, rfl, _, rfl, x, CR, dx, _, rfl, upd_same, T_Rule.cl, T_Rule.n4, Nat.lt_of_le_of_lt (put_lt (put_lt (put_lt (Nat.le_refl 0)))) (by decide), ?_⟩
    refine ⟨_, rfl, _, rfl, x, CR, dx, _, rfl, upd_same, T_Rule.cl, T_Rule.n5, Nat.lt_of_le_of_lt (put_lt (put_lt (put_lt (put_lt (Nat.le_refl 0))))) (by decide), ?_⟩
    have b5 : But x H (upd (upd (upd (upd (upd H1 x (.ins CR dx (putF "parts" (.int p) []))) x (.ins CR dx (putF "step" (.int s') (putF "parts" (.int p) [])))) x (.ins CR dx (putF "grace" (.int g) (putF "step" (.int s') (putF "parts" (.int p) []))))) x (.ins CR dx (putF "last" (.bl l) (putF "grace" (.int g) (putF "step" (.int s') (putF "parts" (.int p) [])))))) x (.ins CR dx (putF "misses" (.int m) (putF "last" (.bl l) (putF "grace" (.int g) (putF "step" (.int s') (putF "parts" (.int p) []))))))) := (((((But.of s1).trans But.upd).trans But.upd).trans But.upd).trans But.upd).trans But.upd
    have e5 := upd_same (H := (upd (upd (upd (upd H1 x (.ins CR dx (putF "parts" (.int p) []))) x (.ins CR dx (putF "step" (.int s') (putF "parts" (.int p) [])))) x (.ins CR dx (putF "grace" (.int g) (putF "step" (.int s') (putF "parts" (.int p) []))))) x (.ins CR dx (putF "last" (.bl l) (putF "grace" (.int g) (putF "step" (.int s') (putF "parts" (.int p) []))))))) (a := x) (o := .ins CR dx (putF "misses" (.int m) (putF "last" (.bl l) (putF "grace" (.int g) (putF "step" (.int s') (putF "parts" (.int p) []))))))
    cases hk with
    | all a hA hl hb =>
      have hax : ∀ {G : Hp}, But x H G → SqT K G a (ks.map V.int) := fun t => by
        rcases hA with (h | ⟨o, h⟩) | h
        · exact .inl (.inl (t _ _ (ne_of h hx (by intro z; cases z)) h))
        · exact .inl (.inr ⟨o, t _ _ (ne_of h hx (by intro z; cases z)) h⟩)
        · exact .inr h
      refine ⟨_, rfl, _, _, _, _, true, rfl, .ty _, ty_of_dp (dpAll_intsT (hax b5)), kit_ty (a := "tuple") (by decide +kernel), _, rfl, iteT ⟨_, rfl, ?_⟩⟩
      refine ⟨_, rfl, x, CR, dx, _, rfl, e5, T_Rule.cl, T_Rule.n6, Nat.lt_of_le_of_lt (put_lt (put_lt (put_lt (put_lt (put_lt (Nat.le_refl 0)))))) (by decide), ?_⟩
      refine ⟨_, rfl, _, rfl, x, CR, dx, _, rfl, upd_same, T_Rule.cl, T_Rule.n7, Nat.lt_of_le_of_lt (put_lt (put_lt (put_lt (put_lt (put_lt (put_lt (Nat.le_refl 0))))))) (by decide), ?_⟩
      refine ⟨_, rfl, _, rfl, x, CR, dx, _, rfl, upd_same, T_Rule.cl, T_Rule.n8, Nat.lt_of_le_of_lt (put_lt (put_lt (put_lt (put_lt (put_lt (put_lt (put_lt (Nat.le_refl 0)))))))) (by decide), ?_⟩
      refine ⟨_, rfl, _, rfl, x, CR, dx, _, rfl, upd_same, T_Rule.cl, T_Rule.n9, Nat.lt_of_le_of_lt (put_lt (put_lt (put_lt (put_lt (put_lt (put_lt (put_lt (put_lt (Nat.le_refl 0))))))))) (by decide), ?_⟩
      refine q _ a ((((b5.trans But.upd).trans But.upd).trans But.upd).trans But.upd) (by rw [upd_same, ruleF_eq]) (hax ((((b5.trans But.upd).trans But.upd).trans But.upd).trans But.upd))
    | one k h0 h1 ek =>
      refine ⟨_, rfl, _, _, _, _, false, rfl, .ty _, .base (.int k), kit_ty (by decide +kernel), _, rfl, iteF ⟨_, rfl, (by show 1 ≤ sizeLine; decide), fun t ht => ⟨_, rfl, ?_⟩⟩⟩
      have nt : t ≠ x := (ne_of_none e5 ht).symm
      by_cases hp1 : p = 1
      · subst hp1
        refine .inr ⟨t, [.int k], rfl, rfl, SqT.of upd_same, by simp, ?_⟩
        have ek2 : ks = [k] := ek
        refine ⟨_, rfl, x, CR, dx, _, rfl, (by rw [upd_ne nt.symm]; exact e5), T_Rule.cl, T_Rule.n6, Nat.lt_of_le_of_lt (put_lt (put_lt (put_lt (put_lt (put_lt (Nat.le_refl 0)))))) (by decide), ?_⟩
        refine ⟨_, rfl, _, rfl, x, CR, dx, _, rfl, upd_same, T_Rule.cl, T_Rule.n7, Nat.lt_of_le_of_lt (put_lt (put_lt (put_lt (put_lt (put_lt (put_lt (Nat.le_refl 0))))))) (by decide), ?_⟩
        refine ⟨_, rfl, _, rfl, x, CR, dx, _, rfl, upd_same, T_Rule.cl, T_Rule.n8, Nat.lt_of_le_of_lt (put_lt (put_lt (put_lt (put_lt (put_lt (put_lt (put_lt (Nat.le_refl 0)))))))) (by decide), ?_⟩
        refine ⟨_, rfl, _, rfl, x, CR, dx, _, rfl, upd_same, T_Rule.cl, T_Rule.n9, Nat.lt_of_le_of_lt (put_lt (put_lt (put_lt (put_lt (put_lt (put_lt (put_lt (put_lt (Nat.le_refl 0))))))))) (by decide), ?_⟩
        refine q _ t ((((b5.trans (But.new ht)).trans But.upd).trans But.upd).trans But.upd |>.trans But.upd) (by rw [upd_same, ruleF_eq]) (by rw [ek2]; exact SqT.of (by rw [upd_ne nt, upd_ne nt, upd_ne nt, upd_ne nt, upd_same]; rfl))
      · have hp2 : 2 ≤ p := by have := F.p0; omega
        have hp6 : p ≤ 1000 := by have := F.p1; omega
        refine .inl ⟨t, p, [.int k], rfl, rfl, SqT.of upd_same, by simp, hp2, hp6, (by show 1 ≤ 1000; decide), fun t2 ht2 => ?_⟩
        have e6 : (upd (upd (upd (upd (upd (upd H1 x (.ins CR dx (putF "parts" (.int p) []))) x (.ins CR dx (putF "step" (.int s') (putF "parts" (.int p) [])))) x (.ins CR dx (putF "grace" (.int g) (putF "step" (.int s') (putF "parts" (.int p) []))))) x (.ins CR dx (putF "last" (.bl l) (putF "grace" (.int g) (putF "step" (.int s') (putF "parts" (.int p) [])))))) x (.ins CR dx (putF "misses" (.int m) (putF "last" (.bl l) (putF "grace" (.int g) (putF "step" (.int s') (putF "parts" (.int p) []))))))) t (.tup [.int k])) x = _ := (upd_ne nt.symm).trans e5
        have nt2 : t2 ≠ x := (ne_of_none e6 ht2).symm
        refine ⟨_, rfl, x, CR, dx, _, rfl, (by rw [upd_ne nt2.symm]; exact e6), T_Rule.cl, T_Rule.n6, Nat.lt_of_le_of_lt (put_lt (put_lt (put_lt (put_lt (put_lt (Nat.le_refl 0)))))) (by decide), ?_⟩
        refine ⟨_, rfl, _, rfl, x, CR, dx, _, rfl, upd_same, T_Rule.cl, T_Rule.n7, Nat.lt_of_le_of_lt (put_lt (put_lt (put_lt (put_lt (put_lt (put_lt (Nat.le_refl 0))))))) (by decide), ?_⟩
        refine ⟨_, rfl, _, rfl, x, CR, dx, _, rfl, upd_same, T_Rule.cl, T_Rule.n8, Nat.lt_of_le_of_lt (put_lt (put_lt (put_lt (put_lt (put_lt (put_lt (put_lt (Nat.le_refl 0)))))))) (by decide), ?_⟩
        refine ⟨_, rfl, _, rfl, x, CR, dx, _, rfl, upd_same, T_Rule.cl, T_Rule.n9, Nat.lt_of_le_of_lt (put_lt (put_lt (put_lt (put_lt (put_lt (put_lt (put_lt (put_lt (Nat.le_refl 0))))))))) (by decide), ?_⟩
        refine q _ t2 ((((b5.trans (But.new ht)).trans (But.new ht2)).trans But.upd).trans But.upd |>.trans But.upd |>.trans But.upd) (by rw [upd_same, ruleF_eq]) (SqT.of (by rw [upd_ne nt2, upd_ne nt2, upd_ne nt2, upd_ne nt2, upd_same, ek, rep1, List.map_replicate]))
structure Fg where
  p : Int
  s : Int
  g : Int
  l : Bool
  m : Int
  ks : List Int
  fi : Int
  fa : Int
  ba : Int
structure Fg.Ok (f : Fg) : Prop where
  figs : Figs f.p f.s f.g f.m f.fi f.fa f.ba
  len : (f.ks.length : Int) = f.p
  bnd : ∀ k ∈ f.ks, 0 ≤ k ∧ k ≤ 100
def RuleAt (K : PySem.W.Frag) (H : Hp) (C r : Addr) (f : Fg) : Prop := ∃ dx kt, H r = some (.ins C dx (ruleF f.p f.s f.g f.l f.m kt f.fi f.fa f.ba)) ∧ SqT K H kt (f.ks.map V.int)
theorem RuleAt.same {K : PySem.W.Frag} {H H' : Hp} {C r : Addr} {f : Fg} (h : RuleAt K H C r f) (e : Same H H') : RuleAt K H' C r f := by
  obtain ⟨dx, kt, h1, h2⟩ := h
  exact ⟨dx, kt, e _ _ h1, seqT_same e h2⟩
section
variable {p s g : Int} {l : Bool} {m : Int} {kt : Addr} {fi fa ba : Int}
theorem lk_ne {x y : Str} {v : V} {r : List (Str × V)} (h : x ≠ y) : List.lookup x ((y, v) :: r) = List.lookup x r := by
  rw [List.lookup_cons, beq_false_of_ne h]
theorem lk_eq {x : Str} {v : V} {r : List (Str × V)} : List.lookup x ((x, v) :: r) = some v := by
  rw [List.lookup_cons, beq_self_eq_true]
theorem lk1 : (ruleF p s g l m kt fi fa ba).lookup ("parts" : Str) = some (V.int p) := lk_eq
theorem lk2 : (ruleF p s g l m kt fi fa ba).lookup ("step" : Str) = some (V.int s) := by
  unfold ruleF
  rw [lk_ne (by decide +kernel), lk_eq]
theorem lk3 : (ruleF p s g l m kt fi fa ba).lookup ("grace" : Str) = some (V.int g) := by
  unfold ruleF
  rw [lk_ne (by decide +kernel), lk_ne (by decide +kernel), lk_eq]
theorem lk4 : (ruleF p s g l m kt fi fa ba).lookup ("last" : Str) = some (V.bl l) := by
  unfold ruleF
  rw [lk_ne (by decide +kernel), lk_ne (by decide +kernel), lk_ne (by decide +kernel), lk_eq]
theorem lk5 : (ruleF p s g l m kt fi fa ba).lookup ("misses" : Str) = some (V.int m) := by
  unfold ruleF
  rw [lk_ne (by decide +kernel), lk_ne (by decide +kernel), lk_ne (by decide +kernel), lk_ne (by decide +kernel), lk_eq]
theorem lk6 : (ruleF p s g l m kt fi fa ba).lookup ("keep" : Str) = some (V.ref kt) := by
  unfold ruleF
  rw [lk_ne (by decide +kernel), lk_ne (by decide +kernel), lk_ne (by decide +kernel), lk_ne (by decide +kernel), lk_ne (by decide +kernel), lk_eq]
theorem lk7 : (ruleF p s g l m kt fi fa ba).lookup ("fine" : Str) = some (V.int fi) := by
  unfold ruleF
  rw [lk_ne (by decide +kernel), lk_ne (by decide +kernel), lk_ne (by decide +kernel), lk_ne (by decide +kernel), lk_ne (by decide +kernel), lk_ne (by decide +kernel), lk_eq]
theorem lk8 : (ruleF p s g l m kt fi fa ba).lookup ("falls" : Str) = some (V.int fa) := by
  unfold ruleF
  rw [lk_ne (by decide +kernel), lk_ne (by decide +kernel), lk_ne (by decide +kernel), lk_ne (by decide +kernel), lk_ne (by decide +kernel), lk_ne (by decide +kernel), lk_ne (by decide +kernel), lk_eq]
theorem lk9 : (ruleF p s g l m kt fi fa ba).lookup ("back" : Str) = some (V.int ba) := by
  unfold ruleF
  rw [lk_ne (by decide +kernel), lk_ne (by decide +kernel), lk_ne (by decide +kernel), lk_ne (by decide +kernel), lk_ne (by decide +kernel), lk_ne (by decide +kernel), lk_ne (by decide +kernel), lk_ne (by decide +kernel), lk_eq]
theorem lk0 {x : Str} (h : x ∉ (["parts", "step", "grace", "last", "misses", "keep", "fine", "falls", "back"] : List Str)) : (ruleF p s g l m kt fi fa ba).lookup x = none := by
  simp only [List.mem_cons, List.not_mem_nil, or_false, not_or] at h
  obtain ⟨h1, h2, h3, h4, h5, h6, h7, h8, h9⟩ := h
  unfold ruleF
  rw [lk_ne h1, lk_ne h2, lk_ne h3, lk_ne h4, lk_ne h5, lk_ne h6, lk_ne h7, lk_ne h8, lk_ne h9]
  rfl
end
def keptV (f : Fg) (k : Int) (gone : Bool) : Int := if gone then (if k + f.fi < 100 then k + f.fi else 100) else k
/-! ### Rule_figures -/
abbrev s_Rule_figures : Stmt := inClass (topS 19) 2
abbrev N_Rule_figures : List Str := ["self"]
theorem sc_Rule_figures : FnScope N_Rule_figures ["self"] (defScope s_Rule_figures) := ⟨rfl, rfl, rfl, by decide +kernel, rfl, by decide +kernel, by decide +kernel⟩
def sp_Rule_figures (K : PySem.W.Frag) (C : Addr) : Sp := fun vs H Q _ => ∃ (r : Addr) (f : Fg), vs = [.ref r] ∧ RuleAt K H C r f ∧ ∀ H' t kt, H t = none → Same H H' → H' t = some (.tup [.int f.p, .int f.s, .int f.g, .bl f.l, .int f.m, .ref kt, .int f.fi, .int f.fa, .int f.ba]) → SqT K H' kt (f.ks.map V.int) → Q (.ref t) H'
theorem ok_Rule_figures {f : Addr} {fd : FuncData} {CR : Addr} (TQ : TEq K mg CR "Rule") (T_Rule : TRule K mg CR) (F : FunD K "figures" "Rule.figures" (defArgs s_Rule_figures) (defBody s_Rule_figures) (defScope s_Rule_figures) [] [] f fd) : FnOk P w K mg base CX0 1 f fd ["self"] (sp_Rule_figures K CR) := by
  refine okD F sc_Rule_figures (fun vs H Q E h => ?_) (fun cdv A outer s H vs Q E hr h => ?_)
  · first | (obtain ⟨_, rfl, _⟩ := h; rfl) | (obtain ⟨_, _, rfl, _⟩ := h; rfl) | (obtain ⟨_, _, _, rfl, _⟩ := h; rfl) | (obtain ⟨_, _, _, _, rfl, _⟩ := h; rfl) | (obtain ⟨_, _, _, _, _, rfl, _⟩ := h; rfl) | (obtain ⟨_, _, _, _, _, _, rfl, _⟩ := h; rfl) | (obtain ⟨_, _, _, _, _, _, _, rfl, _⟩ := h; rfl) | (obtain ⟨_, _, _, _, _, _, _, _, rfl, _⟩ := h; rfl) | (obtain ⟨_, _, _, _, _, _, _, _, _, rfl, _⟩ := h; rfl) | (obtain ⟨_, _, _, _, _, _, _, _, _, _, rfl, _⟩ := h; rfl) | (obtain ⟨_, _, _, _, _, _, _, _, _, _, _, rfl, _⟩ := h; rfl) | (obtain ⟨_, _, _, _, _, _, _, _, _, _, _, _, rfl, _⟩ := h; rfl) | (obtain ⟨_, _, _, _, _, _, _, _, _, _, _, _, _, rfl, _⟩ := h; rfl) | (obtain ⟨_, _, _, _, _, _, _, _, _, _, _, _, _, _, rfl, _⟩ := h; rfl) | (obtain ⟨_, _, _, _, _, _, _, _, _, _, _, _, _, _, _, rfl, _⟩ := h; rfl)
  · have hu64 := hr.units
    obtain ⟨r, f', rfl, ⟨dx, kt, h1, h2⟩, q⟩ := h
    refine ⟨_, (pss_one (ps_ret (pe_tup (pa_cons (pe_fld (pv 0) rfl) (pa_cons (pe_fld (pv 0) rfl) (pa_cons (pe_fld (pv 0) rfl) (pa_cons (pe_fld (pv 0) rfl) (pa_cons (pe_fld (pv 0) rfl) (pa_cons (pe_fld (pv 0) rfl) (pa_cons (pe_fld (pv 0) rfl) (pa_cons (pe_fld (pv 0) rfl) (pa_cons (pe_fld (pv 0) rfl) pa_nil)))))))))))), ?_⟩
    refine ⟨_, rfl, r, CR, dx, _, _, rfl, h1, T_Rule.cl, T_Rule.n1, lk1, ?_⟩
    refine ⟨_, rfl, r, CR, dx, _, _, rfl, h1, T_Rule.cl, T_Rule.n2, lk2, ?_⟩
    refine ⟨_, rfl, r, CR, dx, _, _, rfl, h1, T_Rule.cl, T_Rule.n3, lk3, ?_⟩
    refine ⟨_, rfl, r, CR, dx, _, _, rfl, h1, T_Rule.cl, T_Rule.n4, lk4, ?_⟩
    refine ⟨_, rfl, r, CR, dx, _, _, rfl, h1, T_Rule.cl, T_Rule.n5, lk5, ?_⟩
    refine ⟨_, rfl, r, CR, dx, _, _, rfl, h1, T_Rule.cl, T_Rule.n6, lk6, ?_⟩
    refine ⟨_, rfl, r, CR, dx, _, _, rfl, h1, T_Rule.cl, T_Rule.n7, lk7, ?_⟩
    refine ⟨_, rfl, r, CR, dx, _, _, rfl, h1, T_Rule.cl, T_Rule.n8, lk8, ?_⟩
    refine ⟨_, rfl, r, CR, dx, _, _, rfl, h1, T_Rule.cl, T_Rule.n9, lk9, (by show 9 ≤ sizeLine; decide), fun t ht => ?_⟩
    exact q _ t kt ht (same_new ht) upd_same (seqT_same (same_new ht) h2)
/-! ### what is left to draw of -/
def Left (H : Hp) (b c : Addr) (n : Int) : Prop := ∃ (x z : Int) (ns : List Int), H b = some (.lst [.int x, .ref c, .int z]) ∧ H c = some (.lst (ns.map V.int)) ∧ 0 ≤ x ∧ 0 ≤ z ∧ z ≤ n ∧ 1 ≤ ns.length ∧ ns.length ≤ 63
section
variable {H H' : Hp} {b c p : Addr} {n m : Int} {o : HO}
theorem Left.mono (h : Left H b c n) (l : n ≤ m) : Left H b c m := by
  obtain ⟨x, z, ns, h0, h1, h2, h3, h4, h5⟩ := h
  exact ⟨x, z, ns, h0, h1, h2, h3, by omega, h5⟩
theorem Left.same (e : Same H H') (h : Left H b c n) : Left H' b c n := by
  obtain ⟨x, z, ns, h0, h1, h2⟩ := h
  exact ⟨x, z, ns, e _ _ h0, e _ _ h1, h2⟩
theorem Left.new (h : Left H b c n) (e : H p = none) : Left (upd H p o) b c n := h.same (same_new e)
theorem Left.ne (h : Left H b c n) (e : H p = none) : p ≠ b := fun z => by
  obtain ⟨_, _, _, h0, _⟩ := h
  rw [z, h0] at e
  cases e
theorem Left.ne2 (h : Left H b c n) (e : H p = none) : p ≠ c := fun z => by
  obtain ⟨_, _, _, _, h0, _⟩ := h
  rw [z, h0] at e
  cases e
theorem Left.upd (h : Left H b c n) (e1 : p ≠ b) (e2 : p ≠ c) : Left (upd H p o) b c n := by
  obtain ⟨x, z, ns, h0, h1, h2⟩ := h
  exact ⟨x, z, ns, by rw [upd_ne e1.symm]; exact h0, by rw [upd_ne e2.symm]; exact h1, h2⟩
theorem Left.net (h : Left H b c n) {xs : List V} (e : H p = some (.tup xs)) : p ≠ b := fun z => by
  obtain ⟨_, _, _, h0, _⟩ := h
  rw [z, h0] at e
  cases e
theorem left_cells {x z : Int} {ns : List Int} (h0 : H b = some (.lst [.int x, .ref c, .int z])) (h1 : H c = some (.lst (ns.map V.int))) : c ≠ b := fun e => by
  rw [e, h0] at h1
  have h2 := HO.lst.inj (Option.some.inj h1)
  match ns, h2 with
  | [], h2 => cases h2
  | [_], h2 => cases h2
  | _ :: _ :: _, h2 => cases (List.cons.inj (List.cons.inj h2).2).1
theorem But.seqT {K : PySem.W.Frag} {a : Addr} {xs : List V} (t : But b H H') (hb : Left H b c n) (h : SqT K H a xs) : SqT K H' a xs := by
  obtain ⟨_, _, _, hx, _⟩ := hb
  rcases h with (h | ⟨o, h⟩) | h
  · exact .inl (.inl (t _ _ (ne_of h hx (by intro z; cases z)) h))
  · exact .inl (.inr ⟨o, t _ _ (ne_of h hx (by intro z; cases z)) h⟩)
  · exact .inr h
end
theorem none_of {H H' : Hp} {p : Addr} (s : Same H H') (h : H' p = none) : H p = none := by
  cases e : H p with
  | none => rfl
  | some o =>
    rw [s _ _ e] at h
    cases h
theorem cut_to {xs : List V} {k : Nat} (h : xs.length ≤ k) : cutV xs none (some (k : Int)) = xs := by
  unfold cutV
  rw [HT.sIx_nat, HT.sIx_none, Nat.min_eq_right h]
  simp
theorem pick3v {r : Int} {x y z : V} (h0 : 0 ≤ r) (h1 : r < 3) : ∃ v, atI [x, y, z] r = some v ∧ (v = x ∨ v = y ∨ v = z) := by
  have h : r = 0 ∨ r = 1 ∨ r = 2 := by omega
  rcases h with rfl | rfl | rfl
  · exact ⟨x, rfl, .inl rfl⟩
  · exact ⟨y, rfl, .inr (.inl rfl)⟩
  · exact ⟨z, rfl, .inr (.inr rfl)⟩
theorem pick3i {r x y z lo hi : Int} (h0 : 0 ≤ r) (h1 : r < 3) (hx : lo ≤ x ∧ x ≤ hi) (hy : lo ≤ y ∧ y ≤ hi) (hz : lo ≤ z ∧ z ≤ hi) : ∃ v : Int, atI [V.int x, .int y, .int z] r = some (.int v) ∧ lo ≤ v ∧ v ≤ hi := by
  have h : r = 0 ∨ r = 1 ∨ r = 2 := by omega
  rcases h with rfl | rfl | rfl
  · exact ⟨x, rfl, hx⟩
  · exact ⟨y, rfl, hy⟩
  · exact ⟨z, rfl, hz⟩
theorem pick4i {r x y z u lo hi : Int} (h0 : 0 ≤ r) (h1 : r < 4) (hx : lo ≤ x ∧ x ≤ hi) (hy : lo ≤ y ∧ y ≤ hi) (hz : lo ≤ z ∧ z ≤ hi) (hu : lo ≤ u ∧ u ≤ hi) : ∃ v : Int, atI [V.int x, .int y, .int z, .int u] r = some (.int v) ∧ lo ≤ v ∧ v ≤ hi := by
  have h : r = 0 ∨ r = 1 ∨ r = 2 ∨ r = 3 := by omega
  rcases h with rfl | rfl | rfl | rfl
  · exact ⟨x, rfl, hx⟩
  · exact ⟨y, rfl, hy⟩
  · exact ⟨z, rfl, hz⟩
  · exact ⟨u, rfl, hu⟩
/-! ### _law_mix -/
abbrev s__law_mix : Stmt := topS 38
abbrev N__law_mix : List Str := ["_law_cell", "_law_k", "_law_m"]
theorem sc__law_mix : FnScope N__law_mix ["_law_cell", "_law_k"] (defScope s__law_mix) := ⟨rfl, rfl, rfl, by decide +kernel, rfl, by decide +kernel, by decide +kernel⟩
def sp__law_mix (K : PySem.W.Frag) : Sp := fun vs H Q _ => ∃ (x k : Int), vs = [.int x, .int k] ∧ 0 ≤ k ∧ k < 10000000000 ∧ ∀ r : Int, 0 ≤ r → r < 1999999973 → Q (.int r) H
theorem ok__law_mix {f : Addr} {fd : FuncData} (F : Fun K "_law_mix" "_law_mix" s__law_mix f fd) (g : mg "_law_mix" = some (.ref f)) (bd : Binds K fd ["_law_cell", "_law_k"] []) : CF P w K mg base 1 "_law_mix" ["_law_cell", "_law_k"] (sp__law_mix K) := by
  refine ⟨f, fd, F.ok sc__law_mix (fun vs H Q E h => ?_) (fun cdv A outer s H vs Q E hr h => ?_), g, F.kp, bd⟩
  · first | (obtain ⟨_, rfl, _⟩ := h; rfl) | (obtain ⟨_, _, rfl, _⟩ := h; rfl) | (obtain ⟨_, _, _, rfl, _⟩ := h; rfl) | (obtain ⟨_, _, _, _, rfl, _⟩ := h; rfl) | (obtain ⟨_, _, _, _, _, rfl, _⟩ := h; rfl) | (obtain ⟨_, _, _, _, _, _, rfl, _⟩ := h; rfl) | (obtain ⟨_, _, _, _, _, _, _, rfl, _⟩ := h; rfl) | (obtain ⟨_, _, _, _, _, _, _, _, rfl, _⟩ := h; rfl) | (obtain ⟨_, _, _, _, _, _, _, _, _, rfl, _⟩ := h; rfl) | (obtain ⟨_, _, _, _, _, _, _, _, _, _, rfl, _⟩ := h; rfl) | (obtain ⟨_, _, _, _, _, _, _, _, _, _, _, rfl, _⟩ := h; rfl) | (obtain ⟨_, _, _, _, _, _, _, _, _, _, _, _, rfl, _⟩ := h; rfl) | (obtain ⟨_, _, _, _, _, _, _, _, _, _, _, _, _, rfl, _⟩ := h; rfl) | (obtain ⟨_, _, _, _, _, _, _, _, _, _, _, _, _, _, rfl, _⟩ := h; rfl) | (obtain ⟨_, _, _, _, _, _, _, _, _, _, _, _, _, _, _, rfl, _⟩ := h; rfl)
  · have hu64 := hr.units
    obtain ⟨x, k, rfl, k0, k1, q⟩ := h
    refine ⟨_, (pss_cons (ps_set (i := 2) sc__law_mix.nd rfl (.inl rfl) (pe_op op_mod (pe_op op_mul (pe_op op_add (pe_op op_add (pe_op op_mod (pv 0) pe_int) (pe_op op_mul (pe_op op_mul (pv 1) (pv 1)) pe_int)) pe_int) pe_int) pe_int))
      (pss_one (ps_ret (pe_op op_mod (pe_op op_mul (pv 2) (pv 2)) pe_int)))), ?_⟩
    refine ⟨_, rfl, _, _, rfl, rfl, (by show (0 : Int) < 2147483629; decide), _, rfl, _, rfl, _, _, rfl, rfl, .inl ⟨by omega, by omega⟩, _, _, rfl, rfl, .inr ⟨by decide, by decide⟩, _, _, rfl, rfl, _, _, rfl, rfl, _, _, rfl, rfl, .inr ⟨by decide, by decide⟩, _, _, rfl, rfl, (by show (0 : Int) < 2147483647; decide), ?_⟩
    have o0 := Int.emod_nonneg ((x % 2147483629 + k * k * 7919 + 11) * 48271) (show (2147483647 : Int) ≠ 0 by decide)
    have o1 := Int.emod_lt_of_pos ((x % 2147483629 + k * k * 7919 + 11) * 48271) (show (0 : Int) < 2147483647 by decide)
    exact ⟨_, rfl, _, rfl, _, _, rfl, rfl, .inl ⟨by omega, by omega⟩, _, _, rfl, rfl, (by show (0 : Int) < 1999999973; decide), q _ (Int.emod_nonneg _ (by decide)) (Int.emod_lt_of_pos _ (by decide))⟩
/-! ### _law_pick -/
abbrev s__law_pick : Stmt := topS 42
abbrev N__law_pick : List Str := ["_law_left", "_law_many", "_law_digit", "_law_cells", "_law_cell"]
theorem sc__law_pick : FnScope N__law_pick ["_law_left", "_law_many"] (defScope s__law_pick) := ⟨rfl, rfl, rfl, by decide +kernel, rfl, by decide +kernel, by decide +kernel⟩
def sp__law_pick (K : PySem.W.Frag) : Sp := fun vs H Q _ => ∃ (b c : Addr) (m n : Int), vs = [.ref b, .int m] ∧ Left H b c n ∧ 0 < m ∧ m < 1073741824 ∧ n < 1000000000 ∧ ∀ (r : Int) H', 0 ≤ r → r < m → Left H' b c (n + 1) → But b H H' → Q (.int r) H'
theorem ok__law_pick {f : Addr} {fd : FuncData} (F : Fun K "_law_pick" "_law_pick" s__law_pick f fd) (g : mg "_law_pick" = some (.ref f)) (bd : Binds K fd ["_law_left", "_law_many"] []) (m_len : mg "len" = none) (C__law_mix : CF P w K mg base 1 "_law_mix" ["_law_cell", "_law_k"] (sp__law_mix K)) : CF P w K mg base 2 "_law_pick" ["_law_left", "_law_many"] (sp__law_pick K) := by
  refine ⟨f, fd, F.ok sc__law_pick (fun vs H Q E h => ?_) (fun cdv A outer s H vs Q E hr h => ?_), g, F.kp, bd⟩
  · first | (obtain ⟨_, rfl, _⟩ := h; rfl) | (obtain ⟨_, _, rfl, _⟩ := h; rfl) | (obtain ⟨_, _, _, rfl, _⟩ := h; rfl) | (obtain ⟨_, _, _, _, rfl, _⟩ := h; rfl) | (obtain ⟨_, _, _, _, _, rfl, _⟩ := h; rfl) | (obtain ⟨_, _, _, _, _, _, rfl, _⟩ := h; rfl) | (obtain ⟨_, _, _, _, _, _, _, rfl, _⟩ := h; rfl) | (obtain ⟨_, _, _, _, _, _, _, _, rfl, _⟩ := h; rfl) | (obtain ⟨_, _, _, _, _, _, _, _, _, rfl, _⟩ := h; rfl) | (obtain ⟨_, _, _, _, _, _, _, _, _, _, rfl, _⟩ := h; rfl) | (obtain ⟨_, _, _, _, _, _, _, _, _, _, _, rfl, _⟩ := h; rfl) | (obtain ⟨_, _, _, _, _, _, _, _, _, _, _, _, rfl, _⟩ := h; rfl) | (obtain ⟨_, _, _, _, _, _, _, _, _, _, _, _, _, rfl, _⟩ := h; rfl) | (obtain ⟨_, _, _, _, _, _, _, _, _, _, _, _, _, _, rfl, _⟩ := h; rfl) | (obtain ⟨_, _, _, _, _, _, _, _, _, _, _, _, _, _, _, rfl, _⟩ := h; rfl)
  · have hu64 := hr.units
    obtain ⟨b, c, m, n, rfl, ⟨x, z, ns, hb, hc, hx, hz, hz2, hl0, hl1⟩, hm, hm2, hn, q⟩ := h
    refine ⟨_, (pss_cons (ps_asg (pe_op op_add (pe_ix (kk_ixl K) (pv 0) pe_int (fun _ _ => rfl)) pe_int) (pg_sub (pv 0) pe_int set_list))
      (pss_cons (ps_if (pt_cmpR op_gt (pe_ix (kk_ixl K) (pv 0) pe_int (fun _ _ => rfl)) pe_int (nomark _))
         (pss_cons (ps_set (i := 2) sc__law_pick.nd rfl (.inl rfl) (pe_op op_mod (pe_ix (kk_ixl K) (pv 0) pe_int (fun _ _ => rfl)) (pv 1)))
          (pss_cons (ps_asg (pe_op op_fdiv (pe_ix (kk_ixl K) (pv 0) pe_int (fun _ _ => rfl)) (pv 1)) (pg_sub (pv 0) pe_int set_list))
          (pss_one (ps_ret (pv 2)))))
         pss_nil)
      (pss_cons (ps_set (i := 3) sc__law_pick.nd rfl (.inl rfl) (pe_ix (kk_ixl K) (pv 0) pe_int (fun _ _ => rfl)))
      (pss_cons (ps_set (i := 4) sc__law_pick.nd rfl (.inl rfl) (pe_op op_add (pe_ix (kk_ixl K) (pv 3) (pe_op op_mod (pe_ix (kk_ixl K) (pv 0) pe_int (fun _ _ => rfl)) (pe_callB (kk_len K) (by rfl) m_len PySem.boot_len (pa_cons (pv 3) pa_nil))) (fun _ _ => rfl)) (pe_op op_mul pe_int (pe_op op_fdiv (pe_ix (kk_ixl K) (pv 0) pe_int (fun _ _ => rfl)) (pe_callB (kk_len K) (by rfl) m_len PySem.boot_len (pa_cons (pv 3) pa_nil))))))
      (pss_one (ps_ret (pe_op op_mod (pe_op op_fdiv (pe_cf C__law_mix (hr.mono (by decide)) (by rfl) (pa_cons (pe_cf C__law_mix (hr.mono (by decide)) (by rfl) (pa_cons (pv 4) (pa_cons (pe_ix (kk_ixl K) (pv 0) pe_int (fun _ _ => rfl)) pa_nil))) (pa_cons (pe_op op_add (pe_ix (kk_ixl K) (pv 0) pe_int (fun _ _ => rfl)) pe_int) pa_nil))) pe_int) (pv 1)))))))), ?_⟩
    have ncb := left_cells hb hc
    have h1 : (upd H b (.lst [.int x, .ref c, .int (z + 1)])) b = some (.lst [.int x, .ref c, .int (z + 1)]) := upd_same
    have c1 : (upd H b (.lst [.int x, .ref c, .int (z + 1)])) c = some (.lst (ns.map V.int)) := by rw [upd_ne ncb]; exact hc
    refine ⟨_, rfl, b, _, _, _, rfl, rfl, SqL.of hb, rfl, _, _, rfl, rfl, _, rfl, b, _, _, _, rfl, rfl, hb, rfl, ?_⟩
    refine ⟨_, rfl, b, _, _, _, rfl, rfl, SqL.of h1, rfl, _, _, rfl, rfl, _, rfl, ite2 (fun e => ?_) (fun e => ?_)⟩
    · refine ⟨_, rfl, b, _, _, _, rfl, rfl, SqL.of h1, rfl, _, rfl, _, _, rfl, rfl, hm, ?_⟩
      refine ⟨_, rfl, b, _, _, _, rfl, rfl, SqL.of h1, rfl, _, rfl, _, _, rfl, rfl, ⟨hm, hm2⟩, _, rfl, b, _, _, _, rfl, rfl, h1, rfl, ?_⟩
      refine ⟨_, rfl, q _ _ (Int.emod_nonneg _ (by omega)) (Int.emod_lt_of_pos _ hm) ⟨x / m, z + 1, ns, upd_same, by rw [upd_ne ncb]; exact c1, Int.ediv_nonneg hx (by omega), by omega, by omega, hl0, hl1⟩ (But.upd.trans But.upd)⟩
    · have hlp : (0 : Int) < ((ns.map V.int).length : Int) := by rw [List.length_map]; omega
      have m0 := Int.emod_nonneg (z + 1) (show ((ns.map V.int).length : Int) ≠ 0 by omega)
      have m1 := Int.emod_lt_of_pos (z + 1) hlp
      have hlen : ((ns.map V.int).length : Int) = (ns.length : Int) := by rw [List.length_map]
      obtain ⟨d, hd⟩ := at_int (ns := ns) m0 (by rw [← hlen]; exact m1)
      refine ⟨_, rfl, b, _, _, _, rfl, rfl, SqL.of h1, rfl, ?_⟩
      refine ⟨_, rfl, _, rfl, b, _, _, _, rfl, rfl, SqL.of h1, rfl, _, rfl, c, _, rfl, .inl (SqL.of c1), _, _, rfl, rfl, hlp, c, _, _, _, rfl, rfl, SqL.of c1, hd, ?_⟩
      refine ⟨_, rfl, b, _, _, _, rfl, rfl, SqL.of h1, rfl, _, rfl, c, _, rfl, .inl (SqL.of c1), _, _, rfl, rfl, ⟨hlp, by omega⟩, _, _, rfl, rfl, .inl ⟨by decide, by decide⟩, _, _, rfl, rfl, ?_⟩
      refine ⟨_, rfl, _, rfl, b, _, _, _, rfl, rfl, SqL.of h1, rfl, _, z + 1, rfl, by omega, by omega, fun r1 r10 r11 => ?_⟩
      refine ⟨_, rfl, b, _, _, _, rfl, rfl, SqL.of h1, rfl, _, _, rfl, rfl, r1, z + 1 + 64, rfl, by omega, by omega, fun r2 r20 r21 => ?_⟩
      exact ⟨_, _, rfl, rfl, ⟨by decide, by decide⟩, _, rfl, _, _, rfl, rfl, hm, q _ _ (Int.emod_nonneg _ (by omega)) (Int.emod_lt_of_pos _ hm) ⟨x, z + 1, ns, h1, c1, hx, by omega, by omega, hl0, hl1⟩ But.upd⟩
/-! ### _law_drawn_from -/
abbrev s__law_drawn_from : Stmt := topS 41
abbrev N__law_drawn_from : List Str := ["_law_script", "_law_k", "_law_cell"]
theorem sc__law_drawn_from : FnScope N__law_drawn_from ["_law_script", "_law_k"] (defScope s__law_drawn_from) := ⟨rfl, rfl, rfl, by decide +kernel, rfl, by decide +kernel, by decide +kernel⟩
def sp__law_drawn_from (K : PySem.W.Frag) : Sp := fun vs H Q _ => ∃ (a : Addr) (k : Int) (ns : List Int), vs = [.ref a, .int k] ∧ SqL K H a (ns.map V.int) ∧ ns.length ≤ 63 ∧ 0 ≤ k ∧ k ≤ 63 ∧ ∀ H' b c, H b = none → H c = none → Same H H' → Left H' b c (1009 * k) → Q (.ref b) H'
theorem big_or (c : Int) : ∃ x : Int, atI [V.int 0, .int (if c < 0 then -c else c)] (if decide (10 ^ (18 : Int).toNat ≤ (if c < 0 then -c else c)) = true then 1 else 0) = some (.int x) ∧ 0 ≤ x := by
  by_cases h : 10 ^ (18 : Int).toNat ≤ (if c < 0 then -c else c)
  · rw [decide_eq_true h]
    refine ⟨_, rfl, ?_⟩
    split <;> omega
  · rw [decide_eq_false h]
    exact ⟨0, rfl, by decide⟩
theorem ok__law_drawn_from {f : Addr} {fd : FuncData} (F : Fun K "_law_drawn_from" "_law_drawn_from" s__law_drawn_from f fd) (g : mg "_law_drawn_from" = some (.ref f)) (bd : Binds K fd ["_law_script", "_law_k"] []) (m_len : mg "len" = none) (m_abs : mg "abs" = none) (m_int : mg "int" = none) : CF P w K mg base 1 "_law_drawn_from" ["_law_script", "_law_k"] (sp__law_drawn_from K) := by
  refine ⟨f, fd, F.ok sc__law_drawn_from (fun vs H Q E h => ?_) (fun cdv A outer s H vs Q E hr h => ?_), g, F.kp, bd⟩
  · first | (obtain ⟨_, rfl, _⟩ := h; rfl) | (obtain ⟨_, _, rfl, _⟩ := h; rfl) | (obtain ⟨_, _, _, rfl, _⟩ := h; rfl) | (obtain ⟨_, _, _, _, rfl, _⟩ := h; rfl) | (obtain ⟨_, _, _, _, _, rfl, _⟩ := h; rfl) | (obtain ⟨_, _, _, _, _, _, rfl, _⟩ := h; rfl) | (obtain ⟨_, _, _, _, _, _, _, rfl, _⟩ := h; rfl) | (obtain ⟨_, _, _, _, _, _, _, _, rfl, _⟩ := h; rfl) | (obtain ⟨_, _, _, _, _, _, _, _, _, rfl, _⟩ := h; rfl) | (obtain ⟨_, _, _, _, _, _, _, _, _, _, rfl, _⟩ := h; rfl) | (obtain ⟨_, _, _, _, _, _, _, _, _, _, _, rfl, _⟩ := h; rfl) | (obtain ⟨_, _, _, _, _, _, _, _, _, _, _, _, rfl, _⟩ := h; rfl) | (obtain ⟨_, _, _, _, _, _, _, _, _, _, _, _, _, rfl, _⟩ := h; rfl) | (obtain ⟨_, _, _, _, _, _, _, _, _, _, _, _, _, _, rfl, _⟩ := h; rfl) | (obtain ⟨_, _, _, _, _, _, _, _, _, _, _, _, _, _, _, rfl, _⟩ := h; rfl)
  · have hu64 := hr.units
    obtain ⟨a, k, ns, rfl, hS, hlen, hk0, hk, q⟩ := h
    refine ⟨_, (pss_cons (ps_set (i := 2) sc__law_drawn_from.nd rfl (.inl rfl) (pe_ifExp (pt_cmpR op_lt (pv 1) (pe_callB (kk_len K) (by rfl) m_len PySem.boot_len (pa_cons (pv 0) pa_nil)) (nomark _)) (pe_ix (kk_ixl K) (pv 0) (pv 1) (fun _ _ => rfl)) pe_int))
      (pss_one (ps_ret (pe_lst (pa_cons (pe_ix (kk_ixl K) (pe_lst (pa_cons pe_int (pa_cons (pe_callB call_abs (by rfl) m_abs (by decide +kernel) (pa_cons (pv 2) pa_nil)) pa_nil))) (pe_callTy call_int1 (by rfl) m_int (by decide +kernel) (pa_cons (pe_cmpR op_ge (pe_callB call_abs (by rfl) m_abs (by decide +kernel) (pa_cons (pv 2) pa_nil)) (pe_op op_pow pe_int pe_int) (nomark _)) pa_nil)) (fun _ _ => rfl)) (pa_cons (pe_ifExp (pt_cmpR op_gt (pe_callB (kk_len K) (by rfl) m_len PySem.boot_len (pa_cons (pv 0) pa_nil)) pe_int (nomark _)) (pe_slice (kk_sll K) (pv 0) po_none (po_some pe_int)) (pe_lst (pa_cons pe_int pa_nil))) (pa_cons (pe_op op_mul pe_int (pv 1)) pa_nil))))))), ?_⟩
    refine ⟨_, rfl, _, rfl, a, _, rfl, .inl hS, _, _, rfl, rfl, _, rfl, ite2 (fun e => ?c1) (fun e => ?c2)⟩
    case' c1 =>
      have e1 := of_decide_eq_true e
      rw [List.length_map] at e1
      obtain ⟨d, hd⟩ := at_int hk0 e1
      refine ⟨_, rfl, _, rfl, a, _, _, _, rfl, rfl, hS, hd, ?_⟩
    all_goals
      refine ⟨_, rfl, _, rfl, (by show 2 ≤ sizeLine; decide), fun p hp => ?_⟩
      refine ⟨_, rfl, _, rfl, _, _, rfl, rfl, ⟨by decide, by decide, by decide⟩, _, _, rfl, rfl, .inr ⟨_, rfl, p, _, _, _, rfl, rfl, SqL.of upd_same, (big_or _).choose_spec.1, ?_⟩⟩
      have s1 := fun o => same_new (o := o) hp
      refine ⟨_, rfl, a, _, rfl, .inl ((s1 _).seq hS), _, _, rfl, rfl, _, rfl, ite2 (fun e2 => ?_) (fun e2 => ?_)⟩
      · have e3 := of_decide_eq_true e2
        rw [List.length_map] at e3
        refine ⟨_, rfl, _, rfl, a, _, rfl, (s1 _).seq hS, fun c nc => ?_⟩
        refine ⟨_, rfl, _, _, rfl, rfl, .inl ⟨by decide, by decide⟩, (by show 3 ≤ sizeLine; decide), fun l nl => ?_⟩
        refine q _ l c (none_of ((s1 _).trans (same_new nc)) nl) (none_of (s1 _) nc) (((s1 _).trans (same_new nc)).trans (same_new nl)) ⟨_, _, ns, upd_same, ?_, (big_or _).choose_spec.2, by omega, by omega, by omega, hlen⟩
        rw [upd_ne (ne_of_none upd_same nl), upd_same]
        exact congrArg (fun z => some (HO.lst z)) (cut_to (k := 63) (by rw [List.length_map]; exact hlen))
      · refine ⟨(by show 1 ≤ sizeLine; decide), fun c nc => ?_⟩
        refine ⟨_, rfl, _, _, rfl, rfl, .inl ⟨by decide, by decide⟩, (by show 3 ≤ sizeLine; decide), fun l nl => ?_⟩
        refine q _ l c (none_of ((s1 _).trans (same_new nc)) nl) (none_of (s1 _) nc) (((s1 _).trans (same_new nc)).trans (same_new nl)) ⟨_, _, [7], upd_same, ?_, (big_or _).choose_spec.2, by omega, by omega, by decide, by decide⟩
        rw [upd_ne (ne_of_none upd_same nl), upd_same]
        rfl
/-! ### _law_keep -/
abbrev s__law_keep : Stmt := topS 44
abbrev N__law_keep : List Str := ["_law_left", "_law_many", "_law_some", "_law_turn"]
theorem sc__law_keep : FnScope N__law_keep ["_law_left", "_law_many"] (defScope s__law_keep) := ⟨rfl, rfl, rfl, by decide +kernel, rfl, by decide +kernel, by decide +kernel⟩
def sp__law_keep (K : PySem.W.Frag) : Sp := fun vs H Q _ => ∃ (b c : Addr) (m n : Int), vs = [.ref b, .int m] ∧ Left H b c n ∧ 1 ≤ m ∧ m ≤ 6 ∧ n < 999999000 ∧ ∀ H' v kd ks, Left H' b c (n + 20) → But b H H' → Keep K H' m ks v kd → Q v H'
theorem ok__law_keep {f : Addr} {fd : FuncData} (F : Fun K "_law_keep" "_law_keep" s__law_keep f fd) (g : mg "_law_keep" = some (.ref f)) (bd : Binds K fd ["_law_left", "_law_many"] []) (m_tuple : mg "tuple" = none) (m_range : mg "range" = none) (C__law_pick : CF P w K mg base 2 "_law_pick" ["_law_left", "_law_many"] (sp__law_pick K)) : CF P w K mg base 3 "_law_keep" ["_law_left", "_law_many"] (sp__law_keep K) := by
  refine ⟨f, fd, F.ok sc__law_keep (fun vs H Q E h => ?_) (fun cdv A outer s H vs Q E hr h => ?_), g, F.kp, bd⟩
  · first | (obtain ⟨_, rfl, _⟩ := h; rfl) | (obtain ⟨_, _, rfl, _⟩ := h; rfl) | (obtain ⟨_, _, _, rfl, _⟩ := h; rfl) | (obtain ⟨_, _, _, _, rfl, _⟩ := h; rfl) | (obtain ⟨_, _, _, _, _, rfl, _⟩ := h; rfl) | (obtain ⟨_, _, _, _, _, _, rfl, _⟩ := h; rfl) | (obtain ⟨_, _, _, _, _, _, _, rfl, _⟩ := h; rfl) | (obtain ⟨_, _, _, _, _, _, _, _, rfl, _⟩ := h; rfl) | (obtain ⟨_, _, _, _, _, _, _, _, _, rfl, _⟩ := h; rfl) | (obtain ⟨_, _, _, _, _, _, _, _, _, _, rfl, _⟩ := h; rfl) | (obtain ⟨_, _, _, _, _, _, _, _, _, _, _, rfl, _⟩ := h; rfl) | (obtain ⟨_, _, _, _, _, _, _, _, _, _, _, _, rfl, _⟩ := h; rfl) | (obtain ⟨_, _, _, _, _, _, _, _, _, _, _, _, _, rfl, _⟩ := h; rfl) | (obtain ⟨_, _, _, _, _, _, _, _, _, _, _, _, _, _, rfl, _⟩ := h; rfl) | (obtain ⟨_, _, _, _, _, _, _, _, _, _, _, _, _, _, _, rfl, _⟩ := h; rfl)
  · have hu64 := hr.units
    obtain ⟨b, c, m, n, rfl, hL, hm, hm6, hn, q⟩ := h
    refine ⟨_, (pss_cons (ps_set (i := 2) sc__law_keep.nd rfl (.inr rfl) (pe_lst (pa_cons pe_int (pa_cons pe_int (pa_cons (pe_cf C__law_pick (hr.mono (by decide)) (by rfl) (pa_cons (pv 0) (pa_cons pe_int pa_nil))) (pa_cons (pe_op op_mul pe_int (pe_cf C__law_pick (hr.mono (by decide)) (by rfl) (pa_cons (pv 0) (pa_cons pe_int pa_nil)))) pa_nil))))))
      (pss_cons (ps_if (pt_cmpR op_eq (pe_cf C__law_pick (hr.mono (by decide)) (by rfl) (pa_cons (pv 0) (pa_cons pe_int pa_nil))) pe_int (nomark _))
         (pss_one (ps_ret (pe_ix (kk_ixl K) (pv 2) (pe_cf C__law_pick (hr.mono (by decide)) (by rfl) (pa_cons (pv 0) (pa_cons pe_int pa_nil))) (fun _ _ => rfl))))
         pss_nil)
      (pss_cons (ps_if (pt_cmpR op_eq (pe_cf C__law_pick (hr.mono (by decide)) (by rfl) (pa_cons (pv 0) (pa_cons pe_int pa_nil))) pe_int (nomark _))
         (pss_one (ps_ret (pe_op (kk_repA K) (pe_tup (pa_cons (pe_ix (kk_ixl K) (pv 2) (pe_cf C__law_pick (hr.mono (by decide)) (by rfl) (pa_cons (pv 0) (pa_cons pe_int pa_nil))) (fun _ _ => rfl)) pa_nil)) (pv 1))))
         pss_nil)
      (pss_one (ps_ret (pe_callTy (kk_tuple K) (by rfl) m_tuple (by decide +kernel) (pa_cons (pe_lc (own := [("_law_turn", 3)]) (g := (gName 3)) (tt := tYes) rfl sc__law_keep.nd (pi_range1 (by rfl) m_range (pa_cons (pv 1) pa_nil)) (blkOk_by (own := [("_law_turn", 3)]) (N := N__law_keep) (sc := defScope s__law_keep) (by decide +kernel)) (fun _ _ _ _ _ => pg_name (i := 3) sc__law_keep.nd rfl (Or.inl rfl)) (fun _ _ _ _ _ => pts_nil) (fun _ _ _ _ _ => (pe_ix (kk_ixl K) (pe_lst (pa_cons pe_int (pa_cons pe_int (pa_cons (pe_cf C__law_pick (hr.mono (by decide)) (by rfl) (pa_cons (pv 0) (pa_cons pe_int pa_nil))) (pa_cons (pe_ix (kk_ixl K) (pv 2) pe_int (fun _ _ => rfl)) pa_nil))))) (pe_cf C__law_pick (hr.mono (by decide)) (by rfl) (pa_cons (pv 0) (pa_cons pe_int pa_nil))) (fun _ _ => rfl)))) pa_nil))))))), ?_⟩
    refine ⟨_, rfl, b, c, 101, n, rfl, hL, by decide, by decide, by omega, fun r1 H1 r10 r11 L1 t1 => ?_⟩
    refine ⟨_, rfl, b, c, 21, n + 1, rfl, L1, by decide, by decide, by omega, fun r2 H2 r20 r21 L2 t2 => ?_⟩
    refine ⟨_, _, rfl, rfl, .inl ⟨by decide, by decide⟩, (by show 4 ≤ sizeLine; decide), fun s hs => ?_⟩
    have L3 := L2.new (o := .lst [.int 0, .int 100, .int r1, .int (5 * r2)]) hs
    have t3 : But b H _ := (t1.trans t2).trans (But.new (o := .lst [.int 0, .int 100, .int r1, .int (5 * r2)]) hs)
    have nsb : s ≠ b := L2.ne hs
    have e3 := upd_same (H := H2) (a := s) (o := .lst [.int 0, .int 100, .int r1, .int (5 * r2)])
    have pk : ∀ {r : Int}, 0 ≤ r → r < 4 → ∃ v : Int, atI [V.int 0, .int 100, .int r1, .int (5 * r2)] r = some (.int v) ∧ 0 ≤ v ∧ v ≤ 100 := fun h0 h1 => pick4i h0 h1 (by omega) (by omega) (by omega) (by omega)
    refine ⟨_, rfl, b, c, 2, n + 1 + 1, rfl, L3, by decide, by decide, by omega, fun r3 H4 _ _ L4 t4 => ⟨rfl, _, rfl, ite2 (fun _ => ?_) (fun _ => ?_)⟩⟩
    · refine ⟨_, rfl, _, rfl, b, c, 4, n + 1 + 1 + 1, rfl, L4, by decide, by decide, by omega, fun r5 H5 r50 r51 L5 t5 => ?_⟩
      obtain ⟨v, hv, v0, v1⟩ := pk r50 r51
      exact ⟨s, _, _, _, rfl, rfl, SqL.of (t5 _ _ nsb (t4 _ _ nsb e3)), hv, q _ _ _ _ (L5.mono (by omega)) ((t3.trans t4).trans t5) (.one v v0 v1 rfl)⟩
    refine ⟨_, rfl, b, c, 4, n + 1 + 1 + 1, rfl, L4, by decide, by decide, by omega, fun r4 H5 _ _ L5 t5 => ⟨rfl, _, rfl, ite2 (fun _ => ?_) (fun _ => ?_)⟩⟩
    · refine ⟨_, rfl, _, rfl, b, c, 4, n + 1 + 1 + 1 + 1, rfl, L5, by decide, by decide, by omega, fun r5 H6 r50 r51 L6 t6 => ?_⟩
      obtain ⟨v, hv, v0, v1⟩ := pk r50 r51
      refine ⟨s, _, _, _, rfl, rfl, SqL.of (t6 _ _ nsb (t5 _ _ nsb (t4 _ _ nsb e3))), hv, (by show 1 ≤ sizeLine; decide), fun t ht => ⟨_, rfl, ?_⟩⟩
      have t7 : But b H (upd H6 t (.tup [.int v])) := (((t3.trans t4).trans t5).trans t6).trans (But.new ht)
      by_cases hp1 : m = 1
      · subst hp1
        refine .inr ⟨t, [.int v], rfl, rfl, SqT.of upd_same, by simp, ?_⟩
        exact q _ _ _ [v] ((L6.new ht).mono (by omega)) t7 (.all t (SqT.of upd_same) rfl fun k hk => by rw [List.mem_singleton.mp hk]; exact ⟨v0, v1⟩)
      · refine .inl ⟨t, m, [.int v], rfl, rfl, SqT.of upd_same, by simp, by omega, by omega, (by show 1 ≤ 1000; decide), fun t2 ht2 => ?_⟩
        refine q _ _ _ (List.replicate m.toNat v) (((L6.new ht).new ht2).mono (by omega)) (t7.trans (But.new ht2)) (.all t2 (SqT.of ?_) ?_ fun k hk => by rw [List.eq_of_mem_replicate hk]; exact ⟨v0, v1⟩)
        · rw [upd_same, rep1, List.map_replicate]
        · rw [List.length_replicate]
          omega
    · refine ⟨_, rfl, _, rfl, by omega, by omega, fun D hD => lc_range (lo := 0) (n := m.toNat) (fun i H' => But b H5 H' ∧ Left H' b c (n + 4 + 2 * i) ∧ ∃ ks : List Int, ks.length = i ∧ (∀ k ∈ ks, 0 ≤ k ∧ k ≤ 100) ∧ H' D = some (.lst (ks.map V.int))) ⟨But.new hD, (L5.mono (by omega)).new hD, [], rfl, fun _ h => (nomatch h), upd_same⟩ (fun i H' hi h => ?_) (fun H' h => ?_)⟩
      · obtain ⟨t6, L6, ks, hks, hkb, hDl⟩ := h
        have hDb : D ≠ b := L5.ne hD
        have hDc : D ≠ c := L5.ne2 hD
        refine ⟨rfl, _, rfl, b, c, 101, _, rfl, L6, by decide, by decide, by omega, fun r5 H7 r50 r51 L7 t7 => ?_⟩
        refine ⟨_, rfl, s, _, _, _, rfl, rfl, SqL.of (t7 _ _ nsb (t6 _ _ nsb (t5 _ _ nsb (t4 _ _ nsb e3)))), rfl, (by show 4 ≤ sizeLine; decide), fun l hl => ?_⟩
        refine ⟨_, rfl, b, c, 4, _, rfl, L7.new hl, by decide, by decide, by omega, fun r6 H8 r60 r61 L8 t8 => ?_⟩
        obtain ⟨v, hv, v0, v1⟩ := pick4i (lo := 0) (hi := 100) (x := 0) (y := 100) (z := r5) (u := 5 * r2) r60 r61 (by omega) (by omega) (by omega) (by omega)
        have hlb : l ≠ b := L7.ne hl
        have hD8 : H8 D = some (.lst (ks.map V.int)) := t8 _ _ hDb ((But.new (b := b) hl) _ _ hDb (t7 _ _ hDb hDl))
        refine ⟨l, _, _, _, rfl, rfl, SqL.of (t8 _ _ hlb upd_same), hv, _, hD8, ?_, ?_, ?_, ks ++ [v], ?_, ?_, ?_⟩
        · rw [List.length_map, hks]
          exact small1000 (by omega)
        · exact fun e o ne he => by
            rw [upd_ne (ne_of_none (show H5 e = some o from he) hD)]
            exact t8 _ _ ne ((But.new (b := b) hl) _ _ ne (t7 _ _ ne (t6 _ _ ne he)))
        · exact (L8.mono (by omega)).upd hDb hDc
        · rw [List.length_append, hks]
          rfl
        · intro k hk
          rcases List.mem_append.mp hk with z | z
          · exact hkb k z
          · rw [List.mem_singleton.mp z]
            exact ⟨v0, v1⟩
        · rw [upd_same, List.map_append]
          rfl
      · obtain ⟨t6, L6, ks, hks, hkb, hDl⟩ := h
        refine ⟨D, _, rfl, .inl ⟨SqL.of hDl, fun t ht => ?_⟩⟩
        exact q _ _ _ ks ((L6.new ht).mono (by omega)) ((((t3.trans t4).trans t5).trans t6).trans (But.new ht)) (.all t (SqT.of upd_same) (by omega) hkb)
def Drawn (K : PySem.W.Frag) (H : Hp) (t : Addr) (f : Fg) (kv : V) (kd : PyData) : Prop := SqT K H t [.int f.p, .int f.s, .int f.g, .bl f.l, .int f.m, kv, .int f.fi, .int f.fa, .int f.ba] ∧ Figs f.p f.s f.g f.m f.fi f.fa f.ba ∧ Keep K H f.p f.ks kv kd
theorem Keep.same {K : PySem.W.Frag} {H H' : Hp} {p : Int} {ks : List Int} {v : V} {d : PyData} (h : Keep K H p ks v d) (e : Same H H') : Keep K H' p ks v d := by
  cases h with
  | one k h0 h1 e => exact .one k h0 h1 e
  | all a h hl hb => exact .all a (seqT_same e h) hl hb
theorem Keep.but {K : PySem.W.Frag} {H H' : Hp} {b c : Addr} {n p : Int} {ks : List Int} {v : V} {d : PyData} (h : Keep K H p ks v d) (e : But b H H') (l : Left H b c n) : Keep K H' p ks v d := by
  cases h with
  | one k h0 h1 e => exact .one k h0 h1 e
  | all a h hl hb => exact .all a (e.seqT l h) hl hb
theorem Drawn.same {K : PySem.W.Frag} {H H' : Hp} {t : Addr} {f : Fg} {kv : V} {kd : PyData} (h : Drawn K H t f kv kd) (e : Same H H') : Drawn K H' t f kv kd := ⟨seqT_same e h.1, h.2.1, h.2.2.same e⟩
theorem Drawn.but {K : PySem.W.Frag} {H H' : Hp} {b c t : Addr} {n : Int} {f : Fg} {kv : V} {kd : PyData} (h : Drawn K H t f kv kd) (e : But b H H') (l : Left H b c n) : Drawn K H' t f kv kd := ⟨e.seqT l h.1, h.2.1, h.2.2.but e l⟩
theorem Drawn.ok {K : PySem.W.Frag} {H : Hp} {t : Addr} {f : Fg} {kv : V} {kd : PyData} (h : Drawn K H t f kv kd) : f.Ok := by
  obtain ⟨_, F, k⟩ := h
  refine ⟨F, ?_, ?_⟩
  · cases k with
    | one k h0 h1 e =>
      have := F.p0
      rw [e, List.length_replicate]
      omega
    | all a h hl hb => exact hl
  · cases k with
    | one k h0 h1 e =>
      intro x hx
      rw [e] at hx
      rw [List.eq_of_mem_replicate hx]
      exact ⟨h0, h1⟩
    | all a h hl hb => exact hb
def mostN : Nat → Int
  | 0 => 100
  | _ => 30
theorem most_at {i : Nat} {x : V} (h : [V.int 100, .int 30, .int 30][i]? = some x) : i < 3 ∧ x = .int (mostN i) ∧ 30 ≤ mostN i ∧ mostN i ≤ 100 := by
  match i, h with
  | 0, h => cases h; exact ⟨by decide, rfl, by decide, by decide⟩
  | 1, h => cases h; exact ⟨by decide, rfl, by decide, by decide⟩
  | 2, h => cases h; exact ⟨by decide, rfl, by decide, by decide⟩
  | n + 3, h => cases h
/-! ### _law_some_rule -/
abbrev s__law_some_rule : Stmt := topS 45
abbrev N__law_some_rule : List Str := ["_law_left", "_law_many", "_law_far", "_law_found", "_law_most"]
theorem sc__law_some_rule : FnScope N__law_some_rule ["_law_left"] (defScope s__law_some_rule) := ⟨rfl, rfl, rfl, by decide +kernel, rfl, by decide +kernel, by decide +kernel⟩
def sp__law_some_rule (K : PySem.W.Frag) : Sp := fun vs H Q _ => ∃ (b c : Addr) (n : Int), vs = [.ref b] ∧ Left H b c n ∧ n < 999990000 ∧ ∀ H' t f kv kd, Left H' b c (n + 40) → But b H H' → Drawn K H' t f kv kd → Q (.ref t) H'
theorem ok__law_some_rule {f : Addr} {fd : FuncData} (F : Fun K "_law_some_rule" "_law_some_rule" s__law_some_rule f fd) (g : mg "_law_some_rule" = some (.ref f)) (bd : Binds K fd ["_law_left"] []) (m_tuple : mg "tuple" = none) (C__law_pick : CF P w K mg base 2 "_law_pick" ["_law_left", "_law_many"] (sp__law_pick K)) (C__law_keep : CF P w K mg base 3 "_law_keep" ["_law_left", "_law_many"] (sp__law_keep K)) : CF P w K mg base 4 "_law_some_rule" ["_law_left"] (sp__law_some_rule K) := by
  refine ⟨f, fd, F.ok sc__law_some_rule (fun vs H Q E h => ?_) (fun cdv A outer s H vs Q E hr h => ?_), g, F.kp, bd⟩
  · first | (obtain ⟨_, rfl, _⟩ := h; rfl) | (obtain ⟨_, _, rfl, _⟩ := h; rfl) | (obtain ⟨_, _, _, rfl, _⟩ := h; rfl) | (obtain ⟨_, _, _, _, rfl, _⟩ := h; rfl) | (obtain ⟨_, _, _, _, _, rfl, _⟩ := h; rfl) | (obtain ⟨_, _, _, _, _, _, rfl, _⟩ := h; rfl) | (obtain ⟨_, _, _, _, _, _, _, rfl, _⟩ := h; rfl) | (obtain ⟨_, _, _, _, _, _, _, _, rfl, _⟩ := h; rfl) | (obtain ⟨_, _, _, _, _, _, _, _, _, rfl, _⟩ := h; rfl) | (obtain ⟨_, _, _, _, _, _, _, _, _, _, rfl, _⟩ := h; rfl) | (obtain ⟨_, _, _, _, _, _, _, _, _, _, _, rfl, _⟩ := h; rfl) | (obtain ⟨_, _, _, _, _, _, _, _, _, _, _, _, rfl, _⟩ := h; rfl) | (obtain ⟨_, _, _, _, _, _, _, _, _, _, _, _, _, rfl, _⟩ := h; rfl) | (obtain ⟨_, _, _, _, _, _, _, _, _, _, _, _, _, _, rfl, _⟩ := h; rfl) | (obtain ⟨_, _, _, _, _, _, _, _, _, _, _, _, _, _, _, rfl, _⟩ := h; rfl)
  · have hu64 := hr.units
    obtain ⟨b, c, n, rfl, hL, hn, q⟩ := h
    refine ⟨_, (pss_cons (ps_par (i := 1) (j := 2) (by rfl) sc__law_some_rule.nd rfl rfl (by decide) rfl rfl (pa_cons (pe_ix (kk_ixl K) (pe_lst (pa_cons pe_int (pa_cons pe_int (pa_cons (pe_op op_add pe_int (pe_cf C__law_pick (hr.mono (by decide)) (by rfl) (pa_cons (pv 0) (pa_cons pe_int pa_nil)))) pa_nil)))) (pe_cf C__law_pick (hr.mono (by decide)) (by rfl) (pa_cons (pv 0) (pa_cons pe_int pa_nil))) (fun _ _ => rfl)) (pa_cons (pe_ix (kk_ixl K) (pe_lst (pa_cons pe_int (pa_cons pe_int (pa_cons (pe_op op_add pe_int (pe_cf C__law_pick (hr.mono (by decide)) (by rfl) (pa_cons (pv 0) (pa_cons pe_int pa_nil)))) pa_nil)))) (pe_cf C__law_pick (hr.mono (by decide)) (by rfl) (pa_cons (pv 0) (pa_cons pe_int pa_nil))) (fun _ _ => rfl)) pa_nil)) (by rfl))
      (pss_cons (ps_set (i := 3) sc__law_some_rule.nd rfl (.inl rfl) (pe_lst (pa_cons (pv 1) (pa_cons (pv 2) (pa_cons (pe_ix (kk_ixl K) (pe_lst (pa_cons pe_int (pa_cons pe_int (pa_cons (pe_cf C__law_pick (hr.mono (by decide)) (by rfl) (pa_cons (pv 0) (pa_cons pe_int pa_nil))) pa_nil)))) (pe_cf C__law_pick (hr.mono (by decide)) (by rfl) (pa_cons (pv 0) (pa_cons pe_int pa_nil))) (fun _ _ => rfl)) (pa_cons (pe_cmpR op_eq (pe_cf C__law_pick (hr.mono (by decide)) (by rfl) (pa_cons (pv 0) (pa_cons pe_int pa_nil))) pe_int (nomark _)) (pa_cons (pe_cf C__law_pick (hr.mono (by decide)) (by rfl) (pa_cons (pv 0) (pa_cons pe_int pa_nil))) pa_nil)))))))
      (pss_cons (ps_set (i := 3) sc__law_some_rule.nd rfl (.inl rfl) (pe_op op_cat (pv 3) (pe_lst (pa_cons (pe_cf C__law_keep (hr.mono (by decide)) (by rfl) (pa_cons (pv 0) (pa_cons (pv 1) pa_nil))) pa_nil))))
      (pss_cons (ps_for PassesOwn.never rfl (pi_tup (pe_tup (pa_cons pe_int (pa_cons pe_int (pa_cons pe_int pa_nil))))) (pg_name (i := 4) sc__law_some_rule.nd rfl (.inl rfl))
         (pss_one (ps_expr (pe_bm PySem.F.plainAttrs_list PySem.F.slot_list_append PySem.F.type_list_append mt_append (pv 3) (pa_cons (pe_ix (kk_ixl K) (pe_lst (pa_cons pe_int (pa_cons pe_int (pa_cons (pv 4) (pa_cons (pe_cf C__law_pick (hr.mono (by decide)) (by rfl) (pa_cons (pv 0) (pa_cons (pe_op op_add (pv 4) pe_int) pa_nil))) pa_nil))))) (pe_cf C__law_pick (hr.mono (by decide)) (by rfl) (pa_cons (pv 0) (pa_cons pe_int pa_nil))) (fun _ _ => rfl)) pa_nil)))))
      (pss_one (ps_ret (pe_callTy (kk_tuple K) (by rfl) m_tuple (by decide +kernel) (pa_cons (pv 3) pa_nil)))))))), ?_⟩
    refine ⟨_, rfl, b, c, 6, n, rfl, hL, by decide, by decide, by omega, fun r1 H1 r10 r11 L1 t1 => ⟨_, _, rfl, rfl, (by show 3 ≤ sizeLine; decide), fun l1 n1 => ?_⟩⟩
    refine ⟨_, rfl, b, c, 3, _, rfl, L1.new n1, by decide, by decide, by omega, fun r2 H2 r20 r21 L2 t2 => ?_⟩
    obtain ⟨p, hp, p0, p1⟩ := pick3i (lo := 1) (hi := 6) (x := 1) (y := 6) (z := 1 + r1) r20 r21 (by omega) (by omega) (by omega)
    refine ⟨l1, _, _, _, rfl, rfl, SqL.of (t2 _ _ (L1.ne n1) upd_same), hp, ?_⟩
    have t2' := (t1.trans (But.new n1)).trans t2
    refine ⟨_, rfl, b, c, 14, _, rfl, L2, by decide, by decide, by omega, fun r3 H3 r30 r31 L3 t3 => ⟨_, _, rfl, rfl, (by show 3 ≤ sizeLine; decide), fun l2 n2 => ?_⟩⟩
    refine ⟨_, rfl, b, c, 3, _, rfl, L3.new n2, by decide, by decide, by omega, fun r4 H4 r40 r41 L4 t4 => ?_⟩
    obtain ⟨s', hs, s0, s1⟩ := pick3i (lo := 1) (hi := 14) (x := 1) (y := 14) (z := 1 + r3) r40 r41 (by omega) (by omega) (by omega)
    refine ⟨l2, _, _, _, rfl, rfl, SqL.of (t4 _ _ (L3.ne n2) upd_same), hs, _, _, rfl, ?_⟩
    have t4' := ((t2'.trans t3).trans (But.new n2)).trans t4
    refine ⟨_, rfl, _, rfl, _, rfl, b, c, 8, _, rfl, L4, by decide, by decide, by omega, fun r5 H5 r50 r51 L5 t5 => ⟨(by show 3 ≤ sizeLine; decide), fun l3 n3 => ?_⟩⟩
    refine ⟨_, rfl, b, c, 3, _, rfl, L5.new n3, by decide, by decide, by omega, fun r6 H6 r60 r61 L6 t6 => ?_⟩
    obtain ⟨g', hg, g0, g1⟩ := pick3i (lo := 0) (hi := 7) (x := 0) (y := 7) (z := r5) r60 r61 (by omega) (by omega) (by omega)
    refine ⟨l3, _, _, _, rfl, rfl, SqL.of (t6 _ _ (L5.ne n3) upd_same), hg, ?_⟩
    have t6' := ((t4'.trans t5).trans (But.new n3)).trans t6
    refine ⟨_, rfl, b, c, 2, _, rfl, L6, by decide, by decide, by omega, fun r7 H7 r70 r71 L7 t7 => ⟨rfl, ?_⟩⟩
    refine ⟨_, rfl, b, c, 3, _, rfl, L7, by decide, by decide, by omega, fun r8 H8 r80 r81 L8 t8 => ⟨(by show 5 ≤ sizeLine; decide), fun l4 n4 => ?_⟩⟩
    have n4b := L8.ne n4
    have L8' := L8.new (o := .lst [.int p, .int s', .int g', .bl (decide (V.int r7 = V.int 0)), .int r8]) n4
    have t8' := ((t6'.trans t7).trans t8).trans (But.new (o := .lst [.int p, .int s', .int g', .bl (decide (V.int r7 = V.int 0)), .int r8]) n4)
    refine ⟨_, rfl, _, rfl, _, rfl, b, c, p, _, rfl, L8', p0, p1, by omega, fun H9 kv kd ks L9 t9 hk => ⟨(by show 1 ≤ sizeLine; decide), fun l5 n5 => ?_⟩⟩
    refine ⟨l4, l5, _, _, rfl, rfl, (But.new (b := b) n5) _ _ n4b (t9 _ _ n4b upd_same), upd_same, (by show 5 + 1 ≤ sizeLine; decide), fun l6 n6 => ?_⟩
    have L5' := L9.new (o := .lst [kv]) n5
    have L6' := L5'.new (o := .lst [.int p, .int s', .int g', .bl (decide (V.int r7 = V.int 0)), .int r8, kv]) n6
    have n69 : H9 l6 = none := none_of (same_new n5) n6
    have n6b := L9.ne n69
    have n6c := L9.ne2 n69
    have e6 := upd_same (H := upd H9 l5 (.lst [kv])) (a := l6) (o := .lst [.int p, .int s', .int g', .bl (decide (V.int r7 = V.int 0)), .int r8, kv])
    refine ⟨(by show 3 ≤ sizeLine; decide), fun tt ntt => ?_⟩
    have ntb := L6'.ne ntt
    have n6t : l6 ≠ tt := ne_of_none e6 ntt
    refine ⟨tt, rfl, ⟨_, SqT.of upd_same⟩, for_tup (K := K) (a := tt) (xs := [.int 100, .int 30, .int 30]) (fun i σ H' => ∃ s4, σ = [some (.ref b), some (.int p), some (.int s'), some (.ref l6), s4] ∧ H' tt = some (.tup [.int 100, .int 30, .int 30]) ∧ But b H9 H' ∧ Left H' b c (n + 28 + 2 * i) ∧ ∃ es : List Int, es.length = i ∧ (∀ (j : Nat) (e : Int), es[j]? = some e → 0 ≤ e ∧ e ≤ mostN j) ∧ H' l6 = some (.lst ([.int p, .int s', .int g', .bl (decide (V.int r7 = V.int 0)), .int r8, kv] ++ es.map V.int)))
      ⟨_, rfl, upd_same, ((But.new n5).trans (But.new n6)).trans (But.new ntt), (L6'.mono (by omega)).new ntt, [], rfl, fun j e h => (nomatch h), by rw [upd_ne n6t]; exact e6⟩ (fun i σ H' _ h => by obtain ⟨_, _, h, _⟩ := h; exact SqT.of h) (fun i x σ H' hx h => ?_) (fun σ H' h => ?_)⟩
    · obtain ⟨s4, rfl, htt, tB, LB, es, hes, hev, hl6⟩ := h
      obtain ⟨hi3, rfl, m30, m100⟩ := most_at hx
      refine ⟨_, rfl, .inl ⟨rfl, _, SqL.of hl6⟩, _, rfl, _, rfl, _, rfl, _, _, rfl, rfl, b, c, mostN i + 1, _, rfl, LB, by omega, by omega, by omega, fun r9 HA r90 r91 LA tA => ⟨(by show 4 ≤ sizeLine; decide), fun l7 n7 => ?_⟩⟩
      refine ⟨_, rfl, b, c, 4, _, rfl, LA.new n7, by decide, by decide, by omega, fun ra HC ra0 ra1 LC tC => ?_⟩
      obtain ⟨v, hv, v0, v1⟩ := pick4i (lo := 0) (hi := mostN i) (x := 0) (y := 0) (z := mostN i) (u := r9) ra0 ra1 (by omega) (by omega) (by omega) (by omega)
      have tD : But b H' HC := (tA.trans (But.new n7)).trans tC
      refine ⟨l7, _, _, _, rfl, rfl, SqL.of (tC _ _ (LA.ne n7) upd_same), hv, l6, _, _, rfl, rfl, tD _ _ n6b hl6, ?_, _, rfl, ?_, ?_, ?_, es ++ [v], ?_, ?_, ?_⟩
      · rw [List.length_append, List.length_map, hes]
        exact small1000 (by show 6 + i ≤ 1000; omega)
      · rw [upd_ne n6t.symm]
        exact tD _ _ ntb htt
      · exact fun e o ne he => by
          rw [upd_ne (ne_of_none he n69)]
          exact tD _ _ ne (tB _ _ ne he)
      · exact (LC.mono (by omega)).upd n6b n6c
      · rw [List.length_append, hes]
        rfl
      · intro j e he
        rcases Nat.lt_or_ge j es.length with z | z
        · rw [List.getElem?_append_left z] at he
          exact hev j e he
        · rw [List.getElem?_append_right z] at he
          obtain ⟨h1, h2⟩ := List.getElem?_eq_some_iff.mp he
          have h3 : j - es.length = 0 := by
            have h4 : ([v] : List Int).length = 1 := rfl
            omega
          have h5 : j = i := by omega
          subst h5
          simp only [h3, List.getElem_cons_zero] at h2
          rw [← h2]
          exact ⟨v0, v1⟩
      · rw [upd_same, List.map_append, List.append_assoc]
        rfl
    · obtain ⟨s4, rfl, htt, tB, LB, es, hes, hev, hl6⟩ := h
      match es, hes with
      | [fi, fa, ba], _ =>
        have f1 := hev 0 fi rfl
        have f2 := hev 1 fa rfl
        have f3 := hev 2 ba rfl
        refine ⟨_, rfl, l6, _, rfl, .inl ⟨SqL.of hl6, fun t ht => ?_⟩⟩
        refine q _ t ⟨p, s', g', decide (V.int r7 = V.int 0), r8, ks, fi, fa, ba⟩ kv kd ((LB.mono (by show n + 28 + 2 * (3 : Int) ≤ n + 40; omega)).new ht) (((t8'.trans t9).trans tB).trans (But.new ht)) ⟨SqT.of upd_same, ⟨p0, p1, s0, s1, g0, g1, r80, by show r8 ≤ 2; omega, f1.1, f1.2, f2.1, f2.2, f3.1, f3.2⟩, (hk.but tB L9).same (same_new ht)⟩
/-! ### _law_whole -/
abbrev s__law_whole : Stmt := topS 46
abbrev N__law_whole : List Str := ["_law_some", "_law_kept"]
theorem sc__law_whole : FnScope N__law_whole ["_law_some"] (defScope s__law_whole) := ⟨rfl, rfl, rfl, by decide +kernel, rfl, by decide +kernel, by decide +kernel⟩
def sp__law_whole (K : PySem.W.Frag) : Sp := fun vs H Q _ => ∃ (t : Addr) (f : Fg) (kv : V) (kd : PyData), vs = [.ref t] ∧ Drawn K H t f kv kd ∧ ∀ H' w a, Same H H' → Drawn K H' w f (.ref a) (.tuple (f.ks.map PyData.int)) → SqT K H' a (f.ks.map V.int) → Q (.ref w) H'
theorem ok__law_whole {f : Addr} {fd : FuncData} (F : Fun K "_law_whole" "_law_whole" s__law_whole f fd) (g : mg "_law_whole" = some (.ref f)) (bd : Binds K fd ["_law_some"] []) (m_isinstance : mg "isinstance" = none) (m_tuple : mg "tuple" = none) : CF P w K mg base 1 "_law_whole" ["_law_some"] (sp__law_whole K) := by
  refine ⟨f, fd, F.ok sc__law_whole (fun vs H Q E h => ?_) (fun cdv A outer s H vs Q E hr h => ?_), g, F.kp, bd⟩
  · first | (obtain ⟨_, rfl, _⟩ := h; rfl) | (obtain ⟨_, _, rfl, _⟩ := h; rfl) | (obtain ⟨_, _, _, rfl, _⟩ := h; rfl) | (obtain ⟨_, _, _, _, rfl, _⟩ := h; rfl) | (obtain ⟨_, _, _, _, _, rfl, _⟩ := h; rfl) | (obtain ⟨_, _, _, _, _, _, rfl, _⟩ := h; rfl) | (obtain ⟨_, _, _, _, _, _, _, rfl, _⟩ := h; rfl) | (obtain ⟨_, _, _, _, _, _, _, _, rfl, _⟩ := h; rfl) | (obtain ⟨_, _, _, _, _, _, _, _, _, rfl, _⟩ := h; rfl) | (obtain ⟨_, _, _, _, _, _, _, _, _, _, rfl, _⟩ := h; rfl) | (obtain ⟨_, _, _, _, _, _, _, _, _, _, _, rfl, _⟩ := h; rfl) | (obtain ⟨_, _, _, _, _, _, _, _, _, _, _, _, rfl, _⟩ := h; rfl) | (obtain ⟨_, _, _, _, _, _, _, _, _, _, _, _, _, rfl, _⟩ := h; rfl) | (obtain ⟨_, _, _, _, _, _, _, _, _, _, _, _, _, _, rfl, _⟩ := h; rfl) | (obtain ⟨_, _, _, _, _, _, _, _, _, _, _, _, _, _, _, rfl, _⟩ := h; rfl)
  · have hu64 := hr.units
    obtain ⟨t, f', kv, kd, rfl, hD, q⟩ := h
    refine ⟨_, (pss_cons (ps_set (i := 1) sc__law_whole.nd rfl (.inl rfl) (pe_ifExp (pt_val (pe_callB (kk_isi K) (by rfl) m_isinstance (by decide +kernel) (pa_cons (pe_ix (kk_ixt K) (pv 0) pe_int (fun _ _ => rfl)) (pa_cons (pe_bltn (v := .ty "tuple") (by rfl) m_tuple (by decide +kernel) rfl) pa_nil)))) (pe_ix (kk_ixt K) (pv 0) pe_int (fun _ _ => rfl)) (pe_op (kk_repA K) (pe_tup (pa_cons (pe_ix (kk_ixt K) (pv 0) pe_int (fun _ _ => rfl)) pa_nil)) (pe_ix (kk_ixt K) (pv 0) pe_int (fun _ _ => rfl)))))
      (pss_one (ps_ret (pe_op (kk_catT K) (pe_op (kk_catT K) (pe_slice (kk_slt K) (pv 0) po_none (po_some pe_int)) (pe_tup (pa_cons (pv 1) pa_nil))) (pe_slice (kk_slt K) (pv 0) (po_some pe_int) po_none))))), ?_⟩
    obtain ⟨hT, hF, hk⟩ := id hD
    have ok := hD.ok
    have l5 : cutV [V.int f'.p, .int f'.s, .int f'.g, .bl f'.l, .int f'.m, kv, .int f'.fi, .int f'.fa, .int f'.ba] none (some 5) = [V.int f'.p, .int f'.s, .int f'.g, .bl f'.l, .int f'.m] := rfl
    have l6 : cutV [V.int f'.p, .int f'.s, .int f'.g, .bl f'.l, .int f'.m, kv, .int f'.fi, .int f'.fa, .int f'.ba] (some 6) none = [.int f'.fi, .int f'.fa, .int f'.ba] := rfl
    have fin : ∀ H1 a, Same H H1 → SqT K H1 a (f'.ks.map V.int) → tRet (tOp (rCatT K) (tOp (rCatT K) (tSl (rSlT K) (tVar 0) tNoPart (tPart (tC (V.int 5)))) (tTup (tCons (tVar 1) tNil))) (tSl (rSlT K) (tVar 0) (tPart (tC (V.int 6))) tNoPart)) { nx := fun x H' => Q V.non H', rt := Q } [some (.ref t), some (.ref a)] H1 := fun H1 a s1 ha => by
      refine ⟨_, rfl, _, rfl, t, _, rfl, seqT_same s1 hT, (by show ¬ (HT.sIx 9 0 none = 0 ∧ HT.sIx 9 9 (some 5) = 9); decide), fun c1 n1 => ?_⟩
      refine ⟨_, rfl, (by show 1 ≤ sizeLine; decide), fun c2 n2 => ?_⟩
      refine ⟨c1, c2, _, _, rfl, rfl, SqT.of ((same_new n2) _ _ upd_same), SqT.of upd_same, (by rw [l5]; simp), (by show 5 + 1 ≤ sizeLine; decide), fun e => (nomatch e), fun _ c3 n3 => ?_⟩
      have s3 := fun o => ((s1.trans (same_new n1)).trans (same_new n2)).trans (same_new (o := o) n3)
      have u3 := fun o => ((same_new n1).trans (same_new n2)).trans (same_new (o := o) n3)
      refine ⟨_, rfl, _, rfl, t, _, rfl, seqT_same (s3 _) hT, (by show ¬ (HT.sIx 9 0 (some 6) = 0 ∧ HT.sIx 9 9 none = 9); decide), fun c4 n4 => ?_⟩
      refine ⟨c3, c4, _, _, rfl, rfl, SqT.of ((same_new n4) _ _ upd_same), SqT.of upd_same, (by rw [l5]; simp), (by show 6 + 3 ≤ sizeLine; decide), fun e => absurd (l6.symm.trans e) (by simp), fun _ w nw => ?_⟩
      have s5 := fun o => ((s3 _).trans (same_new n4)).trans (same_new (o := o) nw)
      have ha5 := fun o => seqT_same (((u3 _).trans (same_new n4)).trans (same_new (o := o) nw)) ha
      exact q _ w a (s5 _) ⟨SqT.of upd_same, hF, .all a (ha5 _) ok.len ok.bnd⟩ (ha5 _)
    refine ⟨_, rfl, t, _, _, _, rfl, rfl, hT, rfl, _, _, _, _, _, rfl, .ty _, ty_of_dp hk.dp, kit_d (T := "tuple") (by decide) _, _, rfl, ?_⟩
    cases hk with
    | all a h hl hb => exact iteT ⟨_, rfl, t, _, _, _, rfl, rfl, hT, rfl, fin H a (Same.refl H) h⟩
    | one k h0 h1 ek =>
      refine iteF ⟨_, rfl, t, _, _, _, rfl, rfl, hT, rfl, (by show 1 ≤ sizeLine; decide), fun u nu => ⟨_, rfl, t, _, _, _, rfl, rfl, seqT_same (same_new nu) hT, rfl, ?_⟩⟩
      by_cases hp1 : f'.p = 1
      · refine .inr ⟨u, [.int k], rfl, by rw [hp1], SqT.of upd_same, by simp, ?_⟩
        refine fin _ u (same_new nu) ?_
        rw [ek, hp1]
        exact SqT.of upd_same
      · have := hF.p0
        have := hF.p1
        refine .inl ⟨u, f'.p, [.int k], rfl, rfl, SqT.of upd_same, by simp, by omega, by omega, (by show 1 ≤ 1000; decide), fun t2 ht2 => ?_⟩
        refine fin _ t2 ((same_new nu).trans (same_new ht2)) (SqT.of ?_)
        rw [upd_same, rep1, ek, List.map_replicate]
/-! ### counted -/
abbrev s_counted : Stmt := topS 8
abbrev N_counted : List Str := ["word", "number"]
theorem sc_counted : FnScope N_counted ["word", "number"] (defScope s_counted) := ⟨rfl, rfl, rfl, by decide +kernel, rfl, by decide +kernel, by decide +kernel⟩
def cntT (w : Str) (n : Int) : Str := if n = 0 then "" else w ++ " " ++ Str.ofString (toString n)
def sp_counted (K : PySem.W.Frag) : Sp := fun vs H Q _ => ∃ (w : Str) (n : Int), vs = [.str w, .int n] ∧ w.length ≤ 100 ∧ 0 ≤ n ∧ n ≤ 1000 ∧ Q (.str (cntT w n)) H
theorem ok_counted {f : Addr} {fd : FuncData} (F : Fun K "counted" "counted" s_counted f fd) (g : mg "counted" = some (.ref f)) (bd : Binds K fd ["word", "number"] []) : CF P w K mg base 1 "counted" ["word", "number"] (sp_counted K) := by
  refine ⟨f, fd, F.ok sc_counted (fun vs H Q E h => ?_) (fun cdv A outer s H vs Q E hr h => ?_), g, F.kp, bd⟩
  · first | (obtain ⟨_, rfl, _⟩ := h; rfl) | (obtain ⟨_, _, rfl, _⟩ := h; rfl) | (obtain ⟨_, _, _, rfl, _⟩ := h; rfl) | (obtain ⟨_, _, _, _, rfl, _⟩ := h; rfl) | (obtain ⟨_, _, _, _, _, rfl, _⟩ := h; rfl) | (obtain ⟨_, _, _, _, _, _, rfl, _⟩ := h; rfl) | (obtain ⟨_, _, _, _, _, _, _, rfl, _⟩ := h; rfl) | (obtain ⟨_, _, _, _, _, _, _, _, rfl, _⟩ := h; rfl) | (obtain ⟨_, _, _, _, _, _, _, _, _, rfl, _⟩ := h; rfl) | (obtain ⟨_, _, _, _, _, _, _, _, _, _, rfl, _⟩ := h; rfl) | (obtain ⟨_, _, _, _, _, _, _, _, _, _, _, rfl, _⟩ := h; rfl) | (obtain ⟨_, _, _, _, _, _, _, _, _, _, _, _, rfl, _⟩ := h; rfl) | (obtain ⟨_, _, _, _, _, _, _, _, _, _, _, _, _, rfl, _⟩ := h; rfl) | (obtain ⟨_, _, _, _, _, _, _, _, _, _, _, _, _, _, rfl, _⟩ := h; rfl) | (obtain ⟨_, _, _, _, _, _, _, _, _, _, _, _, _, _, _, rfl, _⟩ := h; rfl)
  · have hu64 := hr.units
    obtain ⟨w, n, rfl, hw, n0, n1, q⟩ := h
    refine ⟨_, (pss_cons (ps_if (pt_cmpR op_eq (pv 1) pe_int (nomark _))
         (pss_one (ps_ret pe_str))
         pss_nil)
      (pss_one (ps_ret (pe_joined (PJ.cons (pe_fmt (pv 0)) (PJ.cons pe_str (PJ.cons (pe_fmt (pv 1)) PJ.nil))))))), ?_⟩
    have e0 : ∀ s : Str, Str.empty ++ s = s := fun s => by
      show Str.mk (#[] ++ s.cps) = s
      rw [Array.empty_append]
    have lt : (Str.ofString (toString n)).length ≤ 4 := PyProof.Rows.toString_length_le (v := n) n0 (k := 4) (by decide) (by show n < 10000; omega)
    have l1 : (Str.ofString " ").length = 1 := rfl
    refine ⟨_, rfl, rfl, _, rfl, ite2 (fun z => ?_) (fun z => ?_)⟩
    · have e : n = 0 := V.int.inj (of_decide_eq_true z)
      rw [cntT, if_pos e] at q
      exact q
    · have e : n ≠ 0 := fun e => z (decide_eq_true (by rw [e]))
      rw [cntT, if_neg e] at q
      have lg : n.natAbs.log2 < 1920 := by
        by_cases z : n.natAbs = 0
        · rw [z]
          decide
        · have : n.natAbs.log2 < 30 := (Nat.log2_lt z).mpr (by show n.natAbs < 1073741824; omega)
          omega
      refine ⟨_, rfl, .inl ⟨w, rfl, by rw [sizeLine_eq]; omega, w, rfl, by rw [e0, sizeLine_eq]; omega, _, rfl, by rw [e0, len_app, l1, sizeLine_eq]; omega, _, rfl, .inr ⟨n, rfl, lg, _, rfl, by rw [e0, len_app, len_app, l1, sizeLine_eq]; omega, ?_⟩⟩⟩
      rw [e0]
      exact q
/-! ### kept_clause -/
abbrev s_kept_clause : Stmt := topS 9
abbrev N_kept_clause : List Str := ["keep", "numbers", "number"]
theorem sc_kept_clause : FnScope N_kept_clause ["keep"] (defScope s_kept_clause) := ⟨rfl, rfl, rfl, by decide +kernel, rfl, by decide +kernel, by decide +kernel⟩
theorem small_log {n : Int} (h : 0 ≤ n ∧ n ≤ 100) : n.natAbs.log2 < 1920 := by
  by_cases z : n.natAbs = 0
  · rw [z]
    decide
  · have : n.natAbs.log2 < 30 := (Nat.log2_lt z).mpr (by show n.natAbs < 1073741824; omega)
    omega
def keptT (ks : List Int) : Str := if ks.all (fun k => decide (k = ks.headD 0)) = true then cntT "keep" (ks.headD 0) else Str.ofString "keep " ++ Txt.join " " (ks.map fun k => Str.ofString (toString k))
def sp_kept_clause (K : PySem.W.Frag) : Sp := fun vs H Q _ => ∃ (t : Addr) (ks : List Int), vs = [.ref t] ∧ SqT K H t (ks.map V.int) ∧ ks ≠ [] ∧ ks.length ≤ 6 ∧ (∀ k ∈ ks, 0 ≤ k ∧ k ≤ 100) ∧ ∀ H', Same H H' → Q (.str (keptT ks)) H'
theorem ok_kept_clause {f : Addr} {fd : FuncData} (F : Fun K "kept_clause" "kept_clause" s_kept_clause f fd) (g : mg "kept_clause" = some (.ref f)) (bd : Binds K fd ["keep"] []) (m_len : mg "len" = none) (m_set : mg "set" = none) (m_str : mg "str" = none) (C_counted : CF P w K mg base 1 "counted" ["word", "number"] (sp_counted K)) : CF P w K mg base 2 "kept_clause" ["keep"] (sp_kept_clause K) := by
  refine ⟨f, fd, F.ok sc_kept_clause (fun vs H Q E h => ?_) (fun cdv A outer s H vs Q E hr h => ?_), g, F.kp, bd⟩
  · first | (obtain ⟨_, rfl, _⟩ := h; rfl) | (obtain ⟨_, _, rfl, _⟩ := h; rfl) | (obtain ⟨_, _, _, rfl, _⟩ := h; rfl) | (obtain ⟨_, _, _, _, rfl, _⟩ := h; rfl) | (obtain ⟨_, _, _, _, _, rfl, _⟩ := h; rfl) | (obtain ⟨_, _, _, _, _, _, rfl, _⟩ := h; rfl) | (obtain ⟨_, _, _, _, _, _, _, rfl, _⟩ := h; rfl) | (obtain ⟨_, _, _, _, _, _, _, _, rfl, _⟩ := h; rfl) | (obtain ⟨_, _, _, _, _, _, _, _, _, rfl, _⟩ := h; rfl) | (obtain ⟨_, _, _, _, _, _, _, _, _, _, rfl, _⟩ := h; rfl) | (obtain ⟨_, _, _, _, _, _, _, _, _, _, _, rfl, _⟩ := h; rfl) | (obtain ⟨_, _, _, _, _, _, _, _, _, _, _, _, rfl, _⟩ := h; rfl) | (obtain ⟨_, _, _, _, _, _, _, _, _, _, _, _, _, rfl, _⟩ := h; rfl) | (obtain ⟨_, _, _, _, _, _, _, _, _, _, _, _, _, _, rfl, _⟩ := h; rfl) | (obtain ⟨_, _, _, _, _, _, _, _, _, _, _, _, _, _, _, rfl, _⟩ := h; rfl)
  · have hu64 := hr.units
    obtain ⟨t, ks, rfl, hS, hne, hl, hb, q⟩ := h
    refine ⟨_, (pss_cons (ps_if (pt_cmpR op_eq (pe_lenSetT (by rfl) m_len (by rfl) m_set (pv 0)) pe_int (nomark _))
         (pss_one (ps_ret (pe_cf C_counted (hr.mono (by decide)) (by rfl) (pa_cons pe_str (pa_cons (pe_ix (kk_ixt K) (pv 0) pe_int (fun _ _ => rfl)) pa_nil)))))
         pss_nil)
      (pss_cons (ps_set (i := 1) sc_kept_clause.nd rfl (.inl rfl) (pe_join pe_str (pe_lc (own := [("number", 2)]) (g := (gName 2)) (tt := tYes) rfl sc_kept_clause.nd (pi_tup (pv 0)) (blkOk_by (own := [("number", 2)]) (N := N_kept_clause) (sc := defScope s_kept_clause) (by decide +kernel)) (fun _ _ _ _ _ => pg_name (i := 2) sc_kept_clause.nd rfl (Or.inl rfl)) (fun _ _ _ _ _ => pts_nil) (fun _ _ _ _ _ => (pe_callTy call_str_int (by rfl) m_str (by decide +kernel) (pa_cons (pv 2) pa_nil))))))
      (pss_one (ps_ret (pe_joined (PJ.cons pe_str (PJ.cons (pe_fmt (pv 1)) PJ.nil))))))), ?_⟩
    obtain ⟨k0, r, rfl⟩ : ∃ k0 r, ks = k0 :: r := by
      cases ks with
      | nil => exact absurd rfl hne
      | cons a b => exact ⟨a, b, rfl⟩
    have hb0 := hb k0 List.mem_cons_self
    refine ⟨_, rfl, t, _, rfl, hS, by omega, fun c hc => ⟨rfl, _, rfl, ite2 (fun z => ?_) (fun z => ?_)⟩⟩
    · have e : c = 1 := by
        have := V.int.inj (of_decide_eq_true z)
        omega
      obtain ⟨k, hk⟩ := hc.mp e
      have k0e := (hk k0).mp List.mem_cons_self
      have al : (k0 :: r).all (fun k => decide (k = (k0 :: r).headD 0)) = true := List.all_eq_true.mpr fun j hj => decide_eq_true (by show j = k0; rw [(hk j).mp hj, k0e])
      have at0 : atI ((k0 :: r).map V.int) 0 = some (.int k0) := by
        unfold atI ixN
        rw [if_pos (by decide), if_pos (by rw [List.map_cons, List.length_cons]; omega)]
        rfl
      refine ⟨_, rfl, t, _, _, _, rfl, rfl, hS, at0, _, _, rfl, by decide, hb0.1, by omega, ?_⟩
      have := q H (Same.refl H)
      rw [keptT, if_pos al] at this
      exact this
    · have al : ¬ (k0 :: r).all (fun k => decide (k = (k0 :: r).headD 0)) = true := fun al => by
        refine z (decide_eq_true ?_)
        have : c = 1 := hc.mpr ⟨k0, fun j => ⟨fun hj => of_decide_eq_true (List.all_eq_true.mp al j hj), fun e => by rw [e]; exact List.mem_cons_self⟩⟩
        rw [this]
        rfl
      refine ⟨⟨_, rfl⟩, _, rfl, t, rfl, ⟨_, hS⟩, fun D hD => vals_lc (fun v => match v with | .int k => .str (Str.ofString (toString k)) | _ => .non) (jok_t (K := K) hS) (by rw [List.length_map]; omega) hD (fun x hx G s Y N h1 => ?_) (fun G s hG => ?_)⟩
      · obtain ⟨k, hk, rfl⟩ := List.mem_map.mp hx
        exact ⟨rfl, _, rfl, k, rfl, small_log (hb k hk), h1 G (Same.refl G)⟩
      · have hG2 : G D = some (.lst (((k0 :: r).map fun k => Str.ofString (toString k)).map V.str)) := by
          rw [hG, List.map_map, List.map_map]
          rfl
        have ln : ∀ l : List Int, (∀ k ∈ l, 0 ≤ k ∧ k ≤ 100) → ((l.map fun k => Str.ofString (toString k)).map fun x => x.length).sum ≤ 4 * l.length := fun l hb => by
          induction l with
          | nil => exact Nat.le_refl _
          | cons k l ih =>
            have a := ih fun x hx => hb x (List.mem_cons_of_mem _ hx)
            have b : (Str.ofString (toString k)).length ≤ 4 := PyProof.Rows.toString_length_le (v := k) (hb k List.mem_cons_self).1 (k := 4) (by decide) (by have := hb k List.mem_cons_self; show k < 10000; omega)
            rw [List.map_cons, List.map_cons, List.sum_cons, List.length_cons]
            omega
        have l1 := ln (k0 :: r) hb
        refine ⟨_, _, _, rfl, rfl, .inl (SqL.of hG2), ?_, _, rfl, ?_⟩
        · have e1 : (Str.ofString " ").length = 1 := rfl
          rw [e1, List.length_map]
          omega
        have jl := PySem.StrLaws.join_length_le (Str.ofString " ") ((k0 :: r).map fun k => Str.ofString (toString k))
        rw [← TL.join_eq] at jl
        have e1 : (Str.ofString " ").length = 1 := rfl
        have e5 : (Str.ofString "keep ").length = 5 := rfl
        have e0 : ∀ s : Str, Str.empty ++ s = s := fun s => by
          show Str.mk (#[] ++ s.cps) = s
          rw [Array.empty_append]
        rw [e1, List.length_map] at jl
        refine ⟨by rw [e0, e5, sizeLine_eq]; omega, _, rfl, .inl ⟨_, rfl, by rw [sizeLine_eq]; omega, _, rfl, by rw [e0, len_app, e5, sizeLine_eq]; omega, ?_⟩⟩
        have := q G s
        rw [keptT, if_neg al] at this
        rw [e0]
        exact this
/-! ### clauses_of -/
abbrev s_clauses_of : Stmt := topS 7
abbrev N_clauses_of : List Str := ["figures", "parts", "step", "grace", "last", "misses", "keep", "fine", "falls", "back", "clauses", "clause"]
theorem sc_clauses_of : FnScope N_clauses_of ["figures"] (defScope s_clauses_of) := ⟨rfl, rfl, rfl, by decide +kernel, rfl, by decide +kernel, by decide +kernel⟩
def partT (p s : Int) : Str := Str.ofString (toString p) ++ Str.ofString " parts by " ++ Str.ofString (toString s) ++ Str.ofString " days"
def allT (f : Fg) : List Str := [partT f.p f.s, cntT "grace" f.g, if f.l = true then Str.ofString "from last" else Str.ofString "", cntT "misses" f.m, keptT f.ks, cntT "fine" f.fi, cntT "falls" f.fa, cntT "back" f.ba]
def clsT (f : Fg) : List Str := (allT f).filter fun s => decide (s ≠ Str.ofString "")
def sp_clauses_of (K : PySem.W.Frag) : Sp := fun vs H Q _ => ∃ (t kt : Addr) (f : Fg), vs = [.ref t] ∧ SqT K H t [.int f.p, .int f.s, .int f.g, .bl f.l, .int f.m, .ref kt, .int f.fi, .int f.fa, .int f.ba] ∧ SqT K H kt (f.ks.map V.int) ∧ f.Ok ∧ ∀ H' L, Same H H' → H' L = some (.lst ((clsT f).map V.str)) → Q (.ref L) H'
theorem ok_clauses_of {f : Addr} {fd : FuncData} (F : Fun K "clauses_of" "clauses_of" s_clauses_of f fd) (g : mg "clauses_of" = some (.ref f)) (bd : Binds K fd ["figures"] []) (C_counted : CF P w K mg base 1 "counted" ["word", "number"] (sp_counted K)) (C_kept_clause : CF P w K mg base 2 "kept_clause" ["keep"] (sp_kept_clause K)) : CF P w K mg base 3 "clauses_of" ["figures"] (sp_clauses_of K) := by
  refine ⟨f, fd, F.ok sc_clauses_of (fun vs H Q E h => ?_) (fun cdv A outer s H vs Q E hr h => ?_), g, F.kp, bd⟩
  · first | (obtain ⟨_, rfl, _⟩ := h; rfl) | (obtain ⟨_, _, rfl, _⟩ := h; rfl) | (obtain ⟨_, _, _, rfl, _⟩ := h; rfl) | (obtain ⟨_, _, _, _, rfl, _⟩ := h; rfl) | (obtain ⟨_, _, _, _, _, rfl, _⟩ := h; rfl) | (obtain ⟨_, _, _, _, _, _, rfl, _⟩ := h; rfl) | (obtain ⟨_, _, _, _, _, _, _, rfl, _⟩ := h; rfl) | (obtain ⟨_, _, _, _, _, _, _, _, rfl, _⟩ := h; rfl) | (obtain ⟨_, _, _, _, _, _, _, _, _, rfl, _⟩ := h; rfl) | (obtain ⟨_, _, _, _, _, _, _, _, _, _, rfl, _⟩ := h; rfl) | (obtain ⟨_, _, _, _, _, _, _, _, _, _, _, rfl, _⟩ := h; rfl) | (obtain ⟨_, _, _, _, _, _, _, _, _, _, _, _, rfl, _⟩ := h; rfl) | (obtain ⟨_, _, _, _, _, _, _, _, _, _, _, _, _, rfl, _⟩ := h; rfl) | (obtain ⟨_, _, _, _, _, _, _, _, _, _, _, _, _, _, rfl, _⟩ := h; rfl) | (obtain ⟨_, _, _, _, _, _, _, _, _, _, _, _, _, _, _, rfl, _⟩ := h; rfl)
  · have hu64 := hr.units
    obtain ⟨t, kt, f', rfl, hS, hK, ok, q⟩ := h
    refine ⟨_, (pss_cons (ps_asg (pv 0) (pg_tup (by rfl) (pgs_cons (pg_name (i := 1) sc_clauses_of.nd rfl (.inl rfl)) (pgs_cons (pg_name (i := 2) sc_clauses_of.nd rfl (.inl rfl)) (pgs_cons (pg_name (i := 3) sc_clauses_of.nd rfl (.inl rfl)) (pgs_cons (pg_name (i := 4) sc_clauses_of.nd rfl (.inl rfl)) (pgs_cons (pg_name (i := 5) sc_clauses_of.nd rfl (.inl rfl)) (pgs_cons (pg_name (i := 6) sc_clauses_of.nd rfl (.inl rfl)) (pgs_cons (pg_name (i := 7) sc_clauses_of.nd rfl (.inl rfl)) (pgs_cons (pg_name (i := 8) sc_clauses_of.nd rfl (.inl rfl)) (pgs_cons (pg_name (i := 9) sc_clauses_of.nd rfl (.inl rfl)) pgs_nil)))))))))))
      (pss_cons (ps_set (i := 10) sc_clauses_of.nd rfl (.inl rfl) (pe_lst (pa_cons (pe_joined (PJ.cons (pe_fmt (pv 1)) (PJ.cons pe_str (PJ.cons (pe_fmt (pv 2)) (PJ.cons pe_str PJ.nil))))) (pa_cons (pe_cf C_counted (hr.mono (by decide)) (by rfl) (pa_cons pe_str (pa_cons (pv 3) pa_nil))) (pa_cons (pe_ifExp (pt_val (pv 4)) pe_str pe_str) (pa_cons (pe_cf C_counted (hr.mono (by decide)) (by rfl) (pa_cons pe_str (pa_cons (pv 5) pa_nil))) (pa_cons (pe_cf C_kept_clause (hr.mono (by decide)) (by rfl) (pa_cons (pv 6) pa_nil)) (pa_cons (pe_cf C_counted (hr.mono (by decide)) (by rfl) (pa_cons pe_str (pa_cons (pv 7) pa_nil))) (pa_cons (pe_cf C_counted (hr.mono (by decide)) (by rfl) (pa_cons pe_str (pa_cons (pv 8) pa_nil))) (pa_cons (pe_cf C_counted (hr.mono (by decide)) (by rfl) (pa_cons pe_str (pa_cons (pv 9) pa_nil))) pa_nil))))))))))
      (pss_one (ps_ret (pe_lc (own := [("clause", 11)]) (g := (gName 11)) rfl sc_clauses_of.nd (pi_list (pv 10)) (blkOk_by (own := [("clause", 11)]) (N := N_clauses_of) (sc := defScope s_clauses_of) (by decide +kernel)) (fun _ _ _ _ _ => pg_name (i := 11) sc_clauses_of.nd rfl (Or.inl rfl)) (fun _ _ _ _ _ => (pts_one (pt_cmpR op_ne (pv 11) pe_str (nomark _)))) (fun _ _ _ _ _ => (pv 11))))))), ?_⟩
    obtain ⟨p, sp, g', l, m, ks, fi, fa, ba⟩ := f'
    have F := ok.figs
    dsimp only at hS hK F
    have hlk : ks.length ≤ 6 := by
      have a : (ks.length : Int) = p := ok.len
      have := F.p1
      omega
    have hne : ks ≠ [] := fun e => by
      have a : (ks.length : Int) = p := ok.len
      have := F.p0
      rw [e, List.length_nil] at a
      omega
    have e0 : ∀ s : Str, Str.empty ++ s = s := fun s => by
      show Str.mk (#[] ++ s.cps) = s
      rw [Array.empty_append]
    have s8 : (8 : Nat) ≤ sizeLine := by rw [sizeLine_eq]; omega
    have lp : (Str.ofString (toString p)).length ≤ 4 := PyProof.Rows.toString_length_le (v := p) (by have := F.p0; omega) (k := 4) (by decide) (by have := F.p1; show p < 10000; omega)
    have ls : (Str.ofString (toString sp)).length ≤ 4 := PyProof.Rows.toString_length_le (v := sp) (by have := F.s0; omega) (k := 4) (by decide) (by have := F.s1; show sp < 10000; omega)
    have l1 : (Str.ofString " parts by ").length = 10 := rfl
    have l2 : (Str.ofString " days").length = 5 := rfl
    have last : ∀ (G : Hp) (L : Addr), Same H G → G L = some (.lst ((allT ⟨p, sp, g', l, m, ks, fi, fa, ba⟩).map V.str)) →
        tLc (iList K (tVar 10)) (gName 11) (tTest (tOp rNe (tVar 11) (tC (V.str (Str.ofString ""))))) (tVar 11) [11] [some (.ref t), some (.int p), some (.int sp), some (.int g'), some (.bl l), some (.int m), some (.ref kt), some (.int fi), some (.int fa), some (.int ba), some (.ref L), none] G Q := fun G L sG hL => by
      have hL2 : SqL K G L ((allT ⟨p, sp, g', l, m, ks, fi, fa, ba⟩).map V.str) := SqL.of hL
      refine ⟨_, rfl, L, rfl, ⟨_, hL2⟩, fun D hD => pass_lc (fun v => !decide (v = .str (Str.ofString ""))) (jok_l (K := K) hL2) (by rw [List.length_map]; show 8 ≤ 1000; decide) hD (fun x hx X sX Y N h1 h2 => ?_) (fun X sX hX => q X D (sG.trans sX) ?_)⟩
      · obtain ⟨z, _, rfl⟩ := List.mem_map.mp hx
        exact ⟨rfl, _, rfl, rfl, _, rfl, ite2 (fun c => ⟨_, rfl, h1 c X (Same.refl X)⟩) (fun c => h2 (by simpa using c) X (Same.refl X))⟩
      · rw [hX, List.filter_map]
        have : ((fun v => !decide (v = V.str (Str.ofString ""))) ∘ V.str) = fun s => decide (s ≠ Str.ofString "") := by
          funext s
          simp
        rw [this]
        rfl
    refine ⟨_, rfl, t, _, rfl, hS, rfl, _, _, rfl, _, _, rfl, _, _, rfl, _, _, rfl, _, _, rfl, _, _, rfl, _, _, rfl, _, _, rfl, _, _, rfl, rfl, ?_⟩
    refine ⟨_, rfl, .inr ⟨p, rfl, small_log ⟨by have := F.p0; omega, by have := F.p1; omega⟩, _, rfl, by rw [e0, sizeLine_eq]; omega, _, rfl, by rw [e0, len_app, l1, sizeLine_eq]; omega, _, rfl, .inr ⟨sp, rfl, small_log ⟨by have := F.s0; omega, by have := F.s1; omega⟩, _, rfl, by rw [e0, len_app, len_app, l1, sizeLine_eq]; omega, _, rfl, by rw [e0, len_app, len_app, len_app, l1, l2, sizeLine_eq]; omega, _, rfl, _, _, rfl, by decide, F.g0, by have := F.g1; omega, _, rfl, l, rfl, ?_⟩⟩⟩
    rw [e0]
    cases l with
    | true =>
      refine iteT ⟨_, rfl, _, _, rfl, by decide, F.m0, by have := F.m1; omega, _, rfl, kt, ks, rfl, hK, hne, hlk, ok.bnd, fun H1 s1 => ⟨_, rfl, _, _, rfl, by decide, F.fi0, by have := F.fi1; omega, _, rfl, _, _, rfl, by decide, F.fa0, by have := F.fa1; omega, _, rfl, _, _, rfl, by decide, F.ba0, by have := F.ba1; omega, s8, fun L nL => ?_⟩⟩
      exact last _ L (s1.trans (same_new nL)) upd_same
    | false =>
      refine iteF ⟨_, rfl, _, _, rfl, by decide, F.m0, by have := F.m1; omega, _, rfl, kt, ks, rfl, hK, hne, hlk, ok.bnd, fun H1 s1 => ⟨_, rfl, _, _, rfl, by decide, F.fi0, by have := F.fi1; omega, _, rfl, _, _, rfl, by decide, F.fa0, by have := F.fa1; omega, _, rfl, _, _, rfl, by decide, F.ba0, by have := F.ba1; omega, s8, fun L nL => ?_⟩⟩
      exact last _ L (s1.trans (same_new nL)) upd_same
/-- if test: found.append(text) -/
theorem app_if {K : PySem.W.Frag} {F : Addr} {l : List Str} {z : Str} {b : Bool} {test : TT} {targ : TE} {E1 : Ends} {σ : L2.St} {G : Hp} (hσ : σ[2]? = some (some (.ref F))) (hF : G F = some (.lst (l.map V.str))) (hl : l.length ≤ 100)
    (ht : ∀ Y : Bool → Hp → Prop, Y b G → test σ G Y) (ha : b = true → ∀ Y : VK, Y (.str z) G → targ σ G Y) (fin : E1.nx σ (if b = true then upd G F (.lst ((l ++ [z]).map V.str)) else G)) :
    tIfS test (tDrop (tBM K "list" rAppend (tVar 2) (tCons targ tNil))) tNext E1 σ G := by
  refine ht _ ?_
  cases b with
  | false => exact iteF fin
  | true =>
    refine iteT ⟨_, hσ, .inl ⟨rfl, _, SqL.of hF⟩, ha rfl _ ⟨F, _, _, rfl, rfl, hF, ?_, ?_⟩⟩
    · rw [List.length_map, sizeLine_eq]
      omega
    · rw [List.map_append] at fin
      exact fin
/-! ### Rule___str__ -/
abbrev s_Rule___str__ : Stmt := inClass (topS 19) 5
abbrev N_Rule___str__ : List Str := ["self"]
theorem sc_Rule___str__ : FnScope N_Rule___str__ ["self"] (defScope s_Rule___str__) := ⟨rfl, rfl, rfl, by decide +kernel, rfl, by decide +kernel, by decide +kernel⟩
theorem num_len {n : Int} (h0 : 0 ≤ n) (h1 : n ≤ 1000) : (Str.ofString (toString n)).length ≤ 4 := PyProof.Rows.toString_length_le (v := n) h0 (k := 4) (by decide) (by show n < 10000; omega)
theorem cnt_len {w : Str} {n : Int} (h0 : 0 ≤ n) (h1 : n ≤ 1000) (hw : w.length ≤ 10) : (cntT w n).length ≤ 60 := by
  unfold cntT
  have e : (Str.ofString " ").length = 1 := rfl
  have := num_len h0 h1
  split
  · exact Nat.zero_le _
  · rw [len_app, len_app, e]
    omega
theorem kept_len {ks : List Int} (hb : ∀ k ∈ ks, 0 ≤ k ∧ k ≤ 100) (hl : ks.length ≤ 6) : (keptT ks).length ≤ 60 := by
  unfold keptT
  split
  · refine cnt_len ?_ ?_ (by decide)
    · cases ks with
      | nil => exact Int.le_refl _
      | cons k r => exact (hb k List.mem_cons_self).1
    · cases ks with
      | nil => exact (by decide)
      | cons k r =>
        have := (hb k List.mem_cons_self).2
        show k ≤ 1000
        omega
  · have jl := PySem.StrLaws.join_length_le (Str.ofString " ") (ks.map fun k => Str.ofString (toString k))
    rw [← TL.join_eq] at jl
    have e1 : (Str.ofString " ").length = 1 := rfl
    have e5 : (Str.ofString "keep ").length = 5 := rfl
    have ln : ∀ l : List Int, (∀ k ∈ l, 0 ≤ k ∧ k ≤ 100) → ((l.map fun k => Str.ofString (toString k)).map fun x => x.length).sum ≤ 4 * l.length := fun l hb => by
      induction l with
      | nil => exact Nat.le_refl _
      | cons k l ih =>
        have a := ih fun x hx => hb x (List.mem_cons_of_mem _ hx)
        have c := hb k List.mem_cons_self
        have b := num_len (n := k) c.1 (by omega)
        rw [List.map_cons, List.map_cons, List.sum_cons, List.length_cons]
        omega
    have l1 := ln ks hb
    rw [e1, List.length_map] at jl
    rw [len_app, e5]
    omega
theorem cls_len {f : Fg} (ok : f.Ok) : ((clsT f).map fun x => x.length).sum ≤ 60 * (clsT f).length ∧ (clsT f).length ≤ 8 := by
  have F := ok.figs
  have hlk : f.ks.length ≤ 6 := by
    have a := ok.len
    have := F.p1
    omega
  have al : ∀ s ∈ allT f, s.length ≤ 60 := fun s hs => by
    unfold allT at hs
    simp only [List.mem_cons, List.not_mem_nil, or_false] at hs
    rcases hs with rfl | rfl | rfl | rfl | rfl | rfl | rfl | rfl
    · unfold partT
      have e1 : (Str.ofString " parts by ").length = 10 := rfl
      have e2 : (Str.ofString " days").length = 5 := rfl
      have a := num_len (n := f.p) (by have := F.p0; omega) (by have := F.p1; omega)
      have b := num_len (n := f.s) (by have := F.s0; omega) (by have := F.s1; omega)
      rw [len_app, len_app, len_app, e1, e2]
      omega
    · exact cnt_len F.g0 (by have := F.g1; omega) (by decide)
    · split <;> decide +kernel
    · exact cnt_len F.m0 (by have := F.m1; omega) (by decide)
    · exact kept_len ok.bnd hlk
    · exact cnt_len F.fi0 (by have := F.fi1; omega) (by decide)
    · exact cnt_len F.fa0 (by have := F.fa1; omega) (by decide)
    · exact cnt_len F.ba0 (by have := F.ba1; omega) (by decide)
  have sm : ∀ l : List Str, (∀ s ∈ l, s.length ≤ 60) → (l.map fun x => x.length).sum ≤ 60 * l.length := fun l h => by
    induction l with
    | nil => exact Nat.le_refl _
    | cons s l ih =>
      have a := ih fun x hx => h x (List.mem_cons_of_mem _ hx)
      have b := h s List.mem_cons_self
      rw [List.map_cons, List.sum_cons, List.length_cons]
      omega
  exact ⟨sm _ fun s hs => al s (List.mem_filter.mp hs).1, List.length_filter_le _ (allT f)⟩
def txtT (f : Fg) : Str := Txt.join ", " (clsT f)
def sp_Rule___str__ (K : PySem.W.Frag) (C : Addr) : Sp := fun vs H Q _ => ∃ (r : Addr) (f : Fg), vs = [.ref r] ∧ RuleAt K H C r f ∧ f.Ok ∧ ∀ H', Same H H' → Q (.str (txtT f)) H'
theorem ok_Rule___str__ {f : Addr} {fd : FuncData} {CR : Addr} (TQ : TEq K mg CR "Rule") (T_Rule : TRule K mg CR) (C_clauses_of : CF P w K mg base 3 "clauses_of" ["figures"] (sp_clauses_of K)) (C_Rule_figures_0 : CMt P w K mg base CR 1 "figures" ["self"] [] (sp_Rule_figures K CR)) (F : FunD K "__str__" "Rule.__str__" (defArgs s_Rule___str__) (defBody s_Rule___str__) (defScope s_Rule___str__) [] [] f fd) : FnOk P w K mg base CX0 4 f fd ["self"] (sp_Rule___str__ K CR) := by
  refine okD F sc_Rule___str__ (fun vs H Q E h => ?_) (fun cdv A outer s H vs Q E hr h => ?_)
  · first | (obtain ⟨_, rfl, _⟩ := h; rfl) | (obtain ⟨_, _, rfl, _⟩ := h; rfl) | (obtain ⟨_, _, _, rfl, _⟩ := h; rfl) | (obtain ⟨_, _, _, _, rfl, _⟩ := h; rfl) | (obtain ⟨_, _, _, _, _, rfl, _⟩ := h; rfl) | (obtain ⟨_, _, _, _, _, _, rfl, _⟩ := h; rfl) | (obtain ⟨_, _, _, _, _, _, _, rfl, _⟩ := h; rfl) | (obtain ⟨_, _, _, _, _, _, _, _, rfl, _⟩ := h; rfl) | (obtain ⟨_, _, _, _, _, _, _, _, _, rfl, _⟩ := h; rfl) | (obtain ⟨_, _, _, _, _, _, _, _, _, _, rfl, _⟩ := h; rfl) | (obtain ⟨_, _, _, _, _, _, _, _, _, _, _, rfl, _⟩ := h; rfl) | (obtain ⟨_, _, _, _, _, _, _, _, _, _, _, _, rfl, _⟩ := h; rfl) | (obtain ⟨_, _, _, _, _, _, _, _, _, _, _, _, _, rfl, _⟩ := h; rfl) | (obtain ⟨_, _, _, _, _, _, _, _, _, _, _, _, _, _, rfl, _⟩ := h; rfl) | (obtain ⟨_, _, _, _, _, _, _, _, _, _, _, _, _, _, _, rfl, _⟩ := h; rfl)
  · have hu64 := hr.units
    obtain ⟨r, f', rfl, hR, ok, q⟩ := h
    refine ⟨_, (pss_one (ps_ret (pe_join pe_str (pe_cf C_clauses_of (hr.mono (by decide)) (by rfl) (pa_cons (pe_mt0 C_Rule_figures_0 T_Rule.cl (hr.mono (by decide)) (pv 0)) pa_nil))))), ?_⟩
    have hR2 := hR
    obtain ⟨dx, kt, h1, h2⟩ := hR
    refine ⟨⟨_, rfl⟩, _, rfl, r, dx, _, rfl, h1, by rfl, r, f', rfl, hR2, fun H1 t kt2 nt s1 ht hk => ?_⟩
    refine ⟨t, kt2, f', rfl, SqT.of ht, hk, ok, fun H2 L s2 hL => ?_⟩
    obtain ⟨b1, b2⟩ := cls_len ok
    have e2 : (Str.ofString ", ").length = 2 := rfl
    refine ⟨_, _, _, rfl, rfl, .inl (SqL.of hL), ?_, q H2 (s1.trans s2)⟩
    rw [e2]
    omega
def figD (f : Fg) : PyData := .tuple [.int f.p, .int f.s, .int f.g, .bool f.l, .int f.m, .tuple (f.ks.map PyData.int), .int f.fi, .int f.fa, .int f.ba]
theorem fig_dp {K : PySem.W.Frag} {H : Hp} {t a : Addr} {f : Fg} (h : SqT K H t [.int f.p, .int f.s, .int f.g, .bl f.l, .int f.m, .ref a, .int f.fi, .int f.fa, .int f.ba]) (ha : SqT K H a (f.ks.map V.int)) : Dp K H (.ref t) (figD f) :=
  .tup h (.cons (.int _) (.cons (.int _) (.cons (.int _) (.cons (.bl _) (.cons (.int _) (.cons (dpAll_intsT ha) (.cons (.int _) (.cons (.int _) (.cons (.int _) .nil)))))))))
theorem fig_depth (f : Fg) : PyData.depth (figD f) ≤ 4 := by
  have := depth_ints f.ks
  simp only [figD, PyData.depth, PyData.depthAll]
  omega
theorem thin_ints : ∀ ns : List Int, thinAll (ns.map PyData.int) = true
  | [] => rfl
  | n :: r => by
    rw [List.map_cons]
    simp only [thinAll, thin, Bool.true_and]
    exact thin_ints r
theorem fig_thin {f : Fg} (ok : f.Ok) : thin (figD f) = true := by
  have h1 := ok.len
  have h2 := ok.figs.p1
  simp only [figD, thin, thinAll, thin_ints, List.length_map, Bool.and_true, Bool.true_and]
  rw [Bool.and_eq_true]
  exact ⟨rfl, decide_eq_true (by omega)⟩
theorem fig_shaped (f : Fg) : SeqAt.shaped (figD f) = true := by
  have h1 := fig_depth f
  have h2 := lay_ints f.ks
  show (PyData.canLay0 (figD f) && decide (PyData.depth (figD f) ≤ 64)) = true
  rw [Bool.and_eq_true]
  exact ⟨by simp only [figD, PyData.canLay0, PyData.canLayAll0, h2, Bool.and_true], decide_eq_true (by omega)⟩
theorem eqv_ints : ∀ {ks ls : List Int}, PyData.eqvAll (ks.map PyData.int) (ls.map PyData.int) = true → ks = ls
  | [], [], _ => rfl
  | [], _ :: _, h => by simp [PyData.eqvAll] at h
  | _ :: _, [], h => by simp [PyData.eqvAll] at h
  | k :: r, a :: b, h => by
    simp only [List.map_cons, PyData.eqvAll, PyData.eqv, Bool.and_eq_true, beq_iff_eq] at h
    rw [eqv_ints h.2, h.1]
def alike (f f2 : Fg) : Bool := PyData.eqv (figD f) (figD f2)
theorem alike_eq {f f2 : Fg} (h : alike f f2 = true) : f = f2 := by
  obtain ⟨p, s, g, l, m, ks, fi, fa, ba⟩ := f
  obtain ⟨p2, s2, g2, l2, m2, ks2, fi2, fa2, ba2⟩ := f2
  unfold alike figD at h
  simp only [PyData.eqvAll, PyData.eqv, Bool.and_eq_true, beq_iff_eq] at h
  obtain ⟨h1, h2, h3, h4, h5, h6, h7, h8, h9, _⟩ := h
  have := eqv_ints h6
  subst h1 h2 h3 h4 h5 this h7 h8 h9
  rfl
theorem alike_self (f : Fg) : alike f f = true := SeqAt.eqv_refl _ (SeqAt.canLay_of_shaped (fig_shaped f))
theorem unlike {f f2 : Fg} (h : f ≠ f2) : alike f f2 = false := by
  cases e : alike f f2 with
  | false => rfl
  | true => exact absurd (alike_eq e) h
/-! ### Rule___eq__ -/
abbrev s_Rule___eq__ : Stmt := inClass (topS 19) 3
abbrev N_Rule___eq__ : List Str := ["self", "other"]
theorem sc_Rule___eq__ : FnScope N_Rule___eq__ ["self", "other"] (defScope s_Rule___eq__) := ⟨rfl, rfl, rfl, by decide +kernel, rfl, by decide +kernel, by decide +kernel⟩
def sp_Rule___eq__ (K : PySem.W.Frag) (C : Addr) : Sp := fun vs H Q _ => ∃ (r : Addr) (f : Fg) (y : V), vs = [.ref r, y] ∧ RuleAt K H C r f ∧ f.Ok ∧
  ((∃ (r2 : Addr) (f2 : Fg), y = .ref r2 ∧ RuleAt K H C r2 f2 ∧ f2.Ok ∧ ∀ H', Same H H' → Q (.bl (alike f f2)) H') ∨ ∃ tv, OEQ.TyV K C H y tv ∧ tv ≠ .ref C ∧ ∀ H', Same H H' → Q (.bl false) H')
theorem ok_Rule___eq__ {f : Addr} {fd : FuncData} {CR : Addr} (TQ : TEq K mg CR "Rule") (T_Rule : TRule K mg CR) (m_isinstance : mg "isinstance" = none) (C_Rule_figures_0 : CMt P w K mg base CR 1 "figures" ["self"] [] (sp_Rule_figures K CR)) (F : FunD K "__eq__" "Rule.__eq__" (defArgs s_Rule___eq__) (defBody s_Rule___eq__) (defScope s_Rule___eq__) [] [] f fd) : FnOk P w K mg base CX0 2 f fd ["self", "other"] (sp_Rule___eq__ K CR) := by
  refine okD F sc_Rule___eq__ (fun vs H Q E h => ?_) (fun cdv A outer s H vs Q E hr h => ?_)
  · first | (obtain ⟨_, rfl, _⟩ := h; rfl) | (obtain ⟨_, _, rfl, _⟩ := h; rfl) | (obtain ⟨_, _, _, rfl, _⟩ := h; rfl) | (obtain ⟨_, _, _, _, rfl, _⟩ := h; rfl) | (obtain ⟨_, _, _, _, _, rfl, _⟩ := h; rfl) | (obtain ⟨_, _, _, _, _, _, rfl, _⟩ := h; rfl) | (obtain ⟨_, _, _, _, _, _, _, rfl, _⟩ := h; rfl) | (obtain ⟨_, _, _, _, _, _, _, _, rfl, _⟩ := h; rfl) | (obtain ⟨_, _, _, _, _, _, _, _, _, rfl, _⟩ := h; rfl) | (obtain ⟨_, _, _, _, _, _, _, _, _, _, rfl, _⟩ := h; rfl) | (obtain ⟨_, _, _, _, _, _, _, _, _, _, _, rfl, _⟩ := h; rfl) | (obtain ⟨_, _, _, _, _, _, _, _, _, _, _, _, rfl, _⟩ := h; rfl) | (obtain ⟨_, _, _, _, _, _, _, _, _, _, _, _, _, rfl, _⟩ := h; rfl) | (obtain ⟨_, _, _, _, _, _, _, _, _, _, _, _, _, _, rfl, _⟩ := h; rfl) | (obtain ⟨_, _, _, _, _, _, _, _, _, _, _, _, _, _, _, rfl, _⟩ := h; rfl)
  · have hu64 := hr.units
    obtain ⟨r, f', y, rfl, hR, ok, q⟩ := h
    refine ⟨_, (pss_one (ps_ret (pe_and (pe_callB (kk_isi K) (by rfl) m_isinstance (by decide +kernel) (pa_cons (pv 1) (pa_cons (pe_glob (v := .ref CR) (by rfl) TQ.g rfl) pa_nil))) (pe_one (pe_cmpR (kk_eqD K hu64) (pe_mt0 C_Rule_figures_0 T_Rule.cl (hr.mono (by decide)) (pv 0)) (pe_mt0 C_Rule_figures_0 T_Rule.cl (hr.mono (by decide)) (pv 1)) (nomark _)))))), ?_⟩
    obtain ⟨dx, kt, h1, h2⟩ := id hR
    rcases q with ⟨r2, f2, rfl, hR2, ok2, q⟩ | ⟨tv, ty, hne, q⟩
    · obtain ⟨dx2, kt2, k1, k2⟩ := id hR2
      refine ⟨_, rfl, _, _, _, _, true, rfl, .own _, TQ.tyi T_Rule.cl k1, TQ.me, _, rfl, ?_⟩
      refine iteT ⟨_, rfl, r, dx, _, rfl, h1, by rfl, r, f', rfl, hR, fun H1 t1 a1 n1 s1 ht1 ha1 => ?_⟩
      refine ⟨_, rfl, r2, dx2, _, rfl, s1 _ _ k1, by rfl, r2, f2, rfl, hR2.same s1, fun H2 t2 a2 n2 s2 ht2 ha2 => ?_⟩
      exact ⟨figD f', figD f2, fig_dp (seqT_same s2 (SqT.of ht1)) (seqT_same s2 ha1), fig_dp (SqT.of ht2) ha2, fig_shaped _, fig_shaped _, q H2 (s1.trans s2)⟩
    · obtain ⟨T, rfl, hT, hx⟩ := ty.tyx hne
      refine ⟨_, rfl, _, _, _, _, false, rfl, .own _, hx, TQ.no T hT, _, rfl, ?_⟩
      exact iteF (q H (Same.refl H))
/-! ### _law_text -/
abbrev s__law_text : Stmt := topS 47
abbrev N__law_text : List Str := ["_law_some", "_law_whole_here", "_law_found", "_law_numbers", "_law_number", "_law_at", "_law_sort"]
theorem sc__law_text : FnScope N__law_text ["_law_some"] (defScope s__law_text) := ⟨rfl, rfl, rfl, by decide +kernel, rfl, by decide +kernel, by decide +kernel⟩
theorem cnt_is {w w2 : Str} {n : Int} (h : 0 < n) (e : w2 = w ++ Str.ofString " ") : w2 ++ Str.ofString (toString n) = cntT w n := by
  unfold cntT
  rw [if_neg (by omega), e]
theorem str_int_all : ∀ a b : Fin 101, Str.ofString (toString ((a : Nat) : Int)) = Str.ofString (toString ((b : Nat) : Int)) → a = b := by decide +kernel
theorem str_int_inj {a b : Int} (ha : 0 ≤ a ∧ a ≤ 100) (hb : 0 ≤ b ∧ b ≤ 100) (h : Str.ofString (toString a) = Str.ofString (toString b)) : a = b := by
  obtain ⟨i, rfl⟩ := Int.eq_ofNat_of_zero_le ha.1
  obtain ⟨j, rfl⟩ := Int.eq_ofNat_of_zero_le hb.1
  have e : i = j := congrArg Fin.val (str_int_all ⟨i, by omega⟩ ⟨j, by omega⟩ h)
  rw [e]
theorem filt {s z : Str} {l : List Str} {b : Bool} (h1 : b = true → s = z ∧ s ≠ Str.ofString "") (h2 : b = false → s = Str.ofString "") :
    (s :: l).filter (fun s => decide (s ≠ Str.ofString "")) = (if b = true then [z] else []) ++ l.filter (fun s => decide (s ≠ Str.ofString "")) := by
  cases b with
  | false =>
    rw [h2 rfl, List.filter_cons_of_neg (by simp)]
    rfl
  | true =>
    obtain ⟨e, n⟩ := h1 rfl
    rw [List.filter_cons_of_pos (by simpa using n), e]
    rfl
theorem str_ne {s : Str} (h : 0 < s.length) : s ≠ Str.ofString "" := fun e => by
  have : s.length = 0 := by rw [e]; rfl
  omega
theorem cnt_ne {w : Str} {n : Int} (h : n ≠ 0) : cntT w n ≠ Str.ofString "" := by
  refine str_ne ?_
  have e : (Str.ofString " ").length = 1 := rfl
  rw [cntT, if_neg h, len_app, len_app, e]
  omega
def opt (w : Str) (n : Int) : List Str := if decide (0 < n) = true then [cntT w n] else []
def lawT (f : Fg) : List Str := [partT f.p f.s] ++ (if decide (0 < f.g) = true then [cntT "grace" f.g] else []) ++ (if f.l = true then [Str.ofString "from last"] else []) ++ (if decide (0 < f.m) = true then [cntT "misses" f.m] else []) ++ (if f.ks.any (fun k => decide (0 < k)) = true then [keptT f.ks] else [])
def opts (f : Fg) : List (List Str) := [opt "fine" f.fi, opt "falls" f.fa, opt "back" f.ba]
theorem cls_is {f : Fg} (ok : f.Ok) : clsT f = lawT f ++ (opts f).flatten := by
  have F := ok.figs
  have hne : f.ks ≠ [] := fun e => by
    have a : (f.ks.length : Int) = f.p := ok.len
    have := F.p0
    rw [e, List.length_nil] at a
    omega
  have two : ∀ (w : Str) (n : Int) (l : List Str), 0 ≤ n → (cntT w n :: l).filter (fun s => decide (s ≠ Str.ofString "")) = (if decide (0 < n) = true then [cntT w n] else []) ++ l.filter (fun s => decide (s ≠ Str.ofString "")) := fun w n l h => by
    refine filt (fun h1 => ⟨rfl, cnt_ne (by have := of_decide_eq_true h1; omega)⟩) (fun h2 => ?_)
    have := of_decide_eq_false h2
    rw [cntT, if_pos (show n = 0 by omega)]
  have hp : partT f.p f.s ≠ Str.ofString "" := by
    unfold partT
    refine str_ne ?_
    have e2 : (Str.ofString " days").length = 5 := rfl
    rw [len_app, e2]
    omega
  have hl1 : f.l = true → (if f.l = true then Str.ofString "from last" else Str.ofString "") = Str.ofString "from last" ∧ (if f.l = true then Str.ofString "from last" else Str.ofString "") ≠ Str.ofString "" := fun e => by
    rw [if_pos e]
    exact ⟨rfl, by decide +kernel⟩
  have hl2 : f.l = false → (if f.l = true then Str.ofString "from last" else Str.ofString "") = Str.ofString "" := fun e => by
    rw [if_neg (by rw [e]; decide)]
  have hk1 : f.ks.any (fun k => decide (0 < k)) = true → keptT f.ks ≠ Str.ofString "" := fun e => by
    obtain ⟨j, hj, hp⟩ := List.any_eq_true.mp e
    unfold keptT
    split
    · rename_i al
      have h1 := of_decide_eq_true (List.all_eq_true.mp al j hj)
      have := of_decide_eq_true hp
      exact cnt_ne (by omega)
    · refine str_ne ?_
      have e5 : (Str.ofString "keep ").length = 5 := rfl
      rw [len_app, e5]
      omega
  have hk2 : f.ks.any (fun k => decide (0 < k)) = false → keptT f.ks = Str.ofString "" := fun e => by
    have z : ∀ k ∈ f.ks, k = 0 := fun k hk => by
      have h1 := List.any_eq_false.mp e k hk
      have h2 := (ok.bnd k hk).1
      simp only [decide_eq_true_eq] at h1
      omega
    have h0 : f.ks.headD 0 = 0 := by
      cases h : f.ks with
      | nil => rfl
      | cons a b => exact z a (by rw [h]; exact List.mem_cons_self)
    unfold keptT
    rw [if_pos (List.all_eq_true.mpr fun k hk => decide_eq_true (by rw [h0, z k hk])), h0, cntT, if_pos rfl]
  unfold clsT allT
  rw [filt (b := true) (z := partT f.p f.s) (fun _ => ⟨rfl, hp⟩) (fun e => nomatch e), two _ _ _ F.g0, filt (b := f.l) (z := Str.ofString "from last") hl1 hl2, two _ _ _ F.m0, filt (b := f.ks.any (fun k => decide (0 < k))) (z := keptT f.ks) (fun e => ⟨rfl, hk1 e⟩) hk2, two _ _ _ F.fi0, two _ _ _ F.fa0, two _ _ _ F.ba0]
  unfold lawT opts opt
  simp only [List.filter_nil, List.flatten_cons, List.flatten_nil, List.append_nil, List.append_assoc, if_true]
def sp__law_text (K : PySem.W.Frag) : Sp := fun vs H Q _ => ∃ (t : Addr) (f : Fg) (kv : V) (kd : PyData), vs = [.ref t] ∧ Drawn K H t f kv kd ∧ ∀ H', Same H H' → Q (.str (txtT f)) H'
theorem ok__law_text {f : Addr} {fd : FuncData} (F : Fun K "_law_text" "_law_text" s__law_text f fd) (g : mg "_law_text" = some (.ref f)) (bd : Binds K fd ["_law_some"] []) (m_str : mg "str" = none) (m_max : mg "max" = none) (m_len : mg "len" = none) (m_set : mg "set" = none) (m_int : mg "int" = none) (C__law_whole : CF P w K mg base 1 "_law_whole" ["_law_some"] (sp__law_whole K)) : CF P w K mg base 2 "_law_text" ["_law_some"] (sp__law_text K) := by
  refine ⟨f, fd, F.ok sc__law_text (fun vs H Q E h => ?_) (fun cdv A outer s H vs Q E hr h => ?_), g, F.kp, bd⟩
  · first | (obtain ⟨_, rfl, _⟩ := h; rfl) | (obtain ⟨_, _, rfl, _⟩ := h; rfl) | (obtain ⟨_, _, _, rfl, _⟩ := h; rfl) | (obtain ⟨_, _, _, _, rfl, _⟩ := h; rfl) | (obtain ⟨_, _, _, _, _, rfl, _⟩ := h; rfl) | (obtain ⟨_, _, _, _, _, _, rfl, _⟩ := h; rfl) | (obtain ⟨_, _, _, _, _, _, _, rfl, _⟩ := h; rfl) | (obtain ⟨_, _, _, _, _, _, _, _, rfl, _⟩ := h; rfl) | (obtain ⟨_, _, _, _, _, _, _, _, _, rfl, _⟩ := h; rfl) | (obtain ⟨_, _, _, _, _, _, _, _, _, _, rfl, _⟩ := h; rfl) | (obtain ⟨_, _, _, _, _, _, _, _, _, _, _, rfl, _⟩ := h; rfl) | (obtain ⟨_, _, _, _, _, _, _, _, _, _, _, _, rfl, _⟩ := h; rfl) | (obtain ⟨_, _, _, _, _, _, _, _, _, _, _, _, _, rfl, _⟩ := h; rfl) | (obtain ⟨_, _, _, _, _, _, _, _, _, _, _, _, _, _, rfl, _⟩ := h; rfl) | (obtain ⟨_, _, _, _, _, _, _, _, _, _, _, _, _, _, _, rfl, _⟩ := h; rfl)
  · have hu64 := hr.units
    obtain ⟨t, f', kv, kd, rfl, hD, q⟩ := h
    refine ⟨_, (pss_cons (ps_set (i := 1) sc__law_text.nd rfl (.inl rfl) (pe_cf C__law_whole (hr.mono (by decide)) (by rfl) (pa_cons (pv 0) pa_nil)))
      (pss_cons (ps_set (i := 2) sc__law_text.nd rfl (.inl rfl) (pe_lst (pa_cons (pe_op op_add_str (pe_op op_add_str (pe_op op_add_str (pe_callTy call_str_int (by rfl) m_str (by decide +kernel) (pa_cons (pe_ix (kk_ixt K) (pv 0) pe_int (fun _ _ => rfl)) pa_nil)) pe_str) (pe_callTy call_str_int (by rfl) m_str (by decide +kernel) (pa_cons (pe_ix (kk_ixt K) (pv 0) pe_int (fun _ _ => rfl)) pa_nil))) pe_str) pa_nil)))
      (pss_cons (ps_if (pt_cmpR op_gt (pe_ix (kk_ixt K) (pv 1) pe_int (fun _ _ => rfl)) pe_int (nomark _))
         (pss_one (ps_expr (pe_bm PySem.F.plainAttrs_list PySem.F.slot_list_append PySem.F.type_list_append mt_append (pv 2) (pa_cons (pe_op op_add_str pe_str (pe_callTy call_str_int (by rfl) m_str (by decide +kernel) (pa_cons (pe_ix (kk_ixt K) (pv 1) pe_int (fun _ _ => rfl)) pa_nil))) pa_nil))))
         pss_nil)
      (pss_cons (ps_if (pt_val (pe_ix (kk_ixt K) (pv 1) pe_int (fun _ _ => rfl)))
         (pss_one (ps_expr (pe_bm PySem.F.plainAttrs_list PySem.F.slot_list_append PySem.F.type_list_append mt_append (pv 2) (pa_cons pe_str pa_nil))))
         pss_nil)
      (pss_cons (ps_if (pt_cmpR op_gt (pe_ix (kk_ixt K) (pv 1) pe_int (fun _ _ => rfl)) pe_int (nomark _))
         (pss_one (ps_expr (pe_bm PySem.F.plainAttrs_list PySem.F.slot_list_append PySem.F.type_list_append mt_append (pv 2) (pa_cons (pe_op op_add_str pe_str (pe_callTy call_str_int (by rfl) m_str (by decide +kernel) (pa_cons (pe_ix (kk_ixt K) (pv 1) pe_int (fun _ _ => rfl)) pa_nil))) pa_nil))))
         pss_nil)
      (pss_cons (ps_setLc (i := 3) (own := [("_law_number", 4)]) (g := (gName 4)) (tt := tYes) rfl sc__law_text.nd rfl rfl (sw_true rfl rfl rfl (by decide +kernel)) (pi_tup (pe_ix (kk_ixt K) (pv 1) pe_int (fun _ _ => rfl))) (blkOk_by (own := [("_law_number", 4)]) (N := N__law_text) (sc := defScope s__law_text) (by decide +kernel)) (fun _ _ _ _ _ => pg_name (i := 4) sc__law_text.nd rfl (Or.inl rfl)) (fun _ _ _ _ _ => pts_nil) (fun _ _ _ _ _ => (pe_callTy call_str_int (by rfl) m_str (by decide +kernel) (pa_cons (pv 4) pa_nil))))
      (pss_cons (ps_if (pt_cmpR op_gt (pe_callB (call_maxT K rfl hu64) (by rfl) m_max (by decide +kernel) (pa_cons (pe_ix (kk_ixt K) (pv 1) pe_int (fun _ _ => rfl)) pa_nil)) pe_int (nomark _))
         (pss_one (ps_expr (pe_bm PySem.F.plainAttrs_list PySem.F.slot_list_append PySem.F.type_list_append mt_append (pv 2) (pa_cons (pe_op op_add_str pe_str (pe_ifExp (pt_cmpR op_eq (pe_lenSetS (by rfl) m_len (by rfl) m_set (pv 3)) pe_int (nomark _)) (pe_ix (kk_ixl K) (pv 3) pe_int (fun _ _ => rfl)) (pe_join pe_str (pv 3)))) pa_nil))))
         pss_nil)
      (pss_cons (ps_for PassesOwn.never rfl (pi_tup (pe_tup (pa_cons (pe_tup (pa_cons pe_int (pa_cons pe_str pa_nil))) (pa_cons (pe_tup (pa_cons pe_int (pa_cons pe_str pa_nil))) (pa_cons (pe_tup (pa_cons pe_int (pa_cons pe_str pa_nil))) pa_nil))))) (pg_tup (by rfl) (pgs_cons (pg_name (i := 5) sc__law_text.nd rfl (.inl rfl)) (pgs_cons (pg_name (i := 6) sc__law_text.nd rfl (.inl rfl)) pgs_nil)))
         (pss_one (ps_set (i := 2) sc__law_text.nd rfl (.inl rfl) (pe_op op_cat (pv 2) (pe_op op_rep (pe_lst (pa_cons (pe_op op_add_str (pe_op op_add_str (pv 6) pe_str) (pe_callTy call_str_int (by rfl) m_str (by decide +kernel) (pa_cons (pe_ix (kk_ixt K) (pv 1) (pv 5) (fun _ _ => rfl)) pa_nil))) pa_nil)) (pe_callTy call_int1 (by rfl) m_int (by decide +kernel) (pa_cons (pe_cmpR op_gt (pe_ix (kk_ixt K) (pv 1) (pv 5) (fun _ _ => rfl)) pe_int (nomark _)) pa_nil)))))))
      (pss_one (ps_ret (pe_join pe_str (pv 2)))))))))))), ?_⟩
    have ok := hD.ok
    have F := ok.figs
    have lp := num_len (n := f'.p) (by have := F.p0; omega) (by have := F.p1; omega)
    have ls := num_len (n := f'.s) (by have := F.s0; omega) (by have := F.s1; omega)
    have lg := num_len F.g0 (by have := F.g1; omega)
    have lm := num_len F.m0 (by have := F.m1; omega)
    have l1 : (Str.ofString " parts by ").length = 10 := rfl
    have l2 : (Str.ofString " days").length = 5 := rfl
    have l3 : (Str.ofString "grace ").length = 6 := rfl
    have l4 : (Str.ofString "misses ").length = 7 := rfl
    have s1' : (1 : Nat) ≤ sizeLine := by rw [sizeLine_eq]; omega
    refine ⟨_, rfl, t, f', kv, kd, rfl, hD, fun H1 w a s1 hW ha => ?_⟩
    refine ⟨_, rfl, t, _, _, _, rfl, rfl, seqT_same s1 hD.1, rfl, _, rfl, small_log ⟨by have := F.p0; omega, by have := F.p1; omega⟩, _, _, rfl, rfl, by rw [sizeLine_eq]; omega, _, rfl, t, _, _, _, rfl, rfl, seqT_same s1 hD.1, rfl, _, rfl, small_log ⟨by have := F.s0; omega, by have := F.s1; omega⟩, _, _, rfl, rfl, by rw [len_app, sizeLine_eq]; omega, _, _, rfl, rfl, by rw [len_app, len_app, sizeLine_eq]; omega, s1', fun L nL => ?_⟩
    have nL0 : H L = none := s1.free nL
    have hL : upd H1 L (.lst [.str (partT f'.p f'.s)]) L = some (.lst ([partT f'.p f'.s].map V.str)) := upd_same
    have sN := s1.trans (same_new (o := .lst [.str (partT f'.p f'.s)]) nL)
    have hW2 := (hW.same (same_new (o := .lst [.str (partT f'.p f'.s)]) nL)).1
    have upH : ∀ {G : Hp} {o : HO}, Same H G → Same H (upd G L o) := fun {G o} s c u e => by
      rw [upd_ne (ne_of_none e nL0)]
      exact s c u e
    show gName 2 (.ref L) _ (upd H1 L (.lst [.str (partT f'.p f'.s)])) _
    have ha2 := seqT_same (same_new (o := .lst [.str (partT f'.p f'.s)]) nL) ha
    generalize upd H1 L (.lst [.str (partT f'.p f'.s)]) = G0 at *
    dsimp only [gName, tSeq]
    refine app_if (l := [partT f'.p f'.s]) (b := decide (0 < f'.g)) (z := cntT "grace" f'.g) rfl hL (by show 1 ≤ 100; decide) (fun Y y => ⟨_, rfl, w, _, _, _, rfl, rfl, hW2, rfl, _, _, rfl, rfl, _, rfl, y⟩) (fun hb Y y => ?_) ?_
    · refine ⟨_, rfl, w, _, _, _, rfl, rfl, hW2, rfl, _, rfl, small_log ⟨F.g0, by have := F.g1; omega⟩, _, _, rfl, rfl, by rw [sizeLine_eq]; omega, ?_⟩
      rw [cnt_is (w := "grace") (of_decide_eq_true hb) (by decide +kernel)]
      exact y
    have tupL : ∀ {G : Hp} {x : Addr} {xs ys : List V} {o : HO}, G L = some (.lst ys) → SqT K G x xs → SqT K (upd G L o) x xs := fun {G x xs ys o} hL h => by
      rcases h with (h | ⟨u, h⟩) | h
      · exact .inl (.inl (by rw [upd_ne (ne_of h hL (by intro z; cases z))]; exact h))
      · exact .inl (.inr ⟨u, by rw [upd_ne (ne_of h hL (by intro z; cases z))]; exact h⟩)
      · exact .inr h
    have nextH : ∀ {G : Hp} {l : List Str} {z : Str} {b : Bool}, (Same H G ∧ SqT K G w [.int f'.p, .int f'.s, .int f'.g, .bl f'.l, .int f'.m, .ref a, .int f'.fi, .int f'.fa, .int f'.ba] ∧ SqT K G a (f'.ks.map V.int) ∧ G L = some (.lst (l.map V.str))) →
        ∃ G2, (if b = true then upd G L (.lst ((l ++ [z]).map V.str)) else G) = G2 ∧ Same H G2 ∧ SqT K G2 w [.int f'.p, .int f'.s, .int f'.g, .bl f'.l, .int f'.m, .ref a, .int f'.fi, .int f'.fa, .int f'.ba] ∧ SqT K G2 a (f'.ks.map V.int) ∧ G2 L = some (.lst ((l ++ if b = true then [z] else []).map V.str)) := fun {G l z b} h => by
      obtain ⟨h1, h2, h3, h4⟩ := h
      cases b with
      | true => exact ⟨_, rfl, upH h1, tupL h4 h2, tupL h4 h3, upd_same⟩
      | false => exact ⟨_, rfl, h1, h2, h3, by simpa using h4⟩
    have lenA : ∀ {l : List Str} {z : Str} {b : Bool}, (l ++ if b = true then [z] else []).length ≤ l.length + 1 := fun {l z b} => by cases b <;> simp
    obtain ⟨G1, eG1, g1, g2, g3, g4⟩ := nextH (z := cntT "grace" f'.g) (b := decide (0 < f'.g)) ⟨sN, hW2, ha2, hL⟩
    rw [eG1]
    dsimp only [tSeq]
    refine app_if (b := f'.l) (z := Str.ofString "from last") rfl g4 (Nat.le_trans lenA (by show 2 ≤ 100; decide)) (fun Y y => ⟨_, rfl, w, _, _, _, rfl, rfl, g2, rfl, _, rfl, y⟩) (fun hb Y y => y) ?_
    obtain ⟨G2, eG2, p1, p2, p3, p4⟩ := nextH (z := Str.ofString "from last") (b := f'.l) ⟨g1, g2, g3, g4⟩
    rw [eG2]
    dsimp only [tSeq]
    refine app_if (b := decide (0 < f'.m)) (z := cntT "misses" f'.m) rfl p4 (Nat.le_trans lenA (Nat.le_trans (Nat.succ_le_succ lenA) (by show 3 ≤ 100; decide))) (fun Y y => ⟨_, rfl, w, _, _, _, rfl, rfl, p2, rfl, _, _, rfl, rfl, _, rfl, y⟩) (fun hb Y y => ?_) ?_
    · refine ⟨_, rfl, w, _, _, _, rfl, rfl, p2, rfl, _, rfl, small_log ⟨F.m0, by have := F.m1; omega⟩, _, _, rfl, rfl, by rw [sizeLine_eq]; omega, ?_⟩
      rw [cnt_is (w := "misses") (of_decide_eq_true hb) (by decide +kernel)]
      exact y
    obtain ⟨G3, eG3, q1, q2, q3, q4⟩ := nextH (z := cntT "misses" f'.m) (b := decide (0 < f'.m)) ⟨p1, p2, p3, p4⟩
    rw [eG3]
    dsimp only [tSeq]
    have hlk : f'.ks.length ≤ 6 := by
      have a : (f'.ks.length : Int) = f'.p := ok.len
      have := F.p1
      omega
    have hne : f'.ks ≠ [] := fun e => by
      have a : (f'.ks.length : Int) = f'.p := ok.len
      have := F.p0
      rw [e, List.length_nil] at a
      omega
    refine ⟨_, rfl, w, _, _, _, rfl, rfl, q2, rfl, a, rfl, ⟨_, q3⟩, fun D hD => vals_lc (fun v => match v with | .int k => .str (Str.ofString (toString k)) | _ => .non) (jok_t (K := K) q3) (by rw [List.length_map]; omega) hD (fun x hx G s Y N h1 => ?_) (fun G4 s4 hG4 => ?_)⟩
    · obtain ⟨k, hk, rfl⟩ := List.mem_map.mp hx
      exact ⟨rfl, _, rfl, k, rfl, small_log (ok.bnd k hk), h1 G (Same.refl G)⟩
    have hG5 : G4 D = some (.lst ((f'.ks.map fun k => Str.ofString (toString k)).map V.str)) := by
      rw [hG4, List.map_map, List.map_map]
      rfl
    have hDL : D ≠ L := fun e => by rw [e, q4] at hD; cases hD
    have r1 : Same H G4 := q1.trans s4
    have r2 := seqT_same s4 q2
    have r3 := seqT_same s4 q3
    have r4 := s4 _ _ q4
    show gName 3 (.ref D) _ G4 _
    dsimp only [gName, tSeq]
    obtain ⟨k0, kr, hks⟩ : ∃ k0 kr, f'.ks = k0 :: kr := by
      cases h : f'.ks with
      | nil => exact absurd h hne
      | cons a b => exact ⟨a, b, rfl⟩
    refine app_if (b := f'.ks.any (fun k => decide (0 < k))) (z := keptT f'.ks) rfl r4 (Nat.le_trans lenA (Nat.le_trans (Nat.succ_le_succ lenA) (Nat.le_trans (Nat.succ_le_succ (Nat.succ_le_succ lenA)) (by show 4 ≤ 100; decide)))) (fun Y y => ?_) (fun hb Y y => ?_) ?_
    · refine ⟨_, rfl, w, _, _, _, rfl, rfl, r2, rfl, a, k0, kr, rfl, by rw [hks] at r3; exact r3, fun m hm hmax => ⟨_, _, rfl, rfl, _, rfl, ?_⟩⟩
      have e : decide (0 < m) = f'.ks.any (fun k => decide (0 < k)) := by
        rw [hks]
        by_cases c : 0 < m
        · rw [decide_eq_true c]
          exact (List.any_eq_true.mpr ⟨m, hm, decide_eq_true c⟩).symm
        · rw [decide_eq_false c]
          exact (List.any_eq_false.mpr fun k hk => by
            have := hmax k hk
            simp only [decide_eq_true_eq]
            omega).symm
      rw [e]
      exact y
    · have e5 : (Str.ofString "keep ").length = 5 := rfl
      refine ⟨_, rfl, D, _, rfl, SqL.of hG5, by rw [List.length_map]; omega, fun c hc => ⟨rfl, _, rfl, ite2 (fun z => ?_) (fun z => ?_)⟩⟩
      · have ec : c = 1 := by
          have := V.int.inj (of_decide_eq_true z)
          omega
        obtain ⟨zk, hzk⟩ := hc.mp ec
        have al : f'.ks.all (fun k => decide (k = f'.ks.headD 0)) = true := List.all_eq_true.mpr fun j hj => decide_eq_true (by
          have h1 := (hzk _).mp (List.mem_map.mpr ⟨j, hj, rfl⟩)
          have h2 := (hzk _).mp (List.mem_map.mpr ⟨k0, by rw [hks]; exact List.mem_cons_self, rfl⟩)
          rw [hks]
          show j = k0
          exact str_int_inj (ok.bnd j hj) (ok.bnd k0 (by rw [hks]; exact List.mem_cons_self)) (h1.trans h2.symm))
        have k0m : k0 ∈ f'.ks := by rw [hks]; exact List.mem_cons_self
        have p0 : 0 < k0 := by
          obtain ⟨j, hj, hp⟩ := List.any_eq_true.mp hb
          have h1 := of_decide_eq_true (List.all_eq_true.mp al j hj)
          rw [hks] at h1
          have h2 : j = k0 := h1
          have := of_decide_eq_true hp
          omega
        have at0 : atI ((f'.ks.map fun k => Str.ofString (toString k)).map V.str) 0 = some (.str (Str.ofString (toString k0))) := by
          rw [hks]
          unfold atI ixN
          rw [if_pos (by decide), if_pos (by rw [List.map_cons, List.map_cons, List.length_cons]; omega)]
          rfl
        have lk := num_len (n := k0) (by omega) (by have := ok.bnd k0 k0m; omega)
        refine ⟨_, rfl, D, _, _, _, rfl, rfl, SqL.of hG5, at0, _, _, rfl, rfl, by rw [e5, sizeLine_eq]; omega, ?_⟩
        have : keptT f'.ks = Str.ofString "keep " ++ Str.ofString (toString k0) := by
          rw [keptT, if_pos al, hks]
          show cntT "keep" k0 = _
          exact (cnt_is (w := "keep") p0 (by decide +kernel)).symm
        rw [← this]
        exact y
      · have al : ¬ f'.ks.all (fun k => decide (k = f'.ks.headD 0)) = true := fun al => by
          refine z (decide_eq_true ?_)
          have : c = 1 := hc.mpr ⟨Str.ofString (toString k0), fun j => ⟨fun hj => ?_, fun e => by rw [e]; exact List.mem_map.mpr ⟨k0, by rw [hks]; exact List.mem_cons_self, rfl⟩⟩⟩
          · rw [this]
            rfl
          · obtain ⟨i, hi, rfl⟩ := List.mem_map.mp hj
            have h1 := of_decide_eq_true (List.all_eq_true.mp al i hi)
            rw [hks] at h1
            rw [show i = k0 from h1]
        have ln : ∀ l : List Int, (∀ k ∈ l, 0 ≤ k ∧ k ≤ 100) → ((l.map fun k => Str.ofString (toString k)).map fun x => x.length).sum ≤ 4 * l.length := fun l hb => by
          induction l with
          | nil => exact Nat.le_refl _
          | cons k l ih =>
            have a := ih fun x hx => hb x (List.mem_cons_of_mem _ hx)
            have c := hb k List.mem_cons_self
            have b := num_len (n := k) c.1 (by omega)
            rw [List.map_cons, List.map_cons, List.sum_cons, List.length_cons]
            omega
        have l1' := ln f'.ks ok.bnd
        have jl := PySem.StrLaws.join_length_le (Str.ofString " ") (f'.ks.map fun k => Str.ofString (toString k))
        rw [← TL.join_eq] at jl
        have e1 : (Str.ofString " ").length = 1 := rfl
        rw [e1, List.length_map] at jl
        refine ⟨⟨_, rfl⟩, _, rfl, _, _, _, rfl, rfl, .inl (SqL.of hG5), ?_, _, _, rfl, rfl, by rw [e5, sizeLine_eq]; omega, ?_⟩
        · rw [e1, List.length_map]
          omega
        have : keptT f'.ks = Str.ofString "keep " ++ Txt.join " " (f'.ks.map fun k => Str.ofString (toString k)) := by rw [keptT, if_neg al]
        rw [← this]
        exact y
    obtain ⟨G5, eG5, t1, t2, t3, t4⟩ := nextH (z := keptT f'.ks) (b := f'.ks.any (fun k => decide (0 < k))) ⟨r1, r2, r3, r4⟩
    rw [eG5]
    dsimp only [tSeq]
    have lenA2 : ∀ {x : Str} {b : Bool}, (if b = true then [x] else []).length ≤ 1 := fun {x b} => by cases b <;> simp
    refine ⟨by show 2 ≤ sizeLine; decide, fun u1 n1 => ⟨by show 2 ≤ sizeLine; decide, fun u2 n2 => ⟨by show 2 ≤ sizeLine; decide, fun u3 n3 => ⟨by show 3 ≤ sizeLine; decide, fun tt ntt => ?_⟩⟩⟩⟩
    have eT1 := upd_same (H := G5) (a := u1) (o := .tup [.int 6, .str (Str.ofString "fine")])
    have eT2 := upd_same (H := upd G5 u1 (.tup [.int 6, .str (Str.ofString "fine")])) (a := u2) (o := .tup [.int 7, .str (Str.ofString "falls")])
    have eT3 := upd_same (H := upd (upd G5 u1 (.tup [.int 6, .str (Str.ofString "fine")])) u2 (.tup [.int 7, .str (Str.ofString "falls")])) (a := u3) (o := .tup [.int 8, .str (Str.ofString "back")])
    have eT4 := upd_same (H := upd (upd (upd G5 u1 (.tup [.int 6, .str (Str.ofString "fine")])) u2 (.tup [.int 7, .str (Str.ofString "falls")])) u3 (.tup [.int 8, .str (Str.ofString "back")])) (a := tt) (o := .tup [.ref u1, .ref u2, .ref u3])
    have w4 := same_new (o := .tup [.ref u1, .ref u2, .ref u3]) ntt
    have w3 := same_new (o := .tup [.int 8, .str (Str.ofString "back")]) n3
    have w2 := same_new (o := .tup [.int 7, .str (Str.ofString "falls")]) n2
    have w1 := same_new (o := .tup [.int 6, .str (Str.ofString "fine")]) n1
    have eT1 := w4 _ _ (w3 _ _ (w2 _ _ eT1))
    have eT2 := w4 _ _ (w3 _ _ eT2)
    have eT3 := w4 _ _ eT3
    have wA := ((w1.trans w2).trans w3).trans w4
    have hB : (lawT f').length ≤ 5 := by
      have a1 := lenA2 (x := cntT "grace" f'.g) (b := decide (0 < f'.g))
      have a2 := lenA2 (x := Str.ofString "from last") (b := f'.l)
      have a3 := lenA2 (x := cntT "misses" f'.m) (b := decide (0 < f'.m))
      have a4 := lenA2 (x := keptT f'.ks) (b := f'.ks.any (fun k => decide (0 < k)))
      unfold lawT
      rw [List.length_append, List.length_append, List.length_append, List.length_append]
      have a0 : [partT f'.p f'.s].length = 1 := rfl
      omega
    have t4' : G5 L = some (.lst ((lawT f').map V.str)) := t4
    have t5 := wA _ _ t4'
    generalize (upd (upd (upd (upd G5 u1 (.tup [.int 6, .str (Str.ofString "fine")])) u2 (.tup [.int 7, .str (Str.ofString "falls")])) u3 (.tup [.int 8, .str (Str.ofString "back")])) tt (.tup [.ref u1, .ref u2, .ref u3])) = HT at *
    have t2' := seqT_same wA t2
    have sH := t1.trans wA
    have oT : ∀ {x : Nat} {l : List Str}, (opts f')[x]? = some l → ∃ (u : Addr) (k : Int) (wd : Str) (v : Int), [V.ref u1, .ref u2, .ref u3][x]? = some (.ref u) ∧ HT u = some (.tup [.int k, .str wd]) ∧ atI ([.int f'.p, .int f'.s, .int f'.g, .bl f'.l, .int f'.m, .ref a, .int f'.fi, .int f'.fa, .int f'.ba] : List V) k = some (.int v) ∧ 0 ≤ v ∧ v ≤ 100 ∧ wd.length ≤ 10 ∧ l = opt wd v := fun {x l} h => by
      match x, h with
      | 0, h => cases h; exact ⟨u1, 6, "fine", f'.fi, rfl, eT1, rfl, F.fi0, F.fi1, by decide, rfl⟩
      | 1, h => cases h; exact ⟨u2, 7, "falls", f'.fa, rfl, eT2, rfl, F.fa0, by have := F.fa1; omega, by decide, rfl⟩
      | 2, h => cases h; exact ⟨u3, 8, "back", f'.ba, rfl, eT3, rfl, F.ba0, by have := F.ba1; omega, by decide, rfl⟩
      | n + 3, h => exact nomatch h
    refine ⟨tt, rfl, ⟨_, SqT.of eT4⟩, for_tup (K := K) (a := tt) (xs := [.ref u1, .ref u2, .ref u3]) (fun i σ H' => ∃ (L' : Addr) (s5 s6 : Option V), σ = [some (.ref t), some (.ref w), some (.ref L'), some (.ref D), none, s5, s6] ∧ Same HT H' ∧ (lawT f' ++ ((opts f').take i).flatten).length ≤ 5 + i ∧ H' L' = some (.lst ((lawT f' ++ ((opts f').take i).flatten).map V.str)))
      ⟨_, _, _, rfl, Same.refl _, by simpa using hB, by rw [List.take_zero, List.flatten_nil, List.append_nil]; exact t5⟩ (fun i σ H' _ h => by obtain ⟨_, _, _, _, h, _⟩ := h; exact SqT.of (h _ _ eT4)) (fun i x σ H' hx h => ?_) (fun σ H' h => ?_)⟩
    · obtain ⟨L', s5, s6, rfl, sT, hl, hL'⟩ := h
      have hi : i < 3 := by
        obtain ⟨h, _⟩ := List.getElem?_eq_some_iff.mp hx
        exact h
      have ho : (opts f')[i]? = some ((opts f')[i]'hi) := List.getElem?_eq_getElem hi
      obtain ⟨u, k, wd, v, hu, hHu, hat, v0, v1, lw, hop⟩ := oT ho
      rw [hx] at hu
      cases hu
      have lv := num_len (n := v) v0 (by omega)
      have l1s : (Str.ofString " ").length = 1 := rfl
      have tk : (opts f').take (i + 1) = (opts f').take i ++ [opt wd v] := by
        rw [← hop]
        exact take_snoc ho
      refine ⟨u, _, rfl, SqT.of (sT _ _ hHu), rfl, _, _, rfl, _, _, rfl, rfl, ?_⟩
      refine ⟨_, rfl, _, rfl, _, _, rfl, rfl, by rw [l1s, sizeLine_eq]; omega, _, rfl, _, rfl, w, _, _, _, rfl, rfl, seqT_same sT t2', hat, _, rfl, small_log ⟨v0, v1⟩, _, _, rfl, rfl, by rw [len_app, l1s, sizeLine_eq]; omega, by show 1 ≤ sizeLine; decide, fun l1 nl1 => ?_⟩
      refine ⟨_, rfl, _, rfl, w, _, _, _, rfl, rfl, seqT_same (sT.trans (same_new nl1)) t2', hat, _, _, rfl, rfl, .inr ⟨_, rfl, l1, _, _, rfl, rfl, upd_same, ?_, ?_, ?_, fun l2 nl2 => ?_⟩⟩
      · split <;> decide
      · split <;> decide
      · split
        · show 1 ≤ sizeLine
          decide
        · show 0 ≤ sizeLine
          decide
      have ez : (List.replicate (if decide (0 < v) = true then (1 : Int) else 0).toNat [V.str (wd ++ Str.ofString " " ++ Str.ofString (toString v))]).flatten = (opt wd v).map V.str := by
        unfold opt
        by_cases c : 0 < v
        · rw [decide_eq_true c, if_pos rfl, if_pos rfl, cnt_is c rfl]
          rfl
        · rw [decide_eq_false c, if_neg (by decide), if_neg (by decide)]
          rfl
      have lo : (opt wd v).length ≤ 1 := lenA2
      have hlen : (lawT f' ++ ((opts f').take (i + 1)).flatten).length ≤ 5 + (i + 1) := by
        rw [tk, List.flatten_append, ← List.append_assoc, List.length_append]
        have e1 : ([opt wd v].flatten).length = (opt wd v).length := by simp
        omega
      refine ⟨L', l2, _, _, rfl, rfl, (same_new nl2) _ _ ((same_new nl1) _ _ hL'), upd_same, ?_, fun L2 nL2 => ⟨L2, _, _, rfl, ((sT.trans (same_new nl1)).trans (same_new nl2)).trans (same_new nL2), hlen, ?_⟩⟩
      · rw [ez, List.length_map, List.length_map, sizeLine_eq]
        omega
      · rw [upd_same, ez, tk, List.flatten_append, List.map_append, List.map_append, List.map_append, List.append_assoc]
        simp
    · obtain ⟨L', s5, s6, rfl, sT, hl, hL'⟩ := h
      have e3 : (opts f').take ([V.ref u1, .ref u2, .ref u3].length) = opts f' := rfl
      rw [e3, ← cls_is ok] at hL'
      obtain ⟨b1, b2⟩ := cls_len ok
      have e2 : (Str.ofString ", ").length = 2 := rfl
      refine ⟨⟨_, rfl⟩, _, rfl, _, _, _, rfl, rfl, .inl (SqL.of hL'), ?_, q H' (sH.trans sT)⟩
      rw [e2]
      omega
theorem hu1_of {n : Nat} (h : n + 64 < cLine) : n + 1 < cLine := by omega
def madeOf (t sg : Str) : Bool := !decide (V.str t = V.str (Str.ofString "")) && (TL.tl t).all fun c => decide (c ∈ TL.tl sg)
/-- what number_in tells of a text, with 100 the most -/
def numV (t : Str) : V := if (decide (t.length ≤ 3) && madeOf t (Str.ofString "0123456789")) = true then (if ((NumText.digitsVal (TL.tl t) : Nat) : Int) ≤ 100 ∧ Str.ofString (toString ((NumText.digitsVal (TL.tl t) : Nat) : Int)) = t then .int ((NumText.digitsVal (TL.tl t) : Nat) : Int) else .non) else .non
/-! ### is_made_of -/
abbrev s_is_made_of : Stmt := topS 15
abbrev N_is_made_of : List Str := ["text", "signs", "sign"]
theorem sc_is_made_of : FnScope N_is_made_of ["text", "signs"] (defScope s_is_made_of) := ⟨rfl, rfl, rfl, by decide +kernel, rfl, by decide +kernel, by decide +kernel⟩
def sp_is_made_of (K : PySem.W.Frag) : Sp := fun vs H Q _ => ∃ (t sg : Str), vs = [.str t, .str sg] ∧ t.length ≤ 100000 ∧ ∀ H', Same H H' → Q (.bl (madeOf t sg)) H'
theorem ok_is_made_of {f : Addr} {fd : FuncData} (F : Fun K "is_made_of" "is_made_of" s_is_made_of f fd) (g : mg "is_made_of" = some (.ref f)) (bd : Binds K fd ["text", "signs"] []) (m_all : mg "all" = none) : CF P w K mg base 1 "is_made_of" ["text", "signs"] (sp_is_made_of K) := by
  refine ⟨f, fd, F.ok sc_is_made_of (fun vs H Q E h => ?_) (fun cdv A outer s H vs Q E hr h => ?_), g, F.kp, bd⟩
  · first | (obtain ⟨_, rfl, _⟩ := h; rfl) | (obtain ⟨_, _, rfl, _⟩ := h; rfl) | (obtain ⟨_, _, _, rfl, _⟩ := h; rfl) | (obtain ⟨_, _, _, _, rfl, _⟩ := h; rfl) | (obtain ⟨_, _, _, _, _, rfl, _⟩ := h; rfl) | (obtain ⟨_, _, _, _, _, _, rfl, _⟩ := h; rfl) | (obtain ⟨_, _, _, _, _, _, _, rfl, _⟩ := h; rfl) | (obtain ⟨_, _, _, _, _, _, _, _, rfl, _⟩ := h; rfl) | (obtain ⟨_, _, _, _, _, _, _, _, _, rfl, _⟩ := h; rfl) | (obtain ⟨_, _, _, _, _, _, _, _, _, _, rfl, _⟩ := h; rfl) | (obtain ⟨_, _, _, _, _, _, _, _, _, _, _, rfl, _⟩ := h; rfl) | (obtain ⟨_, _, _, _, _, _, _, _, _, _, _, _, rfl, _⟩ := h; rfl) | (obtain ⟨_, _, _, _, _, _, _, _, _, _, _, _, _, rfl, _⟩ := h; rfl) | (obtain ⟨_, _, _, _, _, _, _, _, _, _, _, _, _, _, rfl, _⟩ := h; rfl) | (obtain ⟨_, _, _, _, _, _, _, _, _, _, _, _, _, _, _, rfl, _⟩ := h; rfl)
  · have hu64 := hr.units
    obtain ⟨t, sg, rfl, hz, q⟩ := h
    refine ⟨_, (pss_one (ps_ret (pe_and (pe_cmpR op_ne (pv 0) pe_str (nomark _)) (pe_one (pe_callB (kk_all K rfl) (by rfl) m_all (by decide +kernel) (pa_cons (pe_lc (own := [("sign", 2)]) (g := (gName 2)) (tt := tYes) rfl sc_is_made_of.nd (pi_str (pv 0)) (blkOk_by (own := [("sign", 2)]) (N := N_is_made_of) (sc := defScope s_is_made_of) (by decide +kernel)) (fun _ _ _ _ _ => pg_name (i := 2) sc_is_made_of.nd rfl (Or.inl rfl)) (fun _ _ _ _ _ => pts_nil) (fun _ _ _ _ _ => (pe_cmpR op_in_sign (pv 2) (pv 1) (by rfl)))) pa_nil)))))), ?_⟩
    refine ⟨_, rfl, rfl, _, rfl, ?_⟩
    by_cases ht : V.str t = V.str (Str.ofString "")
    · have e : madeOf t sg = false := by
        unfold madeOf
        rw [decide_eq_true ht]
        rfl
      rw [e] at q
      rw [decide_eq_true ht]
      exact iteF (q H (Same.refl H))
    · rw [decide_eq_false ht]
      refine iteT ⟨_, rfl, t, rfl, fun D hD => lc_it walk_str (fun i H' => Same H H' ∧ H' D = some (.lst ((((TL.tl t).take i).map fun c => decide (c ∈ TL.tl sg)).map V.bl))) ⟨same_new hD, upd_same⟩ (fun _ _ _ _ => trivial) (fun i x H1 H2 hi h hy => ?_) (fun H' h => ?_)⟩
      · obtain ⟨rfl, c, hc, rfl⟩ := hy
        have hc2 : (TL.tl t)[i]? = some c := by simpa using hc
        refine ⟨rfl, _, rfl, _, rfl, c, sg, rfl, rfl, _, h.2, ?_, ?_, ?_⟩
        · rw [List.length_map, List.length_map, List.length_take]
          have : (TL.tl t).length = t.length := (TL.len_tl t).symm
          exact Nat.lt_of_le_of_lt (Nat.min_le_right _ _) (Nat.lt_of_le_of_lt (by rw [this]; exact hz) (by decide))
        · exact fun b o e => by
            rw [upd_ne (ne_of_none e hD)]
            exact h.1 _ _ e
        · rw [upd_same, List.take_add_one, hc2, Option.toList_some, List.map_append, List.map_append]
          rfl
      · obtain ⟨s1, h1⟩ := h
        have hn : (TL.tl t).take t.cps.size = TL.tl t := List.take_of_length_le (by simp [TL.tl])
        rw [hn] at h1
        refine ⟨D, _, rfl, SqL.of h1, ?_⟩
        have e : madeOf t sg = ((TL.tl t).map fun c => decide (c ∈ TL.tl sg)).all id := by
          unfold madeOf
          rw [decide_eq_false ht, List.all_map]
          rfl
        rw [← e]
        exact q _ s1
/-! ### number_in -/
abbrev s_number_in : Stmt := topS 17
abbrev N_number_in : List Str := ["text", "most", "number"]
theorem sc_number_in : FnScope N_number_in ["text", "most"] (defScope s_number_in) := ⟨rfl, rfl, rfl, by decide +kernel, rfl, by decide +kernel, by decide +kernel⟩
theorem figs_in (c : Nat) : c ∈ TL.tl (Str.ofString "0123456789") ↔ 48 ≤ c ∧ c ≤ 57 := by
  have e : TL.tl (Str.ofString "0123456789") = [48, 49, 50, 51, 52, 53, 54, 55, 56, 57] := by decide +kernel
  rw [e]
  simp only [List.mem_cons, List.not_mem_nil, or_false]
  omega
theorem empty_iff (t : Str) : V.str t = V.str (Str.ofString "") ↔ TL.tl t = [] :=
  ⟨fun h => by cases h; rfl, fun h => congrArg V.str (TL.ext_tl (y := Str.ofString "") (h.trans rfl))⟩
theorem made_of_figs {t : Str} : madeOf t (Str.ofString "0123456789") = true ↔ TL.tl t ≠ [] ∧ NumText.AllDigits (TL.tl t) := by
  unfold madeOf
  rw [Bool.and_eq_true, Bool.not_eq_true', decide_eq_false_iff_not, empty_iff, List.all_eq_true]
  constructor
  · rintro ⟨h1, h2⟩
    exact ⟨h1, fun c hc => (figs_in c).mp (of_decide_eq_true (h2 c hc))⟩
  · rintro ⟨h1, h2⟩
    exact ⟨h1, fun c hc => decide_eq_true ((figs_in c).mpr (h2 c hc))⟩
theorem int_of_figs {t : Str} (h0 : TL.tl t ≠ []) (hd : NumText.AllDigits (TL.tl t)) (hz : t.length ≤ 640) : PySem.intText? t = some ((NumText.digitsVal (TL.tl t) : Nat) : Int) := PySem.intText_digits hd h0 (by omega)
def sp_number_in (K : PySem.W.Frag) : Sp := fun vs H Q _ => ∃ (t : Str), vs = [.str t, .int 100] ∧ t.length ≤ 100000 ∧ ∀ H', Same H H' → Q (numV t) H'
theorem ok_number_in {f : Addr} {fd : FuncData} (F : Fun K "number_in" "number_in" s_number_in f fd) (g : mg "number_in" = some (.ref f)) (bd : Binds K fd ["text", "most"] []) (m_len : mg "len" = none) (m_str : mg "str" = none) (m_int : mg "int" = none) {t_FIGURES : Tok} (g_FIGURES : mg "FIGURES" = some (.str (Str.ofString "0123456789") t_FIGURES)) (C_is_made_of : CF P w K mg base 1 "is_made_of" ["text", "signs"] (sp_is_made_of K)) : CF P w K mg base 2 "number_in" ["text", "most"] (sp_number_in K) := by
  refine ⟨f, fd, F.ok sc_number_in (fun vs H Q E h => ?_) (fun cdv A outer s H vs Q E hr h => ?_), g, F.kp, bd⟩
  · first | (obtain ⟨_, rfl, _⟩ := h; rfl) | (obtain ⟨_, _, rfl, _⟩ := h; rfl) | (obtain ⟨_, _, _, rfl, _⟩ := h; rfl) | (obtain ⟨_, _, _, _, rfl, _⟩ := h; rfl) | (obtain ⟨_, _, _, _, _, rfl, _⟩ := h; rfl) | (obtain ⟨_, _, _, _, _, _, rfl, _⟩ := h; rfl) | (obtain ⟨_, _, _, _, _, _, _, rfl, _⟩ := h; rfl) | (obtain ⟨_, _, _, _, _, _, _, _, rfl, _⟩ := h; rfl) | (obtain ⟨_, _, _, _, _, _, _, _, _, rfl, _⟩ := h; rfl) | (obtain ⟨_, _, _, _, _, _, _, _, _, _, rfl, _⟩ := h; rfl) | (obtain ⟨_, _, _, _, _, _, _, _, _, _, _, rfl, _⟩ := h; rfl) | (obtain ⟨_, _, _, _, _, _, _, _, _, _, _, _, rfl, _⟩ := h; rfl) | (obtain ⟨_, _, _, _, _, _, _, _, _, _, _, _, _, rfl, _⟩ := h; rfl) | (obtain ⟨_, _, _, _, _, _, _, _, _, _, _, _, _, _, rfl, _⟩ := h; rfl) | (obtain ⟨_, _, _, _, _, _, _, _, _, _, _, _, _, _, _, rfl, _⟩ := h; rfl)
  · have hu64 := hr.units
    obtain ⟨t, rfl, hz, q⟩ := h
    refine ⟨_, (pss_cons (ps_if (PW.pt (pw_or (pt_cmpR op_gt (pe_callB call_len_str (by rfl) m_len PySem.boot_len (pa_cons (pv 0) pa_nil)) (pe_callB call_len_str (by rfl) m_len PySem.boot_len (pa_cons (pe_callTy call_str_int (by rfl) m_str (by decide +kernel) (pa_cons (pv 1) pa_nil)) pa_nil)) (nomark _)) (pw_or1 (pt_not (pt_val (pe_cf C_is_made_of (hr.mono (by decide)) (by rfl) (pa_cons (pv 0) (pa_cons (pe_glob (v := .str (Str.ofString "0123456789")) (by rfl) g_FIGURES ⟨_, rfl⟩) pa_nil))))))))
         (pss_one (ps_ret pe_non))
         pss_nil)
      (pss_cons (ps_set (i := 2) sc_number_in.nd rfl (.inl rfl) (pe_callTy call_int_str (by rfl) m_int (by decide +kernel) (pa_cons (pv 0) pa_nil)))
      (pss_cons (ps_if (PW.pt (pw_or (pt_cmpR op_gt (pv 2) (pv 1) (nomark _)) (pw_or1 (pt_cmpR op_ne (pe_callTy call_str_int (by rfl) m_str (by decide +kernel) (pa_cons (pv 2) pa_nil)) (pv 0) (nomark _)))))
         (pss_one (ps_ret pe_non))
         pss_nil)
      (pss_one (ps_ret (pv 2)))))), ?_⟩
    have h100 : (Str.ofString (toString (100 : Int))).length = 3 := by decide +kernel
    have hsl : t.length ≤ sizeLine := by rw [sizeLine_eq]; omega
    refine ⟨_, rfl, t, rfl, hsl, _, rfl, 100, rfl, by decide, _, rfl, by decide +kernel, _, _, rfl, rfl, _, rfl, ?_⟩
    rw [h100]
    by_cases c1 : t.length ≤ 3
    · rw [decide_eq_false (show ¬ ((3 : Nat) : Int) < (t.length : Int) by omega)]
      refine iteF ⟨_, rfl, t, _, rfl, hz, fun H1 s1 => ⟨_, rfl, ?_⟩⟩
      cases c2 : madeOf t (Str.ofString "0123456789") with
      | false =>
        have e : numV t = .non := by
          unfold numV
          rw [c2, Bool.and_false]
          rfl
        rw [e] at q
        exact iteT (q H1 s1)
      | true =>
        obtain ⟨h0, hd⟩ := made_of_figs.mp c2
        refine iteF ⟨_, rfl, t, _, rfl, int_of_figs h0 hd (by omega), by omega, ?_⟩
        generalize hn : ((NumText.digitsVal (TL.tl t) : Nat) : Int) = n
        have en : numV t = if n ≤ 100 ∧ Str.ofString (toString n) = t then .int n else .non := by
          unfold numV
          rw [c2, decide_eq_true c1, hn]
          rfl
        have n0 : 0 ≤ n := by omega
        refine ⟨_, rfl, _, rfl, _, _, rfl, rfl, _, rfl, ?_⟩
        by_cases c3 : n ≤ 100
        · rw [decide_eq_false (show ¬ 100 < n by omega)]
          refine iteF ⟨_, rfl, n, rfl, small_log ⟨n0, c3⟩, _, rfl, rfl, _, rfl, ?_⟩
          by_cases c4 : Str.ofString (toString n) = t
          · rw [en, if_pos ⟨c3, c4⟩] at q
            rw [decide_eq_true (show V.str (Str.ofString (toString n)) = V.str t by rw [c4])]
            exact iteF ⟨_, rfl, q H1 s1⟩
          · rw [en, if_neg (fun z => c4 z.2)] at q
            rw [decide_eq_false (fun z : V.str (Str.ofString (toString n)) = V.str t => c4 (V.str.inj z))]
            exact iteT (q H1 s1)
        · rw [en, if_neg (fun z => c3 z.1)] at q
          rw [decide_eq_true (show 100 < n by omega)]
          exact iteT (q H1 s1)
    · have e : numV t = .non := by
        unfold numV
        rw [decide_eq_false c1]
        rfl
      rw [e] at q
      rw [decide_eq_true (show ((3 : Nat) : Int) < (t.length : Int) by omega)]
      exact iteT (q H (Same.refl H))
theorem num_all : ∀ n : Fin 101, numV (Str.ofString (toString ((n : Nat) : Int))) = .int ((n : Nat) : Int) := by decide +kernel
theorem num_at {n : Int} (h : 0 ≤ n ∧ n ≤ 100) : numV (Str.ofString (toString n)) = .int n := by
  obtain ⟨i, rfl⟩ := Int.eq_ofNat_of_zero_le h.1
  exact num_all ⟨i, by omega⟩
/-! ### rule_text -/
abbrev s_rule_text : Stmt := topS 25
abbrev N_rule_text : List Str := ["rule"]
theorem sc_rule_text : FnScope N_rule_text ["rule"] (defScope s_rule_text) := ⟨rfl, rfl, rfl, by decide +kernel, rfl, by decide +kernel, by decide +kernel⟩
def sp_rule_text (K : PySem.W.Frag) (C : Addr) : Sp := fun vs H Q _ => ∃ (r : Addr) (f : Fg), vs = [.ref r] ∧ RuleAt K H C r f ∧ f.Ok ∧ ∀ H', Same H H' → Q (.str (txtT f)) H'
theorem ok_rule_text {f : Addr} {fd : FuncData} (F : Fun K "rule_text" "rule_text" s_rule_text f fd) (g : mg "rule_text" = some (.ref f)) (bd : Binds K fd ["rule"] []) {CR : Addr} (TQ : TEq K mg CR "Rule") (T_Rule : TRule K mg CR) (m_str : mg "str" = none) (C_Rule___str___0 : CTx P w K mg base CR 4 "__str__" (sp_Rule___str__ K CR)) : CF P w K mg base 7 "rule_text" ["rule"] (sp_rule_text K CR) := by
  refine ⟨f, fd, F.ok sc_rule_text (fun vs H Q E h => ?_) (fun cdv A outer s H vs Q E hr h => ?_), g, F.kp, bd⟩
  · first | (obtain ⟨_, rfl, _⟩ := h; rfl) | (obtain ⟨_, _, rfl, _⟩ := h; rfl) | (obtain ⟨_, _, _, rfl, _⟩ := h; rfl) | (obtain ⟨_, _, _, _, rfl, _⟩ := h; rfl) | (obtain ⟨_, _, _, _, _, rfl, _⟩ := h; rfl) | (obtain ⟨_, _, _, _, _, _, rfl, _⟩ := h; rfl) | (obtain ⟨_, _, _, _, _, _, _, rfl, _⟩ := h; rfl) | (obtain ⟨_, _, _, _, _, _, _, _, rfl, _⟩ := h; rfl) | (obtain ⟨_, _, _, _, _, _, _, _, _, rfl, _⟩ := h; rfl) | (obtain ⟨_, _, _, _, _, _, _, _, _, _, rfl, _⟩ := h; rfl) | (obtain ⟨_, _, _, _, _, _, _, _, _, _, _, rfl, _⟩ := h; rfl) | (obtain ⟨_, _, _, _, _, _, _, _, _, _, _, _, rfl, _⟩ := h; rfl) | (obtain ⟨_, _, _, _, _, _, _, _, _, _, _, _, _, rfl, _⟩ := h; rfl) | (obtain ⟨_, _, _, _, _, _, _, _, _, _, _, _, _, _, rfl, _⟩ := h; rfl) | (obtain ⟨_, _, _, _, _, _, _, _, _, _, _, _, _, _, _, rfl, _⟩ := h; rfl)
  · have hu64 := hr.units
    obtain ⟨r, f', rfl, hR, ok, q⟩ := h
    refine ⟨_, (pss_one (ps_ret (pe_callTy (kk_strO C_Rule___str___0 (hr.mono (by decide))) (by rfl) m_str (by decide +kernel) (pa_cons (pv 0) pa_nil)))), ?_⟩
    obtain ⟨dx, kt, h1, h2⟩ := id hR
    exact ⟨_, rfl, r, dx, _, rfl, h1, r, f', rfl, hR, ok, fun H1 s1 => ⟨_, rfl, q H1 s1⟩⟩
/-! ### the figures that stand in the dict behind the first clauses -/
theorem ne_parts_step : Str.ofString "parts" ≠ Str.ofString "step" := by decide +kernel
theorem ne_parts_grace : Str.ofString "parts" ≠ Str.ofString "grace" := by decide +kernel
theorem ne_parts_last : Str.ofString "parts" ≠ Str.ofString "last" := by decide +kernel
theorem ne_parts_misses : Str.ofString "parts" ≠ Str.ofString "misses" := by decide +kernel
theorem ne_parts_keep : Str.ofString "parts" ≠ Str.ofString "keep" := by decide +kernel
theorem ne_parts_fine : Str.ofString "parts" ≠ Str.ofString "fine" := by decide +kernel
theorem ne_parts_falls : Str.ofString "parts" ≠ Str.ofString "falls" := by decide +kernel
theorem ne_parts_back : Str.ofString "parts" ≠ Str.ofString "back" := by decide +kernel
theorem ne_step_parts : Str.ofString "step" ≠ Str.ofString "parts" := by decide +kernel
theorem ne_step_grace : Str.ofString "step" ≠ Str.ofString "grace" := by decide +kernel
theorem ne_step_last : Str.ofString "step" ≠ Str.ofString "last" := by decide +kernel
theorem ne_step_misses : Str.ofString "step" ≠ Str.ofString "misses" := by decide +kernel
theorem ne_step_keep : Str.ofString "step" ≠ Str.ofString "keep" := by decide +kernel
theorem ne_step_fine : Str.ofString "step" ≠ Str.ofString "fine" := by decide +kernel
theorem ne_step_falls : Str.ofString "step" ≠ Str.ofString "falls" := by decide +kernel
theorem ne_step_back : Str.ofString "step" ≠ Str.ofString "back" := by decide +kernel
theorem ne_grace_parts : Str.ofString "grace" ≠ Str.ofString "parts" := by decide +kernel
theorem ne_grace_step : Str.ofString "grace" ≠ Str.ofString "step" := by decide +kernel
theorem ne_grace_last : Str.ofString "grace" ≠ Str.ofString "last" := by decide +kernel
theorem ne_grace_misses : Str.ofString "grace" ≠ Str.ofString "misses" := by decide +kernel
theorem ne_grace_keep : Str.ofString "grace" ≠ Str.ofString "keep" := by decide +kernel
theorem ne_grace_fine : Str.ofString "grace" ≠ Str.ofString "fine" := by decide +kernel
theorem ne_grace_falls : Str.ofString "grace" ≠ Str.ofString "falls" := by decide +kernel
theorem ne_grace_back : Str.ofString "grace" ≠ Str.ofString "back" := by decide +kernel
theorem ne_last_parts : Str.ofString "last" ≠ Str.ofString "parts" := by decide +kernel
theorem ne_last_step : Str.ofString "last" ≠ Str.ofString "step" := by decide +kernel
theorem ne_last_grace : Str.ofString "last" ≠ Str.ofString "grace" := by decide +kernel
theorem ne_last_misses : Str.ofString "last" ≠ Str.ofString "misses" := by decide +kernel
theorem ne_last_keep : Str.ofString "last" ≠ Str.ofString "keep" := by decide +kernel
theorem ne_last_fine : Str.ofString "last" ≠ Str.ofString "fine" := by decide +kernel
theorem ne_last_falls : Str.ofString "last" ≠ Str.ofString "falls" := by decide +kernel
theorem ne_last_back : Str.ofString "last" ≠ Str.ofString "back" := by decide +kernel
theorem ne_misses_parts : Str.ofString "misses" ≠ Str.ofString "parts" := by decide +kernel
theorem ne_misses_step : Str.ofString "misses" ≠ Str.ofString "step" := by decide +kernel
theorem ne_misses_grace : Str.ofString "misses" ≠ Str.ofString "grace" := by decide +kernel
theorem ne_misses_last : Str.ofString "misses" ≠ Str.ofString "last" := by decide +kernel
theorem ne_misses_keep : Str.ofString "misses" ≠ Str.ofString "keep" := by decide +kernel
theorem ne_misses_fine : Str.ofString "misses" ≠ Str.ofString "fine" := by decide +kernel
theorem ne_misses_falls : Str.ofString "misses" ≠ Str.ofString "falls" := by decide +kernel
theorem ne_misses_back : Str.ofString "misses" ≠ Str.ofString "back" := by decide +kernel
theorem ne_keep_parts : Str.ofString "keep" ≠ Str.ofString "parts" := by decide +kernel
theorem ne_keep_step : Str.ofString "keep" ≠ Str.ofString "step" := by decide +kernel
theorem ne_keep_grace : Str.ofString "keep" ≠ Str.ofString "grace" := by decide +kernel
theorem ne_keep_last : Str.ofString "keep" ≠ Str.ofString "last" := by decide +kernel
theorem ne_keep_misses : Str.ofString "keep" ≠ Str.ofString "misses" := by decide +kernel
theorem ne_keep_fine : Str.ofString "keep" ≠ Str.ofString "fine" := by decide +kernel
theorem ne_keep_falls : Str.ofString "keep" ≠ Str.ofString "falls" := by decide +kernel
theorem ne_keep_back : Str.ofString "keep" ≠ Str.ofString "back" := by decide +kernel
theorem ne_fine_parts : Str.ofString "fine" ≠ Str.ofString "parts" := by decide +kernel
theorem ne_fine_step : Str.ofString "fine" ≠ Str.ofString "step" := by decide +kernel
theorem ne_fine_grace : Str.ofString "fine" ≠ Str.ofString "grace" := by decide +kernel
theorem ne_fine_last : Str.ofString "fine" ≠ Str.ofString "last" := by decide +kernel
theorem ne_fine_misses : Str.ofString "fine" ≠ Str.ofString "misses" := by decide +kernel
theorem ne_fine_keep : Str.ofString "fine" ≠ Str.ofString "keep" := by decide +kernel
theorem ne_fine_falls : Str.ofString "fine" ≠ Str.ofString "falls" := by decide +kernel
theorem ne_fine_back : Str.ofString "fine" ≠ Str.ofString "back" := by decide +kernel
theorem ne_falls_parts : Str.ofString "falls" ≠ Str.ofString "parts" := by decide +kernel
theorem ne_falls_step : Str.ofString "falls" ≠ Str.ofString "step" := by decide +kernel
theorem ne_falls_grace : Str.ofString "falls" ≠ Str.ofString "grace" := by decide +kernel
theorem ne_falls_last : Str.ofString "falls" ≠ Str.ofString "last" := by decide +kernel
theorem ne_falls_misses : Str.ofString "falls" ≠ Str.ofString "misses" := by decide +kernel
theorem ne_falls_keep : Str.ofString "falls" ≠ Str.ofString "keep" := by decide +kernel
theorem ne_falls_fine : Str.ofString "falls" ≠ Str.ofString "fine" := by decide +kernel
theorem ne_falls_back : Str.ofString "falls" ≠ Str.ofString "back" := by decide +kernel
theorem ne_back_parts : Str.ofString "back" ≠ Str.ofString "parts" := by decide +kernel
theorem ne_back_step : Str.ofString "back" ≠ Str.ofString "step" := by decide +kernel
theorem ne_back_grace : Str.ofString "back" ≠ Str.ofString "grace" := by decide +kernel
theorem ne_back_last : Str.ofString "back" ≠ Str.ofString "last" := by decide +kernel
theorem ne_back_misses : Str.ofString "back" ≠ Str.ofString "misses" := by decide +kernel
theorem ne_back_keep : Str.ofString "back" ≠ Str.ofString "keep" := by decide +kernel
theorem ne_back_fine : Str.ofString "back" ≠ Str.ofString "fine" := by decide +kernel
theorem ne_back_falls : Str.ofString "back" ≠ Str.ofString "falls" := by decide +kernel
def seg (b : Bool) (n : Str) (v : V) : List (Str × V) := if b = true then [(n, v)] else []
theorem lk_seg_ne {k n : Str} {b : Bool} {v : V} {l : List (Str × V)} (h : k ≠ n) : (seg b n v ++ l).lookup k = l.lookup k := by
  unfold seg
  cases b with
  | false => rfl
  | true =>
    rw [if_pos rfl, List.cons_append, List.nil_append, List.lookup_cons, beq_eq_false_iff_ne.mpr h]
theorem lk_seg_eq {n : Str} {b : Bool} {v : V} {l : List (Str × V)} : (seg b n v ++ l).lookup n = if b = true then some v else l.lookup n := by
  unfold seg
  cases b with
  | false => rfl
  | true => rw [if_pos rfl, if_pos rfl, List.cons_append, List.nil_append, List.lookup_cons, beq_self_eq_true]
theorem lk_cons_ne {k n : Str} {v : V} {l : List (Str × V)} (h : k ≠ n) : ((n, v) :: l).lookup k = l.lookup k := by
  rw [List.lookup_cons, beq_eq_false_iff_ne.mpr h]
theorem lk_cons_eq {n : Str} {v : V} {l : List (Str × V)} : ((n, v) :: l).lookup n = some v := by
  rw [List.lookup_cons, beq_self_eq_true]
def dictJ (f : Fg) (kv : V) (j : Nat) : List (Str × V) := ("parts", .int f.p) :: ("step", .int f.s) :: (seg (decide (1 < j) && decide (f.g ≠ 0)) "grace" (.int f.g) ++ (seg (decide (2 < j) && f.l) "last" (.bl true) ++ (seg (decide (3 < j) && decide (f.m ≠ 0)) "misses" (.int f.m) ++ (seg (decide (4 < j) && f.ks.any (fun k => decide (0 < k))) "keep" (kv) ++ (seg (decide (5 < j) && decide (f.fi ≠ 0)) "fine" (.int f.fi) ++ (seg (decide (6 < j) && decide (f.fa ≠ 0)) "falls" (.int f.fa) ++ (seg (decide (7 < j) && decide (f.ba ≠ 0)) "back" (.int f.ba) ++ ([]))))))))
def cutF (f : Fg) (j : Nat) : Fg := { p := f.p, s := f.s, g := if 1 < j then f.g else 0, l := decide (2 < j) && f.l, m := if 3 < j then f.m else 0, ks := if 4 < j then f.ks else List.replicate f.p.toNat 0, fi := if 5 < j then f.fi else 0, fa := if 6 < j then f.fa else 0, ba := if 7 < j then f.ba else 0 }
theorem cut_ok {f : Fg} (ok : f.Ok) (j : Nat) : (cutF f j).Ok := by
  have F := ok.figs
  obtain ⟨p0, p1, s0, s1, g0, g1, m0, m1, fi0, fi1, fa0, fa1, ba0, ba1⟩ := F
  have sp : ∀ {c : Prop} [Decidable c] {x hi : Int}, 0 ≤ x → x ≤ hi → 0 ≤ (if c then x else 0) ∧ (if c then x else 0) ≤ hi := fun {c _ x hi} h0 h1 => by
    split <;> omega
  refine ⟨⟨p0, p1, s0, s1, (sp g0 g1).1, (sp g0 g1).2, (sp m0 m1).1, (sp m0 m1).2, (sp fi0 fi1).1, (sp fi0 fi1).2, (sp fa0 fa1).1, (sp fa0 fa1).2, (sp ba0 ba1).1, (sp ba0 ba1).2⟩, ?_, ?_⟩
  · show (((if 4 < j then f.ks else List.replicate f.p.toNat 0).length : Nat) : Int) = f.p
    split
    · exact ok.len
    · rw [List.length_replicate]
      omega
  · show ∀ k ∈ (if 4 < j then f.ks else List.replicate f.p.toNat 0), 0 ≤ k ∧ k ≤ 100
    split
    · exact ok.bnd
    · intro k hk
      rw [List.eq_of_mem_replicate hk]
      omega
def keepV (f : Fg) (kv : V) (j : Nat) : V := if (decide (4 < j) && f.ks.any (fun k => decide (0 < k))) = true then kv else .int 0
theorem opt_int {c : Prop} [Decidable c] {x : Int} : (if (decide c && decide (x ≠ 0)) = true then some (V.int x) else none).getD (.int 0) = .int (if c then x else 0) := by
  by_cases h : c
  · rw [decide_eq_true h, if_pos h]
    by_cases z : x = 0
    · rw [z]
      rfl
    · rw [decide_eq_true z]
      rfl
  · rw [decide_eq_false h, if_neg h]
    rfl
theorem vs_dict (f : Fg) (kv : V) (j : Nat) : KWS.vsK ["parts", "step"] ["grace", "last", "misses", "keep", "fine", "falls", "back"] [.int 0, .bl false, .int 0, .int 0, .int 0, .int 0, .int 0] (dictJ f kv j) =
    [.int f.p, .int f.s, .int (cutF f j).g, .bl (cutF f j).l, .int (cutF f j).m, keepV f kv j, .int (cutF f j).fi, .int (cutF f j).fa, .int (cutF f j).ba] := by
  have h_parts : (dictJ f kv j).lookup (Str.ofString "parts") = some (.int f.p) := by
    unfold dictJ
    rw [lk_cons_eq]
  have h_step : (dictJ f kv j).lookup (Str.ofString "step") = some (.int f.s) := by
    unfold dictJ
    rw [lk_cons_ne ne_step_parts, lk_cons_eq]
  have h_grace : (dictJ f kv j).lookup (Str.ofString "grace") = if (decide (1 < j) && decide (f.g ≠ 0)) = true then some (.int f.g) else none := by
    unfold dictJ
    rw [lk_cons_ne ne_grace_parts, lk_cons_ne ne_grace_step, lk_seg_eq, lk_seg_ne ne_grace_last, lk_seg_ne ne_grace_misses, lk_seg_ne ne_grace_keep, lk_seg_ne ne_grace_fine, lk_seg_ne ne_grace_falls, lk_seg_ne ne_grace_back]
    rfl
  have h_last : (dictJ f kv j).lookup (Str.ofString "last") = if (decide (2 < j) && f.l) = true then some (.bl true) else none := by
    unfold dictJ
    rw [lk_cons_ne ne_last_parts, lk_cons_ne ne_last_step, lk_seg_ne ne_last_grace, lk_seg_eq, lk_seg_ne ne_last_misses, lk_seg_ne ne_last_keep, lk_seg_ne ne_last_fine, lk_seg_ne ne_last_falls, lk_seg_ne ne_last_back]
    rfl
  have h_misses : (dictJ f kv j).lookup (Str.ofString "misses") = if (decide (3 < j) && decide (f.m ≠ 0)) = true then some (.int f.m) else none := by
    unfold dictJ
    rw [lk_cons_ne ne_misses_parts, lk_cons_ne ne_misses_step, lk_seg_ne ne_misses_grace, lk_seg_ne ne_misses_last, lk_seg_eq, lk_seg_ne ne_misses_keep, lk_seg_ne ne_misses_fine, lk_seg_ne ne_misses_falls, lk_seg_ne ne_misses_back]
    rfl
  have h_keep : (dictJ f kv j).lookup (Str.ofString "keep") = if (decide (4 < j) && f.ks.any (fun k => decide (0 < k))) = true then some (kv) else none := by
    unfold dictJ
    rw [lk_cons_ne ne_keep_parts, lk_cons_ne ne_keep_step, lk_seg_ne ne_keep_grace, lk_seg_ne ne_keep_last, lk_seg_ne ne_keep_misses, lk_seg_eq, lk_seg_ne ne_keep_fine, lk_seg_ne ne_keep_falls, lk_seg_ne ne_keep_back]
    rfl
  have h_fine : (dictJ f kv j).lookup (Str.ofString "fine") = if (decide (5 < j) && decide (f.fi ≠ 0)) = true then some (.int f.fi) else none := by
    unfold dictJ
    rw [lk_cons_ne ne_fine_parts, lk_cons_ne ne_fine_step, lk_seg_ne ne_fine_grace, lk_seg_ne ne_fine_last, lk_seg_ne ne_fine_misses, lk_seg_ne ne_fine_keep, lk_seg_eq, lk_seg_ne ne_fine_falls, lk_seg_ne ne_fine_back]
    rfl
  have h_falls : (dictJ f kv j).lookup (Str.ofString "falls") = if (decide (6 < j) && decide (f.fa ≠ 0)) = true then some (.int f.fa) else none := by
    unfold dictJ
    rw [lk_cons_ne ne_falls_parts, lk_cons_ne ne_falls_step, lk_seg_ne ne_falls_grace, lk_seg_ne ne_falls_last, lk_seg_ne ne_falls_misses, lk_seg_ne ne_falls_keep, lk_seg_ne ne_falls_fine, lk_seg_eq, lk_seg_ne ne_falls_back]
    rfl
  have h_back : (dictJ f kv j).lookup (Str.ofString "back") = if (decide (7 < j) && decide (f.ba ≠ 0)) = true then some (.int f.ba) else none := by
    unfold dictJ
    rw [lk_cons_ne ne_back_parts, lk_cons_ne ne_back_step, lk_seg_ne ne_back_grace, lk_seg_ne ne_back_last, lk_seg_ne ne_back_misses, lk_seg_ne ne_back_keep, lk_seg_ne ne_back_fine, lk_seg_ne ne_back_falls, lk_seg_eq]
    rfl
  unfold KWS.vsK
  simp only [List.map_cons, List.map_nil, List.zip_cons_cons, List.zip_nil_right, List.cons_append, List.nil_append]
  rw [h_parts, h_step, h_grace, h_last, h_misses, h_keep, h_fine, h_falls, h_back]
  rw [opt_int, opt_int, opt_int, opt_int, opt_int]
  have e1 : (if (decide (2 < j) && f.l) = true then some (V.bl true) else none).getD (.bl false) = .bl (decide (2 < j) && f.l) := by
    cases decide (2 < j) && f.l <;> rfl
  have e2 : (if (decide (4 < j) && f.ks.any (fun k => decide (0 < k))) = true then some kv else none).getD (.int 0) = keepV f kv j := by
    unfold keepV
    cases decide (4 < j) && f.ks.any (fun k => decide (0 < k)) <;> rfl
  rw [e1, e2]
  rfl
theorem seg_sub {b : Bool} {n : Str} {v : V} {l : List (Str × V)} {ns : List Str} (h : (l.map (·.1)).Sublist ns) : ((seg b n v ++ l).map (·.1)).Sublist (n :: ns) := by
  unfold seg
  cases b with
  | false => exact .cons _ h
  | true => exact .cons₂ _ h
theorem dict_sub (f : Fg) (kv : V) (j : Nat) : ((dictJ f kv j).map (·.1)).Sublist (["parts", "step", "grace", "last", "misses", "keep", "fine", "falls", "back"] : List Str) :=
  .cons₂ _ (.cons₂ _ (seg_sub (seg_sub (seg_sub (seg_sub (seg_sub (seg_sub (seg_sub (l := []) .slnil))))))))
/-! ### rule_of -/
abbrev s_rule_of : Stmt := topS 28
abbrev N_rule_of : List Str := ["figures"]
theorem sc_rule_of : FnScope N_rule_of ["figures"] (defScope s_rule_of) := ⟨rfl, rfl, rfl, by decide +kernel, rfl, by decide +kernel, by decide +kernel⟩
def sp_rule_of (K : PySem.W.Frag) (C : Addr) : Sp := fun vs H Q _ => ∃ (d : Addr) (f : Fg) (kv : V) (kd : PyData) (j : Nat), vs = [.ref d] ∧ f.Ok ∧ H d = some (.dK ((dictJ f kv j).map fun p => (Sum.inr p.1, p.2))) ∧
  (4 < j → f.ks.any (fun k => decide (0 < k)) = true → Keep K H f.p f.ks kv kd) ∧ ∀ H' r, Same H H' → RuleAt K H' C r (cutF f j) → Q (.ref r) H'
theorem ok_rule_of {f : Addr} {fd : FuncData} (F : Fun K "rule_of" "rule_of" s_rule_of f fd) (g : mg "rule_of" = some (.ref f)) (bd : Binds K fd ["figures"] []) {CR : Addr} (TQ : TEq K mg CR "Rule") (T_Rule : TRule K mg CR) (S_Rule : KWS.CMkS CX0 P w K mg base CR 4 "Rule" "self" ["parts", "step"] ["grace", "last", "misses", "keep", "fine", "falls", "back"] [.int 0, .bl false, .int 0, .int 0, .int 0, .int 0, .int 0] (sp_Rule___init__ K CR)) : CF P w K mg base 6 "rule_of" ["figures"] (sp_rule_of K CR) := by
  refine ⟨f, fd, F.ok sc_rule_of (fun vs H Q E h => ?_) (fun cdv A outer s H vs Q E hr h => ?_), g, F.kp, bd⟩
  · first | (obtain ⟨_, rfl, _⟩ := h; rfl) | (obtain ⟨_, _, rfl, _⟩ := h; rfl) | (obtain ⟨_, _, _, rfl, _⟩ := h; rfl) | (obtain ⟨_, _, _, _, rfl, _⟩ := h; rfl) | (obtain ⟨_, _, _, _, _, rfl, _⟩ := h; rfl) | (obtain ⟨_, _, _, _, _, _, rfl, _⟩ := h; rfl) | (obtain ⟨_, _, _, _, _, _, _, rfl, _⟩ := h; rfl) | (obtain ⟨_, _, _, _, _, _, _, _, rfl, _⟩ := h; rfl) | (obtain ⟨_, _, _, _, _, _, _, _, _, rfl, _⟩ := h; rfl) | (obtain ⟨_, _, _, _, _, _, _, _, _, _, rfl, _⟩ := h; rfl) | (obtain ⟨_, _, _, _, _, _, _, _, _, _, _, rfl, _⟩ := h; rfl) | (obtain ⟨_, _, _, _, _, _, _, _, _, _, _, _, rfl, _⟩ := h; rfl) | (obtain ⟨_, _, _, _, _, _, _, _, _, _, _, _, _, rfl, _⟩ := h; rfl) | (obtain ⟨_, _, _, _, _, _, _, _, _, _, _, _, _, _, rfl, _⟩ := h; rfl) | (obtain ⟨_, _, _, _, _, _, _, _, _, _, _, _, _, _, _, rfl, _⟩ := h; rfl)
  · have hu64 := hr.units
    have hu1 := hu1_of hu64
    obtain ⟨d, f', kv, kd, j, rfl, ok, hd, hk, q⟩ := h
    refine ⟨_, (pss_cons (ps_if (pt_cmp (pc_dnotin hu1 pe_str (pv 0)) (by rfl))
         (pss_one (ps_ret pe_non))
         pss_nil)
      (pss_one (ps_try_thru0 (pss_one (ps_ret (KWS.pe_mkS S_Rule (hr.mono (by decide)) (by rfl) pass0 (pv 0))))))), ?_⟩
    have cok := cut_ok ok j
    have F := ok.figs
    have hget : valV ((dictJ f' kv j).map fun p => ((Sum.inr p.1 : Key), p.2)) (Sum.inr (Str.ofString "parts")) = some (.int f'.p) := by
      unfold dictJ
      rw [List.map_cons, valV_pos rfl]
    refine ⟨_, rfl, d, _, rfl, .inl ⟨_, Sum.inr (Str.ofString "parts"), .inl hd, rfl, rfl⟩, ?_⟩
    rw [hget]
    refine ⟨_, rfl, iteF ?_⟩
    refine fun d2 nd2 => ⟨_, rfl, d, dictJ f' kv j, rfl, ne_of_none hd nd2, upd_same, same_new nd2 _ _ hd, ?_, ?_, ?_, fun x dx nx ndx hne => ?_⟩
    · exact (dict_sub f' kv j).nodup unlike9
    · exact fun k hk => (dict_sub f' kv j).subset hk
    · intro k hk
      unfold dictJ
      rw [List.map_cons, List.map_cons]
      simp only [List.mem_cons, List.not_mem_nil, or_false] at hk
      rcases hk with rfl | rfl
      · exact List.mem_cons_self
      · exact List.mem_cons_of_mem _ List.mem_cons_self
    · rw [vs_dict]
      generalize hG : upd (upd H d2 (.dK [])) d2 (.dK ((dictJ f' kv j).map fun p => (Sum.inr p.1, p.2))) = G at *
      have sG : Same H G := by
        rw [← hG]
        exact fun a o e => by rw [upd_ne (ne_of_none e nd2), upd_ne (ne_of_none e nd2)]; exact e
      have s1 := same_new (o := .own x) ndx
      have nx2 : upd G dx (.own x) x = none := by rw [upd_ne hne.symm]; exact nx
      have s2 := same_new (o := .ins CR dx []) nx2
      have sA := (sG.trans s1).trans s2
      have hX := upd_same (H := upd G dx (.own x)) (a := x) (o := .ins CR dx [])
      generalize upd (upd G dx (.own x)) x (.ins CR dx []) = G2 at *
      have hkeep : ∃ kd2, Keep K G2 f'.p (cutF f' j).ks (keepV f' kv j) kd2 := by
        unfold keepV
        by_cases c : 4 < j
        · have e : (cutF f' j).ks = f'.ks := if_pos c
          rw [decide_eq_true c, e]
          cases c2 : f'.ks.any (fun k => decide (0 < k)) with
          | true => exact ⟨kd, (hk c c2).same sA⟩
          | false =>
            refine ⟨.int 0, .one 0 (by decide) (by decide) (List.eq_replicate_iff.mpr ⟨?_, fun k hk2 => ?_⟩)⟩
            · have a : (f'.ks.length : Int) = f'.p := ok.len
              omega
            · have h1 := List.any_eq_false.mp c2 k hk2
              have h2 := (ok.bnd k hk2).1
              simp only [decide_eq_true_eq] at h1
              omega
        · have e : (cutF f' j).ks = List.replicate f'.p.toNat 0 := if_neg c
          rw [decide_eq_false c, e]
          exact ⟨.int 0, .one 0 (by decide) (by decide) rfl⟩
      obtain ⟨kd2, hkeep⟩ := hkeep
      refine ⟨x, dx, f'.p, f'.s, (cutF f' j).g, (cutF f' j).l, (cutF f' j).m, keepV f' kv j, kd2, (cutF f' j).ks, (cutF f' j).fi, (cutF f' j).fa, (cutF f' j).ba, rfl, hX, cok.figs, hkeep, fun H' kt t hr hkt => ⟨rfl, q H' x ?_ ⟨dx, kt, hr, hkt⟩⟩⟩
      have hxH : H x = none := (sG.trans s1).free nx2
      exact fun a o e => t _ _ (ne_of_none e hxH) (sA _ _ e)
abbrev tn (n : Int) : Str := Str.ofString (toString n)
theorem tn_signs : ∀ n : Fin 101, 32 ∉ TL.tl (tn ((n : Nat) : Int)) ∧ 44 ∉ TL.tl (tn ((n : Nat) : Int)) := by decide +kernel
theorem tn_free {n : Int} (h : 0 ≤ n ∧ n ≤ 100) : 32 ∉ TL.tl (tn n) ∧ 44 ∉ TL.tl (tn n) := by
  obtain ⟨i, rfl⟩ := Int.eq_ofNat_of_zero_le h.1
  exact tn_signs ⟨i, by omega⟩
theorem tn_oks : ∀ n : Fin 101, PyData.strOk (tn ((n : Nat) : Int)) = true ∧ tn ((n : Nat) : Int) ≠ Str.ofString "parts" := by decide +kernel
theorem tn_ok {n : Int} (h : 0 ≤ n ∧ n ≤ 100) : PyData.strOk (tn n) = true ∧ tn n ≠ Str.ofString "parts" := by
  obtain ⟨i, rfl⟩ := Int.eq_ofNat_of_zero_le h.1
  exact tn_oks ⟨i, by omega⟩
theorem join2 (a b : Str) : Txt.join " " [a, b] = a ++ Str.ofString " " ++ b := by
  rw [TL.join_eq]
  rfl
theorem join_more (a b : Str) (r : List Str) : Txt.join " " (a :: b :: r) = a ++ Str.ofString " " ++ Txt.join " " (b :: r) := by
  rw [TL.join_eq, TL.join_eq]
  rfl
theorem app_assoc (a b c : Str) : a ++ b ++ c = a ++ (b ++ c) := TL.ext_tl (by rw [TL.tl_append, TL.tl_append, TL.tl_append, TL.tl_append, List.append_assoc])
theorem part_join (p s : Int) : partT p s = Txt.join " " [tn p, "parts", "by", tn s, "days"] := by
  rw [join_more, join_more, join_more, join2]
  unfold partT
  refine TL.ext_tl ?_
  have e1 : TL.tl (Str.ofString " parts by ") = TL.tl (Str.ofString " ") ++ (TL.tl (Str.ofString "parts") ++ (TL.tl (Str.ofString " ") ++ (TL.tl (Str.ofString "by") ++ TL.tl (Str.ofString " ")))) := by decide +kernel
  have e2 : TL.tl (Str.ofString " days") = TL.tl (Str.ofString " ") ++ TL.tl (Str.ofString "days") := by decide +kernel
  simp only [TL.tl_append, List.append_assoc, e1, e2]
theorem cnt_join {w : Str} {n : Int} (h : n ≠ 0) : cntT w n = Txt.join " " [w, tn n] := by
  rw [join2, cntT, if_neg h]
theorem keep_join {k : Int} {r : List Int} (h : ¬ (k :: r).all (fun x => decide (x = (k :: r).headD 0)) = true) : keptT (k :: r) = Txt.join " " ("keep" :: (k :: r).map tn) := by
  rw [keptT, if_neg h, List.map_cons, join_more]
  have e : Str.ofString "keep " = Str.ofString "keep" ++ Str.ofString " " := by decide +kernel
  rw [e]
theorem split_pieces {pcs : List Str} (hne : pcs ≠ []) (h : ∀ p ∈ pcs, 32 ∉ TL.tl p) : Txt.split (Txt.join " " pcs) " " = pcs := TL.split_join (s := 32) (S := []) (by decide +kernel) (by decide +kernel) hne h
theorem last_join : Str.ofString "from last" = Txt.join " " ["from", "last"] := by decide +kernel
theorem not_last {pcs : List Str} (hne : pcs ≠ []) (h : ∀ p ∈ pcs, 32 ∉ TL.tl p) (hl : pcs ≠ ([Str.ofString "from", Str.ofString "last"] : List Str)) : Txt.join " " pcs ≠ Str.ofString "from last" := fun e => by
  have h1 := split_pieces hne h
  rw [e, last_join, split_pieces (by decide) (by decide +kernel)] at h1
  exact hl h1.symm
theorem cut_one (v : V) (l : List V) : cutV (v :: l) (some 1) none = l := by
  unfold cutV
  have e1 : HT.sIx (v :: l).length 0 (some 1) = 1 := by
    show min 1 (l.length + 1) = 1
    omega
  have e2 : HT.sIx (v :: l).length (v :: l).length none = l.length + 1 := rfl
  rw [e1, e2, Nat.add_sub_cancel, List.drop_succ_cons, List.drop_zero, List.take_length]
/-! ### figures_in -/
abbrev s_figures_in : Stmt := topS 27
abbrev N_figures_in : List Str := ["clause", "pieces", "numbers", "piece"]
theorem sc_figures_in : FnScope N_figures_in ["clause"] (defScope s_figures_in) := ⟨rfl, rfl, rfl, by decide +kernel, rfl, by decide +kernel, by decide +kernel⟩
def itemJ (f : Fg) (kv : V) (i : Nat) : List (Str × V) := match i with
  | 0 => [("parts", .int f.p), ("step", .int f.s)]
  | 1 => [("grace", .int f.g)]
  | 2 => [("last", .bl true)]
  | 3 => [("misses", .int f.m)]
  | 4 => [("keep", kv)]
  | 5 => [("fine", .int f.fi)]
  | 6 => [("falls", .int f.fa)]
  | _ => [("back", .int f.ba)]
abbrev six : List Str := ["grace", "misses", "keep", "fine", "falls", "back"]
def ShapeC (f : Fg) (i : Nat) (c : Str) : Prop := ∃ pcs : List Str, c = Txt.join (Str.ofString " ") pcs ∧ (∀ p ∈ pcs, 32 ∉ TL.tl p) ∧ ((∀ p ∈ pcs, p.length ≤ 6) ∧ pcs.length ≤ 7) ∧ pcs ≠ [] ∧ pcs ≠ ([Str.ofString "from", Str.ofString "last"] : List Str) ∧
    ((i = 0 ∧ pcs = [tn f.p, "parts", "by", tn f.s, "days"]) ∨ (∃ (w : Str) (n : Int), pcs = [w, tn n] ∧ 0 ≤ n ∧ n ≤ 100 ∧ w ∈ six ∧ itemJ f (.int n) i = [(w, .int n)] ∧ (i = 4 → f.ks = List.replicate f.p.toNat n)) ∨
      (i = 4 ∧ pcs = Str.ofString "keep" :: f.ks.map tn ∧ 2 ≤ f.ks.length))
theorem shape {f : Fg} {i : Nat} {c : Str} (ok : f.Ok) (hi : (allT f)[i]? = some c) (hc : c ≠ Str.ofString "") (i8 : i < 8) (i2 : i ≠ 2) : ShapeC f i c := by
  have F := ok.figs
  have tl3 : ∀ {n : Int}, 0 ≤ n → n ≤ 100 → (tn n).length ≤ 6 := fun {n} h0 h1 => by
    have := num_len (n := n) h0 (by omega)
    show (Str.ofString (toString n)).length ≤ 6
    omega
  have word : ∀ (w : Str) (n : Int), w ∈ six → 0 ≤ n → n ≤ 100 → (∀ p ∈ ([w, tn n] : List Str), 32 ∉ TL.tl p) ∧ ((∀ p ∈ ([w, tn n] : List Str), p.length ≤ 6) ∧ ([w, tn n] : List Str).length ≤ 7) ∧ ([w, tn n] : List Str) ≠ [] ∧ ([w, tn n] : List Str) ≠ ([Str.ofString "from", Str.ofString "last"] : List Str) := fun w n hw h0 h1 => by
    have hw6 : ∀ w ∈ six, 32 ∉ TL.tl w ∧ w.length ≤ 6 ∧ w ≠ Str.ofString "from" := by decide +kernel
    obtain ⟨a1, a2, a3⟩ := hw6 w hw
    refine ⟨fun p hp => ?_, ⟨fun p hp => ?_, by show 2 ≤ 7; decide⟩, by simp, fun e => a3 (List.cons.inj e).1⟩
    · simp only [List.mem_cons, List.not_mem_nil, or_false] at hp
      rcases hp with rfl | rfl
      · exact a1
      · exact (tn_free ⟨h0, h1⟩).1
    · simp only [List.mem_cons, List.not_mem_nil, or_false] at hp
      rcases hp with rfl | rfl
      · exact a2
      · exact tl3 h0 h1
  have one : ∀ (w : Str) (n : Int), w ∈ six → 0 ≤ n → n ≤ 100 → cntT w n = c → itemJ f (.int n) i = [(w, .int n)] → (i = 4 → f.ks = List.replicate f.p.toNat n) → ShapeC f i c := fun w n hw h0 h1 e hit hk => by
    have n0 : n ≠ 0 := fun z => hc (by rw [← e, cntT, if_pos z])
    obtain ⟨a1, a2, a3, a4⟩ := word w n hw h0 h1
    exact ⟨[w, tn n], by rw [← e, cnt_join n0], a1, a2, a3, a4, .inr (.inl ⟨w, n, rfl, h0, h1, hw, hit, hk⟩)⟩
  match i, hi, i8, i2, one with
  | 0, hi, _, _, _ =>
    have e : partT f.p f.s = c := Option.some.inj hi
    refine ⟨[tn f.p, "parts", "by", tn f.s, "days"], by rw [← e, part_join], fun p hp => ?_, ⟨fun p hp => ?_, by show 5 ≤ 7; decide⟩, by simp, by simp, .inl ⟨rfl, rfl⟩⟩
    · simp only [List.mem_cons, List.not_mem_nil, or_false] at hp
      rcases hp with rfl | rfl | rfl | rfl | rfl
      · exact (tn_free ⟨by have := F.p0; omega, by have := F.p1; omega⟩).1
      · decide +kernel
      · decide +kernel
      · exact (tn_free ⟨by have := F.s0; omega, by have := F.s1; omega⟩).1
      · decide +kernel
    · simp only [List.mem_cons, List.not_mem_nil, or_false] at hp
      rcases hp with rfl | rfl | rfl | rfl | rfl
      · exact tl3 (by have := F.p0; omega) (by have := F.p1; omega)
      · decide +kernel
      · decide +kernel
      · exact tl3 (by have := F.s0; omega) (by have := F.s1; omega)
      · decide +kernel
  | 1, hi, _, _, one => exact one "grace" f.g (by decide +kernel) F.g0 (by have := F.g1; omega) (Option.some.inj hi) rfl (fun e => nomatch e)
  | 2, _, _, h, _ => exact absurd rfl h
  | 3, hi, _, _, one => exact one "misses" f.m (by decide +kernel) F.m0 (by have := F.m1; omega) (Option.some.inj hi) rfl (fun e => nomatch e)
  | 4, hi, _, _, one =>
    have e : keptT f.ks = c := Option.some.inj hi
    by_cases al : f.ks.all (fun k => decide (k = f.ks.headD 0)) = true
    · have h0 : ∀ k ∈ f.ks, k = f.ks.headD 0 := fun k hk => of_decide_eq_true (List.all_eq_true.mp al k hk)
      have hb : 0 ≤ f.ks.headD 0 ∧ f.ks.headD 0 ≤ 100 := by
        cases h : f.ks with
        | nil => exact ⟨Int.le_refl _, by decide⟩
        | cons a r => exact ok.bnd a (by rw [h]; exact List.mem_cons_self)
      refine one "keep" (f.ks.headD 0) (by decide +kernel) hb.1 hb.2 ?_ rfl (fun _ => List.eq_replicate_iff.mpr ⟨?_, h0⟩)
      · rw [← e, keptT, if_pos al]
      · have a : (f.ks.length : Int) = f.p := ok.len
        omega
    · have hks : f.ks ≠ [] := fun z => al (by rw [z]; rfl)
      obtain ⟨k, r, hkr⟩ : ∃ k r, f.ks = k :: r := by
        cases h : f.ks with
        | nil => exact absurd h hks
        | cons a b => exact ⟨a, b, rfl⟩
      have h6 : f.ks.length ≤ 6 := by
        have a : (f.ks.length : Int) = f.p := ok.len
        have := F.p1
        omega
      refine ⟨Str.ofString "keep" :: f.ks.map tn, ?_, fun p hp => ?_, ⟨fun p hp => ?_, ?_⟩, by simp, ?_, .inr (.inr ⟨rfl, rfl, ?_⟩)⟩
      · rw [← e, hkr, keep_join (by rw [← hkr]; exact al)]
      · rcases List.mem_cons.mp hp with rfl | hp
        · decide +kernel
        · obtain ⟨n, hn, rfl⟩ := List.mem_map.mp hp
          exact (tn_free (ok.bnd n hn)).1
      · rcases List.mem_cons.mp hp with rfl | hp
        · decide +kernel
        · obtain ⟨n, hn, rfl⟩ := List.mem_map.mp hp
          exact tl3 (ok.bnd n hn).1 (ok.bnd n hn).2
      · rw [List.length_cons, List.length_map]
        omega
      · exact fun z => absurd (List.cons.inj z).1 (by decide +kernel)
      · rcases Nat.lt_or_ge f.ks.length 2 with c2 | c2
        · refine absurd ?_ al
          rw [hkr] at c2 ⊢
          have : r = [] := List.length_eq_zero_iff.mp (by rw [List.length_cons] at c2; omega)
          rw [this]
          simp
        · exact c2
  | 5, hi, _, _, one => exact one "fine" f.fi (by decide +kernel) F.fi0 F.fi1 (Option.some.inj hi) rfl (fun e => nomatch e)
  | 6, hi, _, _, one => exact one "falls" f.fa (by decide +kernel) F.fa0 (by have := F.fa1; omega) (Option.some.inj hi) rfl (fun e => nomatch e)
  | 7, hi, _, _, one => exact one "back" f.ba (by decide +kernel) F.ba0 (by have := F.ba1; omega) (Option.some.inj hi) rfl (fun e => nomatch e)
  | n + 8, _, h, _, _ => omega
def sp_figures_in (K : PySem.W.Frag) : Sp := fun vs H Q _ => ∃ (f : Fg) (i : Nat) (c : Str), vs = [.str c] ∧ f.Ok ∧ (allT f)[i]? = some c ∧ c ≠ Str.ofString "" ∧
  ∀ H' D kv kd, Same H H' → H D = none → H' D = some (.dK ((itemJ f kv i).map fun p => (Sum.inr p.1, p.2))) → (i = 4 → Keep K H' f.p f.ks kv kd) → Q (.ref D) H'
theorem ok_figures_in {f : Addr} {fd : FuncData} (F : Fun K "figures_in" "figures_in" s_figures_in f fd) (g : mg "figures_in" = some (.ref f)) (bd : Binds K fd ["clause"] []) (m_len : mg "len" = none) (m_tuple : mg "tuple" = none) {t_MOST_FIGURE : Tok} (g_MOST_FIGURE : mg "MOST_FIGURE" = some (.int 100 t_MOST_FIGURE)) {A_COUNTED_WORDS : Addr} (g_COUNTED_WORDS : mg "COUNTED_WORDS" = some (.ref A_COUNTED_WORDS)) (q_COUNTED_WORDS : ∀ H, SqT K H A_COUNTED_WORDS [.str (Str.ofString "grace"), .str (Str.ofString "misses"), .str (Str.ofString "keep"), .str (Str.ofString "fine"), .str (Str.ofString "falls"), .str (Str.ofString "back")]) (C_number_in : CF P w K mg base 2 "number_in" ["text", "most"] (sp_number_in K)) : CF P w K mg base 3 "figures_in" ["clause"] (sp_figures_in K) := by
  refine ⟨f, fd, F.ok sc_figures_in (fun vs H Q E h => ?_) (fun cdv A outer s H vs Q E hr h => ?_), g, F.kp, bd⟩
  · first | (obtain ⟨_, rfl, _⟩ := h; rfl) | (obtain ⟨_, _, rfl, _⟩ := h; rfl) | (obtain ⟨_, _, _, rfl, _⟩ := h; rfl) | (obtain ⟨_, _, _, _, rfl, _⟩ := h; rfl) | (obtain ⟨_, _, _, _, _, rfl, _⟩ := h; rfl) | (obtain ⟨_, _, _, _, _, _, rfl, _⟩ := h; rfl) | (obtain ⟨_, _, _, _, _, _, _, rfl, _⟩ := h; rfl) | (obtain ⟨_, _, _, _, _, _, _, _, rfl, _⟩ := h; rfl) | (obtain ⟨_, _, _, _, _, _, _, _, _, rfl, _⟩ := h; rfl) | (obtain ⟨_, _, _, _, _, _, _, _, _, _, rfl, _⟩ := h; rfl) | (obtain ⟨_, _, _, _, _, _, _, _, _, _, _, rfl, _⟩ := h; rfl) | (obtain ⟨_, _, _, _, _, _, _, _, _, _, _, _, rfl, _⟩ := h; rfl) | (obtain ⟨_, _, _, _, _, _, _, _, _, _, _, _, _, rfl, _⟩ := h; rfl) | (obtain ⟨_, _, _, _, _, _, _, _, _, _, _, _, _, _, rfl, _⟩ := h; rfl) | (obtain ⟨_, _, _, _, _, _, _, _, _, _, _, _, _, _, _, rfl, _⟩ := h; rfl)
  · have hu64 := hr.units
    obtain ⟨f', i, c, rfl, ok, hi, hc, q⟩ := h
    refine ⟨_, (pss_cons (ps_if (pt_cmpR op_eq (pv 0) pe_str (nomark _))
         (pss_one (ps_ret (pe_disp (pps_cons pe_str pe_bl pps_nil) (by rfl) (by rfl) (by simp) (by decide))))
         pss_nil)
      (pss_cons (ps_set (i := 1) sc_figures_in.nd rfl (.inl rfl) (pe_split (pv 0) pe_str))
      (pss_cons (ps_setLc (i := 2) (own := [("piece", 3)]) (g := (gName 3)) (tt := tYes) rfl sc_figures_in.nd rfl rfl (sw_true rfl rfl rfl (by decide +kernel)) (pi_list (pv 1)) (blkOk_by (own := [("piece", 3)]) (N := N_figures_in) (sc := defScope s_figures_in) (by decide +kernel)) (fun _ _ _ _ _ => pg_name (i := 3) sc_figures_in.nd rfl (Or.inl rfl)) (fun _ _ _ _ _ => pts_nil) (fun _ _ _ _ _ => (pe_cf C_number_in (hr.mono (by decide)) (by rfl) (pa_cons (pv 3) (pa_cons (pe_glob (v := .int 100) (by rfl) g_MOST_FIGURE ⟨_, rfl⟩) pa_nil)))))
      (pss_cons (ps_if (PW.pt (pw_and (pt_cmpR op_eq (pe_callB (kk_len K) (by rfl) m_len PySem.boot_len (pa_cons (pv 1) pa_nil)) pe_int (nomark _)) (pw_and1 (pt_cmpR (kk_eqD K hu64) (pe_lst (pa_cons (pe_ix (kk_ixl K) (pv 1) pe_int (fun _ _ => rfl)) (pa_cons (pe_ix (kk_ixl K) (pv 1) pe_int (fun _ _ => rfl)) (pa_cons (pe_ix (kk_ixl K) (pv 1) pe_int (fun _ _ => rfl)) pa_nil)))) (pe_lst (pa_cons pe_str (pa_cons pe_str (pa_cons pe_str pa_nil)))) (nomark _)))))
         (pss_one (ps_ret (pe_disp (pps_cons pe_str (pe_ix (kk_ixl K) (pv 2) pe_int (fun _ _ => rfl)) (pps_cons pe_str (pe_ix (kk_ixl K) (pv 2) pe_int (fun _ _ => rfl)) pps_nil)) (by rfl) (by rfl) (by simp) (by decide))))
         pss_nil)
      (pss_cons (ps_if (PW.pt (pw_and (pt_cmpR op_eq (pe_callB (kk_len K) (by rfl) m_len PySem.boot_len (pa_cons (pv 1) pa_nil)) pe_int (nomark _)) (pw_and1 (pt_cmpR (kk_in K) (pe_ix (kk_ixl K) (pv 1) pe_int (fun _ _ => rfl)) (pe_glob (v := .ref A_COUNTED_WORDS) (by rfl) g_COUNTED_WORDS rfl) (by rfl)))))
         (pss_one (ps_ret (pe_disp (pps_cons (pe_ix (kk_ixl K) (pv 1) pe_int (fun _ _ => rfl)) (pe_ix (kk_ixl K) (pv 2) pe_int (fun _ _ => rfl)) pps_nil) (by rfl) (by rfl) (by simp) (by decide))))
         pss_nil)
      (pss_cons (ps_if (pt_cmpR op_eq (pe_ix (kk_ixl K) (pv 1) pe_int (fun _ _ => rfl)) pe_str (nomark _))
         (pss_one (ps_ret (pe_disp (pps_cons pe_str (pe_callTy (kk_tuple K) (by rfl) m_tuple (by decide +kernel) (pa_cons (pe_slice (kk_sll K) (pv 2) (po_some pe_int) po_none) pa_nil)) pps_nil) (by rfl) (by rfl) (by simp) (by decide))))
         pss_nil)
      (pss_one (ps_ret pe_dnewK)))))))), ?_⟩
    have fin : ∀ (G : Hp) (D : Addr) (kv : V) (kd : PyData) (its : List (Key × V)), (∀ a o, H a = some o → G a = some o) → H D = none → mergeK [] its = (itemJ f' kv i).map (fun p => ((Sum.inr p.1 : Key), p.2)) → (i = 4 → Keep K (upd G D (.dK (mergeK [] its))) f'.p f'.ks kv kd) → Q (.ref D) (upd G D (.dK (mergeK [] its))) := fun G D kv kd its sG nD hm hk =>
      q _ D kv kd (fun a o e => by rw [upd_ne (ne_of_none e nD)]; exact sG a o e) nD (by rw [upd_same, hm]) hk
    rcases Nat.lt_or_ge i 8 with i8 | i8
    case inr =>
      rw [List.getElem?_eq_none (show (allT f').length ≤ i from i8)] at hi
      cases hi
    by_cases i2 : i = 2
    · subst i2
      have hl : f'.l = true := by
        cases h : f'.l with
        | true => rfl
        | false =>
          have e : some (if f'.l = true then Str.ofString "from last" else Str.ofString "") = some c := hi
          rw [h] at e
          exact absurd (Option.some.inj e).symm hc
      have ec : c = Str.ofString "from last" := by
        have e : some (if f'.l = true then Str.ofString "from last" else Str.ofString "") = some c := hi
        rw [if_pos hl] at e
        exact (Option.some.inj e).symm
      subst ec
      exact ⟨_, rfl, rfl, _, rfl, iteY rfl fun D nD => ⟨upd_same, [(Sum.inr (Str.ofString "last"), .bl true)], rfl, by decide, fin _ D .non .none _ (same_new nD) nD rfl (fun e => nomatch e)⟩⟩
    obtain ⟨pcs, rfl, hfree, hlen, hne, hnl, hsh⟩ := shape ok hi hc i8 i2
    have hjl : (Txt.join (Str.ofString " ") pcs).length ≤ 200 := by
      have jl := PySem.StrLaws.join_length_le (Str.ofString " ") pcs
      rw [← TL.join_eq] at jl
      have e1 : (Str.ofString " ").length = 1 := rfl
      have sm : ∀ l : List Str, (∀ p ∈ l, p.length ≤ 6) → (l.map (·.length)).sum ≤ l.length * 6 := fun l => by
        induction l with
        | nil => intro _; exact Nat.zero_le _
        | cons a l ih =>
          intro hb
          have i1 := ih fun x hx => hb x (List.mem_cons_of_mem _ hx)
          have i2 := hb a List.mem_cons_self
          rw [List.map_cons, List.sum_cons, List.length_cons]
          omega
      have := sm pcs hlen.1
      have := hlen.2
      rw [e1] at jl
      omega
    refine ⟨_, rfl, rfl, _, rfl, iteN (fun e => not_last hne hfree hnl (V.str.inj e)) ?_⟩
    refine ⟨_, rfl, ⟨_, rfl⟩, _, _, rfl, rfl, by decide +kernel, by rw [sizeLine_eq]; omega, fun L1 n1 => ?_⟩
    rw [split_pieces hne hfree]
    have s1 := same_new (o := .lst (pcs.map V.str)) n1
    have x1 := upd_same (H := H) (a := L1) (o := .lst (pcs.map V.str))
    generalize upd H L1 (.lst (pcs.map V.str)) = H1 at *
    have hS1 : SqL K H1 L1 (pcs.map V.str) := SqL.of x1
    refine ⟨_, rfl, L1, rfl, ⟨_, hS1⟩, fun L2 n2 => vals_lc (fun v => match v with | .str t => numV t | _ => .non) (jok_l (K := K) hS1) (by rw [List.length_map]; omega) n2 (fun x hx G sG Y N h1 => ?_) (fun G sG hG => ?_)⟩
    · obtain ⟨t, ht, rfl⟩ := List.mem_map.mp hx
      exact ⟨rfl, _, rfl, t, rfl, by have := hlen.1 t ht; omega, fun G' s' => h1 G' s'⟩
    have hG2 : G L2 = some (.lst (pcs.map numV)) := by
      rw [hG, List.map_map]
      rfl
    have hG1 : SqL K G L1 (pcs.map V.str) := sG.seq hS1
    have hS2 : SqL K G L2 (pcs.map numV) := SqL.of hG2
    have sHG := s1.trans sG
    show gName 2 (.ref L2) _ G _
    dsimp only [gName, tSeq]
    have lenP : (pcs.map V.str).length = pcs.length := List.length_map _
    rcases hsh with ⟨rfl, rfl⟩ | ⟨w, n, rfl, m0, m1, hw, hit, hk4⟩ | ⟨rfl, rfl, hk2⟩
    · have F := ok.figs
      have ev : ([tn f'.p, Str.ofString "parts", Str.ofString "by", tn f'.s, Str.ofString "days"] : List Str).map numV = [.int f'.p, .non, .non, .int f'.s, .non] := by
        have e1 : numV (Str.ofString "parts") = .non := by decide +kernel
        have e2 : numV (Str.ofString "by") = .non := by decide +kernel
        have e3 : numV (Str.ofString "days") = .non := by decide +kernel
        simp only [List.map_cons, List.map_nil, e1, e2, e3]
        rw [num_at ⟨by have := F.p0; omega, by have := F.p1; omega⟩, num_at ⟨by have := F.s0; omega, by have := F.s1; omega⟩]
      refine ⟨_, rfl, L1, _, rfl, .inl hG1, rfl, _, rfl, iteY rfl ?_⟩
      refine ⟨_, rfl, L1, _, _, _, rfl, rfl, hG1, rfl, _, rfl, L1, _, _, _, rfl, rfl, hG1, rfl, _, rfl, L1, _, _, _, rfl, rfl, hG1, rfl, by show 3 ≤ sizeLine; decide, fun l3 n3 => ⟨by show 3 ≤ sizeLine; decide, fun l4 n4 => ?_⟩⟩
      have d3 : Dp K (upd (upd G l3 (.lst [.str (Str.ofString "parts"), .str (Str.ofString "by"), .str (Str.ofString "days")])) l4 (.lst [.str (Str.ofString "parts"), .str (Str.ofString "by"), .str (Str.ofString "days")])) (.ref l3) (.list [.str (Str.ofString "parts"), .str (Str.ofString "by"), .str (Str.ofString "days")]) := .lst (SqL.of (by rw [upd_ne (ne_of_none (a := l3) upd_same n4)]; exact upd_same)) (.cons (.str _) (.cons (.str _) (.cons (.str _) .nil)))
      have d4 : Dp K (upd (upd G l3 (.lst [.str (Str.ofString "parts"), .str (Str.ofString "by"), .str (Str.ofString "days")])) l4 (.lst [.str (Str.ofString "parts"), .str (Str.ofString "by"), .str (Str.ofString "days")])) (.ref l4) (.list [.str (Str.ofString "parts"), .str (Str.ofString "by"), .str (Str.ofString "days")]) := .lst (SqL.of upd_same) (.cons (.str _) (.cons (.str _) (.cons (.str _) .nil)))
      have s4 := ((same_new (o := .lst [.str (Str.ofString "parts"), .str (Str.ofString "by"), .str (Str.ofString "days")]) n3).trans (same_new (o := .lst [.str (Str.ofString "parts"), .str (Str.ofString "by"), .str (Str.ofString "days")]) n4))
      generalize upd (upd G l3 (.lst [.str (Str.ofString "parts"), .str (Str.ofString "by"), .str (Str.ofString "days")])) l4 (.lst [.str (Str.ofString "parts"), .str (Str.ofString "by"), .str (Str.ofString "days")]) = G4 at *
      rw [ev] at hS2
      refine ⟨_, _, d3, d4, by decide +kernel, by decide +kernel, _, rfl, ?_⟩
      rw [show PyData.eqv (.list [.str (Str.ofString "parts"), .str (Str.ofString "by"), .str (Str.ofString "days")]) (.list [.str (Str.ofString "parts"), .str (Str.ofString "by"), .str (Str.ofString "days")]) = true by decide +kernel]
      refine iteT fun D nD => ?_
      have sD := same_new (o := .dK []) nD
      exact ⟨_, rfl, L2, _, _, _, rfl, rfl, (s4.trans sD).seq hS2, rfl, _, rfl, L2, _, _, _, rfl, rfl, (s4.trans sD).seq hS2, rfl, upd_same, [(Sum.inr (Str.ofString "parts"), .int f'.p), (Sum.inr (Str.ofString "step"), .int f'.s)], rfl, by show 2 ≤ 15; decide, fin _ D .non .none _ ((sHG.trans s4).trans sD) ((sHG.trans s4).free nD) rfl (fun e => nomatch e)⟩
    · rw [show ([w, tn n] : List Str).map numV = [numV w, .int n] by simp only [List.map_cons, List.map_nil]; rw [num_at ⟨m0, m1⟩]] at hS2
      refine ⟨_, rfl, L1, _, rfl, .inl hG1, rfl, _, rfl, iteN (fun e => by cases V.int.inj e) (iteF ?_)⟩
      refine ⟨_, rfl, L1, _, rfl, .inl hG1, rfl, _, rfl, iteY rfl ?_⟩
      have hin : ∀ w ∈ six, inV (.str w) [.str (Str.ofString "grace"), .str (Str.ofString "misses"), .str (Str.ofString "keep"), .str (Str.ofString "fine"), .str (Str.ofString "falls"), .str (Str.ofString "back")] = true := by decide +kernel
      refine ⟨_, rfl, L1, _, _, _, rfl, rfl, hG1, rfl, A_COUNTED_WORDS, _, rfl, .inr (q_COUNTED_WORDS G), rfl, by decide +kernel, _, rfl, ?_⟩
      rw [hin w hw]
      refine iteT fun D nD => ?_
      have sD := same_new (o := .dK []) nD
      exact ⟨_, rfl, L1, _, _, _, rfl, rfl, sD.seq hG1, rfl, _, rfl, L2, _, _, _, rfl, rfl, sD.seq hS2, rfl, upd_same, [(Sum.inr w, .int n)], rfl, by show 1 ≤ 15; decide, fin _ D (.int n) (.int n) _ (sHG.trans sD) (sHG.free nD) (by rw [hit]; rfl) (fun e => .one n m0 m1 (hk4 e))⟩
    · have ok6 : f'.ks.length ≤ 6 := by
        have a : (f'.ks.length : Int) = f'.p := ok.len
        have := ok.figs.p1
        omega
      have eks : (Str.ofString "keep" :: f'.ks.map tn).map numV = .non :: f'.ks.map V.int := by
        have e1 : numV (Str.ofString "keep") = .non := by decide +kernel
        rw [List.map_cons, e1, List.map_map]
        congr 1
        exact List.map_congr_left fun k hk => num_at (ok.bnd k hk)
      rw [eks] at hS2
      have len2 : (((Str.ofString "keep" :: f'.ks.map tn).map V.str).length : Int) ≠ 2 := by
        rw [List.length_map, List.length_cons, List.length_map]
        omega
      refine ⟨_, rfl, L1, _, rfl, .inl hG1, rfl, _, rfl, ?_⟩
      by_cases c5 : V.int (((Str.ofString "keep" :: f'.ks.map tn).map V.str).length : Int) = V.int 5
      case' pos =>
        obtain ⟨a, b, cc, d, e4⟩ : ∃ a b cc d, f'.ks = [a, b, cc, d] := by
          have c6 := V.int.inj c5
          rw [List.length_map, List.length_cons, List.length_map] at c6
          match h : f'.ks, c6 with
          | [a, b, cc, d], _ => exact ⟨a, b, cc, d, rfl⟩
          | [], c6 => exact absurd c6 (by decide)
          | [_], c6 => simp at c6
          | [_, _], c6 => simp at c6
          | [_, _, _], c6 => simp at c6
          | _ :: _ :: _ :: _ :: _ :: r, c6 =>
            simp only [List.length_cons] at c6
            omega
        have hG1' := hG1
        rw [e4] at hG1'
        have hbd : ∀ k, k = a ∨ k = b ∨ k = d → 0 ≤ k ∧ k ≤ 100 := fun k hk => ok.bnd k (by rw [e4]; rcases hk with rfl | rfl | rfl <;> simp)
        refine iteY c5 ⟨_, rfl, L1, _, _, _, rfl, rfl, hG1', rfl, _, rfl, L1, _, _, _, rfl, rfl, hG1', rfl, _, rfl, L1, _, _, _, rfl, rfl, hG1', rfl, by show 3 ≤ sizeLine; decide, fun l3 n3 => ⟨by show 3 ≤ sizeLine; decide, fun l4 n4 => ?_⟩⟩
        have d3 : Dp K (upd (upd G l3 (.lst [.str (tn a), .str (tn b), .str (tn d)])) l4 (.lst [.str (Str.ofString "parts"), .str (Str.ofString "by"), .str (Str.ofString "days")])) (.ref l3) (.list [.str (tn a), .str (tn b), .str (tn d)]) := .lst (SqL.of (by rw [upd_ne (ne_of_none (a := l3) upd_same n4)]; exact upd_same)) (.cons (.str _) (.cons (.str _) (.cons (.str _) .nil)))
        have d4 : Dp K (upd (upd G l3 (.lst [.str (tn a), .str (tn b), .str (tn d)])) l4 (.lst [.str (Str.ofString "parts"), .str (Str.ofString "by"), .str (Str.ofString "days")])) (.ref l4) (.list [.str (Str.ofString "parts"), .str (Str.ofString "by"), .str (Str.ofString "days")]) := .lst (SqL.of upd_same) (.cons (.str _) (.cons (.str _) (.cons (.str _) .nil)))
        have s4 := ((same_new (o := .lst [.str (tn a), .str (tn b), .str (tn d)]) n3).trans (same_new (o := .lst [.str (Str.ofString "parts"), .str (Str.ofString "by"), .str (Str.ofString "days")]) n4))
        refine ⟨_, _, d3, d4, ?_, by decide +kernel, _, rfl, ?_⟩
        · have h1 := (tn_ok (hbd a (.inl rfl))).1
          have h2 := (tn_ok (hbd b (.inr (.inl rfl)))).1
          have h3 := (tn_ok (hbd d (.inr (.inr rfl)))).1
          show (PyData.canLay0 _ && decide (PyData.depth _ ≤ 64)) = true
          rw [Bool.and_eq_true]
          exact ⟨by simp [PyData.canLay0, PyData.canLayAll0, h1, h2, h3], decide_eq_true (by simp [PyData.depth, PyData.depthAll])⟩
        rw [show PyData.eqv (.list [.str (tn a), .str (tn b), .str (tn d)]) (.list [.str (Str.ofString "parts"), .str (Str.ofString "by"), .str (Str.ofString "days")]) = false by simp [PyData.eqv, PyData.eqvAll, (tn_ok (hbd a (.inl rfl))).2]]
        refine iteF ?_
        generalize upd (upd G l3 (.lst [.str (tn a), .str (tn b), .str (tn d)])) l4 (.lst [.str (Str.ofString "parts"), .str (Str.ofString "by"), .str (Str.ofString "days")]) = G4 at *
      case' neg =>
        refine iteN c5 (iteF ?_)
        obtain ⟨G4, eG4⟩ : ∃ G4, G4 = G := ⟨G, rfl⟩
        have s4 : Same G G4 := eG4 ▸ Same.refl G
        rw [← eG4]
      all_goals refine ⟨_, rfl, L1, _, rfl, .inl (s4.seq hG1), rfl, _, rfl, iteN (fun e => len2 (V.int.inj e)) (iteF ?_)⟩
      all_goals refine ⟨_, rfl, L1, _, _, _, rfl, rfl, s4.seq hG1, atI_nat (j := 0) rfl, rfl, _, rfl, iteY rfl fun D nD => ?_⟩
      all_goals have sD := same_new (o := .dK []) nD
      all_goals refine ⟨_, rfl, 1, rfl, L2, _, rfl, (s4.trans sD).seq hS2, fun l nl => ?_⟩
      all_goals rw [cut_one]
      all_goals refine ⟨l, _, rfl, .inl ⟨SqL.of upd_same, fun t nt => ?_⟩⟩
      all_goals have sl := same_new (o := .lst (f'.ks.map V.int)) nl
      all_goals have st := same_new (o := .tup (f'.ks.map V.int)) nt
      all_goals have xD := (sl.trans st) _ _ (upd_same (H := G4) (a := D) (o := .dK []))
      all_goals have ne : t ≠ D := (ne_of_none (sl _ _ (upd_same (H := G4) (a := D) (o := .dK []))) nt).symm
      all_goals exact ⟨xD, [(Sum.inr (Str.ofString "keep"), .ref t)], rfl, by show 1 ≤ 15; decide, fin _ D (.ref t) (.tuple (f'.ks.map PyData.int)) _ ((((sHG.trans s4).trans sD).trans sl).trans st) ((sHG.trans s4).free nD) rfl (fun _ => .all t (.of (by rw [upd_ne ne]; exact upd_same)) ok.len ok.bnd)⟩
abbrev emp : Str := Str.ofString ""
def clause (f : Fg) (i : Nat) : Str := (allT f)[i]?.getD emp
def neC (f : Fg) (i : Nat) : Bool := decide (clause f i ≠ emp)
/-- which clauses are told -/
def idx (f : Fg) : List Nat := (List.range 8).filter (neC f)
theorem filter_idx {α : Type} (l : List α) (d : α) (p : α → Bool) : l.filter p = ((List.range l.length).filter fun i => p (l[i]?.getD d)).map fun i => l[i]?.getD d := by
  have e : l = (List.range l.length).map fun i => l[i]?.getD d := by
    refine List.ext_getElem? fun i => ?_
    rw [List.getElem?_map]
    by_cases h : i < l.length
    · rw [List.getElem?_range h]
      simp [h]
    · rw [List.getElem?_eq_none (by omega), List.getElem?_eq_none (by rw [List.length_range]; omega)]
      rfl
  conv => lhs; rw [e, List.filter_map]
  rfl
theorem cls_idx (f : Fg) : clsT f = (idx f).map (clause f) := filter_idx (allT f) emp _
theorem take_filter {p : Nat → Bool} : ∀ {n t j : Nat}, ((List.range n).filter p)[t]? = some j → ((List.range n).filter p).take t = (List.range j).filter p ∧ j < n ∧ p j = true
  | 0, t, j, h => by simp at h
  | n + 1, t, j, h => by
    rw [List.range_succ, List.filter_append] at h ⊢
    by_cases hp : p n = true
    · rw [List.filter_cons_of_pos hp, List.filter_nil] at h ⊢
      by_cases ht : t < ((List.range n).filter p).length
      · rw [List.getElem?_append_left ht] at h
        obtain ⟨h1, h2, h3⟩ := take_filter h
        exact ⟨by rw [List.take_append_of_le_length (by omega)]; exact h1, by omega, h3⟩
      · have hl : t < ((List.range n).filter p ++ [n]).length := (List.getElem?_eq_some_iff.mp h).1
        rw [List.length_append, List.length_singleton] at hl
        have e : t = ((List.range n).filter p).length := by omega
        rw [e, List.getElem?_append_right (Nat.le_refl _), Nat.sub_self] at h
        have ej : n = j := Option.some.inj h
        subst ej
        exact ⟨by rw [e, List.take_left], by omega, hp⟩
    · rw [List.filter_cons_of_neg hp, List.filter_nil, List.append_nil] at h ⊢
      obtain ⟨h1, h2, h3⟩ := take_filter h
      exact ⟨h1, by omega, h3⟩
theorem filter_lt {p : Nat → Bool} {m : Nat} : ∀ {n : Nat}, m ≤ n → (List.range n).filter (fun i => decide (i < m) && p i) = (List.range m).filter p
  | 0, h => by
    have : m = 0 := by omega
    subst this
    rfl
  | n + 1, h => by
    by_cases e : m = n + 1
    · subst e
      refine List.filter_congr fun i hi => ?_
      rw [decide_eq_true (List.mem_range.mp hi), Bool.true_and]
    · rw [List.range_succ, List.filter_append, filter_lt (n := n) (by omega), List.filter_cons_of_neg (by rw [decide_eq_false (by omega)]; simp), List.filter_nil, List.append_nil]
theorem cntB {w : Str} {n : Int} (hw : w ≠ emp) : decide (cntT w n ≠ emp) = decide (n ≠ 0) := by
  by_cases h : n = 0
  · rw [cntT, if_pos h, decide_eq_false (by simp), decide_eq_false (by simp [h])]
  · rw [cntT, if_neg h, decide_eq_true h]
    refine decide_eq_true fun e => ?_
    have h1 := congrArg TL.tl e
    rw [TL.tl_append, TL.tl_append] at h1
    have h2 := List.append_eq_nil_iff.mp h1
    exact absurd (List.append_eq_nil_iff.mp h2.1).2 (by decide +kernel)
theorem kept_ne {ks : List Int} (hb : ∀ k ∈ ks, 0 ≤ k ∧ k ≤ 100) (hne : ks ≠ []) : decide (keptT ks ≠ emp) = ks.any fun k => decide (0 < k) := by
  have ha : ks.headD 0 ∈ ks := by
    cases ks with
    | nil => exact absurd rfl hne
    | cons a r => exact List.mem_cons_self
  by_cases al : ks.all (fun k => decide (k = ks.headD 0)) = true
  · have e0 : keptT ks = cntT "keep" (ks.headD 0) := if_pos al
    rw [e0, cntB (by decide +kernel)]
    have h0 : ∀ k ∈ ks, k = ks.headD 0 := fun k hk => of_decide_eq_true (List.all_eq_true.mp al k hk)
    by_cases z : ks.headD 0 = 0
    · rw [decide_eq_false (fun e => e z)]
      refine (List.any_eq_false.mpr fun k hk => ?_).symm
      have := h0 k hk
      simp only [decide_eq_true_eq]
      omega
    · rw [decide_eq_true z]
      refine (List.any_eq_true.mpr ⟨_, ha, decide_eq_true ?_⟩).symm
      have := (hb _ ha).1
      omega
  · have h1 : decide (keptT ks ≠ emp) = true := by
      rw [keptT, if_neg al]
      refine decide_eq_true fun e => ?_
      have h1 := congrArg TL.tl e
      rw [TL.tl_append] at h1
      exact absurd (List.append_eq_nil_iff.mp h1).1 (by decide +kernel)
    rw [h1]
    cases h : ks.any fun k => decide (0 < k) with
    | true => rfl
    | false =>
      have h0 : ∀ k ∈ ks, k = 0 := fun k hk => by
        have a := List.any_eq_false.mp h k hk
        have b := (hb k hk).1
        simp only [decide_eq_true_eq] at a
        omega
      refine absurd (List.all_eq_true.mpr fun k hk => decide_eq_true ?_) al
      rw [h0 k hk, h0 _ ha]
theorem ks_ne {f : Fg} (ok : f.Ok) : f.ks ≠ [] := fun z => by
  have a : (f.ks.length : Int) = f.p := ok.len
  have := ok.figs.p0
  rw [z] at a
  exact absurd a (by simp; omega)
theorem ne_0 (f : Fg) : neC f 0 = true := by
  refine decide_eq_true fun e => ?_
  have h1 : partT f.p f.s = emp := e
  have h2 := congrArg TL.tl h1
  unfold partT at h2
  rw [TL.tl_append] at h2
  exact absurd (List.append_eq_nil_iff.mp h2).2 (by decide +kernel)
theorem ne_1 (f : Fg) : neC f 1 = decide (f.g ≠ 0) := cntB (by decide +kernel)
theorem ne_2 (f : Fg) : neC f 2 = f.l := by
  show decide ((if f.l = true then Str.ofString "from last" else Str.ofString "") ≠ emp) = f.l
  cases f.l <;> decide +kernel
theorem ne_3 (f : Fg) : neC f 3 = decide (f.m ≠ 0) := cntB (by decide +kernel)
theorem ne_4 {f : Fg} (ok : f.Ok) : neC f 4 = f.ks.any fun k => decide (0 < k) := kept_ne ok.bnd (ks_ne ok)
theorem ne_5 (f : Fg) : neC f 5 = decide (f.fi ≠ 0) := cntB (by decide +kernel)
theorem ne_6 (f : Fg) : neC f 6 = decide (f.fa ≠ 0) := cntB (by decide +kernel)
theorem ne_7 (f : Fg) : neC f 7 = decide (f.ba ≠ 0) := cntB (by decide +kernel)
theorem seg_if {b : Bool} {n : Str} {v : V} : seg b n v = if b = true then [(n, v)] else [] := rfl
theorem dict_step {f : Fg} (ok : f.Ok) (kv : V) : ∀ {j : Nat}, 1 ≤ j → j < 8 → dictJ f kv (j + 1) = dictJ f kv j ++ (if neC f j = true then itemJ f kv j else [])
  | 0, h, _ => absurd h (by omega)
  | 1, _, _ => by rw [ne_1]; simp only [dictJ, seg_if, itemJ]; simp
  | 2, _, _ => by rw [ne_2]; simp only [dictJ, seg_if, itemJ]; simp
  | 3, _, _ => by rw [ne_3]; simp only [dictJ, seg_if, itemJ]; simp
  | 4, _, _ => by rw [ne_4 ok]; simp only [dictJ, seg_if, itemJ]; simp
  | 5, _, _ => by rw [ne_5]; simp only [dictJ, seg_if, itemJ]; simp
  | 6, _, _ => by rw [ne_6]; simp only [dictJ, seg_if, itemJ]; simp
  | 7, _, _ => by rw [ne_7]; simp only [dictJ, seg_if, itemJ]; simp
  | n + 8, _, h => absurd h (by omega)
theorem dict_idx {f : Fg} (ok : f.Ok) (kv : V) : ∀ {j : Nat}, j < 8 → ((List.range (j + 1)).filter (neC f)).flatMap (itemJ f kv) = dictJ f kv (j + 1)
  | 0, _ => by
    rw [show List.range (0 + 1) = [0] from rfl, List.filter_cons_of_pos (ne_0 f)]
    rfl
  | j + 1, h => by
    rw [List.range_succ, List.filter_append, List.flatMap_append, dict_idx ok kv (by omega), dict_step ok kv (j := j + 1) (by omega) h]
    congr 1
    by_cases c : neC f (j + 1) = true
    · rw [List.filter_cons_of_pos c, if_pos c]
      simp
    · rw [List.filter_cons_of_neg c, if_neg c]
      rfl
theorem kept_zero {n : Nat} : keptT (List.replicate n 0) = emp := by
  have h0 : (List.replicate n (0 : Int)).headD 0 = 0 := by cases n <;> rfl
  rw [keptT, if_pos (List.all_eq_true.mpr fun k hk => decide_eq_true (by rw [h0]; exact List.eq_of_mem_replicate hk)), h0]
  rfl
theorem cnt_if {c : Prop} [Decidable c] {w : Str} {n : Int} : cntT w (if c then n else 0) = if c then cntT w n else emp := by
  split
  · rfl
  · rfl
theorem cut_clause (f : Fg) (j : Nat) : ∀ {i : Nat}, i < 8 → clause (cutF f (j + 1)) i = if i < j + 1 then clause f i else emp
  | 0, _ => by rw [if_pos (by omega)]; rfl
  | 1, _ => cnt_if
  | 2, _ => by
    show (if (decide (2 < j + 1) && f.l) = true then Str.ofString "from last" else Str.ofString "") = _
    by_cases c : 2 < j + 1
    · rw [decide_eq_true c, Bool.true_and, if_pos c]
      rfl
    · rw [decide_eq_false c, Bool.false_and, if_neg c]
      rfl
  | 3, _ => cnt_if
  | 4, _ => by
    show keptT (if 4 < j + 1 then f.ks else List.replicate f.p.toNat 0) = _
    split
    · rfl
    · exact kept_zero
  | 5, _ => cnt_if
  | 6, _ => cnt_if
  | 7, _ => cnt_if
  | n + 8, h => absurd h (by omega)
theorem cls_cut {f : Fg} {j : Nat} (h : j < 8) : clsT (cutF f (j + 1)) = ((List.range (j + 1)).filter (neC f)).map (clause f) := by
  rw [cls_idx]
  have e : idx (cutF f (j + 1)) = (List.range (j + 1)).filter (neC f) := by
    rw [← filter_lt (show j + 1 ≤ 8 by omega)]
    refine List.filter_congr fun i hi => ?_
    unfold neC
    rw [cut_clause f j (List.mem_range.mp hi)]
    by_cases c : i < j + 1
    · rw [if_pos c, decide_eq_true c, Bool.true_and]
    · rw [if_neg c, decide_eq_false c, Bool.false_and]
      exact decide_eq_false (by simp)
  rw [e]
  refine List.map_congr_left fun i hi => ?_
  have h1 := List.mem_range.mp (List.mem_filter.mp hi).1
  rw [cut_clause f j (by omega), if_pos h1]
theorem cut_end {f : Fg} (ok : f.Ok) {j : Nat} (h : ∀ i, j < i → i < 8 → neC f i = false) : cutF f (j + 1) = f := by
  have h1 : ∀ {i : Nat} {x : Int}, i < 8 → neC f i = decide (x ≠ 0) → (if i < j + 1 then x else 0) = x := fun {i x} i8 e => by
    split
    · rfl
    · rename_i c
      have := h i (by omega) i8
      rw [e] at this
      have := of_decide_eq_false this
      omega
  have hk : (if 4 < j + 1 then f.ks else List.replicate f.p.toNat 0) = f.ks := by
    split
    · rfl
    · rename_i c
      have e := h 4 (by omega) (by omega)
      rw [ne_4 ok] at e
      refine (List.eq_replicate_iff.mpr ⟨?_, fun k hk => ?_⟩).symm
      · have a : (f.ks.length : Int) = f.p := ok.len
        omega
      · have a := List.any_eq_false.mp e k hk
        have b := (ok.bnd k hk).1
        simp only [decide_eq_true_eq] at a
        omega
  have hl : (decide (2 < j + 1) && f.l) = f.l := by
    by_cases c : 2 < j + 1
    · rw [decide_eq_true c, Bool.true_and]
    · have e := h 2 (by omega) (by omega)
      rw [ne_2] at e
      rw [e, Bool.and_false]
  show Fg.mk _ _ _ _ _ _ _ _ _ = f
  rw [h1 (by omega) (ne_1 f), hl, h1 (by omega) (ne_3 f), hk, h1 (by omega) (ne_5 f), h1 (by omega) (ne_6 f), h1 (by omega) (ne_7 f)]
theorem idx_nil {f : Fg} : idx f ≠ [] := fun e => by
  have : 0 ∈ idx f := List.mem_filter.mpr ⟨by simp, ne_0 f⟩
  rw [e] at this
  cases this
theorem no44 {f : Fg} (ok : f.Ok) : ∀ c ∈ clsT f, 44 ∉ TL.tl c := by
  have F := ok.figs
  have cn : ∀ (w : Str) (n : Int), 44 ∉ TL.tl w → 0 ≤ n → n ≤ 100 → 44 ∉ TL.tl (cntT w n) := fun w n hw h0 h1 => by
    unfold cntT
    split
    · decide +kernel
    · rw [TL.tl_append, TL.tl_append]
      simp only [List.mem_append, not_or]
      exact ⟨⟨hw, by decide +kernel⟩, (tn_free ⟨h0, h1⟩).2⟩
  have jn : ∀ l : List Str, (∀ p ∈ l, 44 ∉ TL.tl p) → 44 ∉ TL.tl (Txt.join (Str.ofString " ") l) := fun l => by
    induction l with
    | nil => intro _; decide +kernel
    | cons a r ih =>
      intro h
      cases r with
      | nil => exact h a List.mem_cons_self
      | cons b r =>
        rw [join_more, TL.tl_append, TL.tl_append]
        simp only [List.mem_append, not_or]
        exact ⟨⟨h a List.mem_cons_self, by decide +kernel⟩, ih fun p hp => h p (List.mem_cons_of_mem _ hp)⟩
  intro c hc
  have hc := (List.mem_filter.mp hc).1
  simp only [allT, List.mem_cons, List.not_mem_nil, or_false] at hc
  rcases hc with rfl | rfl | rfl | rfl | rfl | rfl | rfl | rfl
  · unfold partT
    rw [TL.tl_append, TL.tl_append, TL.tl_append]
    simp only [List.mem_append, not_or]
    exact ⟨⟨⟨(tn_free ⟨by have := F.p0; omega, by have := F.p1; omega⟩).2, by decide +kernel⟩, (tn_free ⟨by have := F.s0; omega, by have := F.s1; omega⟩).2⟩, by decide +kernel⟩
  · exact cn _ _ (by decide +kernel) F.g0 (by have := F.g1; omega)
  · split <;> decide +kernel
  · exact cn _ _ (by decide +kernel) F.m0 (by have := F.m1; omega)
  · unfold keptT
    split
    · have hb : 0 ≤ f.ks.headD 0 ∧ f.ks.headD 0 ≤ 100 := by
        cases h : f.ks with
        | nil => exact ⟨Int.le_refl _, by decide⟩
        | cons a r => exact ok.bnd a (by rw [h]; exact List.mem_cons_self)
      exact cn _ _ (by decide +kernel) hb.1 hb.2
    · rw [TL.tl_append]
      simp only [List.mem_append, not_or]
      refine ⟨by decide +kernel, jn _ fun p hp => ?_⟩
      obtain ⟨n, hn, rfl⟩ := List.mem_map.mp hp
      exact (tn_free (ok.bnd n hn)).2
  · exact cn _ _ (by decide +kernel) F.fi0 F.fi1
  · exact cn _ _ (by decide +kernel) F.fa0 (by have := F.fa1; omega)
  · exact cn _ _ (by decide +kernel) F.ba0 (by have := F.ba1; omega)
theorem split_cls {f : Fg} (ok : f.Ok) : Txt.split (txtT f) (Str.ofString ", ") = clsT f := TL.split_join (s := 44) (S := [32]) (by decide +kernel) (by decide +kernel) (by rw [cls_idx]; exact fun e => idx_nil (List.map_eq_nil_iff.mp e)) (no44 ok)
/-! ### a dict that gets new names at its end -/
theorem put_new {l : List (Key × V)} {k : Key} {v : V} (h : k ∉ l.map (·.1)) : putK l k v = l ++ [(k, v)] := by
  unfold putK
  rw [if_neg]
  intro z
  obtain ⟨q, hq, e⟩ := List.any_eq_true.mp z
  exact h (List.mem_map.mpr ⟨q, hq, of_decide_eq_true e⟩)
theorem merge_new : ∀ {more l : List (Key × V)}, ((l ++ more).map (·.1)).Nodup → mergeK l more = l ++ more
  | [], l, _ => by rw [List.append_nil]; rfl
  | p :: r, l, h => by
    have h1 : p.1 ∉ l.map (·.1) := by
      rw [List.map_append, List.nodup_append] at h
      exact fun z => h.2.2 _ z _ (by simp) rfl
    show mergeK (putK l p.1 p.2) r = _
    rw [put_new h1, merge_new (by rw [List.append_assoc]; exact h), List.append_assoc]
    rfl
theorem take_next {f : Fg} {t j : Nat} (h : (idx f)[t]? = some j) : (idx f).take (t + 1) = (List.range (j + 1)).filter (neC f) := by
  obtain ⟨h1, _, h3⟩ := take_filter h
  rw [List.take_succ, h, List.range_succ, List.filter_append, List.filter_cons_of_pos h3]
  unfold idx
  rw [h1]
  rfl
theorem item_ne {f : Fg} {a b : V} : ∀ {i : Nat}, i ≠ 4 → itemJ f a i = itemJ f b i
  | 0, _ => rfl
  | 1, _ => rfl
  | 2, _ => rfl
  | 3, _ => rfl
  | 4, h => absurd rfl h
  | 5, _ => rfl
  | 6, _ => rfl
  | _ + 7, _ => rfl
theorem Keep.dict {K : PySem.W.Frag} {H : Hp} {D : Addr} {p : Int} {ks : List Int} {v : V} {d : PyData} {a : List (Key × V)} {o : HO} (h : Keep K H p ks v d) (hD : H D = some (.dK a)) : Keep K (upd H D o) p ks v d := by
  cases h with
  | one k k0 k1 ek => exact .one k k0 k1 ek
  | all t h hl hb =>
    refine .all t ?_ hl hb
    rcases h with (h | ⟨z, h⟩) | h
    · exact .inl (.inl (by rw [upd_ne (fun e => by rw [e, hD] at h; cases h)]; exact h))
    · exact .inl (.inr ⟨z, by rw [upd_ne (fun e => by rw [e, hD] at h; cases h)]; exact h⟩)
    · exact .inr h
theorem cut_take (l : List V) (n : Nat) : cutV l none (some ((n : Int) + 1)) = l.take (n + 1) := by
  unfold cutV
  have e1 : HT.sIx l.length 0 none = 0 := rfl
  have e2 : HT.sIx l.length l.length (some ((n : Int) + 1)) = min (n + 1) l.length := by
    show (if (n : Int) + 1 < 0 then (((n : Int) + 1) + (l.length : Int)).toNat else min ((n : Int) + 1).toNat l.length) = _
    rw [if_neg (by omega)]
    have : ((n : Int) + 1).toNat = n + 1 := by omega
    rw [this]
  rw [e1, e2, List.drop_zero, Nat.sub_zero]
  by_cases h : n + 1 ≤ l.length
  · rw [Nat.min_eq_left h]
  · rw [Nat.min_eq_right (by omega), List.take_length, List.take_of_length_le (by omega)]
theorem for_enum {K : PySem.W.Frag} {a : Addr} {xs : List V} {g : TG} {tb : TS} {D : Ends} {σ : _root_.L2.St} {H : Hp} (Pv : Nat → _root_.L2.St → Hp → Prop) (h0 : Pv 0 σ H) (hl : ∀ i σ H, i ≤ xs.length → Pv i σ H → SqL K H a xs)
    (hs : ∀ i x σ H T, xs[i]? = some x → Pv i σ H → H T = none → g (.ref T) σ (upd H T (.tup [.int (i : Nat), x])) fun σ2 H2 => tb { D with nx := Pv (i + 1), ct := Pv (i + 1), bk := D.nx } σ2 H2) (hd : ∀ σ H, Pv xs.length σ H → D.nx σ H) :
    ∃ W : Nat → Nat → _root_.L2.St → Hp → Prop, (∃ m, W 0 m σ H) ∧ ∀ i m σ H, W i m σ H →
      ((Ite K a).stop i H ∧ D.nx σ H) ∨ ((Ite K a).go i H ∧ ∃ N : _root_.L2.St → Hp → Prop, (∀ σ' H', N σ' H' → ∃ m', m' < m ∧ W (i + 1) m' σ' H') ∧ ∀ x H', (Ite K a).yld i H x H' → g x σ H' fun σ2 H2 => tb { D with nx := N, ct := N, bk := D.nx } σ2 H2) := by
  refine ⟨fun i m σ H => m = xs.length - i ∧ i ≤ xs.length ∧ Pv i σ H, ⟨xs.length, by simp, Nat.zero_le _, h0⟩, ?_⟩
  rintro i m σ H ⟨rfl, hi, p⟩
  have q := hl i σ H hi p
  by_cases hlt : i < xs.length
  · refine .inr ⟨⟨xs, xs[i], q, by simp [hlt]⟩, Pv (i + 1), fun σ' H' p' => ⟨xs.length - (i + 1), by omega, rfl, hlt, p'⟩, fun x H' y => ?_⟩
    obtain ⟨T, z, rfl, nT, rfl, hz⟩ := y
    exact hs i z σ H T (hz xs q) p nT
  · have e : i = xs.length := by omega
    subst e
    exact .inl ⟨⟨xs, q, Nat.le_refl _⟩, hd σ H p⟩
/-! ### a rule's text tells its figures -/
theorem tn_inj {a b : Int} (ha : 0 ≤ a ∧ a ≤ 100) (hb : 0 ≤ b ∧ b ≤ 100) (h : tn a = tn b) : a = b := by
  have h0 : Str.ofString (toString a) = Str.ofString (toString b) := h
  have h1 := num_at ha
  rw [h0, num_at hb] at h1
  exact (V.int.inj h1).symm
theorem app_cancel {a b c : Str} (h : a ++ b = a ++ c) : b = c := by
  have h1 := congrArg TL.tl h
  rw [TL.tl_append, TL.tl_append] at h1
  exact TL.ext_tl (List.append_cancel_left h1)
theorem cnt_inj {w : Str} {a b : Int} (ha : 0 ≤ a ∧ a ≤ 100) (hb : 0 ≤ b ∧ b ≤ 100) (hw : w ≠ emp) (h : cntT w a = cntT w b) : a = b := by
  have h1 : decide (a ≠ 0) = decide (b ≠ 0) := by rw [← cntB hw, ← cntB hw, h]
  by_cases z : a = 0
  · have z2 : b = 0 := by
      rw [decide_eq_false (fun e => e z)] at h1
      have := of_decide_eq_false h1.symm
      omega
    rw [z, z2]
  · have z2 : b ≠ 0 := by
      rw [decide_eq_true z] at h1
      exact of_decide_eq_true h1.symm
    unfold cntT at h
    rw [if_neg z, if_neg z2] at h
    exact tn_inj ha hb (app_cancel h)
theorem tn_map {ks : List Int} (hb : ∀ k ∈ ks, 0 ≤ k ∧ k ≤ 100) : (ks.map tn).map numV = ks.map V.int := by
  rw [List.map_map]
  exact List.map_congr_left fun k hk => num_at (hb k hk)
theorem ints_inj : ∀ {a b : List Int}, a.map V.int = b.map V.int → a = b
  | [], [], _ => rfl
  | [], _ :: _, h => by cases h
  | _ :: _, [], h => by cases h
  | x :: a, y :: b, h => by
    obtain ⟨h1, h2⟩ := List.cons.inj h
    rw [V.int.inj h1, ints_inj h2]
theorem tns_inj {a b : List Int} (ha : ∀ k ∈ a, 0 ≤ k ∧ k ≤ 100) (hb : ∀ k ∈ b, 0 ≤ k ∧ k ≤ 100) (h : a.map tn = b.map tn) : a = b := by
  have h1 := tn_map ha
  rw [h, tn_map hb] at h1
  exact (ints_inj h1).symm
theorem tns_free {a : List Int} (ha : ∀ k ∈ a, 0 ≤ k ∧ k ≤ 100) : ∀ p ∈ a.map tn, 32 ∉ TL.tl p := fun p hp => by
  obtain ⟨k, hk, rfl⟩ := List.mem_map.mp hp
  exact (tn_free (ha k hk)).1
theorem kept_mix {a b : List Int} (ha : ∀ k ∈ a, 0 ≤ k ∧ k ≤ 100) (hb : ∀ k ∈ b, 0 ≤ k ∧ k ≤ 100) (na : a ≠ []) (nb : b ≠ []) (c1 : a.all (fun k => decide (k = a.headD 0)) = true) (c2 : ¬ b.all (fun k => decide (k = b.headD 0)) = true) (h : keptT a = keptT b) : False := by
  have ha0 : 0 ≤ a.headD 0 ∧ a.headD 0 ≤ 100 := by
    cases a with
    | nil => exact absurd rfl na
    | cons x r => exact ha x List.mem_cons_self
  unfold keptT at h
  rw [if_pos c1, if_neg c2] at h
  by_cases z : a.headD 0 = 0
  · rw [cntT, if_pos z] at h
    have h1 := congrArg TL.tl h
    rw [TL.tl_append] at h1
    exact absurd (List.append_eq_nil_iff.mp h1.symm).1 (by decide +kernel)
  · rw [cntT, if_neg z] at h
    have e : Str.ofString "keep " = Str.ofString "keep" ++ Str.ofString " " := by decide +kernel
    rw [e] at h
    have h1 : tn (a.headD 0) = Txt.join (Str.ofString " ") (b.map tn) := app_cancel h
    have h2 := split_pieces (pcs := b.map tn) (by simpa using nb) (tns_free hb)
    have h3 : Txt.split (tn (a.headD 0)) " " = [tn (a.headD 0)] := by
      have := split_pieces (pcs := [tn (a.headD 0)]) (by simp) (fun p hp => by rw [List.mem_singleton.mp hp]; exact (tn_free ha0).1)
      have e1 : Txt.join " " [tn (a.headD 0)] = tn (a.headD 0) := by rw [TL.join_eq]; rfl
      rw [e1] at this
      exact this
    rw [← h1, h3] at h2
    match b, h2, c2 with
    | [], h2, _ => cases h2
    | [x], _, c2 => exact c2 (by simp)
    | _ :: _ :: _, h2, _ => exact absurd (List.cons.inj h2).2 (by simp)
theorem kept_inj {a b : List Int} (ha : ∀ k ∈ a, 0 ≤ k ∧ k ≤ 100) (hb : ∀ k ∈ b, 0 ≤ k ∧ k ≤ 100) (na : a ≠ []) (nb : b ≠ []) (hl : a.length = b.length) (h : keptT a = keptT b) : a = b := by
  by_cases c1 : a.all (fun k => decide (k = a.headD 0)) = true
  · by_cases c2 : b.all (fun k => decide (k = b.headD 0)) = true
    · have h0 := h
      unfold keptT at h0
      rw [if_pos c1, if_pos c2] at h0
      have ha0 : 0 ≤ a.headD 0 ∧ a.headD 0 ≤ 100 := by
        cases a with
        | nil => exact absurd rfl na
        | cons x r => exact ha x List.mem_cons_self
      have hb0 : 0 ≤ b.headD 0 ∧ b.headD 0 ≤ 100 := by
        cases b with
        | nil => exact absurd rfl nb
        | cons x r => exact hb x List.mem_cons_self
      have e := cnt_inj ha0 hb0 (by decide +kernel) h0
      have r1 : a = List.replicate a.length (a.headD 0) := List.eq_replicate_iff.mpr ⟨rfl, fun k hk => of_decide_eq_true (List.all_eq_true.mp c1 k hk)⟩
      have r2 : b = List.replicate b.length (b.headD 0) := List.eq_replicate_iff.mpr ⟨rfl, fun k hk => of_decide_eq_true (List.all_eq_true.mp c2 k hk)⟩
      rw [r1, r2, hl, e]
    · exact (kept_mix ha hb na nb c1 c2 h).elim
  · by_cases c2 : b.all (fun k => decide (k = b.headD 0)) = true
    · exact (kept_mix hb ha nb na c2 c1 h.symm).elim
    · unfold keptT at h
      rw [if_neg c1, if_neg c2] at h
      have h1 := app_cancel h
      have h2 := split_pieces (pcs := a.map tn) (by simpa using na) (tns_free ha)
      have h3 := split_pieces (pcs := b.map tn) (by simpa using nb) (tns_free hb)
      have h4 : Txt.join " " (a.map tn) = Txt.join " " (b.map tn) := h1
      rw [h4, h3] at h2
      exact (tns_inj hb ha h2).symm
theorem part_inj {p s p' s' : Int} (hp : 0 ≤ p ∧ p ≤ 100) (hs : 0 ≤ s ∧ s ≤ 100) (hp' : 0 ≤ p' ∧ p' ≤ 100) (hs' : 0 ≤ s' ∧ s' ≤ 100) (h : partT p s = partT p' s') : p = p' ∧ s = s' := by
  have fr : ∀ {a b : Int}, 0 ≤ a ∧ a ≤ 100 → 0 ≤ b ∧ b ≤ 100 → ∀ x ∈ ([tn a, "parts", "by", tn b, "days"] : List Str), 32 ∉ TL.tl x := fun {a b} ha hb x hx => by
    simp only [List.mem_cons, List.not_mem_nil, or_false] at hx
    rcases hx with rfl | rfl | rfl | rfl | rfl
    · exact (tn_free ha).1
    · decide +kernel
    · decide +kernel
    · exact (tn_free hb).1
    · decide +kernel
  have h1 := split_pieces (pcs := [tn p, "parts", "by", tn s, "days"]) (by simp) (fr hp hs)
  rw [← part_join, h, part_join, split_pieces (by simp) (fr hp' hs')] at h1
  simp only [List.cons.injEq, and_true, true_and] at h1
  exact ⟨(tn_inj hp' hp h1.1).symm, (tn_inj hs' hs h1.2).symm⟩
/-- the word that a clause begins with -/
def word (i : Nat) : Str := match i with
  | 1 => "grace"
  | 2 => "from"
  | 3 => "misses"
  | 4 => "keep"
  | 5 => "fine"
  | 6 => "falls"
  | 7 => "back"
  | _ => ""
def hdW (c : Str) : Str := (Txt.split c " ").headD emp
def kind (c : Str) : Nat := ((List.range 8).find? fun i => decide (i ≠ 0) && decide (word i = hdW c)).getD 0
theorem tn_words : ∀ n : Fin 101, (List.range 8).find? (fun i => decide (i ≠ 0) && decide (word i = tn ((n : Nat) : Int))) = none := by decide +kernel
theorem kind_word : ∀ i : Fin 8, (i : Nat) ≠ 0 → (((List.range 8).find? fun k => decide (k ≠ 0) && decide (word k = word i)).getD 0) = (i : Nat) := by decide +kernel
theorem hit_word {f : Fg} {w : Str} {n : Int} : ∀ {i : Nat}, i < 8 → i ≠ 2 → itemJ f (.int n) i = [(w, .int n)] → i ≠ 0 ∧ w = word i
  | 0, _, _, h => by
    have h : [(Str.ofString "parts", V.int f.p), (Str.ofString "step", V.int f.s)] = [(w, V.int n)] := h
    exact absurd (List.cons.inj h).2 (by simp)
  | 1, _, _, h => ⟨by decide, (congrArg Prod.fst (List.cons.inj (show [(Str.ofString "grace", V.int f.g)] = [(w, V.int n)] from h)).1).symm⟩
  | 2, _, h, _ => absurd rfl h
  | 3, _, _, h => ⟨by decide, (congrArg Prod.fst (List.cons.inj (show [(Str.ofString "misses", V.int f.m)] = [(w, V.int n)] from h)).1).symm⟩
  | 4, _, _, h => ⟨by decide, (congrArg Prod.fst (List.cons.inj (show [(Str.ofString "keep", V.int n)] = [(w, V.int n)] from h)).1).symm⟩
  | 5, _, _, h => ⟨by decide, (congrArg Prod.fst (List.cons.inj (show [(Str.ofString "fine", V.int f.fi)] = [(w, V.int n)] from h)).1).symm⟩
  | 6, _, _, h => ⟨by decide, (congrArg Prod.fst (List.cons.inj (show [(Str.ofString "falls", V.int f.fa)] = [(w, V.int n)] from h)).1).symm⟩
  | 7, _, _, h => ⟨by decide, (congrArg Prod.fst (List.cons.inj (show [(Str.ofString "back", V.int f.ba)] = [(w, V.int n)] from h)).1).symm⟩
  | k + 8, h, _, _ => absurd h (by omega)
theorem kind_at {f : Fg} (ok : f.Ok) {i : Nat} (i8 : i < 8) (hn : neC f i = true) : kind (clause f i) = i := by
  have hc := of_decide_eq_true hn
  have hcl : (allT f)[i]? = some (clause f i) := by
    unfold clause
    have : i < (allT f).length := i8
    rw [List.getElem?_eq_getElem this]
    rfl
  by_cases i2 : i = 2
  · subst i2
    rw [ne_2] at hn
    have e : clause f 2 = Str.ofString "from last" := by
      show (if f.l = true then Str.ofString "from last" else Str.ofString "") = _
      rw [if_pos hn]
    rw [e]
    decide +kernel
  obtain ⟨pcs, hj, hfree, _, hne, _, hsh⟩ := shape ok hcl hc i8 i2
  have hs : Txt.split (clause f i) " " = pcs := by rw [hj]; exact split_pieces hne hfree
  unfold kind hdW
  rw [hs]
  rcases hsh with ⟨rfl, rfl⟩ | ⟨w, n, rfl, m0, m1, hw, hit, _⟩ | ⟨rfl, rfl, _⟩
  · have F := ok.figs
    obtain ⟨m, hm⟩ := Int.eq_ofNat_of_zero_le (show 0 ≤ f.p by have := F.p0; omega)
    have := tn_words ⟨m, by have := F.p1; omega⟩
    show (List.find? (fun i => decide (i ≠ 0) && decide (word i = tn f.p)) (List.range 8)).getD 0 = 0
    rw [hm, this]
    rfl
  · obtain ⟨i0, rfl⟩ := hit_word i8 i2 hit
    show (((List.range 8).find? fun k => decide (k ≠ 0) && decide (word k = word i)).getD 0) = i
    exact kind_word ⟨i, i8⟩ i0
  · show (((List.range 8).find? fun k => decide (k ≠ 0) && decide (word k = word 4)).getD 0) = 4
    exact kind_word ⟨4, by decide⟩ (by decide)
theorem idx_kind {f : Fg} (ok : f.Ok) : (clsT f).map kind = idx f := by
  rw [cls_idx, List.map_map]
  conv => rhs; rw [← List.map_id (idx f)]
  refine List.map_congr_left fun i hi => ?_
  obtain ⟨h1, h2⟩ := List.mem_filter.mp hi
  exact kind_at ok (List.mem_range.mp h1) h2
theorem txt_inj {f g : Fg} (okf : f.Ok) (okg : g.Ok) (h : txtT f = txtT g) : f = g := by
  have h1 := split_cls okf
  rw [h, split_cls okg] at h1
  have hi : idx f = idx g := by rw [← idx_kind okf, ← idx_kind okg, h1]
  have hc : ∀ i, i < 8 → clause f i = clause g i := fun i i8 => by
    by_cases m : i ∈ idx f
    · have h2 := h1
      rw [cls_idx, cls_idx, hi] at h2
      rw [hi] at m
      exact (List.map_inj_left.mp h2 i m).symm
    · have m2 : i ∉ idx g := by rw [← hi]; exact m
      have nn : ∀ {x : Fg}, i ∉ idx x → clause x i = emp := fun {x} hx => by
        cases e : neC x i with
        | true => exact absurd (List.mem_filter.mpr ⟨List.mem_range.mpr i8, e⟩) hx
        | false =>
          have := of_decide_eq_false e
          exact Classical.not_not.mp this
      rw [nn m, nn m2]
  have F := okf.figs
  have G := okg.figs
  obtain ⟨e0, e1⟩ := part_inj ⟨by have := F.p0; omega, by have := F.p1; omega⟩ ⟨by have := F.s0; omega, by have := F.s1; omega⟩ ⟨by have := G.p0; omega, by have := G.p1; omega⟩ ⟨by have := G.s0; omega, by have := G.s1; omega⟩ (hc 0 (by decide))
  have e2 : f.g = g.g := cnt_inj ⟨F.g0, by have := F.g1; omega⟩ ⟨G.g0, by have := G.g1; omega⟩ (by decide +kernel) (hc 1 (by decide))
  have e3 : f.l = g.l := by rw [← ne_2, ← ne_2]; unfold neC; rw [hc 2 (by decide)]
  have e4 : f.m = g.m := cnt_inj ⟨F.m0, by have := F.m1; omega⟩ ⟨G.m0, by have := G.m1; omega⟩ (by decide +kernel) (hc 3 (by decide))
  have e5 : f.ks = g.ks := kept_inj okf.bnd okg.bnd (ks_ne okf) (ks_ne okg) (by have a : (f.ks.length : Int) = f.p := okf.len; have b : (g.ks.length : Int) = g.p := okg.len; omega) (hc 4 (by decide))
  have e6 : f.fi = g.fi := cnt_inj ⟨F.fi0, F.fi1⟩ ⟨G.fi0, G.fi1⟩ (by decide +kernel) (hc 5 (by decide))
  have e7 : f.fa = g.fa := cnt_inj ⟨F.fa0, by have := F.fa1; omega⟩ ⟨G.fa0, by have := G.fa1; omega⟩ (by decide +kernel) (hc 6 (by decide))
  have e8 : f.ba = g.ba := cnt_inj ⟨F.ba0, by have := F.ba1; omega⟩ ⟨G.ba0, by have := G.ba1; omega⟩ (by decide +kernel) (hc 7 (by decide))
  obtain ⟨p, s', g', l, m, ks, fi, fa, ba⟩ := f
  obtain ⟨p2, s2, g2, l2, m2, ks2, fi2, fa2, ba2⟩ := g
  simp only at e0 e1 e2 e3 e4 e5 e6 e7 e8
  subst e0 e1 e2 e3 e4 e5 e6 e7 e8
  rfl
/-- a rule's text is short -/
theorem txt_200 {f : Fg} (ok : f.Ok) : (txtT f).length ≤ 200 := by
  have F := ok.figs
  have n4 : ∀ {n : Int}, 0 ≤ n → n ≤ 100 → (tn n).length ≤ 4 := fun {n} h0 h1 => PyProof.Rows.toString_length_le (v := n) h0 (k := 4) (by decide) (by show n < 10000; omega)
  have ap : ∀ a b : Str, (a ++ b).length = a.length + b.length := Str.length_append
  have l1 : (Str.ofString " ").length = 1 := rfl
  have ct : ∀ (w : Str) (n : Int), w.length ≤ 6 → 0 ≤ n → n ≤ 100 → (cntT w n).length ≤ 11 := fun w n hw h0 h1 => by
    unfold cntT
    split
    · exact Nat.zero_le _
    · rw [ap, ap, l1]
      have := n4 h0 h1
      show w.length + 1 + (tn n).length ≤ 11
      omega
  have pt : (partT f.p f.s).length ≤ 23 := by
    unfold partT
    rw [ap, ap, ap]
    have a := n4 (n := f.p) (by have := F.p0; omega) (by have := F.p1; omega)
    have b := n4 (n := f.s) (by have := F.s0; omega) (by have := F.s1; omega)
    have c : (Str.ofString " parts by ").length = 10 := rfl
    have d : (Str.ofString " days").length = 5 := rfl
    show (tn f.p).length + _ + (tn f.s).length + _ ≤ 23
    omega
  have kt : (keptT f.ks).length ≤ 40 := by
    unfold keptT
    split
    · have hb : 0 ≤ f.ks.headD 0 ∧ f.ks.headD 0 ≤ 100 := by
        cases h : f.ks with
        | nil => exact ⟨Int.le_refl _, by decide⟩
        | cons a r => exact ok.bnd a (by rw [h]; exact List.mem_cons_self)
      have := ct "keep" (f.ks.headD 0) (by decide +kernel) hb.1 hb.2
      omega
    · have jl := PySem.StrLaws.join_length_le (Str.ofString " ") (f.ks.map tn)
      rw [← TL.join_eq, l1, List.length_map] at jl
      have sm : ∀ l : List Int, (∀ k ∈ l, 0 ≤ k ∧ k ≤ 100) → ((l.map tn).map (·.length)).sum ≤ l.length * 4 := fun l => by
        induction l with
        | nil => intro _; exact Nat.zero_le _
        | cons a l ih =>
          intro hb
          have i1 := ih fun x hx => hb x (List.mem_cons_of_mem _ hx)
          have i2 := hb a List.mem_cons_self
          have i3 := n4 i2.1 i2.2
          rw [List.map_cons, List.map_cons, List.sum_cons, List.length_cons]
          omega
      have := sm f.ks ok.bnd
      have a : (f.ks.length : Int) = f.p := ok.len
      have := F.p1
      have d : (Str.ofString "keep ").length = 5 := rfl
      rw [ap, d]
      show 5 + (Txt.join (Str.ofString " ") (f.ks.map tn)).length ≤ 40
      omega
  have lt : (if f.l = true then Str.ofString "from last" else Str.ofString "").length ≤ 9 := by
    split <;> decide +kernel
  have jl := PySem.StrLaws.join_length_le (Str.ofString ", ") (clsT f)
  rw [← TL.join_eq] at jl
  have e2 : (Str.ofString ", ").length = 2 := rfl
  rw [e2] at jl
  have fl : ∀ l : List Str, ((l.filter fun s => decide (s ≠ Str.ofString "")).map (·.length)).sum ≤ (l.map (·.length)).sum := fun l => by
    induction l with
    | nil => exact Nat.le_refl _
    | cons a l ih =>
      rw [List.filter_cons]
      split
      · rw [List.map_cons, List.map_cons, List.sum_cons, List.sum_cons]
        omega
      · rw [List.map_cons, List.sum_cons]
        omega
  have h1 := fl (allT f)
  have h2 : ((allT f).map (·.length)).sum = (partT f.p f.s).length + ((cntT "grace" f.g).length + ((if f.l = true then Str.ofString "from last" else Str.ofString "").length + ((cntT "misses" f.m).length + ((keptT f.ks).length + ((cntT "fine" f.fi).length + ((cntT "falls" f.fa).length + ((cntT "back" f.ba).length + 0))))))) := rfl
  have c1 := ct "grace" f.g (by decide +kernel) F.g0 (by have := F.g1; omega)
  have c2 := ct "misses" f.m (by decide +kernel) F.m0 (by have := F.m1; omega)
  have c3 := ct "fine" f.fi (by decide +kernel) F.fi0 F.fi1
  have c4 := ct "falls" f.fa (by decide +kernel) F.fa0 (by have := F.fa1; omega)
  have c5 := ct "back" f.ba (by decide +kernel) F.ba0 (by have := F.ba1; omega)
  have h3 : (clsT f).length ≤ 8 := (cls_len ok).2
  have h4 : ((clsT f).map (·.length)).sum ≤ ((allT f).map (·.length)).sum := h1
  show (Txt.join (Str.ofString ", ") (clsT f)).length ≤ 200
  omega
/-! ### read_rule -/
abbrev s_read_rule : Stmt := topS 26
abbrev N_read_rule : List Str := ["text", "clauses", "figures", "rule", "place", "clause"]
theorem sc_read_rule : FnScope N_read_rule ["text"] (defScope s_read_rule) := ⟨rfl, rfl, rfl, by decide +kernel, rfl, by decide +kernel, by decide +kernel⟩
def sp_read_rule (K : PySem.W.Frag) (C : Addr) : Sp := fun vs H Q _ => ∃ (f : Fg), vs = [.str (txtT f)] ∧ f.Ok ∧ ∀ H' r, Same H H' → RuleAt K H' C r f → Q (.ref r) H'
theorem ok_read_rule {f : Addr} {fd : FuncData} (F : Fun K "read_rule" "read_rule" s_read_rule f fd) (g : mg "read_rule" = some (.ref f)) (bd : Binds K fd ["text"] []) {CR : Addr} (TQ : TEq K mg CR "Rule") (T_Rule : TRule K mg CR) (m_enumerate : mg "enumerate" = none) (C_figures_in : CF P w K mg base 3 "figures_in" ["clause"] (sp_figures_in K)) (C_rule_of : CF P w K mg base 6 "rule_of" ["figures"] (sp_rule_of K CR)) (C_rule_text : CF P w K mg base 7 "rule_text" ["rule"] (sp_rule_text K CR)) : CF P w K mg base 8 "read_rule" ["text"] (sp_read_rule K CR) := by
  refine ⟨f, fd, F.ok sc_read_rule (fun vs H Q E h => ?_) (fun cdv A outer s H vs Q E hr h => ?_), g, F.kp, bd⟩
  · first | (obtain ⟨_, rfl, _⟩ := h; rfl) | (obtain ⟨_, _, rfl, _⟩ := h; rfl) | (obtain ⟨_, _, _, rfl, _⟩ := h; rfl) | (obtain ⟨_, _, _, _, rfl, _⟩ := h; rfl) | (obtain ⟨_, _, _, _, _, rfl, _⟩ := h; rfl) | (obtain ⟨_, _, _, _, _, _, rfl, _⟩ := h; rfl) | (obtain ⟨_, _, _, _, _, _, _, rfl, _⟩ := h; rfl) | (obtain ⟨_, _, _, _, _, _, _, _, rfl, _⟩ := h; rfl) | (obtain ⟨_, _, _, _, _, _, _, _, _, rfl, _⟩ := h; rfl) | (obtain ⟨_, _, _, _, _, _, _, _, _, _, rfl, _⟩ := h; rfl) | (obtain ⟨_, _, _, _, _, _, _, _, _, _, _, rfl, _⟩ := h; rfl) | (obtain ⟨_, _, _, _, _, _, _, _, _, _, _, _, rfl, _⟩ := h; rfl) | (obtain ⟨_, _, _, _, _, _, _, _, _, _, _, _, _, rfl, _⟩ := h; rfl) | (obtain ⟨_, _, _, _, _, _, _, _, _, _, _, _, _, _, rfl, _⟩ := h; rfl) | (obtain ⟨_, _, _, _, _, _, _, _, _, _, _, _, _, _, _, rfl, _⟩ := h; rfl)
  · have hu64 := hr.units
    obtain ⟨f', rfl, ok, q⟩ := h
    refine ⟨_, (pss_cons (ps_set (i := 1) sc_read_rule.nd rfl (.inl rfl) (pe_split (pv 0) pe_str))
      (pss_cons (ps_set (i := 2) sc_read_rule.nd rfl (.inl rfl) pe_dnewK)
      (pss_cons (ps_set (i := 3) sc_read_rule.nd rfl (.inl rfl) pe_non)
      (pss_cons (ps_for PassesOwn.never rfl (pi_enum (by rfl) m_enumerate (pa_cons (pv 1) pa_nil)) (pg_tup (by rfl) (pgs_cons (pg_name (i := 4) sc_read_rule.nd rfl (.inl rfl)) (pgs_cons (pg_name (i := 5) sc_read_rule.nd rfl (.inl rfl)) pgs_nil)))
         (pss_cons (ps_expr (pe_bm PySem.F.plainAttrs_dict PySem.F.slot_dict_update PySem.F.type_dict_update mt_update (pv 2) (pa_cons (pe_cf C_figures_in (hr.mono (by decide)) (by rfl) (pa_cons (pv 5) pa_nil)) pa_nil)))
          (pss_cons (ps_set (i := 3) sc_read_rule.nd rfl (.inl rfl) (pe_cf C_rule_of (hr.mono (by decide)) (by rfl) (pa_cons (pv 2) pa_nil)))
          (pss_one (ps_if (PW.pt (pw_or (pt_cmpR op_isN (pv 3) pe_non (nomark _)) (pw_or1 (pt_cmpR op_ne (pe_cf C_rule_text (hr.mono (by decide)) (by rfl) (pa_cons (pv 3) pa_nil)) (pe_join pe_str (pe_slice (kk_sll K) (pv 1) po_none (po_some (pe_op op_add (pv 4) pe_int)))) (nomark _)))))
             (pss_one ps_never)
             pss_nil)))))
      (pss_one (ps_ret (pv 3))))))), ?_⟩
    have hlt : (txtT f').length ≤ 1000 := by
      obtain ⟨b1, b2⟩ := cls_len ok
      have jl := PySem.StrLaws.join_length_le (Str.ofString ", ") (clsT f')
      rw [← TL.join_eq] at jl
      have e2 : (Str.ofString ", ").length = 2 := rfl
      rw [e2] at jl
      show (Txt.join (Str.ofString ", ") (clsT f')).length ≤ 1000
      omega
    refine ⟨_, rfl, ⟨_, rfl⟩, _, _, rfl, rfl, by decide +kernel, by rw [sizeLine_eq]; omega, fun L1 n1 => ?_⟩
    rw [split_cls ok]
    have s1 := same_new (o := .lst ((clsT f').map V.str)) n1
    have x1 := upd_same (H := H) (a := L1) (o := .lst ((clsT f').map V.str))
    generalize upd H L1 (.lst ((clsT f').map V.str)) = H1 at *
    intro D nD
    have hS1 : SqL K H1 L1 ((clsT f').map V.str) := SqL.of x1
    have nDH : H D = none := s1.free nD
    have sD := same_new (o := .dK []) nD
    have il : (idx f').length = (clsT f').length := by rw [cls_idx, List.length_map]
    obtain ⟨b1, b2⟩ := cls_len ok
    refine ⟨_, rfl, L1, _, rfl, sD.seq hS1, for_enum (K := K) (a := L1) (xs := (clsT f').map V.str) (fun t σ G => ∃ (kv : V) (kd : PyData) (s3 s4 s5 : Option V), σ = [some (.str (txtT f')), some (.ref L1), some (.ref D), s3, s4, s5] ∧ Same H1 G ∧
      G D = some (.dK ((((idx f').take t).flatMap (itemJ f' kv)).map fun p => (Sum.inr p.1, p.2))) ∧ (4 ∈ (idx f').take t → Keep K G f'.p f'.ks kv kd) ∧ ∀ j, (idx f')[t - 1]? = some j → 0 < t → ∃ r, s3 = some (.ref r) ∧ RuleAt K G CR r (cutF f' (j + 1)))
      ⟨.non, .none, _, _, _, rfl, sD, upd_same, (fun h => by simp at h), fun j _ h => absurd h (Nat.lt_irrefl _)⟩ (fun t σ G _ h => by obtain ⟨_, _, _, _, _, _, h, _⟩ := h; exact h.seq hS1) (fun t x σ G T hx h nT => ?_) (fun σ G h => ?_)⟩
    case refine_2 =>
      obtain ⟨kv, kd, s3, s4, s5, rfl, sG, hD, hk, hr⟩ := h
      rw [List.length_map, ← il] at hr
      have hpos : 0 < (idx f').length := List.length_pos_iff.mpr idx_nil
      obtain ⟨j, hj⟩ : ∃ j, (idx f')[(idx f').length - 1]? = some j := ⟨_, List.getElem?_eq_getElem (by omega)⟩
      obtain ⟨r, rfl, hR⟩ := hr j hj hpos
      have e : cutF f' (j + 1) = f' := cut_end ok fun i hij i8 => by
        cases hn : neC f' i with
        | false => rfl
        | true =>
          have hi : i ∈ idx f' := List.mem_filter.mpr ⟨List.mem_range.mpr i8, hn⟩
          have h1 : (idx f').take ((idx f').length - 1 + 1) = (List.range (j + 1)).filter (neC f') := take_next hj
          rw [List.take_of_length_le (by omega)] at h1
          rw [h1] at hi
          have := List.mem_range.mp (List.mem_filter.mp hi).1
          omega
      rw [e] at hR
      exact ⟨_, rfl, q G r (s1.trans sG) hR⟩
    obtain ⟨kv, kd, s3, s4, s5, rfl, sG, hD, hk, hr⟩ := h
    rw [cls_idx, List.map_map, List.getElem?_map] at hx
    obtain ⟨j, hj, rfl⟩ : ∃ j, (idx f')[t]? = some j ∧ V.str (clause f' j) = x := by
      cases e : (idx f')[t]? with
      | none => rw [e] at hx; cases hx
      | some j => rw [e] at hx; exact ⟨j, rfl, Option.some.inj hx⟩
    obtain ⟨ht, j8, hne⟩ := take_filter hj
    have hc := of_decide_eq_true hne
    have hcl : (allT f')[j]? = some (clause f' j) := by
      unfold clause
      have : j < (allT f').length := j8
      rw [List.getElem?_eq_getElem this]
      rfl
    have sT := same_new (o := .tup [.int (t : Nat), .str (clause f' j)]) nT
    have hDT := sT _ _ hD
    refine ⟨T, _, rfl, SqT.of upd_same, rfl, _, _, rfl, _, _, rfl, rfl, ?_⟩
    generalize upd G T (.tup [.int (t : Nat), .str (clause f' j)]) = G1 at *
    refine ⟨_, rfl, .inr (.inr (.inl ⟨rfl, .inl ⟨_, hDT⟩⟩)), _, rfl, f', j, _, rfl, ok, hcl, hc, fun G2 D2 kv2 kd2 s2 nD2 hD2 hk2 => ?_⟩
    have sGG := sT.trans s2
    obtain ⟨kv', kd', e1, e2, hk'⟩ : ∃ kv' kd', (∀ i ∈ (idx f').take t, itemJ f' kv i = itemJ f' kv' i) ∧ itemJ f' kv2 j = itemJ f' kv' j ∧ (4 ∈ (idx f').take (t + 1) → Keep K G2 f'.p f'.ks kv' kd') := by
      rw [take_next hj]
      have ht' : (idx f').take t = (List.range j).filter (neC f') := ht
      by_cases c : j = 4
      · refine ⟨kv2, kd2, fun i hi => item_ne fun e => ?_, rfl, fun _ => hk2 c⟩
        rw [ht'] at hi
        have := List.mem_range.mp (List.mem_filter.mp hi).1
        omega
      · refine ⟨kv, kd, fun i _ => rfl, item_ne c, fun h4 => ?_⟩
        refine (hk ?_).same sGG
        rw [ht']
        obtain ⟨h5, h6⟩ := List.mem_filter.mp h4
        have := List.mem_range.mp h5
        exact List.mem_filter.mpr ⟨List.mem_range.mpr (by omega), h6⟩
    have eM : ((idx f').take t).flatMap (itemJ f' kv) ++ itemJ f' kv2 j = dictJ f' kv' (j + 1) := by
      rw [← dict_idx ok kv' j8, ← take_next hj, List.take_succ, hj, List.flatMap_append, e2, List.flatMap_def (l := (idx f').take t), List.flatMap_def (l := (idx f').take t), List.map_congr_left e1]
      congr 1
      show _ = itemJ f' kv' j ++ []
      rw [List.append_nil]
    have eL : ((((idx f').take t).flatMap (itemJ f' kv)).map fun p => ((Sum.inr p.1 : Key), p.2)) ++ ((itemJ f' kv2 j).map fun p => ((Sum.inr p.1 : Key), p.2)) = (dictJ f' kv' (j + 1)).map fun p => ((Sum.inr p.1 : Key), p.2) := by
      rw [← List.map_append, eM]
    have hnd : ((dictJ f' kv' (j + 1)).map fun p => ((Sum.inr p.1 : Key), p.2)).length ≤ 9 ∧ (((dictJ f' kv' (j + 1)).map fun p => ((Sum.inr p.1 : Key), p.2)).map (·.1)).Nodup := by
      have hs := dict_sub f' kv' (j + 1)
      have h9 := hs.length_le
      rw [List.length_map] at h9
      refine ⟨by rw [List.length_map]; exact h9, ?_⟩
      rw [List.map_map]
      have h10 : ((dictJ f' kv' (j + 1)).map (·.1)).Nodup := hs.nodup (by decide +kernel)
      have h11 : ((dictJ f' kv' (j + 1)).map ((·.1) ∘ fun p => ((Sum.inr p.1 : Key), p.2))) = ((dictJ f' kv' (j + 1)).map (·.1)).map (fun n => (Sum.inr n : Key)) := by
        rw [List.map_map]
        rfl
      rw [h11]
      exact List.Pairwise.map _ (fun a b h e => h (Sum.inr.inj e)) h10
    have hDG := s2 _ _ hDT
    refine ⟨D, D2, _, _, rfl, rfl, ne_of_none hDT nD2, hDG, hD2, ?_, ?_⟩
    · rw [← List.length_append, eL]
      have := hnd.1
      rw [sizeLine_eq]
      omega
    rw [merge_new (by rw [eL]; exact hnd.2), eL]
    have kG3 : 4 ∈ (idx f').take (t + 1) → Keep K (upd G2 D (.dK ((dictJ f' kv' (j + 1)).map fun p => ((Sum.inr p.1 : Key), p.2)))) f'.p f'.ks kv' kd' := fun h => (hk' h).dict hDG
    have s3 : Same H1 (upd G2 D (.dK ((dictJ f' kv' (j + 1)).map fun p => ((Sum.inr p.1 : Key), p.2)))) := fun a o e => by
      rw [upd_ne (ne_of_none e nD)]
      exact (sG.trans sGG) _ _ e
    have x3 := upd_same (H := G2) (a := D) (o := .dK ((dictJ f' kv' (j + 1)).map fun p => ((Sum.inr p.1 : Key), p.2)))
    generalize upd G2 D (.dK ((dictJ f' kv' (j + 1)).map fun p => ((Sum.inr p.1 : Key), p.2))) = G3 at *
    have h4 : 4 < j + 1 → f'.ks.any (fun k => decide (0 < k)) = true → Keep K G3 f'.p f'.ks kv' kd' := fun h5 h6 => kG3 (by
      rw [take_next hj]
      exact List.mem_filter.mpr ⟨List.mem_range.mpr h5, by rw [ne_4 ok]; exact h6⟩)
    refine ⟨_, rfl, D, f', kv', kd', j + 1, rfl, ok, x3, h4, fun G4 r s4 hR => ⟨_, rfl, rfl, _, rfl, ?_⟩⟩
    refine iteF ⟨_, rfl, r, cutF f' (j + 1), rfl, hR, cut_ok ok _, fun G5 s5 => ?_⟩
    have s15 : Same H1 G5 := (s3.trans s4).trans s5
    refine ⟨⟨_, rfl⟩, _, rfl, _, rfl, _, _, rfl, rfl, _, rfl, L1, _, rfl, s15.seq hS1, fun l nl => ?_⟩
    rw [cut_take, ← List.map_take]
    refine ⟨_, _, _, rfl, rfl, .inl (SqL.of upd_same), ?_, ?_⟩
    · have h1 : (((clsT f').take (t + 1)).map fun x => x.length).sum ≤ ((clsT f').map fun x => x.length).sum := by
        conv => rhs; rw [← List.take_append_drop (t + 1) (clsT f')]
        rw [List.map_append, List.sum_append]
        omega
      have h2 : ((clsT f').take (t + 1)).length ≤ 8 := by
        rw [List.length_take]
        omega
      have e2 : (Str.ofString ", ").length = 2 := rfl
      rw [e2]
      omega
    have et : txtT (cutF f' (j + 1)) = Txt.join (Str.ofString ", ") ((clsT f').take (t + 1)) := by
      show Txt.join (Str.ofString ", ") (clsT (cutF f' (j + 1))) = _
      rw [cls_cut j8, cls_idx, ← List.map_take, take_next hj]
    rw [et]
    have sl := same_new (o := .lst (((clsT f').take (t + 1)).map V.str)) nl
    refine ⟨rfl, _, rfl, ?_⟩
    rw [decide_eq_true rfl]
    refine iteF ⟨kv', kd', some (.ref r), _, _, rfl, s15.trans sl, ?_, fun h => (((kG3 h).same s4).same s5).same sl, fun j2 h2 _ => ⟨r, rfl, ?_⟩⟩
    · rw [take_next hj, dict_idx ok kv' j8]
      exact sl _ _ (s5 _ _ (s4 _ _ x3))
    · have e : j2 = j := by
        rw [Nat.add_sub_cancel, hj] at h2
        exact (Option.some.inj h2).symm
      rw [e]
      exact (hR.same s5).same sl
/-! ### _law_same -/
abbrev s__law_same : Stmt := topS 39
abbrev N__law_same : List Str := ["_law_found", "_law_due_here", "_law_one", "_law_other"]
theorem sc__law_same : FnScope N__law_same ["_law_found", "_law_due_here"] (defScope s__law_same) := ⟨rfl, rfl, rfl, by decide +kernel, rfl, by decide +kernel, by decide +kernel⟩
def spr__law_same (K : PySem.W.Frag) : Nat → Sp
  | 0 => fun _ _ _ _ => False
  | n + 1 => fun vs H Q _ => ∃ (x y : V) (d : PyData), vs = [x, y] ∧ Dp K H x d ∧ Dp K H y d ∧ PyData.depth d ≤ n ∧ thin d = true ∧ ∀ H', Same H H' → Q (.bl true) H'
def sp__law_same (K : PySem.W.Frag) : Sp := spr__law_same K 5
theorem st__law_same (n : Nat) {f : Addr} {fd : FuncData} (F : Fun K "_law_same" "_law_same" s__law_same f fd) (g : mg "_law_same" = some (.ref f)) (bd : Binds K fd ["_law_found", "_law_due_here"] []) (m_isinstance : mg "isinstance" = none) (m_tuple : mg "tuple" = none) (m_list : mg "list" = none) (m_all : mg "all" = none) (m_zip : mg "zip" = none) (m_len : mg "len" = none) (m_str : mg "str" = none) (m_bool : mg "bool" = none) (m_int : mg "int" = none) (C__law_same : CF P w K mg base (1 + n) "_law_same" ["_law_found", "_law_due_here"] (spr__law_same K n)) : CF P w K mg base (1 + n + 1) "_law_same" ["_law_found", "_law_due_here"] (spr__law_same K (n + 1)) := by
  refine ⟨f, fd, F.ok sc__law_same (fun vs H Q E h => ?_) (fun cdv A outer s H vs Q E hr h => ?_), g, F.kp, bd⟩
  · first | (obtain ⟨_, rfl, _⟩ := h; rfl) | (obtain ⟨_, _, rfl, _⟩ := h; rfl) | (obtain ⟨_, _, _, rfl, _⟩ := h; rfl) | (obtain ⟨_, _, _, _, rfl, _⟩ := h; rfl) | (obtain ⟨_, _, _, _, _, rfl, _⟩ := h; rfl) | (obtain ⟨_, _, _, _, _, _, rfl, _⟩ := h; rfl) | (obtain ⟨_, _, _, _, _, _, _, rfl, _⟩ := h; rfl) | (obtain ⟨_, _, _, _, _, _, _, _, rfl, _⟩ := h; rfl) | (obtain ⟨_, _, _, _, _, _, _, _, _, rfl, _⟩ := h; rfl) | (obtain ⟨_, _, _, _, _, _, _, _, _, _, rfl, _⟩ := h; rfl) | (obtain ⟨_, _, _, _, _, _, _, _, _, _, _, rfl, _⟩ := h; rfl) | (obtain ⟨_, _, _, _, _, _, _, _, _, _, _, _, rfl, _⟩ := h; rfl) | (obtain ⟨_, _, _, _, _, _, _, _, _, _, _, _, _, rfl, _⟩ := h; rfl) | (obtain ⟨_, _, _, _, _, _, _, _, _, _, _, _, _, _, rfl, _⟩ := h; rfl) | (obtain ⟨_, _, _, _, _, _, _, _, _, _, _, _, _, _, _, rfl, _⟩ := h; rfl)
  · have hu64 := hr.units
    obtain ⟨x, y, d, rfl, hx, hy, hd, ht, q⟩ := h
    refine ⟨_, (pss_cons (ps_if (pt_val (pe_callB (kk_isiT K) (by rfl) m_isinstance (by decide +kernel) (pa_cons (pv 1) (pa_cons (pe_tup (pa_cons (pe_bltn (v := .ty "list") (by rfl) m_list (by decide +kernel) rfl) (pa_cons (pe_bltn (v := .ty "tuple") (by rfl) m_tuple (by decide +kernel) rfl) pa_nil))) pa_nil))))
         (pss_cons (ps_if (PW.pt (pw_or (pt_cmpR op_ne (pe_callB (kk_isi K) (by rfl) m_isinstance (by decide +kernel) (pa_cons (pv 0) (pa_cons (pe_bltn (v := .ty "list") (by rfl) m_list (by decide +kernel) rfl) pa_nil))) (pe_callB (kk_isi K) (by rfl) m_isinstance (by decide +kernel) (pa_cons (pv 1) (pa_cons (pe_bltn (v := .ty "list") (by rfl) m_list (by decide +kernel) rfl) pa_nil))) (nomark _)) (pw_or1 (pt_cmpR op_ne (pe_callB (kk_isi K) (by rfl) m_isinstance (by decide +kernel) (pa_cons (pv 0) (pa_cons (pe_bltn (v := .ty "tuple") (by rfl) m_tuple (by decide +kernel) rfl) pa_nil))) (pe_callB (kk_isi K) (by rfl) m_isinstance (by decide +kernel) (pa_cons (pv 1) (pa_cons (pe_bltn (v := .ty "tuple") (by rfl) m_tuple (by decide +kernel) rfl) pa_nil))) (nomark _)))))
             (pss_one (ps_ret pe_bl))
             pss_nil)
          (pss_one (ps_ret (pe_and (pe_cmpR op_eq (pe_callB (kk_len K) (by rfl) m_len PySem.boot_len (pa_cons (pv 0) pa_nil)) (pe_callB (kk_len K) (by rfl) m_len PySem.boot_len (pa_cons (pv 1) pa_nil)) (nomark _)) (pe_one (pe_callB (kk_all K rfl) (by rfl) m_all (by decide +kernel) (pa_cons (pe_lc (own := [("_law_one", 2), ("_law_other", 3)]) (g := (gTup K 2 (gCons (gName 2) (gCons (gName 3) gNil)))) (tt := tYes) rfl sc__law_same.nd (RZ.pi_zipA (by rfl) m_zip (pa_cons (pv 0) (pa_cons (pv 1) pa_nil))) (blkOk_by (own := [("_law_one", 2), ("_law_other", 3)]) (N := N__law_same) (sc := defScope s__law_same) (by decide +kernel)) (fun _ _ _ _ _ => (pg_tup (by rfl) (pgs_cons (pg_name (i := 2) sc__law_same.nd rfl (.inl rfl)) (pgs_cons (pg_name (i := 3) sc__law_same.nd rfl (.inl rfl)) pgs_nil)))) (fun _ _ _ _ _ => pts_nil) (fun _ _ _ _ _ => (pe_cf C__law_same hr (by rfl) (pa_cons (pv 2) (pa_cons (pv 3) pa_nil))))) pa_nil)))))))
         pss_nil)
      (pss_cons (ps_if (PW.pt (pw_or (pt_cmpR op_isN (pv 1) pe_non (nomark _)) (pw_or1 (pt_val (pe_callB (kk_isi K) (by rfl) m_isinstance (by decide +kernel) (pa_cons (pv 1) (pa_cons (pe_bltn (v := .ty "str") (by rfl) m_str (by decide +kernel) rfl) pa_nil)))))))
         (pss_one (ps_ret (pe_and (pe_cmpR op_eq (pv 0) (pv 1) (nomark _)) (pe_one (pe_cmpR op_eq (pe_callB (kk_isi K) (by rfl) m_isinstance (by decide +kernel) (pa_cons (pv 0) (pa_cons (pe_bltn (v := .ty "str") (by rfl) m_str (by decide +kernel) rfl) pa_nil))) (pe_callB (kk_isi K) (by rfl) m_isinstance (by decide +kernel) (pa_cons (pv 1) (pa_cons (pe_bltn (v := .ty "str") (by rfl) m_str (by decide +kernel) rfl) pa_nil))) (nomark _))))))
         pss_nil)
      (pss_cons (ps_if (pt_val (pe_callB (kk_isi K) (by rfl) m_isinstance (by decide +kernel) (pa_cons (pv 1) (pa_cons (pe_bltn (v := .ty "bool") (by rfl) m_bool (by decide +kernel) rfl) pa_nil))))
         (pss_one (ps_ret (pe_and (pe_callB (kk_isi K) (by rfl) m_isinstance (by decide +kernel) (pa_cons (pv 0) (pa_cons (pe_bltn (v := .ty "bool") (by rfl) m_bool (by decide +kernel) rfl) pa_nil))) (pe_one (pe_cmpR op_eq (pv 0) (pv 1) (nomark _))))))
         pss_nil)
      (pss_one (ps_ret (pe_and (pe_callB (kk_isi K) (by rfl) m_isinstance (by decide +kernel) (pa_cons (pv 0) (pa_cons (pe_bltn (v := .ty "int") (by rfl) m_int (by decide +kernel) rfl) pa_nil))) (pe_and (pe_not (pe_callB (kk_isi K) (by rfl) m_isinstance (by decide +kernel) (pa_cons (pv 0) (pa_cons (pe_bltn (v := .ty "bool") (by rfl) m_bool (by decide +kernel) rfl) pa_nil)))) (pe_one (pe_cmpR op_eq (pv 0) (pv 1) (nomark _)))))))))), ?_⟩
    refine ⟨_, rfl, (by show 2 ≤ sizeLine; decide), fun tp ntp => ⟨_, tp, _, _, _, _, rfl, upd_same, .cons (.ty _) (.cons (.ty _) .nil), ty_of_dp (dp_same (same_new ntp) hy), kitLT d, _, rfl, ?_⟩⟩
    have s1 := same_new (o := .tup [.ty "list", .ty "tuple"]) ntp
    have q1 := q _ s1
    have tx := ty_of_dp (dp_same s1 hx)
    have ty := ty_of_dp (dp_same s1 hy)
    cases hx with
    | non =>
      cases hy
      exact iteF ⟨_, rfl, rfl, _, rfl, iteT (iteT ⟨_, rfl, _, rfl, rfl, _, rfl, iteY rfl ⟨_, rfl, _, _, _, _, _, rfl, .ty _, tx, kit_d (T := "str") (by decide) _, _, rfl, _, _, _, _, _, rfl, .ty _, ty, kit_d (T := "str") (by decide) _, rfl, qY rfl q1⟩⟩)⟩
    | str z =>
      cases hy
      exact iteF ⟨_, rfl, rfl, _, rfl, iteF ⟨_, rfl, _, _, _, _, _, rfl, .ty _, ty, kit_d (T := "str") (by decide) _, _, rfl, iteT ⟨_, rfl, _, rfl, rfl, _, rfl, iteY rfl ⟨_, rfl, _, _, _, _, _, rfl, .ty _, tx, kit_d (T := "str") (by decide) _, _, rfl, _, _, _, _, _, rfl, .ty _, ty, kit_d (T := "str") (by decide) _, rfl, qY rfl q1⟩⟩⟩⟩
    | bl b =>
      cases hy
      exact iteF ⟨_, rfl, rfl, _, rfl, iteF ⟨_, rfl, _, _, _, _, _, rfl, .ty _, ty, kit_d (T := "str") (by decide) _, _, rfl, iteF ⟨_, rfl, _, _, _, _, _, rfl, .ty _, ty, kit_d (T := "bool") (by decide) _, _, rfl, iteT ⟨_, rfl, _, _, _, _, _, rfl, .ty _, tx, kit_d (T := "bool") (by decide) _, _, rfl, iteT ⟨_, rfl, _, rfl, rfl, qY rfl q1⟩⟩⟩⟩⟩
    | int i =>
      cases hy
      exact iteF ⟨_, rfl, rfl, _, rfl, iteF ⟨_, rfl, _, _, _, _, _, rfl, .ty _, ty, kit_d (T := "str") (by decide) _, _, rfl, iteF ⟨_, rfl, _, _, _, _, _, rfl, .ty _, ty, kit_d (T := "bool") (by decide) _, _, rfl, iteF ⟨_, rfl, _, _, _, _, _, rfl, .ty _, tx, kit_d (T := "int") (by decide) _, _, rfl, iteT ⟨_, rfl, _, _, _, _, _, rfl, .ty _, tx, kit_d (T := "bool") (by decide) _, _, rfl, _, rfl, iteT ⟨_, rfl, _, rfl, rfl, qY rfl q1⟩⟩⟩⟩⟩⟩
    | @lst a xs ds hS hA =>
      obtain ⟨m, rfl⟩ : ∃ m, n = m + 1 := ⟨n - 1, by simp only [PyData.depth] at hd; omega⟩
      cases hy with
      | @lst a2 ys _ hS2 hA2 =>
        have hlen : xs.length = ys.length := (dpAll_len hA).trans (dpAll_len hA2).symm
        simp only [thin, Bool.and_eq_true, decide_eq_true_eq] at ht
        obtain ⟨ht1, ht2⟩ := ht
        have hxl := dpAll_len hA
        refine iteT ⟨_, rfl, _, _, _, _, _, rfl, .ty _, tx, kit_d (T := "list") (by decide) _, _, rfl, _, _, _, _, _, rfl, .ty _, ty, kit_d (T := "list") (by decide) _, rfl, _, rfl, iteF ⟨_, rfl, _, _, _, _, _, rfl, .ty _, tx, kit_d (T := "tuple") (by decide) _, _, rfl, _, _, _, _, _, rfl, .ty _, ty, kit_d (T := "tuple") (by decide) _, rfl, _, rfl, iteF ?_⟩⟩
        refine ⟨_, rfl, a, _, rfl, .inl (s1.seq hS), _, rfl, a2, _, rfl, .inl (s1.seq hS2), rfl, _, rfl, iteY (by rw [hlen]) ?_⟩
        refine ⟨_, rfl, _, rfl, a, a2, _, _, rfl, .inl ⟨s1.seq hS, s1.seq hS2, fun D hD => lc_gen (n := xs.length) (fun i H' => Same (upd H tp (.tup [.ty "list", .ty "tuple"])) H' ∧ H' D = some (.lst ((List.replicate i true).map V.bl))) ⟨same_new hD, upd_same⟩ (fun i H' h => canL hlen ((s1.trans h.1).seq hS) ((s1.trans h.1).seq hS2)) (fun i H' v H'' hi h hyl => ?_) (fun H' h => ?_)⟩⟩
        · obtain ⟨T, x', y', rfl, hT, rfl, f1, f2⟩ := hyl
          obtain ⟨h1, h2⟩ := h
          have g1 := f1 xs ((s1.trans h1).seq hS)
          have g2 := f2 ys ((s1.trans h1).seq hS2)
          obtain ⟨d1, e1, p1⟩ := dpAll_get hA g1
          obtain ⟨d2, e2, p2⟩ := dpAll_get hA2 g2
          cases (Option.some.inj (e1.symm.trans e2))
          have sT := same_new (o := .tup [x', y']) hT
          have dd := depth_at e1
          simp only [PyData.depth] at hd
          refine ⟨T, _, rfl, SqT.of upd_same, rfl, _, _, rfl, _, _, rfl, rfl, rfl, _, rfl, _, rfl, x', y', d1, rfl, dp_same ((s1.trans h1).trans sT) p1, dp_same ((s1.trans h1).trans sT) p2, by omega, thin_at ht2 e1, fun H3 s3 => ?_⟩
          refine ⟨_, s3 _ _ (sT _ _ h2), ?_, ?_, ?_⟩
          · rw [List.length_map, List.length_replicate]
            exact small1000 (by omega)
          · exact fun c o e => by
              rw [upd_ne (ne_of_none e hD)]
              exact s3 _ _ (sT _ _ (h1 _ _ e))
          · rw [upd_same, rep_snoc]
        · obtain ⟨h1, h2⟩ := h
          refine ⟨D, _, rfl, SqL.of h2, ?_⟩
          rw [all_true]
          exact q _ (s1.trans h1)
    | @tup a xs ds hS hA =>
      obtain ⟨m, rfl⟩ : ∃ m, n = m + 1 := ⟨n - 1, by simp only [PyData.depth] at hd; omega⟩
      cases hy with
      | @tup a2 ys _ hS2 hA2 =>
        have hlen : xs.length = ys.length := (dpAll_len hA).trans (dpAll_len hA2).symm
        simp only [thin, Bool.and_eq_true, decide_eq_true_eq] at ht
        obtain ⟨ht1, ht2⟩ := ht
        have hxl := dpAll_len hA
        refine iteT ⟨_, rfl, _, _, _, _, _, rfl, .ty _, tx, kit_d (T := "list") (by decide) _, _, rfl, _, _, _, _, _, rfl, .ty _, ty, kit_d (T := "list") (by decide) _, rfl, _, rfl, iteF ⟨_, rfl, _, _, _, _, _, rfl, .ty _, tx, kit_d (T := "tuple") (by decide) _, _, rfl, _, _, _, _, _, rfl, .ty _, ty, kit_d (T := "tuple") (by decide) _, rfl, _, rfl, iteF ?_⟩⟩
        refine ⟨_, rfl, a, _, rfl, .inr (seqT_same s1 hS), _, rfl, a2, _, rfl, .inr (seqT_same s1 hS2), rfl, _, rfl, iteY (by rw [hlen]) ?_⟩
        refine ⟨_, rfl, _, rfl, a, a2, _, _, rfl, .inr ⟨seqT_same s1 hS, seqT_same s1 hS2, fun D hD => lc_gen (n := xs.length) (fun i H' => Same (upd H tp (.tup [.ty "list", .ty "tuple"])) H' ∧ H' D = some (.lst ((List.replicate i true).map V.bl))) ⟨same_new hD, upd_same⟩ (fun i H' h => canT hlen (seqT_same (s1.trans h.1) hS) (seqT_same (s1.trans h.1) hS2)) (fun i H' v H'' hi h hyl => ?_) (fun H' h => ?_)⟩⟩
        · obtain ⟨T, x', y', rfl, hT, rfl, f1, f2⟩ := hyl
          obtain ⟨h1, h2⟩ := h
          have g1 := f1 xs (seqT_same (s1.trans h1) hS)
          have g2 := f2 ys (seqT_same (s1.trans h1) hS2)
          obtain ⟨d1, e1, p1⟩ := dpAll_get hA g1
          obtain ⟨d2, e2, p2⟩ := dpAll_get hA2 g2
          cases (Option.some.inj (e1.symm.trans e2))
          have sT := same_new (o := .tup [x', y']) hT
          have dd := depth_at e1
          simp only [PyData.depth] at hd
          refine ⟨T, _, rfl, SqT.of upd_same, rfl, _, _, rfl, _, _, rfl, rfl, rfl, _, rfl, _, rfl, x', y', d1, rfl, dp_same ((s1.trans h1).trans sT) p1, dp_same ((s1.trans h1).trans sT) p2, by omega, thin_at ht2 e1, fun H3 s3 => ?_⟩
          refine ⟨_, s3 _ _ (sT _ _ h2), ?_, ?_, ?_⟩
          · rw [List.length_map, List.length_replicate]
            exact small1000 (by omega)
          · exact fun c o e => by
              rw [upd_ne (ne_of_none e hD)]
              exact s3 _ _ (sT _ _ (h1 _ _ e))
          · rw [upd_same, rep_snoc]
        · obtain ⟨h1, h2⟩ := h
          refine ⟨D, _, rfl, SqL.of h2, ?_⟩
          rw [all_true]
          exact q _ (s1.trans h1)
theorem ok__law_same {f : Addr} {fd : FuncData} (F : Fun K "_law_same" "_law_same" s__law_same f fd) (g : mg "_law_same" = some (.ref f)) (bd : Binds K fd ["_law_found", "_law_due_here"] []) (m_isinstance : mg "isinstance" = none) (m_tuple : mg "tuple" = none) (m_list : mg "list" = none) (m_all : mg "all" = none) (m_zip : mg "zip" = none) (m_len : mg "len" = none) (m_str : mg "str" = none) (m_bool : mg "bool" = none) (m_int : mg "int" = none) : CF P w K mg base (6) "_law_same" ["_law_found", "_law_due_here"] (sp__law_same K) := by
  have all : ∀ n, CF P w K mg base (1 + n) "_law_same" ["_law_found", "_law_due_here"] (spr__law_same K n) := fun n => by
    induction n with
    | zero => exact ⟨f, fd, F.ok (k := 0) sc__law_same (fun vs H Q E h => h.elim) (fun cdv A outer s H vs Q E hr h => h.elim), g, F.kp, bd⟩
    | succ n ih => exact st__law_same n F g bd m_isinstance m_tuple m_list m_all m_zip m_len m_str m_bool m_int ih
  exact all 5
def lows : List Nat := TL.tl (Str.ofString "abcdefghijklmnopqrstuvwxyz")
def nameS (s : Str) : Bool := decide ((s.length : Int) ≤ 8) && madeOf s (Str.ofString "abcdefghijklmnopqrstuvwxyz")
def nameD : PyData → Bool
  | .str s => nameS s
  | _ => false
abbrev strOk (d : PyData) : Prop := ∀ s, d = .str s → s.length ≤ 100000
theorem kit_str {d : PyData} (h : tyD d ≠ "str") : ∀ {K : PySem.W.Frag}, PySem.W.kitOne K (.type (tyD d)) (.type "str") = some false := by
  intro K
  cases d with
  | str s => exact absurd rfl h
  | none => exact kit_ty (a := "NoneType") (by decide +kernel)
  | bool b => exact kit_ty (a := "bool") (by decide +kernel)
  | int i => exact kit_ty (a := "int") (by decide +kernel)
  | list xs => exact kit_ty (a := "list") (by decide +kernel)
  | tuple xs => exact kit_ty (a := "tuple") (by decide +kernel)
  | dict xs => exact kit_ty (a := "dict") (by decide +kernel)
theorem ty_str {d : PyData} : (∃ s, d = .str s) ∨ (tyD d ≠ "str" ∧ nameD d = false) := by
  cases d with
  | str s => exact .inl ⟨s, rfl⟩
  | none => exact .inr ⟨by decide, rfl⟩
  | bool b => exact .inr ⟨by show "bool" ≠ "str"; decide, rfl⟩
  | int i => exact .inr ⟨by show "int" ≠ "str"; decide, rfl⟩
  | list xs => exact .inr ⟨by show "list" ≠ "str"; decide, rfl⟩
  | tuple xs => exact .inr ⟨by show "tuple" ≠ "str"; decide, rfl⟩
  | dict xs => exact .inr ⟨by show "dict" ≠ "str"; decide, rfl⟩
/-! ### is_name -/
abbrev s_is_name : Stmt := topS 14
abbrev N_is_name : List Str := ["thing"]
theorem sc_is_name : FnScope N_is_name ["thing"] (defScope s_is_name) := ⟨rfl, rfl, rfl, by decide +kernel, rfl, by decide +kernel, by decide +kernel⟩
def sp_is_name (K : PySem.W.Frag) : Sp := fun vs H Q _ => ∃ (x : V) (d : PyData), vs = [x] ∧ Dp K H x d ∧ strOk d ∧ ∀ H', Same H H' → Q (.bl (nameD d)) H'
theorem ok_is_name {f : Addr} {fd : FuncData} (F : Fun K "is_name" "is_name" s_is_name f fd) (g : mg "is_name" = some (.ref f)) (bd : Binds K fd ["thing"] []) (m_len : mg "len" = none) (m_isinstance : mg "isinstance" = none) (m_str : mg "str" = none) {t_LETTERS : Tok} (g_LETTERS : mg "LETTERS" = some (.str (Str.ofString "abcdefghijklmnopqrstuvwxyz") t_LETTERS)) {t_LONGEST_NAME : Tok} (g_LONGEST_NAME : mg "LONGEST_NAME" = some (.int 8 t_LONGEST_NAME)) (C_is_made_of : CF P w K mg base 1 "is_made_of" ["text", "signs"] (sp_is_made_of K)) : CF P w K mg base 2 "is_name" ["thing"] (sp_is_name K) := by
  refine ⟨f, fd, F.ok sc_is_name (fun vs H Q E h => ?_) (fun cdv A outer s H vs Q E hr h => ?_), g, F.kp, bd⟩
  · first | (obtain ⟨_, rfl, _⟩ := h; rfl) | (obtain ⟨_, _, rfl, _⟩ := h; rfl) | (obtain ⟨_, _, _, rfl, _⟩ := h; rfl) | (obtain ⟨_, _, _, _, rfl, _⟩ := h; rfl) | (obtain ⟨_, _, _, _, _, rfl, _⟩ := h; rfl) | (obtain ⟨_, _, _, _, _, _, rfl, _⟩ := h; rfl) | (obtain ⟨_, _, _, _, _, _, _, rfl, _⟩ := h; rfl) | (obtain ⟨_, _, _, _, _, _, _, _, rfl, _⟩ := h; rfl) | (obtain ⟨_, _, _, _, _, _, _, _, _, rfl, _⟩ := h; rfl) | (obtain ⟨_, _, _, _, _, _, _, _, _, _, rfl, _⟩ := h; rfl) | (obtain ⟨_, _, _, _, _, _, _, _, _, _, _, rfl, _⟩ := h; rfl) | (obtain ⟨_, _, _, _, _, _, _, _, _, _, _, _, rfl, _⟩ := h; rfl) | (obtain ⟨_, _, _, _, _, _, _, _, _, _, _, _, _, rfl, _⟩ := h; rfl) | (obtain ⟨_, _, _, _, _, _, _, _, _, _, _, _, _, _, rfl, _⟩ := h; rfl) | (obtain ⟨_, _, _, _, _, _, _, _, _, _, _, _, _, _, _, rfl, _⟩ := h; rfl)
  · have hu64 := hr.units
    obtain ⟨x, d, rfl, hd, hz, q⟩ := h
    refine ⟨_, (pss_one (ps_ret (pe_and (pe_callB (kk_isi K) (by rfl) m_isinstance (by decide +kernel) (pa_cons (pv 0) (pa_cons (pe_bltn (v := .ty "str") (by rfl) m_str (by decide +kernel) rfl) pa_nil))) (pe_and (pe_cmpR op_le (pe_callB call_len_str (by rfl) m_len PySem.boot_len (pa_cons (pv 0) pa_nil)) (pe_glob (v := .int 8) (by rfl) g_LONGEST_NAME ⟨_, rfl⟩) (nomark _)) (pe_one (pe_cf C_is_made_of (hr.mono (by decide)) (by rfl) (pa_cons (pv 0) (pa_cons (pe_glob (v := .str (Str.ofString "abcdefghijklmnopqrstuvwxyz")) (by rfl) g_LETTERS ⟨_, rfl⟩) pa_nil)))))))), ?_⟩
    rcases ty_str (d := d) with ⟨s, rfl⟩ | ⟨n1, n2⟩
    · cases hd
      have hz' := hz s rfl
      refine ⟨_, rfl, _, _, _, _, true, rfl, .ty _, .base (.str s), kit_ty (by decide +kernel), _, rfl, iteT ?_⟩
      refine ⟨_, rfl, s, rfl, Nat.le_trans hz' (by decide), _, _, rfl, rfl, _, rfl, ?_⟩
      have e : nameD (.str s) = (decide ((s.length : Int) ≤ 8) && madeOf s (Str.ofString "abcdefghijklmnopqrstuvwxyz")) := rfl
      rw [e] at q
      by_cases h8 : (s.length : Int) ≤ 8
      · rw [decide_eq_true h8] at q ⊢
        exact iteT ⟨_, rfl, s, _, rfl, hz', fun H' s' => q H' s'⟩
      · rw [decide_eq_false h8] at q ⊢
        exact iteF (q H (Same.refl H))
    · rw [n2] at q
      exact ⟨_, rfl, _, _, _, _, false, rfl, .ty _, ty_of_dp hd, kit_str n1, _, rfl, iteF (q H (Same.refl H))⟩
set_option maxHeartbeats 2000000
def tab_FORMS : List (Str × List Str) := [("house", ["house", "text"]), ("price", ["house", "kind", "price"]), ("ware", ["ware", "kind", "house"]), ("put", ["house", "kind", "who"]), ("pay", ["ware", "who"]), ("up", ["ware"]), ("leave", ["house", "kind", "who"]), ("bring", ["ware"]), ("hand", ["house", "house"]), ("settle", ["house", "house", "debt"])]
/-- what stands in a deed behind its word: a name, a rule's text, pence -/
inductive Arg where
  | nm (s : Str)
  | tx (f : Fg)
  | pn (n : Int)
def Arg.v : Arg → V
  | .nm s => .str s
  | .tx f => .str (txtT f)
  | .pn n => .int n
def namedS : List Str := ["house", "kind", "ware", "who"]
def fits (s : Str) : Arg → Prop
  | .nm x => nameS x = true ∧ s ∈ namedS
  | .tx f => f.Ok ∧ s = Str.ofString "text"
  | .pn n => 1 ≤ n ∧ ((s = Str.ofString "price" ∧ n ≤ 1000000) ∨ (s = Str.ofString "debt" ∧ n ≤ 100000000))
def namesOf : List Str → List Arg → List (Str × Str)
  | s :: ss, .nm x :: xs => (s, x) :: namesOf ss xs
  | _ :: ss, .tx _ :: xs => namesOf ss xs
  | _ :: ss, .pn _ :: xs => namesOf ss xs
  | _, _ => []
abbrev housesOf (ps : List (Str × Str)) : List Str := (ps.filter fun p => decide (p.1 = Str.ofString "house")).map (·.2)
abbrev pairS (p : Str × Str) : List V := [.str p.1, .str p.2]
/-- a deed's word, what stands behind it, the sorts of these -/
structure Deed (w : Str) (xs : List Arg) (ss : List Str) : Prop where
  look : tab_FORMS.lookup w = some ss
  len : xs.length = ss.length
  fit : ∀ (i : Nat) (x : Arg) (s : Str), xs[i]? = some x → ss[i]? = some s → fits s x
  nd : (housesOf (namesOf ss xs)).Nodup
def Arg.d : Arg → PyData
  | .nm s => .str s
  | .tx f => .str (txtT f)
  | .pn n => .int n
def deedD (w : Str) (xs : List Arg) : PyData := .tuple (.str w :: xs.map Arg.d)
theorem args_dp {K : PySem.W.Frag} {H : Hp} : ∀ (xs : List Arg), DpAll K H (xs.map Arg.v) (xs.map Arg.d)
  | [] => .nil
  | .nm _ :: xs => .cons (.str _) (args_dp xs)
  | .tx _ :: xs => .cons (.str _) (args_dp xs)
  | .pn _ :: xs => .cons (.int _) (args_dp xs)
theorem deed_dp {K : PySem.W.Frag} {H : Hp} {t : Addr} {w : Str} {xs : List Arg} (h : SqT K H t (.str w :: xs.map Arg.v)) : Dp K H (.ref t) (deedD w xs) := .tup h (.cons (.str w) (args_dp xs))
theorem name_len {s : Str} (h : nameS s = true) : s.length ≤ 8 ∧ 1 ≤ s.length := by
  unfold nameS at h
  rw [Bool.and_eq_true, decide_eq_true_eq] at h
  refine ⟨by omega, ?_⟩
  have h2 := h.2
  unfold madeOf at h2
  rw [Bool.and_eq_true, Bool.not_eq_true', decide_eq_false_iff_not] at h2
  by_cases z : s.length = 0
  · exact absurd (congrArg V.str (TL.ext_tl (y := Str.ofString "") (by
      have : (TL.tl s).length = 0 := by rw [← TL.len_tl]; exact z
      rw [List.length_eq_zero_iff.mp this]
      rfl))) h2.1
  · omega
/-! ### is_rule_text -/
abbrev s_is_rule_text : Stmt := topS 35
abbrev N_is_rule_text : List Str := ["text"]
theorem sc_is_rule_text : FnScope N_is_rule_text ["text"] (defScope s_is_rule_text) := ⟨rfl, rfl, rfl, by decide +kernel, rfl, by decide +kernel, by decide +kernel⟩
def sp_is_rule_text (K : PySem.W.Frag) (C : Addr) : Sp := fun vs H Q _ => ∃ (f : Fg), vs = [.str (txtT f)] ∧ f.Ok ∧ ∀ H', Same H H' → Q (.bl true) H'
theorem ok_is_rule_text {f : Addr} {fd : FuncData} (F : Fun K "is_rule_text" "is_rule_text" s_is_rule_text f fd) (g : mg "is_rule_text" = some (.ref f)) (bd : Binds K fd ["text"] []) {CR : Addr} (TQ : TEq K mg CR "Rule") (T_Rule : TRule K mg CR) (C_read_rule : CF P w K mg base 8 "read_rule" ["text"] (sp_read_rule K CR)) : CF P w K mg base 9 "is_rule_text" ["text"] (sp_is_rule_text K CR) := by
  refine ⟨f, fd, F.ok sc_is_rule_text (fun vs H Q E h => ?_) (fun cdv A outer s H vs Q E hr h => ?_), g, F.kp, bd⟩
  · first | (obtain ⟨_, rfl, _⟩ := h; rfl) | (obtain ⟨_, _, rfl, _⟩ := h; rfl) | (obtain ⟨_, _, _, rfl, _⟩ := h; rfl) | (obtain ⟨_, _, _, _, rfl, _⟩ := h; rfl) | (obtain ⟨_, _, _, _, _, rfl, _⟩ := h; rfl) | (obtain ⟨_, _, _, _, _, _, rfl, _⟩ := h; rfl) | (obtain ⟨_, _, _, _, _, _, _, rfl, _⟩ := h; rfl) | (obtain ⟨_, _, _, _, _, _, _, _, rfl, _⟩ := h; rfl) | (obtain ⟨_, _, _, _, _, _, _, _, _, rfl, _⟩ := h; rfl) | (obtain ⟨_, _, _, _, _, _, _, _, _, _, rfl, _⟩ := h; rfl) | (obtain ⟨_, _, _, _, _, _, _, _, _, _, _, rfl, _⟩ := h; rfl) | (obtain ⟨_, _, _, _, _, _, _, _, _, _, _, _, rfl, _⟩ := h; rfl) | (obtain ⟨_, _, _, _, _, _, _, _, _, _, _, _, _, rfl, _⟩ := h; rfl) | (obtain ⟨_, _, _, _, _, _, _, _, _, _, _, _, _, _, rfl, _⟩ := h; rfl) | (obtain ⟨_, _, _, _, _, _, _, _, _, _, _, _, _, _, _, rfl, _⟩ := h; rfl)
  · have hu64 := hr.units
    obtain ⟨f', rfl, ok, q⟩ := h
    refine ⟨_, (pss_cons (ps_try_thru0 (pss_one (ps_expr (pe_cf C_read_rule (hr.mono (by decide)) (by rfl) (pa_cons (pv 0) pa_nil)))))
      (pss_one (ps_ret pe_bl))), ?_⟩
    exact ⟨_, rfl, f', rfl, ok, fun H1 r s1 R1 => q H1 s1⟩
/-! ### is_of_sort -/
abbrev s_is_of_sort : Stmt := topS 34
abbrev N_is_of_sort : List Str := ["thing", "sort"]
theorem sc_is_of_sort : FnScope N_is_of_sort ["thing", "sort"] (defScope s_is_of_sort) := ⟨rfl, rfl, rfl, by decide +kernel, rfl, by decide +kernel, by decide +kernel⟩
def sp_is_of_sort (K : PySem.W.Frag) (C : Addr) : Sp := fun vs H Q _ => ∃ (x : Arg) (s : Str), vs = [x.v, .str s] ∧ fits s x ∧ ∀ H', Same H H' → Q (.bl true) H'
theorem ok_is_of_sort {f : Addr} {fd : FuncData} (F : Fun K "is_of_sort" "is_of_sort" s_is_of_sort f fd) (g : mg "is_of_sort" = some (.ref f)) (bd : Binds K fd ["thing", "sort"] []) {CR : Addr} (TQ : TEq K mg CR "Rule") (T_Rule : TRule K mg CR) (m_isinstance : mg "isinstance" = none) (m_str : mg "str" = none) {t_MOST_PRICE : Tok} (g_MOST_PRICE : mg "MOST_PRICE" = some (.int 1000000 t_MOST_PRICE)) {t_MOST_DEBT : Tok} (g_MOST_DEBT : mg "MOST_DEBT" = some (.int 100000000 t_MOST_DEBT)) (C_is_rule_text : CF P w K mg base 9 "is_rule_text" ["text"] (sp_is_rule_text K CR)) (C_is_number_in : CF P w K mg base 1 "is_number_in" ["thing", "low", "high"] (sp_is_number_in K)) (C_is_name : CF P w K mg base 2 "is_name" ["thing"] (sp_is_name K)) : CF P w K mg base 10 "is_of_sort" ["thing", "sort"] (sp_is_of_sort K CR) := by
  refine ⟨f, fd, F.ok sc_is_of_sort (fun vs H Q E h => ?_) (fun cdv A outer s H vs Q E hr h => ?_), g, F.kp, bd⟩
  · first | (obtain ⟨_, rfl, _⟩ := h; rfl) | (obtain ⟨_, _, rfl, _⟩ := h; rfl) | (obtain ⟨_, _, _, rfl, _⟩ := h; rfl) | (obtain ⟨_, _, _, _, rfl, _⟩ := h; rfl) | (obtain ⟨_, _, _, _, _, rfl, _⟩ := h; rfl) | (obtain ⟨_, _, _, _, _, _, rfl, _⟩ := h; rfl) | (obtain ⟨_, _, _, _, _, _, _, rfl, _⟩ := h; rfl) | (obtain ⟨_, _, _, _, _, _, _, _, rfl, _⟩ := h; rfl) | (obtain ⟨_, _, _, _, _, _, _, _, _, rfl, _⟩ := h; rfl) | (obtain ⟨_, _, _, _, _, _, _, _, _, _, rfl, _⟩ := h; rfl) | (obtain ⟨_, _, _, _, _, _, _, _, _, _, _, rfl, _⟩ := h; rfl) | (obtain ⟨_, _, _, _, _, _, _, _, _, _, _, _, rfl, _⟩ := h; rfl) | (obtain ⟨_, _, _, _, _, _, _, _, _, _, _, _, _, rfl, _⟩ := h; rfl) | (obtain ⟨_, _, _, _, _, _, _, _, _, _, _, _, _, _, rfl, _⟩ := h; rfl) | (obtain ⟨_, _, _, _, _, _, _, _, _, _, _, _, _, _, _, rfl, _⟩ := h; rfl)
  · have hu64 := hr.units
    obtain ⟨x, s9, rfl, hf, q⟩ := h
    refine ⟨_, (pss_cons (ps_if (pt_cmpR op_eq (pv 1) pe_str (nomark _))
         (pss_one (ps_ret (pe_and (pe_callB (kk_isi K) (by rfl) m_isinstance (by decide +kernel) (pa_cons (pv 0) (pa_cons (pe_bltn (v := .ty "str") (by rfl) m_str (by decide +kernel) rfl) pa_nil))) (pe_one (pe_cf C_is_rule_text (hr.mono (by decide)) (by rfl) (pa_cons (pv 0) pa_nil))))))
         pss_nil)
      (pss_cons (ps_if (pt_cmpR op_eq (pv 1) pe_str (nomark _))
         (pss_one (ps_ret (pe_cf C_is_number_in (hr.mono (by decide)) (by rfl) (pa_cons (pv 0) (pa_cons pe_int (pa_cons (pe_glob (v := .int 1000000) (by rfl) g_MOST_PRICE ⟨_, rfl⟩) pa_nil))))))
         pss_nil)
      (pss_cons (ps_if (pt_cmpR op_eq (pv 1) pe_str (nomark _))
         (pss_one (ps_ret (pe_cf C_is_number_in (hr.mono (by decide)) (by rfl) (pa_cons (pv 0) (pa_cons pe_int (pa_cons (pe_glob (v := .int 100000000) (by rfl) g_MOST_DEBT ⟨_, rfl⟩) pa_nil))))))
         pss_nil)
      (pss_one (ps_ret (pe_cf C_is_name (hr.mono (by decide)) (by rfl) (pa_cons (pv 0) pa_nil))))))), ?_⟩
    cases x with
    | tx f' =>
      obtain ⟨ok, rfl⟩ := hf
      exact ⟨_, rfl, rfl, _, rfl, iteT ⟨_, rfl, _, _, _, _, _, rfl, .ty _, ty_of_dp (K := K) (H := H) (Dp.str (txtT f')), kit_d (T := "str") (by decide) _, _, rfl, iteT ⟨_, rfl, f', rfl, ok, fun H1 s1 => q H1 s1⟩⟩⟩
    | pn n =>
      obtain ⟨n0, c⟩ := hf
      have q0 := q H (Same.refl H)
      rcases c with ⟨rfl, n1⟩ | ⟨rfl, n1⟩
      · refine ⟨_, rfl, rfl, _, rfl, iteF ⟨_, rfl, rfl, _, rfl, iteT ⟨_, rfl, .int n, .int n, 1, 1000000, rfl, .int n, ?_⟩⟩⟩
        rw [show numIn (.int n) 1 1000000 = true from by show (decide (1 ≤ n) && decide (n ≤ 1000000)) = true; rw [decide_eq_true n0, decide_eq_true n1]; rfl]
        exact q0
      · refine ⟨_, rfl, rfl, _, rfl, iteF ⟨_, rfl, rfl, _, rfl, iteF ⟨_, rfl, rfl, _, rfl, iteT ⟨_, rfl, .int n, .int n, 1, 100000000, rfl, .int n, ?_⟩⟩⟩⟩
        rw [show numIn (.int n) 1 100000000 = true from by show (decide (1 ≤ n) && decide (n ≤ 100000000)) = true; rw [decide_eq_true n0, decide_eq_true n1]; rfl]
        exact q0
    | nm y =>
      obtain ⟨hn, hs⟩ := hf
      have ny : nameD (.str y) = true := hn
      have oky : strOk (.str y) := fun z e => by
        cases e
        have := (name_len hn).1
        omega
      have qn : ∀ H', Same H H' → Q (.bl (nameD (.str y))) H' := fun H' s' => by
        rw [ny]
        exact q H' s'
      unfold namedS at hs
      simp only [List.mem_cons, List.not_mem_nil, or_false] at hs
      rcases hs with rfl | rfl | rfl | rfl
      · exact ⟨_, rfl, rfl, _, rfl, iteF ⟨_, rfl, rfl, _, rfl, iteF ⟨_, rfl, rfl, _, rfl, iteF ⟨_, rfl, .str y, .str y, rfl, .str y, oky, qn⟩⟩⟩⟩
      · exact ⟨_, rfl, rfl, _, rfl, iteF ⟨_, rfl, rfl, _, rfl, iteF ⟨_, rfl, rfl, _, rfl, iteF ⟨_, rfl, .str y, .str y, rfl, .str y, oky, qn⟩⟩⟩⟩
      · exact ⟨_, rfl, rfl, _, rfl, iteF ⟨_, rfl, rfl, _, rfl, iteF ⟨_, rfl, rfl, _, rfl, iteF ⟨_, rfl, .str y, .str y, rfl, .str y, oky, qn⟩⟩⟩⟩
      · exact ⟨_, rfl, rfl, _, rfl, iteF ⟨_, rfl, rfl, _, rfl, iteF ⟨_, rfl, rfl, _, rfl, iteF ⟨_, rfl, .str y, .str y, rfl, .str y, oky, qn⟩⟩⟩⟩
/-! ### names_in -/
abbrev s_names_in : Stmt := topS 36
abbrev N_names_in : List Str := ["deed", "sort", "name"]
theorem sc_names_in : FnScope N_names_in ["deed"] (defScope s_names_in) := ⟨rfl, rfl, rfl, by decide +kernel, rfl, by decide +kernel, by decide +kernel⟩
theorem namesOf_nil : ∀ {ss : List Str}, namesOf ss [] = []
  | [] => rfl
  | _ :: _ => rfl
theorem namesOf_snoc {s : Str} {x : Arg} : ∀ {i : Nat} {ss : List Str} {xs : List Arg}, ss[i]? = some s → xs[i]? = some x → namesOf (ss.take (i + 1)) (xs.take (i + 1)) = namesOf (ss.take i) (xs.take i) ++ namesOf [s] [x]
  | _, [], _, h, _ => by cases h
  | _, _ :: _, [], _, h => by cases h
  | 0, s2 :: ss, x2 :: xs, h1, h2 => by
    cases h1
    cases h2
    rfl
  | i + 1, s2 :: ss, x2 :: xs, h1, h2 => by
    have ih := namesOf_snoc (i := i) (ss := ss) (xs := xs) h1 h2
    cases x2 with
    | nm n =>
      show (s2, n) :: namesOf (ss.take (i + 1)) (xs.take (i + 1)) = ((s2, n) :: namesOf (ss.take i) (xs.take i)) ++ _
      rw [ih]
      rfl
    | tx f => exact ih
    | pn n => exact ih
theorem named_in {s : Str} (h : s ∈ namedS) : inV (.str s) (namedS.map V.str) = true := by
  unfold namedS at h
  simp only [List.mem_cons, List.not_mem_nil, or_false] at h
  rcases h with rfl | rfl | rfl | rfl <;> decide +kernel
theorem named_out {s : Str} (h : s = Str.ofString "text" ∨ s = Str.ofString "price" ∨ s = Str.ofString "debt") : inV (.str s) (namedS.map V.str) = false := by
  rcases h with rfl | rfl | rfl <;> decide +kernel
theorem namesOf_len : ∀ (ss : List Str) (xs : List Arg), (namesOf ss xs).length ≤ xs.length
  | [], [] => Nat.le_refl _
  | [], _ :: _ => Nat.zero_le _
  | _ :: _, [] => Nat.le_refl _
  | s :: ss, .nm x :: xs => Nat.succ_le_succ (namesOf_len ss xs)
  | s :: ss, .tx _ :: xs => Nat.le_succ_of_le (namesOf_len ss xs)
  | s :: ss, .pn _ :: xs => Nat.le_succ_of_le (namesOf_len ss xs)
theorem at0 {x : V} {l : List V} : atI (x :: l) 0 = some x := by
  show atI (x :: l) ((0 : Nat) : Int) = some x
  exact atI_nat rfl
def sp_names_in (K : PySem.W.Frag) : Sp := fun vs H Q _ => ∃ (t : Addr) (w : Str) (xs : List Arg) (ss : List Str), vs = [.ref t] ∧ SqT K H t (.str w :: xs.map Arg.v) ∧ tab_FORMS.lookup w = some ss ∧ xs.length = ss.length ∧ xs.length ≤ 5 ∧ (∀ (i : Nat) (x : Arg) (s : Str), xs[i]? = some x → ss[i]? = some s → fits s x) ∧
  ∀ H' L (S : List (Addr × (Str × Str))), Same H H' → H L = none → H' L = some (.lst (refs S)) → RowsAt pairS H' S → S.map (·.2) = namesOf ss xs → Q (.ref L) H'
theorem ok_names_in {f : Addr} {fd : FuncData} (F : Fun K "names_in" "names_in" s_names_in f fd) (g : mg "names_in" = some (.ref f)) (bd : Binds K fd ["deed"] []) (m_zip : mg "zip" = none) {A_FORMS : Addr} (g_FORMS : mg "FORMS" = some (.ref A_FORMS)) (q_FORMS : KTab w K A_FORMS tab_FORMS) {A_NAMED_SORTS : Addr} (g_NAMED_SORTS : mg "NAMED_SORTS" = some (.ref A_NAMED_SORTS)) (q_NAMED_SORTS : ∀ H, SqT K H A_NAMED_SORTS [.str (Str.ofString "house"), .str (Str.ofString "kind"), .str (Str.ofString "ware"), .str (Str.ofString "who")]) : CF P w K mg base 1 "names_in" ["deed"] (sp_names_in K) := by
  refine ⟨f, fd, F.ok sc_names_in (fun vs H Q E h => ?_) (fun cdv A outer s H vs Q E hr h => ?_), g, F.kp, bd⟩
  · first | (obtain ⟨_, rfl, _⟩ := h; rfl) | (obtain ⟨_, _, rfl, _⟩ := h; rfl) | (obtain ⟨_, _, _, rfl, _⟩ := h; rfl) | (obtain ⟨_, _, _, _, rfl, _⟩ := h; rfl) | (obtain ⟨_, _, _, _, _, rfl, _⟩ := h; rfl) | (obtain ⟨_, _, _, _, _, _, rfl, _⟩ := h; rfl) | (obtain ⟨_, _, _, _, _, _, _, rfl, _⟩ := h; rfl) | (obtain ⟨_, _, _, _, _, _, _, _, rfl, _⟩ := h; rfl) | (obtain ⟨_, _, _, _, _, _, _, _, _, rfl, _⟩ := h; rfl) | (obtain ⟨_, _, _, _, _, _, _, _, _, _, rfl, _⟩ := h; rfl) | (obtain ⟨_, _, _, _, _, _, _, _, _, _, _, rfl, _⟩ := h; rfl) | (obtain ⟨_, _, _, _, _, _, _, _, _, _, _, _, rfl, _⟩ := h; rfl) | (obtain ⟨_, _, _, _, _, _, _, _, _, _, _, _, _, rfl, _⟩ := h; rfl) | (obtain ⟨_, _, _, _, _, _, _, _, _, _, _, _, _, _, rfl, _⟩ := h; rfl) | (obtain ⟨_, _, _, _, _, _, _, _, _, _, _, _, _, _, _, rfl, _⟩ := h; rfl)
  · have hu64 := hr.units
    obtain ⟨t, w9, xs, ss, rfl, hT, look, hlen, h5, fit, q⟩ := h
    refine ⟨_, (pss_one (ps_ret (pe_lc (own := [("sort", 1), ("name", 2)]) (g := (gTup K 2 (gCons (gName 1) (gCons (gName 2) gNil)))) rfl sc_names_in.nd (RZ.pi_zipA (by rfl) m_zip (pa_cons (pe_tget q_FORMS (pe_glob (v := .ref A_FORMS) (by rfl) g_FORMS rfl) (pe_ix (kk_ixt K) (pv 0) pe_int (fun _ _ => rfl)) (fun _ _ => rfl)) (pa_cons (pe_slice (kk_slt K) (pv 0) (po_some pe_int) po_none) pa_nil))) (blkOk_by (own := [("sort", 1), ("name", 2)]) (N := N_names_in) (sc := defScope s_names_in) (by decide +kernel)) (fun _ _ _ _ _ => (pg_tup (by rfl) (pgs_cons (pg_name (i := 1) sc_names_in.nd rfl (.inl rfl)) (pgs_cons (pg_name (i := 2) sc_names_in.nd rfl (.inl rfl)) pgs_nil)))) (fun _ _ _ _ _ => (pts_one (pt_cmpR (kk_in K) (pv 1) (pe_glob (v := .ref A_NAMED_SORTS) (by rfl) g_NAMED_SORTS rfl) (by rfl)))) (fun _ _ _ _ _ => (pe_tup (pa_cons (pv 1) (pa_cons (pv 2) pa_nil))))))), ?_⟩
    refine ⟨_, rfl, t, _, _, _, rfl, rfl, hT, at0, w9, ss, rfl, look, fun tS hS => ?_⟩
    refine ⟨_, rfl, _, rfl, t, _, rfl, hT, ?_, fun u nu => ?_⟩
    · rintro ⟨z, _⟩
      have e1 : HT.sIx (V.str w9 :: xs.map Arg.v).length 0 (some 1) = 1 := by
        show min 1 ((xs.map Arg.v).length + 1) = 1
        omega
      rw [e1] at z
      cases z
    rw [cut_one]
    have su := same_new (o := .tup (xs.map Arg.v)) nu
    refine ⟨tS, u, _, _, rfl, .inr ⟨hS _, SqT.of upd_same, fun D nD => lc_gen (n := ss.length) (fun i G => Same (upd H u (.tup (xs.map Arg.v))) G ∧ ∃ S : List (Addr × (Str × Str)), G D = some (.lst (refs S)) ∧ RowsAt pairS G S ∧ S.map (·.2) = namesOf (ss.take i) (xs.take i)) ⟨same_new nD, [], upd_same, .nil, rfl⟩ (fun i G h => ?_) (fun i G v G2 hi h hy => ?_) (fun G h => ?_)⟩⟩
    · have := canT (i := i) (xs := ss.map V.str) (ys := xs.map Arg.v) (by rw [List.length_map, List.length_map, hlen]) (hS G) (SqT.of (h.1 _ _ upd_same))
      rw [List.length_map] at this
      exact this
    · obtain ⟨T, x', y', rfl, hT2, rfl, f1, f2⟩ := hy
      obtain ⟨h1, S, h2, h3, h4⟩ := h
      have g1 := f1 _ (hS G)
      have g2 := f2 _ (SqT.of (h1 _ _ upd_same))
      rw [List.getElem?_map] at g1 g2
      obtain ⟨s9, hs9, rfl⟩ := Option.map_eq_some_iff.mp g1
      obtain ⟨x9, hx9, rfl⟩ := Option.map_eq_some_iff.mp g2
      have ft := fit i x9 s9 hx9 hs9
      have sT := same_new (o := .tup [.str s9, x9.v]) hT2
      refine ⟨T, _, rfl, SqT.of upd_same, rfl, _, _, rfl, _, _, rfl, rfl, rfl, ?_⟩
      have lS : (refs S).length ≤ 5 := by
        rw [List.length_map, ← List.length_map (f := (·.2)) (as := S), h4]
        have := namesOf_len (ss.take i) (xs.take i)
        rw [List.length_take] at this
        omega
      have stay : namesOf [s9] [x9] = [] → Same (upd H u (.tup (xs.map Arg.v))) (upd G T (.tup [.str s9, x9.v])) ∧ ∃ S : List (Addr × (Str × Str)), upd G T (.tup [.str s9, x9.v]) D = some (.lst (refs S)) ∧ RowsAt pairS (upd G T (.tup [.str s9, x9.v])) S ∧ S.map (·.2) = namesOf (ss.take (i + 1)) (xs.take (i + 1)) := fun e => ⟨h1.trans sT, S, sT _ _ h2, h3.same sT, by rw [h4, namesOf_snoc hs9 hx9, e, List.append_nil]⟩
      refine ⟨_, rfl, A_NAMED_SORTS, namedS.map V.str, rfl, .inr (q_NAMED_SORTS _), rfl, by decide +kernel, _, rfl, ?_⟩
      cases x9 with
      | nm y =>
        obtain ⟨_, hs⟩ := ft
        rw [if_neg Bool.false_ne_true, named_in hs]
        refine iteT ⟨_, rfl, _, rfl, by show 2 ≤ sizeLine; decide, fun p np => ⟨_, same_new np _ _ (sT _ _ h2), small1000 (by omega), fun c o ec => ?_, S ++ [(p, (s9, y))], ?_, ?_, ?_⟩⟩
        · rw [upd_ne (ne_of_none ec nD)]
          exact same_new np _ _ (sT _ _ (h1 _ _ ec))
        · rw [upd_same, refs_snoc]
        · have hD2 := same_new (o := .tup [.str s9, .str y]) np _ _ (sT _ _ h2)
          have nDp : p ≠ D := fun e => by
            rw [e, sT _ _ h2] at np
            cases np
          refine ((((h3.same sT).same (same_new np)).updL hD2)).snoc ?_
          show (upd (upd _ p _) D _) p = _
          rw [upd_ne nDp, upd_same]
        · rw [List.map_append, h4, namesOf_snoc hs9 hx9]
          rfl
      | tx f' =>
        rw [if_neg Bool.false_ne_true, named_out (.inl ft.2)]
        exact iteF (stay rfl)
      | pn n =>
        rw [if_neg Bool.false_ne_true, named_out (by rcases ft.2 with z | z; exact .inr (.inl z.1); exact .inr (.inr z.1))]
        exact iteF (stay rfl)
    · obtain ⟨h1, S, h2, h3, h4⟩ := h
      refine q G D S (su.trans h1) (none_of su nD) h2 h3 ?_
      rw [h4, List.take_of_length_le (Nat.le_refl _), List.take_of_length_le (by omega)]
/-! ### is_deed -/
abbrev s_is_deed : Stmt := topS 33
abbrev N_is_deed : List Str := ["thing", "sorts", "things", "one", "sort", "houses", "name"]
theorem sc_is_deed : FnScope N_is_deed ["thing"] (defScope s_is_deed) := ⟨rfl, rfl, rfl, by decide +kernel, rfl, by decide +kernel, by decide +kernel⟩
theorem shape_ss : ∀ p ∈ tab_FORMS, p.2.length ≤ 3 ∧ 1 ≤ p.2.length := by decide +kernel
theorem look_mem : ∀ {tab : List (Str × List Str)} {k : Str} {ss : List Str}, tab.lookup k = some ss → (k, ss) ∈ tab
  | [], _, _, h => by cases h
  | (a, b) :: r, k, ss, h => by
    rw [List.lookup_cons] at h
    by_cases c : k = a
    · subst c
      rw [beq_self_eq_true] at h
      cases h
      exact List.mem_cons_self
    · rw [beq_eq_false_iff_ne.mpr c] at h
      exact List.mem_cons_of_mem _ (look_mem h)
def sp_is_deed (K : PySem.W.Frag) (C : Addr) : Sp := fun vs H Q _ => ∃ (t : Addr), vs = [.ref t] ∧ ((∃ (w : Str) (xs : List Arg) (ss : List Str), SqT K H t (.str w :: xs.map Arg.v) ∧ Deed w xs ss ∧ ∀ H', Same H H' → Q (.bl true) H') ∨ ∃ ds, Dp K H (.ref t) (.list ds) ∧ Q (.bl false) H)
theorem ok_is_deed {f : Addr} {fd : FuncData} (F : Fun K "is_deed" "is_deed" s_is_deed f fd) (g : mg "is_deed" = some (.ref f)) (bd : Binds K fd ["thing"] []) {CR : Addr} (TQ : TEq K mg CR "Rule") (T_Rule : TRule K mg CR) (m_isinstance : mg "isinstance" = none) (m_str : mg "str" = none) (m_len : mg "len" = none) (m_tuple : mg "tuple" = none) (m_all : mg "all" = none) (m_zip : mg "zip" = none) (m_set : mg "set" = none) {A_FORMS : Addr} (g_FORMS : mg "FORMS" = some (.ref A_FORMS)) (q_FORMS : KTab w K A_FORMS tab_FORMS) (C_is_of_sort : CF P w K mg base 10 "is_of_sort" ["thing", "sort"] (sp_is_of_sort K CR)) (C_names_in : CF P w K mg base 1 "names_in" ["deed"] (sp_names_in K)) : CF P w K mg base 11 "is_deed" ["thing"] (sp_is_deed K CR) := by
  refine ⟨f, fd, F.ok sc_is_deed (fun vs H Q E h => ?_) (fun cdv A outer s H vs Q E hr h => ?_), g, F.kp, bd⟩
  · first | (obtain ⟨_, rfl, _⟩ := h; rfl) | (obtain ⟨_, _, rfl, _⟩ := h; rfl) | (obtain ⟨_, _, _, rfl, _⟩ := h; rfl) | (obtain ⟨_, _, _, _, rfl, _⟩ := h; rfl) | (obtain ⟨_, _, _, _, _, rfl, _⟩ := h; rfl) | (obtain ⟨_, _, _, _, _, _, rfl, _⟩ := h; rfl) | (obtain ⟨_, _, _, _, _, _, _, rfl, _⟩ := h; rfl) | (obtain ⟨_, _, _, _, _, _, _, _, rfl, _⟩ := h; rfl) | (obtain ⟨_, _, _, _, _, _, _, _, _, rfl, _⟩ := h; rfl) | (obtain ⟨_, _, _, _, _, _, _, _, _, _, rfl, _⟩ := h; rfl) | (obtain ⟨_, _, _, _, _, _, _, _, _, _, _, rfl, _⟩ := h; rfl) | (obtain ⟨_, _, _, _, _, _, _, _, _, _, _, _, rfl, _⟩ := h; rfl) | (obtain ⟨_, _, _, _, _, _, _, _, _, _, _, _, _, rfl, _⟩ := h; rfl) | (obtain ⟨_, _, _, _, _, _, _, _, _, _, _, _, _, _, rfl, _⟩ := h; rfl) | (obtain ⟨_, _, _, _, _, _, _, _, _, _, _, _, _, _, _, rfl, _⟩ := h; rfl)
  · have hu64 := hr.units
    obtain ⟨t, rfl, h⟩ := h
    refine ⟨_, (pss_cons (ps_if (PW.pt (pw_or (pt_not (pt_val (pe_callB (kk_isi K) (by rfl) m_isinstance (by decide +kernel) (pa_cons (pv 0) (pa_cons (pe_bltn (v := .ty "tuple") (by rfl) m_tuple (by decide +kernel) rfl) pa_nil))))) (pw_or (pt_cmpR op_eq (pe_callB (kk_len K) (by rfl) m_len PySem.boot_len (pa_cons (pv 0) pa_nil)) pe_int (nomark _)) (pw_or (pt_not (pt_val (pe_callB (kk_isi K) (by rfl) m_isinstance (by decide +kernel) (pa_cons (pe_ix (kk_ixt K) (pv 0) pe_int (fun _ _ => rfl)) (pa_cons (pe_bltn (v := .ty "str") (by rfl) m_str (by decide +kernel) rfl) pa_nil))))) (pw_or1 (pt_cmp (pc_tnotin q_FORMS (pe_ix (kk_ixt K) (pv 0) pe_int (fun _ _ => rfl)) (pe_glob (v := .ref A_FORMS) (by rfl) g_FORMS rfl)) (by rfl)))))))
         (pss_one (ps_ret pe_bl))
         pss_nil)
      (pss_cons (ps_set (i := 1) sc_is_deed.nd rfl (.inl rfl) (pe_tget q_FORMS (pe_glob (v := .ref A_FORMS) (by rfl) g_FORMS rfl) (pe_ix (kk_ixt K) (pv 0) pe_int (fun _ _ => rfl)) (fun _ _ => rfl)))
      (pss_cons (ps_set (i := 2) sc_is_deed.nd rfl (.inl rfl) (pe_slice (kk_slt K) (pv 0) (po_some pe_int) po_none))
      (pss_cons (ps_if (PW.pt (pw_or (pt_cmpR op_ne (pe_callB (kk_len K) (by rfl) m_len PySem.boot_len (pa_cons (pv 2) pa_nil)) (pe_callB (kk_len K) (by rfl) m_len PySem.boot_len (pa_cons (pv 1) pa_nil)) (nomark _)) (pw_or1 (pt_not (pt_val (pe_callB (kk_all K rfl) (by rfl) m_all (by decide +kernel) (pa_cons (pe_lc (own := [("one", 3), ("sort", 4)]) (g := (gTup K 2 (gCons (gName 3) (gCons (gName 4) gNil)))) (tt := tYes) rfl sc_is_deed.nd (RZ.pi_zipA (by rfl) m_zip (pa_cons (pv 2) (pa_cons (pv 1) pa_nil))) (blkOk_by (own := [("one", 3), ("sort", 4)]) (N := N_is_deed) (sc := defScope s_is_deed) (by decide +kernel)) (fun _ _ _ _ _ => (pg_tup (by rfl) (pgs_cons (pg_name (i := 3) sc_is_deed.nd rfl (.inl rfl)) (pgs_cons (pg_name (i := 4) sc_is_deed.nd rfl (.inl rfl)) pgs_nil)))) (fun _ _ _ _ _ => pts_nil) (fun _ _ _ _ _ => (pe_cf C_is_of_sort (hr.mono (by decide)) (by rfl) (pa_cons (pv 3) (pa_cons (pv 4) pa_nil))))) pa_nil)))))))
         (pss_one (ps_ret pe_bl))
         pss_nil)
      (pss_cons (ps_setLc (i := 5) (own := [("sort", 4), ("name", 6)]) (g := (gTup K 2 (gCons (gName 4) (gCons (gName 6) gNil)))) rfl sc_is_deed.nd rfl rfl (sw_true rfl rfl rfl (by decide +kernel)) (pi_list (pe_cf C_names_in (hr.mono (by decide)) (by rfl) (pa_cons (pv 0) pa_nil))) (blkOk_by (own := [("sort", 4), ("name", 6)]) (N := N_is_deed) (sc := defScope s_is_deed) (by decide +kernel)) (fun _ _ _ _ _ => (pg_tup (by rfl) (pgs_cons (pg_name (i := 4) sc_is_deed.nd rfl (.inl rfl)) (pgs_cons (pg_name (i := 6) sc_is_deed.nd rfl (.inl rfl)) pgs_nil)))) (fun _ _ _ _ _ => (pts_one (pt_cmpR op_eq (pv 4) pe_str (nomark _)))) (fun _ _ _ _ _ => (pv 6)))
      (pss_one (ps_ret (pe_cmpR op_eq (pe_lenSetD (by rfl) m_len (by rfl) m_set (pv 5)) (pe_callB (kk_len K) (by rfl) m_len PySem.boot_len (pa_cons (pv 5) pa_nil)) (nomark _))))))))), ?_⟩
    rcases h with ⟨w9, xs, ss, hT, dd, q⟩ | ⟨ds, hd, q⟩
    case inr => exact ⟨_, rfl, _, _, _, _, _, rfl, .ty _, ty_of_dp hd, kit_d (T := "tuple") (by decide) _, _, rfl, iteT q⟩
    have l3 : ss.length ≤ 3 := (shape_ss _ (look_mem dd.look)).1
    have l1 : 1 ≤ ss.length := (shape_ss _ (look_mem dd.look)).2
    have hlen := dd.len
    refine ⟨_, rfl, _, _, _, _, _, rfl, .ty _, ty_of_dp (deed_dp hT), kit_d (T := "tuple") (by decide) _, _, rfl, iteF ?_⟩
    refine ⟨_, rfl, t, _, rfl, .inr hT, rfl, _, rfl, ?_⟩
    rw [decide_eq_false (fun z : V.int (((V.str w9 :: xs.map Arg.v).length : Nat) : Int) = V.int 0 => by
      have := V.int.inj z
      rw [List.length_cons] at this
      omega)]
    refine iteF ⟨_, rfl, t, _, _, _, rfl, rfl, hT, at0, _, _, _, _, _, rfl, .ty _, ty_of_dp (K := K) (H := H) (Dp.str w9), kit_d (T := "str") (by decide) _, _, rfl, iteF ?_⟩
    refine ⟨_, rfl, t, _, _, _, rfl, rfl, hT, at0, w9, rfl, _, rfl, ?_⟩
    rw [dd.look]
    refine iteF ⟨_, rfl, t, _, _, _, rfl, rfl, hT, at0, w9, ss, rfl, dd.look, fun tS hS => ?_⟩
    refine ⟨_, rfl, _, rfl, t, _, rfl, hT, ?_, fun u nu => ?_⟩
    · rintro ⟨z, _⟩
      have e1 : HT.sIx (V.str w9 :: xs.map Arg.v).length 0 (some 1) = 1 := by
        show min 1 ((xs.map Arg.v).length + 1) = 1
        omega
      rw [e1] at z
      cases z
    rw [cut_one]
    have su := same_new (o := .tup (xs.map Arg.v)) nu
    have hu := upd_same (H := H) (a := u) (o := .tup (xs.map Arg.v))
    have hT1 := seqT_same su hT
    generalize upd H u (.tup (xs.map Arg.v)) = H1 at *
    have ll : (ss.map V.str).length = (xs.map Arg.v).length := by rw [List.length_map, List.length_map, hlen]
    refine ⟨_, rfl, u, _, rfl, .inr (SqT.of hu), _, rfl, tS, _, rfl, .inr (hS _), rfl, _, rfl, ?_⟩
    rw [ll, decide_eq_true rfl]
    refine iteF ⟨_, rfl, _, rfl, u, tS, _, _, rfl, .inr ⟨SqT.of hu, hS _, fun D nD => lc_gen (n := xs.length) (fun i G => Same H1 G ∧ G D = some (.lst ((List.replicate i true).map V.bl))) ⟨same_new nD, upd_same⟩ (fun i G h => ?_) (fun i G v G2 hi h hy => ?_) (fun G h => ?_)⟩⟩
    · have := canT (i := i) (xs := xs.map Arg.v) (ys := ss.map V.str) ll.symm (SqT.of (h.1 _ _ hu)) (hS G)
      rw [List.length_map] at this
      exact this
    · obtain ⟨T, x', y', rfl, hT2, rfl, f1, f2⟩ := hy
      obtain ⟨h1, h2⟩ := h
      have g1 := f1 _ (SqT.of (h1 _ _ hu))
      have g2 := f2 _ (hS G)
      rw [List.getElem?_map] at g1 g2
      obtain ⟨x9, hx9, rfl⟩ := Option.map_eq_some_iff.mp g1
      obtain ⟨s9, hs9, rfl⟩ := Option.map_eq_some_iff.mp g2
      have sT := same_new (o := .tup [x9.v, .str s9]) hT2
      refine ⟨T, _, rfl, SqT.of upd_same, rfl, _, _, rfl, _, _, rfl, rfl, rfl, _, rfl, _, rfl, x9, s9, rfl, dd.fit i x9 s9 hx9 hs9, fun G3 s3 => ?_⟩
      refine ⟨_, s3 _ _ (sT _ _ h2), ?_, ?_, ?_⟩
      · rw [List.length_map, List.length_replicate]
        exact small1000 (by omega)
      · exact fun c o e => by
          rw [upd_ne (ne_of_none e nD)]
          exact s3 _ _ (sT _ _ (h1 _ _ e))
      · rw [upd_same, rep_snoc]
    obtain ⟨h1, h2⟩ := h
    refine ⟨D, _, rfl, SqL.of h2, ?_⟩
    rw [all_true]
    refine ⟨_, rfl, iteF ?_⟩
    refine ⟨_, rfl, t, w9, xs, ss, rfl, seqT_same h1 hT1, dd.look, hlen, by omega, dd.fit, fun H5 L S s5 nL hL hRS hm => ?_⟩
    have lS : S.length ≤ 3 := by
      rw [← List.length_map (f := (·.2)) (as := S), hm]
      have := namesOf_len ss xs
      omega
    refine ⟨L, rfl, ⟨_, SqL.of hL⟩, fun D2 nD2 => rows_lc (fun p : Str × Str => decide (p.1 = Str.ofString "house")) (fun q => V.str q.2.2) (jok_l (K := K) (SqL.of hL)) hRS (by omega) nD2 (fun q hq G sG hG Y N hy hn => ?_) (fun G sG hG => ?_)⟩
    · refine ⟨q.1, _, rfl, SqT.of hG, rfl, _, _, rfl, _, _, rfl, rfl, rfl, ?_⟩
      refine ⟨_, rfl, rfl, _, rfl, ?_⟩
      by_cases c : q.2.1 = Str.ofString "house"
      · rw [decide_eq_true (congrArg V.str c)]
        exact iteT ⟨_, rfl, hy (decide_eq_true c)⟩
      · rw [decide_eq_false (fun z => c (V.str.inj z))]
        exact iteF (hn (decide_eq_false c))
    have eh : (S.filter fun q => decide (q.2.1 = Str.ofString "house")).map (fun q => V.str q.2.2) = (housesOf (namesOf ss xs)).map V.str := by
      rw [← hm]
      unfold housesOf
      clear hm lS hL hRS hG
      induction S with
      | nil => rfl
      | cons q r ih =>
        rw [List.map_cons, List.filter_cons, List.filter_cons]
        by_cases c : q.2.1 = Str.ofString "house"
        · rw [if_pos (decide_eq_true c), if_pos (decide_eq_true c), List.map_cons, ih]
          rfl
        · rw [if_neg (by rw [decide_eq_false c]; decide), if_neg (by rw [decide_eq_false c]; decide), ih]
    rw [eh] at hG
    have lh : (housesOf (namesOf ss xs)).length ≤ 3 := by
      rw [List.length_map]
      have a := List.length_filter_le (fun p : Str × Str => decide (p.1 = Str.ofString "house")) (namesOf ss xs)
      have := namesOf_len ss xs
      omega
    refine ⟨_, rfl, D2, _, rfl, SqL.of hG, by omega, fun c c1 c2 => ⟨_, rfl, D2, _, rfl, .inl (SqL.of hG), rfl, ?_⟩⟩
    rw [List.length_map, c2.mpr dd.nd, decide_eq_true rfl]
    exact q G (((su.trans h1).trans s5).trans sG)
/-! ### _law_words -/
abbrev s__law_words : Stmt := topS 49
abbrev N__law_words : List Str := []
theorem sc__law_words : FnScope N__law_words [] (defScope s__law_words) := ⟨rfl, rfl, rfl, by decide +kernel, rfl, by decide +kernel, by decide +kernel⟩
def wordsL : List Str := ["house", "price", "ware", "put", "pay", "up", "leave", "bring", "hand", "settle"]
def sp__law_words (K : PySem.W.Frag) : Sp := fun vs H Q _ => ∃ u : Unit, vs = [] ∧ u = u ∧ ∀ H' L, Same H H' → H L = none → H' L = some (.lst (wordsL.map V.str)) → Q (.ref L) H'
theorem ok__law_words {f : Addr} {fd : FuncData} (F : Fun K "_law_words" "_law_words" s__law_words f fd) (g : mg "_law_words" = some (.ref f)) (bd : Binds K fd [] []) : CF P w K mg base 1 "_law_words" [] (sp__law_words K) := by
  refine ⟨f, fd, F.ok sc__law_words (fun vs H Q E h => ?_) (fun cdv A outer s H vs Q E hr h => ?_), g, F.kp, bd⟩
  · first | (obtain ⟨_, rfl, _⟩ := h; rfl) | (obtain ⟨_, _, rfl, _⟩ := h; rfl) | (obtain ⟨_, _, _, rfl, _⟩ := h; rfl) | (obtain ⟨_, _, _, _, rfl, _⟩ := h; rfl) | (obtain ⟨_, _, _, _, _, rfl, _⟩ := h; rfl) | (obtain ⟨_, _, _, _, _, _, rfl, _⟩ := h; rfl) | (obtain ⟨_, _, _, _, _, _, _, rfl, _⟩ := h; rfl) | (obtain ⟨_, _, _, _, _, _, _, _, rfl, _⟩ := h; rfl) | (obtain ⟨_, _, _, _, _, _, _, _, _, rfl, _⟩ := h; rfl) | (obtain ⟨_, _, _, _, _, _, _, _, _, _, rfl, _⟩ := h; rfl) | (obtain ⟨_, _, _, _, _, _, _, _, _, _, _, rfl, _⟩ := h; rfl) | (obtain ⟨_, _, _, _, _, _, _, _, _, _, _, _, rfl, _⟩ := h; rfl) | (obtain ⟨_, _, _, _, _, _, _, _, _, _, _, _, _, rfl, _⟩ := h; rfl) | (obtain ⟨_, _, _, _, _, _, _, _, _, _, _, _, _, _, rfl, _⟩ := h; rfl) | (obtain ⟨_, _, _, _, _, _, _, _, _, _, _, _, _, _, _, rfl, _⟩ := h; rfl)
  · have hu64 := hr.units
    obtain ⟨_, rfl, _, q⟩ := h
    refine ⟨_, (pss_one (ps_ret (pe_split pe_str pe_str))), ?_⟩
    refine ⟨⟨_, rfl⟩, _, _, rfl, rfl, by decide +kernel, by decide +kernel, fun p np => q _ p (same_new np) np ?_⟩
    rw [upd_same, show Txt.split (Str.ofString "house price ware put pay up leave bring hand settle") (Str.ofString " ") = wordsL by decide +kernel]
/-! ### _law_shuffled -/
abbrev s__law_shuffled : Stmt := topS 40
abbrev N__law_shuffled : List Str := ["_law_left", "_law_things", "_law_rest", "_law_found"]
theorem sc__law_shuffled : FnScope N__law_shuffled ["_law_left", "_law_things"] (defScope s__law_shuffled) := ⟨rfl, rfl, rfl, by decide +kernel, rfl, by decide +kernel, by decide +kernel⟩
theorem popIx {k n : Nat} (h : k < n) : seqIndex? (k : Int) n = some k := by
  unfold seqIndex?
  simp
  omega
theorem map_eraseS : ∀ (ds : List Str) (k : Nat), (ds.map V.str).eraseIdx k = (ds.eraseIdx k).map V.str
  | [], k => by simp
  | d :: r, 0 => rfl
  | d :: r, k + 1 => by
    show V.str d :: (r.map V.str).eraseIdx k = V.str d :: (r.eraseIdx k).map V.str
    rw [map_eraseS r k]
theorem strs_dp {K : PySem.W.Frag} {H : Hp} : ∀ (ws : List Str), DpAll K H (ws.map V.str) (ws.map PyData.str)
  | [] => .nil
  | w :: ws => .cons (.str w) (strs_dp ws)
theorem lay_strs : ∀ {ws : List Str}, (∀ w ∈ ws, (PyData.str w).canLay0 = true) → PyData.canLayAll0 (ws.map PyData.str) = true
  | [], _ => by simp [PyData.canLayAll0]
  | w :: r, h => by
    rw [List.map_cons, PyData.canLayAll0, h w List.mem_cons_self, lay_strs (fun x hx => h x (List.mem_cons_of_mem _ hx))]
    rfl
theorem depth_strs : ∀ ws : List Str, PyData.depthAll (ws.map PyData.str) ≤ 1
  | [] => by simp [PyData.depthAll]
  | n :: r => by
    have h := depth_strs r
    simp only [List.map_cons, PyData.depthAll, PyData.depth]
    omega
theorem sh_strs {ws : List Str} (h : ∀ w ∈ ws, (PyData.str w).canLay0 = true) : SeqAt.shaped (.list (ws.map PyData.str)) = true := by
  have h1 := depth_strs ws
  have h2 : PyData.depth (.list (ws.map PyData.str)) ≤ 64 := by
    simp only [PyData.depth]
    omega
  show (PyData.canLay0 (.list (ws.map PyData.str)) && decide (PyData.depth (.list (ws.map PyData.str)) ≤ 64)) = true
  rw [Bool.and_eq_true]
  exact ⟨by simp only [PyData.canLay0]; exact lay_strs h, decide_eq_true h2⟩
theorem eqv_nilS : ∀ {ws : List Str}, ws ≠ [] → PyData.eqv (.list (ws.map PyData.str)) (.list []) = false
  | [], h => absurd rfl h
  | _ :: _, _ => by simp [PyData.eqv, PyData.eqvAll]
def sp__law_shuffled (K : PySem.W.Frag) : Sp := fun vs H Q _ => ∃ (b c : Addr) (n : Int) (a : Addr) (ws : List Str), vs = [.ref b, .ref a] ∧ Left H b c n ∧ n < 999990000 ∧ SqL K H a (ws.map V.str) ∧ ws.length ≤ 10 ∧ (∀ w ∈ ws, (PyData.str w).canLay0 = true) ∧ ∀ H' L (us : List Str), Left H' b c (n + 10) → But b H H' → H L = none → L ≠ b → H' L = some (.lst (us.map V.str)) → (∀ w ∈ us, w ∈ ws) → us.length ≤ 10 → Q (.ref L) H'
theorem ok__law_shuffled {f : Addr} {fd : FuncData} (F : Fun K "_law_shuffled" "_law_shuffled" s__law_shuffled f fd) (g : mg "_law_shuffled" = some (.ref f)) (bd : Binds K fd ["_law_left", "_law_things"] []) (m_list : mg "list" = none) (m_len : mg "len" = none) (C__law_pick : CF P w K mg base 2 "_law_pick" ["_law_left", "_law_many"] (sp__law_pick K)) : CF P w K mg base 3 "_law_shuffled" ["_law_left", "_law_things"] (sp__law_shuffled K) := by
  refine ⟨f, fd, F.ok sc__law_shuffled (fun vs H Q E h => ?_) (fun cdv A outer s H vs Q E hr h => ?_), g, F.kp, bd⟩
  · first | (obtain ⟨_, rfl, _⟩ := h; rfl) | (obtain ⟨_, _, rfl, _⟩ := h; rfl) | (obtain ⟨_, _, _, rfl, _⟩ := h; rfl) | (obtain ⟨_, _, _, _, rfl, _⟩ := h; rfl) | (obtain ⟨_, _, _, _, _, rfl, _⟩ := h; rfl) | (obtain ⟨_, _, _, _, _, _, rfl, _⟩ := h; rfl) | (obtain ⟨_, _, _, _, _, _, _, rfl, _⟩ := h; rfl) | (obtain ⟨_, _, _, _, _, _, _, _, rfl, _⟩ := h; rfl) | (obtain ⟨_, _, _, _, _, _, _, _, _, rfl, _⟩ := h; rfl) | (obtain ⟨_, _, _, _, _, _, _, _, _, _, rfl, _⟩ := h; rfl) | (obtain ⟨_, _, _, _, _, _, _, _, _, _, _, rfl, _⟩ := h; rfl) | (obtain ⟨_, _, _, _, _, _, _, _, _, _, _, _, rfl, _⟩ := h; rfl) | (obtain ⟨_, _, _, _, _, _, _, _, _, _, _, _, _, rfl, _⟩ := h; rfl) | (obtain ⟨_, _, _, _, _, _, _, _, _, _, _, _, _, _, rfl, _⟩ := h; rfl) | (obtain ⟨_, _, _, _, _, _, _, _, _, _, _, _, _, _, _, rfl, _⟩ := h; rfl)
  · have hu64 := hr.units
    obtain ⟨b, c, n, a, ws, rfl, hL, hn, hS, l10, hw, q⟩ := h
    refine ⟨_, (pss_cons (ps_par (i := 2) (j := 3) (by rfl) sc__law_shuffled.nd rfl rfl (by decide) rfl rfl (pa_cons (pe_callTy (kk_list K) (by rfl) m_list (by decide +kernel) (pa_cons (pv 1) pa_nil)) (pa_cons (pe_lst pa_nil) pa_nil)) (by rfl))
      (pss_cons (ps_while PassesOwn.never (pt_cmpR (kk_neD K hu64) (pv 2) (pe_lst pa_nil) (nomark _))
         (pss_one (ps_expr (pe_bm PySem.F.plainAttrs_list PySem.F.slot_list_append PySem.F.type_list_append mt_append (pv 3) (pa_cons (pe_bm PySem.F.plainAttrs_list PySem.F.slot_list_pop PySem.F.type_list_pop mt_popAt (pv 2) (pa_cons (pe_cf C__law_pick (hr.mono (by decide)) (by rfl) (pa_cons (pv 0) (pa_cons (pe_callB (kk_len K) (by rfl) m_len PySem.boot_len (pa_cons (pv 2) pa_nil)) pa_nil))) pa_nil)) pa_nil)))))
      (pss_one (ps_ret (pv 3))))), ?_⟩
    refine ⟨_, rfl, a, _, rfl, .inl hS, fun R nR => ?_⟩
    refine ⟨by show 0 ≤ sizeLine; decide, fun p np => ⟨_, _, rfl, ?_⟩⟩
    have nRp : R ≠ p := fun z => by
      rw [z, upd_same] at np
      cases np
    have np0 : H p = none := none_of (same_new nR) np
    have L1 : Left (upd (upd H R (.lst (ws.map V.str))) p (.lst [])) b c n := (hL.new nR).new np
    refine ⟨fun m σ G => ∃ rest found : List Str, σ = [some (.ref b), some (.ref a), some (.ref R), some (.ref p)] ∧ m = rest.length ∧ rest.length + found.length ≤ 10 ∧ Left G b c (n + found.length) ∧ But b H G ∧ G R = some (.lst (rest.map V.str)) ∧ G p = some (.lst (found.map V.str)) ∧ (∀ w ∈ rest, w ∈ ws) ∧ (∀ w ∈ found, w ∈ ws), ⟨_, ws, [], rfl, rfl, by simpa using l10, L1.mono (by simp), (But.new nR).trans (But.new np), ?_, upd_same, fun w h => h, fun w h => nomatch h⟩, ?_⟩
    · rw [upd_ne nRp, upd_same]
    rintro m σ G ⟨rest, found, rfl, rfl, hl, hLG, tG, gR, gp, hr1, hf1⟩
    have nRb : R ≠ b := hL.ne nR
    have npb : p ≠ b := hL.ne np0
    refine ⟨_, rfl, by show 0 ≤ sizeLine; decide, fun t nt => ?_⟩
    refine ⟨_, _, .lst (SqL.of (same_new nt _ _ gR)) (strs_dp rest), .lst (ds := []) (SqL.of upd_same) .nil, sh_strs fun w h => hw w (hr1 w h), sh_strs (ws := []) (fun w h => nomatch h), ?_⟩
    have hLt := hLG.new (o := .lst []) nt
    have gRt := same_new (o := .lst []) nt _ _ gR
    have gpt := same_new (o := .lst []) nt _ _ gp
    have tGt := tG.trans (But.new (o := .lst []) nt)
    generalize upd G t (.lst []) = G1 at *
    by_cases e0 : rest = []
    · subst e0
      refine ⟨false, congrArg V.bl (by simp [PyData.eqv, PyData.eqvAll]), iteF ?_⟩
      exact ⟨_, rfl, q G1 p found (hLt.mono (by rw [List.length_nil] at hl; omega)) tGt np0 npb gpt hf1 (by omega)⟩
    have hpos : 0 < rest.length := List.length_pos_iff.mpr e0
    refine ⟨true, congrArg V.bl (by rw [eqv_nilS e0]; rfl), iteT ?_⟩
    refine ⟨fun σ' H' => ∃ m', m' < rest.length ∧ ∃ rest2 found2 : List Str, σ' = [some (.ref b), some (.ref a), some (.ref R), some (.ref p)] ∧ m' = rest2.length ∧ rest2.length + found2.length ≤ 10 ∧ Left H' b c (n + found2.length) ∧ But b H H' ∧ H' R = some (.lst (rest2.map V.str)) ∧ H' p = some (.lst (found2.map V.str)) ∧ (∀ w ∈ rest2, w ∈ ws) ∧ (∀ w ∈ found2, w ∈ ws), fun σ' H' h => h, ?_⟩
    refine ⟨_, rfl, .inl ⟨rfl, _, SqL.of gpt⟩, _, rfl, .inl ⟨rfl, _, SqL.of gRt⟩, _, rfl, _, rfl, R, _, rfl, .inl (SqL.of gRt), b, c, _, _, rfl, hLt, by rw [List.length_map]; omega, by rw [List.length_map]; omega, by omega, fun r G2 r0 r1 L2 t2 => ?_⟩
    rw [List.length_map] at r1
    obtain ⟨k, rfl⟩ := Int.eq_ofNat_of_zero_le r0
    have hk : k < rest.length := by omega
    have gR2 := t2 _ _ nRb gRt
    have gp2 := t2 _ _ npb gpt
    refine ⟨R, _, _, k, .str rest[k], rfl, rfl, gR2, by omega, by omega, by rw [List.length_map]; exact popIx hk, by rw [List.getElem?_map, List.getElem?_eq_getElem hk]; rfl, ?_⟩
    rw [map_eraseS]
    refine ⟨p, _, _, rfl, rfl, by rw [upd_ne nRp.symm]; exact gp2, by rw [List.length_map]; exact small1000 (by omega), ?_⟩
    have nRc : R ≠ c := hL.ne2 nR
    have npc : p ≠ c := hL.ne2 np0
    refine ⟨_, ?_, rest.eraseIdx k, found ++ [rest[k]], rfl, rfl, ?_, ?_, ?_, ?_, ?_, ?_, ?_⟩
    · rw [List.length_eraseIdx_of_lt hk]
      omega
    · rw [List.length_eraseIdx_of_lt hk, List.length_append, List.length_singleton]
      omega
    · refine ((L2.upd nRb nRc).upd npb npc).mono ?_
      rw [List.length_append, List.length_singleton]
      omega
    · intro x o nx e
      rw [upd_ne (ne_of_none e np0), upd_ne (ne_of_none e nR)]
      exact t2 _ _ nx (tGt _ _ nx e)
    · rw [upd_ne nRp, upd_same]
    · rw [upd_same, List.map_append]
      rfl
    · exact fun w h => hr1 w (List.mem_of_mem_eraseIdx h)
    · intro w h
      rcases List.mem_append.mp h with z | z
      · exact hf1 w z
      · rw [List.mem_singleton.mp z]
        exact hr1 _ (List.getElem_mem hk)
/-! ### _law_pence -/
abbrev s__law_pence : Stmt := topS 48
abbrev N__law_pence : List Str := ["_law_left", "_law_most", "_law_some"]
theorem sc__law_pence : FnScope N__law_pence ["_law_left", "_law_most"] (defScope s__law_pence) := ⟨rfl, rfl, rfl, by decide +kernel, rfl, by decide +kernel, by decide +kernel⟩
theorem pick_in {ns : List Int} {lo hi r : Int} (h0 : 0 ≤ r) (h1 : r < ns.length) (h : ∀ n ∈ ns, lo ≤ n ∧ n ≤ hi) : ∃ v : Int, atI (ns.map V.int) r = some (.int v) ∧ lo ≤ v ∧ v ≤ hi := by
  obtain ⟨i, rfl⟩ := Int.eq_ofNat_of_zero_le h0
  have hi : i < ns.length := by omega
  refine ⟨ns[i], atI_nat ?_, h _ (List.getElem_mem hi)⟩
  rw [List.getElem?_map, List.getElem?_eq_getElem hi]
  rfl
def sp__law_pence (K : PySem.W.Frag) : Sp := fun vs H Q _ => ∃ (b c : Addr) (n m : Int), vs = [.ref b, .int m] ∧ Left H b c n ∧ 1000 ≤ m ∧ m ≤ 100000000 ∧ n < 999990000 ∧ ∀ H' (r : Int), Left H' b c (n + 6) → But b H H' → 1 ≤ r → r ≤ m → Q (.int r) H'
theorem ok__law_pence {f : Addr} {fd : FuncData} (F : Fun K "_law_pence" "_law_pence" s__law_pence f fd) (g : mg "_law_pence" = some (.ref f)) (bd : Binds K fd ["_law_left", "_law_most"] []) (m_min : mg "min" = none) (C__law_pick : CF P w K mg base 2 "_law_pick" ["_law_left", "_law_many"] (sp__law_pick K)) : CF P w K mg base 3 "_law_pence" ["_law_left", "_law_most"] (sp__law_pence K) := by
  refine ⟨f, fd, F.ok sc__law_pence (fun vs H Q E h => ?_) (fun cdv A outer s H vs Q E hr h => ?_), g, F.kp, bd⟩
  · first | (obtain ⟨_, rfl, _⟩ := h; rfl) | (obtain ⟨_, _, rfl, _⟩ := h; rfl) | (obtain ⟨_, _, _, rfl, _⟩ := h; rfl) | (obtain ⟨_, _, _, _, rfl, _⟩ := h; rfl) | (obtain ⟨_, _, _, _, _, rfl, _⟩ := h; rfl) | (obtain ⟨_, _, _, _, _, _, rfl, _⟩ := h; rfl) | (obtain ⟨_, _, _, _, _, _, _, rfl, _⟩ := h; rfl) | (obtain ⟨_, _, _, _, _, _, _, _, rfl, _⟩ := h; rfl) | (obtain ⟨_, _, _, _, _, _, _, _, _, rfl, _⟩ := h; rfl) | (obtain ⟨_, _, _, _, _, _, _, _, _, _, rfl, _⟩ := h; rfl) | (obtain ⟨_, _, _, _, _, _, _, _, _, _, _, rfl, _⟩ := h; rfl) | (obtain ⟨_, _, _, _, _, _, _, _, _, _, _, _, rfl, _⟩ := h; rfl) | (obtain ⟨_, _, _, _, _, _, _, _, _, _, _, _, _, rfl, _⟩ := h; rfl) | (obtain ⟨_, _, _, _, _, _, _, _, _, _, _, _, _, _, rfl, _⟩ := h; rfl) | (obtain ⟨_, _, _, _, _, _, _, _, _, _, _, _, _, _, _, rfl, _⟩ := h; rfl)
  · have hu64 := hr.units
    obtain ⟨b, c, n, m, rfl, hL, m0, m1, hn, q⟩ := h
    refine ⟨_, (pss_cons (ps_set (i := 2) sc__law_pence.nd rfl (.inl rfl) (pe_lst (pa_cons pe_int (pa_cons (pv 1) (pa_cons (pe_op op_sub (pv 1) (pe_cf C__law_pick (hr.mono (by decide)) (by rfl) (pa_cons (pv 0) (pa_cons pe_int pa_nil)))) (pa_cons (pe_callB (call_min2 rfl) (by rfl) m_min (by decide +kernel) (pa_cons (pv 1) (pa_cons (pe_op op_sub (pe_op op_add (pe_op op_mul pe_int (pe_op op_add pe_int (pe_cf C__law_pick (hr.mono (by decide)) (by rfl) (pa_cons (pv 0) (pa_cons pe_int pa_nil))))) (pe_cf C__law_pick (hr.mono (by decide)) (by rfl) (pa_cons (pv 0) (pa_cons pe_int pa_nil)))) pe_int) pa_nil))) pa_nil))))))
      (pss_one (ps_ret (pe_ix (kk_ixl K) (pe_op op_cat (pv 2) (pe_lst (pa_cons (pe_op op_add pe_int (pe_cf C__law_pick (hr.mono (by decide)) (by rfl) (pa_cons (pv 0) (pa_cons pe_int pa_nil)))) (pa_cons (pe_op op_add pe_int (pe_cf C__law_pick (hr.mono (by decide)) (by rfl) (pa_cons (pv 0) (pa_cons (pv 1) pa_nil)))) pa_nil)))) (pe_cf C__law_pick (hr.mono (by decide)) (by rfl) (pa_cons (pv 0) (pa_cons pe_int pa_nil))) (fun _ _ => rfl))))), ?_⟩
    refine ⟨_, rfl, _, rfl, _, rfl, b, c, 3, _, rfl, hL, by decide, by decide, by omega, fun x1 H1 x10 x11 L1 t1 => ⟨_, _, rfl, rfl, _, rfl, _, rfl, b, c, 40, _, rfl, L1, by decide, by decide, by omega, fun x2 H2 x20 x21 L2 t2 => ?_⟩⟩
    refine ⟨_, _, rfl, rfl, _, _, rfl, rfl, .inl ⟨by decide, by decide⟩, _, rfl, b, c, 3, _, rfl, L2, by decide, by decide, by omega, fun x3 H3 x30 x31 L3 t3 => ⟨_, _, rfl, rfl, _, _, rfl, rfl, _, _, rfl, by show 4 ≤ sizeLine; decide, fun l1 n1 => ?_⟩⟩
    generalize hmn : (if 60 * (1 + x2) + x3 - 1 < m then 60 * (1 + x2) + x3 - 1 else m) = mn
    have mn0 : 1 ≤ mn ∧ mn ≤ m := by
      rw [← hmn]
      split <;> omega
    have L3n := L3.new (o := .lst [.int 1, .int m, .int (m - x1), .int mn]) n1
    have l1b := L3.ne n1
    have t13 : But b H _ := ((t1.trans t2).trans t3).trans (But.new (o := .lst [.int 1, .int m, .int (m - x1), .int mn]) n1)
    have h1 := upd_same (H := H3) (a := l1) (o := .lst [.int 1, .int m, .int (m - x1), .int mn])
    generalize upd H3 l1 (.lst [.int 1, .int m, .int (m - x1), .int mn]) = H4 at *
    refine ⟨_, rfl, _, rfl, b, c, 300, _, rfl, L3n, by decide, by decide, by omega, fun x4 H5 x40 x41 L5 t5 => ⟨_, _, rfl, rfl, _, rfl, _, rfl, b, c, m, _, rfl, L5, by omega, by omega, by omega, fun x5 H6 x50 x51 L6 t6 => ⟨_, _, rfl, rfl, by show 2 ≤ sizeLine; decide, fun l2 n2 => ?_⟩⟩⟩
    have h16 := t6 _ _ l1b (t5 _ _ l1b h1)
    have L6n := L6.new (o := .lst [.int (1 + x4), .int (1 + x5)]) n2
    refine ⟨l1, l2, _, _, rfl, rfl, same_new n2 _ _ h16, upd_same, by show 6 ≤ sizeLine; decide, fun l3 n3 => ?_⟩
    have L7 := L6n.new (o := .lst ([.int 1, .int m, .int (m - x1), .int mn] ++ [.int (1 + x4), .int (1 + x5)])) n3
    have l3b := L6n.ne n3
    have t17 := (((t13.trans t5).trans t6).trans (But.new (o := .lst [.int (1 + x4), .int (1 + x5)]) n2)).trans (But.new (o := .lst ([.int 1, .int m, .int (m - x1), .int mn] ++ [.int (1 + x4), .int (1 + x5)])) n3)
    refine ⟨_, rfl, b, c, 6, _, rfl, L7, by decide, by decide, by omega, fun x6 H8 x60 x61 L8 t8 => ?_⟩
    obtain ⟨v, hv, v0, v1⟩ := pick_in (ns := [1, m, m - x1, mn, 1 + x4, 1 + x5]) (lo := 1) (hi := m) x60 x61 (by
      intro z hz
      simp only [List.mem_cons, List.not_mem_nil, or_false] at hz
      rcases hz with rfl | rfl | rfl | rfl | rfl | rfl <;> omega)
    exact ⟨l3, _, _, _, rfl, rfl, SqL.of (t8 _ _ l3b upd_same), hv, q H8 v (L8.mono (by omega)) (t17.trans t8) v0 v1⟩
/-! ### _law_some_names -/
abbrev s__law_some_names : Stmt := topS 43
abbrev N__law_some_names : List Str := ["_law_left", "_law_many", "_law_letters", "_law_words_here", "_law_first", "_law_by", "_law_way", "_law_tail", "_law_found", "_law_turn", "_law_stem", "_law_k", "_law_size", "_law_value", "_law_two", "_law_name"]
theorem sc__law_some_names : FnScope N__law_some_names ["_law_left", "_law_many"] (defScope s__law_some_names) := ⟨rfl, rfl, rfl, by decide +kernel, rfl, by decide +kernel, by decide +kernel⟩
/-- texts of one sign, of letters -/
def ltr (i : Nat) : Str := ⟨#[97 + i]⟩
theorem ltr_at {i : Int} (h0 : 0 ≤ i) (h1 : i < 26) : atI (Str.ofString "abcdefghijklmnopqrstuvwxyz").cps.toList i = some (97 + i.toNat) := by
  obtain ⟨k, rfl⟩ := Int.eq_ofNat_of_zero_le h0
  have hk : k < 26 := by omega
  have all : ∀ k : Fin 26, atI (Str.ofString "abcdefghijklmnopqrstuvwxyz").cps.toList ((k : Nat) : Int) = some (97 + (k : Nat)) := by decide +kernel
  exact all ⟨k, hk⟩
/-- a text of letters, of at most k signs -/
def Low (s : Str) (k : Nat) : Prop := s.length ≤ k ∧ ∀ c ∈ TL.tl s, 97 ≤ c ∧ c ≤ 122
theorem letters_in (c : Nat) : c ∈ TL.tl (Str.ofString "abcdefghijklmnopqrstuvwxyz") ↔ 97 ≤ c ∧ c ≤ 122 := by
  have e : TL.tl (Str.ofString "abcdefghijklmnopqrstuvwxyz") = [97, 98, 99, 100, 101, 102, 103, 104, 105, 106, 107, 108, 109, 110, 111, 112, 113, 114, 115, 116, 117, 118, 119, 120, 121, 122] := by decide +kernel
  rw [e]
  simp only [List.mem_cons, List.not_mem_nil, or_false]
  omega
theorem low_name {s : Str} (h : Low s 8) (h1 : 1 ≤ s.length) : nameS s = true := by
  unfold nameS
  rw [Bool.and_eq_true, decide_eq_true_eq]
  refine ⟨by have := h.1; omega, ?_⟩
  unfold madeOf
  rw [Bool.and_eq_true, Bool.not_eq_true', decide_eq_false_iff_not, empty_iff, List.all_eq_true]
  refine ⟨fun e => ?_, fun c hc => decide_eq_true ((letters_in c).mpr (h.2 c hc))⟩
  rw [TL.len_tl, e] at h1
  cases h1
theorem low_ltr {i : Nat} (h : i < 26) : Low (ltr i) 1 := ⟨Nat.le_refl _, fun c hc => by
  have e : TL.tl (ltr i) = [97 + i] := rfl
  rw [e, List.mem_singleton] at hc
  omega⟩
theorem low_app {s t : Str} {j k : Nat} (h1 : Low s j) (h2 : Low t k) : Low (s ++ t) (j + k) := ⟨by
  rw [len_app]
  have := h1.1
  have := h2.1
  omega, fun c hc => by
  rw [TL.tl_append] at hc
  rcases List.mem_append.mp hc with z | z
  · exact h1.2 c z
  · exact h2.2 c z⟩
theorem low_join : ∀ {l : List Str}, (∀ s ∈ l, Low s 1) → Low (Txt.join "" l) l.length
  | [], _ => ⟨by decide +kernel, fun c hc => by
    have e : TL.tl (Txt.join "" []) = [] := by decide +kernel
    rw [e] at hc
    cases hc⟩
  | [s], h => by
    have e : Txt.join "" [s] = s := by rw [TL.join_eq]; rfl
    rw [e]
    exact h s List.mem_cons_self
  | s :: t :: r, h => by
    have ih := low_join (l := t :: r) fun x hx => h x (List.mem_cons_of_mem _ hx)
    have e : Txt.join "" (s :: t :: r) = s ++ Txt.join "" (t :: r) := by
      rw [TL.join_eq, TL.join_eq]
      show s ++ Str.ofString "" ++ Str.join _ (t :: r) = _
      refine TL.ext_tl ?_
      rw [TL.tl_append, TL.tl_append, TL.tl_append, show TL.tl (Str.ofString "") = [] by decide +kernel, List.append_nil]
    rw [e]
    have := low_app (h s List.mem_cons_self) ih
    refine ⟨?_, this.2⟩
    have h1 := this.1
    simp only [List.length_cons] at h1 ⊢
    omega
theorem low_cut {s : Str} {k : Nat} {lo hi : Option Int} (h : Low s k) : Low (cutS s lo hi) k := by
  have sub : ∀ c ∈ TL.tl (cutS s lo hi), c ∈ TL.tl s := fun c hc => by
    have : TL.tl (cutS s lo hi) = ((TL.tl s).drop (HT.sIx s.length 0 lo)).take (HT.sIx s.length s.length hi - HT.sIx s.length 0 lo) := rfl
    rw [this] at hc
    exact List.mem_of_mem_drop (List.mem_of_mem_take hc)
  refine ⟨?_, fun c hc => h.2 c (sub c hc)⟩
  rw [TL.len_tl]
  have : TL.tl (cutS s lo hi) = ((TL.tl s).drop (HT.sIx s.length 0 lo)).take (HT.sIx s.length s.length hi - HT.sIx s.length 0 lo) := rfl
  rw [this, List.length_take, List.length_drop]
  have h1 := h.1
  rw [TL.len_tl] at h1
  omega
theorem Left.off {H G : Hp} {b c F : Addr} {n : Int} (h : Left H b c n) (t : But F H G) (e1 : F ≠ b) (e2 : F ≠ c) : Left G b c n := by
  obtain ⟨x, z, ns, h0, h1, h2⟩ := h
  exact ⟨x, z, ns, t _ _ e1.symm h0, t _ _ e2.symm h1, h2⟩
def two26 (m : Nat) : List Str := (List.range m).map fun k => ltr (k / 26) ++ ltr (k % 26)
theorem two_ok : ∀ m : Fin 27, (two26 m).Nodup ∧ (two26 m).length = (m : Nat) ∧ ∀ s ∈ two26 m, nameS s = true := by decide +kernel
theorem words_ok : ∀ s ∈ wordsL ++ [Str.ofString "free"], nameS s = true := by decide +kernel
theorem cut_tk {l : List V} {m : Nat} (h : m ≤ l.length) : cutV l none (some (m : Int)) = l.take m := by
  unfold cutV
  rw [HT.sIx_nat, HT.sIx_none, Nat.min_eq_left h]
  simp
/-- eight letters apart by five, and all pieces of them -/
def stemL (f : Nat) : List Str := (List.range 8).map fun k => ltr ((f + 5 * k) % 26)
def stemT (f : Nat) : Str := Txt.join (Str.ofString "") (stemL f)
def cutRow (f z : Nat) : List Str := (List.range (8 - z)).map fun (k : Nat) => cutS (stemT f) (some (0 + (k : Int))) (some (0 + (k : Int) + (1 + (z : Int))))
def cutsN (f z : Nat) : List Str := (List.range z).flatMap (cutRow f)
theorem cuts_ok : ∀ f : Fin 26, (cutsN f 8).Nodup ∧ (cutsN f 8).length = 36 ∧ (∀ s ∈ cutsN f 8, nameS s = true) ∧ (stemT f).length = 8 := by decide +kernel
theorem cuts_len : ∀ (f : Fin 26) (z : Fin 9), (cutsN f z).length ≤ 36 := by decide +kernel
theorem cuts_succ (f z : Nat) : cutsN f (z + 1) = cutsN f z ++ cutRow f z := by
  unfold cutsN
  rw [List.range_succ, List.flatMap_append]
  simp
theorem low_sum : ∀ {l : List Str}, (∀ s ∈ l, Low s 1) → (l.map (·.length)).sum ≤ l.length
  | [], _ => Nat.le_refl _
  | s :: r, h => by
    have ih := low_sum (l := r) fun x hx => h x (List.mem_cons_of_mem _ hx)
    have := (h s List.mem_cons_self).1
    rw [List.map_cons, List.sum_cons, List.length_cons]
    omega
def sp__law_some_names (K : PySem.W.Frag) : Sp := fun vs H Q _ => ∃ (b c : Addr) (n : Int) (m : Nat), vs = [.ref b, .int m] ∧ Left H b c n ∧ 1 ≤ m ∧ m ≤ 26 ∧ n < 999990000 ∧ ∀ H' L (ns : List Str), Left H' b c (n + 20) → But b H H' → H L = none → H' L = some (.lst (ns.map V.str)) → ns.length = m → ns.Nodup → (∀ s ∈ ns, nameS s = true) → Q (.ref L) H'
theorem ok__law_some_names {f : Addr} {fd : FuncData} (F : Fun K "_law_some_names" "_law_some_names" s__law_some_names f fd) (g : mg "_law_some_names" = some (.ref f)) (bd : Binds K fd ["_law_left", "_law_many"] []) (m_range : mg "range" = none) (m_len : mg "len" = none) (m_set : mg "set" = none) (C__law_pick : CF P w K mg base 2 "_law_pick" ["_law_left", "_law_many"] (sp__law_pick K)) : CF P w K mg base 3 "_law_some_names" ["_law_left", "_law_many"] (sp__law_some_names K) := by
  refine ⟨f, fd, F.ok sc__law_some_names (fun vs H Q E h => ?_) (fun cdv A outer s H vs Q E hr h => ?_), g, F.kp, bd⟩
  · first | (obtain ⟨_, rfl, _⟩ := h; rfl) | (obtain ⟨_, _, rfl, _⟩ := h; rfl) | (obtain ⟨_, _, _, rfl, _⟩ := h; rfl) | (obtain ⟨_, _, _, _, rfl, _⟩ := h; rfl) | (obtain ⟨_, _, _, _, _, rfl, _⟩ := h; rfl) | (obtain ⟨_, _, _, _, _, _, rfl, _⟩ := h; rfl) | (obtain ⟨_, _, _, _, _, _, _, rfl, _⟩ := h; rfl) | (obtain ⟨_, _, _, _, _, _, _, _, rfl, _⟩ := h; rfl) | (obtain ⟨_, _, _, _, _, _, _, _, _, rfl, _⟩ := h; rfl) | (obtain ⟨_, _, _, _, _, _, _, _, _, _, rfl, _⟩ := h; rfl) | (obtain ⟨_, _, _, _, _, _, _, _, _, _, _, rfl, _⟩ := h; rfl) | (obtain ⟨_, _, _, _, _, _, _, _, _, _, _, _, rfl, _⟩ := h; rfl) | (obtain ⟨_, _, _, _, _, _, _, _, _, _, _, _, _, rfl, _⟩ := h; rfl) | (obtain ⟨_, _, _, _, _, _, _, _, _, _, _, _, _, _, rfl, _⟩ := h; rfl) | (obtain ⟨_, _, _, _, _, _, _, _, _, _, _, _, _, _, _, rfl, _⟩ := h; rfl)
  · have hu64 := hr.units
    obtain ⟨b, c, n, m, rfl, hL, m0, m1, hn, q⟩ := h
    refine ⟨_, (pss_cons (ps_set (i := 2) sc__law_some_names.nd rfl (.inr rfl) pe_str)
      (pss_cons (ps_set (i := 3) sc__law_some_names.nd rfl (.inl rfl) (pe_split pe_str pe_str))
      (pss_cons (ps_asg (pe_tup (pa_cons (pe_cf C__law_pick (hr.mono (by decide)) (by rfl) (pa_cons (pv 0) (pa_cons pe_int pa_nil))) (pa_cons (pe_ix (kk_ixl K) (pe_lst (pa_cons pe_int (pa_cons pe_int (pa_cons pe_int (pa_cons pe_int (pa_cons pe_int (pa_cons pe_int pa_nil))))))) (pe_cf C__law_pick (hr.mono (by decide)) (by rfl) (pa_cons (pv 0) (pa_cons pe_int pa_nil))) (fun _ _ => rfl)) (pa_cons (pe_cf C__law_pick (hr.mono (by decide)) (by rfl) (pa_cons (pv 0) (pa_cons pe_int pa_nil))) pa_nil)))) (pg_tup (by rfl) (pgs_cons (pg_name (i := 4) sc__law_some_names.nd rfl (.inr rfl)) (pgs_cons (pg_name (i := 5) sc__law_some_names.nd rfl (.inl rfl)) (pgs_cons (pg_name (i := 6) sc__law_some_names.nd rfl (.inl rfl)) pgs_nil)))))
      (pss_cons (ps_par (i := 7) (j := 8) (by rfl) sc__law_some_names.nd rfl rfl (by decide) rfl rfl (pa_cons (pe_join pe_str (pe_lc (own := [("_law_turn", 9)]) (g := (gName 9)) (tt := tYes) rfl sc__law_some_names.nd (pi_range1 (by rfl) m_range (pa_cons (pe_cf C__law_pick (hr.mono (by decide)) (by rfl) (pa_cons (pv 0) (pa_cons pe_int pa_nil))) pa_nil)) (blkOk_by (own := [("_law_turn", 9)]) (N := N__law_some_names) (sc := defScope s__law_some_names) (by decide +kernel)) (fun _ _ _ _ _ => pg_name (i := 9) sc__law_some_names.nd rfl (Or.inl rfl)) (fun _ _ _ _ _ => pts_nil) (fun _ _ _ _ _ => (pe_ix ix_str (pv 2) (pe_cf C__law_pick (hr.mono (by decide)) (by rfl) (pa_cons (pv 0) (pa_cons pe_int pa_nil))) (fun _ _ => rfl))))) (pa_cons (pe_lst pa_nil) pa_nil)) (by rfl))
      (pss_cons (ps_if (pt_cmpR op_eq (pv 6) pe_int (nomark _))
         (pss_cons (ps_set (i := 10) sc__law_some_names.nd rfl (.inr rfl) (pe_join pe_str (pe_lc (own := [("_law_k", 11)]) (g := (gName 11)) (tt := tYes) rfl sc__law_some_names.nd (pi_range1 (by rfl) m_range (pa_cons pe_int pa_nil)) (blkOk_by (own := [("_law_k", 11)]) (N := N__law_some_names) (sc := defScope s__law_some_names) (by decide +kernel)) (fun _ _ _ _ _ => pg_name (i := 11) sc__law_some_names.nd rfl (Or.inl rfl)) (fun _ _ _ _ _ => pts_nil) (fun _ _ _ _ _ => (pe_ix ix_str (pv 2) (pe_op op_mod (pe_op op_add (pv 4) (pe_op op_mul pe_int (pv 11))) pe_int) (fun _ _ => rfl))))))
          (pss_cons (ps_for PassesOwn.never rfl (pi_range2 (by rfl) m_range (pa_cons pe_int (pa_cons pe_int pa_nil))) (pg_name (i := 12) sc__law_some_names.nd rfl (.inr rfl))
             (pss_one (ps_expr (pe_bm PySem.F.plainAttrs_list PySem.F.slot_list_extend PySem.F.type_list_extend mt_extend (pv 8) (pa_cons (pe_lc (own := [("_law_k", 11)]) (g := (gName 11)) (tt := tYes) rfl sc__law_some_names.nd (pi_range1 (by rfl) m_range (pa_cons (pe_op op_sub pe_int (pv 12)) pa_nil)) (blkOk_by (own := [("_law_k", 11)]) (N := N__law_some_names) (sc := defScope s__law_some_names) (by decide +kernel)) (fun _ _ _ _ _ => pg_name (i := 11) sc__law_some_names.nd rfl (Or.inl rfl)) (fun _ _ _ _ _ => pts_nil) (fun _ _ _ _ _ => (pe_slice sl_str (pv 10) (po_some (pv 11)) (po_some (pe_op op_add (pv 11) (pv 12)))))) pa_nil)))))
          (pss_one (ps_ret (pe_slice (kk_sll K) (pv 8) po_none (po_some (pv 1)))))))
         pss_nil)
      (pss_cons (ps_for PassesOwn.never rfl (pi_range1 (by rfl) m_range (pa_cons (pv 1) pa_nil)) (pg_name (i := 11) sc__law_some_names.nd rfl (.inl rfl))
         (pss_cons (ps_set (i := 13) sc__law_some_names.nd rfl (.inl rfl) (pe_op op_mod (pe_op op_add (pv 4) (pe_op op_mul (pv 5) (pv 11))) pe_int))
          (pss_cons (ps_set (i := 14) sc__law_some_names.nd rfl (.inl rfl) (pe_op op_add_str (pe_ix ix_str (pv 2) (pe_op op_fdiv (pv 13) pe_int) (fun _ _ => rfl)) (pe_ix ix_str (pv 2) (pe_op op_mod (pv 13) pe_int) (fun _ _ => rfl))))
          (pss_cons (ps_set (i := 15) sc__law_some_names.nd rfl (.inl rfl) (pe_ifExp (PW.pt (pw_and (pt_cmpR op_eq (pv 6) pe_int (nomark _)) (pw_and1 (pt_cmpR op_lt (pv 1) pe_int (nomark _))))) (pe_ix ix_str (pv 2) (pe_op op_mod (pe_op op_add (pv 4) (pe_op op_mul (pv 5) (pv 11))) pe_int) (fun _ _ => rfl)) (pe_op op_add_str (pv 14) (pe_slice sl_str (pv 7) po_none (po_some (pe_op op_mod (pe_op op_add (pe_op op_mul (pv 11) (pv 11)) (pv 4)) pe_int))))))
          (pss_cons (ps_if (PW.pt (pw_and (pt_cmpR op_eq (pv 6) pe_int (nomark _)) (pw_and (pt_cmpR op_lt (pv 11) pe_int (nomark _)) (pw_and1 (pt_cmpR op_eq (pe_op op_mod (pe_op op_add (pv 4) (pv 11)) pe_int) pe_int (nomark _))))))
             (pss_one (ps_set (i := 15) sc__law_some_names.nd rfl (.inl rfl) (pe_ix (kk_ixl K) (pv 3) (pv 11) (fun _ _ => rfl))))
             pss_nil)
          (pss_one (ps_expr (pe_bm PySem.F.plainAttrs_list PySem.F.slot_list_append PySem.F.type_list_append mt_append (pv 8) (pa_cons (pv 15) pa_nil)))))))))
      (pss_cons (ps_if (pt_cmpR op_eq (pe_lenSetD (by rfl) m_len (by rfl) m_set (pv 8)) (pv 1) (nomark _))
         (pss_one (ps_ret (pv 8)))
         pss_nil)
      (pss_one (ps_ret (pe_lc (own := [("_law_k", 11)]) (g := (gName 11)) (tt := tYes) rfl sc__law_some_names.nd (pi_range1 (by rfl) m_range (pa_cons (pv 1) pa_nil)) (blkOk_by (own := [("_law_k", 11)]) (N := N__law_some_names) (sc := defScope s__law_some_names) (by decide +kernel)) (fun _ _ _ _ _ => pg_name (i := 11) sc__law_some_names.nd rfl (Or.inl rfl)) (fun _ _ _ _ _ => pts_nil) (fun _ _ _ _ _ => (pe_op op_add_str (pe_ix ix_str (pv 2) (pe_op op_fdiv (pv 11) pe_int) (fun _ _ => rfl)) (pe_ix ix_str (pv 2) (pe_op op_mod (pv 11) pe_int) (fun _ _ => rfl)))))))))))))), ?_⟩
    refine ⟨⟨_, rfl⟩, _, _, rfl, rfl, by decide +kernel, by decide +kernel, fun wl nwl => ?_⟩
    rw [show Txt.split (Str.ofString "house price ware put pay up leave bring hand settle free") (Str.ofString " ") = wordsL ++ [Str.ofString "free"] by decide +kernel]
    have L1 := hL.new (o := .lst ((wordsL ++ [Str.ofString "free"]).map V.str)) nwl
    have wlb := hL.ne nwl
    have hW := upd_same (H := H) (a := wl) (o := .lst ((wordsL ++ [Str.ofString "free"]).map V.str))
    have t1 : But b H (upd H wl (.lst ((wordsL ++ [Str.ofString "free"]).map V.str))) := But.new nwl
    generalize upd H wl (.lst ((wordsL ++ [Str.ofString "free"]).map V.str)) = H1 at *
    refine ⟨_, rfl, b, c, 676, _, rfl, L1, by decide, by decide, by omega, fun x1 H2 x10 x11 L2 t2 => ⟨by show 6 ≤ sizeLine; decide, fun l1 n1 => ⟨_, rfl, b, c, 6, _, rfl, L2.new n1, by decide, by decide, by omega, fun x2 H3 x20 x21 L3 t3 => ?_⟩⟩⟩
    obtain ⟨bv, hbv, bv0, bv1⟩ := pick_in (ns := [1, 3, 5, 7, 25, 675]) (lo := 1) (hi := 675) x20 x21 (by decide)
    refine ⟨l1, _, _, _, rfl, rfl, SqL.of (t3 _ _ (L2.ne n1) upd_same), hbv, _, rfl, b, c, 4, _, rfl, L3, by decide, by decide, by omega, fun x3 H4 x30 x31 L4 t4 => ⟨by show 3 ≤ sizeLine; decide, fun T nT => ⟨T, _, rfl, SqT.of upd_same, rfl, _, _, rfl, _, _, rfl, _, _, rfl, rfl, ?_⟩⟩⟩
    have L5 := L4.new (o := .tup [.int x1, .int bv, .int x3]) nT
    have t5 : But b H (upd H4 T (.tup [.int x1, .int bv, .int x3])) := (((t1.trans t2).trans (But.new n1)).trans (t3.trans t4)).trans (But.new nT)
    have hW5 : upd H4 T (.tup [.int x1, .int bv, .int x3]) wl = some (.lst ((wordsL ++ [Str.ofString "free"]).map V.str)) := same_new nT _ _ (t4 _ _ wlb (t3 _ _ wlb (same_new n1 _ _ (t2 _ _ wlb hW))))
    generalize upd H4 T (.tup [.int x1, .int bv, .int x3]) = H5 at *
    clear hW L1 L2 L3 L4 t1 t2 t3 t4 nT n1 nwl hbv
    refine ⟨⟨_, rfl⟩, _, rfl, b, c, 7, _, rfl, L5, by decide, by decide, by omega, fun x4 H6 x40 x41 L6 t6 => ⟨_, rfl, by omega, by omega, fun D nD => lc_range (lo := 0) (n := x4.toNat) (fun i G => But b H6 G ∧ Left G b c (n + 4 + i) ∧ ∃ ls : List Str, ls.length = i ∧ (∀ s ∈ ls, Low s 1) ∧ G D = some (.lst (ls.map V.str))) ⟨But.new nD, (L6.mono (by omega)).new nD, [], rfl, fun _ h => (nomatch h), upd_same⟩ (fun i G hi h => ?_) (fun G h => ?_)⟩⟩
    · obtain ⟨t7, L7, ls, hls, hlb, hG⟩ := h
      have hDb : D ≠ b := L6.ne nD
      have hDc : D ≠ c := L6.ne2 nD
      refine ⟨rfl, _, rfl, _, rfl, b, c, 26, _, rfl, L7, by decide, by decide, by omega, fun x5 G2 x50 x51 L8 t8 => ⟨_, _, _, rfl, rfl, by decide +kernel, ltr_at x50 x51, ?_⟩⟩
      refine ⟨_, t8 _ _ hDb hG, ?_, fun e o ne he => ?_, (L8.mono (by omega)).upd hDb hDc, ls ++ [ltr x5.toNat], by rw [List.length_append, hls]; rfl, fun y hy => ?_, ?_⟩
      · rw [List.length_map, hls]
        exact small1000 (by omega)
      · rw [upd_ne (ne_of_none he nD)]
        exact t8 _ _ ne (t7 _ _ ne he)
      · rcases List.mem_append.mp hy with z | z
        · exact hlb y z
        · rw [List.mem_singleton.mp z]
          exact low_ltr (by omega)
      · rw [upd_same, List.map_append]
        rfl
    obtain ⟨t7, L7, ls, hls, hlb, hG⟩ := h
    have hsum := low_sum hlb
    have ltail := low_join hlb
    refine ⟨_, D, ls, rfl, rfl, .inl (SqL.of hG), by rw [show (Str.ofString "").length = 0 from rfl]; omega, by show 0 ≤ sizeLine; decide, fun F nF => ⟨_, _, rfl, ?_⟩⟩
    generalize Txt.join (Str.ofString "") ls = tail at *
    have L8 := (L7.mono (show n + 4 + x4.toNat ≤ n + 12 by omega)).new (o := .lst []) nF
    have tH : But b H (upd G F (.lst [])) := ((t5.trans t6).trans t7).trans (But.new nF)
    have hF := upd_same (H := G) (a := F) (o := .lst [])
    have hFb : F ≠ b := L7.ne nF
    have hFc : F ≠ c := L7.ne2 nF
    have hW8 := same_new (o := .lst []) nF _ _ (t7 _ _ wlb (t6 _ _ wlb hW5))
    have nFH : H F = none := by
      cases e : H F with
      | none => rfl
      | some o =>
        have := t7 _ _ hFb (t6 _ _ hFb (t5 _ _ hFb e))
        rw [nF] at this
        cases this
    have hlt : tail.length ≤ 6 := by have := ltail.1; omega
    have ltl : Low tail 6 := ⟨hlt, ltail.2⟩
    generalize upd G F (.lst []) = H7 at *
    clear hsum hlb hG nF nD hls t5 t6 t7 L5 L6 L7 ltail hW5
    have tHG : ∀ {G2 : Hp}, But F H7 G2 → But b H G2 := fun {G2} tz a o ne e => tz a o (ne_of_none e nFH) (tH a o ne e)
    have fin : ∀ (G2 : Hp) (X : Addr) (ns : List Str), But F H7 G2 → G2 X = none → ns.length = m → ns.Nodup → (∀ s ∈ ns, nameS s = true) → Q (.ref X) (upd G2 X (.lst (ns.map V.str))) := fun G2 X ns tz nX k1 k2 k3 => by
      have LG := L8.off tz hFb hFc
      refine q _ X ns ((LG.new nX).mono (by omega)) (fun a o ne e => ?_) ?_ upd_same k1 k2 k3
      · rw [upd_ne (ne_of_none (tHG tz a o ne e) nX)]
        exact tHG tz a o ne e
      · cases e : H X with
        | none => rfl
        | some o =>
          have h2 := tHG tz X o (LG.ne nX) e
          rw [nX] at h2
          cases h2
    refine ⟨_, rfl, rfl, _, rfl, ?_⟩
    by_cases w0 : x3 = 0
    · rw [decide_eq_true (congrArg V.int w0)]
      obtain ⟨f0, hf0⟩ : ∃ f0, f0 = x1.toNat % 26 := ⟨_, rfl⟩
      have f26 : f0 < 26 := by omega
      obtain ⟨k1, k2, k3, k4⟩ := cuts_ok ⟨f0, f26⟩
      refine iteT ⟨⟨_, rfl⟩, _, rfl, by decide, by decide, fun D2 nD2 => lc_range (lo := 0) (n := 8) (fun i G => Same H7 G ∧ G D2 = some (.lst (((List.range i).map fun k => ltr ((f0 + 5 * k) % 26)).map V.str))) ⟨same_new nD2, upd_same⟩ (fun i G hi h => ?_) (fun G h => ?_)⟩
      · obtain ⟨h1, h2⟩ := h
        refine ⟨rfl, _, rfl, _, rfl, _, rfl, _, _, rfl, rfl, .inl ⟨by decide, by decide⟩, _, _, rfl, rfl, _, _, rfl, rfl, (by show (0 : Int) < 26; decide), _, _, _, rfl, rfl, by decide +kernel, ltr_at (by omega) (by omega), ?_⟩
        refine ⟨_, h2, ?_, fun e o he => ?_, ?_⟩
        · rw [List.length_map, List.length_map, List.length_range]
          exact small1000 (by omega)
        · rw [upd_ne (ne_of_none he nD2)]
          exact h1 _ _ he
        · rw [upd_same, List.range_succ, List.map_append, List.map_append]
          have e : ((x1 + 5 * (0 + (i : Int))) % 26).toNat = (f0 + 5 * i) % 26 := by omega
          show _ = some (HO.lst (_ ++ [V.str (ltr ((f0 + 5 * i) % 26))]))
          rw [← e]
          rfl
      obtain ⟨h1, h2⟩ := h
      have sz := low_sum (l := stemL f0) (fun s hs => by
        obtain ⟨k, _, rfl⟩ := List.mem_map.mp hs
        exact low_ltr (by omega))
      have sl : (stemL f0).length = 8 := by rw [stemL, List.length_map, List.length_range]
      refine ⟨_, D2, stemL f0, rfl, rfl, .inl (SqL.of h2), by rw [show (Str.ofString "").length = 0 from rfl]; omega, ?_⟩
      refine ⟨1, 9, rfl, by decide, for_range (fun z σ G => ∃ s9 s11 s12 s13 s14 s15 : Option V, σ = [some (.ref b), some (.int m), some (.str (Str.ofString "abcdefghijklmnopqrstuvwxyz")), some (.ref wl), some (.int x1), some (.int bv), some (.int x3), some (.str tail), some (.ref F), s9, some (.str (stemT f0)), s11, s12, s13, s14, s15] ∧ But F H7 G ∧ G F = some (.lst ((cutsN f0 z).map V.str)))
        ⟨_, _, _, _, _, _, rfl, fun a o _ e => h1 _ _ e, h1 _ _ hF⟩ (fun z σ G2 hz h => ?_) (fun σ G2 h => ?_)⟩
      · obtain ⟨s9, s11, s12, s13, s14, s15, rfl, tz, hz2⟩ := h
        have hz8 : z < 8 := hz
        refine ⟨_, rfl, .inl ⟨rfl, _, SqL.of hz2⟩, _, rfl, _, _, rfl, rfl, _, rfl, by omega, by omega, fun D3 nD3 => lc_range (lo := 0) (n := (9 - (1 + (z : Int))).toNat) (fun i G => Same G2 G ∧ G D3 = some (.lst (((List.range i).map fun (k : Nat) => cutS (stemT f0) (some (0 + (k : Int))) (some (0 + (k : Int) + (1 + (z : Int))))).map V.str))) ⟨same_new nD3, upd_same⟩ (fun i G hi h => ?_) (fun G h => ?_)⟩
        · obtain ⟨g1, g2⟩ := h
          refine ⟨rfl, _, rfl, _, rfl, _, rfl, _, rfl, _, rfl, _, _, rfl, rfl, _, rfl, _, rfl, by rw [k4]; decide, ?_⟩
          refine ⟨_, g2, ?_, fun e o he => ?_, ?_⟩
          · rw [List.length_map, List.length_map, List.length_range]
            exact small1000 (by omega)
          · rw [upd_ne (ne_of_none he nD3)]
            exact g1 _ _ he
          · rw [upd_same, List.range_succ, List.map_append, List.map_append]
            rfl
        obtain ⟨g1, g2⟩ := h
        have lz := cuts_len ⟨f0, f26⟩ ⟨z, by omega⟩
        refine ⟨F, D3, _, _, rfl, rfl, g1 _ _ hz2, g2, ?_, _, _, _, _, _, _, rfl, fun a o ne e => ?_, ?_⟩
        · rw [List.length_map, List.length_map, List.length_map, List.length_range, sizeLine_eq]
          show (cutsN f0 z).length + _ ≤ _
          have : (cutsN f0 z).length ≤ 36 := lz
          omega
        · rw [upd_ne ne]
          exact g1 _ _ (tz _ _ ne e)
        · rw [upd_same, cuts_succ, List.map_append]
          have e : (9 - (1 + (z : Int))).toNat = 8 - z := by omega
          rw [e]
          rfl
      obtain ⟨s9, s11, s12, s13, s14, s15, rfl, tz, hz2⟩ := h
      have k2' : (cutsN f0 8).length = 36 := k2
      refine ⟨_, rfl, _, rfl, _, rfl, F, _, rfl, SqL.of hz2, fun X nX => ?_⟩
      have hz2 : G2 F = some (.lst ((cutsN f0 8).map V.str)) := hz2
      show Q (.ref X) (upd G2 X (.lst (cutV ((cutsN f0 8).map V.str) none (some (m : Int)))))
      rw [cut_tk (by rw [List.length_map, k2']; omega), ← List.map_take]
      exact fin G2 X _ (fun a o ne e => tz a o ne (by exact e)) nX (by rw [List.length_take, k2']; omega) (k1.sublist (List.take_sublist _ _)) (fun s hs => k3 s (List.mem_of_mem_take hs))
    · rw [decide_eq_false (fun z => w0 (V.int.inj z))]
      have wlF : wl ≠ F := fun e => by
        rw [e, hF] at hW8
        cases hW8
      refine iteF ⟨_, rfl, _, rfl, by omega, by omega, for_range (fun k σ G => ∃ s9 s10 s11 s12 s13 s14 s15 : Option V, σ = [some (.ref b), some (.int m), some (.str (Str.ofString "abcdefghijklmnopqrstuvwxyz")), some (.ref wl), some (.int x1), some (.int bv), some (.int x3), some (.str tail), some (.ref F), s9, s10, s11, s12, s13, s14, s15] ∧ But F H7 G ∧ ∃ ns : List Str, ns.length = k ∧ (∀ s ∈ ns, nameS s = true) ∧ G F = some (.lst (ns.map V.str)))
        ⟨_, _, _, _, _, _, _, rfl, fun a o _ e => e, [], rfl, fun s h => (nomatch h), hF⟩ (fun k σ G hk h => ?_) (fun σ G h => ?_)⟩
      · obtain ⟨s9, s10, s11, s12, s13, s14, s15, rfl, tz, ns, hns, hok, hFG⟩ := h
        have hkm : k < m := by omega
        have hWG := tz _ _ wlF hW8
        refine ⟨_, rfl, _, rfl, _, rfl, _, _, rfl, rfl, .inl ⟨by omega, by omega⟩, _, _, rfl, rfl, _, _, rfl, rfl, (by show (0 : Int) < 676; decide), ?_⟩
        show gName 13 (V.int ((x1 + bv * (0 + (k : Int))) % 676)) _ _ _
        have v0 : 0 ≤ (x1 + bv * (0 + (k : Int))) % 676 ∧ (x1 + bv * (0 + (k : Int))) % 676 < 676 := ⟨Int.emod_nonneg _ (by decide), Int.emod_lt_of_pos _ (by decide)⟩
        generalize (x1 + bv * (0 + (k : Int))) % 676 = vv at *
        refine ⟨_, rfl, _, rfl, _, _, rfl, rfl, ⟨by decide, by decide⟩, _, _, _, rfl, rfl, by decide +kernel, ltr_at (by omega) (by omega), _, rfl, _, rfl, _, _, rfl, rfl, (by show (0 : Int) < 26; decide), _, _, _, rfl, rfl, by decide +kernel, ltr_at (by omega) (by omega), _, _, rfl, rfl, (by show 2 ≤ sizeLine; decide), ?_⟩
        have low2 : Low (ltr (vv / 26).toNat ++ ltr (vv % 26).toNat) 2 := low_app (low_ltr (by omega)) (low_ltr (by omega))
        show gName 14 (V.str (ltr (vv / 26).toNat ++ ltr (vv % 26).toNat)) _ _ _
        have two1 : (ltr (vv / 26).toNat ++ ltr (vv % 26).toNat).length = 2 := rfl
        generalize ltr (vv / 26).toNat ++ ltr (vv % 26).toNat = two at *
        refine ⟨_, rfl, rfl, _, rfl, ?_⟩
        by_cases w1 : x3 = 1
        case' pos =>
          rw [decide_eq_true (congrArg V.int w1)]
          refine iteT ⟨_, rfl, _, _, rfl, rfl, _, rfl, ?_⟩
          rw [decide_eq_true (show (m : Int) < 27 by omega)]
          refine iteT ⟨_, rfl, _, rfl, _, rfl, _, rfl, _, _, rfl, rfl, .inl ⟨by omega, by omega⟩, _, _, rfl, rfl, _, _, rfl, rfl, (by show (0 : Int) < 26; decide), _, _, _, rfl, rfl, by decide +kernel, ltr_at (Int.emod_nonneg _ (by decide)) (Int.emod_lt_of_pos _ (by decide)), ?_⟩
          have l26 : ((x1 + bv * (0 + (k : Int))) % 26).toNat < 26 := by
            have := Int.emod_lt_of_pos (x1 + bv * (0 + (k : Int))) (show (0 : Int) < 26 by decide)
            have := Int.emod_nonneg (x1 + bv * (0 + (k : Int))) (show (26 : Int) ≠ 0 by decide)
            omega
          show gName 15 (V.str (ltr ((x1 + bv * (0 + (k : Int))) % 26).toNat)) _ _ _
          have hnm : nameS (ltr ((x1 + bv * (0 + (k : Int))) % 26).toNat) = true := low_name ⟨by show 1 ≤ 8; decide, (low_ltr l26).2⟩ (Nat.le_refl _)
          generalize ltr ((x1 + bv * (0 + (k : Int))) % 26).toNat = nm at *
        case' neg =>
          rw [decide_eq_false (fun z => w1 (V.int.inj z))]
          refine iteF (iteF ⟨_, rfl, _, rfl, _, rfl, _, rfl, _, _, rfl, rfl, .inl ⟨by omega, by omega⟩, _, rfl, _, _, rfl, rfl, _, _, rfl, rfl, (by show (0 : Int) < 7; decide), _, rfl, _, rfl, Nat.le_trans hlt (by decide), _, _, rfl, rfl, ?_, ?_⟩)
          · have := (low_cut (lo := none) (hi := some (((0 + (k : Int)) * (0 + (k : Int)) + x1) % 7)) ltl).1
            rw [two1, sizeLine_eq]
            show 2 + (cutS tail none (some (((0 + (k : Int)) * (0 + (k : Int)) + x1) % 7))).length ≤ _
            omega
          show gName 15 (V.str (two ++ cutS tail none (some (((0 + (k : Int)) * (0 + (k : Int)) + x1) % 7)))) _ _ _
          have hnm : nameS (two ++ cutS tail none (some (((0 + (k : Int)) * (0 + (k : Int)) + x1) % 7))) = true := low_name (low_app low2 (low_cut ltl)) (by rw [len_app, two1]; omega)
          generalize two ++ cutS tail none (some (((0 + (k : Int)) * (0 + (k : Int)) + x1) % 7)) = nm at *
        all_goals
          have okn : ∀ x : Str, nameS x = true → ∀ s ∈ ns ++ [x], nameS s = true := fun x hx s hs => by
            rcases List.mem_append.mp hs with z | z
            · exact hok s z
            · rw [List.mem_singleton.mp z]
              exact hx
          have sz : (ns.map V.str).length < sizeLine := by
            rw [List.length_map]
            exact small1000 (by omega)
          have ap : ∀ x : Str, upd G F (.lst (ns.map V.str ++ [V.str x])) F = some (.lst ((ns ++ [x]).map V.str)) := fun x => by
            rw [upd_same, List.map_append]
            rfl
          have tzx : ∀ o : HO, But F H7 (upd G F o) := fun o c u ne e => by
            rw [upd_ne ne]
            exact tz c u ne e
          have ln : ∀ x : Str, (ns ++ [x]).length = k + 1 := fun x => by
            rw [List.length_append, hns]
            rfl
          refine ⟨_, rfl, rfl, _, rfl, ite2 (fun w2 => ⟨_, rfl, _, _, rfl, rfl, _, rfl, ite2 (fun w3 => ⟨_, rfl, _, rfl, _, _, rfl, rfl, _, _, rfl, rfl, (by show (0 : Int) < 3; decide), rfl, _, rfl, ite2 (fun w4 => ?_) (fun w4 => ?_)⟩) (fun w3 => iteF ?_)⟩) (fun w2 => iteF ?_)⟩
          · have k11 : k < 11 := by
              have := of_decide_eq_true w3
              omega
            have hk12 : k < (wordsL ++ [Str.ofString "free"]).length := Nat.lt_of_lt_of_le k11 (by decide)
            have hwd := List.getElem?_eq_getElem hk12
            have hwo := words_ok _ (List.getElem_mem hk12)
            generalize (wordsL ++ [Str.ofString "free"])[k] = wd at *
            have hat : atI ((wordsL ++ [Str.ofString "free"]).map V.str) (0 + (k : Int)) = some (.str wd) := by
              rw [Int.zero_add]
              exact atI_nat (by rw [List.getElem?_map, hwd]; rfl)
            exact ⟨_, rfl, _, rfl, wl, _, _, _, rfl, rfl, SqL.of hWG, hat, _, rfl, .inl ⟨rfl, _, SqL.of hFG⟩, _, rfl, F, _, _, rfl, rfl, hFG, sz, _, _, _, _, _, _, _, rfl, tzx _, _, ln wd, okn wd hwo, ap wd⟩
          all_goals exact ⟨_, rfl, .inl ⟨rfl, _, SqL.of hFG⟩, _, rfl, F, _, _, rfl, rfl, hFG, sz, _, _, _, _, _, _, _, rfl, tzx _, _, ln nm, okn nm hnm, ap nm⟩
      · obtain ⟨s9, s10, s11, s12, s13, s14, s15, rfl, tz, ns, hns, hok, hFG⟩ := h
        have hns : ns.length = m := by
          rw [hns]
          exact Int.toNat_natCast m
        refine ⟨_, rfl, F, ns, rfl, SqL.of hFG, by omega, fun cc cc1 cc2 => ⟨_, rfl, rfl, _, rfl, ite2 (fun w5 => ?_) (fun w5 => ?_)⟩⟩
        · have nd : ns.Nodup := cc2.mp (by
            have := V.int.inj (of_decide_eq_true w5)
            omega)
          exact ⟨_, rfl, q _ F ns ((L8.off tz hFb hFc).mono (by omega)) (tHG tz) nFH hFG hns nd hok⟩
        · refine ⟨_, rfl, _, rfl, by omega, by omega, fun D4 nD4 => lc_range (lo := 0) (n := (m : Int).toNat) (fun i G3 => Same G G3 ∧ G3 D4 = some (.lst (((List.range i).map fun k => ltr (k / 26) ++ ltr (k % 26)).map V.str))) ⟨same_new nD4, upd_same⟩ (fun i G3 hi h => ?_) (fun G3 h => ?_)⟩
          · obtain ⟨g1, g2⟩ := h
            have i26 : i < 26 := by omega
            refine ⟨rfl, _, rfl, _, rfl, _, _, rfl, rfl, ⟨by decide, by decide⟩, _, _, _, rfl, rfl, by decide +kernel, ltr_at (by omega) (by omega), _, rfl, _, rfl, _, _, rfl, rfl, (by show (0 : Int) < 26; decide), _, _, _, rfl, rfl, by decide +kernel, ltr_at (by omega) (by omega), _, _, rfl, rfl, (by show 2 ≤ sizeLine; decide), ?_⟩
            refine ⟨_, g2, ?_, fun e o he => ?_, ?_⟩
            · rw [List.length_map, List.length_map, List.length_range]
              exact small1000 (by omega)
            · rw [upd_ne (ne_of_none he nD4)]
              exact g1 _ _ he
            · rw [upd_same, List.range_succ, List.map_append, List.map_append]
              have e1 : ((0 + (i : Int)) / 26).toNat = i / 26 := by omega
              have e2 : ((0 + (i : Int)) % 26).toNat = i % 26 := by omega
              show _ = some (HO.lst (_ ++ [V.str (ltr (i / 26) ++ ltr (i % 26))]))
              rw [← e1, ← e2]
              rfl
          obtain ⟨g1, g2⟩ := h
          obtain ⟨r1, r2, r3⟩ := two_ok ⟨m, by omega⟩
          have LG := L8.off tz hFb hFc
          refine q _ D4 (two26 m) ((LG.same g1).mono (by omega)) (fun a o ne e => g1 _ _ (tHG tz a o ne e)) ?_ (by rw [g2, Int.toNat_natCast]; rfl) r2 r1 r3
          cases e : H D4 with
          | none => rfl
          | some o =>
            have h2 := tHG tz D4 o (LG.ne nD4) e
            rw [nD4] at h2
            cases h2
/-! ### _law_deed -/
abbrev s__law_deed : Stmt := topS 50
abbrev N__law_deed : List Str := ["_law_left", "_law_names", "_law_word", "_law_a", "_law_b", "_law_c", "_law_turn", "_law_d", "_law_name"]
theorem sc__law_deed : FnScope N__law_deed ["_law_left", "_law_names", "_law_word"] (defScope s__law_deed) := ⟨rfl, rfl, rfl, by decide +kernel, rfl, by decide +kernel, by decide +kernel⟩
theorem fit1 {s : Str} {x : Arg} (h1 : fits s x) : ∀ (i : Nat) (a : Arg) (u : Str), [x][i]? = some a → [s][i]? = some u → fits u a
  | 0, _, _, e1, e2 => by cases e1; cases e2; exact h1
  | _ + 1, _, _, e1, _ => by cases e1
theorem fit2 {s t : Str} {x y : Arg} (h1 : fits s x) (h2 : fits t y) : ∀ (i : Nat) (a : Arg) (u : Str), [x, y][i]? = some a → [s, t][i]? = some u → fits u a
  | 0, _, _, e1, e2 => by cases e1; cases e2; exact h1
  | 1, _, _, e1, e2 => by cases e1; cases e2; exact h2
  | _ + 2, _, _, e1, _ => by cases e1
theorem fit3 {s t r : Str} {x y z : Arg} (h1 : fits s x) (h2 : fits t y) (h3 : fits r z) : ∀ (i : Nat) (a : Arg) (u : Str), [x, y, z][i]? = some a → [s, t, r][i]? = some u → fits u a
  | 0, _, _, e1, e2 => by cases e1; cases e2; exact h1
  | 1, _, _, e1, e2 => by cases e1; cases e2; exact h2
  | 2, _, _, e1, e2 => by cases e1; cases e2; exact h3
  | _ + 3, _, _, e1, _ => by cases e1
theorem other_len {ns : List Str} {a : Str} (nd : ns.Nodup) (m : a ∈ ns) : (ns.filter fun x => decide (x ≠ a)).length + 1 = ns.length := by
  induction ns with
  | nil => cases m
  | cons x r ih =>
    rw [List.nodup_cons] at nd
    rw [List.filter_cons]
    by_cases c : x = a
    · rw [if_neg (by rw [decide_eq_true_eq]; exact fun z => z c)]
      have : r.filter (fun x => decide (x ≠ a)) = r := List.filter_eq_self.mpr fun y hy => decide_eq_true (fun z => nd.1 (by rw [c, ← z]; exact hy))
      rw [this]
      rfl
    · rw [if_pos (decide_eq_true c), List.length_cons, ih nd.2 (by
        rcases List.mem_cons.mp m with z | z
        · exact absurd z.symm c
        · exact z)]
      rfl
theorem house_cons {a : Str} {r : List (Str × Str)} : housesOf ((Str.ofString "house", a) :: r) = a :: housesOf r := by
  unfold housesOf
  rw [List.filter_cons, if_pos (decide_eq_true rfl), List.map_cons]
theorem house_skip {s a : Str} {r : List (Str × Str)} (h : s ≠ Str.ofString "house") : housesOf ((s, a) :: r) = housesOf r := by
  unfold housesOf
  rw [List.filter_cons, if_neg (by rw [decide_eq_true_eq]; exact h)]
theorem house_nil : housesOf [] = [] := rfl
theorem pick_str {ns : List Str} {r : Int} (h0 : 0 ≤ r) (h1 : r < ns.length) : ∃ y ∈ ns, atI (ns.map V.str) r = some (.str y) := by
  obtain ⟨i, rfl⟩ := Int.eq_ofNat_of_zero_le h0
  have hi : i < ns.length := by omega
  refine ⟨ns[i], List.getElem_mem hi, atI_nat ?_⟩
  rw [List.getElem?_map, List.getElem?_eq_getElem hi]
  rfl
/-- the names in xs are of the list ns -/
def FromN (ns : List Str) (xs : List Arg) : Prop := ∀ s, Arg.nm s ∈ xs → s ∈ ns
theorem fnN {ns : List Str} : FromN ns [] := fun _ h => (nomatch h)
theorem fnC {ns : List Str} {a : Str} {xs : List Arg} (h : a ∈ ns) (t : FromN ns xs) : FromN ns (.nm a :: xs) := fun s hs => by
  rcases List.mem_cons.mp hs with e | e
  · rw [Arg.nm.inj e]
    exact h
  · exact t s e
theorem fnT {ns : List Str} {f : Fg} {xs : List Arg} (t : FromN ns xs) : FromN ns (.tx f :: xs) := fun s hs => by
  rcases List.mem_cons.mp hs with e | e
  · cases e
  · exact t s e
theorem fnP {ns : List Str} {n : Int} {xs : List Arg} (t : FromN ns xs) : FromN ns (.pn n :: xs) := fun s hs => by
  rcases List.mem_cons.mp hs with e | e
  · cases e
  · exact t s e
def sp__law_deed (K : PySem.W.Frag) : Sp := fun vs H Q _ => ∃ (b c L : Addr) (n : Int) (ns : List Str) (w : Str), vs = [.ref b, .ref L, .str w] ∧ Left H b c n ∧ n < 999980000 ∧ H L = some (.lst (ns.map V.str)) ∧ L ≠ b ∧ ns.Nodup ∧ 2 ≤ ns.length ∧ ns.length ≤ 26 ∧ (∀ s ∈ ns, nameS s = true) ∧ w ∈ wordsL ∧
  ∀ H' t xs ss, Left H' b c (n + 60) → But b H H' → SqT K H' t (.str w :: xs.map Arg.v) → Deed w xs ss → FromN ns xs → Q (.ref t) H'
theorem ok__law_deed {f : Addr} {fd : FuncData} (F : Fun K "_law_deed" "_law_deed" s__law_deed f fd) (g : mg "_law_deed" = some (.ref f)) (bd : Binds K fd ["_law_left", "_law_names", "_law_word"] []) (m_range : mg "range" = none) (m_len : mg "len" = none) (C__law_pick : CF P w K mg base 2 "_law_pick" ["_law_left", "_law_many"] (sp__law_pick K)) (C__law_text : CF P w K mg base 2 "_law_text" ["_law_some"] (sp__law_text K)) (C__law_some_rule : CF P w K mg base 4 "_law_some_rule" ["_law_left"] (sp__law_some_rule K)) (C__law_pence : CF P w K mg base 3 "_law_pence" ["_law_left", "_law_most"] (sp__law_pence K)) : CF P w K mg base 5 "_law_deed" ["_law_left", "_law_names", "_law_word"] (sp__law_deed K) := by
  refine ⟨f, fd, F.ok sc__law_deed (fun vs H Q E h => ?_) (fun cdv A outer s H vs Q E hr h => ?_), g, F.kp, bd⟩
  · first | (obtain ⟨_, rfl, _⟩ := h; rfl) | (obtain ⟨_, _, rfl, _⟩ := h; rfl) | (obtain ⟨_, _, _, rfl, _⟩ := h; rfl) | (obtain ⟨_, _, _, _, rfl, _⟩ := h; rfl) | (obtain ⟨_, _, _, _, _, rfl, _⟩ := h; rfl) | (obtain ⟨_, _, _, _, _, _, rfl, _⟩ := h; rfl) | (obtain ⟨_, _, _, _, _, _, _, rfl, _⟩ := h; rfl) | (obtain ⟨_, _, _, _, _, _, _, _, rfl, _⟩ := h; rfl) | (obtain ⟨_, _, _, _, _, _, _, _, _, rfl, _⟩ := h; rfl) | (obtain ⟨_, _, _, _, _, _, _, _, _, _, rfl, _⟩ := h; rfl) | (obtain ⟨_, _, _, _, _, _, _, _, _, _, _, rfl, _⟩ := h; rfl) | (obtain ⟨_, _, _, _, _, _, _, _, _, _, _, _, rfl, _⟩ := h; rfl) | (obtain ⟨_, _, _, _, _, _, _, _, _, _, _, _, _, rfl, _⟩ := h; rfl) | (obtain ⟨_, _, _, _, _, _, _, _, _, _, _, _, _, _, rfl, _⟩ := h; rfl) | (obtain ⟨_, _, _, _, _, _, _, _, _, _, _, _, _, _, _, rfl, _⟩ := h; rfl)
  · have hu64 := hr.units
    obtain ⟨b, c, L, n, ns, w9, rfl, hL, hn, hN, Lb, nd, n2, n26, hok, hw, q⟩ := h
    refine ⟨_, (pss_cons (ps_asg (pe_lc (own := [("_law_turn", 6)]) (g := (gName 6)) (tt := tYes) rfl sc__law_deed.nd (pi_range1 (by rfl) m_range (pa_cons pe_int pa_nil)) (blkOk_by (own := [("_law_turn", 6)]) (N := N__law_deed) (sc := defScope s__law_deed) (by decide +kernel)) (fun _ _ _ _ _ => pg_name (i := 6) sc__law_deed.nd rfl (Or.inl rfl)) (fun _ _ _ _ _ => pts_nil) (fun _ _ _ _ _ => (pe_ix (kk_ixl K) (pv 1) (pe_cf C__law_pick (hr.mono (by decide)) (by rfl) (pa_cons (pv 0) (pa_cons (pe_callB (kk_len K) (by rfl) m_len PySem.boot_len (pa_cons (pv 1) pa_nil)) pa_nil))) (fun _ _ => rfl)))) (pg_unl (by rfl) (pgs_cons (pg_name (i := 3) sc__law_deed.nd rfl (.inr rfl)) (pgs_cons (pg_name (i := 4) sc__law_deed.nd rfl (.inl rfl)) (pgs_cons (pg_name (i := 5) sc__law_deed.nd rfl (.inl rfl)) pgs_nil)))))
      (pss_cons (ps_set (i := 7) sc__law_deed.nd rfl (.inl rfl) (pe_ix (kk_ixl K) (pe_lc (own := [("_law_name", 8)]) (g := (gName 8)) rfl sc__law_deed.nd (pi_list (pv 1)) (blkOk_by (own := [("_law_name", 8)]) (N := N__law_deed) (sc := defScope s__law_deed) (by decide +kernel)) (fun _ _ _ _ _ => pg_name (i := 8) sc__law_deed.nd rfl (Or.inl rfl)) (fun _ _ _ _ _ => (pts_one (pt_cmpR op_ne (pv 8) (pv 3) (nomark _)))) (fun _ _ _ _ _ => (pv 8))) (pe_cf C__law_pick (hr.mono (by decide)) (by rfl) (pa_cons (pv 0) (pa_cons (pe_op op_sub (pe_callB (kk_len K) (by rfl) m_len PySem.boot_len (pa_cons (pv 1) pa_nil)) pe_int) pa_nil))) (fun _ _ => rfl)))
      (pss_cons (ps_if (pt_cmpR op_eq (pv 2) pe_str (nomark _))
         (pss_one (ps_ret (pe_tup (pa_cons (pv 2) (pa_cons (pv 3) (pa_cons (pe_cf C__law_text (hr.mono (by decide)) (by rfl) (pa_cons (pe_cf C__law_some_rule (hr.mono (by decide)) (by rfl) (pa_cons (pv 0) pa_nil)) pa_nil)) pa_nil))))))
         pss_nil)
      (pss_cons (ps_if (pt_cmpR op_eq (pv 2) pe_str (nomark _))
         (pss_one (ps_ret (pe_tup (pa_cons (pv 2) (pa_cons (pv 3) (pa_cons (pv 4) (pa_cons (pe_cf C__law_pence (hr.mono (by decide)) (by rfl) (pa_cons (pv 0) (pa_cons (pe_op op_pow pe_int pe_int) pa_nil))) pa_nil)))))))
         pss_nil)
      (pss_cons (ps_if (pt_cmpR (kk_in K) (pv 2) (pe_tup (pa_cons pe_str (pa_cons pe_str (pa_cons pe_str pa_nil)))) (by rfl))
         (pss_one (ps_ret (pe_tup (pa_cons (pv 2) (pa_cons (pv 3) (pa_cons (pv 4) (pa_cons (pv 5) pa_nil)))))))
         pss_nil)
      (pss_cons (ps_if (pt_cmpR (kk_in K) (pv 2) (pe_tup (pa_cons pe_str (pa_cons pe_str pa_nil))) (by rfl))
         (pss_one (ps_ret (pe_tup (pa_cons (pv 2) (pa_cons (pv 3) pa_nil)))))
         pss_nil)
      (pss_cons (ps_if (pt_cmpR op_eq (pv 2) pe_str (nomark _))
         (pss_one (ps_ret (pe_tup (pa_cons (pv 2) (pa_cons (pv 3) (pa_cons (pv 7) (pa_cons (pe_ix (kk_ixl K) (pe_lst (pa_cons (pe_cf C__law_pence (hr.mono (by decide)) (by rfl) (pa_cons (pv 0) (pa_cons (pe_op op_pow pe_int pe_int) pa_nil))) (pa_cons (pe_cf C__law_pence (hr.mono (by decide)) (by rfl) (pa_cons (pv 0) (pa_cons (pe_op op_mul pe_int (pe_op op_pow pe_int pe_int)) pa_nil))) (pa_cons (pe_op op_pow pe_int pe_int) pa_nil)))) (pe_cf C__law_pick (hr.mono (by decide)) (by rfl) (pa_cons (pv 0) (pa_cons pe_int pa_nil))) (fun _ _ => rfl)) pa_nil)))))))
         pss_nil)
      (pss_one (ps_ret (pe_tup (pa_cons (pv 2) (pa_cons (pv 3) (pa_cons (pe_ifExp (pt_cmpR op_eq (pv 2) pe_str (nomark _)) (pv 7) (pv 4)) pa_nil))))))))))))), ?_⟩
    refine ⟨_, rfl, by decide, by decide, fun D nD => lc_range (lo := 0) (n := 3) (fun i G => But b H G ∧ Left G b c (n + i) ∧ ∃ ls : List Str, ls.length = i ∧ (∀ s ∈ ls, s ∈ ns) ∧ G D = some (.lst (ls.map V.str))) ⟨But.new nD, (hL.mono (by omega)).new nD, [], rfl, fun _ h => (nomatch h), upd_same⟩ (fun i G hi h => ?_) (fun G h => ?_)⟩
    · obtain ⟨tG, LG, ls, hls, hlm, hG⟩ := h
      have hNG := tG _ _ Lb hN
      have hDb : D ≠ b := hL.ne nD
      have hDc : D ≠ c := hL.ne2 nD
      refine ⟨rfl, _, rfl, _, rfl, _, rfl, L, _, rfl, .inl (SqL.of hNG), b, c, _, _, rfl, LG, by rw [List.length_map]; omega, by rw [List.length_map]; omega, by omega, fun x G2 x0 x1 L2 t2 => ?_⟩
      obtain ⟨y, hy, hat⟩ := pick_str (ns := ns) x0 (by rw [List.length_map] at x1; exact x1)
      refine ⟨L, _, _, _, rfl, rfl, SqL.of (t2 _ _ Lb hNG), hat, _, t2 _ _ hDb hG, ?_, fun e o ne he => ?_, (L2.mono (by omega)).upd hDb hDc, ls ++ [y], by rw [List.length_append, hls]; rfl, fun z hz => ?_, ?_⟩
      · rw [List.length_map, hls]
        exact small1000 (by omega)
      · rw [upd_ne (ne_of_none he nD)]
        exact t2 _ _ ne (tG _ _ ne he)
      · rcases List.mem_append.mp hz with u | u
        · exact hlm z u
        · rw [List.mem_singleton.mp u]
          exact hy
      · rw [upd_same, List.map_append]
        rfl
    obtain ⟨tG, LG, ls, hls, hlm, hG⟩ := h
    obtain ⟨a1, a2, a3, rfl⟩ : ∃ a1 a2 a3, ls = [a1, a2, a3] := by
      match ls, hls with
      | [a1, a2, a3], _ => exact ⟨a1, a2, a3, rfl⟩
    have m1 := hlm a1 (by simp)
    have m2 := hlm a2 (by simp)
    have m3 := hlm a3 (by simp)
    have hNG := tG _ _ Lb hN
    refine ⟨D, _, rfl, SqL.of hG, rfl, _, _, rfl, _, _, rfl, _, _, rfl, rfl, ?_⟩
    refine ⟨_, rfl, L, rfl, ⟨_, SqL.of hNG⟩, fun D2 nD2 => pass_lc (fun v => match v with | .str z => decide (z ≠ a1) | _ => false) (jok_l (K := K) (SqL.of hNG)) (by rw [List.length_map]; omega) nD2 (fun v hv G2 s2 Y N hY hN2 => ?_) (fun G2 s2 hD2 => ?_)⟩
    · obtain ⟨z, hz, rfl⟩ := List.mem_map.mp hv
      refine ⟨rfl, _, rfl, _, rfl, rfl, _, rfl, ?_⟩
      by_cases e : z = a1
      · rw [decide_eq_true (congrArg V.str e)]
        exact iteF (hN2 (decide_eq_false (fun u => u e)) _ (Same.refl _))
      · rw [decide_eq_false (fun u : V.str z = V.str a1 => e (V.str.inj u))]
        exact iteT ⟨_, rfl, hY (decide_eq_true e) _ (Same.refl _)⟩
    have ef : (ns.map V.str).filter (fun v => match v with | .str z => decide (z ≠ a1) | _ => false) = (ns.filter fun z => decide (z ≠ a1)).map V.str := by
      rw [List.filter_map]
      rfl
    rw [ef] at hD2
    have ol := other_len nd m1
    have hNG2 := s2 _ _ hNG
    have L2 := LG.same s2
    have D2b : D2 ≠ b := LG.ne nD2
    refine ⟨_, rfl, _, rfl, L, _, rfl, .inl (SqL.of hNG2), _, _, rfl, rfl, b, c, _, _, rfl, L2, by rw [List.length_map]; omega, by rw [List.length_map]; omega, by omega, fun x G3 x0 x1 L3 t3 => ?_⟩
    obtain ⟨d, hd, hat⟩ := pick_str (ns := ns.filter fun z => decide (z ≠ a1)) x0 (by rw [List.length_map] at x1; omega)
    obtain ⟨md, hda⟩ := List.mem_filter.mp hd
    have hda := of_decide_eq_true hda
    refine ⟨D2, _, _, _, rfl, rfl, SqL.of (t3 _ _ D2b hD2), hat, ?_⟩
    have tH3 : But b H G3 := fun a o ne e => t3 _ _ ne (s2 _ _ (tG _ _ ne e))
    have o1 := hok a1 m1
    have o2 := hok a2 m2
    have o3 := hok a3 m3
    have od := hok d md
    clear hD2 ef hat x0 x1 L2 hNG2 ol hNG hG hlm LG tG s2 t3
    have fin : ∀ (G : Hp) (T : Addr) (xs : List Arg) (ss : List Str), Left G b c (n + 50) → But b H G → G T = none → Deed w9 xs ss → FromN ns xs → Q (.ref T) (upd G T (.tup (.str w9 :: xs.map Arg.v))) := fun G T xs ss LG tG nT dd fr => by
      refine q _ T xs ss ((LG.new nT).mono (by omega)) (fun a o ne e => same_new nT _ _ (tG _ _ ne e)) (SqT.of upd_same) dd fr
    have L3m := L3.mono (show n + 3 + 1 ≤ n + 10 by omega)
    have hw2 := hw
    unfold wordsL at hw2
    simp only [List.mem_cons, List.not_mem_nil, or_false] at hw2
    have kn : ∀ {s : Str} {x : Str}, nameS x = true → s ∈ namedS → fits s (.nm x) := fun hx hs => ⟨hx, hs⟩
    rcases hw2 with rfl | rfl | rfl | rfl | rfl | rfl | rfl | rfl | rfl | rfl
    · refine ⟨_, rfl, rfl, _, rfl, iteT ⟨_, rfl, _, rfl, _, rfl, b, c, _, rfl, L3, by omega, fun G6 t6 f6 kv6 kd6 L6 B6 D6 => ⟨t6, f6, kv6, kd6, rfl, D6, fun G7 s7 => ⟨by show 3 ≤ sizeLine; decide, fun T nT => ?_⟩⟩⟩⟩
      refine fin G7 T [.nm a1, .tx f6] ["house", "text"] ((L6.same s7).mono (by omega)) (fun a o ne e => s7 _ _ (B6 _ _ ne (tH3 _ _ ne e))) nT ⟨by decide +kernel, rfl, fit2 (kn o1 (by decide +kernel)) ⟨D6.ok, rfl⟩, ?_⟩ (fnC m1 (fnT fnN))
      show (housesOf [(Str.ofString "house", a1)]).Nodup
      rw [house_cons, house_nil]
      simp
    · refine ⟨_, rfl, rfl, _, rfl, iteF ⟨_, rfl, rfl, _, rfl, iteT ⟨_, rfl, _, rfl, _, rfl, _, rfl, _, _, rfl, rfl, ⟨by decide, by decide, by decide⟩, b, c, _, _, rfl, L3, by decide, by decide, by omega, fun G6 r L6 B6 r0 r1 => ⟨by show 4 ≤ sizeLine; decide, fun T nT => ?_⟩⟩⟩⟩
      refine fin G6 T [.nm a1, .nm a2, .pn r] ["house", "kind", "price"] (L6.mono (by omega)) (fun a o ne e => B6 _ _ ne (tH3 _ _ ne e)) nT ⟨by decide +kernel, rfl, fit3 (kn o1 (by decide +kernel)) (kn o2 (by decide +kernel)) ⟨r0, .inl ⟨rfl, r1⟩⟩, ?_⟩ (fnC m1 (fnC m2 (fnP fnN)))
      show (housesOf [(Str.ofString "house", a1), (Str.ofString "kind", a2)]).Nodup
      rw [house_cons, house_skip (by decide +kernel), house_nil]
      simp
    · refine ⟨_, rfl, rfl, _, rfl, iteF ⟨_, rfl, rfl, _, rfl, iteF ⟨_, rfl, by show 3 ≤ sizeLine; decide, fun T0 nT0 => ⟨T0, _, rfl, .inr (SqT.of upd_same), rfl, by decide +kernel, _, rfl, ?_⟩⟩⟩⟩
      rw [if_neg Bool.false_ne_true, show inV (V.str (Str.ofString "ware")) [.str (Str.ofString "ware"), .str (Str.ofString "put"), .str (Str.ofString "leave")] = true by decide +kernel]
      refine iteT ⟨_, rfl, _, rfl, _, rfl, _, rfl, by show 4 ≤ sizeLine; decide, fun T nT => ?_⟩
      refine fin _ T [.nm a1, .nm a2, .nm a3] ["ware", "kind", "house"] ((L3m.new nT0).mono (by omega)) (fun a o ne e => same_new nT0 _ _ (tH3 _ _ ne e)) nT ⟨by decide +kernel, rfl, fit3 (kn o1 (by decide +kernel)) (kn o2 (by decide +kernel)) (kn o3 (by decide +kernel)), ?_⟩ (fnC m1 (fnC m2 (fnC m3 fnN)))
      show (housesOf [(Str.ofString "ware", a1), (Str.ofString "kind", a2), (Str.ofString "house", a3)]).Nodup
      rw [house_skip (by decide +kernel), house_skip (by decide +kernel), house_cons, house_nil]
      simp
    · refine ⟨_, rfl, rfl, _, rfl, iteF ⟨_, rfl, rfl, _, rfl, iteF ⟨_, rfl, by show 3 ≤ sizeLine; decide, fun T0 nT0 => ⟨T0, _, rfl, .inr (SqT.of upd_same), rfl, by decide +kernel, _, rfl, ?_⟩⟩⟩⟩
      rw [if_neg Bool.false_ne_true, show inV (V.str (Str.ofString "put")) [.str (Str.ofString "ware"), .str (Str.ofString "put"), .str (Str.ofString "leave")] = true by decide +kernel]
      refine iteT ⟨_, rfl, _, rfl, _, rfl, _, rfl, by show 4 ≤ sizeLine; decide, fun T nT => ?_⟩
      refine fin _ T [.nm a1, .nm a2, .nm a3] ["house", "kind", "who"] ((L3m.new nT0).mono (by omega)) (fun a o ne e => same_new nT0 _ _ (tH3 _ _ ne e)) nT ⟨by decide +kernel, rfl, fit3 (kn o1 (by decide +kernel)) (kn o2 (by decide +kernel)) (kn o3 (by decide +kernel)), ?_⟩ (fnC m1 (fnC m2 (fnC m3 fnN)))
      show (housesOf [(Str.ofString "house", a1), (Str.ofString "kind", a2), (Str.ofString "who", a3)]).Nodup
      rw [house_cons, house_skip (by decide +kernel), house_skip (by decide +kernel), house_nil]
      simp
    · refine ⟨_, rfl, rfl, _, rfl, iteF ⟨_, rfl, rfl, _, rfl, iteF ⟨_, rfl, by show 3 ≤ sizeLine; decide, fun T0 nT0 => ⟨T0, _, rfl, .inr (SqT.of upd_same), rfl, by decide +kernel, _, rfl, ?_⟩⟩⟩⟩
      rw [if_neg Bool.false_ne_true, show inV (V.str (Str.ofString "pay")) [.str (Str.ofString "ware"), .str (Str.ofString "put"), .str (Str.ofString "leave")] = false by decide +kernel]
      refine iteF ⟨_, rfl, by show 2 ≤ sizeLine; decide, fun T1 nT1 => ⟨T1, _, rfl, .inr (SqT.of upd_same), rfl, by decide +kernel, _, rfl, ?_⟩⟩
      rw [if_neg Bool.false_ne_true, show inV (V.str (Str.ofString "pay")) [.str (Str.ofString "up"), .str (Str.ofString "bring")] = false by decide +kernel]
      refine iteF ⟨_, rfl, rfl, _, rfl, iteF ⟨_, rfl, _, rfl, _, rfl, rfl, _, rfl, iteF ⟨_, rfl, by show 3 ≤ sizeLine; decide, fun T nT => ?_⟩⟩⟩
      refine fin _ T [.nm a1, .nm a2] ["ware", "who"] (((L3m.new nT0).new nT1).mono (by omega)) (fun a o ne e => same_new nT1 _ _ (same_new nT0 _ _ (tH3 _ _ ne e))) nT ⟨by decide +kernel, rfl, fit2 (kn o1 (by decide +kernel)) (kn o2 (by decide +kernel)), ?_⟩ (fnC m1 (fnC m2 fnN))
      show (housesOf [(Str.ofString "ware", a1), (Str.ofString "who", a2)]).Nodup
      rw [house_skip (by decide +kernel), house_skip (by decide +kernel), house_nil]
      simp
    · refine ⟨_, rfl, rfl, _, rfl, iteF ⟨_, rfl, rfl, _, rfl, iteF ⟨_, rfl, by show 3 ≤ sizeLine; decide, fun T0 nT0 => ⟨T0, _, rfl, .inr (SqT.of upd_same), rfl, by decide +kernel, _, rfl, ?_⟩⟩⟩⟩
      rw [if_neg Bool.false_ne_true, show inV (V.str (Str.ofString "up")) [.str (Str.ofString "ware"), .str (Str.ofString "put"), .str (Str.ofString "leave")] = false by decide +kernel]
      refine iteF ⟨_, rfl, by show 2 ≤ sizeLine; decide, fun T1 nT1 => ⟨T1, _, rfl, .inr (SqT.of upd_same), rfl, by decide +kernel, _, rfl, ?_⟩⟩
      rw [if_neg Bool.false_ne_true, show inV (V.str (Str.ofString "up")) [.str (Str.ofString "up"), .str (Str.ofString "bring")] = true by decide +kernel]
      refine iteT ⟨_, rfl, _, rfl, by show 2 ≤ sizeLine; decide, fun T nT => ?_⟩
      refine fin _ T [.nm a1] ["ware"] (((L3m.new nT0).new nT1).mono (by omega)) (fun a o ne e => same_new nT1 _ _ (same_new nT0 _ _ (tH3 _ _ ne e))) nT ⟨by decide +kernel, rfl, fit1 (kn o1 (by decide +kernel)), ?_⟩ (fnC m1 fnN)
      show (housesOf [(Str.ofString "ware", a1)]).Nodup
      rw [house_skip (by decide +kernel), house_nil]
      simp
    · refine ⟨_, rfl, rfl, _, rfl, iteF ⟨_, rfl, rfl, _, rfl, iteF ⟨_, rfl, by show 3 ≤ sizeLine; decide, fun T0 nT0 => ⟨T0, _, rfl, .inr (SqT.of upd_same), rfl, by decide +kernel, _, rfl, ?_⟩⟩⟩⟩
      rw [if_neg Bool.false_ne_true, show inV (V.str (Str.ofString "leave")) [.str (Str.ofString "ware"), .str (Str.ofString "put"), .str (Str.ofString "leave")] = true by decide +kernel]
      refine iteT ⟨_, rfl, _, rfl, _, rfl, _, rfl, by show 4 ≤ sizeLine; decide, fun T nT => ?_⟩
      refine fin _ T [.nm a1, .nm a2, .nm a3] ["house", "kind", "who"] ((L3m.new nT0).mono (by omega)) (fun a o ne e => same_new nT0 _ _ (tH3 _ _ ne e)) nT ⟨by decide +kernel, rfl, fit3 (kn o1 (by decide +kernel)) (kn o2 (by decide +kernel)) (kn o3 (by decide +kernel)), ?_⟩ (fnC m1 (fnC m2 (fnC m3 fnN)))
      show (housesOf [(Str.ofString "house", a1), (Str.ofString "kind", a2), (Str.ofString "who", a3)]).Nodup
      rw [house_cons, house_skip (by decide +kernel), house_skip (by decide +kernel), house_nil]
      simp
    · refine ⟨_, rfl, rfl, _, rfl, iteF ⟨_, rfl, rfl, _, rfl, iteF ⟨_, rfl, by show 3 ≤ sizeLine; decide, fun T0 nT0 => ⟨T0, _, rfl, .inr (SqT.of upd_same), rfl, by decide +kernel, _, rfl, ?_⟩⟩⟩⟩
      rw [if_neg Bool.false_ne_true, show inV (V.str (Str.ofString "bring")) [.str (Str.ofString "ware"), .str (Str.ofString "put"), .str (Str.ofString "leave")] = false by decide +kernel]
      refine iteF ⟨_, rfl, by show 2 ≤ sizeLine; decide, fun T1 nT1 => ⟨T1, _, rfl, .inr (SqT.of upd_same), rfl, by decide +kernel, _, rfl, ?_⟩⟩
      rw [if_neg Bool.false_ne_true, show inV (V.str (Str.ofString "bring")) [.str (Str.ofString "up"), .str (Str.ofString "bring")] = true by decide +kernel]
      refine iteT ⟨_, rfl, _, rfl, by show 2 ≤ sizeLine; decide, fun T nT => ?_⟩
      refine fin _ T [.nm a1] ["ware"] (((L3m.new nT0).new nT1).mono (by omega)) (fun a o ne e => same_new nT1 _ _ (same_new nT0 _ _ (tH3 _ _ ne e))) nT ⟨by decide +kernel, rfl, fit1 (kn o1 (by decide +kernel)), ?_⟩ (fnC m1 fnN)
      show (housesOf [(Str.ofString "ware", a1)]).Nodup
      rw [house_skip (by decide +kernel), house_nil]
      simp
    · refine ⟨_, rfl, rfl, _, rfl, iteF ⟨_, rfl, rfl, _, rfl, iteF ⟨_, rfl, by show 3 ≤ sizeLine; decide, fun T0 nT0 => ⟨T0, _, rfl, .inr (SqT.of upd_same), rfl, by decide +kernel, _, rfl, ?_⟩⟩⟩⟩
      rw [if_neg Bool.false_ne_true, show inV (V.str (Str.ofString "hand")) [.str (Str.ofString "ware"), .str (Str.ofString "put"), .str (Str.ofString "leave")] = false by decide +kernel]
      refine iteF ⟨_, rfl, by show 2 ≤ sizeLine; decide, fun T1 nT1 => ⟨T1, _, rfl, .inr (SqT.of upd_same), rfl, by decide +kernel, _, rfl, ?_⟩⟩
      rw [if_neg Bool.false_ne_true, show inV (V.str (Str.ofString "hand")) [.str (Str.ofString "up"), .str (Str.ofString "bring")] = false by decide +kernel]
      refine iteF ⟨_, rfl, rfl, _, rfl, iteF ⟨_, rfl, _, rfl, _, rfl, rfl, _, rfl, iteT ⟨_, rfl, by show 3 ≤ sizeLine; decide, fun T nT => ?_⟩⟩⟩
      refine fin _ T [.nm a1, .nm d] ["house", "house"] (((L3m.new nT0).new nT1).mono (by omega)) (fun a o ne e => same_new nT1 _ _ (same_new nT0 _ _ (tH3 _ _ ne e))) nT ⟨by decide +kernel, rfl, fit2 (kn o1 (by decide +kernel)) (kn od (by decide +kernel)), ?_⟩ (fnC m1 (fnC md fnN))
      show (housesOf [(Str.ofString "house", a1), (Str.ofString "house", d)]).Nodup
      rw [house_cons, house_cons, house_nil]
      simp only [List.nodup_cons, List.mem_singleton, List.not_mem_nil, not_false_eq_true, List.nodup_nil, and_true]
      exact fun z => hda z.symm
    · refine ⟨_, rfl, rfl, _, rfl, iteF ⟨_, rfl, rfl, _, rfl, iteF ⟨_, rfl, by show 3 ≤ sizeLine; decide, fun T0 nT0 => ⟨T0, _, rfl, .inr (SqT.of upd_same), rfl, by decide +kernel, _, rfl, ?_⟩⟩⟩⟩
      rw [if_neg Bool.false_ne_true, show inV (V.str (Str.ofString "settle")) [.str (Str.ofString "ware"), .str (Str.ofString "put"), .str (Str.ofString "leave")] = false by decide +kernel]
      refine iteF ⟨_, rfl, by show 2 ≤ sizeLine; decide, fun T1 nT1 => ⟨T1, _, rfl, .inr (SqT.of upd_same), rfl, by decide +kernel, _, rfl, ?_⟩⟩
      rw [if_neg Bool.false_ne_true, show inV (V.str (Str.ofString "settle")) [.str (Str.ofString "up"), .str (Str.ofString "bring")] = false by decide +kernel]
      refine iteF ⟨_, rfl, rfl, _, rfl, iteT ⟨_, rfl, _, rfl, _, rfl, _, rfl, _, _, rfl, rfl, ⟨by decide, by decide, by decide⟩, b, c, _, _, rfl, (L3m.new nT0).new nT1, by decide, by decide, by omega, fun G6 r1 L6 B6 r10 r11 => ⟨_, rfl, _, _, rfl, rfl, ⟨by decide, by decide, by decide⟩, _, _, rfl, rfl, .inl ⟨by decide, by decide⟩, b, c, _, _, rfl, L6, by decide, by decide, by omega, fun G7 r2 L7 B7 r20 r21 => ⟨_, _, rfl, rfl, ⟨by decide, by decide, by decide⟩, by show 3 ≤ sizeLine; decide, fun l nl => ⟨_, rfl, b, c, 3, _, rfl, L7.new nl, by decide, by decide, by omega, fun x G8 x0 x1 L8 t8 => ?_⟩⟩⟩⟩⟩
      obtain ⟨v, hv, v0, v1⟩ := pick_in (ns := [r1, r2, 10 ^ (8 : Int).toNat]) (lo := 1) (hi := 100000000) x0 x1 (by
        intro z hz
        simp only [List.mem_cons, List.not_mem_nil, or_false] at hz
        rcases hz with rfl | rfl | rfl
        · exact ⟨r10, Int.le_trans r11 (by decide)⟩
        · exact ⟨r20, Int.le_trans r21 (by decide)⟩
        · decide)
      have lb := L7.ne nl
      refine ⟨l, _, _, _, rfl, rfl, SqL.of (t8 _ _ lb upd_same), hv, by show 4 ≤ sizeLine; decide, fun T nT => ?_⟩
      refine fin _ T [.nm a1, .nm d, .pn v] ["house", "house", "debt"] (L8.mono (by omega)) (fun a o ne e => t8 _ _ ne (same_new nl _ _ (B7 _ _ ne (B6 _ _ ne (same_new nT1 _ _ (same_new nT0 _ _ (tH3 _ _ ne e))))))) nT ⟨by decide +kernel, rfl, fit3 (kn o1 (by decide +kernel)) (kn od (by decide +kernel)) ⟨v0, .inr ⟨rfl, v1⟩⟩, ?_⟩ (fnC m1 (fnC md (fnP fnN)))
      show (housesOf [(Str.ofString "house", a1), (Str.ofString "house", d)]).Nodup
      rw [house_cons, house_cons, house_nil]
      simp only [List.nodup_cons, List.mem_singleton, List.not_mem_nil, not_false_eq_true, List.nodup_nil, and_true]
      exact fun z => hda z.symm
/-! ### what deeds are shown as is short -/
def Sml (s : Str) : Prop := ∀ c ∈ TL.tl s, c < 16 ^ 8
theorem sml_app {s t : Str} (h1 : Sml s) (h2 : Sml t) : Sml (s ++ t) := fun c hc => by
  rw [TL.tl_append] at hc
  rcases List.mem_append.mp hc with z | z
  · exact h1 c z
  · exact h2 c z
theorem sml_join {sep : Str} (h : Sml sep) : ∀ {l : List Str}, (∀ s ∈ l, Sml s) → Sml (Txt.join sep l)
  | [], _ => fun c hc => by
    rw [TL.join_eq] at hc
    cases hc
  | [s], hs => by
    rw [TL.join_eq]
    exact hs s List.mem_cons_self
  | s :: t :: r, hs => by
    have ih := sml_join h (l := t :: r) fun x hx => hs x (List.mem_cons_of_mem _ hx)
    rw [TL.join_eq] at ih ⊢
    exact sml_app (sml_app (hs s List.mem_cons_self) h) ih
theorem sml_nums : ∀ n : Fin 101, ∀ c ∈ TL.tl (tn ((n : Nat) : Int)), c < 128 := by decide +kernel
theorem sml_tn {n : Int} (h : 0 ≤ n ∧ n ≤ 100) : Sml (Str.ofString (toString n)) := fun c hc => by
  obtain ⟨i, rfl⟩ := Int.eq_ofNat_of_zero_le h.1
  have := sml_nums ⟨i, by omega⟩ c hc
  exact Nat.lt_trans this (by decide)
theorem sml_lit (s : Str) (h : (TL.tl s).all (fun c => decide (c < 128)) = true) : Sml s := fun c hc => Nat.lt_trans (of_decide_eq_true (List.all_eq_true.mp h c hc)) (by decide)
theorem sml_cnt {w : Str} {n : Int} (hw : Sml w) (h : 0 ≤ n ∧ n ≤ 100) : Sml (cntT w n) := by
  unfold cntT
  split
  · exact sml_lit _ (by decide +kernel)
  · exact sml_app (sml_app hw (sml_lit _ (by decide +kernel))) (sml_tn h)
theorem sml_kept {ks : List Int} (h : ∀ k ∈ ks, 0 ≤ k ∧ k ≤ 100) : Sml (keptT ks) := by
  unfold keptT
  split
  · refine sml_cnt (sml_lit _ (by decide +kernel)) ?_
    cases ks with
    | nil => decide
    | cons k r => exact h k List.mem_cons_self
  · refine sml_app (sml_lit _ (by decide +kernel)) (sml_join (sml_lit _ (by decide +kernel)) fun s hs => ?_)
    obtain ⟨k, hk, rfl⟩ := List.mem_map.mp hs
    exact sml_tn (h k hk)
theorem sml_txt {f : Fg} (ok : f.Ok) : Sml (txtT f) := by
  obtain ⟨p0, p1, s0, s1, g0, g1, m0, m1, fi0, fi1, fa0, fa1, ba0, ba1⟩ := ok.figs
  refine sml_join (sml_lit _ (by decide +kernel)) fun s hs => ?_
  have hs := (List.mem_filter.mp hs).1
  unfold allT at hs
  simp only [List.mem_cons, List.not_mem_nil, or_false] at hs
  rcases hs with rfl | rfl | rfl | rfl | rfl | rfl | rfl | rfl
  · unfold partT
    exact sml_app (sml_app (sml_app (sml_tn ⟨by omega, by omega⟩) (sml_lit _ (by decide +kernel))) (sml_tn ⟨by omega, by omega⟩)) (sml_lit _ (by decide +kernel))
  · exact sml_cnt (sml_lit _ (by decide +kernel)) ⟨by omega, by omega⟩
  · split
    · exact sml_lit _ (by decide +kernel)
    · exact sml_lit _ (by decide +kernel)
  · exact sml_cnt (sml_lit _ (by decide +kernel)) ⟨by omega, by omega⟩
  · exact sml_kept ok.bnd
  · exact sml_cnt (sml_lit _ (by decide +kernel)) ⟨by omega, by omega⟩
  · exact sml_cnt (sml_lit _ (by decide +kernel)) ⟨by omega, by omega⟩
  · exact sml_cnt (sml_lit _ (by decide +kernel)) ⟨by omega, by omega⟩
theorem sml_name {s : Str} (h : nameS s = true) : Sml s := fun c hc => by
  unfold nameS at h
  rw [Bool.and_eq_true] at h
  have h2 := h.2
  unfold madeOf at h2
  rw [Bool.and_eq_true, List.all_eq_true] at h2
  have := (letters_in c).mp (of_decide_eq_true (h2.2 c hc))
  exact Nat.lt_of_le_of_lt this.2 (by decide)
theorem sm_str {s : Str} (h : Sml s) (l : s.length ≤ 200) : Sm 1 2002 (.str s) := by
  refine ⟨by simp [PyData.showable], rfl, by simp [PyData.depth], ?_⟩
  rw [PyData.shown_str]
  have := PySem.StrLaws.reprText_len s h
  omega
theorem sm_many {k B N : Nat} {l : List PyData} (h : ∀ d ∈ l, Sm k B d) (hl : l.length ≤ N) : Sm (k + 1) (B * N + 2 * N + 3) (.list l) ∧ Sm (k + 1) (B * N + 2 * N + 3) (.tuple l) := by
  obtain ⟨a, b, c⟩ := all_seen (k := k) fun d hd => ⟨(h d hd).sh, (h d hd).di, (h d hd).de⟩
  obtain ⟨u, v⟩ := all_len (B := B) fun d hd => (h d hd).le
  have w := join_len ", " (PyData.shownAll l)
  have e3 : (Str.ofString ", ").length = 2 := rfl
  rw [v, e3] at w
  have e1 : (Str.ofString "[").length = 1 := rfl
  have e2 : (Str.ofString "]").length = 1 := rfl
  have u2 : B * l.length ≤ B * N := Nat.mul_le_mul_left B hl
  refine ⟨⟨by simp [PyData.showable, a], by simp [PyData.hasDict, b], by simp only [PyData.depth]; omega, ?_⟩, ⟨by simp [PyData.showable, a], by simp [PyData.hasDict, b], by simp only [PyData.depth]; omega, ?_⟩⟩
  · rw [PyData.shown_list, len_app, len_app, e1, e2]
    omega
  · have e4 : (Str.ofString (if (l.length == 1) = true then ",)" else ")")).length ≤ 2 := by split <;> decide +kernel
    have e5 : (Str.ofString "(").length = 1 := rfl
    rw [PyData.shown_tuple, len_app, len_app, e5]
    omega
theorem word_sml : ∀ p ∈ tab_FORMS, (TL.tl p.1).all (fun c => decide (c < 128)) = true ∧ p.1.length ≤ 6 := by decide +kernel
theorem arg_sm {s : Str} {x : Arg} (h : fits s x) : Sm 1 2002 x.d := by
  cases x with
  | nm y =>
    have := name_len h.1
    exact sm_str (sml_name h.1) (by omega)
  | tx f => exact sm_str (sml_txt h.1) (by have := txt_200 h.1; omega)
  | pn n =>
    obtain ⟨h1, h2⟩ := h
    have : n ≤ 100000000 := by omega
    refine ⟨?_, rfl, by simp [Arg.d, PyData.depth], ?_⟩
    · have : n.natAbs.log2 < 1920 := by
        have : n.natAbs.log2 < 30 := (Nat.log2_lt (by omega)).mpr (by show n.natAbs < 1073741824; omega)
        omega
      simp [Arg.d, PyData.showable, this]
    · have e1 : PyData.shown (.int n) = Str.ofString (toString n) := by simp only [PyData.shown]
      show (PyData.shown (.int n)).length ≤ 2002
      rw [e1]
      exact Nat.le_trans (PyProof.Rows.toString_length_le (v := n) (by omega) (k := 10) (by decide) (by show n < 10000000000; omega)) (by decide)
theorem deed_sm {w : Str} {xs : List Arg} {ss : List Str} (dd : Deed w xs ss) : Sm 2 9000 (deedD w xs) := by
  have l3 : ss.length ≤ 3 := (shape_ss _ (look_mem dd.look)).1
  obtain ⟨w1, w2⟩ := word_sml _ (look_mem dd.look)
  have hl := dd.len
  refine (sm_many (k := 1) (B := 2002) (N := 4) (fun d hd => ?_) (by rw [List.length_cons, List.length_map]; omega)).2.mono (Nat.le_refl _) (by decide)
  rcases List.mem_cons.mp hd with z | z
  · rw [z]
    exact sm_str (sml_lit _ w1) (Nat.le_trans w2 (by decide))
  · obtain ⟨x, hx, rfl⟩ := List.mem_map.mp z
    obtain ⟨i, hi, e⟩ := List.mem_iff_getElem.mp hx
    have h1 : xs[i]? = some x := by rw [List.getElem?_eq_getElem hi, e]
    have h2 : ss[i]? = some ss[i] := List.getElem?_eq_getElem (by omega)
    exact arg_sm (dd.fit i x _ h1 h2)
def pairD (p : Str × Str) : PyData := .tuple [.str p.1, .str p.2]
theorem pairs_dp {K : PySem.W.Frag} {H : Hp} : ∀ {S : List (Addr × (Str × Str))}, RowsAt pairS H S → DpAll K H (refs S) ((S.map (·.2)).map pairD)
  | [], _ => .nil
  | q :: r, h => .cons (.tup (SqT.of (h q List.mem_cons_self)) (.cons (.str _) (.cons (.str _) .nil))) (pairs_dp (S := r) fun x hx => h x (List.mem_cons_of_mem _ hx))
theorem sort_sml : ∀ p ∈ tab_FORMS, ∀ s ∈ p.2, (TL.tl s).all (fun c => decide (c < 128)) = true ∧ s.length ≤ 6 := by decide +kernel
theorem pairs_thin : ∀ ps : List (Str × Str), PyData.depthAll (ps.map pairD) ≤ 2 ∧ thinAll (ps.map pairD) = true
  | [] => ⟨by simp [PyData.depthAll], rfl⟩
  | p :: r => by
    obtain ⟨a, b⟩ := pairs_thin r
    rw [List.map_cons]
    refine ⟨?_, ?_⟩
    · simp only [pairD, PyData.depthAll, PyData.depth]
      omega
    · simp only [pairD, thinAll, thin, b, Bool.and_true]
      exact decide_eq_true (by show 2 ≤ 1000; decide)
/-! ### _law_due -/
abbrev s__law_due : Stmt := topS 51
abbrev N__law_due : List Str := ["_law_deed_here", "_law_sorts"]
theorem sc__law_due : FnScope N__law_due ["_law_deed_here"] (defScope s__law_due) := ⟨rfl, rfl, rfl, by decide +kernel, rfl, by decide +kernel, by decide +kernel⟩
def tab_due : List (Str × Str) := [("house", "house"), ("price", "house kind"), ("ware", "ware kind house"), ("put", "house kind who"), ("pay", "ware who"), ("up", "ware"), ("leave", "house kind who"), ("bring", "ware"), ("hand", "house house"), ("settle", "house house")]
def dueD : List (Key × V) := tab_due.map fun p => (.inr p.1, .str p.2)
theorem due_at : ∀ p ∈ tab_FORMS, ∃ t us rest, valV dueD (.inr p.1) = some (.str t) ∧ t.length ≤ 100 ∧ Txt.split t (Str.ofString " ") = us ∧ p.2 = us ++ rest ∧ (∀ s ∈ us, s ∈ namedS) ∧ ∀ s ∈ rest, s ∉ namedS := by
  intro p hp
  simp only [tab_FORMS, List.mem_cons, List.not_mem_nil, or_false] at hp
  rcases hp with rfl | rfl | rfl | rfl | rfl | rfl | rfl | rfl | rfl | rfl
  · exact ⟨"house", ["house"], ["text"], by decide +kernel, by decide +kernel, by decide +kernel, rfl, by decide +kernel, by decide +kernel⟩
  · exact ⟨"house kind", ["house", "kind"], ["price"], by decide +kernel, by decide +kernel, by decide +kernel, rfl, by decide +kernel, by decide +kernel⟩
  · exact ⟨"ware kind house", ["ware", "kind", "house"], [], by decide +kernel, by decide +kernel, by decide +kernel, rfl, by decide +kernel, by decide +kernel⟩
  · exact ⟨"house kind who", ["house", "kind", "who"], [], by decide +kernel, by decide +kernel, by decide +kernel, rfl, by decide +kernel, by decide +kernel⟩
  · exact ⟨"ware who", ["ware", "who"], [], by decide +kernel, by decide +kernel, by decide +kernel, rfl, by decide +kernel, by decide +kernel⟩
  · exact ⟨"ware", ["ware"], [], by decide +kernel, by decide +kernel, by decide +kernel, rfl, by decide +kernel, by decide +kernel⟩
  · exact ⟨"house kind who", ["house", "kind", "who"], [], by decide +kernel, by decide +kernel, by decide +kernel, rfl, by decide +kernel, by decide +kernel⟩
  · exact ⟨"ware", ["ware"], [], by decide +kernel, by decide +kernel, by decide +kernel, rfl, by decide +kernel, by decide +kernel⟩
  · exact ⟨"house house", ["house", "house"], [], by decide +kernel, by decide +kernel, by decide +kernel, rfl, by decide +kernel, by decide +kernel⟩
  · exact ⟨"house house", ["house", "house"], ["debt"], by decide +kernel, by decide +kernel, by decide +kernel, rfl, by decide +kernel, by decide +kernel⟩
theorem names_none : ∀ {rest : List Str} {xs : List Arg}, (∀ (i : Nat) (x : Arg) (s : Str), xs[i]? = some x → rest[i]? = some s → fits s x) → (∀ s ∈ rest, s ∉ namedS) → namesOf rest xs = []
  | [], xs, _, _ => by cases xs <;> rfl
  | s :: rest, [], _, _ => rfl
  | s :: rest, x :: xs, fit, no => by
    have ih := names_none (rest := rest) (xs := xs) (fun i x s h1 h2 => fit (i + 1) x s h1 h2) fun s hs => no s (List.mem_cons_of_mem _ hs)
    have f0 := fit 0 x s rfl rfl
    cases x with
    | nm y => exact absurd f0.2 (no s List.mem_cons_self)
    | tx f => exact ih
    | pn n => exact ih
theorem fits_nm {s : Str} {x : Arg} (h : fits s x) (hs : s ∈ namedS) : ∃ y, x = .nm y := by
  cases x with
  | nm y => exact ⟨y, rfl⟩
  | tx f =>
    rw [h.2] at hs
    exact absurd hs (by decide +kernel)
  | pn n =>
    rcases h.2 with ⟨e, _⟩ | ⟨e, _⟩ <;> (rw [e] at hs; exact absurd hs (by decide +kernel))
theorem names_at : ∀ {us rest : List Str} {xs : List Arg}, xs.length = (us ++ rest).length → (∀ (i : Nat) (x : Arg) (s : Str), xs[i]? = some x → (us ++ rest)[i]? = some s → fits s x) → (∀ s ∈ us, s ∈ namedS) → (∀ s ∈ rest, s ∉ namedS) →
    (namesOf (us ++ rest) xs).length = us.length ∧ ∀ (i : Nat) (s n : Str), (namesOf (us ++ rest) xs)[i]? = some (s, n) → us[i]? = some s ∧ xs[i]? = some (.nm n)
  | [], rest, xs, _, fit, _, no => by
    rw [show namesOf ([] ++ rest) xs = [] from names_none fit no]
    exact ⟨rfl, fun i s n h => nomatch h⟩
  | u :: us, rest, [], hl, _, _, _ => by cases hl
  | u :: us, rest, x :: xs, hl, fit, yes, no => by
    obtain ⟨ih1, ih2⟩ := names_at (us := us) (rest := rest) (xs := xs) (Nat.succ.inj hl) (fun i x s h1 h2 => fit (i + 1) x s h1 h2) (fun s hs => yes s (List.mem_cons_of_mem _ hs)) no
    obtain ⟨y, rfl⟩ := fits_nm (fit 0 x u rfl rfl) (yes u List.mem_cons_self)
    show ((u, y) :: namesOf (us ++ rest) xs).length = _ ∧ _
    refine ⟨by rw [List.length_cons, List.length_cons, ih1], fun i s n h => ?_⟩
    cases i with
    | zero =>
      have h : (some (u, y) : Option (Str × Str)) = some (s, n) := h
      cases h
      exact ⟨rfl, rfl⟩
    | succ i => exact ih2 i s n h
def sp__law_due (K : PySem.W.Frag) : Sp := fun vs H Q _ => ∃ (t : Addr) (w : Str) (xs : List Arg) (ss : List Str), vs = [.ref t] ∧ SqT K H t (.str w :: xs.map Arg.v) ∧ Deed w xs ss ∧
  ∀ H' L (S : List (Addr × (Str × Str))), Same H H' → H L = none → H' L = some (.lst (refs S)) → RowsAt pairS H' S → S.map (·.2) = namesOf ss xs → Q (.ref L) H'
theorem ok__law_due {f : Addr} {fd : FuncData} (F : Fun K "_law_due" "_law_due" s__law_due f fd) (g : mg "_law_due" = some (.ref f)) (bd : Binds K fd ["_law_deed_here"] []) (m_list : mg "list" = none) (m_zip : mg "zip" = none) : CF P w K mg base 1 "_law_due" ["_law_deed_here"] (sp__law_due K) := by
  refine ⟨f, fd, F.ok sc__law_due (fun vs H Q E h => ?_) (fun cdv A outer s H vs Q E hr h => ?_), g, F.kp, bd⟩
  · first | (obtain ⟨_, rfl, _⟩ := h; rfl) | (obtain ⟨_, _, rfl, _⟩ := h; rfl) | (obtain ⟨_, _, _, rfl, _⟩ := h; rfl) | (obtain ⟨_, _, _, _, rfl, _⟩ := h; rfl) | (obtain ⟨_, _, _, _, _, rfl, _⟩ := h; rfl) | (obtain ⟨_, _, _, _, _, _, rfl, _⟩ := h; rfl) | (obtain ⟨_, _, _, _, _, _, _, rfl, _⟩ := h; rfl) | (obtain ⟨_, _, _, _, _, _, _, _, rfl, _⟩ := h; rfl) | (obtain ⟨_, _, _, _, _, _, _, _, _, rfl, _⟩ := h; rfl) | (obtain ⟨_, _, _, _, _, _, _, _, _, _, rfl, _⟩ := h; rfl) | (obtain ⟨_, _, _, _, _, _, _, _, _, _, _, rfl, _⟩ := h; rfl) | (obtain ⟨_, _, _, _, _, _, _, _, _, _, _, _, rfl, _⟩ := h; rfl) | (obtain ⟨_, _, _, _, _, _, _, _, _, _, _, _, _, rfl, _⟩ := h; rfl) | (obtain ⟨_, _, _, _, _, _, _, _, _, _, _, _, _, _, rfl, _⟩ := h; rfl) | (obtain ⟨_, _, _, _, _, _, _, _, _, _, _, _, _, _, _, rfl, _⟩ := h; rfl)
  · have hu64 := hr.units
    have hu1 := hu1_of hu64
    obtain ⟨t, w9, xs, ss, rfl, hT, dd, q⟩ := h
    refine ⟨_, (pss_cons (ps_set (i := 1) sc__law_due.nd rfl (.inl rfl) (pe_disp (pps_cons pe_str pe_str (pps_cons pe_str pe_str (pps_cons pe_str pe_str (pps_cons pe_str pe_str pps_nil)))) (by rfl) (by rfl) (by simp) (by decide)))
      (pss_cons (ps_expr (pe_bm PySem.F.plainAttrs_dict PySem.F.slot_dict_update PySem.F.type_dict_update mt_update (pv 1) (pa_cons (pe_disp (pps_cons pe_str pe_str (pps_cons pe_str pe_str (pps_cons pe_str pe_str (pps_cons pe_str pe_str pps_nil)))) (by rfl) (by rfl) (by simp) (by decide)) pa_nil)))
      (pss_cons (ps_expr (pe_bm PySem.F.plainAttrs_dict PySem.F.slot_dict_update PySem.F.type_dict_update mt_update (pv 1) (pa_cons (pe_disp (pps_cons pe_str pe_str (pps_cons pe_str pe_str pps_nil)) (by rfl) (by rfl) (by simp) (by decide)) pa_nil)))
      (pss_one (ps_ret (LZ.pe_listZip (by rfl) m_list (by rfl) m_zip (pa_cons (pe_split (pe_dget hu1 (pv 1) (pe_ix (kk_ixt K) (pv 0) pe_int (fun _ _ => rfl)) (fun _ _ => rfl)) pe_str) (pa_cons (pe_slice (kk_slt K) (pv 0) (po_some pe_int) po_none) pa_nil)))))))), ?_⟩
    obtain ⟨tx, us, rest, e1, e2, e3, e4, e5, e6⟩ := due_at _ (look_mem dd.look)
    have e4 : ss = us ++ rest := e4
    refine fun a na => ⟨upd_same, [(.inr "house", .str "house"), (.inr "price", .str "house kind"), (.inr "ware", .str "ware kind house"), (.inr "put", .str "house kind who")], rfl, by decide, ?_⟩
    refine ⟨_, rfl, .inr (.inr (.inl ⟨rfl, .inl ⟨_, upd_same⟩⟩)), fun b nb => ⟨upd_same, [(.inr "pay", .str "ware who"), (.inr "up", .str "ware"), (.inr "leave", .str "house kind who"), (.inr "bring", .str "ware")], rfl, by decide, ?_⟩⟩
    have ab : a ≠ b := ne_of_none upd_same nb
    refine ⟨a, b, (mergeK [] [(.inr "house", .str "house"), (.inr "price", .str "house kind"), (.inr "ware", .str "ware kind house"), (.inr "put", .str "house kind who")]), _, rfl, rfl, ab, by rw [upd_ne ab, upd_ne ab, upd_same], upd_same, by decide, ?_⟩
    refine ⟨_, rfl, .inr (.inr (.inl ⟨rfl, .inl ⟨_, upd_same⟩⟩)), fun c nc => ⟨upd_same, [(.inr "hand", .str "house house"), (.inr "settle", .str "house house")], rfl, by decide, ?_⟩⟩
    have ac : a ≠ c := ne_of_none upd_same nc
    refine ⟨a, c, (mergeK (mergeK [] [(.inr "house", .str "house"), (.inr "price", .str "house kind"), (.inr "ware", .str "ware kind house"), (.inr "put", .str "house kind who")]) (mergeK [] [(.inr "pay", .str "ware who"), (.inr "up", .str "ware"), (.inr "leave", .str "house kind who"), (.inr "bring", .str "ware")])), _, rfl, rfl, ac, by rw [upd_ne ac, upd_ne ac, upd_same], upd_same, by decide, ?_⟩
    generalize hG : upd (upd (upd _ c _) c _) a _ = G
    have sG : Same H G := by
      rw [← hG]
      have s1 := same_new (o := .dK []) na
      have s2 : Same H (upd (upd H a (.dK [])) a (HO.dK (mergeK [] [(.inr "house", .str "house"), (.inr "price", .str "house kind"), (.inr "ware", .str "ware kind house"), (.inr "put", .str "house kind who")]))) := fun x o e => by
        rw [upd_ne (ne_of_none e na)]
        exact s1 x o e
      intro x o e
      have xa : x ≠ a := ne_of_none e na
      have xb : x ≠ b := ne_of_none (s2 x o e) nb
      have xc : x ≠ c := by
        refine ne_of_none (o := o) ?_ nc
        rw [upd_ne xa, upd_ne xb, upd_ne xb]
        exact s2 x o e
      rw [upd_ne xa, upd_ne xc, upd_ne xc, upd_ne xa, upd_ne xb, upd_ne xb]
      exact s2 x o e
    have aG : G a = some (.dK dueD) := by
      rw [← hG, upd_same]
      rfl
    have tG := seqT_same sG hT
    refine ⟨_, rfl, _, rfl, t, _, _, _, rfl, rfl, tG, at0, a, _, rfl, by have := DGet.k (k := Sum.inr w9) aG; rw [e1] at this; exact this, ⟨_, rfl⟩, _, _, rfl, rfl, rfl, by have : 1000 ≤ sizeLine := by decide
                                                                                                                                                                             omega, fun L1 nL1 => ?_⟩
    refine ⟨_, rfl, _, rfl, t, _, rfl, seqT_same (same_new nL1) tG, ?_, fun u nu => ?_⟩
    · rintro ⟨z, _⟩
      have e1 : HT.sIx (V.str w9 :: xs.map Arg.v).length 0 (some 1) = 1 := by
        show min 1 ((xs.map Arg.v).length + 1) = 1
        omega
      rw [e1] at z
      cases z
    rw [cut_one]
    have hl := dd.len
    obtain ⟨n1, n2⟩ := names_at (us := us) (rest := rest) (xs := xs) (by rw [← e4]; exact hl) (by rw [← e4]; exact dd.fit) e5 e6
    rw [← e4] at n1 n2
    refine ⟨L1, u, us.map V.str, xs.map Arg.v, rfl, .inl (SqL.of ((same_new nu) _ _ (by rw [upd_same, e3]))), .inr (SqT.of upd_same), ?_, fun H' p ts Z => ?_⟩
    · rw [List.length_map, List.length_map, hl, e4, List.length_append]
      omega
    · obtain ⟨z1, z2, z3, z4, z5, z6, z7, z8⟩ := Z
      have s2 : Same H H' := (((sG.trans (same_new nL1)).trans (same_new nu))).trans z1
      have lts : ts.length = (namesOf ss xs).length := by rw [z7, List.length_map, n1]
      refine q H' p (ts.zip (namesOf ss xs)) s2 (none_of (((sG.trans (same_new nL1)).trans (same_new nu))) z2) ?_ (fun x hx => ?_) (List.map_snd_zip (by omega))
      · rw [z6, show refs (ts.zip (namesOf ss xs)) = ((ts.zip (namesOf ss xs)).map Prod.fst).map V.ref from by rw [List.map_map]; rfl, List.map_fst_zip (by omega)]
      · obtain ⟨i, hi⟩ := List.mem_iff_getElem?.mp hx
        obtain ⟨f1, f2⟩ := List.getElem?_zip_eq_some.mp hi
        obtain ⟨g1, g2⟩ := n2 i x.2.1 x.2.2 f2
        exact z8 i x.1 (.str x.2.1) (.str x.2.2) f1 (by rw [List.getElem?_map, g1]; rfl) (by rw [List.getElem?_map, g2]; rfl)
/-! ### law -/
abbrev s_law : Stmt := topS 52
abbrev N_law : List Str := ["_law_script", "_law_k", "_law_left", "_law_names", "_law_word", "_law_deed_here", "_law_kept", "_law_turn", "_law_found"]
theorem sc_law : FnScope N_law ["_law_script"] (defScope s_law) := ⟨rfl, rfl, rfl, by decide +kernel, rfl, by decide +kernel, by decide +kernel⟩
def sp_law (K : PySem.W.Frag) : Sp := fun vs H Q _ => ∃ (a : Addr) (ns : List Int), vs = [.ref a] ∧ SqL K H a (ns.map V.int) ∧ ns.length ≤ 63 ∧ ∀ H', Q (.bl true) H'
theorem ok_law {f : Addr} {fd : FuncData} (F : Fun K "law" "law" s_law f fd) {CR : Addr} (TQ : TEq K mg CR "Rule") (T_Rule : TRule K mg CR) (m_range : mg "range" = none) (m_min : mg "min" = none) (m_len : mg "len" = none) (m_repr : mg "repr" = none) (C__law_drawn_from : CF P w K mg base 1 "_law_drawn_from" ["_law_script", "_law_k"] (sp__law_drawn_from K)) (C__law_some_names : CF P w K mg base 3 "_law_some_names" ["_law_left", "_law_many"] (sp__law_some_names K)) (C__law_shuffled : CF P w K mg base 3 "_law_shuffled" ["_law_left", "_law_things"] (sp__law_shuffled K)) (C__law_words : CF P w K mg base 1 "_law_words" [] (sp__law_words K)) (C__law_deed : CF P w K mg base 5 "_law_deed" ["_law_left", "_law_names", "_law_word"] (sp__law_deed K)) (C_is_deed : CF P w K mg base 11 "is_deed" ["thing"] (sp_is_deed K CR)) (C_names_in : CF P w K mg base 1 "names_in" ["deed"] (sp_names_in K)) (C__law_same : CF P w K mg base 6 "_law_same" ["_law_found", "_law_due_here"] (sp__law_same K)) (C__law_due : CF P w K mg base 1 "_law_due" ["_law_deed_here"] (sp__law_due K)) : FnG P w K mg base 12 f fd ["_law_script"] (sp_law K) := by
  refine okG F sc_law (fun vs H Q E h => ?_) (fun cdv A outer s H vs Q E hr gd h => ?_)
  · first | (obtain ⟨_, rfl, _⟩ := h; rfl) | (obtain ⟨_, _, rfl, _⟩ := h; rfl) | (obtain ⟨_, _, _, rfl, _⟩ := h; rfl) | (obtain ⟨_, _, _, _, rfl, _⟩ := h; rfl) | (obtain ⟨_, _, _, _, _, rfl, _⟩ := h; rfl) | (obtain ⟨_, _, _, _, _, _, rfl, _⟩ := h; rfl) | (obtain ⟨_, _, _, _, _, _, _, rfl, _⟩ := h; rfl) | (obtain ⟨_, _, _, _, _, _, _, _, rfl, _⟩ := h; rfl) | (obtain ⟨_, _, _, _, _, _, _, _, _, rfl, _⟩ := h; rfl) | (obtain ⟨_, _, _, _, _, _, _, _, _, _, rfl, _⟩ := h; rfl) | (obtain ⟨_, _, _, _, _, _, _, _, _, _, _, rfl, _⟩ := h; rfl) | (obtain ⟨_, _, _, _, _, _, _, _, _, _, _, _, rfl, _⟩ := h; rfl) | (obtain ⟨_, _, _, _, _, _, _, _, _, _, _, _, _, rfl, _⟩ := h; rfl) | (obtain ⟨_, _, _, _, _, _, _, _, _, _, _, _, _, _, rfl, _⟩ := h; rfl) | (obtain ⟨_, _, _, _, _, _, _, _, _, _, _, _, _, _, _, rfl, _⟩ := h; rfl)
  · have hu64 := hr.units
    obtain ⟨a, ns, rfl, hS, hlen, q⟩ := h
    refine ⟨_, (pss_cons (ps_for PassesOwn.never rfl (pi_range1 (by rfl) m_range (pa_cons (pe_op op_add pe_int (pe_callB (call_min2 rfl) (by rfl) m_min (by decide +kernel) (pa_cons pe_int (pa_cons (pe_callB (kk_len K) (by rfl) m_len PySem.boot_len (pa_cons (pv 0) pa_nil)) pa_nil)))) pa_nil)) (pg_name (i := 1) sc_law.nd rfl (.inl rfl))
         (pss_cons (ps_set (i := 2) sc_law.nd rfl (.inl rfl) (pe_cf C__law_drawn_from (hr.mono (by decide)) (by rfl) (pa_cons (pv 0) (pa_cons (pv 1) pa_nil))))
          (pss_cons (ps_set (i := 3) sc_law.nd rfl (.inl rfl) (pe_cf C__law_some_names (hr.mono (by decide)) (by rfl) (pa_cons (pv 2) (pa_cons pe_int pa_nil))))
          (pss_one (ps_for PassesOwn.never rfl (pi_list (pe_cf C__law_shuffled (hr.mono (by decide)) (by rfl) (pa_cons (pv 2) (pa_cons (pe_cf0 C__law_words (hr.mono (by decide)) (by rfl)) pa_nil)))) (pg_name (i := 4) sc_law.nd rfl (.inl rfl))
             (pss_cons (ps_set (i := 5) sc_law.nd rfl (.inl rfl) (pe_cf C__law_deed (hr.mono (by decide)) (by rfl) (pa_cons (pv 2) (pa_cons (pv 3) (pa_cons (pv 4) pa_nil)))))
              (pss_cons (ps_set (i := 6) sc_law.nd rfl (.inl rfl) (pe_callB (kk_repr K gd hu64) (by rfl) m_repr (by decide +kernel) (pa_cons (pv 5) pa_nil)))
              (pss_cons (ps_if (pt_cmpR op_notBl (pe_cf C_is_deed (hr.mono (by decide)) (by rfl) (pa_cons (pv 5) pa_nil)) pe_bl (nomark _))
                 (pss_one (ps_ret pe_bl))
                 pss_nil)
              (pss_one (ps_for PassesOwn.never rfl (pi_range1 (by rfl) m_range (pa_cons pe_int pa_nil)) (pg_name (i := 7) sc_law.nd rfl (.inl rfl))
                 (pss_cons (ps_set (i := 8) sc_law.nd rfl (.inl rfl) (pe_cf C_names_in (hr.mono (by decide)) (by rfl) (pa_cons (pv 5) pa_nil)))
                  (pss_cons (ps_if (PW.pt (pw_or (pt_not (pt_val (pe_cf C__law_same (hr.mono (by decide)) (by rfl) (pa_cons (pv 8) (pa_cons (pe_cf C__law_due (hr.mono (by decide)) (by rfl) (pa_cons (pv 5) pa_nil)) pa_nil))))) (pw_or1 (pt_cmpR op_ne (pe_callB (kk_repr K gd hu64) (by rfl) m_repr (by decide +kernel) (pa_cons (pv 5) pa_nil)) (pv 6) (nomark _)))))
                     (pss_one (ps_ret pe_bl))
                     pss_nil)
                  (pss_cons (ps_expr (pe_bm PySem.F.plainAttrs_list PySem.F.slot_list_append PySem.F.type_list_append mt_append (pv 8) (pa_cons (pe_tup (pa_cons pe_str (pa_cons pe_str pa_nil))) pa_nil)))
                  (pss_one (ps_expr (pe_bm0 PySem.F.plainAttrs_list PySem.F.slot_list_reverse PySem.F.type_list_reverse mt_reverse (pv 8)))))))))))))))))
      (pss_one (ps_ret pe_bl))), ?_⟩
    refine ⟨_, rfl, a, _, rfl, .inl hS, _, _, rfl, _, _, rfl, rfl, _, rfl, ?_, ?_, for_range (fun i σ H' => ∃ s1 s2 s3 s4 s5 s6 s7 s8, σ = [some (.ref a), s1, s2, s3, s4, s5, s6, s7, s8] ∧ Same H H') ⟨_, _, _, _, _, _, _, _, rfl, Same.refl H⟩ (fun i σ H0 hi h => ?_) (fun σ H' h => ?_)⟩
    · split <;> omega
    · split <;> omega
    · obtain ⟨s1, s2, s3, s4, s5, s6, s7, s8, rfl, sm⟩ := h
      have hi7 : i < 7 := by
        split at hi <;> omega
      refine ⟨_, rfl, _, rfl, a, _, ns, rfl, sm.seq hS, hlen, by omega, by omega, fun H1 b c nb nc sa L1 => ?_⟩
      refine ⟨_, rfl, b, c, _, 8, rfl, L1, by decide, by decide, by omega, fun H2 W nm L2 B2 nW hW lnm ndm okm => ?_⟩
      have Wb : W ≠ b := L1.ne nW
      refine ⟨_, rfl, (), rfl, rfl, fun H3 w1 t3 nw1 hw1 => ⟨b, c, _, w1, wordsL, rfl, L2.same t3, by omega, SqL.of hw1, by decide, by decide +kernel, fun H4 U us L4 t4 nU Ub hU hus lus => ?_⟩⟩
      have hW4 := t4 _ _ Wb (t3 _ _ hW)
      have s04 : Same H0 H4 := same_but ((same_but sa nb B2).trans t3) nb t4
      refine ⟨U, rfl, ⟨_, SqL.of hU⟩, for_list (K := K) (a := U) (xs := us.map V.str) (fun j σ G => ∃ s4 s5 s6 s7 s8, σ = [some (.ref a), some (.int (0 + (i : Int))), some (.ref b), some (.ref W), s4, s5, s6, s7, s8] ∧ But b H4 G ∧ Left G b c (1009 * (0 + (i : Int)) + 40 + 60 * j)) ⟨_, _, _, _, _, rfl, But.refl b H4, L4.mono (by omega)⟩ (fun j σ G hj h => ?_) (fun j x σ G hx h => ?_) (fun σ G h => ?_)⟩
      · obtain ⟨_, _, _, _, _, rfl, tG, LG⟩ := h
        exact SqL.of (tG _ _ Ub hU)
      · obtain ⟨s4, s5, s6, s7, s8, rfl, tG, LG⟩ := h
        rw [List.getElem?_map] at hx
        obtain ⟨w, hw, rfl⟩ := Option.map_eq_some_iff.mp hx
        have hj : j < us.length := (List.getElem?_eq_some_iff.mp hw).1
        refine ⟨_, rfl, _, rfl, _, rfl, b, c, W, _, nm, w, rfl, LG, by omega, tG _ _ Wb hW4, Wb, ndm, by omega, by omega, okm, hus w (List.mem_of_getElem? hw), fun G3 t xs ss L3 t5 hT dd fr => ?_⟩
        have smd := deed_sm dd
        refine ⟨_, rfl, _, deedD w xs, rfl, deed_dp hT, smd.sh, Nat.le_trans smd.le (by decide), Nat.le_trans smd.de (by decide), smd.di, ?_⟩
        refine ⟨_, rfl, t, rfl, .inl ⟨w, xs, ss, hT, dd, fun G4 s34 => ⟨_, _, rfl, rfl, _, rfl, iteF ?_⟩⟩⟩
        have hT4 := seqT_same s34 hT
        refine ⟨_, rfl, by decide, by decide, for_range (lo := 0) (n := 2) (fun k σ G' => ∃ s7 s8, σ = [some (.ref a), some (.int (0 + (i : Int))), some (.ref b), some (.ref W), some (.str w), some (.ref t), some (.str (PyData.shown (deedD w xs))), s7, s8] ∧ Same G4 G') ⟨_, _, rfl, Same.refl G4⟩ (fun k σ G' hk h => ?_) (fun σ G' h => ?_)⟩
        · obtain ⟨s7, s8, rfl, s4⟩ := h
          have hT5 := seqT_same s4 hT4
          have l3 : ss.length ≤ 3 := (shape_ss _ (look_mem dd.look)).1
          refine ⟨_, rfl, t, w, xs, ss, rfl, hT5, dd.look, dd.len, by have := dd.len; omega, dd.fit, fun G5 L S s5 nL hL hR hm => ?_⟩
          refine ⟨_, rfl, _, rfl, t, w, xs, ss, rfl, seqT_same s5 hT5, dd, fun G6 L2 S2 s6 nL2 hL2 hR2 hm2 => ?_⟩
          refine ⟨_, _, .list ((namesOf ss xs).map pairD), rfl, .lst (SqL.of (s6 _ _ hL)) ?_, .lst (SqL.of hL2) ?_, ?_, ?_, fun G7 s7' => ?_⟩
          · rw [← hm]
            exact pairs_dp (hR.same s6)
          · rw [← hm2]
            exact pairs_dp hR2
          · have := (pairs_thin (namesOf ss xs)).1
            simp only [PyData.depth]
            omega
          · simp only [thin]
            rw [(pairs_thin _).2, Bool.and_true]
            refine decide_eq_true ?_
            rw [List.length_map]
            have := namesOf_len ss xs
            have := dd.len
            omega
          have hL7 := s7' _ _ (s6 _ _ hL)
          have hT7 := seqT_same s7' (seqT_same s6 (seqT_same s5 hT5))
          refine ⟨_, rfl, ?_⟩
          refine iteF ?_
          refine ⟨_, rfl, _, deedD w xs, rfl, deed_dp hT7, smd.sh, Nat.le_trans smd.le (by decide), Nat.le_trans smd.de (by decide), smd.di, _, rfl, ?_⟩
          refine ⟨rfl, false, congrArg V.bl (by rw [decide_eq_true rfl]; rfl), iteF ?_⟩
          refine ⟨_, rfl, .inl ⟨rfl, _, SqL.of hL7⟩, by show 2 ≤ sizeLine; decide, fun p np => ?_⟩
          have hL8 := same_new (o := .tup [.str (Str.ofString "who"), .str (Str.ofString "me")]) np _ _ hL7
          refine ⟨L, _, _, rfl, rfl, hL8, ?_, ?_⟩
          · have lS : (refs S).length ≤ 3 := by
              rw [List.length_map, ← List.length_map (f := (·.2)) (as := S), hm]
              have := namesOf_len ss xs
              have := dd.len
              omega
            exact small1000 (by omega)
          refine ⟨_, rfl, .inl ⟨rfl, _, SqL.of upd_same⟩, L, _, rfl, rfl, upd_same, _, _, rfl, ?_⟩
          intro x o e
          have xL : x ≠ L := ne_of_none (s4 _ _ e) nL
          rw [upd_ne xL, upd_ne xL]
          exact same_new np _ _ (s7' _ _ (s6 _ _ (s5 _ _ (s4 _ _ e))))
        · obtain ⟨s7, s8, rfl, s4⟩ := h
          exact ⟨_, _, _, _, _, rfl, ((tG.trans t5).trans (But.of (s34.trans s4))), ((L3.same s34).same s4).mono (by omega)⟩
      · obtain ⟨s4, s5, s6, s7, s8, rfl, tG, LG⟩ := h
        exact ⟨_, _, _, _, _, _, _, _, rfl, sm.trans (same_but s04 nb tG)⟩
    · exact q H'
end
set_option maxHeartbeats 0 in
theorem all_mk {l : PySem.W.OpenLaw} {w : World} {K : PySem.W.Frag} {h : Heap} {mg : Str → Option Value} {fa f0 f1 f2 f3 f4 f5 f6 f7 f8 f9 f10 f11 f12 f13 f14 f15 f16 f17 f18 f19 f20 f21 f22 f23 f24 f25 f26 f27 f28 f29 f30 f31 f32 f33 f34 f35 CR : Addr} (X : K.In h) (G : h.Ns mainGlobals mg) (hfa : mg "law" = some (.ref fa))
    {od0 an0 od1 an1 od2 an2 od3 an3 od4 an4 od5 an5 od6 an6 od7 an7 od8 an8 od9 an9 od10 an10 od11 an11 od12 an12 od13 an13 od14 an14 od15 an15 od16 an16 od17 an17 od18 an18 od19 an19 od20 an20 od21 an21 od22 an22 od23 an23 od24 an24 od25 an25 od26 an26 od27 an27 od28 an28 od29 an29 od30 an30 od31 an31 od32 an32 od33 an33 od34 an34 od35 an35 : Option Addr} {sl0 sl1 sl2 sl3 sl4 sl5 sl6 sl7 sl8 sl9 sl10 sl11 sl12 sl13 sl14 sl15 sl16 sl17 sl18 sl19 sl20 sl21 sl22 sl23 sl24 sl25 sl26 sl27 sl28 sl29 sl30 sl31 sl32 sl33 sl34 sl35 : Array (Option Value)} {oc0 kV0 dc0 pm0 cd0 ct0 oc1 kV1 dc1 pm1 cd1 ct1 oc2 kV2 dc2 pm2 cd2 ct2 oc3 kV3 dc3 pm3 cd3 ct3 oc4 kV4 dc4 pm4 cd4 ct4 oc5 kV5 dc5 pm5 cd5 ct5 oc6 kV6 dc6 pm6 cd6 ct6 oc7 kV7 dc7 pm7 cd7 ct7 oc8 kV8 dc8 pm8 cd8 ct8 oc9 kV9 dc9 pm9 cd9 ct9 oc10 kV10 dc10 pm10 cd10 ct10 oc11 kV11 dc11 pm11 cd11 ct11 oc12 kV12 dc12 pm12 cd12 ct12 oc13 kV13 dc13 pm13 cd13 ct13 oc14 kV14 dc14 pm14 cd14 ct14 oc15 kV15 dc15 pm15 cd15 ct15 oc16 kV16 dc16 pm16 cd16 ct16 oc17 kV17 dc17 pm17 cd17 ct17 oc18 kV18 dc18 pm18 cd18 ct18 oc19 kV19 dc19 pm19 cd19 ct19 oc20 kV20 dc20 pm20 cd20 ct20 oc21 kV21 dc21 pm21 cd21 ct21 oc22 kV22 dc22 pm22 cd22 ct22 oc23 kV23 dc23 pm23 cd23 ct23 oc24 kV24 dc24 pm24 cd24 ct24 oc25 kV25 dc25 pm25 cd25 ct25 oc26 kV26 dc26 pm26 cd26 ct26 oc27 kV27 dc27 pm27 cd27 ct27 oc28 kV28 dc28 pm28 cd28 ct28 oc29 kV29 dc29 pm29 cd29 ct29 oc30 kV30 dc30 pm30 cd30 ct30 oc31 kV31 dc31 pm31 cd31 ct31 oc32 kV32 dc32 pm32 cd32 ct32 oc33 kV33 dc33 pm33 cd33 ct33 oc34 kV34 dc34 pm34 cd34 ct34 oc35 kV35 dc35 pm35 cd35 ct35 : Value}
    (aC : PySem.W.nsIn K mainGlobals "Rule" = some (some (.ref CR))) (pg : PySem.W.plainGet K CR Str.empty = true) (hd : PySem.W.hasDictIn K CR = true) (po : PySem.W.plainOver K CR = true) (sa : PySem.W.findIn K (.ref CR) "__setattr__" = some (some (.builtin "object.__setattr__"))) (mk : PySem.W.makesIn K CR = true) (kc : PySem.W.keepIn K (.ref CR) = true)
    (n1 : PySem.W.findIn K (.ref CR) "parts" = some none) (n2 : PySem.W.findIn K (.ref CR) "step" = some none) (n3 : PySem.W.findIn K (.ref CR) "grace" = some none) (n4 : PySem.W.findIn K (.ref CR) "last" = some none) (n5 : PySem.W.findIn K (.ref CR) "misses" = some none) (n6 : PySem.W.findIn K (.ref CR) "keep" = some none) (n7 : PySem.W.findIn K (.ref CR) "fine" = some none) (n8 : PySem.W.findIn K (.ref CR) "falls" = some none) (n9 : PySem.W.findIn K (.ref CR) "back" = some none)
    (q_ca : PySem.W.findIn K (.ref CR) "__class__" = some (some (.builtin "object.__class__")))
    (q_cn : PySem.W.specialIn K (.builtin "object.__class__") "__get__" = some (some (.builtin "getset_descriptor.__get__")))
    (q_ct : PySem.W.takesIn K (.builtin "object.__class__") = some true)
    (q_ob : PySem.W.mroIn K CR (.type "object") = some true)
    (q_ne : PySem.W.findIn K (.ref CR) "__ne__" = some (some (.builtin "object.__ne__")))
    (q_ty : PySem.W.typeIn K (.ref CR) = some (.type "type"))
    (q_ic : PySem.W.isClsIn K CR = true)
    (q_s0 : PySem.W.subIn K (.ref CR) (.type "int") = some false)
    (q_b0 : PySem.W.subIn K (.type "int") (.ref CR) = some false)
    (q_s1 : PySem.W.subIn K (.ref CR) (.type "bool") = some false)
    (q_b1 : PySem.W.subIn K (.type "bool") (.ref CR) = some false)
    (q_s2 : PySem.W.subIn K (.ref CR) (.type "str") = some false)
    (q_b2 : PySem.W.subIn K (.type "str") (.ref CR) = some false)
    (q_s3 : PySem.W.subIn K (.ref CR) (.type "NoneType") = some false)
    (q_b3 : PySem.W.subIn K (.type "NoneType") (.ref CR) = some false)
    (q_s4 : PySem.W.subIn K (.ref CR) (.type "list") = some false)
    (q_b4 : PySem.W.subIn K (.type "list") (.ref CR) = some false)
    (q_s5 : PySem.W.subIn K (.ref CR) (.type "tuple") = some false)
    (q_b5 : PySem.W.subIn K (.type "tuple") (.ref CR) = some false)
    (a0 : PySem.W.nsIn K mainGlobals "is_number_in" = some (some (.ref f0))) (l0 : K.lookup f0 = some ⟨oc0, od0, .func (PySem.W.fnOf "is_number_in" "is_number_in" (defArgs s_is_number_in) (defBody s_is_number_in) (defScope s_is_number_in) .none kV0 dc0 pm0 an0 cd0 ct0), sl0⟩) (c0 : PySem.W.codeIn K cd0 "is_number_in" = true) (k0 : PySem.W.keepIn K (.ref f0) = true)
    (a1 : PySem.W.nsIn K mainGlobals "may_be_kept" = some (some (.ref f1))) (l1 : K.lookup f1 = some ⟨oc1, od1, .func (PySem.W.fnOf "may_be_kept" "may_be_kept" (defArgs s_may_be_kept) (defBody s_may_be_kept) (defScope s_may_be_kept) .none kV1 dc1 pm1 an1 cd1 ct1), sl1⟩) (c1 : PySem.W.codeIn K cd1 "may_be_kept" = true) (k1 : PySem.W.keepIn K (.ref f1) = true)
    (a2 : PySem.W.nsIn K mainGlobals "wrong_figure" = some (some (.ref f2))) (l2 : K.lookup f2 = some ⟨oc2, od2, .func (PySem.W.fnOf "wrong_figure" "wrong_figure" (defArgs s_wrong_figure) (defBody s_wrong_figure) (defScope s_wrong_figure) .none kV2 dc2 pm2 an2 cd2 ct2), sl2⟩) (c2 : PySem.W.codeIn K cd2 "wrong_figure" = true) (k2 : PySem.W.keepIn K (.ref f2) = true)
    {D3 : Addr} {dod3 : Option Addr} {doc3 : Value} {dsl3 : Array (Option Value)} {dn3 : Nat} {u3_0 u3_2 u3_3 u3_4 u3_5 u3_6 : Tok}
    (a3 : PySem.W.findIn K (.ref CR) "__init__" = some (some (.ref f3))) (l3 : K.lookup f3 = some ⟨oc3, od3, .func (PySem.W.fnOf "__init__" "Rule.__init__" (defArgs s_Rule___init__) (defBody s_Rule___init__) (defScope s_Rule___init__) (.ref D3) kV3 dc3 pm3 an3 cd3 ct3), sl3⟩) (c3 : PySem.W.codeIn K cd3 "Rule.__init__" = true) (k3 : PySem.W.keepIn K (.ref f3) = true)
    (i3 : PySem.W.isFn K (.ref f3) = true) (d3 : K.lookup D3 = some ⟨doc3, dod3, .seq [.int 0 u3_0, .bool false, .int 0 u3_2, .int 0 u3_3, .int 0 u3_4, .int 0 u3_5, .int 0 u3_6].toArray dn3, dsl3⟩)
    (a4 : PySem.W.findIn K (.ref CR) "figures" = some (some (.ref f4))) (l4 : K.lookup f4 = some ⟨oc4, od4, .func (PySem.W.fnOf "figures" "Rule.figures" (defArgs s_Rule_figures) (defBody s_Rule_figures) (defScope s_Rule_figures) .none kV4 dc4 pm4 an4 cd4 ct4), sl4⟩) (c4 : PySem.W.codeIn K cd4 "Rule.figures" = true) (k4 : PySem.W.keepIn K (.ref f4) = true)
    (i4 : PySem.W.isFn K (.ref f4) = true)
    (a5 : PySem.W.nsIn K mainGlobals "_law_mix" = some (some (.ref f5))) (l5 : K.lookup f5 = some ⟨oc5, od5, .func (PySem.W.fnOf "_law_mix" "_law_mix" (defArgs s__law_mix) (defBody s__law_mix) (defScope s__law_mix) .none kV5 dc5 pm5 an5 cd5 ct5), sl5⟩) (c5 : PySem.W.codeIn K cd5 "_law_mix" = true) (k5 : PySem.W.keepIn K (.ref f5) = true)
    (a6 : PySem.W.nsIn K mainGlobals "_law_pick" = some (some (.ref f6))) (l6 : K.lookup f6 = some ⟨oc6, od6, .func (PySem.W.fnOf "_law_pick" "_law_pick" (defArgs s__law_pick) (defBody s__law_pick) (defScope s__law_pick) .none kV6 dc6 pm6 an6 cd6 ct6), sl6⟩) (c6 : PySem.W.codeIn K cd6 "_law_pick" = true) (k6 : PySem.W.keepIn K (.ref f6) = true)
    (a7 : PySem.W.nsIn K mainGlobals "_law_drawn_from" = some (some (.ref f7))) (l7 : K.lookup f7 = some ⟨oc7, od7, .func (PySem.W.fnOf "_law_drawn_from" "_law_drawn_from" (defArgs s__law_drawn_from) (defBody s__law_drawn_from) (defScope s__law_drawn_from) .none kV7 dc7 pm7 an7 cd7 ct7), sl7⟩) (c7 : PySem.W.codeIn K cd7 "_law_drawn_from" = true) (k7 : PySem.W.keepIn K (.ref f7) = true)
    (a8 : PySem.W.nsIn K mainGlobals "_law_keep" = some (some (.ref f8))) (l8 : K.lookup f8 = some ⟨oc8, od8, .func (PySem.W.fnOf "_law_keep" "_law_keep" (defArgs s__law_keep) (defBody s__law_keep) (defScope s__law_keep) .none kV8 dc8 pm8 an8 cd8 ct8), sl8⟩) (c8 : PySem.W.codeIn K cd8 "_law_keep" = true) (k8 : PySem.W.keepIn K (.ref f8) = true)
    (a9 : PySem.W.nsIn K mainGlobals "_law_some_rule" = some (some (.ref f9))) (l9 : K.lookup f9 = some ⟨oc9, od9, .func (PySem.W.fnOf "_law_some_rule" "_law_some_rule" (defArgs s__law_some_rule) (defBody s__law_some_rule) (defScope s__law_some_rule) .none kV9 dc9 pm9 an9 cd9 ct9), sl9⟩) (c9 : PySem.W.codeIn K cd9 "_law_some_rule" = true) (k9 : PySem.W.keepIn K (.ref f9) = true)
    (a10 : PySem.W.nsIn K mainGlobals "_law_whole" = some (some (.ref f10))) (l10 : K.lookup f10 = some ⟨oc10, od10, .func (PySem.W.fnOf "_law_whole" "_law_whole" (defArgs s__law_whole) (defBody s__law_whole) (defScope s__law_whole) .none kV10 dc10 pm10 an10 cd10 ct10), sl10⟩) (c10 : PySem.W.codeIn K cd10 "_law_whole" = true) (k10 : PySem.W.keepIn K (.ref f10) = true)
    (a11 : PySem.W.nsIn K mainGlobals "counted" = some (some (.ref f11))) (l11 : K.lookup f11 = some ⟨oc11, od11, .func (PySem.W.fnOf "counted" "counted" (defArgs s_counted) (defBody s_counted) (defScope s_counted) .none kV11 dc11 pm11 an11 cd11 ct11), sl11⟩) (c11 : PySem.W.codeIn K cd11 "counted" = true) (k11 : PySem.W.keepIn K (.ref f11) = true)
    (a12 : PySem.W.nsIn K mainGlobals "kept_clause" = some (some (.ref f12))) (l12 : K.lookup f12 = some ⟨oc12, od12, .func (PySem.W.fnOf "kept_clause" "kept_clause" (defArgs s_kept_clause) (defBody s_kept_clause) (defScope s_kept_clause) .none kV12 dc12 pm12 an12 cd12 ct12), sl12⟩) (c12 : PySem.W.codeIn K cd12 "kept_clause" = true) (k12 : PySem.W.keepIn K (.ref f12) = true)
    (a13 : PySem.W.nsIn K mainGlobals "clauses_of" = some (some (.ref f13))) (l13 : K.lookup f13 = some ⟨oc13, od13, .func (PySem.W.fnOf "clauses_of" "clauses_of" (defArgs s_clauses_of) (defBody s_clauses_of) (defScope s_clauses_of) .none kV13 dc13 pm13 an13 cd13 ct13), sl13⟩) (c13 : PySem.W.codeIn K cd13 "clauses_of" = true) (k13 : PySem.W.keepIn K (.ref f13) = true)
    (a14 : PySem.W.findIn K (.ref CR) "__str__" = some (some (.ref f14))) (l14 : K.lookup f14 = some ⟨oc14, od14, .func (PySem.W.fnOf "__str__" "Rule.__str__" (defArgs s_Rule___str__) (defBody s_Rule___str__) (defScope s_Rule___str__) .none kV14 dc14 pm14 an14 cd14 ct14), sl14⟩) (c14 : PySem.W.codeIn K cd14 "Rule.__str__" = true) (k14 : PySem.W.keepIn K (.ref f14) = true)
    (i14 : PySem.W.isFn K (.ref f14) = true)
    (a15 : PySem.W.findIn K (.ref CR) "__eq__" = some (some (.ref f15))) (l15 : K.lookup f15 = some ⟨oc15, od15, .func (PySem.W.fnOf "__eq__" "Rule.__eq__" (defArgs s_Rule___eq__) (defBody s_Rule___eq__) (defScope s_Rule___eq__) .none kV15 dc15 pm15 an15 cd15 ct15), sl15⟩) (c15 : PySem.W.codeIn K cd15 "Rule.__eq__" = true) (k15 : PySem.W.keepIn K (.ref f15) = true)
    (i15 : PySem.W.isFn K (.ref f15) = true)
    (a16 : PySem.W.nsIn K mainGlobals "_law_text" = some (some (.ref f16))) (l16 : K.lookup f16 = some ⟨oc16, od16, .func (PySem.W.fnOf "_law_text" "_law_text" (defArgs s__law_text) (defBody s__law_text) (defScope s__law_text) .none kV16 dc16 pm16 an16 cd16 ct16), sl16⟩) (c16 : PySem.W.codeIn K cd16 "_law_text" = true) (k16 : PySem.W.keepIn K (.ref f16) = true)
    (a17 : PySem.W.nsIn K mainGlobals "is_made_of" = some (some (.ref f17))) (l17 : K.lookup f17 = some ⟨oc17, od17, .func (PySem.W.fnOf "is_made_of" "is_made_of" (defArgs s_is_made_of) (defBody s_is_made_of) (defScope s_is_made_of) .none kV17 dc17 pm17 an17 cd17 ct17), sl17⟩) (c17 : PySem.W.codeIn K cd17 "is_made_of" = true) (k17 : PySem.W.keepIn K (.ref f17) = true)
    (a18 : PySem.W.nsIn K mainGlobals "number_in" = some (some (.ref f18))) (l18 : K.lookup f18 = some ⟨oc18, od18, .func (PySem.W.fnOf "number_in" "number_in" (defArgs s_number_in) (defBody s_number_in) (defScope s_number_in) .none kV18 dc18 pm18 an18 cd18 ct18), sl18⟩) (c18 : PySem.W.codeIn K cd18 "number_in" = true) (k18 : PySem.W.keepIn K (.ref f18) = true)
    (a19 : PySem.W.nsIn K mainGlobals "rule_text" = some (some (.ref f19))) (l19 : K.lookup f19 = some ⟨oc19, od19, .func (PySem.W.fnOf "rule_text" "rule_text" (defArgs s_rule_text) (defBody s_rule_text) (defScope s_rule_text) .none kV19 dc19 pm19 an19 cd19 ct19), sl19⟩) (c19 : PySem.W.codeIn K cd19 "rule_text" = true) (k19 : PySem.W.keepIn K (.ref f19) = true)
    (a20 : PySem.W.nsIn K mainGlobals "rule_of" = some (some (.ref f20))) (l20 : K.lookup f20 = some ⟨oc20, od20, .func (PySem.W.fnOf "rule_of" "rule_of" (defArgs s_rule_of) (defBody s_rule_of) (defScope s_rule_of) .none kV20 dc20 pm20 an20 cd20 ct20), sl20⟩) (c20 : PySem.W.codeIn K cd20 "rule_of" = true) (k20 : PySem.W.keepIn K (.ref f20) = true)
    (a21 : PySem.W.nsIn K mainGlobals "figures_in" = some (some (.ref f21))) (l21 : K.lookup f21 = some ⟨oc21, od21, .func (PySem.W.fnOf "figures_in" "figures_in" (defArgs s_figures_in) (defBody s_figures_in) (defScope s_figures_in) .none kV21 dc21 pm21 an21 cd21 ct21), sl21⟩) (c21 : PySem.W.codeIn K cd21 "figures_in" = true) (k21 : PySem.W.keepIn K (.ref f21) = true)
    (a22 : PySem.W.nsIn K mainGlobals "read_rule" = some (some (.ref f22))) (l22 : K.lookup f22 = some ⟨oc22, od22, .func (PySem.W.fnOf "read_rule" "read_rule" (defArgs s_read_rule) (defBody s_read_rule) (defScope s_read_rule) .none kV22 dc22 pm22 an22 cd22 ct22), sl22⟩) (c22 : PySem.W.codeIn K cd22 "read_rule" = true) (k22 : PySem.W.keepIn K (.ref f22) = true)
    (a23 : PySem.W.nsIn K mainGlobals "_law_same" = some (some (.ref f23))) (l23 : K.lookup f23 = some ⟨oc23, od23, .func (PySem.W.fnOf "_law_same" "_law_same" (defArgs s__law_same) (defBody s__law_same) (defScope s__law_same) .none kV23 dc23 pm23 an23 cd23 ct23), sl23⟩) (c23 : PySem.W.codeIn K cd23 "_law_same" = true) (k23 : PySem.W.keepIn K (.ref f23) = true)
    (a24 : PySem.W.nsIn K mainGlobals "is_name" = some (some (.ref f24))) (l24 : K.lookup f24 = some ⟨oc24, od24, .func (PySem.W.fnOf "is_name" "is_name" (defArgs s_is_name) (defBody s_is_name) (defScope s_is_name) .none kV24 dc24 pm24 an24 cd24 ct24), sl24⟩) (c24 : PySem.W.codeIn K cd24 "is_name" = true) (k24 : PySem.W.keepIn K (.ref f24) = true)
    (a25 : PySem.W.nsIn K mainGlobals "is_rule_text" = some (some (.ref f25))) (l25 : K.lookup f25 = some ⟨oc25, od25, .func (PySem.W.fnOf "is_rule_text" "is_rule_text" (defArgs s_is_rule_text) (defBody s_is_rule_text) (defScope s_is_rule_text) .none kV25 dc25 pm25 an25 cd25 ct25), sl25⟩) (c25 : PySem.W.codeIn K cd25 "is_rule_text" = true) (k25 : PySem.W.keepIn K (.ref f25) = true)
    (a26 : PySem.W.nsIn K mainGlobals "is_of_sort" = some (some (.ref f26))) (l26 : K.lookup f26 = some ⟨oc26, od26, .func (PySem.W.fnOf "is_of_sort" "is_of_sort" (defArgs s_is_of_sort) (defBody s_is_of_sort) (defScope s_is_of_sort) .none kV26 dc26 pm26 an26 cd26 ct26), sl26⟩) (c26 : PySem.W.codeIn K cd26 "is_of_sort" = true) (k26 : PySem.W.keepIn K (.ref f26) = true)
    (a27 : PySem.W.nsIn K mainGlobals "names_in" = some (some (.ref f27))) (l27 : K.lookup f27 = some ⟨oc27, od27, .func (PySem.W.fnOf "names_in" "names_in" (defArgs s_names_in) (defBody s_names_in) (defScope s_names_in) .none kV27 dc27 pm27 an27 cd27 ct27), sl27⟩) (c27 : PySem.W.codeIn K cd27 "names_in" = true) (k27 : PySem.W.keepIn K (.ref f27) = true)
    (a28 : PySem.W.nsIn K mainGlobals "is_deed" = some (some (.ref f28))) (l28 : K.lookup f28 = some ⟨oc28, od28, .func (PySem.W.fnOf "is_deed" "is_deed" (defArgs s_is_deed) (defBody s_is_deed) (defScope s_is_deed) .none kV28 dc28 pm28 an28 cd28 ct28), sl28⟩) (c28 : PySem.W.codeIn K cd28 "is_deed" = true) (k28 : PySem.W.keepIn K (.ref f28) = true)
    (a29 : PySem.W.nsIn K mainGlobals "_law_words" = some (some (.ref f29))) (l29 : K.lookup f29 = some ⟨oc29, od29, .func (PySem.W.fnOf "_law_words" "_law_words" (defArgs s__law_words) (defBody s__law_words) (defScope s__law_words) .none kV29 dc29 pm29 an29 cd29 ct29), sl29⟩) (c29 : PySem.W.codeIn K cd29 "_law_words" = true) (k29 : PySem.W.keepIn K (.ref f29) = true)
    (a30 : PySem.W.nsIn K mainGlobals "_law_shuffled" = some (some (.ref f30))) (l30 : K.lookup f30 = some ⟨oc30, od30, .func (PySem.W.fnOf "_law_shuffled" "_law_shuffled" (defArgs s__law_shuffled) (defBody s__law_shuffled) (defScope s__law_shuffled) .none kV30 dc30 pm30 an30 cd30 ct30), sl30⟩) (c30 : PySem.W.codeIn K cd30 "_law_shuffled" = true) (k30 : PySem.W.keepIn K (.ref f30) = true)
    (a31 : PySem.W.nsIn K mainGlobals "_law_pence" = some (some (.ref f31))) (l31 : K.lookup f31 = some ⟨oc31, od31, .func (PySem.W.fnOf "_law_pence" "_law_pence" (defArgs s__law_pence) (defBody s__law_pence) (defScope s__law_pence) .none kV31 dc31 pm31 an31 cd31 ct31), sl31⟩) (c31 : PySem.W.codeIn K cd31 "_law_pence" = true) (k31 : PySem.W.keepIn K (.ref f31) = true)
    (a32 : PySem.W.nsIn K mainGlobals "_law_some_names" = some (some (.ref f32))) (l32 : K.lookup f32 = some ⟨oc32, od32, .func (PySem.W.fnOf "_law_some_names" "_law_some_names" (defArgs s__law_some_names) (defBody s__law_some_names) (defScope s__law_some_names) .none kV32 dc32 pm32 an32 cd32 ct32), sl32⟩) (c32 : PySem.W.codeIn K cd32 "_law_some_names" = true) (k32 : PySem.W.keepIn K (.ref f32) = true)
    (a33 : PySem.W.nsIn K mainGlobals "_law_deed" = some (some (.ref f33))) (l33 : K.lookup f33 = some ⟨oc33, od33, .func (PySem.W.fnOf "_law_deed" "_law_deed" (defArgs s__law_deed) (defBody s__law_deed) (defScope s__law_deed) .none kV33 dc33 pm33 an33 cd33 ct33), sl33⟩) (c33 : PySem.W.codeIn K cd33 "_law_deed" = true) (k33 : PySem.W.keepIn K (.ref f33) = true)
    (a34 : PySem.W.nsIn K mainGlobals "_law_due" = some (some (.ref f34))) (l34 : K.lookup f34 = some ⟨oc34, od34, .func (PySem.W.fnOf "_law_due" "_law_due" (defArgs s__law_due) (defBody s__law_due) (defScope s__law_due) .none kV34 dc34 pm34 an34 cd34 ct34), sl34⟩) (c34 : PySem.W.codeIn K cd34 "_law_due" = true) (k34 : PySem.W.keepIn K (.ref f34) = true)
    (a35 : PySem.W.nsIn K mainGlobals "law" = some (some (.ref f35))) (l35 : K.lookup f35 = some ⟨oc35, od35, .func (PySem.W.fnOf "law" "law" (defArgs s_law) (defBody s_law) (defScope s_law) .none kV35 dc35 pm35 an35 cd35 ct35), sl35⟩) (c35 : PySem.W.codeIn K cd35 "law" = true) (k35 : PySem.W.keepIn K (.ref f35) = true)
    (z_isinstance : PySem.W.nsIn K mainGlobals "isinstance" = some none) (z_bool : PySem.W.nsIn K mainGlobals "bool" = some none) (z_int : PySem.W.nsIn K mainGlobals "int" = some none) (z_tuple : PySem.W.nsIn K mainGlobals "tuple" = some none) (z_all : PySem.W.nsIn K mainGlobals "all" = some none) (z_len : PySem.W.nsIn K mainGlobals "len" = some none) (z_abs : PySem.W.nsIn K mainGlobals "abs" = some none) (z_range : PySem.W.nsIn K mainGlobals "range" = some none) (z_set : PySem.W.nsIn K mainGlobals "set" = some none) (z_str : PySem.W.nsIn K mainGlobals "str" = some none) (z_max : PySem.W.nsIn K mainGlobals "max" = some none) (z_enumerate : PySem.W.nsIn K mainGlobals "enumerate" = some none) (z_list : PySem.W.nsIn K mainGlobals "list" = some none) (z_zip : PySem.W.nsIn K mainGlobals "zip" = some none) (z_min : PySem.W.nsIn K mainGlobals "min" = some none) (z_repr : PySem.W.nsIn K mainGlobals "repr" = some none)
    {t_FIGURES : Tok} (y_FIGURES : PySem.W.nsIn K mainGlobals "FIGURES" = some (some (.str (Str.ofString "0123456789") t_FIGURES)))
    {t_MOST_FIGURE : Tok} (y_MOST_FIGURE : PySem.W.nsIn K mainGlobals "MOST_FIGURE" = some (some (.int 100 t_MOST_FIGURE)))
    {A_COUNTED_WORDS : Addr} {u_COUNTED_WORDS_0 u_COUNTED_WORDS_1 u_COUNTED_WORDS_2 u_COUNTED_WORDS_3 u_COUNTED_WORDS_4 u_COUNTED_WORDS_5 : Tok} {gd_COUNTED_WORDS : Option Addr} {gn_COUNTED_WORDS : Nat} {gs_COUNTED_WORDS : Array (Option Value)} (y_COUNTED_WORDS : PySem.W.nsIn K mainGlobals "COUNTED_WORDS" = some (some (.ref A_COUNTED_WORDS))) (x_COUNTED_WORDS : K.lookup A_COUNTED_WORDS = some ⟨.type "tuple", gd_COUNTED_WORDS, .seq [.str (Str.ofString "grace") u_COUNTED_WORDS_0, .str (Str.ofString "misses") u_COUNTED_WORDS_1, .str (Str.ofString "keep") u_COUNTED_WORDS_2, .str (Str.ofString "fine") u_COUNTED_WORDS_3, .str (Str.ofString "falls") u_COUNTED_WORDS_4, .str (Str.ofString "back") u_COUNTED_WORDS_5].toArray gn_COUNTED_WORDS, gs_COUNTED_WORDS⟩)
    {t_LETTERS : Tok} (y_LETTERS : PySem.W.nsIn K mainGlobals "LETTERS" = some (some (.str (Str.ofString "abcdefghijklmnopqrstuvwxyz") t_LETTERS)))
    {t_LONGEST_NAME : Tok} (y_LONGEST_NAME : PySem.W.nsIn K mainGlobals "LONGEST_NAME" = some (some (.int 8 t_LONGEST_NAME)))
    {t_MOST_PRICE : Tok} (y_MOST_PRICE : PySem.W.nsIn K mainGlobals "MOST_PRICE" = some (some (.int 1000000 t_MOST_PRICE)))
    {t_MOST_DEBT : Tok} (y_MOST_DEBT : PySem.W.nsIn K mainGlobals "MOST_DEBT" = some (some (.int 100000000 t_MOST_DEBT)))
    {A_FORMS : Addr} {ep_FORMS : Nat} {u_FORMS_0 u_FORMS_1 u_FORMS_2 u_FORMS_3 u_FORMS_4 u_FORMS_5 u_FORMS_6 u_FORMS_7 u_FORMS_8 u_FORMS_9 : Tok} {F_FORMS_0 F_FORMS_1 F_FORMS_2 F_FORMS_3 F_FORMS_4 F_FORMS_5 F_FORMS_6 F_FORMS_7 F_FORMS_8 F_FORMS_9 : Addr} (y_FORMS : PySem.W.nsIn K mainGlobals "FORMS" = some (some (.ref A_FORMS))) (s_FORMS : (A_FORMS == sysModules) = false) (x_FORMS : K.lookup A_FORMS = some ⟨.type "dict", none, .dict #[⟨PyData.keyHash w.params (Str.ofString "house"), .str (Str.ofString "house") u_FORMS_0, .ref F_FORMS_0⟩, ⟨PyData.keyHash w.params (Str.ofString "price"), .str (Str.ofString "price") u_FORMS_1, .ref F_FORMS_1⟩, ⟨PyData.keyHash w.params (Str.ofString "ware"), .str (Str.ofString "ware") u_FORMS_2, .ref F_FORMS_2⟩, ⟨PyData.keyHash w.params (Str.ofString "put"), .str (Str.ofString "put") u_FORMS_3, .ref F_FORMS_3⟩, ⟨PyData.keyHash w.params (Str.ofString "pay"), .str (Str.ofString "pay") u_FORMS_4, .ref F_FORMS_4⟩, ⟨PyData.keyHash w.params (Str.ofString "up"), .str (Str.ofString "up") u_FORMS_5, .ref F_FORMS_5⟩, ⟨PyData.keyHash w.params (Str.ofString "leave"), .str (Str.ofString "leave") u_FORMS_6, .ref F_FORMS_6⟩, ⟨PyData.keyHash w.params (Str.ofString "bring"), .str (Str.ofString "bring") u_FORMS_7, .ref F_FORMS_7⟩, ⟨PyData.keyHash w.params (Str.ofString "hand"), .str (Str.ofString "hand") u_FORMS_8, .ref F_FORMS_8⟩, ⟨PyData.keyHash w.params (Str.ofString "settle"), .str (Str.ofString "settle") u_FORMS_9, .ref F_FORMS_9⟩] ep_FORMS, #[]⟩)
    {u_FORMS_0_0 u_FORMS_0_1 : Tok} {gd_FORMS_0 : Option Addr} {gn_FORMS_0 : Nat} {gs_FORMS_0 : Array (Option Value)} (x_FORMS_0 : K.lookup F_FORMS_0 = some ⟨.type "tuple", gd_FORMS_0, .seq [.str (Str.ofString "house") u_FORMS_0_0, .str (Str.ofString "text") u_FORMS_0_1].toArray gn_FORMS_0, gs_FORMS_0⟩)
    {u_FORMS_1_0 u_FORMS_1_1 u_FORMS_1_2 : Tok} {gd_FORMS_1 : Option Addr} {gn_FORMS_1 : Nat} {gs_FORMS_1 : Array (Option Value)} (x_FORMS_1 : K.lookup F_FORMS_1 = some ⟨.type "tuple", gd_FORMS_1, .seq [.str (Str.ofString "house") u_FORMS_1_0, .str (Str.ofString "kind") u_FORMS_1_1, .str (Str.ofString "price") u_FORMS_1_2].toArray gn_FORMS_1, gs_FORMS_1⟩)
    {u_FORMS_2_0 u_FORMS_2_1 u_FORMS_2_2 : Tok} {gd_FORMS_2 : Option Addr} {gn_FORMS_2 : Nat} {gs_FORMS_2 : Array (Option Value)} (x_FORMS_2 : K.lookup F_FORMS_2 = some ⟨.type "tuple", gd_FORMS_2, .seq [.str (Str.ofString "ware") u_FORMS_2_0, .str (Str.ofString "kind") u_FORMS_2_1, .str (Str.ofString "house") u_FORMS_2_2].toArray gn_FORMS_2, gs_FORMS_2⟩)
    {u_FORMS_3_0 u_FORMS_3_1 u_FORMS_3_2 : Tok} {gd_FORMS_3 : Option Addr} {gn_FORMS_3 : Nat} {gs_FORMS_3 : Array (Option Value)} (x_FORMS_3 : K.lookup F_FORMS_3 = some ⟨.type "tuple", gd_FORMS_3, .seq [.str (Str.ofString "house") u_FORMS_3_0, .str (Str.ofString "kind") u_FORMS_3_1, .str (Str.ofString "who") u_FORMS_3_2].toArray gn_FORMS_3, gs_FORMS_3⟩)
    {u_FORMS_4_0 u_FORMS_4_1 : Tok} {gd_FORMS_4 : Option Addr} {gn_FORMS_4 : Nat} {gs_FORMS_4 : Array (Option Value)} (x_FORMS_4 : K.lookup F_FORMS_4 = some ⟨.type "tuple", gd_FORMS_4, .seq [.str (Str.ofString "ware") u_FORMS_4_0, .str (Str.ofString "who") u_FORMS_4_1].toArray gn_FORMS_4, gs_FORMS_4⟩)
    {u_FORMS_5_0 : Tok} {gd_FORMS_5 : Option Addr} {gn_FORMS_5 : Nat} {gs_FORMS_5 : Array (Option Value)} (x_FORMS_5 : K.lookup F_FORMS_5 = some ⟨.type "tuple", gd_FORMS_5, .seq [.str (Str.ofString "ware") u_FORMS_5_0].toArray gn_FORMS_5, gs_FORMS_5⟩)
    {u_FORMS_6_0 u_FORMS_6_1 u_FORMS_6_2 : Tok} {gd_FORMS_6 : Option Addr} {gn_FORMS_6 : Nat} {gs_FORMS_6 : Array (Option Value)} (x_FORMS_6 : K.lookup F_FORMS_6 = some ⟨.type "tuple", gd_FORMS_6, .seq [.str (Str.ofString "house") u_FORMS_6_0, .str (Str.ofString "kind") u_FORMS_6_1, .str (Str.ofString "who") u_FORMS_6_2].toArray gn_FORMS_6, gs_FORMS_6⟩)
    {u_FORMS_7_0 : Tok} {gd_FORMS_7 : Option Addr} {gn_FORMS_7 : Nat} {gs_FORMS_7 : Array (Option Value)} (x_FORMS_7 : K.lookup F_FORMS_7 = some ⟨.type "tuple", gd_FORMS_7, .seq [.str (Str.ofString "ware") u_FORMS_7_0].toArray gn_FORMS_7, gs_FORMS_7⟩)
    {u_FORMS_8_0 u_FORMS_8_1 : Tok} {gd_FORMS_8 : Option Addr} {gn_FORMS_8 : Nat} {gs_FORMS_8 : Array (Option Value)} (x_FORMS_8 : K.lookup F_FORMS_8 = some ⟨.type "tuple", gd_FORMS_8, .seq [.str (Str.ofString "house") u_FORMS_8_0, .str (Str.ofString "house") u_FORMS_8_1].toArray gn_FORMS_8, gs_FORMS_8⟩)
    {u_FORMS_9_0 u_FORMS_9_1 u_FORMS_9_2 : Tok} {gd_FORMS_9 : Option Addr} {gn_FORMS_9 : Nat} {gs_FORMS_9 : Array (Option Value)} (x_FORMS_9 : K.lookup F_FORMS_9 = some ⟨.type "tuple", gd_FORMS_9, .seq [.str (Str.ofString "house") u_FORMS_9_0, .str (Str.ofString "house") u_FORMS_9_1, .str (Str.ofString "debt") u_FORMS_9_2].toArray gn_FORMS_9, gs_FORMS_9⟩)
    {A_NAMED_SORTS : Addr} {u_NAMED_SORTS_0 u_NAMED_SORTS_1 u_NAMED_SORTS_2 u_NAMED_SORTS_3 : Tok} {gd_NAMED_SORTS : Option Addr} {gn_NAMED_SORTS : Nat} {gs_NAMED_SORTS : Array (Option Value)} (y_NAMED_SORTS : PySem.W.nsIn K mainGlobals "NAMED_SORTS" = some (some (.ref A_NAMED_SORTS))) (x_NAMED_SORTS : K.lookup A_NAMED_SORTS = some ⟨.type "tuple", gd_NAMED_SORTS, .seq [.str (Str.ofString "house") u_NAMED_SORTS_0, .str (Str.ofString "kind") u_NAMED_SORTS_1, .str (Str.ofString "ware") u_NAMED_SORTS_2, .str (Str.ofString "who") u_NAMED_SORTS_3].toArray gn_NAMED_SORTS, gs_NAMED_SORTS⟩) :
    ∃ fd : FuncData, (∀ (s : Shared) (v : Value), BindsTo s fd ⟨[v], []⟩ [("_law_script", v)]) ∧ ∀ base : Heap, K.In base → base.Ns mainGlobals mg → FnG l.prog w K mg base 12 fa fd ["_law_script"] (sp_law K) := by
  have e := hfa.symm.trans (PySem.W.mg_of X G a35)
  cases e
  have T_Rule : TRule K mg CR := ⟨⟨pg, hd, po, sa⟩, n1, n2, n3, n4, n5, n6, n7, n8, n9⟩
  have gC := PySem.W.mg_of X G aC
  have q_no : ∀ T ∈ (["int", "bool", "str", "NoneType", "list", "tuple"] : List String), PySem.W.kitOne K (.type T) (.ref CR) = some false := fun T h => by
    rcases six_of h with rfl | rfl | rfl | rfl | rfl | rfl
    · exact kit_tr q_ic q_ty q_b0
    · exact kit_tr q_ic q_ty q_b1
    · exact kit_tr q_ic q_ty q_b2
    · exact kit_tr q_ic q_ty q_b3
    · exact kit_tr q_ic q_ty q_b4
    · exact kit_tr q_ic q_ty q_b5
  have q_tys : ∀ T ∈ (["int", "bool", "str", "NoneType", "list", "tuple"] : List String), PySem.W.subIn K (.ref CR) (.type T) = some false ∧ PySem.W.subIn K (.type T) (.ref CR) = some false := fun T h => by
    rcases six_of h with rfl | rfl | rfl | rfl | rfl | rfl
    · exact ⟨q_s0, q_b0⟩
    · exact ⟨q_s1, q_b1⟩
    · exact ⟨q_s2, q_b2⟩
    · exact ⟨q_s3, q_b3⟩
    · exact ⟨q_s4, q_b4⟩
    · exact ⟨q_s5, q_b5⟩
  have TQ : TEq K mg CR "Rule" := ⟨gC, q_ca, q_cn, q_ct, q_ob, kit_self, q_no⟩
  have F0 := fun_mk (st := s_is_number_in) l0 c0 k0
  have b0 := F0.binds (ps := ["thing", "low", "high"]) fun _ _ _ _ _ _ us hl => match us, hl with | [_, _, _], _ => rfl
  have g0 := PySem.W.mg_of X G a0
  have F1 := fun_mk (st := s_may_be_kept) l1 c1 k1
  have b1 := F1.binds (ps := ["keep", "parts"]) fun _ _ _ _ _ _ us hl => match us, hl with | [_, _], _ => rfl
  have g1 := PySem.W.mg_of X G a1
  have F2 := fun_mk (st := s_wrong_figure) l2 c2 k2
  have b2 := F2.binds (ps := ["parts", "step", "grace", "last", "misses", "keep", "fine", "falls", "back"]) fun _ _ _ _ _ _ us hl => match us, hl with | [_, _, _, _, _, _, _, _, _], _ => rfl
  have g2 := PySem.W.mg_of X G a2
  have F3 : FunD K "__init__" "Rule.__init__" (defArgs s_Rule___init__) (defBody s_Rule___init__) (defScope s_Rule___init__) [.int 0, .bl false, .int 0, .int 0, .int 0, .int 0, .int 0] [] f3 _ := ⟨⟨oc3, od3, _, kV3, dc3, pm3, an3, cd3, ct3, sl3, rfl, l3, c3, .inr ⟨by simp, D3, _, _, dn3, rfl, d3, rfl, (.cons ⟨_, rfl⟩ (.cons rfl (.cons ⟨_, rfl⟩ (.cons ⟨_, rfl⟩ (.cons ⟨_, rfl⟩ (.cons ⟨_, rfl⟩ (.cons ⟨_, rfl⟩ .nil)))))))⟩, .inl rfl⟩, k3⟩
  have F4 : FunD K "figures" "Rule.figures" (defArgs s_Rule_figures) (defBody s_Rule_figures) (defScope s_Rule_figures) [] [] f4 _ := ⟨⟨oc4, od4, _, kV4, dc4, pm4, an4, cd4, ct4, sl4, rfl, l4, c4, .inl ⟨rfl, rfl⟩, .inl rfl⟩, k4⟩
  have F5 := fun_mk (st := s__law_mix) l5 c5 k5
  have b5 := F5.binds (ps := ["_law_cell", "_law_k"]) fun _ _ _ _ _ _ us hl => match us, hl with | [_, _], _ => rfl
  have g5 := PySem.W.mg_of X G a5
  have F6 := fun_mk (st := s__law_pick) l6 c6 k6
  have b6 := F6.binds (ps := ["_law_left", "_law_many"]) fun _ _ _ _ _ _ us hl => match us, hl with | [_, _], _ => rfl
  have g6 := PySem.W.mg_of X G a6
  have F7 := fun_mk (st := s__law_drawn_from) l7 c7 k7
  have b7 := F7.binds (ps := ["_law_script", "_law_k"]) fun _ _ _ _ _ _ us hl => match us, hl with | [_, _], _ => rfl
  have g7 := PySem.W.mg_of X G a7
  have F8 := fun_mk (st := s__law_keep) l8 c8 k8
  have b8 := F8.binds (ps := ["_law_left", "_law_many"]) fun _ _ _ _ _ _ us hl => match us, hl with | [_, _], _ => rfl
  have g8 := PySem.W.mg_of X G a8
  have F9 := fun_mk (st := s__law_some_rule) l9 c9 k9
  have b9 := F9.binds (ps := ["_law_left"]) fun _ _ _ _ _ _ us hl => match us, hl with | [_], _ => rfl
  have g9 := PySem.W.mg_of X G a9
  have F10 := fun_mk (st := s__law_whole) l10 c10 k10
  have b10 := F10.binds (ps := ["_law_some"]) fun _ _ _ _ _ _ us hl => match us, hl with | [_], _ => rfl
  have g10 := PySem.W.mg_of X G a10
  have F11 := fun_mk (st := s_counted) l11 c11 k11
  have b11 := F11.binds (ps := ["word", "number"]) fun _ _ _ _ _ _ us hl => match us, hl with | [_, _], _ => rfl
  have g11 := PySem.W.mg_of X G a11
  have F12 := fun_mk (st := s_kept_clause) l12 c12 k12
  have b12 := F12.binds (ps := ["keep"]) fun _ _ _ _ _ _ us hl => match us, hl with | [_], _ => rfl
  have g12 := PySem.W.mg_of X G a12
  have F13 := fun_mk (st := s_clauses_of) l13 c13 k13
  have b13 := F13.binds (ps := ["figures"]) fun _ _ _ _ _ _ us hl => match us, hl with | [_], _ => rfl
  have g13 := PySem.W.mg_of X G a13
  have F14 : FunD K "__str__" "Rule.__str__" (defArgs s_Rule___str__) (defBody s_Rule___str__) (defScope s_Rule___str__) [] [] f14 _ := ⟨⟨oc14, od14, _, kV14, dc14, pm14, an14, cd14, ct14, sl14, rfl, l14, c14, .inl ⟨rfl, rfl⟩, .inl rfl⟩, k14⟩
  have F15 : FunD K "__eq__" "Rule.__eq__" (defArgs s_Rule___eq__) (defBody s_Rule___eq__) (defScope s_Rule___eq__) [] [] f15 _ := ⟨⟨oc15, od15, _, kV15, dc15, pm15, an15, cd15, ct15, sl15, rfl, l15, c15, .inl ⟨rfl, rfl⟩, .inl rfl⟩, k15⟩
  have F16 := fun_mk (st := s__law_text) l16 c16 k16
  have b16 := F16.binds (ps := ["_law_some"]) fun _ _ _ _ _ _ us hl => match us, hl with | [_], _ => rfl
  have g16 := PySem.W.mg_of X G a16
  have F17 := fun_mk (st := s_is_made_of) l17 c17 k17
  have b17 := F17.binds (ps := ["text", "signs"]) fun _ _ _ _ _ _ us hl => match us, hl with | [_, _], _ => rfl
  have g17 := PySem.W.mg_of X G a17
  have F18 := fun_mk (st := s_number_in) l18 c18 k18
  have b18 := F18.binds (ps := ["text", "most"]) fun _ _ _ _ _ _ us hl => match us, hl with | [_, _], _ => rfl
  have g18 := PySem.W.mg_of X G a18
  have F19 := fun_mk (st := s_rule_text) l19 c19 k19
  have b19 := F19.binds (ps := ["rule"]) fun _ _ _ _ _ _ us hl => match us, hl with | [_], _ => rfl
  have g19 := PySem.W.mg_of X G a19
  have F20 := fun_mk (st := s_rule_of) l20 c20 k20
  have b20 := F20.binds (ps := ["figures"]) fun _ _ _ _ _ _ us hl => match us, hl with | [_], _ => rfl
  have g20 := PySem.W.mg_of X G a20
  have F21 := fun_mk (st := s_figures_in) l21 c21 k21
  have b21 := F21.binds (ps := ["clause"]) fun _ _ _ _ _ _ us hl => match us, hl with | [_], _ => rfl
  have g21 := PySem.W.mg_of X G a21
  have F22 := fun_mk (st := s_read_rule) l22 c22 k22
  have b22 := F22.binds (ps := ["text"]) fun _ _ _ _ _ _ us hl => match us, hl with | [_], _ => rfl
  have g22 := PySem.W.mg_of X G a22
  have F23 := fun_mk (st := s__law_same) l23 c23 k23
  have b23 := F23.binds (ps := ["_law_found", "_law_due_here"]) fun _ _ _ _ _ _ us hl => match us, hl with | [_, _], _ => rfl
  have g23 := PySem.W.mg_of X G a23
  have F24 := fun_mk (st := s_is_name) l24 c24 k24
  have b24 := F24.binds (ps := ["thing"]) fun _ _ _ _ _ _ us hl => match us, hl with | [_], _ => rfl
  have g24 := PySem.W.mg_of X G a24
  have F25 := fun_mk (st := s_is_rule_text) l25 c25 k25
  have b25 := F25.binds (ps := ["text"]) fun _ _ _ _ _ _ us hl => match us, hl with | [_], _ => rfl
  have g25 := PySem.W.mg_of X G a25
  have F26 := fun_mk (st := s_is_of_sort) l26 c26 k26
  have b26 := F26.binds (ps := ["thing", "sort"]) fun _ _ _ _ _ _ us hl => match us, hl with | [_, _], _ => rfl
  have g26 := PySem.W.mg_of X G a26
  have F27 := fun_mk (st := s_names_in) l27 c27 k27
  have b27 := F27.binds (ps := ["deed"]) fun _ _ _ _ _ _ us hl => match us, hl with | [_], _ => rfl
  have g27 := PySem.W.mg_of X G a27
  have F28 := fun_mk (st := s_is_deed) l28 c28 k28
  have b28 := F28.binds (ps := ["thing"]) fun _ _ _ _ _ _ us hl => match us, hl with | [_], _ => rfl
  have g28 := PySem.W.mg_of X G a28
  have F29 := fun_mk (st := s__law_words) l29 c29 k29
  have b29 := F29.binds (ps := []) fun _ _ _ _ _ _ us hl => match us, hl with | [], _ => rfl
  have g29 := PySem.W.mg_of X G a29
  have F30 := fun_mk (st := s__law_shuffled) l30 c30 k30
  have b30 := F30.binds (ps := ["_law_left", "_law_things"]) fun _ _ _ _ _ _ us hl => match us, hl with | [_, _], _ => rfl
  have g30 := PySem.W.mg_of X G a30
  have F31 := fun_mk (st := s__law_pence) l31 c31 k31
  have b31 := F31.binds (ps := ["_law_left", "_law_most"]) fun _ _ _ _ _ _ us hl => match us, hl with | [_, _], _ => rfl
  have g31 := PySem.W.mg_of X G a31
  have F32 := fun_mk (st := s__law_some_names) l32 c32 k32
  have b32 := F32.binds (ps := ["_law_left", "_law_many"]) fun _ _ _ _ _ _ us hl => match us, hl with | [_, _], _ => rfl
  have g32 := PySem.W.mg_of X G a32
  have F33 := fun_mk (st := s__law_deed) l33 c33 k33
  have b33 := F33.binds (ps := ["_law_left", "_law_names", "_law_word"]) fun _ _ _ _ _ _ us hl => match us, hl with | [_, _, _], _ => rfl
  have g33 := PySem.W.mg_of X G a33
  have F34 := fun_mk (st := s__law_due) l34 c34 k34
  have b34 := F34.binds (ps := ["_law_deed_here"]) fun _ _ _ _ _ _ us hl => match us, hl with | [_], _ => rfl
  have g34 := PySem.W.mg_of X G a34
  have F35 := fun_mk (st := s_law) l35 c35 k35
  have m_isinstance := PySem.W.mg_none_of X G z_isinstance
  have m_bool := PySem.W.mg_none_of X G z_bool
  have m_int := PySem.W.mg_none_of X G z_int
  have m_tuple := PySem.W.mg_none_of X G z_tuple
  have m_all := PySem.W.mg_none_of X G z_all
  have m_len := PySem.W.mg_none_of X G z_len
  have m_abs := PySem.W.mg_none_of X G z_abs
  have m_range := PySem.W.mg_none_of X G z_range
  have m_set := PySem.W.mg_none_of X G z_set
  have m_str := PySem.W.mg_none_of X G z_str
  have m_max := PySem.W.mg_none_of X G z_max
  have m_enumerate := PySem.W.mg_none_of X G z_enumerate
  have m_list := PySem.W.mg_none_of X G z_list
  have m_zip := PySem.W.mg_none_of X G z_zip
  have m_min := PySem.W.mg_none_of X G z_min
  have m_repr := PySem.W.mg_none_of X G z_repr
  have g_FIGURES := PySem.W.mg_of X G y_FIGURES
  have g_MOST_FIGURE := PySem.W.mg_of X G y_MOST_FIGURE
  have g_COUNTED_WORDS := PySem.W.mg_of X G y_COUNTED_WORDS
  have q_COUNTED_WORDS : ∀ H, SqT K H A_COUNTED_WORDS [.str (Str.ofString "grace"), .str (Str.ofString "misses"), .str (Str.ofString "keep"), .str (Str.ofString "fine"), .str (Str.ofString "falls"), .str (Str.ofString "back")] := fun H => .inr ⟨_, _, _, x_COUNTED_WORDS, rfl, rfl, (by show 6 ≤ sizeLine; decide), (.cons ⟨_, rfl⟩ (.cons ⟨_, rfl⟩ (.cons ⟨_, rfl⟩ (.cons ⟨_, rfl⟩ (.cons ⟨_, rfl⟩ (.cons ⟨_, rfl⟩ .nil))))))⟩
  have g_LETTERS := PySem.W.mg_of X G y_LETTERS
  have g_LONGEST_NAME := PySem.W.mg_of X G y_LONGEST_NAME
  have g_MOST_PRICE := PySem.W.mg_of X G y_MOST_PRICE
  have g_MOST_DEBT := PySem.W.mg_of X G y_MOST_DEBT
  have g_FORMS := PySem.W.mg_of X G y_FORMS
  have q_FORMS : KTab w K A_FORMS tab_FORMS := ⟨s_FORMS, ⟨_, _, _, x_FORMS, ⟨rfl, rfl, rfl⟩, rfl, (.cons ⟨rfl, ⟨_, rfl⟩, ⟨_, rfl, _, _, _, x_FORMS_0, rfl, rfl, (by show 2 ≤ sizeLine; decide), (.cons ⟨_, rfl⟩ (.cons ⟨_, rfl⟩ .nil))⟩⟩ (.cons ⟨rfl, ⟨_, rfl⟩, ⟨_, rfl, _, _, _, x_FORMS_1, rfl, rfl, (by show 3 ≤ sizeLine; decide), (.cons ⟨_, rfl⟩ (.cons ⟨_, rfl⟩ (.cons ⟨_, rfl⟩ .nil)))⟩⟩ (.cons ⟨rfl, ⟨_, rfl⟩, ⟨_, rfl, _, _, _, x_FORMS_2, rfl, rfl, (by show 3 ≤ sizeLine; decide), (.cons ⟨_, rfl⟩ (.cons ⟨_, rfl⟩ (.cons ⟨_, rfl⟩ .nil)))⟩⟩ (.cons ⟨rfl, ⟨_, rfl⟩, ⟨_, rfl, _, _, _, x_FORMS_3, rfl, rfl, (by show 3 ≤ sizeLine; decide), (.cons ⟨_, rfl⟩ (.cons ⟨_, rfl⟩ (.cons ⟨_, rfl⟩ .nil)))⟩⟩ (.cons ⟨rfl, ⟨_, rfl⟩, ⟨_, rfl, _, _, _, x_FORMS_4, rfl, rfl, (by show 2 ≤ sizeLine; decide), (.cons ⟨_, rfl⟩ (.cons ⟨_, rfl⟩ .nil))⟩⟩ (.cons ⟨rfl, ⟨_, rfl⟩, ⟨_, rfl, _, _, _, x_FORMS_5, rfl, rfl, (by show 1 ≤ sizeLine; decide), (.cons ⟨_, rfl⟩ .nil)⟩⟩ (.cons ⟨rfl, ⟨_, rfl⟩, ⟨_, rfl, _, _, _, x_FORMS_6, rfl, rfl, (by show 3 ≤ sizeLine; decide), (.cons ⟨_, rfl⟩ (.cons ⟨_, rfl⟩ (.cons ⟨_, rfl⟩ .nil)))⟩⟩ (.cons ⟨rfl, ⟨_, rfl⟩, ⟨_, rfl, _, _, _, x_FORMS_7, rfl, rfl, (by show 1 ≤ sizeLine; decide), (.cons ⟨_, rfl⟩ .nil)⟩⟩ (.cons ⟨rfl, ⟨_, rfl⟩, ⟨_, rfl, _, _, _, x_FORMS_8, rfl, rfl, (by show 2 ≤ sizeLine; decide), (.cons ⟨_, rfl⟩ (.cons ⟨_, rfl⟩ .nil))⟩⟩ (.cons ⟨rfl, ⟨_, rfl⟩, ⟨_, rfl, _, _, _, x_FORMS_9, rfl, rfl, (by show 3 ≤ sizeLine; decide), (.cons ⟨_, rfl⟩ (.cons ⟨_, rfl⟩ (.cons ⟨_, rfl⟩ .nil)))⟩⟩ .nil))))))))))⟩, by decide +kernel⟩
  have g_NAMED_SORTS := PySem.W.mg_of X G y_NAMED_SORTS
  have q_NAMED_SORTS : ∀ H, SqT K H A_NAMED_SORTS [.str (Str.ofString "house"), .str (Str.ofString "kind"), .str (Str.ofString "ware"), .str (Str.ofString "who")] := fun H => .inr ⟨_, _, _, x_NAMED_SORTS, rfl, rfl, (by show 4 ≤ sizeLine; decide), (.cons ⟨_, rfl⟩ (.cons ⟨_, rfl⟩ (.cons ⟨_, rfl⟩ (.cons ⟨_, rfl⟩ .nil))))⟩
  refine ⟨PySem.W.fnOf "law" "law" (defArgs s_law) (defBody s_law) (defScope s_law) .none kV35 dc35 pm35 an35 cd35 ct35, fun s v => .of_eq rfl, fun base _ _ => ?_⟩
  have C_is_number_in := ok_is_number_in (P := l.prog) (w := w) (base := base) F0 g0 b0 m_isinstance m_bool m_int
  have C_may_be_kept := ok_may_be_kept (P := l.prog) (w := w) (base := base) F1 g1 b1 m_isinstance m_tuple m_all m_len C_is_number_in
  have C_wrong_figure := ok_wrong_figure (P := l.prog) (w := w) (base := base) F2 g2 b2 m_isinstance m_bool C_is_number_in C_may_be_kept
  have O3 := ok_Rule___init__ (P := l.prog) (w := w) (base := base) TQ T_Rule m_isinstance m_tuple C_wrong_figure F3
  obtain ⟨its_S_Rule, rd_S_Rule, hl_S_Rule, sb_S_Rule⟩ := KWS.starK F3 (me := "self") (req := ["parts", "step"]) (opts := ["grace", "last", "misses", "keep", "fine", "falls", "back"]) (by simp) rfl rfl rfl rfl rfl rfl (by decide +kernel)
  have S_Rule : KWS.CMkS CX0 l.prog w K mg base CR 4 "Rule" "self" ["parts", "step"] ["grace", "last", "misses", "keep", "fine", "falls", "back"] [.int 0, .bl false, .int 0, .int 0, .int 0, .int 0, .int 0] (sp_Rule___init__ K CR) := ⟨_, _, its_S_Rule, O3, ⟨mk, a3, i3, kc⟩, gC, rd_S_Rule, hl_S_Rule, sb_S_Rule⟩
  have O4 := ok_Rule_figures (P := l.prog) (w := w) (base := base) TQ T_Rule F4
  have b_C_Rule_figures_0 := F4.bindsN (ps := ["self"]) fun kV doc pm an cdv ct us h => match us, h with | [_], _ => rfl
  have C_Rule_figures_0 : CMt l.prog w K mg base CR 1 "figures" ["self"] [] (sp_Rule_figures K CR) := ⟨_, _, [], O4, ⟨a4, i4, k4⟩, .nil, b_C_Rule_figures_0⟩
  have C__law_mix := ok__law_mix (P := l.prog) (w := w) (base := base) F5 g5 b5
  have C__law_pick := ok__law_pick (P := l.prog) (w := w) (base := base) F6 g6 b6 m_len C__law_mix
  have C__law_drawn_from := ok__law_drawn_from (P := l.prog) (w := w) (base := base) F7 g7 b7 m_len m_abs m_int
  have C__law_keep := ok__law_keep (P := l.prog) (w := w) (base := base) F8 g8 b8 m_tuple m_range C__law_pick
  have C__law_some_rule := ok__law_some_rule (P := l.prog) (w := w) (base := base) F9 g9 b9 m_tuple C__law_pick C__law_keep
  have C__law_whole := ok__law_whole (P := l.prog) (w := w) (base := base) F10 g10 b10 m_isinstance m_tuple
  have C_counted := ok_counted (P := l.prog) (w := w) (base := base) F11 g11 b11
  have C_kept_clause := ok_kept_clause (P := l.prog) (w := w) (base := base) F12 g12 b12 m_len m_set m_str C_counted
  have C_clauses_of := ok_clauses_of (P := l.prog) (w := w) (base := base) F13 g13 b13 C_counted C_kept_clause
  have O14 := ok_Rule___str__ (P := l.prog) (w := w) (base := base) TQ T_Rule C_clauses_of C_Rule_figures_0 F14
  have b_C_Rule___str___0 := F14.bindsN (ps := ["self"]) fun kV doc pm an cdv ct us h => match us, h with | [_], _ => rfl
  have C_Rule___str___0 : CTx l.prog w K mg base CR 4 "__str__" (sp_Rule___str__ K CR) := ⟨_, _, O14, ⟨a14, i14⟩, b_C_Rule___str___0⟩
  have O15 := ok_Rule___eq__ (P := l.prog) (w := w) (base := base) TQ T_Rule m_isinstance C_Rule_figures_0 F15
  have C__law_text := ok__law_text (P := l.prog) (w := w) (base := base) F16 g16 b16 m_str m_max m_len m_set m_int C__law_whole
  have C_is_made_of := ok_is_made_of (P := l.prog) (w := w) (base := base) F17 g17 b17 m_all
  have C_number_in := ok_number_in (P := l.prog) (w := w) (base := base) F18 g18 b18 m_len m_str m_int g_FIGURES C_is_made_of
  have C_rule_text := ok_rule_text (P := l.prog) (w := w) (base := base) F19 g19 b19 TQ T_Rule m_str C_Rule___str___0
  have C_rule_of := ok_rule_of (P := l.prog) (w := w) (base := base) F20 g20 b20 TQ T_Rule S_Rule
  have C_figures_in := ok_figures_in (P := l.prog) (w := w) (base := base) F21 g21 b21 m_len m_tuple g_MOST_FIGURE g_COUNTED_WORDS q_COUNTED_WORDS C_number_in
  have C_read_rule := ok_read_rule (P := l.prog) (w := w) (base := base) F22 g22 b22 TQ T_Rule m_enumerate C_figures_in C_rule_of C_rule_text
  have C__law_same := ok__law_same (P := l.prog) (w := w) (base := base) F23 g23 b23 m_isinstance m_tuple m_list m_all m_zip m_len m_str m_bool m_int
  have C_is_name := ok_is_name (P := l.prog) (w := w) (base := base) F24 g24 b24 m_len m_isinstance m_str g_LETTERS g_LONGEST_NAME C_is_made_of
  have C_is_rule_text := ok_is_rule_text (P := l.prog) (w := w) (base := base) F25 g25 b25 TQ T_Rule C_read_rule
  have C_is_of_sort := ok_is_of_sort (P := l.prog) (w := w) (base := base) F26 g26 b26 TQ T_Rule m_isinstance m_str g_MOST_PRICE g_MOST_DEBT C_is_rule_text C_is_number_in C_is_name
  have C_names_in := ok_names_in (P := l.prog) (w := w) (base := base) F27 g27 b27 m_zip g_FORMS q_FORMS g_NAMED_SORTS q_NAMED_SORTS
  have C_is_deed := ok_is_deed (P := l.prog) (w := w) (base := base) F28 g28 b28 TQ T_Rule m_isinstance m_str m_len m_tuple m_all m_zip m_set g_FORMS q_FORMS C_is_of_sort C_names_in
  have C__law_words := ok__law_words (P := l.prog) (w := w) (base := base) F29 g29 b29
  have C__law_shuffled := ok__law_shuffled (P := l.prog) (w := w) (base := base) F30 g30 b30 m_list m_len C__law_pick
  have C__law_pence := ok__law_pence (P := l.prog) (w := w) (base := base) F31 g31 b31 m_min C__law_pick
  have C__law_some_names := ok__law_some_names (P := l.prog) (w := w) (base := base) F32 g32 b32 m_range m_len m_set C__law_pick
  have C__law_deed := ok__law_deed (P := l.prog) (w := w) (base := base) F33 g33 b33 m_range m_len C__law_pick C__law_text C__law_some_rule C__law_pence
  have C__law_due := ok__law_due (P := l.prog) (w := w) (base := base) F34 g34 b34 m_list m_zip
  exact ok_law F35 TQ T_Rule m_range m_min m_len m_repr C__law_drawn_from C__law_some_names C__law_shuffled C__law_words C__law_deed C_is_deed C_names_in C__law_same C__law_due
end Pw
open PySem PySem.W PyProof.Rows
set_option maxHeartbeats 0 in
theorem PySem.Challenge.cw_partwares_k47_deeds_of_all_forms_holds : PySem.Challenge.rw_partwares_k47_deeds_of_all_forms.Holds := by
  w_on; o_law; k_head; (case hw => w_witness2)
  k_fill
  refine Pw.walk_ofG (l := PySem.Challenge.rw_partwares_k47_deeds_of_all_forms) (n := 63) (k := 12) (x := "_law_script") (sp := fun w => Pw.sp_law _) rfl (by decide) rfl ⟨rfl, by decide, by decide⟩ (fun w h Y => PySem.W.kIn_of Y) ?F (fun _ _ a ns hl _ hS => ⟨a, ns, rfl, hS, hl, fun _ => rfl⟩)
  case F =>
    intro w mg fa h KX G hmg
    refine' Pw.all_mk KX G hmg ?aC ?pg ?hd ?po ?sa ?mk ?kc ?n1 ?n2 ?n3 ?n4 ?n5 ?n6 ?n7 ?n8 ?n9 ?q_ca ?q_cn ?q_ct ?q_ob ?q_ne ?q_ty ?q_ic ?q_s0 ?q_b0 ?q_s1 ?q_b1 ?q_s2 ?q_b2 ?q_s3 ?q_b3 ?q_s4 ?q_b4 ?q_s5 ?q_b5 ?a0 ?l0 ?c0 ?k0 ?a1 ?l1 ?c1 ?k1 ?a2 ?l2 ?c2 ?k2 ?a3 ?l3 ?c3 ?k3 ?i3 ?d3 ?a4 ?l4 ?c4 ?k4 ?i4 ?a5 ?l5 ?c5 ?k5 ?a6 ?l6 ?c6 ?k6 ?a7 ?l7 ?c7 ?k7 ?a8 ?l8 ?c8 ?k8 ?a9 ?l9 ?c9 ?k9 ?a10 ?l10 ?c10 ?k10 ?a11 ?l11 ?c11 ?k11 ?a12 ?l12 ?c12 ?k12 ?a13 ?l13 ?c13 ?k13 ?a14 ?l14 ?c14 ?k14 ?i14 ?a15 ?l15 ?c15 ?k15 ?i15 ?a16 ?l16 ?c16 ?k16 ?a17 ?l17 ?c17 ?k17 ?a18 ?l18 ?c18 ?k18 ?a19 ?l19 ?c19 ?k19 ?a20 ?l20 ?c20 ?k20 ?a21 ?l21 ?c21 ?k21 ?a22 ?l22 ?c22 ?k22 ?a23 ?l23 ?c23 ?k23 ?a24 ?l24 ?c24 ?k24 ?a25 ?l25 ?c25 ?k25 ?a26 ?l26 ?c26 ?k26 ?a27 ?l27 ?c27 ?k27 ?a28 ?l28 ?c28 ?k28 ?a29 ?l29 ?c29 ?k29 ?a30 ?l30 ?c30 ?k30 ?a31 ?l31 ?c31 ?k31 ?a32 ?l32 ?c32 ?k32 ?a33 ?l33 ?c33 ?k33 ?a34 ?l34 ?c34 ?k34 ?a35 ?l35 ?c35 ?k35 ?z_isinstance ?z_bool ?z_int ?z_tuple ?z_all ?z_len ?z_abs ?z_range ?z_set ?z_str ?z_max ?z_enumerate ?z_list ?z_zip ?z_min ?z_repr ?y_FIGURES ?y_MOST_FIGURE ?y_COUNTED_WORDS ?x_COUNTED_WORDS ?y_LETTERS ?y_LONGEST_NAME ?y_MOST_PRICE ?y_MOST_DEBT ?y_FORMS ?s_FORMS ?x_FORMS ?x_FORMS_0 ?x_FORMS_1 ?x_FORMS_2 ?x_FORMS_3 ?x_FORMS_4 ?x_FORMS_5 ?x_FORMS_6 ?x_FORMS_7 ?x_FORMS_8 ?x_FORMS_9 ?y_NAMED_SORTS ?x_NAMED_SORTS
    (case aC => k_is); (case pg => k_is); (case hd => k_is); (case po => k_is); (case sa => k_is); (case mk => k_is); (case kc => k_is); (case n1 => k_is); (case n2 => k_is); (case n3 => k_is); (case n4 => k_is); (case n5 => k_is); (case n6 => k_is); (case n7 => k_is); (case n8 => k_is); (case n9 => k_is); (case q_ca => k_is); (case q_cn => k_is); (case q_ct => k_is); (case q_ob => k_is); (case q_ne => k_is); (case q_ty => k_is); (case q_ic => k_is); (case q_s0 => k_is); (case q_b0 => k_is); (case q_s1 => k_is); (case q_b1 => k_is); (case q_s2 => k_is); (case q_b2 => k_is); (case q_s3 => k_is); (case q_b3 => k_is); (case q_s4 => k_is); (case q_b4 => k_is); (case q_s5 => k_is); (case q_b5 => k_is); (case a0 => k_is); (case l0 => k_is); (case c0 => k_is); (case k0 => k_is); (case a1 => k_is); (case l1 => k_is); (case c1 => k_is); (case k1 => k_is); (case a2 => k_is); (case l2 => k_is); (case c2 => k_is); (case k2 => k_is); (case a3 => k_is); (case l3 => k_is); (case c3 => k_is); (case k3 => k_is); (case i3 => k_is); (case d3 => k_is); (case a4 => k_is); (case l4 => k_is); (case c4 => k_is); (case k4 => k_is); (case i4 => k_is); (case a5 => k_is); (case l5 => k_is); (case c5 => k_is); (case k5 => k_is); (case a6 => k_is); (case l6 => k_is); (case c6 => k_is); (case k6 => k_is); (case a7 => k_is); (case l7 => k_is); (case c7 => k_is); (case k7 => k_is); (case a8 => k_is); (case l8 => k_is); (case c8 => k_is); (case k8 => k_is); (case a9 => k_is); (case l9 => k_is); (case c9 => k_is); (case k9 => k_is); (case a10 => k_is); (case l10 => k_is); (case c10 => k_is); (case k10 => k_is); (case a11 => k_is); (case l11 => k_is); (case c11 => k_is); (case k11 => k_is); (case a12 => k_is); (case l12 => k_is); (case c12 => k_is); (case k12 => k_is); (case a13 => k_is); (case l13 => k_is); (case c13 => k_is); (case k13 => k_is); (case a14 => k_is); (case l14 => k_is); (case c14 => k_is); (case k14 => k_is); (case i14 => k_is); (case a15 => k_is); (case l15 => k_is); (case c15 => k_is); (case k15 => k_is); (case i15 => k_is); (case a16 => k_is); (case l16 => k_is); (case c16 => k_is); (case k16 => k_is); (case a17 => k_is); (case l17 => k_is); (case c17 => k_is); (case k17 => k_is); (case a18 => k_is); (case l18 => k_is); (case c18 => k_is); (case k18 => k_is); (case a19 => k_is); (case l19 => k_is); (case c19 => k_is); (case k19 => k_is); (case a20 => k_is); (case l20 => k_is); (case c20 => k_is); (case k20 => k_is); (case a21 => k_is); (case l21 => k_is); (case c21 => k_is); (case k21 => k_is); (case a22 => k_is); (case l22 => k_is); (case c22 => k_is); (case k22 => k_is); (case a23 => k_is); (case l23 => k_is); (case c23 => k_is); (case k23 => k_is); (case a24 => k_is); (case l24 => k_is); (case c24 => k_is); (case k24 => k_is); (case a25 => k_is); (case l25 => k_is); (case c25 => k_is); (case k25 => k_is); (case a26 => k_is); (case l26 => k_is); (case c26 => k_is); (case k26 => k_is); (case a27 => k_is); (case l27 => k_is); (case c27 => k_is); (case k27 => k_is); (case a28 => k_is); (case l28 => k_is); (case c28 => k_is); (case k28 => k_is); (case a29 => k_is); (case l29 => k_is); (case c29 => k_is); (case k29 => k_is); (case a30 => k_is); (case l30 => k_is); (case c30 => k_is); (case k30 => k_is); (case a31 => k_is); (case l31 => k_is); (case c31 => k_is); (case k31 => k_is); (case a32 => k_is); (case l32 => k_is); (case c32 => k_is); (case k32 => k_is); (case a33 => k_is); (case l33 => k_is); (case c33 => k_is); (case k33 => k_is); (case a34 => k_is); (case l34 => k_is); (case c34 => k_is); (case k34 => k_is); (case a35 => k_is); (case l35 => k_is); (case c35 => k_is); (case k35 => k_is); (case z_isinstance => k_is); (case z_bool => k_is); (case z_int => k_is); (case z_tuple => k_is); (case z_all => k_is); (case z_len => k_is); (case z_abs => k_is); (case z_range => k_is); (case z_set => k_is); (case z_str => k_is); (case z_max => k_is); (case z_enumerate => k_is); (case z_list => k_is); (case z_zip => k_is); (case z_min => k_is); (case z_repr => k_is); (case y_FIGURES => k_is); (case y_MOST_FIGURE => k_is); (case y_COUNTED_WORDS => k_is); (case x_COUNTED_WORDS => k_is); (case y_LETTERS => k_is); (case y_LONGEST_NAME => k_is); (case y_MOST_PRICE => k_is); (case y_MOST_DEBT => k_is); (case y_FORMS => k_is); (case s_FORMS => rfl); (case x_FORMS => k_is); (case x_FORMS_0 => k_is); (case x_FORMS_1 => k_is); (case x_FORMS_2 => k_is); (case x_FORMS_3 => k_is); (case x_FORMS_4 => k_is); (case x_FORMS_5 => k_is); (case x_FORMS_6 => k_is); (case x_FORMS_7 => k_is); (case x_FORMS_8 => k_is); (case x_FORMS_9 => k_is); (case y_NAMED_SORTS => k_is); (case x_NAMED_SORTS => k_is)
