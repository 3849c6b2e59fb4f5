import PyProof.Rows.All
import Wide.All
import OpenK.AllK
import Wide.FinOn
import HandS.Base
import HandS.Call
import HandS.List
import HandS.Comp
import HandS.Ends
import HandS.Iter
import HandS.Text
import HandS.Words
import HandS.WordsList
import HandS.IsInst
import HandS.Style
import HandS.Walk
import HandS.Defaults
import HandS.TupMul
import HandS.Zip
import HandS.MakeKw
import HandS.Dict
import HandS.DictComp
import HandS.Small
import HandS.SortKw
import KE.KeyNested
import KE.KDictKeyed
import KE.KDictWalk
import KE.GoesDict
import KE.DatumOrd
import KE.KDictDisplayH
import KE.DataMinKey
import HandS.TupAny
import HandS.RevTup
import HandS.OwnEq
import PyProof.InstNe
import KE.KCallOwn
import KE.KFmtOwn
import PyProof.FString
import HandS.Set
import HandS.Strs
import HandS.SetKeys
import HandS.FStr
import HandS.Text
import HandS.SetFor
import HandS.SetBool
import HandS.SortInts
import HandS.More
import PyProof.Rows.SortShellAny
import HandS.NoneIn
import HandS.Deep
import PyProof.P3In
import PySem.Challenge.RW_partwares_k27_parted_by_turns
set_option Elab.async false
set_option linter.all false
set_option maxRecDepth 100000
namespace Pw
open PySem PySem.Spec PyProof.Rows L2
/-! ### a def of the text by its promise, its address left aside -/
structure CF (P : Program) (w : World) (K : PySem.W.Frag) (mg : Str → Option Value) (base : Heap) (k : Nat) (x : Str) (ps : List Str) (sp : Sp) : Prop where
  ex : ∃ (f : Addr) (fd : FuncData), FnOk P w K mg base CX0 k f fd ps sp ∧ mg x = some (.ref f) ∧ PySem.W.keepIn K (.ref f) = true ∧ Binds K fd ps []
theorem pe_cf {X : Cx} {k : Nat} {x : Str} {ps : List Str} {sp : Sp} {e : Expr} {es : List Expr} {t : TA} {p pos : Pos} (C : CF X.prog X.w X.K X.mg X.base k x ps sp) (hr : Room k X.A) (hg : Gl X x) (ha : PA X (e :: es) t)
    (hdb : (x == ("__debug__" : Str)) = false := by decide) (he : starEach (e :: es) X.env = (false, eval e X.env) :: starEach es X.env := by rfl) (hpl : (backTo pos (starEach es X.env)).any (·.1) = false := by rfl) :
    PE X (.Call (.Name x p) (e :: es) [] pos) (tCall sp [] E0 t) := by
  obtain ⟨f, fd, F, g, kp, b⟩ := C.ex
  exact pe_call F hr hg g kp b .nil pass0 ha hdb he hpl
theorem pe_cf0 {X : Cx} {k : Nat} {x : Str} {sp : Sp} {p pos : Pos} (C : CF X.prog X.w X.K X.mg X.base k x [] sp) (hr : Room k X.A) (hg : Gl X x) (hdb : (x == ("__debug__" : Str)) = false := by decide) : PE X (.Call (.Name x p) [] [] pos) (tCall sp [] E0 tNil) := by
  obtain ⟨f, fd, F, g, kp, b⟩ := C.ex
  exact pe_call0 F hr hg g kp b .nil pass0 hdb
/-! ### the rules with their written part named (within a comprehension it must not hang on the block) -/
section
variable (K : PySem.W.Frag) {X : Cx}
theorem kk_isi (h : X.K = K := by rfl) : CallR X (.builtin "isinstance") (rIsi K) := h ▸ call_isi
theorem kk_isiT (h : X.K = K := by rfl) : CallR X (.builtin "isinstance") (rIsiT K) := h ▸ call_isiT
theorem kk_len (h : X.K = K := by rfl) : CallR X (.builtin "len") (fun xs H Q => ∃ p ys, xs = [.ref p] ∧ (SqL K H p ys ∨ SqT K H p ys) ∧ Q (.int ys.length) H) := h ▸ call_len_seq
theorem kk_list (h : X.K = K := by rfl) : CallR X (.type "list") (fun xs H Q => ∃ p ys, xs = [.ref p] ∧ (SqL K H p ys ∨ SqT K H p ys) ∧ ∀ l, H l = none → Q (.ref l) (upd H l (.lst ys))) := h ▸ call_list_of
theorem kk_tuple (h : X.K = K := by rfl) : CallR X (.type "tuple") (fun xs H Q => ∃ p ys, xs = [.ref p] ∧ ((SqL K H p ys ∧ ∀ l, H l = none → Q (.ref l) (upd H l (.tup ys))) ∨ (SqT K H p ys ∧ Q (.ref p) H))) := h ▸ call_tuple_of
theorem kk_sum (hc : X.calm = true) (h : X.K = K := by rfl) : CallR X (.builtin "sum") (rSum K) := h ▸ cr_sum hc
theorem kk_max (hc : X.calm = true) (h : X.K = K := by rfl) : CallR X (.builtin "max") (rMax K) := h ▸ cr_max hc
theorem kk_min (hc : X.calm = true) (h : X.K = K := by rfl) : CallR X (.builtin "min") (rMin K) := h ▸ cr_min hc
theorem kk_any (hc : X.calm = true) (h : X.K = K := by rfl) : CallR X (.builtin "any") (rAny K) := h ▸ cr_any hc
theorem kk_all (hc : X.calm = true) (h : X.K = K := by rfl) : CallR X (.builtin "all") (rAll K) := h ▸ cr_all hc
theorem kk_sorted (h : X.K = K := by rfl) : CallR X (.builtin "sorted") (rSorted K) := h ▸ cr_sorted
theorem kk_ixl (h : X.K = K := by rfl) : IxR X (rIxL K) := h ▸ ix_list
theorem kk_ixt (h : X.K = K := by rfl) : IxR X (rIxT K) := h ▸ ix_tup
theorem kk_sll (h : X.K = K := by rfl) : SlR X (rSlL K) := h ▸ sl_list
theorem kk_slt (h : X.K = K := by rfl) : SlR X (rSlT K) := h ▸ sl_tup
theorem kk_in (h : X.K = K := by rfl) : OpR X (compareOp .In) (rIn K false) := h ▸ op_in_seq
theorem kk_nin (h : X.K = K := by rfl) : OpR X (compareOp .NotIn) (rIn K true) := h ▸ op_notIn_seq
theorem kk_catT (h : X.K = K := by rfl) : OpR X (binaryOp .Add) (rCatT K) := h ▸ op_catT
theorem kk_eqD (hu : X.A.units + 64 < cLine) (h : X.K = K := by rfl) : OpR X (compareOp .Eq) (rEqD K) := h ▸ op_eqD hu
theorem kk_neD (hu : X.A.units + 64 < cLine) (h : X.K = K := by rfl) : OpR X (compareOp .NotEq) (rNeD K) := h ▸ op_neD hu
theorem kk_revL {e : Expr} {te : TE} {k : Nat} {p1 p2 p3 pos : Pos} (he : PE X e te) (h : X.K = K := by rfl) : PE X (.Subscript e (.Slice none none (some (.UnaryOp .USub (.Constant (.int 1) k p1) p2)) p3) pos) (tRevL K te) := h ▸ pe_revL he
end
/-! ### heaps: all as it was, but one place -/
def But (b : Addr) (H H' : Hp) : Prop := ∀ c o, c ≠ b → H c = some o → H' c = some o
theorem But.refl (b : Addr) (H : Hp) : But b H H := fun _ _ _ h => h
theorem But.trans {b : Addr} {H H1 H2 : Hp} (x : But b H H1) (y : But b H1 H2) : But b H H2 := fun c o n h => y c o n (x c o n h)
theorem But.of {b : Addr} {H H1 : Hp} (x : Same H H1) : But b H H1 := fun c o _ h => x c o h
theorem But.upd {b : Addr} {H : Hp} {o : HO} : But b H (L2.upd H b o) := fun c u n h => by
  rw [upd_ne n]
  exact h
theorem But.new {b p : Addr} {H : Hp} {o : HO} (h : H p = none) : But b H (L2.upd H p o) := fun c u _ e => by
  rw [upd_ne (ne_of_none e h)]
  exact e
theorem same_new {H : Hp} {p : Addr} {o : HO} (h : H p = none) : Same H (upd H p o) := fun b x e => by
  rw [upd_ne (ne_of_none e h)]
  exact e
theorem But.seq {K : PySem.W.Frag} {b a : Addr} {H H' : Hp} {xs : List V} (e : But b H H') (n : a ≠ b) (h : SqL K H a xs) : SqL K H' a xs := by
  rcases h with (h | ⟨o, h⟩) | h
  · exact .inl (.inl (e _ _ n h))
  · exact .inl (.inr ⟨o, e _ _ n h⟩)
  · exact .inr h
/-! ### the law's box of three numbers -/
def Box (H : Hp) (b : Addr) (n : Int) : Prop := ∃ x y z : Int, H b = some (.lst [.int x, .int y, .int z]) ∧ 0 ≤ x ∧ 0 ≤ y ∧ y ≤ 3000000000 ∧ 0 ≤ z ∧ z ≤ n
theorem Box.mono {H : Hp} {b : Addr} {n m : Int} (h : Box H b n) (l : n ≤ m) : Box H b m := by
  obtain ⟨x, y, z, h0, h1, h2, h3, h4, h5⟩ := h
  exact ⟨x, y, z, h0, h1, h2, h3, h4, by omega⟩
theorem Box.same {H H' : Hp} {b : Addr} {n : Int} (e : Same H H') (h : Box H b n) : Box H' b n := by
  obtain ⟨x, y, z, h0, h1⟩ := h
  exact ⟨x, y, z, e _ _ h0, h1⟩
theorem Box.new {H : Hp} {b p : Addr} {o : HO} {n : Int} (h : Box H b n) (e : H p = none) : Box (upd H p o) b n := h.same (same_new e)
theorem Box.ne {H : Hp} {b p : Addr} {n : Int} (h : Box H b n) (e : H p = none) : p ≠ b := fun z => by
  obtain ⟨_, _, _, h0, _⟩ := h
  rw [z, h0] at e
  cases e
section
variable {K : PySem.W.Frag}
theorem at_int {ns : List Int} {k : Int} (h0 : 0 ≤ k) (h1 : k < ns.length) : ∃ c, atI (ns.map V.int) k = some (.int c) := by
  obtain ⟨j, rfl⟩ := Int.eq_ofNat_of_zero_le h0
  have hj : j < ns.length := by omega
  refine ⟨ns[j], atI_nat ?_⟩
  rw [List.getElem?_map, List.getElem?_eq_getElem hj]
  rfl
def partsL (p m : Int) : List Int := List.replicate (p % m).toNat (p / m + 1) ++ List.replicate (m - p % m).toNat (p / m)
theorem rep1 {α : Type} (k : Nat) (x : α) : (List.replicate k [x]).flatten = List.replicate k x := by
  induction k with
  | zero => rfl
  | succ n ih => rw [List.replicate_succ, List.flatten_cons, ih]; rfl
theorem size_small {n : Nat} (h : n ≤ 1000) : n ≤ sizeLine := Nat.le_of_lt (small1000 h)
theorem iteN {c A B : Prop} [Decidable c] (hc : ¬ c) (h : B) : if decide c = true then A else B := by
  rw [decide_eq_false hc]
  exact iteF h
theorem iteY {c A B : Prop} [Decidable c] (hc : c) (h : A) : if decide c = true then A else B := by
  rw [decide_eq_true hc]
  exact iteT h
theorem same_but {b : Addr} {H0 H1 H2 : Hp} (s : Same H0 H1) (n : H0 b = none) (t : But b H1 H2) : Same H0 H2 := fun c o h => t c o (fun e => by rw [e, n] at h; cases h) (s c o h)
theorem dpAll_ints {H : Hp} : ∀ ns : List Int, DpAll K H (ns.map V.int) (ns.map PyData.int)
  | [] => .nil
  | n :: r => .cons (.int n) (dpAll_ints r)
theorem dp_ints {H : Hp} {a : Addr} {ns : List Int} (h : SqL K H a (ns.map V.int)) : Dp K H (.ref a) (.list (ns.map PyData.int)) := .lst h (dpAll_ints ns)
theorem lay_ints : ∀ ns : List Int, PyData.canLayAll0 (ns.map PyData.int) = true
  | [] => by simp [PyData.canLayAll0]
  | n :: r => by simp [PyData.canLayAll0, PyData.canLay0, lay_ints r]
theorem depth_ints : ∀ ns : List Int, PyData.depthAll (ns.map PyData.int) ≤ 1
  | [] => by simp [PyData.depthAll]
  | n :: r => by
    have h := depth_ints r
    simp only [List.map_cons, PyData.depthAll, PyData.depth]
    omega
theorem sh_ints (ns : List Int) : SeqAt.shaped (.list (ns.map PyData.int)) = true := by
  have h1 := depth_ints ns
  have h2 : PyData.depth (.list (ns.map PyData.int)) ≤ 64 := by
    simp only [PyData.depth]
    omega
  show (PyData.canLay0 (.list (ns.map PyData.int)) && decide (PyData.depth (.list (ns.map PyData.int)) ≤ 64)) = true
  rw [Bool.and_eq_true]
  exact ⟨by simp only [PyData.canLay0]; exact lay_ints ns, decide_eq_true h2⟩
theorem eqv_same (ns : List Int) : PyData.eqv (.list (ns.map PyData.int)) (.list (ns.map PyData.int)) = true := SeqAt.eqv_refl _ (SeqAt.canLay_of_shaped (sh_ints ns))

theorem sum_rep (k : Nat) (x : Int) : (List.replicate k x).sum = k * x := by
  induction k with
  | zero => simp
  | succ n ih =>
    rw [List.replicate_succ, List.sum_cons, ih, Int.natCast_add, Int.add_mul]
    omega
theorem parts_len {p m : Int} (hm : 1 ≤ m) : ((partsL p m).length : Int) = m := by
  have hr0 := Int.emod_nonneg p (show m ≠ 0 by omega)
  have hr1 := Int.emod_lt_of_pos p (show 0 < m by omega)
  unfold partsL
  rw [List.length_append, List.length_replicate, List.length_replicate]
  omega
theorem parts_sum {p m : Int} (hm : 1 ≤ m) : (partsL p m).sum = p := by
  have hr0 := Int.emod_nonneg p (show m ≠ 0 by omega)
  have hr1 := Int.emod_lt_of_pos p (show 0 < m by omega)
  have e := Int.mul_ediv_add_emod p m
  unfold partsL
  rw [List.sum_append, sum_rep, sum_rep, Int.toNat_of_nonneg hr0, Int.toNat_of_nonneg (by omega), Int.sub_mul, Int.mul_add]
  omega
theorem parts_mem {p m x : Int} (h : x ∈ partsL p m) : x = p / m + 1 ∨ x = p / m := by
  unfold partsL at h
  rcases List.mem_append.mp h with h | h
  · exact .inl (List.eq_of_mem_replicate h)
  · exact .inr (List.eq_of_mem_replicate h)
theorem parts_fall (p m : Int) : (partsL p m).Pairwise (fun a b => b ≤ a) := by
  unfold partsL
  refine List.pairwise_append.mpr ⟨List.pairwise_replicate.mpr (.inr (Int.le_refl _)), List.pairwise_replicate.mpr (.inr (Int.le_refl _)), fun a ha b hb => ?_⟩
  rw [List.eq_of_mem_replicate ha, List.eq_of_mem_replicate hb]
  omega
theorem parts_sorted {p m : Int} {ns : List Int} (h : ns.Perm (partsL p m)) (hs : ns.Pairwise (· ≤ ·)) : ns.reverse = partsL p m := by
  refine List.Perm.eq_of_pairwise (le := fun a b => b ≤ a) (fun x y _ _ h1 h2 => Int.le_antisymm h2 h1) ?_ (parts_fall p m) ((List.reverse_perm ns).trans h)
  exact List.pairwise_reverse.mpr hs
theorem ends_of {ns : List Int} (h : 0 < ns.length) : ∃ x y, x ∈ ns ∧ y ∈ ns ∧ atI (ns.map V.int) 0 = some (.int x) ∧ atI (ns.map V.int) (-1) = some (.int y) := by
  cases ns with
  | nil => cases h
  | cons x r =>
    refine ⟨x, (x :: r).getLast (List.cons_ne_nil _ _), List.mem_cons_self, List.getLast_mem _, atI_nat (j := 0) rfl, ?_⟩
    have hz : ((x :: r).map V.int) = ((x :: r).dropLast.map V.int) ++ [.int ((x :: r).getLast (List.cons_ne_nil _ _))] := by
      rw [← List.map_singleton, ← List.map_append, List.dropLast_concat_getLast]
    rw [hz]
    exact atI_last _ _
theorem all_true (n : Nat) : (List.replicate n true).all id = true := by
  induction n with
  | zero => rfl
  | succ k ih => rw [List.replicate_succ, List.all_cons, ih]; rfl
theorem pick6 {r x : Int} (h0 : 0 ≤ r) (h1 : r < 6) (x0 : 0 ≤ x) (x1 : x ≤ 100) : ∃ c : Int, atI [V.int 0, .int 1, .int 50, .int 99, .int 100, .int x] r = some (.int c) ∧ 0 ≤ c ∧ c ≤ 100 := by
  have h : r = 0 ∨ r = 1 ∨ r = 2 ∨ r = 3 ∨ r = 4 ∨ r = 5 := by omega
  rcases h with rfl | rfl | rfl | rfl | rfl | rfl
  · exact ⟨0, rfl, by decide, by decide⟩
  · exact ⟨1, rfl, by decide, by decide⟩
  · exact ⟨50, rfl, by decide, by decide⟩
  · exact ⟨99, rfl, by decide, by decide⟩
  · exact ⟨100, rfl, by decide, by decide⟩
  · exact ⟨x, rfl, x0, x1⟩
end
end Pw
namespace Pw
open PySem PySem.Spec PyProof.Rows L2
/-! ### defs that are called where no repr is under way (so that the repr of a list, of a tuple, is its text) -/
structure FnG (P : Program) (w : World) (K : PySem.W.Frag) (mg : Str → Option Value) (base : Heap) (k : Nat) (f : Addr) (fd : FuncData) (ps : List Str) (sp : Sp) : Prop where
  many : ∀ vs H Q E, sp vs H Q E → vs.length = ps.length
  runs : ∀ (A : Around) (out : List Env) (s : Shared) (H : Hp) (ar : Args) (us : List Value) (vs : List V) (Q : VK) (E : XK), Room k A → A.guards = some [] → Env0 P w K mg base A out s H →
    BindsTo s fd ar (ps.zip us) → Vals vs us → sp vs H Q E → codeAny (model P w) A (.call (.ref f) ar) (CR CX0 out P w H s Q E) s
theorem FnG.of {P : Program} {w : World} {K : PySem.W.Frag} {mg : Str → Option Value} {base : Heap} {k : Nat} {f : Addr} {fd : FuncData} {ps : List Str} {sp : Sp} (F : FnOk P w K mg base CX0 k f fd ps sp) : FnG P w K mg base k f fd ps sp :=
  ⟨F.len, fun A out s H ar us vs Q E hr _ => F.run A out s H ar us vs Q E hr⟩
theorem guards_deeper {A : Around} {env : Env} (h : A.guards = some []) : (A.deeper env).guards = some [] := h
theorem okG {P : Program} {w : World} {K : PySem.W.Frag} {mg : Str → Option Value} {base : Heap} {x qual : Str} {st : Stmt} {f : Addr} {fd : FuncData} {N ps : List Str} {k : Nat} {sp : Sp} (F : Fun K x qual st f fd) (S : FnScope N ps (defScope st))
    (many : ∀ vs H Q E, sp vs H Q E → vs.length = ps.length)
    (walk : ∀ (cdv : Value) (A : Around) (out : List Env) (s : Shared) (H : Hp) (vs : List V) (Q : VK) (E : XK), Room k (A.deeper (envOfC qual (defScope st) s.heap.objs.size f cdv)) → (A.deeper (envOfC qual (defScope st) s.heap.objs.size f cdv)).guards = some [] → sp vs H Q E →
      ∃ t, PSs (cxOf CX0 P w K mg base N qual (defScope st) f cdv A out s H E).nox (defBody st) t ∧ t { nx := fun _ H' => Q .non H', rt := Q } (start N vs) H) : FnG P w K mg base (k + 1) f fd ps sp := by
  obtain ⟨oc, od, kV, dc, pm, an, cv, ct, ol, rfl, look, code⟩ := F.ex
  constructor
  · exact many
  · intro A out s H ar us vs Q E room gd env0 binds rel want
    have inK : K.In s.heap := env0.mod.kin.keeps (fun b o e => And.left (env0.bs b o e))
    have noLim : s.heap.NoLimit := env0.mod.nolimit.keeps (fun b o e => And.left (env0.bs b o e))
    apply codeAny_call_function room.depth (inK _ _ look) rfl S.co S.gen rfl (PySem.W.codeRec_of inK code)
    apply binds
    apply wpAny_newFunctionEnv_cells S.kind
    · rintro ⟨n, v⟩ hy
      cases S.par n (List.of_mem_zip hy).1 with
      | inl q => exact Or.inl q
      | inr q => exact Or.inr ⟨q, PySem.W.cellsFrom_some _ _ _ (Or.inl q)⟩
    · intro env he s1 inCall
      cases he
      refine And.intro (noLim.keeps inCall.toInCall.keep) (codeAny_func ?_)
      obtain ⟨t, term, reading⟩ := walk cv A out s H vs Q E (room.deeper _) (guards_deeper gd) want
      have start : Inv (cxOf CX0 P w K mg base N qual (defScope st) f cv A out s H E) [] (L2.start N vs) H s1 := inv_start S room.hd env0 (many _ _ _ _ want) rel inCall
      apply wpAny_mono (term.nox.run [] s1 (L2.start N vs) H _ start reading)
      · intro fl s' told
        cases fl with
        | ret u =>
          obtain ⟨v, σ', H', J, rv, q⟩ := told
          exact ⟨v, H', J.os, J.bare, J.base, J.hok, rv, q⟩
        | next =>
          obtain ⟨σ', H', J, q⟩ := told
          exact ⟨V.non, H', J.os, J.bare, J.base, J.hok, rfl, q⟩
        | brk => exact (And.right (Exists.choose_spec (Exists.choose_spec told))).elim
        | cont => exact (And.right (Exists.choose_spec (Exists.choose_spec told))).elim
      · intro e s' told
        exact told
structure CG (P : Program) (w : World) (K : PySem.W.Frag) (mg : Str → Option Value) (base : Heap) (k : Nat) (x : Str) (ps : List Str) (sp : Sp) : Prop where
  ex : ∃ (f : Addr) (fd : FuncData), FnG P w K mg base k f fd ps sp ∧ mg x = some (.ref f) ∧ PySem.W.keepIn K (.ref f) = true ∧ Binds K fd ps []
theorem CF.g {P : Program} {w : World} {K : PySem.W.Frag} {mg : Str → Option Value} {base : Heap} {k : Nat} {x : Str} {ps : List Str} {sp : Sp} (C : CF P w K mg base k x ps sp) : CG P w K mg base k x ps sp := by
  obtain ⟨f, fd, F, r⟩ := C.ex
  exact ⟨f, fd, FnG.of F, r⟩
theorem pe_cg {X : Cx} {k : Nat} {x : Str} {ps : List Str} {sp : Sp} {e : Expr} {es : List Expr} {t : TA} {p pos : Pos} (C : CG X.prog X.w X.K X.mg X.base k x ps sp) (hr : Room k X.A) (gd : X.A.guards = some []) (hg : Gl X x) (ha : PA X (e :: es) t)
    (hdb : (x == ("__debug__" : Str)) = false := by decide) (he : starEach (e :: es) X.env = (false, eval e X.env) :: starEach es X.env := by rfl) (hpl : (backTo pos (starEach es X.env)).any (·.1) = false := by rfl) :
    PE X (.Call (.Name x p) (e :: es) [] pos) (tCall sp [] E0 t) := by
  obtain ⟨f, fd, F, g, kp, b⟩ := C.ex
  constructor
  intro pins s σ H Q I h
  apply wpAny_Call_Name_kw (ld_glob I hg g ?_ hdb)
  apply PySem.W.callWith_K (h₀ := X.base) I.ok.mod.kin kp (thn (ha.run pos pins s σ H _ I h) ?_) he hpl
  rintro us s1 ⟨vs, H1, I1, r, q⟩
  refine ⟨I1.kIn, wpAny_call (codeAny_mono (F.runs X.A X.stack s1 H1 ⟨us, []⟩ (us ++ []) (vs ++ []) Q E0 hr gd I1.env0 (b s1 us I1.kIn ?_) (r.append .nil) q) ?_)⟩
  · have hl := F.many _ _ _ _ q
    rw [(r.append .nil).length] at hl
    exact hl
  · intro res s' told
    cases res with
    | error e => exact told.elim
    | ok fl =>
      cases fl with
      | ret u => exact I1.after told
      | next => exact told.elim
      | brk => exact told.elim
      | cont => exact told.elim
/-! ### repr of data -/
def rRepr (K : PySem.W.Frag) : List V → Hp → VK → Prop := fun xs H Q => ∃ (x : V) (d : PyData), xs = [x] ∧ Dp K H x d ∧ d.showable = true ∧ d.shown.length ≤ sizeLine ∧ d.depth ≤ 60 ∧ d.hasDict = false ∧ Q (.str d.shown) H
theorem kk_repr (K : PySem.W.Frag) {X : Cx} (gd : X.A.guards = some []) (hu : X.A.units + 64 < cLine) (h : X.K = K := by rfl) : CallR X (.builtin "repr") (rRepr K) := by
  subst h
  intro pins s σ H xs us Q I r want
  obtain ⟨x, d, rfl, hd, hs, hz, hp, hn, q⟩ := want
  obtain ⟨u, rfl, ru⟩ := vals1 r
  cases hd with
  | non =>
    cases (show u = Value.none from ru)
    simp only [PyData.shown] at q
    exact PySem.P.repr_of_none ⟨.str _, H, I.tok _, ⟨_, rfl⟩, q⟩
  | bl b =>
    cases (show u = Value.bool b from ru)
    simp only [PyData.shown] at q
    exact PySem.P.repr_of_bool ⟨.str _, H, I.tok _, ⟨_, rfl⟩, q⟩
  | int i =>
    obtain ⟨t, e⟩ := (show ∃ t, u = Value.int i t from ru)
    cases e
    simp only [PyData.shown] at q
    exact PySem.P.repr_of_int (by simpa [PyData.showable] using hs) ⟨.str _, H, I.tok _, ⟨_, rfl⟩, q⟩
  | str y =>
    obtain ⟨t, e⟩ := (show ∃ t, u = Value.str y t from ru)
    cases e
    simp only [PyData.shown] at q hz
    exact PySem.P.repr_of_str ⟨.str _, H, I.tok _, ⟨_, rfl⟩, q⟩ hz
  | lst a b =>
    obtain ⟨as, rd⟩ := Dp.reads I _ _ u (.lst a b) ru
    cases ru
    exact repr_of_reads' rd hs (fun z => by rw [hn] at z; cases z) gd (by omega) (fun _ _ e => e) (fun h' t tk keep => ⟨.str _, H, I.kept keep, ⟨_, rfl⟩, q⟩) hz
  | tup a b =>
    obtain ⟨as, rd⟩ := Dp.reads I _ _ u (.tup a b) ru
    cases ru
    exact repr_of_reads' rd hs (fun z => by rw [hn] at z; cases z) gd (by omega) (fun _ _ e => e) (fun h' t tk keep => ⟨.str _, H, I.kept keep, ⟨_, rfl⟩, q⟩) hz
/-! ### the law's call, for such a def -/
theorem law_callG {P : Program} {w : World} {K : PySem.W.Frag} {mg mb : Str → Option Value} {k : Nat} {fa a : Addr} {fd : FuncData} {x : Str} {sp : Sp} {s₁ : Shared} {vs : List Value} {ns : List Int}
    (inK : K.In s₁.heap) (nsM : s₁.heap.Ns mainGlobals mg) (nsB : s₁.heap.Ns builtinsNs mb) (boot : ∀ y : Str, y ≠ "__name__" → mb y = bootBuiltins y) (lim : s₁.heap.NoLimit) (gens : s₁.gens = #[])
    (at_a : s₁.heap.get? a = some { cls := .type "list", data := .seq vs.toArray }) (areI : IntsAre vs ns) (fits : ns.length ≤ sizeLine) (room : Room k callerA)
    (F : ∀ base : Heap, K.In base → base.Ns mainGlobals mg → FnG P w K mg base k fa fd [x] sp) (bind : ∀ (s : Shared) (u : Value), BindsTo s fd ⟨[u], []⟩ [(x, u)])
    (want : ∀ H : Hp, Only H → SqL K H a (ns.map V.int) → sp [.ref a] H (fun v _ => v = .bl true) fun _ _ _ => False) :
    codeAny (model P w) callerA (.call (.ref fa) ⟨[.ref a], []⟩) (fun r s' => r = .ok (.ret (.bool true)) ∧ OldK s₁.heap s'.heap ∧ s'.os = s₁.os ∧ AllBare s'.gens) s₁ := by
  have many := areI.length
  have goes : ∀ H : Hp, Only H → SqL K H a (ns.map V.int) → HOk P w H s₁.heap → (∀ b, H b ≠ none → b = a) → (H a ≠ none → K.lookup a = none) →
      codeAny (model P w) callerA (.call (.ref fa) ⟨[.ref a], []⟩) (fun r s' => r = .ok (.ret (.bool true)) ∧ OldK s₁.heap s'.heap ∧ s'.os = s₁.os ∧ AllBare s'.gens) s₁ := by
    intro H only isL ok one notK
    have free : ∀ {b : Addr}, b ≠ a → H b = none := by
      intro b nb
      cases hb : H b with
      | none => rfl
      | some u => exact absurd (one b (by rw [hb]; simp)) nb
    have dictFree : ∀ {b : Addr} {o : Obj} {es : Array DictEntry} {ep : Nat}, s₁.heap.get? b = some o → o.data = .dict es ep → H b = none := by
      intro b o es ep e dd
      refine free (fun z => ?_)
      rw [z, at_a] at e
      cases e
      cases (show Data.seq vs.toArray _ = Data.dict es ep from dd)
    have nsH : ∀ {b : Addr} {m : Str → Option Value}, s₁.heap.Ns b m → (hidT s₁.heap H).Ns b m := by
      rintro b m ⟨o, es, ep, e, dd, rr⟩
      exact ⟨o, es, ep, hidT_get e (dictFree e dd), dd, rr⟩
    have inH : K.In (hidT s₁.heap H) := by
      intro b o e
      refine hidT_get (inK b o e) ?_
      cases hb : H b with
      | none => rfl
      | some u =>
        have ba := one b (by rw [hb]; simp)
        rw [ba] at hb e
        rw [notK (by rw [hb]; simp)] at e
        cases e
    have modH : Mod K mg (hidT s₁.heap H) := by
      obtain ⟨mc, l1, l2⟩ := lim
      exact ⟨inH, nsH nsM, ⟨mb, nsH nsB, boot⟩, ⟨mc, nsH l1, l2⟩⟩
    have env : Env0 P w K mg (hidT s₁.heap H) callerA [] s₁ H := by
      refine ⟨rfl, modH, fun b o e => of_hidT e, Nat.le_of_eq (hidT_size _ _), trivial, ?_, ok, .of_eq gens⟩
      intro b hb
      cases hb
    apply codeAny_mono ((F _ inH (nsH nsM)).runs callerA [] s₁ H ⟨[.ref a], []⟩ [.ref a] [.ref a] _ _ room rfl env (bind s₁ (.ref a)) (.cons rfl .nil) (want H only isL))
    intro res s' told
    cases res with
    | error e => exact told.elim
    | ok fl =>
      cases fl with
      | next => exact told.elim
      | brk => exact told.elim
      | cont => exact told.elim
      | ret u =>
        obtain ⟨v, H', os, bare, un, ok', rel, qv⟩ := told
        cases (show v = .bl true from qv)
        cases (show u = Value.bool true from rel)
        refine ⟨rfl, OldK.of_keep (fun b o e => ?_), os, bare⟩
        cases hb : H b with
        | none => exact un.keep b o e hb (fun z => by cases z) (fun z => by cases z)
        | some u2 =>
          rcases only b with z | ⟨ob, xs, z⟩
          · rw [hb] at z
            cases z
          · have e1 := And.left (ok b _ z)
            have e2 := And.left (ok' b _ (un.frzs b ob _ z))
            rw [e] at e1
            cases e1
            exact e2
  cases hk : K.lookup a with
  | some o =>
    have e := inK a o hk
    rw [at_a] at e
    cases e
    apply goes (fun _ => none)
    · exact fun _ => Or.inl rfl
    · exact Or.inr ⟨_, vs.toArray, _, hk, rfl, rfl, rfl, by rw [List.size_toArray, many]; exact fits, by simpa using vals_ints areI⟩
    · intro b u z
      cases (show (none : Option HO) = some u from z)
    · exact fun b z => absurd rfl z
    · exact fun z => absurd rfl z
  | none =>
    apply goes (fun b => if b = a then some (.frz { cls := .type "list", data := .seq vs.toArray } (.lst (ns.map V.int))) else none)
    · intro b
      by_cases hb : b = a
      · exact Or.inr ⟨_, _, if_pos hb⟩
      · exact Or.inl (if_neg hb)
    · exact Or.inl (Or.inr ⟨{ cls := .type "list", data := .seq vs.toArray }, if_pos rfl⟩)
    · intro b u z
      by_cases hb : b = a
      · have z' := (if_pos hb).symm.trans z
        cases z'
        rw [hb]
        exact ⟨at_a, by rw [List.length_map]; exact fits, vs, _, vals_ints areI, at_a⟩
      · cases (if_neg hb).symm.trans z
    · intro b z
      by_cases hb : b = a
      · exact hb
      · exact absurd (if_neg hb) z
    · exact fun _ => hk
theorem walk_ofG {l : PySem.W.OpenLaw} {n k : Nat} {q : Program} {loose : List Str} {XP : (Str → Option Value) → Heap → Prop} {YP : World → Heap → Prop} {d : DefRec} {K : Params → PySem.W.Frag} {sp : World → Sp} {x : Str}
    (hn : l.most = some n) (hn2 : n ≤ sizeLine) (hdf : d.params.defaults = []) (hr : Room k callerA) (hY : ∀ (w : World) (h : Heap), YP w h → (K w.params).In h)
    (F : ∀ (w : World) (mg : Str → Option Value) (fa : Addr) (h : Heap), (K w.params).In h → h.Ns mainGlobals mg → mg d.name = some (.ref fa) →
      ∃ fd : FuncData, (∀ (s : Shared) (u : Value), BindsTo s fd ⟨[u], []⟩ [(x, u)]) ∧ ∀ base : Heap, (K w.params).In base → base.Ns mainGlobals mg → FnG l.prog w (K w.params) mg base k fa fd [x] (sp w))
    (hsp : ∀ (w : World) (H : Hp) (a : Addr) (ns : List Int), ns.length ≤ n → Only H → SqL (K w.params) H a (ns.map V.int) → sp w [.ref a] H (fun v _ => v = .bl true) fun _ _ _ => False) :
    PySem.W.WalkO q loose XP YP l.row.toRowW d [] (fun f vs => PySem.call f vs) := by
  apply Att.attach_call hn hdf
  intro w s₀ s₁ mg mb fa o pm cd doc a vs ns G Y ho hd hcd hmg hobj hints hlen hg
  obtain ⟨fd, hb, hF⟩ := F w mg fa _ (hY w _ Y) G.T.g hmg
  exact law_callG (hY w _ Y) G.T.g G.T.b G.T.builtins G.T.nolimit hg hobj hints (Nat.le_trans hlen hn2) hr hF hb (fun H hO hS => hsp w H a ns hlen hO hS)
/-! ### texts and data -/
theorem op_mul_str {X : Cx} : OpR X (binaryOp .Mult) (fun x y H Q => ∃ (z : Str) (k : Int), x = .str z ∧ y = .int k ∧ MulOk z k ∧ Q (.str (Txt.mul z k)) H) := by
  intro pins s σ H x y v u Q I rx ry h
  obtain ⟨z, k, rfl, rfl, ok, q⟩ := h
  obtain ⟨t, rfl⟩ := rx
  obtain ⟨t', rfl⟩ := ry
  exact SB.mul ok fun t' tk => ⟨.str _, H, I.tok _, ⟨_, rfl⟩, q⟩
theorem len_app (x y : Str) : (x ++ y).length = x.length + y.length := by
  rw [TL.len_tl, TL.tl_append, List.length_append, ← TL.len_tl, ← TL.len_tl]
def tyD : PyData → String
  | .none => "NoneType"
  | .bool _ => "bool"
  | .int _ => "int"
  | .str _ => "str"
  | .list _ => "list"
  | .tuple _ => "tuple"
  | .dict _ => "dict"
theorem ty_of_dp {K : PySem.W.Frag} {H : Hp} {x : V} {d : PyData} (h : Dp K H x d) : TyX K H x (.type (tyD d)) := by
  cases h with
  | non => exact .base .non
  | bl b => exact .base (.bl b)
  | int i => exact .base (.int i)
  | str z => exact .base (.str z)
  | lst a _ =>
    rcases a with (a | ⟨o, a⟩) | ⟨o, its, n, a, c, _⟩
    · exact .base (.lst a)
    · exact .base (.frz a)
    · exact .kList a c
  | tup a _ =>
    rcases a with (a | ⟨o, a⟩) | ⟨o, its, n, a, c, _⟩
    · exact .base (.tup a)
    · exact .fTuple a
    · exact .kTuple a c
theorem seqT_same {K : PySem.W.Frag} {H H' : Hp} {a : Addr} {xs : List V} (e : Same H H') (h : SqT K H a xs) : SqT K H' a xs := by
  rcases h with (h | ⟨o, h⟩) | h
  · exact .inl (.inl (e _ _ h))
  · exact .inl (.inr ⟨o, e _ _ h⟩)
  · exact .inr h
mutual
theorem dp_same {K : PySem.W.Frag} {H H' : Hp} (e : Same H H') : ∀ {x : V} {d : PyData}, Dp K H x d → Dp K H' x d
  | _, _, .non => .non
  | _, _, .bl b => .bl b
  | _, _, .int i => .int i
  | _, _, .str z => .str z
  | _, _, .lst a b => .lst (e.seq a) (dpAll_same e b)
  | _, _, .tup a b => .tup (seqT_same e a) (dpAll_same e b)
theorem dpAll_same {K : PySem.W.Frag} {H H' : Hp} (e : Same H H') : ∀ {xs : List V} {ds : List PyData}, DpAll K H xs ds → DpAll K H' xs ds
  | _, _, .nil => .nil
  | _, _, .cons a b => .cons (dp_same e a) (dpAll_same e b)
end
/-- the heap without the place b -/
def wo (b : Addr) (H : Hp) : Hp := fun c => if c = b then none else H c
theorem wo_sub (b : Addr) (H : Hp) : Same (wo b H) H := fun c o h => by
  unfold wo at h
  split at h
  · cases h
  · exact h
theorem wo_but {b : Addr} {H H' : Hp} (t : But b H H') : Same (wo b H) (wo b H') := fun c o h => by
  unfold wo at h ⊢
  split at h
  · cases h
  · rename_i n
    rw [if_neg n]
    exact t c o n h
theorem wo_same {b : Addr} {H H' : Hp} (t : Same H H') : Same (wo b H) (wo b H') := wo_but (But.of t)
theorem wo_at {b c : Addr} {H : Hp} {o : HO} (n : c ≠ b) (h : H c = some o) : wo b H c = some o := by
  unfold wo
  rw [if_neg n]
  exact h
def Asc (s : Str) : Prop := ∀ c ∈ TL.tl s, c < 128
theorem Asc.app {x y : Str} (hx : Asc x) (hy : Asc y) : Asc (x ++ y) := fun c hc => by
  rw [TL.tl_append] at hc
  rcases List.mem_append.mp hc with h | h
  · exact hx c h
  · exact hy c h
theorem Asc.cut {x : Str} {lo hi : Option Int} (hx : Asc x) : Asc (cutS x lo hi) := fun c hc => hx c (List.mem_of_mem_drop (List.mem_of_mem_take hc))
theorem Asc.one {c : Nat} (h : c < 128) : Asc ⟨#[c]⟩ := fun d hd => by
  rw [List.mem_singleton.mp (show d ∈ [c] from hd)]
  exact h
/-! ### kinds of data -/
def isT (T t : String) : Bool := decide (t = T) || (decide (T = "int") && decide (t = "bool"))
abbrev isK (T : String) (d : PyData) : Bool := isT T (tyD d)
theorem kit_t : ∀ t ∈ ["NoneType", "bool", "int", "str", "list", "tuple", "dict"], ∀ T ∈ ["int", "bool", "str", "list", "tuple"], kitB t T = some (isT T t) := by decide +kernel
theorem ty_mem (d : PyData) : tyD d ∈ ["NoneType", "bool", "int", "str", "list", "tuple", "dict"] := by
  cases d <;> simp [tyD]
theorem kit_d {K : PySem.W.Frag} {T : String} (hT : T ∈ ["int", "bool", "str", "list", "tuple"]) (d : PyData) : PySem.W.kitOne K (.type (tyD d)) (.type T) = some (isK T d) := kit_ty (kit_t _ (ty_mem d) T hT)
theorem sh_int (i : Int) : SeqAt.shaped (.int i) = true := by
  show (PyData.canLay0 (.int i) && decide (PyData.depth (.int i) ≤ 64)) = true
  simp [PyData.canLay0, PyData.depth]
theorem tuple_mul1 (l : Addr) (items : Array Value) (n : Nat) (dd : Option Addr) (sl : Array (Option Value)) (u : Tok) (hne : items.isEmpty = false) :
    Meets (Builtin.«tuple.__mul__» ⟨[.ref l, .int 1 u], []⟩) (fun _ R s => s.heap.get? l = some { cls := .type "tuple", dict := dd, data := .seq items n, slots := sl } ∧ R (.ok (.ret (Value.ref l))) s) :=
  .of_wp fun prog w A R s h => by
    obtain ⟨hp, g, d, tk, os⟩ := s
    obtain ⟨hl, h⟩ := h
    have f1 := AutoSeq1.idx_int
    wp_walk using wpAny_loadPart' hl
    exact ⟨_, rfl, h⟩
theorem op_rep1 {X : Cx} : OpR X (binaryOp .Mult) (fun x y H Q => ∃ (l : Addr) (xs : List V), x = .ref l ∧ y = .int 1 ∧ SqT X.K H l xs ∧ xs ≠ [] ∧ Q (.ref l) H) := by
  intro pins s σ H x y v u Q I rx ry h
  obtain ⟨l, xs, rfl, rfl, hT, hne, q⟩ := h
  cases rx
  obtain ⟨t, rfl⟩ := ry
  obtain ⟨its, r, ⟨⟨cls, dd, data, sl⟩, ho, hc, n, hd⟩, hs⟩ := I.tuple hT
  simp only at hc hd
  subst hc hd
  have hi : its.toArray.isEmpty = false := by
    cases its with
    | nil => exact absurd (List.eq_nil_of_length_eq_zero (r.length.trans rfl)) hne
    | cons a b => rfl
  refine wpAny_binaryOp_repeat_ref (T := "tuple") (U := "int") (by decide) ⟨_, ho, rfl⟩ (fun s' => typeIs_int s' 1 t) noFill_tuple_mul F.fills_int_mul F.slot_int_rmul repeat_tuple F.slot_int_index.lookup
    (call_meets F.slot_int_rmul (typeIs_int s 1 t) F.entry_int_rmul (F.args_int_rmul_2 _ _) (int_rmul_tuple 1 t l its.toArray n dd sl)
      ⟨ho, rfl, ⟨_, ho, rfl⟩, call_meets F.slot_tuple_mul ⟨_, ho, rfl⟩ F.entry_tuple_mul (F.args_tuple_mul_2 _ _) (tuple_mul1 l its.toArray n dd sl t hi) ⟨ho, ?_⟩⟩)
  exact ⟨.ref l, H, I, rfl, q⟩
def rRepA (K : PySem.W.Frag) : R2 := fun x y H Q => rRepT K x y H Q ∨ ∃ (l : Addr) (xs : List V), x = .ref l ∧ y = .int 1 ∧ SqT K H l xs ∧ xs ≠ [] ∧ Q (.ref l) H
theorem kk_repA (K : PySem.W.Frag) {X : Cx} (h : X.K = K := by rfl) : OpR X (binaryOp .Mult) (rRepA K) := h ▸ OpR.or op_repT op_rep1
/-! ### classes: a method, the making of an instance, by their promises -/
structure CMt (P : Program) (w : World) (K : PySem.W.Frag) (mg : Str → Option Value) (base : Heap) (C : Addr) (k : Nat) (m : Str) (ps : List Str) (dvs : List V) (sp : Sp) : Prop where
  ex : ∃ (f : Addr) (fd : FuncData) (ds : List Value), FnOk P w K mg base CX0 k f fd ps sp ∧ Meth K C m f ∧ Vals dvs ds ∧ Binds K fd ps ds
structure CMk (P : Program) (w : World) (K : PySem.W.Frag) (mg : Str → Option Value) (base : Heap) (C : Addr) (k : Nat) (x : Str) (ps : List Str) (dvs : List V) (sp : Sp) : Prop where
  ex : ∃ (f : Addr) (fd : FuncData) (ds : List Value), FnOk P w K mg base CX0 k f fd ps sp ∧ Mk K C f ∧ mg x = some (.ref C) ∧ Vals dvs ds ∧ Binds K fd ps ds
section
variable {X : Cx} {k : Nat} {C : Addr} {x m : Str} {ps : List Str} {dvs : List V} {sp : Sp} {p pos apos : Pos} {e o : Expr} {es : List Expr} {ta : TE} {t : TA}
theorem pe_mt {pl : Sem Bool} (M : CMt X.prog X.w X.K X.mg X.base C k m ps dvs sp) (c : Cls X.K C) (hr : Room k X.A) (he : PE X o ta) (ha : PA X (e :: es) t)
    (hst : starEach (e :: es) X.env = (false, eval e X.env) :: starEach es X.env := by rfl) (hpl : (backTo pos (starEach es X.env)).any (·.1) = false := by rfl)
    (ht : eval (.Call (.Attribute o m apos) (e :: es) [] pos) X.env = (do
      let ov ← eval o X.env
      standAt apos.atName
      let (f, first) ← holding [ov] (getMethod ov m pl)
      callWith pos f first (backTo pos (starEach (e :: es) X.env)) (backToKw pos (keywordEach [] X.env))) := by rfl) :
    PE X (.Call (.Attribute o m apos) (e :: es) [] pos) (tMeth C m sp dvs E0 ta t) := by
  obtain ⟨f, fd, ds, F, me, vd, b⟩ := M.ex
  exact pe_meth (pl := pl) he c me F hr b vd pass0 ha hst hpl ht
theorem pe_mt0 {pl : Sem Bool} (M : CMt X.prog X.w X.K X.mg X.base C k m ps dvs sp) (c : Cls X.K C) (hr : Room k X.A) (he : PE X o ta)
    (ht : eval (.Call (.Attribute o m apos) [] [] pos) X.env = (do
      let ov ← eval o X.env
      standAt apos.atName
      let (f, first) ← holding [ov] (getMethod ov m pl)
      callWith pos f first (backTo pos (starEach [] X.env)) (backToKw pos (keywordEach [] X.env))) := by rfl) :
    PE X (.Call (.Attribute o m apos) [] [] pos) (tMeth C m sp dvs E0 ta tNil) := by
  obtain ⟨f, fd, ds, F, me, vd, b⟩ := M.ex
  exact pe_meth0 (pl := pl) he c me F hr b vd pass0 ht
theorem pe_mkc (M : CMk X.prog X.w X.K X.mg X.base C k x ps dvs sp) (hr : Room (k + 1) X.A) (hg : Gl X x) (ha : PA X (e :: es) t)
    (hdb : (x == ("__debug__" : Str)) = false := by decide) (he : starEach (e :: es) X.env = (false, eval e X.env) :: starEach es X.env := by rfl) (hpl : (backTo pos (starEach es X.env)).any (·.1) = false := by rfl) :
    PE X (.Call (.Name x p) (e :: es) [] pos) (tMake C sp dvs E0 t) := by
  obtain ⟨f, fd, ds, F, mk, g, vd, b⟩ := M.ex
  exact pe_make mk F hr hg g b vd pass0 ha hdb he hpl
end
/-! ### o.m(e, .., k = v) -/
structure CMtK (P : Program) (w : World) (K : PySem.W.Frag) (mg : Str → Option Value) (base : Heap) (C : Addr) (k : Nat) (m : Str) (ps : List Str) (n : Nat) (ks : List Str) (gV : List V → List V → List V) (sp : Sp) : Prop where
  ex : ∃ (f : Addr) (fd : FuncData) (g : List Value → List Value → List Value), FnOk P w K mg base CX0 k f fd ps sp ∧ Meth K C m f ∧ KBn K fd ps n ks g gV
def tMethK (C : Addr) (m : Str) (n j : Nat) (sp : Sp) (gV : List V → List V → List V) (ta : TE) (t tk : TA) : TE := fun σ H Q => ta σ H fun x H1 => ∃ (a dx : Addr) (fs : List (Str × V)), x = .ref a ∧ H1 a = some (.ins C dx fs) ∧ fs.lookup m = none ∧
  t σ H1 fun vs H2 => tk σ H2 fun zs H3 => (x :: vs).length = n ∧ zs.length = j ∧ sp (gV (x :: vs) zs) H3 Q E0
theorem pe_mtK {X : Cx} {k n : Nat} {C : Addr} {m : Str} {ps ks : List Str} {sp : Sp} {gV : List V → List V → List V} {pos apos : Pos} {e o : Expr} {es : List Expr} {kws : List Keyword} {ta : TE} {t tk : TA} {pl : Sem Bool}
    (M : CMtK X.prog X.w X.K X.mg X.base C k m ps n ks gV sp) (c : Cls X.K C) (hr : Room k X.A) (he : PE X o ta) (ha : PA X (e :: es) t) (hkw : PK X kws tk)
    (hall : (backToKw pos (keywordEach kws X.env)).all (·.1.isSome) = true := by rfl) (hks : (backToKw pos (keywordEach kws X.env)).filterMap (·.1) = ks := by rfl)
    (hst : starEach (e :: es) X.env = (false, eval e X.env) :: starEach es X.env := by rfl)
    (hpl : ((backTo pos (starEach (e :: es) X.env)).any (·.1) || (backToKw pos (keywordEach kws X.env)).any (·.1.isNone)) = false := by rfl)
    (ht : eval (.Call (.Attribute o m apos) (e :: es) kws pos) X.env = (do
      let ov ← eval o X.env
      standAt apos.atName
      let (f, first) ← holding [ov] (getMethod ov m pl)
      callWith pos f first (backTo pos (starEach (e :: es) X.env)) (backToKw pos (keywordEach kws X.env))) := by rfl) :
    PE X (.Call (.Attribute o m apos) (e :: es) kws pos) (tMethK C m n ks.length sp gV ta t tk) := by
  obtain ⟨f, fd, g, F, me, b⟩ := M.ex
  constructor
  intro pins s σ H Q I h
  refine PySem.W.methodCall_KW (pl := pl) (thn (he.run pins s σ H _ I h) ?_) ht
  rintro u s1 ⟨x, H1, I1, rx, a, dx, fs, rfl, ea, l, q⟩
  cases (show u = Value.ref a from rx)
  refine getmeth_ok I1 ea c me l ?_
  refine PySem.W.callWith_KW (first := [.ref a]) (h₀ := X.base) I.ok.mod.kin me.kp hall (thn (ha.run pos pins s1 σ H1 _ I1 q) ?_) hpl hst
  rintro us s2 ⟨vs, H2, I2, r, q2⟩
  refine thn (hkw.run pos pins s2 σ H2 _ I2 q2) ?_
  rintro ws s3 ⟨zs, H3, I3, rz, l1, l2, q3⟩
  refine ⟨I3.kIn, ?_⟩
  rw [hks]
  exact run_fnN (us := .ref a :: us) (vs := .ref a :: vs) F hr b pass0 I3 (.cons rfl r) rz l1 l2 q3
theorem okD {P : Program} {w : World} {K : PySem.W.Frag} {mg : Str → Option Value} {base : Heap} {x qual : Str} {params : Arguments} {body : List Stmt} {scope : Scope} {dvs : List V} {kws : List (Str × V)} {f : Addr} {fd : FuncData} {N ps : List Str} {k : Nat} {sp : Sp}
    (F : FunD K x qual params body scope dvs kws f fd) (S : FnScope N ps scope) (len : ∀ vs H Q E, sp vs H Q E → vs.length = ps.length)
    (walk : ∀ (cdv : Value) (A : Around) (outer : List Env) (s : Shared) (H : Hp) (vs : List V) (Q : VK) (E : XK), Room k (A.deeper (envOfC qual scope s.heap.objs.size f cdv)) → sp vs H Q E →
      ∃ t, PSs (cxOf CX0 P w K mg base N qual scope f cdv A outer s H E).nox body t ∧ t { nx := fun _ H' => Q .non H', rt := Q } (start N vs) H) : FnOk P w K mg base CX0 (k + 1) f fd ps sp := by
  refine F.ok S len (fun cdv A outer s H vs Q E hr h => ?_)
  obtain ⟨t, ht, q⟩ := walk cdv A outer s H vs Q E hr h
  exact ⟨t, ht.nox, q⟩
/-! ### numbers in bounds, what is kept -/
def numIn : PyData → Int → Int → Bool
  | .int i, lo, hi => decide (lo ≤ i) && decide (i ≤ hi)
  | _, _, _ => false
def keptOk : PyData → PyData → Bool
  | .tuple ds, e => PyData.eqv (.int (ds.length : Int)) e && ds.all fun d => numIn d 0 100
  | d, _ => numIn d 0 100
def firstWrong (ws : List (Str × Bool)) : V := match ws.find? (fun p => !p.2) with
  | some p => .str p.1
  | none => .non
theorem firstWrong_at {ws : List (Str × Bool)} {i : Nat} {w : Str} (h : ∀ p ∈ ws.take i, p.2 = true) (hi : ws[i]? = some (w, false)) : firstWrong ws = .str w := by
  have hs : ws = ws.take i ++ (w, false) :: ws.drop (i + 1) := by
    obtain ⟨hl, he⟩ := List.getElem?_eq_some_iff.mp hi
    rw [← he, List.getElem_cons_drop, List.take_append_drop]
  unfold firstWrong
  rw [hs, List.find?_append, List.find?_eq_none.mpr (fun p hp => by rw [h p hp]; decide)]
  rfl
theorem firstWrong_none {ws : List (Str × Bool)} (h : ∀ p ∈ ws, p.2 = true) : firstWrong ws = .non := by
  unfold firstWrong
  rw [List.find?_eq_none.mpr (fun p hp => by rw [h p hp]; decide)]
theorem dpAll_len {K : PySem.W.Frag} {H : Hp} : ∀ {xs : List V} {ds : List PyData}, DpAll K H xs ds → xs.length = ds.length
  | _, _, .nil => rfl
  | _, _, .cons _ b => by rw [List.length_cons, List.length_cons, dpAll_len b]
theorem dpAll_get {K : PySem.W.Frag} {H : Hp} : ∀ {xs : List V} {ds : List PyData} {i : Nat} {x : V}, DpAll K H xs ds → xs[i]? = some x → ∃ d, ds[i]? = some d ∧ Dp K H x d
  | _, _, 0, _, .cons a _, h => ⟨_, rfl, by cases (Option.some.inj h); exact a⟩
  | _, _, i + 1, _, .cons _ b, h => dpAll_get (i := i) b h
  | _, _, _, _, .nil, h => by simp at h
/-! ### a block over an iterator of a known length; zip of two lists, of two tuples -/
theorem lc_gen {J : It} {n : Nat} {g : TG} {tt : TT} {te : TE} {vs : List Nat} {σ : L2.St} {H1 : Hp} {D : Addr} {Qd : Hp → Prop} (Pv : Nat → Hp → Prop) (first : Pv 0 (upd H1 D (.lst [])))
    (can : ∀ i H, Pv i H → (i < n → J.go i H) ∧ (i = n → J.stop i H))
    (turn : ∀ i H v H', i < n → Pv i H → J.yld i H v H' → g v (wipe σ vs) H' fun σ2 H2 => wipe σ2 vs = wipe σ vs ∧ tt σ2 H2 fun b H3 => if b = true then te σ2 H3 fun y H4 => ∃ acc, H4 D = some (.lst acc) ∧ acc.length < sizeLine ∧ Pv (i + 1) (upd H4 D (.lst (acc ++ [y]))) else Pv (i + 1) H3)
    (last : ∀ H, Pv n H → Qd H) :
    ∃ W : Nat → Nat → Hp → Prop, (∃ m, W 0 m (upd H1 D (.lst []))) ∧ ∀ i m H, W i m H → (J.stop i H ∧ Qd H) ∨ (J.go i H ∧ ∃ Nx : Hp → Prop, (∀ H', Nx H' → ∃ m', m' < m ∧ W (i + 1) m' H') ∧ ∀ x H', J.yld i H x H' → g x (wipe σ vs) H' fun σ2 H2 => wipe σ2 vs = wipe σ vs ∧ tt σ2 H2 fun b H3 => if b = true then te σ2 H3 fun y H4 => ∃ acc, H4 D = some (.lst acc) ∧ acc.length < sizeLine ∧ Nx (upd H4 D (.lst (acc ++ [y]))) else Nx H3) := by
  refine ⟨fun i m H => m + i = n ∧ Pv i H, ⟨n, by omega, first⟩, ?_⟩
  intro i m H hw
  obtain ⟨e, p⟩ := hw
  by_cases c : i < n
  · exact .inr ⟨(can i H p).1 c, Pv (i + 1), fun H' p' => ⟨n - (i + 1), by omega, by omega, p'⟩, fun v H' y => turn i H v H' c p y⟩
  · have z : i = n := by omega
    exact .inl ⟨(can i H p).2 z, last H (z ▸ p)⟩
section
variable {K : PySem.W.Frag} {a b : Addr} {xs ys : List V}
theorem canL {H : Hp} {i : Nat} (l : xs.length = ys.length) (x : SqL K H a xs) (y : SqL K H b ys) : (i < xs.length → (Itz K a b).go i H) ∧ (i = xs.length → (Itz K a b).stop i H) :=
  ⟨fun c => ⟨xs, ys, _, _, x, y, List.getElem?_eq_getElem c, List.getElem?_eq_getElem (l ▸ c)⟩, fun c => ⟨xs, ys, x, y, .inl (by omega)⟩⟩
theorem canT {H : Hp} {i : Nat} (l : xs.length = ys.length) (x : SqT K H a xs) (y : SqT K H b ys) : (i < xs.length → (RZ.ItzT K a b).go i H) ∧ (i = xs.length → (RZ.ItzT K a b).stop i H) :=
  ⟨fun c => ⟨xs, ys, _, _, x, y, List.getElem?_eq_getElem c, List.getElem?_eq_getElem (l ▸ c)⟩, fun c => ⟨xs, ys, x, y, .inl (by omega)⟩⟩
end
/-! ### data of short lists -/
mutual
def thin : PyData → Bool
  | .list xs => decide (xs.length ≤ 1000) && thinAll xs
  | .tuple xs => decide (xs.length ≤ 1000) && thinAll xs
  | _ => true
def thinAll : List PyData → Bool
  | [] => true
  | x :: r => thin x && thinAll r
end
theorem thin_at {d : PyData} : ∀ {ds : List PyData} {i : Nat}, thinAll ds = true → ds[i]? = some d → thin d = true
  | e :: r, 0, h, he => by
    cases he
    simp only [thinAll, Bool.and_eq_true] at h
    exact h.1
  | e :: r, i + 1, h, he => by
    simp only [thinAll, Bool.and_eq_true] at h
    exact thin_at (i := i) h.2 he
theorem depth_at {d : PyData} : ∀ {ds : List PyData} {i : Nat}, ds[i]? = some d → PyData.depth d ≤ PyData.depthAll ds
  | e :: r, 0, he => by
    cases he
    simp only [PyData.depthAll]
    omega
  | e :: r, i + 1, he => by
    have := depth_at (i := i) (ds := r) he
    simp only [PyData.depthAll]
    omega
theorem kitLT {K : PySem.W.Frag} (d : PyData) : PySem.W.kitAny K (.type (tyD d)) [.type "list", .type "tuple"] = some (isK "list" d || isK "tuple" d) := by
  unfold PySem.W.kitAny
  rw [kit_d (by decide)]
  cases isK "list" d with
  | true => rfl
  | false =>
    unfold PySem.W.kitAny
    rw [kit_d (by decide)]
    cases isK "tuple" d <;> rfl
theorem qY {c : Prop} [Decidable c] {Q : VK} {H : Hp} (hc : c) (q : Q (.bl true) H) : Q (.bl (decide c)) H := by
  rw [decide_eq_true hc]
  exact q
theorem rep_snoc (i : Nat) : (List.replicate i true).map V.bl ++ [V.bl true] = (List.replicate (i + 1) true).map V.bl := by
  rw [List.map_replicate, List.map_replicate, List.replicate_succ']
/-! ### len of an instance by its class's own def; a walk over a list or a tuple -/
theorem call_lenO {X : Cx} {C : Addr} {k : Nat} {sp : Sp} (M : CMt X.prog X.w X.K X.mg X.base C k "__len__" ["self"] [] sp) (hr : Room (k + 1) X.A) :
    CallR X (.builtin "len") (fun xs H Q => ∃ (r dx : Addr) (fs : List (Str × V)), xs = [.ref r] ∧ H r = some (.ins C dx fs) ∧ sp [.ref r] H (fun v H' => ∃ n : Int, v = .int n ∧ 0 ≤ n ∧ n < 1000000 ∧ Q (.int n) H') E0) := by
  intro pins s σ H xs us Q I rv h
  obtain ⟨r, dx, fs, rfl, ea, h⟩ := h
  obtain ⟨f, fd, ds, F, me, vd, hb⟩ := M.ex
  cases vd
  cases rv with
  | cons e rr =>
    cases rr
    cases e
    obtain ⟨mA, O, _⟩ := ins_get I.hok ea
    obtain ⟨od, J, _⟩ := O.look
    refine Calls.call_function_entry kind_len plain_len entry_len (args_len1 _) ?_
    unfold Builtin.«len»
    refine wpAny_bind (wpAny_pure ?_)
    refine wpAny_bind (PySem.W.special_fn (args := []) I.kIn J me.at_ (beq_iff_eq.mp me.fn) ?_)
    have hl : ([Value.ref r] ++ ([] : List Value)).length = (["self"] : List Str).length := rfl
    refine wpAny_call (codeAny_mono (F.run X.A.in1 X.stack s H ⟨[.ref r], []⟩ [.ref r] [.ref r] _ _ hr.in1 I.env0.in1 (hb s [.ref r] I.kIn hl) (.cons rfl .nil) h) fun x s' hq => ?_)
    cases x with
    | error e => exact pass0 pins σ H s e s' I hq
    | ok fl =>
      cases fl with
      | ret u =>
        obtain ⟨v, H', I', rv, n, rfl, n0, n1, q⟩ := I.after hq
        obtain ⟨t, rfl⟩ := rv
        refine wpAny_bind (wpAny_holding (wpAny_pure ?_))
        refine wpAny_bind (wpAny_letGo ?_)
        show wpAny _ _ (if n < 0 then _ else _) _ _ _
        rw [if_neg (by omega)]
        show wpAny _ _ (if n ≥ 2 ^ 63 then _ else _) _ _ _
        rw [if_neg (by omega)]
        exact wpAny_bind (wpAny_mkInt (wpAny_pure ⟨_, rfl, .int n, H', I'.tok _, ⟨_, rfl⟩, q⟩))
      | next => exact False.elim hq
      | brk => exact False.elim hq
      | cont => exact False.elim hq
theorem pi_or {X : Cx} {tg e : Expr} {w1 w2 : TI} (h : PI X tg e w1) (h' : PI X tg e w2) : PI X tg e (fun σ H R => w1 σ H R ∨ w2 σ H R) :=
  ⟨fun pins s σ H R I q => q.elim (h.run pins s σ H R I) (h'.run pins s σ H R I)⟩
/-! ### what comes of a row of days -/
inductive Wd where
  | st | go | so | up
  deriving DecidableEq
structure Cs where
  w : Wd
  d : Int
  p : Int
  m : Int
def wS : Wd → Str
  | .st => Str.ofString "stands"
  | .go => Str.ofString "gone"
  | .so => Str.ofString "sold"
  | .up => Str.ofString "up"
def csV (c : Cs) : List V := [.str (wS c.w), .int c.d, .int c.p, .int c.m]
def csD (c : Cs) : PyData := .tuple [.str (wS c.w), .int c.d, .int c.p, .int c.m]
def passN (s g : Int) : Nat → Int → Int → Int → Int → Cs
  | 0, d, p, m, day => if d + g < day then ⟨.go, d + g + 1, p, m⟩ else ⟨.st, d, p, m⟩
  | n + 1, d, p, m, day => if d + g < day then passN s g n (d + s) p (m + 1) day else ⟨.st, d, p, m⟩
/-- to the begin of a day -/
def passT (s g ms : Int) (c : Cs) (day : Int) : Cs := match c.w with
  | .st => passN s g (ms - c.m).toNat c.d c.p c.m day
  | _ => c
/-- a part paid on a day -/
def payT (p s : Int) (l : Bool) (c : Cs) (day : Int) : Cs := match c.w with
  | .st => if c.p + 1 = p then ⟨.so, day, c.p + 1, c.m⟩ else ⟨.st, (if l then day else c.d) + s, c.p + 1, c.m⟩
  | _ => c
def stepT (p s g : Int) (l : Bool) (ms e : Int) (c : Cs) (d : Int) : Cs := if d ≤ e then payT p s l (passT s g ms c d) d else c
abbrev cs0 : Cs := ⟨.st, 0, 0, 0⟩
def courseT (p s g : Int) (l : Bool) (ms : Int) (days : List Int) (e : Int) : Cs := passT s g ms (days.foldl (stepT p s g l ms e) cs0) e
theorem passN_m {s g : Int} : ∀ (n : Nat) (d p m day : Int), (passN s g n d p m day).m ≤ m + n
  | 0, d, p, m, day => by
    unfold passN
    split <;> simp
  | n + 1, d, p, m, day => by
    unfold passN
    split
    · have := passN_m (s := s) (g := g) n (d + s) p (m + 1) day
      omega
    · show m ≤ _
      omega
theorem passT_m {s g ms : Int} {c : Cs} {day : Int} (h : c.m ≤ ms) : (passT s g ms c day).m ≤ ms := by
  unfold passT
  split
  · have := passN_m (s := s) (g := g) (ms - c.m).toNat c.d c.p c.m day
    omega
  · exact h
theorem payT_m {p s : Int} {l : Bool} {c : Cs} {day : Int} : (payT p s l c day).m = c.m := by
  unfold payT
  split
  · split <;> rfl
  · rfl
theorem stepT_m {p s g : Int} {l : Bool} {ms e : Int} {c : Cs} {d : Int} (h : c.m ≤ ms) : (stepT p s g l ms e c d).m ≤ ms := by
  unfold stepT
  split
  · rw [payT_m]
    exact passT_m h
  · exact h
theorem foldT_m {p s g : Int} {l : Bool} {ms e : Int} : ∀ (ds : List Int) {c : Cs}, c.m ≤ ms → (ds.foldl (stepT p s g l ms e) c).m ≤ ms
  | [], _, h => h
  | d :: r, _, h => foldT_m r (stepT_m h)
def StAt (K : PySem.W.Frag) (H : Hp) (a : Addr) (c : Cs) : Prop := SqT K H a (csV c)
theorem StAt.same {K : PySem.W.Frag} {H H' : Hp} {a : Addr} {c : Cs} (h : StAt K H a c) (e : Same H H') : StAt K H' a c := seqT_same e h
theorem StAt.dp {K : PySem.W.Frag} {H : Hp} {a : Addr} {c : Cs} (h : StAt K H a c) : Dp K H (.ref a) (csD c) := .tup h (.cons (.str _) (.cons (.int _) (.cons (.int _) (.cons (.int _) .nil))))
theorem sh_cs (c : Cs) : SeqAt.shaped (csD c) = true := by
  show (PyData.canLay0 (csD c) && decide (PyData.depth (csD c) ≤ 64)) = true
  have h : PyData.strOk (wS c.w) = true := by cases c.w <;> decide +kernel
  simp [csD, PyData.canLay0, PyData.canLayAll0, PyData.depth, PyData.depthAll, h]
theorem eqv_cs (c : Cs) : PyData.eqv (csD c) (csD c) = true := SeqAt.eqv_refl _ (SeqAt.canLay_of_shaped (sh_cs c))
theorem wS_st (w : Wd) : decide (V.str (wS w) = V.str (Str.ofString "stands")) = decide (w = .st) := by cases w <;> decide +kernel
theorem wS_go (w : Wd) : decide (V.str (wS w) = V.str (Str.ofString "gone")) = decide (w = .go) := by cases w <;> decide +kernel
theorem passT_over {s g ms : Int} {c : Cs} {day : Int} (h : c.w ≠ .st) : passT s g ms c day = c := by
  unfold passT
  split
  · contradiction
  · rfl
theorem payT_over {p s : Int} {l : Bool} {c : Cs} {day : Int} (h : c.w ≠ .st) : payT p s l c day = c := by
  unfold payT
  split
  · contradiction
  · rfl
theorem passN_st {s g : Int} {n : Nat} {d p m day : Int} (h : ¬ d + g < day) : passN s g n d p m day = ⟨.st, d, p, m⟩ := by
  cases n <;> unfold passN <;> rw [if_neg h]
theorem passN_go {s g d p m day : Int} (h : d + g < day) : passN s g 0 d p m day = ⟨.go, d + g + 1, p, m⟩ := by
  unfold passN
  rw [if_pos h]
theorem passN_on {s g : Int} {n : Nat} {d p m day : Int} (h : d + g < day) : passN s g (n + 1) d p m day = passN s g n (d + s) p (m + 1) day := by
  rw [passN, if_pos h]
/-! ### sums of misses -/
theorem pass_stay {s g : Int} (hs : 1 ≤ s) : ∀ (j N : Nat) (d p m day : Int), j ≤ N → (j = 0 ∨ d + g + s * ((j : Int) - 1) < day) → day ≤ d + g + s * j → passN s g N d p m day = ⟨.st, d + s * j, p, m + j⟩
  | 0, N, d, p, m, day, _, _, h2 => by
    rw [passN_st (by simp at h2; omega)]
    simp
  | j + 1, N, d, p, m, day, hj, h1, h2 => by
    obtain ⟨M, rfl⟩ : ∃ M, N = M + 1 := ⟨N - 1, by omega⟩
    have e1 : s * (((j + 1 : Nat) : Int) - 1) = s * j := by rw [show (((j + 1 : Nat) : Int) - 1) = j by omega]
    have e2 : s * ((j + 1 : Nat) : Int) = s * j + s := by rw [show ((j + 1 : Nat) : Int) = (j : Int) + 1 by omega, Int.mul_add, Int.mul_one]
    have e3 : s * ((j : Int) - 1) = s * j - s := by rw [Int.mul_sub, Int.mul_one]
    have h0 : 0 ≤ s * (j : Int) := Int.mul_nonneg (by omega) (by omega)
    rw [e2] at h2 ⊢
    rw [e1] at h1
    have h3 : d + g + s * (j : Int) < day := by omega
    rw [passN_on (by omega), pass_stay hs j M (d + s) p (m + 1) day (by omega) (by rw [e3]; omega) (by omega)]
    congr 1 <;> omega
theorem pass_gone {s g : Int} (hs : 1 ≤ s) : ∀ (N : Nat) (d p m day : Int), d + g + s * N < day → passN s g N d p m day = ⟨.go, d + g + s * N + 1, p, m + N⟩
  | 0, d, p, m, day, h => by
    rw [passN_go (by simp at h; omega)]
    simp
  | N + 1, d, p, m, day, h => by
    have e2 : s * ((N + 1 : Nat) : Int) = s * N + s := by rw [show ((N + 1 : Nat) : Int) = (N : Int) + 1 by omega, Int.mul_add, Int.mul_one]
    have h0 : 0 ≤ s * (N : Int) := Int.mul_nonneg (by omega) (by omega)
    rw [e2] at h ⊢
    rw [passN_on (by omega), pass_gone hs N (d + s) p (m + 1) day (by omega)]
    congr 1 <;> omega
/-- the days on which parts are due that are paid on their days -/
def dueDays (s : Int) (n : Nat) : List Int := (List.range n).map fun (k : Nat) => s * (k : Int)
theorem due_snoc (s : Int) (n : Nat) : dueDays s (n + 1) = dueDays s n ++ [s * (n : Int)] := by
  unfold dueDays
  rw [List.range_succ, List.map_append]
  rfl
theorem due_mem {s x : Int} {n : Nat} (h : x ∈ dueDays s n) : ∃ k : Nat, k < n ∧ x = s * k := by
  obtain ⟨k, hk, rfl⟩ := List.mem_map.mp h
  exact ⟨k, List.mem_range.mp hk, rfl⟩
theorem due_len (s : Int) (n : Nat) : (dueDays s n).length = n := by
  unfold dueDays
  rw [List.length_map, List.length_range]
theorem step_on {p s g : Int} {l : Bool} {ms e d : Int} {c : Cs} (h : d ≤ e) : stepT p s g l ms e c d = payT p s l (passT s g ms c d) d := by
  unfold stepT
  rw [if_pos h]
theorem pay_st {p s d pd m day : Int} {l : Bool} (h : pd + 1 ≠ p) : payT p s l ⟨.st, d, pd, m⟩ day = ⟨.st, (if l then day else d) + s, pd + 1, m⟩ := by
  show (if pd + 1 = p then _ else _) = _
  rw [if_neg h]
theorem pay_so {p s d pd m day : Int} {l : Bool} (h : pd + 1 = p) : payT p s l ⟨.st, d, pd, m⟩ day = ⟨.so, day, pd + 1, m⟩ := by
  show (if pd + 1 = p then _ else _) = _
  rw [if_pos h]
theorem fold_due {p s g : Int} {l : Bool} {ms e : Int} (hs : 1 ≤ s) (hg : 0 ≤ g) : ∀ n : Nat, (n : Int) < p → (n = 0 ∨ s * ((n : Int) - 1) ≤ e) → (dueDays s n).foldl (stepT p s g l ms e) cs0 = ⟨.st, s * n, n, 0⟩
  | 0, _, _ => by simp [dueDays]
  | n + 1, hp, he => by
    have e1 : s * (((n + 1 : Nat) : Int) - 1) = s * n := by rw [show (((n + 1 : Nat) : Int) - 1) = n by omega]
    have e2 : s * ((n + 1 : Nat) : Int) = s * n + s := by rw [show ((n + 1 : Nat) : Int) = (n : Int) + 1 by omega, Int.mul_add, Int.mul_one]
    have e3 : s * ((n : Int) - 1) = s * n - s := by rw [Int.mul_sub, Int.mul_one]
    rw [e1] at he
    have he2 : s * (n : Int) ≤ e := by omega
    rw [due_snoc, List.foldl_append, fold_due hs hg n (by omega) (by rw [e3]; omega), List.foldl_cons, List.foldl_nil, step_on he2]
    have ep : passT s g ms ⟨.st, s * n, n, 0⟩ (s * n) = ⟨.st, s * n, n, 0⟩ := passN_st (by show ¬ s * (n : Int) + g < s * n; omega)
    rw [ep, pay_st (by omega), e2]
    cases l <;> rfl
theorem fold_all {p s g : Int} {l : Bool} {ms e : Int} (hs : 1 ≤ s) (hg : 0 ≤ g) {n : Nat} (hp : (n : Int) + 1 = p) (he : s * (n : Int) ≤ e) : (dueDays s (n + 1)).foldl (stepT p s g l ms e) cs0 = ⟨.so, s * n, p, 0⟩ := by
  have e3 : s * ((n : Int) - 1) = s * n - s := by rw [Int.mul_sub, Int.mul_one]
  rw [due_snoc, List.foldl_append, fold_due hs hg n (by omega) (by rw [e3]; omega), List.foldl_cons, List.foldl_nil, step_on he]
  have ep : passT s g ms ⟨.st, s * n, n, 0⟩ (s * n) = ⟨.st, s * n, n, 0⟩ := passN_st (by show ¬ s * (n : Int) + g < s * n; omega)
  rw [ep, pay_so hp, hp]
theorem neCs {K : PySem.W.Frag} {H : Hp} {b t : Addr} {c c' : Cs} {Q : VK} (e : c = c') (hb : StAt K H b c) (ht : StAt K H t c') (q : Q (.bl false) H) : rNeD K (.ref b) (.ref t) H Q := by
  subst e
  refine ⟨_, _, hb.dp, ht.dp, sh_cs c, sh_cs c, ?_⟩
  rw [eqv_cs]
  exact q
theorem eqCs {K : PySem.W.Frag} {H : Hp} {b t : Addr} {c c' : Cs} {Q : VK} (e : c = c') (hb : StAt K H b c) (ht : StAt K H t c') (q : Q (.bl true) H) : rEqD K (.ref b) (.ref t) H Q := by
  subst e
  refine ⟨_, _, hb.dp, ht.dp, sh_cs c, sh_cs c, ?_⟩
  rw [eqv_cs]
  exact q
theorem mul_pred (s : Int) (n : Int) : s * (n - 1) = s * n - s := by rw [Int.mul_sub, Int.mul_one]
theorem mul_succ' (s : Int) (n : Int) : s * (n + 1) = s * n + s := by rw [Int.mul_add, Int.mul_one]
/-- parts paid on their days, then none: so many missed -/
theorem unpaid_stay {p s g : Int} {l : Bool} {ms : Int} {n j : Nat} {e : Int} (hs : 1 ≤ s) (hg : 0 ≤ g) (hn : (n : Int) < p) (hj : (j : Int) ≤ ms) (h1 : j = 0 ∧ s * n ≤ e ∨ s * n + g + s * (j : Int) - s < e) (h2 : e ≤ s * n + g + s * j) : courseT p s g l ms (dueDays s n) e = ⟨.st, s * n + s * j, n, j⟩ := by
  have a := mul_pred s n
  have b := mul_pred s j
  have c0 : 0 ≤ s * (j : Int) := Int.mul_nonneg (by omega) (by omega)
  have c1 : j ≠ 0 → s ≤ s * (j : Int) := fun h => by
    have := Int.mul_le_mul_of_nonneg_left (show (1 : Int) ≤ j by omega) (show 0 ≤ s by omega)
    omega
  have d0 : n = 0 ∨ s * ((n : Int) - 1) ≤ e := by
    rw [a]
    by_cases z : j = 0
    · subst z
      simp at h1 h2 c0
      omega
    · have := c1 z
      omega
  unfold courseT
  rw [fold_due hs hg n hn d0]
  show passN s g (ms - 0).toNat (s * n) n 0 e = _
  rw [pass_stay hs j (ms - 0).toNat _ _ _ _ (by omega) (by rw [b]; omega) h2, Int.zero_add]
theorem unpaid_gone {p s g : Int} {l : Bool} {ms : Int} {n : Nat} {e : Int} (hs : 1 ≤ s) (hg : 0 ≤ g) (hn : (n : Int) < p) (hm : 0 ≤ ms) (h1 : s * n + g + s * ms < e) : courseT p s g l ms (dueDays s n) e = ⟨.go, s * n + g + s * ms + 1, n, ms⟩ := by
  have a := mul_pred s n
  have c0 : 0 ≤ s * ms := Int.mul_nonneg (by omega) hm
  unfold courseT
  rw [fold_due hs hg n hn (by rw [a]; omega)]
  show passN s g (ms - 0).toNat (s * n) n 0 e = _
  have hz : (((ms - 0).toNat : Nat) : Int) = ms := by omega
  rw [pass_gone hs _ _ _ _ _ (by rw [hz]; exact h1), hz, Int.zero_add]
theorem course_snoc {p s g : Int} {l : Bool} {ms d e : Int} {ds : List Int} : courseT p s g l ms (ds ++ [d]) e = passT s g ms (stepT p s g l ms e (ds.foldl (stepT p s g l ms e) cs0) d) e := by
  unfold courseT
  rw [List.foldl_append]
  rfl
theorem course_at {p s g : Int} {l : Bool} {ms d : Int} {ds : List Int} : courseT p s g l ms (ds ++ [d]) d = passT s g ms (payT p s l (courseT p s g l ms ds d) d) d := by
  rw [course_snoc, step_on (Int.le_refl d)]
  rfl
theorem late_go {p s g : Int} {l : Bool} {ms d x n m : Int} {ds : List Int} (h : courseT p s g l ms ds d = ⟨.go, x, n, m⟩) : courseT p s g l ms (ds ++ [d]) d = ⟨.go, x, n, m⟩ := by
  rw [course_at, h]
  rfl
theorem late_so {p s g : Int} {l : Bool} {ms d x n m : Int} {ds : List Int} (h : courseT p s g l ms ds d = ⟨.st, x, n, m⟩) (hp : n + 1 = p) : courseT p s g l ms (ds ++ [d]) d = ⟨.so, d, p, m⟩ := by
  rw [course_at, h, pay_so hp, hp]
  rfl
theorem late_st {p s g : Int} {l : Bool} {ms d x n m : Int} {ds : List Int} (h : courseT p s g l ms ds d = ⟨.st, x, n, m⟩) (hp : n + 1 ≠ p) (hd : d ≤ (if l then d else x) + s + g) : courseT p s g l ms (ds ++ [d]) d = ⟨.st, (if l then d else x) + s, n + 1, m⟩ := by
  rw [course_at, h, pay_st hp]
  exact passN_st (by show ¬ (if l then d else x) + s + g < d; omega)
theorem late_base {p s g : Int} {l : Bool} {ms : Int} {n j k : Nat} (hs : 1 ≤ s) (hg : 0 ≤ g) (hn : (n : Int) < p) (hk : k < 2) (hj : (j : Int) + k ≤ ms) : courseT p s g l ms (dueDays s n) (s * n + g + s * j + k) = ⟨.st, s * n + s * ((j : Int) + k), n, (j : Int) + k⟩ := by
  have c0 : 0 ≤ s * (j : Int) := Int.mul_nonneg (by omega) (by omega)
  have e1 := mul_succ' s j
  have hk2 : k = 0 ∨ k = 1 := by omega
  rcases hk2 with rfl | rfl
  · have := unpaid_stay (p := p) (l := l) (ms := ms) (n := n) (j := j) (e := s * n + g + s * j) hs hg hn (by omega) (by omega) (by omega)
    simpa using this
  · have := unpaid_stay (p := p) (l := l) (ms := ms) (n := n) (j := j + 1) (e := s * n + g + s * j + 1) hs hg hn (by omega) (by rw [Int.natCast_add, show ((1 : Nat) : Int) = 1 from rfl, e1]; omega) (by rw [Int.natCast_add, show ((1 : Nat) : Int) = 1 from rfl, e1]; omega)
    rw [Int.natCast_add] at this
    exact this
theorem notY {c A B : Prop} [Decidable c] (hc : c) (h : B) : if (!decide c) = true then A else B := by
  rw [decide_eq_true hc]
  exact iteF h
theorem notN {c A B : Prop} [Decidable c] (hc : ¬ c) (h : A) : if (!decide c) = true then A else B := by
  rw [decide_eq_false hc]
  exact iteT h
/-! ### day by day: what is left to go of a row -/
def remT (p s g : Int) (l : Bool) (ms e : Int) (rest : List Int) (c : Cs) : Cs := passT s g ms (rest.foldl (stepT p s g l ms e) c) e
section
variable {p s g : Int} {l : Bool} {ms e : Int}
theorem step_over {c : Cs} {d : Int} (h : c.w ≠ .st) : stepT p s g l ms e c d = c := by
  unfold stepT
  split
  · rw [passT_over h, payT_over h]
  · rfl
theorem fold_over {c : Cs} (h : c.w ≠ .st) : ∀ ds : List Int, ds.foldl (stepT p s g l ms e) c = c
  | [] => rfl
  | d :: r => by rw [List.foldl_cons, step_over h, fold_over h r]
theorem rem_over {c : Cs} (h : c.w ≠ .st) (ds : List Int) : remT p s g l ms e ds c = c := by
  unfold remT
  rw [fold_over h, passT_over h]
theorem step_off {c : Cs} {d : Int} (h : ¬ d ≤ e) : stepT p s g l ms e c d = c := by
  unfold stepT
  rw [if_neg h]
theorem rem_cons {c : Cs} {d : Int} {r : List Int} : remT p s g l ms e (d :: r) c = remT p s g l ms e r (stepT p s g l ms e c d) := rfl
theorem rem_gone {D x pd : Int} (h1 : x + g < D) (h2 : D ≤ e) : ∀ rest : List Int, (∀ d ∈ rest, D ≤ d) → remT p s g l ms e rest ⟨.st, x, pd, ms⟩ = ⟨.go, x + g + 1, pd, ms⟩
  | [], _ => by
    show passN s g (ms - ms).toNat x pd ms e = _
    rw [Int.sub_self]
    exact passN_go (by omega)
  | d :: r, h => by
    have hd := h d List.mem_cons_self
    rw [rem_cons]
    by_cases c : d ≤ e
    · rw [step_on c]
      have ep : passT s g ms ⟨.st, x, pd, ms⟩ d = ⟨.go, x + g + 1, pd, ms⟩ := by
        show passN s g (ms - ms).toNat x pd ms d = _
        rw [Int.sub_self]
        exact passN_go (by omega)
      rw [ep]
      exact rem_over (by intro z; cases z) r
    · rw [step_off c]
      exact rem_gone h1 h2 r fun d' hd' => h d' (List.mem_cons_of_mem _ hd')
theorem pass_miss {D x pd m d : Int} (h1 : x + g < D) (h2 : D ≤ d) (hm : m < ms) : passT s g ms ⟨.st, x, pd, m⟩ d = passT s g ms ⟨.st, x + s, pd, m + 1⟩ d := by
  show passN s g (ms - m).toNat x pd m d = passN s g (ms - (m + 1)).toNat (x + s) pd (m + 1) d
  rw [show (ms - m).toNat = (ms - (m + 1)).toNat + 1 by omega]
  exact passN_on (by omega)
theorem rem_miss {D x pd m : Int} (h1 : x + g < D) (h2 : D ≤ e) (hm : m < ms) : ∀ rest : List Int, (∀ d ∈ rest, D ≤ d) → remT p s g l ms e rest ⟨.st, x, pd, m⟩ = remT p s g l ms e rest ⟨.st, x + s, pd, m + 1⟩
  | [], _ => pass_miss h1 h2 hm
  | d :: r, h => by
    have hd := h d List.mem_cons_self
    rw [rem_cons, rem_cons]
    by_cases c : d ≤ e
    · rw [step_on c, step_on c, pass_miss h1 hd hm]
    · rw [step_off c, step_off c]
      exact rem_miss h1 h2 hm r fun d' hd' => h d' (List.mem_cons_of_mem _ hd')
theorem rem_end {x pd m : Int} (h1 : e ≤ x + g) : ∀ rest : List Int, (∀ d ∈ rest, e < d) → remT p s g l ms e rest ⟨.st, x, pd, m⟩ = ⟨.st, x, pd, m⟩
  | [], _ => passN_st (by show ¬ x + g < e; omega)
  | d :: r, h => by
    have hd := h d List.mem_cons_self
    rw [rem_cons, step_off (by omega)]
    exact rem_end h1 r fun d' hd' => h d' (List.mem_cons_of_mem _ hd')
theorem rem_sold {D x pd m : Int} {r : List Int} (h1 : D ≤ x + g) (h2 : D ≤ e) (hp : pd + 1 = p) : remT p s g l ms e (D :: r) ⟨.st, x, pd, m⟩ = ⟨.so, D, pd + 1, m⟩ := by
  rw [rem_cons, step_on h2]
  have ep : passT s g ms ⟨.st, x, pd, m⟩ D = ⟨.st, x, pd, m⟩ := passN_st (by show ¬ x + g < D; omega)
  rw [ep, pay_so hp]
  exact rem_over (by intro z; cases z) r
theorem rem_paid {D x pd m : Int} {r : List Int} (h1 : D ≤ x + g) (h2 : D ≤ e) (hp : pd + 1 ≠ p) : remT p s g l ms e (D :: r) ⟨.st, x, pd, m⟩ = remT p s g l ms e r ⟨.st, (if l then D else x) + s, pd + 1, m⟩ := by
  rw [rem_cons, step_on h2]
  have ep : passT s g ms ⟨.st, x, pd, m⟩ D = ⟨.st, x, pd, m⟩ := passN_st (by show ¬ x + g < D; omega)
  rw [ep, pay_st hp]
end
abbrev Rise (ds : List Int) : Prop := ds.Pairwise (· ≤ ·)
theorem pickL {ns : List Int} {r : Int} (h0 : 0 ≤ r) (h1 : r < ns.length) : ∃ c, atI (ns.map V.int) r = some (.int c) ∧ c ∈ ns := by
  obtain ⟨j, rfl⟩ := Int.eq_ofNat_of_zero_le h0
  have hj : j < ns.length := by omega
  exact ⟨ns[j], atI_nat (by rw [List.getElem?_map, List.getElem?_eq_getElem hj]; rfl), List.getElem_mem hj⟩
theorem But.updNew {b D : Addr} {H G : Hp} {o : HO} (t : But b H G) (hD : H D = none) : But b H (L2.upd G D o) := fun c u n h => by
  rw [upd_ne (ne_of_none h hD)]
  exact t c u n h
/-! ### sets of numbers: in rising order, of a list, by a block -/
section
variable {P : Program} {w : World} {A : Around} {E : Value → Shared → Prop} {s : Shared}
theorem rise_set {a : Addr} {S : Int → Bool} {n : Nat} {Q : Value → Shared → Prop} (there : SetR w s.heap a S n) (free : A.handled = none)
    (then_ : ∀ (s' : Shared) (p : Addr) (out : Array Value) (c : Nat) (ns : List Int), (∀ b o, s.heap.get? b = some o → s'.heap.get? b = some o) → s'.gens = s.gens → s'.os = s.os → s.heap.objs.size ≤ p →
      s'.heap.get? p = some (seqObj "list" out c) → IntsAre out.toList ns → ns.Pairwise (· < ·) → (∀ k, k ∈ ns ↔ S k = true) → ns.length = n → n < scanBound → Q (.ref p) s') :
    wpAny (model P w) A (call (.builtin "sorted") [.ref a]) Q E s := by
  obtain ⟨ob, es, ep, tb, hob, hex, hdat, good, nodup, mem, small, fits, size, ris, led⟩ := there
  have big : n ≤ sizeLine := by rw [← size]; exact fits_of_scanBound small
  refine Calls.call_function_entry kind_sorted plain_sorted entry_sorted (args_sorted1 _) ?_
  unfold Builtin.«sorted»
  refine wpAny_bind (m := checkCount "sorted" 1 1 _) (wpAny_pure (wpAny_bind (collect_set (A := A.in1) free ⟨ob, hob, hex.1, hdat⟩ fits small ris led fun s1 vs k1 z1 g1 o1 pm => ?_)))
  have many : vs.length = n := by rw [pm.length_eq, List.length_map, Array.length_toList, size]
  have nums : IntsAre vs (vs.map Builtin.Re.reRawOf) := ints_of vs fun v hv => by
    obtain ⟨e, he, ev⟩ := List.mem_map.mp (pm.mem_iff.mp hv)
    obtain ⟨k, tk, ek, _⟩ := good e he
    exact ⟨k, tk, ev.symm.trans ek⟩
  have same : (vs.map Builtin.Re.reRawOf).Perm (es.toList.map keyOf) := by
    have := pm.map Builtin.Re.reRawOf
    rw [List.map_map] at this
    exact this
  refine wpAny_bind (wpAny_newList ?_ (by rw [many]; exact big))
  have laid : (s1.heap.push (seqObj "list" vs.toArray 0)).get? s1.heap.objs.size = some (seqObj "list" vs.toArray 0) := Heap.get?_push_size _ rfl
  refine wpAny_bind (wpAny_holding (wpAny_call_entry slot_list_sort ⟨_, laid, rfl⟩ entry_list_sort (list_sort_treeAny laid nums (by rw [many]; exact big) fun out ns' x1 x2 x3 => ⟨_, rfl, ?_⟩) (args_list_sort _)))
  obtain ⟨c, hc⟩ := sortedHeap_at (vs := vs) (out := out) laid
  have pn := x2.trans same
  refine wpAny_pure ⟨_, rfl, then_ _ s1.heap.objs.size out c ns' (fun b u e => ?_) g1 o1 z1 hc x1 (lt_of_le_nodup ns' x3 (pn.nodup_iff.mpr nodup)) (fun k => by rw [pn.mem_iff, mem k]) (by rw [pn.length_eq, List.length_map, Array.length_toList, size]) (by rw [← size]; exact small)⟩
  have old := k1 b u e
  have below := Heap.lt_size old
  show (sortedHeap (s1.heap.push (seqObj "list" vs.toArray 0)) s1.heap.objs.size vs out).get? b = some u
  rw [sortedHeap_old (Nat.ne_of_lt below) (by rw [size_push']; exact Nat.lt_succ_of_lt below)]
  exact Heap.get?_push_of_some _ old
end
section
variable {X : Cx}
def rSortedSN (w : World) : List V → Hp → VK → Prop := fun vs H Q => ∃ (a : Addr) (S : Int → Bool) (n : Nat), vs = [V.ref a] ∧ H a = some (SetO w a S n) ∧
  ∀ (ns : List Int) (p : Addr), ns.Pairwise (· < ·) → (∀ k : Int, k ∈ ns ↔ S k = true) → ns.length = n → H p = none → Q (.ref p) (upd H p (.lst (ns.map V.int)))
theorem cr_sortedSN (calm : X.calm = true) : CallR X (.builtin "sorted") (rSortedSN X.w) := fun pins s σ H vs us Q I r h => by
  obtain ⟨a, S, n, rfl, ha, q⟩ := h
  rw [Vals.ref1 r]
  refine rise_set (setO_get I ha) (I.ok.hd calm) fun s' p out c ns k g o hp hg hi hs hm hl hsm => ?_
  have fit : (ns.map V.int).length ≤ sizeLine := by rw [List.length_map, hl]; exact fits_of_scanBound hsm
  have new : H p = none := I.hok.fresh hp
  have J : Inv X pins σ (upd H p (.lst (ns.map V.int))) { s with heap := s'.heap, gens := s'.gens, drawn := s'.drawn, toks := s'.toks } :=
    I.call (ch := []) (Un.laid k hp new) (I.hok.laid k hp ⟨fit, out.toList, c, vals_of_ints hi, hg⟩) (by rw [g]; exact I.bare) (fun _ z => nomatch z)
  have whole : s' = { s with heap := s'.heap, gens := s'.gens, drawn := s'.drawn, toks := s'.toks } := by
    cases s'
    cases s
    cases o
    rfl
  rw [whole]
  exact ⟨.ref p, _, J, rfl, q ns p hs hm hl new⟩
/-- one number more -/
theorem add_num {pins : List (Addr × Obj)} {σ : L2.St} {H : Hp} {s : Shared} {E : Value → Shared → Prop} {D : Addr} {S : Int → Bool} {n : Nat} {y : Int} {tk : Tok} {Q : Value → Shared → Prop} (I : Inv X pins σ H s) (hD : H D = some (SetO X.w D S n)) (room : n + 1 < scanBound)
    (h : ∀ s', Inv X pins σ (upd H D (SetO X.w D (fun j => S j || decide (j = y)) (if S y = true then n else n + 1))) s' → Q .none s') : wpAny (model X.prog X.w) X.A (call (.builtin "set.add") [.ref D, .int y tk]) Q E s := by
  refine setR_add (setO_get I hD) room fun h' but new => h _ ?_
  obtain ⟨o, es, ep, tb, ho, rest⟩ := id new
  exact I.write (e := D) (t' := s.toks + 1) (by rw [hD]; trivial) (.inl rfl) (fun b u hb hu => (but.2 b hb).trans hu) ⟨o, ho⟩ (setO_new new)
/-- {elt for target in iter if ..}, elt a number; D the new set -/
def tScI (w : World) (wi : TI) (g : TG) (tt : TT) (te : TE) (vs : List Nat) : TE := fun σ H Q => wi σ H fun J G => ∀ D, G D = none → ∃ W : Nat → Nat → Hp → Prop, (∃ m, W 0 m (upd G D (SetO w D (fun _ => false) 0))) ∧ ∀ i m H, W i m H →
  (J.stop i H ∧ Q (.ref D) H) ∨ (J.go i H ∧ ∃ Nx : Hp → Prop, (∀ H', Nx H' → ∃ m', m' < m ∧ W (i + 1) m' H') ∧ ∀ x H', J.yld i H x H' → g x (wipe σ vs) H' fun σ2 H2 => wipe σ2 vs = wipe σ vs ∧ tt σ2 H2 fun b H3 =>
    if b = true then te σ2 H3 fun y H4 => ∃ (c : Int) (S : Int → Bool) (n : Nat), y = .int c ∧ H4 D = some (SetO w D S n) ∧ n + 1 < scanBound ∧ Nx (upd H4 D (SetO w D (fun j => S j || decide (j = c)) (if S c = true then n else n + 1))) else Nx H3)
abbrev emptyS (w : World) : Obj := { cls := .type "set", dict := none, data := .set #[] 0 (.fresh 0 0 (!w.params.followText "set-order")) }
theorem pe_scI {elt tg iter : Expr} {ifs : List Expr} {scope : Scope} {own : List (PySem.Str × Nat)} {pos : Pos} {wi : TI} {g : TG} {tt : TT} {te : TE} (calm : X.calm = true) (nd : X.N.Nodup) (walk : PI X tg iter wi) (ok : BlkOk X.N X.env.scope scope own)
    (hg : ∀ (s : Shared) (H : Hp) (C : Addr) (cl : List (PySem.Str × Addr)) (fp : List Addr), PG (X.blk s H scope (compEnvC scope cl C X.env) fp) tg g)
    (ht : ∀ (s : Shared) (H : Hp) (C : Addr) (cl : List (PySem.Str × Addr)) (fp : List Addr), PTs (X.blk s H scope (compEnvC scope cl C X.env) fp) ifs tt)
    (he : ∀ (s : Shared) (H : Hp) (C : Addr) (cl : List (PySem.Str × Addr)) (fp : List Addr), PE (X.blk s H scope (compEnvC scope cl C X.env) fp) elt te)
    (fold : ∀ x, foldedSetIterable iter X.env x = pure x := by intro _; rfl) :
    PE X (.SetComp elt [⟨tg, iter, ifs, 0⟩] scope pos) (tScI X.w wi g tt te (own.map (·.2))) := by
  refine ⟨fun pins s σ H Q I h => ?_⟩
  rw [PpSet.eval_SetComp]
  have captured : ∀ y ∈ scope.names, y.2 = .free → ∃ c, X.env.cells.lookup y.1 = some c := fun y hy e => (ok.free y hy e).elim (fun k => I.ok.has _ (.inl k)) (fun k => I.ok.has _ (.inr k))
  refine wpAny_comprehension_free (use := none) rfl fold (closure_ok captured) ok.kind (fun y hy e => by rw [ok.uniq y hy, e]) (thn (walk.run pins s σ H _ I h) fun xv s1 hx => thn hx fun itv s2 h2 => ?_)
  obtain ⟨it, fp, tn, J, H2, rfl, I2, T, st2, f2, q⟩ := h2
  refine PpSet.newSet_ok (newEnv_comp ?_)
  generalize atD : s2.heap.objs.size = D
  have freshD : H2 D = none := I2.hok.fresh (Nat.le_of_eq atD)
  obtain ⟨W, ⟨m0, w0⟩, turn⟩ := q D freshD
  generalize at3 : ({ s2 with heap := s2.heap.push (emptyS X.w) } : Shared) = s3
  have heap3 : s3.heap = s2.heap.push (emptyS X.w) := by rw [← at3]
  have I3 : Inv X pins σ (upd H2 D (SetO X.w D (fun _ => false) 0)) s3 := by
    rw [← at3]
    refine I2.laid (t' := s2.toks) (fun b o e => Heap.get?_push_of_some _ e) (Nat.le_of_eq atD) (setO_new ?_)
    rw [← atD]
    exact setR_fresh X.w
  have low : ∀ b ∈ fp, b < s2.heap.objs.size := fun b hb => by
    obtain ⟨o, e, _⟩ := T.obj _ _ st2 b hb
    exact Heap.lt_size e
  have f3 : ∀ b ∈ fp, FpOk X pins (upd H2 D (SetO X.w D (fun _ => false) 0)) b ∧ b < s3.heap.objs.size := fun b hb => by
    have lt := low b hb
    refine ⟨⟨?_, (f2 b hb).2⟩, by rw [heap3, Heap.size_push]; exact Nat.lt_succ_of_lt lt⟩
    rw [upd_ne (by rw [← atD]; exact Nat.ne_of_lt lt)]
    exact (f2 b hb).1
  have st3 : tn 0 s3.heap := T.keep _ _ _ st2 fun b _ o e => by rw [heap3]; exact Heap.get?_push_of_some _ e
  have I4 := block_start I3 ok nd f3
  generalize cells : cellsFrom (s3.heap.objs.size + 1) scope.names (cloFrom X.env.cells scope.names []) = cl at I4 ⊢
  have pg := hg s3 (upd H2 D (SetO X.w D (fun _ => false) 0)) s3.heap.objs.size cl fp
  have pt := ht s3 (upd H2 D (SetO X.w D (fun _ => false) 0)) s3.heap.objs.size cl fp
  have pe := he s3 (upd H2 D (SetO X.w D (fun _ => false) 0)) s3.heap.objs.size cl fp
  have none3 : ∀ b ∈ fp, (upd H2 D (SetO X.w D (fun _ => false) 0)) b = none := fun b hb => (f3 b hb).1.1
  show codeAny _ _ (.compStart (.SetComp elt [⟨tg, iter, ifs, 0⟩] scope pos) 0 (.ref it) (.ref D) (compEnvC scope cl s3.heap.objs.size X.env)) (compPost (model X.prog X.w) X.A X.xe none _ (.ref D) s3.heap.objs.size) { s3 with heap := pushCells (s3.heap.push { cls := .type "dict", data := .dict #[] }) scope.names }
  generalize inner : compEnvC scope cl s3.heap.objs.size X.env = ce at I4 pg pt pe ⊢
  have cL : ce.locals = s3.heap.objs.size := by rw [← inner]; rfl
  generalize upd H2 D (SetO X.w D (fun _ => false) 0) = H3 at I3 I4 pg pt pe w0 none3 f3
  generalize at4 : ({ s3 with heap := pushCells (s3.heap.push { cls := .type "dict", data := .dict #[] }) scope.names } : Shared) = s4 at I4 ⊢
  have st4 : tn 0 s4.heap := T.keep _ _ _ st3 fun b _ o e => by rw [← at4]; exact pushCells_keeps _ _ _ _ (Heap.get?_push_of_some _ e)
  have still : ∀ {σ' : L2.St} {H' : Hp} {s' : Shared}, Inv (X.blk s3 H3 scope ce fp) [] σ' H' s' → (∀ b ∈ fp, H' b = none) → ∀ b ∈ fp, FpOk (X.blk s3 H3 scope ce fp) [] H' b := fun {σ' H' s'} I' hn b hb =>
    ⟨hn b hb, (I'.ok.exf b hb).1, I'.ok.exfs b hb, .inl hb, fun x c e => (I'.ok.exf b hb).2 x c e, fun p hp => absurd (show p ∈ ([] : List (Addr × Obj)) ++ [] from hp) (by simp)⟩
  have loop : codeAny (model X.prog X.w) X.A (.compLoop (.SetComp elt [⟨tg, iter, ifs, 0⟩] scope pos) 0 (.ref it) (.ref D) ce) (compPost (model X.prog X.w) X.A X.xe none (fun u s' => ∃ v H', Inv X pins σ H' s' ∧ RelV v u ∧ Q v H') (.ref D) s3.heap.objs.size) s4 := by
    refine PpSet.compLoopS_any (fun n s' => ∃ i H', Inv (X.blk s3 H3 scope ce fp) [] (wipe σ (own.map (·.2))) H' s' ∧ tn i s'.heap ∧ (∀ b ∈ fp, H' b = none) ∧ W i n H') (fun n s5 now => ?_) m0 ⟨0, H3, I4, st4, none3, w0⟩
    obtain ⟨i, H5, I5, st5, n5, w5⟩ := now
    rcases turn i n H5 w5 with ⟨stop, fin⟩ | ⟨go, Nx, less, step⟩
    · refine thnF (T.done (X.blk s3 H3 scope ce fp) rfl rfl rfl calm i [] s5 _ H5 (fun _ _ => False) I5 (still I5 n5) st5 stop) fun r s6 ⟨er, I6⟩ => ?_
      subst er
      have I7 : Inv X pins σ H5 s6 := I3.call' (ch := fp) I6.os I6.base I6.hok I6.bare fun b hb => ⟨(f3 b hb).1.2.2.2.1, (f3 b hb).1.2.1, (f3 b hb).1.2.2.2.2.1, (f3 b hb).1.2.2.2.2.2⟩
      have gone : H5 s3.heap.objs.size = none := by
        have z : H5 ce.locals = none := I6.free
        rwa [cL] at z
      obtain ⟨m, hn, _⟩ := I6.loc
      have hn : s6.heap.Ns ce.locals m := hn
      rw [cL] at hn
      obtain ⟨f0, f1, f2', f3', f4, f5⟩ := I3.fpOk (Nat.le_refl _) gone
      exact ⟨m, hn, fun h'' sb => ⟨.ref D, H5, I7.turned (t' := s6.toks) (fun b o hb e => (sb.2 b hb).trans e) f0 f1 f3' f4 f5, rfl, fin⟩⟩
    · refine thnF (T.item (X.blk s3 H3 scope ce fp) rfl rfl rfl calm i [] s5 _ H5 (fun _ _ => False) I5 (still I5 n5) st5 go) fun r s6 ⟨u, er, h6⟩ => ?_
      subst er
      refine thnF h6 fun _ s7 ⟨x, H7, I7, r7, y7, st7, n7⟩ => ?_
      refine thnF (pg.run _ s7 _ H7 x u _ (I7.pinned (still I7 n7) (T.obj _ _ st7)) r7 (step x H7 y7)) fun _ s8 ⟨σ8, H8, I8, hw8, q8⟩ => ?_
      refine thnF (pt.run _ s8 σ8 H8 _ I8 q8) fun b s9 ⟨H9, I9, q9⟩ => ?_
      have close : ∀ {s' : Shared} {H' : Hp}, Inv (X.blk s3 H3 scope ce fp) ([] ++ pinsAt fp s7.heap) σ8 H' s' → Nx H' → ∃ m, m < n ∧ ∃ i H', Inv (X.blk s3 H3 scope ce fp) [] (wipe σ (own.map (·.2))) H' s' ∧ tn i s'.heap ∧ (∀ b ∈ fp, H' b = none) ∧ W i m H' := fun {s' H'} I' nx => by
        obtain ⟨m', lt, w'⟩ := less H' nx
        have pinned : ∀ b ∈ fp, ∀ o, s7.heap.get? b = some o → s'.heap.get? b = some o ∧ H' b = none := fun b hb o e =>
          let z := I'.pin (b, o) (List.mem_append_right _ (List.mem_append_right _ (mem_pinsAt hb e)))
          ⟨z.1, z.2.1⟩
        refine ⟨m', lt, i + 1, H', (I'.unpinned (pins := [])).weak (by rw [← hw8, wipe_length]) (fun j v e => ?_), T.keep _ _ _ st7 fun b hb o e => (pinned b hb o e).1, fun b hb => ?_, w'⟩
        · rw [← hw8] at e
          exact (wipe_some e).1
        · obtain ⟨o, e, _⟩ := T.obj _ _ st7 b hb
          exact (pinned b hb o e).2
      cases b with
      | false =>
        simp only [Bool.false_eq_true, if_false] at q9 ⊢
        exact close I9 q9
      | true =>
        simp only [if_true] at q9 ⊢
        refine thnF (pe.run _ s9 σ8 H9 _ I9 q9) fun z s10 ⟨yv, H10, I10, r10, c, S0, n0, ey, hD10, hz10, nx⟩ => ?_
        subst ey
        obtain ⟨tk, rfl⟩ := r10
        exact add_num (X := X.blk s3 H3 scope ce fp) I10 hD10 hz10 fun s11 I11 => close I11 nx
  exact PpSet.codeAny_compStart_set loop (T.self X.A 0 _ _ _ st4 loop)
end
/-! set(xs), xs a list of numbers -/
section
variable {P : Program} {w : World} {A : Around} {E : Value → Shared → Prop} {s : Shared}
set_option maxHeartbeats 6000000 in
theorem set_of_list {l : Addr} {items : Array Value} {ns : List Int} {Q : Value → Shared → Prop} (free : A.handled = none) (list : s.heap.IsList l items) (nums : IntsAre items.toList ns) (room : ns.length + 1 < scanBound)
    (then_ : ∀ (h' : Heap) (tk c : Nat), SetR w h' s.heap.objs.size (fun j => decide (j ∈ ns)) c → c ≤ ns.length → (∀ b o, s.heap.get? b = some o → h'.get? b = some o) → Q (.ref s.heap.objs.size) { s with heap := h', toks := tk }) :
    wpAny (model P w) A (call (.type "set") [.ref l]) Q E s := by
  have many : items.size = ns.length := by
    have := IntsAre.length nums
    rwa [Array.length_toList] at this
  obtain ⟨first, rest, mro⟩ := F.called_set.mro
  have made := F.called_set.made
  have sub := F.called_set.sub
  have notT := F.called_set.notType
  have can := F.called_set.canCreate
  have one := F.typeCall_set_1 (.ref l)
  refine wpAny_call (codeAny_of_tree ?_)
  show wpAny _ _ (callAny (.type "set") _) _ _ _
  refine wpAny_pure ⟨Code.quiet_builtin _ (by decide +kernel), codeAny_builtin F.entry_type_call ?_⟩
  rw [Around.under_plain (weight_type_call_type "set" [.ref l] []) rfl]
  repeat (any_goals (first | assumption | wp_step))
  refine codeAny_mono (code_set_led1 (.ref l) (E := E) (Q₁ := fun v s1 => v = .ref s.heap.objs.size ∧ s1 = { s with heap := s.heap.push (emptyS w) }) ⟨rfl, rfl⟩) fun r s1 hr => ?_
  match r, hr with
  | .error e, hr => exact hr
  | .ok (.ret _), ⟨e1, e2⟩ =>
    subst e1 e2
    have stands : (s.heap.push (emptyS w)).get? s.heap.objs.size = some (emptyS w) := Heap.get?_push_size _ rfl
    have typed : Shared.TypeIs { s with heap := s.heap.push (emptyS w) } (.ref s.heap.objs.size) "set" := ⟨_, stands, rfl⟩
    have look := F.called_set.init.lookup
    have bound := F.called_set.init.bind (.ref s.heap.objs.size)
    repeat (any_goals (first | assumption | wp_step))
    refine codeAny_mono (codeAny_call_builtin (R := wants (fun r s2 => r = .none ∧ ∃ h' tk c, s2 = { s with heap := h', toks := tk } ∧ SetR w h' s.heap.objs.size (fun j => decide (j ∈ ns)) c ∧ c ≤ ns.length ∧ (∀ b o, s.heap.get? b = some o → h'.get? b = some o)) E) F.called_set.init.plain F.entry_set_init (check_set_init_1 typed ?_)) fun r2 s2 hr2 => ?_
    · obtain ⟨⟨cl, dc, dt, sl⟩, at_, ecl, nl, edt⟩ := list
      simp only at ecl edt
      subst ecl edt
      have at2 : (s.heap.push (emptyS w)).get? l = some { cls := .type "list", dict := dc, data := .seq items nl, slots := sl } := Heap.get?_push_of_some _ at_
      have n1 := F.sub_list_set
      have n2 := F.sub_list_frozenset
      have n3 : (Value.type "list" == Value.type "dict") = false := by decide
      have list2 : (s.heap.push (emptyS w)).IsList l items := ⟨_, at2, rfl, nl, rfl⟩
      unfold Builtin.«set.__init__» noKeywords Builtin.Frozenset.updateFrom
      generalize iterAs : pyIter = PI
      wp_walk
      subst iterAs
      refine wpAny_pyIter_list list2 (wpAny_bind (wpAny_runValue ?_))
      have ll : l < s.heap.objs.size := Heap.lt_size at_
      have sz : (s.heap.push (emptyS w)).objs.size = s.heap.objs.size + 1 := Heap.size_push ..
      have free3 : A.in1.in1.in1.handled = none := by simp [free]
      have unlike : l ≠ (s.heap.push (emptyS w)).objs.size := by rw [sz]; exact Nat.ne_of_lt (Nat.lt_succ_of_lt ll)
      have out : s.heap.objs.size ∉ [(s.heap.push (emptyS w)).objs.size, l] := by
        rw [sz]
        simp only [List.mem_cons, List.mem_singleton, List.not_mem_nil, or_false, not_or]
        exact ⟨Nat.ne_of_lt (Nat.lt_succ_self _), Nat.ne_of_gt ll⟩
      have vals : ∀ (i : Nat) (v : Value), items[i]? = some v → ∃ k t, ns[i]? = some k ∧ v = .int k t := fun i v hv => by
        have hi : i < ns.length := by rw [← many]; exact (Array.getElem?_eq_some_iff.mp hv).1
        obtain ⟨t, e⟩ := PyProof.Rows.IntsAre.int_at nums i v (by rw [Array.getElem?_toList]; exact hv)
        exact ⟨ns[i], t, List.getElem?_eq_getElem hi, by rw [e, List.getD_eq_getElem?_getD, List.getElem?_eq_getElem hi] <;> rfl⟩
      refine set_update_ints ((Walks.list free3 _ l unlike items).toS) s.heap.objs.size out ns many room vals (items.size - 0) 0 _ (by omega) (Nat.zero_le _) ⟨⟨_, Heap.get?_push_size _ rfl, rfl, rfl⟩, (list2.push _)⟩ ⟨0, Nat.le_refl 0, setR_new_at (Heap.get?_push_of_some _ stands)⟩ fun s' c' mv hc' hS' => ?_
      obtain ⟨h', g2, d', tk', os'⟩ := s'
      have eg : g2 = s.gens := mv.gens
      have ed : d' = s.drawn := mv.drawn
      have eo : os' = s.os := mv.os
      subst eg ed eo
      show wpAny _ _ _ _ _ _
      refine wpAny_pure ?_
      show wpAny _ _ (ret Value.none) _ _ _
      rw [many] at hc'
      refine wpAny_pure ⟨rfl, h', tk', c', rfl, hS', hc', fun b o e => ?_⟩
      have below : b < s.heap.objs.size := Heap.lt_size e
      refine mv.heap b o ?_ (Heap.get?_push_of_some _ (Heap.get?_push_of_some _ e))
      simp only [List.mem_cons, List.mem_singleton, List.not_mem_nil, or_false, not_or]
      exact ⟨Nat.ne_of_lt below, by rw [sz]; exact Nat.ne_of_lt (Nat.lt_succ_of_lt below)⟩
    · match r2, hr2 with
      | .error e, hr2 => exact hr2
      | .ok (.ret _), ⟨e1, h', tk, c', e2, hS', hc', hk'⟩ =>
        subst e1 e2
        repeat (any_goals (first | assumption | wp_step))
        exact then_ _ _ _ hS' hc' hk'
end
section
variable {X : Cx}
def rSetI (K : PySem.W.Frag) (w : World) : List V → Hp → VK → Prop := fun xs H Q => ∃ (l : Addr) (ns : List Int), xs = [.ref l] ∧ SqL K H l (ns.map V.int) ∧ ns.length < 4000 ∧ ∀ p c, H p = none → c ≤ ns.length → Q (.ref p) (upd H p (SetO w p (fun j => decide (j ∈ ns)) c))
theorem cr_setI (calm : X.calm = true) : CallR X (.type "set") (rSetI X.K X.w) := fun pins s σ H xs us Q I r h => by
  obtain ⟨l, ns, rfl, hs, small, q⟩ := h
  rw [Vals.ref1 r]
  obtain ⟨its, rv, hl, _⟩ := I.list hs
  refine set_of_list (I.ok.hd calm) hl.isList (ints_of_vals rv) (by unfold scanBound; omega) fun h' tk c new hc keep => ?_
  exact ⟨.ref _, upd H s.heap.objs.size (SetO X.w s.heap.objs.size (fun j => decide (j ∈ ns)) c), I.laid (t' := tk) keep (Nat.le_refl _) (setO_new new), rfl, q _ c (I.hok.fresh (Nat.le_refl _)) hc⟩
theorem kk_sortedSN (w : World) (calm : X.calm = true) (h : X.w = w := by rfl) : CallR X (.builtin "sorted") (rSortedSN w) := h ▸ cr_sortedSN calm
theorem kk_setI (K : PySem.W.Frag) (w : World) (calm : X.calm = true) (h1 : X.K = K := by rfl) (h2 : X.w = w := by rfl) : CallR X (.type "set") (rSetI K w) := by
  subst h1 h2
  exact cr_setI calm
end
/-! ### lists of tuples: the addresses beside what stands there -/
abbrev refs {α : Type} (L : List (Addr × α)) : List V := L.map fun q => V.ref q.1
def RowsAt {α : Type} (f : α → List V) (H : Hp) (L : List (Addr × α)) : Prop := ∀ q ∈ L, H q.1 = some (.tup (f q.2))
section
variable {α : Type} {f : α → List V} {H H' : Hp} {L M : List (Addr × α)} {K : PySem.W.Frag}
theorem RowsAt.same (h : RowsAt f H L) (e : Same H H') : RowsAt f H' L := fun q hq => e _ _ (h q hq)
theorem RowsAt.sub (h : RowsAt f H L) (e : ∀ q ∈ M, q ∈ L) : RowsAt f H M := fun q hq => h q (e q hq)
theorem RowsAt.but {b : Addr} {xs : List V} (h : RowsAt f H L) (hb : H b = some (.lst xs)) (t : But b H H') : RowsAt f H' L := fun q hq => t _ _ (ne_of (h q hq) hb (by intro z; cases z)) (h q hq)
theorem RowsAt.updL {D : Addr} {xs : List V} {o : HO} (h : RowsAt f H L) (hD : H D = some (.lst xs)) : RowsAt f (upd H D o) L := fun q hq => by
  rw [upd_ne (ne_of (h q hq) hD (by intro z; cases z))]
  exact h q hq
theorem RowsAt.snoc {q : Addr × α} (h : RowsAt f H L) (hq : H q.1 = some (.tup (f q.2))) : RowsAt f H (L ++ [q]) := fun x hx => by
  rcases List.mem_append.mp hx with y | y
  · exact h x y
  · rw [List.mem_singleton.mp y]
    exact hq
theorem RowsAt.nil : RowsAt f H ([] : List (Addr × α)) := fun _ h => (nomatch h)
theorem refs_at {i : Nat} {x : V} (h : (refs L)[i]? = some x) : ∃ q, L[i]? = some q ∧ x = .ref q.1 ∧ q ∈ L := by
  rw [List.getElem?_map] at h
  obtain ⟨q, hq, rfl⟩ := Option.map_eq_some_iff.mp h
  exact ⟨q, hq, rfl, List.mem_of_getElem? hq⟩
end
theorem refs_snoc {α : Type} (S : List (Addr × α)) (q : Addr × α) : refs (S ++ [q]) = refs S ++ [V.ref q.1] := by
  unfold refs
  rw [List.map_append]
  rfl
/-! what walks a list or a tuple that stands still -/
def JOk (H : Hp) (J : It) (xs : List V) : Prop := ∀ i G, Same H G → (i < xs.length → J.go i G) ∧ (i = xs.length → J.stop i G) ∧ ∀ x G', J.yld i G x G' → G' = G ∧ xs[i]? = some x
section
variable {K : PySem.W.Frag} {H : Hp} {a : Addr} {xs : List V}
theorem jok_l (h : SqL K H a xs) : JOk H (Itl K a) xs := fun i G s => by
  have q := s.seq h
  exact ⟨fun c => ⟨xs, _, q, List.getElem?_eq_getElem c⟩, fun c => ⟨xs, q, by omega⟩, fun x G' y => ⟨y.1, y.2 xs q⟩⟩
theorem jok_t (h : SqT K H a xs) : JOk H (Itt K a) xs := fun i G s => by
  have q := seqT_same s h
  exact ⟨fun c => ⟨xs, _, q, List.getElem?_eq_getElem c⟩, fun c => ⟨xs, q, by omega⟩, fun x G' y => ⟨y.1, y.2 xs q⟩⟩
theorem walk_or {σ : L2.St} {j : Nat} {R : It → Hp → Prop} (hv : σ[j]? = some (some (.ref a))) (hS : SqL K H a xs ∨ SqT K H a xs) (h : ∀ J, JOk H J xs → R J H) : iList K (tVar j) σ H R ∨ iTup K (tVar j) σ H R := by
  rcases hS with hS | hS
  · exact .inl ⟨_, hv, a, rfl, ⟨_, hS⟩, h _ (jok_l hS)⟩
  · exact .inr ⟨_, hv, a, rfl, ⟨_, hS⟩, h _ (jok_t hS)⟩
theorem walk_l {σ : L2.St} {j : Nat} {R : It → Hp → Prop} (hv : σ[j]? = some (some (.ref a))) (hS : SqL K H a xs) (h : ∀ J, JOk H J xs → R J H) : iList K (tVar j) σ H R := ⟨_, hv, a, rfl, ⟨_, hS⟩, h _ (jok_l hS)⟩
end
section
variable {α : Type} {f : α → List V} {H : Hp} {L : List (Addr × α)} {J : It} {g : TG} {tt : TT} {te : TE} {vs : List Nat} {σ : L2.St} {D : Addr} {Qd : Hp → Prop}
theorem take_snoc {β : Type} {l : List β} {i : Nat} {x : β} (h : l[i]? = some x) : l.take (i + 1) = l.take i ++ [x] := by
  rw [List.take_add_one, h]
  rfl
theorem filt_snoc {β : Type} {p : β → Bool} {l : List β} {x : β} : (l ++ [x]).filter p = l.filter p ++ (if p x = true then [x] else []) := by
  rw [List.filter_append, List.filter_cons]
  rfl
/-- a block over rows that takes some thing of some rows -/
theorem rows_lc (p : α → Bool) (el : Addr × α → V) (ok : JOk H J (refs L)) (hR : RowsAt f H L) (small : L.length ≤ 1000) (hD : H D = none)
    (turn : ∀ q ∈ L, ∀ G, Same H G → G q.1 = some (.tup (f q.2)) → ∀ (Y : VK) (N : Hp → Prop), (p q.2 = true → Y (el q) G) → (p q.2 = false → N G) → g (.ref q.1) (wipe σ vs) G fun σ2 H2 => wipe σ2 vs = wipe σ vs ∧ tt σ2 H2 fun b H3 => if b = true then te σ2 H3 Y else N H3)
    (last : ∀ G, Same H G → G D = some (.lst ((L.filter fun q => p q.2).map el)) → Qd G) :
    ∃ W : Nat → Nat → Hp → Prop, (∃ m, W 0 m (upd H D (.lst []))) ∧ ∀ i m H, W i m H → (J.stop i H ∧ Qd H) ∨ (J.go i H ∧ ∃ Nx : Hp → Prop, (∀ H', Nx H' → ∃ m', m' < m ∧ W (i + 1) m' H') ∧ ∀ x H', J.yld i H x H' → g x (wipe σ vs) H' fun σ2 H2 => wipe σ2 vs = wipe σ vs ∧ tt σ2 H2 fun b H3 =>
      if b = true then te σ2 H3 fun y H4 => ∃ acc, H4 D = some (.lst acc) ∧ acc.length < sizeLine ∧ Nx (upd H4 D (.lst (acc ++ [y]))) else Nx H3) := by
  have ln : (refs L).length = L.length := List.length_map ..
  refine lc_gen (n := L.length) (fun i G => Same H G ∧ G D = some (.lst (((L.take i).filter fun q => p q.2).map el))) ⟨same_new hD, upd_same⟩ (fun i G h => ?_) (fun i G v G' hi h y => ?_) (fun G h => ?_)
  · have := ok i G h.1
    rw [ln] at this
    exact ⟨this.1, this.2.1⟩
  · obtain ⟨rfl, hx⟩ := (ok i G h.1).2.2 v G' y
    obtain ⟨q, hq, rfl, hm⟩ := refs_at hx
    have le : (((L.take i).filter fun q => p q.2).map el).length ≤ i := by
      rw [List.length_map]
      exact Nat.le_trans (List.length_filter_le _ _) (by rw [List.length_take]; omega)
    refine turn q hm G' h.1 (h.1 _ _ (hR q hm)) _ _ (fun hp => ⟨_, h.2, Nat.lt_of_le_of_lt le (small1000 (by omega)), fun c o e => ?_, ?_⟩) (fun hp => ⟨h.1, ?_⟩)
    · rw [upd_ne (ne_of_none e hD)]
      exact h.1 _ _ e
    · rw [upd_same, take_snoc hq, filt_snoc, if_pos hp, List.map_append]
      rfl
    · rw [h.2, take_snoc hq, filt_snoc, if_neg (by rw [hp]; decide), List.append_nil]
  · obtain ⟨s, e⟩ := h
    rw [List.take_of_length_le (Nat.le_refl _)] at e
    exact last G s e
/-- a block over rows that makes a new tuple of some rows -/
theorem rows_lcA {β : Type} {f2 : β → List V} (p : α → Bool) (el : α → β) (ok : JOk H J (refs L)) (hR : RowsAt f H L) (small : L.length ≤ 1000) (hD : H D = none)
    (turn : ∀ q ∈ L, ∀ G, Same H G → G q.1 = some (.tup (f q.2)) → ∀ (Y : VK) (N : Hp → Prop), (p q.2 = true → ∀ t, G t = none → Y (.ref t) (upd G t (.tup (f2 (el q.2))))) → (p q.2 = false → N G) → g (.ref q.1) (wipe σ vs) G fun σ2 H2 => wipe σ2 vs = wipe σ vs ∧ tt σ2 H2 fun b H3 => if b = true then te σ2 H3 Y else N H3)
    (last : ∀ G (S : List (Addr × β)), Same H G → G D = some (.lst (refs S)) → RowsAt f2 G S → S.map (·.2) = ((L.map (·.2)).filter p).map el → Qd G) :
    ∃ W : Nat → Nat → Hp → Prop, (∃ m, W 0 m (upd H D (.lst []))) ∧ ∀ i m H, W i m H → (J.stop i H ∧ Qd H) ∨ (J.go i H ∧ ∃ Nx : Hp → Prop, (∀ H', Nx H' → ∃ m', m' < m ∧ W (i + 1) m' H') ∧ ∀ x H', J.yld i H x H' → g x (wipe σ vs) H' fun σ2 H2 => wipe σ2 vs = wipe σ vs ∧ tt σ2 H2 fun b H3 =>
      if b = true then te σ2 H3 fun y H4 => ∃ acc, H4 D = some (.lst acc) ∧ acc.length < sizeLine ∧ Nx (upd H4 D (.lst (acc ++ [y]))) else Nx H3) := by
  have ln : (refs L).length = L.length := List.length_map ..
  refine lc_gen (n := L.length) (fun i G => Same H G ∧ ∃ S : List (Addr × β), G D = some (.lst (refs S)) ∧ RowsAt f2 G S ∧ S.map (·.2) = (((L.take i).map (·.2)).filter p).map el) ⟨same_new hD, [], upd_same, .nil, rfl⟩ (fun i G h => ?_) (fun i G v G' hi h y => ?_) (fun G h => ?_)
  · have := ok i G h.1
    rw [ln] at this
    exact ⟨this.1, this.2.1⟩
  · obtain ⟨s, S, e, hS, hm⟩ := h
    obtain ⟨rfl, hx⟩ := (ok i G s).2.2 v G' y
    obtain ⟨q, hq, rfl, hmem⟩ := refs_at hx
    have le : (refs S).length ≤ i := by
      rw [List.length_map, ← List.length_map (f := (·.2)) (as := S), hm, List.length_map]
      exact Nat.le_trans (List.length_filter_le _ _) (by rw [List.length_map, List.length_take]; omega)
    have e1 : ((L.take (i + 1)).map (·.2)) = (L.take i).map (·.2) ++ [q.2] := by
      rw [take_snoc hq, List.map_append]
      rfl
    refine turn q hmem G' s (s _ _ (hR q hmem)) _ _ (fun hp t ht => ⟨_, same_new ht _ _ e, Nat.lt_of_le_of_lt le (small1000 (by omega)), fun c o ec => ?_, S ++ [(t, el q.2)], ?_, ?_, ?_⟩) (fun hp => ⟨s, S, e, hS, ?_⟩)
    · rw [upd_ne (ne_of_none ec hD)]
      exact same_new ht _ _ (s _ _ ec)
    · rw [upd_same, refs_snoc]
    · refine ((hS.same (same_new ht)).updL (same_new ht _ _ e)).snoc ?_
      show (upd (upd G' t _) D _) t = _
      rw [upd_ne (fun z => by rw [z, e] at ht; cases ht), upd_same]
    · rw [List.map_append, hm, e1, filt_snoc, if_pos hp, List.map_append]
      rfl
    · rw [hm, e1, filt_snoc, if_neg (by rw [hp]; decide), List.append_nil]
  · obtain ⟨s, S, e, hS, hm⟩ := h
    rw [List.take_of_length_le (Nat.le_refl _)] at hm
    exact last G S s e hS hm
end
section
variable {α : Type} {f : α → List V} {H : Hp} {L : List (Addr × α)} {J : It} {g : TG} {tt : TT} {te : TE} {vs : List Nat} {σ : L2.St} {D : Addr} {Qd : Hp → Prop}
/-- a set by a block over rows -/
theorem rows_sc {w : World} (key : α → Int) (ok : JOk H J (refs L)) (hR : RowsAt f H L) (small : L.length ≤ 1000) (hD : H D = none)
    (turn : ∀ q ∈ L, ∀ G, Same H G → G q.1 = some (.tup (f q.2)) → ∀ (Y : VK) (N : Hp → Prop), Y (.int (key q.2)) G → g (.ref q.1) (wipe σ vs) G fun σ2 H2 => wipe σ2 vs = wipe σ vs ∧ tt σ2 H2 fun b H3 => if b = true then te σ2 H3 Y else N H3)
    (last : ∀ G n, Same H G → n ≤ L.length → G D = some (SetO w D (fun k => decide (k ∈ L.map fun q => key q.2)) n) → Qd G) :
    ∃ W : Nat → Nat → Hp → Prop, (∃ m, W 0 m (upd H D (SetO w D (fun _ => false) 0))) ∧ ∀ i m H, W i m H → (J.stop i H ∧ Qd H) ∨ (J.go i H ∧ ∃ Nx : Hp → Prop, (∀ H', Nx H' → ∃ m', m' < m ∧ W (i + 1) m' H') ∧ ∀ x H', J.yld i H x H' → g x (wipe σ vs) H' fun σ2 H2 => wipe σ2 vs = wipe σ vs ∧ tt σ2 H2 fun b H3 =>
      if b = true then te σ2 H3 fun y H4 => ∃ (c : Int) (S : Int → Bool) (n : Nat), y = .int c ∧ H4 D = some (SetO w D S n) ∧ n + 1 < scanBound ∧ Nx (upd H4 D (SetO w D (fun j => S j || decide (j = c)) (if S c = true then n else n + 1))) else Nx H3) := by
  have ln : (refs L).length = L.length := List.length_map ..
  refine ⟨fun i m G => m + i = L.length ∧ Same H G ∧ ∃ n, n ≤ i ∧ G D = some (SetO w D (fun k => decide (k ∈ (L.take i).map fun q => key q.2)) n), ⟨L.length, by omega, same_new hD, 0, Nat.le_refl _, ?_⟩, fun i m G now => ?_⟩
  · rw [upd_same]
    congr 2
  · obtain ⟨em, s, n, le, e⟩ := now
    obtain ⟨c1, c2, c3⟩ := ok i G s
    rw [ln] at c1 c2
    by_cases c : i < L.length
    · refine .inr ⟨c1 c, fun G' => Same H G' ∧ ∃ n, n ≤ i + 1 ∧ G' D = some (SetO w D (fun k => decide (k ∈ (L.take (i + 1)).map fun q => key q.2)) n), fun G' z => ⟨m - 1, by omega, by omega, z.1, z.2⟩, fun x G' y => ?_⟩
      obtain ⟨rfl, hx⟩ := c3 x G' y
      obtain ⟨q, hq, rfl, hmem⟩ := refs_at hx
      refine turn q hmem G' s (s _ _ (hR q hmem)) _ _ ⟨_, _, _, rfl, e, by unfold scanBound; omega, fun c o ec => ?_, (if decide (key q.2 ∈ (L.take i).map fun q => key q.2) = true then n else n + 1), ?_, ?_⟩
      · rw [upd_ne (ne_of_none ec hD)]
        exact s _ _ ec
      · split <;> omega
      · rw [upd_same]
        congr 2
        funext k
        rw [take_snoc hq, List.map_append, List.map_singleton]
        by_cases z : k = key q.2
        · simp [z]
        · simp [z]
    · have z : i = L.length := by omega
      rw [z, List.take_of_length_le (Nat.le_refl _)] at e
      exact .inl ⟨c2 z, last G n s (by omega) e⟩
end
/-! ### len(set(t)), t a tuple of numbers -/
section
variable {X : Cx}
theorem one_iff {l : List Int} (nd : l.Nodup) : l.length = 1 ↔ ∃ k, ∀ j, j ∈ l ↔ j = k := by
  constructor
  · intro h
    match l, h with
    | [k], _ => exact ⟨k, fun j => by simp⟩
  · rintro ⟨k, h⟩
    match l, nd, h with
    | [], _, h => exact absurd ((h k).mpr rfl) (by simp)
    | [_], _, _ => rfl
    | a :: b :: r, nd, h =>
      have e1 := (h a).mp (by simp)
      have e2 := (h b).mp (by simp)
      rw [List.nodup_cons] at nd
      exact absurd (show a ∈ b :: r by rw [e1, e2]; exact List.mem_cons_self) nd.1
def tLenSetT (K : PySem.W.Frag) (ta : TE) : TE := fun σ H Q => ta σ H fun x H1 => ∃ (l : Addr) (ns : List Int), x = .ref l ∧ SqT K H1 l (ns.map V.int) ∧ ns.length < 4000 ∧ ∀ c : Nat, (c = 1 ↔ ∃ k, ∀ j, j ∈ ns ↔ j = k) → Q (.int c) H1
theorem pe_lenSetT {a : Expr} {ta : TE} {p p2 q pos : Pos} (hg : Gl X "len") (hm : X.mg "len" = none) (hg2 : Gl X "set") (hm2 : X.mg "set" = none) (ha : PE X a ta) (hc : X.calm = true := by rfl)
    (na : starEach [a] X.env = (false, eval a X.env) :: starEach [] X.env := by rfl) : PE X (.Call (.Name "len" p) [.Call (.Name "set" p2) [a] [] q] [] pos) (tLenSetT X.K ta) := by
  refine ⟨fun pins s σ H Q I h => ?_⟩
  refine Call_ (ld_blt I hg hm boot_len ?_)
  refine PyProof.Rows.callWith_builtin1 (PyProof.Rows.args_cons ?_ rfl) rfl rfl
  refine Call_ (ld_blt I hg2 hm2 boot_set ?_)
  refine PyProof.Rows.callWith_type1 (PyProof.Rows.args_cons (thn (ha.run pins s σ H _ I h) fun v s1 ⟨x, H1, I1, r1, q1⟩ => PyProof.Rows.args_nil ?_) na) na rfl
  obtain ⟨l, ns, rfl, hq, hl, q1⟩ := q1
  cases r1
  obtain ⟨its, r, pl, hz⟩ := I1.tuple hq
  refine call_set_tupI ns (I1.ok.hd hc) pl (by simpa using intsAre_of r) (by unfold scanBound; omega) fun h' tk c hS hcn hk => ?_
  refine PyProof.Rows.args_nil ?_
  obtain ⟨o, es, ep, t, ho, hex, hd, _, nd, hmem, _, hf, hn, _⟩ := hS
  have I2 : Inv X pins σ H1 { s1 with heap := h', toks := tk } := I1.kept fun b o e => hk b o e
  have e1 := one_iff nd
  rw [List.length_map, Array.length_toList, hn] at e1
  refine call_len_set ho hex hd hf (by rw [hn]; omega) ⟨.int c, H1, I2.tok _, ⟨_, by rw [hn]⟩, q1 c (e1.trans ?_)⟩
  constructor
  · rintro ⟨k, hk⟩
    exact ⟨k, fun j => by rw [← hk j, ← hmem j, decide_eq_true_eq]⟩
  · rintro ⟨k, hk⟩
    exact ⟨k, fun j => by rw [← hk j, ← hmem j, decide_eq_true_eq]⟩
end
section
variable {H : Hp} {xs : List V} {J : It} {g : TG} {tt : TT} {te : TE} {vs : List Nat} {σ : L2.St} {D : Addr} {Qd : Hp → Prop}
/-- a block over the items of a list or a tuple, one item made of each -/
theorem vals_lc (el : V → V) (ok : JOk H J xs) (small : xs.length ≤ 1000) (hD : H D = none)
    (turn : ∀ x ∈ xs, ∀ G, Same H G → ∀ (Y : VK) (N : Hp → Prop), (∀ G', Same G G' → Y (el x) G') → g x (wipe σ vs) G fun σ2 H2 => wipe σ2 vs = wipe σ vs ∧ tt σ2 H2 fun b H3 => if b = true then te σ2 H3 Y else N H3)
    (last : ∀ G, Same H G → G D = some (.lst (xs.map el)) → Qd G) :
    ∃ W : Nat → Nat → Hp → Prop, (∃ m, W 0 m (upd H D (.lst []))) ∧ ∀ i m H, W i m H → (J.stop i H ∧ Qd H) ∨ (J.go i H ∧ ∃ Nx : Hp → Prop, (∀ H', Nx H' → ∃ m', m' < m ∧ W (i + 1) m' H') ∧ ∀ x H', J.yld i H x H' → g x (wipe σ vs) H' fun σ2 H2 => wipe σ2 vs = wipe σ vs ∧ tt σ2 H2 fun b H3 =>
      if b = true then te σ2 H3 fun y H4 => ∃ acc, H4 D = some (.lst acc) ∧ acc.length < sizeLine ∧ Nx (upd H4 D (.lst (acc ++ [y]))) else Nx H3) := by
  refine lc_gen (n := xs.length) (fun i G => Same H G ∧ G D = some (.lst ((xs.take i).map el))) ⟨same_new hD, upd_same⟩ (fun i G h => ⟨(ok i G h.1).1, (ok i G h.1).2.1⟩) (fun i G v G' hi h y => ?_) (fun G h => ?_)
  · obtain ⟨rfl, hx⟩ := (ok i G h.1).2.2 v G' y
    refine turn v (List.mem_of_getElem? hx) G' h.1 _ _ fun G2 s2 => ⟨_, s2 _ _ h.2, ?_, fun c o e => ?_, ?_⟩
    · rw [List.length_map, List.length_take]
      exact small1000 (by omega)
    · rw [upd_ne (ne_of_none e hD)]
      exact s2 _ _ (h.1 _ _ e)
    · rw [upd_same, take_snoc hx, List.map_append]
      rfl
  · obtain ⟨s, e⟩ := h
    rw [List.take_of_length_le (Nat.le_refl _)] at e
    exact last G s e
/-- a block over the items of a list or a tuple, those that pass kept -/
theorem pass_lc (p : V → Bool) (ok : JOk H J xs) (small : xs.length ≤ 1000) (hD : H D = none)
    (turn : ∀ x ∈ xs, ∀ G, Same H G → ∀ (Y : VK) (N : Hp → Prop), (p x = true → ∀ G', Same G G' → Y x G') → (p x = false → ∀ G', Same G G' → N G') → g x (wipe σ vs) G fun σ2 H2 => wipe σ2 vs = wipe σ vs ∧ tt σ2 H2 fun b H3 => if b = true then te σ2 H3 Y else N H3)
    (last : ∀ G, Same H G → G D = some (.lst (xs.filter p)) → Qd G) :
    ∃ W : Nat → Nat → Hp → Prop, (∃ m, W 0 m (upd H D (.lst []))) ∧ ∀ i m H, W i m H → (J.stop i H ∧ Qd H) ∨ (J.go i H ∧ ∃ Nx : Hp → Prop, (∀ H', Nx H' → ∃ m', m' < m ∧ W (i + 1) m' H') ∧ ∀ x H', J.yld i H x H' → g x (wipe σ vs) H' fun σ2 H2 => wipe σ2 vs = wipe σ vs ∧ tt σ2 H2 fun b H3 =>
      if b = true then te σ2 H3 fun y H4 => ∃ acc, H4 D = some (.lst acc) ∧ acc.length < sizeLine ∧ Nx (upd H4 D (.lst (acc ++ [y]))) else Nx H3) := by
  refine lc_gen (n := xs.length) (fun i G => Same H G ∧ G D = some (.lst ((xs.take i).filter p))) ⟨same_new hD, upd_same⟩ (fun i G h => ⟨(ok i G h.1).1, (ok i G h.1).2.1⟩) (fun i G v G' hi h y => ?_) (fun G h => ?_)
  · obtain ⟨rfl, hx⟩ := (ok i G h.1).2.2 v G' y
    have el : xs.take (i + 1) = xs.take i ++ [v] := take_snoc hx
    refine turn v (List.mem_of_getElem? hx) G' h.1 _ _ (fun hp G2 s2 => ⟨_, s2 _ _ h.2, ?_, fun c o e => ?_, ?_⟩) (fun hp G2 s2 => ⟨h.1.trans s2, ?_⟩)
    · have := List.length_filter_le p (xs.take i)
      rw [List.length_take] at this
      exact small1000 (by omega)
    · rw [upd_ne (ne_of_none e hD)]
      exact s2 _ _ (h.1 _ _ e)
    · rw [upd_same, el, List.filter_append, List.filter_cons_of_pos hp]
      rfl
    · rw [s2 _ _ h.2, el, List.filter_append, List.filter_cons_of_neg (by rw [hp]; decide)]
      simp
  · obtain ⟨s, e⟩ := h
    rw [List.take_of_length_le (Nat.le_refl _)] at e
    exact last G s e
end
/-! ### len(set(xs)), xs a list of texts -/
def Cnt {α : Type} (l : List α) (c : Nat) : Prop := (c = 0 ↔ l = []) ∧ (c = 1 ↔ ∃ k, ∀ j, j ∈ l ↔ j = k)
theorem cnt_nil {α : Type} : Cnt ([] : List α) 0 := ⟨by simp, by constructor
                                                                 · intro h
                                                                   cases h
                                                                 · rintro ⟨k, h⟩
                                                                   exact absurd ((h k).mpr rfl) (by simp)⟩
theorem cnt_snoc {α : Type} [DecidableEq α] {l : List α} {c : Nat} {x : α} (h : Cnt l c) : Cnt (l ++ [x]) (if x ∈ l then c else c + 1) := by
  by_cases m : x ∈ l
  · rw [if_pos m]
    have ne : l ≠ [] := fun e => by rw [e] at m; cases m
    refine ⟨⟨fun e => absurd (h.1.mp e) ne, fun e => absurd e (by simp)⟩, h.2.trans ?_⟩
    constructor
    · rintro ⟨k, hk⟩
      refine ⟨k, fun j => ?_⟩
      rw [List.mem_append, List.mem_singleton, hk j]
      have := (hk x).mp m
      constructor
      · rintro (e | e)
        · exact e
        · rw [e, this]
      · exact .inl
    · rintro ⟨k, hk⟩
      refine ⟨k, fun j => ?_⟩
      rw [← hk j, List.mem_append, List.mem_singleton]
      constructor
      · exact .inl
      · rintro (e | e)
        · exact e
        · rw [e]; exact m
  · rw [if_neg m]
    refine ⟨⟨fun e => by omega, fun e => absurd e (by simp)⟩, ?_⟩
    constructor
    · intro e
      have : l = [] := h.1.mp (by omega)
      rw [this]
      exact ⟨x, fun j => by simp⟩
    · rintro ⟨k, hk⟩
      have e1 := (hk x).mp (by simp)
      have : l = [] := by
        cases l with
        | nil => rfl
        | cons a r =>
          have e2 := (hk a).mp (by simp)
          exact absurd (show x ∈ a :: r by rw [e1, e2]; exact List.mem_cons_self) m
      have := h.1.mpr this
      omega
section
variable {P : Program} {w : World} {A : Around} {R : Result → Shared → Prop} {I : Addr} {fp wr : List Addr} {G : Array GenState → Array GenState → Prop} {n : Nat} {V' : Nat → Value → Prop} {St : Nat → Shared → Prop}
theorem grow_texts (W : WalksS P w A.in1 I fp wr G n V' St) (S : Addr) (out : S ∉ fp) (xs : List Str) (many : n = xs.length) (room : xs.length + 1 < scanBound) (vals : ∀ i v, V' i v → ∃ x t, xs[i]? = some x ∧ v = .str x t) :
    ∀ (k i : Nat) (s : Shared), n - i = k → i ≤ n → St i s → (∃ c, c ≤ i ∧ Cnt (xs.take i) c ∧ s.heap.SetOf (PySem.strKind P w) S (fun y => decide (y ∈ xs.take i)) c) →
      (∀ s' c, Moved (S :: wr) G s s' → Cnt xs c → s'.heap.SetOf (PySem.strKind P w) S (fun y => decide (y ∈ xs)) c → R (.ok (.ret .none)) s') →
      codeAny (model P w) A (.builtin "set.update.loop" ⟨[.ref S, .ref I], []⟩) R s := by
  have outw : S ∉ wr := fun z => out (W.sub _ z)
  have wide : ∀ b ∈ wr, b ∈ S :: wr := fun b hb => List.mem_cons_of_mem _ hb
  have kept : ∀ {s s' : Shared} {T : Str → Bool} {c : Nat}, Moved wr G s s' → s.heap.SetOf (PySem.strKind P w) S T c → s'.heap.SetOf (PySem.strKind P w) S T c := fun {s s' T c} mv h => by
    obtain ⟨o, es, ep, t, ho, rest⟩ := h
    exact ⟨o, es, ep, t, mv.heap S _ outw ho, rest⟩
  intro k
  induction k with
  | zero =>
    intro i s hk hi st now fin
    obtain ⟨c, _, hc, hS⟩ := now
    have e : xs.take i = xs := List.take_of_length_le (by omega)
    rw [e] at hc hS
    refine codeAny_builtin F.entry_set_update_loop ?_
    rw [Around.under_plainId F.plain_set_update_loop _]
    show wpAny _ A.in1 (pyNext (.ref I) >>= _) _ _ s
    have ei : i = n := by omega
    subst ei
    refine wpAny_bind (W.done s _ _ st fun s' mv => ?_)
    show wpAny _ A.in1 (ret Value.none) _ _ s'
    exact wpAny_pure (fin s' c (mv.mono wide) hc (kept mv hS))
  | succ k ih =>
    intro i s hk hi st now fin
    obtain ⟨c, ci, hc, hS⟩ := now
    have lt : i < n := by omega
    refine codeAny_builtin F.entry_set_update_loop ?_
    rw [Around.under_plainId F.plain_set_update_loop _]
    show wpAny _ A.in1 (pyNext (.ref I) >>= _) _ _ s
    refine wpAny_bind (W.item i s _ _ lt st fun v s' hP st' mv => ?_)
    obtain ⟨x, t, hx, rfl⟩ := vals i v hP
    have hS2 := kept mv hS
    show wpAny _ A.in1 (holding [Value.str x t] (setAdd S (.str x t)) >>= _) _ _ s'
    refine wpAny_bind (wpAny_holding ?_)
    unfold setAdd
    refine wpAny_holding (wpAny_bind ((PySem.strKind P w).pyHash (k := x) (strKind_is _ _ _ _) ?_))
    refine wpAny_setAddHashed_of (knd := PySem.strKind P w) (s := { s' with toks := s'.toks + 1 }) (strKind_is _ _ _ _) rfl hS2 (by omega) fun h' sb hS3 => ?_
    have et : xs.take (i + 1) = xs.take i ++ [x] := by rw [List.take_add_one, hx]; rfl
    have hc3 : Cnt (xs.take (i + 1)) (if decide (x ∈ xs.take i) = true then c else c + 1) := by
      rw [et]
      have := cnt_snoc (x := x) hc
      by_cases m : x ∈ xs.take i
      · rw [if_pos m] at this
        rw [if_pos (decide_eq_true m)]
        exact this
      · rw [if_neg m] at this
        rw [if_neg (by rw [decide_eq_false m]; decide)]
        exact this
    have hS4 : h'.SetOf (PySem.strKind P w) S (fun y => decide (y ∈ xs.take (i + 1))) (if decide (x ∈ xs.take i) = true then c else c + 1) := by
      refine PyProof.Rows.SetOf_congr hS3 (fun y => ?_) rfl
      rw [et]
      simp [List.mem_append, Bool.decide_or]
    refine wpAny_pure ⟨plainId_quiet F.plain_set_update_loop _, ih (i + 1) _ (by omega) lt (W.frame _ s' _ _ st' (Nat.le_succ _) fun b hb o e => ?_) ⟨_, by split <;> omega, hc3, hS4⟩ fun s2 c2 mv2 hc2 hS5 => ?_⟩
    · rw [sb.2 b (fun h : b = S => out (by rw [← h]; exact hb))]
      exact e
    · refine fin s2 c2 (Moved.trans W.gtrans ((mv.mono wide).then_heap (Nat.le_succ _) fun b o hb e => ?_) mv2) hc2 hS5
      rw [sb.2 b (fun h : b = S => hb (by rw [h]; exact List.mem_cons_self))]
      exact e
end
section
variable {P : Program} {w : World} {A : Around} {E : Value → Shared → Prop} {s : Shared}
set_option maxHeartbeats 6000000 in
theorem set_of_texts {l : Addr} {items : Array Value} {xs : List Str} {Q : Value → Shared → Prop} (free : A.handled = none) (list : s.heap.IsList l items) (nums : PyProof.Rows.StrsAre items.toList xs) (room : xs.length + 1 < scanBound)
    (then_ : ∀ (h' : Heap) (tk c : Nat), Cnt xs c → h'.SetOf (PySem.strKind P w) s.heap.objs.size (fun j => decide (j ∈ xs)) c → (∀ b o, s.heap.get? b = some o → h'.get? b = some o) → Q (.ref s.heap.objs.size) { s with heap := h', toks := tk }) :
    wpAny (model P w) A (call (.type "set") [.ref l]) Q E s := by
  have many : items.size = xs.length := by rw [← StrsAre.len_eq nums, Array.length_toList]
  obtain ⟨first, rest, mro⟩ := F.called_set.mro
  have made := F.called_set.made
  have sub := F.called_set.sub
  have notT := F.called_set.notType
  have can := F.called_set.canCreate
  have one := F.typeCall_set_1 (.ref l)
  refine wpAny_call (codeAny_of_tree ?_)
  show wpAny _ _ (callAny (.type "set") _) _ _ _
  refine wpAny_pure ⟨Code.quiet_builtin _ (by decide +kernel), codeAny_builtin F.entry_type_call ?_⟩
  rw [Around.under_plain (weight_type_call_type "set" [.ref l] []) rfl]
  repeat (any_goals (first | assumption | wp_step))
  refine codeAny_mono (code_set_led1 (.ref l) (E := E) (Q₁ := fun v s1 => v = .ref s.heap.objs.size ∧ s1 = { s with heap := s.heap.push (emptyS w) }) ⟨rfl, rfl⟩) fun r s1 hr => ?_
  match r, hr with
  | .error e, hr => exact hr
  | .ok (.ret _), ⟨e1, e2⟩ =>
    subst e1 e2
    have stands : (s.heap.push (emptyS w)).get? s.heap.objs.size = some (emptyS w) := Heap.get?_push_size _ rfl
    have typed : Shared.TypeIs { s with heap := s.heap.push (emptyS w) } (.ref s.heap.objs.size) "set" := ⟨_, stands, rfl⟩
    have look := F.called_set.init.lookup
    have bound := F.called_set.init.bind (.ref s.heap.objs.size)
    repeat (any_goals (first | assumption | wp_step))
    refine codeAny_mono (codeAny_call_builtin (R := wants (fun r s2 => r = .none ∧ ∃ h' tk c, s2 = { s with heap := h', toks := tk } ∧ Cnt xs c ∧ h'.SetOf (PySem.strKind P w) s.heap.objs.size (fun j => decide (j ∈ xs)) c ∧ (∀ b o, s.heap.get? b = some o → h'.get? b = some o)) E) F.called_set.init.plain F.entry_set_init (check_set_init_1 typed ?_)) fun r2 s2 hr2 => ?_
    · obtain ⟨⟨cl, dc, dt, sl⟩, at_, ecl, nl, edt⟩ := list
      simp only at ecl edt
      subst ecl edt
      have at2 : (s.heap.push (emptyS w)).get? l = some { cls := .type "list", dict := dc, data := .seq items nl, slots := sl } := Heap.get?_push_of_some _ at_
      have n1 := F.sub_list_set
      have n2 := F.sub_list_frozenset
      have n3 : (Value.type "list" == Value.type "dict") = false := by decide
      have list2 : (s.heap.push (emptyS w)).IsList l items := ⟨_, at2, rfl, nl, rfl⟩
      unfold Builtin.«set.__init__» noKeywords Builtin.Frozenset.updateFrom
      generalize iterAs : pyIter = PI
      wp_walk
      subst iterAs
      refine wpAny_pyIter_list list2 (wpAny_bind (wpAny_runValue ?_))
      have ll : l < s.heap.objs.size := Heap.lt_size at_
      have sz : (s.heap.push (emptyS w)).objs.size = s.heap.objs.size + 1 := Heap.size_push ..
      have free3 : A.in1.in1.in1.handled = none := by simp [free]
      have unlike : l ≠ (s.heap.push (emptyS w)).objs.size := by rw [sz]; exact Nat.ne_of_lt (Nat.lt_succ_of_lt ll)
      have out : s.heap.objs.size ∉ [(s.heap.push (emptyS w)).objs.size, l] := by
        rw [sz]
        simp only [List.mem_cons, List.mem_singleton, List.not_mem_nil, or_false, not_or]
        exact ⟨Nat.ne_of_lt (Nat.lt_succ_self _), Nat.ne_of_gt ll⟩
      have vals : ∀ (i : Nat) (v : Value), items[i]? = some v → ∃ x t, xs[i]? = some x ∧ v = .str x t := fun i v hv => by
        have hi : i < xs.length := by rw [← many]; exact (Array.getElem?_eq_some_iff.mp hv).1
        obtain ⟨t, e⟩ := SS.strs_at nums i v (by rw [Array.getElem?_toList]; exact hv)
        exact ⟨xs[i], t, List.getElem?_eq_getElem hi, by rw [e, List.getD_eq_getElem?_getD, List.getElem?_eq_getElem hi] <;> rfl⟩
      have fresh : ((s.heap.push (emptyS w)).push { cls := .type "list_iterator", data := .fields #[.ref l, .int 0 0] }).SetOf (PySem.strKind P w) s.heap.objs.size (fun y => decide (y ∈ xs.take 0)) 0 :=
        PyProof.Rows.SetOf_congr ((PyProof.Rows.setObjOf_fresh (knd := PySem.strKind P w) _).setOf (Heap.get?_push_of_some _ stands) (by unfold scanBound; omega)) (fun _ => rfl) rfl
      refine grow_texts ((Walks.list free3 _ l unlike items).toS) s.heap.objs.size out xs many room vals (items.size - 0) 0 _ (by omega) (Nat.zero_le _) ⟨⟨_, Heap.get?_push_size _ rfl, rfl, rfl⟩, (list2.push _)⟩ ⟨0, Nat.le_refl 0, cnt_nil, fresh⟩ fun s' c' mv hc' hS' => ?_
      obtain ⟨h', g2, d', tk', os'⟩ := s'
      have eg : g2 = s.gens := mv.gens
      have ed : d' = s.drawn := mv.drawn
      have eo : os' = s.os := mv.os
      subst eg ed eo
      show wpAny _ _ _ _ _ _
      refine wpAny_pure ?_
      show wpAny _ _ (ret Value.none) _ _ _
      refine wpAny_pure ⟨rfl, h', tk', c', rfl, hc', hS', fun b o e => ?_⟩
      have below : b < s.heap.objs.size := Heap.lt_size e
      refine mv.heap b o ?_ (Heap.get?_push_of_some _ (Heap.get?_push_of_some _ e))
      simp only [List.mem_cons, List.mem_singleton, List.not_mem_nil, or_false, not_or]
      exact ⟨Nat.ne_of_lt below, by rw [sz]; exact Nat.ne_of_lt (Nat.lt_succ_of_lt below)⟩
    · match r2, hr2 with
      | .error e, hr2 => exact hr2
      | .ok (.ret _), ⟨e1, h', tk, c', e2, hc', hS', hk'⟩ =>
        subst e1 e2
        repeat (any_goals (first | assumption | wp_step))
        exact then_ _ _ _ hc' hS' hk'
end
section
variable {X : Cx}
def tLenSetS (K : PySem.W.Frag) (ta : TE) : TE := fun σ H Q => ta σ H fun x H1 => ∃ (l : Addr) (xs : List Str), x = .ref l ∧ SqL K H1 l (xs.map V.str) ∧ xs.length < 4000 ∧ ∀ c : Nat, (c = 1 ↔ ∃ k, ∀ j, j ∈ xs ↔ j = k) → Q (.int c) H1
theorem pe_lenSetS {a : Expr} {ta : TE} {p p2 q pos : Pos} (hg : Gl X "len") (hm : X.mg "len" = none) (hg2 : Gl X "set") (hm2 : X.mg "set" = none) (ha : PE X a ta) (hc : X.calm = true := by rfl)
    (na : starEach [a] X.env = (false, eval a X.env) :: starEach [] X.env := by rfl) : PE X (.Call (.Name "len" p) [.Call (.Name "set" p2) [a] [] q] [] pos) (tLenSetS X.K ta) := by
  refine ⟨fun pins s σ H Q I h => ?_⟩
  refine Call_ (ld_blt I hg hm boot_len ?_)
  refine PyProof.Rows.callWith_builtin1 (PyProof.Rows.args_cons ?_ rfl) rfl rfl
  refine Call_ (ld_blt I hg2 hm2 boot_set ?_)
  refine PyProof.Rows.callWith_type1 (PyProof.Rows.args_cons (thn (ha.run pins s σ H _ I h) fun v s1 ⟨x, H1, I1, r1, q1⟩ => PyProof.Rows.args_nil ?_) na) na rfl
  obtain ⟨l, xs, rfl, hq, small, q1⟩ := q1
  cases r1
  obtain ⟨its, r, pl, hz⟩ := I1.list hq
  refine set_of_texts (I1.ok.hd hc) pl.isList (by simpa using strsAre_of r) (by unfold scanBound; omega) fun h' tk c cnt hS keep => ?_
  refine PyProof.Rows.args_nil ?_
  obtain ⟨o, es, ep, t, ho, hex, hd, _, _, hb, hf, hn⟩ := hS
  have I2 : Inv X pins σ H1 { s1 with heap := h', toks := tk } := I1.kept fun b o e => keep b o e
  have hs : es.size < 1000000 := by
    have : scanBound ≤ 1000000 := by decide
    omega
  exact call_len_set ho hex hd hf (by omega) ⟨.int c, H1, I2.tok _, ⟨_, by rw [hn]⟩, q1 c cnt.2⟩
end
/-! ### min of a list of numbers, None of none -/
theorem ints_hold {h : Heap} : ∀ {ns : List Int} {us : List Value}, Vals (ns.map V.int) us → PySem.W.HoldAll h us ns
  | [], _, .nil => PySem.W.HoldAll.nil
  | n :: r, _, .cons ⟨t, e⟩ rr => by
    rw [e]
    exact PySem.W.HoldAll.cons (PySem.W.holds_int n t) (ints_hold rr)
theorem minOf_mem (x : Int) : ∀ ys : List Int, PySem.W.minOf x ys ∈ x :: ys ∧ ∀ n ∈ x :: ys, PySem.W.minOf x ys ≤ n := fun ys => by
  induction ys generalizing x with
  | nil => exact ⟨List.mem_cons_self, fun n hn => by rw [List.mem_singleton.mp hn]; exact Int.le_refl _⟩
  | cons y r ih =>
    have e : PySem.W.minOf x (y :: r) = PySem.W.minOf (if PySem.W.DatumOrd.lt y x = true then y else x) r := rfl
    have hlt : PySem.W.DatumOrd.lt y x = decide (y < x) := rfl
    rw [e, hlt]
    by_cases c : y < x
    · rw [decide_eq_true c, if_pos rfl]
      obtain ⟨h1, h2⟩ := ih y
      refine ⟨List.mem_cons_of_mem _ h1, fun n hn => ?_⟩
      rcases List.mem_cons.mp hn with rfl | hn
      · have := h2 y List.mem_cons_self
        omega
      · exact h2 n hn
    · rw [decide_eq_false c, if_neg (by decide)]
      obtain ⟨h1, h2⟩ := ih x
      refine ⟨?_, fun n hn => ?_⟩
      · rcases List.mem_cons.mp h1 with h | h
        · rw [h]
          exact List.mem_cons_self
        · exact List.mem_cons_of_mem _ (List.mem_cons_of_mem _ h)
      · rcases List.mem_cons.mp hn with rfl | hn
        · exact h2 n List.mem_cons_self
        · rcases List.mem_cons.mp hn with rfl | hn
          · have := h2 x List.mem_cons_self
            omega
          · exact h2 n (List.mem_cons_of_mem _ hn)
def rMinD (K : PySem.W.Frag) : List V → List V → Hp → VK → Prop := fun xs zs H Q => ∃ (a : Addr) (ns : List Int), xs = [.ref a] ∧ zs = [.non] ∧ SqL K H a (ns.map V.int) ∧ (ns = [] → Q .non H) ∧ ∀ m, m ∈ ns → (∀ n ∈ ns, m ≤ n) → Q (.int m) H
theorem call_minD (K : PySem.W.Frag) {X : Cx} (hc : X.calm = true) (hu : X.A.units + 64 < cLine) (h : X.K = K := by rfl) : CallRK X (.builtin "min") ["default"] (rMinD K) := by
  subst h
  intro pins s σ H xs zs us ws Q I rx rz h
  obtain ⟨a, ns, rfl, rfl, hs, q0, q1⟩ := h
  obtain ⟨its, rv, hl, _⟩ := I.list hs
  rw [Vals.ref1 rx]
  cases rz with
  | cons e rr =>
    cases rr
    cases (show _ = Value.none from e)
    refine PySem.W.min_list_datum_default (I.ok.hd hc) hl.isList (ints_hold rv) (by show X.A.units + 1 + 0 < cLine; omega) (fun e h' tk hk => ⟨.non, H, I.kept hk, rfl, q0 e⟩) (fun y ys i v h' tk e hi hv hk => ?_)
    subst e
    obtain ⟨h1, h2⟩ := minOf_mem y ys
    obtain ⟨bs, r⟩ := hv
    have q2 := q1 _ h1 h2
    have e3 : PySem.W.Datum.toD (PySem.W.minOf y ys) = PyData.int (PySem.W.minOf y ys) := rfl
    rw [e3] at r
    generalize PySem.W.minOf y ys = m at r q2
    cases r
    exact ⟨.int m, H, I.kept hk, ⟨_, rfl⟩, q2⟩
/-! ### max of a tuple of numbers -/
theorem maxOf_mem (x : Int) : ∀ ys : List Int, PySem.W.maxOf x ys ∈ x :: ys ∧ ∀ n ∈ x :: ys, n ≤ PySem.W.maxOf x ys := fun ys => by
  induction ys generalizing x with
  | nil => exact ⟨List.mem_cons_self, fun n hn => by rw [List.mem_singleton.mp hn]; exact Int.le_refl _⟩
  | cons y r ih =>
    have e : PySem.W.maxOf x (y :: r) = PySem.W.maxOf (if PySem.W.DatumOrd.lt x y = true then y else x) r := rfl
    have hlt : PySem.W.DatumOrd.lt x y = decide (x < y) := rfl
    rw [e, hlt]
    by_cases c : x < y
    · rw [decide_eq_true c, if_pos rfl]
      obtain ⟨h1, h2⟩ := ih y
      refine ⟨List.mem_cons_of_mem _ h1, fun n hn => ?_⟩
      rcases List.mem_cons.mp hn with rfl | hn
      · have := h2 y List.mem_cons_self
        omega
      · exact h2 n hn
    · rw [decide_eq_false c, if_neg (by decide)]
      obtain ⟨h1, h2⟩ := ih x
      refine ⟨?_, fun n hn => ?_⟩
      · rcases List.mem_cons.mp h1 with h | h
        · rw [h]
          exact List.mem_cons_self
        · exact List.mem_cons_of_mem _ (List.mem_cons_of_mem _ h)
      · rcases List.mem_cons.mp hn with rfl | hn
        · exact h2 n List.mem_cons_self
        · rcases List.mem_cons.mp hn with rfl | hn
          · have := h2 x List.mem_cons_self
            omega
          · exact h2 n (List.mem_cons_of_mem _ hn)
def rMaxT (K : PySem.W.Frag) : List V → Hp → VK → Prop := fun xs H Q => ∃ (a : Addr) (n : Int) (ns : List Int), xs = [.ref a] ∧ SqT K H a ((n :: ns).map V.int) ∧ ∀ m, m ∈ n :: ns → (∀ k ∈ n :: ns, k ≤ m) → Q (.int m) H
theorem call_maxT (K : PySem.W.Frag) {X : Cx} (hc : X.calm = true) (hu : X.A.units + 64 < cLine) (h : X.K = K := by rfl) : CallR X (.builtin "max") (rMaxT K) := by
  subst h
  intro pins s σ H xs us Q I rx h
  obtain ⟨a, n, ns, rfl, hs, q1⟩ := h
  obtain ⟨its, rv, hl, _⟩ := I.tuple hs
  rw [Vals.ref1 rx]
  refine PySem.W.max_tuple_datum (x := n) (xs := ns) (I.ok.hd hc) hl (ints_hold rv) (by show X.A.units + 1 + 0 < cLine; omega) (fun i v h' tk hi hv hk => ?_)
  obtain ⟨h1, h2⟩ := maxOf_mem n ns
  obtain ⟨bs, r⟩ := hv
  have q2 := q1 _ h1 h2
  have e3 : PySem.W.Datum.toD (PySem.W.maxOf n ns) = PyData.int (PySem.W.maxOf n ns) := rfl
  rw [e3] at r
  generalize PySem.W.maxOf n ns = m at r q2
  cases r
  exact ⟨.int m, H, I.kept hk, ⟨_, rfl⟩, q2⟩
/-! ### dicts whose keys are tuples of tuples -/
namespace ND
open PySem PySem.Spec PyProof.Rows L2
/-- a key, the place of its tuple, what stands there -/
abbrev Ent := NestedKey × Addr × V
mutual
/-- the thing v is the key k -/
def keyAt (K : PySem.W.Frag) (H : Hp) : NestedKey → V → Prop
  | .none, v => v = .non
  | .num i, v => v = .int i
  | .text x, v => v = .str x
  | .tup ks, v => ∃ a vs, v = .ref a ∧ SqT K H a vs ∧ keysAt K H ks vs
def keysAt (K : PySem.W.Frag) (H : Hp) : List NestedKey → List V → Prop
  | [], vs => vs = []
  | k :: ks, vs => ∃ v r, vs = v :: r ∧ keyAt K H k v ∧ keysAt K H ks r
end
mutual
theorem keyAt_ext {K : PySem.W.Frag} {H G : Hp} (e : ∀ a vs, SqT K H a vs → SqT K G a vs) : ∀ (k : NestedKey) (v : V), keyAt K H k v → keyAt K G k v
  | .none, _, h => h
  | .num _, _, h => h
  | .text _, _, h => h
  | .tup ks, v, h => by
    obtain ⟨a, vs, h1, h2, h3⟩ := h
    exact ⟨a, vs, h1, e a vs h2, keysAt_ext e ks vs h3⟩
theorem keysAt_ext {K : PySem.W.Frag} {H G : Hp} (e : ∀ a vs, SqT K H a vs → SqT K G a vs) : ∀ (ks : List NestedKey) (vs : List V), keysAt K H ks vs → keysAt K G ks vs
  | [], _, h => h
  | k :: ks, vs, h => by
    obtain ⟨v, r, h1, h2, h3⟩ := h
    exact ⟨v, r, h1, keyAt_ext e k v h2, keysAt_ext e ks r h3⟩
end
section
variable {X : Cx} {pins : List (Addr × Obj)} {σ : L2.St} {H : Hp} {s : Shared}
mutual
theorem is_key (I : Inv X pins σ H s) : ∀ (k : NestedKey) (v : V) (u : Value), keyAt X.K H k v → RelV v u → NestedIs s.heap k u
  | .none, v, u, h, r => by
    have h : v = .non := h
    subst h
    have r : u = .none := r
    subst r
    exact .none
  | .num i, v, u, h, r => by
    have h : v = .int i := h
    subst h
    obtain ⟨t, rfl⟩ := r
    exact .int i t
  | .text x, v, u, h, r => by
    have h : v = .str x := h
    subst h
    obtain ⟨t, rfl⟩ := r
    exact .text x t
  | .tup ks, v, u, h, r => by
    obtain ⟨a, vs, rfl, h2, h3⟩ := h
    have r : u = .ref a := r
    subst r
    obtain ⟨its, rv, ⟨o, e1, e2, n, e3⟩, _⟩ := I.tuple h2
    exact .tup e1 e2 e3 (by simpa using are_keys I ks vs its h3 rv)
theorem are_keys (I : Inv X pins σ H s) : ∀ (ks : List NestedKey) (vs : List V) (us : List Value), keysAt X.K H ks vs → Vals vs us → NestedAll s.heap ks us
  | [], vs, us, h, r => by
    have h : vs = [] := h
    subst h
    cases r
    exact .nil
  | k :: ks, vs, us, h, r => by
    obtain ⟨v, q, rfl, h2, h3⟩ := h
    cases r with
    | cons r1 r2 => exact .cons (is_key I k v _ h2 r1) (are_keys I ks q _ h3 r2)
end
end
def ER (p : Ent) (q : NestedKey × Addr × Value) : Prop := p.1 = q.1 ∧ p.2.1 = q.2.1 ∧ RelV p.2.2 q.2.2
/-- the object of the dict at d -/
def body (P : Program) (w : World) (d : Addr) (xs : List Ent) (h : Heap) : Prop := xs.length ≤ sizeLine ∧ (d == sysModules) = false ∧ ∃ us, Paired ER xs us ∧
  ∃ o es ep, h.get? d = some o ∧ o.ExactDict ∧ o.data = .dict es ep ∧ es.toList = us.map (entryOfKey (nestedKind P w)) ∧ (us.map (·.1)).Nodup
def obj (P : Program) (w : World) (d : Addr) (xs : List Ent) : HO := .ext (body P w d xs)
/-- each key is where the dict says -/
def Keys (K : PySem.W.Frag) (H : Hp) (xs : List Ent) : Prop := ∀ p ∈ xs, keyAt K H p.1 (.ref p.2.1) ∧ p.1.depth ≤ 8
def valN (xs : List Ent) (k : NestedKey) : Option V := (xs.find? fun p => decide (p.1 = k)).map (·.2.2)
def putE (k : NestedKey) (v : V) (p : Ent) : Ent := if p.1 = k then (p.1, p.2.1, v) else p
def putN (xs : List Ent) (k : NestedKey) (a : Addr) (v : V) : List Ent := if (valN xs k).isSome then xs.map (putE k v) else xs ++ [(k, a, v)]
theorem val_rel {k : NestedKey} {xs : List Ent} {us : List (NestedKey × Addr × Value)} (h : Paired ER xs us) : (valN xs k = none ∧ atKey us k = none) ∨ ∃ v p, valN xs k = some v ∧ atKey us k = some p ∧ RelV v p.2 := by
  induction h with
  | nil => exact .inl ⟨rfl, rfl⟩
  | @cons p q ps qs hq t ih =>
    obtain ⟨e1, e2, e3⟩ := hq
    by_cases c : p.1 = k
    · refine .inr ⟨p.2.2, q.2, ?_, ?_, e3⟩
      · unfold valN
        rw [List.find?_cons_of_pos (p := fun p : Ent => decide (p.1 = k)) (decide_eq_true c)]
        rfl
      · unfold atKey
        rw [List.find?_cons_of_pos (p := fun p : NestedKey × Addr × Value => decide (p.1 = k)) (decide_eq_true (e1.symm.trans c))]
        rfl
    · have h1 : valN (p :: ps) k = valN ps k := by
        unfold valN
        rw [List.find?_cons_of_neg (by simpa using c)]
      have h2 : atKey (q :: qs) k = atKey qs k := by
        unfold atKey
        rw [List.find?_cons_of_neg (by simpa using fun z => c (e1.trans z))]
      rw [h1, h2]
      exact ih
theorem put_rel {k : NestedKey} {a : Addr} {v : V} {u : Value} {xs : List Ent} {us : List (NestedKey × Addr × Value)} (h : Paired ER xs us) (r : RelV v u) : Paired ER (putN xs k a v) (storedH us k a u) := by
  have rep : Paired ER (xs.map (putE k v)) (us.map (putAt k u)) := by
    induction h with
    | nil => exact .nil
    | @cons p q ps qs hq t ih =>
      refine .cons ?_ ih
      obtain ⟨e1, e2, e3⟩ := hq
      unfold putE putAt
      by_cases c : p.1 = k
      · rw [if_pos c, if_pos (e1.symm.trans c)]
        exact ⟨e1, e2, r⟩
      · rw [if_neg c, if_neg fun z => c (e1.trans z)]
        exact ⟨e1, e2, e3⟩
  unfold putN storedH
  rcases val_rel (k := k) h with ⟨h1, h2⟩ | ⟨v', p, h1, h2, _⟩
  · rw [h1, h2]
    exact Paired.snoc h ⟨rfl, rfl, r⟩
  · rw [h1, h2]
    exact rep
theorem put_len (xs : List Ent) (k : NestedKey) (a : Addr) (v : V) : (putN xs k a v).length ≤ xs.length + 1 := by
  unfold putN
  split
  · rw [List.length_map]
    omega
  · rw [List.length_append]
    exact Nat.le_refl _
section
variable {X : Cx} {pins : List (Addr × Obj)} {σ : L2.St} {H : Hp} {s : Shared} {d a : Addr} {xs : List Ent} {k : NestedKey} {A : Around} {E : Value → Shared → Prop}
/-- the dict at d, to be read: free, or locked by a walk -/
def Rdn (P : Program) (w : World) (H : Hp) (d : Addr) (xs : List Ent) : Prop := H d = some (obj P w d xs) ∨ ∃ ob, H d = some (.frz ob (obj P w d xs))
theorem rd_body (I : Inv X pins σ H s) (hd : Rdn X.prog X.w H d xs) : body X.prog X.w d xs s.heap := by
  rcases hd with hd | ⟨ob, hd⟩
  · exact (I.hok d _ hd).1
  · exact (I.hok d _ hd).2.1
theorem nd_of (I : Inv X pins σ H s) (hd : Rdn X.prog X.w H d xs) (hk : Keys X.K H xs) : xs.length ≤ sizeLine ∧ (d == sysModules) = false ∧ ∃ us, Paired ER xs us ∧ s.heap.DictOfH (nestedKind X.prog X.w) d us := by
  obtain ⟨z, y, us, r, o, es, ep, h1, h2, h3, h4, h5⟩ := rd_body I hd
  refine ⟨z, y, us, r, o, es, ep, h1, h2, h3, h4, ?_, h5⟩
  have all : ∀ {l : List Ent} {m : List (NestedKey × Addr × Value)}, Paired ER l m → (∀ p ∈ l, keyAt X.K H p.1 (.ref p.2.1) ∧ p.1.depth ≤ 8) → ∀ x ∈ m, (nestedKind X.prog X.w).is s.heap x.1 x.2.1 := by
    intro l m q
    induction q with
    | nil => intro _ x hx; exact nomatch hx
    | @cons p q ps qs hq t ih =>
      intro hl x hx
      rcases List.mem_cons.mp hx with e | hx
      · subst e
        obtain ⟨g1, g2⟩ := hl p List.mem_cons_self
        rw [← hq.1, ← hq.2.1]
        exact ⟨is_key I _ _ _ g1 rfl, g2⟩
      · exact ih (fun p hp => hl p (List.mem_cons_of_mem _ hp)) x hx
  exact all r hk
theorem is_at (I : Inv X pins σ H s) (h : keyAt X.K H k (.ref a)) (hz : k.depth ≤ 8) : (nestedKind X.prog X.w).is s.heap k a := ⟨is_key I k _ _ h rfl, hz⟩
theorem nd_typeIs (I : Inv X pins σ H s) (hd : Rdn X.prog X.w H d xs) : s.TypeIs (.ref d) "dict" := by
  obtain ⟨_, _, us, r, o, es, ep, h1, h2, _⟩ := rd_body I hd
  exact ⟨o, h1, h2.1⟩
/-- d[k], there -/
theorem nd_get {v : V} {Q : Value → Shared → Prop} (hu : A.units + 9 < cLine) (I : Inv X pins σ H s) (hd : Rdn X.prog X.w H d xs) (hk : Keys X.K H xs) (ha : keyAt X.K H k (.ref a)) (hz : k.depth ≤ 8) (hv : valN xs k = some v)
    (h : ∀ u s', Inv X pins σ H s' → RelV v u → Q u s') : wpAny (model X.prog X.w) A (getItem (.ref d) (.ref a)) Q E s := by
  obtain ⟨z, y, us, r, dd⟩ := nd_of I hd hk
  rcases val_rel (k := k) r with ⟨h1, _⟩ | ⟨v', p, h1, h2, h3⟩
  · rw [h1] at hv
    cases hv
  · have e : v' = v := Option.some.inj (h1.symm.trans hv)
    subst e
    exact wpAny_getItem_heap (by show A.in1.units + 8 < cLine; have : A.in1.units = A.units + 1 := rfl; omega) (is_at I ha hz) dd h2 (h p.2 _ (I.tok _) h3)
theorem nd_notIn {Q : Value → Shared → Prop} (hu : A.units + 9 < cLine) (I : Inv X pins σ H s) (hd : Rdn X.prog X.w H d xs) (hk : Keys X.K H xs) (ha : keyAt X.K H k (.ref a)) (hz : k.depth ≤ 8)
    (h : ∀ s', Inv X pins σ H s' → Q (.bool (!(valN xs k).isSome)) s') : wpAny (model X.prog X.w) A (compareOp .NotIn (.ref a) (.ref d)) Q E s := by
  obtain ⟨z, y, us, r, dd⟩ := nd_of I hd hk
  refine wpAny_notIn_heap (by show A.in1.units + 8 < cLine; have : A.in1.units = A.units + 1 := rfl; omega) (is_at I ha hz) y dd ?_
  rcases val_rel (k := k) r with ⟨h1, h2⟩ | ⟨v', p, h1, h2, _⟩
  · rw [h2]
    rw [h1] at h
    exact h _ (I.tok _)
  · rw [h2]
    rw [h1] at h
    exact h _ (I.tok _)
theorem body_stays {P : Program} {w : World} {h1 h2 : Heap} (b : body P w d xs h1) (e : ∀ o, h1.get? d = some o → h2.get? d = some o) : body P w d xs h2 := by
  obtain ⟨z, y, us, r, o, es, ep, g1, g2⟩ := b
  exact ⟨z, y, us, r, o, es, ep, e _ g1, g2⟩
theorem obj_ok {P : Program} {w : World} {G : Hp} {h : Heap} (b : body P w d xs h) : ObjOk P w G h d (obj P w d xs) := by
  refine ⟨b, ?_, fun h1 h2 b1 e => body_stays b1 e⟩
  obtain ⟨_, _, _, _, o, _, _, g, _⟩ := b
  exact ⟨o, g⟩
/-- d[k] = v -/
theorem nd_set {v : V} {u : Value} {Q : Unit → Shared → Prop} (hu : A.units + 9 < cLine) (I : Inv X pins σ H s) (hd : H d = some (obj X.prog X.w d xs)) (hk : Keys X.K H xs) (ha : keyAt X.K H k (.ref a)) (hz : k.depth ≤ 8) (hl : xs.length < sizeLine) (rv : RelV v u)
    (h : ∀ s', Inv X pins σ (upd H d (obj X.prog X.w d (putN xs k a v))) s' → Q () s') : wpAny (model X.prog X.w) A (setItem (.ref d) (.ref a) u) Q E s := by
  obtain ⟨z, y, us, r, dd⟩ := nd_of I (.inl hd) hk
  have zl : us.length ≤ sizeLine := by rw [← Paired.length r]; exact z
  refine wpAny_setItem_heap (hsz := zl) (by show A.in1.units + 8 < cLine; have : A.in1.units = A.units + 1 := rfl; omega) (is_at I ha hz) dd fun h' dd' hs => h _ ?_
  obtain ⟨o, es, ep, g1, g2, g3, g4, g5, g6⟩ := dd'
  refine d_write I (by rw [hd]; exact True.intro) hs ⟨o, g1⟩ (obj_ok ⟨?_, y, _, put_rel r rv, o, es, ep, g1, g2, g3, g4, g6⟩)
  have := put_len xs k a v
  omega
end
/-! ### as values, tests, stores -/
def tNGet (P : Program) (w : World) (K : PySem.W.Frag) (td ty : TE) : TE := fun σ H Q => td σ H fun x H1 => ty σ H1 fun y H2 => ∃ d a xs k v, x = .ref d ∧ y = .ref a ∧ Rdn P w H2 d xs ∧ Keys K H2 xs ∧ keyAt K H2 k (.ref a) ∧ k.depth ≤ 8 ∧ valN xs k = some v ∧ Q v H2
def tNNot (P : Program) (w : World) (K : PySem.W.Frag) (ty td : TE) : TE := fun σ H Q => ty σ H fun y H1 => td σ H1 fun x H2 => ∃ d a xs k, x = .ref d ∧ y = .ref a ∧ Rdn P w H2 d xs ∧ Keys K H2 xs ∧ keyAt K H2 k (.ref a) ∧ k.depth ≤ 8 ∧ Q (.bl (!(valN xs k).isSome)) H2
def rSetN (P : Program) (w : World) (K : PySem.W.Frag) : TSet := fun o i v H Q => ∃ d a xs k, o = .ref d ∧ i = .ref a ∧ H d = some (obj P w d xs) ∧ Keys K H xs ∧ keyAt K H k (.ref a) ∧ k.depth ≤ 8 ∧ xs.length < sizeLine ∧ Q (upd H d (obj P w d (putN xs k a v)))
section
variable {X : Cx} {o i : Expr} {td ty : TE} {pos : Pos}
theorem pe_nget (hu : X.A.units + 9 < cLine) (ho : PE X o td) (hi : PE X i ty) (hs : NoSl i) : PE X (.Subscript o i pos) (tNGet X.prog X.w X.K td ty) := by
  refine ⟨fun pins s σ H Q I h => ?_⟩
  refine subD_of PySem.F.slot_dict_getitem.lookup hs (thn (ho.run pins s σ H _ I h) fun u1 s1 ⟨x, H1, I1, rx, q1⟩ => thn (hi.run pins s1 σ H1 _ I1 q1) fun u2 s2 ⟨y, H2, I2, ry, d, a, xs, k, v, ex, ey, hd, hk, ha, hz, hv, q2⟩ => ?_)
  subst ex ey
  obtain rfl : u1 = Value.ref d := rx
  obtain rfl : u2 = Value.ref a := ry
  exact ⟨nd_typeIs I2 hd, nd_get hu I2 hd hk ha hz hv fun u3 s3 I3 r3 => ⟨v, H2, I3, r3, q2⟩⟩
theorem pc_nnot (hu : X.A.units + 9 < cLine) (hi : PE X i ty) (ho : PE X o td) : PC X .NotIn i o (tNNot X.prog X.w X.K ty td) := by
  refine ⟨fun pins s σ H Q I h => ?_⟩
  refine thn (hi.run pins s σ H _ I h) fun u1 s1 ⟨y, H1, I1, ry, q1⟩ => thn (ho.run pins s1 σ H1 _ I1 q1) fun u2 s2 ⟨x, H2, I2, rx, d, a, xs, k, ex, ey, hd, hk, ha, hz, q2⟩ => ?_
  subst ex ey
  obtain rfl : u2 = Value.ref d := rx
  obtain rfl : u1 = Value.ref a := ry
  exact nd_notIn hu I2 hd hk ha hz fun s3 I3 => ⟨.bl (!(valN xs k).isSome), H2, I3, rfl, q2⟩
theorem set_nd (hu : X.A.units + 9 < cLine) : PSet X (rSetN X.prog X.w X.K) := by
  intro pins s σ H o i v ov iv u Q I ro ri rv h
  obtain ⟨d, a, xs, k, eo, ei, hd, hk, ha, hz, hl, q⟩ := h
  subst eo ei
  obtain rfl : ov = Value.ref d := ro
  obtain rfl : iv = Value.ref a := ri
  exact nd_set hu I hd hk ha hz hl rv fun s' I' => ⟨_, I', q⟩
theorem obj_new {P : Program} {w : World} {G : Hp} (h : Heap) (hb : sysModules < h.objs.size) : ObjOk P w G (h.push { cls := .type "dict", data := .dict #[] }) h.objs.size (obj P w h.objs.size []) :=
  obj_ok ⟨Nat.zero_le _, beq_eq_false_iff_ne.mpr (Nat.ne_of_gt hb), [], .nil, _, #[], 0, Heap.get?_push_size _ rfl, ⟨rfl, rfl, rfl⟩, rfl, rfl, List.nodup_nil⟩
/-- {}, to hold such keys -/
def tNNew (P : Program) (w : World) : TE := fun _ H Q => ∀ d, H d = none → Q (.ref d) (upd H d (obj P w d []))
theorem pe_nnew : PE X (.Dict [] [] pos) (tNNew X.prog X.w) := ⟨fun pins s σ H Q I h => wpAny_Dict_empty ⟨.ref s.heap.objs.size, _, I.laid (a := s.heap.objs.size) (t' := s.toks) (fun _ _ q => Heap.get?_push_of_some _ q) (Nat.le_refl _) (obj_new s.heap I.big), rfl, h _ (I.hok.fresh (Nat.le_refl _))⟩⟩
end
/-! ### walked -/
section
variable {X : Cx} {pins : List (Addr × Obj)} {σ : L2.St} {H : Hp} {s : Shared} {d : Addr} {xs : List Ent} {ob : Obj}
theorem paired_at {α β : Type} {F : α → β → Prop} : ∀ {l : List α} {m : List β} {i : Nat} {a : α}, Paired F l m → l[i]? = some a → ∃ b, m[i]? = some b ∧ F a b
  | _, _, i, a, .nil, h => by simp at h
  | _, _, 0, a, .cons q t, h => ⟨_, rfl, (Option.some.inj h) ▸ q⟩
  | _, _, i + 1, a, .cons q t, h => paired_at (i := i) t h
theorem frz_at (I : Inv X pins σ H s) (hd : H d = some (.frz ob (obj X.prog X.w d xs))) : (d == sysModules) = false ∧ ∃ es ep, s.heap.DictRaw d es ep ∧ ob.data = .dict es ep ∧ es.size = xs.length ∧ ∀ (i : Nat) (hi : i < es.size) (p : Ent), xs[i]? = some p → es[i].key = .ref p.2.1 ∧ RelV p.2.2 es[i].val := by
  obtain ⟨g0, z, y, us, r, o2, es, ep, g1, g2, g3, g4, _⟩ := (show s.heap.get? d = some ob ∧ _ from ⟨(I.hok d _ hd).1, (I.hok d _ hd).2.1⟩)
  rw [g0] at g1
  cases g1
  have l1 : es.size = us.length := size_of_entries g4
  refine ⟨y, es, ep, ⟨ob, g0, g2, g3⟩, g3, l1.trans (Paired.length r).symm, fun i hi p hp => ?_⟩
  obtain ⟨q, hq, e1, e2, e3⟩ := paired_at r hp
  have e4 := entry_at g4 i
  rw [Array.getElem?_eq_getElem hi, hq] at e4
  have e5 : es[i] = entryOfKey (nestedKind X.prog X.w) q := Option.some.inj e4
  rw [e5]
  exact ⟨by rw [e2]; rfl, e3⟩
end
def itKeys (P : Program) (w : World) (d : Addr) (ob : Obj) (xs : List Ent) : It :=
  ⟨fun n H => H d = some (.frz ob (obj P w d xs)) ∧ n < xs.length, fun n H x H' => H' = H ∧ ∃ p, xs[n]? = some p ∧ x = .ref p.2.1, fun n H => H d = some (.frz ob (obj P w d xs)) ∧ xs.length ≤ n⟩
def itItems (P : Program) (w : World) (d : Addr) (ob : Obj) (xs : List Ent) : It :=
  ⟨fun n H => H d = some (.frz ob (obj P w d xs)) ∧ n < xs.length, fun n H x H' => ∃ T p, xs[n]? = some p ∧ x = .ref T ∧ H T = none ∧ H' = upd H T (.tup [.ref p.2.1, p.2.2]), fun n H => H d = some (.frz ob (obj P w d xs)) ∧ xs.length ≤ n⟩
section
variable {P : Program} {w : World} {K : PySem.W.Frag} {tg : Expr} {d : Addr} {ob : Obj} {xs : List Ent} {es : Array DictEntry} {ep : Nat}
theorem data_one {es' : Array DictEntry} {ep' : Nat} (h1 : ob.data = .dict es ep) (h2 : ob.data = .dict es' ep') : es' = es ∧ ep' = ep := by
  rw [h1] at h2
  cases h2
  exact ⟨rfl, rfl⟩
theorem turnKeys (it : Addr) (hod : ob.data = .dict es ep) : Turn P w K tg (itKeys P w d ob xs) [it] it (fun n h => h.IsKeyIter it d n xs.length ep) where
  mem := List.mem_singleton.mpr rfl
  obj := fun n h st b hb => by
    obtain rfl : b = it := List.mem_singleton.mp hb
    obtain ⟨oi, g1, _, g3⟩ := st
    exact ⟨oi, g1, fun v z => by rw [g3] at z; cases z⟩
  keep := fun n h h2 st kp => st.at fun oi g => kp it (List.mem_singleton.mpr rfl) oi g
  item := by
    intro X h1 h2 h3 hc n pins s σ H E I hf st hg
    subst h1 h2 h3
    obtain ⟨f0, f1, f2, f3, f4, f5⟩ := hf it (List.mem_singleton.mpr rfl)
    obtain ⟨y, es2, ep2, raw, hdt, hsz, ent⟩ := frz_at I hg.1
    obtain ⟨rfl, rfl⟩ := data_one hod hdt
    have hn : n < es2.size := by rw [hsz]; exact hg.2
    have hp := List.getElem?_eq_getElem hg.2
    obtain ⟨e1, e2⟩ := ent n hn _ hp
    rw [← hsz] at st
    refine wpAny_pyNext_keys_item_raw st raw hn fun h4 st4 sb => ?_
    have I4 : Inv X pins σ H { s with heap := h4 } := I.turned (t' := s.toks) (fun b ob hb g => (sb.2 b hb).trans g) f0 f1 f3 f4 f5
    obtain ⟨oi, g1, g2, g3⟩ := id st4
    refine ⟨es2[n].key, rfl, go_of (s := { s with heap := h4 }) g1 g2 g3 (by decide) ⟨.ref (xs[n]).2.1, H, I4, e1, ⟨rfl, xs[n], hp, rfl⟩, ?_, fun b hb => (hf b hb).1⟩⟩
    rw [← hsz]
    exact st4
  done := by
    intro X h1 h2 h3 hc n pins s σ H E I hf st hg
    subst h1 h2 h3
    obtain ⟨f0, f1, f2, f3, f4, f5⟩ := hf it (List.mem_singleton.mpr rfl)
    obtain ⟨y, es2, ep2, raw, hdt, hsz, ent⟩ := frz_at I hg.1
    obtain ⟨rfl, rfl⟩ := data_one hod hdt
    rw [← hsz] at st
    exact wpAny_pyNext_keys_end_raw (I.ok.hd hc) st raw (by rw [hsz]; exact hg.2) fun h4 eb => ⟨rfl, I.turned (t' := s.toks) (fun b ob hb g => eb b ob hb g) f0 f1 f3 f4 f5⟩
  self := fun A n s Q E st h => wpAny_pyIter_keyiter st h
theorem turnItems {elts : List Expr} {kk : Nat} {tpos : Pos} (it : Addr) (hod : ob.data = .dict es ep) : Turn P w K (.Tuple elts kk tpos) (itItems P w d ob xs) [it] it (fun n h => ∃ ok ov, IsItemIter h it d n xs.length ep ok ov) where
  mem := List.mem_singleton.mpr rfl
  obj := fun n h st b hb => by
    obtain rfl : b = it := List.mem_singleton.mp hb
    obtain ⟨ok, ov, g⟩ := st
    exact ⟨_, g, fun v z => nomatch z⟩
  keep := fun n h h2 st kp => let ⟨ok, ov, g⟩ := st; ⟨ok, ov, kp it (List.mem_singleton.mpr rfl) _ g⟩
  item := by
    intro X h1 h2 h3 hc n pins s σ H E I hf st hg
    subst h1 h2 h3
    obtain ⟨y, es2, ep2, raw, hdt, hsz, ent⟩ := frz_at I hg.1
    obtain ⟨rfl, rfl⟩ := data_one hod hdt
    have hn : n < es2.size := by rw [hsz]; exact hg.2
    have hp := List.getElem?_eq_getElem hg.2
    obtain ⟨e1, e2⟩ := ent n hn _ hp
    obtain ⟨ok, ov, g⟩ := st
    rw [← hsz] at g
    have low : it < s.heap.objs.size := Heap.lt_size g
    refine wpAny_pyNext_items_item_raw g raw hn fun h4 out hT hz hk => ?_
    refine ⟨_, rfl, wpAny_letOwnedTupleGo_items (s := { s with heap := h4 }) out fun h5 g5 sb => ?_⟩
    have hT2 : h5.get? s.heap.objs.size = some { cls := .type "tuple", data := .seq #[es2[n].key, es2[n].val] } := (sb.2 _ (Nat.ne_of_gt low)).trans hT
    have fresh : ObjOk X.prog X.w (upd H s.heap.objs.size (.tup [.ref (xs[n]).2.1, (xs[n]).2.2])) h5 s.heap.objs.size (.tup [.ref (xs[n]).2.1, (xs[n]).2.2]) :=
      ⟨by show 2 ≤ sizeLine; decide, [es2[n].key, es2[n].val], .cons e1 (.cons e2 .nil), ⟨_, hT2, rfl, _, rfl⟩⟩
    have I5 : Inv X pins σ (upd H s.heap.objs.size (.tup [.ref (xs[n]).2.1, (xs[n]).2.2])) { s with heap := h5 } :=
      I.turnedNew (t' := s.toks) (ch := [it]) (fun b ob hb g => (sb.2 b fun z => hb (List.mem_singleton.mpr z)).trans (hk b ob (fun z => hb (List.mem_singleton.mpr z)) g)) hf (Nat.le_refl _) fresh
    refine ⟨.ref s.heap.objs.size, _, I5, rfl, ⟨_, xs[n], hp, rfl, I.hok.fresh (Nat.le_refl _), rfl⟩, ⟨_, _, by rw [← hsz]; exact g5⟩, fun b hb => ?_⟩
    obtain rfl : b = it := List.mem_singleton.mp hb
    rw [upd_ne (Nat.ne_of_lt low)]
    exact (hf b hb).1
  done := by
    intro X h1 h2 h3 hc n pins s σ H E I hf st hg
    subst h1 h2 h3
    obtain ⟨f0, f1, f2, f3, f4, f5⟩ := hf it (List.mem_singleton.mpr rfl)
    obtain ⟨y, es2, ep2, raw, hdt, hsz, ent⟩ := frz_at I hg.1
    obtain ⟨rfl, rfl⟩ := data_one hod hdt
    obtain ⟨ok, ov, g⟩ := st
    rw [← hsz] at g
    exact wpAny_pyNext_items_end_raw (I.ok.hd hc) g raw (by rw [hsz]; exact hg.2) fun h4 eb => ⟨rfl, I.turned (t' := s.toks) (fun b ob hb q => eb b ob hb q) f0 f1 f3 f4 f5⟩
  self := fun A n s Q E st h => let ⟨_, _, g⟩ := st; PySem.W.kcp_self g h
end
def iNKeys (P : Program) (w : World) (td : TE) : TI := fun σ H R => td σ H fun x H1 => ∃ d ob xs, x = .ref d ∧ H1 d = some (.frz ob (obj P w d xs)) ∧ R (itKeys P w d ob xs) H1
def iNItems (P : Program) (w : World) (td : TE) : TI := fun σ H R => td σ H fun x H1 => ∃ d ob xs, x = .ref d ∧ H1 d = some (.frz ob (obj P w d xs)) ∧ R (itItems P w d ob xs) H1
section
variable {X : Cx} {tg e : Expr} {td : TE} {apos cpos : Pos}
theorem pi_nkeys (he : PE X e td) : PI X tg e (iNKeys X.prog X.w td) := by
  refine ⟨fun pins s σ H R I h => ?_⟩
  refine thn (he.run pins s σ H _ I h) fun u s1 ⟨x, H1, I1, rx, d, ob, xs, ex, hd, q⟩ => ?_
  subst ex
  obtain rfl : u = Value.ref d := rx
  obtain ⟨y, es, ep, raw, hdt, hsz, ent⟩ := frz_at I1 hd
  refine wpAny_pyIter_dict_raw y raw (pi_one (tk := s1.toks) I1 _ (turnKeys _ hdt) ⟨_, Heap.get?_push_size _ rfl, rfl, ?_⟩ q)
  rw [hsz]
  rfl
theorem pi_nitems {elts : List Expr} {kk : Nat} {tpos : Pos} (he : PE X e td) (hb : attributeBase e "items" X.env (eval e X.env) = eval e X.env := by rfl) (hl : (apos.endLine == cpos.line) = true := by rfl) :
    PI X (.Tuple elts kk tpos) (.Call (.Attribute e "items" apos) [] [] cpos) (iNItems X.prog X.w td) := by
  refine ⟨fun pins s σ H R I h => ?_⟩
  refine wpAny_Call_method (T := "dict") (id := "dict.items") hb rfl hl F.plainAttrs_dict F.slot_dict_items F.type_dict_items (thn (he.run pins s σ H _ I h) fun u s1 ⟨x, H1, I1, rx, d, ob, xs, ex, hd, q⟩ => ?_)
  subst ex
  obtain rfl : u = Value.ref d := rx
  obtain ⟨y, es, ep, raw, hdt, hsz, ent⟩ := frz_at I1 hd
  obtain ⟨o2, g1, g2, g3⟩ := id raw
  refine ⟨raw.typeIs, fun b z => by cases z; exact ⟨o2, g1, g2.2.1⟩, ?_⟩
  have I2 : Inv X pins σ H1 { s1 with heap := s1.heap.push { cls := .type "dict_items", data := .fields #[.ref d] } } := I1.kept (t' := s1.toks) fun b o z => Heap.get?_push_of_some _ z
  have fin : wpAny (model X.prog X.w) X.A (pyIter (.ref s1.heap.objs.size)) (PIE X pins σ (.Tuple elts kk tpos) R) X.xe { s1 with heap := s1.heap.push { cls := .type "dict_items", data := .fields #[.ref d] } } := by
    refine wpAny_pyIter_items_raw (d := d) ⟨_, Heap.get?_push_size _ rfl, rfl, rfl⟩ (raw.at fun o z => Heap.get?_push_of_some _ z) (pi_one (tk := s1.toks) I2 _ (turnItems _ hdt) ⟨.none, .none, ?_⟩ q)
    rw [← hsz]
    exact Heap.get?_push_size _ rfl
  show wpAny _ _ (callWith cpos (.builtin "dict.items") [.ref d] [] []) _ X.xe s1
  exact method_meetsIn F.slot_dict_items F.entry_dict_items rfl (PySem.evalArgs_none ⟨rfl, raw.typeIs, F.args_dict_items_1 _, _, meets_dict_items_raw d y, ⟨es, ep, raw⟩, fin⟩)
end
end ND
/-! ### rows in order: `(len(days), days) < (len(other), other)` -/
namespace ND
open PySem PySem.Spec PyProof.Rows L2
section
variable {X : Cx} {pins : List (Addr × Obj)} {σ : L2.St} {H : Hp} {s : Shared}
theorem nums_hold {h : Heap} : ∀ {ns : List Int} {us : List Value}, Vals (ns.map V.int) us → PySem.W.HoldAll h us ns
  | [], _, .nil => PySem.W.HoldAll.nil
  | n :: r, _, .cons ⟨t, e⟩ rr => by
    rw [e]
    exact PySem.W.HoldAll.cons (PySem.W.holds_int n t) (nums_hold rr)
/-- at a: a tuple of a number and a list of numbers -/
def RowKey (K : PySem.W.Frag) (H : Hp) (a : Addr) (p : Int × List Int) : Prop := ∃ la, SqT K H a [.int p.1, .ref la] ∧ SqL K H la (p.2.map V.int)
theorem key_holds (I : Inv X pins σ H s) (h : RowKey X.K H a p) : PySem.W.Holds s.heap (.ref a) p := by
  obtain ⟨la, h1, h2⟩ := h
  obtain ⟨i1, r1, t1, _⟩ := I.tuple h1
  obtain ⟨i2, r2, t2, _⟩ := I.list h2
  cases r1 with
  | cons e1 r1 =>
    cases r1 with
    | cons e2 r1 =>
      cases r1
      obtain ⟨tk, rfl⟩ := e1
      obtain rfl : _ = Value.ref la := e2
      obtain ⟨n, xs⟩ := p
      exact PySem.W.holds_pair t1 (PySem.W.holds_int n tk) (PySem.W.holds_list t2.isList (by simpa using nums_hold r2))
def keyLt (p q : Int × List Int) : Bool := PySem.W.DatumOrd.lt p q
/-- a pair that holds a list is less than another -/
def rLtKey (K : PySem.W.Frag) : R2 := fun x y H Q => ∃ a b p q, x = .ref a ∧ y = .ref b ∧ RowKey K H a p ∧ RowKey K H b q ∧ Q (.bl (keyLt p q)) H
theorem op_ltKey (hu : X.A.units + 9 < cLine) : OpR X (compareOp .Lt) (rLtKey X.K) := by
  intro pins s σ H x y v u Q I rx ry h
  obtain ⟨a, b, p, q, rfl, rfl, ha, hb, k⟩ := h
  obtain rfl : v = Value.ref a := rx
  obtain rfl : u = Value.ref b := ry
  exact PySem.W.lt_datum (key_holds I ha) (key_holds I hb) (by show X.A.units + 2 < cLine; omega) (fin_bl I k rfl)
/-- what the order says -/
theorem keyLt_len {xs ys : List Int} (h : xs.length ≠ ys.length) : keyLt ((xs.length : Int), xs) ((ys.length : Int), ys) = decide (xs.length < ys.length) := by
  show (if (xs.length : Int) = (ys.length : Int) then PySem.W.listLt xs ys else decide ((xs.length : Int) < (ys.length : Int))) = _
  rw [if_neg (fun e => h (by exact_mod_cast e))]
  exact decide_eq_decide.mpr (by omega)
end
end ND
/-! ### a dict of one pair shown, its length -/
namespace ND
open PySem PySem.Spec PyProof.Rows L2
/-- {k: v}: the key a tuple -/
def tNOne (P : Program) (w : World) (K : PySem.W.Frag) (tk tv : TE) : TE := fun σ H Q => ∀ d, H d = none → tk σ (upd H d (obj P w d [])) fun x H1 => tv σ H1 fun y H2 => ∃ a k, x = .ref a ∧ keyAt K H2 k (.ref a) ∧ k.depth ≤ 8 ∧ H2 d = some (obj P w d []) ∧ Q (.ref d) (upd H2 d (obj P w d [(k, a, y)]))
section
variable {X : Cx} {pos : Pos} {k v : Expr} {tk tv : TE}
theorem pe_none1 (hu : X.A.units + 9 < cLine) (hk : PE X k tk) (hv : PE X v tv) : PE X (.Dict [some k] [v] pos) (tNOne X.prog X.w X.K tk tv) := by
  refine ⟨fun pins s σ H Q I h => ?_⟩
  have hsh : (evalEachOpt [some k] X.env).zip ((evalEach [v] X.env).map fun v => do let x ← v; standAt pos; pure x) = [(eval k X.env, (do let x ← eval v X.env; standAt pos; pure x : Sem Value))].map fun p => (some p.1, p.2) := rfl
  have hr : X.A.units + 8 < cLine := by omega
  rw [arm_eval_Dict, hsh, dictDisplay_pairs [(eval k X.env, (do let x ← eval v X.env; standAt pos; pure x : Sem Value))] (List.cons_ne_nil _ _) (show 1 < 17 by omega)]
  have hn : H s.heap.objs.size = none := I.hok.fresh (Nat.le_refl _)
  have I1 : Inv X pins σ (upd H s.heap.objs.size (obj X.prog X.w s.heap.objs.size [])) { s with heap := s.heap.push { cls := .type "dict", data := .dict #[] } } :=
    I.laid (a := s.heap.objs.size) (t' := s.toks) (fun _ _ q => Heap.get?_push_of_some _ q) (Nat.le_refl _) (obj_new s.heap I.big)
  refine wpAny_bind (wpAny_standAt (wpAny_bind (wpAny_subDictH (knd := nestedKind X.prog X.w) (s := s) hr (show 1 ≤ 15 by omega) ?_)))
  refine evalPairs_cons (thn (hk.run pins _ σ _ _ I1 (h _ hn)) fun u1 s1 ⟨x, H1, I2, rx, q1⟩ => ?_)
  refine wpAny_bind (thn (hv.run pins s1 σ H1 _ I2 q1) fun u2 s2 ⟨y, H2, I3, ry, a, kk, ex, ka, hz, hd, q2⟩ => wpAny_bind (wpAny_standAt (wpAny_pure (evalPairs_nil ?_))))
  subst ex
  obtain rfl : u1 = Value.ref a := rx
  obtain ⟨z, y0, us, r, dd⟩ := nd_of I3 (.inl hd) (fun p hp => nomatch hp)
  cases r
  refine ⟨[(kk, a, u2)], ⟨rfl, rfl, is_at I3 ka hz, True.intro⟩, dd, fun h' t' dd' hs => wpAny_pure ⟨.ref s.heap.objs.size, _, ?_, rfl, q2⟩⟩
  obtain ⟨o, es, ep, g1, g2, g3, g4, g5, g6⟩ := dd'
  refine d_write I3 (by rw [hd]; exact True.intro) hs ⟨o, g1⟩ (obj_ok ⟨by show 1 ≤ sizeLine; rw [sizeLine_eq]; omega, y0, _, .cons ⟨rfl, rfl, ry⟩ .nil, o, es, ep, g1, g2, g3, g4, g6⟩)
theorem call_lenN : CallR X (.builtin "len") (fun xs H Q => ∃ d es, xs = [V.ref d] ∧ Rdn X.prog X.w H d es ∧ Keys X.K H es ∧ Q (.int es.length) H) := by
  intro pins s σ H xs us Q I r h
  obtain ⟨d, es, rfl, hd, hk, q⟩ := h
  rw [Vals.ref1 r]
  obtain ⟨z, y0, vs, rl, dd⟩ := nd_of I hd hk
  have hl : es.length = vs.length := Paired.length rl
  have hz : (vs.length : Int) < 2 ^ 63 := by
    rw [sizeLine_eq] at z
    omega
  have hkd : s.heap.DictKeyed (nestedKind X.prog X.w) d (pairsH vs) := ⟨vs, dd, rfl⟩
  have hpl : (pairsH vs).length = vs.length := List.length_map ..
  refine Calls.call_function_entry kind_len plain_len entry_len (args_len1 _) ?_
  unfold Builtin.«len»
  refine wpAny_bind (m := oneArg "len" _) (wpAny_pure (wpAny_bind (m := callSpecial? (.ref d) (Str.ofString "__len__")) (wpAny_callSpecial?_slot (name := Str.ofString "__len__") (nd_typeIs I hd) F.slot_dict_len (len_keyed y0 hkd ?_))))
  rw [hpl]
  refine wpAny_bind (wpAny_holding (wpAny_pure (wpAny_bind (wpAny_letGo ?_))))
  have h1 : ¬ ((vs.length : Nat) : Int) < 0 := by omega
  have h2 : ¬ ((vs.length : Nat) : Int) ≥ 2 ^ 63 := by omega
  show wpAny _ _ (if ((vs.length : Nat) : Int) < 0 then _ else if ((vs.length : Nat) : Int) ≥ 2 ^ 63 then _ else _) _ _ _
  rw [if_neg h1, if_neg h2]
  exact wpAny_bind (wpAny_mkInt (wpAny_pure ⟨_, rfl, .int es.length, H, I.tok _, ⟨_, by rw [hl]⟩, q⟩))
end
end ND
/-! ### {k: v for .. in .. if ..} with such keys -/
namespace ND
open PySem PySem.Spec PyProof.Rows L2
theorem nd_put {X : Cx} {pins : List (Addr × Obj)} {σ : L2.St} {H : Hp} {s : Shared} {E : Value → Shared → Prop} {d a : Addr} {xs : List Ent} {k : NestedKey} {v : V} {u : Value} {Q : Unit → Shared → Prop} (hu : X.A.units + 9 < cLine) (I : Inv X pins σ H s) (hd : H d = some (obj X.prog X.w d xs)) (hk : Keys X.K H xs) (ha : keyAt X.K H k (.ref a)) (hz : k.depth ≤ 8) (hl : xs.length < sizeLine) (rv : RelV v u)
    (h : ∀ s', Inv X pins σ (upd H d (obj X.prog X.w d (putN xs k a v))) s' → Q () s') : wpAny (model X.prog X.w) X.A (dictSet d (.ref a) u) Q E s := by
  obtain ⟨z, y, us, r, dd⟩ := nd_of I (.inl hd) hk
  have zl : us.length ≤ sizeLine := by rw [← Paired.length r]; exact z
  have hr : (nestedKind X.prog X.w).room X.A := by show X.A.units + 8 < cLine; omega
  refine wpAny_dictSet_heap (hsz := zl) hr (is_at I ha hz) dd fun h' dd' hs => h _ ?_
  obtain ⟨o, es, ep, g1, g2, g3, g4, g5, g6⟩ := dd'
  refine d_write I (by rw [hd]; exact True.intro) hs ⟨o, g1⟩ (obj_ok ⟨?_, y, _, put_rel r rv, o, es, ep, g1, g2, g3, g4, g6⟩)
  have := put_len xs k a v
  omega
/-- a turn that takes its item: where the pair (y, z) is stored, D the dict -/
def Stored (P : Program) (w : World) (K : PySem.W.Frag) (D : Addr) (y z : V) (H : Hp) (Nx : Hp → Prop) : Prop := ∃ a k xs, y = .ref a ∧ H D = some (obj P w D xs) ∧ Keys K H xs ∧ keyAt K H k (.ref a) ∧ k.depth ≤ 8 ∧ xs.length < sizeLine ∧ Nx (upd H D (obj P w D (putN xs k a z)))
/-- one turn -/
def turnDN (P : Program) (w : World) (K : PySem.W.Frag) (g : TG) (tt : TT) (tk tv : TE) (vs : List Nat) (σ : L2.St) (D : Addr) (Nx : Hp → Prop) (x : V) (H : Hp) : Prop :=
  g x (wipe σ vs) H fun σ2 H2 => wipe σ2 vs = wipe σ vs ∧ tt σ2 H2 fun b H3 => (b = true → tk σ2 H3 fun y H4 => tv σ2 H4 fun z H5 => Stored P w K D y z H5 Nx) ∧ (b = false → Nx H3)
def tDcN (P : Program) (w : World) (K : PySem.W.Frag) (wi : TI) (g : TG) (tt : TT) (tk tv : TE) (vs : List Nat) : TE := fun σ H Q => wi σ H fun J H1 => ∀ D, H1 D = none → ∃ W : Nat → Nat → Hp → Prop, (∃ m, W 0 m (upd H1 D (obj P w D []))) ∧ ∀ i m H, W i m H →
  (J.stop i H ∧ Q (.ref D) H) ∨ (J.go i H ∧ ∃ Nx : Hp → Prop, (∀ H', Nx H' → ∃ m', m' < m ∧ W (i + 1) m' H') ∧ ∀ x H', J.yld i H x H' → turnDN P w K g tt tk tv vs σ D Nx x H')
section
variable {X : Cx}
theorem dn_core {p0 : List (Addr × Obj)} {s : Shared} {σ : L2.St} {H : Hp} {Q : VK} {kx vx tg iter : Expr} {ifs : List Expr} {scope : Scope} {own : List (Str × Nat)} {pos p' : Pos} {wi : TI} {g : TG} {tt : TT} {tk tv : TE} {use : Option (Value → Sem Unit)} {Qf : Value → Shared → Prop}
    (hu : ∀ s H cl C fp, (X.blk s H scope (compEnvC scope cl C X.env) fp).A.units + 9 < cLine) (hc : X.calm = true) (hN : X.N.Nodup) (I : Inv X p0 σ H s) (hi : PI X tg iter wi) (ok : BlkOk X.N X.env.scope scope own)
    (hb : ∀ s H C cl fp, PG (X.blk s H scope (compEnvC scope cl C X.env) fp) tg g ∧ PTs (X.blk s H scope (compEnvC scope cl C X.env) fp) ifs tt ∧ PE (X.blk s H scope (compEnvC scope cl C X.env) fp) kx tk ∧ PE (X.blk s H scope (compEnvC scope cl C X.env) fp) vx tv) (hs : ∀ x, foldedSetIterable iter X.env x = pure x)
    (h : tDcN X.prog X.w X.K wi g tt tk tv (own.map (·.2)) σ H Q)
    (fin : ∀ D C s' m H', Inv X p0 σ H' s' → Q (.ref D) H' → s'.heap.Ns C m → FpOk X p0 H' C → compPost (model X.prog X.w) X.A X.xe use Qf (.ref D) C (.ok .next) s') :
    wpAny (model X.prog X.w) X.A (comprehension (.DictComp kx vx [⟨tg, iter, ifs, 0⟩] scope pos) scope X.env p' newDict false (eval iter X.env) use) Qf X.xe s := by
  have fr : ∀ y ∈ scope.names, y.2 = .free → ∃ c, X.env.cells.lookup y.1 = some c := fun y hy e => (ok.free y hy e).elim (fun k => I.ok.has _ (.inl k)) fun k => I.ok.has _ (.inr k)
  have uq : ∀ y ∈ scope.names, y.2 = .local → scope.names.lookup y.1 = some .local := fun y hy e => by rw [ok.uniq y hy, e]
  refine wpAny_comprehension_free (use := use) rfl hs (closure_ok fr) ok.kind uq (thn (hi.run p0 s σ H _ I h) fun _ _ hx => thn hx fun _ s2 ⟨it, fp, tn, J, H2, e, I2, T, st2, f2, q⟩ => ?_)
  subst e
  refine wpAny_newObj_type (newEnv_comp ?_)
  have hDn : H2 s2.heap.objs.size = none := I2.hok.fresh (Nat.le_refl _)
  have I3 : Inv X p0 σ (upd H2 s2.heap.objs.size (obj X.prog X.w s2.heap.objs.size [])) ({ s2 with heap := s2.heap.push { cls := .type "dict", data := .dict #[] } } : Shared) :=
    I2.laid (t' := s2.toks) (fun _ _ => Heap.get?_push_of_some _) (Nat.le_refl _) (obj_new s2.heap I2.big)
  obtain ⟨W, ⟨m0, w0⟩, turn⟩ := q s2.heap.objs.size hDn
  generalize hD : s2.heap.objs.size = D at *
  generalize h3 : ({ s2 with heap := s2.heap.push { cls := .type "dict", data := .dict #[] } } : Shared) = s3 at *
  have e3 : s3.heap = s2.heap.push { cls := .type "dict", data := .dict #[] } := by rw [← h3]
  have lt3 : ∀ b ∈ fp, b < D := fun b hb => by
    obtain ⟨o, e, _⟩ := T.obj _ _ st2 b hb
    rw [← hD]
    exact Heap.lt_size e
  generalize hG : upd H2 D (obj X.prog X.w D []) = G at *
  have f3 : ∀ b ∈ fp, FpOk X p0 G b ∧ b < s3.heap.objs.size := fun b hb => by
    have l := lt3 b hb
    refine ⟨⟨?_, (f2 b hb).2⟩, ?_⟩
    · rw [← hG, upd_ne (Nat.ne_of_lt l)]
      exact (f2 b hb).1
    · rw [e3, Heap.size_push, hD]
      exact Nat.lt_succ_of_lt l
  have I4 := block_start I3 ok hN f3
  have st4 : tn 0 ({ s3 with heap := pushCells (s3.heap.push { cls := .type "dict", data := .dict #[] }) scope.names } : Shared).heap := T.keep _ _ _ st2 fun b _ o e => by
    refine pushCells_keeps _ _ _ _ (Heap.get?_push_of_some _ ?_)
    rw [e3]
    exact Heap.get?_push_of_some _ e
  obtain ⟨pg, pt, pk, pv⟩ := hb s3 G s3.heap.objs.size (cellsFrom (s3.heap.objs.size + 1) scope.names (cloFrom X.env.cells scope.names [])) fp
  have hu' := hu s3 G (cellsFrom (s3.heap.objs.size + 1) scope.names (cloFrom X.env.cells scope.names [])) s3.heap.objs.size fp
  have nf : ∀ b ∈ fp, G b = none := fun b hb => (f3 b hb).1.1
  have hC : s3.heap.objs.size = (compEnvC scope (cellsFrom (s3.heap.objs.size + 1) scope.names (cloFrom X.env.cells scope.names [])) s3.heap.objs.size X.env).locals := rfl
  refine (show codeAny (model X.prog X.w) X.A (.compStart (.DictComp kx vx [⟨tg, iter, ifs, 0⟩] scope pos) 0 (.ref it) (.ref D) (compEnvC scope (cellsFrom (s3.heap.objs.size + 1) scope.names (cloFrom X.env.cells scope.names [])) s3.heap.objs.size X.env)) _ ({ s3 with heap := pushCells (s3.heap.push { cls := .type "dict", data := .dict #[] }) scope.names } : Shared) from ?_)
  generalize compEnvC scope (cellsFrom (s3.heap.objs.size + 1) scope.names (cloFrom X.env.cells scope.names [])) s3.heap.objs.size X.env = ce at *
  generalize ({ s3 with heap := pushCells (s3.heap.push { cls := .type "dict", data := .dict #[] }) scope.names } : Shared) = s4 at *
  have apart : ∀ {σ' : L2.St} {H' : Hp} {s' : Shared}, Inv (X.blk s3 G scope ce fp) [] σ' H' s' → (∀ b ∈ fp, H' b = none) → ∀ b ∈ fp, FpOk (X.blk s3 G scope ce fp) [] H' b := fun I' hn b hb =>
    ⟨hn b hb, (I'.ok.exf b hb).1, I'.ok.exfs b hb, .inl hb, fun x c => (I'.ok.exf b hb).2 x c, fun p hp => by cases hp⟩
  refine (fun l => codeAny_compStart_dict l (T.self X.A 0 _ _ _ st4 l)) (compLoop_anyD (fun n s' => ∃ i H', W i n H' ∧ Inv (X.blk s3 G scope ce fp) [] (wipe σ (own.map (·.2))) H' s' ∧ tn i s'.heap ∧ ∀ b ∈ fp, H' b = none) (fun n s5 ⟨i, H5, w5, I5, st5, n5⟩ => ?_) m0 ⟨0, G, w0, I4, st4, nf⟩)
  have ap5 := apart I5 n5
  rcases turn i n H5 w5 with ⟨stop, qq⟩ | ⟨go, Nx, nxt, step⟩
  · refine thnF (T.done (X.blk s3 G scope ce fp) rfl rfl rfl hc i [] s5 _ H5 (fun _ _ => False) I5 ap5 st5 stop) fun r s6 ⟨hr, I6⟩ => ?_
    subst hr
    obtain ⟨m, hn, _⟩ := I6.loc
    have nC : H5 s3.heap.objs.size = none := by
      rw [hC]
      exact I6.free
    refine fin D s3.heap.objs.size s6 m H5 (I3.call' (ch := fp) I6.os I6.base I6.hok I6.bare fun b hb => ?_) qq (by rw [hC]; exact hn) (I3.fpOk (Nat.le_refl _) nC)
    obtain ⟨⟨_, c1, c2, c3, c4, c5⟩, _⟩ := f3 b hb
    exact ⟨c3, c1, c4, c5⟩
  · refine thnF (T.item (X.blk s3 G scope ce fp) rfl rfl rfl hc i [] s5 _ H5 (fun _ _ => False) I5 ap5 st5 go) fun r s6 ⟨u, hr, h6⟩ => ?_
    subst hr
    refine thnF h6 fun _ s7 ⟨x, H7, I7, r7, y7, st7, n7⟩ => ?_
    have pin := I7.pinned (apart I7 n7) (T.obj _ _ st7)
    refine thnF (pg.run _ s7 _ H7 x u _ pin r7 (step x H7 y7)) fun _ s8 ⟨σ8, H8, I8, hw, q8⟩ => thnF (pt.run _ s8 σ8 H8 _ I8 q8) fun b s9 ⟨H9, I9, qt, qf⟩ => ?_
    have back : ∀ {s' : Shared} {H' : Hp}, Inv (X.blk s3 G scope ce fp) ([] ++ pinsAt fp s7.heap) σ8 H' s' → Nx H' → ∃ m, m < n ∧ ∃ i H', W i m H' ∧ Inv (X.blk s3 G scope ce fp) [] (wipe σ (own.map (·.2))) H' s' ∧ tn i s'.heap ∧ ∀ b ∈ fp, H' b = none := fun {s' H'} I' nx => by
      obtain ⟨m', lt, w'⟩ := nxt H' nx
      have at' : ∀ b ∈ fp, ∀ o, s7.heap.get? b = some o → s'.heap.get? b = some o ∧ H' b = none := fun b hb o e => by
        obtain ⟨z1, z2, _⟩ := I'.pin (b, o) (List.mem_append_right _ (List.mem_append_right _ (mem_pinsAt hb e)))
        exact ⟨z1, z2⟩
      refine ⟨m', lt, i + 1, H', w', I'.unpinned.weak (by rw [← hw, wipe_length]) fun j v e => ?_, T.keep _ _ _ st7 fun b hb o e => (at' b hb o e).1, fun b hb => ?_⟩
      · rw [← hw] at e
        exact (wipe_some e).1
      · obtain ⟨o, e, _⟩ := T.obj _ _ st7 b hb
        exact (at' b hb o e).2
    cases b with
    | false => exact back I9 (qf rfl)
    | true =>
      refine (if_pos rfl).symm ▸ (thnF (pk.run _ s9 σ8 H9 _ I9 (qt rfl)) fun z s10 ⟨yk, H10, I10, r10, q10⟩ => thnF (pv.run _ s10 σ8 H10 _ I10 q10) fun z2 s11 ⟨yv, H11, I11, r11, a, k, xs, ek, hd, hk, ha, hz, hl, nx⟩ => ?_)
      subst ek
      cases r10
      exact nd_put (X := X.blk s3 G scope ce fp) hu' I11 hd hk ha hz hl r11 fun s12 I12 => back I12 nx
theorem pe_dcN {kx vx tg iter : Expr} {ifs : List Expr} {scope : Scope} {own : List (Str × Nat)} {pos : Pos} {wi : TI} {g : TG} {tt : TT} {tk tv : TE} (hu : X.A.units + 20 < cLine) (hc : X.calm = true) (hN : X.N.Nodup) (hi : PI X tg iter wi) (ok : BlkOk X.N X.env.scope scope own)
    (hg : ∀ s H C cl fp, PG (X.blk s H scope (compEnvC scope cl C X.env) fp) tg g) (ht : ∀ s H C cl fp, PTs (X.blk s H scope (compEnvC scope cl C X.env) fp) ifs tt)
    (hk : ∀ s H C cl fp, PE (X.blk s H scope (compEnvC scope cl C X.env) fp) kx tk) (hv : ∀ s H C cl fp, PE (X.blk s H scope (compEnvC scope cl C X.env) fp) vx tv)
    (hs : ∀ x, foldedSetIterable iter X.env x = pure x := by intro _; rfl) : PE X (.DictComp kx vx [⟨tg, iter, ifs, 0⟩] scope pos) (tDcN X.prog X.w X.K wi g tt tk tv (own.map (·.2))) := by
  refine ⟨fun pins s σ H Q I h => ?_⟩
  rw [arm_eval_DictComp]
  refine dn_core (fun _ _ _ _ _ => by show X.A.units + 9 < cLine; omega) hc hN I hi ok (fun s H C cl fp => ⟨hg s H C cl fp, ht s H C cl fp, hk s H C cl fp, hv s H C cl fp⟩) hs h fun D C s' m H' I' q hn f => ⟨m, hn, fun h'' sb => ?_⟩
  obtain ⟨f0, f1, _, f3, f4, f5⟩ := f
  exact ⟨.ref D, H', I'.turned (t' := s'.toks) (fun b o hb e => (sb.2 b hb).trans e) f0 f1 f3 f4 f5, rfl, q⟩
end
end ND
/-! ### min(list, key=a def of the program): what the key makes is forgotten behind it -/
namespace MK
open PySem PySem.Spec PyProof.Rows L2
section
variable {X : Cx} {pins : List (Addr × Obj)} {σ : L2.St} {H H' : Hp} {s s' : Shared}
/-- no dict whose keys are tuples of the first kind (its keys' places are not told) -/
def noT : HO → Bool
  | .dT _ => false
  | .frz _ u => noT u
  | _ => true
def dropT (H : Hp) : Hp := fun a => match H a with
  | some o => if noT o = true then some o else none
  | none => none
theorem drop_none {a : Addr} (h : H a = none) : dropT H a = none := by
  unfold dropT
  rw [h]
theorem drop_some {a : Addr} {o : HO} (h : H a = some o) (n : noT o = true) : dropT H a = some o := by
  unfold dropT
  rw [h]
  exact if_pos n
theorem drop_of {a : Addr} {o : HO} (h : dropT H a = some o) : H a = some o ∧ noT o = true := by
  unfold dropT at h
  split at h
  · rename_i o' e
    split at h
    · rename_i n
      cases h
      exact ⟨e, n⟩
    · cases h
  · cases h
theorem drop_l {K : PySem.W.Frag} {a : Addr} {xs : List V} (h : SqL K H a xs) : SqL K (dropT H) a xs := by
  rcases h with (h | ⟨ob, h⟩) | h
  · exact .inl (.inl (drop_some h rfl))
  · exact .inl (.inr ⟨ob, drop_some h rfl⟩)
  · exact .inr h
/-- what is said under H' holds under a lesser H where it held before -/
theorem obj_less {P : Program} {w : World} {h0 h : Heap} {a : Addr} : ∀ (o : HO), noT o = true → ObjOk P w H h0 a o → ObjOk P w H' h a o → ObjOk P w H h a o
  | .lst _, _, _, x => x
  | .tup _, _, _, x => x
  | .dK _, _, _, x => x
  | .dT _, n, _, _ => by cases n
  | .set _ _, _, _, x => x
  | .ins _ _ _, _, x0, x => ⟨x0.1, x.2⟩
  | .own _, _, _, x => x
  | .xd _, _, _, x => x
  | .rng _ _, _, _, x => x
  | .frz _ u, n, x0, x => ⟨x.1, obj_less u n x0.2 x.2⟩
  | .tbl _, _, _, x => x
  | .met _ _, _, _, x => x
  | .ext _, _, _, x => x
theorem obj_at {P : Program} {w : World} {h h' : Heap} {a : Addr} (k : ∀ v, h.get? a = some v → h'.get? a = some v) : ∀ (o : HO), noT o = false → ObjOk P w H h a o → ObjOk P w H h' a o
  | .dT _, _, x => by
    obtain ⟨x1, x2, xs, x3, o, es, ep, x4, x5⟩ := x
    exact ⟨x1, x2, xs, x3, o, es, ep, k _ x4, x5⟩
  | .frz _ u, n, x => ⟨k _ x.1, obj_at k u n x.2⟩
  | .lst _, n, _ => by cases n
  | .tup _, n, _ => by cases n
  | .dK _, n, _ => by cases n
  | .set _ _, n, _ => by cases n
  | .ins _ _ _, n, _ => by cases n
  | .own _, n, _ => by cases n
  | .xd _, n, _ => by cases n
  | .rng _ _, n, _ => by cases n
  | .tbl _, n, _ => by cases n
  | .met _ _, n, _ => by cases n
  | .ext _, n, _ => by cases n
theorem drop_ok {P : Program} {w : World} {h : Heap} (x : HOk P w H h) : HOk P w (dropT H) h := fun a o e => by
  obtain ⟨e1, n⟩ := drop_of e
  have x1 := x a o e1
  cases o with
  | ins C dx fs => exact ⟨drop_some x1.1 rfl, x1.2⟩
  | frz ob u =>
    refine ⟨x1.1, ?_⟩
    have go : ∀ u : HO, noT u = true → ObjOk P w H h a u → ObjOk P w (dropT H) h a u := fun u => by
      induction u with
      | ins C dx fs => exact fun _ y => ⟨drop_some y.1 rfl, y.2⟩
      | frz ob u ih => exact fun n y => ⟨y.1, ih n y.2⟩
      | dT kvs => exact fun n _ => by cases n
      | _ => exact fun _ y => y
    exact go u n x1.2
  | dT kvs => cases n
  | _ => exact x1
/-- a def called at A with what may be told, its end as the frame knows it -/
theorem ce_call {A : Around} {n : Nat} {f : Addr} {fd : FuncData} {ps : List Str} {sp : Sp} {xs : List V} {us : List Value} {Q : VK} {E : Value → Shared → Prop} (F : FnOk X.prog X.w X.K X.mg X.base CX0 n f fd ps sp) (hb : Binds X.K fd ps []) (hr : Room n A) (hf : A.frames = X.A.frames) (I : Inv X pins σ H s) (rx : Vals xs us) (q : sp xs (dropT H) Q E0) :
    wpAny (model X.prog X.w) A (call (.ref f) us) (CE X.stack X.prog X.w (dropT H) s Q) E s := by
  have e0 : Env0 X.prog X.w X.K X.mg X.base A X.stack s (dropT H) := ⟨hf.trans I.env0.frames, I.ok.mod, fun b o e => ⟨(I.bs b o e).1, drop_none (I.bs b o e).2⟩, I.env0.bsz, I.stack, fun b hb => drop_none (I.stkFree b hb), drop_ok I.hok, I.bare⟩
  have b0 : BindsTo s fd ⟨us, []⟩ (ps.zip us) := by
    have z := hb s us I.kIn (by rw [List.append_nil, ← rx.length]; exact F.len _ _ _ _ q)
    simpa using z
  refine wpAny_call (codeAny_mono (F.run A X.stack s (dropT H) ⟨us, []⟩ us xs Q E0 hr e0 b0 rx q) fun r s' hq => ?_)
  cases r with
  | error e => exact hq.elim
  | ok fl => cases fl <;> first | exact hq | exact hq.elim
theorem obj_there {P : Program} {w : World} {h : Heap} {a : Addr} {o : HO} (x : ObjOk P w H h a o) : ∃ ob, h.get? a = some ob := by
  induction o with
  | lst xs =>
    obtain ⟨_, _, _, _, e⟩ := x
    exact ⟨_, e⟩
  | tup xs =>
    obtain ⟨_, _, _, o, e, _⟩ := x
    exact ⟨_, e⟩
  | dK kvs =>
    obtain ⟨_, _, _, _, o, _, _, e, _⟩ := x
    exact ⟨_, e⟩
  | dT kvs =>
    obtain ⟨_, _, _, _, o, _, _, e, _⟩ := x
    exact ⟨_, e⟩
  | set S n =>
    obtain ⟨o, _, _, _, e, _⟩ := x
    exact ⟨_, e⟩
  | ins C dx fs =>
    obtain ⟨_, _, _, e, _⟩ := x
    exact ⟨_, e⟩
  | own _ => exact x
  | xd fs =>
    obtain ⟨mA, ⟨o, _, _, e, _⟩, _⟩ := x
    exact ⟨_, e⟩
  | rng lo hi =>
    obtain ⟨_, _, _, e⟩ := x
    exact ⟨_, e⟩
  | frz ob u _ => exact ⟨_, x.1⟩
  | tbl ps => exact ⟨_, x⟩
  | met f y => exact ⟨_, x⟩
  | ext φ => exact x.2.1
/-- what the call made is forgotten -/
theorem forget (I : Inv X pins σ H s) (os : s'.os = s.os) (bare : AllBare s'.gens) (un : Un (frs X.stack) [] (dropT H) H' s.heap s'.heap) (hok : HOk X.prog X.w H' s'.heap) (e : ∀ a o, dropT H a = some o → H' a = some o) : Inv X pins σ H s' := by
  refine I.call' (ch := []) os ⟨fun b o q n hf hx => un.keep b o q (drop_none n) hf hx, fun b o q n hf hx => un.slot b o q (drop_none n) hf hx, fun _ _ _ n _ => n, fun b o q hx => un.there b o q hx, fun _ _ q => q, fun _ _ _ q => q, fun b ps q => ⟨#[], by rw [q]; simp⟩⟩ (fun a o h => ?_) bare fun b z => absurd z (by simp)
  by_cases n : noT o = true
  · exact obj_less o n (I.hok a o h) (hok a o (e a o (drop_some h n)))
  · have n2 : noT o = false := by simpa using n
    have d : dropT H a = none := by
      unfold dropT
      rw [h]
      exact if_neg n
    refine obj_at (fun v hv => un.keep a v hv d (fun z => ?_) (by simp)) o n2 (I.hok a o h)
    rw [I.stkFree a z] at h
    cases h
/-- two things of ours have turned -/
theorem moved (I : Inv X pins σ H s) {S it : Addr} (fS : FpOk X pins H S) (fi : FpOk X pins H it) (m : Moved [S, it] (fun a b => b = a) s s') : Inv X pins σ H s' := by
  have ap : ∀ b u, H b = some u → b ∉ [S, it] := fun b u e z => by
    rcases List.mem_cons.mp z with z | z
    · rw [z, fS.1] at e
      cases e
    · rw [List.mem_singleton.mp z, fi.1] at e
      cases e
  have k : ∀ b o, b ∉ [S, it] → s.heap.get? b = some o → s'.heap.get? b = some o := m.heap
  refine I.call' (ch := [S, it]) m.os ⟨fun b o q _ _ hx => k b o hx q, fun b o q _ _ hx => ⟨o.slots, k b o hx q⟩, fun _ _ _ n _ => n, fun b o q hx => ⟨o, k b o hx q⟩, fun _ _ q => q, fun _ _ _ q => q, fun b ps q => ⟨#[], by rw [q]; simp⟩⟩
    (fun b u e => (I.hok b u e).stay (fun c v hc q => k c v ?_ q) (fun _ q => q) fun _ _ q => q) (by rw [show s'.gens = s.gens from m.gens]; exact I.bare) (fun b hb => ?_)
  · rcases hc with z | z
    · rw [z]
      exact ap b u e
    · exact ap c _ z
  · have g : FpOk X pins H b := by
      rcases List.mem_cons.mp hb with z | z
      · exact z ▸ fS
      · exact (List.mem_singleton.mp z) ▸ fi
    exact ⟨g.2.2.2.1, g.2.1, g.2.2.2.2.1, g.2.2.2.2.2⟩
end
/-! the walk of a list whose items are known as far as our values tell -/
section
variable {X : Cx} {pins : List (Addr × Obj)} {σ : L2.St} {H : Hp}
def ItemAt (xs : List V) (i : Nat) (v : Value) : Prop := ∃ x, xs[i]? = some x ∧ RelV x v
def ListAt (xs : List V) (it l : Addr) (i : Nat) (s : Shared) : Prop := s.heap.IsListIter it l i ∧ ∃ its : List Value, Vals xs its ∧ s.heap.IsList l its.toArray
theorem vals_at {xs : List V} {its : List Value} (r : Vals xs its) {i : Nat} {v : Value} (h : its[i]? = some v) : ItemAt xs i v := by
  induction r generalizing i with
  | nil => cases h
  | @cons x u a b e t ih =>
    cases i with
    | zero =>
      cases h
      exact ⟨x, rfl, e⟩
    | succ i => exact ih (i := i) h
theorem walk {P : Program} {w : World} {A : Around} (hh : A.handled = none) (it l : Addr) (hne : l ≠ it) (xs : List V) : WalksS P w A it [it, l] [it] (fun a b => b = a) xs.length (ItemAt xs) (ListAt xs it l) where
  sub := fun b hb => by rw [List.mem_singleton.mp hb]; exact List.mem_cons_self
  grefl := fun _ => rfl
  gtrans := fun _ _ _ h1 h2 => h2.trans h1
  frame := fun i s h' tk st ht hk => by
    obtain ⟨st, its, r, hl⟩ := st
    obtain ⟨z1, z2⟩ := (Walks.list (prog := P) (w := w) hh it l hne its.toArray).toS.frame i s h' tk ⟨st, hl⟩ ht hk
    exact ⟨z1, its, r, z2⟩
  item := fun i s Q E hi st hQ => by
    obtain ⟨st, its, r, hl⟩ := st
    refine (Walks.list hh it l hne its.toArray).toS.item i s Q E (by rw [List.size_toArray, ← r.length]; exact hi) ⟨st, hl⟩ fun v s' hP st' hm => hQ v s' (vals_at r (by simpa using hP)) ⟨st'.1, its, r, st'.2⟩ hm
  done := fun s Q E st hQ => by
    obtain ⟨st, its, r, hl⟩ := st
    have e : its.toArray.size = xs.length := by rw [List.size_toArray, ← r.length]
    exact (Walks.list hh it l hne its.toArray).toS.done s Q E ⟨by rw [e]; exact st, hl⟩ hQ
  self := fun i s Q E st q => by
    obtain ⟨st, its, r, hl⟩ := st
    exact (Walks.list hh it l hne its.toArray).toS.self i s Q E ⟨st, hl⟩ q
end
end MK
/-! the rule -/
namespace MK
open PySem PySem.Spec PyProof.Rows L2
section
variable {X : Cx} {pins : List (Addr × Obj)} {σ : L2.St} {H : Hp} {β : Type} [DecidableEq β] [PySem.W.DatumOrd β]
/-- the i-th answer of the key: a tuple of a number and a thing -/
def Ans (X : Cx) (H : Hp) (S it : Addr) (kn : Nat → Int) (kv : Nat → V) (i : Nat) (k : Value) (s : Shared) : Prop :=
  ∃ a t u, k = .ref a ∧ H a = none ∧ a ∉ frs X.stack ∧ a ∉ [S, it] ∧ RelV (kv i) u ∧ IsTup s.heap a #[.int (kn i) t, u]
def lessB (kn : Nat → Int) (kb : Nat → β) (i j : Nat) : Bool := PySem.W.DatumOrd.lt (kn i, kb i) (kn j, kb j)
/-- what is asked of the key at one item -/
def KeyTo (sp : Sp) (H : Hp) (x : V) (n : Int) (z : V) : Prop := sp [x] (dropT H) (fun v H' => ∃ a, v = .ref a ∧ dropT H a = none ∧ H' a = some (.tup [.int n, z]) ∧ ∀ b o, dropT H b = some o → H' b = some o) E0
theorem key_run {n : Nat} {f : Addr} {fd : FuncData} {ps : List Str} {sp : Sp} {xs : List V} {l S it : Addr} {kn : Nat → Int} {kv : Nat → V} {kb : Nat → β} (F : FnOk X.prog X.w X.K X.mg X.base CX0 n f fd ps sp) (hb : Binds X.K fd ps []) (hr : Room (n + 1) X.A)
    (hu : X.A.units + 2 + PySem.W.Datum.depth (Int × β) < cLine) (hl : SqL X.K H l xs) (fS : FpOk X pins H S) (fi : FpOk X pins H it) (hSi : S ≠ it)
    (hk : ∀ i x, xs[i]? = some x → KeyTo sp H x (kn i) (kv i)) (hd : ∀ i s u, i < xs.length → Inv X pins σ H s → RelV (kv i) u → PySem.W.Holds s.heap u (kb i)) :
    KeyRun X.prog X.w X.A.in1 (.ref f) .Lt S [it] (fun a b => b = a) xs.length (ItemAt xs) (ListAt xs it l) (fun s => Inv X pins σ H s) (fun i k s => i < xs.length ∧ Ans X H S it kn kv i k s) (lessB kn kb) where
  keep := fun s s' I m => moved I fS fi m
  keepV := fun i k s s' ⟨hi, a, t, u, e1, e2, e3, e4, e5, o, e6, e7⟩ m => ⟨hi, a, t, u, e1, e2, e3, e4, e5, o, m.heap a o e4 e6, e7⟩
  turn := fun i v s o Q E hi ⟨x, hx, rx⟩ I st hS q => by
    refine wpAny_mono (ce_call (E := E) F hb hr.in1 (by rfl) I (.cons rx .nil) (hk i x hx)) (fun u s' ⟨v', H', os, bare, un, hok, rv, a, ev, ha, ha', e⟩ => ?_) fun _ _ z => z
    have I' : Inv X pins σ H s' := forget I os bare un hok e
    have free : ∀ b o, s.heap.get? b = some o → H' a = some (.tup [.int (kn i), kv i]) → H b = none → b ≠ a := fun b o eb _ nb z => by
      rw [z] at eb nb
      rw [un.free a o eb (drop_none nb) (by simp)] at ha'
      cases ha'
    have haH : H a = none := by
      cases c : H a with
      | none => rfl
      | some o' =>
        obtain ⟨ob, eb⟩ := obj_there (I.hok a o' c)
        rw [un.free a ob eb ha (by simp)] at ha'
        cases ha'
    have nf : ∀ {b : Addr}, FpOk X pins H b → b ∉ frs X.stack := fun g z => (List.mem_cons.mp (I.stkSub _ z)).elim g.2.1 g.2.2.1
    obtain ⟨li, its, r, hil⟩ := st
    subst ev
    obtain rfl : u = Value.ref a := rv
    obtain ⟨_, its2, r2, t2⟩ := (hok a _ ha' : ObjOk X.prog X.w H' s'.heap a (.tup [.int (kn i), kv i]))
    obtain ⟨its', r', p', _⟩ := I'.list hl
    have si : ∃ oi, s.heap.get? it = some oi := by
      obtain ⟨oi, e1, _⟩ := li
      exact ⟨oi, e1⟩
    obtain ⟨oi, ei⟩ := si
    refine q _ s' I' ⟨li.at fun o2 e2 => un.keep it o2 e2 (drop_none fi.1) (nf fi) (by simp), its', r', p'.isList⟩ (un.keep S o hS (drop_none fS.1) (nf fS) (by simp)) ⟨hi, ?_⟩ ?_
    · cases r2 with
      | cons c1 r2 =>
        cases r2 with
        | cons c2 r2 =>
          cases r2
          obtain ⟨tk, rfl⟩ := c1
          refine ⟨a, tk, _, rfl, haH, fun z => ?_, fun z => ?_, c2, t2⟩
          · obtain ⟨_, ob, eb, _⟩ := I.env0.funs.mem z
            exact free a ob eb ha' haH rfl
          · rcases List.mem_cons.mp z with z | z
            · exact free S o hS ha' fS.1 z.symm
            · exact free it oi ei ha' fi.1 (List.mem_singleton.mp z).symm
    · rintro j k' ⟨hj, b, t, u, e1, e2, e3, e4, e5, ob, e6, e7⟩
      exact ⟨hj, b, t, u, e1, e2, e3, e4, e5, ob, un.keep b ob e6 (drop_none e2) e3 (by simp), e7⟩
  cmp := fun i j ki kj s Q E I ⟨hi, a, t, u, e1, _, _, _, e5, e6⟩ ⟨hj, a2, t2, u2, d1, _, _, _, d5, d6⟩ q => by
    subst e1
    subst d1
    obtain ⟨as, ra⟩ := PySem.W.holds_pair e6 (PySem.W.holds_int (kn i) t) (hd i s u hi I e5)
    obtain ⟨bs, rb⟩ := PySem.W.holds_pair d6 (PySem.W.holds_int (kn j) t2) (hd j s u2 hj I d5)
    refine PySem.W.rcLt_alike _ _ X.A.in1 s _ _ as bs ra rb (PySem.W.DatumOrd.alike (kn i, kb i) (kn j, kb j)) (PySem.W.DatumOrd.notNone (kn i, kb i)) ?_ X.prog X.w E Q ?_
    · have := PySem.W.Datum.depth_le (kn i, kb i)
      have h2 := Nat.min_le_left (PySem.W.Datum.toD (kn i, kb i)).depth (PySem.W.Datum.toD (kn j, kb j)).depth
      show X.A.units + 1 + _ < _
      omega
    · rw [PySem.W.DatumOrd.lt_eq]
      exact q
/-- min(l, key=f): D says what the second thing of a key is -/
def rMinKey (K : PySem.W.Frag) (sp : Sp) (D : Hp → V → β → Prop) : V → Hp → VK → Prop := fun v H Q => ∃ (l : Addr) (xs : List V) (kn : Nat → Int) (kv : Nat → V) (kb : Nat → β), v = .ref l ∧ SqL K H l xs ∧ 0 < xs.length ∧
  (∀ i x, xs[i]? = some x → KeyTo sp H x (kn i) (kv i) ∧ D H (kv i) (kb i)) ∧ ∀ x, xs[PySem.argBest (lessB kn kb) (xs.length - 1)]? = some x → Q x H
theorem call_minKey {n : Nat} {f : Addr} {fd : FuncData} {ps : List Str} {sp : Sp} {D : Hp → V → β → Prop} (F : FnOk X.prog X.w X.K X.mg X.base CX0 n f fd ps sp) (hb : Binds X.K fd ps []) (hr : Room (n + 1) X.A) (hc : X.calm = true) (hu : X.A.units + 2 + PySem.W.Datum.depth (Int × β) < cLine)
    (hD : ∀ (pins : List (Addr × Obj)) (σ : L2.St) (H : Hp) (s : Shared) (z : V) (b : β) (u : Value), Inv X pins σ H s → D H z b → RelV z u → PySem.W.Holds s.heap u b) :
    CallRK X (.builtin "min") ["key"] (fun vs zs H Q => ∃ v, vs = [v] ∧ zs = [.ref f] ∧ rMinKey X.K sp D v H Q) := by
  intro pins s σ H vs zs us ws Q I rv rz h
  obtain ⟨v0, ev, ez, l, xs, kn, kv, kb, el, hl, h0, hk, q⟩ := h
  subst ev
  subst ez
  subst el
  rw [Vals.ref1 rv, Vals.ref1 rz]
  obtain ⟨its, r, p, _⟩ := I.list hl
  have hlen : its.toArray.size = xs.length := by rw [List.size_toArray, ← r.length]
  have lt : l < s.heap.objs.size := by
    obtain ⟨_, e, _⟩ := p.isList
    exact Heap.lt_size e
  refine call_min_walkK (A := X.A) (PySem.W.iter_listW (A := X.A.in1) (I.ok.hd hc) p.isList fun s2 e2 _ st hfp _ hkp => ?_)
  have hz2 : s2.heap.objs.size = s.heap.objs.size + 1 := by
    rw [e2]
    exact Heap.size_push ..
  have fi : FpOk X pins H s.heap.objs.size := I.fpOk (Nat.le_refl _) (I.hok.fresh (Nat.le_refl _))
  have fS : FpOk X pins H s2.heap.objs.size := I.fpOk (by rw [hz2]; omega) (I.hok.fresh (by rw [hz2]; omega))
  refine ⟨s.heap.objs.size, [s.heap.objs.size, l], [s.heap.objs.size], _, xs.length, ItemAt xs, ListAt xs s.heap.objs.size l, _, _, lessB kn kb, rfl, walk (A := X.A.in1) (I.ok.hd hc) _ l (Nat.ne_of_lt lt) xs, ⟨st.1, its, r, st.2⟩, hfp, h0,
    key_run (σ := σ) F hb hr hu hl fS fi (by rw [hz2]; exact Nat.succ_ne_self _) (fun i x e => (hk i x e).1) (fun i s u hi I' ru => ?_), ?_, fun v s' hP I' => ?_⟩
  · exact hD _ _ _ _ _ _ _ I' (hk i xs[i] (by simp [hi])).2 ru
  · have e3 : s2 = { s with heap := s2.heap, toks := s.toks } := by rw [e2]
    rw [e3]
    exact I.kept hkp
  · obtain ⟨x, hx, rx⟩ := hP
    exact ⟨x, H, I', rx, q x hx⟩
def tMinKey (K : PySem.W.Frag) (sp : Sp) (D : Hp → V → β → Prop) (te : TE) : TE := fun σ H Q => te σ H fun v H1 => rMinKey K sp D v H1 Q
/-- the call with its key named -/
theorem pe_minKey {k : Nat} {f : Addr} {fd : FuncData} {ps : List Str} {fx : Str} {sp : Sp} {D : Hp → V → β → Prop} {e : Expr} {te : TE} {p p2 kpos pos : Pos} (F : FnOk X.prog X.w X.K X.mg X.base CX0 k f fd ps sp) (hmf : X.mg fx = some (.ref f)) (hb : Binds X.K fd ps []) (hr : Room (k + 1) X.A) (hc : X.calm = true) (hu : X.A.units + 2 + PySem.W.Datum.depth (Int × β) < cLine)
    (hD : ∀ (pins : List (Addr × Obj)) (σ : L2.St) (H : Hp) (s : Shared) (z : V) (b : β) (u : Value), Inv X pins σ H s → D H z b → RelV z u → PySem.W.Holds s.heap u b)
    (hg : Gl X "min") (hm : X.mg "min" = none) (hgf : Gl X fx) (he : PE X e te) (hdf : (fx == ("__debug__" : Str)) = false := by decide)
    (h0 : starEach [e] X.env = (false, eval e X.env) :: starEach [] X.env := by rfl) (h1 : backTo pos (starEach [e] X.env) = (false, eval e X.env) :: backTo pos (starEach [] X.env) := by rfl) (h2 : (backTo pos (starEach [e] X.env)).any (·.1) = false := by rfl)
    (h3 : (backToKw pos (keywordEach [⟨some "key", .Name fx p2, kpos⟩] X.env)).all (·.1.isSome) = true := by rfl) (h4 : (backToKw pos (keywordEach [⟨some "key", .Name fx p2, kpos⟩] X.env)).any (·.1.isNone) = false := by rfl) (h5 : (backToKw pos (keywordEach [⟨some "key", .Name fx p2, kpos⟩] X.env)).filterMap (·.1) = (["key"] : List Str) := by rfl) :
    PE X (.Call (.Name "min" p) [e] [⟨some "key", .Name fx p2, kpos⟩] pos) (tMinKey X.K sp D te) := by
  refine ⟨fun pins s σ H Q I h => ?_⟩
  have e1 : (fun (v : V) (H1 : Hp) => ∃ v', [v] = [v'] ∧ ([V.ref f] : List V) = [.ref f] ∧ rMinKey X.K sp D v' H1 Q) = fun v H1 => rMinKey X.K sp D v H1 Q := by
    funext v H1
    refine propext ⟨fun ⟨v', e, _, q⟩ => ?_, fun q => ⟨v, rfl, rfl, q⟩⟩
    injection e with e
    subst e
    exact q
  refine (pe_callBK (call_minKey F hb hr hc hu hD) hg hm rfl (pa_cons he pa_nil h0) (pk_cons (pe_glob (v := .ref f) hgf hmf rfl hdf) pk_nil) (he := h1) (hpl := h2) (hall := h3) (hnone := h4) (hks := h5)).run pins s σ H Q I ?_
  show te σ H (fun v H1 => ∃ v', [v] = [v'] ∧ ([V.ref f] : List V) = [.ref f] ∧ rMinKey X.K sp D v' H1 Q)
  rw [e1]
  exact h
end
end MK
/-! rows as what a key's second thing is; the def by its promise -/
namespace MK
open PySem PySem.Spec PyProof.Rows L2
def RowD (K : PySem.W.Frag) (H : Hp) (z : V) (b : List Int) : Prop := ∃ r, z = .ref r ∧ SqL K H r (b.map V.int)
theorem rowD_holds {X : Cx} (pins : List (Addr × Obj)) (σ : L2.St) (H : Hp) (s : Shared) (z : V) (b : List Int) (u : Value) (I : Inv X pins σ H s) (d : RowD X.K H z b) (ru : RelV z u) : PySem.W.Holds s.heap u b := by
  obtain ⟨r, rfl, h⟩ := d
  obtain rfl : u = Value.ref r := ru
  obtain ⟨its, ri, p, _⟩ := I.list h
  exact PySem.W.holds_list p.isList (by simpa using ND.nums_hold ri)
end MK
theorem pe_minC {X : Cx} {k : Nat} {ps : List Str} {fx : Str} {sp : Sp} {e : Expr} {te : TE} {p p2 kpos pos : Pos} (C : CF X.prog X.w X.K X.mg X.base k fx ps sp) (hr : Room (k + 1) X.A) (hc : X.calm = true) (hu : X.A.units + 9 < cLine) (hg : Gl X "min") (hm : X.mg "min" = none) (hgf : Gl X fx) (he : PE X e te) (hdf : (fx == ("__debug__" : Str)) = false := by decide)
    (h0 : starEach [e] X.env = (false, eval e X.env) :: starEach [] X.env := by rfl) (h1 : backTo pos (starEach [e] X.env) = (false, eval e X.env) :: backTo pos (starEach [] X.env) := by rfl) (h2 : (backTo pos (starEach [e] X.env)).any (·.1) = false := by rfl)
    (h3 : (backToKw pos (keywordEach [⟨some "key", .Name fx p2, kpos⟩] X.env)).all (·.1.isSome) = true := by rfl) (h4 : (backToKw pos (keywordEach [⟨some "key", .Name fx p2, kpos⟩] X.env)).any (·.1.isNone) = false := by rfl) (h5 : (backToKw pos (keywordEach [⟨some "key", .Name fx p2, kpos⟩] X.env)).filterMap (·.1) = (["key"] : List Str) := by rfl) :
    PE X (.Call (.Name "min" p) [e] [⟨some "key", .Name fx p2, kpos⟩] pos) (MK.tMinKey X.K sp (MK.RowD X.K) te) := by
  obtain ⟨f, fd, F, g, _, b⟩ := C.ex
  exact MK.pe_minKey F g b hr hc (by show X.A.units + 2 + 2 < cLine; omega) MK.rowD_holds hg hm hgf he hdf h0 h1 h2 h3 h4 h5
theorem hu9_of {n : Nat} (h : n + 64 < cLine) : n + 9 < cLine := by omega
theorem hu20_of {n : Nat} (h : n + 64 < cLine) : n + 20 < cLine := by omega
theorem kk_nget (P : Program) (w : World) (K : PySem.W.Frag) {X : Cx} {o i : Expr} {td ty : TE} {pos : Pos} (hu : X.A.units + 9 < cLine) (ho : PE X o td) (hi : PE X i ty) (hs : NoSl i) (h1 : X.prog = P := by rfl) (h2 : X.w = w := by rfl) (h3 : X.K = K := by rfl) : PE X (.Subscript o i pos) (ND.tNGet P w K td ty) := by
  subst h1 h2 h3
  exact ND.pe_nget hu ho hi hs
/-! ### == and != by a class's own __eq__, whatever it says; a list of such; repr, str and {x!s} by own defs -/
namespace OEQ
open PySem PySem.Spec PyProof.Rows L2 PySem.SeqAt
/-- what == and != ask of the class at C, whose __eq__ is at f -/
structure OEq (K : PySem.W.Frag) (C f : Addr) : Prop where
  at_ : PySem.W.findIn K (.ref C) "__eq__" = some (some (.ref f))
  fn : PySem.W.isFn K (.ref f) = true
  ne : PySem.W.findIn K (.ref C) "__ne__" = some (some (.builtin "object.__ne__"))
  ob : PySem.W.mroIn K C (.type "object") = some true
  tys : ∀ T ∈ (["int", "bool", "str", "NoneType", "list", "tuple"] : List String), PySem.W.subIn K (.ref C) (.type T) = some false ∧ PySem.W.subIn K (.type T) (.ref C) = some false
/-- what the other one is -/
inductive TyV (K : PySem.W.Frag) (C : Addr) (H : Hp) : V → Value → Prop
  | int (i : Int) : TyV K C H (.int i) (.type "int")
  | bl (b : Bool) : TyV K C H (.bl b) (.type "bool")
  | str (x : Str) : TyV K C H (.str x) (.type "str")
  | non : TyV K C H .non (.type "NoneType")
  | lst {a : Addr} {xs : List V} (h : SqL K H a xs) : TyV K C H (.ref a) (.type "list")
  | tup {a : Addr} {xs : List V} (h : SqT K H a xs) : TyV K C H (.ref a) (.type "tuple")
  | ins {a dx : Addr} {fs : List (Str × V)} (h : H a = some (.ins C dx fs)) : TyV K C H (.ref a) (.ref C)
section
variable {X : Cx} {pins : List (Addr × Obj)} {σ : L2.St} {H : Hp} {s : Shared} {C f a dx : Addr} {fs : List (Str × V)} {y : V} {u tv : Value} {n : Nat} {fd : FuncData} {ps : List Str} {sp : Sp} {A : Around}
theorem looks_ref {M : Model} {h : Heap} {a : Addr} {o : Obj} (e : h.get? a = some o) : PySem.W.Looks M h (typeOf (.ref a)) o.cls := (PySem.W.Looks.ld (part := some headPart) e).andThen PySem.W.Looks.now
theorem TyV.looks {M : Model} (I : Inv X pins σ H s) (t : TyV X.K C H y tv) (r : RelV y u) : PySem.W.Looks M s.heap (typeOf u) tv := by
  cases t with
  | int i => obtain ⟨t, rfl⟩ := (show ∃ t, u = Value.int i t from r); exact PySem.W.Looks.now
  | bl b => cases (show u = Value.bool b from r); exact PySem.W.Looks.now
  | str x => obtain ⟨t, rfl⟩ := (show ∃ t, u = Value.str x t from r); exact PySem.W.Looks.now
  | non => cases (show u = Value.none from r); exact PySem.W.Looks.now
  | lst h =>
    cases (show u = Value.ref _ from r)
    obtain ⟨its, rv, ⟨o, m, ho, hc, _⟩, _⟩ := I.list h
    exact hc ▸ looks_ref ho
  | tup h =>
    cases (show u = Value.ref _ from r)
    obtain ⟨its, rv, ⟨o, ho, hc, _⟩, _⟩ := I.tuple h
    exact hc ▸ looks_ref ho
  | ins h =>
    cases (show u = Value.ref _ from r)
    obtain ⟨mA, J, _⟩ := ins_get I.hok h
    obtain ⟨od, J, _⟩ := J.look
    exact J.type
theorem TyV.not_first (O : OEq X.K C f) (t : TyV X.K C H y tv) : PySem.W.notFirst X.K C tv = true := by
  cases t <;> first | (simp [PySem.W.notFirst]; done) | exact Bool.or_eq_true_iff.mpr (.inr (beq_iff_eq.mpr (O.tys _ (by decide)).2))
theorem TyV.back (O : OEq X.K C f) (t : TyV X.K C H y tv) (hne : tv ≠ .ref C) : PySem.W.subIn X.K (.ref C) tv = some false := by
  cases t <;> first | exact absurd rfl hne | exact (O.tys _ (by decide)).1
/-- the own __eq__ is called -/
theorem own_call (F : FnOk X.prog X.w X.K X.mg X.base CX0 n f fd ps sp) (hb : Binds X.K fd ps []) (sb : Sub X n A) (I : Inv X pins σ H s) (ry : RelV y u) {Q : VK} (q : sp [.ref a, y] H Q E0) :
    wpAny (model X.prog X.w) A (call (.ref f) [.ref a, u]) (EP X pins σ Q) X.xe s := by
  have e0 : Env0 X.prog X.w X.K X.mg X.base A X.stack s H := by
    have e := I.env0
    exact ⟨by rw [sb.fr]; exact e.frames, e.mod, e.bs, e.bsz, e.funs, e.frf, e.hok, e.bare⟩
  have hl := F.len _ _ _ _ q
  have r2 : Vals [V.ref a, y] [Value.ref a, u] := .cons rfl (.cons ry .nil)
  refine wpAny_call (codeAny_mono (F.run A X.stack s H ⟨[.ref a, u], []⟩ [.ref a, u] [.ref a, y] _ E0 sb.room e0 (by
    have := hb s [.ref a, u] I.kIn (by simpa using hl)
    simpa using this) r2 q) fun r s' hq => ?_)
  cases r with
  | error e => exact pass0 pins σ H s e s' I hq
  | ok fl =>
    cases fl with
    | ret w =>
      obtain ⟨z, H', I', rz, q⟩ := I.after hq
      exact ⟨z, H', I', rz, q⟩
    | next => exact False.elim hq
    | brk => exact False.elim hq
    | cont => exact False.elim hq
/-- x == y, x such an instance -/
theorem rc_own (O : OEq X.K C f) (F : FnOk X.prog X.w X.K X.mg X.base CX0 n f fd ps sp) (hb : Binds X.K fd ps []) (sb : Sub X n A) (I : Inv X pins σ H s) (ha : H a = some (.ins C dx fs)) (ty : TyV X.K C H y tv) (ry : RelV y u)
    {Q : Bool → Hp → Prop} (q : sp [.ref a, y] H (fun v H' => ∃ b, v = .bl b ∧ Q b H') E0) :
    wpAny (model X.prog X.w) A (richCompare .Eq (.ref a) u) (fun v s' => ∃ b, v = .bool b ∧ ∃ H', Inv X pins σ H' s' ∧ Q b H') X.xe s := by
  obtain ⟨mA, J, _⟩ := ins_get I.hok ha
  obtain ⟨od, J, _⟩ := J.look
  obtain ⟨m, hF⟩ := I.fr
  refine PySem.W.cmp_K (op := .Eq) (tb := tv) sb.room.units0 hF I.ok.mod.kin J (ty.looks I ry) (ty.not_first O) O.at_ O.fn ?_
  refine wpAny_mono (own_call F hb sb I ry q) (fun v s' h => ?_) fun _ _ x => x
  obtain ⟨z, H', I', rz, b, rfl, q⟩ := h
  cases (show v = Value.bool b from rz)
  exact ⟨b, rfl, H', I', q⟩
/-- x != y, x such an instance -/
theorem rc_ownNe (O : OEq X.K C f) (F : FnOk X.prog X.w X.K X.mg X.base CX0 n f fd ps sp) (hb : Binds X.K fd ps []) (sb : Sub X (n + 1) A) (I : Inv X pins σ H s) (ha : H a = some (.ins C dx fs)) (ty : TyV X.K C H y tv) (ry : RelV y u)
    {Q : Bool → Hp → Prop} (q : sp [.ref a, y] H (fun v H' => ∃ b, v = .bl b ∧ Q (!b) H') E0) :
    wpAny (model X.prog X.w) A (richCompare .NotEq (.ref a) u) (fun v s' => ∃ b, v = .bool b ∧ ∃ H', Inv X pins σ H' s' ∧ Q b H') X.xe s := by
  obtain ⟨mA, J, _⟩ := ins_get I.hok ha
  obtain ⟨od, J, _⟩ := J.look
  have hK := I.kIn
  have bindB : ∀ {M : Model} {A : Around} {E : Value → Shared → Prop} {args : List Value} {R : Option Value → Shared → Prop}, wpAny M A (call (.builtin "object.__ne__") (.ref a :: args)) (fun v => R (some v)) E s → wpAny M A (callSpecialIfBound? (.ref a) "__ne__" args) R E s := fun {M A E args R} h => by
    simp only [callSpecialIfBound?, bindSpecialIfBound?]
    refine wpAny_holding (wpAny_bind (wpAny_bind (wpAny_bind (J.type.here ((PySem.W.looks_findIn hK O.ne).here ?_)))))
    refine wpAny_bind (wpAny_askSetting (wpAny_ite ?_))
    have fin : wpAny M A (call (.builtin "object.__ne__") ([.ref a] ++ args) >>= fun v => pure (some v)) R E s := wpAny_bind (wpAny_mono h (fun v s' h' => wpAny_pure h') fun _ _ h' => h')
    split
    · exact wpAny_bind ((PySem.W.Looks.of_pure (PySem.F.cmp_object.ne.bind _)).here (wpAny_pure (by exact fin)))
    · exact wpAny_tryCatch (wpAny_bind ((PySem.W.Looks.of_pure (PySem.F.cmp_object.ne.bind _)).here (wpAny_pure (by exact fin))))
  have one : wpAny (model X.prog X.w) A (tryCompare (.ref a) "__ne__" u) (fun r s' => ∃ v, r = some v ∧ ∃ b, v = Value.bool b ∧ ∃ H', Inv X pins σ H' s' ∧ Q b H') X.xe s := by
    unfold tryCompare
    refine wpAny_bind (bindB (wpAny_call (codeAny_call_builtin PySem.F.cmp_object.ne.plain PySem.F.cmpEntry_ne (PySem.W.check_slot PySem.F.cmpKind_ne PySem.F.cmpSplit_ne (J.type.andThen (PySem.W.looks_mroIn hK O.ob)) (PySem.F.cmpArgs_ne _ _) ?_))))
    unfold Builtin.«object.__ne__»
    refine wpAny_bind (m := PySem.slotArgs "__ne__" 1 _) (wpAny_pure ?_)
    refine wpAny_bind (m := cRoomFor _ _) (wpAny_cRoomFor sb.in1.room.units0 ?_)
    refine wpAny_bind (m := callSpecialIfBound? (.ref a) (Str.ofString "__eq__") [u]) (PySem.W.ifBound_K hK J O.at_ O.fn (wpAny_mono (own_call F hb sb.in1 I ry q) (fun v s' h => ?_) fun _ _ x => x))
    obtain ⟨z, H', I', rz, b, rfl, q⟩ := h
    cases (show v = Value.bool b from rz)
    refine wpAny_bind (m := truthy (.bool b)) (wpAny_truthy_bool ?_)
    exact wpAny_pure (wpAny_pure ⟨_, rfl, !b, rfl, H', I', q⟩)
  unfold richCompare
  simp only [oneThing_ref]
  refine wpAny_holding (wpAny_bind (wpAny_cRoomFor sb.room.units0 ?_))
  rw [cmpInfo_NotEq]
  dsimp only
  refine wpAny_bind (J.type.here (wpAny_bind ((ty.looks I ry).here ?_)))
  have fin : wpAny (model X.prog X.w) A (tryCompare (.ref a) "__ne__" u) (fun r s' => ∃ v, r = some v ∧ ∃ b, v = Value.bool b ∧ ∃ H', Inv X pins σ H' s' ∧ Q b H') X.xe s := one
  split
  · rename_i q'
    have e : PySem.W.subIn X.K tv (.ref C) = some false := by
      rcases Bool.or_eq_true_iff.mp (ty.not_first O) with e | e
      · rw [beq_iff_eq.mp e] at q'; simp at q'
      · exact beq_iff_eq.mp e
    refine wpAny_bind ((PySem.W.looks_subIn hK e).here ?_)
    simp only [Bool.false_eq_true, if_false]
    refine wpAny_bind (wpAny_mono fin (fun r s' z => ?_) fun _ _ e => e)
    obtain ⟨v, rfl, hq⟩ := z
    exact wpAny_pure hq
  · refine wpAny_bind (wpAny_pure ?_)
    simp only [Bool.false_eq_true, if_false]
    refine wpAny_bind (wpAny_mono fin (fun r s' z => ?_) fun _ _ e => e)
    obtain ⟨v, rfl, hq⟩ := z
    exact wpAny_pure hq
end
/-! ### == of other kinds and such an instance: its __eq__ is asked second -/
section
variable {M : Model} {A : Around} {E : Value → Shared → Prop} {s : Shared}
theorem int_declines_ins (b : Int) (u : Tok) (l : Addr) (o : Obj) (hd : o.data = .plain) :
    Meets (Builtin.«int.__eq__» ⟨[.int b u, .ref l], []⟩) (fun _ R s => s.heap.get? l = some o ∧ R (.ok (.ret .notImplemented)) s) :=
  .of_wp fun prog w A R s h => by obtain ⟨hp, g, d, tk, os⟩ := s; obtain ⟨hl, h⟩ := h; obtain ⟨oc, od, oda, osl⟩ := o; cases hd; wp_walk using PySem.AutoSeq1.wpAny_loadPart' hl, wpAny_load hl; exact ⟨_, rfl, h⟩
theorem bool_declines_ins (b : Bool) (l : Addr) (o : Obj) (hd : o.data = .plain) :
    Meets (Builtin.«int.__eq__» ⟨[.bool b, .ref l], []⟩) (fun _ R s => s.heap.get? l = some o ∧ R (.ok (.ret .notImplemented)) s) :=
  .of_wp fun prog w A R s h => by obtain ⟨hp, g, d, tk, os⟩ := s; obtain ⟨hl, h⟩ := h; obtain ⟨oc, od, oda, osl⟩ := o; cases hd; wp_walk using PySem.AutoSeq1.wpAny_loadPart' hl, wpAny_load hl; exact ⟨_, rfl, h⟩
theorem str_declines_ins (b : Str) (u : Tok) (l : Addr) (o : Obj) (hd : o.data = .plain) :
    Meets (Builtin.«str.__eq__» ⟨[.str b u, .ref l], []⟩) (fun _ R s => s.heap.get? l = some o ∧ R (.ok (.ret .notImplemented)) s) :=
  .of_wp fun prog w A R s h => by obtain ⟨hp, g, d, tk, os⟩ := s; obtain ⟨hl, h⟩ := h; obtain ⟨oc, od, oda, osl⟩ := o; cases hd; wp_walk using PySem.AutoSeq1.wpAny_loadPart' hl, wpAny_load hl; exact ⟨_, rfl, h⟩
theorem list_declines_ins (l b : Addr) (items : Array Value) (n : Nat) (dd : Option Addr) (sl : Array (Option Value)) :
    Meets (Builtin.«list.__eq__» ⟨[.ref l, .ref b], []⟩) (fun _ R s => s.heap.get? l = some { cls := .type "list", dict := dd, data := .seq items n, slots := sl } ∧ (∀ (M : Model) (A : Around) (E : Value → Shared → Prop) (Q : Bool → Shared → Prop), Q false s → wpAny M A (isInstance (.ref b) (.type "list")) Q E s) ∧ R (.ok (.ret .notImplemented)) s) :=
  .of_wp fun prog w A R s h => by
    obtain ⟨hp, g, d, tk, os⟩ := s
    obtain ⟨hl, hi, h⟩ := h
    wp_walk using PySem.AutoSeq1.wpAny_loadPart' hl, hi _ _ _ _
    exact ⟨_, rfl, h⟩
theorem tuple_declines_ins (l b : Addr) (items : Array Value) (n : Nat) (dd : Option Addr) (sl : Array (Option Value)) :
    Meets (Builtin.«tuple.__eq__» ⟨[.ref l, .ref b], []⟩) (fun _ R s => s.heap.get? l = some { cls := .type "tuple", dict := dd, data := .seq items n, slots := sl } ∧ (∀ (M : Model) (A : Around) (E : Value → Shared → Prop) (Q : Bool → Shared → Prop), Q false s → wpAny M A (isInstance (.ref b) (.type "tuple")) Q E s) ∧ R (.ok (.ret .notImplemented)) s) :=
  .of_wp fun prog w A R s h => by
    obtain ⟨hp, g, d, tk, os⟩ := s
    obtain ⟨hl, hi, h⟩ := h
    wp_walk using PySem.AutoSeq1.wpAny_loadPart' hl, hi _ _ _ _
    exact ⟨_, rfl, h⟩
end
section
variable {X : Cx} {pins : List (Addr × Obj)} {σ : L2.St} {H : Hp} {s : Shared} {C f a dx : Addr} {fs : List (Str × V)} {y : V} {u tv : Value} {n : Nat} {fd : FuncData} {ps : List Str} {sp : Sp} {A : Around}
theorem rc_back_of {T id : String} (O : OEq X.K C f) (F : FnOk X.prog X.w X.K X.mg X.base CX0 n f fd ps sp) (hb : Binds X.K fd ps []) (sb : Sub X n A) (I : Inv X pins σ H s) (ha : H a = some (.ins C dx fs)) (ry : RelV y u)
    (hT : s.TypeIs u T) (hS : Slot T "__eq__" id) (hsub : PySem.W.subIn X.K (.ref C) (.type T) = some false)
    (dec : ∀ Q' : Value → Shared → Prop, Q' .notImplemented s → wpAny (model X.prog X.w) A (call (.builtin id) [u, .ref a]) Q' X.xe s)
    {Q : Bool → Hp → Prop} (q : sp [.ref a, y] H (fun v H' => ∃ b, v = .bl b ∧ Q b H') E0) :
    wpAny (model X.prog X.w) A (richCompare .Eq u (.ref a)) (fun v s' => ∃ b, v = .bool b ∧ ∃ H', Inv X pins σ H' s' ∧ Q b H') X.xe s := by
  obtain ⟨mA, J, _⟩ := ins_get I.hok ha
  obtain ⟨od, J, _⟩ := J.look
  have hK := I.kIn
  unfold richCompare
  simp only [hT.oneThing_none]
  refine wpAny_holding (wpAny_bind (wpAny_cRoomFor sb.room.units0 ?_))
  rw [cmpInfo_Eq]
  dsimp only
  refine wpAny_bind (wpAny_typeOf hT (wpAny_bind (J.type.here ?_)))
  rw [if_pos (show (Value.type T != Value.ref C) = true by simp)]
  refine wpAny_bind ((PySem.W.looks_subIn hK hsub).here ?_)
  simp only [Bool.false_eq_true, if_false, Bool.not_false, if_true]
  refine wpAny_bind (m := tryCompare u _ (.ref a)) (wpAny_tryCompare_declines hT hS (dec _ ⟨rfl, ?_⟩))
  have one : wpAny (model X.prog X.w) A (tryCompare (.ref a) "__eq__" u) (fun r s' => ∃ v, r = some v ∧ ∃ b, v = Value.bool b ∧ ∃ H', Inv X pins σ H' s' ∧ Q b H') X.xe s := by
    unfold tryCompare
    refine wpAny_bind (PySem.W.ifBound_K hK J O.at_ O.fn (wpAny_mono (own_call F hb sb I ry q) (fun v s' h => ?_) fun _ _ e => e))
    obtain ⟨z, H', I', rz, b, rfl, q⟩ := h
    cases (show v = Value.bool b from rz)
    exact wpAny_pure ⟨_, rfl, b, rfl, H', I', q⟩
  refine wpAny_bind (m := tryCompare (.ref a) _ u) (wpAny_mono one (fun r s' z => ?_) fun _ _ e => e)
  obtain ⟨v, rfl, hq⟩ := z
  exact wpAny_pure hq
/-- x == y, y such an instance, x of another kind -/
theorem rc_back (O : OEq X.K C f) (F : FnOk X.prog X.w X.K X.mg X.base CX0 n f fd ps sp) (hb : Binds X.K fd ps []) (sb : Sub X n A) (I : Inv X pins σ H s) (ha : H a = some (.ins C dx fs)) (ty : TyV X.K C H y tv) (hne : tv ≠ .ref C) (ry : RelV y u)
    {Q : Bool → Hp → Prop} (q : sp [.ref a, y] H (fun v H' => ∃ b, v = .bl b ∧ Q b H') E0) :
    wpAny (model X.prog X.w) A (richCompare .Eq u (.ref a)) (fun v s' => ∃ b, v = .bool b ∧ ∃ H', Inv X pins σ H' s' ∧ Q b H') X.xe s := by
  have hbk := ty.back O hne
  obtain ⟨mA, J, _⟩ := ins_get I.hok ha
  obtain ⟨od, J, _⟩ := J.look
  have hK := I.kIn
  have isi : ∀ {T : String}, PySem.W.subIn X.K (.ref C) (.type T) = some false → ∀ (M : Model) (A : Around) (E : Value → Shared → Prop) (Q : Bool → Shared → Prop), Q false s → wpAny M A (isInstance (.ref a) (.type T)) Q E s := fun {T} hs M A E Q q => by
    have L : PySem.W.Looks M s.heap (isInstance (.ref a) (.type T)) false := J.type.andThen (PySem.W.looks_subIn hK hs)
    exact L.here q
  cases ty with
  | int i =>
    obtain ⟨t, rfl⟩ := (show ∃ t, u = Value.int i t from ry)
    exact rc_back_of O F hb sb I ha ry (typeIs_int s i t) PySem.F.slot_int_eq hbk (fun Q' hq => call_meets PySem.F.slot_int_eq (typeIs_int s i t) PySem.F.entry_int_eq (PySem.F.args_int_eq_2 _ _) (int_declines_ins i t a _ rfl) ⟨J.at_, hq⟩) q
  | bl b =>
    cases (show u = Value.bool b from ry)
    exact rc_back_of O F hb sb I ha ry rfl PySem.F.slot_bool_eq hbk (fun Q' hq => call_meets PySem.F.slot_bool_eq rfl PySem.F.entry_int_eq (PySem.F.args_int_eq_2 _ _) (bool_declines_ins b a _ rfl) ⟨J.at_, hq⟩) q
  | str x =>
    obtain ⟨t, rfl⟩ := (show ∃ t, u = Value.str x t from ry)
    exact rc_back_of O F hb sb I ha ry (typeIs_str s x t) PySem.F.slot_str_eq hbk (fun Q' hq => call_meets PySem.F.slot_str_eq (typeIs_str s x t) PySem.F.entry_str_eq (PySem.F.args_str_eq_2 _ _) (str_declines_ins x t a _ rfl) ⟨J.at_, hq⟩) q
  | non =>
    cases (show u = Value.none from ry)
    exact rc_back_of O F hb sb I ha ry rfl PySem.F.slot_NoneType_eq hbk (fun Q' hq => call_gives PySem.F.slot_NoneType_eq rfl PySem.F.entry_NoneType_eq (PySem.F.args_NoneType_eq_2 _ _) (NoneType___eq___none_ref_0 a) hq) q
  | lst h =>
    cases (show u = Value.ref _ from ry)
    obtain ⟨its, rv, ⟨⟨cls, dd, data, sl⟩, m, ho, hc, hdn, hd⟩, _⟩ := I.list h
    simp only at hc hd
    subst hc hd
    exact rc_back_of O F hb sb I ha ry ⟨_, ho, rfl⟩ PySem.F.slot_list_eq hbk (fun Q' hq => call_meets PySem.F.slot_list_eq ⟨_, ho, rfl⟩ PySem.F.entry_list_eq (PySem.F.args_list_eq_2 _ _) (list_declines_ins _ a _ _ _ _) ⟨ho, isi hbk, hq⟩) q
  | tup h =>
    cases (show u = Value.ref _ from ry)
    obtain ⟨its, rv, ⟨⟨cls, dd, data, sl⟩, ho, hc, m, hd⟩, _⟩ := I.tuple h
    simp only at hc hd
    subst hc hd
    exact rc_back_of O F hb sb I ha ry ⟨_, ho, rfl⟩ PySem.F.slot_tuple_eq hbk (fun Q' hq => call_meets PySem.F.slot_tuple_eq ⟨_, ho, rfl⟩ PySem.F.entry_tuple_eq (PySem.F.args_tuple_eq_2 _ _) (tuple_declines_ins _ a _ _ _ _) ⟨ho, isi hbk, hq⟩) q
  | ins h => exact absurd rfl hne
end
/-! ### a list of such: in, count, index -/
section
variable {prog : Program} {w : World} {A : Around} {R : Result → Shared → Prop} {l : Addr} {items : Array Value} {x : Value} {e : Nat → Bool} {J : Shared → Prop}
open GQ MeetsSeq MeetsSeq2 MeetsSeq3
/-- l is the list of these items wherever J is; what == says is told by e -/
structure LJ (prog : Program) (w : World) (A : Around) (E : Value → Shared → Prop) (l : Addr) (items : Array Value) (x : Value) (e : Nat → Bool) (J : Shared → Prop) : Prop where
  at_ : ∀ s, J s → ∃ n, s.heap.get? l = some { cls := .type "list", data := .seq items n }
  eq : ∀ i (h : i < items.size) s, J s → wpAny (model prog w) A.in1 (eqBool items[i] x) (fun r s' => r = e i ∧ J s') E s
theorem contains_no (hj : LJ prog w A (fun e s' => R (.error e) s') l items x e J) (no : ∀ i, i < items.size → e i = false) (fin : ∀ s, J s → R (.ok (.ret (.bool false))) s) (k : Nat) :
    ∀ i : Nat, items.size - i = k → ∀ s, J s → wpAny (model prog w) A.in1 (Builtin.«list.__contains__.loop» ⟨[.ref l, x, rawInt i], []⟩) (FinOf prog w A R) (fun e s' => R (.error e) s') s := by
  induction k with
  | zero =>
    intro i hk s h
    obtain ⟨n, hl⟩ := hj.at_ _ h
    have hR := fin s h
    obtain ⟨hp, g, d, tk, os⟩ := s
    wp_walk using PySem.AutoSeq1.wpAny_loadPart' hl
    have hi : items[((i : Nat) : Int).toNat]? = none := by simp; omega
    rw [hi]
    wp_walk
    exact hR
  | succ k ih =>
    intro i hk s h
    obtain ⟨n, hl⟩ := hj.at_ _ h
    have hlt : i < items.size := by omega
    have ht := hj.eq i hlt s h
    obtain ⟨hp, g, d, tk, os⟩ := s
    wp_walk using PySem.AutoSeq1.wpAny_loadPart' hl
    have hi : items[((i : Nat) : Int).toNat]? = some items[i] := by simp [hlt]
    have hc : ((i : Int) + 1) = ((i + 1 : Nat) : Int) := by omega
    rw [hi]
    refine wpAny_bind (wpAny_mono ht (fun r s2 h2 => ?_) fun _ _ x => x)
    obtain ⟨hr, h2⟩ := h2
    rw [no i hlt] at hr
    subst hr
    have hrec := ih (i + 1) (by omega) s2 h2
    obtain ⟨hp2, g2, d2, tk2, os2⟩ := s2
    wp_walk
    rw [hc]
    exact ⟨plainId_quiet plain_contains_loop _, codeAny_builtin entry_contains_loop (by
      rw [Around.under_plainId plain_contains_loop _]
      exact hrec)⟩
theorem list_contains_no (hj : LJ prog w A (fun e s' => R (.error e) s') l items x e J) (no : ∀ i, i < items.size → e i = false) (fin : ∀ s, J s → R (.ok (.ret (.bool false))) s) {s : Shared} (h : J s) :
    wpAny (model prog w) A.in1 (Builtin.«list.__contains__» ⟨[.ref l, x], []⟩) (FinOf prog w A R) (fun e s' => R (.error e) s') s := by
  obtain ⟨n, hl⟩ := hj.at_ _ h
  have hrec := contains_no hj no fin _ 0 rfl s h
  obtain ⟨hp, g, d, tk, os⟩ := s
  wp_walk using PySem.AutoSeq1.wpAny_loadPart' hl
  wp_walk using PySem.AutoSeq1.wpAny_loadPart' hl
  exact ⟨plainId_quiet plain_contains_loop _, codeAny_builtin entry_contains_loop (by
    rw [Around.under_plainId plain_contains_loop _]
    exact hrec)⟩
theorem count_no (hj : LJ prog w A (fun e s' => R (.error e) s') l items x e J) (no : ∀ i, i < items.size → e i = false) (fin : ∀ s, J s → R (.ok (.ret (.int 0 s.toks))) { s with toks := s.toks + 1 }) (k : Nat) :
    ∀ i : Nat, items.size - i = k → ∀ s, J s → wpAny (model prog w) A.in1 (Builtin.«list.count.loop» ⟨[.ref l, x, rawInt i, rawInt 0], []⟩) (FinOf prog w A R) (fun e s' => R (.error e) s') s := by
  induction k with
  | zero =>
    intro i hk s h
    obtain ⟨n, hl⟩ := hj.at_ _ h
    have hR := fin s h
    obtain ⟨hp, g, d, tk, os⟩ := s
    wp_walk using PySem.AutoSeq1.wpAny_loadPart' hl
    have hi : items[((i : Nat) : Int).toNat]? = none := by simp; omega
    rw [hi]
    wp_walk
    exact hR
  | succ k ih =>
    intro i hk s h
    obtain ⟨n, hl⟩ := hj.at_ _ h
    have hlt : i < items.size := by omega
    have ht := hj.eq i hlt s h
    obtain ⟨hp, g, d, tk, os⟩ := s
    wp_walk using PySem.AutoSeq1.wpAny_loadPart' hl
    have hi : items[((i : Nat) : Int).toNat]? = some items[i] := by simp [hlt]
    have hc : ((i : Int) + 1) = ((i + 1 : Nat) : Int) := by omega
    rw [hi]
    refine wpAny_bind (wpAny_mono ht (fun r s2 h2 => ?_) fun _ _ x => x)
    obtain ⟨hr, h2⟩ := h2
    rw [no i hlt] at hr
    subst hr
    have hrec := ih (i + 1) (by omega) s2 h2
    obtain ⟨hp2, g2, d2, tk2, os2⟩ := s2
    wp_walk
    rw [hc]
    exact ⟨plainId_quiet plain_count_loop _, codeAny_builtin entry_count_loop (by
      rw [Around.under_plainId plain_count_loop _]
      exact hrec)⟩
theorem list_count_no (hj : LJ prog w A (fun e s' => R (.error e) s') l items x e J) (no : ∀ i, i < items.size → e i = false) (fin : ∀ s, J s → R (.ok (.ret (.int 0 s.toks))) { s with toks := s.toks + 1 }) {s : Shared} (h : J s) :
    wpAny (model prog w) A.in1 (Builtin.«list.count» ⟨[.ref l, x], []⟩) (FinOf prog w A R) (fun e s' => R (.error e) s') s := by
  obtain ⟨n, hl⟩ := hj.at_ _ h
  have hrec := count_no hj no fin _ 0 rfl s h
  obtain ⟨hp, g, d, tk, os⟩ := s
  wp_walk using PySem.AutoSeq1.wpAny_loadPart' hl
  exact ⟨plainId_quiet plain_count_loop _, codeAny_builtin entry_count_loop (by
    rw [Around.under_plainId plain_count_loop _]
    exact hrec)⟩
theorem index_loop (hj : LJ prog w A (fun e s' => R (.error e) s') l items x e J) {j : Nat} {upto : Int} (hjl : j < items.size) (hupto : (j : Int) < upto) (hit : e j = true) (no : ∀ i, i < j → e i = false)
    (fin : ∀ s, J s → R (.ok (.ret (.int j s.toks))) { s with toks := s.toks + 1 }) (k : Nat) :
    ∀ i : Nat, j - i = k → i ≤ j → ∀ s, J s → wpAny (model prog w) A.in1 (Builtin.«list.index.loop» ⟨[.ref l, x, rawInt i, rawInt upto], []⟩) (FinOf prog w A R) (fun e s' => R (.error e) s') s := by
  induction k with
  | zero =>
    intro i hk hij s h
    have hij' : i = j := by omega
    subst hij'
    obtain ⟨n, hl⟩ := hj.at_ _ h
    have ht := hj.eq i hjl s h
    obtain ⟨hp, g, d, tk, os⟩ := s
    wp_walk using PySem.AutoSeq1.wpAny_loadPart' hl
    have hi : (if (i : Int) < upto then items[((i : Nat) : Int).toNat]? else none) = some items[i] := by simp [hupto, hjl]
    rw [hi]
    refine wpAny_bind (wpAny_mono ht (fun r s2 h2 => ?_) fun _ _ x => x)
    obtain ⟨hr, h2⟩ := h2
    rw [hit] at hr
    subst hr
    have hR := fin s2 h2
    obtain ⟨hp2, g2, d2, tk2, os2⟩ := s2
    wp_walk
    exact hR
  | succ k ih =>
    intro i hk hij s h
    obtain ⟨n, hl⟩ := hj.at_ _ h
    have hlt : i < items.size := by omega
    have hst : (i : Int) < upto := by omega
    have ht := hj.eq i hlt s h
    obtain ⟨hp, g, d, tk, os⟩ := s
    wp_walk using PySem.AutoSeq1.wpAny_loadPart' hl
    have hi : (if (i : Int) < upto then items[((i : Nat) : Int).toNat]? else none) = some items[i] := by simp [hst, hlt]
    have hc : ((i : Int) + 1) = ((i + 1 : Nat) : Int) := by omega
    rw [hi]
    refine wpAny_bind (wpAny_mono ht (fun r s2 h2 => ?_) fun _ _ x => x)
    obtain ⟨hr, h2⟩ := h2
    rw [no i (by omega)] at hr
    subst hr
    have hrec := ih (i + 1) (by omega) (by omega) s2 h2
    obtain ⟨hp2, g2, d2, tk2, os2⟩ := s2
    wp_walk
    rw [hc]
    exact ⟨plainId_quiet plain_index_loop _, codeAny_builtin entry_index_loop (by
      rw [Around.under_plainId plain_index_loop _]
      exact hrec)⟩
theorem list_index_at (hj : LJ prog w A (fun e s' => R (.error e) s') l items x e J) {j : Nat} (hjl : j < items.size) (hsmall : (j : Int) < 2 ^ 63 - 1) (hit : e j = true) (no : ∀ i, i < j → e i = false)
    (fin : ∀ s, J s → R (.ok (.ret (.int j s.toks))) { s with toks := s.toks + 1 }) {s : Shared} (h : J s) :
    wpAny (model prog w) A.in1 (Builtin.«list.index» ⟨[.ref l, x], []⟩) (FinOf prog w A R) (fun e s' => R (.error e) s') s := by
  obtain ⟨n, hl⟩ := hj.at_ _ h
  have hrec := index_loop hj hjl hsmall hit no fin _ 0 rfl (Nat.zero_le _) s h
  obtain ⟨hp, g, d, tk, os⟩ := s
  wp_walk using PySem.AutoSeq1.wpAny_loadPart' hl
  have a1 : ((fun i : Int => if i < 0 then max 0 (i + (items.size : Int)) else i) ((none : Option Int).getD 0)) = ((0 : Nat) : Int) := by simp
  have a2 : ((fun i : Int => if i < 0 then max 0 (i + (items.size : Int)) else i) ((none : Option Int).getD (2 ^ 63 - 1))) = 2 ^ 63 - 1 := by simp
  rw [a1, a2]
  exact ⟨plainId_quiet plain_index_loop _, codeAny_builtin entry_index_loop (by
    rw [Around.under_plainId plain_index_loop _]
    exact hrec)⟩
end
section
variable {X : Cx} {C f : Addr} {n : Nat} {fd : FuncData} {ps : List Str} {sp : Sp}
/-- what == says of each of the list's and of a -/
def Asks (C : Addr) (sp : Sp) (a : Addr) (bs : List Addr) (e : Nat → Bool) (H : Hp) : Prop := ∀ i b, bs[i]? = some b → ∀ H', Ext H H' → (∃ dx fs, H' b = some (.ins C dx fs)) ∧ (∃ dx fs, H' a = some (.ins C dx fs)) ∧ (b = a → e i = true) ∧
  ∀ Q : VK, (∀ H'', Ext H' H'' → Q (.bl (e i)) H'') → sp [.ref b, .ref a] H' Q E0
theorem asks_lj (O : OEq X.K C f) (F : FnOk X.prog X.w X.K X.mg X.base CX0 n f fd ps sp) (hb : Binds X.K fd ps []) (hr : Room (n + 1) X.A) {pins : List (Addr × Obj)} {σ : L2.St} {H : Hp} {l a : Addr} {bs : List Addr} {e : Nat → Bool}
    (hl : H l = some (.lst (bs.map V.ref))) (h : Asks C sp a bs e H) : LJ X.prog X.w X.A X.xe l (bs.map Value.ref).toArray (.ref a) e (fun s' => ∃ H', Inv X pins σ H' s' ∧ Ext H H') := by
  refine ⟨fun s ⟨H', I, x⟩ => ?_, fun i hi s ⟨H', I, x⟩ => ?_⟩
  · obtain ⟨its, m, r, ho, hz⟩ := I.lst (x _ _ hl)
    have : its = bs.map Value.ref := by
      clear ho hl h hz
      induction bs generalizing its with
      | nil => cases r; rfl
      | cons b t ih =>
        cases r with
        | cons r1 r2 =>
          rw [List.map_cons, ← ih _ r2, (show _ = Value.ref b from r1)]
    exact ⟨m, by rw [ho, this]⟩
  · have hi' : i < bs.length := by simpa using hi
    have hg : bs[i]? = some bs[i] := List.getElem?_eq_getElem hi'
    obtain ⟨⟨dx, fs, eb⟩, ⟨dy, gs, ea⟩, same, q⟩ := h i bs[i] hg H' x
    have hv : (bs.map Value.ref).toArray[i] = .ref bs[i] := by simp
    rw [hv]
    by_cases hab : bs[i] = a
    · rw [hab]
      exact SeqAt.EqAt.same (A := X.A.in1) (s := s) (.ref a) X.prog X.w X.xe _ ⟨(same hab).symm, H', I, x⟩
    · refine GQ.eqBool_refG hab ?_
      refine wpAny_mono (rc_own O F hb (A := X.A.in1) ⟨hr.in1, rfl⟩ I eb (.ins ea) (u := .ref a) rfl (Q := fun b H'' => b = e i ∧ Ext H' H'') (q _ fun H'' x2 => ⟨_, rfl, rfl, x2⟩)) (fun v s' z => ?_) fun _ _ x => x
      obtain ⟨b, rfl, H'', I', rfl, x2⟩ := z
      exact ⟨_, rfl, rfl, H'', I', x.trans x2⟩
variable (K : PySem.W.Frag)
/-- x in l: none of the list's is alike -/
def rInO (C : Addr) (sp : Sp) : R2 := fun x y H Q => ∃ (a l : Addr) (bs : List Addr), x = .ref a ∧ y = .ref l ∧ H l = some (.lst (bs.map V.ref)) ∧ Asks C sp a bs (fun _ => false) H ∧ ∀ H', Ext H H' → Q (.bl false) H'
theorem op_inO (O : OEq X.K C f) (F : FnOk X.prog X.w X.K X.mg X.base CX0 n f fd ps sp) (hb : Binds X.K fd ps []) (hr : Room (n + 1) X.A) : OpR X (compareOp .In) (rInO C sp) := by
  intro pins s σ H x y v u Q I rx ry h
  obtain ⟨a, l, bs, rfl, rfl, hl, hA, q⟩ := h
  cases rx
  cases ry
  obtain ⟨its, m, r, ho, _⟩ := I.lst hl
  have hj := asks_lj (pins := pins) (σ := σ) O F hb hr hl hA
  show wpAny _ X.A (do return Value.bool (← contains (.ref l) (.ref a))) _ _ s
  refine wpAny_bind (wpAny_contains_slot ⟨_, ho, rfl⟩ PySem.F.slot_list_contains (GQ.call_here PySem.F.slot_list_contains ⟨_, ho, rfl⟩ PySem.F.entry_list_contains (PySem.F.args_list_contains_2 _ _) (list_contains_no (R := wants _ _) hj (fun _ _ => rfl) (fun s' ⟨H', I', x⟩ => ?_) ⟨H, I, fun _ _ h => h⟩)))
  exact wpAny_truthy_bool (wpAny_pure ⟨.bl false, H', I', rfl, q H' x⟩)
/-- l.count(x): none of the list's is alike -/
def rCountO (C : Addr) (sp : Sp) : V → List V → Hp → VK → Prop := fun x xs H Q => ∃ (a l : Addr) (bs : List Addr), x = .ref l ∧ xs = [.ref a] ∧ H l = some (.lst (bs.map V.ref)) ∧ Asks C sp a bs (fun _ => false) H ∧ ∀ H', Ext H H' → Q (.int 0) H'
theorem mt_countO (O : OEq X.K C f) (F : FnOk X.prog X.w X.K X.mg X.base CX0 n f fd ps sp) (hb : Binds X.K fd ps []) (hr : Room (n + 1) X.A) : MtR X "list.count" (rCountO C sp) := by
  intro pins s σ H x xs v us Q I rx rxs h
  obtain ⟨a, l, bs, rfl, rfl, hl, hA, q⟩ := h
  cases rx
  cases rxs with
  | cons ry rt =>
    cases rt
    cases ry
    obtain ⟨its, m, r, ho, _⟩ := I.lst hl
    have hj := asks_lj (pins := pins) (σ := σ) O F hb hr hl hA
    refine GQ.call_here PySem.F.slot_list_count ⟨_, ho, rfl⟩ PySem.F.entry_list_count (PySem.F.args_list_count_2 _ _) (list_count_no (R := wants _ _) hj (fun _ _ => rfl) (fun s' ⟨H', I', x⟩ => ?_) ⟨H, I, fun _ _ h => h⟩)
    exact ⟨.int 0, H', I'.tok _, ⟨_, rfl⟩, q H' x⟩
/-- l.index(x): the first alike one -/
def rIndexO (C : Addr) (sp : Sp) : V → List V → Hp → VK → Prop := fun x xs H Q => ∃ (a l : Addr) (bs : List Addr) (j : Nat) (e : Nat → Bool), x = .ref l ∧ xs = [.ref a] ∧ H l = some (.lst (bs.map V.ref)) ∧ j < bs.length ∧ j < 1000 ∧ e j = true ∧ (∀ i, i < j → e i = false) ∧ Asks C sp a bs e H ∧ ∀ H', Ext H H' → Q (.int (j : Nat)) H'
theorem mt_indexO (O : OEq X.K C f) (F : FnOk X.prog X.w X.K X.mg X.base CX0 n f fd ps sp) (hb : Binds X.K fd ps []) (hr : Room (n + 1) X.A) : MtR X "list.index" (rIndexO C sp) := by
  intro pins s σ H x xs v us Q I rx rxs h
  obtain ⟨a, l, bs, j, e, rfl, rfl, hl, hj1, hj2, hit, no, hA, q⟩ := h
  cases rx
  cases rxs with
  | cons ry rt =>
    cases rt
    cases ry
    obtain ⟨its, m, r, ho, _⟩ := I.lst hl
    have hj := asks_lj (pins := pins) (σ := σ) O F hb hr hl hA
    refine GQ.call_here PySem.F.slot_list_index ⟨_, ho, rfl⟩ PySem.F.entry_list_index (PySem.F.args_list_index_2 _ _) (list_index_at (R := wants _ _) hj (j := j) (by simpa using hj1) (by omega) hit no (fun s' ⟨H', I', x⟩ => ?_) ⟨H, I, fun _ _ h => h⟩)
    exact ⟨.int (j : Nat), H', I'.tok _, ⟨_, rfl⟩, q H' x⟩
end
/-! ### ==, != as expressions; repr(x), str(x), {x!s} by own defs -/
section
variable {X : Cx} {C f : Addr} {n : Nat} {fd : FuncData} {ps : List Str} {sp : Sp} {A : Around} {pins : List (Addr × Obj)} {σ : L2.St} {H : Hp} {s : Shared}
theorem own_callN {xs : List V} {us : List Value} (F : FnOk X.prog X.w X.K X.mg X.base CX0 n f fd ps sp) (hb : Binds X.K fd ps []) (sb : Sub X n A) (I : Inv X pins σ H s) (r2 : Vals xs us) {Q : VK} (q : sp xs H Q E0) :
    wpAny (model X.prog X.w) A (call (.ref f) us) (EP X pins σ Q) X.xe s := by
  have e0 : Env0 X.prog X.w X.K X.mg X.base A X.stack s H := by
    have e := I.env0
    exact ⟨by rw [sb.fr]; exact e.frames, e.mod, e.bs, e.bsz, e.funs, e.frf, e.hok, e.bare⟩
  have hl := F.len _ _ _ _ q
  refine wpAny_call (codeAny_mono (F.run A X.stack s H ⟨us, []⟩ us xs _ E0 sb.room e0 (by
    have := hb s us I.kIn (by rw [List.append_nil, ← r2.length]; exact hl)
    simpa using this) r2 q) fun r s' hq => ?_)
  cases r with
  | error e => exact pass0 pins σ H s e s' I hq
  | ok fl =>
    cases fl with
    | ret w =>
      obtain ⟨z, H', I', rz, q⟩ := I.after hq
      exact ⟨z, H', I', rz, q⟩
    | next => exact False.elim hq
    | brk => exact False.elim hq
    | cont => exact False.elim hq
def rEqO (K : PySem.W.Frag) (C : Addr) (sp : Sp) : R2 := fun x y H Q =>
  (∃ (a dx : Addr) (fs : List (Str × V)) (tv : Value), x = .ref a ∧ H a = some (.ins C dx fs) ∧ TyV K C H y tv ∧ sp [x, y] H (fun v H' => ∃ b, v = .bl b ∧ Q (.bl b) H') E0) ∨
  (∃ (a dx : Addr) (fs : List (Str × V)) (tv : Value), y = .ref a ∧ H a = some (.ins C dx fs) ∧ TyV K C H x tv ∧ tv ≠ .ref C ∧ sp [y, x] H (fun v H' => ∃ b, v = .bl b ∧ Q (.bl b) H') E0)
def rNeO (K : PySem.W.Frag) (C : Addr) (sp : Sp) : R2 := fun x y H Q =>
  ∃ (a dx : Addr) (fs : List (Str × V)) (tv : Value), x = .ref a ∧ H a = some (.ins C dx fs) ∧ TyV K C H y tv ∧ sp [x, y] H (fun v H' => ∃ b, v = .bl b ∧ Q (.bl (!b)) H') E0
theorem op_eqO (O : OEq X.K C f) (F : FnOk X.prog X.w X.K X.mg X.base CX0 n f fd ps sp) (hb : Binds X.K fd ps []) (hr : Room n X.A) : OpR X (compareOp .Eq) (rEqO X.K C sp) := by
  intro pins s σ H x y v u Q I rx ry h
  have fin : ∀ {v : Value} {s' : Shared}, (∃ b, v = Value.bool b ∧ ∃ H', Inv X pins σ H' s' ∧ Q (.bl b) H') → EP X pins σ Q v s' := fun h => by
    obtain ⟨b, rfl, H', I', q⟩ := h
    exact ⟨.bl b, H', I', rfl, q⟩
  rcases h with ⟨a, dx, fs, tv, rfl, ha, ty, q⟩ | ⟨a, dx, fs, tv, rfl, ha, ty, hne, q⟩
  · cases (show v = Value.ref a from rx)
    exact wpAny_mono (rc_own O F hb (A := X.A) ⟨hr, rfl⟩ I ha ty ry (Q := fun b H' => Q (.bl b) H') q) (fun v s' z => fin z) fun _ _ x => x
  · cases (show u = Value.ref a from ry)
    exact wpAny_mono (rc_back O F hb (A := X.A) ⟨hr, rfl⟩ I ha ty hne rx (Q := fun b H' => Q (.bl b) H') q) (fun v s' z => fin z) fun _ _ x => x
theorem op_neO (O : OEq X.K C f) (F : FnOk X.prog X.w X.K X.mg X.base CX0 n f fd ps sp) (hb : Binds X.K fd ps []) (hr : Room (n + 1) X.A) : OpR X (compareOp .NotEq) (rNeO X.K C sp) := by
  intro pins s σ H x y v u Q I rx ry h
  obtain ⟨a, dx, fs, tv, rfl, ha, ty, q⟩ := h
  cases (show v = Value.ref a from rx)
  refine wpAny_mono (rc_ownNe O F hb (A := X.A) ⟨hr, rfl⟩ I ha ty ry (Q := fun b H' => Q (.bl b) H') q) (fun v s' z => ?_) fun _ _ x => x
  obtain ⟨b, rfl, H', I', q⟩ := z
  exact ⟨.bl b, H', I', rfl, q⟩
/-- an own def that tells a text -/
structure OTx (K : PySem.W.Frag) (C f : Addr) (m : Str) : Prop where
  at_ : PySem.W.findIn K (.ref C) m = some (some (.ref f))
  fn : PySem.W.isFn K (.ref f) = true
def rTxO (C : Addr) (sp : Sp) : List V → Hp → VK → Prop := fun xs H Q => ∃ (a dx : Addr) (fs : List (Str × V)), xs = [.ref a] ∧ H a = some (.ins C dx fs) ∧ sp [.ref a] H (fun v H' => ∃ y : Str, v = .str y ∧ Q (.str y) H') E0
theorem strback {Q : VK} {v : Value} {s' : Shared} (h : EP X pins σ (fun v H' => ∃ y : Str, v = .str y ∧ Q (.str y) H') v s') : PySem.W.StrBack (EP X pins σ Q) v s' := by
  obtain ⟨z, H', I', rz, y, rfl, q⟩ := h
  obtain ⟨t, rfl⟩ := (show ∃ t, v = Value.str y t from rz)
  exact ⟨.str y, H', I', ⟨t, rfl⟩, q⟩
theorem call_reprO (O : OTx X.K C f "__repr__") (F : FnOk X.prog X.w X.K X.mg X.base CX0 n f fd ps sp) (hb : Binds X.K fd ps []) (hr : Room (n + 1) X.A) : CallR X (.builtin "repr") (rTxO C sp) := by
  intro pins s σ H xs us Q I rv h
  obtain ⟨a, dx, fs, rfl, ha, q⟩ := h
  cases rv with
  | cons e rr =>
    cases rr
    cases e
    obtain ⟨mA, J, _⟩ := ins_get I.hok ha
    obtain ⟨od, J, _⟩ := J.look
    obtain ⟨m, hF⟩ := I.fr
    exact PySem.W.repr_K hr.in1.units0 hF I.ok.mod.kin J O.at_ O.fn (wpAny_mono (own_callN F hb (A := X.A.in1) ⟨hr.in1, rfl⟩ (xs := [.ref a]) (us := [.ref a]) I (.cons rfl .nil) q) (fun v s' z => strback z) fun _ _ x => x)
theorem call_strO (O : OTx X.K C f "__str__") (F : FnOk X.prog X.w X.K X.mg X.base CX0 n f fd ps sp) (hb : Binds X.K fd ps []) (hr : Room (n + 2) X.A) : CallR X (.type "str") (rTxO C sp) := by
  intro pins s σ H xs us Q I rv h
  obtain ⟨a, dx, fs, rfl, ha, q⟩ := h
  cases rv with
  | cons e rr =>
    cases rr
    cases e
    obtain ⟨mA, J, _⟩ := ins_get I.hok ha
    obtain ⟨od, J, _⟩ := J.look
    have hr2 : Room n X.A.in1.in1 := (show Room (n + 1) X.A.in1 from Room.in1 hr).in1
    exact PySem.W.kso_call hr2.units0 I.kIn J O.at_ O.fn (wpAny_mono (own_callN F hb (A := X.A.in1.in1) ⟨hr2, rfl⟩ (xs := [.ref a]) (us := [.ref a]) I (.cons rfl .nil) q) (fun v s' z => strback z) fun _ _ x => x)
/-- {x!s} -/
def tFmtS (C : Addr) (sp : Sp) (te : TE) : TE := fun σ H Q => te σ H fun x H1 => ∃ (a dx : Addr) (fs : List (Str × V)), x = .ref a ∧ H1 a = some (.ins C dx fs) ∧ sp [.ref a] H1 (fun v H' => ∃ y : Str, v = .str y ∧ y.length ≤ sizeLine ∧ Q (.str y) H') E0
theorem pe_fmtS {e : Expr} {te : TE} {pos : Pos} (O : OTx X.K C f "__str__") (F : FnOk X.prog X.w X.K X.mg X.base CX0 n f fd ps sp) (hb : Binds X.K fd ps []) (hr : Room n X.A) (he : PE X e te) : PE X (.FormattedValue e 115 none pos) (tFmtS C sp te) := by
  refine ⟨fun pins s σ H Q I h => ?_⟩
  rw [arm_eval_FormattedValue]
  refine wpAny_bind (wpAny_mono (he.run pins s σ H _ I h) (fun v s1 hv => ?_) fun _ _ x => x)
  obtain ⟨x, H1, I1, r1, a, dx, fs, rfl, ha, q⟩ := hv
  cases (show v = Value.ref a from r1)
  refine wpAny_bind (wpAny_standAt ?_)
  show wpAny _ _ (do let v' ← holding [Value.ref a] (pyStrObj (Value.ref a)); formatField v' Str.empty) _ _ s1
  obtain ⟨mA, J, _⟩ := ins_get I1.hok ha
  obtain ⟨od, J, _⟩ := J.look
  refine wpAny_bind (wpAny_holding (PySem.W.kfo_str hr.units0 I1.kIn J O.at_ O.fn (wpAny_mono (own_callN F hb (A := X.A) ⟨hr, rfl⟩ (xs := [.ref a]) (us := [.ref a]) I1 (.cons rfl .nil) q) (fun v s' z => ?_) fun _ _ x => x)))
  obtain ⟨z, H', I', rz, y, rfl, hz, q⟩ := z
  obtain ⟨t, rfl⟩ := (show ∃ t, v = Value.str y t from rz)
  exact wpAny_formatField_str ⟨.str y, H', I', ⟨t, rfl⟩, q⟩ ⟨.str y, H', I'.tok _, ⟨_, rfl⟩, q⟩ hz
end
end OEQ
/-! ### an own __eq__, __str__, __repr__ by their promises; a class as a value -/
structure CEq (P : Program) (w : World) (K : PySem.W.Frag) (mg : Str → Option Value) (base : Heap) (C : Addr) (k : Nat) (sp : Sp) : Prop where
  ex : ∃ (f : Addr) (fd : FuncData), FnOk P w K mg base CX0 k f fd ["self", "other"] sp ∧ OEQ.OEq K C f ∧ Binds K fd ["self", "other"] []
structure CTx (P : Program) (w : World) (K : PySem.W.Frag) (mg : Str → Option Value) (base : Heap) (C : Addr) (k : Nat) (m : Str) (sp : Sp) : Prop where
  ex : ∃ (f : Addr) (fd : FuncData), FnOk P w K mg base CX0 k f fd ["self"] sp ∧ OEQ.OTx K C f m ∧ Binds K fd ["self"] []
section
variable (K : PySem.W.Frag) {X : Cx} {C : Addr} {k : Nat} {sp : Sp}
theorem kk_eqO (M : CEq X.prog X.w X.K X.mg X.base C k sp) (hr : Room k X.A) (h : X.K = K := by rfl) : OpR X (compareOp .Eq) (OEQ.rEqO K C sp) := by
  obtain ⟨f, fd, F, O, b⟩ := M.ex
  exact h ▸ OEQ.op_eqO O F b hr
theorem kk_neO (M : CEq X.prog X.w X.K X.mg X.base C k sp) (hr : Room (k + 1) X.A) (h : X.K = K := by rfl) : OpR X (compareOp .NotEq) (OEQ.rNeO K C sp) := by
  obtain ⟨f, fd, F, O, b⟩ := M.ex
  exact h ▸ OEQ.op_neO O F b hr
theorem kk_inO (M : CEq X.prog X.w X.K X.mg X.base C k sp) (hr : Room (k + 1) X.A) : OpR X (compareOp .In) (OEQ.rInO C sp) := by
  obtain ⟨f, fd, F, O, b⟩ := M.ex
  exact OEQ.op_inO O F b hr
theorem mt_countO (M : CEq X.prog X.w X.K X.mg X.base C k sp) (hr : Room (k + 1) X.A) : MtR X "list.count" (OEQ.rCountO C sp) := by
  obtain ⟨f, fd, F, O, b⟩ := M.ex
  exact OEQ.mt_countO O F b hr
theorem mt_indexO (M : CEq X.prog X.w X.K X.mg X.base C k sp) (hr : Room (k + 1) X.A) : MtR X "list.index" (OEQ.rIndexO C sp) := by
  obtain ⟨f, fd, F, O, b⟩ := M.ex
  exact OEQ.mt_indexO O F b hr
theorem kk_reprO (M : CTx X.prog X.w X.K X.mg X.base C k "__repr__" sp) (hr : Room (k + 1) X.A) : CallR X (.builtin "repr") (OEQ.rTxO C sp) := by
  obtain ⟨f, fd, F, O, b⟩ := M.ex
  exact OEQ.call_reprO O F b hr
theorem kk_strO (M : CTx X.prog X.w X.K X.mg X.base C k "__str__" sp) (hr : Room (k + 2) X.A) : CallR X (.type "str") (OEQ.rTxO C sp) := by
  obtain ⟨f, fd, F, O, b⟩ := M.ex
  exact OEQ.call_strO O F b hr
theorem pe_fmtSO {e : Expr} {te : TE} {pos : Pos} (M : CTx X.prog X.w X.K X.mg X.base C k "__str__" sp) (hr : Room k X.A) (he : PE X e te) : PE X (.FormattedValue e 115 none pos) (OEQ.tFmtS C sp te) := by
  obtain ⟨f, fd, F, O, b⟩ := M.ex
  exact OEQ.pe_fmtS O F b hr he
end
/-- the class at C, of the name x, as a value: what isinstance asks -/
structure TEq (K : PySem.W.Frag) (mg : Str → Option Value) (C : Addr) (x : Str) : Prop where
  g : mg x = some (.ref C)
  ca : PySem.W.findIn K (.ref C) "__class__" = some (some (.builtin "object.__class__"))
  cn : PySem.W.specialIn K (.builtin "object.__class__") "__get__" = some (some (.builtin "getset_descriptor.__get__"))
  ct : PySem.W.takesIn K (.builtin "object.__class__") = some true
  cm : PySem.W.mroIn K C (.type "object") = some true
  me : PySem.W.kitOne K (.ref C) (.ref C) = some true
  no : ∀ T ∈ (["int", "bool", "str", "NoneType", "list", "tuple"] : List String), PySem.W.kitOne K (.type T) (.ref C) = some false
theorem TEq.tyi {K : PySem.W.Frag} {mg : Str → Option Value} {C a dx : Addr} {x : Str} {H : Hp} {fs : List (Str × V)} (T : TEq K mg C x) (c : Cls K C) (h : H a = some (.ins C dx fs)) : TyX K H (.ref a) (.ref C) := .base (.ins h c T.ca T.cn T.ct T.cm)
theorem kit_self {K : PySem.W.Frag} {t : Addr} : PySem.W.kitOne K (.ref t) (.ref t) = some true := by
  unfold PySem.W.kitOne
  rw [if_pos (beq_self_eq_true _)]
theorem kit_tr {K : PySem.W.Frag} {T : String} {C : Addr} {b : Bool} (hc : PySem.W.isClsIn K C = true) (ht : PySem.W.typeIn K (.ref C) = some (.type "type")) (hs : PySem.W.subIn K (.type T) (.ref C) = some b) : PySem.W.kitOne K (.type T) (.ref C) = some b := by
  have h1 : (Value.type T == Value.ref C) = false := beq_eq_false_iff_ne.mpr fun e => nomatch e
  have h2 : ((PySem.W.clsIn K C).isSome && PySem.W.typeIn K (.ref C) == some (.type "type")) = true := by
    rw [show (PySem.W.clsIn K C).isSome = true from hc, ht]
    rfl
  unfold PySem.W.kitOne
  rw [h1, if_neg (by decide)]
  unfold PySem.W.kitCls
  dsimp only
  rw [if_pos h2]
  exact hs
theorem six_of {T : String} (h : T ∈ (["int", "bool", "str", "NoneType", "list", "tuple"] : List String)) : T = "int" ∨ T = "bool" ∨ T = "str" ∨ T = "NoneType" ∨ T = "list" ∨ T = "tuple" := by simpa using h
/-- of another kind: its type, and isinstance says no -/
theorem OEQ.TyV.tyx {K : PySem.W.Frag} {C : Addr} {H : Hp} {y : V} {tv : Value} (t : OEQ.TyV K C H y tv) (hne : tv ≠ .ref C) : ∃ T : String, tv = .type T ∧ T ∈ (["int", "bool", "str", "NoneType", "list", "tuple"] : List String) ∧ TyX K H y (.type T) := by
  cases t with
  | int i => exact ⟨_, rfl, by decide, .base (.int i)⟩
  | bl b => exact ⟨_, rfl, by decide, .base (.bl b)⟩
  | str x => exact ⟨_, rfl, by decide, .base (.str x)⟩
  | non => exact ⟨_, rfl, by decide, .base .non⟩
  | lst h =>
    rcases h with (h | ⟨o, h⟩) | ⟨o, its, n, hk, hc, _⟩
    · exact ⟨_, rfl, by decide, .base (.lst h)⟩
    · exact ⟨_, rfl, by decide, .base (.frz h)⟩
    · exact ⟨_, rfl, by decide, .kList hk hc⟩
  | tup h =>
    rcases h with (h | ⟨o, h⟩) | ⟨o, its, n, hk, hc, _⟩
    · exact ⟨_, rfl, by decide, .base (.tup h)⟩
    · exact ⟨_, rfl, by decide, .fTuple h⟩
    · exact ⟨_, rfl, by decide, .kTuple hk hc⟩
  | ins h => exact absurd rfl hne
def topS (i : Nat) : Stmt := PySem.Challenge.pw_partwares_k27_parted_by_turns.main.body.getD i (.Pass ⟨0, 0, 0, 0⟩)
section
variable {P : Program} {w : World} {K : PySem.W.Frag} {mg : Str → Option Value} {base : Heap}
/-! ### is_number_in -/
abbrev s_is_number_in : Stmt := topS 7
abbrev N_is_number_in : List Str := ["thing", "low", "high"]
theorem sc_is_number_in : FnScope N_is_number_in ["thing", "low", "high"] (defScope s_is_number_in) := ⟨rfl, rfl, rfl, by decide +kernel, rfl, by decide +kernel, by decide +kernel⟩
def sp_is_number_in (K : PySem.W.Frag) : Sp := fun vs H Q _ => ∃ (x : V) (d : PyData) (lo hi : Int), vs = [x, .int lo, .int hi] ∧ Dp K H x d ∧ Q (.bl (numIn d lo hi)) H
theorem ok_is_number_in {f : Addr} {fd : FuncData} (F : Fun K "is_number_in" "is_number_in" s_is_number_in f fd) (g : mg "is_number_in" = some (.ref f)) (bd : Binds K fd ["thing", "low", "high"] []) (m_isinstance : mg "isinstance" = none) (m_bool : mg "bool" = none) (m_int : mg "int" = none) : CF P w K mg base 1 "is_number_in" ["thing", "low", "high"] (sp_is_number_in K) := by
  refine ⟨f, fd, F.ok sc_is_number_in (fun vs H Q E h => ?_) (fun cdv A outer s H vs Q E hr h => ?_), g, F.kp, bd⟩
  · first | (obtain ⟨_, rfl, _⟩ := h; rfl) | (obtain ⟨_, _, rfl, _⟩ := h; rfl) | (obtain ⟨_, _, _, rfl, _⟩ := h; rfl) | (obtain ⟨_, _, _, _, rfl, _⟩ := h; rfl) | (obtain ⟨_, _, _, _, _, rfl, _⟩ := h; rfl) | (obtain ⟨_, _, _, _, _, _, rfl, _⟩ := h; rfl) | (obtain ⟨_, _, _, _, _, _, _, rfl, _⟩ := h; rfl) | (obtain ⟨_, _, _, _, _, _, _, _, rfl, _⟩ := h; rfl) | (obtain ⟨_, _, _, _, _, _, _, _, _, rfl, _⟩ := h; rfl) | (obtain ⟨_, _, _, _, _, _, _, _, _, _, rfl, _⟩ := h; rfl) | (obtain ⟨_, _, _, _, _, _, _, _, _, _, _, rfl, _⟩ := h; rfl) | (obtain ⟨_, _, _, _, _, _, _, _, _, _, _, _, rfl, _⟩ := h; rfl) | (obtain ⟨_, _, _, _, _, _, _, _, _, _, _, _, _, rfl, _⟩ := h; rfl) | (obtain ⟨_, _, _, _, _, _, _, _, _, _, _, _, _, _, rfl, _⟩ := h; rfl) | (obtain ⟨_, _, _, _, _, _, _, _, _, _, _, _, _, _, _, rfl, _⟩ := h; rfl)
  · have hu64 := hr.units
    obtain ⟨x, d, lo, hi, rfl, hd, q⟩ := h
    refine ⟨_, (pss_one (ps_ret (pe_and (pe_callB (kk_isi K) (by rfl) m_isinstance (by decide +kernel) (pa_cons (pv 0) (pa_cons (pe_bltn (v := .ty "int") (by rfl) m_int (by decide +kernel) rfl) pa_nil))) (pe_and (pe_not (pe_callB (kk_isi K) (by rfl) m_isinstance (by decide +kernel) (pa_cons (pv 0) (pa_cons (pe_bltn (v := .ty "bool") (by rfl) m_bool (by decide +kernel) rfl) pa_nil)))) (pe_one (pe_chain op_le op_le (pv 1) (pv 0) (pv 2))))))), ?_⟩
    have k1 := kit_d (K := K) (T := "int") (by decide) d
    have k2 := kit_d (K := K) (T := "bool") (by decide) d
    have ty := ty_of_dp hd
    refine ⟨_, rfl, _, _, _, _, _, rfl, .ty _, ty, k1, _, rfl, ?_⟩
    cases hd with
    | int i =>
      refine iteT ⟨_, rfl, _, _, _, _, _, rfl, .ty _, ty, k2, _, rfl, _, rfl, iteT ⟨_, rfl, _, rfl, _, _, rfl, rfl, _, rfl, ?_⟩⟩
      have e : numIn (.int i) lo hi = (decide (lo ≤ i) && decide (i ≤ hi)) := rfl
      rw [e] at q
      by_cases h1 : lo ≤ i
      · rw [decide_eq_true h1] at q ⊢
        exact iteT ⟨_, rfl, _, _, rfl, rfl, q⟩
      · rw [decide_eq_false h1] at q ⊢
        exact iteF q
    | bl b => exact iteT ⟨_, rfl, _, _, _, _, _, rfl, .ty _, ty, k2, _, rfl, _, rfl, iteF q⟩
    | non => exact iteF q
    | str z => exact iteF q
    | lst a b => exact iteF q
    | tup a b => exact iteF q
/-! ### may_be_kept -/
abbrev s_may_be_kept : Stmt := topS 30
abbrev N_may_be_kept : List Str := ["keep", "parts", "percent"]
theorem sc_may_be_kept : FnScope N_may_be_kept ["keep", "parts"] (defScope s_may_be_kept) := ⟨rfl, rfl, rfl, by decide +kernel, rfl, by decide +kernel, by decide +kernel⟩
def sp_may_be_kept (K : PySem.W.Frag) : Sp := fun vs H Q _ => ∃ (x y : V) (d e : PyData), vs = [x, y] ∧ Dp K H x d ∧ Dp K H y e ∧ SeqAt.shaped e = true ∧ (∀ ds, d = .tuple ds → ds.length ≤ 1000) ∧ ∀ H', Same H H' → Q (.bl (keptOk d e)) H'
theorem ok_may_be_kept {f : Addr} {fd : FuncData} (F : Fun K "may_be_kept" "may_be_kept" s_may_be_kept f fd) (g : mg "may_be_kept" = some (.ref f)) (bd : Binds K fd ["keep", "parts"] []) (m_isinstance : mg "isinstance" = none) (m_tuple : mg "tuple" = none) (m_all : mg "all" = none) (m_len : mg "len" = none) (C_is_number_in : CF P w K mg base 1 "is_number_in" ["thing", "low", "high"] (sp_is_number_in K)) : CF P w K mg base 2 "may_be_kept" ["keep", "parts"] (sp_may_be_kept K) := by
  refine ⟨f, fd, F.ok sc_may_be_kept (fun vs H Q E h => ?_) (fun cdv A outer s H vs Q E hr h => ?_), g, F.kp, bd⟩
  · first | (obtain ⟨_, rfl, _⟩ := h; rfl) | (obtain ⟨_, _, rfl, _⟩ := h; rfl) | (obtain ⟨_, _, _, rfl, _⟩ := h; rfl) | (obtain ⟨_, _, _, _, rfl, _⟩ := h; rfl) | (obtain ⟨_, _, _, _, _, rfl, _⟩ := h; rfl) | (obtain ⟨_, _, _, _, _, _, rfl, _⟩ := h; rfl) | (obtain ⟨_, _, _, _, _, _, _, rfl, _⟩ := h; rfl) | (obtain ⟨_, _, _, _, _, _, _, _, rfl, _⟩ := h; rfl) | (obtain ⟨_, _, _, _, _, _, _, _, _, rfl, _⟩ := h; rfl) | (obtain ⟨_, _, _, _, _, _, _, _, _, _, rfl, _⟩ := h; rfl) | (obtain ⟨_, _, _, _, _, _, _, _, _, _, _, rfl, _⟩ := h; rfl) | (obtain ⟨_, _, _, _, _, _, _, _, _, _, _, _, rfl, _⟩ := h; rfl) | (obtain ⟨_, _, _, _, _, _, _, _, _, _, _, _, _, rfl, _⟩ := h; rfl) | (obtain ⟨_, _, _, _, _, _, _, _, _, _, _, _, _, _, rfl, _⟩ := h; rfl) | (obtain ⟨_, _, _, _, _, _, _, _, _, _, _, _, _, _, _, rfl, _⟩ := h; rfl)
  · have hu64 := hr.units
    obtain ⟨x, y, d, e, rfl, hd, he, sh, hz, q⟩ := h
    refine ⟨_, (pss_cons (ps_if (pt_not (pt_val (pe_callB (kk_isi K) (by rfl) m_isinstance (by decide +kernel) (pa_cons (pv 0) (pa_cons (pe_bltn (v := .ty "tuple") (by rfl) m_tuple (by decide +kernel) rfl) pa_nil)))))
         (pss_one (ps_ret (pe_cf C_is_number_in (hr.mono (by decide)) (by rfl) (pa_cons (pv 0) (pa_cons pe_int (pa_cons pe_int pa_nil))))))
         pss_nil)
      (pss_one (ps_ret (pe_and (pe_cmpR (kk_eqD K hu64) (pe_callB (kk_len K) (by rfl) m_len PySem.boot_len (pa_cons (pv 0) pa_nil)) (pv 1) (nomark _)) (pe_one (pe_callB (kk_all K rfl) (by rfl) m_all (by decide +kernel) (pa_cons (pe_lc (own := [("percent", 2)]) (g := (gName 2)) (tt := tYes) rfl sc_may_be_kept.nd (pi_tup (pv 0)) (blkOk_by (own := [("percent", 2)]) (N := N_may_be_kept) (sc := defScope s_may_be_kept) (by decide +kernel)) (fun _ _ _ _ _ => pg_name (i := 2) sc_may_be_kept.nd rfl (Or.inl rfl)) (fun _ _ _ _ _ => pts_nil) (fun _ _ _ _ _ => (pe_cf C_is_number_in (hr.mono (by decide)) (by rfl) (pa_cons (pv 2) (pa_cons pe_int (pa_cons pe_int pa_nil)))))) pa_nil))))))), ?_⟩
    have k1 := kit_d (K := K) (T := "tuple") (by decide) d
    have ty := ty_of_dp hd
    refine ⟨_, rfl, _, _, _, _, _, rfl, .ty _, ty, k1, _, rfl, ?_⟩
    have other : isK "tuple" d = false → keptOk d e = numIn d 0 100 := fun h => by
      cases d with
      | tuple ds => cases h
      | _ => rfl
    cases hd with
    | @tup a xs ds hS hA =>
      refine iteF ?_
      have hlen := dpAll_len hA
      have hl := hz ds rfl
      refine ⟨_, rfl, a, _, rfl, .inr hS, _, rfl, _, _, .int _, he, sh_int _, sh, _, rfl, ?_⟩
      have e2 : keptOk (.tuple ds) e = (PyData.eqv (.int (xs.length : Int)) e && ds.all fun d => numIn d 0 100) := by
        rw [hlen]
        rfl
      rw [e2] at q
      cases hq : PyData.eqv (.int (xs.length : Int)) e with
      | false =>
        rw [hq] at q
        exact iteF (q H (Same.refl H))
      | true =>
        rw [hq] at q
        refine iteT ⟨_, rfl, a, rfl, ⟨_, hS⟩, fun D hD => lc_tup (K := K) (a := a) (xs := xs) (fun i H' => Same H H' ∧ H' D = some (.lst (((ds.take i).map fun d => numIn d 0 100).map V.bl))) ⟨same_new hD, upd_same⟩ (fun i H' _ h => seqT_same h.1 hS) (fun i x H' hx h => ?_) (fun H' h => ?_)⟩
        · obtain ⟨d, hd1, hd2⟩ := dpAll_get hA hx
          have hi : i < ds.length := (List.getElem?_eq_some_iff.mp hd1).1
          refine ⟨rfl, _, rfl, x, d, 0, 100, rfl, dp_same h.1 hd2, _, h.2, ?_, ?_, ?_⟩
          · rw [List.length_map, List.length_map, List.length_take]
            exact small1000 (by omega)
          · exact fun c o e => by
              rw [upd_ne (ne_of_none e hD)]
              exact h.1 _ _ e
          · rw [upd_same, List.take_add_one, hd1, Option.toList_some, List.map_append, List.map_append]
            rfl
        · obtain ⟨s1, h1⟩ := h
          rw [hlen, List.take_of_length_le (Nat.le_refl _)] at h1
          refine ⟨D, _, rfl, SqL.of h1, ?_⟩
          have e3 : (ds.map fun d => numIn d 0 100).all id = ds.all fun d => numIn d 0 100 := by
            rw [List.all_map]
            rfl
          rw [e3]
          exact q _ s1
    | non => exact iteT ⟨_, rfl, _, _, 0, 100, rfl, .non, by rw [← other rfl]; exact q H (Same.refl H)⟩
    | bl b => exact iteT ⟨_, rfl, _, _, 0, 100, rfl, .bl b, by rw [← other rfl]; exact q H (Same.refl H)⟩
    | int i => exact iteT ⟨_, rfl, _, _, 0, 100, rfl, .int i, by rw [← other rfl]; exact q H (Same.refl H)⟩
    | str z => exact iteT ⟨_, rfl, _, _, 0, 100, rfl, .str z, by rw [← other rfl]; exact q H (Same.refl H)⟩
    | lst a b => exact iteT ⟨_, rfl, _, _, 0, 100, rfl, .lst a b, by rw [← other rfl]; exact q H (Same.refl H)⟩
/-! ### wrong_figure -/
abbrev s_wrong_figure : Stmt := topS 29
abbrev N_wrong_figure : List Str := ["parts", "step", "grace", "last", "misses", "keep", "fine", "falls", "back", "checks", "word", "right"]
theorem sc_wrong_figure : FnScope N_wrong_figure ["parts", "step", "grace", "last", "misses", "keep", "fine", "falls", "back"] (defScope s_wrong_figure) := ⟨rfl, rfl, rfl, by decide +kernel, rfl, by decide +kernel, by decide +kernel⟩
def figChecks (d1 d2 d3 d4 d5 d6 d7 d8 d9 : PyData) : List (Str × Bool) :=
  [(Str.ofString "parts", numIn d1 1 6), (Str.ofString "step", numIn d2 1 14), (Str.ofString "grace", numIn d3 0 7), (Str.ofString "last", isK "bool" d4), (Str.ofString "misses", numIn d5 0 2), (Str.ofString "keep", keptOk d6 d1), (Str.ofString "fine", numIn d7 0 100), (Str.ofString "falls", numIn d8 0 30), (Str.ofString "back", numIn d9 0 30)]
def sp_wrong_figure (K : PySem.W.Frag) : Sp := fun vs H Q _ => ∃ (x1 x2 x3 x4 x5 x6 x7 x8 x9 : V) (d1 d2 d3 d4 d5 d6 d7 d8 d9 : PyData), vs = [x1, x2, x3, x4, x5, x6, x7, x8, x9] ∧ (Dp K H x1 d1 ∧ Dp K H x2 d2 ∧ Dp K H x3 d3 ∧ Dp K H x4 d4 ∧ Dp K H x5 d5 ∧ Dp K H x6 d6 ∧ Dp K H x7 d7 ∧ Dp K H x8 d8 ∧ Dp K H x9 d9) ∧ SeqAt.shaped d1 = true ∧ (∀ ds, d6 = .tuple ds → ds.length ≤ 1000) ∧ ∀ H', Same H H' → Q (firstWrong (figChecks d1 d2 d3 d4 d5 d6 d7 d8 d9)) H'
theorem at9_of {HH : Hp} {t1 t2 t3 t4 t5 t6 t7 t8 t9 : Addr} {p1 p2 p3 p4 p5 p6 p7 p8 p9 : Str × Bool} (c1 : HH t1 = some (.tup [.str p1.1, .bl p1.2])) (c2 : HH t2 = some (.tup [.str p2.1, .bl p2.2])) (c3 : HH t3 = some (.tup [.str p3.1, .bl p3.2])) (c4 : HH t4 = some (.tup [.str p4.1, .bl p4.2])) (c5 : HH t5 = some (.tup [.str p5.1, .bl p5.2])) (c6 : HH t6 = some (.tup [.str p6.1, .bl p6.2])) (c7 : HH t7 = some (.tup [.str p7.1, .bl p7.2])) (c8 : HH t8 = some (.tup [.str p8.1, .bl p8.2])) (c9 : HH t9 = some (.tup [.str p9.1, .bl p9.2])) : ∀ (j : Nat) (t : Addr) (p : Str × Bool), [t1, t2, t3, t4, t5, t6, t7, t8, t9][j]? = some t → [p1, p2, p3, p4, p5, p6, p7, p8, p9][j]? = some p → HH t = some (.tup [.str p.1, .bl p.2]) := fun j t p ht hp => by
  match j, ht, hp with
  | 0, ht, hp => cases ht; cases hp; exact c1
  | 1, ht, hp => cases ht; cases hp; exact c2
  | 2, ht, hp => cases ht; cases hp; exact c3
  | 3, ht, hp => cases ht; cases hp; exact c4
  | 4, ht, hp => cases ht; cases hp; exact c5
  | 5, ht, hp => cases ht; cases hp; exact c6
  | 6, ht, hp => cases ht; cases hp; exact c7
  | 7, ht, hp => cases ht; cases hp; exact c8
  | 8, ht, hp => cases ht; cases hp; exact c9
  | n + 9, ht, hp => cases ht
theorem pick9 {ts : List Addr} {ws : List (Str × Bool)} {H : Hp} {i : Nat} {x : V} (hl : ts.length = ws.length) (h : ∀ (j : Nat) (t : Addr) (p : Str × Bool), ts[j]? = some t → ws[j]? = some p → H t = some (.tup [.str p.1, .bl p.2])) (hx : (ts.map V.ref)[i]? = some x) : ∃ t p, x = .ref t ∧ ws[i]? = some p ∧ H t = some (.tup [.str p.1, .bl p.2]) := by
  rw [List.getElem?_map] at hx
  obtain ⟨t, ht, rfl⟩ := Option.map_eq_some_iff.mp hx
  have hi : i < ws.length := by
    rw [← hl]
    exact (List.getElem?_eq_some_iff.mp ht).1
  exact ⟨t, ws[i], rfl, List.getElem?_eq_getElem hi, h i t _ ht (List.getElem?_eq_getElem hi)⟩
theorem ok_wrong_figure {f : Addr} {fd : FuncData} (F : Fun K "wrong_figure" "wrong_figure" s_wrong_figure f fd) (g : mg "wrong_figure" = some (.ref f)) (bd : Binds K fd ["parts", "step", "grace", "last", "misses", "keep", "fine", "falls", "back"] []) (m_isinstance : mg "isinstance" = none) (m_bool : mg "bool" = none) (C_is_number_in : CF P w K mg base 1 "is_number_in" ["thing", "low", "high"] (sp_is_number_in K)) (C_may_be_kept : CF P w K mg base 2 "may_be_kept" ["keep", "parts"] (sp_may_be_kept K)) : CF P w K mg base 3 "wrong_figure" ["parts", "step", "grace", "last", "misses", "keep", "fine", "falls", "back"] (sp_wrong_figure K) := by
  refine ⟨f, fd, F.ok sc_wrong_figure (fun vs H Q E h => ?_) (fun cdv A outer s H vs Q E hr h => ?_), g, F.kp, bd⟩
  · first | (obtain ⟨_, rfl, _⟩ := h; rfl) | (obtain ⟨_, _, rfl, _⟩ := h; rfl) | (obtain ⟨_, _, _, rfl, _⟩ := h; rfl) | (obtain ⟨_, _, _, _, rfl, _⟩ := h; rfl) | (obtain ⟨_, _, _, _, _, rfl, _⟩ := h; rfl) | (obtain ⟨_, _, _, _, _, _, rfl, _⟩ := h; rfl) | (obtain ⟨_, _, _, _, _, _, _, rfl, _⟩ := h; rfl) | (obtain ⟨_, _, _, _, _, _, _, _, rfl, _⟩ := h; rfl) | (obtain ⟨_, _, _, _, _, _, _, _, _, rfl, _⟩ := h; rfl) | (obtain ⟨_, _, _, _, _, _, _, _, _, _, rfl, _⟩ := h; rfl) | (obtain ⟨_, _, _, _, _, _, _, _, _, _, _, rfl, _⟩ := h; rfl) | (obtain ⟨_, _, _, _, _, _, _, _, _, _, _, _, rfl, _⟩ := h; rfl) | (obtain ⟨_, _, _, _, _, _, _, _, _, _, _, _, _, rfl, _⟩ := h; rfl) | (obtain ⟨_, _, _, _, _, _, _, _, _, _, _, _, _, _, rfl, _⟩ := h; rfl) | (obtain ⟨_, _, _, _, _, _, _, _, _, _, _, _, _, _, _, rfl, _⟩ := h; rfl) | (obtain ⟨_, _, _, _, _, _, _, _, _, _, _, _, _, _, _, _, rfl, _⟩ := h; rfl) | (obtain ⟨_, _, _, _, _, _, _, _, _, _, _, _, _, _, _, _, _, rfl, _⟩ := h; rfl) | (obtain ⟨_, _, _, _, _, _, _, _, _, _, _, _, _, _, _, _, _, _, rfl, _⟩ := h; rfl) | (obtain ⟨_, _, _, _, _, _, _, _, _, _, _, _, _, _, _, _, _, _, _, rfl, _⟩ := h; rfl) | (obtain ⟨_, _, _, _, _, _, _, _, _, _, _, _, _, _, _, _, _, _, _, _, rfl, _⟩ := h; rfl) | (obtain ⟨_, _, _, _, _, _, _, _, _, _, _, _, _, _, _, _, _, _, _, _, _, rfl, _⟩ := h; rfl) | (obtain ⟨_, _, _, _, _, _, _, _, _, _, _, _, _, _, _, _, _, _, _, _, _, _, rfl, _⟩ := h; rfl) | (obtain ⟨_, _, _, _, _, _, _, _, _, _, _, _, _, _, _, _, _, _, _, _, _, _, _, rfl, _⟩ := h; rfl)
  · have hu64 := hr.units
    obtain ⟨x1, x2, x3, x4, x5, x6, x7, x8, x9, d1, d2, d3, d4, d5, d6, d7, d8, d9, rfl, ⟨h1, h2, h3, h4, h5, h6, h7, h8, h9⟩, sh, hz, q⟩ := h
    refine ⟨_, (pss_cons (ps_set (i := 9) sc_wrong_figure.nd rfl (.inl rfl) (pe_lst (pa_cons (pe_tup (pa_cons pe_str (pa_cons (pe_cf C_is_number_in (hr.mono (by decide)) (by rfl) (pa_cons (pv 0) (pa_cons pe_int (pa_cons pe_int pa_nil)))) pa_nil))) (pa_cons (pe_tup (pa_cons pe_str (pa_cons (pe_cf C_is_number_in (hr.mono (by decide)) (by rfl) (pa_cons (pv 1) (pa_cons pe_int (pa_cons pe_int pa_nil)))) pa_nil))) (pa_cons (pe_tup (pa_cons pe_str (pa_cons (pe_cf C_is_number_in (hr.mono (by decide)) (by rfl) (pa_cons (pv 2) (pa_cons pe_int (pa_cons pe_int pa_nil)))) pa_nil))) (pa_cons (pe_tup (pa_cons pe_str (pa_cons (pe_callB (kk_isi K) (by rfl) m_isinstance (by decide +kernel) (pa_cons (pv 3) (pa_cons (pe_bltn (v := .ty "bool") (by rfl) m_bool (by decide +kernel) rfl) pa_nil))) pa_nil))) (pa_cons (pe_tup (pa_cons pe_str (pa_cons (pe_cf C_is_number_in (hr.mono (by decide)) (by rfl) (pa_cons (pv 4) (pa_cons pe_int (pa_cons pe_int pa_nil)))) pa_nil))) (pa_cons (pe_tup (pa_cons pe_str (pa_cons (pe_cf C_may_be_kept (hr.mono (by decide)) (by rfl) (pa_cons (pv 5) (pa_cons (pv 0) pa_nil))) pa_nil))) (pa_cons (pe_tup (pa_cons pe_str (pa_cons (pe_cf C_is_number_in (hr.mono (by decide)) (by rfl) (pa_cons (pv 6) (pa_cons pe_int (pa_cons pe_int pa_nil)))) pa_nil))) (pa_cons (pe_tup (pa_cons pe_str (pa_cons (pe_cf C_is_number_in (hr.mono (by decide)) (by rfl) (pa_cons (pv 7) (pa_cons pe_int (pa_cons pe_int pa_nil)))) pa_nil))) (pa_cons (pe_tup (pa_cons pe_str (pa_cons (pe_cf C_is_number_in (hr.mono (by decide)) (by rfl) (pa_cons (pv 8) (pa_cons pe_int (pa_cons pe_int pa_nil)))) pa_nil))) pa_nil)))))))))))
      (pss_cons (ps_for PassesOwn.never rfl (pi_list (pv 9)) (pg_tup (by rfl) (pgs_cons (pg_name (i := 10) sc_wrong_figure.nd rfl (.inl rfl)) (pgs_cons (pg_name (i := 11) sc_wrong_figure.nd rfl (.inl rfl)) pgs_nil)))
         (pss_one (ps_if (pt_not (pt_val (pv 11)))
             (pss_one (ps_ret (pv 10)))
             pss_nil)))
      (pss_one (ps_ret pe_non)))), ?_⟩
    have k4 := kit_d (K := K) (T := "bool") (by decide) d4
    refine ⟨_, rfl, x1, d1, 1, 6, rfl, h1, (by show 2 ≤ sizeLine; decide), fun t1 n1 => ?_⟩
    have s1 := same_new (o := .tup [.str (Str.ofString "parts"), .bl (numIn d1 1 6)]) n1
    refine ⟨_, rfl, x2, d2, 1, 14, rfl, dp_same s1 h2, (by show 2 ≤ sizeLine; decide), fun t2 n2 => ?_⟩
    have s2 := s1.trans (same_new (o := .tup [.str (Str.ofString "step"), .bl (numIn d2 1 14)]) n2)
    refine ⟨_, rfl, x3, d3, 0, 7, rfl, dp_same s2 h3, (by show 2 ≤ sizeLine; decide), fun t3 n3 => ?_⟩
    have s3 := s2.trans (same_new (o := .tup [.str (Str.ofString "grace"), .bl (numIn d3 0 7)]) n3)
    refine ⟨_, rfl, _, _, _, _, _, rfl, .ty _, ty_of_dp (dp_same s3 h4), k4, (by show 2 ≤ sizeLine; decide), fun t4 n4 => ?_⟩
    have s4 := s3.trans (same_new (o := .tup [.str (Str.ofString "last"), .bl (isK "bool" d4)]) n4)
    refine ⟨_, rfl, x5, d5, 0, 2, rfl, dp_same s4 h5, (by show 2 ≤ sizeLine; decide), fun t5 n5 => ?_⟩
    have s5 := s4.trans (same_new (o := .tup [.str (Str.ofString "misses"), .bl (numIn d5 0 2)]) n5)
    refine ⟨_, rfl, _, rfl, x6, x1, d6, d1, rfl, dp_same s5 h6, dp_same s5 h1, sh, hz, fun G g => ⟨(by show 2 ≤ sizeLine; decide), fun t6 n6 => ?_⟩⟩
    have s6 := (s5.trans g).trans (same_new (o := .tup [.str (Str.ofString "keep"), .bl (keptOk d6 d1)]) n6)
    refine ⟨_, rfl, x7, d7, 0, 100, rfl, dp_same s6 h7, (by show 2 ≤ sizeLine; decide), fun t7 n7 => ?_⟩
    have s7 := s6.trans (same_new (o := .tup [.str (Str.ofString "fine"), .bl (numIn d7 0 100)]) n7)
    refine ⟨_, rfl, x8, d8, 0, 30, rfl, dp_same s7 h8, (by show 2 ≤ sizeLine; decide), fun t8 n8 => ?_⟩
    have s8 := s7.trans (same_new (o := .tup [.str (Str.ofString "falls"), .bl (numIn d8 0 30)]) n8)
    refine ⟨_, rfl, x9, d9, 0, 30, rfl, dp_same s8 h9, (by show 2 ≤ sizeLine; decide), fun t9 n9 => ?_⟩
    have s9 := s8.trans (same_new (o := .tup [.str (Str.ofString "back"), .bl (numIn d9 0 30)]) n9)
    refine ⟨(by show 9 ≤ sizeLine; decide), fun L nL => ?_⟩
    have sL := same_new (o := .lst [.ref t1, .ref t2, .ref t3, .ref t4, .ref t5, .ref t6, .ref t7, .ref t8, .ref t9]) nL
    have c9 := sL _ _ (upd_same (a := t9) (o := .tup [.str (Str.ofString "back"), .bl (numIn d9 0 30)]))
    have m9 := (same_new (o := .tup [.str (Str.ofString "back"), .bl (numIn d9 0 30)]) n9).trans sL
    have c8 := m9 _ _ (upd_same (a := t8) (o := .tup [.str (Str.ofString "falls"), .bl (numIn d8 0 30)]))
    have m8 := (same_new (o := .tup [.str (Str.ofString "falls"), .bl (numIn d8 0 30)]) n8).trans m9
    have c7 := m8 _ _ (upd_same (a := t7) (o := .tup [.str (Str.ofString "fine"), .bl (numIn d7 0 100)]))
    have m7 := (same_new (o := .tup [.str (Str.ofString "fine"), .bl (numIn d7 0 100)]) n7).trans m8
    have c6 := m7 _ _ (upd_same (a := t6) (o := .tup [.str (Str.ofString "keep"), .bl (keptOk d6 d1)]))
    have m6 := (g.trans (same_new (o := .tup [.str (Str.ofString "keep"), .bl (keptOk d6 d1)]) n6)).trans m7
    have c5 := m6 _ _ (upd_same (a := t5) (o := .tup [.str (Str.ofString "misses"), .bl (numIn d5 0 2)]))
    have m5 := (same_new (o := .tup [.str (Str.ofString "misses"), .bl (numIn d5 0 2)]) n5).trans m6
    have c4 := m5 _ _ (upd_same (a := t4) (o := .tup [.str (Str.ofString "last"), .bl (isK "bool" d4)]))
    have m4 := (same_new (o := .tup [.str (Str.ofString "last"), .bl (isK "bool" d4)]) n4).trans m5
    have c3 := m4 _ _ (upd_same (a := t3) (o := .tup [.str (Str.ofString "grace"), .bl (numIn d3 0 7)]))
    have m3 := (same_new (o := .tup [.str (Str.ofString "grace"), .bl (numIn d3 0 7)]) n3).trans m4
    have c2 := m3 _ _ (upd_same (a := t2) (o := .tup [.str (Str.ofString "step"), .bl (numIn d2 1 14)]))
    have m2 := (same_new (o := .tup [.str (Str.ofString "step"), .bl (numIn d2 1 14)]) n2).trans m3
    have c1 := m2 _ _ (upd_same (a := t1) (o := .tup [.str (Str.ofString "parts"), .bl (numIn d1 1 6)]))
    have at9 := at9_of (p1 := (Str.ofString "parts", numIn d1 1 6)) (p2 := (Str.ofString "step", numIn d2 1 14)) (p3 := (Str.ofString "grace", numIn d3 0 7)) (p4 := (Str.ofString "last", isK "bool" d4)) (p5 := (Str.ofString "misses", numIn d5 0 2)) (p6 := (Str.ofString "keep", keptOk d6 d1)) (p7 := (Str.ofString "fine", numIn d7 0 100)) (p8 := (Str.ofString "falls", numIn d8 0 30)) (p9 := (Str.ofString "back", numIn d9 0 30)) c1 c2 c3 c4 c5 c6 c7 c8 c9
    have sAll := s9.trans sL
    refine ⟨_, rfl, L, rfl, ⟨_, SqL.of upd_same⟩, for_list (K := K) (a := L) (xs := [t1, t2, t3, t4, t5, t6, t7, t8, t9].map V.ref) (fun i σ H' => ∃ s10 s11, σ = [some x1, some x2, some x3, some x4, some x5, some x6, some x7, some x8, some x9, some (.ref L), s10, s11] ∧ Same H H' ∧ H' L = some (.lst [.ref t1, .ref t2, .ref t3, .ref t4, .ref t5, .ref t6, .ref t7, .ref t8, .ref t9]) ∧ (∀ (j : Nat) (t : Addr) (p : Str × Bool), [t1, t2, t3, t4, t5, t6, t7, t8, t9][j]? = some t → (figChecks d1 d2 d3 d4 d5 d6 d7 d8 d9)[j]? = some p → H' t = some (.tup [.str p.1, .bl p.2])) ∧ ∀ p ∈ (figChecks d1 d2 d3 d4 d5 d6 d7 d8 d9).take i, p.2 = true) ⟨_, _, rfl, sAll, upd_same, at9, fun p hp => (nomatch hp)⟩ (fun i σ H' _ h => by obtain ⟨_, _, _, _, h, _⟩ := h; exact SqL.of h) (fun i x σ H' hx h => ?_) (fun σ H' h => ?_)⟩
    · obtain ⟨s10, s11, rfl, sm, eL, hat, hall⟩ := h
      obtain ⟨t, p, rfl, hp, ht⟩ := pick9 (ws := figChecks d1 d2 d3 d4 d5 d6 d7 d8 d9) rfl hat hx
      refine ⟨t, _, rfl, .inl (.inl ht), rfl, _, _, rfl, _, _, rfl, rfl, ?_⟩
      obtain ⟨w', b⟩ := p
      cases b with
      | false =>
        refine ⟨_, rfl, _, rfl, iteT ⟨_, rfl, ?_⟩⟩
        rw [← firstWrong_at hall hp]
        exact q _ sm
      | true =>
        refine ⟨_, rfl, _, rfl, iteF ⟨_, _, rfl, sm, eL, hat, fun p' hp' => ?_⟩⟩
        rw [List.take_add_one, hp] at hp'
        rcases List.mem_append.mp hp' with z | z
        · exact hall p' z
        · rw [List.mem_singleton.mp z]
    · obtain ⟨s10, s11, rfl, sm, _, _, hall⟩ := h
      have hf : firstWrong (figChecks d1 d2 d3 d4 d5 d6 d7 d8 d9) = .non := firstWrong_none fun p hp => hall p hp
      rw [hf] at q
      exact q _ sm
/-! ### a rule in the heap -/
structure TRule (K : PySem.W.Frag) (mg : Str → Option Value) (C : Addr) : Prop where
  cl : Cls K C
  n1 : NoAttr K C "parts"
  n2 : NoAttr K C "step"
  n3 : NoAttr K C "grace"
  n4 : NoAttr K C "last"
  n5 : NoAttr K C "misses"
  n6 : NoAttr K C "keep"
  n7 : NoAttr K C "fine"
  n8 : NoAttr K C "falls"
  n9 : NoAttr K C "back"
def ruleF (p s g : Int) (l : Bool) (m : Int) (kt : Addr) (fi fa ba : Int) : List (Str × V) := [("parts", .int p), ("step", .int s), ("grace", .int g), ("last", .bl l), ("misses", .int m), ("keep", .ref kt), ("fine", .int fi), ("falls", .int fa), ("back", .int ba)]
theorem putF_new {f : Str} {v : V} : ∀ {fs : List (Str × V)}, (∀ q ∈ fs, q.1 ≠ f) → putF f v fs = fs ++ [(f, v)]
  | [], _ => rfl
  | (g, x) :: r, h => by
    show (if g = f then (g, v) :: r else (g, x) :: putF f v r) = _
    rw [if_neg (h (g, x) List.mem_cons_self), putF_new fun q hq => h q (List.mem_cons_of_mem _ hq)]
    rfl
theorem unlike9 : (["parts", "step", "grace", "last", "misses", "keep", "fine", "falls", "back"] : List Str).Nodup := by decide +kernel
theorem putF_len (f : Str) (v : V) : ∀ fs : List (Str × V), (putF f v fs).length ≤ fs.length + 1
  | [] => Nat.le_refl _
  | (g, x) :: r => by
    show (if g = f then (g, v) :: r else (g, x) :: putF f v r).length ≤ _
    have := putF_len f v r
    split
    · simp
    · rw [List.length_cons, List.length_cons]
      omega
theorem put_lt {f : Str} {v : V} {fs : List (Str × V)} {n : Nat} (h : fs.length ≤ n) : (putF f v fs).length ≤ n + 1 := Nat.le_trans (putF_len f v fs) (by omega)
theorem ruleF_eq (p s g : Int) (l : Bool) (m : Int) (kt : Addr) (fi fa ba : Int) : putF "back" (.int ba) (putF "falls" (.int fa) (putF "fine" (.int fi) (putF "keep" (.ref kt) (putF "misses" (.int m) (putF "last" (.bl l) (putF "grace" (.int g) (putF "step" (.int s) (putF "parts" (.int p) [])))))))) = ruleF p s g l m kt fi fa ba := by
  have nd := unlike9
  simp only [List.nodup_cons, List.mem_cons, List.not_mem_nil, or_false, not_or] at nd
  obtain ⟨⟨a1, a2, a3, a4, a5, a6, a7, a8⟩, ⟨b1, b2, b3, b4, b5, b6, b7⟩, ⟨c1, c2, c3, c4, c5, c6⟩, ⟨d1, d2, d3, d4, d5⟩, ⟨e1, e2, e3, e4⟩, ⟨f1, f2, f3⟩, ⟨g1, g2⟩, h1, _⟩ := nd
  simp only [putF, if_neg a1, if_neg a2, if_neg a3, if_neg a4, if_neg a5, if_neg a6, if_neg a7, if_neg a8, if_neg b1, if_neg b2, if_neg b3, if_neg b4, if_neg b5, if_neg b6, if_neg b7, if_neg c1, if_neg c2, if_neg c3, if_neg c4, if_neg c5, if_neg c6, if_neg d1, if_neg d2, if_neg d3, if_neg d4, if_neg d5, if_neg e1, if_neg e2, if_neg e3, if_neg e4, if_neg f1, if_neg f2, if_neg f3, if_neg g1, if_neg g2, if_neg h1]
  rfl
/-- what is kept as it is handed in: one number, or a tuple of as many as parts -/
inductive Keep (K : PySem.W.Frag) (H : Hp) (p : Int) (ks : List Int) : V → PyData → Prop where
  | one (k : Int) (h0 : 0 ≤ k) (h1 : k ≤ 100) (e : ks = List.replicate p.toNat k) : Keep K H p ks (.int k) (.int k)
  | all (a : Addr) (h : SqT K H a (ks.map V.int)) (hl : (ks.length : Int) = p) (hb : ∀ k ∈ ks, 0 ≤ k ∧ k ≤ 100) : Keep K H p ks (.ref a) (.tuple (ks.map PyData.int))
structure Figs (p s g m fi fa ba : Int) : Prop where
  p0 : 1 ≤ p
  p1 : p ≤ 6
  s0 : 1 ≤ s
  s1 : s ≤ 14
  g0 : 0 ≤ g
  g1 : g ≤ 7
  m0 : 0 ≤ m
  m1 : m ≤ 2
  fi0 : 0 ≤ fi
  fi1 : fi ≤ 100
  fa0 : 0 ≤ fa
  fa1 : fa ≤ 30
  ba0 : 0 ≤ ba
  ba1 : ba ≤ 30
theorem dpAll_intsT {K : PySem.W.Frag} {H : Hp} {a : Addr} {ns : List Int} (h : SqT K H a (ns.map V.int)) : Dp K H (.ref a) (.tuple (ns.map PyData.int)) := .tup h (dpAll_ints ns)
theorem Keep.dp {K : PySem.W.Frag} {H : Hp} {p : Int} {ks : List Int} {v : V} {d : PyData} (h : Keep K H p ks v d) : Dp K H v d := by
  cases h with
  | one k _ _ _ => exact .int k
  | all a h _ _ => exact dpAll_intsT h
theorem Keep.ok {K : PySem.W.Frag} {H : Hp} {p : Int} {ks : List Int} {v : V} {d : PyData} (h : Keep K H p ks v d) : keptOk d (.int p) = true := by
  cases h with
  | one k h0 h1 _ =>
    show (decide (0 ≤ k) && decide (k ≤ 100)) = true
    rw [decide_eq_true h0, decide_eq_true h1]
    rfl
  | all a _ hl hb =>
    show (PyData.eqv (.int (((ks.map PyData.int).length : Nat) : Int)) (.int p) && (ks.map PyData.int).all fun d => numIn d 0 100) = true
    rw [Bool.and_eq_true]
    refine ⟨?_, ?_⟩
    · rw [List.length_map, hl]
      simp [PyData.eqv]
    · rw [List.all_map, List.all_eq_true]
      intro k hk
      show (decide (0 ≤ k) && decide (k ≤ 100)) = true
      rw [decide_eq_true (hb k hk).1, decide_eq_true (hb k hk).2]
      rfl
theorem right_all {p s g m fi fa ba : Int} {l : Bool} {d6 : PyData} (F : Figs p s g m fi fa ba) (h6 : keptOk d6 (.int p) = true) : firstWrong (figChecks (.int p) (.int s) (.int g) (.bool l) (.int m) d6 (.int fi) (.int fa) (.int ba)) = .non := by
  refine firstWrong_none fun q hq => ?_
  have two : ∀ {i lo hi : Int}, lo ≤ i → i ≤ hi → numIn (.int i) lo hi = true := fun {i lo hi} a b => by
    show (decide (lo ≤ i) && decide (i ≤ hi)) = true
    rw [decide_eq_true a, decide_eq_true b]
    rfl
  unfold figChecks at hq
  simp only [List.mem_cons, List.not_mem_nil, or_false] at hq
  rcases hq with rfl | rfl | rfl | rfl | rfl | rfl | rfl | rfl | rfl
  · exact two F.p0 F.p1
  · exact two F.s0 F.s1
  · exact two F.g0 F.g1
  · rfl
  · exact two F.m0 F.m1
  · exact h6
  · exact two F.fi0 F.fi1
  · exact two F.fa0 F.fa1
  · exact two F.ba0 F.ba1
/-! ### Rule___init__ -/
abbrev s_Rule___init__ : Stmt := inClass (topS 28) 0
abbrev N_Rule___init__ : List Str := ["self", "parts", "step", "grace", "last", "misses", "keep", "fine", "falls", "back", "word"]
theorem sc_Rule___init__ : FnScope N_Rule___init__ ["self", "parts", "step", "grace", "last", "misses", "keep", "fine", "falls", "back"] (defScope s_Rule___init__) := ⟨rfl, rfl, rfl, by decide +kernel, rfl, by decide +kernel, by decide +kernel⟩
def sp_Rule___init__ (K : PySem.W.Frag) (C : Addr) : Sp := fun vs H Q _ => ∃ (x dx : Addr) (p s g : Int) (l : Bool) (m : Int) (kv : V) (kd : PyData) (ks : List Int) (fi fa ba : Int), vs = [.ref x, .int p, .int s, .int g, .bl l, .int m, kv, .int fi, .int fa, .int ba] ∧ H x = some (.ins C dx []) ∧ Figs p s g m fi fa ba ∧ Keep K H p ks kv kd ∧
  ∀ H' kt, But x H H' → H' x = some (.ins C dx (ruleF p s g l m kt fi fa ba)) → SqT K H' kt (ks.map V.int) → Q .non H'
theorem ok_Rule___init__ {f : Addr} {fd : FuncData} {CR : Addr} (TQ : TEq K mg CR "Rule") (T_Rule : TRule K mg CR) (m_isinstance : mg "isinstance" = none) (m_tuple : mg "tuple" = none) (C_wrong_figure : CF P w K mg base 3 "wrong_figure" ["parts", "step", "grace", "last", "misses", "keep", "fine", "falls", "back"] (sp_wrong_figure K)) (F : FunD K "__init__" "Rule.__init__" (defArgs s_Rule___init__) (defBody s_Rule___init__) (defScope s_Rule___init__) [.int 0, .bl false, .int 0, .int 0, .int 0, .int 0, .int 0] [] f fd) : FnOk P w K mg base CX0 4 f fd ["self", "parts", "step", "grace", "last", "misses", "keep", "fine", "falls", "back"] (sp_Rule___init__ K CR) := by
  refine okD F sc_Rule___init__ (fun vs H Q E h => ?_) (fun cdv A outer s H vs Q E hr h => ?_)
  · first | (obtain ⟨_, rfl, _⟩ := h; rfl) | (obtain ⟨_, _, rfl, _⟩ := h; rfl) | (obtain ⟨_, _, _, rfl, _⟩ := h; rfl) | (obtain ⟨_, _, _, _, rfl, _⟩ := h; rfl) | (obtain ⟨_, _, _, _, _, rfl, _⟩ := h; rfl) | (obtain ⟨_, _, _, _, _, _, rfl, _⟩ := h; rfl) | (obtain ⟨_, _, _, _, _, _, _, rfl, _⟩ := h; rfl) | (obtain ⟨_, _, _, _, _, _, _, _, rfl, _⟩ := h; rfl) | (obtain ⟨_, _, _, _, _, _, _, _, _, rfl, _⟩ := h; rfl) | (obtain ⟨_, _, _, _, _, _, _, _, _, _, rfl, _⟩ := h; rfl) | (obtain ⟨_, _, _, _, _, _, _, _, _, _, _, rfl, _⟩ := h; rfl) | (obtain ⟨_, _, _, _, _, _, _, _, _, _, _, _, rfl, _⟩ := h; rfl) | (obtain ⟨_, _, _, _, _, _, _, _, _, _, _, _, _, rfl, _⟩ := h; rfl) | (obtain ⟨_, _, _, _, _, _, _, _, _, _, _, _, _, _, rfl, _⟩ := h; rfl) | (obtain ⟨_, _, _, _, _, _, _, _, _, _, _, _, _, _, _, rfl, _⟩ := h; rfl) | (obtain ⟨_, _, _, _, _, _, _, _, _, _, _, _, _, _, _, _, rfl, _⟩ := h; rfl) | (obtain ⟨_, _, _, _, _, _, _, _, _, _, _, _, _, _, _, _, _, rfl, _⟩ := h; rfl) | (obtain ⟨_, _, _, _, _, _, _, _, _, _, _, _, _, _, _, _, _, _, rfl, _⟩ := h; rfl) | (obtain ⟨_, _, _, _, _, _, _, _, _, _, _, _, _, _, _, _, _, _, _, rfl, _⟩ := h; rfl) | (obtain ⟨_, _, _, _, _, _, _, _, _, _, _, _, _, _, _, _, _, _, _, _, rfl, _⟩ := h; rfl) | (obtain ⟨_, _, _, _, _, _, _, _, _, _, _, _, _, _, _, _, _, _, _, _, _, rfl, _⟩ := h; rfl) | (obtain ⟨_, _, _, _, _, _, _, _, _, _, _, _, _, _, _, _, _, _, _, _, _, _, rfl, _⟩ := h; rfl) | (obtain ⟨_, _, _, _, _, _, _, _, _, _, _, _, _, _, _, _, _, _, _, _, _, _, _, rfl, _⟩ := h; rfl)
  · have hu64 := hr.units
    obtain ⟨x, dx, p, s', g, l, m, kv, kd, ks, fi, fa, ba, rfl, hx, F, hk, q⟩ := h
    refine ⟨_, (pss_cons (ps_set (i := 10) sc_Rule___init__.nd rfl (.inl rfl) (pe_cf C_wrong_figure (hr.mono (by decide)) (by rfl) (pa_cons (pv 1) (pa_cons (pv 2) (pa_cons (pv 3) (pa_cons (pv 4) (pa_cons (pv 5) (pa_cons (pv 6) (pa_cons (pv 7) (pa_cons (pv 8) (pa_cons (pv 9) pa_nil)))))))))))
      (pss_cons (ps_if (pt_cmpR op_notN (pv 10) pe_non (nomark _))
         (pss_one ps_never)
         pss_nil)
      (pss_cons (ps_fld (pv 0) (pv 1) rfl)
      (pss_cons (ps_fld (pv 0) (pv 2) rfl)
      (pss_cons (ps_fld (pv 0) (pv 3) rfl)
      (pss_cons (ps_fld (pv 0) (pv 4) rfl)
      (pss_cons (ps_fld (pv 0) (pv 5) rfl)
      (pss_cons (ps_fld (pv 0) (pe_ifExp (pt_val (pe_callB (kk_isi K) (by rfl) m_isinstance (by decide +kernel) (pa_cons (pv 6) (pa_cons (pe_bltn (v := .ty "tuple") (by rfl) m_tuple (by decide +kernel) rfl) pa_nil)))) (pv 6) (pe_op (kk_repA K) (pe_tup (pa_cons (pv 6) pa_nil)) (pv 1))) rfl)
      (pss_cons (ps_fld (pv 0) (pv 7) rfl)
      (pss_cons (ps_fld (pv 0) (pv 8) rfl)
      (pss_one (ps_fld (pv 0) (pv 9) rfl)))))))))))), ?_⟩
    have hz : ∀ ds, kd = .tuple ds → ds.length ≤ 1000 := fun ds e => by
      cases hk with
      | one k _ _ _ => cases e
      | all a h hl hb =>
        cases e
        rw [List.length_map]
        have := F.p1
        omega
    refine ⟨_, rfl, _, rfl, _, rfl, _, rfl, _, rfl, _, rfl, _, rfl, _, rfl, _, rfl, _, _, _, _, _, _, _, _, _, .int p, .int s', .int g, .bool l, .int m, kd, .int fi, .int fa, .int ba, rfl, ⟨.int _, .int _, .int _, .bl _, .int _, hk.dp, .int _, .int _, .int _⟩, sh_int _, hz, fun H1 s1 => ?_⟩
    rw [right_all F hk.ok]
    refine ⟨_, rfl, rfl, _, rfl, iteF ?_⟩
    refine ⟨_, rfl, _, rfl, x, CR, dx, _, rfl, s1 _ _ hx, T_Rule.cl, T_Rule.n1, by decide, ?_⟩
    refine ⟨_, rfl, _, rfl, x, CR, dx, _, rfl, upd_same, T_Rule.cl, T_Rule.n2, Nat.lt_of_le_of_lt (put_lt (Nat.le_refl 0)) (by decide), ?_⟩
    refine ⟨_, rfl, _, rfl, x, CR, dx, _, rfl, upd_same, T_Rule.cl, T_Rule.n3, Nat.lt_of_le_of_lt (put_lt (put_lt (Nat.le_refl 0))) (by decide), ?_⟩
    refine ⟨_, rfl, _, rfl, x, CR, dx, _, rfl, upd_same, T_Rule.cl, T_Rule.n4, Nat.lt_of_le_of_lt (put_lt (put_lt (put_lt (Nat.le_refl 0)))) (by decide), ?_⟩
    refine ⟨_, rfl, _, rfl, x, CR, dx, _, rfl, upd_same, T_Rule.cl, T_Rule.n5, Nat.lt_of_le_of_lt (put_lt (put_lt (put_lt (put_lt (Nat.le_refl 0))))) (by decide), ?_⟩
    have b5 : But x H (upd (upd (upd (upd (upd H1 x (.ins CR dx (putF "parts" (.int p) []))) x (.ins CR dx (putF "step" (.int s') (putF "parts" (.int p) [])))) x (.ins CR dx (putF "grace" (.int g) (putF "step" (.int s') (putF "parts" (.int p) []))))) x (.ins CR dx (putF "last" (.bl l) (putF "grace" (.int g) (putF "step" (.int s') (putF "parts" (.int p) [])))))) x (.ins CR dx (putF "misses" (.int m) (putF "last" (.bl l) (putF "grace" (.int g) (putF "step" (.int s') (putF "parts" (.int p) []))))))) := (((((But.of s1).trans But.upd).trans But.upd).trans But.upd).trans But.upd).trans But.upd
    have e5 := upd_same (H := (upd (upd (upd (upd H1 x (.ins CR dx (putF "parts" (.int p) []))) x (.ins CR dx (putF "step" (.int s') (putF "parts" (.int p) [])))) x (.ins CR dx (putF "grace" (.int g) (putF "step" (.int s') (putF "parts" (.int p) []))))) x (.ins CR dx (putF "last" (.bl l) (putF "grace" (.int g) (putF "step" (.int s') (putF "parts" (.int p) []))))))) (a := x) (o := .ins CR dx (putF "misses" (.int m) (putF "last" (.bl l) (putF "grace" (.int g) (putF "step" (.int s') (putF "parts" (.int p) []))))))
    cases hk with
    | all a hA hl hb =>
      have hax : ∀ {G : Hp}, But x H G → SqT K G a (ks.map V.int) := fun t => by
        rcases hA with (h | ⟨o, h⟩) | h
        · exact .inl (.inl (t _ _ (ne_of h hx (by intro z; cases z)) h))
        · exact .inl (.inr ⟨o, t _ _ (ne_of h hx (by intro z; cases z)) h⟩)
        · exact .inr h
      refine ⟨_, rfl, _, _, _, _, true, rfl, .ty _, ty_of_dp (dpAll_intsT (hax b5)), kit_ty (a := "tuple") (by decide +kernel), _, rfl, iteT ⟨_, rfl, ?_⟩⟩
      refine ⟨_, rfl, x, CR, dx, _, rfl, e5, T_Rule.cl, T_Rule.n6, Nat.lt_of_le_of_lt (put_lt (put_lt (put_lt (put_lt (put_lt (Nat.le_refl 0)))))) (by decide), ?_⟩
      refine ⟨_, rfl, _, rfl, x, CR, dx, _, rfl, upd_same, T_Rule.cl, T_Rule.n7, Nat.lt_of_le_of_lt (put_lt (put_lt (put_lt (put_lt (put_lt (put_lt (Nat.le_refl 0))))))) (by decide), ?_⟩
      refine ⟨_, rfl, _, rfl, x, CR, dx, _, rfl, upd_same, T_Rule.cl, T_Rule.n8, Nat.lt_of_le_of_lt (put_lt (put_lt (put_lt (put_lt (put_lt (put_lt (put_lt (Nat.le_refl 0)))))))) (by decide), ?_⟩
      refine ⟨_, rfl, _, rfl, x, CR, dx, _, rfl, upd_same, T_Rule.cl, T_Rule.n9, Nat.lt_of_le_of_lt (put_lt (put_lt (put_lt (put_lt (put_lt (put_lt (put_lt (put_lt (Nat.le_refl 0))))))))) (by decide), ?_⟩
      refine q _ a ((((b5.trans But.upd).trans But.upd).trans But.upd).trans But.upd) (by rw [upd_same, ruleF_eq]) (hax ((((b5.trans But.upd).trans But.upd).trans But.upd).trans But.upd))
    | one k h0 h1 ek =>
      refine ⟨_, rfl, _, _, _, _, false, rfl, .ty _, .base (.int k), kit_ty (by decide +kernel), _, rfl, iteF ⟨_, rfl, (by show 1 ≤ sizeLine; decide), fun t ht => ⟨_, rfl, ?_⟩⟩⟩
      have nt : t ≠ x := (ne_of_none e5 ht).symm
      by_cases hp1 : p = 1
      · subst hp1
        refine .inr ⟨t, [.int k], rfl, rfl, SqT.of upd_same, by simp, ?_⟩
        have ek2 : ks = [k] := ek
        refine ⟨_, rfl, x, CR, dx, _, rfl, (by rw [upd_ne nt.symm]; exact e5), T_Rule.cl, T_Rule.n6, Nat.lt_of_le_of_lt (put_lt (put_lt (put_lt (put_lt (put_lt (Nat.le_refl 0)))))) (by decide), ?_⟩
        refine ⟨_, rfl, _, rfl, x, CR, dx, _, rfl, upd_same, T_Rule.cl, T_Rule.n7, Nat.lt_of_le_of_lt (put_lt (put_lt (put_lt (put_lt (put_lt (put_lt (Nat.le_refl 0))))))) (by decide), ?_⟩
        refine ⟨_, rfl, _, rfl, x, CR, dx, _, rfl, upd_same, T_Rule.cl, T_Rule.n8, Nat.lt_of_le_of_lt (put_lt (put_lt (put_lt (put_lt (put_lt (put_lt (put_lt (Nat.le_refl 0)))))))) (by decide), ?_⟩
        refine ⟨_, rfl, _, rfl, x, CR, dx, _, rfl, upd_same, T_Rule.cl, T_Rule.n9, Nat.lt_of_le_of_lt (put_lt (put_lt (put_lt (put_lt (put_lt (put_lt (put_lt (put_lt (Nat.le_refl 0))))))))) (by decide), ?_⟩
        refine q _ t ((((b5.trans (But.new ht)).trans But.upd).trans But.upd).trans But.upd |>.trans But.upd) (by rw [upd_same, ruleF_eq]) (by rw [ek2]; exact SqT.of (by rw [upd_ne nt, upd_ne nt, upd_ne nt, upd_ne nt, upd_same]; rfl))
      · have hp2 : 2 ≤ p := by have := F.p0; omega
        have hp6 : p ≤ 1000 := by have := F.p1; omega
        refine .inl ⟨t, p, [.int k], rfl, rfl, SqT.of upd_same, by simp, hp2, hp6, (by show 1 ≤ 1000; decide), fun t2 ht2 => ?_⟩
        have e6 : (upd (upd (upd (upd (upd (upd H1 x (.ins CR dx (putF "parts" (.int p) []))) x (.ins CR dx (putF "step" (.int s') (putF "parts" (.int p) [])))) x (.ins CR dx (putF "grace" (.int g) (putF "step" (.int s') (putF "parts" (.int p) []))))) x (.ins CR dx (putF "last" (.bl l) (putF "grace" (.int g) (putF "step" (.int s') (putF "parts" (.int p) [])))))) x (.ins CR dx (putF "misses" (.int m) (putF "last" (.bl l) (putF "grace" (.int g) (putF "step" (.int s') (putF "parts" (.int p) []))))))) t (.tup [.int k])) x = _ := (upd_ne nt.symm).trans e5
        have nt2 : t2 ≠ x := (ne_of_none e6 ht2).symm
        refine ⟨_, rfl, x, CR, dx, _, rfl, (by rw [upd_ne nt2.symm]; exact e6), T_Rule.cl, T_Rule.n6, Nat.lt_of_le_of_lt (put_lt (put_lt (put_lt (put_lt (put_lt (Nat.le_refl 0)))))) (by decide), ?_⟩
        refine ⟨_, rfl, _, rfl, x, CR, dx, _, rfl, upd_same, T_Rule.cl, T_Rule.n7, Nat.lt_of_le_of_lt (put_lt (put_lt (put_lt (put_lt (put_lt (put_lt (Nat.le_refl 0))))))) (by decide), ?_⟩
        refine ⟨_, rfl, _, rfl, x, CR, dx, _, rfl, upd_same, T_Rule.cl, T_Rule.n8, Nat.lt_of_le_of_lt (put_lt (put_lt (put_lt (put_lt (put_lt (put_lt (put_lt (Nat.le_refl 0)))))))) (by decide), ?_⟩
        refine ⟨_, rfl, _, rfl, x, CR, dx, _, rfl, upd_same, T_Rule.cl, T_Rule.n9, Nat.lt_of_le_of_lt (put_lt (put_lt (put_lt (put_lt (put_lt (put_lt (put_lt (put_lt (Nat.le_refl 0))))))))) (by decide), ?_⟩
        refine q _ t2 ((((b5.trans (But.new ht)).trans (But.new ht2)).trans But.upd).trans But.upd |>.trans But.upd |>.trans But.upd) (by rw [upd_same, ruleF_eq]) (SqT.of (by rw [upd_ne nt2, upd_ne nt2, upd_ne nt2, upd_ne nt2, upd_same, ek, rep1, List.map_replicate]))
structure Fg where
  p : Int
  s : Int
  g : Int
  l : Bool
  m : Int
  ks : List Int
  fi : Int
  fa : Int
  ba : Int
structure Fg.Ok (f : Fg) : Prop where
  figs : Figs f.p f.s f.g f.m f.fi f.fa f.ba
  len : (f.ks.length : Int) = f.p
  bnd : ∀ k ∈ f.ks, 0 ≤ k ∧ k ≤ 100
def RuleAt (K : PySem.W.Frag) (H : Hp) (C r : Addr) (f : Fg) : Prop := ∃ dx kt, H r = some (.ins C dx (ruleF f.p f.s f.g f.l f.m kt f.fi f.fa f.ba)) ∧ SqT K H kt (f.ks.map V.int)
theorem RuleAt.same {K : PySem.W.Frag} {H H' : Hp} {C r : Addr} {f : Fg} (h : RuleAt K H C r f) (e : Same H H') : RuleAt K H' C r f := by
  obtain ⟨dx, kt, h1, h2⟩ := h
  exact ⟨dx, kt, e _ _ h1, seqT_same e h2⟩
section
variable {p s g : Int} {l : Bool} {m : Int} {kt : Addr} {fi fa ba : Int}
theorem lk_ne {x y : Str} {v : V} {r : List (Str × V)} (h : x ≠ y) : List.lookup x ((y, v) :: r) = List.lookup x r := by
  rw [List.lookup_cons, beq_false_of_ne h]
theorem lk_eq {x : Str} {v : V} {r : List (Str × V)} : List.lookup x ((x, v) :: r) = some v := by
  rw [List.lookup_cons, beq_self_eq_true]
theorem lk1 : (ruleF p s g l m kt fi fa ba).lookup ("parts" : Str) = some (V.int p) := lk_eq
theorem lk2 : (ruleF p s g l m kt fi fa ba).lookup ("step" : Str) = some (V.int s) := by
  unfold ruleF
  rw [lk_ne (by decide +kernel), lk_eq]
theorem lk3 : (ruleF p s g l m kt fi fa ba).lookup ("grace" : Str) = some (V.int g) := by
  unfold ruleF
  rw [lk_ne (by decide +kernel), lk_ne (by decide +kernel), lk_eq]
theorem lk4 : (ruleF p s g l m kt fi fa ba).lookup ("last" : Str) = some (V.bl l) := by
  unfold ruleF
  rw [lk_ne (by decide +kernel), lk_ne (by decide +kernel), lk_ne (by decide +kernel), lk_eq]
theorem lk5 : (ruleF p s g l m kt fi fa ba).lookup ("misses" : Str) = some (V.int m) := by
  unfold ruleF
  rw [lk_ne (by decide +kernel), lk_ne (by decide +kernel), lk_ne (by decide +kernel), lk_ne (by decide +kernel), lk_eq]
theorem lk6 : (ruleF p s g l m kt fi fa ba).lookup ("keep" : Str) = some (V.ref kt) := by
  unfold ruleF
  rw [lk_ne (by decide +kernel), lk_ne (by decide +kernel), lk_ne (by decide +kernel), lk_ne (by decide +kernel), lk_ne (by decide +kernel), lk_eq]
theorem lk7 : (ruleF p s g l m kt fi fa ba).lookup ("fine" : Str) = some (V.int fi) := by
  unfold ruleF
  rw [lk_ne (by decide +kernel), lk_ne (by decide +kernel), lk_ne (by decide +kernel), lk_ne (by decide +kernel), lk_ne (by decide +kernel), lk_ne (by decide +kernel), lk_eq]
theorem lk8 : (ruleF p s g l m kt fi fa ba).lookup ("falls" : Str) = some (V.int fa) := by
  unfold ruleF
  rw [lk_ne (by decide +kernel), lk_ne (by decide +kernel), lk_ne (by decide +kernel), lk_ne (by decide +kernel), lk_ne (by decide +kernel), lk_ne (by decide +kernel), lk_ne (by decide +kernel), lk_eq]
theorem lk9 : (ruleF p s g l m kt fi fa ba).lookup ("back" : Str) = some (V.int ba) := by
  unfold ruleF
  rw [lk_ne (by decide +kernel), lk_ne (by decide +kernel), lk_ne (by decide +kernel), lk_ne (by decide +kernel), lk_ne (by decide +kernel), lk_ne (by decide +kernel), lk_ne (by decide +kernel), lk_ne (by decide +kernel), lk_eq]
theorem lk0 {x : Str} (h : x ∉ (["parts", "step", "grace", "last", "misses", "keep", "fine", "falls", "back"] : List Str)) : (ruleF p s g l m kt fi fa ba).lookup x = none := by
  simp only [List.mem_cons, List.not_mem_nil, or_false, not_or] at h
  obtain ⟨h1, h2, h3, h4, h5, h6, h7, h8, h9⟩ := h
  unfold ruleF
  rw [lk_ne h1, lk_ne h2, lk_ne h3, lk_ne h4, lk_ne h5, lk_ne h6, lk_ne h7, lk_ne h8, lk_ne h9]
  rfl
end
def keptV (f : Fg) (k : Int) (gone : Bool) : Int := if gone then (if k + f.fi < 100 then k + f.fi else 100) else k
/-! ### Rule_keeps -/
abbrev s_Rule_keeps : Stmt := inClass (topS 28) 1
abbrev N_Rule_keeps : List Str := ["self", "paid", "gone", "percent"]
theorem sc_Rule_keeps : FnScope N_Rule_keeps ["self", "paid", "gone"] (defScope s_Rule_keeps) := ⟨rfl, rfl, rfl, by decide +kernel, rfl, by decide +kernel, by decide +kernel⟩
def sp_Rule_keeps (K : PySem.W.Frag) (C : Addr) : Sp := fun vs H Q _ => ∃ (r : Addr) (i : Int) (gone : Bool) (f : Fg) (k : Int), vs = [.ref r, .int i, .bl gone] ∧ RuleAt K H C r f ∧ f.Ok ∧ 0 ≤ i ∧ i < f.p ∧ f.ks[i.toNat]? = some k ∧ Q (.int (keptV f k gone)) H
theorem ok_Rule_keeps {f : Addr} {fd : FuncData} {CR : Addr} (TQ : TEq K mg CR "Rule") (T_Rule : TRule K mg CR) (m_max : mg "max" = none) (m_min : mg "min" = none) (F : FunD K "keeps" "Rule.keeps" (defArgs s_Rule_keeps) (defBody s_Rule_keeps) (defScope s_Rule_keeps) [.bl false] [] f fd) : FnOk P w K mg base CX0 1 f fd ["self", "paid", "gone"] (sp_Rule_keeps K CR) := by
  refine okD F sc_Rule_keeps (fun vs H Q E h => ?_) (fun cdv A outer s H vs Q E hr h => ?_)
  · first | (obtain ⟨_, rfl, _⟩ := h; rfl) | (obtain ⟨_, _, rfl, _⟩ := h; rfl) | (obtain ⟨_, _, _, rfl, _⟩ := h; rfl) | (obtain ⟨_, _, _, _, rfl, _⟩ := h; rfl) | (obtain ⟨_, _, _, _, _, rfl, _⟩ := h; rfl) | (obtain ⟨_, _, _, _, _, _, rfl, _⟩ := h; rfl) | (obtain ⟨_, _, _, _, _, _, _, rfl, _⟩ := h; rfl) | (obtain ⟨_, _, _, _, _, _, _, _, rfl, _⟩ := h; rfl) | (obtain ⟨_, _, _, _, _, _, _, _, _, rfl, _⟩ := h; rfl) | (obtain ⟨_, _, _, _, _, _, _, _, _, _, rfl, _⟩ := h; rfl) | (obtain ⟨_, _, _, _, _, _, _, _, _, _, _, rfl, _⟩ := h; rfl) | (obtain ⟨_, _, _, _, _, _, _, _, _, _, _, _, rfl, _⟩ := h; rfl) | (obtain ⟨_, _, _, _, _, _, _, _, _, _, _, _, _, rfl, _⟩ := h; rfl) | (obtain ⟨_, _, _, _, _, _, _, _, _, _, _, _, _, _, rfl, _⟩ := h; rfl) | (obtain ⟨_, _, _, _, _, _, _, _, _, _, _, _, _, _, _, rfl, _⟩ := h; rfl)
  · have hu64 := hr.units
    obtain ⟨r, i, gone, f', k, rfl, ⟨dx, kt, h1, h2⟩, ok, i0, i1, hk, q⟩ := h
    refine ⟨_, (pss_cons (ps_set (i := 3) sc_Rule_keeps.nd rfl (.inl rfl) (pe_ix (kk_ixt K) (pe_fld (pv 0) rfl) (pe_callB (call_max2 rfl) (by rfl) m_max (by decide +kernel) (pa_cons pe_int (pa_cons (pe_callB (call_min2 rfl) (by rfl) m_min (by decide +kernel) (pa_cons (pv 1) (pa_cons (pe_op op_sub (pe_fld (pv 0) rfl) pe_int) pa_nil))) pa_nil))) (fun _ _ => rfl)))
      (pss_cons (ps_if (pt_val (pv 2))
         (pss_one (ps_ret (pe_callB (call_min2 rfl) (by rfl) m_min (by decide +kernel) (pa_cons pe_int (pa_cons (pe_op op_add (pv 3) (pe_fld (pv 0) rfl)) pa_nil)))))
         pss_nil)
      (pss_one (ps_ret (pv 3))))), ?_⟩
    have hidx : (if (if f'.p - 1 < i then f'.p - 1 else i) > 0 then (if f'.p - 1 < i then f'.p - 1 else i) else 0) = i := by
      rw [if_neg (show ¬ (f'.p - 1 < i) by omega)]
      split <;> omega
    have hat : atI (f'.ks.map V.int) i = some (.int k) := by
      obtain ⟨j, rfl⟩ := Int.eq_ofNat_of_zero_le i0
      rw [Int.toNat_natCast] at hk
      refine atI_nat ?_
      rw [List.getElem?_map, hk]
      rfl
    refine ⟨_, rfl, r, CR, dx, _, _, rfl, h1, T_Rule.cl, T_Rule.n6, lk6, _, rfl, _, rfl, r, CR, dx, _, _, rfl, h1, T_Rule.cl, T_Rule.n1, lk1, _, _, rfl, rfl, _, _, rfl, _, _, rfl, kt, _, _, .int k, rfl, rfl, h2, by rw [hidx]; exact hat, ?_⟩
    cases gone with
    | false => exact ⟨_, rfl, _, rfl, iteF ⟨_, rfl, q⟩⟩
    | true => exact ⟨_, rfl, _, rfl, iteT ⟨_, rfl, _, rfl, r, CR, dx, _, _, rfl, h1, T_Rule.cl, T_Rule.n7, lk7, _, _, rfl, rfl, _, _, rfl, q⟩⟩
/-! ### Rule_figures -/
abbrev s_Rule_figures : Stmt := inClass (topS 28) 2
abbrev N_Rule_figures : List Str := ["self"]
theorem sc_Rule_figures : FnScope N_Rule_figures ["self"] (defScope s_Rule_figures) := ⟨rfl, rfl, rfl, by decide +kernel, rfl, by decide +kernel, by decide +kernel⟩
def sp_Rule_figures (K : PySem.W.Frag) (C : Addr) : Sp := fun vs H Q _ => ∃ (r : Addr) (f : Fg), vs = [.ref r] ∧ RuleAt K H C r f ∧ ∀ H' t kt, H t = none → Same H H' → H' t = some (.tup [.int f.p, .int f.s, .int f.g, .bl f.l, .int f.m, .ref kt, .int f.fi, .int f.fa, .int f.ba]) → SqT K H' kt (f.ks.map V.int) → Q (.ref t) H'
theorem ok_Rule_figures {f : Addr} {fd : FuncData} {CR : Addr} (TQ : TEq K mg CR "Rule") (T_Rule : TRule K mg CR) (F : FunD K "figures" "Rule.figures" (defArgs s_Rule_figures) (defBody s_Rule_figures) (defScope s_Rule_figures) [] [] f fd) : FnOk P w K mg base CX0 1 f fd ["self"] (sp_Rule_figures K CR) := by
  refine okD F sc_Rule_figures (fun vs H Q E h => ?_) (fun cdv A outer s H vs Q E hr h => ?_)
  · first | (obtain ⟨_, rfl, _⟩ := h; rfl) | (obtain ⟨_, _, rfl, _⟩ := h; rfl) | (obtain ⟨_, _, _, rfl, _⟩ := h; rfl) | (obtain ⟨_, _, _, _, rfl, _⟩ := h; rfl) | (obtain ⟨_, _, _, _, _, rfl, _⟩ := h; rfl) | (obtain ⟨_, _, _, _, _, _, rfl, _⟩ := h; rfl) | (obtain ⟨_, _, _, _, _, _, _, rfl, _⟩ := h; rfl) | (obtain ⟨_, _, _, _, _, _, _, _, rfl, _⟩ := h; rfl) | (obtain ⟨_, _, _, _, _, _, _, _, _, rfl, _⟩ := h; rfl) | (obtain ⟨_, _, _, _, _, _, _, _, _, _, rfl, _⟩ := h; rfl) | (obtain ⟨_, _, _, _, _, _, _, _, _, _, _, rfl, _⟩ := h; rfl) | (obtain ⟨_, _, _, _, _, _, _, _, _, _, _, _, rfl, _⟩ := h; rfl) | (obtain ⟨_, _, _, _, _, _, _, _, _, _, _, _, _, rfl, _⟩ := h; rfl) | (obtain ⟨_, _, _, _, _, _, _, _, _, _, _, _, _, _, rfl, _⟩ := h; rfl) | (obtain ⟨_, _, _, _, _, _, _, _, _, _, _, _, _, _, _, rfl, _⟩ := h; rfl)
  · have hu64 := hr.units
    obtain ⟨r, f', rfl, ⟨dx, kt, h1, h2⟩, q⟩ := h
    refine ⟨_, (pss_one (ps_ret (pe_tup (pa_cons (pe_fld (pv 0) rfl) (pa_cons (pe_fld (pv 0) rfl) (pa_cons (pe_fld (pv 0) rfl) (pa_cons (pe_fld (pv 0) rfl) (pa_cons (pe_fld (pv 0) rfl) (pa_cons (pe_fld (pv 0) rfl) (pa_cons (pe_fld (pv 0) rfl) (pa_cons (pe_fld (pv 0) rfl) (pa_cons (pe_fld (pv 0) rfl) pa_nil)))))))))))), ?_⟩
    refine ⟨_, rfl, r, CR, dx, _, _, rfl, h1, T_Rule.cl, T_Rule.n1, lk1, ?_⟩
    refine ⟨_, rfl, r, CR, dx, _, _, rfl, h1, T_Rule.cl, T_Rule.n2, lk2, ?_⟩
    refine ⟨_, rfl, r, CR, dx, _, _, rfl, h1, T_Rule.cl, T_Rule.n3, lk3, ?_⟩
    refine ⟨_, rfl, r, CR, dx, _, _, rfl, h1, T_Rule.cl, T_Rule.n4, lk4, ?_⟩
    refine ⟨_, rfl, r, CR, dx, _, _, rfl, h1, T_Rule.cl, T_Rule.n5, lk5, ?_⟩
    refine ⟨_, rfl, r, CR, dx, _, _, rfl, h1, T_Rule.cl, T_Rule.n6, lk6, ?_⟩
    refine ⟨_, rfl, r, CR, dx, _, _, rfl, h1, T_Rule.cl, T_Rule.n7, lk7, ?_⟩
    refine ⟨_, rfl, r, CR, dx, _, _, rfl, h1, T_Rule.cl, T_Rule.n8, lk8, ?_⟩
    refine ⟨_, rfl, r, CR, dx, _, _, rfl, h1, T_Rule.cl, T_Rule.n9, lk9, (by show 9 ≤ sizeLine; decide), fun t ht => ?_⟩
    exact q _ t kt ht (same_new ht) upd_same (seqT_same (same_new ht) h2)
/-! ### Rule___len__ -/
abbrev s_Rule___len__ : Stmt := inClass (topS 28) 4
abbrev N_Rule___len__ : List Str := ["self"]
theorem sc_Rule___len__ : FnScope N_Rule___len__ ["self"] (defScope s_Rule___len__) := ⟨rfl, rfl, rfl, by decide +kernel, rfl, by decide +kernel, by decide +kernel⟩
def sp_Rule___len__ (K : PySem.W.Frag) (C : Addr) : Sp := fun vs H Q _ => ∃ (r : Addr) (f : Fg), vs = [.ref r] ∧ RuleAt K H C r f ∧ Q (.int f.ks.length) H
theorem ok_Rule___len__ {f : Addr} {fd : FuncData} {CR : Addr} (TQ : TEq K mg CR "Rule") (T_Rule : TRule K mg CR) (m_len : mg "len" = none) (F : FunD K "__len__" "Rule.__len__" (defArgs s_Rule___len__) (defBody s_Rule___len__) (defScope s_Rule___len__) [] [] f fd) : FnOk P w K mg base CX0 1 f fd ["self"] (sp_Rule___len__ K CR) := by
  refine okD F sc_Rule___len__ (fun vs H Q E h => ?_) (fun cdv A outer s H vs Q E hr h => ?_)
  · first | (obtain ⟨_, rfl, _⟩ := h; rfl) | (obtain ⟨_, _, rfl, _⟩ := h; rfl) | (obtain ⟨_, _, _, rfl, _⟩ := h; rfl) | (obtain ⟨_, _, _, _, rfl, _⟩ := h; rfl) | (obtain ⟨_, _, _, _, _, rfl, _⟩ := h; rfl) | (obtain ⟨_, _, _, _, _, _, rfl, _⟩ := h; rfl) | (obtain ⟨_, _, _, _, _, _, _, rfl, _⟩ := h; rfl) | (obtain ⟨_, _, _, _, _, _, _, _, rfl, _⟩ := h; rfl) | (obtain ⟨_, _, _, _, _, _, _, _, _, rfl, _⟩ := h; rfl) | (obtain ⟨_, _, _, _, _, _, _, _, _, _, rfl, _⟩ := h; rfl) | (obtain ⟨_, _, _, _, _, _, _, _, _, _, _, rfl, _⟩ := h; rfl) | (obtain ⟨_, _, _, _, _, _, _, _, _, _, _, _, rfl, _⟩ := h; rfl) | (obtain ⟨_, _, _, _, _, _, _, _, _, _, _, _, _, rfl, _⟩ := h; rfl) | (obtain ⟨_, _, _, _, _, _, _, _, _, _, _, _, _, _, rfl, _⟩ := h; rfl) | (obtain ⟨_, _, _, _, _, _, _, _, _, _, _, _, _, _, _, rfl, _⟩ := h; rfl)
  · have hu64 := hr.units
    obtain ⟨r, f', rfl, ⟨dx, kt, h1, h2⟩, q⟩ := h
    refine ⟨_, (pss_one (ps_ret (pe_callB (kk_len K) (by rfl) m_len PySem.boot_len (pa_cons (pe_fld (pv 0) rfl) pa_nil)))), ?_⟩
    refine ⟨_, rfl, r, CR, dx, _, _, rfl, h1, T_Rule.cl, T_Rule.n6, lk6, kt, _, rfl, .inr h2, ?_⟩
    rw [List.length_map]
    exact q
/-! ### passed_to -/
abbrev s_passed_to : Stmt := topS 4
abbrev N_passed_to : List Str := ["rule", "state", "day", "word", "due", "paid", "missed"]
theorem sc_passed_to : FnScope N_passed_to ["rule", "state", "day"] (defScope s_passed_to) := ⟨rfl, rfl, rfl, by decide +kernel, rfl, by decide +kernel, by decide +kernel⟩
def sp_passed_to (K : PySem.W.Frag) (C : Addr) : Sp := fun vs H Q _ => ∃ (r a : Addr) (day : Int) (f : Fg) (c : Cs), vs = [.ref r, .ref a, .int day] ∧ RuleAt K H C r f ∧ StAt K H a c ∧ c.m ≤ f.m ∧ ∀ H' b, Same H H' → StAt K H' b (passT f.s f.g f.m c day) → Q (.ref b) H'
theorem ok_passed_to {f : Addr} {fd : FuncData} (F : Fun K "passed_to" "passed_to" s_passed_to f fd) (g : mg "passed_to" = some (.ref f)) (bd : Binds K fd ["rule", "state", "day"] []) {CR : Addr} (TQ : TEq K mg CR "Rule") (T_Rule : TRule K mg CR) : CF P w K mg base 1 "passed_to" ["rule", "state", "day"] (sp_passed_to K CR) := by
  refine ⟨f, fd, F.ok sc_passed_to (fun vs H Q E h => ?_) (fun cdv A outer s H vs Q E hr h => ?_), g, F.kp, bd⟩
  · first | (obtain ⟨_, rfl, _⟩ := h; rfl) | (obtain ⟨_, _, rfl, _⟩ := h; rfl) | (obtain ⟨_, _, _, rfl, _⟩ := h; rfl) | (obtain ⟨_, _, _, _, rfl, _⟩ := h; rfl) | (obtain ⟨_, _, _, _, _, rfl, _⟩ := h; rfl) | (obtain ⟨_, _, _, _, _, _, rfl, _⟩ := h; rfl) | (obtain ⟨_, _, _, _, _, _, _, rfl, _⟩ := h; rfl) | (obtain ⟨_, _, _, _, _, _, _, _, rfl, _⟩ := h; rfl) | (obtain ⟨_, _, _, _, _, _, _, _, _, rfl, _⟩ := h; rfl) | (obtain ⟨_, _, _, _, _, _, _, _, _, _, rfl, _⟩ := h; rfl) | (obtain ⟨_, _, _, _, _, _, _, _, _, _, _, rfl, _⟩ := h; rfl) | (obtain ⟨_, _, _, _, _, _, _, _, _, _, _, _, rfl, _⟩ := h; rfl) | (obtain ⟨_, _, _, _, _, _, _, _, _, _, _, _, _, rfl, _⟩ := h; rfl) | (obtain ⟨_, _, _, _, _, _, _, _, _, _, _, _, _, _, rfl, _⟩ := h; rfl) | (obtain ⟨_, _, _, _, _, _, _, _, _, _, _, _, _, _, _, rfl, _⟩ := h; rfl)
  · have hu64 := hr.units
    obtain ⟨r, a, day, f', c, rfl, hR, hc, hm, q⟩ := h
    refine ⟨_, (pss_cons (ps_asg (pv 1) (pg_tup (by rfl) (pgs_cons (pg_name (i := 3) sc_passed_to.nd rfl (.inl rfl)) (pgs_cons (pg_name (i := 4) sc_passed_to.nd rfl (.inl rfl)) (pgs_cons (pg_name (i := 5) sc_passed_to.nd rfl (.inl rfl)) (pgs_cons (pg_name (i := 6) sc_passed_to.nd rfl (.inl rfl)) pgs_nil))))))
      (pss_cons (ps_if (pt_cmpR op_ne (pv 3) pe_str (nomark _))
         (pss_one (ps_ret (pv 1)))
         pss_nil)
      (pss_cons (ps_while PassesOwn.never (pt_cmpR op_lt (pe_op op_add (pv 4) (pe_fld (pv 0) rfl)) (pv 2) (nomark _))
         (pss_cons (ps_if (pt_cmpR op_eq (pv 6) (pe_fld (pv 0) rfl) (nomark _))
             (pss_one (ps_ret (pe_tup (pa_cons pe_str (pa_cons (pe_op op_add (pe_op op_add (pv 4) (pe_fld (pv 0) rfl)) pe_int) (pa_cons (pv 5) (pa_cons (pv 6) pa_nil)))))))
             pss_nil)
          (pss_cons (ps_aug (i := 6) sc_passed_to.nd rfl (.inl rfl) pe_int ip_add)
          (pss_one (ps_aug (i := 4) sc_passed_to.nd rfl (.inl rfl) (pe_fld (pv 0) rfl) ip_add)))))
      (pss_one (ps_ret (pe_tup (pa_cons pe_str (pa_cons (pv 4) (pa_cons (pv 5) (pa_cons (pv 6) pa_nil)))))))))), ?_⟩
    obtain ⟨dx, kt, h1, h2⟩ := id hR
    refine ⟨_, rfl, a, _, rfl, hc, rfl, _, _, rfl, _, _, rfl, _, _, rfl, _, _, rfl, rfl, ?_⟩
    refine ⟨_, rfl, rfl, _, rfl, ?_⟩
    rw [wS_st]
    by_cases hw : c.w = .st
    · rw [decide_eq_true hw]
      refine iteF ?_
      have e0 : passT f'.s f'.g f'.m c day = passN f'.s f'.g (f'.m - c.m).toNat c.d c.p c.m day := by
        unfold passT
        rw [hw]
      rw [e0] at q
      refine ⟨fun n σ H' => ∃ (d m : Int), σ = [some (.ref r), some (.ref a), some (.int day), some (.str (wS c.w)), some (.int d), some (.int c.p), some (.int m)] ∧ H' = H ∧ m ≤ f'.m ∧ n = (f'.m - m).toNat ∧ passN f'.s f'.g (f'.m - m).toNat d c.p m day = passN f'.s f'.g (f'.m - c.m).toNat c.d c.p c.m day, ⟨_, c.d, c.m, rfl, rfl, hm, rfl, rfl⟩, fun n σ H' h => ?_⟩
      · obtain ⟨d, m, rfl, rfl, hm2, hn, hp⟩ := h
        refine ⟨_, rfl, _, rfl, r, CR, dx, _, _, rfl, h1, T_Rule.cl, T_Rule.n3, lk3, _, _, rfl, rfl, _, rfl, _, _, rfl, rfl, _, rfl, ite2 (fun e => ?_) (fun e => ?_)⟩
        · have e1 := of_decide_eq_true e
          by_cases z1 : m = f'.m
          · refine ⟨fun _ _ => False, fun _ _ h => h.elim, ?_⟩
            refine ⟨_, rfl, _, rfl, r, CR, dx, _, _, rfl, h1, T_Rule.cl, T_Rule.n5, lk5, rfl, _, rfl, ite2 (fun z => ?_) (fun z => absurd (decide_eq_true (by rw [z1])) z)⟩
            refine ⟨_, rfl, _, rfl, r, CR, dx, _, _, rfl, h1, T_Rule.cl, T_Rule.n3, lk3, _, _, rfl, rfl, _, _, rfl, rfl, _, rfl, _, rfl, (by show 4 ≤ sizeLine; decide), fun t nt => ?_⟩
            refine q _ t (same_new nt) (SqT.of ?_)
            rw [upd_same, ← hp, z1, show (f'.m - f'.m).toNat = 0 by omega, passN_go e1]
            rfl
          · refine ⟨_, fun σ2 H2 h2 => ⟨n - 1, by omega, h2⟩, ?_⟩
            refine ⟨_, rfl, _, rfl, r, CR, dx, _, _, rfl, h1, T_Rule.cl, T_Rule.n5, lk5, rfl, _, rfl, ite2 (fun z => absurd (V.int.inj (of_decide_eq_true z)) z1) (fun z => ?_)⟩
            refine ⟨_, rfl, _, _, rfl, rfl, ?_⟩
            refine ⟨_, rfl, _, rfl, r, CR, dx, _, _, rfl, h1, T_Rule.cl, T_Rule.n2, lk2, _, _, rfl, rfl, ?_⟩
            refine ⟨d + f'.s, m + 1, rfl, rfl, by omega, by omega, ?_⟩
            rw [← hp, show (f'.m - m).toNat = (f'.m - (m + 1)).toNat + 1 by omega, passN_on e1]
        · have e1 : ¬ d + f'.g < day := fun y => e (decide_eq_true y)
          refine ⟨_, rfl, _, rfl, _, rfl, (by show 4 ≤ sizeLine; decide), fun t nt => ?_⟩
          refine q _ t (same_new nt) (SqT.of ?_)
          rw [upd_same, ← hp, passN_st e1]
          rfl
    · rw [decide_eq_false hw]
      rw [passT_over hw] at q
      exact iteT ⟨_, rfl, q _ a (Same.refl H) hc⟩
/-! ### paid_on -/
abbrev s_paid_on : Stmt := topS 5
abbrev N_paid_on : List Str := ["rule", "state", "day", "word", "due", "paid", "missed", "counted_from"]
theorem sc_paid_on : FnScope N_paid_on ["rule", "state", "day"] (defScope s_paid_on) := ⟨rfl, rfl, rfl, by decide +kernel, rfl, by decide +kernel, by decide +kernel⟩
def sp_paid_on (K : PySem.W.Frag) (C : Addr) : Sp := fun vs H Q _ => ∃ (r a : Addr) (day : Int) (f : Fg) (c : Cs), vs = [.ref r, .ref a, .int day] ∧ RuleAt K H C r f ∧ f.Ok ∧ StAt K H a c ∧ ∀ H' b, Same H H' → StAt K H' b (payT f.p f.s f.l c day) → Q (.ref b) H'
theorem ok_paid_on {f : Addr} {fd : FuncData} (F : Fun K "paid_on" "paid_on" s_paid_on f fd) (g : mg "paid_on" = some (.ref f)) (bd : Binds K fd ["rule", "state", "day"] []) {CR : Addr} (TQ : TEq K mg CR "Rule") (T_Rule : TRule K mg CR) (m_len : mg "len" = none) (C_Rule___len___0 : CMt P w K mg base CR 1 "__len__" ["self"] [] (sp_Rule___len__ K CR)) : CF P w K mg base 3 "paid_on" ["rule", "state", "day"] (sp_paid_on K CR) := by
  refine ⟨f, fd, F.ok sc_paid_on (fun vs H Q E h => ?_) (fun cdv A outer s H vs Q E hr h => ?_), g, F.kp, bd⟩
  · first | (obtain ⟨_, rfl, _⟩ := h; rfl) | (obtain ⟨_, _, rfl, _⟩ := h; rfl) | (obtain ⟨_, _, _, rfl, _⟩ := h; rfl) | (obtain ⟨_, _, _, _, rfl, _⟩ := h; rfl) | (obtain ⟨_, _, _, _, _, rfl, _⟩ := h; rfl) | (obtain ⟨_, _, _, _, _, _, rfl, _⟩ := h; rfl) | (obtain ⟨_, _, _, _, _, _, _, rfl, _⟩ := h; rfl) | (obtain ⟨_, _, _, _, _, _, _, _, rfl, _⟩ := h; rfl) | (obtain ⟨_, _, _, _, _, _, _, _, _, rfl, _⟩ := h; rfl) | (obtain ⟨_, _, _, _, _, _, _, _, _, _, rfl, _⟩ := h; rfl) | (obtain ⟨_, _, _, _, _, _, _, _, _, _, _, rfl, _⟩ := h; rfl) | (obtain ⟨_, _, _, _, _, _, _, _, _, _, _, _, rfl, _⟩ := h; rfl) | (obtain ⟨_, _, _, _, _, _, _, _, _, _, _, _, _, rfl, _⟩ := h; rfl) | (obtain ⟨_, _, _, _, _, _, _, _, _, _, _, _, _, _, rfl, _⟩ := h; rfl) | (obtain ⟨_, _, _, _, _, _, _, _, _, _, _, _, _, _, _, rfl, _⟩ := h; rfl)
  · have hu64 := hr.units
    obtain ⟨r, a, day, f', c, rfl, hR, ok, hc, q⟩ := h
    refine ⟨_, (pss_cons (ps_asg (pv 1) (pg_tup (by rfl) (pgs_cons (pg_name (i := 3) sc_paid_on.nd rfl (.inl rfl)) (pgs_cons (pg_name (i := 4) sc_paid_on.nd rfl (.inl rfl)) (pgs_cons (pg_name (i := 5) sc_paid_on.nd rfl (.inl rfl)) (pgs_cons (pg_name (i := 6) sc_paid_on.nd rfl (.inl rfl)) pgs_nil))))))
      (pss_cons (ps_if (pt_cmpR op_ne (pv 3) pe_str (nomark _))
         (pss_one (ps_ret (pv 1)))
         pss_nil)
      (pss_cons (ps_if (pt_cmpR op_eq (pe_op op_add (pv 5) pe_int) (pe_callB (call_lenO C_Rule___len___0 (hr.mono (by decide))) (by rfl) m_len PySem.boot_len (pa_cons (pv 0) pa_nil)) (nomark _))
         (pss_one (ps_ret (pe_tup (pa_cons pe_str (pa_cons (pv 2) (pa_cons (pe_op op_add (pv 5) pe_int) (pa_cons (pv 6) pa_nil)))))))
         pss_nil)
      (pss_cons (ps_set (i := 7) sc_paid_on.nd rfl (.inl rfl) (pe_ifExp (pt_val (pe_fld (pv 0) rfl)) (pv 2) (pv 4)))
      (pss_one (ps_ret (pe_tup (pa_cons pe_str (pa_cons (pe_op op_add (pv 7) (pe_fld (pv 0) rfl)) (pa_cons (pe_op op_add (pv 5) pe_int) (pa_cons (pv 6) pa_nil))))))))))), ?_⟩
    obtain ⟨dx, kt, h1, h2⟩ := id hR
    have p0 := ok.figs.p0
    have p1 := ok.figs.p1
    have pl := ok.len
    refine ⟨_, rfl, a, _, rfl, hc, rfl, _, _, rfl, _, _, rfl, _, _, rfl, _, _, rfl, rfl, ?_⟩
    refine ⟨_, rfl, rfl, _, rfl, ?_⟩
    rw [wS_st]
    by_cases hw : c.w = .st
    · rw [decide_eq_true hw]
      refine iteF ?_
      have e0 : payT f'.p f'.s f'.l c day = if c.p + 1 = f'.p then ⟨.so, day, c.p + 1, c.m⟩ else ⟨.st, (if f'.l then day else c.d) + f'.s, c.p + 1, c.m⟩ := by
        unfold payT
        rw [hw]
      rw [e0] at q
      refine ⟨_, rfl, _, _, rfl, rfl, _, rfl, r, dx, _, rfl, h1, r, f', rfl, hR, _, rfl, by omega, by omega, rfl, _, rfl, ite2 (fun z => ?_) (fun z => ?_)⟩
      · have z1 : c.p + 1 = f'.p := by
          have := V.int.inj (of_decide_eq_true z)
          omega
        rw [if_pos z1] at q
        refine ⟨_, rfl, _, rfl, _, _, rfl, rfl, _, rfl, (by show 4 ≤ sizeLine; decide), fun t nt => ?_⟩
        exact q _ t (same_new nt) (SqT.of upd_same)
      · have z1 : ¬ c.p + 1 = f'.p := fun y => z (decide_eq_true (by show V.int (c.p + 1) = _; rw [y, pl]))
        rw [if_neg z1] at q
        refine ⟨_, rfl, r, CR, dx, _, _, rfl, h1, T_Rule.cl, T_Rule.n4, lk4, _, rfl, ?_⟩
        cases hl : f'.l with
        | true =>
          rw [hl, if_pos rfl] at q
          refine iteT ⟨_, rfl, ?_⟩
          refine ⟨_, rfl, _, rfl, r, CR, dx, _, _, rfl, h1, T_Rule.cl, T_Rule.n2, lk2, _, _, rfl, rfl, _, rfl, _, _, rfl, rfl, _, rfl, (by show 4 ≤ sizeLine; decide), fun t nt => ?_⟩
          exact q _ t (same_new nt) (SqT.of upd_same)
        | false =>
          rw [hl, if_neg (by decide)] at q
          refine iteF ⟨_, rfl, ?_⟩
          refine ⟨_, rfl, _, rfl, r, CR, dx, _, _, rfl, h1, T_Rule.cl, T_Rule.n2, lk2, _, _, rfl, rfl, _, rfl, _, _, rfl, rfl, _, rfl, (by show 4 ≤ sizeLine; decide), fun t nt => ?_⟩
          exact q _ t (same_new nt) (SqT.of upd_same)
    · rw [decide_eq_false hw]
      rw [payT_over hw] at q
      exact iteT ⟨_, rfl, q _ a (Same.refl H) hc⟩
/-! ### course -/
abbrev s_course : Stmt := topS 3
abbrev N_course : List Str := ["rule", "days", "end", "state", "day"]
theorem sc_course : FnScope N_course ["rule", "days", "end"] (defScope s_course) := ⟨rfl, rfl, rfl, by decide +kernel, rfl, by decide +kernel, by decide +kernel⟩
def sp_course (K : PySem.W.Frag) (C : Addr) : Sp := fun vs H Q _ => ∃ (r a : Addr) (e : Int) (f : Fg) (ds : List Int), vs = [.ref r, .ref a, .int e] ∧ RuleAt K H C r f ∧ f.Ok ∧ (SqL K H a (ds.map V.int) ∨ SqT K H a (ds.map V.int)) ∧ ∀ H' b, Same H H' → StAt K H' b (courseT f.p f.s f.g f.l f.m ds e) → Q (.ref b) H'
theorem ok_course {f : Addr} {fd : FuncData} (F : Fun K "course" "course" s_course f fd) (g : mg "course" = some (.ref f)) (bd : Binds K fd ["rule", "days", "end"] []) {CR : Addr} (TQ : TEq K mg CR "Rule") (T_Rule : TRule K mg CR) {A_AT_FIRST : Addr} (g_AT_FIRST : mg "AT_FIRST" = some (.ref A_AT_FIRST)) (q_AT_FIRST : ∀ H, SqT K H A_AT_FIRST [.str (Str.ofString "stands"), .int 0, .int 0, .int 0]) (C_paid_on : CF P w K mg base 3 "paid_on" ["rule", "state", "day"] (sp_paid_on K CR)) (C_passed_to : CF P w K mg base 1 "passed_to" ["rule", "state", "day"] (sp_passed_to K CR)) : CF P w K mg base 4 "course" ["rule", "days", "end"] (sp_course K CR) := by
  refine ⟨f, fd, F.ok sc_course (fun vs H Q E h => ?_) (fun cdv A outer s H vs Q E hr h => ?_), g, F.kp, bd⟩
  · first | (obtain ⟨_, rfl, _⟩ := h; rfl) | (obtain ⟨_, _, rfl, _⟩ := h; rfl) | (obtain ⟨_, _, _, rfl, _⟩ := h; rfl) | (obtain ⟨_, _, _, _, rfl, _⟩ := h; rfl) | (obtain ⟨_, _, _, _, _, rfl, _⟩ := h; rfl) | (obtain ⟨_, _, _, _, _, _, rfl, _⟩ := h; rfl) | (obtain ⟨_, _, _, _, _, _, _, rfl, _⟩ := h; rfl) | (obtain ⟨_, _, _, _, _, _, _, _, rfl, _⟩ := h; rfl) | (obtain ⟨_, _, _, _, _, _, _, _, _, rfl, _⟩ := h; rfl) | (obtain ⟨_, _, _, _, _, _, _, _, _, _, rfl, _⟩ := h; rfl) | (obtain ⟨_, _, _, _, _, _, _, _, _, _, _, rfl, _⟩ := h; rfl) | (obtain ⟨_, _, _, _, _, _, _, _, _, _, _, _, rfl, _⟩ := h; rfl) | (obtain ⟨_, _, _, _, _, _, _, _, _, _, _, _, _, rfl, _⟩ := h; rfl) | (obtain ⟨_, _, _, _, _, _, _, _, _, _, _, _, _, _, rfl, _⟩ := h; rfl) | (obtain ⟨_, _, _, _, _, _, _, _, _, _, _, _, _, _, _, rfl, _⟩ := h; rfl)
  · have hu64 := hr.units
    obtain ⟨r, a, e, f', ds, rfl, hR, ok, hS, q⟩ := h
    refine ⟨_, (pss_cons (ps_set (i := 3) sc_course.nd rfl (.inl rfl) (pe_glob (v := .ref A_AT_FIRST) (by rfl) g_AT_FIRST rfl))
      (pss_cons (ps_for PassesOwn.never rfl (pi_or (pi_list (pv 1)) (pi_tup (pv 1))) (pg_name (i := 4) sc_course.nd rfl (.inl rfl))
         (pss_one (ps_if (pt_cmpR op_le (pv 4) (pv 2) (nomark _))
             (pss_one (ps_set (i := 3) sc_course.nd rfl (.inl rfl) (pe_cf C_paid_on (hr.mono (by decide)) (by rfl) (pa_cons (pv 0) (pa_cons (pe_cf C_passed_to (hr.mono (by decide)) (by rfl) (pa_cons (pv 0) (pa_cons (pv 3) (pa_cons (pv 4) pa_nil)))) (pa_cons (pv 4) pa_nil))))))
             pss_nil)))
      (pss_one (ps_ret (pe_cf C_passed_to (hr.mono (by decide)) (by rfl) (pa_cons (pv 0) (pa_cons (pv 3) (pa_cons (pv 2) pa_nil)))))))), ?_⟩
    have m0 := ok.figs.m0
    have fin : ∀ (σ : L2.St) (H' : Hp), (∃ b s4, σ = [some (.ref r), some (.ref a), some (.int e), some (.ref b), s4] ∧ Same H H' ∧ StAt K H' b (ds.foldl (stepT f'.p f'.s f'.g f'.l f'.m e) cs0)) → tRet (tCall (sp_passed_to K CR) [] E0 (tCons (tVar 0) (tCons (tVar 3) (tCons (tVar 2) tNil)))) { nx := fun x H' => Q V.non H', rt := Q } σ H' := fun σ H' h => by
      obtain ⟨b, s4, rfl, sm, hb⟩ := h
      exact ⟨_, rfl, _, rfl, _, rfl, r, b, e, f', _, rfl, hR.same sm, hb, foldT_m ds m0, fun H2 b2 s2 h2 => q _ _ (sm.trans s2) h2⟩
    have turn : ∀ (i : Nat) (x : V) (σ : L2.St) (H' : Hp) (N : L2.St → Hp → Prop), (ds.map V.int)[i]? = some x → (∃ b s4, σ = [some (.ref r), some (.ref a), some (.int e), some (.ref b), s4] ∧ Same H H' ∧ StAt K H' b ((ds.take i).foldl (stepT f'.p f'.s f'.g f'.l f'.m e) cs0)) →
        (∀ σ2 H2, (∃ b s4, σ2 = [some (.ref r), some (.ref a), some (.int e), some (.ref b), s4] ∧ Same H H2 ∧ StAt K H2 b ((ds.take (i + 1)).foldl (stepT f'.p f'.s f'.g f'.l f'.m e) cs0)) → N σ2 H2) →
        ∀ D : Ends, D.nx = N → tIfS (tTest (tOp (rI0 fun i j => V.bl (decide (i ≤ j))) (tVar 4) (tVar 2))) (tAsg (tCall (sp_paid_on K CR) [] E0 (tCons (tVar 0) (tCons (tCall (sp_passed_to K CR) [] E0 (tCons (tVar 0) (tCons (tVar 3) (tCons (tVar 4) tNil)))) (tCons (tVar 4) tNil)))) (gName 3)) tNext D (σ.set 4 (some x)) H' := fun i x σ H' N hx h hN D hD => by
      obtain ⟨b, s4, rfl, sm, hb⟩ := h
      rw [List.getElem?_map] at hx
      obtain ⟨d, hd, rfl⟩ := Option.map_eq_some_iff.mp hx
      have ht : (ds.take (i + 1)).foldl (stepT f'.p f'.s f'.g f'.l f'.m e) cs0 = stepT f'.p f'.s f'.g f'.l f'.m e ((ds.take i).foldl (stepT f'.p f'.s f'.g f'.l f'.m e) cs0) d := by
        rw [List.take_add_one, hd, List.foldl_append]
        rfl
      rw [ht] at hN
      have hm := foldT_m (p := f'.p) (s := f'.s) (g := f'.g) (l := f'.l) (ms := f'.m) (e := e) (ds.take i) (c := cs0) m0
      generalize (ds.take i).foldl (stepT f'.p f'.s f'.g f'.l f'.m e) cs0 = c at *
      refine ⟨_, rfl, _, rfl, _, _, rfl, rfl, _, rfl, ite2 (fun z => ?_) (fun z => ?_)⟩
      · have z1 := of_decide_eq_true z
        have e1 : stepT f'.p f'.s f'.g f'.l f'.m e c d = payT f'.p f'.s f'.l (passT f'.s f'.g f'.m c d) d := by
          unfold stepT
          rw [if_pos z1]
        rw [e1] at hN
        refine ⟨_, rfl, _, rfl, _, rfl, _, rfl, r, b, d, f', c, rfl, hR.same sm, hb, hm, fun H2 b2 s2 h2 => ?_⟩
        refine ⟨_, rfl, r, b2, d, f', _, rfl, (hR.same sm).same s2, ok, h2, fun H3 b3 s3 h3 => ?_⟩
        rw [hD]
        exact hN _ _ ⟨b3, _, rfl, (sm.trans s2).trans s3, h3⟩
      · have e1 : stepT f'.p f'.s f'.g f'.l f'.m e c d = c := by
          unfold stepT
          rw [if_neg fun y => z (decide_eq_true y)]
        rw [e1] at hN
        show D.nx _ _
        rw [hD]
        exact hN _ _ ⟨b, _, rfl, sm, hb⟩
    rcases hS with hS | hS
    · refine .inl ⟨_, rfl, a, rfl, ⟨_, hS⟩, for_list (K := K) (a := a) (xs := ds.map V.int) (fun i σ H' => ∃ b s4, σ = [some (.ref r), some (.ref a), some (.int e), some (.ref b), s4] ∧ Same H H' ∧ StAt K H' b ((ds.take i).foldl (stepT f'.p f'.s f'.g f'.l f'.m e) cs0)) ⟨_, _, rfl, Same.refl H, q_AT_FIRST H⟩ (fun i σ H' _ h => by obtain ⟨_, _, _, h, _⟩ := h; exact h.seq hS) (fun i x σ H' hx h => turn i x σ H' _ hx h (fun _ _ z => z) _ rfl) (fun σ H' h => fin σ H' ?_)⟩
      rw [List.length_map, List.take_of_length_le (Nat.le_refl _)] at h
      exact h
    · refine .inr ⟨_, rfl, a, rfl, ⟨_, hS⟩, for_tup (K := K) (a := a) (xs := ds.map V.int) (fun i σ H' => ∃ b s4, σ = [some (.ref r), some (.ref a), some (.int e), some (.ref b), s4] ∧ Same H H' ∧ StAt K H' b ((ds.take i).foldl (stepT f'.p f'.s f'.g f'.l f'.m e) cs0)) ⟨_, _, rfl, Same.refl H, q_AT_FIRST H⟩ (fun i σ H' _ h => by obtain ⟨_, _, _, h, _⟩ := h; exact seqT_same h hS) (fun i x σ H' hx h => turn i x σ H' _ hx h (fun _ _ z => z) _ rfl) (fun σ H' h => fin σ H' ?_)⟩
      rw [List.length_map, List.take_of_length_le (Nat.le_refl _)] at h
      exact h
/-! ### what is left to draw of -/
def Left (H : Hp) (b c : Addr) (n : Int) : Prop := ∃ (x z : Int) (ns : List Int), H b = some (.lst [.int x, .ref c, .int z]) ∧ H c = some (.lst (ns.map V.int)) ∧ 0 ≤ x ∧ 0 ≤ z ∧ z ≤ n ∧ 1 ≤ ns.length ∧ ns.length ≤ 63
section
variable {H H' : Hp} {b c p : Addr} {n m : Int} {o : HO}
theorem Left.mono (h : Left H b c n) (l : n ≤ m) : Left H b c m := by
  obtain ⟨x, z, ns, h0, h1, h2, h3, h4, h5⟩ := h
  exact ⟨x, z, ns, h0, h1, h2, h3, by omega, h5⟩
theorem Left.same (e : Same H H') (h : Left H b c n) : Left H' b c n := by
  obtain ⟨x, z, ns, h0, h1, h2⟩ := h
  exact ⟨x, z, ns, e _ _ h0, e _ _ h1, h2⟩
theorem Left.new (h : Left H b c n) (e : H p = none) : Left (upd H p o) b c n := h.same (same_new e)
theorem Left.ne (h : Left H b c n) (e : H p = none) : p ≠ b := fun z => by
  obtain ⟨_, _, _, h0, _⟩ := h
  rw [z, h0] at e
  cases e
theorem Left.ne2 (h : Left H b c n) (e : H p = none) : p ≠ c := fun z => by
  obtain ⟨_, _, _, _, h0, _⟩ := h
  rw [z, h0] at e
  cases e
theorem Left.upd (h : Left H b c n) (e1 : p ≠ b) (e2 : p ≠ c) : Left (upd H p o) b c n := by
  obtain ⟨x, z, ns, h0, h1, h2⟩ := h
  exact ⟨x, z, ns, by rw [upd_ne e1.symm]; exact h0, by rw [upd_ne e2.symm]; exact h1, h2⟩
theorem Left.net (h : Left H b c n) {xs : List V} (e : H p = some (.tup xs)) : p ≠ b := fun z => by
  obtain ⟨_, _, _, h0, _⟩ := h
  rw [z, h0] at e
  cases e
theorem left_cells {x z : Int} {ns : List Int} (h0 : H b = some (.lst [.int x, .ref c, .int z])) (h1 : H c = some (.lst (ns.map V.int))) : c ≠ b := fun e => by
  rw [e, h0] at h1
  have h2 := HO.lst.inj (Option.some.inj h1)
  match ns, h2 with
  | [], h2 => cases h2
  | [_], h2 => cases h2
  | _ :: _ :: _, h2 => cases (List.cons.inj (List.cons.inj h2).2).1
theorem But.seqT {K : PySem.W.Frag} {a : Addr} {xs : List V} (t : But b H H') (hb : Left H b c n) (h : SqT K H a xs) : SqT K H' a xs := by
  obtain ⟨_, _, _, hx, _⟩ := hb
  rcases h with (h | ⟨o, h⟩) | h
  · exact .inl (.inl (t _ _ (ne_of h hx (by intro z; cases z)) h))
  · exact .inl (.inr ⟨o, t _ _ (ne_of h hx (by intro z; cases z)) h⟩)
  · exact .inr h
end
theorem none_of {H H' : Hp} {p : Addr} (s : Same H H') (h : H' p = none) : H p = none := by
  cases e : H p with
  | none => rfl
  | some o =>
    rw [s _ _ e] at h
    cases h
theorem cut_to {xs : List V} {k : Nat} (h : xs.length ≤ k) : cutV xs none (some (k : Int)) = xs := by
  unfold cutV
  rw [HT.sIx_nat, HT.sIx_none, Nat.min_eq_right h]
  simp
theorem pick3v {r : Int} {x y z : V} (h0 : 0 ≤ r) (h1 : r < 3) : ∃ v, atI [x, y, z] r = some v ∧ (v = x ∨ v = y ∨ v = z) := by
  have h : r = 0 ∨ r = 1 ∨ r = 2 := by omega
  rcases h with rfl | rfl | rfl
  · exact ⟨x, rfl, .inl rfl⟩
  · exact ⟨y, rfl, .inr (.inl rfl)⟩
  · exact ⟨z, rfl, .inr (.inr rfl)⟩
theorem pick3i {r x y z lo hi : Int} (h0 : 0 ≤ r) (h1 : r < 3) (hx : lo ≤ x ∧ x ≤ hi) (hy : lo ≤ y ∧ y ≤ hi) (hz : lo ≤ z ∧ z ≤ hi) : ∃ v : Int, atI [V.int x, .int y, .int z] r = some (.int v) ∧ lo ≤ v ∧ v ≤ hi := by
  have h : r = 0 ∨ r = 1 ∨ r = 2 := by omega
  rcases h with rfl | rfl | rfl
  · exact ⟨x, rfl, hx⟩
  · exact ⟨y, rfl, hy⟩
  · exact ⟨z, rfl, hz⟩
theorem pick4i {r x y z u lo hi : Int} (h0 : 0 ≤ r) (h1 : r < 4) (hx : lo ≤ x ∧ x ≤ hi) (hy : lo ≤ y ∧ y ≤ hi) (hz : lo ≤ z ∧ z ≤ hi) (hu : lo ≤ u ∧ u ≤ hi) : ∃ v : Int, atI [V.int x, .int y, .int z, .int u] r = some (.int v) ∧ lo ≤ v ∧ v ≤ hi := by
  have h : r = 0 ∨ r = 1 ∨ r = 2 ∨ r = 3 := by omega
  rcases h with rfl | rfl | rfl | rfl
  · exact ⟨x, rfl, hx⟩
  · exact ⟨y, rfl, hy⟩
  · exact ⟨z, rfl, hz⟩
  · exact ⟨u, rfl, hu⟩
/-! ### _law_mix -/
abbrev s__law_mix : Stmt := topS 32
abbrev N__law_mix : List Str := ["_law_cell", "_law_k", "_law_m"]
theorem sc__law_mix : FnScope N__law_mix ["_law_cell", "_law_k"] (defScope s__law_mix) := ⟨rfl, rfl, rfl, by decide +kernel, rfl, by decide +kernel, by decide +kernel⟩
def sp__law_mix (K : PySem.W.Frag) : Sp := fun vs H Q _ => ∃ (x k : Int), vs = [.int x, .int k] ∧ 0 ≤ k ∧ k < 10000000000 ∧ ∀ r : Int, 0 ≤ r → r < 1999999973 → Q (.int r) H
theorem ok__law_mix {f : Addr} {fd : FuncData} (F : Fun K "_law_mix" "_law_mix" s__law_mix f fd) (g : mg "_law_mix" = some (.ref f)) (bd : Binds K fd ["_law_cell", "_law_k"] []) : CF P w K mg base 1 "_law_mix" ["_law_cell", "_law_k"] (sp__law_mix K) := by
  refine ⟨f, fd, F.ok sc__law_mix (fun vs H Q E h => ?_) (fun cdv A outer s H vs Q E hr h => ?_), g, F.kp, bd⟩
  · first | (obtain ⟨_, rfl, _⟩ := h; rfl) | (obtain ⟨_, _, rfl, _⟩ := h; rfl) | (obtain ⟨_, _, _, rfl, _⟩ := h; rfl) | (obtain ⟨_, _, _, _, rfl, _⟩ := h; rfl) | (obtain ⟨_, _, _, _, _, rfl, _⟩ := h; rfl) | (obtain ⟨_, _, _, _, _, _, rfl, _⟩ := h; rfl) | (obtain ⟨_, _, _, _, _, _, _, rfl, _⟩ := h; rfl) | (obtain ⟨_, _, _, _, _, _, _, _, rfl, _⟩ := h; rfl) | (obtain ⟨_, _, _, _, _, _, _, _, _, rfl, _⟩ := h; rfl) | (obtain ⟨_, _, _, _, _, _, _, _, _, _, rfl, _⟩ := h; rfl) | (obtain ⟨_, _, _, _, _, _, _, _, _, _, _, rfl, _⟩ := h; rfl) | (obtain ⟨_, _, _, _, _, _, _, _, _, _, _, _, rfl, _⟩ := h; rfl) | (obtain ⟨_, _, _, _, _, _, _, _, _, _, _, _, _, rfl, _⟩ := h; rfl) | (obtain ⟨_, _, _, _, _, _, _, _, _, _, _, _, _, _, rfl, _⟩ := h; rfl) | (obtain ⟨_, _, _, _, _, _, _, _, _, _, _, _, _, _, _, rfl, _⟩ := h; rfl)
  · have hu64 := hr.units
    obtain ⟨x, k, rfl, k0, k1, q⟩ := h
    refine ⟨_, (pss_cons (ps_set (i := 2) sc__law_mix.nd rfl (.inl rfl) (pe_op op_mod (pe_op op_mul (pe_op op_add (pe_op op_add (pe_op op_mod (pv 0) pe_int) (pe_op op_mul (pe_op op_mul (pv 1) (pv 1)) pe_int)) pe_int) pe_int) pe_int))
      (pss_one (ps_ret (pe_op op_mod (pe_op op_mul (pv 2) (pv 2)) pe_int)))), ?_⟩
    refine ⟨_, rfl, _, _, rfl, rfl, (by show (0 : Int) < 2147483629; decide), _, rfl, _, rfl, _, _, rfl, rfl, .inl ⟨by omega, by omega⟩, _, _, rfl, rfl, .inr ⟨by decide, by decide⟩, _, _, rfl, rfl, _, _, rfl, rfl, _, _, rfl, rfl, .inr ⟨by decide, by decide⟩, _, _, rfl, rfl, (by show (0 : Int) < 2147483647; decide), ?_⟩
    have o0 := Int.emod_nonneg ((x % 2147483629 + k * k * 7919 + 11) * 48271) (show (2147483647 : Int) ≠ 0 by decide)
    have o1 := Int.emod_lt_of_pos ((x % 2147483629 + k * k * 7919 + 11) * 48271) (show (0 : Int) < 2147483647 by decide)
    exact ⟨_, rfl, _, rfl, _, _, rfl, rfl, .inl ⟨by omega, by omega⟩, _, _, rfl, rfl, (by show (0 : Int) < 1999999973; decide), q _ (Int.emod_nonneg _ (by decide)) (Int.emod_lt_of_pos _ (by decide))⟩
def Drawn (K : PySem.W.Frag) (H : Hp) (t : Addr) (f : Fg) (kv : V) (kd : PyData) : Prop := SqT K H t [.int f.p, .int f.s, .int f.g, .bl f.l, .int f.m, kv, .int f.fi, .int f.fa, .int f.ba] ∧ Figs f.p f.s f.g f.m f.fi f.fa f.ba ∧ Keep K H f.p f.ks kv kd
theorem Keep.same {K : PySem.W.Frag} {H H' : Hp} {p : Int} {ks : List Int} {v : V} {d : PyData} (h : Keep K H p ks v d) (e : Same H H') : Keep K H' p ks v d := by
  cases h with
  | one k h0 h1 e => exact .one k h0 h1 e
  | all a h hl hb => exact .all a (seqT_same e h) hl hb
theorem Keep.but {K : PySem.W.Frag} {H H' : Hp} {b c : Addr} {n p : Int} {ks : List Int} {v : V} {d : PyData} (h : Keep K H p ks v d) (e : But b H H') (l : Left H b c n) : Keep K H' p ks v d := by
  cases h with
  | one k h0 h1 e => exact .one k h0 h1 e
  | all a h hl hb => exact .all a (e.seqT l h) hl hb
theorem Drawn.same {K : PySem.W.Frag} {H H' : Hp} {t : Addr} {f : Fg} {kv : V} {kd : PyData} (h : Drawn K H t f kv kd) (e : Same H H') : Drawn K H' t f kv kd := ⟨seqT_same e h.1, h.2.1, h.2.2.same e⟩
theorem Drawn.but {K : PySem.W.Frag} {H H' : Hp} {b c t : Addr} {n : Int} {f : Fg} {kv : V} {kd : PyData} (h : Drawn K H t f kv kd) (e : But b H H') (l : Left H b c n) : Drawn K H' t f kv kd := ⟨e.seqT l h.1, h.2.1, h.2.2.but e l⟩
theorem Drawn.ok {K : PySem.W.Frag} {H : Hp} {t : Addr} {f : Fg} {kv : V} {kd : PyData} (h : Drawn K H t f kv kd) : f.Ok := by
  obtain ⟨_, F, k⟩ := h
  refine ⟨F, ?_, ?_⟩
  · cases k with
    | one k h0 h1 e =>
      have := F.p0
      rw [e, List.length_replicate]
      omega
    | all a h hl hb => exact hl
  · cases k with
    | one k h0 h1 e =>
      intro x hx
      rw [e] at hx
      rw [List.eq_of_mem_replicate hx]
      exact ⟨h0, h1⟩
    | all a h hl hb => exact hb
def mostN : Nat → Int
  | 0 => 100
  | _ => 30
theorem most_at {i : Nat} {x : V} (h : [V.int 100, .int 30, .int 30][i]? = some x) : i < 3 ∧ x = .int (mostN i) ∧ 30 ≤ mostN i ∧ mostN i ≤ 100 := by
  match i, h with
  | 0, h => cases h; exact ⟨by decide, rfl, by decide, by decide⟩
  | 1, h => cases h; exact ⟨by decide, rfl, by decide, by decide⟩
  | 2, h => cases h; exact ⟨by decide, rfl, by decide, by decide⟩
  | n + 3, h => cases h
set_option maxHeartbeats 2000000
/-! ### what is drawn from: three numbers -/
def Tri (H : Hp) (b : Addr) (n : Int) : Prop := ∃ x c z : Int, H b = some (.lst [.int x, .int c, .int z]) ∧ 0 ≤ x ∧ 0 ≤ z ∧ z ≤ n
section
variable {K : PySem.W.Frag} {H H' : Hp} {b p : Addr} {n m : Int} {o : HO}
theorem Tri.mono (h : Tri H b n) (l : n ≤ m) : Tri H b m := by
  obtain ⟨x, c, z, h0, h1, h2, h3⟩ := h
  exact ⟨x, c, z, h0, h1, h2, by omega⟩
theorem Tri.same (h : Tri H b n) (e : Same H H') : Tri H' b n := by
  obtain ⟨x, c, z, h0, h1⟩ := h
  exact ⟨x, c, z, e _ _ h0, h1⟩
theorem Tri.new (h : Tri H b n) (e : H p = none) : Tri (upd H p o) b n := h.same (same_new e)
theorem Tri.ne (h : Tri H b n) (e : H p = none) : p ≠ b := fun z => by
  obtain ⟨_, _, _, h0, _⟩ := h
  rw [z, h0] at e
  cases e
theorem Tri.upd (h : Tri H b n) (e : p ≠ b) : Tri (upd H p o) b n := by
  obtain ⟨x, c, z, h0, h1⟩ := h
  exact ⟨x, c, z, by rw [upd_ne e.symm]; exact h0, h1⟩
theorem Tri.seqT {a : Addr} {xs : List V} (hb : Tri H b n) (t : But b H H') (h : SqT K H a xs) : SqT K H' a xs := by
  obtain ⟨_, _, _, hx, _⟩ := hb
  rcases h with (h | ⟨o, h⟩) | h
  · exact .inl (.inl (t _ _ (ne_of h hx (by intro z; cases z)) h))
  · exact .inl (.inr ⟨o, t _ _ (ne_of h hx (by intro z; cases z)) h⟩)
  · exact .inr h
theorem Tri.rule {C r : Addr} {f : Fg} (hb : Tri H b n) (t : But b H H') (h : RuleAt K H C r f) : RuleAt K H' C r f := by
  obtain ⟨dx, kt, h1, h2⟩ := h
  refine ⟨dx, kt, ?_, hb.seqT t h2⟩
  obtain ⟨_, _, _, hx, _⟩ := hb
  exact t _ _ (ne_of h1 hx (by intro z; cases z)) h1
theorem Tri.keep {p : Int} {ks : List Int} {v : V} {d : PyData} (hb : Tri H b n) (t : But b H H') (h : Keep K H p ks v d) : Keep K H' p ks v d := by
  cases h with
  | one k h0 h1 e => exact .one k h0 h1 e
  | all a h hl hk => exact .all a (hb.seqT t h) hl hk
theorem Tri.drawn {t : Addr} {f : Fg} {kv : V} {kd : PyData} (hb : Tri H b n) (e : But b H H') (h : Drawn K H t f kv kd) : Drawn K H' t f kv kd := ⟨hb.seqT e h.1, h.2.1, hb.keep e h.2.2⟩
end
theorem at2b (sm : Bool) (x y : Int) : ∃ v : Int, atI [V.int x, .int y] (if sm = true then 1 else 0) = some (.int v) ∧ (v = if sm = true then y else x) ∧ (v = x ∨ v = y) := by
  cases sm
  · exact ⟨x, rfl, rfl, .inl rfl⟩
  · exact ⟨y, rfl, rfl, .inr rfl⟩
theorem row_cut {p : Int} (h0 : 1 ≤ p) (h1 : p ≤ 3) (x y z : Int) : ∃ ks : List Int, cutV [V.int x, .int y, .int z] none (some p) = ks.map V.int ∧ (ks.length : Int) = p ∧ ks[0]? = some x ∧ ∀ k ∈ ks, k = x ∨ k = y ∨ k = z := by
  have h : p = 1 ∨ p = 2 ∨ p = 3 := by omega
  rcases h with rfl | rfl | rfl
  · exact ⟨[x], rfl, rfl, rfl, fun k hk => .inl (List.mem_singleton.mp hk)⟩
  · exact ⟨[x, y], rfl, rfl, rfl, fun k hk => by simp at hk; omega⟩
  · exact ⟨[x, y, z], rfl, rfl, rfl, fun k hk => by simpa using hk⟩
/-! ### _law_drawn_from -/
abbrev s__law_drawn_from : Stmt := topS 33
abbrev N__law_drawn_from : List Str := ["_law_script", "_law_k", "_law_cell"]
theorem sc__law_drawn_from : FnScope N__law_drawn_from ["_law_script", "_law_k"] (defScope s__law_drawn_from) := ⟨rfl, rfl, rfl, by decide +kernel, rfl, by decide +kernel, by decide +kernel⟩
def sp__law_drawn_from (K : PySem.W.Frag) : Sp := fun vs H Q _ => ∃ (a : Addr) (k : Int) (ns : List Int), vs = [.ref a, .int k] ∧ SqL K H a (ns.map V.int) ∧ 0 ≤ k ∧ k ≤ 63 ∧ ∀ H' b, H b = none → Same H H' → Tri H' b 0 → Q (.ref b) H'
theorem big_or (c : Int) : ∃ x : Int, atI [V.int 0, .int (if c < 0 then -c else c)] (if decide (10 ^ (18 : Int).toNat ≤ (if c < 0 then -c else c)) = true then 1 else 0) = some (.int x) ∧ 0 ≤ x := by
  by_cases h : 10 ^ (18 : Int).toNat ≤ (if c < 0 then -c else c)
  · rw [decide_eq_true h]
    refine ⟨_, rfl, ?_⟩
    split <;> omega
  · rw [decide_eq_false h]
    exact ⟨0, rfl, by decide⟩
theorem ok__law_drawn_from {f : Addr} {fd : FuncData} (F : Fun K "_law_drawn_from" "_law_drawn_from" s__law_drawn_from f fd) (g : mg "_law_drawn_from" = some (.ref f)) (bd : Binds K fd ["_law_script", "_law_k"] []) (m_len : mg "len" = none) (m_abs : mg "abs" = none) (m_int : mg "int" = none) : CF P w K mg base 1 "_law_drawn_from" ["_law_script", "_law_k"] (sp__law_drawn_from K) := by
  refine ⟨f, fd, F.ok sc__law_drawn_from (fun vs H Q E h => ?_) (fun cdv A outer s H vs Q E hr h => ?_), g, F.kp, bd⟩
  · first | (obtain ⟨_, rfl, _⟩ := h; rfl) | (obtain ⟨_, _, rfl, _⟩ := h; rfl) | (obtain ⟨_, _, _, rfl, _⟩ := h; rfl) | (obtain ⟨_, _, _, _, rfl, _⟩ := h; rfl) | (obtain ⟨_, _, _, _, _, rfl, _⟩ := h; rfl) | (obtain ⟨_, _, _, _, _, _, rfl, _⟩ := h; rfl) | (obtain ⟨_, _, _, _, _, _, _, rfl, _⟩ := h; rfl) | (obtain ⟨_, _, _, _, _, _, _, _, rfl, _⟩ := h; rfl) | (obtain ⟨_, _, _, _, _, _, _, _, _, rfl, _⟩ := h; rfl) | (obtain ⟨_, _, _, _, _, _, _, _, _, _, rfl, _⟩ := h; rfl) | (obtain ⟨_, _, _, _, _, _, _, _, _, _, _, rfl, _⟩ := h; rfl) | (obtain ⟨_, _, _, _, _, _, _, _, _, _, _, _, rfl, _⟩ := h; rfl) | (obtain ⟨_, _, _, _, _, _, _, _, _, _, _, _, _, rfl, _⟩ := h; rfl) | (obtain ⟨_, _, _, _, _, _, _, _, _, _, _, _, _, _, rfl, _⟩ := h; rfl) | (obtain ⟨_, _, _, _, _, _, _, _, _, _, _, _, _, _, _, rfl, _⟩ := h; rfl)
  · have hu64 := hr.units
    obtain ⟨a, k, ns, rfl, hS, hk0, hk, q⟩ := h
    refine ⟨_, (pss_cons (ps_set (i := 2) sc__law_drawn_from.nd rfl (.inl rfl) (pe_ifExp (pt_cmpR op_lt (pv 1) (pe_callB (kk_len K) (by rfl) m_len PySem.boot_len (pa_cons (pv 0) pa_nil)) (nomark _)) (pe_ix (kk_ixl K) (pv 0) (pv 1) (fun _ _ => rfl)) pe_int))
      (pss_one (ps_ret (pe_lst (pa_cons (pe_ix (kk_ixl K) (pe_lst (pa_cons pe_int (pa_cons (pe_callB call_abs (by rfl) m_abs (by decide +kernel) (pa_cons (pv 2) pa_nil)) pa_nil))) (pe_callTy call_int1 (by rfl) m_int (by decide +kernel) (pa_cons (pe_cmpR op_ge (pe_callB call_abs (by rfl) m_abs (by decide +kernel) (pa_cons (pv 2) pa_nil)) (pe_op op_pow pe_int pe_int) (nomark _)) pa_nil)) (fun _ _ => rfl)) (pa_cons (pe_op op_add (pv 2) (pe_op op_mul pe_int (pv 1))) (pa_cons pe_int pa_nil))))))), ?_⟩
    refine ⟨_, rfl, _, rfl, a, _, rfl, .inl hS, _, _, rfl, rfl, _, rfl, ite2 (fun e => ?c1) (fun e => ?c2)⟩
    case' c1 =>
      have e1 := of_decide_eq_true e
      rw [List.length_map] at e1
      obtain ⟨d, hd⟩ := at_int hk0 e1
      refine ⟨_, rfl, _, rfl, a, _, _, _, rfl, rfl, hS, hd, ?_⟩
    all_goals
      refine ⟨_, rfl, _, rfl, (by show 2 ≤ sizeLine; decide), fun p hp => ?_⟩
      refine ⟨_, rfl, _, rfl, _, _, rfl, rfl, ⟨by decide, by decide, by decide⟩, _, _, rfl, rfl, .inr ⟨_, rfl, p, _, _, _, rfl, rfl, SqL.of upd_same, (big_or _).choose_spec.1, ?_⟩⟩
      have s1 := fun o => same_new (o := o) hp
      refine ⟨_, rfl, _, rfl, _, _, rfl, rfl, .inl ⟨by decide, by decide⟩, _, _, rfl, rfl, (by show 3 ≤ sizeLine; decide), fun l nl => ?_⟩
      exact q _ l (none_of (s1 _) nl) ((s1 _).trans (same_new nl)) ⟨_, _, _, upd_same, (big_or _).choose_spec.2, by omega, by omega⟩
/-! ### _law_pick -/
abbrev s__law_pick : Stmt := topS 34
abbrev N__law_pick : List Str := ["_law_left", "_law_many", "_law_digit"]
theorem sc__law_pick : FnScope N__law_pick ["_law_left", "_law_many"] (defScope s__law_pick) := ⟨rfl, rfl, rfl, by decide +kernel, rfl, by decide +kernel, by decide +kernel⟩
def sp__law_pick (K : PySem.W.Frag) : Sp := fun vs H Q _ => ∃ (b : Addr) (m n : Int), vs = [.ref b, .int m] ∧ Tri H b n ∧ 0 < m ∧ m < 1073741824 ∧ n < 1000000000 ∧ ∀ (r : Int) H', 0 ≤ r → r < m → Tri H' b (n + 1) → But b H H' → Q (.int r) H'
theorem ok__law_pick {f : Addr} {fd : FuncData} (F : Fun K "_law_pick" "_law_pick" s__law_pick f fd) (g : mg "_law_pick" = some (.ref f)) (bd : Binds K fd ["_law_left", "_law_many"] []) (C__law_mix : CF P w K mg base 1 "_law_mix" ["_law_cell", "_law_k"] (sp__law_mix K)) : CF P w K mg base 2 "_law_pick" ["_law_left", "_law_many"] (sp__law_pick K) := by
  refine ⟨f, fd, F.ok sc__law_pick (fun vs H Q E h => ?_) (fun cdv A outer s H vs Q E hr h => ?_), g, F.kp, bd⟩
  · first | (obtain ⟨_, rfl, _⟩ := h; rfl) | (obtain ⟨_, _, rfl, _⟩ := h; rfl) | (obtain ⟨_, _, _, rfl, _⟩ := h; rfl) | (obtain ⟨_, _, _, _, rfl, _⟩ := h; rfl) | (obtain ⟨_, _, _, _, _, rfl, _⟩ := h; rfl) | (obtain ⟨_, _, _, _, _, _, rfl, _⟩ := h; rfl) | (obtain ⟨_, _, _, _, _, _, _, rfl, _⟩ := h; rfl) | (obtain ⟨_, _, _, _, _, _, _, _, rfl, _⟩ := h; rfl) | (obtain ⟨_, _, _, _, _, _, _, _, _, rfl, _⟩ := h; rfl) | (obtain ⟨_, _, _, _, _, _, _, _, _, _, rfl, _⟩ := h; rfl) | (obtain ⟨_, _, _, _, _, _, _, _, _, _, _, rfl, _⟩ := h; rfl) | (obtain ⟨_, _, _, _, _, _, _, _, _, _, _, _, rfl, _⟩ := h; rfl) | (obtain ⟨_, _, _, _, _, _, _, _, _, _, _, _, _, rfl, _⟩ := h; rfl) | (obtain ⟨_, _, _, _, _, _, _, _, _, _, _, _, _, _, rfl, _⟩ := h; rfl) | (obtain ⟨_, _, _, _, _, _, _, _, _, _, _, _, _, _, _, rfl, _⟩ := h; rfl)
  · have hu64 := hr.units
    obtain ⟨b, m, n, rfl, ⟨x, c, z, hb, hx, hz, hz2⟩, hm, hm2, hn, q⟩ := h
    refine ⟨_, (pss_cons (ps_asg (pe_op op_add (pe_ix (kk_ixl K) (pv 0) pe_int (fun _ _ => rfl)) pe_int) (pg_sub (pv 0) pe_int set_list))
      (pss_cons (ps_if (pt_cmpR op_gt (pe_ix (kk_ixl K) (pv 0) pe_int (fun _ _ => rfl)) pe_int (nomark _))
         (pss_cons (ps_set (i := 2) sc__law_pick.nd rfl (.inl rfl) (pe_op op_mod (pe_ix (kk_ixl K) (pv 0) pe_int (fun _ _ => rfl)) (pv 1)))
          (pss_cons (ps_asg (pe_op op_fdiv (pe_ix (kk_ixl K) (pv 0) pe_int (fun _ _ => rfl)) (pv 1)) (pg_sub (pv 0) pe_int set_list))
          (pss_one (ps_ret (pv 2)))))
         pss_nil)
      (pss_one (ps_ret (pe_op op_mod (pe_op op_fdiv (pe_cf C__law_mix (hr.mono (by decide)) (by rfl) (pa_cons (pe_cf C__law_mix (hr.mono (by decide)) (by rfl) (pa_cons (pe_ix (kk_ixl K) (pv 0) pe_int (fun _ _ => rfl)) (pa_cons (pe_ix (kk_ixl K) (pv 0) pe_int (fun _ _ => rfl)) pa_nil))) (pa_cons (pe_op op_add (pe_ix (kk_ixl K) (pv 0) pe_int (fun _ _ => rfl)) pe_int) pa_nil))) pe_int) (pv 1)))))), ?_⟩
    have h1 : (upd H b (.lst [.int x, .int c, .int (z + 1)])) b = some (.lst [.int x, .int c, .int (z + 1)]) := upd_same
    refine ⟨_, rfl, b, _, _, _, rfl, rfl, SqL.of hb, rfl, _, _, rfl, rfl, _, rfl, b, _, _, _, rfl, rfl, hb, rfl, ?_⟩
    refine ⟨_, rfl, b, _, _, _, rfl, rfl, SqL.of h1, rfl, _, _, rfl, rfl, _, rfl, ite2 (fun e => ?_) (fun e => ?_)⟩
    · refine ⟨_, rfl, b, _, _, _, rfl, rfl, SqL.of h1, rfl, _, rfl, _, _, rfl, rfl, hm, ?_⟩
      refine ⟨_, rfl, b, _, _, _, rfl, rfl, SqL.of h1, rfl, _, rfl, _, _, rfl, rfl, ⟨hm, hm2⟩, _, rfl, b, _, _, _, rfl, rfl, h1, rfl, ?_⟩
      exact ⟨_, rfl, q _ _ (Int.emod_nonneg _ (by omega)) (Int.emod_lt_of_pos _ hm) ⟨x / m, c, z + 1, upd_same, Int.ediv_nonneg hx (by omega), by omega, by omega⟩ (But.upd.trans But.upd)⟩
    · refine ⟨_, rfl, b, _, _, _, rfl, rfl, SqL.of h1, rfl, _, rfl, b, _, _, _, rfl, rfl, SqL.of h1, rfl, c, z + 1, rfl, by omega, by omega, fun r1 r10 r11 => ?_⟩
      refine ⟨_, rfl, b, _, _, _, rfl, rfl, SqL.of h1, rfl, _, _, rfl, rfl, r1, z + 1 + 64, rfl, by omega, by omega, fun r2 r20 r21 => ?_⟩
      exact ⟨_, _, rfl, rfl, ⟨by decide, by decide⟩, _, rfl, _, _, rfl, rfl, hm, q _ _ (Int.emod_nonneg _ (by omega)) (Int.emod_lt_of_pos _ hm) ⟨x, c, z + 1, h1, hx, by omega, by omega⟩ But.upd⟩
/-! ### _law_figures -/
abbrev s__law_figures : Stmt := topS 36
abbrev N__law_figures : List Str := ["_law_left", "_law_small", "_law_parts", "_law_most", "_law_step", "_law_grace", "_law_some", "_law_row", "_law_keep", "_law_fine", "_law_last", "_law_misses"]
theorem sc__law_figures : FnScope N__law_figures ["_law_left", "_law_small"] (defScope s__law_figures) := ⟨rfl, rfl, rfl, by decide +kernel, rfl, by decide +kernel, by decide +kernel⟩
structure Fg.Few (f : Fg) (sm : Bool) : Prop where
  p1 : f.p ≤ 3
  s1 : f.s ≤ if sm = true then 2 else 5
  g1 : f.g < if sm = true then 2 else 3
  m1 : f.m ≤ 1
  fa1 : f.fa ≤ if sm = true then 3 else 8
  ba1 : f.ba ≤ if sm = true then 3 else 8
def sp__law_figures (K : PySem.W.Frag) : Sp := fun vs H Q _ => ∃ (b : Addr) (n : Int) (sm : Bool), vs = [.ref b, .bl sm] ∧ Tri H b n ∧ n < 1000000 ∧ ∀ H' t f kv kd, Tri H' b (n + 20) → But b H H' → H t = none → Drawn K H' t f kv kd → f.Few sm → Q (.ref t) H'
theorem ok__law_figures {f : Addr} {fd : FuncData} (F : Fun K "_law_figures" "_law_figures" s__law_figures f fd) (g : mg "_law_figures" = some (.ref f)) (bd : Binds K fd ["_law_left", "_law_small"] []) (m_int : mg "int" = none) (m_tuple : mg "tuple" = none) (C__law_pick : CF P w K mg base 2 "_law_pick" ["_law_left", "_law_many"] (sp__law_pick K)) : CF P w K mg base 3 "_law_figures" ["_law_left", "_law_small"] (sp__law_figures K) := by
  refine ⟨f, fd, F.ok sc__law_figures (fun vs H Q E h => ?_) (fun cdv A outer s H vs Q E hr h => ?_), g, F.kp, bd⟩
  · first | (obtain ⟨_, rfl, _⟩ := h; rfl) | (obtain ⟨_, _, rfl, _⟩ := h; rfl) | (obtain ⟨_, _, _, rfl, _⟩ := h; rfl) | (obtain ⟨_, _, _, _, rfl, _⟩ := h; rfl) | (obtain ⟨_, _, _, _, _, rfl, _⟩ := h; rfl) | (obtain ⟨_, _, _, _, _, _, rfl, _⟩ := h; rfl) | (obtain ⟨_, _, _, _, _, _, _, rfl, _⟩ := h; rfl) | (obtain ⟨_, _, _, _, _, _, _, _, rfl, _⟩ := h; rfl) | (obtain ⟨_, _, _, _, _, _, _, _, _, rfl, _⟩ := h; rfl) | (obtain ⟨_, _, _, _, _, _, _, _, _, _, rfl, _⟩ := h; rfl) | (obtain ⟨_, _, _, _, _, _, _, _, _, _, _, rfl, _⟩ := h; rfl) | (obtain ⟨_, _, _, _, _, _, _, _, _, _, _, _, rfl, _⟩ := h; rfl) | (obtain ⟨_, _, _, _, _, _, _, _, _, _, _, _, _, rfl, _⟩ := h; rfl) | (obtain ⟨_, _, _, _, _, _, _, _, _, _, _, _, _, _, rfl, _⟩ := h; rfl) | (obtain ⟨_, _, _, _, _, _, _, _, _, _, _, _, _, _, _, rfl, _⟩ := h; rfl)
  · have hu64 := hr.units
    obtain ⟨b, n, sm, rfl, hb, hn, q⟩ := h
    refine ⟨_, (pss_cons (ps_par (i := 2) (j := 3) (by rfl) sc__law_figures.nd rfl rfl (by decide) rfl rfl (pa_cons (pe_op op_add pe_int (pe_cf C__law_pick (hr.mono (by decide)) (by rfl) (pa_cons (pv 0) (pa_cons pe_int pa_nil)))) (pa_cons (pe_ix (kk_ixl K) (pe_lst (pa_cons pe_int (pa_cons pe_int pa_nil))) (pe_callTy call_int1 (by rfl) m_int (by decide +kernel) (pa_cons (pv 1) pa_nil)) (fun _ _ => rfl)) pa_nil)) (by rfl))
      (pss_cons (ps_par (i := 4) (j := 5) (by rfl) sc__law_figures.nd rfl rfl (by decide) rfl rfl (pa_cons (pe_op op_add pe_int (pe_cf C__law_pick (hr.mono (by decide)) (by rfl) (pa_cons (pv 0) (pa_cons (pe_ix (kk_ixl K) (pe_lst (pa_cons pe_int (pa_cons pe_int pa_nil))) (pe_callTy call_int1 (by rfl) m_int (by decide +kernel) (pa_cons (pv 1) pa_nil)) (fun _ _ => rfl)) pa_nil)))) (pa_cons (pe_cf C__law_pick (hr.mono (by decide)) (by rfl) (pa_cons (pv 0) (pa_cons (pe_ix (kk_ixl K) (pe_lst (pa_cons pe_int (pa_cons pe_int pa_nil))) (pe_callTy call_int1 (by rfl) m_int (by decide +kernel) (pa_cons (pv 1) pa_nil)) (fun _ _ => rfl)) pa_nil))) pa_nil)) (by rfl))
      (pss_cons (ps_set (i := 6) sc__law_figures.nd rfl (.inl rfl) (pe_lst (pa_cons (pe_cf C__law_pick (hr.mono (by decide)) (by rfl) (pa_cons (pv 0) (pa_cons pe_int pa_nil))) (pa_cons (pe_ix (kk_ixl K) (pe_lst (pa_cons pe_int (pa_cons pe_int (pa_cons pe_int pa_nil)))) (pe_cf C__law_pick (hr.mono (by decide)) (by rfl) (pa_cons (pv 0) (pa_cons pe_int pa_nil))) (fun _ _ => rfl)) (pa_cons (pe_op op_add pe_int (pe_cf C__law_pick (hr.mono (by decide)) (by rfl) (pa_cons (pv 0) (pa_cons pe_int pa_nil)))) pa_nil)))))
      (pss_cons (ps_set (i := 7) sc__law_figures.nd rfl (.inl rfl) (pe_slice (kk_sll K) (pe_lst (pa_cons (pe_ix (kk_ixl K) (pv 6) pe_int (fun _ _ => rfl)) (pa_cons (pe_ix (kk_ixl K) (pv 6) pe_int (fun _ _ => rfl)) (pa_cons (pe_ix (kk_ixl K) (pv 6) (pe_cf C__law_pick (hr.mono (by decide)) (by rfl) (pa_cons (pv 0) (pa_cons pe_int pa_nil))) (fun _ _ => rfl)) pa_nil)))) po_none (po_some (pv 2))))
      (pss_cons (ps_set (i := 8) sc__law_figures.nd rfl (.inl rfl) (pe_ix (kk_ixl K) (pe_lst (pa_cons (pe_callTy (kk_tuple K) (by rfl) m_tuple (by decide +kernel) (pa_cons (pv 7) pa_nil)) (pa_cons (pe_ix (kk_ixl K) (pv 7) pe_int (fun _ _ => rfl)) (pa_cons pe_int pa_nil)))) (pe_cf C__law_pick (hr.mono (by decide)) (by rfl) (pa_cons (pv 0) (pa_cons pe_int pa_nil))) (fun _ _ => rfl)))
      (pss_cons (ps_set (i := 9) sc__law_figures.nd rfl (.inl rfl) (pe_ix (kk_ixl K) (pe_lst (pa_cons pe_int (pa_cons (pe_cf C__law_pick (hr.mono (by decide)) (by rfl) (pa_cons (pv 0) (pa_cons pe_int pa_nil))) (pa_cons pe_int pa_nil)))) (pe_cf C__law_pick (hr.mono (by decide)) (by rfl) (pa_cons (pv 0) (pa_cons pe_int pa_nil))) (fun _ _ => rfl)))
      (pss_cons (ps_par (i := 10) (j := 11) (by rfl) sc__law_figures.nd rfl rfl (by decide) rfl rfl (pa_cons (pe_cmpR op_eq (pe_cf C__law_pick (hr.mono (by decide)) (by rfl) (pa_cons (pv 0) (pa_cons pe_int pa_nil))) pe_int (nomark _)) (pa_cons (pe_cf C__law_pick (hr.mono (by decide)) (by rfl) (pa_cons (pv 0) (pa_cons pe_int pa_nil))) pa_nil)) (by rfl))
      (pss_one (ps_ret (pe_tup (pa_cons (pv 2) (pa_cons (pv 4) (pa_cons (pv 5) (pa_cons (pv 10) (pa_cons (pv 11) (pa_cons (pv 8) (pa_cons (pv 9) (pa_cons (pe_cf C__law_pick (hr.mono (by decide)) (by rfl) (pa_cons (pv 0) (pa_cons (pe_op op_add (pv 3) pe_int) pa_nil))) (pa_cons (pe_cf C__law_pick (hr.mono (by decide)) (by rfl) (pa_cons (pv 0) (pa_cons (pe_op op_add (pv 3) pe_int) pa_nil))) pa_nil))))))))))))))))))), ?_⟩
    obtain ⟨m8, a8, e8, o8⟩ := at2b sm 8 3
    obtain ⟨m5, a5, e5, o5⟩ := at2b sm 5 2
    obtain ⟨m3, a3, e3, o3⟩ := at2b sm 3 2
    refine ⟨_, rfl, b, 3, _, rfl, hb, by decide, by decide, by omega, fun r1 H1 r10 r11 b1 t1 => ⟨_, _, rfl, rfl, ?_⟩⟩
    refine ⟨(by show 2 ≤ sizeLine; decide), fun l1 n1 => ⟨_, rfl, .inr ⟨_, rfl, l1, _, _, _, rfl, rfl, SqL.of upd_same, a8, _, _, rfl, ?_⟩⟩⟩
    have b2 := b1.new (o := .lst [.int 8, .int 3]) n1
    have t2 := t1.trans (But.new (b := b) (o := .lst [.int 8, .int 3]) n1)
    generalize upd H1 l1 (.lst [.int 8, .int 3]) = G1 at *
    refine ⟨_, rfl, (by show 2 ≤ sizeLine; decide), fun l2 n2 => ⟨_, rfl, .inr ⟨_, rfl, l2, _, _, _, rfl, rfl, SqL.of upd_same, a5, b, m5, _, rfl, b2.new n2, by omega, by omega, by omega, fun r2 H2 r20 r21 b3 t3 => ⟨_, _, rfl, rfl, ?_⟩⟩⟩⟩
    have T3 := (t2.trans (But.new (b := b) (o := .lst [.int 5, .int 2]) n2)).trans t3
    refine ⟨_, rfl, (by show 2 ≤ sizeLine; decide), fun l3 n3 => ⟨_, rfl, .inr ⟨_, rfl, l3, _, _, _, rfl, rfl, SqL.of upd_same, a3, b, m3, _, rfl, b3.new n3, by omega, by omega, by omega, fun r3 H3 r30 r31 b4 t4 => ⟨_, _, rfl, ?_⟩⟩⟩⟩
    have T4 := (T3.trans (But.new (b := b) (o := .lst [.int 3, .int 2]) n3)).trans t4
    refine ⟨_, rfl, b, 101, _, rfl, b4, by decide, by decide, by omega, fun y1 H4 y10 y11 b5 t5 => ?_⟩
    refine ⟨(by show 3 ≤ sizeLine; decide), fun l4 n4 => ⟨_, rfl, b, 3, _, rfl, b5.new n4, by decide, by decide, by omega, fun r4 H5 r40 r41 b6 t6 => ?_⟩⟩
    obtain ⟨y2, hy2, y20, y21⟩ := pick3i (lo := 0) (hi := 100) (x := 0) (y := 10) (z := 100) r40 r41 (by omega) (by omega) (by omega)
    refine ⟨l4, _, _, _, rfl, rfl, SqL.of (t6 _ _ (b5.ne n4) upd_same), hy2, ?_⟩
    have T6 := ((T4.trans t5).trans (But.new (b := b) (o := .lst [.int 0, .int 10, .int 100]) n4)).trans t6
    refine ⟨_, rfl, b, 11, _, rfl, b6, by decide, by decide, by omega, fun r5 H6 r50 r51 b7 t7 => ⟨_, _, rfl, rfl, (by show 3 ≤ sizeLine; decide), fun L nL => ?_⟩⟩
    have hL := upd_same (H := H6) (a := L) (o := .lst [.int y1, .int y2, .int (90 + r5)])
    have b8 := b7.new (o := .lst [.int y1, .int y2, .int (90 + r5)]) nL
    have nLb := b7.ne nL
    have T8 := (T6.trans t7).trans (But.new (b := b) (o := .lst [.int y1, .int y2, .int (90 + r5)]) nL)
    generalize upd H6 L (.lst [.int y1, .int y2, .int (90 + r5)]) = G6 at *
    refine ⟨_, rfl, L, _, _, _, rfl, rfl, SqL.of hL, rfl, _, rfl, L, _, _, _, rfl, rfl, SqL.of hL, rfl, _, rfl, _, rfl, b, 3, _, rfl, b8, by decide, by decide, by omega, fun r6 H7 r60 r61 b9 t9 => ?_⟩
    obtain ⟨y3, hy3, y30, y31⟩ := pick3i (lo := 0) (hi := 100) (x := y1) (y := y2) (z := 90 + r5) r60 r61 (by omega) (by omega) (by omega)
    obtain ⟨ks, hks, ksl, ks0, ksm⟩ := row_cut (p := 1 + r1) (by omega) (by omega) y1 y2 y3
    refine ⟨L, _, _, _, rfl, rfl, SqL.of (t9 _ _ nLb hL), hy3, (by show 3 ≤ sizeLine; decide), fun l5 n5 => ⟨_, rfl, _, rfl, l5, _, rfl, SqL.of upd_same, fun R nR => ?_⟩⟩
    rw [hks]
    have b10 := (b9.new (o := .lst [.int y1, .int y2, .int y3]) n5).new (o := .lst (ks.map V.int)) nR
    have T10 := ((T8.trans t9).trans (But.new (b := b) (o := .lst [.int y1, .int y2, .int y3]) n5)).trans (But.new (b := b) (o := .lst (ks.map V.int)) nR)
    have hR := upd_same (H := upd H7 l5 (.lst [.int y1, .int y2, .int y3])) (a := R) (o := .lst (ks.map V.int))
    generalize upd (upd H7 l5 (.lst [.int y1, .int y2, .int y3])) R (.lst (ks.map V.int)) = G7 at *
    have row0 : atI (ks.map V.int) 0 = some (.int y1) := atI_nat (j := 0) (by rw [List.getElem?_map, ks0]; rfl)
    refine ⟨_, rfl, R, _, rfl, .inl ⟨SqL.of hR, fun T nT => ?_⟩⟩
    have sT := same_new (o := .tup (ks.map V.int)) nT
    have hT := upd_same (H := G7) (a := T) (o := .tup (ks.map V.int))
    have b11 := b10.same sT
    have T11 := T10.trans (But.of (b := b) sT)
    have hR2 := sT _ _ hR
    generalize upd G7 T (.tup (ks.map V.int)) = G8 at *
    refine ⟨_, rfl, R, _, _, _, rfl, rfl, SqL.of hR2, row0, (by show 3 ≤ sizeLine; decide), fun l6 n6 => ⟨_, rfl, b, 3, _, rfl, b11.new n6, by decide, by decide, by omega, fun r7 H8 r70 r71 b12 t12 => ?_⟩⟩
    obtain ⟨kv, hkv, hk3⟩ := pick3v (x := .ref T) (y := .int y1) (z := .int 0) r70 r71
    refine ⟨l6, _, _, _, rfl, rfl, SqL.of (t12 _ _ (b11.ne n6) upd_same), hkv, ?_⟩
    have T12 := (T11.trans (But.new (b := b) (o := .lst [.ref T, .int y1, .int 0]) n6)).trans t12
    have hT8 := t12 _ _ (ne_of hT (b11.choose_spec.choose_spec.choose_spec.1) (by intro z; cases z)) (same_new (o := .lst [.ref T, .int y1, .int 0]) n6 _ _ hT)
    have hk : ∃ ks' kd, Keep K H8 (1 + r1) ks' kv kd := by
      rcases hk3 with rfl | rfl | rfl
      · exact ⟨ks, _, .all T (SqT.of hT8) ksl fun k hk => by have := ksm k hk; omega⟩
      · exact ⟨_, _, .one y1 y10 (by omega) rfl⟩
      · exact ⟨_, _, .one 0 (by decide) (by decide) rfl⟩
    obtain ⟨ks', kd, hK⟩ := hk
    clear hT8 hT hR hR2 hks ksl ks0 ksm row0
    refine ⟨_, rfl, b, 101, _, rfl, b12, by decide, by decide, by omega, fun z1 H9 z10 z11 b13 t13 => ⟨(by show 3 ≤ sizeLine; decide), fun l7 n7 => ⟨_, rfl, b, 3, _, rfl, b13.new n7, by decide, by decide, by omega, fun r8 H10 r80 r81 b14 t14 => ?_⟩⟩⟩
    obtain ⟨fi, hfi, fi0, fi1⟩ := pick3i (lo := 0) (hi := 100) (x := 0) (y := z1) (z := 10) r80 r81 (by omega) (by omega) (by omega)
    refine ⟨l7, _, _, _, rfl, rfl, SqL.of (t14 _ _ (b13.ne n7) upd_same), hfi, ?_⟩
    have T14 := ((T12.trans t13).trans (But.new (b := b) (o := .lst [.int 0, .int z1, .int 10]) n7)).trans t14
    have hK2 := (b13.new n7).keep t14 (((b12.keep t13 hK)).same (same_new (o := .lst [.int 0, .int z1, .int 10]) n7))
    refine ⟨_, rfl, b, 2, _, rfl, b14, by decide, by decide, by omega, fun r9 H11 r90 r91 b15 t15 => ⟨rfl, ?_⟩⟩
    refine ⟨_, rfl, b, 2, _, rfl, b15, by decide, by decide, by omega, fun ms H12 ms0 ms1 b16 t16 => ⟨_, _, rfl, ?_⟩⟩
    have hK3 := b15.keep t16 (b14.keep t15 hK2)
    refine ⟨_, rfl, _, rfl, _, rfl, _, rfl, _, rfl, _, rfl, _, rfl, _, rfl, _, rfl, _, _, rfl, rfl, b, m8 + 1, _, rfl, b16, by omega, by omega, by omega, fun fa H13 fa0 fa1 b17 t17 => ?_⟩
    refine ⟨_, rfl, _, rfl, _, _, rfl, rfl, b, m8 + 1, _, rfl, b17, by omega, by omega, by omega, fun ba H14 ba0 ba1 b18 t18 => ⟨(by show 9 ≤ sizeLine; decide), fun t nt => ?_⟩⟩
    have hK4 := b17.keep t18 (b16.keep t17 hK3)
    have T18 := (((T14.trans t15).trans t16).trans t17).trans t18
    have nt0 : H t = none := by
      cases e : H t with
      | none => rfl
      | some o =>
        rw [T18 _ _ (b18.ne nt) e] at nt
        cases nt
    refine q _ t ⟨1 + r1, 1 + r2, r3, decide (V.int r9 = V.int 0), ms, ks', fi, fa, ba⟩ kv kd ((b18.new nt).mono (by omega)) (T18.trans (But.new nt)) nt0 ⟨SqT.of upd_same, ?_, hK4.same (same_new nt)⟩ ?_
    · exact ⟨by show 1 ≤ 1 + r1; omega, by show 1 + r1 ≤ 6; omega, by show 1 ≤ 1 + r2; omega, by show 1 + r2 ≤ 14; omega, r30, by show r3 ≤ 7; omega, ms0, by show ms ≤ 2; omega, fi0, fi1, fa0, by show fa ≤ 30; omega, ba0, by show ba ≤ 30; omega⟩
    · constructor
      · show 1 + r1 ≤ 3
        omega
      · show 1 + r2 ≤ _
        rw [← e5]
        omega
      · show r3 < _
        rw [← e3]
        omega
      · show ms ≤ 1
        omega
      · show fa ≤ _
        rw [← e8]
        omega
      · show ba ≤ _
        rw [← e8]
        omega
/-! ### _law_whole -/
abbrev s__law_whole : Stmt := topS 37
abbrev N__law_whole : List Str := ["_law_figures_here", "_law_keep"]
theorem sc__law_whole : FnScope N__law_whole ["_law_figures_here"] (defScope s__law_whole) := ⟨rfl, rfl, rfl, by decide +kernel, rfl, by decide +kernel, by decide +kernel⟩
def sp__law_whole (K : PySem.W.Frag) : Sp := fun vs H Q _ => ∃ (t : Addr) (f : Fg) (kv : V) (kd : PyData), vs = [.ref t] ∧ Drawn K H t f kv kd ∧ ∀ H' w a, Same H H' → Drawn K H' w f (.ref a) (.tuple (f.ks.map PyData.int)) → SqT K H' a (f.ks.map V.int) → Q (.ref w) H'
theorem ok__law_whole {f : Addr} {fd : FuncData} (F : Fun K "_law_whole" "_law_whole" s__law_whole f fd) (g : mg "_law_whole" = some (.ref f)) (bd : Binds K fd ["_law_figures_here"] []) (m_isinstance : mg "isinstance" = none) (m_tuple : mg "tuple" = none) : CF P w K mg base 1 "_law_whole" ["_law_figures_here"] (sp__law_whole K) := by
  refine ⟨f, fd, F.ok sc__law_whole (fun vs H Q E h => ?_) (fun cdv A outer s H vs Q E hr h => ?_), g, F.kp, bd⟩
  · first | (obtain ⟨_, rfl, _⟩ := h; rfl) | (obtain ⟨_, _, rfl, _⟩ := h; rfl) | (obtain ⟨_, _, _, rfl, _⟩ := h; rfl) | (obtain ⟨_, _, _, _, rfl, _⟩ := h; rfl) | (obtain ⟨_, _, _, _, _, rfl, _⟩ := h; rfl) | (obtain ⟨_, _, _, _, _, _, rfl, _⟩ := h; rfl) | (obtain ⟨_, _, _, _, _, _, _, rfl, _⟩ := h; rfl) | (obtain ⟨_, _, _, _, _, _, _, _, rfl, _⟩ := h; rfl) | (obtain ⟨_, _, _, _, _, _, _, _, _, rfl, _⟩ := h; rfl) | (obtain ⟨_, _, _, _, _, _, _, _, _, _, rfl, _⟩ := h; rfl) | (obtain ⟨_, _, _, _, _, _, _, _, _, _, _, rfl, _⟩ := h; rfl) | (obtain ⟨_, _, _, _, _, _, _, _, _, _, _, _, rfl, _⟩ := h; rfl) | (obtain ⟨_, _, _, _, _, _, _, _, _, _, _, _, _, rfl, _⟩ := h; rfl) | (obtain ⟨_, _, _, _, _, _, _, _, _, _, _, _, _, _, rfl, _⟩ := h; rfl) | (obtain ⟨_, _, _, _, _, _, _, _, _, _, _, _, _, _, _, rfl, _⟩ := h; rfl)
  · have hu64 := hr.units
    obtain ⟨t, f', kv, kd, rfl, hD, q⟩ := h
    refine ⟨_, (pss_cons (ps_set (i := 1) sc__law_whole.nd rfl (.inl rfl) (pe_ifExp (pt_val (pe_callB (kk_isi K) (by rfl) m_isinstance (by decide +kernel) (pa_cons (pe_ix (kk_ixt K) (pv 0) pe_int (fun _ _ => rfl)) (pa_cons (pe_bltn (v := .ty "tuple") (by rfl) m_tuple (by decide +kernel) rfl) pa_nil)))) (pe_ix (kk_ixt K) (pv 0) pe_int (fun _ _ => rfl)) (pe_op (kk_repA K) (pe_tup (pa_cons (pe_ix (kk_ixt K) (pv 0) pe_int (fun _ _ => rfl)) pa_nil)) (pe_ix (kk_ixt K) (pv 0) pe_int (fun _ _ => rfl)))))
      (pss_one (ps_ret (pe_op (kk_catT K) (pe_op (kk_catT K) (pe_slice (kk_slt K) (pv 0) po_none (po_some pe_int)) (pe_tup (pa_cons (pv 1) pa_nil))) (pe_slice (kk_slt K) (pv 0) (po_some pe_int) po_none))))), ?_⟩
    obtain ⟨hT, hF, hk⟩ := id hD
    have ok := hD.ok
    have l5 : cutV [V.int f'.p, .int f'.s, .int f'.g, .bl f'.l, .int f'.m, kv, .int f'.fi, .int f'.fa, .int f'.ba] none (some 5) = [V.int f'.p, .int f'.s, .int f'.g, .bl f'.l, .int f'.m] := rfl
    have l6 : cutV [V.int f'.p, .int f'.s, .int f'.g, .bl f'.l, .int f'.m, kv, .int f'.fi, .int f'.fa, .int f'.ba] (some 6) none = [.int f'.fi, .int f'.fa, .int f'.ba] := rfl
    have fin : ∀ H1 a, Same H H1 → SqT K H1 a (f'.ks.map V.int) → tRet (tOp (rCatT K) (tOp (rCatT K) (tSl (rSlT K) (tVar 0) tNoPart (tPart (tC (V.int 5)))) (tTup (tCons (tVar 1) tNil))) (tSl (rSlT K) (tVar 0) (tPart (tC (V.int 6))) tNoPart)) { nx := fun x H' => Q V.non H', rt := Q } [some (.ref t), some (.ref a)] H1 := fun H1 a s1 ha => by
      refine ⟨_, rfl, _, rfl, t, _, rfl, seqT_same s1 hT, (by show ¬ (HT.sIx 9 0 none = 0 ∧ HT.sIx 9 9 (some 5) = 9); decide), fun c1 n1 => ?_⟩
      refine ⟨_, rfl, (by show 1 ≤ sizeLine; decide), fun c2 n2 => ?_⟩
      refine ⟨c1, c2, _, _, rfl, rfl, SqT.of ((same_new n2) _ _ upd_same), SqT.of upd_same, (by rw [l5]; simp), (by show 5 + 1 ≤ sizeLine; decide), fun e => (nomatch e), fun _ c3 n3 => ?_⟩
      have s3 := fun o => ((s1.trans (same_new n1)).trans (same_new n2)).trans (same_new (o := o) n3)
      have u3 := fun o => ((same_new n1).trans (same_new n2)).trans (same_new (o := o) n3)
      refine ⟨_, rfl, _, rfl, t, _, rfl, seqT_same (s3 _) hT, (by show ¬ (HT.sIx 9 0 (some 6) = 0 ∧ HT.sIx 9 9 none = 9); decide), fun c4 n4 => ?_⟩
      refine ⟨c3, c4, _, _, rfl, rfl, SqT.of ((same_new n4) _ _ upd_same), SqT.of upd_same, (by rw [l5]; simp), (by show 6 + 3 ≤ sizeLine; decide), fun e => absurd (l6.symm.trans e) (by simp), fun _ w nw => ?_⟩
      have s5 := fun o => ((s3 _).trans (same_new n4)).trans (same_new (o := o) nw)
      have ha5 := fun o => seqT_same (((u3 _).trans (same_new n4)).trans (same_new (o := o) nw)) ha
      exact q _ w a (s5 _) ⟨SqT.of upd_same, hF, .all a (ha5 _) ok.len ok.bnd⟩ (ha5 _)
    refine ⟨_, rfl, t, _, _, _, rfl, rfl, hT, rfl, _, _, _, _, _, rfl, .ty _, ty_of_dp hk.dp, kit_d (T := "tuple") (by decide) _, _, rfl, ?_⟩
    cases hk with
    | all a h hl hb => exact iteT ⟨_, rfl, t, _, _, _, rfl, rfl, hT, rfl, fin H a (Same.refl H) h⟩
    | one k h0 h1 ek =>
      refine iteF ⟨_, rfl, t, _, _, _, rfl, rfl, hT, rfl, (by show 1 ≤ sizeLine; decide), fun u nu => ⟨_, rfl, t, _, _, _, rfl, rfl, seqT_same (same_new nu) hT, rfl, ?_⟩⟩
      by_cases hp1 : f'.p = 1
      · refine .inr ⟨u, [.int k], rfl, by rw [hp1], SqT.of upd_same, by simp, ?_⟩
        refine fin _ u (same_new nu) ?_
        rw [ek, hp1]
        exact SqT.of upd_same
      · have := hF.p0
        have := hF.p1
        refine .inl ⟨u, f'.p, [.int k], rfl, rfl, SqT.of upd_same, by simp, by omega, by omega, (by show 1 ≤ 1000; decide), fun t2 ht2 => ?_⟩
        refine fin _ t2 ((same_new nu).trans (same_new ht2)) (SqT.of ?_)
        rw [upd_same, rep1, ek, List.map_replicate]
/-! ### _law_rule_of -/
abbrev s__law_rule_of : Stmt := topS 38
abbrev N__law_rule_of : List Str := ["_law_figures_here", "_law_parts", "_law_step", "_law_grace", "_law_last", "_law_misses"]
theorem sc__law_rule_of : FnScope N__law_rule_of ["_law_figures_here"] (defScope s__law_rule_of) := ⟨rfl, rfl, rfl, by decide +kernel, rfl, by decide +kernel, by decide +kernel⟩
def sp__law_rule_of (K : PySem.W.Frag) (C : Addr) : Sp := fun vs H Q _ => ∃ (t : Addr) (f : Fg) (kv : V) (kd : PyData), vs = [.ref t] ∧ Drawn K H t f kv kd ∧ ∀ H' r, H r = none → Same H H' → RuleAt K H' C r f → Q (.ref r) H'
theorem ok__law_rule_of {f : Addr} {fd : FuncData} (F : Fun K "_law_rule_of" "_law_rule_of" s__law_rule_of f fd) (g : mg "_law_rule_of" = some (.ref f)) (bd : Binds K fd ["_law_figures_here"] []) {CR : Addr} (TQ : TEq K mg CR "Rule") (T_Rule : TRule K mg CR) (M_Rule : CMk P w K mg base CR 4 "Rule" ["self", "parts", "step", "grace", "last", "misses", "keep", "fine", "falls", "back"] [] (sp_Rule___init__ K CR)) : CF P w K mg base 6 "_law_rule_of" ["_law_figures_here"] (sp__law_rule_of K CR) := by
  refine ⟨f, fd, F.ok sc__law_rule_of (fun vs H Q E h => ?_) (fun cdv A outer s H vs Q E hr h => ?_), g, F.kp, bd⟩
  · first | (obtain ⟨_, rfl, _⟩ := h; rfl) | (obtain ⟨_, _, rfl, _⟩ := h; rfl) | (obtain ⟨_, _, _, rfl, _⟩ := h; rfl) | (obtain ⟨_, _, _, _, rfl, _⟩ := h; rfl) | (obtain ⟨_, _, _, _, _, rfl, _⟩ := h; rfl) | (obtain ⟨_, _, _, _, _, _, rfl, _⟩ := h; rfl) | (obtain ⟨_, _, _, _, _, _, _, rfl, _⟩ := h; rfl) | (obtain ⟨_, _, _, _, _, _, _, _, rfl, _⟩ := h; rfl) | (obtain ⟨_, _, _, _, _, _, _, _, _, rfl, _⟩ := h; rfl) | (obtain ⟨_, _, _, _, _, _, _, _, _, _, rfl, _⟩ := h; rfl) | (obtain ⟨_, _, _, _, _, _, _, _, _, _, _, rfl, _⟩ := h; rfl) | (obtain ⟨_, _, _, _, _, _, _, _, _, _, _, _, rfl, _⟩ := h; rfl) | (obtain ⟨_, _, _, _, _, _, _, _, _, _, _, _, _, rfl, _⟩ := h; rfl) | (obtain ⟨_, _, _, _, _, _, _, _, _, _, _, _, _, _, rfl, _⟩ := h; rfl) | (obtain ⟨_, _, _, _, _, _, _, _, _, _, _, _, _, _, _, rfl, _⟩ := h; rfl)
  · have hu64 := hr.units
    obtain ⟨t, f', kv, kd, rfl, ⟨hT0, hF, hk0⟩, q⟩ := h
    refine ⟨_, (pss_cons (ps_asg (pe_slice (kk_slt K) (pv 0) po_none (po_some pe_int)) (pg_tup (by rfl) (pgs_cons (pg_name (i := 1) sc__law_rule_of.nd rfl (.inl rfl)) (pgs_cons (pg_name (i := 2) sc__law_rule_of.nd rfl (.inl rfl)) (pgs_cons (pg_name (i := 3) sc__law_rule_of.nd rfl (.inl rfl)) (pgs_cons (pg_name (i := 4) sc__law_rule_of.nd rfl (.inl rfl)) (pgs_cons (pg_name (i := 5) sc__law_rule_of.nd rfl (.inl rfl)) pgs_nil)))))))
      (pss_one (ps_ret (pe_mkc M_Rule (hr.mono (by decide)) (by rfl) (pa_cons (pv 1) (pa_cons (pv 2) (pa_cons (pv 3) (pa_cons (pv 4) (pa_cons (pv 5) (pa_cons (pe_ix (kk_ixt K) (pv 0) pe_int (fun _ _ => rfl)) (pa_cons (pe_ix (kk_ixt K) (pv 0) pe_int (fun _ _ => rfl)) (pa_cons (pe_ix (kk_ixt K) (pv 0) pe_int (fun _ _ => rfl)) (pa_cons (pe_ix (kk_ixt K) (pv 0) pe_int (fun _ _ => rfl)) pa_nil))))))))))))), ?_⟩
    refine ⟨_, rfl, _, rfl, t, _, rfl, hT0, (by show ¬ (HT.sIx 9 0 none = 0 ∧ HT.sIx 9 9 (some 5) = 9); decide), fun u nu => ?_⟩
    refine ⟨u, _, rfl, SqT.of upd_same, rfl, _, _, rfl, _, _, rfl, _, _, rfl, _, _, rfl, _, _, rfl, rfl, ?_⟩
    have su := same_new (o := .tup (cutV [V.int f'.p, .int f'.s, .int f'.g, .bl f'.l, .int f'.m, kv, .int f'.fi, .int f'.fa, .int f'.ba] none (some 5))) nu
    have hT := seqT_same su hT0
    have hk := hk0.same su
    generalize upd H u (.tup (cutV [V.int f'.p, .int f'.s, .int f'.g, .bl f'.l, .int f'.m, kv, .int f'.fi, .int f'.fa, .int f'.ba] none (some 5))) = G at *
    refine ⟨_, rfl, _, rfl, _, rfl, _, rfl, _, rfl, _, rfl, t, _, _, _, rfl, rfl, hT, rfl, _, rfl, t, _, _, _, rfl, rfl, hT, rfl, _, rfl, t, _, _, _, rfl, rfl, hT, rfl, _, rfl, t, _, _, _, rfl, rfl, hT, rfl, ?_⟩
    intro x dx nx ndx hne
    have sx : Same G (upd (upd G dx (.own x)) x (.ins CR dx [])) := (same_new ndx).trans (same_new (by rw [upd_ne hne.symm]; exact nx))
    exact ⟨x, dx, _, _, _, _, _, kv, kd, f'.ks, _, _, _, rfl, upd_same, hF, hk.same sx, fun H' kt hb e hs => ⟨rfl, q H' x (none_of su nx) (su.trans (same_but sx nx hb)) ⟨dx, kt, e, hs⟩⟩⟩
/-! ### what a rule shows -/
def kAt (f : Fg) (i : Int) : Int := f.ks.getD i.toNat 0
theorem kAt_at {f : Fg} (ok : f.Ok) {i : Int} (h0 : 0 ≤ i) (h1 : i < f.p) : f.ks[i.toNat]? = some (kAt f i) := by
  have hl := ok.len
  have h : i.toNat < f.ks.length := by omega
  unfold kAt
  rw [List.getD_eq_getElem?_getD, List.getElem?_eq_getElem h]
  rfl
theorem kAt_atI {f : Fg} (ok : f.Ok) {i : Int} (h0 : 0 ≤ i) (h1 : i < f.p) : atI (f.ks.map V.int) i = some (.int (kAt f i)) := by
  have h := kAt_at ok h0 h1
  obtain ⟨j, rfl⟩ := Int.eq_ofNat_of_zero_le h0
  rw [Int.toNat_natCast] at h
  refine atI_nat ?_
  rw [List.getElem?_map, h]
  rfl
def shV (f : Fg) (c : Cs) (e : Int) : List V := match c.w with
  | .go => [.str (Str.ofString "gone"), .int (keptV f (kAt f c.p) true)]
  | .so => [.str (Str.ofString "sold"), .bl (decide (e - c.d ≤ f.ba))]
  | _ => [.str (Str.ofString "stands"), .int (kAt f c.p), .bl (decide (e ≤ f.fa))]
def shD (f : Fg) (c : Cs) (e : Int) : PyData := match c.w with
  | .go => .tuple [.str (Str.ofString "gone"), .int (keptV f (kAt f c.p) true)]
  | .so => .tuple [.str (Str.ofString "sold"), .bool (decide (e - c.d ≤ f.ba))]
  | _ => .tuple [.str (Str.ofString "stands"), .int (kAt f c.p), .bool (decide (e ≤ f.fa))]
theorem sh_dp {K : PySem.W.Frag} {H : Hp} {a : Addr} {f : Fg} {c : Cs} {e : Int} (h : SqT K H a (shV f c e)) : Dp K H (.ref a) (shD f c e) := by
  unfold shV at h
  unfold shD
  cases hw : c.w <;> rw [hw] at h
  · exact .tup h (.cons (.str _) (.cons (.int _) (.cons (.bl _) .nil)))
  · exact .tup h (.cons (.str _) (.cons (.int _) .nil))
  · exact .tup h (.cons (.str _) (.cons (.bl _) .nil))
  · exact .tup h (.cons (.str _) (.cons (.int _) (.cons (.bl _) .nil)))
theorem sh_thin (f : Fg) (c : Cs) (e : Int) : thin (shD f c e) = true := by
  unfold shD
  split <;> rfl
theorem sh_depth (f : Fg) (c : Cs) (e : Int) : PyData.depth (shD f c e) ≤ 2 := by
  unfold shD
  split <;> simp [PyData.depth, PyData.depthAll]
theorem wS_so (w : Wd) : decide (V.str (wS w) = V.str (Str.ofString "sold")) = decide (w = .so) := by cases w <;> decide +kernel
/-! how many are paid -/
def PIn (p : Int) (c : Cs) : Prop := 0 ≤ c.p ∧ (c.w ≠ .so → c.p < p)
theorem passN_p {s g : Int} : ∀ (n : Nat) (d p m day : Int), (passN s g n d p m day).p = p ∧ (passN s g n d p m day).w ≠ .so
  | 0, d, p, m, day => by
    unfold passN
    split <;> exact ⟨rfl, fun z => by cases z⟩
  | n + 1, d, p, m, day => by
    unfold passN
    split
    · exact passN_p n (d + s) p (m + 1) day
    · exact ⟨rfl, fun z => by cases z⟩
theorem pass_in {p s g ms day : Int} {c : Cs} (h : PIn p c) : PIn p (passT s g ms c day) := by
  unfold passT
  split
  · rename_i hw
    have := passN_p (s := s) (g := g) (ms - c.m).toNat c.d c.p c.m day
    obtain ⟨a, b⟩ := h
    refine ⟨by rw [this.1]; exact a, fun _ => ?_⟩
    rw [this.1]
    exact b (by rw [hw]; intro z; cases z)
  · exact h
theorem pay_in {p s day : Int} {l : Bool} {c : Cs} (h : PIn p c) : PIn p (payT p s l c day) := by
  unfold payT
  split
  · rename_i hw
    obtain ⟨a, b⟩ := h
    have hb := b (by rw [hw]; intro z; cases z)
    split
    · exact ⟨by show 0 ≤ c.p + 1; omega, fun z => absurd rfl z⟩
    · exact ⟨by show 0 ≤ c.p + 1; omega, fun _ => by show c.p + 1 < p; omega⟩
  · exact h
theorem fold_in {p s g ms e : Int} {l : Bool} : ∀ (ds : List Int) {c : Cs}, PIn p c → PIn p (ds.foldl (stepT p s g l ms e) c)
  | [], _, h => h
  | d :: r, c, h => by
    refine fold_in r ?_
    unfold stepT
    split
    · exact pay_in (pass_in h)
    · exact h
theorem course_in {p s g ms e : Int} {l : Bool} (ds : List Int) (h : 1 ≤ p) : PIn p (courseT p s g l ms ds e) := pass_in (fold_in ds ⟨Int.le_refl 0, fun _ => by show 0 < p; omega⟩)
/-! no state is up here -/
theorem passN_nup {s g : Int} : ∀ (n : Nat) (d p m day : Int), (passN s g n d p m day).w ≠ .up
  | 0, d, p, m, day => by
    unfold passN
    split <;> exact fun z => by cases z
  | n + 1, d, p, m, day => by
    unfold passN
    split
    · exact passN_nup n _ _ _ _
    · exact fun z => by cases z
theorem pass_nup {s g ms day : Int} {c : Cs} (h : c.w ≠ .up) : (passT s g ms c day).w ≠ .up := by
  unfold passT
  split
  · exact passN_nup _ _ _ _ _
  · exact h
theorem pay_nup {p s day : Int} {l : Bool} {c : Cs} (h : c.w ≠ .up) : (payT p s l c day).w ≠ .up := by
  unfold payT
  split
  · split <;> exact fun z => by cases z
  · exact h
theorem fold_nup {p s g ms e : Int} {l : Bool} : ∀ (ds : List Int) {c : Cs}, c.w ≠ .up → (ds.foldl (stepT p s g l ms e) c).w ≠ .up
  | [], _, h => h
  | d :: r, c, h => by
    refine fold_nup r ?_
    unfold stepT
    split
    · exact pay_nup (pass_nup h)
    · exact h
theorem course_nup {p s g ms e : Int} {l : Bool} (ds : List Int) : (courseT p s g l ms ds e).w ≠ .up := pass_nup (fold_nup ds fun z => by cases z)
/-! a rising row, parted at a day -/
theorem filt_eq {D : Int} : ∀ {ds : List Int}, Rise ds → ds.filter (fun d => decide (D ≤ d)) = ds.filter (fun d => decide (d = D)) ++ ds.filter (fun d => decide (D < d))
  | [], _ => rfl
  | d :: r, h => by
    obtain ⟨h1, h2⟩ := List.pairwise_cons.mp h
    have ih := filt_eq (D := D) h2
    rcases Int.lt_trichotomy d D with c | c | c
    · rw [List.filter_cons_of_neg (by simp; omega), List.filter_cons_of_neg (by simp; omega), List.filter_cons_of_neg (by simp; omega), ih]
    · rw [List.filter_cons_of_pos (by simp; omega), List.filter_cons_of_pos (by simp; omega), List.filter_cons_of_neg (by simp; omega), ih]
      rfl
    · have e : r.filter (fun x => decide (x = D)) = [] := List.filter_eq_nil_iff.mpr fun x hx => by
        have := h1 x hx
        simp
        omega
      rw [e, List.nil_append] at ih
      rw [List.filter_cons_of_pos (by simp; omega), List.filter_cons_of_neg (by simp; omega), List.filter_cons_of_pos (by simp; omega), ih, e]
      rfl
theorem filt_next {D : Int} (ds : List Int) : ds.filter (fun d => decide (D < d)) = ds.filter (fun d => decide (D + 1 ≤ d)) := by
  congr 1
/-! ### shown_of -/
abbrev s_shown_of : Stmt := topS 11
abbrev N_shown_of : List Str := ["rule", "state", "end", "word", "day", "paid", "missed"]
theorem sc_shown_of : FnScope N_shown_of ["rule", "state", "end"] (defScope s_shown_of) := ⟨rfl, rfl, rfl, by decide +kernel, rfl, by decide +kernel, by decide +kernel⟩
def sp_shown_of (K : PySem.W.Frag) (C : Addr) : Sp := fun vs H Q _ => ∃ (r a : Addr) (e : Int) (f : Fg) (c : Cs), vs = [.ref r, .ref a, .int e] ∧ RuleAt K H C r f ∧ f.Ok ∧ StAt K H a c ∧ PIn f.p c ∧ ∀ H' b, Same H H' → H' b = some (.tup (shV f c e)) → Q (.ref b) H'
theorem ok_shown_of {f : Addr} {fd : FuncData} (F : Fun K "shown_of" "shown_of" s_shown_of f fd) (g : mg "shown_of" = some (.ref f)) (bd : Binds K fd ["rule", "state", "end"] []) {CR : Addr} (TQ : TEq K mg CR "Rule") (T_Rule : TRule K mg CR) (C_Rule_keeps_1k : CMtK P w K mg base CR 1 "keeps" ["self", "paid", "gone"] 2 ["gone"] (fun vs zs => vs ++ zs) (sp_Rule_keeps K CR)) (C_Rule_keeps_1 : CMt P w K mg base CR 1 "keeps" ["self", "paid", "gone"] [.bl false] (sp_Rule_keeps K CR)) : CF P w K mg base 2 "shown_of" ["rule", "state", "end"] (sp_shown_of K CR) := by
  refine ⟨f, fd, F.ok sc_shown_of (fun vs H Q E h => ?_) (fun cdv A outer s H vs Q E hr h => ?_), g, F.kp, bd⟩
  · first | (obtain ⟨_, rfl, _⟩ := h; rfl) | (obtain ⟨_, _, rfl, _⟩ := h; rfl) | (obtain ⟨_, _, _, rfl, _⟩ := h; rfl) | (obtain ⟨_, _, _, _, rfl, _⟩ := h; rfl) | (obtain ⟨_, _, _, _, _, rfl, _⟩ := h; rfl) | (obtain ⟨_, _, _, _, _, _, rfl, _⟩ := h; rfl) | (obtain ⟨_, _, _, _, _, _, _, rfl, _⟩ := h; rfl) | (obtain ⟨_, _, _, _, _, _, _, _, rfl, _⟩ := h; rfl) | (obtain ⟨_, _, _, _, _, _, _, _, _, rfl, _⟩ := h; rfl) | (obtain ⟨_, _, _, _, _, _, _, _, _, _, rfl, _⟩ := h; rfl) | (obtain ⟨_, _, _, _, _, _, _, _, _, _, _, rfl, _⟩ := h; rfl) | (obtain ⟨_, _, _, _, _, _, _, _, _, _, _, _, rfl, _⟩ := h; rfl) | (obtain ⟨_, _, _, _, _, _, _, _, _, _, _, _, _, rfl, _⟩ := h; rfl) | (obtain ⟨_, _, _, _, _, _, _, _, _, _, _, _, _, _, rfl, _⟩ := h; rfl) | (obtain ⟨_, _, _, _, _, _, _, _, _, _, _, _, _, _, _, rfl, _⟩ := h; rfl)
  · have hu64 := hr.units
    obtain ⟨r, a, e, f', c, rfl, hR, ok, hc, hp, q⟩ := h
    refine ⟨_, (pss_cons (ps_asg (pv 1) (pg_tup (by rfl) (pgs_cons (pg_name (i := 3) sc_shown_of.nd rfl (.inl rfl)) (pgs_cons (pg_name (i := 4) sc_shown_of.nd rfl (.inl rfl)) (pgs_cons (pg_name (i := 5) sc_shown_of.nd rfl (.inl rfl)) (pgs_cons (pg_name (i := 6) sc_shown_of.nd rfl (.inl rfl)) pgs_nil))))))
      (pss_cons (ps_if (pt_cmpR op_eq (pv 3) pe_str (nomark _))
         (pss_one (ps_ret (pe_tup (pa_cons pe_str (pa_cons (pe_mtK C_Rule_keeps_1k T_Rule.cl (hr.mono (by decide)) (pv 0) (pa_cons (pv 5) pa_nil) (pk_cons pe_bl pk_nil)) pa_nil)))))
         pss_nil)
      (pss_cons (ps_if (pt_cmpR op_eq (pv 3) pe_str (nomark _))
         (pss_one (ps_ret (pe_tup (pa_cons pe_str (pa_cons (pe_cmpR op_le (pe_op op_sub (pv 2) (pv 4)) (pe_fld (pv 0) rfl) (nomark _)) pa_nil)))))
         pss_nil)
      (pss_one (ps_ret (pe_tup (pa_cons pe_str (pa_cons (pe_mt C_Rule_keeps_1 T_Rule.cl (hr.mono (by decide)) (pv 0) (pa_cons (pv 5) pa_nil)) (pa_cons (pe_cmpR op_le (pv 2) (pe_fld (pv 0) rfl) (nomark _)) pa_nil))))))))), ?_⟩
    obtain ⟨dx, kt, h1, h2⟩ := id hR
    have lk : (ruleF f'.p f'.s f'.g f'.l f'.m kt f'.fi f'.fa f'.ba).lookup ("keeps" : Str) = none := lk0 (by decide +kernel)
    obtain ⟨p0, p1⟩ := hp
    refine ⟨_, rfl, a, _, rfl, hc, rfl, _, _, rfl, _, _, rfl, _, _, rfl, _, _, rfl, rfl, ?_⟩
    refine ⟨_, rfl, rfl, _, rfl, ?_⟩
    rw [wS_go]
    unfold shV at q
    cases hw : c.w with
    | go =>
      rw [hw] at q p1
      have p2 := p1 (by intro z; cases z)
      exact iteT ⟨_, rfl, r, dx, _, rfl, h1, lk, _, rfl, rfl, rfl, r, _, _, f', _, rfl, hR, ok, p0, p2, kAt_at ok p0 p2, (by show 2 ≤ sizeLine; decide), fun t nt => q _ t (same_new nt) upd_same⟩
    | so =>
      rw [hw] at q
      refine iteF ⟨_, rfl, rfl, _, rfl, ?_⟩
      rw [wS_so]
      exact iteT ⟨_, rfl, _, rfl, _, _, rfl, rfl, _, rfl, r, CR, dx, _, _, rfl, h1, T_Rule.cl, T_Rule.n9, lk9, _, _, rfl, rfl, (by show 2 ≤ sizeLine; decide), fun t nt => q _ t (same_new nt) upd_same⟩
    | st | up =>
      rw [hw] at q p1
      have p2 := p1 (by intro z; cases z)
      refine iteF ⟨_, rfl, rfl, _, rfl, ?_⟩
      rw [wS_so]
      exact iteF ⟨_, rfl, r, dx, _, rfl, h1, lk, _, rfl, r, _, _, f', _, rfl, hR, ok, p0, p2, kAt_at ok p0 p2, _, rfl, _, rfl, r, CR, dx, _, _, rfl, h1, T_Rule.cl, T_Rule.n8, lk8, _, _, rfl, rfl, (by show 3 ≤ sizeLine; decide), fun t nt => q _ t (same_new nt) upd_same⟩
/-! ### shown -/
abbrev s_shown : Stmt := topS 10
abbrev N_shown : List Str := ["rule", "days", "end"]
theorem sc_shown : FnScope N_shown ["rule", "days", "end"] (defScope s_shown) := ⟨rfl, rfl, rfl, by decide +kernel, rfl, by decide +kernel, by decide +kernel⟩
def sp_shown (K : PySem.W.Frag) (C : Addr) : Sp := fun vs H Q _ => ∃ (r a : Addr) (e : Int) (f : Fg) (ds : List Int), vs = [.ref r, .ref a, .int e] ∧ RuleAt K H C r f ∧ f.Ok ∧ (SqL K H a (ds.map V.int) ∨ SqT K H a (ds.map V.int)) ∧ ∀ H' b, Same H H' → H' b = some (.tup (shV f (courseT f.p f.s f.g f.l f.m ds e) e)) → Q (.ref b) H'
theorem ok_shown {f : Addr} {fd : FuncData} (F : Fun K "shown" "shown" s_shown f fd) (g : mg "shown" = some (.ref f)) (bd : Binds K fd ["rule", "days", "end"] []) {CR : Addr} (TQ : TEq K mg CR "Rule") (T_Rule : TRule K mg CR) (C_shown_of : CF P w K mg base 2 "shown_of" ["rule", "state", "end"] (sp_shown_of K CR)) (C_course : CF P w K mg base 4 "course" ["rule", "days", "end"] (sp_course K CR)) : CF P w K mg base 5 "shown" ["rule", "days", "end"] (sp_shown K CR) := by
  refine ⟨f, fd, F.ok sc_shown (fun vs H Q E h => ?_) (fun cdv A outer s H vs Q E hr h => ?_), g, F.kp, bd⟩
  · first | (obtain ⟨_, rfl, _⟩ := h; rfl) | (obtain ⟨_, _, rfl, _⟩ := h; rfl) | (obtain ⟨_, _, _, rfl, _⟩ := h; rfl) | (obtain ⟨_, _, _, _, rfl, _⟩ := h; rfl) | (obtain ⟨_, _, _, _, _, rfl, _⟩ := h; rfl) | (obtain ⟨_, _, _, _, _, _, rfl, _⟩ := h; rfl) | (obtain ⟨_, _, _, _, _, _, _, rfl, _⟩ := h; rfl) | (obtain ⟨_, _, _, _, _, _, _, _, rfl, _⟩ := h; rfl) | (obtain ⟨_, _, _, _, _, _, _, _, _, rfl, _⟩ := h; rfl) | (obtain ⟨_, _, _, _, _, _, _, _, _, _, rfl, _⟩ := h; rfl) | (obtain ⟨_, _, _, _, _, _, _, _, _, _, _, rfl, _⟩ := h; rfl) | (obtain ⟨_, _, _, _, _, _, _, _, _, _, _, _, rfl, _⟩ := h; rfl) | (obtain ⟨_, _, _, _, _, _, _, _, _, _, _, _, _, rfl, _⟩ := h; rfl) | (obtain ⟨_, _, _, _, _, _, _, _, _, _, _, _, _, _, rfl, _⟩ := h; rfl) | (obtain ⟨_, _, _, _, _, _, _, _, _, _, _, _, _, _, _, rfl, _⟩ := h; rfl)
  · have hu64 := hr.units
    obtain ⟨r, a, e, f', ds, rfl, hR, ok, hS, q⟩ := h
    refine ⟨_, (pss_one (ps_ret (pe_cf C_shown_of (hr.mono (by decide)) (by rfl) (pa_cons (pv 0) (pa_cons (pe_cf C_course (hr.mono (by decide)) (by rfl) (pa_cons (pv 0) (pa_cons (pv 1) (pa_cons (pv 2) pa_nil)))) (pa_cons (pv 2) pa_nil)))))), ?_⟩
    exact ⟨_, rfl, _, rfl, _, rfl, _, rfl, r, a, e, f', ds, rfl, hR, ok, hS, fun H1 b1 s1 h1 => ⟨_, rfl, r, b1, e, f', _, rfl, hR.same s1, ok, h1, course_in ds ok.figs.p0, fun H2 b2 s2 h2 => q _ b2 (s1.trans s2) h2⟩⟩
/-! ### rows by the two states that they lead to -/
instance : DecidableEq Cs := fun a b => decidable_of_iff (a.w = b.w ∧ a.d = b.d ∧ a.p = b.p ∧ a.m = b.m) ⟨fun h => by
    obtain ⟨h1, h2, h3, h4⟩ := h
    cases a
    cases b
    cases h1
    cases h2
    cases h3
    cases h4
    rfl, fun h => by
    subst h
    exact ⟨rfl, rfl, rfl, rfl⟩⟩
abbrev Pr2 := Cs × Cs
def csK (c : Cs) : PySem.NestedKey := .tup [.text (wS c.w), .num c.d, .num c.p, .num c.m]
def prK (p : Pr2) : PySem.NestedKey := .tup [csK p.1, csK p.2]
theorem wS_inj : ∀ {a b : Wd}, wS a = wS b → a = b := fun {a b} h => by cases a <;> cases b <;> first | rfl | exact absurd h (by decide +kernel)
theorem csK_inj {a b : Cs} (h : csK a = csK b) : a = b := by
  obtain ⟨w1, d1, p1, m1⟩ := a
  obtain ⟨w2, d2, p2, m2⟩ := b
  unfold csK at h
  injection h with h
  injection h with h1 h
  injection h with h2 h
  injection h with h3 h
  injection h with h4 _
  injection h1 with h1
  injection h2 with h2
  injection h3 with h3
  injection h4 with h4
  have e : w1 = w2 := wS_inj h1
  have e2 : d1 = d2 := h2
  have e3 : p1 = p2 := h3
  have e4 : m1 = m2 := h4
  rw [e, e2, e3, e4]
theorem prK_inj {a b : Pr2} (h : prK a = prK b) : a = b := by
  obtain ⟨a1, a2⟩ := a
  obtain ⟨b1, b2⟩ := b
  unfold prK at h
  injection h with h
  injection h with h1 h
  injection h with h2 _
  have e1 : a1 = b1 := csK_inj h1
  have e2 : a2 = b2 := csK_inj h2
  rw [e1, e2]
theorem prK_depth (p : Pr2) : (prK p).depth ≤ 8 := by
  show (prK p).depth ≤ 8
  simp [prK, csK, PySem.NestedKey.depth, PySem.NestedKey.depthAll]
/-- the row at r -/
def RowO (H : Hp) (r : Addr) (xs : List Int) : Prop := H r = some (.lst (xs.map V.int))
abbrev Rows2 := List (Pr2 × List Int)
def TabE (H : Hp) (es : List ND.Ent) (m : Rows2) : Prop := Paired (fun e p => e.1 = prK p.1 ∧ ∃ r, e.2.2 = V.ref r ∧ RowO H r p.2) es m
def TabAt (P : Program) (w : World) (K : PySem.W.Frag) (H : Hp) (d : Addr) (es : List ND.Ent) (m : Rows2) : Prop := H d = some (ND.obj P w d es) ∧ ND.Keys K H es ∧ TabE H es m
theorem st_key {K : PySem.W.Frag} {H : Hp} {a : Addr} {c : Cs} (h : StAt K H a c) : ND.keyAt K H (csK c) (.ref a) :=
  ⟨a, csV c, rfl, h, _, _, rfl, rfl, _, _, rfl, rfl, _, _, rfl, rfl, _, _, rfl, rfl, rfl⟩
theorem pr_key {K : PySem.W.Frag} {H : Hp} {a x y : Addr} {p : Pr2} (h : SqT K H a [.ref x, .ref y]) (hx : StAt K H x p.1) (hy : StAt K H y p.2) : ND.keyAt K H (prK p) (.ref a) :=
  ⟨a, [.ref x, .ref y], rfl, h, _, _, rfl, st_key hx, _, _, rfl, st_key hy, rfl⟩
/-- the row that stands by a pair -/
def valR (m : Rows2) (k : Pr2) : Option (List Int) := (m.find? fun p => decide (p.1 = k)).map (·.2)
def putR (m : Rows2) (k : Pr2) (xs : List Int) : Rows2 := if (valR m k).isSome then m.map (fun p => if p.1 = k then (p.1, xs) else p) else m ++ [(k, xs)]
theorem val_tab {H : Hp} {es : List ND.Ent} {m : Rows2} {k : Pr2} (h : TabE H es m) : (ND.valN es (prK k) = none ∧ valR m k = none) ∨ ∃ r xs, ND.valN es (prK k) = some (.ref r) ∧ valR m k = some xs ∧ RowO H r xs := by
  induction h with
  | nil => exact .inl ⟨rfl, rfl⟩
  | @cons e p es m he t ih =>
    obtain ⟨e1, r, e2, e3⟩ := he
    by_cases z : p.1 = k
    · refine .inr ⟨r, p.2, ?_, ?_, e3⟩
      · unfold ND.valN
        rw [List.find?_cons_of_pos (by rw [e1, z]; exact decide_eq_true rfl)]
        show some e.2.2 = _
        rw [e2]
      · unfold valR
        rw [List.find?_cons_of_pos (by simpa using z)]
        rfl
    · have z2 : ¬ e.1 = prK k := fun y => z (prK_inj (e1 ▸ y))
      unfold ND.valN valR at ih ⊢
      rw [List.find?_cons_of_neg (by simpa using z2), List.find?_cons_of_neg (by simpa using z)]
      exact ih
/-! ### order_of_row -/
abbrev s_order_of_row : Stmt := topS 17
abbrev N_order_of_row : List Str := ["days"]
theorem sc_order_of_row : FnScope N_order_of_row ["days"] (defScope s_order_of_row) := ⟨rfl, rfl, rfl, by decide +kernel, rfl, by decide +kernel, by decide +kernel⟩
def sp_order_of_row (K : PySem.W.Frag) : Sp := fun vs H Q _ => ∃ (l : Addr) (xs : List Int), vs = [.ref l] ∧ SqL K H l (xs.map V.int) ∧ ∀ H' b, H b = none → H' b = some (.tup [.int (xs.length : Int), .ref l]) → Same H H' → Q (.ref b) H'
theorem ok_order_of_row {f : Addr} {fd : FuncData} (F : Fun K "order_of_row" "order_of_row" s_order_of_row f fd) (g : mg "order_of_row" = some (.ref f)) (bd : Binds K fd ["days"] []) (m_len : mg "len" = none) : CF P w K mg base 1 "order_of_row" ["days"] (sp_order_of_row K) := by
  refine ⟨f, fd, F.ok sc_order_of_row (fun vs H Q E h => ?_) (fun cdv A outer s H vs Q E hr h => ?_), g, F.kp, bd⟩
  · first | (obtain ⟨_, rfl, _⟩ := h; rfl) | (obtain ⟨_, _, rfl, _⟩ := h; rfl) | (obtain ⟨_, _, _, rfl, _⟩ := h; rfl) | (obtain ⟨_, _, _, _, rfl, _⟩ := h; rfl) | (obtain ⟨_, _, _, _, _, rfl, _⟩ := h; rfl) | (obtain ⟨_, _, _, _, _, _, rfl, _⟩ := h; rfl) | (obtain ⟨_, _, _, _, _, _, _, rfl, _⟩ := h; rfl) | (obtain ⟨_, _, _, _, _, _, _, _, rfl, _⟩ := h; rfl) | (obtain ⟨_, _, _, _, _, _, _, _, _, rfl, _⟩ := h; rfl) | (obtain ⟨_, _, _, _, _, _, _, _, _, _, rfl, _⟩ := h; rfl) | (obtain ⟨_, _, _, _, _, _, _, _, _, _, _, rfl, _⟩ := h; rfl) | (obtain ⟨_, _, _, _, _, _, _, _, _, _, _, _, rfl, _⟩ := h; rfl) | (obtain ⟨_, _, _, _, _, _, _, _, _, _, _, _, _, rfl, _⟩ := h; rfl) | (obtain ⟨_, _, _, _, _, _, _, _, _, _, _, _, _, _, rfl, _⟩ := h; rfl) | (obtain ⟨_, _, _, _, _, _, _, _, _, _, _, _, _, _, _, rfl, _⟩ := h; rfl)
  · have hu64 := hr.units
    obtain ⟨l, xs, rfl, hl, q⟩ := h
    refine ⟨_, (pss_one (ps_ret (pe_tup (pa_cons (pe_callB (kk_len K) (by rfl) m_len PySem.boot_len (pa_cons (pv 0) pa_nil)) (pa_cons (pv 0) pa_nil))))), ?_⟩
    refine ⟨_, rfl, l, xs.map V.int, rfl, .inl hl, _, rfl, (by show 2 ≤ sizeLine; decide), fun t nt => ?_⟩
    rw [List.length_map]
    exact q _ t nt upd_same (same_new nt)
theorem sqT_upd {K : PySem.W.Frag} {H : Hp} {d a : Addr} {φ : Heap → Prop} {o : HO} {vs : List V} (hd : H d = some (.ext φ)) (h : SqT K H a vs) : SqT K (upd H d o) a vs := by
  rcases h with (h | ⟨ob, h⟩) | h
  · exact .inl (.inl (by rw [upd_ne (ne_of h hd (by intro z; cases z))]; exact h))
  · exact .inl (.inr ⟨ob, by rw [upd_ne (ne_of h hd (by intro z; cases z))]; exact h⟩)
  · exact .inr h
theorem row_upd {H : Hp} {d r : Addr} {φ : Heap → Prop} {o : HO} {xs : List Int} (hd : H d = some (.ext φ)) (h : RowO H r xs) : RowO (upd H d o) r xs := by
  unfold RowO at h ⊢
  rw [upd_ne (ne_of h hd (by intro z; cases z))]
  exact h
theorem tabE_map {H H' : Hp} {es : List ND.Ent} {m : Rows2} (e : ∀ r xs, RowO H r xs → RowO H' r xs) (h : TabE H es m) : TabE H' es m := by
  induction h with
  | nil => exact .nil
  | cons q t ih => exact .cons ⟨q.1, q.2.choose, q.2.choose_spec.1, e _ _ q.2.choose_spec.2⟩ ih
theorem keys_map {K : PySem.W.Frag} {H H' : Hp} {es : List ND.Ent} (e : ∀ a vs, SqT K H a vs → SqT K H' a vs) (h : ND.Keys K H es) : ND.Keys K H' es := fun p hp => ⟨ND.keyAt_ext e _ _ (h p hp).1, (h p hp).2⟩
theorem TabAt.same {P : Program} {w : World} {K : PySem.W.Frag} {H H' : Hp} {d : Addr} {es : List ND.Ent} {m : Rows2} (h : TabAt P w K H d es m) (e : Same H H') : TabAt P w K H' d es m :=
  ⟨e _ _ h.1, keys_map (fun _ _ q => seqT_same e q) h.2.1, tabE_map (fun _ _ q => e _ _ q) h.2.2⟩
theorem put_tab {H : Hp} {es : List ND.Ent} {m : Rows2} {k : Pr2} {a r : Addr} {xs : List Int} (h : TabE H es m) (hr : RowO H r xs) : TabE H (ND.putN es (prK k) a (.ref r)) (putR m k xs) := by
  have hs : (ND.valN es (prK k)).isSome = (valR m k).isSome := by
    rcases val_tab (k := k) h with ⟨h1, h2⟩ | ⟨r', xs', h1, h2, _⟩ <;> rw [h1, h2] <;> rfl
  unfold ND.putN putR
  rw [hs]
  by_cases c : (valR m k).isSome = true
  · rw [if_pos c, if_pos c]
    clear hs c
    induction h with
    | nil => exact .nil
    | @cons e p es m q t ih =>
      refine .cons ?_ ih
      show (ND.putE (prK k) (V.ref r) e).1 = prK (if p.1 = k then (p.1, xs) else p).1 ∧ ∃ r1, (ND.putE (prK k) (V.ref r) e).2.2 = V.ref r1 ∧ RowO H r1 (if p.1 = k then (p.1, xs) else p).2
      unfold ND.putE
      by_cases z : p.1 = k
      · rw [if_pos z, if_pos (by rw [q.1, z])]
        exact ⟨q.1, r, rfl, hr⟩
      · rw [if_neg z, if_neg (fun y => z (prK_inj (q.1 ▸ y)))]
        exact q
  · rw [if_neg c, if_neg c]
    clear hs c
    induction h with
    | nil => exact .cons ⟨rfl, r, rfl, hr⟩ .nil
    | @cons e p es m q t ih => exact .cons q ih
theorem put_keys {K : PySem.W.Frag} {H : Hp} {es : List ND.Ent} {k : PySem.NestedKey} {a : Addr} {v : V} (h : ND.Keys K H es) (hk : ND.keyAt K H k (.ref a)) (hz : k.depth ≤ 8) : ND.Keys K H (ND.putN es k a v) := by
  unfold ND.putN
  split
  · intro p hp
    obtain ⟨q, hq, e⟩ := List.mem_map.mp hp
    have := h q hq
    rw [← e]
    unfold ND.putE
    split <;> exact this
  · intro p hp
    rcases List.mem_append.mp hp with hp | hp
    · exact h p hp
    · rw [List.mem_singleton.mp hp]
      exact ⟨hk, hz⟩
/-- the rows' lists are not of the heap H0 -/
def FrT (H0 : Hp) (es : List ND.Ent) : Prop := ∀ e ∈ es, ∀ r, e.2.2 = V.ref r → H0 r = none
theorem put_fr {H0 : Hp} {es : List ND.Ent} {k : PySem.NestedKey} {a r : Addr} (h : FrT H0 es) (hr : H0 r = none) : FrT H0 (ND.putN es k a (.ref r)) := by
  have one : ∀ r', V.ref r = V.ref r' → H0 r' = none := fun r' e => by
    cases e
    exact hr
  unfold ND.putN
  split
  · intro p hp r' e
    obtain ⟨q, hq, eq⟩ := List.mem_map.mp hp
    rw [← eq] at e
    unfold ND.putE at e
    split at e
    · exact one r' e
    · exact h q hq r' e
  · intro p hp r' e
    rcases List.mem_append.mp hp with hp | hp
    · exact h p hp r' e
    · rw [List.mem_singleton.mp hp] at e
      exact one r' e
/-- the first of two rows -/
def lenKey (xs : List Int) : Int × List Int := ((xs.length : Int), xs)
def keepF (m : Rows2) (k : Pr2) (xs : List Int) : Rows2 := match valR m k with
  | none => putR m k xs
  | some old => if ND.keyLt (lenKey xs) (lenKey old) then putR m k xs else m
theorem len_tab {H : Hp} {es : List ND.Ent} {m : Rows2} (h : TabE H es m) : es.length = m.length := Paired.length h
theorem tab_put {P : Program} {w : World} {K : PySem.W.Frag} {H : Hp} {d a x y r : Addr} {es : List ND.Ent} {m : Rows2} {k : Pr2} {xs : List Int} (h : TabAt P w K H d es m) (ha : SqT K H a [.ref x, .ref y]) (hx : StAt K H x k.1) (hy : StAt K H y k.2) (hr : RowO H r xs) :
    TabAt P w K (upd H d (ND.obj P w d (ND.putN es (prK k) a (.ref r)))) d (ND.putN es (prK k) a (.ref r)) (putR m k xs) :=
  ⟨upd_same, keys_map (fun _ _ => sqT_upd h.1) (put_keys h.2.1 (pr_key ha hx hy) (prK_depth k)), tabE_map (fun _ _ => row_upd h.1) (put_tab h.2.2 hr)⟩
/-! ### keep_first -/
abbrev s_keep_first : Stmt := topS 16
abbrev N_keep_first : List Str := ["firsts", "states", "days"]
theorem sc_keep_first : FnScope N_keep_first ["firsts", "states", "days"] (defScope s_keep_first) := ⟨rfl, rfl, rfl, by decide +kernel, rfl, by decide +kernel, by decide +kernel⟩
def sp_keep_first (K : PySem.W.Frag) (P : Program) (w : World) : Sp := fun vs H Q _ => ∃ (d a x y r : Addr) (es : List ND.Ent) (m : Rows2) (k : Pr2) (xs : List Int), vs = [.ref d, .ref a, .ref r] ∧ TabAt P w K H d es m ∧ SqT K H a [.ref x, .ref y] ∧ StAt K H x k.1 ∧ StAt K H y k.2 ∧ RowO H r xs ∧ m.length < sizeLine ∧ ∀ H' es', (∀ b o, b ≠ d → H b = some o → H' b = some o) → TabAt P w K H' d es' (keepF m k xs) → (∀ H0, FrT H0 es → H0 r = none → FrT H0 es') → Q .non H'
theorem ok_keep_first {f : Addr} {fd : FuncData} (F : Fun K "keep_first" "keep_first" s_keep_first f fd) (g : mg "keep_first" = some (.ref f)) (bd : Binds K fd ["firsts", "states", "days"] []) (C_order_of_row : CF P w K mg base 1 "order_of_row" ["days"] (sp_order_of_row K)) : CF P w K mg base 2 "keep_first" ["firsts", "states", "days"] (sp_keep_first K P w) := by
  refine ⟨f, fd, F.ok sc_keep_first (fun vs H Q E h => ?_) (fun cdv A outer s H vs Q E hr h => ?_), g, F.kp, bd⟩
  · first | (obtain ⟨_, rfl, _⟩ := h; rfl) | (obtain ⟨_, _, rfl, _⟩ := h; rfl) | (obtain ⟨_, _, _, rfl, _⟩ := h; rfl) | (obtain ⟨_, _, _, _, rfl, _⟩ := h; rfl) | (obtain ⟨_, _, _, _, _, rfl, _⟩ := h; rfl) | (obtain ⟨_, _, _, _, _, _, rfl, _⟩ := h; rfl) | (obtain ⟨_, _, _, _, _, _, _, rfl, _⟩ := h; rfl) | (obtain ⟨_, _, _, _, _, _, _, _, rfl, _⟩ := h; rfl) | (obtain ⟨_, _, _, _, _, _, _, _, _, rfl, _⟩ := h; rfl) | (obtain ⟨_, _, _, _, _, _, _, _, _, _, rfl, _⟩ := h; rfl) | (obtain ⟨_, _, _, _, _, _, _, _, _, _, _, rfl, _⟩ := h; rfl) | (obtain ⟨_, _, _, _, _, _, _, _, _, _, _, _, rfl, _⟩ := h; rfl) | (obtain ⟨_, _, _, _, _, _, _, _, _, _, _, _, _, rfl, _⟩ := h; rfl) | (obtain ⟨_, _, _, _, _, _, _, _, _, _, _, _, _, _, rfl, _⟩ := h; rfl) | (obtain ⟨_, _, _, _, _, _, _, _, _, _, _, _, _, _, _, rfl, _⟩ := h; rfl)
  · have hu64 := hr.units
    have hu9 := hu9_of hu64
    obtain ⟨d, a, x, y, r, es, m, k, xs, rfl, hT, ha, hx, hy, hr', hm, q⟩ := h
    refine ⟨_, (pss_one (ps_if (PW.pt (pw_or (pt_cmp (ND.pc_nnot hu9 (pv 1) (pv 0)) (by rfl)) (pw_or1 (pt_cmpR (ND.op_ltKey hu9) (pe_cf C_order_of_row (hr.mono (by decide)) (by rfl) (pa_cons (pv 2) pa_nil)) (pe_cf C_order_of_row (hr.mono (by decide)) (by rfl) (pa_cons (kk_nget P w K hu9 (pv 0) (pv 1) (fun _ _ => rfl)) pa_nil)) (nomark _)))))
         (pss_one (ps_asg (pv 2) (pg_sub (pv 0) (pv 1) (ND.set_nd hu9))))
         pss_nil)), ?_⟩
    obtain ⟨hd, hk, hte⟩ := id hT
    have hz : es.length < sizeLine := by
      rw [len_tab hte]
      exact hm
    refine ⟨_, rfl, _, rfl, d, a, es, prK k, rfl, rfl, .inl hd, hk, pr_key ha hx hy, prK_depth k, ?_⟩
    have st : ∀ H2, Same H H2 → (∀ H' es', (∀ b o, b ≠ d → H b = some o → H' b = some o) → TabAt P w K H' d es' (putR m k xs) → (∀ H0, FrT H0 es → H0 r = none → FrT H0 es') → Q .non H') → tAsg (tVar 2) (gSub (tVar 0) (tVar 1) (ND.rSetN P w K)) { nx := fun x H' => Q V.non H', rt := Q } (L2.start N_keep_first [V.ref d, V.ref a, V.ref r]) H2 := fun H2 e2 q2 => by
      have t2 := hT.same e2
      refine ⟨_, rfl, _, rfl, _, rfl, d, a, es, prK k, rfl, rfl, t2.1, t2.2.1, pr_key (seqT_same e2 ha) (hx.same e2) (hy.same e2), prK_depth k, hz, ?_⟩
      refine q2 _ _ (fun b o n e => ?_) (tab_put t2 (seqT_same e2 ha) (hx.same e2) (hy.same e2) (e2 _ _ hr')) (fun _ f1 f2 => put_fr f1 f2)
      rw [upd_ne n]
      exact e2 _ _ e
    rcases val_tab (k := k) hte with ⟨h1, h2⟩ | ⟨r2, old, h1, h2, h3⟩
    · rw [h1]
      have e : keepF m k xs = putR m k xs := by
        unfold keepF
        rw [h2]
      rw [e] at q
      exact ⟨true, rfl, iteT (iteT (st H (Same.refl H) q))⟩
    · rw [h1]
      refine ⟨false, rfl, iteF ⟨_, rfl, r, xs, rfl, SqL.of hr', fun H1 b1 _ e1 s1 => ?_⟩⟩
      have t1 := hT.same s1
      refine ⟨_, rfl, _, rfl, d, a, es, prK k, .ref r2, rfl, rfl, .inl t1.1, t1.2.1, pr_key (seqT_same s1 ha) (hx.same s1) (hy.same s1), prK_depth k, h1, r2, old, rfl, SqL.of (s1 _ _ h3), fun H2 b2 _ e2 s2 => ?_⟩
      have e : keepF m k xs = if ND.keyLt (lenKey xs) (lenKey old) then putR m k xs else m := by
        unfold keepF
        rw [h2]
      rw [e] at q
      refine ⟨b1, b2, lenKey xs, lenKey old, rfl, rfl, ⟨r, SqT.of (s2 _ _ e1), SqL.of (s2 _ _ (s1 _ _ hr'))⟩, ⟨r2, SqT.of e2, SqL.of (s2 _ _ (s1 _ _ h3))⟩, _, rfl, ite2 (fun z => ?_) fun z => ?_⟩
      · rw [if_pos z] at q
        exact st H2 (s1.trans s2) q
      · rw [if_neg z] at q
        exact q _ _ (fun b o _ e => s2 _ _ (s1 _ _ e)) ((hT.same s1).same s2) fun _ f1 _ => f1
/-- may a rule that shows this show something else later -/
def chgB (f : Fg) (c : Cs) (e : Int) : Bool := match c.w with
  | .go => false
  | .so => decide (e - c.d ≤ f.ba)
  | _ => true
theorem sh_shaped (f : Fg) (c : Cs) (e : Int) : SeqAt.shaped (shD f c e) = true := by
  have h1 : PyData.strOk (Str.ofString "stands") = true := by decide +kernel
  have h2 : PyData.strOk (Str.ofString "gone") = true := by decide +kernel
  have h3 : PyData.strOk (Str.ofString "sold") = true := by decide +kernel
  show (PyData.canLay0 (shD f c e) && decide (PyData.depth (shD f c e) ≤ 64)) = true
  unfold shD
  cases c.w <;> simp [PyData.canLay0, PyData.canLayAll0, PyData.depth, PyData.depthAll, h1, h2, h3]
/-! ### may_change -/
abbrev s_may_change : Stmt := topS 14
abbrev N_may_change : List Str := ["thing"]
theorem sc_may_change : FnScope N_may_change ["thing"] (defScope s_may_change) := ⟨rfl, rfl, rfl, by decide +kernel, rfl, by decide +kernel, by decide +kernel⟩
def sp_may_change (K : PySem.W.Frag) : Sp := fun vs H Q _ => ∃ (a : Addr) (f : Fg) (c : Cs) (e : Int), vs = [.ref a] ∧ SqT K H a (shV f c e) ∧ ∀ H', Same H H' → Q (.bl (chgB f c e)) H'
theorem ok_may_change {f : Addr} {fd : FuncData} (F : Fun K "may_change" "may_change" s_may_change f fd) (g : mg "may_change" = some (.ref f)) (bd : Binds K fd ["thing"] []) : CF P w K mg base 1 "may_change" ["thing"] (sp_may_change K) := by
  refine ⟨f, fd, F.ok sc_may_change (fun vs H Q E h => ?_) (fun cdv A outer s H vs Q E hr h => ?_), g, F.kp, bd⟩
  · first | (obtain ⟨_, rfl, _⟩ := h; rfl) | (obtain ⟨_, _, rfl, _⟩ := h; rfl) | (obtain ⟨_, _, _, rfl, _⟩ := h; rfl) | (obtain ⟨_, _, _, _, rfl, _⟩ := h; rfl) | (obtain ⟨_, _, _, _, _, rfl, _⟩ := h; rfl) | (obtain ⟨_, _, _, _, _, _, rfl, _⟩ := h; rfl) | (obtain ⟨_, _, _, _, _, _, _, rfl, _⟩ := h; rfl) | (obtain ⟨_, _, _, _, _, _, _, _, rfl, _⟩ := h; rfl) | (obtain ⟨_, _, _, _, _, _, _, _, _, rfl, _⟩ := h; rfl) | (obtain ⟨_, _, _, _, _, _, _, _, _, _, rfl, _⟩ := h; rfl) | (obtain ⟨_, _, _, _, _, _, _, _, _, _, _, rfl, _⟩ := h; rfl) | (obtain ⟨_, _, _, _, _, _, _, _, _, _, _, _, rfl, _⟩ := h; rfl) | (obtain ⟨_, _, _, _, _, _, _, _, _, _, _, _, _, rfl, _⟩ := h; rfl) | (obtain ⟨_, _, _, _, _, _, _, _, _, _, _, _, _, _, rfl, _⟩ := h; rfl) | (obtain ⟨_, _, _, _, _, _, _, _, _, _, _, _, _, _, _, rfl, _⟩ := h; rfl)
  · have hu64 := hr.units
    obtain ⟨a, f', c, e, rfl, ha, q⟩ := h
    refine ⟨_, (pss_one (ps_ret (pe_or (pe_cmpR op_eq (pe_ix (kk_ixt K) (pv 0) pe_int (fun _ _ => rfl)) pe_str (nomark _)) (pe_one (pe_cmpR (kk_eqD K hu64) (pv 0) (pe_tup (pa_cons pe_str (pa_cons pe_bl pa_nil))) (nomark _)))))), ?_⟩
    have two : ∀ (b : Bool), b = PyData.eqv (shD f' c e) (.tuple [.str (Str.ofString "sold"), .bool true]) → b = chgB f' c e → tOp (rEqD K) (tVar 0) (tTup (tCons (tC (V.str (Str.ofString "sold"))) (tCons (tC (V.bl true)) tNil))) (L2.start N_may_change [V.ref a]) H Q := fun b e1 e2 => by
      refine ⟨_, rfl, (by show 2 ≤ sizeLine; decide), fun t nt => ⟨shD f' c e, .tuple [.str (Str.ofString "sold"), .bool true], sh_dp (seqT_same (same_new nt) ha), .tup (SqT.of upd_same) (.cons (.str _) (.cons (.bl _) .nil)), sh_shaped f' c e, by decide +kernel, ?_⟩⟩
      rw [← e1, e2]
      exact q _ (same_new nt)
    have go : ∀ z : Str, atI (shV f' c e) 0 = some (.str z) → (if decide (V.str z = V.str (Str.ofString "stands")) = true then Q (.bl true) H else tOp (rEqD K) (tVar 0) (tTup (tCons (tC (V.str (Str.ofString "sold"))) (tCons (tC (V.bl true)) tNil))) (L2.start N_may_change [V.ref a]) H Q) → tRet (tOrV (tOp rEq (tOp (rIxT K) (tVar 0) (tC (V.int 0))) (tC (V.str (Str.ofString "stands")))) (tOp (rEqD K) (tVar 0) (tTup (tCons (tC (V.str (Str.ofString "sold"))) (tCons (tC (V.bl true)) tNil))))) { nx := fun x H' => Q V.non H', rt := Q } (L2.start N_may_change [V.ref a]) H := fun z h0 h => ⟨_, rfl, a, _, 0, _, rfl, rfl, ha, h0, rfl, _, rfl, h⟩
    cases hw : c.w with
    | st | up =>
      have e2 : chgB f' c e = true := by
        unfold chgB
        rw [hw]
      rw [e2] at q
      refine go (Str.ofString "stands") (by unfold shV; rw [hw]; rfl) ?_
      rw [decide_eq_true rfl]
      exact iteT (q H (Same.refl H))
    | go =>
      have n : ¬ V.str (Str.ofString "gone") = V.str (Str.ofString "stands") := by decide +kernel
      refine go (Str.ofString "gone") (by unfold shV; rw [hw]; rfl) ?_
      rw [decide_eq_false n]
      refine iteF (two false ?_ ?_)
      · unfold shD
        rw [hw]
        have n2 : (Str.ofString "gone" == Str.ofString "sold") = false := by decide +kernel
        simp [PyData.eqv, PyData.eqvAll, n2]
      · unfold chgB
        rw [hw]
    | so =>
      have n : ¬ V.str (Str.ofString "sold") = V.str (Str.ofString "stands") := by decide +kernel
      refine go (Str.ofString "sold") (by unfold shV; rw [hw]; rfl) ?_
      rw [decide_eq_false n]
      refine iteF (two (decide (e - c.d ≤ f'.ba)) ?_ ?_)
      · unfold shD
        rw [hw]
        simp [PyData.eqv, PyData.eqvAll]
      · unfold chgB
        rw [hw]
/-! ### show_unlike -/
abbrev s_show_unlike : Stmt := topS 13
abbrev N_show_unlike : List Str := ["one", "other", "states", "end"]
theorem sc_show_unlike : FnScope N_show_unlike ["one", "other", "states", "end"] (defScope s_show_unlike) := ⟨rfl, rfl, rfl, by decide +kernel, rfl, by decide +kernel, by decide +kernel⟩
def sp_show_unlike (K : PySem.W.Frag) (C : Addr) : Sp := fun vs H Q _ => ∃ (r1 r2 a x y : Addr) (e : Int) (f1 f2 : Fg) (k : Pr2), vs = [.ref r1, .ref r2, .ref a, .int e] ∧ RuleAt K H C r1 f1 ∧ f1.Ok ∧ RuleAt K H C r2 f2 ∧ f2.Ok ∧ SqT K H a [.ref x, .ref y] ∧ StAt K H x k.1 ∧ StAt K H y k.2 ∧ PIn f1.p k.1 ∧ PIn f2.p k.2 ∧ ∀ H', Same H H' → Q (.bl (!PyData.eqv (shD f1 k.1 e) (shD f2 k.2 e))) H'
theorem ok_show_unlike {f : Addr} {fd : FuncData} (F : Fun K "show_unlike" "show_unlike" s_show_unlike f fd) (g : mg "show_unlike" = some (.ref f)) (bd : Binds K fd ["one", "other", "states", "end"] []) {CR : Addr} (TQ : TEq K mg CR "Rule") (T_Rule : TRule K mg CR) (C_shown_of : CF P w K mg base 2 "shown_of" ["rule", "state", "end"] (sp_shown_of K CR)) : CF P w K mg base 3 "show_unlike" ["one", "other", "states", "end"] (sp_show_unlike K CR) := by
  refine ⟨f, fd, F.ok sc_show_unlike (fun vs H Q E h => ?_) (fun cdv A outer s H vs Q E hr h => ?_), g, F.kp, bd⟩
  · first | (obtain ⟨_, rfl, _⟩ := h; rfl) | (obtain ⟨_, _, rfl, _⟩ := h; rfl) | (obtain ⟨_, _, _, rfl, _⟩ := h; rfl) | (obtain ⟨_, _, _, _, rfl, _⟩ := h; rfl) | (obtain ⟨_, _, _, _, _, rfl, _⟩ := h; rfl) | (obtain ⟨_, _, _, _, _, _, rfl, _⟩ := h; rfl) | (obtain ⟨_, _, _, _, _, _, _, rfl, _⟩ := h; rfl) | (obtain ⟨_, _, _, _, _, _, _, _, rfl, _⟩ := h; rfl) | (obtain ⟨_, _, _, _, _, _, _, _, _, rfl, _⟩ := h; rfl) | (obtain ⟨_, _, _, _, _, _, _, _, _, _, rfl, _⟩ := h; rfl) | (obtain ⟨_, _, _, _, _, _, _, _, _, _, _, rfl, _⟩ := h; rfl) | (obtain ⟨_, _, _, _, _, _, _, _, _, _, _, _, rfl, _⟩ := h; rfl) | (obtain ⟨_, _, _, _, _, _, _, _, _, _, _, _, _, rfl, _⟩ := h; rfl) | (obtain ⟨_, _, _, _, _, _, _, _, _, _, _, _, _, _, rfl, _⟩ := h; rfl) | (obtain ⟨_, _, _, _, _, _, _, _, _, _, _, _, _, _, _, rfl, _⟩ := h; rfl)
  · have hu64 := hr.units
    obtain ⟨r1, r2, a, x, y, e, f1, f2, k, rfl, hR1, ok1, hR2, ok2, ha, hx, hy, p1, p2, q⟩ := h
    refine ⟨_, (pss_one (ps_ret (pe_cmpR (kk_neD K hu64) (pe_cf C_shown_of (hr.mono (by decide)) (by rfl) (pa_cons (pv 0) (pa_cons (pe_ix (kk_ixt K) (pv 2) pe_int (fun _ _ => rfl)) (pa_cons (pv 3) pa_nil)))) (pe_cf C_shown_of (hr.mono (by decide)) (by rfl) (pa_cons (pv 1) (pa_cons (pe_ix (kk_ixt K) (pv 2) pe_int (fun _ _ => rfl)) (pa_cons (pv 3) pa_nil)))) (nomark _)))), ?_⟩
    refine ⟨_, rfl, _, rfl, a, _, 0, .ref x, rfl, rfl, ha, rfl, _, rfl, r1, x, e, f1, k.1, rfl, hR1, ok1, hx, p1, fun H1 b1 s1 h1 => ?_⟩
    refine ⟨_, rfl, _, rfl, a, _, 1, .ref y, rfl, rfl, seqT_same s1 ha, rfl, _, rfl, r2, y, e, f2, k.2, rfl, hR2.same s1, ok2, hy.same s1, p2, fun H2 b2 s2 h2 => ?_⟩
    exact ⟨_, _, sh_dp (SqT.of (s2 _ _ h1)), sh_dp (SqT.of h2), sh_shaped f1 k.1 e, sh_shaped f2 k.2 e, q _ (s1.trans s2)⟩
/-! ### the rows at the end of a day by those of the day ahead -/
def payBoth (f g : Fg) (e : Int) (p : Pr2) : Pr2 := (payT f.p f.s f.l p.1 e, payT g.p g.s g.l p.2 e)
def passBoth (f g : Fg) (e : Int) (p : Pr2) : Pr2 := (passT f.s f.g f.m p.1 e, passT g.s g.g g.m p.2 e)
def payNB (f g : Fg) (e : Int) : Nat → Pr2 → Pr2
  | 0, p => p
  | n + 1, p => payBoth f g e (payNB f g e n p)
def inNB (f g : Fg) (e : Int) (days : List Int) (p0 : Pr2) (m : Rows2) : Nat → Rows2
  | 0 => keepF m p0 days
  | n + 1 => keepF (inNB f g e days p0 m n) (payNB f g e (n + 1) p0) (days ++ List.replicate (n + 1) e)
def mostP (f g : Fg) : Nat := (max f.p g.p).toNat
def stepB (f g : Fg) (e : Int) (m : Rows2) (q : Pr2 × List Int) : Rows2 := inNB f g e q.2 (passBoth f g e q.1) m (mostP f g)
def byEnd (f g : Fg) (e : Int) (rows : Rows2) : Rows2 := rows.foldl (stepB f g e) []
/-! how many there may be -/
def CapC (c : Cs) : Prop := c.w ≠ .up ∧ 0 ≤ c.d ∧ c.d ≤ 99 ∧ 0 ≤ c.p ∧ c.p ≤ 3 ∧ 0 ≤ c.m ∧ c.m ≤ 2
def wN : Wd → Nat
  | .st => 0 | .go => 1 | .so => 2 | .up => 3
def codeC (c : Cs) : Nat := wN c.w * 1200 + c.d.toNat * 12 + c.p.toNat * 3 + c.m.toNat
theorem codeC_lt {c : Cs} (h : CapC c) : codeC c < 3600 := by
  obtain ⟨h0, h1, h2, h3, h4, h5, h6⟩ := h
  have : wN c.w ≤ 2 := by
    cases e : c.w <;> first | decide | exact absurd e h0
  unfold codeC
  omega
theorem codeC_inj {a b : Cs} (ha : CapC a) (hb : CapC b) (h : codeC a = codeC b) : a = b := by
  obtain ⟨w1, d1, p1, m1⟩ := a
  obtain ⟨w2, d2, p2, m2⟩ := b
  obtain ⟨a0, a1, a2, a3, a4, a5, a6⟩ := ha
  obtain ⟨b0, b1, b2, b3, b4, b5, b6⟩ := hb
  simp only [codeC] at *
  have e3 : m1 = m2 := by omega
  have e2 : p1 = p2 := by omega
  have e1 : d1 = d2 := by omega
  have e0 : wN w1 = wN w2 := by omega
  have e4 : w1 = w2 := by cases w1 <;> cases w2 <;> first | rfl | exact absurd e0 (by decide)
  subst e3 e2 e1 e4
  rfl
def CapP (p : Pr2) : Prop := CapC p.1 ∧ CapC p.2
def codeP (p : Pr2) : Nat := codeC p.1 * 3600 + codeC p.2
theorem codeP_lt {p : Pr2} (h : CapP p) : codeP p < 12960000 := by
  have h1 := codeC_lt h.1
  have h2 := codeC_lt h.2
  unfold codeP
  omega
theorem codeP_inj {a b : Pr2} (ha : CapP a) (hb : CapP b) (h : codeP a = codeP b) : a = b := by
  have h1 := codeC_lt ha.2
  have h2 := codeC_lt hb.2
  unfold codeP at h
  exact Prod.ext (codeC_inj ha.1 hb.1 (by omega)) (codeC_inj ha.2 hb.2 (by omega))
theorem nat_few : ∀ (N : Nat) (l : List Nat), l.Nodup → (∀ x ∈ l, x < N) → l.length ≤ N
  | 0, [], _, _ => Nat.le_refl _
  | 0, x :: r, _, h => absurd (h x List.mem_cons_self) (Nat.not_lt_zero _)
  | N + 1, l, nd, h => by
    have h1 := nat_few N (l.erase N) (nd.erase N) fun x hx => by
      have h2 := h x (List.mem_of_mem_erase hx)
      have h3 : x ≠ N := fun e => by
        subst e
        exact (List.Nodup.mem_erase_iff nd).mp hx |>.1 rfl
      omega
    have h4 := List.length_erase_le (a := N) (l := l)
    by_cases c : N ∈ l
    · have := List.length_erase_of_mem c
      omega
    · have := List.erase_of_not_mem c
      rw [this] at h1
      omega
def KeysP (m : Rows2) : Prop := (m.map (·.1)).Nodup ∧ ∀ q ∈ m, CapP q.1
theorem few_rows {m : Rows2} (h : KeysP m) : m.length < sizeLine := by
  have h1 : ((m.map (·.1)).map codeP).Nodup := by
    refine List.pairwise_map.mpr (h.1.imp_of_mem fun {a b} ha hb hab e => hab ?_)
    obtain ⟨p, hp, rfl⟩ := List.mem_map.mp ha
    obtain ⟨q, hq, rfl⟩ := List.mem_map.mp hb
    exact codeP_inj (h.2 p hp) (h.2 q hq) e
  have h2 := nat_few 12960000 _ h1 fun x hx => by
    obtain ⟨p, hp, rfl⟩ := List.mem_map.mp hx
    obtain ⟨q, hq, rfl⟩ := List.mem_map.mp hp
    exact codeP_lt (h.2 q hq)
  rw [List.length_map, List.length_map] at h2
  rw [sizeLine_eq]
  omega
theorem valR_mem {m : Rows2} {k : Pr2} : (valR m k).isSome = true ↔ k ∈ m.map (·.1) := by
  unfold valR
  induction m with
  | nil => simp
  | cons p m ih =>
    by_cases z : p.1 = k
    · rw [List.find?_cons_of_pos (by simpa using z)]
      simp [z]
    · rw [List.find?_cons_of_neg (by simpa using z), ih]
      simp [Ne.symm z]
theorem put_fst {m : Rows2} {k : Pr2} {xs : List Int} : (putR m k xs).map (·.1) = if (valR m k).isSome = true then m.map (·.1) else m.map (·.1) ++ [k] := by
  unfold putR
  split
  · rw [List.map_map]
    refine List.map_congr_left fun p _ => ?_
    show (if p.1 = k then (p.1, xs) else p).1 = p.1
    split <;> rfl
  · rw [List.map_append]
    rfl
theorem put_keysP {m : Rows2} {k : Pr2} {xs : List Int} (h : KeysP m) (hk : CapP k) : KeysP (putR m k xs) := by
  have e := put_fst (m := m) (k := k) (xs := xs)
  have all : ∀ x ∈ (putR m k xs).map (·.1), CapP x := fun x hx => by
    rw [e] at hx
    split at hx
    · obtain ⟨q, hq, rfl⟩ := List.mem_map.mp hx
      exact h.2 q hq
    · rcases List.mem_append.mp hx with hx | hx
      · obtain ⟨q, hq, rfl⟩ := List.mem_map.mp hx
        exact h.2 q hq
      · rw [List.mem_singleton.mp hx]
        exact hk
  refine ⟨?_, fun q hq => all _ (List.mem_map_of_mem hq)⟩
  rw [e]
  split
  · exact h.1
  · rename_i c
    refine List.nodup_append.mpr ⟨h.1, List.nodup_cons.mpr ⟨List.not_mem_nil, List.nodup_nil⟩, fun a ha b hb e => c (valR_mem.mpr ?_)⟩
    rw [List.mem_singleton.mp hb] at e
    rw [← e]
    exact ha
theorem keep_keysP {m : Rows2} {k : Pr2} {xs : List Int} (h : KeysP m) (hk : CapP k) : KeysP (keepF m k xs) := by
  unfold keepF
  split
  · exact put_keysP h hk
  · split
    · exact put_keysP h hk
    · exact h
theorem inNB_keysP {f g : Fg} {e : Int} {days : List Int} {p0 : Pr2} {m : Rows2} (h : KeysP m) : ∀ n, (∀ i, i ≤ n → CapP (payNB f g e i p0)) → KeysP (inNB f g e days p0 m n)
  | 0, c => keep_keysP h (c 0 (Nat.le_refl _))
  | n + 1, c => keep_keysP (inNB_keysP h n fun i hi => c i (Nat.le_succ_of_le hi)) (c (n + 1) (Nat.le_refl _))
/-! what stays while one dict is written -/
theorem tup_not {H : Hp} {d a : Addr} {vs : List V} {o : HO} (hd : H d = some o) (h : H a = some (.tup vs)) (n : o ≠ .tup vs) : a ≠ d := fun z => by
  rw [z, hd] at h
  exact n (Option.some.inj h)
theorem sqT_but {K : PySem.W.Frag} {H H' : Hp} {d a : Addr} {φ : Heap → Prop} {vs : List V} (hd : H d = some (.ext φ)) (e : But d H H') (h : SqT K H a vs) : SqT K H' a vs := by
  rcases h with (h | ⟨ob, h⟩) | h
  · exact .inl (.inl (e _ _ (ne_of h hd (by intro z; cases z)) h))
  · exact .inl (.inr ⟨ob, e _ _ (ne_of h hd (by intro z; cases z)) h⟩)
  · exact .inr h
theorem sqT_frz {K : PySem.W.Frag} {H H' : Hp} {d a : Addr} {ob : Obj} {φ : Heap → Prop} {vs : List V} (hd : H d = some (.frz ob (.ext φ))) (e : But d H H') (h : SqT K H a vs) : SqT K H' a vs := by
  rcases h with (h | ⟨ob, h⟩) | h
  · exact .inl (.inl (e _ _ (ne_of h hd (by intro z; cases z)) h))
  · exact .inl (.inr ⟨ob, e _ _ (ne_of h hd (by intro z; cases z)) h⟩)
  · exact .inr h
theorem row_but {H H' : Hp} {d r : Addr} {φ : Heap → Prop} {xs : List Int} (hd : H d = some (.ext φ)) (e : But d H H') (h : RowO H r xs) : RowO H' r xs := e _ _ (ne_of h hd (by intro z; cases z)) h
theorem rule_but {K : PySem.W.Frag} {H H' : Hp} {d C r : Addr} {φ : Heap → Prop} {f : Fg} (hd : H d = some (.ext φ)) (e : But d H H') (h : RuleAt K H C r f) : RuleAt K H' C r f := by
  obtain ⟨dx, kt, h1, h2⟩ := h
  exact ⟨dx, kt, e _ _ (ne_of h1 hd (by intro z; cases z)) h1, sqT_but hd e h2⟩
theorem tab_but {P : Program} {w : World} {K : PySem.W.Frag} {H H' : Hp} {d d0 : Addr} {ob : Obj} {φ : Heap → Prop} {es : List ND.Ent} {m : Rows2} (hd : H d = some (.frz ob (.ext φ))) (e : But d H H') (h : TabAt P w K H d0 es m) : TabAt P w K H' d0 es m :=
  ⟨e _ _ (ne_of h.1 hd (by intro z; cases z)) h.1, keys_map (fun _ _ => sqT_frz hd e) h.2.1, tabE_map (fun r xs q => e _ _ (ne_of q hd (by intro z; cases z)) q) h.2.2⟩
theorem fresh_of {H H' : Hp} {d l : Addr} {o : HO} (e : But d H H') (hd : H' d = some o) (h : H' l = none) : H l = none := by
  cases c : H l with
  | none => rfl
  | some u =>
    by_cases z : l = d
    · rw [z, hd] at h
      cases h
    · rw [e l u z c] at h
      cases h
/-- a pair's two states -/
theorem key_pr {K : PySem.W.Frag} {H : Hp} {a : Addr} {p : Pr2} (h : ND.keyAt K H (prK p) (.ref a)) : ∃ x y, SqT K H a [.ref x, .ref y] ∧ StAt K H x p.1 ∧ StAt K H y p.2 := by
  have one : ∀ (c : Cs) (v : V), ND.keyAt K H (csK c) v → ∃ x, v = .ref x ∧ StAt K H x c := fun c v h => by
    obtain ⟨b, vs, rfl, h1, _, _, rfl, e1, _, _, rfl, e2, _, _, rfl, e3, _, _, rfl, e4, e5⟩ := h
    have e1 : _ = V.str (wS c.w) := e1
    have e2 : _ = V.int c.d := e2
    have e3 : _ = V.int c.p := e3
    have e4 : _ = V.int c.m := e4
    have e5 : _ = ([] : List V) := e5
    subst e1 e2 e3 e4 e5
    exact ⟨b, rfl, h1⟩
  obtain ⟨b, vs, e0, h1, v1, _, rfl, k1, v2, _, rfl, k2, e5⟩ := h
  have e5 : _ = ([] : List V) := e5
  subst e5
  obtain ⟨x, rfl, hx⟩ := one _ _ k1
  obtain ⟨y, rfl, hy⟩ := one _ _ k2
  cases e0
  exact ⟨x, y, h1, hx, hy⟩
theorem paired_nth {α β : Type} {F : α → β → Prop} : ∀ {l : List α} {m : List β} {i : Nat} {a : α}, Paired F l m → l[i]? = some a → ∃ b, m[i]? = some b ∧ F a b
  | _, _, 0, _, .cons q _, h => by
    cases h
    exact ⟨_, rfl, q⟩
  | _, _, i + 1, _, .cons _ t, h => paired_nth (i := i) t h
theorem rep_one (e : Int) : ∀ k : Nat, (List.replicate k [V.int e]).flatten = (List.replicate k e).map V.int
  | 0 => rfl
  | k + 1 => by rw [List.replicate_succ, List.flatten_cons, rep_one e k, List.replicate_succ]; rfl
/-! a walk of the dict's items -/
theorem for_items {P : Program} {w : World} {d : Addr} {ob : Obj} {xs : List ND.Ent} {g : TG} {tb : TS} {D : Ends} {σ : L2.St} {H : Hp} (Pv : Nat → L2.St → Hp → Prop) (h0 : Pv 0 σ H) (hl : ∀ i σ H, Pv i σ H → H d = some (.frz ob (ND.obj P w d xs)))
    (hs : ∀ i p σ H T, xs[i]? = some p → Pv i σ H → H T = none → g (.ref T) σ (upd H T (.tup [.ref p.2.1, p.2.2])) fun σ2 H2 => tb { D with nx := Pv (i + 1), ct := Pv (i + 1), bk := D.nx } σ2 H2) (hd : ∀ σ H, Pv xs.length σ H → D.nx σ H) :
    ∃ W : Nat → Nat → L2.St → Hp → Prop, (∃ m, W 0 m σ H) ∧ ∀ i m σ H, W i m σ H → ((ND.itItems P w d ob xs).stop i H ∧ D.nx σ H) ∨ ((ND.itItems P w d ob xs).go i H ∧ ∃ N : L2.St → Hp → Prop, (∀ σ' H', N σ' H' → ∃ m', m' < m ∧ W (i + 1) m' σ' H') ∧ ∀ x H', (ND.itItems P w d ob xs).yld i H x H' → g x σ H' fun σ2 H2 => tb { D with nx := N, ct := N, bk := D.nx } σ2 H2) := by
  refine ⟨fun i m σ H => m + i = xs.length ∧ Pv i σ H, ⟨xs.length, rfl, h0⟩, fun i m σ H ⟨e, p⟩ => ?_⟩
  by_cases c : i < xs.length
  · refine .inr ⟨⟨hl i σ H p, c⟩, Pv (i + 1), fun σ' H' p' => ⟨m - 1, by omega, by omega, p'⟩, fun x H' y => ?_⟩
    obtain ⟨T, q, e1, e2, e3, e4⟩ := y
    subst e2 e4
    exact hs i q σ H T e1 p e3
  · have : i = xs.length := by omega
    subst this
    exact .inl ⟨⟨hl _ σ H p, Nat.le_refl _⟩, hd σ H p⟩
/-! ### rows_by_end -/
abbrev s_rows_by_end : Stmt := topS 15
abbrev N_rows_by_end : List Str := ["one", "other", "rows", "end", "firsts", "left", "right", "days", "left_now", "right_now", "many"]
theorem sc_rows_by_end : FnScope N_rows_by_end ["one", "other", "rows", "end"] (defScope s_rows_by_end) := ⟨rfl, rfl, rfl, by decide +kernel, rfl, by decide +kernel, by decide +kernel⟩
def sp_rows_by_end (K : PySem.W.Frag) (P : Program) (w : World) (C : Addr) : Sp := fun vs H Q _ => ∃ (r1 r2 d : Addr) (e : Int) (f1 f2 : Fg) (es : List ND.Ent) (m : Rows2), vs = [.ref r1, .ref r2, .ref d, .int e] ∧ RuleAt K H C r1 f1 ∧ f1.Ok ∧ RuleAt K H C r2 f2 ∧ f2.Ok ∧ TabAt P w K H d es m ∧ (∀ q ∈ m, q.1.1.m ≤ f1.m ∧ q.1.2.m ≤ f2.m ∧ ∀ i, i ≤ mostP f1 f2 → CapP (payNB f1 f2 e i (passBoth f1 f2 e q.1))) ∧ (∀ q ∈ m, q.2.length ≤ 1000) ∧ mostP f1 f2 ≤ 1000 ∧ ∀ H' d' es', Same H H' → TabAt P w K H' d' es' (byEnd f1 f2 e m) → FrT H es' → Q (.ref d') H'
theorem ok_rows_by_end {f : Addr} {fd : FuncData} (F : Fun K "rows_by_end" "rows_by_end" s_rows_by_end f fd) (g : mg "rows_by_end" = some (.ref f)) (bd : Binds K fd ["one", "other", "rows", "end"] []) {CR : Addr} (TQ : TEq K mg CR "Rule") (T_Rule : TRule K mg CR) (m_list : mg "list" = none) (m_range : mg "range" = none) (m_max : mg "max" = none) (m_len : mg "len" = none) (C_passed_to : CF P w K mg base 1 "passed_to" ["rule", "state", "day"] (sp_passed_to K CR)) (C_keep_first : CF P w K mg base 2 "keep_first" ["firsts", "states", "days"] (sp_keep_first K P w)) (C_paid_on : CF P w K mg base 3 "paid_on" ["rule", "state", "day"] (sp_paid_on K CR)) (C_Rule___len___0 : CMt P w K mg base CR 1 "__len__" ["self"] [] (sp_Rule___len__ K CR)) : CF P w K mg base 4 "rows_by_end" ["one", "other", "rows", "end"] (sp_rows_by_end K P w CR) := by
  refine ⟨f, fd, F.ok sc_rows_by_end (fun vs H Q E h => ?_) (fun cdv A outer s H vs Q E hr h => ?_), g, F.kp, bd⟩
  · first | (obtain ⟨_, rfl, _⟩ := h; rfl) | (obtain ⟨_, _, rfl, _⟩ := h; rfl) | (obtain ⟨_, _, _, rfl, _⟩ := h; rfl) | (obtain ⟨_, _, _, _, rfl, _⟩ := h; rfl) | (obtain ⟨_, _, _, _, _, rfl, _⟩ := h; rfl) | (obtain ⟨_, _, _, _, _, _, rfl, _⟩ := h; rfl) | (obtain ⟨_, _, _, _, _, _, _, rfl, _⟩ := h; rfl) | (obtain ⟨_, _, _, _, _, _, _, _, rfl, _⟩ := h; rfl) | (obtain ⟨_, _, _, _, _, _, _, _, _, rfl, _⟩ := h; rfl) | (obtain ⟨_, _, _, _, _, _, _, _, _, _, rfl, _⟩ := h; rfl) | (obtain ⟨_, _, _, _, _, _, _, _, _, _, _, rfl, _⟩ := h; rfl) | (obtain ⟨_, _, _, _, _, _, _, _, _, _, _, _, rfl, _⟩ := h; rfl) | (obtain ⟨_, _, _, _, _, _, _, _, _, _, _, _, _, rfl, _⟩ := h; rfl) | (obtain ⟨_, _, _, _, _, _, _, _, _, _, _, _, _, _, rfl, _⟩ := h; rfl) | (obtain ⟨_, _, _, _, _, _, _, _, _, _, _, _, _, _, _, rfl, _⟩ := h; rfl)
  · have hu64 := hr.units
    obtain ⟨r1, r2, d, e, f1, f2, es, m, rfl, hR1, ok1, hR2, ok2, hT, hcap, hlen, hmost, q⟩ := h
    refine ⟨_, (pss_cons (ps_set (i := 4) sc_rows_by_end.nd rfl (.inl rfl) ND.pe_nnew)
      (pss_cons (ps_lock (ps_for PassesOwn.never rfl (ND.pi_nitems (pv 2)) (pg_tup (by rfl) (pgs_cons (pg_tup (by rfl) (pgs_cons (pg_name (i := 5) sc_rows_by_end.nd rfl (.inl rfl)) (pgs_cons (pg_name (i := 6) sc_rows_by_end.nd rfl (.inl rfl)) pgs_nil))) (pgs_cons (pg_name (i := 7) sc_rows_by_end.nd rfl (.inl rfl)) pgs_nil)))
         (pss_cons (ps_set (i := 8) sc_rows_by_end.nd rfl (.inl rfl) (pe_cf C_passed_to (hr.mono (by decide)) (by rfl) (pa_cons (pv 0) (pa_cons (pv 5) (pa_cons (pv 3) pa_nil)))))
          (pss_cons (ps_set (i := 9) sc_rows_by_end.nd rfl (.inl rfl) (pe_cf C_passed_to (hr.mono (by decide)) (by rfl) (pa_cons (pv 1) (pa_cons (pv 6) (pa_cons (pv 3) pa_nil)))))
          (pss_cons (ps_expr (pe_cf C_keep_first (hr.mono (by decide)) (by rfl) (pa_cons (pv 4) (pa_cons (pe_tup (pa_cons (pv 8) (pa_cons (pv 9) pa_nil))) (pa_cons (pe_callTy (kk_list K) (by rfl) m_list (by decide +kernel) (pa_cons (pv 7) pa_nil)) pa_nil)))))
          (pss_one (ps_for PassesOwn.never rfl (pi_range2 (by rfl) m_range (pa_cons pe_int (pa_cons (pe_op op_add (pe_callB (call_max2 rfl) (by rfl) m_max (by decide +kernel) (pa_cons (pe_callB (call_lenO C_Rule___len___0 (hr.mono (by decide))) (by rfl) m_len PySem.boot_len (pa_cons (pv 0) pa_nil)) (pa_cons (pe_callB (call_lenO C_Rule___len___0 (hr.mono (by decide))) (by rfl) m_len PySem.boot_len (pa_cons (pv 1) pa_nil)) pa_nil))) pe_int) pa_nil))) (pg_name (i := 10) sc_rows_by_end.nd rfl (.inl rfl))
             (pss_cons (ps_set (i := 8) sc_rows_by_end.nd rfl (.inl rfl) (pe_cf C_paid_on (hr.mono (by decide)) (by rfl) (pa_cons (pv 0) (pa_cons (pv 8) (pa_cons (pv 3) pa_nil)))))
              (pss_cons (ps_set (i := 9) sc_rows_by_end.nd rfl (.inl rfl) (pe_cf C_paid_on (hr.mono (by decide)) (by rfl) (pa_cons (pv 1) (pa_cons (pv 9) (pa_cons (pv 3) pa_nil)))))
              (pss_one (ps_expr (pe_cf C_keep_first (hr.mono (by decide)) (by rfl) (pa_cons (pv 4) (pa_cons (pe_tup (pa_cons (pv 8) (pa_cons (pv 9) pa_nil))) (pa_cons (pe_op op_cat (pv 7) (pe_op op_rep (pe_lst (pa_cons (pv 3) pa_nil)) (pv 10))) pa_nil)))))))))))))))
      (pss_one (ps_ret (pv 4))))), ?_⟩
    refine fun d0 n0 => ?_
    have hd := hT.1
    have nd : d ≠ d0 := ne_of_none hd n0
    refine ⟨d, ND.obj P w d es, ?_, True.intro, fun ob => ⟨_, rfl, d, ob, es, rfl, upd_same, for_items (fun i σ H' => ∃ (esF : List ND.Ent) (x5 x6 x7 x8 x9 x10 : Option V), σ = [some (.ref r1), some (.ref r2), some (.ref d), some (.int e), some (.ref d0), x5, x6, x7, x8, x9, x10] ∧ H' d = some (.frz ob (ND.obj P w d es)) ∧ (∀ b o, b ≠ d → H b = some o → H' b = some o) ∧ TabAt P w K H' d0 esF ((m.take i).foldl (stepB f1 f2 e) []) ∧ KeysP ((m.take i).foldl (stepB f1 f2 e) []) ∧ FrT H esF) ?_ ?_ ?_ ?_⟩⟩
    · rw [upd_ne nd]
      exact hd
    · refine ⟨[], none, none, none, none, none, none, rfl, upd_same, fun b o n h => ?_, ⟨?_, ?_, .nil⟩, ⟨List.nodup_nil, fun q hq => (nomatch hq)⟩, fun p hp => (nomatch hp)⟩
      · rw [upd_ne n, upd_ne (ne_of_none h n0)]
        exact h
      · rw [upd_ne nd.symm]
        exact upd_same
      · intro p hp
        cases hp
    · rintro i σ H' ⟨_, _, _, _, _, _, _, _, h, _⟩
      exact h
    · rintro i p σ H' T hp ⟨esF, x5, x6, x7, x8, x9, x10, rfl, h1, h2, h3, h4, hfr⟩ nT
      obtain ⟨q0, hq0, k0, r, k1, k2⟩ := paired_nth hT.2.2 hp
      have hmem : q0 ∈ m := List.mem_of_getElem? hq0
      obtain ⟨x, y, sxy, stx, sty⟩ := key_pr (k0 ▸ (hT.2.1 p (List.mem_of_getElem? hp)).1)
      obtain ⟨m1, m2, cap⟩ := hcap q0 hmem
      generalize hacc : (m.take i).foldl (stepB f1 f2 e) [] = acc at h3 h4
      have hnext : (m.take (i + 1)).foldl (stepB f1 f2 e) [] = stepB f1 f2 e acc q0 := by
        rw [List.take_add_one, hq0, List.foldl_append, hacc]
        rfl
      rw [hnext]
      rw [k1]
      have b2 : But d H (upd H' T (.tup [.ref p.2.1, .ref r])) := fun c o n h => by
        rw [upd_ne (ne_of_none (h2 c o n h) nT)]
        exact h2 c o n h
      have t2 : Same H' (upd H' T (.tup [.ref p.2.1, .ref r])) := same_new nT
      generalize hH2 : upd H' T (.tup [.ref p.2.1, .ref r]) = H2 at b2 t2
      have hT2 : H2 T = some (.tup [.ref p.2.1, .ref r]) := by rw [← hH2]; exact upd_same
      refine ⟨T, _, rfl, SqT.of hT2, rfl, _, _, rfl, p.2.1, _, rfl, sqT_but hd b2 sxy, rfl, _, _, rfl, _, _, rfl, rfl, _, _, rfl, rfl, ?_⟩
      refine ⟨_, rfl, _, rfl, _, rfl, r1, x, e, f1, q0.1.1, rfl, rule_but hd b2 hR1, sqT_but hd b2 stx, m1, fun H3 b3 s3 st3 => ?_⟩
      have b3' : But d H H3 := b2.trans (But.of s3)
      refine ⟨_, rfl, _, rfl, _, rfl, r2, y, e, f2, q0.1.2, rfl, rule_but hd b3' hR2, sqT_but hd b3' sty, m2, fun H4 b4 s4 st4 => ?_⟩
      have b4' : But d H H4 := b3'.trans (But.of s4)
      have s24 : Same H' H4 := t2.trans (s3.trans s4)
      refine ⟨_, rfl, _, rfl, _, rfl, (by show 2 ≤ sizeLine; decide), fun t nt => ?_⟩
      have s5 := same_new (o := .tup [.ref b3, .ref b4]) nt
      refine ⟨_, rfl, r, _, rfl, .inl (SqL.of (s5 _ _ (row_but hd b4' k2))), fun l nl => ?_⟩
      have s6 := same_new (o := .lst (q0.2.map V.int)) nl
      have s56 := s5.trans s6
      refine ⟨d0, t, b3, b4, l, esF, acc, passBoth f1 f2 e q0.1, q0.2, rfl, h3.same (s24.trans s56), SqT.of (s6 _ _ upd_same), (StAt.same st3 s4).same s56, st4.same s56, upd_same, few_rows h4, fun H5 es5 bt5 T5 F5 => ?_⟩
      have hnl : H l = none := fresh_of (b4'.trans (But.of s5)) (s5 _ _ (s24 _ _ h1)) nl
      have F5 := F5 H hfr hnl
      have s46 : Same H' (upd (upd H4 t (.tup [.ref b3, .ref b4])) l (.lst (q0.2.map V.int))) := s24.trans s56
      have h6d : (upd (upd H4 t (.tup [.ref b3, .ref b4])) l (.lst (q0.2.map V.int))) d0 = some (ND.obj P w d0 esF) := s46 _ _ h3.1
      have b6 : But d H (upd (upd H4 t (.tup [.ref b3, .ref b4])) l (.lst (q0.2.map V.int))) := b4'.trans (But.of s56)
      have st36 : StAt K (upd (upd H4 t (.tup [.ref b3, .ref b4])) l (.lst (q0.2.map V.int))) b3 (passT f1.s f1.g f1.m q0.1.1 e) := (StAt.same st3 s4).same s56
      have st46 : StAt K (upd (upd H4 t (.tup [.ref b3, .ref b4])) l (.lst (q0.2.map V.int))) b4 (passT f2.s f2.g f2.m q0.1.2 e) := st4.same s56
      have h6f := s46 _ _ h1
      generalize upd (upd H4 t (.tup [.ref b3, .ref b4])) l (.lst (q0.2.map V.int)) = H6 at bt5 h6d b6 st36 st46 h6f
      have b5 : But d H H5 := fun c o n h => bt5 c o (ne_of_none h n0) (b6 c o n h)
      have hd5 := bt5 _ _ nd h6f
      have st35 : StAt K H5 b3 (passT f1.s f1.g f1.m q0.1.1 e) := sqT_but h6d bt5 st36
      have st45 : StAt K H5 b4 (passT f2.s f2.g f2.m q0.1.2 e) := sqT_but h6d bt5 st46
      have R1 := rule_but hd b5 hR1
      have R2 := rule_but hd b5 hR2
      obtain ⟨dx1, kt1, i1, _⟩ := id R1
      obtain ⟨dx2, kt2, i2, _⟩ := id R2
      have l1 := ok1.len
      have l2 := ok2.len
      have p01 := ok1.figs.p0
      have p02 := ok2.figs.p0
      have p11 := ok1.figs.p1
      have p12 := ok2.figs.p1
      have hN : ((if (f2.ks.length : Int) > (f1.ks.length : Int) then (f2.ks.length : Int) else (f1.ks.length : Int)) + 1 - 1).toNat = mostP f1 f2 := by
        rw [l1, l2]
        unfold mostP
        split <;> omega
      refine ⟨_, rfl, r1, dx1, _, rfl, i1, r1, f1, rfl, R1, _, rfl, by omega, by omega, _, rfl, r2, dx2, _, rfl, i2, r2, f2, rfl, R2, _, rfl, by omega, by omega, _, _, rfl, _, _, rfl, rfl, _, _, rfl, ?_, ?_⟩
      · split <;> omega
      rw [hN]
      refine for_range (fun n σ H' => ∃ (esF : List ND.Ent) (b8 b9 : Addr) (x10 : Option V), σ = [some (.ref r1), some (.ref r2), some (.ref d), some (.int e), some (.ref d0), some (.ref x), some (.ref y), some (.ref r), some (.ref b8), some (.ref b9), x10] ∧ H' d = some (.frz ob (ND.obj P w d es)) ∧ But d H H' ∧ StAt K H' b8 (payNB f1 f2 e n (passBoth f1 f2 e q0.1)).1 ∧ StAt K H' b9 (payNB f1 f2 e n (passBoth f1 f2 e q0.1)).2 ∧ TabAt P w K H' d0 esF (inNB f1 f2 e q0.2 (passBoth f1 f2 e q0.1) acc n) ∧ FrT H esF) ?_ ?_ ?_
      · exact ⟨es5, b3, b4, _, rfl, hd5, b5, st35, st45, T5, F5⟩
      · rintro n σ H7 hn ⟨es7, b8, b9, x10, rfl, g1, g2, g3, g4, g5, g6⟩
        refine ⟨_, rfl, _, rfl, _, rfl, r1, b8, e, f1, _, rfl, rule_but hd g2 hR1, ok1, g3, fun H8 b10 s8 st8 => ?_⟩
        have g8 : But d H H8 := g2.trans (But.of s8)
        refine ⟨_, rfl, _, rfl, _, rfl, r2, b9, e, f2, _, rfl, rule_but hd g8 hR2, ok2, g4.same s8, fun H9 b11 s9 st9 => ?_⟩
        have g9 : But d H H9 := g8.trans (But.of s9)
        have hql := hlen q0 hmem
        refine ⟨_, rfl, _, rfl, _, rfl, (by show 2 ≤ sizeLine; decide), fun t1 nt1 => ?_⟩
        have u1 := same_new (o := .tup [.ref b10, .ref b11]) nt1
        refine ⟨_, rfl, _, rfl, (by show 1 ≤ sizeLine; decide), fun t2 nt2 => ?_⟩
        have u2 := same_new (o := .lst [.int e]) nt2
        refine ⟨_, rfl, t2, 1 + (n : Int), [.int e], rfl, rfl, upd_same, by omega, by omega, ?_, fun t3 nt3 => ?_⟩
        · rw [sizeLine_eq]
          show 1 * (1 + (n : Int)).toNat ≤ _
          omega
        have u3 := same_new (o := .lst (List.replicate (1 + (n : Int)).toNat [V.int e]).flatten) nt3
        have hrep : (List.replicate (1 + (n : Int)).toNat [V.int e]).flatten = (List.replicate (n + 1) e).map V.int := by
          rw [show (1 + (n : Int)).toNat = n + 1 by omega, rep_one]
        refine ⟨r, t3, q0.2.map V.int, _, rfl, rfl, u3 _ _ (u2 _ _ (u1 _ _ (row_but hd g9 k2))), upd_same, ?_, fun t4 nt4 => ?_⟩
        · rw [hrep, List.length_map, List.length_map, List.length_replicate, sizeLine_eq]
          omega
        have u4 := same_new (o := .lst (q0.2.map V.int ++ (List.replicate (1 + (n : Int)).toNat [V.int e]).flatten)) nt4
        have u14 := u1.trans (u2.trans (u3.trans u4))
        have u24 := u2.trans (u3.trans u4)
        have s79 : Same H7 H9 := s8.trans s9
        have hrow : (q0.2.map V.int ++ (List.replicate (1 + (n : Int)).toNat [V.int e]).flatten) = (q0.2 ++ List.replicate (n + 1) e).map V.int := by rw [hrep, List.map_append]
        have K7 := inNB_keysP (days := q0.2) h4 n (fun i hi => cap i (by omega))
        refine ⟨d0, t1, b10, b11, t4, es7, _, payNB f1 f2 e (n + 1) (passBoth f1 f2 e q0.1), q0.2 ++ List.replicate (n + 1) e, rfl, g5.same (s79.trans u14), SqT.of (u24 _ _ upd_same), (StAt.same st8 s9).same u14, st9.same u14, ?_, few_rows K7, fun H10 es10 bt10 T10 F10 => ?_⟩
        · unfold RowO
          rw [upd_same, hrow]
        have g5' := (s79.trans u14) _ _ g5.1
        have c10 : But d H H10 := fun c o n' h => bt10 c o (ne_of_none h n0) (u14 _ _ (g9 c o n' h))
        refine ⟨es10, b10, b11, _, rfl, bt10 _ _ nd ((s79.trans u14) _ _ g1), c10, sqT_but g5' bt10 ((StAt.same st8 s9).same u14), sqT_but g5' bt10 (st9.same u14), T10, F10 H g6 (fresh_of (g9.trans (But.of (u1.trans (u2.trans u3)))) ((u1.trans (u2.trans u3)) _ _ (s79 _ _ g1)) nt4)⟩
      · rintro σ H7 ⟨es7, b8, b9, x10, rfl, g1, g2, g3, g4, g5, g6⟩
        exact ⟨es7, _, _, _, _, _, _, rfl, g1, g2, g5, inNB_keysP h4 _ cap, g6⟩
    · rintro σ H' ⟨esF, x5, x6, x7, x8, x9, x10, rfl, h1, h2, h3, h4, hfr⟩
      rw [len_tab hT.2.2, List.take_length] at h3
      have n2 : d0 ≠ d := nd.symm
      have e1 : But d H' (upd H' d (ND.obj P w d es)) := fun c o n h => by
        rw [upd_ne n]
        exact h
      refine ⟨h1, _, rfl, q _ d0 esF (fun b o h => ?_) (tab_but h1 e1 h3) hfr⟩
      by_cases z : b = d
      · rw [z, upd_same, ← hd, ← z]
        exact h
      · rw [upd_ne z]
        exact h2 b o z h
/-! ### where two rules part: the program's way -/
def unlB (f g : Fg) (e : Int) (k : Pr2) : Bool := !PyData.eqv (shD f k.1 e) (shD g k.2 e)
def unlR (f g : Fg) (e : Int) (m : Rows2) : List (List Int) := (m.filter fun q => unlB f g e q.1).map (·.2)
def bestI (l : List (List Int)) : Nat := PySem.argBest (MK.lessB (fun i => ((l.getD i []).length : Int)) (fun i => l.getD i [])) (l.length - 1)
def bestR (l : List (List Int)) : List Int := l.getD (bestI l) []
def goOn (f : Fg) (e : Int) (m : Rows2) : Rows2 := m.filter fun q => chgB f q.1.1 e
def partM (f g : Fg) : Nat → Int → Rows2 → Option (Option (List Int × Int))
  | 0, _, m => if m.isEmpty = true then some none else none
  | n + 1, e, m => if m.isEmpty = true then some none else if (unlR f g e (byEnd f g e m)).isEmpty = true then partM f g n (e + 1) (goOn f e (byEnd f g e m)) else some (some (bestR (unlR f g e (byEnd f g e m)), e))
/-- what one turn asks -/
def StepOk (f g : Fg) (e : Int) (m : Rows2) : Prop := (∀ q ∈ m, q.1.1.m ≤ f.m ∧ q.1.2.m ≤ g.m ∧ ∀ i, i ≤ mostP f g → CapP (payNB f g e i (passBoth f g e q.1))) ∧ (∀ q ∈ m, q.2.length ≤ 1000) ∧ mostP f g ≤ 1000 ∧ (∀ q ∈ byEnd f g e m, PIn f.p q.1.1 ∧ PIn g.p q.1.2) ∧ KeysP (byEnd f g e m)
def Fit (f g : Fg) : Nat → Int → Rows2 → Prop
  | 0, _, m => m.isEmpty = true
  | n + 1, e, m => m.isEmpty = true ∨ (StepOk f g e m ∧ ((unlR f g e (byEnd f g e m)).isEmpty = true → Fit f g n (e + 1) (goOn f e (byEnd f g e m))))
abbrev row0 : Rows2 := [((cs0, cs0), [])]
theorem goOn_next {f : Fg} {e : Int} {m : Rows2} {i : Nat} {q : Pr2 × List Int} (h : m[i]? = some q) : goOn f e (m.take (i + 1)) = goOn f e (m.take i) ++ (if chgB f q.1.1 e = true then [q] else []) := by
  unfold goOn
  rw [List.take_add_one, h, List.filter_append]
  congr 1
  show List.filter _ [q] = _
  by_cases c : chgB f q.1.1 e = true
  · rw [if_pos c, List.filter_cons_of_pos (by simpa using c)]
    rfl
  · rw [if_neg c, List.filter_cons_of_neg (by simpa using c)]
    rfl
theorem unlR_next {f g : Fg} {e : Int} {m : Rows2} {i : Nat} {q : Pr2 × List Int} (h : m[i]? = some q) : unlR f g e (m.take (i + 1)) = unlR f g e (m.take i) ++ (if unlB f g e q.1 = true then [q.2] else []) := by
  unfold unlR
  rw [List.take_add_one, h, List.filter_append, List.map_append]
  congr 1
  show List.map _ (List.filter _ [q]) = _
  by_cases c : unlB f g e q.1 = true
  · rw [if_pos c, List.filter_cons_of_pos (by simpa using c)]
    rfl
  · rw [if_neg c, List.filter_cons_of_neg (by simpa using c)]
    rfl
theorem new_key {f : Fg} {e : Int} {m : Rows2} {i : Nat} {q : Pr2 × List Int} (nd : (m.map (·.1)).Nodup) (h : m[i]? = some q) : valR (goOn f e (m.take i)) q.1 = none := by
  cases c : valR (goOn f e (m.take i)) q.1 with
  | none => rfl
  | some xs =>
    have h1 := valR_mem.mp (by rw [c]; rfl : (valR (goOn f e (m.take i)) q.1).isSome = true)
    obtain ⟨q2, hq2, e2⟩ := List.mem_map.mp h1
    have h2 := (List.mem_filter.mp hq2).1
    obtain ⟨j, hj, ej⟩ := List.mem_take_iff_getElem.mp h2
    obtain ⟨hi, ei⟩ := List.getElem?_eq_some_iff.mp h
    have lt : j < i := by omega
    have z := List.pairwise_iff_getElem.mp nd j i (by rw [List.length_map]; omega) (by rw [List.length_map]; exact hi) lt
    rw [List.getElem_map, List.getElem_map, ej, ei] at z
    exact absurd e2 z
theorem put_new {m : Rows2} {k : Pr2} {xs : List Int} (h : valR m k = none) : putR m k xs = m ++ [(k, xs)] := by
  unfold putR
  rw [h]
  rfl
theorem unlR_len {f g : Fg} {e : Int} (m : Rows2) : (unlR f g e m).length ≤ m.length := by
  unfold unlR
  rw [List.length_map]
  exact List.length_filter_le ..
theorem goOn_len {f : Fg} {e : Int} (m : Rows2) : (goOn f e m).length ≤ m.length := List.length_filter_le ..
theorem valR_at {m : Rows2} {i : Nat} {q : Pr2 × List Int} (nd : (m.map (·.1)).Nodup) (h : m[i]? = some q) : valR m q.1 = some q.2 := by
  induction m generalizing i with
  | nil => cases h
  | cons p m ih =>
    obtain ⟨n1, n2⟩ := List.nodup_cons.mp nd
    cases i with
    | zero =>
      cases h
      unfold valR
      rw [List.find?_cons_of_pos (by simp)]
      rfl
    | succ i =>
      have hm : q ∈ m := List.mem_of_getElem? (i := i) h
      have ne : ¬ p.1 = q.1 := fun e => n1 (List.mem_map.mpr ⟨q, hm, e.symm⟩)
      unfold valR
      rw [List.find?_cons_of_neg (by simpa using ne)]
      exact ih n2 (i := i) h
theorem valN_mem {es : List ND.Ent} {k : PySem.NestedKey} {v : V} (h : ND.valN es k = some v) : ∃ e ∈ es, e.2.2 = v := by
  unfold ND.valN at h
  obtain ⟨e, he, hv⟩ := Option.map_eq_some_iff.mp h
  exact ⟨e, List.mem_of_find?_eq_some he, hv⟩
/-- a walk of the keys that makes a dict -/
theorem dcn_gen {P : Program} {w : World} {K : PySem.W.Frag} {J : It} {n : Nat} {g : TG} {tt : TT} {tk tv : TE} {vs : List Nat} {σ : L2.St} {H1 : Hp} {D : Addr} {Qd : Hp → Prop} (Pv : Nat → Hp → Prop) (first : Pv 0 (upd H1 D (ND.obj P w D [])))
    (can : ∀ i H, Pv i H → (i < n → J.go i H) ∧ (i = n → J.stop i H)) (turn : ∀ i H v H', i < n → Pv i H → J.yld i H v H' → ND.turnDN P w K g tt tk tv vs σ D (Pv (i + 1)) v H') (last : ∀ H, Pv n H → Qd H) :
    ∃ W : Nat → Nat → Hp → Prop, (∃ m, W 0 m (upd H1 D (ND.obj P w D []))) ∧ ∀ i m H, W i m H → (J.stop i H ∧ Qd H) ∨ (J.go i H ∧ ∃ Nx : Hp → Prop, (∀ H', Nx H' → ∃ m', m' < m ∧ W (i + 1) m' H') ∧ ∀ x H', J.yld i H x H' → ND.turnDN P w K g tt tk tv vs σ D Nx x H') := by
  refine ⟨fun i m H => m + i = n ∧ Pv i H, ⟨n, rfl, first⟩, fun i m H ⟨e, p⟩ => ?_⟩
  rcases Nat.lt_or_ge i n with c | c
  · exact .inr ⟨(can i H p).1 c, Pv (i + 1), fun H' p' => ⟨m - 1, by omega, by omega, p'⟩, fun x H' y => turn i H x H' c p y⟩
  · have : i = n := by omega
    subst this
    exact .inl ⟨(can _ H p).2 rfl, last H p⟩
/-- the rows as values -/
def RefsR (H0 H : Hp) (ws : List V) (l : List (List Int)) : Prop := Paired (fun v row => ∃ r, v = V.ref r ∧ RowO H r row ∧ H0 r = none) ws l
/-! ### parted -/
abbrev s_parted : Stmt := topS 12
abbrev N_parted : List Str := ["one", "other", "rows", "end", "unlike", "states"]
theorem sc_parted : FnScope N_parted ["one", "other"] (defScope s_parted) := ⟨rfl, rfl, rfl, by decide +kernel, rfl, by decide +kernel, by decide +kernel⟩
def sp_parted (K : PySem.W.Frag) (P : Program) (w : World) (C : Addr) : Sp := fun vs H Q _ => ∃ (r1 r2 : Addr) (f1 f2 : Fg) (N : Nat) (res : Option (List Int × Int)), vs = [.ref r1, .ref r2] ∧ RuleAt K H C r1 f1 ∧ f1.Ok ∧ RuleAt K H C r2 f2 ∧ f2.Ok ∧ Fit f1 f2 N 0 row0 ∧ partM f1 f2 N 0 row0 = some res ∧ (res = none → ∀ H', Same H H' → Q .non H') ∧ ∀ days e, res = some (days, e) → ∀ H' a la, Same H H' → H la = none → RowO H' la days → H' a = some (.tup [.ref la, .int e]) → Q (.ref a) H'
theorem ok_parted {f : Addr} {fd : FuncData} (F : Fun K "parted" "parted" s_parted f fd) (g : mg "parted" = some (.ref f)) (bd : Binds K fd ["one", "other"] []) {CR : Addr} (TQ : TEq K mg CR "Rule") (T_Rule : TRule K mg CR) (m_len : mg "len" = none) (m_min : mg "min" = none) {A_AT_FIRST : Addr} (g_AT_FIRST : mg "AT_FIRST" = some (.ref A_AT_FIRST)) (q_AT_FIRST : ∀ H, SqT K H A_AT_FIRST [.str (Str.ofString "stands"), .int 0, .int 0, .int 0]) (C_rows_by_end : CF P w K mg base 4 "rows_by_end" ["one", "other", "rows", "end"] (sp_rows_by_end K P w CR)) (C_show_unlike : CF P w K mg base 3 "show_unlike" ["one", "other", "states", "end"] (sp_show_unlike K CR)) (C_order_of_row : CF P w K mg base 1 "order_of_row" ["days"] (sp_order_of_row K)) (C_may_change : CF P w K mg base 1 "may_change" ["thing"] (sp_may_change K)) (C_shown_of : CF P w K mg base 2 "shown_of" ["rule", "state", "end"] (sp_shown_of K CR)) : CF P w K mg base 5 "parted" ["one", "other"] (sp_parted K P w CR) := by
  refine ⟨f, fd, F.ok sc_parted (fun vs H Q E h => ?_) (fun cdv A outer s H vs Q E hr h => ?_), g, F.kp, bd⟩
  · first | (obtain ⟨_, rfl, _⟩ := h; rfl) | (obtain ⟨_, _, rfl, _⟩ := h; rfl) | (obtain ⟨_, _, _, rfl, _⟩ := h; rfl) | (obtain ⟨_, _, _, _, rfl, _⟩ := h; rfl) | (obtain ⟨_, _, _, _, _, rfl, _⟩ := h; rfl) | (obtain ⟨_, _, _, _, _, _, rfl, _⟩ := h; rfl) | (obtain ⟨_, _, _, _, _, _, _, rfl, _⟩ := h; rfl) | (obtain ⟨_, _, _, _, _, _, _, _, rfl, _⟩ := h; rfl) | (obtain ⟨_, _, _, _, _, _, _, _, _, rfl, _⟩ := h; rfl) | (obtain ⟨_, _, _, _, _, _, _, _, _, _, rfl, _⟩ := h; rfl) | (obtain ⟨_, _, _, _, _, _, _, _, _, _, _, rfl, _⟩ := h; rfl) | (obtain ⟨_, _, _, _, _, _, _, _, _, _, _, _, rfl, _⟩ := h; rfl) | (obtain ⟨_, _, _, _, _, _, _, _, _, _, _, _, _, rfl, _⟩ := h; rfl) | (obtain ⟨_, _, _, _, _, _, _, _, _, _, _, _, _, _, rfl, _⟩ := h; rfl) | (obtain ⟨_, _, _, _, _, _, _, _, _, _, _, _, _, _, _, rfl, _⟩ := h; rfl)
  · have hu64 := hr.units
    have hu9 := hu9_of hu64
    have hu20 := hu20_of hu64
    obtain ⟨r1, r2, f1, f2, N, res, rfl, hR1, ok1, hR2, ok2, hF, hM, qn, qs⟩ := h
    refine ⟨_, (pss_cons (ps_set (i := 2) sc_parted.nd rfl (.inr rfl) (ND.pe_none1 hu9 (pe_tup (pa_cons (pe_glob (v := .ref A_AT_FIRST) (by rfl) g_AT_FIRST rfl) (pa_cons (pe_glob (v := .ref A_AT_FIRST) (by rfl) g_AT_FIRST rfl) pa_nil))) (pe_lst pa_nil)))
      (pss_cons (ps_set (i := 3) sc_parted.nd rfl (.inr rfl) pe_int)
      (pss_cons (ps_while PassesOwn.never (pt_cmpR op_gt (pe_callB ND.call_lenN (by rfl) m_len PySem.boot_len (pa_cons (pv 2) pa_nil)) pe_int (nomark _))
         (pss_cons (ps_set (i := 2) sc_parted.nd rfl (.inr rfl) (pe_cf C_rows_by_end (hr.mono (by decide)) (by rfl) (pa_cons (pv 0) (pa_cons (pv 1) (pa_cons (pv 2) (pa_cons (pv 3) pa_nil))))))
          (pss_cons (ps_lock (ps_setLc (i := 4) (own := [("states", 5)]) (g := (gName 5)) rfl sc_parted.nd rfl rfl (sw_true rfl rfl rfl (by decide +kernel)) (ND.pi_nkeys (pv 2)) (blkOk_by (own := [("states", 5)]) (N := N_parted) (sc := defScope s_parted) (by decide +kernel)) (fun _ _ _ _ _ => pg_name (i := 5) sc_parted.nd rfl (Or.inl rfl)) (fun _ _ _ _ _ => (pts_one (pt_val (pe_cf C_show_unlike (hr.mono (by decide)) (by rfl) (pa_cons (pv 0) (pa_cons (pv 1) (pa_cons (pv 5) (pa_cons (pv 3) pa_nil)))))))) (fun _ _ _ _ _ => (kk_nget P w K hu9 (pv 2) (pv 5) (fun _ _ => rfl)))))
          (pss_cons (ps_if (pt_cmpR op_gt (pe_callB (kk_len K) (by rfl) m_len PySem.boot_len (pa_cons (pv 4) pa_nil)) pe_int (nomark _))
             (pss_one (ps_ret (pe_tup (pa_cons (pe_minC C_order_of_row (hr.mono (by decide)) rfl hu9 (by rfl) m_min (by rfl) (pv 4)) (pa_cons (pv 3) pa_nil)))))
             pss_nil)
          (pss_cons (ps_set (i := 2) sc_parted.nd rfl (.inr rfl) (pe_lock (ND.pe_dcN (own := [("states", 5)]) (g := (gName 5)) hu20 rfl sc_parted.nd (ND.pi_nkeys (pv 2)) (blkOk_by (own := [("states", 5)]) (N := N_parted) (sc := defScope s_parted) (by decide +kernel)) (fun _ _ _ _ _ => pg_name (i := 5) sc_parted.nd rfl (Or.inl rfl)) (fun _ _ _ _ _ => (pts_one (pt_val (pe_cf C_may_change (hr.mono (by decide)) (by rfl) (pa_cons (pe_cf C_shown_of (hr.mono (by decide)) (by rfl) (pa_cons (pv 0) (pa_cons (pe_ix (kk_ixt K) (pv 5) pe_int (fun _ _ => rfl)) (pa_cons (pv 3) pa_nil)))) pa_nil))))) (fun _ _ _ _ _ => (pv 5)) (fun _ _ _ _ _ => (kk_nget P w K hu9 (pv 2) (pv 5) (fun _ _ => rfl))))))
          (pss_one (ps_aug (i := 3) sc_parted.nd rfl (.inr rfl) pe_int ip_add)))))))
      (pss_one (ps_ret pe_non))))), ?_⟩
    refine fun d nd => ⟨(by show 2 ≤ sizeLine; decide), fun t nt => ⟨(by show 0 ≤ sizeLine; decide), fun l nl => ?_⟩⟩
    have u1 := same_new (o := ND.obj P w d []) nd
    have u2 := same_new (o := .tup [.ref A_AT_FIRST, .ref A_AT_FIRST]) nt
    have u3 := same_new (o := .lst []) nl
    refine ⟨t, prK (cs0, cs0), rfl, pr_key (p := (cs0, cs0)) (SqT.of (u3 _ _ upd_same)) (q_AT_FIRST _) (q_AT_FIRST _), prK_depth _, u3 _ _ (u2 _ _ upd_same), ?_⟩
    have hd0 := u3 _ _ (u2 _ _ (upd_same (H := H) (a := d) (o := ND.obj P w d [])))
    have T0 : TabAt P w K (upd (upd (upd H d (ND.obj P w d [])) t (.tup [.ref A_AT_FIRST, .ref A_AT_FIRST])) l (.lst [])) d [] [] := ⟨hd0, fun p hp => (nomatch hp), .nil⟩
    have T1 := tab_put (k := (cs0, cs0)) (r := l) (xs := []) T0 (SqT.of (u3 _ _ upd_same)) (q_AT_FIRST _) (q_AT_FIRST _) upd_same
    have S1 : Same H (upd (upd (upd (upd H d (ND.obj P w d [])) t (.tup [.ref A_AT_FIRST, .ref A_AT_FIRST])) l (.lst [])) d (ND.obj P w d [(prK (cs0, cs0), t, .ref l)])) := fun b o h => by
      rw [upd_ne (ne_of_none h nd)]
      exact (u1.trans (u2.trans u3)) _ _ h
    refine ⟨fun n σ H' => ∃ (d : Addr) (e : Int) (es : List ND.Ent) (m : Rows2) (x4 x5 : Option V), σ = [some (.ref r1), some (.ref r2), some (.ref d), some (.int e), x4, x5] ∧ Same H H' ∧ TabAt P w K H' d es m ∧ Fit f1 f2 n e m ∧ partM f1 f2 n e m = some res, ⟨N, d, 0, _, row0, _, _, rfl, S1, T1, hF, hM⟩, fun n σ H' h => ?_⟩
    obtain ⟨d, e, es, m, x4, x5, rfl, sm, hT, hF, hM⟩ := h
    refine ⟨_, rfl, d, es, rfl, .inl hT.1, hT.2.1, _, _, rfl, rfl, _, rfl, ite2 (fun z => ?_) (fun z => ?_)⟩
    · have ne : ¬ m.isEmpty = true := fun y => by
        rw [List.isEmpty_iff.mp y] at hT
        have h0 := len_tab hT.2.2
        have := of_decide_eq_true z
        simp only [List.length_nil] at h0
        omega
      cases n with
      | zero => exact absurd hF ne
      | succ n =>
      obtain ⟨SO, cont⟩ := hF.resolve_left ne
      refine ⟨_, fun σ2 H2 h2 => ⟨n, Nat.lt_succ_self n, h2⟩, ?_⟩
      refine ⟨_, rfl, _, rfl, _, rfl, _, rfl, r1, r2, d, e, f1, f2, es, m, rfl, hR1.same sm, ok1, hR2.same sm, ok2, hT, SO.1, SO.2.1, SO.2.2.1, fun H1 d1 es1 s1 T1 F1 => ?_⟩
      have hM2 : (if (unlR f1 f2 e (byEnd f1 f2 e m)).isEmpty = true then partM f1 f2 n (e + 1) (goOn f1 e (byEnd f1 f2 e m)) else some (some (bestR (unlR f1 f2 e (byEnd f1 f2 e m)), e))) = some res := by
        rw [← hM]
        show _ = if m.isEmpty = true then _ else _
        rw [if_neg ne]
      obtain ⟨_, _, _, pin, kp⟩ := SO
      generalize byEnd f1 f2 e m = R at T1 cont hM2 pin kp
      have sH1 : Same H H1 := sm.trans s1
      have hd1 := T1.1
      have look : ∀ (i : Nat) (p : ND.Ent), es1[i]? = some p → ∃ q x y r, R[i]? = some q ∧ SqT K H1 p.2.1 [.ref x, .ref y] ∧ StAt K H1 x q.1.1 ∧ StAt K H1 y q.1.2 ∧ ND.keyAt K H1 (prK q.1) (.ref p.2.1) ∧ ND.valN es1 (prK q.1) = some (.ref r) ∧ RowO H1 r q.2 ∧ H' r = none := fun i p hp => by
        obtain ⟨q, hq, k0, _⟩ := paired_nth T1.2.2 hp
        have kk := k0 ▸ (T1.2.1 p (List.mem_of_getElem? hp)).1
        obtain ⟨x, y, sxy, stx, sty⟩ := key_pr kk
        rcases val_tab (k := q.1) T1.2.2 with ⟨_, h2⟩ | ⟨r, xs, h1, h2, h3⟩
        · rw [valR_at kp.1 hq] at h2
          cases h2
        · rw [valR_at kp.1 hq] at h2
          cases h2
          obtain ⟨en, hen, ev⟩ := valN_mem h1
          exact ⟨q, x, y, r, hq, sxy, stx, sty, kk, h1, h3, F1 en hen r ev⟩
      have lenR : es1.length = R.length := len_tab T1.2.2
      have fewR := few_rows kp
      -- the rows that show unlike things
      refine ⟨d1, ND.obj P w d1 es1, hd1, True.intro, fun ob => ⟨_, rfl, d1, ob, es1, rfl, upd_same, fun D nD => lc_gen (n := es1.length) (fun i G => G d1 = some (.frz ob (ND.obj P w d1 es1)) ∧ But d1 H1 G ∧ ∃ ws, G D = some (.lst ws) ∧ RefsR H' H1 ws (unlR f1 f2 e (R.take i))) ?_ ?_ ?_ ?_⟩⟩
      · have nDd : d1 ≠ D := ne_of_none (upd_same (H := H1) (a := d1)) nD
        refine ⟨by rw [upd_ne nDd]; exact upd_same, fun c o n h => ?_, [], upd_same, .nil⟩
        have nc : c ≠ D := ne_of_none (by rw [upd_ne n]; exact h) nD
        rw [upd_ne nc, upd_ne n]
        exact h
      · rintro i G ⟨g1, _⟩
        exact ⟨fun c => ⟨g1, c⟩, fun c => ⟨g1, by rw [c]; exact Nat.le_refl _⟩⟩
      · rintro i G v G' hi ⟨g1, g2, ws, g3, g4⟩ ⟨eG, p, hp, ev⟩
        subst eG ev
        obtain ⟨q, x, y, r, hq, sxy, stx, sty, kk, hv, hrow, hfr⟩ := look i p hp
        obtain ⟨pi1, pi2⟩ := pin q (List.mem_of_getElem? hq)
        refine ⟨rfl, _, rfl, _, rfl, _, rfl, _, rfl, r1, r2, p.2.1, x, y, e, f1, f2, q.1, rfl, rule_but hd1 g2 (hR1.same sH1), ok1, rule_but hd1 g2 (hR2.same sH1), ok2, sqT_but hd1 g2 sxy, sqT_but hd1 g2 stx, sqT_but hd1 g2 sty, pi1, pi2, fun G2 s2 => ⟨_, rfl, ite2 (fun c => ?_) fun c => ?_⟩⟩
        · have b2 := g2.trans (But.of s2)
          have nD2 : H1 D = none := fresh_of (o := .frz ob (ND.obj P w d1 es1)) (fun c o n h => by rw [upd_ne n]; exact h) upd_same nD
          refine ⟨_, rfl, _, rfl, d1, p.2.1, es1, prK q.1, .ref r, rfl, rfl, .inr ⟨ob, s2 _ _ g1⟩, keys_map (fun _ _ h => sqT_but hd1 b2 h) T1.2.1, ND.keyAt_ext (fun _ _ h => sqT_but hd1 b2 h) _ _ kk, prK_depth q.1, hv, ws, s2 _ _ g3, ?_, ?_, ?_, ws ++ [.ref r], upd_same, ?_⟩
          · have l1 := Paired.length g4
            have l2 := unlR_len (f := f1) (g := f2) (e := e) (R.take i)
            have l3 := List.length_take_le i R
            omega
          · rw [upd_ne (ne_of (s2 _ _ g1) (s2 _ _ g3) (by intro z; cases z))]
            exact s2 _ _ g1
          · exact fun c o n h => by
              rw [upd_ne (ne_of_none h nD2)]
              exact b2 c o n h
          · have c : unlB f1 f2 e q.1 = true := c
            rw [unlR_next hq, if_pos c]
            exact Paired.snoc g4 ⟨r, rfl, hrow, hfr⟩
        · refine ⟨s2 _ _ g1, g2.trans (But.of s2), ws, s2 _ _ g3, ?_⟩
          have c : ¬ unlB f1 f2 e q.1 = true := c
          rw [unlR_next hq, if_neg c, List.append_nil]
          exact g4
      · rintro G ⟨g1, g2, ws, g3, g4⟩
        rw [lenR, List.take_length] at g4
        refine ⟨g1, ?_⟩
        have n1D : D ≠ d1 := ne_of g3 g1 (by intro z; cases z)
        have sG : Same H1 (upd G d1 (ND.obj P w d1 es1)) := fun b o h => by
          by_cases zb : b = d1
          · rw [zb, upd_same, ← hd1, ← zb]
            exact h
          · rw [upd_ne zb]
            exact g2 b o zb h
        have gD : (upd G d1 (ND.obj P w d1 es1)) D = some (.lst ws) := by
          rw [upd_ne n1D]
          exact g3
        have gd : (upd G d1 (ND.obj P w d1 es1)) d1 = some (ND.obj P w d1 es1) := upd_same
        generalize upd G d1 (ND.obj P w d1 es1) = G1 at sG gD gd
        have lw : ws.length = (unlR f1 f2 e R).length := Paired.length g4
        refine ⟨_, rfl, D, ws, rfl, .inl (SqL.of gD), _, _, rfl, rfl, _, rfl, ite2 (fun c => ?_) (fun c => ?_)⟩
        · have c1 := of_decide_eq_true c
          have ne2 : ¬ (unlR f1 f2 e R).isEmpty = true := fun y => by
            rw [List.isEmpty_iff.mp y, List.length_nil] at lw
            omega
          rw [if_neg ne2] at hM2
          have hres := Option.some.inj hM2
          refine ⟨_, rfl, D, ws, fun i => (((unlR f1 f2 e R).getD i []).length : Int), fun i => ws.getD i .non, fun i => (unlR f1 f2 e R).getD i [], rfl, SqL.of gD, by omega, fun i x hx => ?_, fun x hx => ?_⟩
          · obtain ⟨row, hrow, r, er, r1, _⟩ := paired_nth g4 hx
            subst er
            have e1 : (unlR f1 f2 e R).getD i [] = row := by rw [List.getD_eq_getElem?_getD, hrow]; rfl
            have e2 : ws.getD i .non = .ref r := by rw [List.getD_eq_getElem?_getD, hx]; rfl
            show MK.KeyTo (sp_order_of_row K) G1 (.ref r) (((unlR f1 f2 e R).getD i []).length : Int) (ws.getD i .non) ∧ MK.RowD K G1 (ws.getD i .non) ((unlR f1 f2 e R).getD i [])
            rw [e1, e2]
            have hr1 : SqL K G1 r (row.map V.int) := SqL.of (sG _ _ r1)
            exact ⟨⟨r, row, rfl, MK.drop_l hr1, fun H3 b nb hb3 e3 => ⟨b, rfl, nb, hb3, e3⟩⟩, r, rfl, hr1⟩
          · rw [lw] at hx
            obtain ⟨row, hrow, r, er, r1, rf⟩ := paired_nth g4 hx
            subst er
            have e1 : bestR (unlR f1 f2 e R) = row := by
              unfold bestR bestI
              rw [List.getD_eq_getElem?_getD, hrow]
              rfl
            rw [e1] at hres
            refine ⟨_, rfl, (by show 2 ≤ sizeLine; decide), fun t nt => ?_⟩
            have u := same_new (o := .tup [.ref r, .int e]) nt
            exact qs row e hres.symm _ t r (sH1.trans (sG.trans u)) (sm.free rf) (u _ _ (sG _ _ r1)) upd_same
        · have e0 : (unlR f1 f2 e R).isEmpty = true := by
            have z2 : ¬ (0 : Int) < ws.length := fun y => c (decide_eq_true y)
            exact List.isEmpty_iff.mpr (List.eq_nil_of_length_eq_zero (by omega))
          rw [if_pos e0] at hM2
          have hF3 := cont e0
          have hdG := gd
          refine ⟨d1, ND.obj P w d1 es1, gd, True.intro, fun ob2 => ⟨_, rfl, d1, ob2, es1, rfl, upd_same, fun D2 nD2 => dcn_gen (n := es1.length) (fun i G => G d1 = some (.frz ob2 (ND.obj P w d1 es1)) ∧ But d1 G1 G ∧ ∃ es2, TabAt P w K G D2 es2 (goOn f1 e (R.take i))) ?_ ?_ ?_ ?_⟩⟩
          · have nDd : d1 ≠ D2 := ne_of_none (upd_same (H := G1) (a := d1)) nD2
            refine ⟨by rw [upd_ne nDd]; exact upd_same, fun c o n h => ?_, [], upd_same, fun p hp => (nomatch hp), .nil⟩
            have nc : c ≠ D2 := ne_of_none (by rw [upd_ne n]; exact h) nD2
            rw [upd_ne nc, upd_ne n]
            exact h
          · rintro i G ⟨g1, _⟩
            exact ⟨fun c => ⟨g1, c⟩, fun c => ⟨g1, by rw [c]; exact Nat.le_refl _⟩⟩
          · rintro i G2 v G' hi ⟨g5, g6, es2, T2⟩ ⟨eG, p, hp, ev⟩
            subst eG ev
            obtain ⟨q, x, y, r, hq, sxy, stx, sty, kk, hv, hrow, hfr⟩ := look i p hp
            obtain ⟨pi1, pi2⟩ := pin q (List.mem_of_getElem? hq)
            have b6 : But d1 H1 G' := (But.of sG).trans g6
            refine ⟨rfl, _, rfl, _, rfl, p.2.1, _, 0, .ref x, rfl, rfl, sqT_but hd1 b6 sxy, rfl, _, rfl, r1, x, e, f1, q.1.1, rfl, rule_but hd1 b6 (hR1.same sH1), ok1, sqT_but hd1 b6 stx, pi1, fun G3 b3 s3 h3 => ?_⟩
            refine ⟨b3, f1, q.1.1, e, rfl, SqT.of h3, fun G4 s4 => ⟨_, rfl, fun c => ?_, fun c => ?_⟩⟩
            · have s34 := s3.trans s4
              have b7 : But d1 H1 G4 := b6.trans (But.of s34)
              have T3 := T2.same s34
              refine ⟨_, rfl, _, rfl, _, rfl, d1, p.2.1, es1, prK q.1, .ref r, rfl, rfl, .inr ⟨ob2, s34 _ _ g5⟩, keys_map (fun _ _ h => sqT_but hd1 b7 h) T1.2.1, ND.keyAt_ext (fun _ _ h => sqT_but hd1 b7 h) _ _ kk, prK_depth q.1, hv, p.2.1, prK q.1, es2, rfl, T3.1, T3.2.1, ND.keyAt_ext (fun _ _ h => sqT_but hd1 b7 h) _ _ kk, prK_depth q.1, ?_, ?_, ?_, ?_⟩
              · have l2 := goOn_len (f := f1) (e := e) (R.take i)
                have l3 := List.length_take_le i R
                have l4 := len_tab T3.2.2
                omega
              · rw [upd_ne (ne_of (s34 _ _ g5) T3.1 (by intro z; cases z))]
                exact s34 _ _ g5
              · have nD3 : G1 D2 = none := fresh_of (o := .frz ob2 (ND.obj P w d1 es1)) (fun c o n h => by rw [upd_ne n]; exact h) upd_same nD2
                exact fun c o n h => by
                  rw [upd_ne (ne_of_none h nD3)]
                  exact s34 _ _ (g6 c o n h)
              · rw [goOn_next hq, if_pos c, ← put_new (new_key kp.1 hq)]
                exact ⟨_, tab_put T3 (sqT_but hd1 b7 sxy) (sqT_but hd1 b7 stx) (sqT_but hd1 b7 sty) (b7 _ _ (ne_of hrow hd1 (by intro z; cases z)) hrow)⟩
            · refine ⟨(s3.trans s4) _ _ g5, g6.trans (But.of (s3.trans s4)), es2, ?_⟩
              rw [goOn_next hq, if_neg (by rw [c]; exact Bool.false_ne_true), List.append_nil]
              exact T2.same (s3.trans s4)
          · rintro G2 ⟨g5, g6, es2, T2⟩
            rw [lenR, List.take_length] at T2
            have e1 : But d1 G2 (upd G2 d1 (ND.obj P w d1 es1)) := fun c o n h => by
              rw [upd_ne n]
              exact h
            refine ⟨g5, _, rfl, _, _, rfl, rfl, ?_⟩
            refine ⟨D2, e + 1, es2, goOn f1 e R, _, _, rfl, fun b o h => ?_, tab_but g5 e1 T2, hF3, hM2⟩
            by_cases zb : b = d1
            · rw [zb, upd_same, ← hdG, ← zb]
              exact sG _ _ (sH1 _ _ h)
            · rw [upd_ne zb]
              exact g6 b o zb (sG _ _ (sH1 _ _ h))
    · have e0 : m = [] := by
        have := len_tab hT.2.2
        have z2 : ¬ (0 : Int) < es.length := fun y => z (decide_eq_true y)
        exact List.eq_nil_of_length_eq_zero (by omega)
      subst e0
      refine qn ?_ _ sm
      cases n <;> exact (Option.some.inj hM).symm
/-! ### the states of a row, day by day -/
def passF (f : Fg) (c : Cs) (e : Int) : Cs := passT f.s f.g f.m c e
def payF (f : Fg) (c : Cs) (e : Int) : Cs := payT f.p f.s f.l c e
def cf (f : Fg) (ds : List Int) (e : Int) : Cs := courseT f.p f.s f.g f.l f.m ds e
theorem pass_passN {s g ms a b : Int} (hab : a ≤ b) : ∀ (n : Nat) (d p m : Int), n = (ms - m).toNat → m ≤ ms → passT s g ms (passN s g n d p m a) b = passN s g n d p m b
  | 0, d, p, m, hn, hm => by
    by_cases c : d + g < a
    · rw [passN_go c, passN_go (by omega)]
      exact passT_over (by intro z; cases z)
    · rw [passN_st c]
      show passN s g (ms - m).toNat d p m b = _
      rw [← hn]
  | n + 1, d, p, m, hn, hm => by
    by_cases c : d + g < a
    · rw [passN_on c, passN_on (by omega)]
      exact pass_passN hab n (d + s) p (m + 1) (by omega) (by omega)
    · rw [passN_st c]
      show passN s g (ms - m).toNat d p m b = _
      rw [← hn]
theorem pass_pass {s g ms a b : Int} {c : Cs} (hab : a ≤ b) (hm : c.m ≤ ms) : passT s g ms (passT s g ms c a) b = passT s g ms c b := by
  by_cases h : c.w = .st
  · obtain ⟨w, d, p, m⟩ := c
    cases (show w = .st from h)
    exact pass_passN hab _ d p m rfl hm
  · rw [passT_over h, passT_over h]
/-- all that is missed is told -/
def Up (f : Fg) (e : Int) (c : Cs) : Prop := passF f c e = c
theorem up_pass {f : Fg} {e : Int} {c : Cs} (hm : c.m ≤ f.m) : Up f e (passF f c e) := pass_pass (Int.le_refl e) hm
theorem passN_up {s g : Int} : ∀ (n : Nat) (d p m e : Int), (passN s g n d p m e).w = .st → e ≤ (passN s g n d p m e).d + g
  | 0, d, p, m, e, h => by
    by_cases c : d + g < e
    · rw [passN_go c] at h
      cases h
    · rw [passN_st c]
      show e ≤ d + g
      omega
  | n + 1, d, p, m, e, h => by
    by_cases c : d + g < e
    · rw [passN_on c] at h ⊢
      exact passN_up n _ _ _ _ h
    · rw [passN_st c]
      show e ≤ d + g
      omega
theorem up_late {f : Fg} {e : Int} {c : Cs} (h : Up f e c) (hw : c.w = .st) : e ≤ c.d + f.g := by
  have h2 : passT f.s f.g f.m c e = c := h
  unfold passT at h2
  rw [hw] at h2
  have h3 := passN_up (s := f.s) (g := f.g) (f.m - c.m).toNat c.d c.p c.m e
  simp only at h2
  rw [h2] at h3
  exact h3 hw
theorem up_of {f : Fg} {e : Int} {c : Cs} (h : c.w = .st → e ≤ c.d + f.g) : Up f e c := by
  unfold Up passF
  by_cases hw : c.w = .st
  · have := h hw
    obtain ⟨w, d, p, m⟩ := c
    cases (show w = .st from hw)
    exact passN_st (by show ¬ d + f.g < e; have : e ≤ d + f.g := this; omega)
  · exact passT_over hw
theorem up_pay {f : Fg} {e : Int} {c : Cs} (hs : 0 ≤ f.s) (hg : 0 ≤ f.g) (h : Up f e c) : Up f e (payF f c e) := by
  by_cases hw : c.w = .st
  · have h1 := up_late h hw
    obtain ⟨w, d, p, m⟩ := c
    cases (show w = .st from hw)
    have h1 : e ≤ d + f.g := h1
    refine up_of fun z => ?_
    unfold payF at z ⊢
    by_cases q : p + 1 = f.p
    · rw [pay_so q] at z
      cases z
    · rw [pay_st q]
      show e ≤ ((if f.l = true then e else d) + f.s) + f.g
      split <;> omega
  · unfold payF
    rw [payT_over hw]
    exact h
def payN1 (f : Fg) (e : Int) : Nat → Cs → Cs
  | 0, c => c
  | n + 1, c => payF f (payN1 f e n c) e
theorem payNB_eq (f g : Fg) (e : Int) (p : Pr2) : ∀ n, payNB f g e n p = (payN1 f e n p.1, payN1 g e n p.2)
  | 0 => rfl
  | n + 1 => by
    show payBoth f g e (payNB f g e n p) = _
    rw [payNB_eq f g e p n]
    rfl
theorem up_payN {f : Fg} {e : Int} {c : Cs} (hs : 0 ≤ f.s) (hg : 0 ≤ f.g) (h : Up f e c) : ∀ n, Up f e (payN1 f e n c)
  | 0 => h
  | n + 1 => up_pay hs hg (up_payN hs hg h n)
theorem payN1_m {f : Fg} {e : Int} {c : Cs} : ∀ n, (payN1 f e n c).m = c.m
  | 0 => rfl
  | n + 1 => by
    show (payT _ _ _ _ _).m = _
    rw [payT_m]
    exact payN1_m n
theorem fold_end {p s g : Int} {l : Bool} {ms a b : Int} (hab : a ≤ b) : ∀ (ds : List Int) (c : Cs), (∀ d ∈ ds, d ≤ a) → ds.foldl (stepT p s g l ms b) c = ds.foldl (stepT p s g l ms a) c
  | [], _, _ => rfl
  | d :: r, c, h => by
    have h1 := h d List.mem_cons_self
    rw [List.foldl_cons, List.foldl_cons, step_on (by omega), step_on h1]
    exact fold_end hab r _ fun x hx => h x (List.mem_cons_of_mem _ hx)
theorem fold_rep {f : Fg} {e : Int} {c : Cs} (hs : 0 ≤ f.s) (hg : 0 ≤ f.g) (hm : c.m ≤ f.m) : ∀ k : Nat, passF f ((List.replicate k e).foldl (stepT f.p f.s f.g f.l f.m e) c) e = payN1 f e k (passF f c e)
  | 0 => rfl
  | k + 1 => by
    rw [List.replicate_succ', List.foldl_append]
    show passF f (stepT f.p f.s f.g f.l f.m e _ e) e = _
    rw [step_on (Int.le_refl e)]
    have ih := fold_rep (e := e) hs hg hm k
    have e1 : payT f.p f.s f.l (passT f.s f.g f.m ((List.replicate k e).foldl (stepT f.p f.s f.g f.l f.m e) c) e) e = payN1 f e (k + 1) (passF f c e) := congrArg (fun z => payF f z e) ih
    rw [e1]
    exact up_payN hs hg (up_pass hm) (k + 1)
theorem cf_next {f : Fg} {e : Int} {ds : List Int} {k : Nat} (hs : 0 ≤ f.s) (hg : 0 ≤ f.g) (m0 : 0 ≤ f.m) (h : ∀ d ∈ ds, d < e) : cf f (ds ++ List.replicate k e) e = payN1 f e k (passF f (cf f ds (e - 1)) e) := by
  unfold cf courseT
  rw [List.foldl_append, fold_end (a := e - 1) (b := e) (by omega) ds cs0 fun d hd => by have := h d hd; omega]
  have hm := foldT_m (p := f.p) (s := f.s) (g := f.g) (l := f.l) (ms := f.m) (e := e - 1) ds (c := cs0) m0
  have h1 := fold_rep (f := f) (e := e) hs hg hm k
  unfold passF at h1 ⊢
  rw [h1, pass_pass (by omega) hm]
/-! ### the order of rows -/
def rowLt (a b : List Int) : Bool := ND.keyLt (lenKey a) (lenKey b)
def rowLe (a b : List Int) : Prop := rowLt b a = false
theorem rowLt_eq (a b : List Int) : rowLt a b = if a.length = b.length then PySem.W.listLt a b else decide (a.length < b.length) := by
  show (if ((a.length : Int)) = (b.length : Int) then PySem.W.listLt a b else decide ((a.length : Int) < (b.length : Int))) = _
  by_cases h : a.length = b.length
  · rw [if_pos h, if_pos (by omega)]
  · rw [if_neg h, if_neg (by omega)]
    exact decide_eq_decide.mpr (by omega)
theorem ll_cons (x y : Int) (a b : List Int) : PySem.W.listLt (x :: a) (y :: b) = if x = y then PySem.W.listLt a b else decide (x < y) := rfl
theorem ll_self : ∀ a : List Int, PySem.W.listLt a a = false
  | [] => rfl
  | x :: a => by rw [ll_cons, if_pos rfl]; exact ll_self a
theorem ll_co : ∀ (c a b : List Int), c.length = a.length → c.length = b.length → PySem.W.listLt c a = true → PySem.W.listLt c b = true ∨ PySem.W.listLt b a = true
  | [], [], _, _, _, h => by cases h
  | [], _ :: _, _, h, _, _ => by cases h
  | _ :: _, [], _, h, _, _ => by cases h
  | x :: c, y :: a, [], _, h, _ => by cases h
  | x :: c, y :: a, z :: b, h1, h2, h => by
    simp only [List.length_cons] at h1 h2
    rw [ll_cons] at h ⊢
    rw [ll_cons]
    by_cases e : x = y
    · subst e
      rw [if_pos rfl] at h
      by_cases e2 : x = z
      · subst e2
        rw [if_pos rfl, if_pos rfl]
        exact ll_co c a b (by omega) (by omega) h
      · rw [if_neg e2, if_neg (Ne.symm e2)]
        rcases Int.lt_or_gt_of_ne e2 with l | l
        · exact .inl (decide_eq_true l)
        · exact .inr (decide_eq_true l)
    · rw [if_neg e] at h
      have h := of_decide_eq_true h
      by_cases e2 : x = z
      · subst e2
        rw [if_neg e]
        exact .inr (decide_eq_true h)
      · rw [if_neg e2]
        rcases Int.lt_or_gt_of_ne e2 with l | l
        · exact .inl (decide_eq_true l)
        · refine .inr ?_
          rw [if_neg (by omega)]
          exact decide_eq_true (by omega)
theorem ll_lt_asym : ∀ (a b : List Int), a.length = b.length → PySem.W.listLt a b = true → PySem.W.listLt b a = true → False
  | [], [], _, h, _ => by cases h
  | [], _ :: _, h, _, _ => by cases h
  | _ :: _, [], h, _, _ => by cases h
  | x :: a, y :: b, h, h1, h2 => by
    simp only [List.length_cons] at h
    rw [ll_cons] at h1 h2
    by_cases e : x = y
    · subst e
      rw [if_pos rfl] at h1 h2
      exact ll_lt_asym a b (by omega) h1 h2
    · rw [if_neg e] at h1
      rw [if_neg (Ne.symm e)] at h2
      have := of_decide_eq_true h1
      have := of_decide_eq_true h2
      omega
theorem ll_anti : ∀ (a b : List Int), a.length = b.length → PySem.W.listLt a b = false → PySem.W.listLt b a = false → a = b
  | [], [], _, _, _ => rfl
  | [], _ :: _, h, _, _ => by cases h
  | _ :: _, [], h, _, _ => by cases h
  | x :: a, y :: b, h, h1, h2 => by
    simp only [List.length_cons] at h
    rw [ll_cons] at h1 h2
    by_cases e : x = y
    · subst e
      rw [if_pos rfl] at h1 h2
      rw [ll_anti a b (by omega) h1 h2]
    · rw [if_neg e] at h1
      rw [if_neg (Ne.symm e)] at h2
      have := of_decide_eq_false h1
      have := of_decide_eq_false h2
      omega
theorem ll_app (s : List Int) : ∀ (a b : List Int), a.length = b.length → PySem.W.listLt (a ++ s) (b ++ s) = PySem.W.listLt a b
  | [], [], _ => ll_self s
  | [], _ :: _, h => by cases h
  | _ :: _, [], h => by cases h
  | x :: a, y :: b, h => by
    rw [List.cons_append, List.cons_append, ll_cons, ll_cons, ll_app s a b (by simpa using h)]
theorem rowLe_refl (a : List Int) : rowLe a a := by
  unfold rowLe
  rw [rowLt_eq, if_pos rfl]
  exact ll_self a
theorem rowLt_co {a b c : List Int} (h : rowLt c a = true) : rowLt c b = true ∨ rowLt b a = true := by
  rw [rowLt_eq] at h ⊢
  rw [rowLt_eq]
  by_cases e1 : c.length = a.length
  · rw [if_pos e1] at h
    by_cases e2 : c.length = b.length
    · rw [if_pos e2, if_pos (by omega)]
      exact ll_co c a b e1 e2 h
    · rw [if_neg e2, if_neg (by omega)]
      rcases Nat.lt_or_gt_of_ne e2 with l | l
      · exact .inl (decide_eq_true l)
      · exact .inr (decide_eq_true (by omega))
  · rw [if_neg e1] at h
    have h := of_decide_eq_true h
    by_cases e2 : c.length = b.length
    · rw [if_pos e2, if_neg (by omega)]
      exact .inr (decide_eq_true (by omega))
    · rw [if_neg e2]
      rcases Nat.lt_or_gt_of_ne e2 with l | l
      · exact .inl (decide_eq_true l)
      · refine .inr ?_
        rw [if_neg (by omega)]
        exact decide_eq_true (by omega)
theorem rowLe_trans {a b c : List Int} (h1 : rowLe a b) (h2 : rowLe b c) : rowLe a c := by
  unfold rowLe at *
  cases e : rowLt c a with
  | false => rfl
  | true =>
    rcases rowLt_co (b := b) e with h | h
    · rw [h2] at h
      cases h
    · rw [h1] at h
      cases h
theorem rowLt_asym {a b : List Int} (h : rowLt a b = true) : rowLe a b := by
  unfold rowLe
  cases e : rowLt b a with
  | false => rfl
  | true =>
    rw [rowLt_eq] at h e
    by_cases l : a.length = b.length
    · rw [if_pos l] at h
      rw [if_pos l.symm] at e
      exact (ll_lt_asym a b l h e).elim
    · rw [if_neg l] at h
      rw [if_neg (Ne.symm l)] at e
      have := of_decide_eq_true h
      have := of_decide_eq_true e
      omega
theorem rowLe_anti {a b : List Int} (h1 : rowLe a b) (h2 : rowLe b a) : a = b := by
  unfold rowLe at h1 h2
  rw [rowLt_eq] at h1 h2
  by_cases e : a.length = b.length
  · rw [if_pos e.symm] at h1
    rw [if_pos e] at h2
    exact ll_anti a b e h2 h1
  · rw [if_neg (Ne.symm e)] at h1
    rw [if_neg e] at h2
    have := of_decide_eq_false h1
    have := of_decide_eq_false h2
    omega
theorem rowLe_app {a b : List Int} (s : List Int) (h : rowLe a b) : rowLe (a ++ s) (b ++ s) := by
  unfold rowLe at *
  rw [rowLt_eq] at h ⊢
  rw [List.length_append, List.length_append]
  by_cases e : b.length = a.length
  · rw [if_pos e] at h
    rw [if_pos (by omega), ll_app s b a e]
    exact h
  · rw [if_neg e] at h
    rw [if_neg (by omega)]
    have := of_decide_eq_false h
    exact decide_eq_false (by omega)
theorem rowLe_len {a b : List Int} (h : a.length < b.length) : rowLe a b := by
  unfold rowLe
  rw [rowLt_eq, if_neg (by omega)]
  exact decide_eq_false (by omega)
/-! ### what the table holds at the end of a day -/
def Nd (m : Rows2) : Prop := (m.map (·.1)).Nodup
def Has (m : Rows2) (k : Pr2) (r : List Int) : Prop := ∃ q ∈ m, q.1 = k ∧ rowLe q.2 r
theorem valR_some {m : Rows2} {k : Pr2} {xs : List Int} (h : valR m k = some xs) : (k, xs) ∈ m := by
  unfold valR at h
  obtain ⟨q, hq, e⟩ := Option.map_eq_some_iff.mp h
  have h1 := List.mem_of_find?_eq_some hq
  have h2 : q.1 = k := by simpa using List.find?_some hq
  rw [← e, ← h2]
  exact h1
theorem valR_of {m : Rows2} (nd : Nd m) {q : Pr2 × List Int} (h : q ∈ m) : valR m q.1 = some q.2 := by
  obtain ⟨i, hi, e⟩ := List.mem_iff_getElem.mp h
  exact valR_at (i := i) nd (by rw [List.getElem?_eq_getElem hi, e])
theorem put_nd {m : Rows2} {k : Pr2} {xs : List Int} (h : Nd m) : Nd (putR m k xs) := by
  unfold Nd
  rw [put_fst]
  split
  · exact h
  · rename_i c
    refine List.nodup_append.mpr ⟨h, List.nodup_cons.mpr ⟨List.not_mem_nil, List.nodup_nil⟩, fun a ha b hb e => c (valR_mem.mpr ?_)⟩
    rw [List.mem_singleton.mp hb] at e
    rw [← e]
    exact ha
theorem put_mem {m : Rows2} {k : Pr2} {xs : List Int} {q : Pr2 × List Int} (h : q ∈ putR m k xs) : q ∈ m ∨ q = (k, xs) := by
  unfold putR at h
  split at h
  · obtain ⟨p, hp, e⟩ := List.mem_map.mp h
    by_cases c : p.1 = k
    · rw [if_pos c] at e
      exact .inr (by rw [← e, c])
    · rw [if_neg c] at e
      exact .inl (e ▸ hp)
  · rcases List.mem_append.mp h with h | h
    · exact .inl h
    · exact .inr (List.mem_singleton.mp h)
theorem put_self {m : Rows2} {k : Pr2} {xs : List Int} : (k, xs) ∈ putR m k xs := by
  unfold putR
  split
  · rename_i c
    obtain ⟨p, hp, e⟩ := List.mem_map.mp (valR_mem.mp c)
    exact List.mem_map.mpr ⟨p, hp, by rw [if_pos e, e]⟩
  · exact List.mem_append_right _ (List.mem_singleton.mpr rfl)
theorem put_other {m : Rows2} {k : Pr2} {xs : List Int} {q : Pr2 × List Int} (h : q ∈ m) (n : q.1 ≠ k) : q ∈ putR m k xs := by
  unfold putR
  split
  · exact List.mem_map.mpr ⟨q, h, by rw [if_neg n]⟩
  · exact List.mem_append_left _ h
theorem keep_nd {m : Rows2} {k : Pr2} {xs : List Int} (h : Nd m) : Nd (keepF m k xs) := by
  unfold keepF
  split
  · exact put_nd h
  · split
    · exact put_nd h
    · exact h
theorem keep_mem {m : Rows2} {k : Pr2} {xs : List Int} {q : Pr2 × List Int} (h : q ∈ keepF m k xs) : q ∈ m ∨ q = (k, xs) := by
  unfold keepF at h
  split at h
  · exact put_mem h
  · split at h
    · exact put_mem h
    · exact .inl h
theorem keep_self {m : Rows2} {k : Pr2} {xs : List Int} : Has (keepF m k xs) k xs := by
  unfold keepF
  cases e : valR m k with
  | none => exact ⟨_, put_self, rfl, rowLe_refl _⟩
  | some old =>
    show Has (if rowLt xs old = true then putR m k xs else m) k xs
    split
    · exact ⟨_, put_self, rfl, rowLe_refl _⟩
    · rename_i c
      exact ⟨_, valR_some e, rfl, by unfold rowLe; simpa using c⟩
theorem keep_has {m : Rows2} {k k2 : Pr2} {xs r : List Int} (nd : Nd m) (h : Has m k2 r) : Has (keepF m k xs) k2 r := by
  obtain ⟨q, hq, e, l⟩ := h
  by_cases c : q.1 = k
  · have hv := valR_of nd hq
    unfold keepF
    rw [← c, hv]
    show Has (if rowLt xs q.2 = true then putR m q.1 xs else m) k2 r
    split
    · rename_i z
      exact ⟨_, put_self, e, rowLe_trans (rowLt_asym z) l⟩
    · exact ⟨q, hq, e, l⟩
  · unfold keepF
    cases valR m k with
    | none => exact ⟨q, put_other hq c, e, l⟩
    | some old =>
      show Has (if rowLt xs old = true then putR m k xs else m) k2 r
      split
      · exact ⟨q, put_other hq c, e, l⟩
      · exact ⟨q, hq, e, l⟩
theorem keep_same {m : Rows2} {k : Pr2} {xs : List Int} (nd : Nd m) (h : Has m k xs) : keepF m k xs = m := by
  obtain ⟨q, hq, e, l⟩ := h
  have hv := valR_of nd hq
  unfold keepF
  rw [← e, hv]
  show (if rowLt xs q.2 = true then putR m q.1 xs else m) = m
  unfold rowLe at l
  rw [l]
  rfl
section
variable {f g : Fg} {e : Int}
theorem inNB_nd {days : List Int} {p0 : Pr2} {m : Rows2} (h : Nd m) : ∀ n, Nd (inNB f g e days p0 m n)
  | 0 => keep_nd h
  | n + 1 => keep_nd (inNB_nd h n)
theorem inNB_mem {days : List Int} {p0 : Pr2} {m : Rows2} {q : Pr2 × List Int} : ∀ n, q ∈ inNB f g e days p0 m n → q ∈ m ∨ ∃ j, j ≤ n ∧ q = (payNB f g e j p0, days ++ List.replicate j e)
  | 0, h => by
    rcases keep_mem h with h | h
    · exact .inl h
    · exact .inr ⟨0, Nat.le_refl _, by rw [h]; simp [payNB]⟩
  | n + 1, h => by
    rcases keep_mem h with h | h
    · rcases inNB_mem n h with h | ⟨j, hj, h⟩
      · exact .inl h
      · exact .inr ⟨j, Nat.le_succ_of_le hj, h⟩
    · exact .inr ⟨n + 1, Nat.le_refl _, h⟩
theorem inNB_old {days : List Int} {p0 k : Pr2} {m : Rows2} {r : List Int} (nd : Nd m) (h : Has m k r) : ∀ n, Has (inNB f g e days p0 m n) k r
  | 0 => keep_has nd h
  | n + 1 => keep_has (inNB_nd nd n) (inNB_old nd h n)
theorem inNB_has {days : List Int} {p0 : Pr2} {m : Rows2} (nd : Nd m) {j : Nat} : ∀ n, j ≤ n → Has (inNB f g e days p0 m n) (payNB f g e j p0) (days ++ List.replicate j e)
  | 0, h => by
    have : j = 0 := by omega
    subst this
    rw [List.replicate_zero, List.append_nil]
    exact keep_self
  | n + 1, h => by
    by_cases c : j = n + 1
    · subst c
      exact keep_self
    · exact keep_has (inNB_nd nd n) (inNB_has nd n (by omega))
theorem byEnd_all (rows : Rows2) : Nd (byEnd f g e rows) ∧ (∀ q ∈ byEnd f g e rows, ∃ q0 ∈ rows, ∃ j, j ≤ mostP f g ∧ q = (payNB f g e j (passBoth f g e q0.1), q0.2 ++ List.replicate j e)) ∧ ∀ q0 ∈ rows, ∀ j, j ≤ mostP f g → Has (byEnd f g e rows) (payNB f g e j (passBoth f g e q0.1)) (q0.2 ++ List.replicate j e) := by
  suffices h : ∀ (l : Rows2) (acc : Rows2), Nd acc → Nd (l.foldl (stepB f g e) acc) ∧ (∀ q ∈ l.foldl (stepB f g e) acc, q ∈ acc ∨ ∃ q0 ∈ l, ∃ j, j ≤ mostP f g ∧ q = (payNB f g e j (passBoth f g e q0.1), q0.2 ++ List.replicate j e)) ∧ (∀ k r, Has acc k r → Has (l.foldl (stepB f g e) acc) k r) ∧ ∀ q0 ∈ l, ∀ j, j ≤ mostP f g → Has (l.foldl (stepB f g e) acc) (payNB f g e j (passBoth f g e q0.1)) (q0.2 ++ List.replicate j e) by
    obtain ⟨h1, h2, _, h4⟩ := h rows [] List.nodup_nil
    exact ⟨h1, fun q hq => (h2 q hq).resolve_left (fun z => nomatch z), h4⟩
  intro l
  induction l with
  | nil => exact fun acc nd => ⟨nd, fun q hq => .inl hq, fun _ _ h => h, fun q0 h => nomatch h⟩
  | cons q1 l ih =>
    intro acc nd
    obtain ⟨h1, h2, h3, h4⟩ := ih (stepB f g e acc q1) (inNB_nd nd _)
    refine ⟨h1, fun q hq => ?_, fun k r h => h3 k r (inNB_old nd h _), fun q0 hq0 j hj => ?_⟩
    · rcases h2 q hq with h | ⟨q0, hq0, z⟩
      · rcases inNB_mem _ h with h | ⟨j, hj, h⟩
        · exact .inl h
        · exact .inr ⟨q1, List.mem_cons_self, j, hj, h⟩
      · exact .inr ⟨q0, List.mem_cons_of_mem _ hq0, z⟩
    · rcases List.mem_cons.mp hq0 with z | z
      · subst z
        exact h3 _ _ (inNB_has nd _ hj)
      · exact h4 q0 z j hj
end
/-! ### bounds -/
structure Few (f : Fg) : Prop where
  p0 : 1 ≤ f.p
  p1 : f.p ≤ 3
  s0 : 1 ≤ f.s
  s1 : f.s ≤ 5
  g0 : 0 ≤ f.g
  g1 : f.g ≤ 2
  m0 : 0 ≤ f.m
  m1 : f.m ≤ 2
  b0 : 0 ≤ f.ba
  b1 : f.ba ≤ 30
structure B1 (f : Fg) (c : Cs) : Prop where
  up : c.w ≠ .up
  p0 : 0 ≤ c.p
  p1 : c.p ≤ f.p
  lt : c.w ≠ .so → c.p < f.p
  m0 : 0 ≤ c.m
  m1 : c.m ≤ f.m
  d0 : 0 ≤ c.d
  st : c.w = .st → c.d ≤ (c.p + c.m) * 7
  d1 : c.d ≤ 50
theorem b_passN {f : Fg} (F : Few f) {e : Int} : ∀ (n : Nat) (d p m : Int), n = (f.m - m).toNat → B1 f ⟨.st, d, p, m⟩ → B1 f (passN f.s f.g n d p m e)
  | 0, d, p, m, hn, b => by
    by_cases c : d + f.g < e
    · rw [passN_go c]
      have h1 : d ≤ (p + m) * 7 := b.st rfl
      have h2 : p < f.p := b.lt (by intro z; cases z)
      have h3 : m ≤ f.m := b.m1
      have h4 : 0 ≤ d := b.d0
      have := F.p1
      have := F.m1
      have := F.g0
      have := F.g1
      exact ⟨(by intro z; cases z), b.p0, b.p1, fun _ => h2, b.m0, b.m1, (by show 0 ≤ d + f.g + 1; omega), fun z => (by cases z), (by show d + f.g + 1 ≤ 50; omega)⟩
    · rw [passN_st c]
      exact b
  | n + 1, d, p, m, hn, b => by
    by_cases c : d + f.g < e
    · rw [passN_on c]
      have h1 : d ≤ (p + m) * 7 := b.st rfl
      have h2 : p < f.p := b.lt (by intro z; cases z)
      have h3 : m ≤ f.m := b.m1
      have h4 : 0 ≤ d := b.d0
      have h5 : 0 ≤ m := b.m0
      have := F.p1
      have := F.m1
      have := F.s0
      have := F.s1
      refine b_passN F n (d + f.s) p (m + 1) (by omega) ⟨(by intro z; cases z), b.p0, b.p1, fun _ => h2, (by show 0 ≤ m + 1; omega), (by show m + 1 ≤ f.m; omega), (by show 0 ≤ d + f.s; omega), fun _ => (by show d + f.s ≤ (p + (m + 1)) * 7; omega), (by show d + f.s ≤ 50; omega)⟩
    · rw [passN_st c]
      exact b
theorem b_pass {f : Fg} (F : Few f) {c : Cs} {e : Int} (b : B1 f c) : B1 f (passF f c e) := by
  by_cases h : c.w = .st
  · obtain ⟨w, d, p, m⟩ := c
    cases (show w = .st from h)
    exact b_passN F _ d p m rfl b
  · unfold passF
    rw [passT_over h]
    exact b
theorem b_pay {f : Fg} (F : Few f) {c : Cs} {e : Int} (he : 0 ≤ e) (b : B1 f c) (u : Up f e c) : B1 f (payF f c e) := by
  by_cases h : c.w = .st
  · have l := up_late u h
    obtain ⟨w, d, p, m⟩ := c
    cases (show w = .st from h)
    have l : e ≤ d + f.g := l
    have h1 : d ≤ (p + m) * 7 := b.st rfl
    have h2 : p < f.p := b.lt (by intro z; cases z)
    have h3 : m ≤ f.m := b.m1
    have h4 : 0 ≤ d := b.d0
    have h5 : 0 ≤ m := b.m0
    have h6 : 0 ≤ p := b.p0
    have := F.p1
    have := F.m1
    have := F.s0
    have := F.s1
    have := F.g0
    have := F.g1
    unfold payF
    by_cases q : p + 1 = f.p
    · rw [pay_so q]
      exact ⟨(by intro z; cases z), (by show 0 ≤ p + 1; omega), (by show p + 1 ≤ f.p; omega), fun z => absurd rfl z, b.m0, b.m1, he, fun z => (by cases z), (by show e ≤ 50; omega)⟩
    · rw [pay_st q]
      refine ⟨(by intro z; cases z), (by show 0 ≤ p + 1; omega), (by show p + 1 ≤ f.p; omega), fun _ => (by show p + 1 < f.p; omega), b.m0, b.m1, ?_, fun _ => ?_, ?_⟩
      · show 0 ≤ (if f.l = true then e else d) + f.s
        split <;> omega
      · show (if f.l = true then e else d) + f.s ≤ (p + 1 + m) * 7
        split <;> omega
      · show (if f.l = true then e else d) + f.s ≤ 50
        split <;> omega
  · unfold payF
    rw [payT_over h]
    exact b
theorem b_payN {f : Fg} (F : Few f) {c : Cs} {e : Int} (he : 0 ≤ e) (b : B1 f c) (u : Up f e c) : ∀ n, B1 f (payN1 f e n c)
  | 0 => b
  | n + 1 => b_pay F he (b_payN F he b u n) (up_payN (Int.le_trans (by decide) F.s0) F.g0 u n)
theorem b_cap {f : Fg} (F : Few f) {c : Cs} (b : B1 f c) : CapC c := by
  have := F.p1
  have := F.m1
  have h1 := b.p1
  have h2 := b.m1
  have h3 := b.d1
  exact ⟨b.up, b.d0, by omega, b.p0, by omega, b.m0, by omega⟩
theorem b_cs0 {f : Fg} (F : Few f) : B1 f cs0 := ⟨(by intro z; cases z), Int.le_refl 0, Int.le_trans (by decide) F.p0, fun _ => F.p0, Int.le_refl 0, F.m0, Int.le_refl 0, fun _ => Int.le_refl 0, by decide⟩
/-- rows to a day -/
def RowTo (ds : List Int) (e : Int) : Prop := ds.Pairwise (· ≤ ·) ∧ ∀ d ∈ ds, 0 ≤ d ∧ d ≤ e
theorem b_fold {f : Fg} (F : Few f) {e : Int} : ∀ (ds : List Int) (c : Cs), (∀ d ∈ ds, 0 ≤ d ∧ d ≤ e) → B1 f c → B1 f (ds.foldl (stepT f.p f.s f.g f.l f.m e) c)
  | [], _, _, b => b
  | d :: r, c, h, b => by
    rw [List.foldl_cons, step_on (h d List.mem_cons_self).2]
    exact b_fold F r _ (fun x hx => h x (List.mem_cons_of_mem _ hx)) (b_pay F (h d List.mem_cons_self).1 (b_pass F b) (up_pass b.m1))
theorem b_cf {f : Fg} (F : Few f) {e : Int} {ds : List Int} (h : RowTo ds e) : B1 f (cf f ds e) := b_pass F (b_fold F ds cs0 h.2 (b_cs0 F))
theorem up_cf {f : Fg} (F : Few f) {e : Int} {ds : List Int} (h : RowTo ds e) : Up f e (cf f ds e) := up_pass (b_fold F ds cs0 h.2 (b_cs0 F)).m1
/-- it changes no more, late enough -/
theorem late_chg {f : Fg} (F : Few f) {e : Int} {ds : List Int} (h : RowTo ds e) (hc : chgB f (cf f ds e) e = true) : e ≤ 80 := by
  have b := b_cf F h
  have u := up_cf F h
  have := F.g1
  have := F.b1
  have h1 := b.d1
  unfold chgB at hc
  cases hw : (cf f ds e).w with
  | st =>
    have := up_late u hw
    omega
  | go =>
    rw [hw] at hc
    cases hc
  | so =>
    rw [hw] at hc
    have := of_decide_eq_true hc
    omega
  | up => exact absurd hw b.up
/-! parted rows -/
def cut (ds : List Int) (e : Int) : List Int := ds.filter fun d => decide (d ≤ e)
theorem cut_split {e : Int} : ∀ {ds : List Int}, ds.Pairwise (· ≤ ·) → ds = cut ds e ++ ds.filter (fun d => decide (e < d))
  | [], _ => rfl
  | d :: r, h => by
    obtain ⟨h1, h2⟩ := List.pairwise_cons.mp h
    by_cases c : d ≤ e
    · unfold cut
      rw [List.filter_cons_of_pos (by simpa using c), List.filter_cons_of_neg (by simp; omega), List.cons_append]
      exact congrArg (d :: ·) (cut_split h2)
    · have e1 : cut (d :: r) e = [] := List.filter_eq_nil_iff.mpr fun x hx => by
        rcases List.mem_cons.mp hx with z | z
        · subst z
          simpa using c
        · have := h1 x z
          simp
          omega
      have e2 : (d :: r).filter (fun d => decide (e < d)) = d :: r := List.filter_eq_self.mpr fun x hx => by
        rcases List.mem_cons.mp hx with z | z
        · subst z
          simp
          omega
        · have := h1 x z
          simp
          omega
      rw [e1, e2, List.nil_append]
theorem cut_row {ds : List Int} {e e1 : Int} (h : RowTo ds e) : RowTo (cut ds e1) e1 := ⟨h.1.sublist List.filter_sublist, fun d hd => ⟨(h.2 d (List.mem_filter.mp hd).1).1, by simpa using (List.mem_filter.mp hd).2⟩⟩
theorem cut_all {ds : List Int} {e : Int} (h : ∀ d ∈ ds, d ≤ e) : cut ds e = ds := List.filter_eq_self.mpr fun d hd => by simpa using h d hd
theorem cut_cut {ds : List Int} {a b : Int} (h : a ≤ b) : cut (cut ds b) a = cut ds a := by
  unfold cut
  rw [List.filter_filter]
  congr 1
  funext d
  by_cases c : d ≤ a
  · have : d ≤ b := by omega
    simp [c, this]
  · simp [c]
theorem cut_rep {ds : List Int} {e : Int} (h : RowTo ds e) : ∃ k, ds = cut ds (e - 1) ++ List.replicate k e := by
  refine ⟨(ds.filter (fun d => decide (e - 1 < d))).length, ?_⟩
  have h1 := cut_split (e := e - 1) h.1
  have h2 : ds.filter (fun d => decide (e - 1 < d)) = List.replicate (ds.filter (fun d => decide (e - 1 < d))).length e := List.eq_replicate_iff.mpr ⟨rfl, fun x hx => by
    obtain ⟨a, b⟩ := List.mem_filter.mp hx
    have := (h.2 x a).2
    have : e - 1 < x := by simpa using b
    omega⟩
  rw [← h2]
  exact h1
theorem cf_over {f : Fg} (F : Few f) {ds : List Int} {e e1 : Int} (h : RowTo ds e) (he : e1 ≤ e) (hw : (cf f (cut ds e1) e1).w ≠ .st) : cf f ds e = cf f (cut ds e1) e1 := by
  have hc := (cut_row (e1 := e1) h)
  have e0 : (cut ds e1).foldl (stepT f.p f.s f.g f.l f.m e) cs0 = (cut ds e1).foldl (stepT f.p f.s f.g f.l f.m e1) cs0 := fold_end he _ _ fun d hd => (hc.2 d hd).2
  have hm := (b_fold F (e := e1) (cut ds e1) cs0 hc.2 (b_cs0 F)).m1
  have h2 : cf f ds e = passF f ((ds.filter fun d => decide (e1 < d)).foldl (stepT f.p f.s f.g f.l f.m e) ((cut ds e1).foldl (stepT f.p f.s f.g f.l f.m e1) cs0)) e := by
    unfold cf courseT passF
    rw [← e0, ← List.foldl_append, ← cut_split h.1]
  have h3 : cf f (cut ds e1) e1 = passF f ((cut ds e1).foldl (stepT f.p f.s f.g f.l f.m e1) cs0) e1 := rfl
  have h4 : ∀ d ∈ ds.filter (fun d => decide (e1 < d)), e1 < d ∧ d ≤ e := fun d hd => ⟨by simpa using (List.mem_filter.mp hd).2, (h.2 d (List.mem_filter.mp hd).1).2⟩
  rw [h3] at hw ⊢
  rw [h2]
  generalize (cut ds e1).foldl (stepT f.p f.s f.g f.l f.m e1) cs0 = c at hm hw
  generalize ds.filter (fun d => decide (e1 < d)) = r at h4
  have key : ∀ d, e1 ≤ d → passF f c d = passF f c e1 := fun d hd => by
    have := pass_pass (s := f.s) (g := f.g) (c := c) hd hm
    rw [show passT f.s f.g f.m c e1 = passF f c e1 from rfl, passT_over hw] at this
    exact this.symm
  cases r with
  | nil => exact key e he
  | cons d r =>
    obtain ⟨d1, d2⟩ := h4 d List.mem_cons_self
    rw [List.foldl_cons, step_on d2]
    have e5 : payT f.p f.s f.l (passT f.s f.g f.m c d) d = passF f c e1 := by
      rw [show passT f.s f.g f.m c d = passF f c d from rfl, key d (by omega), payT_over hw]
    rw [e5, fold_over hw]
    unfold passF
    exact passT_over hw
/-! ### where nothing changes any more; how long a row gets -/
def pairAt (f g : Fg) (ds : List Int) (e : Int) : Pr2 := (cf f ds e, cf g ds e)
def unl (f g : Fg) (ds : List Int) (e : Int) : Bool := unlB f g e (pairAt f g ds e)
theorem sold_ne_gone : (Str.ofString "sold" == Str.ofString "gone") = false := by decide +kernel
theorem gone_ne_sold : (Str.ofString "gone" == Str.ofString "sold") = false := by decide +kernel
theorem gone_ne_stands : (Str.ofString "gone" == Str.ofString "stands") = false := by decide +kernel
theorem sold_ne_stands : (Str.ofString "sold" == Str.ofString "stands") = false := by decide +kernel
/-- both show the same, and the first never shows anything else -/
theorem alike_end {f g : Fg} {e e1 : Int} {c1 c2 : Cs} (he : e1 ≤ e) (h : unlB f g e1 (c1, c2) = false) (hc : chgB f c1 e1 = false) : c1.w ≠ .st ∧ c2.w ≠ .st ∧ unlB f g e (c1, c2) = false := by
  unfold unlB shD at h ⊢
  unfold chgB at hc
  simp only at h ⊢
  cases w1 : c1.w with
  | st => rw [w1] at hc; cases hc
  | up => rw [w1] at hc; cases hc
  | go =>
    rw [w1] at h
    cases w2 : c2.w with
    | go =>
      rw [w2] at h
      exact ⟨(by intro z; cases z), (by intro z; cases z), h⟩
    | so =>
      rw [w2] at h
      simp [PyData.eqv, PyData.eqvAll, gone_ne_sold] at h
    | st =>
      rw [w2] at h
      simp [PyData.eqv, PyData.eqvAll, gone_ne_stands] at h
    | up =>
      rw [w2] at h
      simp [PyData.eqv, PyData.eqvAll, gone_ne_stands] at h
  | so =>
    rw [w1] at h hc
    have hc := of_decide_eq_false hc
    cases w2 : c2.w with
    | go =>
      rw [w2] at h
      simp [PyData.eqv, PyData.eqvAll, sold_ne_gone] at h
    | so =>
      rw [w2] at h
      refine ⟨(by intro z; cases z), (by intro z; cases z), ?_⟩
      simp [PyData.eqv, PyData.eqvAll] at h ⊢
      omega
    | st =>
      rw [w2] at h
      simp [PyData.eqv, PyData.eqvAll, sold_ne_stands] at h
    | up =>
      rw [w2] at h
      simp [PyData.eqv, PyData.eqvAll, sold_ne_stands] at h
theorem stays_alike {f g : Fg} (F : Few f) (G : Few g) {ds : List Int} {e e1 : Int} (h : RowTo ds e) (he : e1 ≤ e) (hu : unl f g (cut ds e1) e1 = false) (hc : chgB f (cf f (cut ds e1) e1) e1 = false) : unl f g ds e = false := by
  obtain ⟨h1, h2, h3⟩ := alike_end he hu hc
  unfold unl pairAt
  rw [cf_over F h he h1, cf_over G h he h2]
  exact h3
/-! payments behind the last change nothing -/
theorem payF_over {f : Fg} {c : Cs} {e : Int} (h : c.w ≠ .st) : payF f c e = c := payT_over h
theorem payF_p {f : Fg} {c : Cs} {e : Int} (h : c.w = .st) : (payF f c e).p = c.p + 1 ∧ ((payF f c e).w = .st → c.p + 1 ≠ f.p) := by
  obtain ⟨w, d, p, m⟩ := c
  cases (show w = .st from h)
  unfold payF
  by_cases q : p + 1 = f.p
  · rw [pay_so q]
    exact ⟨rfl, fun z => by cases z⟩
  · rw [pay_st q]
    exact ⟨rfl, fun _ => q⟩
theorem payF_st {f : Fg} {c : Cs} {e : Int} (h : (payF f c e).w = .st) : c.w = .st := by
  cases hw : c.w with
  | st => rfl
  | _ =>
    rw [payF_over (by rw [hw]; intro z; cases z), hw] at h
    cases h
theorem payN1_st {f : Fg} {c : Cs} {e : Int} (b : c.w ≠ .so → c.p < f.p) : ∀ n, (payN1 f e n c).w = .st → (payN1 f e n c).p = c.p + n ∧ c.p + n < f.p
  | 0, h => by
    have h : c.w = .st := h
    exact ⟨by show c.p = _; omega, by have := b (by rw [h]; intro z; cases z); omega⟩
  | n + 1, h => by
    have h1 := payF_st h
    obtain ⟨h2, h3⟩ := payN1_st b n h1
    obtain ⟨h4, h5⟩ := payF_p (f := f) (e := e) h1
    have h6 := h5 h
    refine ⟨by show (payF f (payN1 f e n c) e).p = _; rw [h4, h2]; omega, ?_⟩
    rw [h2] at h6
    omega
theorem payN1_end {f : Fg} {c : Cs} {e : Int} (p0 : 0 ≤ c.p) (b : c.w ≠ .so → c.p < f.p) {N : Nat} (hN : f.p ≤ N) : ∀ j, payN1 f e (N + j) c = payN1 f e N c
  | 0 => rfl
  | j + 1 => by
    have h : (payN1 f e (N + j) c).w ≠ .st := fun z => by
      have := (payN1_st b (N + j) z).2
      omega
    show payF f (payN1 f e (N + j) c) e = _
    rw [payF_over h]
    exact payN1_end p0 b hN j
theorem payNB_end {f g : Fg} {e : Int} {p : Pr2} (p0 : 0 ≤ p.1.p) (b0 : p.1.w ≠ .so → p.1.p < f.p) (p1 : 0 ≤ p.2.p) (b1 : p.2.w ≠ .so → p.2.p < g.p) {k : Nat} (hk : mostP f g ≤ k) : payNB f g e k p = payNB f g e (mostP f g) p := by
  obtain ⟨j, rfl⟩ := Nat.exists_eq_add_of_le hk
  have h1 : f.p ≤ (mostP f g : Nat) := by unfold mostP; omega
  have h2 : g.p ≤ (mostP f g : Nat) := by unfold mostP; omega
  rw [payNB_eq, payNB_eq, payN1_end p0 b0 h1, payN1_end p1 b1 h2]
/-! a row is no longer than what it pays -/
def sumP (k : Pr2) : Int := k.1.p + k.2.p
def alive (k : Pr2) : Prop := k.1.w = .st ∨ k.2.w = .st
instance (k : Pr2) : Decidable (alive k) := by unfold alive; infer_instance
theorem payF_mono {f : Fg} {c : Cs} {e : Int} : c.p ≤ (payF f c e).p := by
  by_cases h : c.w = .st
  · rw [(payF_p h).1]
    omega
  · rw [payF_over h]
    exact Int.le_refl _
theorem pay_more {f g : Fg} {e : Int} {k : Pr2} (h : alive k) : sumP k + 1 ≤ sumP (payBoth f g e k) := by
  have m1 := payF_mono (f := f) (c := k.1) (e := e)
  have m2 := payF_mono (f := g) (c := k.2) (e := e)
  show k.1.p + k.2.p + 1 ≤ (payF f k.1 e).p + (payF g k.2 e).p
  rcases h with h | h
  · have := (payF_p (f := f) (e := e) h).1
    omega
  · have := (payF_p (f := g) (e := e) h).1
    omega
theorem pay_dead {f g : Fg} {e : Int} {k : Pr2} (h : ¬ alive k) : payBoth f g e k = k := by
  have h1 : k.1.w ≠ .st := fun z => h (.inl z)
  have h2 : k.2.w ≠ .st := fun z => h (.inr z)
  show (payF f k.1 e, payF g k.2 e) = k
  rw [payF_over h1, payF_over h2]
theorem alive_back {f g : Fg} {e : Int} {k : Pr2} (h : alive (payBoth f g e k)) : alive k := h.elim (fun z => .inl (payF_st z)) fun z => .inr (payF_st z)
theorem alive_len {f g : Fg} {e : Int} {days : List Int} {p0 : Pr2} (h0 : (days.length : Int) ≤ sumP p0) : ∀ i : Nat, alive (payNB f g e i p0) → (days.length : Int) + i ≤ sumP (payNB f g e i p0)
  | 0, _ => by simpa [payNB] using h0
  | i + 1, h => by
    have h1 := alive_back h
    have h2 := alive_len h0 i h1
    have h3 := pay_more (f := f) (g := g) (e := e) h1
    show _ ≤ sumP (payBoth f g e (payNB f g e i p0))
    omega
theorem inNB_len {f g : Fg} {e : Int} {days : List Int} {p0 : Pr2} {m : Rows2} (nd : Nd m) (hm : ∀ q ∈ m, (q.2.length : Int) ≤ sumP q.1) (h0 : (days.length : Int) ≤ sumP p0) : ∀ n, ∀ q ∈ inNB f g e days p0 m n, (q.2.length : Int) ≤ sumP q.1
  | 0, q, hq => by
    rcases keep_mem hq with h | h
    · exact hm q h
    · rw [h]
      exact h0
  | n + 1, q, hq => by
    by_cases c : alive (payNB f g e n p0)
    · rcases keep_mem hq with h | h
      · exact inNB_len nd hm h0 n q h
      · rw [h]
        have h1 := alive_len h0 n c
        have h2 := pay_more (f := f) (g := g) (e := e) c
        show ((days ++ List.replicate (n + 1) e).length : Int) ≤ sumP (payBoth f g e (payNB f g e n p0))
        rw [List.length_append, List.length_replicate]
        omega
    · have e1 : payNB f g e (n + 1) p0 = payNB f g e n p0 := pay_dead c
      have h1 := inNB_has (f := f) (g := g) (e := e) (days := days) (p0 := p0) nd n (Nat.le_refl n)
      obtain ⟨q1, hq1, k1, l1⟩ := h1
      have e2 : inNB f g e days p0 m (n + 1) = inNB f g e days p0 m n := by
        show keepF (inNB f g e days p0 m n) (payNB f g e (n + 1) p0) _ = _
        rw [e1]
        refine keep_same (inNB_nd nd n) ⟨q1, hq1, k1, rowLe_trans l1 (rowLe_len ?_)⟩
        rw [List.length_append, List.length_append, List.length_replicate, List.length_replicate]
        omega
      rw [e2] at hq
      exact inNB_len nd hm h0 n q hq
theorem passF_p {f : Fg} {c : Cs} {e : Int} : (passF f c e).p = c.p := by
  by_cases h : c.w = .st
  · obtain ⟨w, d, p, m⟩ := c
    cases (show w = .st from h)
    exact (passN_p _ d p m e).1
  · unfold passF
    rw [passT_over h]
theorem byEnd_len {f g : Fg} {e : Int} {rows : Rows2} (h : ∀ q ∈ rows, (q.2.length : Int) ≤ sumP q.1) : ∀ q ∈ byEnd f g e rows, (q.2.length : Int) ≤ sumP q.1 := by
  suffices z : ∀ (l : Rows2) (acc : Rows2), Nd acc → (∀ q ∈ acc, (q.2.length : Int) ≤ sumP q.1) → (∀ q ∈ l, (q.2.length : Int) ≤ sumP q.1) → ∀ q ∈ l.foldl (stepB f g e) acc, (q.2.length : Int) ≤ sumP q.1 from z rows [] List.nodup_nil (fun q hq => nomatch hq) h
  intro l
  induction l with
  | nil => exact fun acc _ ha _ => ha
  | cons q1 l ih =>
    intro acc nd ha hl
    refine ih (stepB f g e acc q1) (inNB_nd nd _) (inNB_len nd ha ?_ _) fun q hq => hl q (List.mem_cons_of_mem _ hq)
    have := hl q1 List.mem_cons_self
    show (q1.2.length : Int) ≤ (passF f q1.1.1 e).p + (passF g q1.1.2 e).p
    rw [passF_p, passF_p]
    exact this
/-! the least of the rows -/
theorem best_least (l : List (List Int)) (h : l ≠ []) : bestR l ∈ l ∧ ∀ x ∈ l, rowLe (bestR l) x := by
  have hp : 0 < l.length := List.length_pos_iff.mpr h
  have key : ∀ k, k < l.length → PySem.argBest (MK.lessB (fun i => ((l.getD i []).length : Int)) (fun i => l.getD i [])) k < l.length ∧ ∀ i, i ≤ k → rowLe (l.getD (PySem.argBest (MK.lessB (fun i => ((l.getD i []).length : Int)) (fun i => l.getD i [])) k) []) (l.getD i []) := fun k => by
    induction k with
    | zero => exact fun hk => ⟨hk, fun i hi => by have : i = 0 := by omega
                                                  subst this; exact rowLe_refl _⟩
    | succ k ih =>
      intro hk
      obtain ⟨h1, h2⟩ := ih (by omega)
      have e : PySem.argBest (MK.lessB (fun i => ((l.getD i []).length : Int)) (fun i => l.getD i [])) (k + 1) = if rowLt (l.getD (k + 1) []) (l.getD (PySem.argBest (MK.lessB (fun i => ((l.getD i []).length : Int)) (fun i => l.getD i [])) k) []) = true then k + 1 else PySem.argBest (MK.lessB (fun i => ((l.getD i []).length : Int)) (fun i => l.getD i [])) k := rfl
      rw [e]
      split
      · rename_i c
        refine ⟨hk, fun i hi => ?_⟩
        by_cases z : i = k + 1
        · subst z
          exact rowLe_refl _
        · exact rowLe_trans (rowLt_asym c) (h2 i (by omega))
      · rename_i c
        refine ⟨h1, fun i hi => ?_⟩
        by_cases z : i = k + 1
        · subst z
          unfold rowLe
          simpa using c
        · exact h2 i (by omega)
  obtain ⟨h1, h2⟩ := key (l.length - 1) (by omega)
  refine ⟨?_, fun x hx => ?_⟩
  · unfold bestR bestI
    rw [List.getD_eq_getElem?_getD, List.getElem?_eq_getElem h1]
    exact List.getElem_mem h1
  · obtain ⟨i, hi, rfl⟩ := List.mem_iff_getElem.mp hx
    have := h2 i (by omega)
    rw [List.getD_eq_getElem?_getD (i := i), List.getElem?_eq_getElem hi] at this
    exact this
/-! ### the first row that parts two rules -/
def Live (f g : Fg) (ds : List Int) (e : Int) : Prop := ∀ e1, 0 ≤ e1 → e1 ≤ e → unl f g (cut ds e1) e1 = false ∧ chgB f (cf f (cut ds e1) e1) e1 = true
structure At (f g : Fg) (e : Int) (m : Rows2) : Prop where
  e0 : 0 ≤ e
  nd : Nd m
  rows : ∀ q ∈ m, RowTo q.2 (e - 1) ∧ q.1 = pairAt f g q.2 (e - 1) ∧ (q.2.length : Int) ≤ sumP q.1
  chg : e = 0 ∨ ∀ q ∈ m, chgB f q.1.1 (e - 1) = true
  has : ∀ ds, RowTo ds (e - 1) → Live f g ds (e - 1) → Has m (pairAt f g ds (e - 1)) ds
  alike : ∀ ds e1, 0 ≤ e1 → e1 < e → RowTo ds e1 → unl f g ds e1 = false
/-- r is what parted promises -/
def IsFirst (f g : Fg) : Option (List Int × Int) → Prop
  | none => ∀ ds e, 0 ≤ e → RowTo ds e → unl f g ds e = false
  | some (d, e) => 0 ≤ e ∧ e ≤ 81 ∧ RowTo d e ∧ unl f g d e = true ∧ d.length ≤ 6 ∧ ∀ d1 e1, 0 ≤ e1 → RowTo d1 e1 → unl f g d1 e1 = true → e < e1 ∨ (e = e1 ∧ rowLe d d1)
section
variable {f g : Fg} (F : Few f) (G : Few g) {e : Int} {m : Rows2}
include F G
theorem not_live (I : At f g e m) {ds : List Int} {e1 : Int} (h : RowTo ds e1) (he : e ≤ e1 + 1) (n : ¬ Live f g (cut ds (e - 1)) (e - 1)) : unl f g ds e1 = false := by
  obtain ⟨x, hx⟩ := Classical.not_forall.mp n
  obtain ⟨x0, hx⟩ := Classical.not_imp.mp hx
  obtain ⟨x1, hx⟩ := Classical.not_imp.mp hx
  rw [cut_cut x1] at hx
  have hu := I.alike (cut ds x) x x0 (by omega) (cut_row h)
  have hc : chgB f (cf f (cut ds x) x) x = false := by
    cases c : chgB f (cf f (cut ds x) x) x with
    | false => rfl
    | true => exact absurd ⟨hu, c⟩ hx
  exact stays_alike F G h (by omega) hu hc
theorem pair_next {ds : List Int} {k : Nat} (h : ∀ d ∈ ds, d < e) : pairAt f g (ds ++ List.replicate k e) e = payNB f g e k (passBoth f g e (pairAt f g ds (e - 1))) := by
  have a := Int.le_trans (by decide : (0 : Int) ≤ 1) F.s0
  have b := Int.le_trans (by decide : (0 : Int) ≤ 1) G.s0
  rw [payNB_eq]
  show (cf f _ e, cf g _ e) = _
  rw [cf_next a F.g0 F.m0 h, cf_next b G.g0 G.m0 h]
  rfl
theorem row_next {ds : List Int} {k : Nat} (e0 : 0 ≤ e) (h : RowTo ds (e - 1)) : RowTo (ds ++ List.replicate k e) e := by
  refine ⟨List.pairwise_append.mpr ⟨h.1, List.pairwise_replicate.mpr (.inr (Int.le_refl e)), fun a ha b hb => ?_⟩, fun d hd => ?_⟩
  · have := (h.2 a ha).2
    rw [List.eq_of_mem_replicate hb]
    omega
  · rcases List.mem_append.mp hd with z | z
    · have := h.2 d z
      exact ⟨this.1, by omega⟩
    · rw [List.eq_of_mem_replicate z]
      exact ⟨e0, Int.le_refl e⟩
theorem table_rows (I : At f g e m) : ∀ q ∈ byEnd f g e m, RowTo q.2 e ∧ q.1 = pairAt f g q.2 e ∧ (q.2.length : Int) ≤ sumP q.1 := fun q hq => by
  have hl := byEnd_len (f := f) (g := g) (e := e) (fun q hq => (I.rows q hq).2.2) q hq
  obtain ⟨q0, hq0, j, hj, eq⟩ := (byEnd_all (f := f) (g := g) (e := e) m).2.1 q hq
  obtain ⟨h1, h2, _⟩ := I.rows q0 hq0
  refine ⟨?_, ?_, hl⟩
  · rw [eq]
    exact row_next F G I.e0 h1
  · rw [eq, h2]
    exact (pair_next F G fun d hd => by have := (h1.2 d hd).2; omega).symm
theorem table_has (I : At f g e m) {ds : List Int} (h : RowTo ds e) (lv : Live f g (cut ds (e - 1)) (e - 1)) : Has (byEnd f g e m) (pairAt f g ds e) ds := by
  have hc := cut_row (e1 := e - 1) h
  obtain ⟨q0, hq0, k0, l0⟩ := I.has _ hc lv
  obtain ⟨k, hk⟩ := cut_rep h
  have lt : ∀ d ∈ cut ds (e - 1), d < e := fun d hd => by have := (hc.2 d hd).2; omega
  have hp : pairAt f g ds e = payNB f g e k (passBoth f g e q0.1) := by
    rw [k0]
    conv => lhs; rw [hk]
    exact pair_next F G lt
  by_cases c : k ≤ mostP f g
  · obtain ⟨q, hq, k1, l1⟩ := (byEnd_all (f := f) (g := g) (e := e) m).2.2 q0 hq0 k c
    refine ⟨q, hq, k1.trans hp.symm, rowLe_trans l1 ?_⟩
    conv => rhs; rw [hk]
    exact rowLe_app _ l0
  · obtain ⟨q, hq, k1, l1⟩ := (byEnd_all (f := f) (g := g) (e := e) m).2.2 q0 hq0 (mostP f g) (Nat.le_refl _)
    have b1 := b_pass (e := e) F (b_cf F hc)
    have b2 := b_pass (e := e) G (b_cf G hc)
    have he : payNB f g e k (passBoth f g e q0.1) = payNB f g e (mostP f g) (passBoth f g e q0.1) := by
      rw [k0]
      exact payNB_end b1.p0 b1.lt b2.p0 b2.lt (by omega)
    refine ⟨q, hq, k1.trans (he.symm.trans hp.symm), rowLe_trans l1 (rowLe_trans (rowLe_app _ l0) ?_)⟩
    conv => rhs; rw [hk]
    refine rowLe_len ?_
    rw [List.length_append, List.length_append, List.length_replicate, List.length_replicate]
    omega
theorem unlR_mem {R : Rows2} {q : Pr2 × List Int} (h : q ∈ R) (hu : unlB f g e q.1 = true) : q.2 ∈ unlR f g e R := List.mem_map.mpr ⟨q, List.mem_filter.mpr ⟨h, by simpa using hu⟩, rfl⟩
theorem step_ok (I : At f g e m) : StepOk f g e m := by
  have f3 := F.p1
  have g3 := G.p1
  refine ⟨fun q hq => ?_, fun q hq => ?_, ?_, fun q hq => ?_, ?_⟩
  · obtain ⟨h1, h2, _⟩ := I.rows q hq
    have b1 := b_cf F h1
    have b2 := b_cf G h1
    rw [h2]
    refine ⟨b1.m1, b2.m1, fun i _ => ?_⟩
    rw [payNB_eq]
    exact ⟨b_cap F (b_payN F I.e0 (b_pass F b1) (up_pass b1.m1) i), b_cap G (b_payN G I.e0 (b_pass G b2) (up_pass b2.m1) i)⟩
  · obtain ⟨h1, h2, h3⟩ := I.rows q hq
    have b1 := (b_cf F h1).p1
    have b2 := (b_cf G h1).p1
    rw [h2] at h3
    have h3 : (q.2.length : Int) ≤ (cf f q.2 (e - 1)).p + (cf g q.2 (e - 1)).p := h3
    omega
  · unfold mostP
    omega
  · obtain ⟨h1, h2, _⟩ := table_rows F G I q hq
    have b1 := b_cf F h1
    have b2 := b_cf G h1
    rw [h2]
    exact ⟨⟨b1.p0, b1.lt⟩, b2.p0, b2.lt⟩
  · refine ⟨(byEnd_all m).1, fun q hq => ?_⟩
    obtain ⟨h1, h2, _⟩ := table_rows F G I q hq
    rw [h2]
    exact ⟨b_cap F (b_cf F h1), b_cap G (b_cf G h1)⟩
theorem found (I : At f g e m) (h : ¬ (unlR f g e (byEnd f g e m)).isEmpty = true) (he : e ≤ 81) : IsFirst f g (some (bestR (unlR f g e (byEnd f g e m)), e)) := by
  obtain ⟨h1, h2⟩ := best_least (unlR f g e (byEnd f g e m)) fun z => h (List.isEmpty_iff.mpr z)
  obtain ⟨q, hq, eq⟩ := List.mem_map.mp h1
  obtain ⟨hqR, hqu⟩ := List.mem_filter.mp hq
  obtain ⟨r1, r2, r3⟩ := table_rows F G I q hqR
  have h2 : ∀ x ∈ unlR f g e (byEnd f g e m), rowLe q.2 x := by
    rw [eq]
    exact h2
  rw [← eq]
  have f3 := F.p1
  have g3 := G.p1
  refine ⟨I.e0, he, r1, ?_, ?_, fun d1 e1 p0 hr hu => ?_⟩
  · have : unlB f g e q.1 = true := by simpa using hqu
    rw [r2] at this
    exact this
  · have b1 := (b_cf F r1).p1
    have b2 := (b_cf G r1).p1
    rw [r2] at r3
    have r3 : (q.2.length : Int) ≤ (cf f q.2 e).p + (cf g q.2 e).p := r3
    omega
  · rcases Int.lt_trichotomy e e1 with c | c | c
    · exact .inl c
    · subst c
      refine .inr ⟨rfl, ?_⟩
      by_cases lv : Live f g (cut d1 (e - 1)) (e - 1)
      · obtain ⟨q1, hq1, k1, l1⟩ := table_has F G I hr lv
        have : unlB f g e q1.1 = true := by
          rw [k1]
          exact hu
        exact rowLe_trans (h2 q1.2 (unlR_mem F G hq1 this)) l1
      · rw [not_live F G I hr (by omega) lv] at hu
        cases hu
    · rw [I.alike d1 e1 p0 c hr] at hu
      cases hu
theorem go_on (I : At f g e m) (h : (unlR f g e (byEnd f g e m)).isEmpty = true) : At f g (e + 1) (goOn f e (byEnd f g e m)) := by
  have e1 : e + 1 - 1 = e := by omega
  have hal : ∀ ds, RowTo ds e → unl f g ds e = false := fun ds hr => by
    by_cases lv : Live f g (cut ds (e - 1)) (e - 1)
    · obtain ⟨q1, hq1, k1, l1⟩ := table_has F G I hr lv
      cases c : unlB f g e q1.1 with
      | false =>
        rw [k1] at c
        exact c
      | true =>
        have := unlR_mem F G hq1 c
        rw [List.isEmpty_iff.mp h] at this
        cases this
    · exact not_live F G I hr (by omega) lv
  refine ⟨by have := I.e0; omega, ((byEnd_all m).1).sublist (List.filter_sublist.map _), ?_, .inr ?_, ?_, fun ds e2 h0 hlt hr => ?_⟩
  · rw [e1]
    exact fun q hq => table_rows F G I q (List.mem_filter.mp hq).1
  · rw [e1]
    exact fun q hq => by simpa using (List.mem_filter.mp hq).2
  · rw [e1]
    intro ds hr lv
    have lv1 : Live f g (cut ds (e - 1)) (e - 1) := fun x x0 x1 => by
      rw [cut_cut x1]
      exact lv x x0 (by omega)
    obtain ⟨q1, hq1, k1, l1⟩ := table_has F G I hr lv1
    refine ⟨q1, List.mem_filter.mpr ⟨hq1, ?_⟩, k1, l1⟩
    have h2 := (lv e I.e0 (Int.le_refl e)).2
    rw [cut_all fun d hd => (hr.2 d hd).2] at h2
    rw [k1]
    exact h2
  · by_cases c : e2 = e
    · subst c
      exact hal ds hr
    · exact I.alike ds e2 h0 (by omega) hr
theorem none_left (I : At f g e m) (h : m.isEmpty = true) : IsFirst f g none := fun ds e1 h0 hr => by
  by_cases c : e1 < e
  · exact I.alike ds e1 h0 c hr
  · refine not_live F G I hr (by omega) fun lv => ?_
    obtain ⟨q, hq, _⟩ := I.has _ (cut_row hr) lv
    rw [List.isEmpty_iff.mp h] at hq
    cases hq
theorem all_found : ∀ (n : Nat) (e : Int) (m : Rows2), At f g e m → (82 - e).toNat ≤ n → Fit f g n e m ∧ ∃ res, partM f g n e m = some res ∧ IsFirst f g res
  | 0, e, m, I, hn => by
    have hm : m.isEmpty = true := by
      rcases I.chg with z | z
      · omega
      · refine List.isEmpty_iff.mpr (List.eq_nil_iff_forall_not_mem.mpr fun q hq => ?_)
        obtain ⟨h1, h2, _⟩ := I.rows q hq
        have := z q hq
        rw [h2] at this
        have := late_chg F h1 this
        omega
    refine ⟨hm, none, ?_, none_left F G I hm⟩
    show (if m.isEmpty = true then some none else none) = _
    rw [if_pos hm]
  | n + 1, e, m, I, hn => by
    by_cases hm : m.isEmpty = true
    · refine ⟨.inl hm, none, ?_, none_left F G I hm⟩
      show (if m.isEmpty = true then some none else _) = _
      rw [if_pos hm]
    · have he : e ≤ 81 := by
        rcases I.chg with z | z
        · omega
        · obtain ⟨q, hq⟩ := List.exists_mem_of_ne_nil m fun y => hm (List.isEmpty_iff.mpr y)
          obtain ⟨h1, h2, _⟩ := I.rows q hq
          have := z q hq
          rw [h2] at this
          have := late_chg F h1 this
          omega
      by_cases hu : (unlR f g e (byEnd f g e m)).isEmpty = true
      · obtain ⟨h1, res, h2, h3⟩ := all_found n (e + 1) (goOn f e (byEnd f g e m)) (go_on F G I hu) (by omega)
        refine ⟨.inr ⟨step_ok F G I, fun _ => h1⟩, res, ?_, h3⟩
        show (if m.isEmpty = true then some none else if (unlR f g e (byEnd f g e m)).isEmpty = true then _ else _) = _
        rw [if_neg hm, if_pos hu]
        exact h2
      · refine ⟨.inr ⟨step_ok F G I, fun z => absurd z hu⟩, some (bestR (unlR f g e (byEnd f g e m)), e), ?_, found F G I hu he⟩
        show (if m.isEmpty = true then some none else if (unlR f g e (byEnd f g e m)).isEmpty = true then _ else _) = _
        rw [if_neg hm, if_neg hu]
theorem at_first : At f g 0 row0 := by
  have hc : ∀ {h : Fg}, Few h → cf h [] (0 - 1) = cs0 := fun {h} H => up_of (f := h) (c := cs0) fun _ => by have := H.g0; show (0 : Int) - 1 ≤ 0 + h.g; omega
  have hp : pairAt f g [] (0 - 1) = (cs0, cs0) := by
    unfold pairAt
    rw [hc F, hc G]
  have none_ : ∀ ds, RowTo ds (0 - 1) → ds = [] := fun ds h => List.eq_nil_iff_forall_not_mem.mpr fun d hd => by
    have := h.2 d hd
    omega
  refine ⟨Int.le_refl 0, List.nodup_cons.mpr ⟨List.not_mem_nil, List.nodup_nil⟩, fun q hq => ?_, .inl rfl, fun ds h _ => ?_, fun ds e1 h0 h1 => by omega⟩
  · rw [List.mem_singleton.mp hq]
    exact ⟨⟨List.Pairwise.nil, fun d hd => nomatch hd⟩, hp.symm, by decide⟩
  · rw [none_ ds h, hp]
    exact ⟨_, List.mem_singleton.mpr rfl, rfl, rowLe_refl _⟩
theorem first_found : ∃ res, Fit f g 82 0 row0 ∧ partM f g 82 0 row0 = some res ∧ IsFirst f g res := by
  obtain ⟨h1, res, h2, h3⟩ := all_found F G 82 0 row0 (at_first F G) (by decide)
  exact ⟨res, h1, h2, h3⟩
end
/-- only one can be first -/
theorem first_one {f g : Fg} {r1 r2 : Option (List Int × Int)} (h1 : IsFirst f g r1) (h2 : IsFirst f g r2) : r1 = r2 := by
  cases r1 with
  | none =>
    cases r2 with
    | none => rfl
    | some p =>
      obtain ⟨d, e⟩ := p
      obtain ⟨e0, _, hr, hu, _⟩ := h2
      rw [h1 d e e0 hr] at hu
      cases hu
  | some p =>
    obtain ⟨d, e⟩ := p
    obtain ⟨e0, _, hr, hu, _, hm⟩ := h1
    cases r2 with
    | none =>
      rw [h2 d e e0 hr] at hu
      cases hu
    | some p2 =>
      obtain ⟨d2, e2⟩ := p2
      obtain ⟨e02, _, hr2, hu2, _, hm2⟩ := h2
      rcases hm d2 e2 e02 hr2 hu2 with a | ⟨a, l1⟩ <;> rcases hm2 d e e0 hr hu with b | ⟨b, l2⟩
      · omega
      · omega
      · omega
      · rw [a, rowLe_anti l1 l2]
/-! ### _law_stand -/
abbrev s__law_stand : Stmt := topS 39
abbrev N__law_stand : List Str := ["_law_figures_here", "_law_days_here", "_law_end", "_law_parts", "_law_step", "_law_grace", "_law_last", "_law_misses", "_law_due", "_law_paid", "_law_missed", "_law_day", "_law_one"]
theorem sc__law_stand : FnScope N__law_stand ["_law_figures_here", "_law_days_here", "_law_end"] (defScope s__law_stand) := ⟨rfl, rfl, rfl, by decide +kernel, rfl, by decide +kernel, by decide +kernel⟩
def sp__law_stand (K : PySem.W.Frag) : Sp := fun vs H Q _ => ∃ (t a : Addr) (e : Int) (f : Fg) (kv : V) (kd : PyData) (ds : List Int), vs = [.ref t, .ref a, .int e] ∧ Drawn K H t f kv kd ∧ SqL K H a (ds.map V.int) ∧ Rise ds ∧ (∀ d ∈ ds, 0 ≤ d) ∧ 0 ≤ e ∧ e < 100000 ∧ ∀ H' b, Same H H' → StAt K H' b (courseT f.p f.s f.g f.l f.m ds e) → Q (.ref b) H'
theorem ok__law_stand {f : Addr} {fd : FuncData} (F : Fun K "_law_stand" "_law_stand" s__law_stand f fd) (g : mg "_law_stand" = some (.ref f)) (bd : Binds K fd ["_law_figures_here", "_law_days_here", "_law_end"] []) (m_range : mg "range" = none) : CF P w K mg base 1 "_law_stand" ["_law_figures_here", "_law_days_here", "_law_end"] (sp__law_stand K) := by
  refine ⟨f, fd, F.ok sc__law_stand (fun vs H Q E h => ?_) (fun cdv A outer s H vs Q E hr h => ?_), g, F.kp, bd⟩
  · first | (obtain ⟨_, rfl, _⟩ := h; rfl) | (obtain ⟨_, _, rfl, _⟩ := h; rfl) | (obtain ⟨_, _, _, rfl, _⟩ := h; rfl) | (obtain ⟨_, _, _, _, rfl, _⟩ := h; rfl) | (obtain ⟨_, _, _, _, _, rfl, _⟩ := h; rfl) | (obtain ⟨_, _, _, _, _, _, rfl, _⟩ := h; rfl) | (obtain ⟨_, _, _, _, _, _, _, rfl, _⟩ := h; rfl) | (obtain ⟨_, _, _, _, _, _, _, _, rfl, _⟩ := h; rfl) | (obtain ⟨_, _, _, _, _, _, _, _, _, rfl, _⟩ := h; rfl) | (obtain ⟨_, _, _, _, _, _, _, _, _, _, rfl, _⟩ := h; rfl) | (obtain ⟨_, _, _, _, _, _, _, _, _, _, _, rfl, _⟩ := h; rfl) | (obtain ⟨_, _, _, _, _, _, _, _, _, _, _, _, rfl, _⟩ := h; rfl) | (obtain ⟨_, _, _, _, _, _, _, _, _, _, _, _, _, rfl, _⟩ := h; rfl) | (obtain ⟨_, _, _, _, _, _, _, _, _, _, _, _, _, _, rfl, _⟩ := h; rfl) | (obtain ⟨_, _, _, _, _, _, _, _, _, _, _, _, _, _, _, rfl, _⟩ := h; rfl)
  · have hu64 := hr.units
    obtain ⟨t, a, e, f', kv, kd, ds, rfl, hD, hS, hrise, hpos, e0, e1, q⟩ := h
    refine ⟨_, (pss_cons (ps_asg (pe_slice (kk_slt K) (pv 0) po_none (po_some pe_int)) (pg_tup (by rfl) (pgs_cons (pg_name (i := 3) sc__law_stand.nd rfl (.inl rfl)) (pgs_cons (pg_name (i := 4) sc__law_stand.nd rfl (.inl rfl)) (pgs_cons (pg_name (i := 5) sc__law_stand.nd rfl (.inl rfl)) (pgs_cons (pg_name (i := 6) sc__law_stand.nd rfl (.inl rfl)) (pgs_cons (pg_name (i := 7) sc__law_stand.nd rfl (.inl rfl)) pgs_nil)))))))
      (pss_cons (ps_asg (pe_tup (pa_cons pe_int (pa_cons pe_int (pa_cons pe_int pa_nil)))) (pg_tup (by rfl) (pgs_cons (pg_name (i := 8) sc__law_stand.nd rfl (.inl rfl)) (pgs_cons (pg_name (i := 9) sc__law_stand.nd rfl (.inl rfl)) (pgs_cons (pg_name (i := 10) sc__law_stand.nd rfl (.inl rfl)) pgs_nil)))))
      (pss_cons (ps_for PassesOwn.never rfl (pi_range1 (by rfl) m_range (pa_cons (pe_op op_add (pv 2) pe_int) pa_nil)) (pg_name (i := 11) sc__law_stand.nd rfl (.inl rfl))
         (pss_cons (ps_if (pt_cmpR op_eq (pv 11) (pe_op op_add (pe_op op_add (pv 8) (pv 5)) pe_int) (nomark _))
             (pss_cons (ps_if (pt_cmpR op_eq (pv 10) (pv 7) (nomark _))
                 (pss_one (ps_ret (pe_tup (pa_cons pe_str (pa_cons (pv 11) (pa_cons (pv 9) (pa_cons (pv 10) pa_nil)))))))
                 pss_nil)
              (pss_one (ps_par (i := 8) (j := 10) (by rfl) sc__law_stand.nd rfl rfl (by decide) rfl rfl (pa_cons (pe_op op_add (pv 8) (pv 4)) (pa_cons (pe_op op_add (pv 10) pe_int) pa_nil)) (by rfl))))
             pss_nil)
          (pss_one (ps_for PassesOwn.never rfl (pi_list (pv 1)) (pg_name (i := 12) sc__law_stand.nd rfl (.inl rfl))
             (pss_one (ps_if (pt_cmpR op_eq (pv 12) (pv 11) (nomark _))
                 (pss_cons (ps_par (i := 8) (j := 9) (by rfl) sc__law_stand.nd rfl rfl (by decide) rfl rfl (pa_cons (pe_op op_add (pe_ifExp (pt_val (pv 6)) (pv 11) (pv 8)) (pv 4)) (pa_cons (pe_op op_add (pv 9) pe_int) pa_nil)) (by rfl))
                  (pss_one (ps_if (pt_cmpR op_eq (pv 9) (pv 3) (nomark _))
                     (pss_one (ps_ret (pe_tup (pa_cons pe_str (pa_cons (pv 11) (pa_cons (pv 9) (pa_cons (pv 10) pa_nil)))))))
                     pss_nil)))
                 pss_nil))))))
      (pss_one (ps_ret (pe_tup (pa_cons pe_str (pa_cons (pv 8) (pa_cons (pv 9) (pa_cons (pv 10) pa_nil)))))))))), ?_⟩
    have ok := hD.ok
    have p0 := ok.figs.p0
    have s0 := ok.figs.s0
    have g0 := ok.figs.g0
    have m0 := ok.figs.m0
    refine ⟨_, rfl, _, rfl, t, _, rfl, hD.1, (by show ¬ (HT.sIx 9 0 none = 0 ∧ HT.sIx 9 9 (some 5) = 9); decide), fun u nu => ?_⟩
    refine ⟨u, _, rfl, SqT.of upd_same, rfl, _, _, rfl, _, _, rfl, _, _, rfl, _, _, rfl, _, _, rfl, rfl, ?_⟩
    have sG := same_new (o := .tup (cutV [V.int f'.p, .int f'.s, .int f'.g, .bl f'.l, .int f'.m, kv, .int f'.fi, .int f'.fa, .int f'.ba] none (some 5))) nu
    generalize upd H u (.tup (cutV [V.int f'.p, .int f'.s, .int f'.g, .bl f'.l, .int f'.m, kv, .int f'.fi, .int f'.fa, .int f'.ba] none (some 5))) = G at *
    refine ⟨(by show 3 ≤ sizeLine; decide), fun v nv => ?_⟩
    refine ⟨v, _, rfl, SqT.of upd_same, rfl, _, _, rfl, _, _, rfl, _, _, rfl, rfl, ?_⟩
    have sV := sG.trans (same_new (o := .tup [.int 0, .int 0, .int 0]) nv)
    generalize upd G v (.tup [.int 0, .int 0, .int 0]) = G2 at *
    have hS2 := sV.seq hS
    have all0 : ds.filter (fun d => decide ((((0 : Nat) : Int)) ≤ d)) = ds := List.filter_eq_self.mpr fun d hd => decide_eq_true (hpos d hd)
    refine ⟨_, rfl, _, _, rfl, rfl, _, rfl, by omega, by omega, for_range (fun D σ H' => ∃ (x pd m : Int) (s11 s12 : Option V), σ = [some (.ref t), some (.ref a), some (.int e), some (.int f'.p), some (.int f'.s), some (.int f'.g), some (.bl f'.l), some (.int f'.m), some (.int x), some (.int pd), some (.int m), s11, s12] ∧ H' = G2 ∧ m ≤ f'.m ∧ (D : Int) ≤ x + f'.g + 1 ∧ remT f'.p f'.s f'.g f'.l f'.m e (ds.filter (fun d => decide ((D : Int) ≤ d))) ⟨.st, x, pd, m⟩ = courseT f'.p f'.s f'.g f'.l f'.m ds e) ⟨0, 0, 0, _, _, rfl, rfl, m0, by omega, by rw [all0]; rfl⟩ (fun D σ H' hDn h => ?_) (fun σ H' h => ?_)⟩
    · obtain ⟨x, pd, m, s11, s12, rfl, rfl, hm, hx, hrem⟩ := h
      rw [Int.zero_add]
      have hDe : (D : Int) ≤ e := by omega
      have hge : ∀ d ∈ ds.filter (fun d => decide ((D : Int) ≤ d)), (D : Int) ≤ d := fun d hd => of_decide_eq_true (List.mem_filter.mp hd).2
      have loop : ∀ (x m : Int), m ≤ f'.m → (D : Int) ≤ x + f'.g → remT f'.p f'.s f'.g f'.l f'.m e (ds.filter (fun d => decide ((D : Int) ≤ d))) ⟨.st, x, pd, m⟩ = courseT f'.p f'.s f'.g f'.l f'.m ds e → ∀ (E0 : Ends), (∀ (x pd m : Int) (s12 : Option V), m ≤ f'.m → ((D + 1 : Nat) : Int) ≤ x + f'.g + 1 → remT f'.p f'.s f'.g f'.l f'.m e (ds.filter (fun d => decide (((D + 1 : Nat) : Int) ≤ d))) ⟨.st, x, pd, m⟩ = courseT f'.p f'.s f'.g f'.l f'.m ds e → E0.nx [some (.ref t), some (.ref a), some (.int e), some (.int f'.p), some (.int f'.s), some (.int f'.g), some (.bl f'.l), some (.int f'.m), some (.int x), some (.int pd), some (.int m), some (.int D), s12] H') → (∀ b H2, Same H' H2 → StAt K H2 b (courseT f'.p f'.s f'.g f'.l f'.m ds e) → E0.rt (.ref b) H2) →
          tFor (iList K (tVar 1)) (gName 12) (tIfS (tTest (tOp rEq (tVar 12) (tVar 11)))
            (tSeq (tPar 8 9 (tCons (tOp (rI0 fun i j => V.int (i + j)) (tIf (tB (tVar 6)) (tVar 11) (tVar 8)) (tVar 4)) (tCons (tOp (rI0 fun i j => V.int (i + j)) (tVar 9) (tC (V.int 1))) tNil)))
              (tIfS (tTest (tOp rEq (tVar 9) (tVar 3))) (tRet (tTup (tCons (tC (V.str (Str.ofString "sold"))) (tCons (tVar 11) (tCons (tVar 9) (tCons (tVar 10) tNil)))))) tNext)) tNext) E0
            [some (.ref t), some (.ref a), some (.int e), some (.int f'.p), some (.int f'.s), some (.int f'.g), some (.bl f'.l), some (.int f'.m), some (.int x), some (.int pd), some (.int m), some (.int D), s12] H' := fun x m hm hx hrem E0 hnx hrt => by
        refine ⟨_, rfl, a, rfl, ⟨_, hS2⟩, for_list (K := K) (a := a) (xs := ds.map V.int) (fun i σ H2 => ∃ (x pd m : Int) (s12 : Option V), σ = [some (.ref t), some (.ref a), some (.int e), some (.int f'.p), some (.int f'.s), some (.int f'.g), some (.bl f'.l), some (.int f'.m), some (.int x), some (.int pd), some (.int m), some (.int D), s12] ∧ H2 = H' ∧ m ≤ f'.m ∧ (D : Int) ≤ x + f'.g ∧ remT f'.p f'.s f'.g f'.l f'.m e ((ds.drop i).filter (fun d => decide (d = (D : Int))) ++ ds.filter (fun d => decide ((D : Int) < d))) ⟨.st, x, pd, m⟩ = courseT f'.p f'.s f'.g f'.l f'.m ds e) ⟨x, pd, m, _, rfl, rfl, hm, hx, by rw [List.drop_zero, ← filt_eq hrise]; exact hrem⟩ (fun i σ H2 _ h => by obtain ⟨_, _, _, _, _, rfl, _⟩ := h; exact hS2) (fun i v σ H2 hv h => ?_) (fun σ H2 h => ?_)⟩
        · obtain ⟨x, pd, m, s12', rfl, rfl, hm, hx, hrem⟩ := h
          rw [List.getElem?_map] at hv
          obtain ⟨d, hd, rfl⟩ := Option.map_eq_some_iff.mp hv
          have hdr : ds.drop i = d :: ds.drop (i + 1) := by
            obtain ⟨hi, e⟩ := List.getElem?_eq_some_iff.mp hd
            rw [← e]
            exact List.drop_eq_getElem_cons hi
          rw [hdr] at hrem
          refine ⟨_, rfl, _, rfl, rfl, _, rfl, ite2 (fun z => ?_) (fun z => ?_)⟩
          · have z1 : d = (D : Int) := V.int.inj (of_decide_eq_true z)
            rw [List.filter_cons_of_pos (p := fun d => decide (d = (D : Int))) (decide_eq_true z1), List.cons_append, z1] at hrem
            have tail : ∀ dd : Int, dd = (if f'.l then (D : Int) else x) → ∀ E1 : Ends, (∀ σ2 H3, (∃ (x pd m : Int) (s12 : Option V), σ2 = [some (.ref t), some (.ref a), some (.int e), some (.int f'.p), some (.int f'.s), some (.int f'.g), some (.bl f'.l), some (.int f'.m), some (.int x), some (.int pd), some (.int m), some (.int D), s12] ∧ H3 = H2 ∧ m ≤ f'.m ∧ (D : Int) ≤ x + f'.g ∧ remT f'.p f'.s f'.g f'.l f'.m e ((ds.drop (i + 1)).filter (fun d => decide (d = (D : Int))) ++ ds.filter (fun d => decide ((D : Int) < d))) ⟨.st, x, pd, m⟩ = courseT f'.p f'.s f'.g f'.l f'.m ds e) → E1.nx σ2 H3) → (∀ b H2', Same H2 H2' → StAt K H2' b (courseT f'.p f'.s f'.g f'.l f'.m ds e) → E1.rt (.ref b) H2') → (tIfS (tTest (tOp rEq (tVar 9) (tVar 3))) (tRet (tTup (tCons (tC (V.str (Str.ofString "sold"))) (tCons (tVar 11) (tCons (tVar 9) (tCons (tVar 10) tNil)))))) tNext) E1 [some (.ref t), some (.ref a), some (.int e), some (.int f'.p), some (.int f'.s), some (.int f'.g), some (.bl f'.l), some (.int f'.m), some (.int (dd + f'.s)), some (.int (pd + 1)), some (.int m), some (.int D), some (.int d)] H2 := fun dd hdd E1 h1 h2 => by
              refine ⟨_, rfl, _, rfl, rfl, _, rfl, ite2 (fun w => ?_) (fun w => ?_)⟩
              · have w1 : pd + 1 = f'.p := V.int.inj (of_decide_eq_true w)
                refine ⟨_, rfl, _, rfl, _, rfl, (by show 4 ≤ sizeLine; decide), fun u2 nu2 => h2 _ _ (same_new nu2) ?_⟩
                rw [← hrem, rem_sold hx hDe w1]
                exact SqT.of upd_same
              · have w1 : pd + 1 ≠ f'.p := fun y => w (decide_eq_true (by rw [y]))
                refine h1 _ _ ⟨dd + f'.s, pd + 1, m, _, rfl, rfl, hm, ?_, ?_⟩
                · rw [hdd]
                  split <;> omega
                · rw [← hrem, rem_paid hx hDe w1, hdd]
            refine ⟨_, rfl, _, rfl, ?_⟩
            cases hl : f'.l with
            | true =>
              refine iteT ⟨_, rfl, _, rfl, _, _, rfl, rfl, _, rfl, _, _, rfl, rfl, _, _, rfl, ?_⟩
              exact hl ▸ tail D (by rw [hl]; rfl) _ (fun _ _ h => hl ▸ h) hrt
            | false =>
              refine iteF ⟨_, rfl, _, rfl, _, _, rfl, rfl, _, rfl, _, _, rfl, rfl, _, _, rfl, ?_⟩
              exact hl ▸ tail x (by rw [hl]; rfl) _ (fun _ _ h => hl ▸ h) hrt
          · have z1 : d ≠ (D : Int) := fun y => z (decide_eq_true (by rw [y]))
            rw [List.filter_cons_of_neg (p := fun d => decide (d = (D : Int))) (fun y => z1 (of_decide_eq_true y))] at hrem
            exact ⟨x, pd, m, _, rfl, rfl, hm, hx, hrem⟩
        · obtain ⟨x, pd, m, s12', rfl, rfl, hm, hx, hrem⟩ := h
          rw [List.length_map, List.drop_eq_nil_of_le (Nat.le_refl _), List.filter_nil, List.nil_append, filt_next] at hrem
          exact hnx x pd m _ hm (by omega) hrem
      refine ⟨_, rfl, _, rfl, _, rfl, _, _, rfl, rfl, _, _, rfl, rfl, rfl, _, rfl, ite2 (fun z => ?_) (fun z => ?_)⟩
      · have z1 : (D : Int) = x + f'.g + 1 := V.int.inj (of_decide_eq_true z)
        refine ⟨_, rfl, _, rfl, rfl, _, rfl, ite2 (fun y => ?_) (fun y => ?_)⟩
        · have y1 : m = f'.m := V.int.inj (of_decide_eq_true y)
          refine ⟨_, rfl, _, rfl, _, rfl, (by show 4 ≤ sizeLine; decide), fun w nw => ?_⟩
          refine q _ w (sV.trans (same_new nw)) ?_
          rw [← hrem, y1, rem_gone (D := D) (by omega) hDe _ hge, ← z1]
          subst y1
          exact SqT.of upd_same
        · have y1 : m ≠ f'.m := fun y' => y (decide_eq_true (by rw [y']))
          refine ⟨_, rfl, _, rfl, _, _, rfl, rfl, _, rfl, _, _, rfl, rfl, _, _, rfl, ?_⟩
          exact loop (x + f'.s) (m + 1) (by omega) (by omega) (by rw [← hrem]; exact (rem_miss (D := D) (by omega) hDe (by omega) _ hge).symm) _ (fun x pd m s12 h1 h2 h3 => ⟨x, pd, m, _, _, rfl, rfl, h1, h2, h3⟩) (fun b H2 s2 h2 => q _ _ (sV.trans s2) h2)
      · have z1 : (D : Int) ≠ x + f'.g + 1 := fun y => z (decide_eq_true (by show V.int D = V.int (x + f'.g + 1); rw [y]))
        exact loop x m hm (by omega) hrem _ (fun x pd m s12 h1 h2 h3 => ⟨x, pd, m, _, _, rfl, rfl, h1, h2, h3⟩) (fun b H2 s2 h2 => q _ _ (sV.trans s2) h2)
    · obtain ⟨x, pd, m, s11, s12, rfl, rfl, hm, hx, hrem⟩ := h
      refine ⟨_, rfl, _, rfl, _, rfl, (by show 4 ≤ sizeLine; decide), fun w nw => ?_⟩
      refine q _ w (sV.trans (same_new nw)) ?_
      rw [← hrem, rem_end (by omega) _ (fun d hd => by have := of_decide_eq_true (List.mem_filter.mp hd).2; omega)]
      exact SqT.of upd_same
/-! ### _law_shown -/
abbrev s__law_shown : Stmt := topS 40
abbrev N__law_shown : List Str := ["_law_figures_here", "_law_days_here", "_law_end", "_law_word", "_law_day", "_law_paid", "_law_missed"]
theorem sc__law_shown : FnScope N__law_shown ["_law_figures_here", "_law_days_here", "_law_end"] (defScope s__law_shown) := ⟨rfl, rfl, rfl, by decide +kernel, rfl, by decide +kernel, by decide +kernel⟩
def sp__law_shown (K : PySem.W.Frag) : Sp := fun vs H Q _ => ∃ (t a ka : Addr) (e : Int) (f : Fg) (kd : PyData) (ds : List Int), vs = [.ref t, .ref a, .int e] ∧ Drawn K H t f (.ref ka) kd ∧ SqT K H ka (f.ks.map V.int) ∧ SqL K H a (ds.map V.int) ∧ Rise ds ∧ (∀ d ∈ ds, 0 ≤ d) ∧ 0 ≤ e ∧ e < 100000 ∧ ∀ H' b, Same H H' → H' b = some (.tup (shV f (courseT f.p f.s f.g f.l f.m ds e) e)) → Q (.ref b) H'
theorem ok__law_shown {f : Addr} {fd : FuncData} (F : Fun K "_law_shown" "_law_shown" s__law_shown f fd) (g : mg "_law_shown" = some (.ref f)) (bd : Binds K fd ["_law_figures_here", "_law_days_here", "_law_end"] []) (m_min : mg "min" = none) (C__law_stand : CF P w K mg base 1 "_law_stand" ["_law_figures_here", "_law_days_here", "_law_end"] (sp__law_stand K)) : CF P w K mg base 2 "_law_shown" ["_law_figures_here", "_law_days_here", "_law_end"] (sp__law_shown K) := by
  refine ⟨f, fd, F.ok sc__law_shown (fun vs H Q E h => ?_) (fun cdv A outer s H vs Q E hr h => ?_), g, F.kp, bd⟩
  · first | (obtain ⟨_, rfl, _⟩ := h; rfl) | (obtain ⟨_, _, rfl, _⟩ := h; rfl) | (obtain ⟨_, _, _, rfl, _⟩ := h; rfl) | (obtain ⟨_, _, _, _, rfl, _⟩ := h; rfl) | (obtain ⟨_, _, _, _, _, rfl, _⟩ := h; rfl) | (obtain ⟨_, _, _, _, _, _, rfl, _⟩ := h; rfl) | (obtain ⟨_, _, _, _, _, _, _, rfl, _⟩ := h; rfl) | (obtain ⟨_, _, _, _, _, _, _, _, rfl, _⟩ := h; rfl) | (obtain ⟨_, _, _, _, _, _, _, _, _, rfl, _⟩ := h; rfl) | (obtain ⟨_, _, _, _, _, _, _, _, _, _, rfl, _⟩ := h; rfl) | (obtain ⟨_, _, _, _, _, _, _, _, _, _, _, rfl, _⟩ := h; rfl) | (obtain ⟨_, _, _, _, _, _, _, _, _, _, _, _, rfl, _⟩ := h; rfl) | (obtain ⟨_, _, _, _, _, _, _, _, _, _, _, _, _, rfl, _⟩ := h; rfl) | (obtain ⟨_, _, _, _, _, _, _, _, _, _, _, _, _, _, rfl, _⟩ := h; rfl) | (obtain ⟨_, _, _, _, _, _, _, _, _, _, _, _, _, _, _, rfl, _⟩ := h; rfl)
  · have hu64 := hr.units
    obtain ⟨t, a, ka, e, f', kd, ds, rfl, hD, hka0, hS, hrise, hpos, e0, e1, q⟩ := h
    refine ⟨_, (pss_cons (ps_asg (pe_cf C__law_stand (hr.mono (by decide)) (by rfl) (pa_cons (pv 0) (pa_cons (pv 1) (pa_cons (pv 2) pa_nil)))) (pg_tup (by rfl) (pgs_cons (pg_name (i := 3) sc__law_shown.nd rfl (.inl rfl)) (pgs_cons (pg_name (i := 4) sc__law_shown.nd rfl (.inl rfl)) (pgs_cons (pg_name (i := 5) sc__law_shown.nd rfl (.inl rfl)) (pgs_cons (pg_name (i := 6) sc__law_shown.nd rfl (.inl rfl)) pgs_nil))))))
      (pss_cons (ps_if (pt_cmpR op_eq (pv 3) pe_str (nomark _))
         (pss_one (ps_ret (pe_tup (pa_cons pe_str (pa_cons (pe_ix (kk_ixt K) (pe_ix (kk_ixt K) (pv 0) pe_int (fun _ _ => rfl)) (pv 5) (fun _ _ => rfl)) (pa_cons (pe_cmpR op_le (pv 2) (pe_ix (kk_ixt K) (pv 0) pe_int (fun _ _ => rfl)) (nomark _)) pa_nil))))))
         pss_nil)
      (pss_cons (ps_if (pt_cmpR op_eq (pv 3) pe_str (nomark _))
         (pss_one (ps_ret (pe_tup (pa_cons pe_str (pa_cons (pe_callB (call_min2 rfl) (by rfl) m_min (by decide +kernel) (pa_cons pe_int (pa_cons (pe_op op_add (pe_ix (kk_ixt K) (pe_ix (kk_ixt K) (pv 0) pe_int (fun _ _ => rfl)) (pv 5) (fun _ _ => rfl)) (pe_ix (kk_ixt K) (pv 0) pe_int (fun _ _ => rfl))) pa_nil))) pa_nil)))))
         pss_nil)
      (pss_one (ps_ret (pe_tup (pa_cons pe_str (pa_cons (pe_cmpR op_le (pe_op op_sub (pv 2) (pv 4)) (pe_ix (kk_ixt K) (pv 0) pe_int (fun _ _ => rfl)) (nomark _)) pa_nil)))))))), ?_⟩
    have ok := hD.ok
    refine ⟨_, rfl, _, rfl, _, rfl, t, a, e, f', _, _, ds, rfl, hD, hS, hrise, hpos, e0, e1, fun H1 b1 s1 h1 => ?_⟩
    have hnu := course_nup (p := f'.p) (s := f'.s) (g := f'.g) (ms := f'.m) (e := e) (l := f'.l) ds
    have hp := course_in (s := f'.s) (g := f'.g) (ms := f'.m) (e := e) (l := f'.l) ds ok.figs.p0
    have hT := seqT_same s1 hD.1
    have hka := seqT_same s1 hka0
    generalize courseT f'.p f'.s f'.g f'.l f'.m ds e = c at *
    obtain ⟨p0, p1⟩ := hp
    refine ⟨b1, _, rfl, h1, rfl, _, _, rfl, _, _, rfl, _, _, rfl, _, _, rfl, rfl, ?_⟩
    refine ⟨_, rfl, rfl, _, rfl, ?_⟩
    rw [wS_st]
    unfold shV at q
    cases hw : c.w with
    | st =>
      rw [hw] at q p1
      have p2 := p1 (by intro z; cases z)
      exact iteT ⟨_, rfl, t, _, _, _, rfl, rfl, hT, rfl, _, rfl, ka, _, _, _, rfl, rfl, hka, kAt_atI ok p0 p2, _, rfl, _, rfl, t, _, _, _, rfl, rfl, hT, rfl, _, _, rfl, rfl, (by show 3 ≤ sizeLine; decide), fun w nw => q _ w (s1.trans (same_new nw)) upd_same⟩
    | go =>
      rw [hw] at q p1
      have p2 := p1 (by intro z; cases z)
      refine iteF ⟨_, rfl, rfl, _, rfl, ?_⟩
      rw [wS_go]
      exact iteT ⟨_, rfl, t, _, _, _, rfl, rfl, hT, rfl, _, rfl, ka, _, _, _, rfl, rfl, hka, kAt_atI ok p0 p2, _, rfl, t, _, _, _, rfl, rfl, hT, rfl, _, _, rfl, rfl, _, _, rfl, (by show 2 ≤ sizeLine; decide), fun w nw => q _ w (s1.trans (same_new nw)) upd_same⟩
    | so =>
      rw [hw] at q
      refine iteF ⟨_, rfl, rfl, _, rfl, ?_⟩
      rw [wS_go]
      exact iteF ⟨_, rfl, _, rfl, _, _, rfl, rfl, _, rfl, t, _, _, _, rfl, rfl, hT, rfl, _, _, rfl, rfl, (by show 2 ≤ sizeLine; decide), fun w nw => q _ w (s1.trans (same_new nw)) upd_same⟩
    | up => exact absurd hw hnu
/-! ### _law_same -/
abbrev s__law_same : Stmt := topS 35
abbrev N__law_same : List Str := ["_law_found", "_law_due", "_law_one", "_law_other"]
theorem sc__law_same : FnScope N__law_same ["_law_found", "_law_due"] (defScope s__law_same) := ⟨rfl, rfl, rfl, by decide +kernel, rfl, by decide +kernel, by decide +kernel⟩
def spr__law_same (K : PySem.W.Frag) : Nat → Sp
  | 0 => fun _ _ _ _ => False
  | n + 1 => fun vs H Q _ => ∃ (x y : V) (d : PyData), vs = [x, y] ∧ Dp K H x d ∧ Dp K H y d ∧ PyData.depth d ≤ n ∧ thin d = true ∧ ∀ H', Same H H' → Q (.bl true) H'
def sp__law_same (K : PySem.W.Frag) : Sp := spr__law_same K 5
theorem st__law_same (n : Nat) {f : Addr} {fd : FuncData} (F : Fun K "_law_same" "_law_same" s__law_same f fd) (g : mg "_law_same" = some (.ref f)) (bd : Binds K fd ["_law_found", "_law_due"] []) (m_isinstance : mg "isinstance" = none) (m_tuple : mg "tuple" = none) (m_list : mg "list" = none) (m_all : mg "all" = none) (m_zip : mg "zip" = none) (m_len : mg "len" = none) (m_str : mg "str" = none) (m_bool : mg "bool" = none) (m_int : mg "int" = none) (C__law_same : CF P w K mg base (1 + n) "_law_same" ["_law_found", "_law_due"] (spr__law_same K n)) : CF P w K mg base (1 + n + 1) "_law_same" ["_law_found", "_law_due"] (spr__law_same K (n + 1)) := by
  refine ⟨f, fd, F.ok sc__law_same (fun vs H Q E h => ?_) (fun cdv A outer s H vs Q E hr h => ?_), g, F.kp, bd⟩
  · first | (obtain ⟨_, rfl, _⟩ := h; rfl) | (obtain ⟨_, _, rfl, _⟩ := h; rfl) | (obtain ⟨_, _, _, rfl, _⟩ := h; rfl) | (obtain ⟨_, _, _, _, rfl, _⟩ := h; rfl) | (obtain ⟨_, _, _, _, _, rfl, _⟩ := h; rfl) | (obtain ⟨_, _, _, _, _, _, rfl, _⟩ := h; rfl) | (obtain ⟨_, _, _, _, _, _, _, rfl, _⟩ := h; rfl) | (obtain ⟨_, _, _, _, _, _, _, _, rfl, _⟩ := h; rfl) | (obtain ⟨_, _, _, _, _, _, _, _, _, rfl, _⟩ := h; rfl) | (obtain ⟨_, _, _, _, _, _, _, _, _, _, rfl, _⟩ := h; rfl) | (obtain ⟨_, _, _, _, _, _, _, _, _, _, _, rfl, _⟩ := h; rfl) | (obtain ⟨_, _, _, _, _, _, _, _, _, _, _, _, rfl, _⟩ := h; rfl) | (obtain ⟨_, _, _, _, _, _, _, _, _, _, _, _, _, rfl, _⟩ := h; rfl) | (obtain ⟨_, _, _, _, _, _, _, _, _, _, _, _, _, _, rfl, _⟩ := h; rfl) | (obtain ⟨_, _, _, _, _, _, _, _, _, _, _, _, _, _, _, rfl, _⟩ := h; rfl)
  · have hu64 := hr.units
    obtain ⟨x, y, d, rfl, hx, hy, hd, ht, q⟩ := h
    refine ⟨_, (pss_cons (ps_if (pt_val (pe_callB (kk_isiT K) (by rfl) m_isinstance (by decide +kernel) (pa_cons (pv 1) (pa_cons (pe_tup (pa_cons (pe_bltn (v := .ty "list") (by rfl) m_list (by decide +kernel) rfl) (pa_cons (pe_bltn (v := .ty "tuple") (by rfl) m_tuple (by decide +kernel) rfl) pa_nil))) pa_nil))))
         (pss_cons (ps_if (PW.pt (pw_or (pt_cmpR op_ne (pe_callB (kk_isi K) (by rfl) m_isinstance (by decide +kernel) (pa_cons (pv 0) (pa_cons (pe_bltn (v := .ty "list") (by rfl) m_list (by decide +kernel) rfl) pa_nil))) (pe_callB (kk_isi K) (by rfl) m_isinstance (by decide +kernel) (pa_cons (pv 1) (pa_cons (pe_bltn (v := .ty "list") (by rfl) m_list (by decide +kernel) rfl) pa_nil))) (nomark _)) (pw_or1 (pt_cmpR op_ne (pe_callB (kk_isi K) (by rfl) m_isinstance (by decide +kernel) (pa_cons (pv 0) (pa_cons (pe_bltn (v := .ty "tuple") (by rfl) m_tuple (by decide +kernel) rfl) pa_nil))) (pe_callB (kk_isi K) (by rfl) m_isinstance (by decide +kernel) (pa_cons (pv 1) (pa_cons (pe_bltn (v := .ty "tuple") (by rfl) m_tuple (by decide +kernel) rfl) pa_nil))) (nomark _)))))
             (pss_one (ps_ret pe_bl))
             pss_nil)
          (pss_one (ps_ret (pe_and (pe_cmpR op_eq (pe_callB (kk_len K) (by rfl) m_len PySem.boot_len (pa_cons (pv 0) pa_nil)) (pe_callB (kk_len K) (by rfl) m_len PySem.boot_len (pa_cons (pv 1) pa_nil)) (nomark _)) (pe_one (pe_callB (kk_all K rfl) (by rfl) m_all (by decide +kernel) (pa_cons (pe_lc (own := [("_law_one", 2), ("_law_other", 3)]) (g := (gTup K 2 (gCons (gName 2) (gCons (gName 3) gNil)))) (tt := tYes) rfl sc__law_same.nd (RZ.pi_zipA (by rfl) m_zip (pa_cons (pv 0) (pa_cons (pv 1) pa_nil))) (blkOk_by (own := [("_law_one", 2), ("_law_other", 3)]) (N := N__law_same) (sc := defScope s__law_same) (by decide +kernel)) (fun _ _ _ _ _ => (pg_tup (by rfl) (pgs_cons (pg_name (i := 2) sc__law_same.nd rfl (.inl rfl)) (pgs_cons (pg_name (i := 3) sc__law_same.nd rfl (.inl rfl)) pgs_nil)))) (fun _ _ _ _ _ => pts_nil) (fun _ _ _ _ _ => (pe_cf C__law_same hr (by rfl) (pa_cons (pv 2) (pa_cons (pv 3) pa_nil))))) pa_nil)))))))
         pss_nil)
      (pss_cons (ps_if (PW.pt (pw_or (pt_cmpR op_isN (pv 1) pe_non (nomark _)) (pw_or1 (pt_val (pe_callB (kk_isi K) (by rfl) m_isinstance (by decide +kernel) (pa_cons (pv 1) (pa_cons (pe_bltn (v := .ty "str") (by rfl) m_str (by decide +kernel) rfl) pa_nil)))))))
         (pss_one (ps_ret (pe_and (pe_cmpR op_eq (pv 0) (pv 1) (nomark _)) (pe_one (pe_cmpR op_eq (pe_callB (kk_isi K) (by rfl) m_isinstance (by decide +kernel) (pa_cons (pv 0) (pa_cons (pe_bltn (v := .ty "str") (by rfl) m_str (by decide +kernel) rfl) pa_nil))) (pe_callB (kk_isi K) (by rfl) m_isinstance (by decide +kernel) (pa_cons (pv 1) (pa_cons (pe_bltn (v := .ty "str") (by rfl) m_str (by decide +kernel) rfl) pa_nil))) (nomark _))))))
         pss_nil)
      (pss_cons (ps_if (pt_val (pe_callB (kk_isi K) (by rfl) m_isinstance (by decide +kernel) (pa_cons (pv 1) (pa_cons (pe_bltn (v := .ty "bool") (by rfl) m_bool (by decide +kernel) rfl) pa_nil))))
         (pss_one (ps_ret (pe_and (pe_callB (kk_isi K) (by rfl) m_isinstance (by decide +kernel) (pa_cons (pv 0) (pa_cons (pe_bltn (v := .ty "bool") (by rfl) m_bool (by decide +kernel) rfl) pa_nil))) (pe_one (pe_cmpR op_eq (pv 0) (pv 1) (nomark _))))))
         pss_nil)
      (pss_one (ps_ret (pe_and (pe_callB (kk_isi K) (by rfl) m_isinstance (by decide +kernel) (pa_cons (pv 0) (pa_cons (pe_bltn (v := .ty "int") (by rfl) m_int (by decide +kernel) rfl) pa_nil))) (pe_and (pe_not (pe_callB (kk_isi K) (by rfl) m_isinstance (by decide +kernel) (pa_cons (pv 0) (pa_cons (pe_bltn (v := .ty "bool") (by rfl) m_bool (by decide +kernel) rfl) pa_nil)))) (pe_one (pe_cmpR op_eq (pv 0) (pv 1) (nomark _)))))))))), ?_⟩
    refine ⟨_, rfl, (by show 2 ≤ sizeLine; decide), fun tp ntp => ⟨_, tp, _, _, _, _, rfl, upd_same, .cons (.ty _) (.cons (.ty _) .nil), ty_of_dp (dp_same (same_new ntp) hy), kitLT d, _, rfl, ?_⟩⟩
    have s1 := same_new (o := .tup [.ty "list", .ty "tuple"]) ntp
    have q1 := q _ s1
    have tx := ty_of_dp (dp_same s1 hx)
    have ty := ty_of_dp (dp_same s1 hy)
    cases hx with
    | non =>
      cases hy
      exact iteF ⟨_, rfl, rfl, _, rfl, iteT (iteT ⟨_, rfl, _, rfl, rfl, _, rfl, iteY rfl ⟨_, rfl, _, _, _, _, _, rfl, .ty _, tx, kit_d (T := "str") (by decide) _, _, rfl, _, _, _, _, _, rfl, .ty _, ty, kit_d (T := "str") (by decide) _, rfl, qY rfl q1⟩⟩)⟩
    | str z =>
      cases hy
      exact iteF ⟨_, rfl, rfl, _, rfl, iteF ⟨_, rfl, _, _, _, _, _, rfl, .ty _, ty, kit_d (T := "str") (by decide) _, _, rfl, iteT ⟨_, rfl, _, rfl, rfl, _, rfl, iteY rfl ⟨_, rfl, _, _, _, _, _, rfl, .ty _, tx, kit_d (T := "str") (by decide) _, _, rfl, _, _, _, _, _, rfl, .ty _, ty, kit_d (T := "str") (by decide) _, rfl, qY rfl q1⟩⟩⟩⟩
    | bl b =>
      cases hy
      exact iteF ⟨_, rfl, rfl, _, rfl, iteF ⟨_, rfl, _, _, _, _, _, rfl, .ty _, ty, kit_d (T := "str") (by decide) _, _, rfl, iteF ⟨_, rfl, _, _, _, _, _, rfl, .ty _, ty, kit_d (T := "bool") (by decide) _, _, rfl, iteT ⟨_, rfl, _, _, _, _, _, rfl, .ty _, tx, kit_d (T := "bool") (by decide) _, _, rfl, iteT ⟨_, rfl, _, rfl, rfl, qY rfl q1⟩⟩⟩⟩⟩
    | int i =>
      cases hy
      exact iteF ⟨_, rfl, rfl, _, rfl, iteF ⟨_, rfl, _, _, _, _, _, rfl, .ty _, ty, kit_d (T := "str") (by decide) _, _, rfl, iteF ⟨_, rfl, _, _, _, _, _, rfl, .ty _, ty, kit_d (T := "bool") (by decide) _, _, rfl, iteF ⟨_, rfl, _, _, _, _, _, rfl, .ty _, tx, kit_d (T := "int") (by decide) _, _, rfl, iteT ⟨_, rfl, _, _, _, _, _, rfl, .ty _, tx, kit_d (T := "bool") (by decide) _, _, rfl, _, rfl, iteT ⟨_, rfl, _, rfl, rfl, qY rfl q1⟩⟩⟩⟩⟩⟩
    | @lst a xs ds hS hA =>
      obtain ⟨m, rfl⟩ : ∃ m, n = m + 1 := ⟨n - 1, by simp only [PyData.depth] at hd; omega⟩
      cases hy with
      | @lst a2 ys _ hS2 hA2 =>
        have hlen : xs.length = ys.length := (dpAll_len hA).trans (dpAll_len hA2).symm
        simp only [thin, Bool.and_eq_true, decide_eq_true_eq] at ht
        obtain ⟨ht1, ht2⟩ := ht
        have hxl := dpAll_len hA
        refine iteT ⟨_, rfl, _, _, _, _, _, rfl, .ty _, tx, kit_d (T := "list") (by decide) _, _, rfl, _, _, _, _, _, rfl, .ty _, ty, kit_d (T := "list") (by decide) _, rfl, _, rfl, iteF ⟨_, rfl, _, _, _, _, _, rfl, .ty _, tx, kit_d (T := "tuple") (by decide) _, _, rfl, _, _, _, _, _, rfl, .ty _, ty, kit_d (T := "tuple") (by decide) _, rfl, _, rfl, iteF ?_⟩⟩
        refine ⟨_, rfl, a, _, rfl, .inl (s1.seq hS), _, rfl, a2, _, rfl, .inl (s1.seq hS2), rfl, _, rfl, iteY (by rw [hlen]) ?_⟩
        refine ⟨_, rfl, _, rfl, a, a2, _, _, rfl, .inl ⟨s1.seq hS, s1.seq hS2, fun D hD => lc_gen (n := xs.length) (fun i H' => Same (upd H tp (.tup [.ty "list", .ty "tuple"])) H' ∧ H' D = some (.lst ((List.replicate i true).map V.bl))) ⟨same_new hD, upd_same⟩ (fun i H' h => canL hlen ((s1.trans h.1).seq hS) ((s1.trans h.1).seq hS2)) (fun i H' v H'' hi h hyl => ?_) (fun H' h => ?_)⟩⟩
        · obtain ⟨T, x', y', rfl, hT, rfl, f1, f2⟩ := hyl
          obtain ⟨h1, h2⟩ := h
          have g1 := f1 xs ((s1.trans h1).seq hS)
          have g2 := f2 ys ((s1.trans h1).seq hS2)
          obtain ⟨d1, e1, p1⟩ := dpAll_get hA g1
          obtain ⟨d2, e2, p2⟩ := dpAll_get hA2 g2
          cases (Option.some.inj (e1.symm.trans e2))
          have sT := same_new (o := .tup [x', y']) hT
          have dd := depth_at e1
          simp only [PyData.depth] at hd
          refine ⟨T, _, rfl, SqT.of upd_same, rfl, _, _, rfl, _, _, rfl, rfl, rfl, _, rfl, _, rfl, x', y', d1, rfl, dp_same ((s1.trans h1).trans sT) p1, dp_same ((s1.trans h1).trans sT) p2, by omega, thin_at ht2 e1, fun H3 s3 => ?_⟩
          refine ⟨_, s3 _ _ (sT _ _ h2), ?_, ?_, ?_⟩
          · rw [List.length_map, List.length_replicate]
            exact small1000 (by omega)
          · exact fun c o e => by
              rw [upd_ne (ne_of_none e hD)]
              exact s3 _ _ (sT _ _ (h1 _ _ e))
          · rw [upd_same, rep_snoc]
        · obtain ⟨h1, h2⟩ := h
          refine ⟨D, _, rfl, SqL.of h2, ?_⟩
          rw [all_true]
          exact q _ (s1.trans h1)
    | @tup a xs ds hS hA =>
      obtain ⟨m, rfl⟩ : ∃ m, n = m + 1 := ⟨n - 1, by simp only [PyData.depth] at hd; omega⟩
      cases hy with
      | @tup a2 ys _ hS2 hA2 =>
        have hlen : xs.length = ys.length := (dpAll_len hA).trans (dpAll_len hA2).symm
        simp only [thin, Bool.and_eq_true, decide_eq_true_eq] at ht
        obtain ⟨ht1, ht2⟩ := ht
        have hxl := dpAll_len hA
        refine iteT ⟨_, rfl, _, _, _, _, _, rfl, .ty _, tx, kit_d (T := "list") (by decide) _, _, rfl, _, _, _, _, _, rfl, .ty _, ty, kit_d (T := "list") (by decide) _, rfl, _, rfl, iteF ⟨_, rfl, _, _, _, _, _, rfl, .ty _, tx, kit_d (T := "tuple") (by decide) _, _, rfl, _, _, _, _, _, rfl, .ty _, ty, kit_d (T := "tuple") (by decide) _, rfl, _, rfl, iteF ?_⟩⟩
        refine ⟨_, rfl, a, _, rfl, .inr (seqT_same s1 hS), _, rfl, a2, _, rfl, .inr (seqT_same s1 hS2), rfl, _, rfl, iteY (by rw [hlen]) ?_⟩
        refine ⟨_, rfl, _, rfl, a, a2, _, _, rfl, .inr ⟨seqT_same s1 hS, seqT_same s1 hS2, fun D hD => lc_gen (n := xs.length) (fun i H' => Same (upd H tp (.tup [.ty "list", .ty "tuple"])) H' ∧ H' D = some (.lst ((List.replicate i true).map V.bl))) ⟨same_new hD, upd_same⟩ (fun i H' h => canT hlen (seqT_same (s1.trans h.1) hS) (seqT_same (s1.trans h.1) hS2)) (fun i H' v H'' hi h hyl => ?_) (fun H' h => ?_)⟩⟩
        · obtain ⟨T, x', y', rfl, hT, rfl, f1, f2⟩ := hyl
          obtain ⟨h1, h2⟩ := h
          have g1 := f1 xs (seqT_same (s1.trans h1) hS)
          have g2 := f2 ys (seqT_same (s1.trans h1) hS2)
          obtain ⟨d1, e1, p1⟩ := dpAll_get hA g1
          obtain ⟨d2, e2, p2⟩ := dpAll_get hA2 g2
          cases (Option.some.inj (e1.symm.trans e2))
          have sT := same_new (o := .tup [x', y']) hT
          have dd := depth_at e1
          simp only [PyData.depth] at hd
          refine ⟨T, _, rfl, SqT.of upd_same, rfl, _, _, rfl, _, _, rfl, rfl, rfl, _, rfl, _, rfl, x', y', d1, rfl, dp_same ((s1.trans h1).trans sT) p1, dp_same ((s1.trans h1).trans sT) p2, by omega, thin_at ht2 e1, fun H3 s3 => ?_⟩
          refine ⟨_, s3 _ _ (sT _ _ h2), ?_, ?_, ?_⟩
          · rw [List.length_map, List.length_replicate]
            exact small1000 (by omega)
          · exact fun c o e => by
              rw [upd_ne (ne_of_none e hD)]
              exact s3 _ _ (sT _ _ (h1 _ _ e))
          · rw [upd_same, rep_snoc]
        · obtain ⟨h1, h2⟩ := h
          refine ⟨D, _, rfl, SqL.of h2, ?_⟩
          rw [all_true]
          exact q _ (s1.trans h1)
theorem ok__law_same {f : Addr} {fd : FuncData} (F : Fun K "_law_same" "_law_same" s__law_same f fd) (g : mg "_law_same" = some (.ref f)) (bd : Binds K fd ["_law_found", "_law_due"] []) (m_isinstance : mg "isinstance" = none) (m_tuple : mg "tuple" = none) (m_list : mg "list" = none) (m_all : mg "all" = none) (m_zip : mg "zip" = none) (m_len : mg "len" = none) (m_str : mg "str" = none) (m_bool : mg "bool" = none) (m_int : mg "int" = none) : CF P w K mg base (6) "_law_same" ["_law_found", "_law_due"] (sp__law_same K) := by
  have all : ∀ n, CF P w K mg base (1 + n) "_law_same" ["_law_found", "_law_due"] (spr__law_same K n) := fun n => by
    induction n with
    | zero => exact ⟨f, fd, F.ok (k := 0) sc__law_same (fun vs H Q E h => h.elim) (fun cdv A outer s H vs Q E hr h => h.elim), g, F.kp, bd⟩
    | succ n ih => exact st__law_same n F g bd m_isinstance m_tuple m_list m_all m_zip m_len m_str m_bool m_int ih
  exact all 5
/-! ### _law_days -/
abbrev s__law_days : Stmt := topS 41
abbrev N__law_days : List Str := ["_law_left", "_law_most", "_law_many", "_law_found", "_law_day", "_law_turn"]
theorem sc__law_days : FnScope N__law_days ["_law_left", "_law_most", "_law_many"] (defScope s__law_days) := ⟨rfl, rfl, rfl, by decide +kernel, rfl, by decide +kernel, by decide +kernel⟩
theorem rep_b (b : Bool) (x : V) : (List.replicate (if b = true then (1 : Int) else 0).toNat [x]).flatten = if b = true then [x] else [] := by cases b <;> rfl
def sp__law_days (K : PySem.W.Frag) : Sp := fun vs H Q _ => ∃ (b : Addr) (most many n : Int), vs = [.ref b, .int most, .int many] ∧ Tri H b n ∧ n < 1000000 ∧ 0 ≤ most ∧ most ≤ 400 ∧ 0 ≤ many ∧ many ≤ 40 ∧
  ∀ H' D ds, Tri H' b (n + 3 + 3 * many) → But b H H' → H D = none → D ≠ b → H' D = some (.lst (ds.map V.int)) → (ds.length : Int) ≤ many → Rise ds → (∀ d ∈ ds, 0 ≤ d ∧ d ≤ most) → Q (.ref D) H'
theorem ok__law_days {f : Addr} {fd : FuncData} (F : Fun K "_law_days" "_law_days" s__law_days f fd) (g : mg "_law_days" = some (.ref f)) (bd : Binds K fd ["_law_left", "_law_most", "_law_many"] []) (m_range : mg "range" = none) (m_int : mg "int" = none) (C__law_pick : CF P w K mg base 2 "_law_pick" ["_law_left", "_law_many"] (sp__law_pick K)) : CF P w K mg base 3 "_law_days" ["_law_left", "_law_most", "_law_many"] (sp__law_days K) := by
  refine ⟨f, fd, F.ok sc__law_days (fun vs H Q E h => ?_) (fun cdv A outer s H vs Q E hr h => ?_), g, F.kp, bd⟩
  · first | (obtain ⟨_, rfl, _⟩ := h; rfl) | (obtain ⟨_, _, rfl, _⟩ := h; rfl) | (obtain ⟨_, _, _, rfl, _⟩ := h; rfl) | (obtain ⟨_, _, _, _, rfl, _⟩ := h; rfl) | (obtain ⟨_, _, _, _, _, rfl, _⟩ := h; rfl) | (obtain ⟨_, _, _, _, _, _, rfl, _⟩ := h; rfl) | (obtain ⟨_, _, _, _, _, _, _, rfl, _⟩ := h; rfl) | (obtain ⟨_, _, _, _, _, _, _, _, rfl, _⟩ := h; rfl) | (obtain ⟨_, _, _, _, _, _, _, _, _, rfl, _⟩ := h; rfl) | (obtain ⟨_, _, _, _, _, _, _, _, _, _, rfl, _⟩ := h; rfl) | (obtain ⟨_, _, _, _, _, _, _, _, _, _, _, rfl, _⟩ := h; rfl) | (obtain ⟨_, _, _, _, _, _, _, _, _, _, _, _, rfl, _⟩ := h; rfl) | (obtain ⟨_, _, _, _, _, _, _, _, _, _, _, _, _, rfl, _⟩ := h; rfl) | (obtain ⟨_, _, _, _, _, _, _, _, _, _, _, _, _, _, rfl, _⟩ := h; rfl) | (obtain ⟨_, _, _, _, _, _, _, _, _, _, _, _, _, _, _, rfl, _⟩ := h; rfl)
  · have hu64 := hr.units
    obtain ⟨b, most, many, n, rfl, hb, hn, ms0, ms1, m0, m1, q⟩ := h
    refine ⟨_, (pss_cons (ps_par (i := 3) (j := 4) (by rfl) sc__law_days.nd rfl rfl (by decide) rfl rfl (pa_cons (pe_lst pa_nil) (pa_cons (pe_ix (kk_ixl K) (pe_lst (pa_cons pe_int (pa_cons pe_int (pa_cons (pe_cf C__law_pick (hr.mono (by decide)) (by rfl) (pa_cons (pv 0) (pa_cons (pe_op op_add (pv 1) pe_int) pa_nil))) pa_nil)))) (pe_cf C__law_pick (hr.mono (by decide)) (by rfl) (pa_cons (pv 0) (pa_cons pe_int pa_nil))) (fun _ _ => rfl)) pa_nil)) (by rfl))
      (pss_cons (ps_for PassesOwn.never rfl (pi_range1 (by rfl) m_range (pa_cons (pe_cf C__law_pick (hr.mono (by decide)) (by rfl) (pa_cons (pv 0) (pa_cons (pe_op op_add (pv 2) pe_int) pa_nil))) pa_nil)) (pg_name (i := 5) sc__law_days.nd rfl (.inl rfl))
         (pss_cons (ps_set (i := 4) sc__law_days.nd rfl (.inl rfl) (pe_op op_add (pv 4) (pe_ix (kk_ixl K) (pe_lst (pa_cons pe_int (pa_cons (pe_cf C__law_pick (hr.mono (by decide)) (by rfl) (pa_cons (pv 0) (pa_cons pe_int pa_nil))) (pa_cons (pe_cf C__law_pick (hr.mono (by decide)) (by rfl) (pa_cons (pv 0) (pa_cons pe_int pa_nil))) pa_nil)))) (pe_cf C__law_pick (hr.mono (by decide)) (by rfl) (pa_cons (pv 0) (pa_cons pe_int pa_nil))) (fun _ _ => rfl))))
          (pss_one (ps_set (i := 3) sc__law_days.nd rfl (.inl rfl) (pe_op op_cat (pv 3) (pe_op op_rep (pe_lst (pa_cons (pv 4) pa_nil)) (pe_callTy call_int1 (by rfl) m_int (by decide +kernel) (pa_cons (pe_cmpR op_le (pv 4) (pv 1) (nomark _)) pa_nil))))))))
      (pss_one (ps_ret (pv 3))))), ?_⟩
    refine ⟨(by show 0 ≤ sizeLine; decide), fun D0 nD0 => ?_⟩
    have s0 := same_new (o := .lst []) nD0
    have nDb0 := hb.ne nD0
    have hD0 := upd_same (H := H) (a := D0) (o := .lst [])
    have b0 := hb.same s0
    generalize upd H D0 (.lst []) = G0 at *
    refine ⟨_, rfl, _, rfl, _, _, rfl, rfl, b, most + 1, _, rfl, b0, by omega, by omega, by omega, fun y1 H1 y10 y11 b1 t1 => ⟨(by show 3 ≤ sizeLine; decide), fun l1 n1 => ⟨_, rfl, b, 3, _, rfl, b1.new n1, by decide, by decide, by omega, fun r1 H2 r10 r11 b2 t2 => ?_⟩⟩⟩
    obtain ⟨day0, hd0, d00, d01⟩ := pick3i (lo := 0) (hi := 400) (x := 0) (y := 0) (z := y1) r10 r11 (by omega) (by omega) (by omega)
    refine ⟨l1, _, _, _, rfl, rfl, SqL.of (t2 _ _ (b1.ne n1) upd_same), hd0, _, _, rfl, ?_⟩
    have hD2 := t2 _ _ nDb0 (same_new (o := .lst [.int 0, .int 0, .int y1]) n1 _ _ (t1 _ _ nDb0 hD0))
    have T2 := (((But.of (b := b) s0).trans t1).trans (But.new (b := b) (o := .lst [.int 0, .int 0, .int y1]) n1)).trans t2
    refine ⟨_, rfl, _, rfl, _, _, rfl, rfl, b, many + 1, _, rfl, b2, by omega, by omega, by omega, fun r H3 r0 r1' b3 t3 => ⟨_, rfl, by omega, by omega, for_range (fun i σ H' => ∃ (D : Addr) (day : Int) (ds : List Int) (s5 : Option V), σ = [some (.ref b), some (.int most), some (.int many), some (.ref D), some (.int day), s5] ∧ 0 ≤ day ∧ H D = none ∧ D ≠ b ∧ H' D = some (.lst (ds.map V.int)) ∧ ds.length ≤ i ∧ Rise ds ∧ (∀ d ∈ ds, 0 ≤ d ∧ d ≤ most ∧ d ≤ day) ∧ Tri H' b (n + 3 + 3 * i) ∧ But b H H') ⟨D0, day0, [], _, rfl, d00, nD0, nDb0, t3 _ _ nDb0 hD2, Nat.le_refl _, .nil, fun _ h => (nomatch h), b3.mono (by omega), T2.trans t3⟩ (fun i σ H' hi h => ?_) (fun σ H' h => ?_)⟩⟩
    · obtain ⟨D, day, ds, s5, rfl, hday, nD, nDb, hD, hlen, hr, hbd, bI, tI⟩ := h
      refine ⟨_, rfl, _, rfl, b, 3, _, rfl, bI, by decide, by decide, by omega, fun x1 J1 x10 x11 c1 u1 => ?_⟩
      refine ⟨_, rfl, b, 8, _, rfl, c1, by decide, by decide, by omega, fun x2 J2 x20 x21 c2 u2 => ⟨(by show 3 ≤ sizeLine; decide), fun l nl => ⟨_, rfl, b, 3, _, rfl, c2.new nl, by decide, by decide, by omega, fun x3 J3 x30 x31 c3 u3 => ?_⟩⟩⟩
      obtain ⟨c, hc, c0, c1'⟩ := pick3i (lo := 0) (hi := 7) (x := 0) (y := x1) (z := x2) x30 x31 (by omega) (by omega) (by omega)
      refine ⟨l, _, _, _, rfl, rfl, SqL.of (u3 _ _ (c2.ne nl) upd_same), hc, _, _, rfl, rfl, ?_⟩
      have hD3 := u3 _ _ nDb (same_new (o := .lst [.int 0, .int x1, .int x2]) nl _ _ (u2 _ _ nDb (u1 _ _ nDb hD)))
      have T3 := (((tI.trans u1).trans u2).trans (But.new (b := b) (o := .lst [.int 0, .int x1, .int x2]) nl)).trans u3
      refine ⟨_, rfl, _, rfl, (by show 1 ≤ sizeLine; decide), fun l2 nl2 => ?_⟩
      refine ⟨_, rfl, _, rfl, _, _, rfl, rfl, .inr ⟨_, rfl, l2, _, _, rfl, rfl, upd_same, by split <;> decide, by split <;> decide, ?_, fun l3 nl3 => ?_⟩⟩
      · split
        · show 1 * 1 ≤ sizeLine
          decide
        · show 1 * 0 ≤ sizeLine
          decide
      rw [rep_b]
      have sA := (same_new (o := .lst [.int (day + c)]) nl2).trans (same_new (o := .lst (if decide (day + c ≤ most) = true then [V.int (day + c)] else [])) nl3)
      refine ⟨D, l3, _, _, rfl, rfl, sA _ _ hD3, upd_same, ?_, fun D' nD' => ?_⟩
      · rw [List.length_map]
        refine Nat.le_of_lt (Nat.lt_of_le_of_lt ?_ (small1000 (n := i + 1) (by omega)))
        split
        · exact Nat.add_le_add_right hlen 1
        · exact Nat.le_succ_of_le hlen
      have c4 := (c3.same sA)
      have T4 := T3.trans (But.of (b := b) sA)
      have nDb' := c4.ne nD'
      have n0 : H D' = none := by
        cases e : H D' with
        | none => rfl
        | some o =>
          rw [T4 _ _ nDb' e] at nD'
          cases nD'
      refine ⟨D', day + c, ds ++ (if decide (day + c ≤ most) = true then [day + c] else []), _, rfl, by omega, n0, nDb', ?_, ?_, ?_, ?_, (c4.new nD').mono (by omega), T4.trans (But.new nD')⟩
      · rw [upd_same, List.map_append]
        split <;> rfl
      · rw [List.length_append]
        split
        · exact Nat.add_le_add_right hlen 1
        · exact Nat.le_succ_of_le hlen
      · refine List.pairwise_append.mpr ⟨hr, by split <;> simp, fun u hu v hv => ?_⟩
        have h1 := hbd u hu
        split at hv
        · rw [List.mem_singleton.mp hv]
          omega
        · cases hv
      · intro u hu
        rcases List.mem_append.mp hu with h | h
        · have := hbd u h
          omega
        · split at h
          · rename_i z
            have := of_decide_eq_true z
            rw [List.mem_singleton.mp h]
            omega
          · cases h
    · obtain ⟨D, day, ds, s5, rfl, hday, nD, nDb, hD, hlen, hr, hbd, bI, tI⟩ := h
      exact ⟨_, rfl, q _ D ds (bI.mono (by omega)) tI nD nDb hD (by omega) hr fun d hd => by have := hbd d hd; omega⟩
/-! ### is_row_to -/
abbrev s_is_row_to : Stmt := topS 19
abbrev N_is_row_to : List Str := ["days", "end", "day"]
theorem sc_is_row_to : FnScope N_is_row_to ["days", "end"] (defScope s_is_row_to) := ⟨rfl, rfl, rfl, by decide +kernel, rfl, by decide +kernel, by decide +kernel⟩
def sp_is_row_to (K : PySem.W.Frag) : Sp := fun vs H Q _ => ∃ (a : Addr) (e : Int) (ds : List Int), vs = [.ref a, .int e] ∧ H a = some (.lst (ds.map V.int)) ∧ ds.length ≤ 40 ∧ RowTo ds e ∧ ∀ H', Same H H' → Q (.bl true) H'
theorem ok_is_row_to {f : Addr} {fd : FuncData} (F : Fun K "is_row_to" "is_row_to" s_is_row_to f fd) (g : mg "is_row_to" = some (.ref f)) (bd : Binds K fd ["days", "end"] []) (m_len : mg "len" = none) (m_isinstance : mg "isinstance" = none) (m_list : mg "list" = none) (m_sorted : mg "sorted" = none) (m_all : mg "all" = none) {t_MOST_DAYS : Tok} (g_MOST_DAYS : mg "MOST_DAYS" = some (.int 40 t_MOST_DAYS)) (C_is_number_in : CF P w K mg base 1 "is_number_in" ["thing", "low", "high"] (sp_is_number_in K)) : CF P w K mg base 2 "is_row_to" ["days", "end"] (sp_is_row_to K) := by
  refine ⟨f, fd, F.ok sc_is_row_to (fun vs H Q E h => ?_) (fun cdv A outer s H vs Q E hr h => ?_), g, F.kp, bd⟩
  · first | (obtain ⟨_, rfl, _⟩ := h; rfl) | (obtain ⟨_, _, rfl, _⟩ := h; rfl) | (obtain ⟨_, _, _, rfl, _⟩ := h; rfl) | (obtain ⟨_, _, _, _, rfl, _⟩ := h; rfl) | (obtain ⟨_, _, _, _, _, rfl, _⟩ := h; rfl) | (obtain ⟨_, _, _, _, _, _, rfl, _⟩ := h; rfl) | (obtain ⟨_, _, _, _, _, _, _, rfl, _⟩ := h; rfl) | (obtain ⟨_, _, _, _, _, _, _, _, rfl, _⟩ := h; rfl) | (obtain ⟨_, _, _, _, _, _, _, _, _, rfl, _⟩ := h; rfl) | (obtain ⟨_, _, _, _, _, _, _, _, _, _, rfl, _⟩ := h; rfl) | (obtain ⟨_, _, _, _, _, _, _, _, _, _, _, rfl, _⟩ := h; rfl) | (obtain ⟨_, _, _, _, _, _, _, _, _, _, _, _, rfl, _⟩ := h; rfl) | (obtain ⟨_, _, _, _, _, _, _, _, _, _, _, _, _, rfl, _⟩ := h; rfl) | (obtain ⟨_, _, _, _, _, _, _, _, _, _, _, _, _, _, rfl, _⟩ := h; rfl) | (obtain ⟨_, _, _, _, _, _, _, _, _, _, _, _, _, _, _, rfl, _⟩ := h; rfl)
  · have hu64 := hr.units
    obtain ⟨a, e, ds, rfl, ha, hl, hr', q⟩ := h
    refine ⟨_, (pss_cons (ps_if (PW.pt (pw_or (pt_not (pt_val (pe_callB (kk_isi K) (by rfl) m_isinstance (by decide +kernel) (pa_cons (pv 0) (pa_cons (pe_bltn (v := .ty "list") (by rfl) m_list (by decide +kernel) rfl) pa_nil))))) (pw_or1 (pt_cmpR op_gt (pe_callB (kk_len K) (by rfl) m_len PySem.boot_len (pa_cons (pv 0) pa_nil)) (pe_glob (v := .int 40) (by rfl) g_MOST_DAYS ⟨_, rfl⟩) (nomark _)))))
         (pss_one (ps_ret pe_bl))
         pss_nil)
      (pss_one (ps_ret (pe_and (pe_callB (kk_all K rfl) (by rfl) m_all (by decide +kernel) (pa_cons (pe_lc (own := [("day", 2)]) (g := (gName 2)) (tt := tYes) rfl sc_is_row_to.nd (pi_list (pv 0)) (blkOk_by (own := [("day", 2)]) (N := N_is_row_to) (sc := defScope s_is_row_to) (by decide +kernel)) (fun _ _ _ _ _ => pg_name (i := 2) sc_is_row_to.nd rfl (Or.inl rfl)) (fun _ _ _ _ _ => pts_nil) (fun _ _ _ _ _ => (pe_cf C_is_number_in (hr.mono (by decide)) (by rfl) (pa_cons (pv 2) (pa_cons pe_int (pa_cons (pv 1) pa_nil)))))) pa_nil)) (pe_one (pe_cmpR (kk_eqD K hu64) (pv 0) (pe_callB (kk_sorted K) (by rfl) m_sorted (by decide +kernel) (pa_cons (pv 0) pa_nil)) (nomark _))))))), ?_⟩
    have dA : Dp K H (.ref a) (.list (ds.map PyData.int)) := dp_ints (SqL.of ha)
    refine ⟨_, rfl, _, _, _, _, _, rfl, .ty _, ty_of_dp dA, kit_d (by decide) _, _, rfl, ?_⟩
    have hlm : ¬ (40 : Int) < ((ds.map V.int).length : Int) := by
      rw [List.length_map]
      omega
    refine iteF ⟨_, rfl, a, _, rfl, .inl (SqL.of ha), _, _, rfl, rfl, _, rfl, ite2 (fun z => absurd (of_decide_eq_true z) hlm) fun _ => ?_⟩
    have lz : ds.length < sizeLine := by
      rw [sizeLine_eq]
      omega
    refine ⟨_, rfl, a, rfl, ⟨ds.map V.int, SqL.of ha⟩, fun D nD => lc_list (fun i G => Same H G ∧ G D = some (.lst (List.replicate i (V.bl true)))) ⟨same_new nD, upd_same⟩ (fun i G _ h => SqL.of (h.1 _ _ ha)) (fun i x G hx h => ?_) fun G h => ?_⟩
    · obtain ⟨s1, g1⟩ := h
      rw [List.getElem?_map] at hx
      obtain ⟨d, hd, rfl⟩ := Option.map_eq_some_iff.mp hx
      have hi : i < ds.length := (List.getElem?_eq_some_iff.mp hd).1
      have hb := hr'.2 d (List.mem_of_getElem? hd)
      have e1 : numIn (.int d) 0 e = true := by
        show (decide (0 ≤ d) && decide (d ≤ e)) = true
        rw [decide_eq_true hb.1, decide_eq_true hb.2]
        rfl
      refine ⟨rfl, _, rfl, _, rfl, _, .int d, 0, e, rfl, .int _, ?_⟩
      rw [e1]
      refine ⟨_, g1, by rw [List.length_replicate]; omega, fun b o h => ?_, ?_⟩
      · rw [upd_ne (ne_of_none h nD)]
        exact s1 _ _ h
      · rw [upd_same, List.replicate_succ']
    · obtain ⟨s1, g1⟩ := h
      rw [List.length_map] at g1
      have eall : (List.replicate ds.length true).all id = true := List.all_eq_true.mpr fun x hx => by rw [List.eq_of_mem_replicate hx]; rfl
      refine ⟨D, List.replicate ds.length true, rfl, SqL.of (by rw [g1, List.map_replicate]), true, by rw [eall], iteT ?_⟩
      refine ⟨_, rfl, _, rfl, a, ds, rfl, SqL.of (s1 _ _ ha), by omega, fun ns' p hp hs np => ?_⟩
      have e1 : ns' = ds := hp.eq_of_pairwise (fun a b _ _ h1 h2 => by omega) hs hr'.1
      subst e1
      have s2 := same_new (o := .lst (ns'.map V.int)) np
      refine ⟨_, _, dp_ints (SqL.of (s2 _ _ (s1 _ _ ha))), dp_ints (SqL.of upd_same), ?_, ?_, ?_⟩
      · exact sh_ints _
      · exact sh_ints _
      · rw [eqv_same]
        exact q _ (s1.trans s2)
/-! ### shows_parted -/
abbrev s_shows_parted : Stmt := topS 18
abbrev N_shows_parted : List Str := ["one", "other", "thing", "days", "end"]
theorem sc_shows_parted : FnScope N_shows_parted ["one", "other", "thing"] (defScope s_shows_parted) := ⟨rfl, rfl, rfl, by decide +kernel, rfl, by decide +kernel, by decide +kernel⟩
def sp_shows_parted (K : PySem.W.Frag) (C : Addr) : Sp := fun vs H Q _ => ∃ (r1 r2 t a : Addr) (e : Int) (f1 f2 : Fg) (ds : List Int), vs = [.ref r1, .ref r2, .ref t] ∧ RuleAt K H C r1 f1 ∧ f1.Ok ∧ RuleAt K H C r2 f2 ∧ f2.Ok ∧ H t = some (.tup [.ref a, .int e]) ∧ H a = some (.lst (ds.map V.int)) ∧ ds.length ≤ 40 ∧ RowTo ds e ∧ 0 ≤ e ∧ e ≤ 400 ∧ ∀ H', Same H H' → Q (.bl (unl f1 f2 ds e)) H'
theorem ok_shows_parted {f : Addr} {fd : FuncData} (F : Fun K "shows_parted" "shows_parted" s_shows_parted f fd) (g : mg "shows_parted" = some (.ref f)) (bd : Binds K fd ["one", "other", "thing"] []) {CR : Addr} (TQ : TEq K mg CR "Rule") (T_Rule : TRule K mg CR) (m_len : mg "len" = none) (m_isinstance : mg "isinstance" = none) (m_tuple : mg "tuple" = none) {t_LAST_DAY : Tok} (g_LAST_DAY : mg "LAST_DAY" = some (.int 400 t_LAST_DAY)) (C_is_row_to : CF P w K mg base 2 "is_row_to" ["days", "end"] (sp_is_row_to K)) (C_is_number_in : CF P w K mg base 1 "is_number_in" ["thing", "low", "high"] (sp_is_number_in K)) (C_shown : CF P w K mg base 5 "shown" ["rule", "days", "end"] (sp_shown K CR)) : CF P w K mg base 6 "shows_parted" ["one", "other", "thing"] (sp_shows_parted K CR) := by
  refine ⟨f, fd, F.ok sc_shows_parted (fun vs H Q E h => ?_) (fun cdv A outer s H vs Q E hr h => ?_), g, F.kp, bd⟩
  · first | (obtain ⟨_, rfl, _⟩ := h; rfl) | (obtain ⟨_, _, rfl, _⟩ := h; rfl) | (obtain ⟨_, _, _, rfl, _⟩ := h; rfl) | (obtain ⟨_, _, _, _, rfl, _⟩ := h; rfl) | (obtain ⟨_, _, _, _, _, rfl, _⟩ := h; rfl) | (obtain ⟨_, _, _, _, _, _, rfl, _⟩ := h; rfl) | (obtain ⟨_, _, _, _, _, _, _, rfl, _⟩ := h; rfl) | (obtain ⟨_, _, _, _, _, _, _, _, rfl, _⟩ := h; rfl) | (obtain ⟨_, _, _, _, _, _, _, _, _, rfl, _⟩ := h; rfl) | (obtain ⟨_, _, _, _, _, _, _, _, _, _, rfl, _⟩ := h; rfl) | (obtain ⟨_, _, _, _, _, _, _, _, _, _, _, rfl, _⟩ := h; rfl) | (obtain ⟨_, _, _, _, _, _, _, _, _, _, _, _, rfl, _⟩ := h; rfl) | (obtain ⟨_, _, _, _, _, _, _, _, _, _, _, _, _, rfl, _⟩ := h; rfl) | (obtain ⟨_, _, _, _, _, _, _, _, _, _, _, _, _, _, rfl, _⟩ := h; rfl) | (obtain ⟨_, _, _, _, _, _, _, _, _, _, _, _, _, _, _, rfl, _⟩ := h; rfl)
  · have hu64 := hr.units
    obtain ⟨r1, r2, t, a, e, f1, f2, ds, rfl, hR1, ok1, hR2, ok2, ht, ha, hl, hr', e0, e1, q⟩ := h
    refine ⟨_, (pss_cons (ps_if (PW.pt (pw_or (pt_not (pt_val (pe_callB (kk_isi K) (by rfl) m_isinstance (by decide +kernel) (pa_cons (pv 2) (pa_cons (pe_bltn (v := .ty "tuple") (by rfl) m_tuple (by decide +kernel) rfl) pa_nil))))) (pw_or1 (pt_cmpR op_ne (pe_callB (kk_len K) (by rfl) m_len PySem.boot_len (pa_cons (pv 2) pa_nil)) pe_int (nomark _)))))
         (pss_one (ps_ret pe_bl))
         pss_nil)
      (pss_cons (ps_asg (pv 2) (pg_tup (by rfl) (pgs_cons (pg_name (i := 3) sc_shows_parted.nd rfl (.inl rfl)) (pgs_cons (pg_name (i := 4) sc_shows_parted.nd rfl (.inl rfl)) pgs_nil))))
      (pss_cons (ps_if (PW.pt (pw_or (pt_not (pt_val (pe_cf C_is_number_in (hr.mono (by decide)) (by rfl) (pa_cons (pv 4) (pa_cons pe_int (pa_cons (pe_glob (v := .int 400) (by rfl) g_LAST_DAY ⟨_, rfl⟩) pa_nil)))))) (pw_or1 (pt_not (pt_val (pe_cf C_is_row_to (hr.mono (by decide)) (by rfl) (pa_cons (pv 3) (pa_cons (pv 4) pa_nil))))))))
         (pss_one (ps_ret pe_bl))
         pss_nil)
      (pss_one (ps_ret (pe_cmpR (kk_neD K hu64) (pe_cf C_shown (hr.mono (by decide)) (by rfl) (pa_cons (pv 0) (pa_cons (pv 3) (pa_cons (pv 4) pa_nil)))) (pe_cf C_shown (hr.mono (by decide)) (by rfl) (pa_cons (pv 1) (pa_cons (pv 3) (pa_cons (pv 4) pa_nil)))) (nomark _))))))), ?_⟩
    have dA : Dp K H (.ref t) (.tuple [.list (ds.map PyData.int), .int e]) := .tup (SqT.of ht) (.cons (dp_ints (SqL.of ha)) (.cons (.int _) .nil))
    have hn : numIn (.int e) 0 400 = true := by
      show (decide (0 ≤ e) && decide (e ≤ 400)) = true
      rw [decide_eq_true e0, decide_eq_true e1]
      rfl
    refine ⟨_, rfl, _, _, _, _, _, rfl, .ty _, ty_of_dp dA, kit_d (by decide) _, _, rfl, ?_⟩
    refine iteF ⟨_, rfl, t, _, rfl, .inr (SqT.of ht), rfl, _, rfl, ?_⟩
    refine iteF ?_
    refine ⟨_, rfl, t, _, rfl, SqT.of ht, rfl, _, _, rfl, _, _, rfl, rfl, ?_⟩
    refine ⟨_, rfl, _, .int e, 0, 400, rfl, .int _, ?_⟩
    rw [hn]
    refine ⟨_, rfl, iteF ⟨_, rfl, _, rfl, a, e, ds, rfl, ha, hl, hr', fun H1 s1 => ⟨_, rfl, iteF ?_⟩⟩⟩
    refine ⟨_, rfl, _, rfl, _, rfl, r1, a, e, f1, ds, rfl, hR1.same s1, ok1, .inl (SqL.of (s1 _ _ ha)), fun H2 b2 s2 h2 => ?_⟩
    have s12 := s1.trans s2
    refine ⟨_, rfl, _, rfl, _, rfl, r2, a, e, f2, ds, rfl, hR2.same s12, ok2, .inl (SqL.of (s12 _ _ ha)), fun H3 b3 s3 h3 => ?_⟩
    exact ⟨_, _, sh_dp (SqT.of (s3 _ _ h2)), sh_dp (SqT.of h3), sh_shaped f1 _ e, sh_shaped f2 _ e, q _ (s12.trans s3)⟩
theorem unl_comm (f g : Fg) (ds : List Int) (e : Int) : unl g f ds e = unl f g ds e := by
  unfold unl unlB pairAt
  rw [PySem.W.eqv_comm]
theorem first_comm {f g : Fg} {r : Option (List Int × Int)} (h : IsFirst g f r) : IsFirst f g r := by
  cases r with
  | none => exact fun ds e h0 hr => by rw [← unl_comm]; exact h ds e h0 hr
  | some p =>
    obtain ⟨d, e⟩ := p
    obtain ⟨h1, h2, h3, h4, h5, h6⟩ := h
    refine ⟨h1, h2, h3, by rw [← unl_comm]; exact h4, h5, fun d1 e1 a b c => h6 d1 e1 a b ?_⟩
    rw [unl_comm]
    exact c
theorem depth_ints0 : ∀ ns : List Int, PyData.depthAll (ns.map PyData.int) = 0
  | [] => rfl
  | n :: r => by rw [List.map_cons, PyData.depthAll, depth_ints0 r]; rfl
theorem depth_pair (ns : List Int) (e : Int) : PyData.depth (.tuple [.list (ns.map PyData.int), .int e]) ≤ 2 := by
  simp [PyData.depth, PyData.depthAll, depth_ints0]
theorem thin_ints2 : ∀ ns : List Int, thinAll (ns.map PyData.int) = true
  | [] => rfl
  | n :: r => by rw [List.map_cons, thinAll, thin_ints2 r]; rfl
theorem thin_pair {ns : List Int} (e : Int) (h : ns.length ≤ 1000) : thin (.tuple [.list (ns.map PyData.int), .int e]) = true := by
  simp [thin, thinAll, thin_ints2, h]
theorem few_of {f : Fg} (F : Figs f.p f.s f.g f.m f.fi f.fa f.ba) (p1 : f.p ≤ 3) (s1 : f.s ≤ 5) (g1 : f.g ≤ 2) : Few f := ⟨F.p0, p1, F.s0, s1, F.g0, g1, F.m0, F.m1, F.ba0, F.ba1⟩
theorem few_ok {f : Fg} {sm : Bool} (h : f.Few sm) (F : Figs f.p f.s f.g f.m f.fi f.fa f.ba) : Few f := by
  obtain ⟨a, b, c⟩ := h
  refine few_of F a ?_ ?_ <;> cases sm <;> simp at b c <;> omega
def valsF (f : Fg) (kv : V) : List V := [.int f.p, .int f.s, .int f.g, .bl f.l, .int f.m, kv, .int f.fi, .int f.fa, .int f.ba]
/-- of two drawings, mixed -/
theorem mix9 {f g : Fg} {kv1 kv2 : V} {ws : List V} (h9 : ws.length = 9) (h : ∀ (j : Nat) (v : V), ws[j]? = some v → (valsF f kv1)[j]? = some v ∨ (valsF g kv2)[j]? = some v) (F : Figs f.p f.s f.g f.m f.fi f.fa f.ba) (G : Figs g.p g.s g.g g.m g.fi g.fa g.ba) (F2 : Few f) (G2 : Few g) :
    ∃ (c : Fg) (kv : V), ws = valsF c kv ∧ Figs c.p c.s c.g c.m c.fi c.fa c.ba ∧ Few c ∧ (kv = kv1 ∨ kv = kv2) := by
  match ws, h9 with
  | [x0, x1, x2, x3, x4, x5, x6, x7, x8], _ =>
    have two : ∀ (j : Nat) (v a b : V), [x0, x1, x2, x3, x4, x5, x6, x7, x8][j]? = some v → (valsF f kv1)[j]? = some a → (valsF g kv2)[j]? = some b → v = a ∨ v = b := fun j v a b h1 h2 h3 => by
      rcases h j v h1 with z | z
      · rw [h2] at z
        exact .inl (Option.some.inj z).symm
      · rw [h3] at z
        exact .inr (Option.some.inj z).symm
    have num : ∀ {v : V} {a b : Int}, v = .int a ∨ v = .int b → ∃ n, v = .int n ∧ (n = a ∨ n = b) := fun {v a b} h => h.elim (fun e => ⟨a, e, .inl rfl⟩) fun e => ⟨b, e, .inr rfl⟩
    obtain ⟨p, rfl, hp⟩ := num (two 0 x0 _ _ rfl rfl rfl)
    obtain ⟨s, rfl, hs⟩ := num (two 1 x1 _ _ rfl rfl rfl)
    obtain ⟨gr, rfl, hg⟩ := num (two 2 x2 _ _ rfl rfl rfl)
    obtain ⟨l, rfl⟩ : ∃ l, x3 = .bl l := (two 3 x3 _ _ rfl rfl rfl).elim (fun e => ⟨_, e⟩) fun e => ⟨_, e⟩
    obtain ⟨m, rfl, hm⟩ := num (two 4 x4 _ _ rfl rfl rfl)
    obtain ⟨fi, rfl, hfi⟩ := num (two 6 x6 _ _ rfl rfl rfl)
    obtain ⟨fa, rfl, hfa⟩ := num (two 7 x7 _ _ rfl rfl rfl)
    obtain ⟨ba, rfl, hba⟩ := num (two 8 x8 _ _ rfl rfl rfl)
    obtain ⟨a1, a2, a3, a4, a5, a6, a7, a8, a9, a10, a11, a12, a13, a14⟩ := F
    obtain ⟨c1, c2, c3, c4, c5, c6, c7, c8, c9, c10, c11, c12, c13, c14⟩ := G
    have fp := F2.p1
    have gp := G2.p1
    have fs := F2.s1
    have gs := G2.s1
    have fg := F2.g1
    have gg := G2.g1
    have Fx : Figs p s gr m fi fa ba := ⟨by omega, by omega, by omega, by omega, by omega, by omega, by omega, by omega, by omega, by omega, by omega, by omega, by omega, by omega⟩
    exact ⟨⟨p, s, gr, l, m, [], fi, fa, ba⟩, x5, rfl, Fx, few_of (f := ⟨p, s, gr, l, m, [], fi, fa, ba⟩) Fx (by show p ≤ 3; omega) (by show s ≤ 5; omega) (by show gr ≤ 2; omega), two 5 x5 _ _ rfl rfl rfl⟩
theorem seqT_put {K : PySem.W.Frag} {H : Hp} {D a : Addr} {xs vs : List V} {o : HO} (hd : H D = some (.lst xs)) (h : SqT K H a vs) : SqT K (upd H D o) a vs := by
  rcases h with (h | ⟨ob, h⟩) | h
  · exact .inl (.inl (by rw [upd_ne (ne_of h hd (by intro z; cases z))]; exact h))
  · exact .inl (.inr ⟨ob, by rw [upd_ne (ne_of h hd (by intro z; cases z))]; exact h⟩)
  · exact .inr h
theorem drawn_put {K : PySem.W.Frag} {H : Hp} {D t : Addr} {xs : List V} {o : HO} {f : Fg} {kv : V} {kd : PyData} (hd : H D = some (.lst xs)) (h : Drawn K H t f kv kd) : Drawn K (upd H D o) t f kv kd := by
  refine ⟨seqT_put hd h.1, h.2.1, ?_⟩
  cases h.2.2 with
  | one k h0 h1 e => exact .one k h0 h1 e
  | all a h1 hl hk => exact .all a (seqT_put hd h1) hl hk
theorem pick3o {r : Int} (h0 : 0 ≤ r) (h1 : r < 3) : ∃ o : Int, atI [V.int 9, .int 2, .int 1] r = some (.int o) ∧ 0 < o ∧ o ≤ 9 := by
  have h : r = 0 ∨ r = 1 ∨ r = 2 := by omega
  rcases h with rfl | rfl | rfl
  · exact ⟨9, rfl, by decide, by decide⟩
  · exact ⟨2, rfl, by decide, by decide⟩
  · exact ⟨1, rfl, by decide, by decide⟩
/-! ### counted -/
abbrev s_counted : Stmt := topS 22
abbrev N_counted : List Str := ["word", "number"]
theorem sc_counted : FnScope N_counted ["word", "number"] (defScope s_counted) := ⟨rfl, rfl, rfl, by decide +kernel, rfl, by decide +kernel, by decide +kernel⟩
def cntT (w : Str) (n : Int) : Str := if n = 0 then "" else w ++ " " ++ Str.ofString (toString n)
def sp_counted (K : PySem.W.Frag) : Sp := fun vs H Q _ => ∃ (w : Str) (n : Int), vs = [.str w, .int n] ∧ w.length ≤ 100 ∧ 0 ≤ n ∧ n ≤ 1000 ∧ Q (.str (cntT w n)) H
theorem ok_counted {f : Addr} {fd : FuncData} (F : Fun K "counted" "counted" s_counted f fd) (g : mg "counted" = some (.ref f)) (bd : Binds K fd ["word", "number"] []) : CF P w K mg base 1 "counted" ["word", "number"] (sp_counted K) := by
  refine ⟨f, fd, F.ok sc_counted (fun vs H Q E h => ?_) (fun cdv A outer s H vs Q E hr h => ?_), g, F.kp, bd⟩
  · first | (obtain ⟨_, rfl, _⟩ := h; rfl) | (obtain ⟨_, _, rfl, _⟩ := h; rfl) | (obtain ⟨_, _, _, rfl, _⟩ := h; rfl) | (obtain ⟨_, _, _, _, rfl, _⟩ := h; rfl) | (obtain ⟨_, _, _, _, _, rfl, _⟩ := h; rfl) | (obtain ⟨_, _, _, _, _, _, rfl, _⟩ := h; rfl) | (obtain ⟨_, _, _, _, _, _, _, rfl, _⟩ := h; rfl) | (obtain ⟨_, _, _, _, _, _, _, _, rfl, _⟩ := h; rfl) | (obtain ⟨_, _, _, _, _, _, _, _, _, rfl, _⟩ := h; rfl) | (obtain ⟨_, _, _, _, _, _, _, _, _, _, rfl, _⟩ := h; rfl) | (obtain ⟨_, _, _, _, _, _, _, _, _, _, _, rfl, _⟩ := h; rfl) | (obtain ⟨_, _, _, _, _, _, _, _, _, _, _, _, rfl, _⟩ := h; rfl) | (obtain ⟨_, _, _, _, _, _, _, _, _, _, _, _, _, rfl, _⟩ := h; rfl) | (obtain ⟨_, _, _, _, _, _, _, _, _, _, _, _, _, _, rfl, _⟩ := h; rfl) | (obtain ⟨_, _, _, _, _, _, _, _, _, _, _, _, _, _, _, rfl, _⟩ := h; rfl)
  · have hu64 := hr.units
    obtain ⟨w, n, rfl, hw, n0, n1, q⟩ := h
    refine ⟨_, (pss_cons (ps_if (pt_cmpR op_eq (pv 1) pe_int (nomark _))
         (pss_one (ps_ret pe_str))
         pss_nil)
      (pss_one (ps_ret (pe_joined (PJ.cons (pe_fmt (pv 0)) (PJ.cons pe_str (PJ.cons (pe_fmt (pv 1)) PJ.nil))))))), ?_⟩
    have e0 : ∀ s : Str, Str.empty ++ s = s := fun s => by
      show Str.mk (#[] ++ s.cps) = s
      rw [Array.empty_append]
    have lt : (Str.ofString (toString n)).length ≤ 4 := PyProof.Rows.toString_length_le (v := n) n0 (k := 4) (by decide) (by show n < 10000; omega)
    have l1 : (Str.ofString " ").length = 1 := rfl
    refine ⟨_, rfl, rfl, _, rfl, ite2 (fun z => ?_) (fun z => ?_)⟩
    · have e : n = 0 := V.int.inj (of_decide_eq_true z)
      rw [cntT, if_pos e] at q
      exact q
    · have e : n ≠ 0 := fun e => z (decide_eq_true (by rw [e]))
      rw [cntT, if_neg e] at q
      have lg : n.natAbs.log2 < 1920 := by
        by_cases z : n.natAbs = 0
        · rw [z]
          decide
        · have : n.natAbs.log2 < 30 := (Nat.log2_lt z).mpr (by show n.natAbs < 1073741824; omega)
          omega
      refine ⟨_, rfl, .inl ⟨w, rfl, by rw [sizeLine_eq]; omega, w, rfl, by rw [e0, sizeLine_eq]; omega, _, rfl, by rw [e0, len_app, l1, sizeLine_eq]; omega, _, rfl, .inr ⟨n, rfl, lg, _, rfl, by rw [e0, len_app, len_app, l1, sizeLine_eq]; omega, ?_⟩⟩⟩
      rw [e0]
      exact q
/-! ### kept_clause -/
abbrev s_kept_clause : Stmt := topS 23
abbrev N_kept_clause : List Str := ["keep", "numbers", "number"]
theorem sc_kept_clause : FnScope N_kept_clause ["keep"] (defScope s_kept_clause) := ⟨rfl, rfl, rfl, by decide +kernel, rfl, by decide +kernel, by decide +kernel⟩
theorem small_log {n : Int} (h : 0 ≤ n ∧ n ≤ 100) : n.natAbs.log2 < 1920 := by
  by_cases z : n.natAbs = 0
  · rw [z]
    decide
  · have : n.natAbs.log2 < 30 := (Nat.log2_lt z).mpr (by show n.natAbs < 1073741824; omega)
    omega
def keptT (ks : List Int) : Str := if ks.all (fun k => decide (k = ks.headD 0)) = true then cntT "keep" (ks.headD 0) else Str.ofString "keep " ++ Txt.join " " (ks.map fun k => Str.ofString (toString k))
def sp_kept_clause (K : PySem.W.Frag) : Sp := fun vs H Q _ => ∃ (t : Addr) (ks : List Int), vs = [.ref t] ∧ SqT K H t (ks.map V.int) ∧ ks ≠ [] ∧ ks.length ≤ 6 ∧ (∀ k ∈ ks, 0 ≤ k ∧ k ≤ 100) ∧ ∀ H', Same H H' → Q (.str (keptT ks)) H'
theorem ok_kept_clause {f : Addr} {fd : FuncData} (F : Fun K "kept_clause" "kept_clause" s_kept_clause f fd) (g : mg "kept_clause" = some (.ref f)) (bd : Binds K fd ["keep"] []) (m_len : mg "len" = none) (m_set : mg "set" = none) (m_str : mg "str" = none) (C_counted : CF P w K mg base 1 "counted" ["word", "number"] (sp_counted K)) : CF P w K mg base 2 "kept_clause" ["keep"] (sp_kept_clause K) := by
  refine ⟨f, fd, F.ok sc_kept_clause (fun vs H Q E h => ?_) (fun cdv A outer s H vs Q E hr h => ?_), g, F.kp, bd⟩
  · first | (obtain ⟨_, rfl, _⟩ := h; rfl) | (obtain ⟨_, _, rfl, _⟩ := h; rfl) | (obtain ⟨_, _, _, rfl, _⟩ := h; rfl) | (obtain ⟨_, _, _, _, rfl, _⟩ := h; rfl) | (obtain ⟨_, _, _, _, _, rfl, _⟩ := h; rfl) | (obtain ⟨_, _, _, _, _, _, rfl, _⟩ := h; rfl) | (obtain ⟨_, _, _, _, _, _, _, rfl, _⟩ := h; rfl) | (obtain ⟨_, _, _, _, _, _, _, _, rfl, _⟩ := h; rfl) | (obtain ⟨_, _, _, _, _, _, _, _, _, rfl, _⟩ := h; rfl) | (obtain ⟨_, _, _, _, _, _, _, _, _, _, rfl, _⟩ := h; rfl) | (obtain ⟨_, _, _, _, _, _, _, _, _, _, _, rfl, _⟩ := h; rfl) | (obtain ⟨_, _, _, _, _, _, _, _, _, _, _, _, rfl, _⟩ := h; rfl) | (obtain ⟨_, _, _, _, _, _, _, _, _, _, _, _, _, rfl, _⟩ := h; rfl) | (obtain ⟨_, _, _, _, _, _, _, _, _, _, _, _, _, _, rfl, _⟩ := h; rfl) | (obtain ⟨_, _, _, _, _, _, _, _, _, _, _, _, _, _, _, rfl, _⟩ := h; rfl)
  · have hu64 := hr.units
    obtain ⟨t, ks, rfl, hS, hne, hl, hb, q⟩ := h
    refine ⟨_, (pss_cons (ps_if (pt_cmpR op_eq (pe_lenSetT (by rfl) m_len (by rfl) m_set (pv 0)) pe_int (nomark _))
         (pss_one (ps_ret (pe_cf C_counted (hr.mono (by decide)) (by rfl) (pa_cons pe_str (pa_cons (pe_ix (kk_ixt K) (pv 0) pe_int (fun _ _ => rfl)) pa_nil)))))
         pss_nil)
      (pss_cons (ps_set (i := 1) sc_kept_clause.nd rfl (.inl rfl) (pe_join pe_str (pe_lc (own := [("number", 2)]) (g := (gName 2)) (tt := tYes) rfl sc_kept_clause.nd (pi_tup (pv 0)) (blkOk_by (own := [("number", 2)]) (N := N_kept_clause) (sc := defScope s_kept_clause) (by decide +kernel)) (fun _ _ _ _ _ => pg_name (i := 2) sc_kept_clause.nd rfl (Or.inl rfl)) (fun _ _ _ _ _ => pts_nil) (fun _ _ _ _ _ => (pe_callTy call_str_int (by rfl) m_str (by decide +kernel) (pa_cons (pv 2) pa_nil))))))
      (pss_one (ps_ret (pe_joined (PJ.cons pe_str (PJ.cons (pe_fmt (pv 1)) PJ.nil))))))), ?_⟩
    obtain ⟨k0, r, rfl⟩ : ∃ k0 r, ks = k0 :: r := by
      cases ks with
      | nil => exact absurd rfl hne
      | cons a b => exact ⟨a, b, rfl⟩
    have hb0 := hb k0 List.mem_cons_self
    refine ⟨_, rfl, t, _, rfl, hS, by omega, fun c hc => ⟨rfl, _, rfl, ite2 (fun z => ?_) (fun z => ?_)⟩⟩
    · have e : c = 1 := by
        have := V.int.inj (of_decide_eq_true z)
        omega
      obtain ⟨k, hk⟩ := hc.mp e
      have k0e := (hk k0).mp List.mem_cons_self
      have al : (k0 :: r).all (fun k => decide (k = (k0 :: r).headD 0)) = true := List.all_eq_true.mpr fun j hj => decide_eq_true (by show j = k0; rw [(hk j).mp hj, k0e])
      have at0 : atI ((k0 :: r).map V.int) 0 = some (.int k0) := by
        unfold atI ixN
        rw [if_pos (by decide), if_pos (by rw [List.map_cons, List.length_cons]; omega)]
        rfl
      refine ⟨_, rfl, t, _, _, _, rfl, rfl, hS, at0, _, _, rfl, by decide, hb0.1, by omega, ?_⟩
      have := q H (Same.refl H)
      rw [keptT, if_pos al] at this
      exact this
    · have al : ¬ (k0 :: r).all (fun k => decide (k = (k0 :: r).headD 0)) = true := fun al => by
        refine z (decide_eq_true ?_)
        have : c = 1 := hc.mpr ⟨k0, fun j => ⟨fun hj => of_decide_eq_true (List.all_eq_true.mp al j hj), fun e => by rw [e]; exact List.mem_cons_self⟩⟩
        rw [this]
        rfl
      refine ⟨⟨_, rfl⟩, _, rfl, t, rfl, ⟨_, hS⟩, fun D hD => vals_lc (fun v => match v with | .int k => .str (Str.ofString (toString k)) | _ => .non) (jok_t (K := K) hS) (by rw [List.length_map]; omega) hD (fun x hx G s Y N h1 => ?_) (fun G s hG => ?_)⟩
      · obtain ⟨k, hk, rfl⟩ := List.mem_map.mp hx
        exact ⟨rfl, _, rfl, k, rfl, small_log (hb k hk), h1 G (Same.refl G)⟩
      · have hG2 : G D = some (.lst (((k0 :: r).map fun k => Str.ofString (toString k)).map V.str)) := by
          rw [hG, List.map_map, List.map_map]
          rfl
        have ln : ∀ l : List Int, (∀ k ∈ l, 0 ≤ k ∧ k ≤ 100) → ((l.map fun k => Str.ofString (toString k)).map fun x => x.length).sum ≤ 4 * l.length := fun l hb => by
          induction l with
          | nil => exact Nat.le_refl _
          | cons k l ih =>
            have a := ih fun x hx => hb x (List.mem_cons_of_mem _ hx)
            have b : (Str.ofString (toString k)).length ≤ 4 := PyProof.Rows.toString_length_le (v := k) (hb k List.mem_cons_self).1 (k := 4) (by decide) (by have := hb k List.mem_cons_self; show k < 10000; omega)
            rw [List.map_cons, List.map_cons, List.sum_cons, List.length_cons]
            omega
        have l1 := ln (k0 :: r) hb
        refine ⟨_, _, _, rfl, rfl, .inl (SqL.of hG2), ?_, _, rfl, ?_⟩
        · have e1 : (Str.ofString " ").length = 1 := rfl
          rw [e1, List.length_map]
          omega
        have jl := PySem.StrLaws.join_length_le (Str.ofString " ") ((k0 :: r).map fun k => Str.ofString (toString k))
        rw [← TL.join_eq] at jl
        have e1 : (Str.ofString " ").length = 1 := rfl
        have e5 : (Str.ofString "keep ").length = 5 := rfl
        have e0 : ∀ s : Str, Str.empty ++ s = s := fun s => by
          show Str.mk (#[] ++ s.cps) = s
          rw [Array.empty_append]
        rw [e1, List.length_map] at jl
        refine ⟨by rw [e0, e5, sizeLine_eq]; omega, _, rfl, .inl ⟨_, rfl, by rw [sizeLine_eq]; omega, _, rfl, by rw [e0, len_app, e5, sizeLine_eq]; omega, ?_⟩⟩
        have := q G s
        rw [keptT, if_neg al] at this
        rw [e0]
        exact this
/-! ### clauses_of -/
abbrev s_clauses_of : Stmt := topS 21
abbrev N_clauses_of : List Str := ["figures", "parts", "step", "grace", "last", "misses", "keep", "fine", "falls", "back", "clauses", "clause"]
theorem sc_clauses_of : FnScope N_clauses_of ["figures"] (defScope s_clauses_of) := ⟨rfl, rfl, rfl, by decide +kernel, rfl, by decide +kernel, by decide +kernel⟩
def partT (p s : Int) : Str := Str.ofString (toString p) ++ Str.ofString " parts by " ++ Str.ofString (toString s) ++ Str.ofString " days"
def allT (f : Fg) : List Str := [partT f.p f.s, cntT "grace" f.g, if f.l = true then Str.ofString "from last" else Str.ofString "", cntT "misses" f.m, keptT f.ks, cntT "fine" f.fi, cntT "falls" f.fa, cntT "back" f.ba]
def clsT (f : Fg) : List Str := (allT f).filter fun s => decide (s ≠ Str.ofString "")
def sp_clauses_of (K : PySem.W.Frag) : Sp := fun vs H Q _ => ∃ (t kt : Addr) (f : Fg), vs = [.ref t] ∧ SqT K H t [.int f.p, .int f.s, .int f.g, .bl f.l, .int f.m, .ref kt, .int f.fi, .int f.fa, .int f.ba] ∧ SqT K H kt (f.ks.map V.int) ∧ f.Ok ∧ ∀ H' L, Same H H' → H' L = some (.lst ((clsT f).map V.str)) → Q (.ref L) H'
theorem ok_clauses_of {f : Addr} {fd : FuncData} (F : Fun K "clauses_of" "clauses_of" s_clauses_of f fd) (g : mg "clauses_of" = some (.ref f)) (bd : Binds K fd ["figures"] []) (C_counted : CF P w K mg base 1 "counted" ["word", "number"] (sp_counted K)) (C_kept_clause : CF P w K mg base 2 "kept_clause" ["keep"] (sp_kept_clause K)) : CF P w K mg base 3 "clauses_of" ["figures"] (sp_clauses_of K) := by
  refine ⟨f, fd, F.ok sc_clauses_of (fun vs H Q E h => ?_) (fun cdv A outer s H vs Q E hr h => ?_), g, F.kp, bd⟩
  · first | (obtain ⟨_, rfl, _⟩ := h; rfl) | (obtain ⟨_, _, rfl, _⟩ := h; rfl) | (obtain ⟨_, _, _, rfl, _⟩ := h; rfl) | (obtain ⟨_, _, _, _, rfl, _⟩ := h; rfl) | (obtain ⟨_, _, _, _, _, rfl, _⟩ := h; rfl) | (obtain ⟨_, _, _, _, _, _, rfl, _⟩ := h; rfl) | (obtain ⟨_, _, _, _, _, _, _, rfl, _⟩ := h; rfl) | (obtain ⟨_, _, _, _, _, _, _, _, rfl, _⟩ := h; rfl) | (obtain ⟨_, _, _, _, _, _, _, _, _, rfl, _⟩ := h; rfl) | (obtain ⟨_, _, _, _, _, _, _, _, _, _, rfl, _⟩ := h; rfl) | (obtain ⟨_, _, _, _, _, _, _, _, _, _, _, rfl, _⟩ := h; rfl) | (obtain ⟨_, _, _, _, _, _, _, _, _, _, _, _, rfl, _⟩ := h; rfl) | (obtain ⟨_, _, _, _, _, _, _, _, _, _, _, _, _, rfl, _⟩ := h; rfl) | (obtain ⟨_, _, _, _, _, _, _, _, _, _, _, _, _, _, rfl, _⟩ := h; rfl) | (obtain ⟨_, _, _, _, _, _, _, _, _, _, _, _, _, _, _, rfl, _⟩ := h; rfl)
  · have hu64 := hr.units
    obtain ⟨t, kt, f', rfl, hS, hK, ok, q⟩ := h
    refine ⟨_, (pss_cons (ps_asg (pv 0) (pg_tup (by rfl) (pgs_cons (pg_name (i := 1) sc_clauses_of.nd rfl (.inl rfl)) (pgs_cons (pg_name (i := 2) sc_clauses_of.nd rfl (.inl rfl)) (pgs_cons (pg_name (i := 3) sc_clauses_of.nd rfl (.inl rfl)) (pgs_cons (pg_name (i := 4) sc_clauses_of.nd rfl (.inl rfl)) (pgs_cons (pg_name (i := 5) sc_clauses_of.nd rfl (.inl rfl)) (pgs_cons (pg_name (i := 6) sc_clauses_of.nd rfl (.inl rfl)) (pgs_cons (pg_name (i := 7) sc_clauses_of.nd rfl (.inl rfl)) (pgs_cons (pg_name (i := 8) sc_clauses_of.nd rfl (.inl rfl)) (pgs_cons (pg_name (i := 9) sc_clauses_of.nd rfl (.inl rfl)) pgs_nil)))))))))))
      (pss_cons (ps_set (i := 10) sc_clauses_of.nd rfl (.inl rfl) (pe_lst (pa_cons (pe_joined (PJ.cons (pe_fmt (pv 1)) (PJ.cons pe_str (PJ.cons (pe_fmt (pv 2)) (PJ.cons pe_str PJ.nil))))) (pa_cons (pe_cf C_counted (hr.mono (by decide)) (by rfl) (pa_cons pe_str (pa_cons (pv 3) pa_nil))) (pa_cons (pe_ifExp (pt_val (pv 4)) pe_str pe_str) (pa_cons (pe_cf C_counted (hr.mono (by decide)) (by rfl) (pa_cons pe_str (pa_cons (pv 5) pa_nil))) (pa_cons (pe_cf C_kept_clause (hr.mono (by decide)) (by rfl) (pa_cons (pv 6) pa_nil)) (pa_cons (pe_cf C_counted (hr.mono (by decide)) (by rfl) (pa_cons pe_str (pa_cons (pv 7) pa_nil))) (pa_cons (pe_cf C_counted (hr.mono (by decide)) (by rfl) (pa_cons pe_str (pa_cons (pv 8) pa_nil))) (pa_cons (pe_cf C_counted (hr.mono (by decide)) (by rfl) (pa_cons pe_str (pa_cons (pv 9) pa_nil))) pa_nil))))))))))
      (pss_one (ps_ret (pe_lc (own := [("clause", 11)]) (g := (gName 11)) rfl sc_clauses_of.nd (pi_list (pv 10)) (blkOk_by (own := [("clause", 11)]) (N := N_clauses_of) (sc := defScope s_clauses_of) (by decide +kernel)) (fun _ _ _ _ _ => pg_name (i := 11) sc_clauses_of.nd rfl (Or.inl rfl)) (fun _ _ _ _ _ => (pts_one (pt_cmpR op_ne (pv 11) pe_str (nomark _)))) (fun _ _ _ _ _ => (pv 11))))))), ?_⟩
    obtain ⟨p, sp, g', l, m, ks, fi, fa, ba⟩ := f'
    have F := ok.figs
    dsimp only at hS hK F
    have hlk : ks.length ≤ 6 := by
      have a : (ks.length : Int) = p := ok.len
      have := F.p1
      omega
    have hne : ks ≠ [] := fun e => by
      have a : (ks.length : Int) = p := ok.len
      have := F.p0
      rw [e, List.length_nil] at a
      omega
    have e0 : ∀ s : Str, Str.empty ++ s = s := fun s => by
      show Str.mk (#[] ++ s.cps) = s
      rw [Array.empty_append]
    have s8 : (8 : Nat) ≤ sizeLine := by rw [sizeLine_eq]; omega
    have lp : (Str.ofString (toString p)).length ≤ 4 := PyProof.Rows.toString_length_le (v := p) (by have := F.p0; omega) (k := 4) (by decide) (by have := F.p1; show p < 10000; omega)
    have ls : (Str.ofString (toString sp)).length ≤ 4 := PyProof.Rows.toString_length_le (v := sp) (by have := F.s0; omega) (k := 4) (by decide) (by have := F.s1; show sp < 10000; omega)
    have l1 : (Str.ofString " parts by ").length = 10 := rfl
    have l2 : (Str.ofString " days").length = 5 := rfl
    have last : ∀ (G : Hp) (L : Addr), Same H G → G L = some (.lst ((allT ⟨p, sp, g', l, m, ks, fi, fa, ba⟩).map V.str)) →
        tLc (iList K (tVar 10)) (gName 11) (tTest (tOp rNe (tVar 11) (tC (V.str (Str.ofString ""))))) (tVar 11) [11] [some (.ref t), some (.int p), some (.int sp), some (.int g'), some (.bl l), some (.int m), some (.ref kt), some (.int fi), some (.int fa), some (.int ba), some (.ref L), none] G Q := fun G L sG hL => by
      have hL2 : SqL K G L ((allT ⟨p, sp, g', l, m, ks, fi, fa, ba⟩).map V.str) := SqL.of hL
      refine ⟨_, rfl, L, rfl, ⟨_, hL2⟩, fun D hD => pass_lc (fun v => !decide (v = .str (Str.ofString ""))) (jok_l (K := K) hL2) (by rw [List.length_map]; show 8 ≤ 1000; decide) hD (fun x hx X sX Y N h1 h2 => ?_) (fun X sX hX => q X D (sG.trans sX) ?_)⟩
      · obtain ⟨z, _, rfl⟩ := List.mem_map.mp hx
        exact ⟨rfl, _, rfl, rfl, _, rfl, ite2 (fun c => ⟨_, rfl, h1 c X (Same.refl X)⟩) (fun c => h2 (by simpa using c) X (Same.refl X))⟩
      · rw [hX, List.filter_map]
        have : ((fun v => !decide (v = V.str (Str.ofString ""))) ∘ V.str) = fun s => decide (s ≠ Str.ofString "") := by
          funext s
          simp
        rw [this]
        rfl
    refine ⟨_, rfl, t, _, rfl, hS, rfl, _, _, rfl, _, _, rfl, _, _, rfl, _, _, rfl, _, _, rfl, _, _, rfl, _, _, rfl, _, _, rfl, _, _, rfl, rfl, ?_⟩
    refine ⟨_, rfl, .inr ⟨p, rfl, small_log ⟨by have := F.p0; omega, by have := F.p1; omega⟩, _, rfl, by rw [e0, sizeLine_eq]; omega, _, rfl, by rw [e0, len_app, l1, sizeLine_eq]; omega, _, rfl, .inr ⟨sp, rfl, small_log ⟨by have := F.s0; omega, by have := F.s1; omega⟩, _, rfl, by rw [e0, len_app, len_app, l1, sizeLine_eq]; omega, _, rfl, by rw [e0, len_app, len_app, len_app, l1, l2, sizeLine_eq]; omega, _, rfl, _, _, rfl, by decide, F.g0, by have := F.g1; omega, _, rfl, l, rfl, ?_⟩⟩⟩
    rw [e0]
    cases l with
    | true =>
      refine iteT ⟨_, rfl, _, _, rfl, by decide, F.m0, by have := F.m1; omega, _, rfl, kt, ks, rfl, hK, hne, hlk, ok.bnd, fun H1 s1 => ⟨_, rfl, _, _, rfl, by decide, F.fi0, by have := F.fi1; omega, _, rfl, _, _, rfl, by decide, F.fa0, by have := F.fa1; omega, _, rfl, _, _, rfl, by decide, F.ba0, by have := F.ba1; omega, s8, fun L nL => ?_⟩⟩
      exact last _ L (s1.trans (same_new nL)) upd_same
    | false =>
      refine iteF ⟨_, rfl, _, _, rfl, by decide, F.m0, by have := F.m1; omega, _, rfl, kt, ks, rfl, hK, hne, hlk, ok.bnd, fun H1 s1 => ⟨_, rfl, _, _, rfl, by decide, F.fi0, by have := F.fi1; omega, _, rfl, _, _, rfl, by decide, F.fa0, by have := F.fa1; omega, _, rfl, _, _, rfl, by decide, F.ba0, by have := F.ba1; omega, s8, fun L nL => ?_⟩⟩
      exact last _ L (s1.trans (same_new nL)) upd_same
/-- if test: found.append(text) -/
theorem app_if {K : PySem.W.Frag} {F : Addr} {l : List Str} {z : Str} {b : Bool} {test : TT} {targ : TE} {E1 : Ends} {σ : L2.St} {G : Hp} (hσ : σ[2]? = some (some (.ref F))) (hF : G F = some (.lst (l.map V.str))) (hl : l.length ≤ 100)
    (ht : ∀ Y : Bool → Hp → Prop, Y b G → test σ G Y) (ha : b = true → ∀ Y : VK, Y (.str z) G → targ σ G Y) (fin : E1.nx σ (if b = true then upd G F (.lst ((l ++ [z]).map V.str)) else G)) :
    tIfS test (tDrop (tBM K "list" rAppend (tVar 2) (tCons targ tNil))) tNext E1 σ G := by
  refine ht _ ?_
  cases b with
  | false => exact iteF fin
  | true =>
    refine iteT ⟨_, hσ, .inl ⟨rfl, _, SqL.of hF⟩, ha rfl _ ⟨F, _, _, rfl, rfl, hF, ?_, ?_⟩⟩
    · rw [List.length_map, sizeLine_eq]
      omega
    · rw [List.map_append] at fin
      exact fin
/-! ### Rule___str__ -/
abbrev s_Rule___str__ : Stmt := inClass (topS 28) 5
abbrev N_Rule___str__ : List Str := ["self"]
theorem sc_Rule___str__ : FnScope N_Rule___str__ ["self"] (defScope s_Rule___str__) := ⟨rfl, rfl, rfl, by decide +kernel, rfl, by decide +kernel, by decide +kernel⟩
theorem num_len {n : Int} (h0 : 0 ≤ n) (h1 : n ≤ 1000) : (Str.ofString (toString n)).length ≤ 4 := PyProof.Rows.toString_length_le (v := n) h0 (k := 4) (by decide) (by show n < 10000; omega)
theorem cnt_len {w : Str} {n : Int} (h0 : 0 ≤ n) (h1 : n ≤ 1000) (hw : w.length ≤ 10) : (cntT w n).length ≤ 60 := by
  unfold cntT
  have e : (Str.ofString " ").length = 1 := rfl
  have := num_len h0 h1
  split
  · exact Nat.zero_le _
  · rw [len_app, len_app, e]
    omega
theorem kept_len {ks : List Int} (hb : ∀ k ∈ ks, 0 ≤ k ∧ k ≤ 100) (hl : ks.length ≤ 6) : (keptT ks).length ≤ 60 := by
  unfold keptT
  split
  · refine cnt_len ?_ ?_ (by decide)
    · cases ks with
      | nil => exact Int.le_refl _
      | cons k r => exact (hb k List.mem_cons_self).1
    · cases ks with
      | nil => exact (by decide)
      | cons k r =>
        have := (hb k List.mem_cons_self).2
        show k ≤ 1000
        omega
  · have jl := PySem.StrLaws.join_length_le (Str.ofString " ") (ks.map fun k => Str.ofString (toString k))
    rw [← TL.join_eq] at jl
    have e1 : (Str.ofString " ").length = 1 := rfl
    have e5 : (Str.ofString "keep ").length = 5 := rfl
    have ln : ∀ l : List Int, (∀ k ∈ l, 0 ≤ k ∧ k ≤ 100) → ((l.map fun k => Str.ofString (toString k)).map fun x => x.length).sum ≤ 4 * l.length := fun l hb => by
      induction l with
      | nil => exact Nat.le_refl _
      | cons k l ih =>
        have a := ih fun x hx => hb x (List.mem_cons_of_mem _ hx)
        have c := hb k List.mem_cons_self
        have b := num_len (n := k) c.1 (by omega)
        rw [List.map_cons, List.map_cons, List.sum_cons, List.length_cons]
        omega
    have l1 := ln ks hb
    rw [e1, List.length_map] at jl
    rw [len_app, e5]
    omega
theorem cls_len {f : Fg} (ok : f.Ok) : ((clsT f).map fun x => x.length).sum ≤ 60 * (clsT f).length ∧ (clsT f).length ≤ 8 := by
  have F := ok.figs
  have hlk : f.ks.length ≤ 6 := by
    have a := ok.len
    have := F.p1
    omega
  have al : ∀ s ∈ allT f, s.length ≤ 60 := fun s hs => by
    unfold allT at hs
    simp only [List.mem_cons, List.not_mem_nil, or_false] at hs
    rcases hs with rfl | rfl | rfl | rfl | rfl | rfl | rfl | rfl
    · unfold partT
      have e1 : (Str.ofString " parts by ").length = 10 := rfl
      have e2 : (Str.ofString " days").length = 5 := rfl
      have a := num_len (n := f.p) (by have := F.p0; omega) (by have := F.p1; omega)
      have b := num_len (n := f.s) (by have := F.s0; omega) (by have := F.s1; omega)
      rw [len_app, len_app, len_app, e1, e2]
      omega
    · exact cnt_len F.g0 (by have := F.g1; omega) (by decide)
    · split <;> decide +kernel
    · exact cnt_len F.m0 (by have := F.m1; omega) (by decide)
    · exact kept_len ok.bnd hlk
    · exact cnt_len F.fi0 (by have := F.fi1; omega) (by decide)
    · exact cnt_len F.fa0 (by have := F.fa1; omega) (by decide)
    · exact cnt_len F.ba0 (by have := F.ba1; omega) (by decide)
  have sm : ∀ l : List Str, (∀ s ∈ l, s.length ≤ 60) → (l.map fun x => x.length).sum ≤ 60 * l.length := fun l h => by
    induction l with
    | nil => exact Nat.le_refl _
    | cons s l ih =>
      have a := ih fun x hx => h x (List.mem_cons_of_mem _ hx)
      have b := h s List.mem_cons_self
      rw [List.map_cons, List.sum_cons, List.length_cons]
      omega
  exact ⟨sm _ fun s hs => al s (List.mem_filter.mp hs).1, List.length_filter_le _ (allT f)⟩
def txtT (f : Fg) : Str := Txt.join ", " (clsT f)
def sp_Rule___str__ (K : PySem.W.Frag) (C : Addr) : Sp := fun vs H Q _ => ∃ (r : Addr) (f : Fg), vs = [.ref r] ∧ RuleAt K H C r f ∧ f.Ok ∧ ∀ H', Same H H' → Q (.str (txtT f)) H'
theorem ok_Rule___str__ {f : Addr} {fd : FuncData} {CR : Addr} (TQ : TEq K mg CR "Rule") (T_Rule : TRule K mg CR) (C_clauses_of : CF P w K mg base 3 "clauses_of" ["figures"] (sp_clauses_of K)) (C_Rule_figures_0 : CMt P w K mg base CR 1 "figures" ["self"] [] (sp_Rule_figures K CR)) (F : FunD K "__str__" "Rule.__str__" (defArgs s_Rule___str__) (defBody s_Rule___str__) (defScope s_Rule___str__) [] [] f fd) : FnOk P w K mg base CX0 4 f fd ["self"] (sp_Rule___str__ K CR) := by
  refine okD F sc_Rule___str__ (fun vs H Q E h => ?_) (fun cdv A outer s H vs Q E hr h => ?_)
  · first | (obtain ⟨_, rfl, _⟩ := h; rfl) | (obtain ⟨_, _, rfl, _⟩ := h; rfl) | (obtain ⟨_, _, _, rfl, _⟩ := h; rfl) | (obtain ⟨_, _, _, _, rfl, _⟩ := h; rfl) | (obtain ⟨_, _, _, _, _, rfl, _⟩ := h; rfl) | (obtain ⟨_, _, _, _, _, _, rfl, _⟩ := h; rfl) | (obtain ⟨_, _, _, _, _, _, _, rfl, _⟩ := h; rfl) | (obtain ⟨_, _, _, _, _, _, _, _, rfl, _⟩ := h; rfl) | (obtain ⟨_, _, _, _, _, _, _, _, _, rfl, _⟩ := h; rfl) | (obtain ⟨_, _, _, _, _, _, _, _, _, _, rfl, _⟩ := h; rfl) | (obtain ⟨_, _, _, _, _, _, _, _, _, _, _, rfl, _⟩ := h; rfl) | (obtain ⟨_, _, _, _, _, _, _, _, _, _, _, _, rfl, _⟩ := h; rfl) | (obtain ⟨_, _, _, _, _, _, _, _, _, _, _, _, _, rfl, _⟩ := h; rfl) | (obtain ⟨_, _, _, _, _, _, _, _, _, _, _, _, _, _, rfl, _⟩ := h; rfl) | (obtain ⟨_, _, _, _, _, _, _, _, _, _, _, _, _, _, _, rfl, _⟩ := h; rfl)
  · have hu64 := hr.units
    obtain ⟨r, f', rfl, hR, ok, q⟩ := h
    refine ⟨_, (pss_one (ps_ret (pe_join pe_str (pe_cf C_clauses_of (hr.mono (by decide)) (by rfl) (pa_cons (pe_mt0 C_Rule_figures_0 T_Rule.cl (hr.mono (by decide)) (pv 0)) pa_nil))))), ?_⟩
    have hR2 := hR
    obtain ⟨dx, kt, h1, h2⟩ := hR
    refine ⟨⟨_, rfl⟩, _, rfl, r, dx, _, rfl, h1, by rfl, r, f', rfl, hR2, fun H1 t kt2 nt s1 ht hk => ?_⟩
    refine ⟨t, kt2, f', rfl, SqT.of ht, hk, ok, fun H2 L s2 hL => ?_⟩
    obtain ⟨b1, b2⟩ := cls_len ok
    have e2 : (Str.ofString ", ").length = 2 := rfl
    refine ⟨_, _, _, rfl, rfl, .inl (SqL.of hL), ?_, q H2 (s1.trans s2)⟩
    rw [e2]
    omega
def figD (f : Fg) : PyData := .tuple [.int f.p, .int f.s, .int f.g, .bool f.l, .int f.m, .tuple (f.ks.map PyData.int), .int f.fi, .int f.fa, .int f.ba]
theorem fig_dp {K : PySem.W.Frag} {H : Hp} {t a : Addr} {f : Fg} (h : SqT K H t [.int f.p, .int f.s, .int f.g, .bl f.l, .int f.m, .ref a, .int f.fi, .int f.fa, .int f.ba]) (ha : SqT K H a (f.ks.map V.int)) : Dp K H (.ref t) (figD f) :=
  .tup h (.cons (.int _) (.cons (.int _) (.cons (.int _) (.cons (.bl _) (.cons (.int _) (.cons (dpAll_intsT ha) (.cons (.int _) (.cons (.int _) (.cons (.int _) .nil)))))))))
theorem fig_depth (f : Fg) : PyData.depth (figD f) ≤ 4 := by
  have := depth_ints f.ks
  simp only [figD, PyData.depth, PyData.depthAll]
  omega
theorem thin_ints : ∀ ns : List Int, thinAll (ns.map PyData.int) = true
  | [] => rfl
  | n :: r => by
    rw [List.map_cons]
    simp only [thinAll, thin, Bool.true_and]
    exact thin_ints r
theorem fig_thin {f : Fg} (ok : f.Ok) : thin (figD f) = true := by
  have h1 := ok.len
  have h2 := ok.figs.p1
  simp only [figD, thin, thinAll, thin_ints, List.length_map, Bool.and_true, Bool.true_and]
  rw [Bool.and_eq_true]
  exact ⟨rfl, decide_eq_true (by omega)⟩
theorem fig_shaped (f : Fg) : SeqAt.shaped (figD f) = true := by
  have h1 := fig_depth f
  have h2 := lay_ints f.ks
  show (PyData.canLay0 (figD f) && decide (PyData.depth (figD f) ≤ 64)) = true
  rw [Bool.and_eq_true]
  exact ⟨by simp only [figD, PyData.canLay0, PyData.canLayAll0, h2, Bool.and_true], decide_eq_true (by omega)⟩
theorem eqv_ints : ∀ {ks ls : List Int}, PyData.eqvAll (ks.map PyData.int) (ls.map PyData.int) = true → ks = ls
  | [], [], _ => rfl
  | [], _ :: _, h => by simp [PyData.eqvAll] at h
  | _ :: _, [], h => by simp [PyData.eqvAll] at h
  | k :: r, a :: b, h => by
    simp only [List.map_cons, PyData.eqvAll, PyData.eqv, Bool.and_eq_true, beq_iff_eq] at h
    rw [eqv_ints h.2, h.1]
def alike (f f2 : Fg) : Bool := PyData.eqv (figD f) (figD f2)
theorem alike_eq {f f2 : Fg} (h : alike f f2 = true) : f = f2 := by
  obtain ⟨p, s, g, l, m, ks, fi, fa, ba⟩ := f
  obtain ⟨p2, s2, g2, l2, m2, ks2, fi2, fa2, ba2⟩ := f2
  unfold alike figD at h
  simp only [PyData.eqvAll, PyData.eqv, Bool.and_eq_true, beq_iff_eq] at h
  obtain ⟨h1, h2, h3, h4, h5, h6, h7, h8, h9, _⟩ := h
  have := eqv_ints h6
  subst h1 h2 h3 h4 h5 this h7 h8 h9
  rfl
theorem alike_self (f : Fg) : alike f f = true := SeqAt.eqv_refl _ (SeqAt.canLay_of_shaped (fig_shaped f))
theorem unlike {f f2 : Fg} (h : f ≠ f2) : alike f f2 = false := by
  cases e : alike f f2 with
  | false => rfl
  | true => exact absurd (alike_eq e) h
/-! ### Rule___repr__ -/
abbrev s_Rule___repr__ : Stmt := inClass (topS 28) 6
abbrev N_Rule___repr__ : List Str := ["self"]
theorem sc_Rule___repr__ : FnScope N_Rule___repr__ ["self"] (defScope s_Rule___repr__) := ⟨rfl, rfl, rfl, by decide +kernel, rfl, by decide +kernel, by decide +kernel⟩
def sp_Rule___repr__ (K : PySem.W.Frag) (C : Addr) : Sp := fun vs H Q _ => ∃ (r : Addr) (f : Fg), vs = [.ref r] ∧ RuleAt K H C r f ∧ f.Ok ∧ ∀ H', Same H H' → Q (.str (Str.ofString "Rule(" ++ txtT f ++ Str.ofString ")")) H'
theorem ok_Rule___repr__ {f : Addr} {fd : FuncData} {CR : Addr} (TQ : TEq K mg CR "Rule") (T_Rule : TRule K mg CR) (C_Rule___str___0 : CTx P w K mg base CR 4 "__str__" (sp_Rule___str__ K CR)) (F : FunD K "__repr__" "Rule.__repr__" (defArgs s_Rule___repr__) (defBody s_Rule___repr__) (defScope s_Rule___repr__) [] [] f fd) : FnOk P w K mg base CX0 7 f fd ["self"] (sp_Rule___repr__ K CR) := by
  refine okD F sc_Rule___repr__ (fun vs H Q E h => ?_) (fun cdv A outer s H vs Q E hr h => ?_)
  · first | (obtain ⟨_, rfl, _⟩ := h; rfl) | (obtain ⟨_, _, rfl, _⟩ := h; rfl) | (obtain ⟨_, _, _, rfl, _⟩ := h; rfl) | (obtain ⟨_, _, _, _, rfl, _⟩ := h; rfl) | (obtain ⟨_, _, _, _, _, rfl, _⟩ := h; rfl) | (obtain ⟨_, _, _, _, _, _, rfl, _⟩ := h; rfl) | (obtain ⟨_, _, _, _, _, _, _, rfl, _⟩ := h; rfl) | (obtain ⟨_, _, _, _, _, _, _, _, rfl, _⟩ := h; rfl) | (obtain ⟨_, _, _, _, _, _, _, _, _, rfl, _⟩ := h; rfl) | (obtain ⟨_, _, _, _, _, _, _, _, _, _, rfl, _⟩ := h; rfl) | (obtain ⟨_, _, _, _, _, _, _, _, _, _, _, rfl, _⟩ := h; rfl) | (obtain ⟨_, _, _, _, _, _, _, _, _, _, _, _, rfl, _⟩ := h; rfl) | (obtain ⟨_, _, _, _, _, _, _, _, _, _, _, _, _, rfl, _⟩ := h; rfl) | (obtain ⟨_, _, _, _, _, _, _, _, _, _, _, _, _, _, rfl, _⟩ := h; rfl) | (obtain ⟨_, _, _, _, _, _, _, _, _, _, _, _, _, _, _, rfl, _⟩ := h; rfl)
  · have hu64 := hr.units
    obtain ⟨r, f', rfl, hR, ok, q⟩ := h
    refine ⟨_, (pss_one (ps_ret (pe_joined (PJ.cons pe_str (PJ.cons (pe_fmtSO C_Rule___str___0 (hr.mono (by decide)) (pv 0)) (PJ.cons pe_str PJ.nil)))))), ?_⟩
    obtain ⟨b1, b2⟩ := cls_len ok
    obtain ⟨dx, kt, h1, h2⟩ := id hR
    have jl := PySem.StrLaws.join_length_le (Str.ofString ", ") (clsT f')
    rw [← TL.join_eq] at jl
    have e2 : (Str.ofString ", ").length = 2 := rfl
    have e5 : (Str.ofString "Rule(").length = 5 := rfl
    have e1 : (Str.ofString ")").length = 1 := rfl
    have e0 : ∀ s : Str, Str.empty ++ s = s := fun s => by
      show Str.mk (#[] ++ s.cps) = s
      rw [Array.empty_append]
    rw [e2] at jl
    have tl : (txtT f').length ≤ 1000 := by
      show (Txt.join (Str.ofString ", ") (clsT f')).length ≤ 1000
      omega
    refine ⟨_, rfl, by rw [e0, e5, sizeLine_eq]; omega, _, rfl, r, dx, _, rfl, h1, r, f', rfl, hR, ok, fun H1 s1 => ⟨_, rfl, by rw [sizeLine_eq]; omega, _, rfl, by rw [e0, len_app, e5, sizeLine_eq]; omega, _, rfl, by rw [e0, len_app, len_app, e5, e1, sizeLine_eq]; omega, ?_⟩⟩
    rw [e0]
    exact q H1 s1
/-! ### Rule___eq__ -/
abbrev s_Rule___eq__ : Stmt := inClass (topS 28) 3
abbrev N_Rule___eq__ : List Str := ["self", "other"]
theorem sc_Rule___eq__ : FnScope N_Rule___eq__ ["self", "other"] (defScope s_Rule___eq__) := ⟨rfl, rfl, rfl, by decide +kernel, rfl, by decide +kernel, by decide +kernel⟩
def sp_Rule___eq__ (K : PySem.W.Frag) (C : Addr) : Sp := fun vs H Q _ => ∃ (r : Addr) (f : Fg) (y : V), vs = [.ref r, y] ∧ RuleAt K H C r f ∧ f.Ok ∧
  ((∃ (r2 : Addr) (f2 : Fg), y = .ref r2 ∧ RuleAt K H C r2 f2 ∧ f2.Ok ∧ ∀ H', Same H H' → Q (.bl (alike f f2)) H') ∨ ∃ tv, OEQ.TyV K C H y tv ∧ tv ≠ .ref C ∧ ∀ H', Same H H' → Q (.bl false) H')
theorem ok_Rule___eq__ {f : Addr} {fd : FuncData} {CR : Addr} (TQ : TEq K mg CR "Rule") (T_Rule : TRule K mg CR) (m_isinstance : mg "isinstance" = none) (C_Rule_figures_0 : CMt P w K mg base CR 1 "figures" ["self"] [] (sp_Rule_figures K CR)) (F : FunD K "__eq__" "Rule.__eq__" (defArgs s_Rule___eq__) (defBody s_Rule___eq__) (defScope s_Rule___eq__) [] [] f fd) : FnOk P w K mg base CX0 2 f fd ["self", "other"] (sp_Rule___eq__ K CR) := by
  refine okD F sc_Rule___eq__ (fun vs H Q E h => ?_) (fun cdv A outer s H vs Q E hr h => ?_)
  · first | (obtain ⟨_, rfl, _⟩ := h; rfl) | (obtain ⟨_, _, rfl, _⟩ := h; rfl) | (obtain ⟨_, _, _, rfl, _⟩ := h; rfl) | (obtain ⟨_, _, _, _, rfl, _⟩ := h; rfl) | (obtain ⟨_, _, _, _, _, rfl, _⟩ := h; rfl) | (obtain ⟨_, _, _, _, _, _, rfl, _⟩ := h; rfl) | (obtain ⟨_, _, _, _, _, _, _, rfl, _⟩ := h; rfl) | (obtain ⟨_, _, _, _, _, _, _, _, rfl, _⟩ := h; rfl) | (obtain ⟨_, _, _, _, _, _, _, _, _, rfl, _⟩ := h; rfl) | (obtain ⟨_, _, _, _, _, _, _, _, _, _, rfl, _⟩ := h; rfl) | (obtain ⟨_, _, _, _, _, _, _, _, _, _, _, rfl, _⟩ := h; rfl) | (obtain ⟨_, _, _, _, _, _, _, _, _, _, _, _, rfl, _⟩ := h; rfl) | (obtain ⟨_, _, _, _, _, _, _, _, _, _, _, _, _, rfl, _⟩ := h; rfl) | (obtain ⟨_, _, _, _, _, _, _, _, _, _, _, _, _, _, rfl, _⟩ := h; rfl) | (obtain ⟨_, _, _, _, _, _, _, _, _, _, _, _, _, _, _, rfl, _⟩ := h; rfl)
  · have hu64 := hr.units
    obtain ⟨r, f', y, rfl, hR, ok, q⟩ := h
    refine ⟨_, (pss_one (ps_ret (pe_and (pe_callB (kk_isi K) (by rfl) m_isinstance (by decide +kernel) (pa_cons (pv 1) (pa_cons (pe_glob (v := .ref CR) (by rfl) TQ.g rfl) pa_nil))) (pe_one (pe_cmpR (kk_eqD K hu64) (pe_mt0 C_Rule_figures_0 T_Rule.cl (hr.mono (by decide)) (pv 0)) (pe_mt0 C_Rule_figures_0 T_Rule.cl (hr.mono (by decide)) (pv 1)) (nomark _)))))), ?_⟩
    obtain ⟨dx, kt, h1, h2⟩ := id hR
    rcases q with ⟨r2, f2, rfl, hR2, ok2, q⟩ | ⟨tv, ty, hne, q⟩
    · obtain ⟨dx2, kt2, k1, k2⟩ := id hR2
      refine ⟨_, rfl, _, _, _, _, true, rfl, .own _, TQ.tyi T_Rule.cl k1, TQ.me, _, rfl, ?_⟩
      refine iteT ⟨_, rfl, r, dx, _, rfl, h1, by rfl, r, f', rfl, hR, fun H1 t1 a1 n1 s1 ht1 ha1 => ?_⟩
      refine ⟨_, rfl, r2, dx2, _, rfl, s1 _ _ k1, by rfl, r2, f2, rfl, hR2.same s1, fun H2 t2 a2 n2 s2 ht2 ha2 => ?_⟩
      exact ⟨figD f', figD f2, fig_dp (seqT_same s2 (SqT.of ht1)) (seqT_same s2 ha1), fig_dp (SqT.of ht2) ha2, fig_shaped _, fig_shaped _, q H2 (s1.trans s2)⟩
    · obtain ⟨T, rfl, hT, hx⟩ := ty.tyx hne
      refine ⟨_, rfl, _, _, _, _, false, rfl, .own _, hx, TQ.no T hT, _, rfl, ?_⟩
      exact iteF (q H (Same.refl H))
/-! ### a pair's [::-1] -/
section
variable {prog : Program} {w : World} {A : Around} {E : Value → Shared → Prop} {s : Shared}
theorem sliceApplied_back {sl : Addr} {vl vu vs : Value} {n : Nat} {Q : Int × Int × Nat → Shared → Prop} (hs : s.heap.IsSliceOf sl vl vu vs) (pl : IsPart vl none) (pu : IsPart vu none) (ps : IsPart vs (some (-1)))
    (h : Q ((n : Int) - 1, -1, n) s) : wpAny (model prog w) A (Builtin.Slice.sliceApplied (.ref sl) (pure (n : Int))) Q E s := by
  obtain ⟨os, hos, hcs, hds⟩ := id hs
  unfold Builtin.Slice.sliceApplied Builtin.Slice.sliceFields
  refine wpAny_bind (wpAny_bind (wpAny_field hos hds (x := vl) rfl (wpAny_bind (wpAny_field hos hds (x := vu) rfl (wpAny_bind (wpAny_field hos hds (x := vs) rfl (wpAny_pure ?_)))))))
  refine wpAny_bind (HT.slicePart_ ps ?_)
  show wpAny _ _ (if ((-1 : Int) == 0) = true then _ else _) _ _ s
  rw [if_neg (by decide)]
  refine wpAny_bind (HT.slicePart_ pl (wpAny_bind (HT.slicePart_ pu (wpAny_bind (wpAny_pure ?_)))))
  show wpAny _ _ (match Builtin.Slice.sliceAdjust none none (-1) (n : Int) with | (lo, hi) => pure (lo, (-1 : Int), Builtin.Slice.slicePlaces lo hi (-1))) _ _ s
  have e1 : Builtin.Slice.sliceAdjust none none (-1) (n : Int) = ((n : Int) - 1, -1) := rfl
  rw [e1]
  show wpAny _ _ (pure ((n : Int) - 1, (-1 : Int), Builtin.Slice.slicePlaces ((n : Int) - 1) (-1) (-1))) _ _ s
  have e2 : Builtin.Slice.slicePlaces ((n : Int) - 1) (-1) (-1) = n := by
    unfold Builtin.Slice.slicePlaces
    rw [if_neg (by decide), show (-(-1 : Int)) = 1 from rfl, Int.ediv_one]
    split <;> omega
  rw [e2]
  exact wpAny_pure h
theorem getItem_tuple_back2 {t sl : Addr} {x y : Value} {vl vu vs : Value} {Q : Value → Shared → Prop} (ht : IsTup s.heap t #[x, y]) (hs : s.heap.IsSliceOf sl vl vu vs) (pl : IsPart vl none) (pu : IsPart vu none) (ps : IsPart vs (some (-1)))
    (h : Q (.ref s.heap.objs.size) { s with heap := s.heap.push { cls := .type "tuple", data := .seq #[y, x] } }) : wpAny (model prog w) A (getItem (.ref t) (.ref sl)) Q E s := by
  have htake : sizeOk (.seq #[y, x]) := by
    show 2 ≤ sizeLine
    decide
  obtain ⟨os, hos, hcs, hds⟩ := id hs
  have hTs : s.TypeIs (.ref sl) "slice" := ⟨os, hos, hcs⟩
  unfold getItem
  try with_reducible refine wpAny_holding ?_
  first | refine wpAny_bind (wpAny_pure ?_) | skip
  refine wpAny_bind (wpAny_sequenceKey ht.typeIs (by decide) ?_)
  refine wpAny_bind (wpAny_callSpecial?_slot (name := Str.ofString "__getitem__") ht.typeIs PyProof.Rows.slot_tuple_getitem
    (wpAny_call_entry PyProof.Rows.slot_tuple_getitem ht.typeIs entry_tuple_getitem ?_ (args_tuple_getitem _ _)))
  show wpAny _ _ (Builtin.Tuple.tupleItemsOf (.ref t) >>= _) _ _ s
  refine wpAny_bind (tupleItemsOf_ ht ?_)
  refine wpAny_bind (wpAny_typeOf hTs ?_)
  rw [if_pos (by decide)]
  refine wpAny_bind (sliceApplied_back hs pl pu ps ?_)
  show wpAny _ _ (if ((((2 : Nat) : Int) - 1 : Int) == 0 && (-1 : Int) == 1 && (2 : Nat) == 2) = true then _ else _) _ _ s
  rw [if_neg (by decide)]
  have e : ((List.range 2).filterMap fun (m : Nat) => (#[x, y] : Array Value)[((((2 : Nat) : Int) - 1) + (m : Int) * (-1)).toNat]?).toArray = #[y, x] := rfl
  first
    | exact wpAny_bind (m := Builtin.Tuple.tupleExact _) (wpAny_newObj_type (wpAny_pure ⟨_, rfl, wpAny_pure h⟩) htake)
    | exact wpAny_bind (m := Builtin.Tuple.tupleExact _) (wpAny_newObj_type (wpAny_bind (wpAny_pure (wpAny_pure ⟨_, rfl, wpAny_pure h⟩))) htake)
    | exact wpAny_bind (wpAny_bind (m := Builtin.Tuple.tupleExact _) (wpAny_newObj_type (wpAny_pure (wpAny_pure ⟨_, rfl, wpAny_pure h⟩)) htake))
    | exact wpAny_bind (wpAny_bind (m := Builtin.Tuple.tupleExact _) (wpAny_newObj_type (wpAny_pure ⟨_, rfl, wpAny_pure h⟩) htake))
end
def tRevT (K : PySem.W.Frag) (te : TE) : TE := fun σ H Q => te σ H fun z H1 => ∃ a x y, z = .ref a ∧ SqT K H1 a [x, y] ∧ ∀ p, H1 p = none → Q (.ref p) (upd H1 p (.tup [y, x]))
theorem pe_revT {X : Cx} {e : Expr} {te : TE} {k : Nat} {p1 p2 p3 pos : Pos} (he : PE X e te) : PE X (.Subscript e (.Slice none none (some (.UnaryOp .USub (.Constant (.int 1) k p1) p2)) p3) pos) (tRevT X.K te) := by
  refine ⟨fun pins s σ H Q I h => ?_⟩
  refine Subscript_ (thn (he.run pins s σ H _ I h) fun v s1 ⟨x0, H1, I1, r1, q1⟩ => ?_)
  obtain ⟨a, x, y, ex, hx, q⟩ := q1
  subst ex
  cases r1
  have hst : PO X (some (.UnaryOp .USub (.Constant (.int 1) k p1) p2)) (tPart (tUn (rU fun i => .int (-i)) (tC (.int 1)))) := po_some (pe_un un_neg pe_int)
  refine wpAny_Slice (thn (po_none.run pins s1 σ H1 (fun o H2 => o = none ∧ H2 = H1) I1 ⟨rfl, rfl⟩) fun vl s2 ⟨l, H2, I2, pl, el, e2⟩ => ?_)
  subst el e2
  refine thn (po_none.run pins s2 σ H2 (fun o H3 => o = none ∧ H3 = H2) I2 ⟨rfl, rfl⟩) fun vu s3 ⟨u, H3, I3, pu, eu, e3⟩ => ?_
  subst eu e3
  refine thn (hst.run pins s3 σ H3 (fun o H4 => o = some (-1) ∧ H4 = H3) I3 ⟨1, rfl, -1, rfl, rfl, rfl⟩) fun vs s4 ⟨o, H4, I4, ps, eo, e4⟩ => ?_
  subst eo e4
  have I5 : Inv X pins σ H4 { s4 with heap := s4.heap.push { cls := .type "slice", data := .fields #[vl, vu, vs] } } := I4.kept (t' := s4.toks) fun b ob q => Heap.get?_push_of_some _ q
  obtain ⟨its, r, ht, hz⟩ := I5.tuple hx
  obtain ⟨v1, rest, rfl, rx, r2⟩ : ∃ v1 rest, its = v1 :: rest ∧ RelV x v1 ∧ Vals [y] rest := by
    cases r with
    | cons h t => exact ⟨_, _, rfl, h, t⟩
  obtain ⟨v2, rest2, rfl, ry, r3⟩ : ∃ v2 rest2, rest = v2 :: rest2 ∧ RelV y v2 ∧ Vals [] rest2 := by
    cases r2 with
    | cons h t => exact ⟨_, _, rfl, h, t⟩
  cases r3
  show wpAny (model X.prog X.w) X.A (subscriptTail e (.Slice none none (some (.UnaryOp .USub (.Constant (.int 1) k p1) p2)) p3) (.ref a) (.ref s4.heap.objs.size)) (EP X pins σ Q) X.xe { s4 with heap := s4.heap.push { cls := .type "slice", data := .fields #[vl, vu, vs] } }
  refine PyProof.Rows.tail_any (ops := [.ref a, .ref s4.heap.objs.size]) ht.typeIs PyProof.Rows.slot_tuple_getitem.lookup ?_ (by with_unfolding_all rfl)
  refine getItem_tuple_back2 ht (Heap.IsSliceOf.new _ vl vu vs) pl pu ps ?_
  refine ⟨.ref _, _, I5.laid (t' := s4.toks) (o := .tup [y, x]) (fun b ob q => Heap.get?_push_of_some _ q) (Nat.le_refl _) ?_, rfl, q _ (I5.hok.fresh (Nat.le_refl _))⟩
  exact ⟨(by show 2 ≤ sizeLine; decide), _, .cons ry (.cons rx .nil), IsTup.new _ _⟩
theorem kk_revT (K : PySem.W.Frag) {X : Cx} {e : Expr} {te : TE} {k : Nat} {p1 p2 p3 pos : Pos} (he : PE X e te) (h : X.K = K := by rfl) : PE X (.Subscript e (.Slice none none (some (.UnaryOp .USub (.Constant (.int 1) k p1) p2)) p3) pos) (tRevT K te) := h ▸ pe_revT he
/-! ### all rows to a day -/
def lastD (r : List Int) : Int := if r = [] then 0 else r.getLastD 0
def daysFrom (lo e : Int) : List Int := (List.range (e + 1 - lo).toNat).map fun (i : Nat) => lo + (i : Int)
def moreR (e : Int) (r : List Int) : List (List Int) := (daysFrom (lastD r) e).map fun d => r ++ [d]
def rowsTo (e : Int) : Nat → List (List Int)
  | 0 => [[]]
  | n + 1 => (rowsTo e n).flatMap (moreR e)
theorem mem_days {lo e d : Int} : d ∈ daysFrom lo e ↔ lo ≤ d ∧ d ≤ e := by
  unfold daysFrom
  rw [List.mem_map]
  constructor
  · rintro ⟨i, hi, rfl⟩
    have := List.mem_range.mp hi
    omega
  · rintro ⟨h1, h2⟩
    exact ⟨(d - lo).toNat, List.mem_range.mpr (by omega), by omega⟩
theorem lastD_snoc (r : List Int) (d : Int) : lastD (r ++ [d]) = d := by
  unfold lastD
  rw [if_neg (by simp)]
  simp
theorem last_le {r : List Int} {e : Int} (h : RowTo r e) (he : 0 ≤ e) : 0 ≤ lastD r ∧ lastD r ≤ e := by
  unfold lastD
  split
  · exact ⟨Int.le_refl 0, he⟩
  · rename_i c
    have hm : r.getLastD 0 ∈ r := by
      rw [List.getLastD_eq_getLast?, List.getLast?_eq_some_getLast c]
      exact List.getLast_mem c
    exact h.2 _ hm
theorem row_snoc {r : List Int} {e d : Int} : RowTo (r ++ [d]) e ↔ RowTo r e ∧ lastD r ≤ d ∧ 0 ≤ d ∧ d ≤ e := by
  constructor
  · rintro ⟨h1, h2⟩
    obtain ⟨a, b, c⟩ := List.pairwise_append.mp h1
    have hd := h2 d (List.mem_append_right _ (List.mem_singleton.mpr rfl))
    refine ⟨⟨a, fun x hx => h2 x (List.mem_append_left _ hx)⟩, ?_, hd⟩
    unfold lastD
    split
    · exact hd.1
    · rename_i n
      have hm : r.getLastD 0 ∈ r := by
        rw [List.getLastD_eq_getLast?, List.getLast?_eq_some_getLast n]
        exact List.getLast_mem n
      exact c _ hm d (List.mem_singleton.mpr rfl)
  · rintro ⟨⟨h1, h2⟩, h3, h4, h5⟩
    refine ⟨List.pairwise_append.mpr ⟨h1, List.pairwise_singleton _ _, fun x hx y hy => ?_⟩, fun x hx => ?_⟩
    · rw [List.mem_singleton.mp hy]
      have hne : r ≠ [] := fun z => by
        rw [z] at hx
        cases hx
      have hl : x ≤ lastD r := by
        unfold lastD
        rw [if_neg hne, List.getLastD_eq_getLast?, List.getLast?_eq_some_getLast hne]
        show x ≤ r.getLast hne
        obtain ⟨i, hi, rfl⟩ := List.mem_iff_getElem.mp hx
        rw [List.getLast_eq_getElem]
        by_cases c : i = r.length - 1
        · subst c
          exact Int.le_refl _
        · exact List.pairwise_iff_getElem.mp h1 i (r.length - 1) hi (by omega) (by omega)
      omega
    · rcases List.mem_append.mp hx with z | z
      · exact h2 x z
      · rw [List.mem_singleton.mp z]
        exact ⟨h4, h5⟩
theorem mem_rows {e : Int} (he : 0 ≤ e) : ∀ {n : Nat} {r : List Int}, r ∈ rowsTo e n ↔ r.length = n ∧ RowTo r e
  | 0, r => by
    show r ∈ [[]] ↔ _
    rw [List.mem_singleton]
    constructor
    · rintro rfl
      exact ⟨rfl, List.Pairwise.nil, fun d hd => nomatch hd⟩
    · rintro ⟨h, _⟩
      exact List.eq_nil_of_length_eq_zero h
  | n + 1, r => by
    show r ∈ (rowsTo e n).flatMap (moreR e) ↔ _
    rw [List.mem_flatMap]
    constructor
    · rintro ⟨r0, h0, h1⟩
      obtain ⟨d, hd, rfl⟩ := List.mem_map.mp h1
      obtain ⟨hl, hr⟩ := (mem_rows he).mp h0
      have hd := mem_days.mp hd
      have := (last_le hr he).1
      exact ⟨by rw [List.length_append, hl]; rfl, row_snoc.mpr ⟨hr, hd.1, by omega, hd.2⟩⟩
    · rintro ⟨hl, hr⟩
      have hne : r ≠ [] := fun z => by
        rw [z] at hl
        cases hl
      have e1 : r = r.dropLast ++ [r.getLast hne] := (List.dropLast_concat_getLast hne).symm
      rw [e1] at hr
      obtain ⟨h1, h2, h3, h4⟩ := row_snoc.mp hr
      refine ⟨r.dropLast, (mem_rows he).mpr ⟨by rw [List.length_dropLast]; omega, h1⟩, List.mem_map.mpr ⟨r.getLast hne, mem_days.mpr ⟨h2, h4⟩, e1.symm⟩⟩
theorem ll_snoc_lt (x y : Int) : ∀ (a b : List Int), a.length = b.length → PySem.W.listLt a b = true → PySem.W.listLt (a ++ [x]) (b ++ [y]) = true
  | [], [], _, h => by cases h
  | [], _ :: _, h, _ => by cases h
  | _ :: _, [], h, _ => by cases h
  | c :: a, d :: b, h, h1 => by
    simp only [List.length_cons] at h
    rw [List.cons_append, List.cons_append, ll_cons]
    rw [ll_cons] at h1
    by_cases e : c = d
    · subst e
      rw [if_pos rfl] at h1 ⊢
      exact ll_snoc_lt x y a b (by omega) h1
    · rw [if_neg e] at h1 ⊢
      exact h1
theorem ll_snoc_same (a : List Int) {x y : Int} (h : x < y) : PySem.W.listLt (a ++ [x]) (a ++ [y]) = true := by
  induction a with
  | nil =>
    show PySem.W.listLt [x] [y] = true
    rw [ll_cons, if_neg (by omega)]
    exact decide_eq_true h
  | cons c a ih =>
    rw [List.cons_append, List.cons_append, ll_cons, if_pos rfl]
    exact ih
theorem rows_sorted {e : Int} (he : 0 ≤ e) : ∀ n : Nat, (rowsTo e n).Pairwise fun a b => PySem.W.listLt a b = true
  | 0 => List.pairwise_singleton _ _
  | n + 1 => by
    show ((rowsTo e n).flatMap (moreR e)).Pairwise _
    rw [List.pairwise_flatMap]
    refine ⟨fun r _ => ?_, (rows_sorted he n).imp_of_mem fun {a b} ha hb hab x hx y hy => ?_⟩
    · unfold moreR daysFrom
      rw [List.map_map]
      refine List.pairwise_map.mpr ((List.pairwise_lt_range).imp fun {i j} hij => ?_)
      exact ll_snoc_same r (x := lastD r + (i : Int)) (y := lastD r + (j : Int)) (by omega)
    · obtain ⟨d, _, rfl⟩ := List.mem_map.mp hx
      obtain ⟨d2, _, rfl⟩ := List.mem_map.mp hy
      exact ll_snoc_lt d d2 a b (by rw [((mem_rows he).mp ha).1, ((mem_rows he).mp hb).1]) hab
theorem rows_few (e : Int) (he : 0 ≤ e) (h : e ≤ 30) : ∀ n : Nat, (rowsTo e n).length ≤ 31 ^ n
  | 0 => Nat.le_refl _
  | n + 1 => by
    show ((rowsTo e n).flatMap (moreR e)).length ≤ _
    have one : ∀ l : List (List Int), (∀ r ∈ l, RowTo r e) → (l.flatMap (moreR e)).length ≤ l.length * 31 := fun l => by
      induction l with
      | nil => exact fun _ => Nat.le_refl _
      | cons r l ih =>
        intro hl
        rw [List.flatMap_cons, List.length_append, List.length_cons]
        have h1 := ih fun x hx => hl x (List.mem_cons_of_mem _ hx)
        have h2 := last_le (hl r List.mem_cons_self) he
        have h3 : (moreR e r).length ≤ 31 := by
          unfold moreR daysFrom
          rw [List.length_map, List.length_map, List.length_range]
          omega
        omega
    have h1 := one (rowsTo e n) fun r hr => ((mem_rows he).mp hr).2
    have h2 := rows_few e he h n
    rw [Nat.pow_succ]
    exact Nat.le_trans h1 (Nat.mul_le_mul_right 31 h2)
/-! ### more days than parts tell nothing; late enough nothing changes -/
theorem fold_paid {f : Fg} (F : Few f) {e : Int} : ∀ (ds : List Int) (c : Cs), (∀ d ∈ ds, d ≤ e) → (c.w = .st → c.p < f.p) → let c' := ds.foldl (stepT f.p f.s f.g f.l f.m e) c; c'.w = .st → c'.p = c.p + ds.length ∧ c'.p < f.p
  | [], c, _, hc => fun h => ⟨by simp, hc h⟩
  | d :: r, c, hb, hc => by
    intro c' h
    have h1 := hb d List.mem_cons_self
    have ec : c' = r.foldl (stepT f.p f.s f.g f.l f.m e) (payF f (passF f c d) d) := by
      show (d :: r).foldl _ c = _
      rw [List.foldl_cons, step_on h1]
      rfl
    by_cases hw : (payF f (passF f c d) d).w = .st
    · have hw2 : (passF f c d).w = .st := by
        by_cases z : (passF f c d).w = .st
        · exact z
        · rw [payF_over z] at hw
          exact absurd hw z
      have hw3 : c.w = .st := by
        by_cases z : c.w = .st
        · exact z
        · have : passF f c d = c := passT_over z
          rw [this] at hw2
          exact absurd hw2 z
      have p1 : (passF f c d).p = c.p := passF_p
      have p2 := payF_p (f := f) (e := d) hw2
      have hlt : (payF f (passF f c d) d).p < f.p := by
        have := p2.2 hw
        have := hc hw3
        rw [p2.1, p1]
        omega
      have ih := fold_paid F r (payF f (passF f c d) d) (fun x hx => hb x (List.mem_cons_of_mem _ hx)) (fun _ => hlt)
      rw [ec] at h ⊢
      obtain ⟨a, b⟩ := ih h
      refine ⟨?_, b⟩
      rw [a, p2.1, p1, List.length_cons]
      omega
    · rw [ec, fold_over hw r] at h
      exact absurd h hw
theorem cf_take {f : Fg} (F : Few f) {ds : List Int} {e : Int} (h : RowTo ds e) {k : Nat} (hk : f.p ≤ k) : cf f (ds.take k) e = cf f ds e := by
  by_cases c : ds.length ≤ k
  · rw [List.take_of_length_le c]
  · unfold cf courseT
    have e1 : ds.foldl (stepT f.p f.s f.g f.l f.m e) cs0 = (ds.take k).foldl (stepT f.p f.s f.g f.l f.m e) cs0 := by
      conv => lhs; rw [← List.take_append_drop k ds, List.foldl_append]
      refine fold_over (fun z => ?_) _
      have := fold_paid F (e := e) (ds.take k) cs0 (fun d hd => (h.2 d (List.mem_of_mem_take hd)).2) (fun _ => by have := F.p0; show (0 : Int) < f.p; omega) z
      obtain ⟨a, b⟩ := this
      rw [a, List.length_take] at b
      have : (0 : Int) + ((min k ds.length : Nat) : Int) < f.p := b
      omega
    rw [e1]
theorem row_take {ds : List Int} {e : Int} (k : Nat) (h : RowTo ds e) : RowTo (ds.take k) e := ⟨h.1.sublist (List.take_sublist _ _), fun d hd => h.2 d (List.mem_of_mem_take hd)⟩
/-! ### the first of all rows -/
section
variable {f g : Fg} {e : Int} {M n i : Nat} {r : List Int}
def Upto (f g : Fg) (M : Nat) (e : Int) : Prop := ∀ e1 ds, 0 ≤ e1 → e1 < e → RowTo ds e1 → ds.length ≤ M → unl f g ds e1 = false
def UptoN (f g : Fg) (e : Int) (n : Nat) : Prop := ∀ ds, RowTo ds e → ds.length < n → unl f g ds e = false
def UptoI (f g : Fg) (e : Int) (n i : Nat) : Prop := ∀ j r, j < i → (rowsTo e n)[j]? = some r → unl f g r e = false
theorem unl_take (F : Few f) (G : Few g) (hf : f.p ≤ M) (hg : g.p ≤ M) {ds : List Int} (h : RowTo ds e) : unl f g (ds.take M) e = unl f g ds e := by
  unfold unl pairAt
  rw [cf_take F h hf, cf_take G h hg]
theorem upto_zero : Upto f g M 0 := fun e1 _ h0 h1 => by omega
theorem uptoN_zero : UptoN f g e 0 := fun _ _ h => absurd h (Nat.not_lt_zero _)
theorem uptoI_zero : UptoI f g e n 0 := fun _ _ h => absurd h (Nat.not_lt_zero _)
theorem uptoI_next (h : UptoI f g e n i) (hr : (rowsTo e n)[i]? = some r) (hu : unl f g r e = false) : UptoI f g e n (i + 1) := fun j r2 hj h2 => by
  by_cases c : j = i
  · subst c
    rw [hr] at h2
    cases h2
    exact hu
  · exact h j r2 (by omega) h2
theorem uptoN_next (he : 0 ≤ e) (h : UptoN f g e n) (hi : UptoI f g e n (rowsTo e n).length) : UptoN f g e (n + 1) := fun ds hr hl => by
  by_cases c : ds.length = n
  · obtain ⟨j, hj, ej⟩ := List.mem_iff_getElem.mp ((mem_rows he).mpr ⟨c, hr⟩)
    exact hi j ds hj (by rw [List.getElem?_eq_getElem hj, ej])
  · exact h ds hr (by omega)
theorem upto_next (h : Upto f g M e) (hn : UptoN f g e (M + 1)) : Upto f g M (e + 1) := fun e1 ds h0 h1 hr hl => by
  by_cases c : e1 = e
  · subst c
    exact hn ds hr (by omega)
  · exact h e1 ds h0 (by omega) hr hl
theorem found_first (F : Few f) (G : Few g) (hf : f.p ≤ M) (hg : g.p ≤ M) (hM : M ≤ 3) (e0 : 0 ≤ e) (e1 : e ≤ 81) (hn : n ≤ M) (a : Upto f g M e) (b : UptoN f g e n) (c : UptoI f g e n i) (hr : (rowsTo e n)[i]? = some r) (hu : unl f g r e = true) : IsFirst f g (some (r, e)) := by
  obtain ⟨hrl, hrr⟩ := (mem_rows e0).mp (List.mem_of_getElem? hr)
  refine ⟨e0, e1, hrr, hu, by omega, fun d1 x h0 hx hxu => ?_⟩
  have hx2 := row_take M hx
  have hxu2 : unl f g (d1.take M) x = true := by rw [unl_take F G hf hg hx]; exact hxu
  have hl2 : (d1.take M).length ≤ M := by rw [List.length_take]; omega
  rcases Int.lt_trichotomy e x with z | z | z
  · exact .inl z
  · subst z
    refine .inr ⟨rfl, ?_⟩
    have l2 : rowLe (d1.take M) d1 := by
      by_cases y : d1.length ≤ M
      · rw [List.take_of_length_le y]
        exact rowLe_refl _
      · exact rowLe_len (by rw [List.length_take]; omega)
    refine rowLe_trans ?_ l2
    rcases Nat.lt_trichotomy (d1.take M).length n with y | y | y
    · rw [b _ hx2 y] at hxu2
      cases hxu2
    · obtain ⟨j, hj, ej⟩ := List.mem_iff_getElem.mp ((mem_rows h0).mpr ⟨y, hx2⟩)
      have ej2 : (rowsTo e n)[j]? = some (d1.take M) := by rw [List.getElem?_eq_getElem hj, ej]
      rcases Nat.lt_trichotomy j i with w | w | w
      · rw [c j _ w ej2] at hxu2
        cases hxu2
      · subst w
        rw [hr] at ej2
        cases ej2
        exact rowLe_refl _
      · obtain ⟨hi, ei⟩ := List.getElem?_eq_some_iff.mp hr
        have := List.pairwise_iff_getElem.mp (rows_sorted e0 n) i j hi hj w
        rw [ei, ej] at this
        refine rowLt_asym ?_
        rw [rowLt_eq, if_pos (by omega)]
        exact this
    · exact rowLe_len (by omega)
  · rw [a x _ h0 z hx2 hl2] at hxu2
    cases hxu2
theorem none_first (F : Few f) (G : Few g) (hf : f.p ≤ M) (hg : g.p ≤ M) {N : Int} (hN : 0 ≤ N) (late : ∀ ds e, RowTo ds e → chgB f (cf f ds e) e = true → e < N) (a : Upto f g M (N + 1)) : IsFirst f g none := fun ds e h0 hr => by
  have one : ∀ ds e, 0 ≤ e → e < N + 1 → RowTo ds e → unl f g ds e = false := fun ds e h0 h1 hr => by
    rw [← unl_take F G hf hg hr]
    exact a e _ h0 h1 (row_take M hr) (by rw [List.length_take]; omega)
  by_cases c : e < N + 1
  · exact one ds e h0 c hr
  · have hc := cut_row (e1 := N) hr
    refine stays_alike F G hr (e1 := N) (by omega) (one _ _ hN (by omega) hc) ?_
    cases y : chgB f (cf f (cut ds N) N) N with
    | false => rfl
    | true =>
      have := late _ _ hc y
      omega
end
/-! ### small rules change no more from day 13 on -/
structure Small (f : Fg) : Prop where
  fw : Few f
  s1 : f.s ≤ 2
  g1 : f.g ≤ 1
  m1 : f.m ≤ 1
  ba1 : f.ba ≤ 3
def S13 (c : Cs) : Prop := (c.w = .st → c.d ≤ 3 * c.p + 2 * c.m) ∧ (c.w = .so → c.d ≤ 9)
theorem s_passN {f : Fg} (F : Small f) {e : Int} : ∀ (n : Nat) (d p m : Int), d ≤ 3 * p + 2 * m → S13 (passN f.s f.g n d p m e)
  | 0, d, p, m, h => by
    by_cases c : d + f.g < e
    · rw [passN_go c]
      exact ⟨fun z => (by cases z), fun z => (by cases z)⟩
    · rw [passN_st c]
      exact ⟨fun _ => h, fun z => (by cases z)⟩
  | n + 1, d, p, m, h => by
    by_cases c : d + f.g < e
    · rw [passN_on c]
      have := F.s1
      exact s_passN F n (d + f.s) p (m + 1) (by omega)
    · rw [passN_st c]
      exact ⟨fun _ => h, fun z => (by cases z)⟩
theorem s_pass {f : Fg} (F : Small f) {c : Cs} {e : Int} (h : S13 c) : S13 (passF f c e) := by
  by_cases w : c.w = .st
  · obtain ⟨x, d, p, m⟩ := c
    cases (show x = .st from w)
    exact s_passN F _ d p m (h.1 rfl)
  · have a : passF f c e = c := passT_over w
    rw [a]
    exact h
theorem s_pay {f : Fg} (F : Small f) {c : Cs} {e : Int} (b : B1 f c) (u : Up f e c) (h : S13 c) : S13 (payF f c e) := by
  by_cases w : c.w = .st
  · have l := up_late u w
    obtain ⟨x, d, p, m⟩ := c
    cases (show x = .st from w)
    have l : e ≤ d + f.g := l
    have h1 : d ≤ 3 * p + 2 * m := h.1 rfl
    have h2 : p < f.p := b.lt (by intro z; cases z)
    have h3 : m ≤ f.m := b.m1
    have h4 := F.fw.p1
    have h5 := F.m1
    have h6 := F.g1
    have h7 := F.s1
    unfold payF
    by_cases q : p + 1 = f.p
    · rw [pay_so q]
      exact ⟨fun z => (by cases z), fun _ => (by show e ≤ 9; omega)⟩
    · rw [pay_st q]
      refine ⟨fun _ => ?_, fun z => (by cases z)⟩
      show (if f.l = true then e else d) + f.s ≤ 3 * (p + 1) + 2 * m
      split <;> omega
  · have a : payF f c e = c := payT_over w
    rw [a]
    exact h
theorem s_fold {f : Fg} (F : Small f) {e : Int} : ∀ (ds : List Int) (c : Cs), (∀ d ∈ ds, 0 ≤ d ∧ d ≤ e) → B1 f c → S13 c → S13 (ds.foldl (stepT f.p f.s f.g f.l f.m e) c)
  | [], _, _, _, h => h
  | d :: r, c, hb, b, h => by
    have h1 := hb d List.mem_cons_self
    rw [List.foldl_cons, step_on h1.2]
    have b1 := b_pass (e := d) F.fw b
    exact s_fold F r _ (fun x hx => hb x (List.mem_cons_of_mem _ hx)) (b_pay F.fw h1.1 b1 (up_pass b.m1)) (s_pay F b1 (up_pass b.m1) (s_pass F h))
theorem late13 {f : Fg} (F : Small f) (ds : List Int) (e : Int) (h : RowTo ds e) (hc : chgB f (cf f ds e) e = true) : e < 13 := by
  have b0 := b_fold F.fw (e := e) ds cs0 h.2 (b_cs0 F.fw)
  have s0 : S13 (cf f ds e) := s_pass F (s_fold F ds cs0 h.2 (b_cs0 F.fw) ⟨fun _ => Int.le_refl 0, fun z => (by cases z)⟩)
  have b := b_cf F.fw h
  have u := up_cf F.fw h
  have h4 := F.fw.p1
  have h5 := F.m1
  have h6 := F.g1
  have h7 := F.ba1
  unfold chgB at hc
  cases hw : (cf f ds e).w with
  | st =>
    have h1 := s0.1 hw
    have h2 := b.lt (by rw [hw]; intro z; cases z)
    have h3 := b.m1
    have := up_late u hw
    omega
  | go =>
    rw [hw] at hc
    cases hc
  | so =>
    rw [hw] at hc
    have := of_decide_eq_true hc
    have := s0.2 hw
    omega
  | up => exact absurd hw b.up
/-- a small thing -/
structure Sm (k B : Nat) (d : PyData) : Prop where
  sh : d.showable = true
  di : d.hasDict = false
  de : d.depth ≤ k
  le : d.shown.length ≤ B
theorem Sm.mono {k m B C : Nat} {d : PyData} (h : Sm k B d) (l : k ≤ m) (r : B ≤ C) : Sm m C d := ⟨h.sh, h.di, Nat.le_trans h.de l, Nat.le_trans h.le r⟩
theorem sm_int {i : Int} (h0 : -1000002 ≤ i) (h1 : i ≤ 1000002) : Sm 1 11 (.int i) := by
  refine ⟨?_, rfl, by simp [PyData.depth], ?_⟩
  · have : i.natAbs.log2 < 1920 := by
      by_cases z : i.natAbs = 0
      · rw [z]
        decide
      · have : i.natAbs.log2 < 30 := (Nat.log2_lt z).mpr (by show i.natAbs < 1073741824; omega)
        omega
    simp [PyData.showable, this]
  · have e1 : PyData.shown (.int i) = Str.ofString (toString i) := by simp only [PyData.shown]
    rw [e1]
    by_cases c : 0 ≤ i
    · exact Nat.le_trans (PyProof.Rows.toString_length_le (v := i) c (k := 10) (by decide) (by show i < 10000000000; omega)) (by decide)
    · have a := PyProof.Rows.len_text_negI (n := i) (by omega)
      have b := PyProof.Rows.toString_length_le (v := 0 - i) (by omega) (k := 10) (by decide) (by show 0 - i < 10000000000; omega)
      omega
theorem join_len (sep : Str) : ∀ ts : List Str, (Str.join sep ts).length ≤ (ts.map (·.length)).sum + ts.length * sep.length
  | [] => Nat.zero_le _
  | [x] => by
    show x.length ≤ _
    simp only [List.map_cons, List.map_nil, List.sum_cons, List.sum_nil]
    omega
  | x :: y :: r => by
    have h := join_len sep (y :: r)
    show (x ++ sep ++ Str.join sep (y :: r)).length ≤ _
    rw [len_app, len_app, List.map_cons, List.sum_cons, List.length_cons, Nat.add_mul, Nat.one_mul]
    omega
theorem all_len {B : Nat} : ∀ {l : List PyData}, (∀ d ∈ l, (PyData.shown d).length ≤ B) → ((PyData.shownAll l).map (·.length)).sum ≤ B * l.length ∧ (PyData.shownAll l).length = l.length
  | [], _ => ⟨Nat.le_refl _, rfl⟩
  | d :: r, h => by
    obtain ⟨a, b⟩ := all_len (l := r) fun x hx => h x (List.mem_cons_of_mem _ hx)
    have c := h d List.mem_cons_self
    rw [PyData.shownAll_cons, List.map_cons, List.sum_cons, List.length_cons, List.length_cons, b, Nat.mul_add]
    exact ⟨by omega, rfl⟩
theorem all_seen {k : Nat} : ∀ {l : List PyData}, (∀ d ∈ l, d.showable = true ∧ d.hasDict = false ∧ d.depth ≤ k) → PyData.showableAll l = true ∧ PyData.hasDictAll l = false ∧ PyData.depthAll l ≤ k
  | [], _ => by simp [PyData.showableAll, PyData.hasDictAll, PyData.depthAll]
  | d :: r, h => by
    obtain ⟨a, b, c⟩ := h d List.mem_cons_self
    obtain ⟨a2, b2, c2⟩ := all_seen (l := r) fun x hx => h x (List.mem_cons_of_mem _ hx)
    simp only [PyData.showableAll, PyData.hasDictAll, PyData.depthAll, a, b, a2, b2, Bool.and_self, Bool.or_self]
    exact ⟨trivial, trivial, by omega⟩
theorem sm_seq {k B : Nat} {l : List PyData} (h : ∀ d ∈ l, Sm k B d) (hl : l.length ≤ 9) : Sm (k + 1) (B * 9 + 21) (.list l) ∧ Sm (k + 1) (B * 9 + 21) (.tuple l) := by
  obtain ⟨a, b, c⟩ := all_seen (k := k) fun d hd => ⟨(h d hd).sh, (h d hd).di, (h d hd).de⟩
  obtain ⟨u, v⟩ := all_len (B := B) fun d hd => (h d hd).le
  have w := join_len ", " (PyData.shownAll l)
  have e3 : (Str.ofString ", ").length = 2 := rfl
  rw [v, e3] at w
  have e1 : (Str.ofString "[").length = 1 := rfl
  have e2 : (Str.ofString "]").length = 1 := rfl
  have u2 : B * l.length ≤ B * 9 := Nat.mul_le_mul_left B hl
  refine ⟨⟨by simp [PyData.showable, a], by simp [PyData.hasDict, b], by simp only [PyData.depth]; omega, ?_⟩, ⟨by simp [PyData.showable, a], by simp [PyData.hasDict, b], by simp only [PyData.depth]; omega, ?_⟩⟩
  · rw [PyData.shown_list, len_app, len_app, e1, e2]
    omega
  · have e4 : (Str.ofString (if (l.length == 1) = true then ",)" else ")")).length ≤ 2 := by split <;> decide +kernel
    have e5 : (Str.ofString "(").length = 1 := rfl
    rw [PyData.shown_tuple, len_app, len_app, e5]
    omega
theorem sm_ints {ns : List Int} (h : ∀ n ∈ ns, -1000002 ≤ n ∧ n ≤ 1000002) (hl : ns.length ≤ 9) : Sm 2 120 (.list (ns.map PyData.int)) ∧ Sm 2 120 (.tuple (ns.map PyData.int)) := by
  refine sm_seq (k := 1) (B := 11) (fun d hd => ?_) (by rw [List.length_map]; exact hl)
  obtain ⟨n, hn, rfl⟩ := List.mem_map.mp hd
  exact sm_int (h n hn).1 (h n hn).2
theorem ifs_by {test : TT} {body : TS} {D : Ends} {σ : _root_.L2.St} {G : Hp} (P : Hp → Prop) (fin : ∀ G', P G' → D.nx σ G') (h : (∀ G', P G' → D.nx σ G') → tIfS test body tNext D σ G) : tIfS test body tNext D σ G := h fin
theorem nm_go {i : Nat} {v : V} {σ : _root_.L2.St} {H : Hp} {Q : _root_.L2.St → Hp → Prop} (h : Q (σ.set i (some v)) H) : gName i v σ H Q := h
theorem next_go {D : Ends} {σ : _root_.L2.St} {H : Hp} (h : D.nx σ H) : tNext D σ H := h
theorem seq_go {t u : TS} {D : Ends} {σ : _root_.L2.St} {H : Hp} (h : t { D with nx := u D } σ H) : tSeq t u D σ H := h
theorem te_by {te : TE} {σ : _root_.L2.St} {H : Hp} {Q : VK} (P : V → Hp → Prop) (fin : ∀ v G, P v G → Q v G) (h : (∀ v G, P v G → Q v G) → te σ H Q) : te σ H Q := h fin
/-- rows by reference, at places that are well -/
def Refs2 (ok : Addr → Prop) (G : Hp) (ws : List V) (l : List (List Int)) : Prop := Paired (fun v row => ∃ r, v = V.ref r ∧ ok r ∧ RowO G r row) ws l
theorem Refs2.map {ok ok' : Addr → Prop} {G G' : Hp} {ws : List V} {l : List (List Int)} (h : Refs2 ok G ws l) (e : ∀ r xs, ok r → RowO G r xs → ok' r ∧ RowO G' r xs) : Refs2 ok' G' ws l := by
  induction h with
  | nil => exact .nil
  | cons q t ih =>
    obtain ⟨r, h1, h2, h3⟩ := q
    obtain ⟨h4, h5⟩ := e r _ h2 h3
    exact .cons ⟨r, h1, h4, h5⟩ ih
theorem Refs2.app {ok : Addr → Prop} {G : Hp} {ws zs : List V} {l m : List (List Int)} (h : Refs2 ok G ws l) (h2 : Refs2 ok G zs m) : Refs2 ok G (ws ++ zs) (l ++ m) := by
  induction h with
  | nil => exact h2
  | cons q t ih => exact .cons q ih
theorem Refs2.len {ok : Addr → Prop} {G : Hp} {ws : List V} {l : List (List Int)} (h : Refs2 ok G ws l) : ws.length = l.length := Paired.length h
theorem eqv_nil (r : List Int) : PyData.eqv (.list (r.map PyData.int)) (.list []) = decide (r = []) := by
  cases r with
  | nil => decide +kernel
  | cons a r => simp [PyData.eqv, PyData.eqvAll]
theorem last_at {r : List Int} (h : r ≠ []) : atI (r.map V.int) (-1) = some (.int (lastD r)) := by
  have e1 : r = r.dropLast ++ [r.getLast h] := (List.dropLast_concat_getLast h).symm
  have e2 : lastD r = r.getLast h := by
    unfold lastD
    rw [if_neg h, List.getLastD_eq_getLast?, List.getLast?_eq_some_getLast h]
    rfl
  rw [e2]
  have e3 : r.map V.int = r.dropLast.map V.int ++ [V.int (r.getLast h)] := by
    conv => lhs; rw [e1, List.map_append]
    rfl
  rw [e3]
  exact atI_last _ _
theorem days_next {lo e : Int} {k : Nat} (h : k < (e + 1 - lo).toNat) : (daysFrom lo e).take (k + 1) = (daysFrom lo e).take k ++ [lo + (k : Int)] := by
  unfold daysFrom
  rw [List.take_add_one, List.getElem?_map, List.getElem?_range h]
  rfl
theorem days_len (lo e : Int) : (daysFrom lo e).length = (e + 1 - lo).toNat := by
  unfold daysFrom
  rw [List.length_map, List.length_range]
/-- what parted tells, as it lies -/
def resD : Option (List Int × Int) → PyData
  | none => .none
  | some (d, e) => .tuple [.list (d.map PyData.int), .int e]
def ResAt (H : Hp) (res : Option (List Int × Int)) (v : V) : Prop := (res = none ∧ v = .non) ∨ ∃ d e t la, res = some (d, e) ∧ v = .ref t ∧ RowO H la d ∧ H t = some (.tup [.ref la, .int e])
theorem ResAt.same {H H' : Hp} {res : Option (List Int × Int)} {v : V} (h : ResAt H res v) (s : Same H H') : ResAt H' res v := by
  rcases h with h | ⟨d, e, t, la, h1, h2, h3, h4⟩
  · exact .inl h
  · exact .inr ⟨d, e, t, la, h1, h2, s _ _ h3, s _ _ h4⟩
theorem ResAt.dp {K : PySem.W.Frag} {H : Hp} {res : Option (List Int × Int)} {v : V} (h : ResAt H res v) : Dp K H v (resD res) := by
  rcases h with ⟨rfl, rfl⟩ | ⟨d, e, t, la, rfl, rfl, h3, h4⟩
  · exact .non
  · exact .tup (SqT.of h4) (.cons (dp_ints (SqL.of h3)) (.cons (.int _) .nil))
theorem resD_depth : ∀ res, PyData.depth (resD res) ≤ 2
  | none => by decide
  | some (d, e) => depth_pair d e
theorem resD_thin {f g : Fg} : ∀ {res}, IsFirst f g res → thin (resD res) = true
  | none, _ => rfl
  | some (d, e), h => thin_pair e (by have := h.2.2.2.2.1; omega)
/-! ### how much a thing is to show -/
mutual
def odD (B : Nat) : PyData → Bool
  | .int i => decide (i.natAbs ≤ B)
  | .str s => decide (s = Str.ofString "" ∨ s = Str.ofString "0")
  | .none => true
  | .bool _ => true
  | .list l => odL B l
  | .tuple l => odL B l
  | _ => false
def odL (B : Nat) : List PyData → Bool
  | [] => true
  | d :: r => odD B d && odL B r
end
mutual
def wt : PyData → Nat
  | .list l => wtL l + 3
  | .tuple l => wtL l + 3
  | _ => 40
def wtL : List PyData → Nat
  | [] => 0
  | d :: r => wt d + 2 + wtL r
end
theorem odL_iff {B : Nat} : ∀ {l : List PyData}, odL B l = true ↔ ∀ d ∈ l, odD B d = true
  | [] => ⟨fun _ _ h => (nomatch h), fun _ => by simp only [odL]⟩
  | d :: r => by
    simp only [odL, Bool.and_eq_true, odL_iff (l := r), List.forall_mem_cons]
theorem depthAll_iff {k : Nat} : ∀ {l : List PyData}, PyData.depthAll l ≤ k ↔ ∀ d ∈ l, PyData.depth d ≤ k
  | [] => ⟨fun _ _ h => (nomatch h), fun _ => by simp [PyData.depthAll]⟩
  | d :: r => by
    simp only [PyData.depthAll, List.forall_mem_cons, ← depthAll_iff (l := r)]
    omega
mutual
theorem odD_mono {B C : Nat} (h : B ≤ C) : ∀ d, odD B d = true → odD C d = true
  | .int i, e => by
    simp only [odD, decide_eq_true_eq] at e ⊢
    omega
  | .str s, e => by
    simp only [odD] at e ⊢
    exact e
  | .none, _ => by simp only [odD]
  | .bool _, _ => by simp only [odD]
  | .list l, e => by
    simp only [odD] at e ⊢
    exact odL_mono h l e
  | .tuple l, e => by
    simp only [odD] at e ⊢
    exact odL_mono h l e
  | .dict _, e => by simp only [odD] at e; cases e
theorem odL_mono {B C : Nat} (h : B ≤ C) : ∀ l, odL B l = true → odL C l = true
  | [], _ => by simp only [odL]
  | d :: r, e => by
    simp only [odL, Bool.and_eq_true] at e ⊢
    exact ⟨odD_mono h d e.1, odL_mono h r e.2⟩
end
theorem big_log {n : Nat} (h : n ≤ 10 ^ 31) : n.log2 < 1920 := by
  by_cases z : n = 0
  · rw [z]
    decide
  · exact (Nat.log2_lt z).mpr (Nat.lt_of_le_of_lt h (Nat.lt_of_lt_of_le (show 10 ^ 31 < 2 ^ 200 by decide) (Nat.pow_le_pow_right (i := 200) (j := 1920) (by decide) (by decide))))
theorem int_shown {i : Int} (h : i.natAbs ≤ 10 ^ 31) : (PyData.shown (.int i)).length ≤ 40 := by
  have e1 : PyData.shown (.int i) = Str.ofString (toString i) := by simp only [PyData.shown]
  rw [e1]
  by_cases c : 0 ≤ i
  · exact Nat.le_trans (PyProof.Rows.toString_length_le (v := i) c (k := 32) (by decide) (by omega)) (by decide)
  · have a := PyProof.Rows.len_text_negI (n := i) (by omega)
    have b := PyProof.Rows.toString_length_le (v := 0 - i) (by omega) (k := 32) (by decide) (by omega)
    omega
/-- the model can show it -/
structure Shw (d : PyData) : Prop where
  sh : d.showable = true
  di : d.hasDict = false
  le : d.shown.length ≤ wt d
theorem seq_shw {l : List PyData} (h1 : PyData.showableAll l = true) (h2 : PyData.hasDictAll l = false) (h3 : ((PyData.shownAll l).map (·.length)).sum + (PyData.shownAll l).length * 2 ≤ wtL l) : Shw (.list l) ∧ Shw (.tuple l) := by
  have w := join_len ", " (PyData.shownAll l)
  have e3 : (Str.ofString ", ").length = 2 := rfl
  rw [e3] at w
  have e1 : (Str.ofString "[").length = 1 := rfl
  have e2 : (Str.ofString "]").length = 1 := rfl
  refine ⟨⟨by simp [PyData.showable, h1], by simp [PyData.hasDict, h2], ?_⟩, ⟨by simp [PyData.showable, h1], by simp [PyData.hasDict, h2], ?_⟩⟩
  · rw [PyData.shown_list, len_app, len_app, e1, e2, wt]
    omega
  · have e4 : (Str.ofString (if (l.length == 1) = true then ",)" else ")")).length ≤ 2 := by split <;> decide +kernel
    have e5 : (Str.ofString "(").length = 1 := rfl
    rw [PyData.shown_tuple, len_app, len_app, e5, wt]
    omega
mutual
theorem odD_shw {B : Nat} (hB : B ≤ 10 ^ 31) : ∀ d, odD B d = true → Shw d
  | .int i, e => by
    simp only [odD, decide_eq_true_eq] at e
    have e := Nat.le_trans e hB
    exact ⟨by simp [PyData.showable, big_log e], rfl, by simp only [wt]; exact int_shown e⟩
  | .str s, e => by
    simp only [odD, decide_eq_true_eq] at e
    rcases e with rfl | rfl
    · exact ⟨by decide +kernel, rfl, by decide +kernel⟩
    · exact ⟨by decide +kernel, rfl, by decide +kernel⟩
  | .none, _ => ⟨by decide +kernel, rfl, by decide +kernel⟩
  | .bool b, _ => by cases b <;> exact ⟨by decide +kernel, rfl, by decide +kernel⟩
  | .list l, e => by
    simp only [odD] at e
    obtain ⟨a, b, c⟩ := odL_shw hB l e
    exact (seq_shw a b c).1
  | .tuple l, e => by
    simp only [odD] at e
    obtain ⟨a, b, c⟩ := odL_shw hB l e
    exact (seq_shw a b c).2
  | .dict _, e => by simp only [odD] at e; cases e
theorem odL_shw {B : Nat} (hB : B ≤ 10 ^ 31) : ∀ l, odL B l = true → PyData.showableAll l = true ∧ PyData.hasDictAll l = false ∧ ((PyData.shownAll l).map (·.length)).sum + (PyData.shownAll l).length * 2 ≤ wtL l
  | [], _ => by simp [PyData.showableAll, PyData.hasDictAll, PyData.shownAll]
  | d :: r, e => by
    simp only [odL, Bool.and_eq_true] at e
    have h := odD_shw hB d e.1
    obtain ⟨a, b, c⟩ := odL_shw hB r e.2
    refine ⟨by simp [PyData.showableAll, h.sh, a], by simp [PyData.hasDictAll, h.di, b], ?_⟩
    have := h.le
    rw [PyData.shownAll_cons, List.map_cons, List.sum_cons, List.length_cons, wtL]
    omega
end
/-- a thing of no more than so deep, so wide, so big numbers -/
structure Fn (k W B : Nat) (d : PyData) : Prop where
  o : odD B d = true
  e : PyData.depth d ≤ k
  w : wt d ≤ W
structure FnL (k W B : Nat) (l : List PyData) : Prop where
  o : ∀ d ∈ l, odD B d = true
  e : ∀ d ∈ l, PyData.depth d ≤ k
  w : wtL l ≤ W
theorem Fn.mono {k W B k2 W2 B2 : Nat} {d : PyData} (h : Fn k W B d) (h1 : k ≤ k2) (h2 : W ≤ W2) (h3 : B ≤ B2) : Fn k2 W2 B2 d := ⟨odD_mono h3 d h.o, Nat.le_trans h.e h1, Nat.le_trans h.w h2⟩
theorem FnL.mono {k W B k2 W2 B2 : Nat} {l : List PyData} (h : FnL k W B l) (h1 : k ≤ k2) (h2 : W ≤ W2) (h3 : B ≤ B2) : FnL k2 W2 B2 l := ⟨fun d hd => odD_mono h3 d (h.o d hd), fun d hd => Nat.le_trans (h.e d hd) h1, Nat.le_trans h.w h2⟩
theorem FnL.lst {k W B : Nat} {l : List PyData} (h : FnL k W B l) : Fn (k + 1) (W + 3) B (.list l) := ⟨by simp only [odD]; exact odL_iff.mpr h.o, by
  have := depthAll_iff.mpr h.e
  simp only [PyData.depth]
  omega, by have := h.w; simp only [wt]; omega⟩
theorem FnL.tup {k W B : Nat} {l : List PyData} (h : FnL k W B l) : Fn (k + 1) (W + 3) B (.tuple l) := ⟨by simp only [odD]; exact odL_iff.mpr h.o, by
  have := depthAll_iff.mpr h.e
  simp only [PyData.depth]
  omega, by have := h.w; simp only [wt]; omega⟩
theorem wt_pos : ∀ d, 3 ≤ wt d
  | .int _ => by simp only [wt]; omega
  | .str _ => by simp only [wt]; omega
  | .none => by simp only [wt]; omega
  | .bool _ => by simp only [wt]; omega
  | .dict _ => by simp only [wt]; omega
  | .list _ => by simp only [wt]; omega
  | .tuple _ => by simp only [wt]; omega
theorem Fn.ofl {k W B : Nat} {l : List PyData} (h : Fn k W B (.list l)) : FnL (k - 1) (W - 3) B l ∧ 1 ≤ k ∧ 3 ≤ W := by
  have o := h.o
  have e := h.e
  have w := h.w
  simp only [odD] at o
  simp only [PyData.depth] at e
  simp only [wt] at w
  exact ⟨⟨odL_iff.mp o, depthAll_iff.mp (by omega), by omega⟩, by omega, by omega⟩
theorem Fn.oft {k W B : Nat} {l : List PyData} (h : Fn k W B (.tuple l)) : FnL (k - 1) (W - 3) B l ∧ 1 ≤ k ∧ 3 ≤ W := by
  have o := h.o
  have e := h.e
  have w := h.w
  simp only [odD] at o
  simp only [PyData.depth] at e
  simp only [wt] at w
  exact ⟨⟨odL_iff.mp o, depthAll_iff.mp (by omega), by omega⟩, by omega, by omega⟩
theorem wtL_app : ∀ a b : List PyData, wtL (a ++ b) = wtL a + wtL b
  | [], b => by simp [wtL]
  | d :: r, b => by
    rw [List.cons_append, wtL, wtL, wtL_app r b]
    omega
theorem wtL_cut (l : List PyData) (i : Nat) : wtL (l.take i) + wtL (l.drop i) = wtL l := by
  rw [← wtL_app, List.take_append_drop]
theorem wtL_at {l : List PyData} {i : Nat} {d : PyData} (h : l[i]? = some d) : wtL (l.drop i) = wt d + 2 + wtL (l.drop (i + 1)) := by
  obtain ⟨hi, e⟩ := List.getElem?_eq_some_iff.mp h
  rw [← List.getElem_cons_drop hi, e, wtL]
theorem wtL_set {l : List PyData} {i : Nat} {d x : PyData} (h : l[i]? = some d) : wtL (l.set i x) + wt d = wtL l + wt x := by
  obtain ⟨hi, e⟩ := List.getElem?_eq_some_iff.mp h
  have c := wtL_cut l i
  rw [wtL_at h] at c
  rw [List.set_eq_take_append_cons_drop, if_pos hi, wtL_app, wtL]
  omega
theorem wtL_len : ∀ l : List PyData, l.length * 5 ≤ wtL l
  | [] => by simp [wtL]
  | d :: r => by
    have := wt_pos d
    have := wtL_len r
    rw [wtL, List.length_cons]
    omega
theorem FnL.at1 {k W B i : Nat} {l : List PyData} {d : PyData} (h : FnL k W B l) (hd : l[i]? = some d) : Fn k (wt d) B d ∧ wt d + 2 ≤ W := by
  have hm := List.mem_of_getElem? hd
  have := wtL_cut l i
  rw [wtL_at hd] at this
  have := h.w
  exact ⟨⟨h.o d hm, h.e d hm, Nat.le_refl _⟩, by omega⟩
theorem FnL.put {k W B i W2 : Nat} {l : List PyData} {d x : PyData} (h : FnL k W B l) (hd : l[i]? = some d) (hx : Fn k W2 B x) : FnL k (W + W2 - wt d) B (l.set i x) := by
  have e := wtL_set (x := x) hd
  have := h.w
  have := hx.w
  refine ⟨fun y hy => ?_, fun y hy => ?_, by omega⟩
  · rcases List.mem_or_eq_of_mem_set hy with z | rfl
    · exact h.o y z
    · exact hx.o
  · rcases List.mem_or_eq_of_mem_set hy with z | rfl
    · exact h.e y z
    · exact hx.e
theorem FnL.ins {k W B W2 : Nat} (i : Nat) {l : List PyData} {x : PyData} (h : FnL k W B l) (hx : Fn k W2 B x) : FnL k (W + W2 + 2) B (l.take i ++ [x] ++ l.drop i) := by
  have e := wtL_cut l i
  have := h.w
  have := hx.w
  have hm : ∀ y ∈ l.take i ++ [x] ++ l.drop i, y ∈ l ∨ y = x := fun y hy => by
    rcases List.mem_append.mp hy with hy | hy
    · rcases List.mem_append.mp hy with hy | hy
      · exact .inl (List.mem_of_mem_take hy)
      · exact .inr (List.mem_singleton.mp hy)
    · exact .inl (List.mem_of_mem_drop hy)
  refine ⟨fun y hy => ?_, fun y hy => ?_, ?_⟩
  · rcases hm y hy with z | rfl
    · exact h.o y z
    · exact hx.o
  · rcases hm y hy with z | rfl
    · exact h.e y z
    · exact hx.e
  · rw [wtL_app, wtL_app, wtL, wtL]
    omega
theorem FnL.cut {k W B : Nat} (i : Nat) {l : List PyData} (h : FnL k W B l) : FnL k W B (l.eraseIdx i) := by
  have e := wtL_cut l i
  have := h.w
  refine ⟨fun y hy => h.o y (List.mem_of_mem_eraseIdx hy), fun y hy => h.e y (List.mem_of_mem_eraseIdx hy), ?_⟩
  rw [List.eraseIdx_eq_take_drop_succ, wtL_app]
  have : wtL (l.drop (i + 1)) ≤ wtL (l.drop i) := by
    have := wtL_cut (l.drop i) 1
    rw [List.drop_drop] at this
    omega
  omega
theorem FnL.swap {k W B : Nat} {l : List PyData} {a z : PyData} {m : Nat} (h : FnL k W B l) (ha : l[0]? = some a) (hz : l[m]? = some z) : FnL k W B ((l.set 0 z).set m a) := by
  have e1 := wtL_set (x := z) ha
  have hz2 : (l.set 0 z)[m]? = some z := by
    by_cases c : 0 = m
    · subst c
      rw [List.getElem?_set_self (List.getElem?_eq_some_iff.mp ha).1]
    · rw [List.getElem?_set_ne c]
      exact hz
  have e2 := wtL_set (x := a) hz2
  have ha' := List.mem_of_getElem? ha
  have hz' := List.mem_of_getElem? hz
  have := h.w
  have hm : ∀ y ∈ (l.set 0 z).set m a, y ∈ l := fun y hy => by
    rcases List.mem_or_eq_of_mem_set hy with hy | rfl
    · rcases List.mem_or_eq_of_mem_set hy with hy | rfl
      · exact hy
      · exact hz'
    · exact ha'
  exact ⟨fun y hy => h.o y (hm y hy), fun y hy => h.e y (hm y hy), by omega⟩
/-! #### data as they lie, cut and put -/
theorem dpA_app {K : PySem.W.Frag} {H : Hp} : ∀ {a b : List V} {c d : List PyData}, DpAll K H a c → DpAll K H b d → DpAll K H (a ++ b) (c ++ d)
  | _, _, _, _, .nil, h => h
  | _, _, _, _, .cons x t, h => .cons x (dpA_app t h)
theorem dpA_take {K : PySem.W.Frag} {H : Hp} : ∀ (i : Nat) {a : List V} {c : List PyData}, DpAll K H a c → DpAll K H (a.take i) (c.take i)
  | 0, _, _, _ => by rw [List.take_zero, List.take_zero]; exact .nil
  | i + 1, _, _, .nil => .nil
  | i + 1, _, _, .cons x t => .cons x (dpA_take i t)
theorem dpA_drop {K : PySem.W.Frag} {H : Hp} : ∀ (i : Nat) {a : List V} {c : List PyData}, DpAll K H a c → DpAll K H (a.drop i) (c.drop i)
  | 0, _, _, h => h
  | i + 1, _, _, .nil => .nil
  | i + 1, _, _, .cons x t => dpA_drop i t
theorem dpA_set {K : PySem.W.Frag} {H : Hp} {x : V} {y : PyData} (h : Dp K H x y) : ∀ (i : Nat) {a : List V} {c : List PyData}, DpAll K H a c → DpAll K H (a.set i x) (c.set i y)
  | _, _, _, .nil => .nil
  | 0, _, _, .cons _ t => .cons h t
  | i + 1, _, _, .cons x t => .cons x (dpA_set h i t)
theorem dpA_cut {K : PySem.W.Frag} {H : Hp} (i : Nat) {a : List V} {c : List PyData} (h : DpAll K H a c) : DpAll K H (a.eraseIdx i) (c.eraseIdx i) := by
  rw [List.eraseIdx_eq_take_drop_succ, List.eraseIdx_eq_take_drop_succ]
  exact dpA_app (dpA_take i h) (dpA_drop (i + 1) h)
theorem dpA_ins {K : PySem.W.Frag} {H : Hp} {x : V} {y : PyData} (i : Nat) {a : List V} {c : List PyData} (h : DpAll K H a c) (hx : Dp K H x y) : DpAll K H (a.take i ++ [x] ++ a.drop i) (c.take i ++ [y] ++ c.drop i) := dpA_app (dpA_app (dpA_take i h) (.cons hx .nil)) (dpA_drop i h)
/-! #### a heap without some places -/
noncomputable def wx (E : Addr → Prop) (H : Hp) : Hp := fun c => @ite _ (E c) (Classical.propDecidable _) none (H c)
theorem wx_at {E : Addr → Prop} {H : Hp} {c : Addr} {o : HO} (n : ¬ E c) (h : H c = some o) : wx E H c = some o := by
  unfold wx
  rw [if_neg n]
  exact h
theorem wx_of {E : Addr → Prop} {H : Hp} {c : Addr} {o : HO} (h : wx E H c = some o) : ¬ E c ∧ H c = some o := by
  unfold wx at h
  split at h
  · cases h
  · rename_i n
    exact ⟨n, h⟩
theorem wx_sub (E : Addr → Prop) (H : Hp) : Same (wx E H) H := fun c o h => (wx_of h).2
theorem wx_same {E : Addr → Prop} {H H' : Hp} (s : Same H H') : Same (wx E H) (wx E H') := fun c o h => wx_at (wx_of h).1 (s _ _ (wx_of h).2)
theorem wx_but {E : Addr → Prop} {H H' : Hp} {b : Addr} (t : But b H H') (hb : E b) : Same (wx E H) (wx E H') := fun c o h => wx_at (wx_of h).1 (t _ _ (fun z => (wx_of h).1 (z ▸ hb)) (wx_of h).2)
theorem wx_less {E F : Addr → Prop} {H : Hp} (h : ∀ c, F c → E c) : Same (wx E H) (wx F H) := fun c o e => wx_at (fun z => (wx_of e).1 (h c z)) (wx_of e).2
/-- all those places are taken -/
def Kept (E : Addr → Prop) (H : Hp) : Prop := ∀ c, E c → H c ≠ none
theorem Kept.no {E : Addr → Prop} {H : Hp} {c : Addr} (h : Kept E H) (n : H c = none) : ¬ E c := fun z => h c z n
theorem Kept.same {E : Addr → Prop} {H H' : Hp} (h : Kept E H) (s : Same H H') : Kept E H' := fun c z e => by
  have := h c z
  cases hc : H c with
  | none => exact this hc
  | some o => rw [s _ _ hc] at e; cases e
theorem Kept.but {E : Addr → Prop} {H H' : Hp} {b : Addr} {n : Int} (h : Kept E H) (t : But b H H') (T : Tri H' b n) : Kept E H' := fun c z e => by
  by_cases y : c = b
  · obtain ⟨_, _, _, hb, _⟩ := T
    rw [y, hb] at e
    cases e
  · have := h c z
    cases hc : H c with
    | none => exact this hc
    | some o => rw [t _ _ y hc] at e; cases e
/-- and one more -/
def And1 (E : Addr → Prop) (D : Addr) : Addr → Prop := fun c => E c ∨ c = D
theorem wx_new {E : Addr → Prop} {H H' : Hp} {D : Addr} (s : Same H H') (n : H D = none) : Same (wx E H) (wx (And1 E D) H') := fun c o h => wx_at (fun z => z.elim (wx_of h).1 fun y => by have h2 := (wx_of h).2; rw [y, n] at h2; cases h2) (s _ _ (wx_of h).2)
theorem wx_upd {E : Addr → Prop} {H : Hp} {D : Addr} {o : HO} : Same (wx (And1 E D) H) (wx (And1 E D) (upd H D o)) := fun c u h => wx_at (wx_of h).1 (by rw [upd_ne (fun z => (wx_of h).1 (.inr z))]; exact (wx_of h).2)
theorem Kept.add {E : Addr → Prop} {H H' : Hp} {D : Addr} (h : Kept E H) (s : Same H H') (n : H' D ≠ none) : Kept (And1 E D) H' := fun c z => z.elim (fun z => h.same s c z) fun z => z ▸ n
theorem pick_all {P : V → Prop} {xs : List V} {r : Int} (h : ∀ v ∈ xs, P v) (h0 : 0 ≤ r) (h1 : r < xs.length) : ∃ v, atI xs r = some v ∧ P v := by
  obtain ⟨k, rfl⟩ := Int.eq_ofNat_of_zero_le h0
  have hk : k < xs.length := by omega
  exact ⟨xs[k], atI_nat (List.getElem?_eq_getElem hk), h _ (List.getElem_mem hk)⟩
theorem fa {P : V → Prop} {a : V} {l : List V} (h : P a) (t : ∀ v ∈ l, P v) : ∀ v ∈ a :: l, P v := List.forall_mem_cons.mpr ⟨h, t⟩
theorem fn {P : V → Prop} : ∀ v ∈ ([] : List V), P v := fun _ h => nomatch h
/-! ### dict.setdefault with keys of nested tuples that may hold truth values -/
namespace ND
open PySem PySem.Spec PyProof.Rows L2
mutual
/-- the thing v is the key k, True and False among its items -/
def keyB (K : PySem.W.Frag) (H : Hp) : NestedKey → V → Prop
  | .none, v => v = .non
  | .num i, v => v = .int i ∨ ∃ b : Bool, v = .bl b ∧ i = if b = true then 1 else 0
  | .text x, v => v = .str x
  | .tup ks, v => ∃ a vs, v = .ref a ∧ SqT K H a vs ∧ keysB K H ks vs
def keysB (K : PySem.W.Frag) (H : Hp) : List NestedKey → List V → Prop
  | [], vs => vs = []
  | k :: ks, vs => ∃ v r, vs = v :: r ∧ keyB K H k v ∧ keysB K H ks r
end
mutual
theorem keyB_ext {K : PySem.W.Frag} {H G : Hp} (e : ∀ a vs, SqT K H a vs → SqT K G a vs) : ∀ (k : NestedKey) (v : V), keyB K H k v → keyB K G k v
  | .none, _, h => h
  | .num _, _, h => h
  | .text _, _, h => h
  | .tup ks, v, h => by
    obtain ⟨a, vs, h1, h2, h3⟩ := h
    exact ⟨a, vs, h1, e a vs h2, keysB_ext e ks vs h3⟩
theorem keysB_ext {K : PySem.W.Frag} {H G : Hp} (e : ∀ a vs, SqT K H a vs → SqT K G a vs) : ∀ (ks : List NestedKey) (vs : List V), keysB K H ks vs → keysB K G ks vs
  | [], _, h => h
  | k :: ks, vs, h => by
    obtain ⟨v, r, h1, h2, h3⟩ := h
    exact ⟨v, r, h1, keyB_ext e k v h2, keysB_ext e ks r h3⟩
end
def KeysB (K : PySem.W.Frag) (H : Hp) (xs : List Ent) : Prop := ∀ p ∈ xs, keyB K H p.1 (.ref p.2.1) ∧ p.1.depth ≤ 8
section
variable {X : Cx} {pins : List (Addr × Obj)} {σ : L2.St} {H : Hp} {s : Shared} {d a : Addr} {xs : List Ent} {k : NestedKey} {A : Around} {E : Value → Shared → Prop}
mutual
theorem is_keyB (I : Inv X pins σ H s) : ∀ (k : NestedKey) (v : V) (u : Value), keyB X.K H k v → RelV v u → NestedIs s.heap k u
  | .none, v, u, h, r => by
    have h : v = .non := h
    subst h
    have r : u = .none := r
    subst r
    exact .none
  | .num i, v, u, h, r => by
    have h : v = .int i ∨ ∃ b : Bool, v = .bl b ∧ i = if b = true then 1 else 0 := h
    rcases h with rfl | ⟨b, rfl, e⟩
    · obtain ⟨t, rfl⟩ := r
      exact .int i t
    · have r : u = .bool b := r
      subst r
      exact .bool e
  | .text x, v, u, h, r => by
    have h : v = .str x := h
    subst h
    obtain ⟨t, rfl⟩ := r
    exact .text x t
  | .tup ks, v, u, h, r => by
    obtain ⟨a, vs, rfl, h2, h3⟩ := h
    have r : u = .ref a := r
    subst r
    obtain ⟨its, rv, ⟨o, e1, e2, n, e3⟩, _⟩ := I.tuple h2
    exact .tup e1 e2 e3 (by simpa using are_keysB I ks vs its h3 rv)
theorem are_keysB (I : Inv X pins σ H s) : ∀ (ks : List NestedKey) (vs : List V) (us : List Value), keysB X.K H ks vs → Vals vs us → NestedAll s.heap ks us
  | [], vs, us, h, r => by
    have h : vs = [] := h
    subst h
    cases r
    exact .nil
  | k :: ks, vs, us, h, r => by
    obtain ⟨v, q, rfl, h2, h3⟩ := h
    cases r with
    | cons r1 r2 => exact .cons (is_keyB I k v _ h2 r1) (are_keysB I ks q _ h3 r2)
end
theorem nd_ofB (I : Inv X pins σ H s) (hd : Rdn X.prog X.w H d xs) (hk : KeysB X.K H xs) : xs.length ≤ sizeLine ∧ (d == sysModules) = false ∧ ∃ us, Paired ER xs us ∧ s.heap.DictOfH (nestedKind X.prog X.w) d us := by
  obtain ⟨z, y, us, r, o, es, ep, h1, h2, h3, h4, h5⟩ := rd_body I hd
  refine ⟨z, y, us, r, o, es, ep, h1, h2, h3, h4, ?_, h5⟩
  have all : ∀ {l : List Ent} {m : List (NestedKey × Addr × Value)}, Paired ER l m → (∀ p ∈ l, keyB X.K H p.1 (.ref p.2.1) ∧ p.1.depth ≤ 8) → ∀ x ∈ m, (nestedKind X.prog X.w).is s.heap x.1 x.2.1 := by
    intro l m q
    induction q with
    | nil => intro _ x hx; exact nomatch hx
    | @cons p q ps qs hq t ih =>
      intro hl x hx
      rcases List.mem_cons.mp hx with e | hx
      · subst e
        obtain ⟨g1, g2⟩ := hl p List.mem_cons_self
        rw [← hq.1, ← hq.2.1]
        exact ⟨is_keyB I _ _ _ g1 rfl, g2⟩
      · exact ih (fun p hp => hl p (List.mem_cons_of_mem _ hp)) x hx
  exact all r hk
theorem nd_setd {v : V} {u : Value} {Q : Value → Shared → Prop} (hu : A.units + 9 < cLine) (I : Inv X pins σ H s) (hd : H d = some (obj X.prog X.w d xs)) (hk : KeysB X.K H xs) (ha : keyB X.K H k (.ref a)) (hz : k.depth ≤ 8) (hl : xs.length < sizeLine) (rv : RelV v u)
    (h1 : ∀ y, valN xs k = some y → ∀ u' s', Inv X pins σ H s' → RelV y u' → Q u' s') (h2 : valN xs k = none → ∀ s', Inv X pins σ (upd H d (obj X.prog X.w d (putN xs k a v))) s' → Q u s') : wpAny (model X.prog X.w) A (call (.builtin "dict.setdefault") [.ref d, .ref a, u]) Q E s := by
  obtain ⟨z, y, us, r, dd⟩ := nd_ofB I (.inl hd) hk
  have zl : us.length ≤ sizeLine := by rw [← Paired.length r]; exact z
  have ik : (nestedKind X.prog X.w).is s.heap k a := ⟨is_keyB I _ _ _ ha rfl, hz⟩
  refine call_setdefault_heap (hsz := zl) (by show A.in1.units + 8 < cLine; have : A.in1.units = A.units + 1 := rfl; omega) ik y dd (fun p hp => ?_) fun hn h' dd' hs => ?_
  · rcases val_rel (k := k) r with ⟨_, g2⟩ | ⟨v', p', g1, g2, g3⟩
    · rw [g2] at hp
      cases hp
    · rw [g2] at hp
      cases hp
      exact h1 v' g1 _ _ (I.tok _) g3
  · rcases val_rel (k := k) r with ⟨g1, _⟩ | ⟨v', p', g1, g2, g3⟩
    · refine h2 g1 _ ?_
      obtain ⟨o, es, ep, e1, e2, e3, e4, e5, e6⟩ := dd'
      refine d_write I (by rw [hd]; exact True.intro) hs ⟨o, e1⟩ (obj_ok ⟨?_, y, _, put_rel r rv, o, es, ep, e1, e2, e3, e4, e6⟩)
      have := put_len xs k a v
      omega
    · rw [g2] at hn
      cases hn
end
/-- d.setdefault(k, x) -/
def tNSetd (P : Program) (w : World) (K : PySem.W.Frag) (td ty tx : TE) : TE := fun σ H Q => td σ H fun x H1 => ∃ d xs0, x = .ref d ∧ Rdn P w H1 d xs0 ∧ ty σ H1 fun y H2 => tx σ H2 fun z H3 => ∃ a xs k, y = .ref a ∧ H3 d = some (obj P w d xs) ∧ KeysB K H3 xs ∧ keyB K H3 k (.ref a) ∧ k.depth ≤ 8 ∧ xs.length < sizeLine ∧
  (∀ v, valN xs k = some v → Q v H3) ∧ (valN xs k = none → Q z (upd H3 d (obj P w d (putN xs k a z))))
section
variable {X : Cx} {o e f : Expr} {td ty tx : TE} {apos cpos : Pos}
theorem pe_nsetd (hu : X.A.units + 9 < cLine) (ho : PE X o td) (he : PE X e ty) (hf : PE X f tx) (m : M2 X o "setdefault" apos e f cpos) : PE X (.Call (.Attribute o "setdefault" apos) [e, f] [] cpos) (tNSetd X.prog X.w X.K td ty tx) := by
  refine ⟨fun pins s σ H Q I h => ?_⟩
  refine wpAny_Call_method m.base m.few m.line PySem.F.plainAttrs_dict PySem.F.slot_dict_setdefault PySem.F.type_dict_setdefault (thn (ho.run pins s σ H _ I h) fun u s1 ⟨x, H1, I1, rx, d, xs0, ex, hd, q1⟩ => ?_)
  subst ex
  obtain rfl : u = Value.ref d := rx
  refine ⟨nd_typeIs I1 hd, fun b q => ?_, ?_⟩
  · cases q
    obtain ⟨_, _, us, r, o, es, ep, h1, h2, _⟩ := rd_body I1 hd
    exact ⟨o, h1, h2.2.1⟩
  rw [m.trees]
  refine Calls.callWith_builtin rfl (Calls.evalArgs_plain (Calls.spliced_cons (thn (he.run pins s1 σ H1 _ I1 q1) fun iv s2 ⟨y, H2, I2, ry, q2⟩ =>
    Calls.spliced_cons (thn (hf.run pins s2 σ H2 _ I2 q2) fun fv s3 ⟨z, H3, I3, rz, a, xs, k, ey, ea, hk, ha, hz, hl, q3, q4⟩ => Calls.spliced_nil ?_))))
  subst ey
  obtain rfl : iv = Value.ref a := ry
  exact nd_setd hu I3 ea hk ha hz hl rz (fun v hv w' s4 I4 rw' => ⟨v, _, I4, rw', q3 v hv⟩) fun hn s4 I4 => ⟨z, _, I4, rz, q4 hn⟩
end
end ND
/-! ### parted by turns: figures as keys -/
/-- the whole figures f lie at t -/
def FgW (K : PySem.W.Frag) (H : Hp) (t : Addr) (f : Fg) : Prop := ∃ ka, Drawn K H t f (.ref ka) (.tuple (f.ks.map PyData.int)) ∧ SqT K H ka (f.ks.map V.int)
theorem FgW.same {K : PySem.W.Frag} {H H' : Hp} {t : Addr} {f : Fg} (h : FgW K H t f) (s : Same H H') : FgW K H' t f := by
  obtain ⟨ka, h1, h2⟩ := h
  exact ⟨ka, h1.same s, seqT_same s h2⟩
theorem FgW.ok {K : PySem.W.Frag} {H : Hp} {t : Addr} {f : Fg} (h : FgW K H t f) : f.Ok := by
  obtain ⟨ka, h1, h2⟩ := h
  exact h1.ok
theorem FgW.dp {K : PySem.W.Frag} {H : Hp} {t : Addr} {f : Fg} (h : FgW K H t f) : Dp K H (.ref t) (figD f) := by
  obtain ⟨ka, h1, h2⟩ := h
  exact fig_dp h1.1 h2
def figK (f : Fg) : NestedKey := .tup [.num f.p, .num f.s, .num f.g, .num (if f.l = true then 1 else 0), .num f.m, .tup (f.ks.map NestedKey.num), .num f.fi, .num f.fa, .num f.ba]
def twoK (f g : Fg) : NestedKey := .tup [figK f, figK g]
theorem nums_inj : ∀ {a b : List Int}, a.map NestedKey.num = b.map NestedKey.num → a = b
  | [], [], _ => rfl
  | [], _ :: _, h => nomatch h
  | _ :: _, [], h => nomatch h
  | x :: r, y :: t, h => by
    rw [List.map_cons, List.map_cons] at h
    obtain ⟨h1, h2⟩ := List.cons.inj h
    rw [NestedKey.num.inj h1, nums_inj h2]
theorem bit_inj : ∀ a b : Bool, (if a = true then (1 : Int) else 0) = (if b = true then 1 else 0) → a = b := by decide
theorem figK_inj {f g : Fg} (h : figK f = figK g) : f = g := by
  obtain ⟨p, s, g', l, m, ks, fi, fa, ba⟩ := f
  obtain ⟨p2, s2, g2, l2, m2, ks2, fi2, fa2, ba2⟩ := g
  unfold figK at h
  simp only [NestedKey.tup.injEq, List.cons.injEq, NestedKey.num.injEq] at h
  obtain ⟨h1, h2, h3, h4, h5, h6, h7, h8, h9, _⟩ := h
  have h6 := nums_inj h6
  have hl := bit_inj _ _ h4
  subst h1 h2 h3 hl h5 h6 h7 h8 h9
  rfl
theorem twoK_inj {f g f2 g2 : Fg} (h : twoK f g = twoK f2 g2) : f = f2 ∧ g = g2 := by
  unfold twoK at h
  simp only [NestedKey.tup.injEq, List.cons.injEq] at h
  exact ⟨figK_inj h.1, figK_inj h.2.1⟩
theorem keys_nums {K : PySem.W.Frag} {H : Hp} : ∀ ks : List Int, ND.keysB K H (ks.map NestedKey.num) (ks.map V.int)
  | [] => rfl
  | k :: r => ⟨_, _, rfl, .inl rfl, keys_nums r⟩
theorem FgW.key {K : PySem.W.Frag} {H : Hp} {t : Addr} {f : Fg} (h : FgW K H t f) : ND.keyB K H (figK f) (.ref t) := by
  obtain ⟨ka, h1, h2⟩ := h
  exact ⟨t, _, rfl, h1.1, _, _, rfl, .inl rfl, _, _, rfl, .inl rfl, _, _, rfl, .inl rfl, _, _, rfl, .inr ⟨f.l, rfl, rfl⟩, _, _, rfl, .inl rfl, _, _, rfl, ⟨ka, _, rfl, h2, keys_nums f.ks⟩, _, _, rfl, .inl rfl, _, _, rfl, .inl rfl, _, _, rfl, .inl rfl, rfl⟩
theorem two_key {K : PySem.W.Frag} {H : Hp} {p t u : Addr} {f g : Fg} (h1 : FgW K H t f) (h2 : FgW K H u g) (hp : SqT K H p [.ref t, .ref u]) : ND.keyB K H (twoK f g) (.ref p) := ⟨p, _, rfl, hp, _, _, rfl, h1.key, _, _, rfl, h2.key, rfl⟩
theorem nums_depth (ks : List Int) : NestedKey.depthAll (ks.map NestedKey.num) ≤ 1 := by
  induction ks with
  | nil => simp [NestedKey.depthAll]
  | cons k r ih =>
    rw [List.map_cons]
    simp only [NestedKey.depthAll, NestedKey.depth]
    omega
theorem two_depth (f g : Fg) : (twoK f g).depth ≤ 8 := by
  have := nums_depth f.ks
  have := nums_depth g.ks
  simp only [twoK, figK, NestedKey.depth, NestedKey.depthAll]
  omega
/-- what is told so far: by two figures, the text of what parted them -/
def Told (K : PySem.W.Frag) (H : Hp) (xs : List ND.Ent) : Prop := ND.KeysB K H xs ∧ ∀ p ∈ xs, ∃ f g res, p.1 = twoK f g ∧ IsFirst f g res ∧ p.2.2 = .str (PyData.shown (resD res))
theorem Told.same {K : PySem.W.Frag} {H H' : Hp} {xs : List ND.Ent} (h : Told K H xs) (s : Same H H') : Told K H' xs := ⟨fun p hp => ⟨ND.keyB_ext (fun _ _ => seqT_same s) _ _ (h.1 p hp).1, (h.1 p hp).2⟩, h.2⟩
theorem Told.at1 {K : PySem.W.Frag} {H : Hp} {xs : List ND.Ent} {f g : Fg} {res : Option (List Int × Int)} {v : V} (h : Told K H xs) (hf : IsFirst f g res) (hv : ND.valN xs (twoK f g) = some v) : v = .str (PyData.shown (resD res)) := by
  unfold ND.valN at hv
  obtain ⟨p, hp, rfl⟩ := Option.map_eq_some_iff.mp hv
  have hm := List.mem_of_find?_eq_some hp
  have hk := of_decide_eq_true (List.find?_some (p := fun p : ND.Ent => decide (p.1 = twoK f g)) hp)
  obtain ⟨f2, g2, res2, h1, h2, h3⟩ := h.2 p hm
  obtain ⟨rfl, rfl⟩ := twoK_inj (h1.symm.trans hk)
  rw [h3, first_one h2 hf]
theorem Told.put {K : PySem.W.Frag} {H : Hp} {xs : List ND.Ent} {f g : Fg} {res : Option (List Int × Int)} {a : Addr} (h : Told K H xs) (hf : IsFirst f g res) (ha : ND.keyB K H (twoK f g) (.ref a)) (hn : ND.valN xs (twoK f g) = none) : Told K H (ND.putN xs (twoK f g) a (.str (PyData.shown (resD res)))) ∧ (ND.putN xs (twoK f g) a (.str (PyData.shown (resD res)))).length = xs.length + 1 := by
  unfold ND.putN
  rw [hn]
  refine ⟨⟨fun p hp => ?_, fun p hp => ?_⟩, by show (xs ++ [_]).length = _; rw [List.length_append]; rfl⟩
  · rcases List.mem_append.mp hp with hp | hp
    · exact h.1 p hp
    · rw [List.mem_singleton.mp hp]
      exact ⟨ha, two_depth f g⟩
  · rcases List.mem_append.mp hp with hp | hp
    · exact h.2 p hp
    · rw [List.mem_singleton.mp hp]
      exact ⟨f, g, res, rfl, hf, rfl⟩
/-- figures in a row, rules in a row -/
def FigL (K : PySem.W.Frag) (H : Hp) (vs : List V) (fs : List Fg) : Prop := vs.length = fs.length ∧ ∀ (i : Nat) (v : V), vs[i]? = some v → ∃ f t, fs[i]? = some f ∧ v = V.ref t ∧ FgW K H t f
def RulL (K : PySem.W.Frag) (C : Addr) (H : Hp) (vs : List V) (fs : List Fg) : Prop := vs.length = fs.length ∧ ∀ (i : Nat) (v : V), vs[i]? = some v → ∃ f r, fs[i]? = some f ∧ v = V.ref r ∧ RuleAt K H C r f
theorem FigL.same {K : PySem.W.Frag} {H H' : Hp} {vs : List V} {fs : List Fg} (h : FigL K H vs fs) (s : Same H H') : FigL K H' vs fs := ⟨h.1, fun i v hv => by
  obtain ⟨f, t, h1, h2, h3⟩ := h.2 i v hv
  exact ⟨f, t, h1, h2, h3.same s⟩⟩
theorem RulL.same {K : PySem.W.Frag} {C : Addr} {H H' : Hp} {vs : List V} {fs : List Fg} (h : RulL K C H vs fs) (s : Same H H') : RulL K C H' vs fs := ⟨h.1, fun i v hv => by
  obtain ⟨f, t, h1, h2, h3⟩ := h.2 i v hv
  exact ⟨f, t, h1, h2, h3.same s⟩⟩
theorem FigL.snoc {K : PySem.W.Frag} {H : Hp} {vs : List V} {fs : List Fg} {t : Addr} {f : Fg} (h : FigL K H vs fs) (ht : FgW K H t f) : FigL K H (vs ++ [V.ref t]) (fs ++ [f]) := ⟨by rw [List.length_append, List.length_append, h.1]; rfl, fun i v hv => by
  by_cases c : i < vs.length
  · rw [List.getElem?_append_left c] at hv
    obtain ⟨f, t, h1, h2⟩ := h.2 i v hv
    exact ⟨f, t, by rw [List.getElem?_append_left (by rw [← h.1]; exact c)]; exact h1, h2⟩
  · rw [List.getElem?_append_right (by omega)] at hv
    have h0 : i - vs.length = 0 := by
      have := (List.getElem?_eq_some_iff.mp hv).1
      simp at this
      omega
    rw [h0] at hv
    cases hv
    exact ⟨f, t, by rw [List.getElem?_append_right (by rw [← h.1]; omega), ← h.1, h0]; rfl, rfl, ht⟩⟩
theorem RulL.snoc {K : PySem.W.Frag} {C : Addr} {H : Hp} {vs : List V} {fs : List Fg} {t : Addr} {f : Fg} (h : RulL K C H vs fs) (ht : RuleAt K H C t f) : RulL K C H (vs ++ [V.ref t]) (fs ++ [f]) := ⟨by rw [List.length_append, List.length_append, h.1]; rfl, fun i v hv => by
  by_cases c : i < vs.length
  · rw [List.getElem?_append_left c] at hv
    obtain ⟨f, t, h1, h2⟩ := h.2 i v hv
    exact ⟨f, t, by rw [List.getElem?_append_left (by rw [← h.1]; exact c)]; exact h1, h2⟩
  · rw [List.getElem?_append_right (by omega)] at hv
    have h0 : i - vs.length = 0 := by
      have := (List.getElem?_eq_some_iff.mp hv).1
      simp at this
      omega
    rw [h0] at hv
    cases hv
    exact ⟨f, t, by rw [List.getElem?_append_right (by rw [← h.1]; omega), ← h.1, h0]; rfl, rfl, ht⟩⟩
/-! ### parted by turns -/
theorem FgW.but {K : PySem.W.Frag} {H H' : Hp} {b t : Addr} {n : Int} {f : Fg} (h : FgW K H t f) (hb : Tri H b n) (e : But b H H') : FgW K H' t f := by
  obtain ⟨ka, h1, h2⟩ := h
  exact ⟨ka, hb.drawn e h1, hb.seqT e h2⟩
theorem FgW.put {K : PySem.W.Frag} {H : Hp} {D t : Addr} {xs : List V} {o : HO} {f : Fg} (h : FgW K H t f) (hd : H D = some (.lst xs)) : FgW K (upd H D o) t f := by
  obtain ⟨ka, h1, h2⟩ := h
  exact ⟨ka, drawn_put hd h1, seqT_put hd h2⟩
theorem FigL.but {K : PySem.W.Frag} {H H' : Hp} {b : Addr} {n : Int} {vs : List V} {fs : List Fg} (h : FigL K H vs fs) (hb : Tri H b n) (e : But b H H') : FigL K H' vs fs := ⟨h.1, fun i v hv => by
  obtain ⟨f, t, h1, h2, h3⟩ := h.2 i v hv
  exact ⟨f, t, h1, h2, h3.but hb e⟩⟩
theorem FigL.put {K : PySem.W.Frag} {H : Hp} {D : Addr} {xs : List V} {o : HO} {vs : List V} {fs : List Fg} (h : FigL K H vs fs) (hd : H D = some (.lst xs)) : FigL K (upd H D o) vs fs := ⟨h.1, fun i v hv => by
  obtain ⟨f, t, h1, h2, h3⟩ := h.2 i v hv
  exact ⟨f, t, h1, h2, h3.put hd⟩⟩
theorem FigL.cons {K : PySem.W.Frag} {H : Hp} {vs : List V} {fs : List Fg} {t : Addr} {f : Fg} (h : FigL K H vs fs) (ht : FgW K H t f) : FigL K H (V.ref t :: vs) (f :: fs) := ⟨by rw [List.length_cons, List.length_cons, h.1], fun i v hv => by
  cases i with
  | zero =>
    cases hv
    exact ⟨f, t, rfl, rfl, ht⟩
  | succ i => exact h.2 i v hv⟩
theorem RulL.put {K : PySem.W.Frag} {C : Addr} {H : Hp} {D : Addr} {xs : List V} {o : HO} {vs : List V} {fs : List Fg} (h : RulL K C H vs fs) (hd : H D = some (.lst xs)) : RulL K C (upd H D o) vs fs := ⟨h.1, fun i v hv => by
  obtain ⟨f, t, h1, h2, dx, kt, h3, h4⟩ := h.2 i v hv
  exact ⟨f, t, h1, h2, dx, kt, by rw [upd_ne (ne_of h3 hd (by intro z; cases z))]; exact h3, seqT_put hd h4⟩⟩
theorem none_but {b D : Addr} {H G : Hp} (t : But b H G) (n : D ≠ b) (h : G D = none) : H D = none := by
  cases e : H D with
  | none => rfl
  | some o =>
    rw [t _ _ n e] at h
    cases h
theorem But.updn {b D : Addr} {H G : Hp} {o : HO} (t : But b H G) (n : H D = none) : But b H (L2.upd G D o) := fun c u m h => by
  rw [upd_ne (fun z => by rw [z, n] at h; cases h)]
  exact t _ _ m h
theorem asg_by {te : TE} {g : TG} {D : Ends} {σ : _root_.L2.St} {G : Hp} (P : V → Hp → Prop) (fin : ∀ v G', P v G' → g v σ G' D.nx) (h : (∀ v G', P v G' → g v σ G' D.nx) → tAsg te g D σ G) : tAsg te g D σ G := h fin
theorem lst1_by {te : TE} {g : TG} {D : Ends} {σ : _root_.L2.St} {G : Hp} (P : V → Hp → Prop) (fin : ∀ v G', P v G' → tAsg (tLst (tCons (tC v) tNil)) g D σ G') (h : (∀ v G', P v G' → tAsg (tLst (tCons (tC v) tNil)) g D σ G') → te σ G fun v G' => tAsg (tLst (tCons (tC v) tNil)) g D σ G') : tAsg (tLst (tCons te tNil)) g D σ G := h fin
theorem ifs_ne {K : PySem.W.Frag} {te ty : TE} {body : TS} {D : Ends} {σ : _root_.L2.St} {G : Hp} (P : V → Hp → Prop) (fin : ∀ v G', P v G' → tIfS (tTest (tOp (rNeD K) (tC v) ty)) body tNext D σ G') (h : (∀ v G', P v G' → tIfS (tTest (tOp (rNeD K) (tC v) ty)) body tNext D σ G') → te σ G fun v G' => tIfS (tTest (tOp (rNeD K) (tC v) ty)) body tNext D σ G') : tIfS (tTest (tOp (rNeD K) te ty)) body tNext D σ G := h fin
theorem nnew_at {P P' : Program} {w w' : World} (hP : P' = P) (hw : w' = w) {σ : _root_.L2.St} {H : Hp} {Q : VK} (h : ND.tNNew P w σ H Q) : ND.tNNew P' w' σ H Q := by
  subst hP hw
  exact h
/-- without the cell that is drawn from -/
def E0_ (b : Addr) : Addr → Prop := fun c => c = b
theorem but_wx (b : Addr) (G : Hp) : But b G (wx (E0_ b) G) := fun _ _ n h => wx_at n h
theorem kept0 {G : Hp} {b : Addr} {n : Int} (h : Tri G b n) : Kept (E0_ b) G := fun c z e => by
  obtain ⟨_, _, _, hb, _⟩ := h
  rw [show c = b from z, hb] at e
  cases e
/-- what is kept of the rules: their figures and texts -/
def kD (f : Fg) : PyData := .tuple [figD f, .str (txtT f), .str (Str.ofString "Rule(" ++ txtT f ++ Str.ofString ")")]
def keptD (fs : List Fg) : PyData := .list (fs.map kD)
theorem wx1_new {H : Hp} {D : Addr} (n : H D = none) {o : HO} : Same H (wx (fun c => c = D) (L2.upd H D o)) := fun c u h => wx_at (fun z => by rw [show c = D from z, n] at h; cases h) (by rw [upd_ne (ne_of_none h n)]; exact h)
theorem wx1_upd {H : Hp} {D : Addr} {o : HO} : Same (wx (fun c => c = D) H) (wx (fun c => c = D) (L2.upd H D o)) := fun c u h => wx_at (wx_of h).1 (by rw [upd_ne (fun z => (wx_of h).1 z)]; exact (wx_of h).2)
theorem kept_run {K : PySem.W.Frag} {CR : Addr} {H : Hp} {D2 : Addr} {rs : List V} {fs : List Fg} {Q : VK} (x0 x1 x2 x3 x4 x5 x6 x8 x9 x10 x11 x12 x13 x14 x15 x16 x17 : Option V) (hD : H D2 = some (.lst rs)) (rl : RulL K CR H rs fs) (l4 : rs.length = 4) (ok : ∀ f ∈ fs, f.Ok) (q : ∀ A G, Same H G → H A = none → Dp K G (.ref A) (keptD fs) → Q (.ref A) G) :
    tLc (iList K (tVar 7)) (gName 10) tYes (tTup (tCons (tMeth CR (Str.ofString "figures") (sp_Rule_figures K CR) [] E0 (tVar 10) tNil) (tCons (tCB (OEQ.rTxO CR (sp_Rule___str__ K CR)) (tCons (tVar 10) tNil)) (tCons (tCB (OEQ.rTxO CR (sp_Rule___repr__ K CR)) (tCons (tVar 10) tNil)) tNil)))) (List.map (fun x => x.snd) [(Str.ofString "_law_rule", 10)]) [x0, x1, x2, x3, x4, x5, x6, some (.ref D2), x8, x9, x10, x11, x12, x13, x14, x15, x16, x17] H Q := by
  refine ⟨_, rfl, D2, rfl, ⟨rs, SqL.of hD⟩, fun D nD => lc_list (fun i G => Same H G ∧ ∃ ks, G D = some (.lst ks) ∧ ks.length = i ∧ DpAll K (wx (fun c => c = D) G) ks ((fs.take i).map kD)) ⟨same_new nD, [], upd_same, rfl, by rw [List.take_zero]; exact .nil⟩ (fun i G _ h => h.1.seq (SqL.of hD)) (fun i x G hx h => ?_) fun G h => ?_⟩
  · obtain ⟨s1, ks, hk, lk, da⟩ := h
    obtain ⟨f, r, hf, rfl, hR⟩ := rl.2 i x hx
    have hi4 := (List.getElem?_eq_some_iff.mp hx).1
    have okf := ok f (List.mem_of_getElem? hf)
    have hR1 := hR.same s1
    obtain ⟨dx, kt, hr, hkt⟩ := id hR1
    refine ⟨rfl, _, rfl, r, dx, _, rfl, hr, rfl, r, f, rfl, hR1, fun G2 t kt2 nt z2 ht hkt2 => ?_⟩
    have hR2 := hR1.same z2
    refine ⟨_, rfl, r, dx, _, rfl, z2 _ _ hr, r, f, rfl, hR2, okf, fun G3 z3 => ⟨_, rfl, ?_⟩⟩
    have hR3 := hR2.same z3
    refine ⟨_, rfl, r, dx, _, rfl, z3 _ _ (z2 _ _ hr), r, f, rfl, hR3, okf, fun G4 z4 => ⟨_, rfl, (by show 3 ≤ sizeLine; decide), fun kp nkp => ?_⟩⟩
    have z34 := z3.trans z4
    have z24 := z2.trans z34
    have u := same_new (o := .tup [.ref t, .str (txtT f), .str (Str.ofString "Rule(" ++ txtT f ++ Str.ofString ")")]) nkp
    have gk := upd_same (H := G4) (a := kp) (o := .tup [.ref t, .str (txtT f), .str (Str.ofString "Rule(" ++ txtT f ++ Str.ofString ")")])
    have hk4 := u _ _ (z24 _ _ hk)
    have ht4 := (z34.trans u) _ _ ht
    have hkt4 := seqT_same (z34.trans u) hkt2
    have da4 := dpAll_same (wx_same (z24.trans u)) da
    have s4 := s1.trans (z24.trans u)
    generalize upd G4 kp (.tup [.ref t, .str (txtT f), .str (Str.ofString "Rule(" ++ txtT f ++ Str.ofString ")")]) = G5 at *
    have xt : ¬ t = D := fun z => by rw [z, hk4] at ht4; cases ht4
    have xk : ¬ kp = D := fun z => by rw [z, hk4] at gk; cases gk
    have hktw : SqT K (wx (fun c => c = D) G5) kt2 (f.ks.map V.int) := by
      rcases hkt4 with (h | ⟨o, h⟩) | h
      · exact .inl (.inl (wx_at (ne_of h hk4 (by intro z; cases z)) h))
      · exact .inl (.inr ⟨o, wx_at (ne_of h hk4 (by intro z; cases z)) h⟩)
      · exact .inr h
    refine ⟨ks, hk4, by rw [sizeLine_eq]; omega, fun c o h => ?_, ks ++ [.ref kp], upd_same, by rw [List.length_append, lk]; rfl, ?_⟩
    · rw [upd_ne (ne_of_none h nD)]
      exact s4 _ _ h
    · have e2 : fs.take (i + 1) = fs.take i ++ [f] := by
        rw [List.take_succ, hf]
        rfl
      rw [e2, List.map_append]
      exact dpAll_same wx1_upd (dpA_app da4 (.cons (.tup (SqT.of (wx_at xk gk)) (.cons (fig_dp (SqT.of (wx_at xt ht4)) hktw) (.cons (.str _) (.cons (.str _) .nil)))) .nil))
  · obtain ⟨s1, ks, hk, lk, da⟩ := h
    rw [rl.1, List.take_length] at da
    exact q D G s1 nD (.lst (SqL.of hk) (dpAll_same (wx_sub _ _) da))
mutual
def noL : PyData → Bool
  | .list _ => false
  | .dict _ => false
  | .tuple l => noLL l
  | _ => true
def noLL : List PyData → Bool
  | [] => true
  | d :: r => noL d && noLL r
end
theorem noLL_ints : ∀ ns : List Int, noLL (ns.map PyData.int) = true
  | [] => by simp only [List.map_nil, noLL]
  | n :: r => by simp only [List.map_cons, noLL, noL, noLL_ints r, Bool.and_self]
theorem seqT_wx {K : PySem.W.Frag} {P : Program} {w : World} {G : Hp} {b dd a : Addr} {n : Int} {es : List ND.Ent} {vs : List V} (hb : Tri G b n) (hD : G dd = some (ND.obj P w dd es)) (h : SqT K G a vs) : SqT K (wx (And1 (E0_ b) dd) G) a vs := by
  obtain ⟨_, _, _, gb, _⟩ := hb
  rcases h with (h | ⟨o, h⟩) | h
  · exact .inl (.inl (wx_at (fun z => z.elim (ne_of h gb (by intro z; cases z)) (ne_of h hD (by intro z; cases z))) h))
  · exact .inl (.inr ⟨o, wx_at (fun z => z.elim (ne_of h gb (by intro z; cases z)) (ne_of h hD (by intro z; cases z))) h⟩)
  · exact .inr h
mutual
theorem dp_wx {K : PySem.W.Frag} {P : Program} {w : World} {G : Hp} {b dd : Addr} {n : Int} {es : List ND.Ent} (hb : Tri G b n) (hD : G dd = some (ND.obj P w dd es)) : ∀ {x : V} {d : PyData}, Dp K G x d → noL d = true → Dp K (wx (And1 (E0_ b) dd) G) x d
  | _, _, .non, _ => .non
  | _, _, .bl _, _ => .bl _
  | _, _, .int _, _ => .int _
  | _, _, .str _, _ => .str _
  | _, _, .lst _ _, e => by simp only [noL] at e; cases e
  | _, _, .tup h t, e => .tup (seqT_wx hb hD h) (dpAll_wx hb hD t (by simp only [noL] at e; exact e))
theorem dpAll_wx {K : PySem.W.Frag} {P : Program} {w : World} {G : Hp} {b dd : Addr} {n : Int} {es : List ND.Ent} (hb : Tri G b n) (hD : G dd = some (ND.obj P w dd es)) : ∀ {xs : List V} {ds : List PyData}, DpAll K G xs ds → noLL ds = true → DpAll K (wx (And1 (E0_ b) dd) G) xs ds
  | _, _, .nil, _ => .nil
  | _, _, .cons h t, e => by
    simp only [noLL, Bool.and_eq_true] at e
    exact .cons (dp_wx hb hD h e.1) (dpAll_wx hb hD t e.2)
end
theorem kD_noL (f : Fg) : noL (kD f) = true := by
  simp only [kD, figD, noL, noLL, noLL_ints, Bool.and_self]
theorem noLL_kept : ∀ fs : List Fg, noLL (fs.map kD) = true
  | [] => by simp only [List.map_nil, noLL]
  | f :: r => by rw [List.map_cons, noLL, kD_noL f, noLL_kept r]; rfl
theorem FgW.wx {K : PySem.W.Frag} {P : Program} {w : World} {G : Hp} {b dd t : Addr} {n : Int} {es : List ND.Ent} {f : Fg} (h : FgW K G t f) (hb : Tri G b n) (hD : G dd = some (ND.obj P w dd es)) : FgW K (wx (And1 (E0_ b) dd) G) t f := by
  obtain ⟨ka, ⟨h1, h2, h3⟩, h4⟩ := h
  refine ⟨ka, ⟨seqT_wx hb hD h1, h2, ?_⟩, seqT_wx hb hD h4⟩
  cases h3 with
  | all _ a b c => exact .all ka (seqT_wx hb hD a) b c
theorem FigL.wx {K : PySem.W.Frag} {P : Program} {w : World} {G : Hp} {b dd : Addr} {n : Int} {es : List ND.Ent} {vs : List V} {fs : List Fg} (h : FigL K G vs fs) (hb : Tri G b n) (hD : G dd = some (ND.obj P w dd es)) : FigL K (wx (And1 (E0_ b) dd) G) vs fs := ⟨h.1, fun i v hv => by
  obtain ⟨f, t, h1, h2, h3⟩ := h.2 i v hv
  exact ⟨f, t, h1, h2, h3.wx hb hD⟩⟩
theorem RulL.wx {K : PySem.W.Frag} {P : Program} {w : World} {C : Addr} {G : Hp} {b dd : Addr} {n : Int} {es : List ND.Ent} {vs : List V} {fs : List Fg} (h : RulL K C G vs fs) (hb : Tri G b n) (hD : G dd = some (ND.obj P w dd es)) : RulL K C (wx (And1 (E0_ b) dd) G) vs fs := ⟨h.1, fun i v hv => by
  obtain ⟨f, t, h1, h2, dx, kt, h3, h4⟩ := h.2 i v hv
  obtain ⟨_, _, _, gb, _⟩ := id hb
  exact ⟨f, t, h1, h2, dx, kt, wx_at (fun z => z.elim (ne_of h3 gb (by intro z; cases z)) (ne_of h3 hD (by intro z; cases z))) h3, seqT_wx hb hD h4⟩⟩
theorem seqL_wx {K : PySem.W.Frag} {G : Hp} {E : Addr → Prop} {a : Addr} {vs : List V} (n : ¬ E a) (h : SqL K G a vs) : SqL K (wx E G) a vs := by
  rcases h with (h | ⟨o, h⟩) | h
  · exact .inl (.inl (wx_at n h))
  · exact .inl (.inr ⟨o, wx_at n h⟩)
  · exact .inr h
theorem kept_wx {K : PySem.W.Frag} {P : Program} {w : World} {G : Hp} {b dd A : Addr} {n : Int} {es : List ND.Ent} {fs : List Fg} (hb : Tri G b n) (hD : G dd = some (ND.obj P w dd es)) (nb : A ≠ b) (nd : A ≠ dd) (h : Dp K G (.ref A) (keptD fs)) : Dp K (wx (And1 (E0_ b) dd) G) (.ref A) (keptD fs) := by
  unfold keptD at h ⊢
  cases h with
  | lst h t => exact .lst (seqL_wx (fun z => z.elim nb nd) h) (dpAll_wx hb hD t (noLL_kept fs))
theorem unl_self (f : Fg) (ds : List Int) (e : Int) : unl f f ds e = false := by
  unfold unl unlB
  have h : pairAt f f ds e = ((pairAt f f ds e).1, (pairAt f f ds e).1) := rfl
  rw [h, SeqAt.eqv_refl _ (SeqAt.canLay_of_shaped (sh_shaped f _ e))]
  rfl
theorem first_self (f : Fg) : IsFirst f f none := fun ds e _ _ => unl_self f ds e
theorem wt_ints (ds : List Int) : wtL (ds.map PyData.int) = 42 * ds.length := by
  induction ds with
  | nil => simp [wtL]
  | cons d r ih =>
    rw [List.map_cons, wtL, ih, List.length_cons]
    simp only [wt]
    omega
theorem res_shw {f g : Fg} : ∀ {res}, IsFirst f g res → Shw (resD res) ∧ (PyData.shown (resD res)).length ≤ sizeLine ∧ PyData.depth (resD res) ≤ 60
  | none, h => by
    have s := odD_shw (B := 1000) (by decide) (resD none) (by simp only [resD, odD])
    exact ⟨s, Nat.le_trans s.le (by show 40 ≤ sizeLine; decide), Nat.le_trans (resD_depth _) (by decide)⟩
  | some (d, e), h => by
    obtain ⟨e0, e81, hto, hu, hl6, _⟩ := id h
    have s := odD_shw (B := 1000) (by decide) (resD (some (d, e))) (by
      simp only [resD, odD, odL, Bool.and_true, Bool.and_eq_true, decide_eq_true_eq]
      refine ⟨odL_iff.mpr fun x hx => ?_, by omega⟩
      obtain ⟨n, hn, rfl⟩ := List.mem_map.mp hx
      have := hto.2 n hn
      simp only [odD, decide_eq_true_eq]
      omega)
    have w : wt (resD (some (d, e))) ≤ 400 := by
      simp only [resD, wt, wtL, wt_ints]
      omega
    exact ⟨s, Nat.le_trans s.le (Nat.le_trans w (by show 400 ≤ sizeLine; decide)), Nat.le_trans (resD_depth _) (by decide)⟩
theorem wx_updE {E : Addr → Prop} {H : Hp} {D : Addr} {o : HO} (h : E D) : Same (wx E H) (wx E (L2.upd H D o)) := fun c u e => wx_at (wx_of e).1 (by rw [upd_ne (fun z : c = D => (wx_of e).1 (by rw [z]; exact h))]; exact (wx_of e).2)
theorem wx_fresh {E : Addr → Prop} {G0 G : Hp} {la : Addr} {o : HO} (h : Same (wx E G0) (wx E G)) (n : G0 la = none) : Same (wx E G0) (wx E (L2.upd G la o)) := fun c u e => wx_at (wx_of e).1 (by rw [upd_ne (ne_of_none (wx_of e).2 n)]; exact (wx_of (h _ _ e)).2)
theorem Told.putl {K : PySem.W.Frag} {E : Addr → Prop} {G : Hp} {la : Addr} {xs : List V} {o : HO} {es : List ND.Ent} (h : Told K (wx E G) es) (hd : G la = some (.lst xs)) : Told K (wx E (L2.upd G la o)) es := ⟨fun p hp => ⟨ND.keyB_ext (fun a vs q => by
  rcases q with (q | ⟨ob, q⟩) | q
  · exact .inl (.inl (wx_at (wx_of q).1 (by rw [upd_ne (ne_of (wx_of q).2 hd (by intro z; cases z))]; exact (wx_of q).2)))
  · exact .inl (.inr ⟨ob, wx_at (wx_of q).1 (by rw [upd_ne (ne_of (wx_of q).2 hd (by intro z; cases z))]; exact (wx_of q).2)⟩)
  · exact .inr q) _ _ (h.1 p hp).1, (h.1 p hp).2⟩, h.2⟩
theorem rep_flat (n : Nat) (x : Int) : (List.replicate n [V.int x]).flatten = (List.replicate n x).map V.int := by
  induction n with
  | zero => rfl
  | succ n ih => rw [List.replicate_succ, List.flatten_cons, ih, List.replicate_succ]; rfl
theorem row_rep {r : List Int} {e : Int} (h : RowTo r e) (he : 0 ≤ e) : ∀ n : Nat, RowTo (r ++ List.replicate n (lastD r)) e ∧ lastD (r ++ List.replicate n (lastD r)) = lastD r
  | 0 => by
    rw [List.replicate_zero, List.append_nil]
    exact ⟨h, rfl⟩
  | n + 1 => by
    obtain ⟨a, b⟩ := row_rep h he n
    obtain ⟨c, d⟩ := last_le h he
    rw [List.replicate_succ', ← List.append_assoc]
    exact ⟨row_snoc.mpr ⟨a, by rw [b]; exact Int.le_refl _, c, d⟩, lastD_snoc _ _⟩
theorem asc_dec (s : Str) (h : (TL.tl s).all (fun c => decide (c < 128)) = true) : Asc s := fun c hc => of_decide_eq_true (List.all_eq_true.mp h c hc)
theorem asc_numK {n : Int} (h : 0 ≤ n ∧ n ≤ 100) : Asc (Str.ofString (toString n)) := by
  obtain ⟨k, rfl⟩ := Int.eq_ofNat_of_zero_le h.1
  have hk : k < 101 := by omega
  have all : ∀ i : Fin 101, (TL.tl (Str.ofString (toString (((i : Nat) : Int))))).all (fun c => decide (c < 128)) = true := by decide +kernel
  exact asc_dec _ (all ⟨k, hk⟩)
theorem asc_joinK {y : Str} (hy : Asc y) : ∀ {ws : List Str}, (∀ w ∈ ws, Asc w) → Asc (Txt.join y ws)
  | [], _ => fun c hc => by
    rw [TL.join_eq] at hc
    cases hc
  | [a], h => by
    rw [TL.join_eq]
    exact h a List.mem_cons_self
  | a :: b :: r, h => by
    have e : Txt.join y (a :: b :: r) = a ++ y ++ Txt.join y (b :: r) := by
      rw [TL.join_eq, TL.join_eq]
      rfl
    rw [e]
    exact ((h a List.mem_cons_self).app hy).app (asc_joinK hy fun w hw => h w (List.mem_cons_of_mem _ hw))
theorem asc_txtK {f : Fg} (ok : f.Ok) : Asc (txtT f) := by
  have F := ok.figs
  have cn : ∀ (w : Str) (n : Int), Asc w → 0 ≤ n → n ≤ 100 → Asc (cntT w n) := fun w n hw h0 h1 => by
    unfold cntT
    split
    · exact asc_dec _ (by decide +kernel)
    · exact (hw.app (asc_dec _ (by decide +kernel))).app (asc_numK ⟨h0, h1⟩)
  refine asc_joinK (asc_dec _ (by decide +kernel)) fun c hc => ?_
  have hc := (List.mem_filter.mp hc).1
  simp only [allT, List.mem_cons, List.not_mem_nil, or_false] at hc
  rcases hc with rfl | rfl | rfl | rfl | rfl | rfl | rfl | rfl
  · exact (((asc_numK ⟨by have := F.p0; omega, by have := F.p1; omega⟩).app (asc_dec _ (by decide +kernel))).app (asc_numK ⟨by have := F.s0; omega, by have := F.s1; omega⟩)).app (asc_dec _ (by decide +kernel))
  · exact cn _ _ (asc_dec _ (by decide +kernel)) F.g0 (by have := F.g1; omega)
  · split <;> exact asc_dec _ (by decide +kernel)
  · exact cn _ _ (asc_dec _ (by decide +kernel)) F.m0 (by have := F.m1; omega)
  · unfold keptT
    split
    · have hb : 0 ≤ f.ks.headD 0 ∧ f.ks.headD 0 ≤ 100 := by
        cases h : f.ks with
        | nil => exact ⟨Int.le_refl _, by decide⟩
        | cons a r => exact ok.bnd a (by rw [h]; exact List.mem_cons_self)
      exact cn _ _ (asc_dec _ (by decide +kernel)) hb.1 hb.2
    · refine (asc_dec _ (by decide +kernel)).app (asc_joinK (asc_dec _ (by decide +kernel)) fun w hw => ?_)
      obtain ⟨k, hk, rfl⟩ := List.mem_map.mp hw
      exact asc_numK (ok.bnd k hk)
  · exact cn _ _ (asc_dec _ (by decide +kernel)) F.fi0 (by have := F.fi1; omega)
  · exact cn _ _ (asc_dec _ (by decide +kernel)) F.fa0 (by have := F.fa1; omega)
  · exact cn _ _ (asc_dec _ (by decide +kernel)) F.ba0 (by have := F.ba1; omega)
theorem strOk_asc {s : Str} (h : Asc s) : PyData.strOk s = true := by
  unfold PyData.strOk
  rw [← Array.all_toList]
  exact List.all_eq_true.mpr fun c hc => decide_eq_true (Nat.lt_trans (h c hc) (by decide))
theorem kept_lay : ∀ fs : List Fg, (∀ f ∈ fs, f.Ok) → PyData.canLayAll0 (fs.map kD) = true ∧ PyData.depthAll (fs.map kD) ≤ 5
  | [], _ => by simp [PyData.canLayAll0, PyData.depthAll]
  | f :: r, ok => by
    obtain ⟨a, b⟩ := kept_lay r fun g hg => ok g (List.mem_cons_of_mem _ hg)
    have s := fig_shaped f
    have dd := fig_depth f
    have t1 := asc_txtK (ok f List.mem_cons_self)
    have t2 := ((asc_dec (Str.ofString "Rule(") (by decide +kernel)).app t1).app (asc_dec (Str.ofString ")") (by decide +kernel))
    have s : (PyData.canLay0 (figD f) && decide (PyData.depth (figD f) ≤ 64)) = true := s
    rw [Bool.and_eq_true] at s
    rw [List.map_cons]
    refine ⟨?_, ?_⟩
    · simp only [PyData.canLayAll0, kD, PyData.canLay0, s.1, a, strOk_asc t1, strOk_asc t2, Bool.and_self]
    · simp only [PyData.depthAll, kD, PyData.depth]
      omega
theorem kept_shaped {fs : List Fg} (ok : ∀ f ∈ fs, f.Ok) : SeqAt.shaped (keptD fs) = true := by
  obtain ⟨a, b⟩ := kept_lay fs ok
  show (PyData.canLay0 (keptD fs) && decide (PyData.depth (keptD fs) ≤ 64)) = true
  rw [Bool.and_eq_true]
  exact ⟨by simp only [keptD, PyData.canLay0, a], decide_eq_true (by simp only [keptD, PyData.depth]; omega)⟩
theorem for_enum {K : PySem.W.Frag} {a : Addr} {xs : List V} {g : TG} {tb : TS} {D : Ends} {σ : _root_.L2.St} {H : Hp} (Pv : Nat → _root_.L2.St → Hp → Prop) (h0 : Pv 0 σ H) (hl : ∀ i σ H, i ≤ xs.length → Pv i σ H → SqL K H a xs)
    (hs : ∀ i x σ H T, xs[i]? = some x → Pv i σ H → H T = none → g (.ref T) σ (upd H T (.tup [.int (i : Nat), x])) fun σ2 H2 => tb { D with nx := Pv (i + 1), ct := Pv (i + 1), bk := D.nx } σ2 H2) (hd : ∀ σ H, Pv xs.length σ H → D.nx σ H) :
    ∃ W : Nat → Nat → _root_.L2.St → Hp → Prop, (∃ m, W 0 m σ H) ∧ ∀ i m σ H, W i m σ H →
      ((Ite K a).stop i H ∧ D.nx σ H) ∨ ((Ite K a).go i H ∧ ∃ N : _root_.L2.St → Hp → Prop, (∀ σ' H', N σ' H' → ∃ m', m' < m ∧ W (i + 1) m' σ' H') ∧ ∀ x H', (Ite K a).yld i H x H' → g x σ H' fun σ2 H2 => tb { D with nx := N, ct := N, bk := D.nx } σ2 H2) := by
  refine ⟨fun i m σ H => m = xs.length - i ∧ i ≤ xs.length ∧ Pv i σ H, ⟨xs.length, by simp, Nat.zero_le _, h0⟩, ?_⟩
  rintro i m σ H ⟨rfl, hi, p⟩
  have q := hl i σ H hi p
  by_cases hlt : i < xs.length
  · refine .inr ⟨⟨xs, xs[i], q, by simp [hlt]⟩, Pv (i + 1), fun σ' H' p' => ⟨xs.length - (i + 1), by omega, rfl, hlt, p'⟩, fun x H' y => ?_⟩
    obtain ⟨T, z, rfl, nT, rfl, hz⟩ := y
    exact hs i z σ H T (hz xs q) p nT
  · have e : i = xs.length := by omega
    subst e
    exact .inl ⟨⟨xs, q, Nat.le_refl _⟩, hd σ H p⟩
def bigF (l : Bool) (x y : Int) : Fg := ⟨3, 5, 2, l, 1, [x, 50, y], 10, 8, 8⟩
def lessF (l : Bool) (x y : Int) : Fg := ⟨3, 2, 1, l, 1, [x, 50, y], 10, 3, 3⟩
theorem three_bd {x y : Int} (x0 : 0 ≤ x) (x1 : x < 101) (y0 : 0 ≤ y) (y1 : y < 101) : ∀ k ∈ [x, 50, y], 0 ≤ k ∧ k ≤ 100 := by
  intro k hk
  simp only [List.mem_cons, List.not_mem_nil, or_false] at hk
  rcases hk with rfl | rfl | rfl <;> omega
theorem big_figs (l : Bool) (x y : Int) : Figs (bigF l x y).p (bigF l x y).s (bigF l x y).g (bigF l x y).m (bigF l x y).fi (bigF l x y).fa (bigF l x y).ba := by constructor <;> first | (dsimp only [bigF]; done) | (dsimp only [bigF]; decide)
theorem less_figs (l : Bool) (x y : Int) : Figs (lessF l x y).p (lessF l x y).s (lessF l x y).g (lessF l x y).m (lessF l x y).fi (lessF l x y).fa (lessF l x y).ba := by constructor <;> first | (dsimp only [lessF]; done) | (dsimp only [lessF]; decide)
theorem big_few (l : Bool) (x y : Int) : Few (bigF l x y) := by constructor <;> first | (dsimp only [bigF]; done) | (dsimp only [bigF]; decide)
theorem less_few (l : Bool) (x y : Int) : Few (lessF l x y) := by constructor <;> first | (dsimp only [lessF]; done) | (dsimp only [lessF]; decide)
/-! ### law -/
abbrev s_law : Stmt := topS 42
abbrev N_law : List Str := ["_law_script", "_law_k", "_law_left", "_law_told", "_law_great", "_law_some", "_law_turn", "_law_rules", "_law_figures_here", "_law_kept", "_law_rule", "_law_a", "_law_b", "_law_found", "_law_pair", "_law_at", "_law_days_here", "_law_end"]
theorem sc_law : FnScope N_law ["_law_script"] (defScope s_law) := ⟨rfl, rfl, rfl, by decide +kernel, rfl, by decide +kernel, by decide +kernel⟩
def sp_law (K : PySem.W.Frag) : Sp := fun vs H Q _ => ∃ (a : Addr) (ns : List Int), vs = [.ref a] ∧ SqL K H a (ns.map V.int) ∧ ns.length ≤ 63 ∧ ∀ H', Q (.bl true) H'
theorem ok_law {f : Addr} {fd : FuncData} (F : Fun K "law" "law" s_law f fd) {CR : Addr} (TQ : TEq K mg CR "Rule") (T_Rule : TRule K mg CR) (m_range : mg "range" = none) (m_min : mg "min" = none) (m_len : mg "len" = none) (m_repr : mg "repr" = none) (m_str : mg "str" = none) (m_enumerate : mg "enumerate" = none) (C__law_drawn_from : CF P w K mg base 1 "_law_drawn_from" ["_law_script", "_law_k"] (sp__law_drawn_from K)) (C__law_pick : CF P w K mg base 2 "_law_pick" ["_law_left", "_law_many"] (sp__law_pick K)) (C__law_whole : CF P w K mg base 1 "_law_whole" ["_law_figures_here"] (sp__law_whole K)) (C__law_figures : CF P w K mg base 3 "_law_figures" ["_law_left", "_law_small"] (sp__law_figures K)) (C__law_rule_of : CF P w K mg base 6 "_law_rule_of" ["_law_figures_here"] (sp__law_rule_of K CR)) (C_parted : CF P w K mg base 5 "parted" ["one", "other"] (sp_parted K P w CR)) (C_shows_parted : CF P w K mg base 6 "shows_parted" ["one", "other", "thing"] (sp_shows_parted K CR)) (C__law_days : CF P w K mg base 3 "_law_days" ["_law_left", "_law_most", "_law_many"] (sp__law_days K)) (C__law_same : CF P w K mg base 6 "_law_same" ["_law_found", "_law_due"] (sp__law_same K)) (C__law_shown : CF P w K mg base 2 "_law_shown" ["_law_figures_here", "_law_days_here", "_law_end"] (sp__law_shown K)) (C_shown : CF P w K mg base 5 "shown" ["rule", "days", "end"] (sp_shown K CR)) (C_Rule___repr___0 : CTx P w K mg base CR 7 "__repr__" (sp_Rule___repr__ K CR)) (C_Rule___str___0 : CTx P w K mg base CR 4 "__str__" (sp_Rule___str__ K CR)) (C_Rule_figures_0 : CMt P w K mg base CR 1 "figures" ["self"] [] (sp_Rule_figures K CR)) : FnG P w K mg base 10 f fd ["_law_script"] (sp_law K) := by
  refine okG F sc_law (fun vs H Q E h => ?_) (fun cdv A outer s H vs Q E hr gd h => ?_)
  · first | (obtain ⟨_, rfl, _⟩ := h; rfl) | (obtain ⟨_, _, rfl, _⟩ := h; rfl) | (obtain ⟨_, _, _, rfl, _⟩ := h; rfl) | (obtain ⟨_, _, _, _, rfl, _⟩ := h; rfl) | (obtain ⟨_, _, _, _, _, rfl, _⟩ := h; rfl) | (obtain ⟨_, _, _, _, _, _, rfl, _⟩ := h; rfl) | (obtain ⟨_, _, _, _, _, _, _, rfl, _⟩ := h; rfl) | (obtain ⟨_, _, _, _, _, _, _, _, rfl, _⟩ := h; rfl) | (obtain ⟨_, _, _, _, _, _, _, _, _, rfl, _⟩ := h; rfl) | (obtain ⟨_, _, _, _, _, _, _, _, _, _, rfl, _⟩ := h; rfl) | (obtain ⟨_, _, _, _, _, _, _, _, _, _, _, rfl, _⟩ := h; rfl) | (obtain ⟨_, _, _, _, _, _, _, _, _, _, _, _, rfl, _⟩ := h; rfl) | (obtain ⟨_, _, _, _, _, _, _, _, _, _, _, _, _, rfl, _⟩ := h; rfl) | (obtain ⟨_, _, _, _, _, _, _, _, _, _, _, _, _, _, rfl, _⟩ := h; rfl) | (obtain ⟨_, _, _, _, _, _, _, _, _, _, _, _, _, _, _, rfl, _⟩ := h; rfl)
  · have hu64 := hr.units
    have hu9 := hu9_of hu64
    obtain ⟨a, ns, rfl, hS, hlen, q⟩ := h
    refine ⟨_, (pss_cons (ps_for PassesOwn.never rfl (pi_range1 (by rfl) m_range (pa_cons (pe_op op_add pe_int (pe_callB (call_min2 rfl) (by rfl) m_min (by decide +kernel) (pa_cons pe_int (pa_cons (pe_callB (kk_len K) (by rfl) m_len PySem.boot_len (pa_cons (pv 0) pa_nil)) pa_nil)))) pa_nil)) (pg_name (i := 1) sc_law.nd rfl (.inr rfl))
         (pss_cons (ps_asg (pe_tup (pa_cons (pe_cf C__law_drawn_from (hr.mono (by decide)) (by rfl) (pa_cons (pv 0) (pa_cons (pv 1) pa_nil))) (pa_cons ND.pe_nnew pa_nil))) (pg_tup (by rfl) (pgs_cons (pg_name (i := 2) sc_law.nd rfl (.inr rfl)) (pgs_cons (pg_name (i := 3) sc_law.nd rfl (.inl rfl)) pgs_nil))))
          (pss_cons (ps_set (i := 4) sc_law.nd rfl (.inl rfl) (pe_tup (pa_cons pe_int (pa_cons pe_int (pa_cons pe_int (pa_cons (pe_cmpR op_eq (pe_cf C__law_pick (hr.mono (by decide)) (by rfl) (pa_cons (pv 2) (pa_cons pe_int pa_nil))) pe_int (nomark _)) (pa_cons pe_int (pa_cons (pe_tup (pa_cons (pe_cf C__law_pick (hr.mono (by decide)) (by rfl) (pa_cons (pv 2) (pa_cons pe_int pa_nil))) (pa_cons pe_int (pa_cons (pe_cf C__law_pick (hr.mono (by decide)) (by rfl) (pa_cons (pv 2) (pa_cons pe_int pa_nil))) pa_nil)))) (pa_cons pe_int (pa_cons pe_int (pa_cons pe_int pa_nil)))))))))))
          (pss_cons (ps_set (i := 5) sc_law.nd rfl (.inl rfl) (pe_lst (pa_cons (pe_ifExp (pt_cmpR op_eq (pv 1) pe_int (nomark _)) (pv 4) (pe_op (kk_catT K) (pe_op (kk_catT K) (pe_op (kk_catT K) (pe_slice (kk_slt K) (pv 4) po_none (po_some pe_int)) (pe_tup (pa_cons pe_int (pa_cons pe_int pa_nil)))) (pe_slice (kk_slt K) (pv 4) (po_some pe_int) (po_some pe_int))) (pe_tup (pa_cons pe_int (pa_cons pe_int pa_nil))))) pa_nil)))
          (pss_cons (ps_set (i := 5) sc_law.nd rfl (.inl rfl) (pe_op op_cat (pv 5) (pe_lc (own := [("_law_turn", 6)]) (g := (gName 6)) (tt := tYes) rfl sc_law.nd (pi_range1 (by rfl) m_range (pa_cons pe_int pa_nil)) (blkOk_by (own := [("_law_turn", 6)]) (N := N_law) (sc := defScope s_law) (by decide +kernel)) (fun _ _ _ _ _ => pg_name (i := 6) sc_law.nd rfl (Or.inl rfl)) (fun _ _ _ _ _ => pts_nil) (fun _ _ _ _ _ => (pe_cf C__law_whole (hr.mono (by decide)) (by rfl) (pa_cons (pe_cf C__law_figures (hr.mono (by decide)) (by rfl) (pa_cons (pv 2) (pa_cons (pe_cmpR op_gt (pv 1) pe_int (nomark _)) pa_nil))) pa_nil))))))
          (pss_cons (ps_expr (pe_bm PySem.F.plainAttrs_list PySem.F.slot_list_append PySem.F.type_list_append mt_append (pv 5) (pa_cons (pe_ix (kk_ixl K) (pv 5) (pe_cf C__law_pick (hr.mono (by decide)) (by rfl) (pa_cons (pv 2) (pa_cons pe_int pa_nil))) (fun _ _ => rfl)) pa_nil)))
          (pss_cons (ps_setLc (i := 7) (own := [("_law_figures_here", 8)]) (g := (gName 8)) (tt := tYes) rfl sc_law.nd rfl rfl (sw_true rfl rfl rfl (by decide +kernel)) (pi_list (pv 5)) (blkOk_by (own := [("_law_figures_here", 8)]) (N := N_law) (sc := defScope s_law) (by decide +kernel)) (fun _ _ _ _ _ => pg_name (i := 8) sc_law.nd rfl (Or.inl rfl)) (fun _ _ _ _ _ => pts_nil) (fun _ _ _ _ _ => (pe_cf C__law_rule_of (hr.mono (by decide)) (by rfl) (pa_cons (pv 8) pa_nil))))
          (pss_cons (ps_setLc (i := 9) (own := [("_law_rule", 10)]) (g := (gName 10)) (tt := tYes) rfl sc_law.nd rfl rfl (sw_true rfl rfl rfl (by decide +kernel)) (pi_list (pv 7)) (blkOk_by (own := [("_law_rule", 10)]) (N := N_law) (sc := defScope s_law) (by decide +kernel)) (fun _ _ _ _ _ => pg_name (i := 10) sc_law.nd rfl (Or.inl rfl)) (fun _ _ _ _ _ => pts_nil) (fun _ _ _ _ _ => (pe_tup (pa_cons (pe_mt0 C_Rule_figures_0 T_Rule.cl (hr.mono (by decide)) (pv 10)) (pa_cons (pe_callTy (kk_strO C_Rule___str___0 (hr.mono (by decide))) (by rfl) m_str (by decide +kernel) (pa_cons (pv 10) pa_nil)) (pa_cons (pe_callB (kk_reprO C_Rule___repr___0 (hr.mono (by decide))) (by rfl) m_repr (by decide +kernel) (pa_cons (pv 10) pa_nil)) pa_nil))))))
          (pss_cons (ps_for PassesOwn.never rfl (pi_range1 (by rfl) m_range (pa_cons pe_int pa_nil)) (pg_name (i := 6) sc_law.nd rfl (.inl rfl))
             (pss_cons (ps_par (i := 11) (j := 12) (by rfl) sc_law.nd rfl rfl (by decide) rfl rfl (pa_cons (pe_cf C__law_pick (hr.mono (by decide)) (by rfl) (pa_cons (pv 2) (pa_cons pe_int pa_nil))) (pa_cons (pe_cf C__law_pick (hr.mono (by decide)) (by rfl) (pa_cons (pv 2) (pa_cons pe_int pa_nil))) pa_nil)) (by rfl))
              (pss_cons (ps_set (i := 13) sc_law.nd rfl (.inl rfl) (pe_cf C_parted (hr.mono (by decide)) (by rfl) (pa_cons (pe_ix (kk_ixl K) (pv 7) (pv 11) (fun _ _ => rfl)) (pa_cons (pe_ix (kk_ixl K) (pv 7) (pv 12) (fun _ _ => rfl)) pa_nil))))
              (pss_cons (ps_if (PW.pt (pw_and (pt_cmpR (kk_eqD K hu64) (pe_ix (kk_ixl K) (pv 5) (pv 11) (fun _ _ => rfl)) (pe_ix (kk_ixl K) (pv 5) (pv 12) (fun _ _ => rfl)) (nomark _)) (pw_and1 (pt_cmpR op_notN (pv 13) pe_non (nomark _)))))
                 (pss_one (ps_ret pe_bl))
                 pss_nil)
              (pss_cons (ps_if (pt_cmpR op_ne (ND.pe_nsetd hu9 (pv 3) (pe_tup (pa_cons (pe_ix (kk_ixl K) (pv 5) (pv 11) (fun _ _ => rfl)) (pa_cons (pe_ix (kk_ixl K) (pv 5) (pv 12) (fun _ _ => rfl)) pa_nil))) (pe_callB (kk_repr K gd hu64) (by rfl) m_repr (by decide +kernel) (pa_cons (pv 13) pa_nil)) ⟨rfl, rfl, rfl, rfl⟩) (pe_callB (kk_repr K gd hu64) (by rfl) m_repr (by decide +kernel) (pa_cons (pv 13) pa_nil)) (nomark _))
                 (pss_one (ps_ret pe_bl))
                 pss_nil)
              (pss_cons (ps_set (i := 14) sc_law.nd rfl (.inl rfl) (pe_lst (pa_cons (pe_cf C__law_rule_of (hr.mono (by decide)) (by rfl) (pa_cons (pe_ix (kk_ixl K) (pv 5) (pv 11) (fun _ _ => rfl)) pa_nil)) (pa_cons (pe_cf C__law_rule_of (hr.mono (by decide)) (by rfl) (pa_cons (pe_ix (kk_ixl K) (pv 5) (pv 12) (fun _ _ => rfl)) pa_nil)) pa_nil))))
              (pss_cons (ps_if (PW.pt (pw_and (pt_cmpR op_eq (pv 6) pe_int (nomark _)) (pw_and1 (pt_cmpR op_ne (pe_callB (kk_repr K gd hu64) (by rfl) m_repr (by decide +kernel) (pa_cons (pe_cf C_parted (hr.mono (by decide)) (by rfl) (pa_cons (pe_ix (kk_ixl K) (pv 14) pe_int (fun _ _ => rfl)) (pa_cons (pe_ix (kk_ixl K) (pv 14) pe_int (fun _ _ => rfl)) pa_nil))) pa_nil)) (pe_callB (kk_repr K gd hu64) (by rfl) m_repr (by decide +kernel) (pa_cons (pv 13) pa_nil)) (nomark _)))))
                 (pss_one (ps_ret pe_bl))
                 pss_nil)
              (pss_one (ps_if (pt_cmpR op_notN (pv 13) pe_non (nomark _))
                 (pss_cons (ps_if (pt_cmpR op_notBl (pe_cf C_shows_parted (hr.mono (by decide)) (by rfl) (pa_cons (pe_ix (kk_ixl K) (pv 7) (pv 12) (fun _ _ => rfl)) (pa_cons (pe_ix (kk_ixl K) (pv 7) (pv 11) (fun _ _ => rfl)) (pa_cons (pv 13) pa_nil)))) pe_bl (nomark _))
                     (pss_one (ps_ret pe_bl))
                     pss_nil)
                  (pss_cons (ps_expr (pe_bm PySem.F.plainAttrs_list PySem.F.slot_list_append PySem.F.type_list_append mt_append (pe_ix (kk_ixt K) (pv 13) pe_int (fun _ _ => rfl)) (pa_cons pe_str pa_nil)))
                  (pss_one (ps_expr (pe_bm0 PySem.F.plainAttrs_list PySem.F.slot_list_reverse PySem.F.type_list_reverse mt_reverse (pe_ix (kk_ixt K) (pv 13) pe_int (fun _ _ => rfl)))))))
                 pss_nil)))))))))
          (pss_cons (ps_for PassesOwn.never rfl (pi_enum (by rfl) m_enumerate (pa_cons (pv 7) pa_nil)) (pg_tup (by rfl) (pgs_cons (pg_name (i := 15) sc_law.nd rfl (.inl rfl)) (pgs_cons (pg_name (i := 10) sc_law.nd rfl (.inl rfl)) pgs_nil)))
             (pss_cons (ps_par (i := 16) (j := 17) (by rfl) sc_law.nd rfl rfl (by decide) rfl rfl (pa_cons (pe_cf C__law_days (hr.mono (by decide)) (by rfl) (pa_cons (pv 2) (pa_cons pe_int (pa_cons pe_int pa_nil)))) (pa_cons (pe_ix (kk_ixl K) (pe_lst (pa_cons pe_int (pa_cons (pe_cf C__law_pick (hr.mono (by decide)) (by rfl) (pa_cons (pv 2) (pa_cons pe_int pa_nil))) pa_nil))) (pe_cf C__law_pick (hr.mono (by decide)) (by rfl) (pa_cons (pv 2) (pa_cons pe_int pa_nil))) (fun _ _ => rfl)) pa_nil)) (by rfl))
              (pss_cons (ps_set (i := 16) sc_law.nd rfl (.inl rfl) (pe_ifExp (pt_cmpR (kk_neD K hu64) (pv 16) (pe_lst pa_nil) (nomark _)) (pe_op op_cat (pv 16) (pe_op op_rep (pe_lst (pa_cons (pe_ix (kk_ixl K) (pv 16) (pe_un un_neg pe_int) (fun _ _ => rfl)) pa_nil)) (pe_op op_sub pe_int (pe_callB (kk_len K) (by rfl) m_len PySem.boot_len (pa_cons (pv 16) pa_nil))))) (pe_lst pa_nil)))
              (pss_one (ps_if (pt_not (pt_val (pe_cf C__law_same (hr.mono (by decide)) (by rfl) (pa_cons (pe_cf C_shown (hr.mono (by decide)) (by rfl) (pa_cons (pv 10) (pa_cons (pv 16) (pa_cons (pv 17) pa_nil)))) (pa_cons (pe_cf C__law_shown (hr.mono (by decide)) (by rfl) (pa_cons (pe_ix (kk_ixl K) (pv 5) (pv 15) (fun _ _ => rfl)) (pa_cons (pv 16) (pa_cons (pv 17) pa_nil)))) pa_nil)))))
                 (pss_one (ps_ret pe_bl))
                 pss_nil)))))
          (pss_one (ps_if (pt_cmpR (kk_neD K hu64) (pe_lc (own := [("_law_rule", 10)]) (g := (gName 10)) (tt := tYes) rfl sc_law.nd (pi_list (pv 7)) (blkOk_by (own := [("_law_rule", 10)]) (N := N_law) (sc := defScope s_law) (by decide +kernel)) (fun _ _ _ _ _ => pg_name (i := 10) sc_law.nd rfl (Or.inl rfl)) (fun _ _ _ _ _ => pts_nil) (fun _ _ _ _ _ => (pe_tup (pa_cons (pe_mt0 C_Rule_figures_0 T_Rule.cl (hr.mono (by decide)) (pv 10)) (pa_cons (pe_callTy (kk_strO C_Rule___str___0 (hr.mono (by decide))) (by rfl) m_str (by decide +kernel) (pa_cons (pv 10) pa_nil)) (pa_cons (pe_callB (kk_reprO C_Rule___repr___0 (hr.mono (by decide))) (by rfl) m_repr (by decide +kernel) (pa_cons (pv 10) pa_nil)) pa_nil)))))) (pv 9) (nomark _))
             (pss_one (ps_ret pe_bl))
             pss_nil))))))))))))
      (pss_one (ps_ret pe_bl))), ?_⟩
    refine seq_go ?_
    refine ⟨_, rfl, a, _, rfl, .inl hS, _, _, rfl, _, _, rfl, rfl, _, rfl, ?_, ?_, for_range (fun i σ H' => ∃ s1 s2 s3 s4 s5 s6 s7 s8 s9 s10 s11 s12 s13 s14 s15 s16 s17, σ = [some (.ref a), s1, s2, s3, s4, s5, s6, s7, s8, s9, s10, s11, s12, s13, s14, s15, s16, s17] ∧ Same H H') ⟨_, _, _, _, _, _, _, _, _, _, _, _, _, _, _, _, _, rfl, Same.refl H⟩ (fun i0 σ H' hi h => ?_) (fun σ H' h => ?_)⟩
    · split <;> omega
    · split <;> omega
    · obtain ⟨s1, s2, s3, s4, s5, s6, s7, s8, s9, s10, s11, s12, s13, s14, s15, s16, s17, rfl, sm⟩ := h
      have hi7 : i0 < 4 := by
        split at hi <;> omega
      have size : ∀ n : Nat, n ≤ 1000 → n ≤ sizeLine := fun n h => by rw [sizeLine_eq]; omega
      refine nm_go ?_
      refine seq_go ?_
      refine ⟨_, rfl, _, rfl, a, _, ns, rfl, sm.seq hS, by omega, by omega, fun H1 b nb sb hb => ?_⟩
      have nb0 : H b = none := none_of sm nb
      have sm1 := sm.trans sb
      refine nnew_at (P := P) (w := w) rfl rfl ?_
      refine fun dd ndd => ⟨size 2 (by decide), fun tp ntp => ?_⟩
      have u1 := same_new (o := ND.obj P w dd []) ndd
      have hD := upd_same (H := H1) (a := dd) (o := ND.obj P w dd [])
      have xD := hb.ne ndd
      have nD0 : H dd = none := none_of sm1 ndd
      have hb := hb.same u1
      have sm1 := sm1.trans u1
      generalize upd H1 dd (ND.obj P w dd []) = H2 at *
      have u2 := same_new (o := .tup [.ref b, .ref dd]) ntp
      have gtp := upd_same (H := H2) (a := tp) (o := .tup [.ref b, .ref dd])
      have hD := u2 _ _ hD
      have hb := hb.same u2
      have sm1 := sm1.trans u2
      generalize upd H2 tp (.tup [.ref b, .ref dd]) = H3 at *
      refine ⟨tp, _, rfl, SqT.of gtp, rfl, _, _, rfl, _, _, rfl, rfl, ?_⟩
      dsimp only
      refine seq_go ?_
      refine ⟨_, rfl, b, 2, _, rfl, hb, by decide, by decide, by omega, fun r H4 r0 r1 hb t4 => ⟨rfl, ?_⟩⟩
      have hD := t4 _ _ xD hD
      have sm1 := same_but sm1 nb0 t4
      refine ⟨_, rfl, b, 101, _, rfl, hb, by decide, by decide, by omega, fun x H5 x0 x1 hb t5 => ⟨_, rfl, b, 101, _, rfl, hb, by decide, by decide, by omega, fun y H6 y0 y1 hb t6 => ⟨size 3 (by decide), fun kt nkt => ?_⟩⟩⟩
      have hD := t6 _ _ xD (t5 _ _ xD hD)
      have sm1 := same_but (same_but sm1 nb0 t5) nb0 t6
      have u7 := same_new (o := .tup [.int x, .int 50, .int y]) nkt
      have gk := upd_same (H := H6) (a := kt) (o := .tup [.int x, .int 50, .int y])
      have xk := hb.ne nkt
      have hD := u7 _ _ hD
      have hb := hb.same u7
      have sm1 := sm1.trans u7
      generalize upd H6 kt (.tup [.int x, .int 50, .int y]) = H7 at *
      have xkd : kt ≠ dd := fun z => by
        rw [z, hD] at gk
        cases gk
      generalize hl : decide (V.int r = V.int 0) = l at *
      refine ⟨size 9 (by decide), fun gt ngt => ?_⟩
      have u8 := same_new (o := .tup [.int 3, .int 5, .int 2, .bl l, .int 1, .ref kt, .int 10, .int 8, .int 8]) ngt
      have gg := upd_same (H := H7) (a := gt) (o := .tup [.int 3, .int 5, .int 2, .bl l, .int 1, .ref kt, .int 10, .int 8, .int 8])
      have xg := hb.ne ngt
      have gk := u8 _ _ gk
      have hD := u8 _ _ hD
      have hb := hb.same u8
      have sm1 := sm1.trans u8
      generalize upd H7 gt (.tup [.int 3, .int 5, .int 2, .bl l, .int 1, .ref kt, .int 10, .int 8, .int 8]) = H8 at *
      have xgd : gt ≠ dd := fun z => by
        rw [z, hD] at gg
        cases gg
      have hF0 : FgW K H8 gt (bigF l x y) := ⟨kt, ⟨SqT.of gg, big_figs l x y, .all kt (SqT.of gk) rfl (three_bd x0 x1 y0 y1)⟩, SqT.of gk⟩
      refine nm_go ?_
      dsimp only
      refine seq_go ?_
      refine lst1_by (fun v G' => Same H8 G' ∧ ∃ t f, v = .ref t ∧ FgW K G' t f ∧ Few f) (fun v G' hG => ?_) (fun fin => ?_)
      · obtain ⟨z9, t, f0, rfl, hf0, few0⟩ := hG
        have hD := z9 _ _ hD
        have hb := hb.same z9
        have sm1 := sm1.trans z9
        refine ⟨size 1 (by decide), fun L nL => ?_⟩
        have u9 := same_new (o := .lst [.ref t]) nL
        have gL := upd_same (H := G') (a := L) (o := .lst [.ref t])
        have xL := hb.ne nL
        have hD := u9 _ _ hD
        have hb := hb.same u9
        have hf0 := hf0.same u9
        have sm1 := sm1.trans u9
        generalize upd G' L (.lst [.ref t]) = H9 at *
        refine nm_go ?_
        dsimp only
        refine seq_go ?_
        refine ⟨_, rfl, 2, rfl, by decide, by decide, fun D nD => lc_range (fun i G => Tri G b (10 + 20 * i) ∧ But b H9 G ∧ ∃ ws fs, G D = some (.lst ws) ∧ ws.length = i ∧ FigL K G ws fs ∧ ∀ f ∈ fs, Few f) ⟨(hb.new nD).mono (by omega), But.new nD, [], [], upd_same, rfl, ⟨rfl, fun j v h => (nomatch h)⟩, fun f h => (nomatch h)⟩ (fun i G hi h => ?_) fun G h => ?_⟩
        · obtain ⟨b1, t1, ws, fs, hw, lw, fl, few⟩ := h
          have nDb : D ≠ b := hb.ne nD
          have hi2 : i < 2 := hi
          refine ⟨rfl, _, rfl, _, rfl, _, _, rfl, rfl, b, _, _, rfl, b1, by omega, fun G2 t2 f kv kd b2 e2 nt2 hD2 few2 => ⟨t2, f, kv, kd, rfl, hD2, fun G3 w2 k2 z3 hW hk2 => ?_⟩⟩
          have hw3 := z3 _ _ (e2 _ _ nDb hw)
          have fl3 := ((fl.but b1 e2).same z3).snoc ⟨k2, hW, hk2⟩
          refine ⟨ws, hw3, by rw [sizeLine_eq]; omega, ((b2.same z3).upd nDb).mono (by omega), ((t1.trans e2).trans (But.of z3)).updn nD , ws ++ [.ref w2], fs ++ [f], upd_same, by rw [List.length_append, lw]; rfl, fl3.put hw3, fun g hg => ?_⟩
          rcases List.mem_append.mp hg with hg | hg
          · exact few g hg
          · rw [List.mem_singleton.mp hg]
            exact few_ok few2 hD2.2.1
        · obtain ⟨b1, t1, ws, fs, hw, lw, fl, few⟩ := h
          have lw : ws.length = 2 := lw
          have xDb := hb.ne nD
          have gL := t1 _ _ xL gL
          have hD := t1 _ _ xD hD
          have hf0 := hf0.but hb t1
          have sm1 := same_but sm1 nb0 t1
          refine ⟨L, D, _, _, rfl, rfl, gL, hw, by rw [lw]; exact size 3 (by decide), fun L2 nL2 => ?_⟩
          have nHL : H L2 = none := none_of sm1 nL2
          have u := same_new (o := .lst ([.ref t] ++ ws)) nL2
          have gL2 := upd_same (H := G) (a := L2) (o := .lst ([.ref t] ++ ws))
          have fl := (fl.cons hf0).same u
          have xL2 := b1.ne nL2
          have b1 := b1.same u
          have hD := u _ _ hD
          have sm1 := sm1.trans u
          have few : ∀ g ∈ f0 :: fs, Few g := List.forall_mem_cons.mpr ⟨few0, few⟩
          generalize upd G L2 (.lst ([.ref t] ++ ws)) = H10 at *
          have gL2 : H10 L2 = some (.lst (.ref t :: ws)) := gL2
          have lv3 : (V.ref t :: ws).length = 3 := by rw [List.length_cons, lw]
          generalize V.ref t :: ws = vs3 at *
          generalize f0 :: fs = fs3 at *
          refine nm_go ?_
          dsimp only
          refine seq_go ?_
          refine ⟨_, rfl, .inl ⟨rfl, _, SqL.of gL2⟩, _, rfl, _, rfl, b, 3, _, rfl, b1, by decide, by decide, by omega, fun r2 H11 r20 r21 b2 t2 => ?_⟩
          obtain ⟨j, rfl⟩ := Int.eq_ofNat_of_zero_le r20
          obtain ⟨vj, hvj⟩ : ∃ vj, vs3[j]? = some vj := ⟨_, List.getElem?_eq_getElem (by omega)⟩
          have fl := fl.but b1 t2
          obtain ⟨fj, tj, hfj, rfl, hfw⟩ := fl.2 j vj hvj
          have gL2 := t2 _ _ xL2 gL2
          have hD := t2 _ _ xD hD
          have sm1 := same_but sm1 nb0 t2
          have xLd : L2 ≠ dd := fun z => by
            rw [z, hD] at gL2
            cases gL2
          refine ⟨L2, vs3, (j : Int), _, rfl, rfl, SqL.of gL2, atI_nat hvj, L2, vs3, _, rfl, rfl, gL2, by rw [lv3]; exact Nat.lt_of_lt_of_le (by decide) (size 4 (by decide)), ?_⟩
          have fl := (fl.snoc hfw).put (o := .lst (vs3 ++ [.ref tj])) gL2
          have few : ∀ g ∈ fs3 ++ [fj], Few g := fun g hg => (List.mem_append.mp hg).elim (few g) fun hg => by
            rw [List.mem_singleton.mp hg]
            exact few _ (List.mem_of_getElem? hfj)
          have lf3 : fs3.length = 3 := by
            have := fl.1
            rw [List.length_append, List.length_append, lv3] at this
            simp at this
            omega
          have b2 := b2.upd (o := .lst (vs3 ++ [.ref tj])) xL2
          have sm1 : Same H (upd H11 L2 (.lst (vs3 ++ [.ref tj]))) := fun c o e => by
            rw [upd_ne (ne_of_none e nHL)]
            exact sm1 _ _ e
          have hD : (upd H11 L2 (.lst (vs3 ++ [.ref tj]))) dd = some (ND.obj P w dd []) := by
            rw [upd_ne xLd.symm]
            exact hD
          have gL2 := upd_same (H := H11) (a := L2) (o := .lst (vs3 ++ [.ref tj]))
          generalize upd H11 L2 (.lst (vs3 ++ [.ref tj])) = H12 at *
          have lv4 : (vs3 ++ [V.ref tj]).length = 4 := by rw [List.length_append, lv3]; rfl
          have lf4 : (fs3 ++ [fj]).length = 4 := by rw [List.length_append, lf3]; rfl
          generalize vs3 ++ [V.ref tj] = vs4 at *
          generalize fs3 ++ [fj] = fs4 at *
          refine nm_go ?_
          dsimp only
          refine seq_go ?_
          refine ⟨_, rfl, L2, rfl, ⟨vs4, SqL.of gL2⟩, fun D2 nD2 => lc_list (fun i G => Same H12 G ∧ ∃ rs, G D2 = some (.lst rs) ∧ rs.length = i ∧ RulL K CR G rs (fs4.take i)) ⟨same_new nD2, [], upd_same, rfl, by rw [List.take_zero]; exact ⟨rfl, fun j v h => (nomatch h)⟩⟩ (fun i G _ h => h.1.seq (SqL.of gL2)) (fun i x G hx h => ?_) fun G h => ?_⟩
          · obtain ⟨s1, rs, hr, lr, rl⟩ := h
            obtain ⟨fi, ti, hfi, rfl, ka, hDr, hka⟩ := fl.2 i x hx
            have hi4 := (List.getElem?_eq_some_iff.mp hx).1
            refine ⟨rfl, _, rfl, ti, fi, _, _, rfl, hDr.same s1, fun G2 r nr z2 R => ?_⟩
            refine ⟨rs, z2 _ _ hr, by rw [sizeLine_eq]; omega, fun c o h => ?_, rs ++ [.ref r], upd_same, by rw [List.length_append, lr]; rfl, ?_⟩
            · rw [upd_ne (ne_of_none h nD2)]
              exact z2 _ _ (s1 _ _ h)
            · have e2 : fs4.take (i + 1) = fs4.take i ++ [fi] := by
                rw [List.take_succ, hfi]
                rfl
              rw [e2]
              exact ((rl.same z2).snoc R).put (z2 _ _ hr)
          · obtain ⟨s1, rs, hr, lr, rl⟩ := h
            rw [lv4, ← lf4, List.take_length] at rl
            have lr : rs.length = 4 := lr.trans lv4
            have nD2b : D2 ≠ b := b2.ne nD2
            have hD := s1 _ _ hD
            have gL2 := s1 _ _ gL2
            have fl := fl.same s1
            have b2 := b2.same s1
            have sm1 := sm1.trans s1
            refine nm_go ?_
            dsimp only
            refine seq_go ?_
            have oks : ∀ f ∈ fs4, f.Ok := fun f hf => by
              obtain ⟨i, hi⟩ := List.getElem?_of_mem hf
              obtain ⟨v, hv⟩ : ∃ v, vs4[i]? = some v := ⟨_, List.getElem?_eq_getElem (by rw [lv4, ← lf4]; exact (List.getElem?_eq_some_iff.mp hi).1)⟩
              obtain ⟨f2, t2, h1, _, h3⟩ := fl.2 i v hv
              rw [hi] at h1
              cases h1
              exact h3.ok
            refine asg_by (fun v G' => Same G G' ∧ ∃ A, v = .ref A ∧ G A = none ∧ Dp K G' (.ref A) (keptD fs4)) (fun v G' hG => ?_) (fun fin => kept_run _ _ _ _ _ _ _ _ _ _ _ _ _ _ _ _ _ hr rl lr oks (fun A G' s2 nA h => fin _ _ ⟨s2, A, rfl, nA, h⟩))
            obtain ⟨z13, A0, rfl, nA0, hA0⟩ := hG
            have xA0b : A0 ≠ b := fun z => by
              obtain ⟨_, _, _, gb, _⟩ := b2
              rw [z, gb] at nA0
              cases nA0
            have xA0d : A0 ≠ dd := fun z => by
              rw [z, hD] at nA0
              cases nA0
            have hD := z13 _ _ hD
            have b2 := b2.same z13
            have gL2 := wx_at (E := And1 (E0_ b) dd) (fun z => z.elim xL2 xLd) (z13 _ _ gL2)
            have xD2d : D2 ≠ dd := fun z => by
              have := z13 _ _ hr
              rw [z, hD] at this
              cases this
            have hr := wx_at (E := And1 (E0_ b) dd) (fun z => z.elim nD2b xD2d) (z13 _ _ hr)
            have fl := (fl.same z13).wx b2 hD
            have rl := (rl.same z13).wx b2 hD
            have hA0 := kept_wx b2 hD xA0b xA0d hA0
            have sm1 := sm1.trans z13
            have SW : Same H (wx (And1 (E0_ b) dd) G') := fun c o h => wx_at (fun z => z.elim (fun z => by rw [show c = b from z, nb0] at h; cases h) (fun z => by rw [z, nD0] at h; cases h)) (sm1 _ _ h)
            have b2 := b2.mono (m := 60) (by omega)
            have T0 : Told K (wx (And1 (E0_ b) dd) G') [] := ⟨fun p h => (nomatch h), fun p h => (nomatch h)⟩
            have Eb : And1 (E0_ b) dd b := .inl rfl
            generalize hE : And1 (E0_ b) dd = E1 at *
            have Ed : E1 dd := by rw [← hE]; exact .inr rfl
            refine nm_go ?_
            dsimp only
            refine seq_go ?_
            refine ⟨5, rfl, by decide, by decide, for_range (fun k σ Gt => ∃ s6 s11 s12 s13 s14, σ = [some (.ref a), some (.int (0 + i0)), some (.ref b), some (.ref dd), some (.ref gt), some (.ref L2), s6, some (.ref D2), s8, some (.ref A0), s10, s11, s12, s13, s14, s15, s16, s17] ∧ Tri Gt b (60 + 5 * k) ∧ Same (wx E1 G') (wx E1 Gt) ∧ ∃ es, Gt dd = some (ND.obj P w dd es) ∧ es.length ≤ k ∧ Told K (wx E1 Gt) es) ⟨_, _, _, _, _, rfl, b2.mono (by omega), Same.refl _, _, hD, Nat.le_refl _, T0⟩ (fun k σ Gt hk h => ?_) (fun σ Gt h => ?_)⟩
            · obtain ⟨s6, s11, s12, s13, s14, rfl, bt, St, es, hDt, les, To⟩ := h
              have hk5 : k < 5 := hk
              have bt0 := bt
              refine nm_go ?_
              dsimp only
              refine seq_go ?_
              refine ⟨_, rfl, b, 4, _, rfl, bt, by decide, by decide, by omega, fun ra Ga ra0 ra1 ba ta => ⟨_, rfl, b, 4, _, rfl, ba, by decide, by decide, by omega, fun rb Gb rb0 rb1 bb tb => ⟨_, _, rfl, ?_⟩⟩⟩
              obtain ⟨i, rfl⟩ := Int.eq_ofNat_of_zero_le ra0
              obtain ⟨j, rfl⟩ := Int.eq_ofNat_of_zero_le rb0
              obtain ⟨v1, hv1⟩ : ∃ v, rs[i]? = some v := ⟨_, List.getElem?_eq_getElem (by omega)⟩
              obtain ⟨v2, hv2⟩ : ∃ v, rs[j]? = some v := ⟨_, List.getElem?_eq_getElem (by omega)⟩
              obtain ⟨u1, hu1⟩ : ∃ v, vs4[i]? = some v := ⟨_, List.getElem?_eq_getElem (by omega)⟩
              obtain ⟨u2, hu2⟩ : ∃ v, vs4[j]? = some v := ⟨_, List.getElem?_eq_getElem (by omega)⟩
              have Sb := (St.trans (wx_but ta Eb)).trans (wx_but tb Eb)
              have hDb := tb _ _ xD (ta _ _ xD hDt)
              have Tb := (To.same (wx_but ta Eb)).same (wx_but tb Eb)
              obtain ⟨f1, r1, hf1, rfl, R1⟩ := rl.2 i v1 hv1
              obtain ⟨f2, r2, hf2, rfl, R2⟩ := rl.2 j v2 hv2
              obtain ⟨f1', t1, hf1', rfl, W1⟩ := fl.2 i u1 hu1
              obtain ⟨f2', t2, hf2', rfl, W2⟩ := fl.2 j u2 hu2
              rw [hf1] at hf1'
              rw [hf2] at hf2'
              cases hf1'
              cases hf2'
              have ok1 := oks f1 (List.mem_of_getElem? hf1)
              have ok2 := oks f2 (List.mem_of_getElem? hf2)
              have F1 := few f1 (List.mem_of_getElem? hf1)
              have F2 := few f2 (List.mem_of_getElem? hf2)
              obtain ⟨res, a1, a2, a3⟩ := first_found F1 F2
              have down : ∀ {G : Hp}, Same (wx E1 Gb) (wx E1 G) → Same (wx E1 G') G := fun z => (Sb.trans z).trans (wx_sub _ _)
              have d0 := down (Same.refl _)
              dsimp only
              refine seq_go ?_
              refine asg_by (fun v G2 => Same Gb G2 ∧ ((res = none ∧ v = .non) ∨ ∃ d e t la, res = some (d, e) ∧ v = .ref t ∧ RowO G2 la d ∧ Gb la = none ∧ G2 t = some (.tup [.ref la, .int e]))) (fun v G2 hG => ?_) (fun fin => ?_)
              · obtain ⟨z2, hres⟩ := hG
                have bb2 := bb.same z2
                have hD2 := z2 _ _ hDb
                have To2 := Tb.same (wx_same z2)
                have d2 := down (wx_same z2)
                have kE2 : Kept E1 Gb := by
                  rw [← hE]
                  exact fun c z e => z.elim (fun z => kept0 bb c z e) (fun z => by rw [z, hDb] at e; cases e)
                have hres2 : (res = none ∧ v = .non) ∨ ∃ d e t la, res = some (d, e) ∧ v = .ref t ∧ RowO (wx E1 G2) la d ∧ Gb la = none ∧ (wx E1 G2) t = some (.tup [.ref la, .int e]) := by
                  rcases hres with h | ⟨d, e, t, la, e1, e2, h1, h2, h3⟩
                  · exact .inl h
                  · refine .inr ⟨d, e, t, la, e1, e2, wx_at (kE2.no h2) h1, h2, wx_at ?_ h3⟩
                    rw [← hE]
                    obtain ⟨_, _, _, gb, _⟩ := bb2
                    exact fun z => z.elim (ne_of h3 gb (by intro z; cases z)) (ne_of h3 hD2 (by intro z; cases z))
                have hAt : ResAt (wx E1 G2) res v := by
                  rcases hres2 with h | ⟨d, e, t, la, e1, e2, h1, h2, h3⟩
                  · exact .inl h
                  · exact .inr ⟨d, e, t, la, e1, e2, h1, h3⟩
                obtain ⟨shw, shl, shd⟩ := res_shw a3
                refine nm_go ?_
                dsimp only
                refine seq_go ?_
                refine ifs_by (fun G3 => G3 = G2) (fun G3 hG3 => ?_) (fun fin => ?_)
                · subst hG3
                  dsimp only
                  refine seq_go ?_
                  refine ifs_by (fun G4 => Same (wx E1 G3) (wx E1 G4) ∧ Tri G4 b (60 + 5 * k + 2) ∧ ∃ es', G4 dd = some (ND.obj P w dd es') ∧ es'.length ≤ k + 1 ∧ Told K (wx E1 G4) es') (fun G4 hG4 => ?_) (fun fin => ?_)
                  · obtain ⟨z4, b4, es4, hD4, les4, To4⟩ := hG4
                    have d4 := down ((wx_same z2).trans z4)
                    obtain ⟨ka1, hDr1, _⟩ := id (W1.same d4)
                    obtain ⟨ka2, hDr2, _⟩ := id (W2.same d4)
                    dsimp only
                    refine seq_go ?_
                    refine ⟨_, rfl, _, rfl, L2, vs4, (i : Int), _, rfl, rfl, SqL.of (d4 _ _ gL2), atI_nat hu1, t1, f1, _, _, rfl, hDr1, fun G6 r3 nr3 z6 R3 => ⟨_, rfl, _, rfl, L2, vs4, (j : Int), _, rfl, rfl, SqL.of (z6 _ _ (d4 _ _ gL2)), atI_nat hu2, t2, f2, _, _, rfl, hDr2.same z6, fun G7 r4 nr4 z7 R4 => ⟨size 2 (by decide), fun lp nlp => ?_⟩⟩⟩
                    have u := same_new (o := .lst [.ref r3, .ref r4]) nlp
                    have glp := upd_same (H := G7) (a := lp) (o := .lst [.ref r3, .ref r4])
                    have z68 := (z6.trans z7).trans u
                    have R3 := (R3.same z7).same u
                    have R4 := R4.same u
                    have b8 := b4.same z68
                    have hD8 := z68 _ _ hD4
                    have To8 := To4.same (wx_same z68)
                    have z8 := z4.trans (wx_same z68)
                    generalize upd G7 lp (.lst [.ref r3, .ref r4]) = G8 at *
                    refine nm_go ?_
                    dsimp only
                    refine seq_go ?_
                    refine ifs_by (fun G => Same G8 G) (fun G9 z9 => ?_) (fun fin => ?_)
                    · have b9 := b8.same z9
                      have hD9 := z9 _ _ hD8
                      have To9 := To8.same (wx_same z9)
                      have z39 := z8.trans (wx_same z9)
                      have d9 := down ((wx_same z2).trans z39)
                      dsimp only
                      rcases hres2 with ⟨rfl, rfl⟩ | ⟨d, e, t, la, rfl, rfl, h1, h2, h3⟩
                      · exact ⟨_, rfl, rfl, _, rfl, iteF ⟨_, _, _, _, _, rfl, b9.mono (by omega), Sb.trans ((wx_same z2).trans z39), es4, hD9, les4, To9⟩⟩
                      · obtain ⟨e0, e81, hto, hu, hl6, _⟩ := id a3
                        have xlb := bb.ne h2
                        have xld : la ≠ dd := fun z => by rw [z, hDb] at h2; cases h2
                        have nEl : ¬ E1 la := kE2.no h2
                        have hla := z39 _ _ h1
                        have ht := wx_sub _ _ _ _ (z39 _ _ h3)
                        have hla := wx_sub _ _ _ _ hla
                        refine ⟨_, rfl, rfl, _, rfl, iteT ?_⟩
                        refine seq_go ?_
                        refine ⟨_, rfl, _, rfl, D2, rs, (j : Int), _, rfl, rfl, SqL.of (d9 _ _ hr), atI_nat hv2, _, rfl, _, rfl, D2, rs, (i : Int), _, rfl, rfl, SqL.of (d9 _ _ hr), atI_nat hv1, _, rfl, r2, r1, t, la, e, f2, f1, d, rfl, R2.same d9, ok2, R1.same d9, ok1, ht, hla, by omega, hto, e0, by omega, fun G10 z10 => ?_⟩
                        rw [unl_comm, hu]
                        refine ⟨_, true, rfl, rfl, _, rfl, iteF ?_⟩
                        have ht := z10 _ _ ht
                        have hla := z10 _ _ hla
                        have b10 := b9.same z10
                        have hD10 := z10 _ _ hD9
                        have To10 := To9.same (wx_same z10)
                        have S10 := Sb.trans ((wx_same z2).trans (z39.trans (wx_same z10)))
                        have F10 : Same (wx E1 Gb) (wx E1 G10) := (wx_same z2).trans (z39.trans (wx_same z10))
                        refine ⟨_, rfl, t, _, 0, .ref la, rfl, rfl, SqT.of ht, rfl, .inl ⟨rfl, _, SqL.of hla⟩, la, _, _, rfl, rfl, hla, by rw [List.length_map, sizeLine_eq]; omega, ?_⟩
                        have g1 := upd_same (H := G10) (a := la) (o := .lst (d.map V.int ++ [.str (Str.ofString "more")]))
                        have xtl : t ≠ la := ne_of ht hla (by intro z; cases z)
                        have ht1 : (upd G10 la (.lst (d.map V.int ++ [.str (Str.ofString "more")]))) t = some (.tup [.ref la, .int e]) := by
                          rw [upd_ne xtl]
                          exact ht
                        refine ⟨_, rfl, t, _, 0, .ref la, rfl, rfl, SqT.of ht1, rfl, .inl ⟨rfl, _, SqL.of g1⟩, la, _, rfl, rfl, g1, ?_⟩
                        refine ⟨_, _, _, _, _, rfl, ((b10.upd xlb).upd xlb).mono (by omega), Sb.trans (wx_fresh (wx_fresh F10 h2) h2), es4, ?_, les4, (To10.putl hla).putl g1⟩
                        rw [upd_ne xld.symm, upd_ne xld.symm]
                        exact hD10
                    · refine ⟨_, rfl, rfl, _, rfl, ite2 (fun z => ?_) (fun z => fin _ (Same.refl _))⟩
                      refine ⟨_, rfl, lp, _, 0, .ref r3, rfl, rfl, SqL.of glp, rfl, _, rfl, lp, _, 1, .ref r4, rfl, rfl, SqL.of glp, rfl, r3, r4, f1, f2, 82, res, rfl, R3, ok1, R4, ok2, a1, a2, fun hn G zz => ?_, fun days e hs G p la zz hla hrow htup => ?_⟩
                      · have hw : ResAt G res .non := .inl ⟨hn, rfl⟩
                        exact ⟨_, resD res, rfl, hw.dp, shw.sh, shl, shd, shw.di, _, rfl, v, resD res, rfl, (((hAt.same z8).same (wx_sub _ _)).same zz).dp, shw.sh, shl, shd, shw.di, rfl, false, congrArg V.bl (by rw [decide_eq_true rfl]; rfl), iteF (fin _ zz)⟩
                      · have hw : ResAt G res (.ref p) := .inr ⟨days, e, p, la, hs, rfl, hrow, htup⟩
                        exact ⟨_, resD res, rfl, hw.dp, shw.sh, shl, shd, shw.di, _, rfl, v, resD res, rfl, (((hAt.same z8).same (wx_sub _ _)).same zz).dp, shw.sh, shl, shd, shw.di, rfl, false, congrArg V.bl (by rw [decide_eq_true rfl]; rfl), iteF (fin _ zz)⟩
                  · refine ⟨_, rfl, dd, es, rfl, .inl hD2, _, rfl, _, rfl, L2, vs4, (i : Int), _, rfl, rfl, SqL.of (d2 _ _ gL2), atI_nat hu1, _, rfl, _, rfl, L2, vs4, (j : Int), _, rfl, rfl, SqL.of (d2 _ _ gL2), atI_nat hu2, size 2 (by decide), fun kp nkp => ?_⟩
                    have u := same_new (o := .tup [.ref t1, .ref t2]) nkp
                    have gk := upd_same (H := G3) (a := kp) (o := .tup [.ref t1, .ref t2])
                    have xkb := bb2.ne nkp
                    have bb3 := bb2.same u
                    have hD3 := u _ _ hD2
                    have To3 := To2.same (wx_same u)
                    have hAt3 := hAt.same (wx_same u)
                    have W1' := W1.same (d2.trans u)
                    have W2' := W2.same (d2.trans u)
                    generalize upd G3 kp (.tup [.ref t1, .ref t2]) = G5 at *
                    have hkey := two_key W1' W2' (SqT.of gk)
                    refine ⟨_, rfl, v, resD res, rfl, (hAt3.same (wx_sub _ _)).dp, shw.sh, shl, shd, shw.di, kp, es, twoK f1 f2, rfl, hD3, (To3.same (wx_sub _ _)).1, hkey, two_depth f1 f2, by rw [sizeLine_eq]; omega, fun y hy => ?_, fun hn => ?_⟩
                    · obtain rfl := To3.at1 a3 hy
                      refine ⟨_, rfl, v, resD res, rfl, (hAt3.same (wx_sub _ _)).dp, shw.sh, shl, shd, shw.di, rfl, false, congrArg V.bl (by rw [decide_eq_true rfl]; rfl), iteF (fin _ ⟨wx_same u, bb3.mono (by omega), es, hD3, by omega, To3⟩)⟩
                    · have sE := (Sb.trans (wx_same z2)).trans (wx_same u)
                      have nkE : ¬ E1 kp := by
                        rw [← hE]
                        exact fun z => z.elim xkb (ne_of gk hD3 (by intro z; cases z))
                      obtain ⟨To4, lput⟩ := To3.put a3 (two_key (W1.same sE) (W2.same sE) (SqT.of (wx_at nkE gk))) hn
                      exact ⟨_, rfl, v, resD res, rfl, ((hAt3.same (wx_updE Ed)).same (wx_sub _ _)).dp, shw.sh, shl, shd, shw.di, rfl, false, congrArg V.bl (by rw [decide_eq_true rfl]; rfl), iteF (fin _ ⟨(wx_same u).trans (wx_updE Ed), (bb3.upd xD).mono (by omega), _, upd_same, by omega, To4.same (wx_updE Ed)⟩)⟩
                · refine ⟨_, rfl, _, rfl, L2, vs4, (i : Int), _, rfl, rfl, SqL.of (d2 _ _ gL2), atI_nat hu1, _, rfl, _, rfl, L2, vs4, (j : Int), _, rfl, rfl, SqL.of (d2 _ _ gL2), atI_nat hu2, figD f1, figD f2, (W1.same d2).dp, (W2.same d2).dp, fig_shaped f1, fig_shaped f2, _, rfl, ?_⟩
                  cases e : PyData.eqv (figD f1) (figD f2) with
                  | false => exact iteF (fin _ rfl)
                  | true =>
                    obtain rfl := alike_eq e
                    obtain rfl := first_one a3 (first_self f1)
                    rcases hres2 with ⟨_, rfl⟩ | ⟨d, e, t, la, e1, _⟩
                    · exact iteT ⟨_, rfl, rfl, _, rfl, iteF (fin _ rfl)⟩
                    · cases e1
              · exact ⟨_, rfl, _, rfl, D2, rs, (i : Int), _, rfl, rfl, SqL.of (d0 _ _ hr), atI_nat hv1, _, rfl, _, rfl, D2, rs, (j : Int), _, rfl, rfl, SqL.of (d0 _ _ hr), atI_nat hv2, r1, r2, f1, f2, 82, res, rfl, R1.same d0, ok1, R2.same d0, ok2, a1, a2, fun hn G z => fin _ _ ⟨z, .inl ⟨hn, rfl⟩⟩, fun days e hs G p la z hla hrow htup => fin _ _ ⟨z, .inr ⟨days, e, p, la, hs, rfl, hrow, hla, htup⟩⟩⟩
            · obtain ⟨s6, s11, s12, s13, s14, rfl, bt, St, es, hDt, les, To⟩ := h
              dsimp only
              refine seq_go ?_
              have dt := St.trans (wx_sub _ _)
              refine ⟨_, rfl, D2, _, rfl, SqL.of (dt _ _ hr), for_enum (K := K) (a := D2) (xs := rs) (fun k σ G => ∃ s6 s10 s11 s12 s13 s14 s15 s16 s17, σ = [some (.ref a), some (.int (0 + i0)), some (.ref b), some (.ref dd), some (.ref gt), some (.ref L2), s6, some (.ref D2), s8, some (.ref A0), s10, s11, s12, s13, s14, s15, s16, s17] ∧ Tri G b (200 + 130 * k) ∧ Same (wx E1 G') (wx E1 G)) ⟨_, _, _, _, _, _, _, _, _, rfl, bt.mono (by omega), St⟩ (fun k σ G _ h => ?_) (fun k x σ G T hx h nT => ?_) (fun σ G h => ?_)⟩
              · obtain ⟨_, _, _, _, _, _, _, _, _, rfl, _, z⟩ := h
                exact SqL.of (wx_sub _ _ _ _ (z _ _ hr))
              · obtain ⟨s6, s10, s11, s12, s13, s14, s15, s16, s17, rfl, bG, SG⟩ := h
                have dG := SG.trans (wx_sub _ _)
                obtain ⟨f, r, hf, rfl, R⟩ := rl.2 k x hx
                obtain ⟨tf, htf⟩ : ∃ v, vs4[k]? = some v := ⟨_, List.getElem?_eq_getElem (by
                  have := (List.getElem?_eq_some_iff.mp hx).1
                  omega)⟩
                obtain ⟨f', tt, hf', rfl, Wf⟩ := fl.2 k tf htf
                rw [hf] at hf'
                cases hf'
                have okf := oks f (List.mem_of_getElem? hf)
                have hk4 : k < 4 := by
                  have := (List.getElem?_eq_some_iff.mp hx).1
                  omega
                have u := same_new (o := .tup [.int (k : Nat), .ref r]) nT
                have gT := upd_same (H := G) (a := T) (o := .tup [.int (k : Nat), .ref r])
                have bG := bG.same u
                have SG := SG.trans (wx_same u)
                generalize upd G T (.tup [.int (k : Nat), .ref r]) = G1 at *
                refine ⟨T, _, rfl, SqT.of gT, rfl, _, _, rfl, _, _, rfl, rfl, ?_⟩
                dsimp only
                refine seq_go ?_
                refine ⟨_, rfl, b, 60, 40, _, rfl, bG, by omega, by decide, by decide, by decide, by decide, fun G2 Dd ds b2 t2 nDd Ddb hDd lds hri hds => ⟨_, rfl, b, 401, _, rfl, b2, by decide, by decide, by omega, fun e1 G3 e10 e11 b3 t3 => ⟨size 2 (by decide), fun lp nlp => ?_⟩⟩⟩
                have ul := same_new (o := .lst [.int 400, .int e1]) nlp
                have gl := upd_same (H := G3) (a := lp) (o := .lst [.int 400, .int e1])
                have xl := b3.ne nlp
                have b4 := b3.same ul
                have S4 := (SG.trans (wx_but t2 Eb)).trans ((wx_but t3 Eb).trans (wx_same ul))
                have hDd := ul _ _ (t3 _ _ Ddb hDd)
                generalize upd G3 lp (.lst [.int 400, .int e1]) = G4 at *
                refine ⟨_, rfl, b, 2, _, rfl, b4, by decide, by decide, by omega, fun q1 G5 q10 q11 b5 t5 => ?_⟩
                obtain ⟨e, he, e0, e4⟩ : ∃ e, atI [V.int 400, .int e1] q1 = some (.int e) ∧ 0 ≤ e ∧ e ≤ 400 := by
                  have : q1 = 0 ∨ q1 = 1 := by omega
                  rcases this with rfl | rfl
                  · exact ⟨400, rfl, by decide, by decide⟩
                  · exact ⟨e1, rfl, e10, by omega⟩
                have S5 := S4.trans (wx_but t5 Eb)
                have hDd := t5 _ _ Ddb hDd
                refine ⟨lp, _, _, _, rfl, rfl, SqL.of (t5 _ _ xl gl), he, _, _, rfl, ?_⟩
                have row : RowTo ds 60 := ⟨hri, hds⟩
                dsimp only
                refine seq_go ?_
                refine asg_by (fun v G6 => Same G5 G6 ∧ ∃ D' ds', v = .ref D' ∧ G6 D' = some (.lst (ds'.map V.int)) ∧ RowTo ds' 60) (fun v G6 hG => ?_) (fun fin => ?_)
                · obtain ⟨z6, D', ds', rfl, hD', row'⟩ := hG
                  refine nm_go ?_
                  dsimp only
                  have d6 := (S5.trans (wx_same z6)).trans (wx_sub _ _)
                  refine ⟨_, rfl, _, rfl, _, rfl, r, D', e, f, ds', rfl, R.same d6, okf, .inl (SqL.of hD'), fun G7 b7 z7 h7 => ?_⟩
                  have d7 := d6.trans z7
                  obtain ⟨ka, hDr, hka⟩ := id (Wf.same d7)
                  refine ⟨_, rfl, _, rfl, L2, vs4, (k : Int), _, rfl, rfl, SqL.of (d7 _ _ gL2), atI_nat htf, _, rfl, _, rfl, tt, D', ka, e, f, _, ds', rfl, hDr, hka, SqL.of (z7 _ _ hD'), row'.1, fun d hd => (row'.2 d hd).1, e0, by omega, fun G8 b8 z8 h8 => ?_⟩
                  refine ⟨_, _, _, rfl, sh_dp (SqT.of (z8 _ _ h7)), sh_dp (SqT.of h8), Nat.le_trans (sh_depth _ _ _) (by decide), sh_thin _ _ _, fun G9 z9 => ⟨_, rfl, iteF ?_⟩⟩
                  exact ⟨_, _, _, _, _, _, _, _, _, rfl, (((b5.same z6).same z7).same (z8.trans z9)).mono (by omega), S5.trans (wx_same (z6.trans (z7.trans (z8.trans z9))))⟩
                · refine ⟨_, rfl, size 0 (by decide), fun l0 nl0 => ?_⟩
                  have u0 := same_new (o := .lst []) nl0
                  refine ⟨_, _, dp_ints (SqL.of (u0 _ _ hDd)), dp_ints (ns := []) (SqL.of upd_same), sh_ints _, sh_ints [], _, rfl, ?_⟩
                  have hDd1 := u0 _ _ hDd
                  generalize upd G5 l0 (.lst []) = G6 at *
                  by_cases hn : ds = []
                  · have e9 : PyData.eqv (.list (ds.map PyData.int)) (.list (([] : List Int).map PyData.int)) = true := (eqv_nil ds).trans (decide_eq_true hn)
                    rw [e9]
                    refine iteF ⟨size 0 (by decide), fun l1 nl1 => fin _ _ ⟨u0.trans (same_new nl1), l1, [], rfl, upd_same, ⟨.nil, fun d h => (nomatch h)⟩⟩⟩
                  · have e9 : PyData.eqv (.list (ds.map PyData.int)) (.list (([] : List Int).map PyData.int)) = false := (eqv_nil ds).trans (decide_eq_false hn)
                    rw [e9]
                    refine iteT ⟨_, rfl, _, rfl, _, rfl, Dd, _, -1, _, rfl, rfl, SqL.of hDd1, last_at hn, size 1 (by decide), fun l1 nl1 => ?_⟩
                    have u1 := same_new (o := .lst [.int (lastD ds)]) nl1
                    have g1 := upd_same (H := G6) (a := l1) (o := .lst [.int (lastD ds)])
                    have hDd2 := u1 _ _ hDd1
                    generalize upd G6 l1 (.lst [.int (lastD ds)]) = G7 at *
                    refine ⟨_, rfl, Dd, _, rfl, .inl (SqL.of hDd2), _, _, rfl, rfl, l1, _, _, rfl, rfl, g1, ?_, ?_, ?_, fun l2 nl2 => ?_⟩
                    · rw [List.length_map]
                      omega
                    · rw [List.length_map]
                      omega
                    · show 1 * (40 - ((ds.map V.int).length : Int)).toNat ≤ sizeLine
                      rw [List.length_map, sizeLine_eq]
                      omega
                    have u2 := same_new (o := .lst (List.replicate (40 - ((ds.map V.int).length : Int)).toNat [V.int (lastD ds)]).flatten) nl2
                    have g2 := upd_same (H := G7) (a := l2) (o := .lst (List.replicate (40 - ((ds.map V.int).length : Int)).toNat [V.int (lastD ds)]).flatten)
                    have hDd3 := u2 _ _ hDd2
                    generalize upd G7 l2 (.lst (List.replicate (40 - ((ds.map V.int).length : Int)).toNat [V.int (lastD ds)]).flatten) = G8 at *
                    refine ⟨Dd, l2, _, _, rfl, rfl, hDd3, g2, ?_, fun l3 nl3 => ?_⟩
                    · rw [rep_flat, List.length_map, List.length_map, List.length_replicate, sizeLine_eq]
                      omega
                    refine fin _ _ ⟨((u0.trans u1).trans u2).trans (same_new nl3), l3, ds ++ List.replicate (40 - ((ds.map V.int).length : Int)).toNat (lastD ds), rfl, ?_, (row_rep row (by decide) _).1⟩
                    rw [upd_same, rep_flat, List.map_append]
              · obtain ⟨s6, s10, s11, s12, s13, s14, s15, s16, s17, rfl, bG, SG⟩ := h
                have dG := SG.trans (wx_sub _ _)
                dsimp only
                refine ifs_ne (fun v G3 => Same G G3 ∧ Dp K G3 v (keptD fs4)) (fun v G3 h => ?_) (fun fin => kept_run _ _ _ _ _ _ _ _ _ _ _ _ _ _ _ _ _ (dG _ _ hr) (rl.same dG) lr oks (fun A G3 s3 nA h => fin _ _ ⟨s3, h⟩))
                obtain ⟨s3, h⟩ := h
                refine ⟨_, rfl, keptD fs4, keptD fs4, h, dp_same (dG.trans s3) hA0, kept_shaped oks, kept_shaped oks, _, rfl, ?_⟩
                rw [SeqAt.eqv_refl _ (SeqAt.canLay_of_shaped (kept_shaped oks))]
                exact iteF ⟨_, _, _, _, _, _, _, _, _, _, _, _, _, _, _, _, _, rfl, (SW.trans SG).trans ((wx_sub _ _).trans s3)⟩
      · refine ⟨_, rfl, rfl, _, rfl, ite2 (fun z => ⟨_, rfl, fin _ _ ⟨Same.refl H8, gt, _, rfl, hF0, big_few l x y⟩⟩) fun z => ?_⟩
        refine ⟨_, rfl, _, rfl, gt, _, rfl, SqT.of gg, (by show ¬ (HT.sIx 9 0 none = 0 ∧ HT.sIx 9 9 (some 1) = 9); decide), fun c1 n1 => ?_⟩
        have s1 := (same_new (o := .tup (cutV [V.int 3, .int 5, .int 2, .bl l, .int 1, .ref kt, .int 10, .int 8, .int 8] none (some 1))) n1)
        have l1 : cutV [V.int 3, .int 5, .int 2, .bl l, .int 1, .ref kt, .int 10, .int 8, .int 8] none (some 1) = [.int 3] := rfl
        have l4 : cutV [V.int 3, .int 5, .int 2, .bl l, .int 1, .ref kt, .int 10, .int 8, .int 8] (some 3) (some 7) = [.bl l, .int 1, .ref kt, .int 10] := rfl
        refine ⟨size 2 (by decide), fun c2 n2 => ?_⟩
        refine ⟨c1, c2, _, _, rfl, rfl, SqT.of ((same_new n2) _ _ upd_same), SqT.of upd_same, (by rw [l1]; simp), (by show 1 + 2 ≤ sizeLine; decide), fun e => (nomatch e), fun _ c3 n3 => ?_⟩
        have s3 := fun o => (s1.trans (same_new n2)).trans (same_new (o := o) n3)
        refine ⟨_, rfl, _, rfl, _, rfl, gt, _, rfl, SqT.of (s3 _ _ _ gg), (by show ¬ (HT.sIx 9 0 (some 3) = 0 ∧ HT.sIx 9 9 (some 7) = 9); decide), fun c4 n4 => ?_⟩
        refine ⟨c3, c4, _, _, rfl, rfl, SqT.of ((same_new n4) _ _ upd_same), SqT.of upd_same, (by rw [l1]; simp), (by show 3 + 4 ≤ sizeLine; decide), fun e => absurd (l4.symm.trans e) (by simp), fun _ c5 n5 => ?_⟩
        refine ⟨size 2 (by decide), fun c6 n6 => ?_⟩
        refine ⟨c5, c6, _, _, rfl, rfl, SqT.of ((same_new n6) _ _ upd_same), SqT.of upd_same, (by rw [l1]; simp), (by show 7 + 2 ≤ sizeLine; decide), fun e => (nomatch e), fun _ c7 n7 => ?_⟩
        have s7 := fun o => ((((s3 _).trans (same_new n4)).trans (same_new n5)).trans (same_new n6)).trans (same_new (o := o) n7)
        exact fin _ _ ⟨s7 _, c7, lessF l x y, rfl, ⟨kt, ⟨SqT.of upd_same, less_figs l x y, .all kt (SqT.of (s7 _ _ _ gk)) rfl (three_bd x0 x1 y0 y1)⟩, SqT.of (s7 _ _ _ gk)⟩, less_few l x y⟩
    · exact q _
end
set_option maxHeartbeats 0 in
theorem all_mk {l : PySem.W.OpenLaw} {w : World} {K : PySem.W.Frag} {h : Heap} {mg : Str → Option Value} {fa f0 f1 f2 f3 f4 f5 f6 f7 f8 f9 f10 f11 f12 f13 f14 f15 f16 f17 f18 f19 f20 f21 f22 f23 f24 f25 f26 f27 f28 f29 f30 f31 f32 f33 f34 f35 f36 CR : Addr} (X : K.In h) (G : h.Ns mainGlobals mg) (hfa : mg "law" = some (.ref fa))
    {od0 an0 od1 an1 od2 an2 od3 an3 od4 an4 od5 an5 od6 an6 od7 an7 od8 an8 od9 an9 od10 an10 od11 an11 od12 an12 od13 an13 od14 an14 od15 an15 od16 an16 od17 an17 od18 an18 od19 an19 od20 an20 od21 an21 od22 an22 od23 an23 od24 an24 od25 an25 od26 an26 od27 an27 od28 an28 od29 an29 od30 an30 od31 an31 od32 an32 od33 an33 od34 an34 od35 an35 od36 an36 : Option Addr} {sl0 sl1 sl2 sl3 sl4 sl5 sl6 sl7 sl8 sl9 sl10 sl11 sl12 sl13 sl14 sl15 sl16 sl17 sl18 sl19 sl20 sl21 sl22 sl23 sl24 sl25 sl26 sl27 sl28 sl29 sl30 sl31 sl32 sl33 sl34 sl35 sl36 : Array (Option Value)} {oc0 kV0 dc0 pm0 cd0 ct0 oc1 kV1 dc1 pm1 cd1 ct1 oc2 kV2 dc2 pm2 cd2 ct2 oc3 kV3 dc3 pm3 cd3 ct3 oc4 kV4 dc4 pm4 cd4 ct4 oc5 kV5 dc5 pm5 cd5 ct5 oc6 kV6 dc6 pm6 cd6 ct6 oc7 kV7 dc7 pm7 cd7 ct7 oc8 kV8 dc8 pm8 cd8 ct8 oc9 kV9 dc9 pm9 cd9 ct9 oc10 kV10 dc10 pm10 cd10 ct10 oc11 kV11 dc11 pm11 cd11 ct11 oc12 kV12 dc12 pm12 cd12 ct12 oc13 kV13 dc13 pm13 cd13 ct13 oc14 kV14 dc14 pm14 cd14 ct14 oc15 kV15 dc15 pm15 cd15 ct15 oc16 kV16 dc16 pm16 cd16 ct16 oc17 kV17 dc17 pm17 cd17 ct17 oc18 kV18 dc18 pm18 cd18 ct18 oc19 kV19 dc19 pm19 cd19 ct19 oc20 kV20 dc20 pm20 cd20 ct20 oc21 kV21 dc21 pm21 cd21 ct21 oc22 kV22 dc22 pm22 cd22 ct22 oc23 kV23 dc23 pm23 cd23 ct23 oc24 kV24 dc24 pm24 cd24 ct24 oc25 kV25 dc25 pm25 cd25 ct25 oc26 kV26 dc26 pm26 cd26 ct26 oc27 kV27 dc27 pm27 cd27 ct27 oc28 kV28 dc28 pm28 cd28 ct28 oc29 kV29 dc29 pm29 cd29 ct29 oc30 kV30 dc30 pm30 cd30 ct30 oc31 kV31 dc31 pm31 cd31 ct31 oc32 kV32 dc32 pm32 cd32 ct32 oc33 kV33 dc33 pm33 cd33 ct33 oc34 kV34 dc34 pm34 cd34 ct34 oc35 kV35 dc35 pm35 cd35 ct35 oc36 kV36 dc36 pm36 cd36 ct36 : Value}
    (aC : PySem.W.nsIn K mainGlobals "Rule" = some (some (.ref CR))) (pg : PySem.W.plainGet K CR Str.empty = true) (hd : PySem.W.hasDictIn K CR = true) (po : PySem.W.plainOver K CR = true) (sa : PySem.W.findIn K (.ref CR) "__setattr__" = some (some (.builtin "object.__setattr__"))) (mk : PySem.W.makesIn K CR = true) (kc : PySem.W.keepIn K (.ref CR) = true)
    (n1 : PySem.W.findIn K (.ref CR) "parts" = some none) (n2 : PySem.W.findIn K (.ref CR) "step" = some none) (n3 : PySem.W.findIn K (.ref CR) "grace" = some none) (n4 : PySem.W.findIn K (.ref CR) "last" = some none) (n5 : PySem.W.findIn K (.ref CR) "misses" = some none) (n6 : PySem.W.findIn K (.ref CR) "keep" = some none) (n7 : PySem.W.findIn K (.ref CR) "fine" = some none) (n8 : PySem.W.findIn K (.ref CR) "falls" = some none) (n9 : PySem.W.findIn K (.ref CR) "back" = some none)
    (q_ca : PySem.W.findIn K (.ref CR) "__class__" = some (some (.builtin "object.__class__")))
    (q_cn : PySem.W.specialIn K (.builtin "object.__class__") "__get__" = some (some (.builtin "getset_descriptor.__get__")))
    (q_ct : PySem.W.takesIn K (.builtin "object.__class__") = some true)
    (q_ob : PySem.W.mroIn K CR (.type "object") = some true)
    (q_ne : PySem.W.findIn K (.ref CR) "__ne__" = some (some (.builtin "object.__ne__")))
    (q_ty : PySem.W.typeIn K (.ref CR) = some (.type "type"))
    (q_ic : PySem.W.isClsIn K CR = true)
    (q_s0 : PySem.W.subIn K (.ref CR) (.type "int") = some false)
    (q_b0 : PySem.W.subIn K (.type "int") (.ref CR) = some false)
    (q_s1 : PySem.W.subIn K (.ref CR) (.type "bool") = some false)
    (q_b1 : PySem.W.subIn K (.type "bool") (.ref CR) = some false)
    (q_s2 : PySem.W.subIn K (.ref CR) (.type "str") = some false)
    (q_b2 : PySem.W.subIn K (.type "str") (.ref CR) = some false)
    (q_s3 : PySem.W.subIn K (.ref CR) (.type "NoneType") = some false)
    (q_b3 : PySem.W.subIn K (.type "NoneType") (.ref CR) = some false)
    (q_s4 : PySem.W.subIn K (.ref CR) (.type "list") = some false)
    (q_b4 : PySem.W.subIn K (.type "list") (.ref CR) = some false)
    (q_s5 : PySem.W.subIn K (.ref CR) (.type "tuple") = some false)
    (q_b5 : PySem.W.subIn K (.type "tuple") (.ref CR) = some false)
    (a0 : PySem.W.nsIn K mainGlobals "is_number_in" = some (some (.ref f0))) (l0 : K.lookup f0 = some ⟨oc0, od0, .func (PySem.W.fnOf "is_number_in" "is_number_in" (defArgs s_is_number_in) (defBody s_is_number_in) (defScope s_is_number_in) .none kV0 dc0 pm0 an0 cd0 ct0), sl0⟩) (c0 : PySem.W.codeIn K cd0 "is_number_in" = true) (k0 : PySem.W.keepIn K (.ref f0) = true)
    (a1 : PySem.W.nsIn K mainGlobals "may_be_kept" = some (some (.ref f1))) (l1 : K.lookup f1 = some ⟨oc1, od1, .func (PySem.W.fnOf "may_be_kept" "may_be_kept" (defArgs s_may_be_kept) (defBody s_may_be_kept) (defScope s_may_be_kept) .none kV1 dc1 pm1 an1 cd1 ct1), sl1⟩) (c1 : PySem.W.codeIn K cd1 "may_be_kept" = true) (k1 : PySem.W.keepIn K (.ref f1) = true)
    (a2 : PySem.W.nsIn K mainGlobals "wrong_figure" = some (some (.ref f2))) (l2 : K.lookup f2 = some ⟨oc2, od2, .func (PySem.W.fnOf "wrong_figure" "wrong_figure" (defArgs s_wrong_figure) (defBody s_wrong_figure) (defScope s_wrong_figure) .none kV2 dc2 pm2 an2 cd2 ct2), sl2⟩) (c2 : PySem.W.codeIn K cd2 "wrong_figure" = true) (k2 : PySem.W.keepIn K (.ref f2) = true)
    {D3 : Addr} {dod3 : Option Addr} {doc3 : Value} {dsl3 : Array (Option Value)} {dn3 : Nat} {u3_0 u3_2 u3_3 u3_4 u3_5 u3_6 : Tok}
    (a3 : PySem.W.findIn K (.ref CR) "__init__" = some (some (.ref f3))) (l3 : K.lookup f3 = some ⟨oc3, od3, .func (PySem.W.fnOf "__init__" "Rule.__init__" (defArgs s_Rule___init__) (defBody s_Rule___init__) (defScope s_Rule___init__) (.ref D3) kV3 dc3 pm3 an3 cd3 ct3), sl3⟩) (c3 : PySem.W.codeIn K cd3 "Rule.__init__" = true) (k3 : PySem.W.keepIn K (.ref f3) = true)
    (i3 : PySem.W.isFn K (.ref f3) = true) (d3 : K.lookup D3 = some ⟨doc3, dod3, .seq [.int 0 u3_0, .bool false, .int 0 u3_2, .int 0 u3_3, .int 0 u3_4, .int 0 u3_5, .int 0 u3_6].toArray dn3, dsl3⟩)
    {D4 : Addr} {dod4 : Option Addr} {doc4 : Value} {dsl4 : Array (Option Value)} {dn4 : Nat}
    (a4 : PySem.W.findIn K (.ref CR) "keeps" = some (some (.ref f4))) (l4 : K.lookup f4 = some ⟨oc4, od4, .func (PySem.W.fnOf "keeps" "Rule.keeps" (defArgs s_Rule_keeps) (defBody s_Rule_keeps) (defScope s_Rule_keeps) (.ref D4) kV4 dc4 pm4 an4 cd4 ct4), sl4⟩) (c4 : PySem.W.codeIn K cd4 "Rule.keeps" = true) (k4 : PySem.W.keepIn K (.ref f4) = true)
    (i4 : PySem.W.isFn K (.ref f4) = true) (d4 : K.lookup D4 = some ⟨doc4, dod4, .seq [.bool false].toArray dn4, dsl4⟩)
    (a5 : PySem.W.findIn K (.ref CR) "figures" = some (some (.ref f5))) (l5 : K.lookup f5 = some ⟨oc5, od5, .func (PySem.W.fnOf "figures" "Rule.figures" (defArgs s_Rule_figures) (defBody s_Rule_figures) (defScope s_Rule_figures) .none kV5 dc5 pm5 an5 cd5 ct5), sl5⟩) (c5 : PySem.W.codeIn K cd5 "Rule.figures" = true) (k5 : PySem.W.keepIn K (.ref f5) = true)
    (i5 : PySem.W.isFn K (.ref f5) = true)
    (a6 : PySem.W.findIn K (.ref CR) "__len__" = some (some (.ref f6))) (l6 : K.lookup f6 = some ⟨oc6, od6, .func (PySem.W.fnOf "__len__" "Rule.__len__" (defArgs s_Rule___len__) (defBody s_Rule___len__) (defScope s_Rule___len__) .none kV6 dc6 pm6 an6 cd6 ct6), sl6⟩) (c6 : PySem.W.codeIn K cd6 "Rule.__len__" = true) (k6 : PySem.W.keepIn K (.ref f6) = true)
    (i6 : PySem.W.isFn K (.ref f6) = true)
    (a7 : PySem.W.nsIn K mainGlobals "passed_to" = some (some (.ref f7))) (l7 : K.lookup f7 = some ⟨oc7, od7, .func (PySem.W.fnOf "passed_to" "passed_to" (defArgs s_passed_to) (defBody s_passed_to) (defScope s_passed_to) .none kV7 dc7 pm7 an7 cd7 ct7), sl7⟩) (c7 : PySem.W.codeIn K cd7 "passed_to" = true) (k7 : PySem.W.keepIn K (.ref f7) = true)
    (a8 : PySem.W.nsIn K mainGlobals "paid_on" = some (some (.ref f8))) (l8 : K.lookup f8 = some ⟨oc8, od8, .func (PySem.W.fnOf "paid_on" "paid_on" (defArgs s_paid_on) (defBody s_paid_on) (defScope s_paid_on) .none kV8 dc8 pm8 an8 cd8 ct8), sl8⟩) (c8 : PySem.W.codeIn K cd8 "paid_on" = true) (k8 : PySem.W.keepIn K (.ref f8) = true)
    (a9 : PySem.W.nsIn K mainGlobals "course" = some (some (.ref f9))) (l9 : K.lookup f9 = some ⟨oc9, od9, .func (PySem.W.fnOf "course" "course" (defArgs s_course) (defBody s_course) (defScope s_course) .none kV9 dc9 pm9 an9 cd9 ct9), sl9⟩) (c9 : PySem.W.codeIn K cd9 "course" = true) (k9 : PySem.W.keepIn K (.ref f9) = true)
    (a10 : PySem.W.nsIn K mainGlobals "_law_mix" = some (some (.ref f10))) (l10 : K.lookup f10 = some ⟨oc10, od10, .func (PySem.W.fnOf "_law_mix" "_law_mix" (defArgs s__law_mix) (defBody s__law_mix) (defScope s__law_mix) .none kV10 dc10 pm10 an10 cd10 ct10), sl10⟩) (c10 : PySem.W.codeIn K cd10 "_law_mix" = true) (k10 : PySem.W.keepIn K (.ref f10) = true)
    (a11 : PySem.W.nsIn K mainGlobals "_law_drawn_from" = some (some (.ref f11))) (l11 : K.lookup f11 = some ⟨oc11, od11, .func (PySem.W.fnOf "_law_drawn_from" "_law_drawn_from" (defArgs s__law_drawn_from) (defBody s__law_drawn_from) (defScope s__law_drawn_from) .none kV11 dc11 pm11 an11 cd11 ct11), sl11⟩) (c11 : PySem.W.codeIn K cd11 "_law_drawn_from" = true) (k11 : PySem.W.keepIn K (.ref f11) = true)
    (a12 : PySem.W.nsIn K mainGlobals "_law_pick" = some (some (.ref f12))) (l12 : K.lookup f12 = some ⟨oc12, od12, .func (PySem.W.fnOf "_law_pick" "_law_pick" (defArgs s__law_pick) (defBody s__law_pick) (defScope s__law_pick) .none kV12 dc12 pm12 an12 cd12 ct12), sl12⟩) (c12 : PySem.W.codeIn K cd12 "_law_pick" = true) (k12 : PySem.W.keepIn K (.ref f12) = true)
    (a13 : PySem.W.nsIn K mainGlobals "_law_figures" = some (some (.ref f13))) (l13 : K.lookup f13 = some ⟨oc13, od13, .func (PySem.W.fnOf "_law_figures" "_law_figures" (defArgs s__law_figures) (defBody s__law_figures) (defScope s__law_figures) .none kV13 dc13 pm13 an13 cd13 ct13), sl13⟩) (c13 : PySem.W.codeIn K cd13 "_law_figures" = true) (k13 : PySem.W.keepIn K (.ref f13) = true)
    (a14 : PySem.W.nsIn K mainGlobals "_law_whole" = some (some (.ref f14))) (l14 : K.lookup f14 = some ⟨oc14, od14, .func (PySem.W.fnOf "_law_whole" "_law_whole" (defArgs s__law_whole) (defBody s__law_whole) (defScope s__law_whole) .none kV14 dc14 pm14 an14 cd14 ct14), sl14⟩) (c14 : PySem.W.codeIn K cd14 "_law_whole" = true) (k14 : PySem.W.keepIn K (.ref f14) = true)
    (a15 : PySem.W.nsIn K mainGlobals "_law_rule_of" = some (some (.ref f15))) (l15 : K.lookup f15 = some ⟨oc15, od15, .func (PySem.W.fnOf "_law_rule_of" "_law_rule_of" (defArgs s__law_rule_of) (defBody s__law_rule_of) (defScope s__law_rule_of) .none kV15 dc15 pm15 an15 cd15 ct15), sl15⟩) (c15 : PySem.W.codeIn K cd15 "_law_rule_of" = true) (k15 : PySem.W.keepIn K (.ref f15) = true)
    (a16 : PySem.W.nsIn K mainGlobals "shown_of" = some (some (.ref f16))) (l16 : K.lookup f16 = some ⟨oc16, od16, .func (PySem.W.fnOf "shown_of" "shown_of" (defArgs s_shown_of) (defBody s_shown_of) (defScope s_shown_of) .none kV16 dc16 pm16 an16 cd16 ct16), sl16⟩) (c16 : PySem.W.codeIn K cd16 "shown_of" = true) (k16 : PySem.W.keepIn K (.ref f16) = true)
    (a17 : PySem.W.nsIn K mainGlobals "shown" = some (some (.ref f17))) (l17 : K.lookup f17 = some ⟨oc17, od17, .func (PySem.W.fnOf "shown" "shown" (defArgs s_shown) (defBody s_shown) (defScope s_shown) .none kV17 dc17 pm17 an17 cd17 ct17), sl17⟩) (c17 : PySem.W.codeIn K cd17 "shown" = true) (k17 : PySem.W.keepIn K (.ref f17) = true)
    (a18 : PySem.W.nsIn K mainGlobals "order_of_row" = some (some (.ref f18))) (l18 : K.lookup f18 = some ⟨oc18, od18, .func (PySem.W.fnOf "order_of_row" "order_of_row" (defArgs s_order_of_row) (defBody s_order_of_row) (defScope s_order_of_row) .none kV18 dc18 pm18 an18 cd18 ct18), sl18⟩) (c18 : PySem.W.codeIn K cd18 "order_of_row" = true) (k18 : PySem.W.keepIn K (.ref f18) = true)
    (a19 : PySem.W.nsIn K mainGlobals "keep_first" = some (some (.ref f19))) (l19 : K.lookup f19 = some ⟨oc19, od19, .func (PySem.W.fnOf "keep_first" "keep_first" (defArgs s_keep_first) (defBody s_keep_first) (defScope s_keep_first) .none kV19 dc19 pm19 an19 cd19 ct19), sl19⟩) (c19 : PySem.W.codeIn K cd19 "keep_first" = true) (k19 : PySem.W.keepIn K (.ref f19) = true)
    (a20 : PySem.W.nsIn K mainGlobals "may_change" = some (some (.ref f20))) (l20 : K.lookup f20 = some ⟨oc20, od20, .func (PySem.W.fnOf "may_change" "may_change" (defArgs s_may_change) (defBody s_may_change) (defScope s_may_change) .none kV20 dc20 pm20 an20 cd20 ct20), sl20⟩) (c20 : PySem.W.codeIn K cd20 "may_change" = true) (k20 : PySem.W.keepIn K (.ref f20) = true)
    (a21 : PySem.W.nsIn K mainGlobals "show_unlike" = some (some (.ref f21))) (l21 : K.lookup f21 = some ⟨oc21, od21, .func (PySem.W.fnOf "show_unlike" "show_unlike" (defArgs s_show_unlike) (defBody s_show_unlike) (defScope s_show_unlike) .none kV21 dc21 pm21 an21 cd21 ct21), sl21⟩) (c21 : PySem.W.codeIn K cd21 "show_unlike" = true) (k21 : PySem.W.keepIn K (.ref f21) = true)
    (a22 : PySem.W.nsIn K mainGlobals "rows_by_end" = some (some (.ref f22))) (l22 : K.lookup f22 = some ⟨oc22, od22, .func (PySem.W.fnOf "rows_by_end" "rows_by_end" (defArgs s_rows_by_end) (defBody s_rows_by_end) (defScope s_rows_by_end) .none kV22 dc22 pm22 an22 cd22 ct22), sl22⟩) (c22 : PySem.W.codeIn K cd22 "rows_by_end" = true) (k22 : PySem.W.keepIn K (.ref f22) = true)
    (a23 : PySem.W.nsIn K mainGlobals "parted" = some (some (.ref f23))) (l23 : K.lookup f23 = some ⟨oc23, od23, .func (PySem.W.fnOf "parted" "parted" (defArgs s_parted) (defBody s_parted) (defScope s_parted) .none kV23 dc23 pm23 an23 cd23 ct23), sl23⟩) (c23 : PySem.W.codeIn K cd23 "parted" = true) (k23 : PySem.W.keepIn K (.ref f23) = true)
    (a24 : PySem.W.nsIn K mainGlobals "_law_stand" = some (some (.ref f24))) (l24 : K.lookup f24 = some ⟨oc24, od24, .func (PySem.W.fnOf "_law_stand" "_law_stand" (defArgs s__law_stand) (defBody s__law_stand) (defScope s__law_stand) .none kV24 dc24 pm24 an24 cd24 ct24), sl24⟩) (c24 : PySem.W.codeIn K cd24 "_law_stand" = true) (k24 : PySem.W.keepIn K (.ref f24) = true)
    (a25 : PySem.W.nsIn K mainGlobals "_law_shown" = some (some (.ref f25))) (l25 : K.lookup f25 = some ⟨oc25, od25, .func (PySem.W.fnOf "_law_shown" "_law_shown" (defArgs s__law_shown) (defBody s__law_shown) (defScope s__law_shown) .none kV25 dc25 pm25 an25 cd25 ct25), sl25⟩) (c25 : PySem.W.codeIn K cd25 "_law_shown" = true) (k25 : PySem.W.keepIn K (.ref f25) = true)
    (a26 : PySem.W.nsIn K mainGlobals "_law_same" = some (some (.ref f26))) (l26 : K.lookup f26 = some ⟨oc26, od26, .func (PySem.W.fnOf "_law_same" "_law_same" (defArgs s__law_same) (defBody s__law_same) (defScope s__law_same) .none kV26 dc26 pm26 an26 cd26 ct26), sl26⟩) (c26 : PySem.W.codeIn K cd26 "_law_same" = true) (k26 : PySem.W.keepIn K (.ref f26) = true)
    (a27 : PySem.W.nsIn K mainGlobals "_law_days" = some (some (.ref f27))) (l27 : K.lookup f27 = some ⟨oc27, od27, .func (PySem.W.fnOf "_law_days" "_law_days" (defArgs s__law_days) (defBody s__law_days) (defScope s__law_days) .none kV27 dc27 pm27 an27 cd27 ct27), sl27⟩) (c27 : PySem.W.codeIn K cd27 "_law_days" = true) (k27 : PySem.W.keepIn K (.ref f27) = true)
    (a28 : PySem.W.nsIn K mainGlobals "is_row_to" = some (some (.ref f28))) (l28 : K.lookup f28 = some ⟨oc28, od28, .func (PySem.W.fnOf "is_row_to" "is_row_to" (defArgs s_is_row_to) (defBody s_is_row_to) (defScope s_is_row_to) .none kV28 dc28 pm28 an28 cd28 ct28), sl28⟩) (c28 : PySem.W.codeIn K cd28 "is_row_to" = true) (k28 : PySem.W.keepIn K (.ref f28) = true)
    (a29 : PySem.W.nsIn K mainGlobals "shows_parted" = some (some (.ref f29))) (l29 : K.lookup f29 = some ⟨oc29, od29, .func (PySem.W.fnOf "shows_parted" "shows_parted" (defArgs s_shows_parted) (defBody s_shows_parted) (defScope s_shows_parted) .none kV29 dc29 pm29 an29 cd29 ct29), sl29⟩) (c29 : PySem.W.codeIn K cd29 "shows_parted" = true) (k29 : PySem.W.keepIn K (.ref f29) = true)
    (a30 : PySem.W.nsIn K mainGlobals "counted" = some (some (.ref f30))) (l30 : K.lookup f30 = some ⟨oc30, od30, .func (PySem.W.fnOf "counted" "counted" (defArgs s_counted) (defBody s_counted) (defScope s_counted) .none kV30 dc30 pm30 an30 cd30 ct30), sl30⟩) (c30 : PySem.W.codeIn K cd30 "counted" = true) (k30 : PySem.W.keepIn K (.ref f30) = true)
    (a31 : PySem.W.nsIn K mainGlobals "kept_clause" = some (some (.ref f31))) (l31 : K.lookup f31 = some ⟨oc31, od31, .func (PySem.W.fnOf "kept_clause" "kept_clause" (defArgs s_kept_clause) (defBody s_kept_clause) (defScope s_kept_clause) .none kV31 dc31 pm31 an31 cd31 ct31), sl31⟩) (c31 : PySem.W.codeIn K cd31 "kept_clause" = true) (k31 : PySem.W.keepIn K (.ref f31) = true)
    (a32 : PySem.W.nsIn K mainGlobals "clauses_of" = some (some (.ref f32))) (l32 : K.lookup f32 = some ⟨oc32, od32, .func (PySem.W.fnOf "clauses_of" "clauses_of" (defArgs s_clauses_of) (defBody s_clauses_of) (defScope s_clauses_of) .none kV32 dc32 pm32 an32 cd32 ct32), sl32⟩) (c32 : PySem.W.codeIn K cd32 "clauses_of" = true) (k32 : PySem.W.keepIn K (.ref f32) = true)
    (a33 : PySem.W.findIn K (.ref CR) "__str__" = some (some (.ref f33))) (l33 : K.lookup f33 = some ⟨oc33, od33, .func (PySem.W.fnOf "__str__" "Rule.__str__" (defArgs s_Rule___str__) (defBody s_Rule___str__) (defScope s_Rule___str__) .none kV33 dc33 pm33 an33 cd33 ct33), sl33⟩) (c33 : PySem.W.codeIn K cd33 "Rule.__str__" = true) (k33 : PySem.W.keepIn K (.ref f33) = true)
    (i33 : PySem.W.isFn K (.ref f33) = true)
    (a34 : PySem.W.findIn K (.ref CR) "__repr__" = some (some (.ref f34))) (l34 : K.lookup f34 = some ⟨oc34, od34, .func (PySem.W.fnOf "__repr__" "Rule.__repr__" (defArgs s_Rule___repr__) (defBody s_Rule___repr__) (defScope s_Rule___repr__) .none kV34 dc34 pm34 an34 cd34 ct34), sl34⟩) (c34 : PySem.W.codeIn K cd34 "Rule.__repr__" = true) (k34 : PySem.W.keepIn K (.ref f34) = true)
    (i34 : PySem.W.isFn K (.ref f34) = true)
    (a35 : PySem.W.findIn K (.ref CR) "__eq__" = some (some (.ref f35))) (l35 : K.lookup f35 = some ⟨oc35, od35, .func (PySem.W.fnOf "__eq__" "Rule.__eq__" (defArgs s_Rule___eq__) (defBody s_Rule___eq__) (defScope s_Rule___eq__) .none kV35 dc35 pm35 an35 cd35 ct35), sl35⟩) (c35 : PySem.W.codeIn K cd35 "Rule.__eq__" = true) (k35 : PySem.W.keepIn K (.ref f35) = true)
    (i35 : PySem.W.isFn K (.ref f35) = true)
    (a36 : PySem.W.nsIn K mainGlobals "law" = some (some (.ref f36))) (l36 : K.lookup f36 = some ⟨oc36, od36, .func (PySem.W.fnOf "law" "law" (defArgs s_law) (defBody s_law) (defScope s_law) .none kV36 dc36 pm36 an36 cd36 ct36), sl36⟩) (c36 : PySem.W.codeIn K cd36 "law" = true) (k36 : PySem.W.keepIn K (.ref f36) = true)
    (z_isinstance : PySem.W.nsIn K mainGlobals "isinstance" = some none) (z_bool : PySem.W.nsIn K mainGlobals "bool" = some none) (z_int : PySem.W.nsIn K mainGlobals "int" = some none) (z_tuple : PySem.W.nsIn K mainGlobals "tuple" = some none) (z_all : PySem.W.nsIn K mainGlobals "all" = some none) (z_len : PySem.W.nsIn K mainGlobals "len" = some none) (z_max : PySem.W.nsIn K mainGlobals "max" = some none) (z_min : PySem.W.nsIn K mainGlobals "min" = some none) (z_abs : PySem.W.nsIn K mainGlobals "abs" = some none) (z_list : PySem.W.nsIn K mainGlobals "list" = some none) (z_range : PySem.W.nsIn K mainGlobals "range" = some none) (z_zip : PySem.W.nsIn K mainGlobals "zip" = some none) (z_str : PySem.W.nsIn K mainGlobals "str" = some none) (z_sorted : PySem.W.nsIn K mainGlobals "sorted" = some none) (z_set : PySem.W.nsIn K mainGlobals "set" = some none) (z_repr : PySem.W.nsIn K mainGlobals "repr" = some none) (z_enumerate : PySem.W.nsIn K mainGlobals "enumerate" = some none)
    {A_AT_FIRST : Addr} {u_AT_FIRST_0 u_AT_FIRST_1 u_AT_FIRST_2 u_AT_FIRST_3 : Tok} {gd_AT_FIRST : Option Addr} {gn_AT_FIRST : Nat} {gs_AT_FIRST : Array (Option Value)} (y_AT_FIRST : PySem.W.nsIn K mainGlobals "AT_FIRST" = some (some (.ref A_AT_FIRST))) (x_AT_FIRST : K.lookup A_AT_FIRST = some ⟨.type "tuple", gd_AT_FIRST, .seq [.str (Str.ofString "stands") u_AT_FIRST_0, .int 0 u_AT_FIRST_1, .int 0 u_AT_FIRST_2, .int 0 u_AT_FIRST_3].toArray gn_AT_FIRST, gs_AT_FIRST⟩)
    {t_MOST_DAYS : Tok} (y_MOST_DAYS : PySem.W.nsIn K mainGlobals "MOST_DAYS" = some (some (.int 40 t_MOST_DAYS)))
    {t_LAST_DAY : Tok} (y_LAST_DAY : PySem.W.nsIn K mainGlobals "LAST_DAY" = some (some (.int 400 t_LAST_DAY))) :
    ∃ fd : FuncData, (∀ (s : Shared) (v : Value), BindsTo s fd ⟨[v], []⟩ [("_law_script", v)]) ∧ ∀ base : Heap, K.In base → base.Ns mainGlobals mg → FnG l.prog w K mg base 10 fa fd ["_law_script"] (sp_law K) := by
  have e := hfa.symm.trans (PySem.W.mg_of X G a36)
  cases e
  have T_Rule : TRule K mg CR := ⟨⟨pg, hd, po, sa⟩, n1, n2, n3, n4, n5, n6, n7, n8, n9⟩
  have gC := PySem.W.mg_of X G aC
  have q_no : ∀ T ∈ (["int", "bool", "str", "NoneType", "list", "tuple"] : List String), PySem.W.kitOne K (.type T) (.ref CR) = some false := fun T h => by
    rcases six_of h with rfl | rfl | rfl | rfl | rfl | rfl
    · exact kit_tr q_ic q_ty q_b0
    · exact kit_tr q_ic q_ty q_b1
    · exact kit_tr q_ic q_ty q_b2
    · exact kit_tr q_ic q_ty q_b3
    · exact kit_tr q_ic q_ty q_b4
    · exact kit_tr q_ic q_ty q_b5
  have q_tys : ∀ T ∈ (["int", "bool", "str", "NoneType", "list", "tuple"] : List String), PySem.W.subIn K (.ref CR) (.type T) = some false ∧ PySem.W.subIn K (.type T) (.ref CR) = some false := fun T h => by
    rcases six_of h with rfl | rfl | rfl | rfl | rfl | rfl
    · exact ⟨q_s0, q_b0⟩
    · exact ⟨q_s1, q_b1⟩
    · exact ⟨q_s2, q_b2⟩
    · exact ⟨q_s3, q_b3⟩
    · exact ⟨q_s4, q_b4⟩
    · exact ⟨q_s5, q_b5⟩
  have TQ : TEq K mg CR "Rule" := ⟨gC, q_ca, q_cn, q_ct, q_ob, kit_self, q_no⟩
  have F0 := fun_mk (st := s_is_number_in) l0 c0 k0
  have b0 := F0.binds (ps := ["thing", "low", "high"]) fun _ _ _ _ _ _ us hl => match us, hl with | [_, _, _], _ => rfl
  have g0 := PySem.W.mg_of X G a0
  have F1 := fun_mk (st := s_may_be_kept) l1 c1 k1
  have b1 := F1.binds (ps := ["keep", "parts"]) fun _ _ _ _ _ _ us hl => match us, hl with | [_, _], _ => rfl
  have g1 := PySem.W.mg_of X G a1
  have F2 := fun_mk (st := s_wrong_figure) l2 c2 k2
  have b2 := F2.binds (ps := ["parts", "step", "grace", "last", "misses", "keep", "fine", "falls", "back"]) fun _ _ _ _ _ _ us hl => match us, hl with | [_, _, _, _, _, _, _, _, _], _ => rfl
  have g2 := PySem.W.mg_of X G a2
  have F3 : FunD K "__init__" "Rule.__init__" (defArgs s_Rule___init__) (defBody s_Rule___init__) (defScope s_Rule___init__) [.int 0, .bl false, .int 0, .int 0, .int 0, .int 0, .int 0] [] f3 _ := ⟨⟨oc3, od3, _, kV3, dc3, pm3, an3, cd3, ct3, sl3, rfl, l3, c3, .inr ⟨by simp, D3, _, _, dn3, rfl, d3, rfl, (.cons ⟨_, rfl⟩ (.cons rfl (.cons ⟨_, rfl⟩ (.cons ⟨_, rfl⟩ (.cons ⟨_, rfl⟩ (.cons ⟨_, rfl⟩ (.cons ⟨_, rfl⟩ .nil)))))))⟩, .inl rfl⟩, k3⟩
  have F4 : FunD K "keeps" "Rule.keeps" (defArgs s_Rule_keeps) (defBody s_Rule_keeps) (defScope s_Rule_keeps) [.bl false] [] f4 _ := ⟨⟨oc4, od4, _, kV4, dc4, pm4, an4, cd4, ct4, sl4, rfl, l4, c4, .inr ⟨by simp, D4, _, _, dn4, rfl, d4, rfl, (.cons rfl .nil)⟩, .inl rfl⟩, k4⟩
  have F5 : FunD K "figures" "Rule.figures" (defArgs s_Rule_figures) (defBody s_Rule_figures) (defScope s_Rule_figures) [] [] f5 _ := ⟨⟨oc5, od5, _, kV5, dc5, pm5, an5, cd5, ct5, sl5, rfl, l5, c5, .inl ⟨rfl, rfl⟩, .inl rfl⟩, k5⟩
  have F6 : FunD K "__len__" "Rule.__len__" (defArgs s_Rule___len__) (defBody s_Rule___len__) (defScope s_Rule___len__) [] [] f6 _ := ⟨⟨oc6, od6, _, kV6, dc6, pm6, an6, cd6, ct6, sl6, rfl, l6, c6, .inl ⟨rfl, rfl⟩, .inl rfl⟩, k6⟩
  have F7 := fun_mk (st := s_passed_to) l7 c7 k7
  have b7 := F7.binds (ps := ["rule", "state", "day"]) fun _ _ _ _ _ _ us hl => match us, hl with | [_, _, _], _ => rfl
  have g7 := PySem.W.mg_of X G a7
  have F8 := fun_mk (st := s_paid_on) l8 c8 k8
  have b8 := F8.binds (ps := ["rule", "state", "day"]) fun _ _ _ _ _ _ us hl => match us, hl with | [_, _, _], _ => rfl
  have g8 := PySem.W.mg_of X G a8
  have F9 := fun_mk (st := s_course) l9 c9 k9
  have b9 := F9.binds (ps := ["rule", "days", "end"]) fun _ _ _ _ _ _ us hl => match us, hl with | [_, _, _], _ => rfl
  have g9 := PySem.W.mg_of X G a9
  have F10 := fun_mk (st := s__law_mix) l10 c10 k10
  have b10 := F10.binds (ps := ["_law_cell", "_law_k"]) fun _ _ _ _ _ _ us hl => match us, hl with | [_, _], _ => rfl
  have g10 := PySem.W.mg_of X G a10
  have F11 := fun_mk (st := s__law_drawn_from) l11 c11 k11
  have b11 := F11.binds (ps := ["_law_script", "_law_k"]) fun _ _ _ _ _ _ us hl => match us, hl with | [_, _], _ => rfl
  have g11 := PySem.W.mg_of X G a11
  have F12 := fun_mk (st := s__law_pick) l12 c12 k12
  have b12 := F12.binds (ps := ["_law_left", "_law_many"]) fun _ _ _ _ _ _ us hl => match us, hl with | [_, _], _ => rfl
  have g12 := PySem.W.mg_of X G a12
  have F13 := fun_mk (st := s__law_figures) l13 c13 k13
  have b13 := F13.binds (ps := ["_law_left", "_law_small"]) fun _ _ _ _ _ _ us hl => match us, hl with | [_, _], _ => rfl
  have g13 := PySem.W.mg_of X G a13
  have F14 := fun_mk (st := s__law_whole) l14 c14 k14
  have b14 := F14.binds (ps := ["_law_figures_here"]) fun _ _ _ _ _ _ us hl => match us, hl with | [_], _ => rfl
  have g14 := PySem.W.mg_of X G a14
  have F15 := fun_mk (st := s__law_rule_of) l15 c15 k15
  have b15 := F15.binds (ps := ["_law_figures_here"]) fun _ _ _ _ _ _ us hl => match us, hl with | [_], _ => rfl
  have g15 := PySem.W.mg_of X G a15
  have F16 := fun_mk (st := s_shown_of) l16 c16 k16
  have b16 := F16.binds (ps := ["rule", "state", "end"]) fun _ _ _ _ _ _ us hl => match us, hl with | [_, _, _], _ => rfl
  have g16 := PySem.W.mg_of X G a16
  have F17 := fun_mk (st := s_shown) l17 c17 k17
  have b17 := F17.binds (ps := ["rule", "days", "end"]) fun _ _ _ _ _ _ us hl => match us, hl with | [_, _, _], _ => rfl
  have g17 := PySem.W.mg_of X G a17
  have F18 := fun_mk (st := s_order_of_row) l18 c18 k18
  have b18 := F18.binds (ps := ["days"]) fun _ _ _ _ _ _ us hl => match us, hl with | [_], _ => rfl
  have g18 := PySem.W.mg_of X G a18
  have F19 := fun_mk (st := s_keep_first) l19 c19 k19
  have b19 := F19.binds (ps := ["firsts", "states", "days"]) fun _ _ _ _ _ _ us hl => match us, hl with | [_, _, _], _ => rfl
  have g19 := PySem.W.mg_of X G a19
  have F20 := fun_mk (st := s_may_change) l20 c20 k20
  have b20 := F20.binds (ps := ["thing"]) fun _ _ _ _ _ _ us hl => match us, hl with | [_], _ => rfl
  have g20 := PySem.W.mg_of X G a20
  have F21 := fun_mk (st := s_show_unlike) l21 c21 k21
  have b21 := F21.binds (ps := ["one", "other", "states", "end"]) fun _ _ _ _ _ _ us hl => match us, hl with | [_, _, _, _], _ => rfl
  have g21 := PySem.W.mg_of X G a21
  have F22 := fun_mk (st := s_rows_by_end) l22 c22 k22
  have b22 := F22.binds (ps := ["one", "other", "rows", "end"]) fun _ _ _ _ _ _ us hl => match us, hl with | [_, _, _, _], _ => rfl
  have g22 := PySem.W.mg_of X G a22
  have F23 := fun_mk (st := s_parted) l23 c23 k23
  have b23 := F23.binds (ps := ["one", "other"]) fun _ _ _ _ _ _ us hl => match us, hl with | [_, _], _ => rfl
  have g23 := PySem.W.mg_of X G a23
  have F24 := fun_mk (st := s__law_stand) l24 c24 k24
  have b24 := F24.binds (ps := ["_law_figures_here", "_law_days_here", "_law_end"]) fun _ _ _ _ _ _ us hl => match us, hl with | [_, _, _], _ => rfl
  have g24 := PySem.W.mg_of X G a24
  have F25 := fun_mk (st := s__law_shown) l25 c25 k25
  have b25 := F25.binds (ps := ["_law_figures_here", "_law_days_here", "_law_end"]) fun _ _ _ _ _ _ us hl => match us, hl with | [_, _, _], _ => rfl
  have g25 := PySem.W.mg_of X G a25
  have F26 := fun_mk (st := s__law_same) l26 c26 k26
  have b26 := F26.binds (ps := ["_law_found", "_law_due"]) fun _ _ _ _ _ _ us hl => match us, hl with | [_, _], _ => rfl
  have g26 := PySem.W.mg_of X G a26
  have F27 := fun_mk (st := s__law_days) l27 c27 k27
  have b27 := F27.binds (ps := ["_law_left", "_law_most", "_law_many"]) fun _ _ _ _ _ _ us hl => match us, hl with | [_, _, _], _ => rfl
  have g27 := PySem.W.mg_of X G a27
  have F28 := fun_mk (st := s_is_row_to) l28 c28 k28
  have b28 := F28.binds (ps := ["days", "end"]) fun _ _ _ _ _ _ us hl => match us, hl with | [_, _], _ => rfl
  have g28 := PySem.W.mg_of X G a28
  have F29 := fun_mk (st := s_shows_parted) l29 c29 k29
  have b29 := F29.binds (ps := ["one", "other", "thing"]) fun _ _ _ _ _ _ us hl => match us, hl with | [_, _, _], _ => rfl
  have g29 := PySem.W.mg_of X G a29
  have F30 := fun_mk (st := s_counted) l30 c30 k30
  have b30 := F30.binds (ps := ["word", "number"]) fun _ _ _ _ _ _ us hl => match us, hl with | [_, _], _ => rfl
  have g30 := PySem.W.mg_of X G a30
  have F31 := fun_mk (st := s_kept_clause) l31 c31 k31
  have b31 := F31.binds (ps := ["keep"]) fun _ _ _ _ _ _ us hl => match us, hl with | [_], _ => rfl
  have g31 := PySem.W.mg_of X G a31
  have F32 := fun_mk (st := s_clauses_of) l32 c32 k32
  have b32 := F32.binds (ps := ["figures"]) fun _ _ _ _ _ _ us hl => match us, hl with | [_], _ => rfl
  have g32 := PySem.W.mg_of X G a32
  have F33 : FunD K "__str__" "Rule.__str__" (defArgs s_Rule___str__) (defBody s_Rule___str__) (defScope s_Rule___str__) [] [] f33 _ := ⟨⟨oc33, od33, _, kV33, dc33, pm33, an33, cd33, ct33, sl33, rfl, l33, c33, .inl ⟨rfl, rfl⟩, .inl rfl⟩, k33⟩
  have F34 : FunD K "__repr__" "Rule.__repr__" (defArgs s_Rule___repr__) (defBody s_Rule___repr__) (defScope s_Rule___repr__) [] [] f34 _ := ⟨⟨oc34, od34, _, kV34, dc34, pm34, an34, cd34, ct34, sl34, rfl, l34, c34, .inl ⟨rfl, rfl⟩, .inl rfl⟩, k34⟩
  have F35 : FunD K "__eq__" "Rule.__eq__" (defArgs s_Rule___eq__) (defBody s_Rule___eq__) (defScope s_Rule___eq__) [] [] f35 _ := ⟨⟨oc35, od35, _, kV35, dc35, pm35, an35, cd35, ct35, sl35, rfl, l35, c35, .inl ⟨rfl, rfl⟩, .inl rfl⟩, k35⟩
  have F36 := fun_mk (st := s_law) l36 c36 k36
  have m_isinstance := PySem.W.mg_none_of X G z_isinstance
  have m_bool := PySem.W.mg_none_of X G z_bool
  have m_int := PySem.W.mg_none_of X G z_int
  have m_tuple := PySem.W.mg_none_of X G z_tuple
  have m_all := PySem.W.mg_none_of X G z_all
  have m_len := PySem.W.mg_none_of X G z_len
  have m_max := PySem.W.mg_none_of X G z_max
  have m_min := PySem.W.mg_none_of X G z_min
  have m_abs := PySem.W.mg_none_of X G z_abs
  have m_list := PySem.W.mg_none_of X G z_list
  have m_range := PySem.W.mg_none_of X G z_range
  have m_zip := PySem.W.mg_none_of X G z_zip
  have m_str := PySem.W.mg_none_of X G z_str
  have m_sorted := PySem.W.mg_none_of X G z_sorted
  have m_set := PySem.W.mg_none_of X G z_set
  have m_repr := PySem.W.mg_none_of X G z_repr
  have m_enumerate := PySem.W.mg_none_of X G z_enumerate
  have g_AT_FIRST := PySem.W.mg_of X G y_AT_FIRST
  have q_AT_FIRST : ∀ H, SqT K H A_AT_FIRST [.str (Str.ofString "stands"), .int 0, .int 0, .int 0] := fun H => .inr ⟨_, _, _, x_AT_FIRST, rfl, rfl, (by show 4 ≤ sizeLine; decide), (.cons ⟨_, rfl⟩ (.cons ⟨_, rfl⟩ (.cons ⟨_, rfl⟩ (.cons ⟨_, rfl⟩ .nil))))⟩
  have g_MOST_DAYS := PySem.W.mg_of X G y_MOST_DAYS
  have g_LAST_DAY := PySem.W.mg_of X G y_LAST_DAY
  refine ⟨PySem.W.fnOf "law" "law" (defArgs s_law) (defBody s_law) (defScope s_law) .none kV36 dc36 pm36 an36 cd36 ct36, fun s v => .of_eq rfl, fun base _ _ => ?_⟩
  have C_is_number_in := ok_is_number_in (P := l.prog) (w := w) (base := base) F0 g0 b0 m_isinstance m_bool m_int
  have C_may_be_kept := ok_may_be_kept (P := l.prog) (w := w) (base := base) F1 g1 b1 m_isinstance m_tuple m_all m_len C_is_number_in
  have C_wrong_figure := ok_wrong_figure (P := l.prog) (w := w) (base := base) F2 g2 b2 m_isinstance m_bool C_is_number_in C_may_be_kept
  have O3 := ok_Rule___init__ (P := l.prog) (w := w) (base := base) TQ T_Rule m_isinstance m_tuple C_wrong_figure F3
  obtain ⟨ds_M_Rule, v_M_Rule, b_M_Rule⟩ := F3.binds1 (ps := ["self", "parts", "step", "grace", "last", "misses", "keep", "fine", "falls", "back"]) 10 7 (by simp) rfl (fun T kV doc pm an cdv ct us its h1 h2 => match us, its, h1, h2 with | [_, _, _, _, _, _, _, _, _, _], [_, _, _, _, _, _, _], _, _ => ⟨_, rfl, rfl⟩)
  have M_Rule : CMk l.prog w K mg base CR 4 "Rule" ["self", "parts", "step", "grace", "last", "misses", "keep", "fine", "falls", "back"] [] (sp_Rule___init__ K CR) := ⟨_, _, ds_M_Rule, O3, ⟨mk, a3, i3, kc⟩, gC, v_M_Rule, b_M_Rule⟩
  have O4 := ok_Rule_keeps (P := l.prog) (w := w) (base := base) TQ T_Rule m_max m_min F4
  obtain ⟨its4, kb4⟩ := F4.kbindsD (ps := ["self", "paid", "gone"]) 2 ["gone"] (fun us _ ws => us ++ ws) (by simp) (fun a _ c => a.append c) (fun T kV doc pm an cdv ct us its ws h1 h2 h3 => match us, its, ws, h1, h2, h3 with | [_, _], [_], [_], _, _, _ => ⟨_, rfl, rfl⟩)
  have C_Rule_keeps_1k : CMtK l.prog w K mg base CR 1 "keeps" ["self", "paid", "gone"] 2 ["gone"] (fun vs zs => vs ++ zs) (sp_Rule_keeps K CR) := ⟨_, _, _, O4, ⟨a4, i4, k4⟩, kb4⟩
  obtain ⟨ds_C_Rule_keeps_1, v_C_Rule_keeps_1, b_C_Rule_keeps_1⟩ := F4.binds1 (ps := ["self", "paid", "gone"]) 2 0 (by simp) rfl (fun T kV doc pm an cdv ct us its h1 h2 => match us, its, h1, h2 with | [_, _], [_], _, _ => ⟨_, rfl, rfl⟩)
  have C_Rule_keeps_1 : CMt l.prog w K mg base CR 1 "keeps" ["self", "paid", "gone"] [.bl false] (sp_Rule_keeps K CR) := ⟨_, _, ds_C_Rule_keeps_1, O4, ⟨a4, i4, k4⟩, v_C_Rule_keeps_1, b_C_Rule_keeps_1⟩
  have O5 := ok_Rule_figures (P := l.prog) (w := w) (base := base) TQ T_Rule F5
  have b_C_Rule_figures_0 := F5.bindsN (ps := ["self"]) fun kV doc pm an cdv ct us h => match us, h with | [_], _ => rfl
  have C_Rule_figures_0 : CMt l.prog w K mg base CR 1 "figures" ["self"] [] (sp_Rule_figures K CR) := ⟨_, _, [], O5, ⟨a5, i5, k5⟩, .nil, b_C_Rule_figures_0⟩
  have O6 := ok_Rule___len__ (P := l.prog) (w := w) (base := base) TQ T_Rule m_len F6
  have b_C_Rule___len___0 := F6.bindsN (ps := ["self"]) fun kV doc pm an cdv ct us h => match us, h with | [_], _ => rfl
  have C_Rule___len___0 : CMt l.prog w K mg base CR 1 "__len__" ["self"] [] (sp_Rule___len__ K CR) := ⟨_, _, [], O6, ⟨a6, i6, k6⟩, .nil, b_C_Rule___len___0⟩
  have C_passed_to := ok_passed_to (P := l.prog) (w := w) (base := base) F7 g7 b7 TQ T_Rule
  have C_paid_on := ok_paid_on (P := l.prog) (w := w) (base := base) F8 g8 b8 TQ T_Rule m_len C_Rule___len___0
  have C_course := ok_course (P := l.prog) (w := w) (base := base) F9 g9 b9 TQ T_Rule g_AT_FIRST q_AT_FIRST C_paid_on C_passed_to
  have C__law_mix := ok__law_mix (P := l.prog) (w := w) (base := base) F10 g10 b10
  have C__law_drawn_from := ok__law_drawn_from (P := l.prog) (w := w) (base := base) F11 g11 b11 m_len m_abs m_int
  have C__law_pick := ok__law_pick (P := l.prog) (w := w) (base := base) F12 g12 b12 C__law_mix
  have C__law_figures := ok__law_figures (P := l.prog) (w := w) (base := base) F13 g13 b13 m_int m_tuple C__law_pick
  have C__law_whole := ok__law_whole (P := l.prog) (w := w) (base := base) F14 g14 b14 m_isinstance m_tuple
  have C__law_rule_of := ok__law_rule_of (P := l.prog) (w := w) (base := base) F15 g15 b15 TQ T_Rule M_Rule
  have C_shown_of := ok_shown_of (P := l.prog) (w := w) (base := base) F16 g16 b16 TQ T_Rule C_Rule_keeps_1k C_Rule_keeps_1
  have C_shown := ok_shown (P := l.prog) (w := w) (base := base) F17 g17 b17 TQ T_Rule C_shown_of C_course
  have C_order_of_row := ok_order_of_row (P := l.prog) (w := w) (base := base) F18 g18 b18 m_len
  have C_keep_first := ok_keep_first (P := l.prog) (w := w) (base := base) F19 g19 b19 C_order_of_row
  have C_may_change := ok_may_change (P := l.prog) (w := w) (base := base) F20 g20 b20
  have C_show_unlike := ok_show_unlike (P := l.prog) (w := w) (base := base) F21 g21 b21 TQ T_Rule C_shown_of
  have C_rows_by_end := ok_rows_by_end (P := l.prog) (w := w) (base := base) F22 g22 b22 TQ T_Rule m_list m_range m_max m_len C_passed_to C_keep_first C_paid_on C_Rule___len___0
  have C_parted := ok_parted (P := l.prog) (w := w) (base := base) F23 g23 b23 TQ T_Rule m_len m_min g_AT_FIRST q_AT_FIRST C_rows_by_end C_show_unlike C_order_of_row C_may_change C_shown_of
  have C__law_stand := ok__law_stand (P := l.prog) (w := w) (base := base) F24 g24 b24 m_range
  have C__law_shown := ok__law_shown (P := l.prog) (w := w) (base := base) F25 g25 b25 m_min C__law_stand
  have C__law_same := ok__law_same (P := l.prog) (w := w) (base := base) F26 g26 b26 m_isinstance m_tuple m_list m_all m_zip m_len m_str m_bool m_int
  have C__law_days := ok__law_days (P := l.prog) (w := w) (base := base) F27 g27 b27 m_range m_int C__law_pick
  have C_is_row_to := ok_is_row_to (P := l.prog) (w := w) (base := base) F28 g28 b28 m_len m_isinstance m_list m_sorted m_all g_MOST_DAYS C_is_number_in
  have C_shows_parted := ok_shows_parted (P := l.prog) (w := w) (base := base) F29 g29 b29 TQ T_Rule m_len m_isinstance m_tuple g_LAST_DAY C_is_row_to C_is_number_in C_shown
  have C_counted := ok_counted (P := l.prog) (w := w) (base := base) F30 g30 b30
  have C_kept_clause := ok_kept_clause (P := l.prog) (w := w) (base := base) F31 g31 b31 m_len m_set m_str C_counted
  have C_clauses_of := ok_clauses_of (P := l.prog) (w := w) (base := base) F32 g32 b32 C_counted C_kept_clause
  have O33 := ok_Rule___str__ (P := l.prog) (w := w) (base := base) TQ T_Rule C_clauses_of C_Rule_figures_0 F33
  have b_C_Rule___str___0 := F33.bindsN (ps := ["self"]) fun kV doc pm an cdv ct us h => match us, h with | [_], _ => rfl
  have C_Rule___str___0 : CTx l.prog w K mg base CR 4 "__str__" (sp_Rule___str__ K CR) := ⟨_, _, O33, ⟨a33, i33⟩, b_C_Rule___str___0⟩
  have O34 := ok_Rule___repr__ (P := l.prog) (w := w) (base := base) TQ T_Rule C_Rule___str___0 F34
  have b_C_Rule___repr___0 := F34.bindsN (ps := ["self"]) fun kV doc pm an cdv ct us h => match us, h with | [_], _ => rfl
  have C_Rule___repr___0 : CTx l.prog w K mg base CR 7 "__repr__" (sp_Rule___repr__ K CR) := ⟨_, _, O34, ⟨a34, i34⟩, b_C_Rule___repr___0⟩
  have O35 := ok_Rule___eq__ (P := l.prog) (w := w) (base := base) TQ T_Rule m_isinstance C_Rule_figures_0 F35
  exact ok_law F36 TQ T_Rule m_range m_min m_len m_repr m_str m_enumerate C__law_drawn_from C__law_pick C__law_whole C__law_figures C__law_rule_of C_parted C_shows_parted C__law_days C__law_same C__law_shown C_shown C_Rule___repr___0 C_Rule___str___0 C_Rule_figures_0
end Pw
open PySem PySem.W PyProof.Rows
set_option maxHeartbeats 0 in
theorem PySem.Challenge.cw_partwares_k27_parted_by_turns_holds : PySem.Challenge.rw_partwares_k27_parted_by_turns.Holds := by
  w_on; o_law; k_head; (case hw => w_witness2)
  k_fill
  refine Pw.walk_ofG (l := PySem.Challenge.rw_partwares_k27_parted_by_turns) (n := 63) (k := 10) (x := "_law_script") (sp := fun w => Pw.sp_law _) rfl (by decide) rfl ⟨rfl, by decide, by decide⟩ (fun w h Y => PySem.W.kIn_of Y) ?F (fun _ _ a ns hl _ hS => ⟨a, ns, rfl, hS, hl, fun _ => rfl⟩)
  case F =>
    intro w mg fa h KX G hmg
    refine' Pw.all_mk KX G hmg ?aC ?pg ?hd ?po ?sa ?mk ?kc ?n1 ?n2 ?n3 ?n4 ?n5 ?n6 ?n7 ?n8 ?n9 ?q_ca ?q_cn ?q_ct ?q_ob ?q_ne ?q_ty ?q_ic ?q_s0 ?q_b0 ?q_s1 ?q_b1 ?q_s2 ?q_b2 ?q_s3 ?q_b3 ?q_s4 ?q_b4 ?q_s5 ?q_b5 ?a0 ?l0 ?c0 ?k0 ?a1 ?l1 ?c1 ?k1 ?a2 ?l2 ?c2 ?k2 ?a3 ?l3 ?c3 ?k3 ?i3 ?d3 ?a4 ?l4 ?c4 ?k4 ?i4 ?d4 ?a5 ?l5 ?c5 ?k5 ?i5 ?a6 ?l6 ?c6 ?k6 ?i6 ?a7 ?l7 ?c7 ?k7 ?a8 ?l8 ?c8 ?k8 ?a9 ?l9 ?c9 ?k9 ?a10 ?l10 ?c10 ?k10 ?a11 ?l11 ?c11 ?k11 ?a12 ?l12 ?c12 ?k12 ?a13 ?l13 ?c13 ?k13 ?a14 ?l14 ?c14 ?k14 ?a15 ?l15 ?c15 ?k15 ?a16 ?l16 ?c16 ?k16 ?a17 ?l17 ?c17 ?k17 ?a18 ?l18 ?c18 ?k18 ?a19 ?l19 ?c19 ?k19 ?a20 ?l20 ?c20 ?k20 ?a21 ?l21 ?c21 ?k21 ?a22 ?l22 ?c22 ?k22 ?a23 ?l23 ?c23 ?k23 ?a24 ?l24 ?c24 ?k24 ?a25 ?l25 ?c25 ?k25 ?a26 ?l26 ?c26 ?k26 ?a27 ?l27 ?c27 ?k27 ?a28 ?l28 ?c28 ?k28 ?a29 ?l29 ?c29 ?k29 ?a30 ?l30 ?c30 ?k30 ?a31 ?l31 ?c31 ?k31 ?a32 ?l32 ?c32 ?k32 ?a33 ?l33 ?c33 ?k33 ?i33 ?a34 ?l34 ?c34 ?k34 ?i34 ?a35 ?l35 ?c35 ?k35 ?i35 ?a36 ?l36 ?c36 ?k36 ?z_isinstance ?z_bool ?z_int ?z_tuple ?z_all ?z_len ?z_max ?z_min ?z_abs ?z_list ?z_range ?z_zip ?z_str ?z_sorted ?z_set ?z_repr ?z_enumerate ?y_AT_FIRST ?x_AT_FIRST ?y_MOST_DAYS ?y_LAST_DAY
    (case aC => k_is); (case pg => k_is); (case hd => k_is); (case po => k_is); (case sa => k_is); (case mk => k_is); (case kc => k_is); (case n1 => k_is); (case n2 => k_is); (case n3 => k_is); (case n4 => k_is); (case n5 => k_is); (case n6 => k_is); (case n7 => k_is); (case n8 => k_is); (case n9 => k_is); (case q_ca => k_is); (case q_cn => k_is); (case q_ct => k_is); (case q_ob => k_is); (case q_ne => k_is); (case q_ty => k_is); (case q_ic => k_is); (case q_s0 => k_is); (case q_b0 => k_is); (case q_s1 => k_is); (case q_b1 => k_is); (case q_s2 => k_is); (case q_b2 => k_is); (case q_s3 => k_is); (case q_b3 => k_is); (case q_s4 => k_is); (case q_b4 => k_is); (case q_s5 => k_is); (case q_b5 => k_is); (case a0 => k_is); (case l0 => k_is); (case c0 => k_is); (case k0 => k_is); (case a1 => k_is); (case l1 => k_is); (case c1 => k_is); (case k1 => k_is); (case a2 => k_is); (case l2 => k_is); (case c2 => k_is); (case k2 => k_is); (case a3 => k_is); (case l3 => k_is); (case c3 => k_is); (case k3 => k_is); (case i3 => k_is); (case d3 => k_is); (case a4 => k_is); (case l4 => k_is); (case c4 => k_is); (case k4 => k_is); (case i4 => k_is); (case d4 => k_is); (case a5 => k_is); (case l5 => k_is); (case c5 => k_is); (case k5 => k_is); (case i5 => k_is); (case a6 => k_is); (case l6 => k_is); (case c6 => k_is); (case k6 => k_is); (case i6 => k_is); (case a7 => k_is); (case l7 => k_is); (case c7 => k_is); (case k7 => k_is); (case a8 => k_is); (case l8 => k_is); (case c8 => k_is); (case k8 => k_is); (case a9 => k_is); (case l9 => k_is); (case c9 => k_is); (case k9 => k_is); (case a10 => k_is); (case l10 => k_is); (case c10 => k_is); (case k10 => k_is); (case a11 => k_is); (case l11 => k_is); (case c11 => k_is); (case k11 => k_is); (case a12 => k_is); (case l12 => k_is); (case c12 => k_is); (case k12 => k_is); (case a13 => k_is); (case l13 => k_is); (case c13 => k_is); (case k13 => k_is); (case a14 => k_is); (case l14 => k_is); (case c14 => k_is); (case k14 => k_is); (case a15 => k_is); (case l15 => k_is); (case c15 => k_is); (case k15 => k_is); (case a16 => k_is); (case l16 => k_is); (case c16 => k_is); (case k16 => k_is); (case a17 => k_is); (case l17 => k_is); (case c17 => k_is); (case k17 => k_is); (case a18 => k_is); (case l18 => k_is); (case c18 => k_is); (case k18 => k_is); (case a19 => k_is); (case l19 => k_is); (case c19 => k_is); (case k19 => k_is); (case a20 => k_is); (case l20 => k_is); (case c20 => k_is); (case k20 => k_is); (case a21 => k_is); (case l21 => k_is); (case c21 => k_is); (case k21 => k_is); (case a22 => k_is); (case l22 => k_is); (case c22 => k_is); (case k22 => k_is); (case a23 => k_is); (case l23 => k_is); (case c23 => k_is); (case k23 => k_is); (case a24 => k_is); (case l24 => k_is); (case c24 => k_is); (case k24 => k_is); (case a25 => k_is); (case l25 => k_is); (case c25 => k_is); (case k25 => k_is); (case a26 => k_is); (case l26 => k_is); (case c26 => k_is); (case k26 => k_is); (case a27 => k_is); (case l27 => k_is); (case c27 => k_is); (case k27 => k_is); (case a28 => k_is); (case l28 => k_is); (case c28 => k_is); (case k28 => k_is); (case a29 => k_is); (case l29 => k_is); (case c29 => k_is); (case k29 => k_is); (case a30 => k_is); (case l30 => k_is); (case c30 => k_is); (case k30 => k_is); (case a31 => k_is); (case l31 => k_is); (case c31 => k_is); (case k31 => k_is); (case a32 => k_is); (case l32 => k_is); (case c32 => k_is); (case k32 => k_is); (case a33 => k_is); (case l33 => k_is); (case c33 => k_is); (case k33 => k_is); (case i33 => k_is); (case a34 => k_is); (case l34 => k_is); (case c34 => k_is); (case k34 => k_is); (case i34 => k_is); (case a35 => k_is); (case l35 => k_is); (case c35 => k_is); (case k35 => k_is); (case i35 => k_is); (case a36 => k_is); (case l36 => k_is); (case c36 => k_is); (case k36 => k_is); (case z_isinstance => k_is); (case z_bool => k_is); (case z_int => k_is); (case z_tuple => k_is); (case z_all => k_is); (case z_len => k_is); (case z_max => k_is); (case z_min => k_is); (case z_abs => k_is); (case z_list => k_is); (case z_range => k_is); (case z_zip => k_is); (case z_str => k_is); (case z_sorted => k_is); (case z_set => k_is); (case z_repr => k_is); (case z_enumerate => k_is); (case y_AT_FIRST => k_is); (case x_AT_FIRST => k_is); (case y_MOST_DAYS => k_is); (case y_LAST_DAY => k_is)
