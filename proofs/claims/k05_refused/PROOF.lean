import PyProof.Rows.All
import Wide.All
import OpenK.AllK
import Wide.FinOn
import HandS.Base
import HandS.Call
import HandS.List
import HandS.Comp
import HandS.Iter
import HandS.Ends
import HandS.Words
import HandS.WordsList
import HandS.Sort
import HandS.SortRule
import HandS.Zip
import HandS.Evl
import HandS.EndBits
import HandS.IsInst
import HandS.Style
import HandS.Dict
import HandS.TupLen
import HandS.WordsDict
import HandS.Deep
import PyProof.Rows.TupDisplay
import KE.SortData
import HandS.Steps
import HandS.ForDict
import HandS.New0
import HandS.ExcOwn
import HandS.WordsExc
import HandS.Lambda
import HandS.ExcIs
import HandS.IterVal
import HandS.SortOrd
import HandS.SortInts
import HandS.DictTup
import KE.KDictSum
import KE.KDictCopyH
import KE.SortKeyHeap
import HandS.SortKw
import HandS.EndTab
import PySem.Challenge.RW_evenglasses_k05_refused
set_option Elab.async false
set_option linter.all false
set_option maxRecDepth 100000
set_option maxHeartbeats 2000000
namespace Eg
open PySem PySem.Spec PyProof.Rows L2 Evl

/-! ### names of the module -/
structure Cal (P : Program) (w : World) (K : PySem.W.Frag) (mg : Str → Option Value) (base : Heap) (CX : CXT) (k : Nat) (x : Str) (ps : List Str) (sp : Sp) (f : Addr) (fd : FuncData) : Prop where
  ok : FnOk P w K mg base CX k f fd ps sp
  g : mg x = some (.ref f)
  kp : PySem.W.keepIn K (.ref f) = true
  b : Binds K fd ps []

/-! ### bits -/
def Bt (a : Nat) (i : Int) : Prop := i.natAbs < 2 ^ a
theorem Bt.mono {a b : Nat} {i : Int} (h : Bt a i) (l : a ≤ b) : Bt b i := Nat.lt_of_lt_of_le h (Nat.pow_le_pow_right (by decide) l)
theorem Bt.add {a : Nat} {i j : Int} (h : Bt a i) (g : Bt a j) : Bt (a + 1) (i + j) := by
  have h1 : i.natAbs < 2 ^ a := h
  have h2 : j.natAbs < 2 ^ a := g
  show (i + j).natAbs < 2 ^ (a + 1)
  rw [Nat.pow_succ]
  omega
theorem Bt.sub {a : Nat} {i j : Int} (h : Bt a i) (g : Bt a j) : Bt (a + 1) (i - j) := by
  have h1 : i.natAbs < 2 ^ a := h
  have h2 : j.natAbs < 2 ^ a := g
  show (i - j).natAbs < 2 ^ (a + 1)
  rw [Nat.pow_succ]
  omega
theorem Bt.mul {a b : Nat} {i j : Int} (h : Bt a i) (g : Bt b j) : Bt (a + b) (i * j) := by
  show (i * j).natAbs < 2 ^ (a + b)
  rw [Int.natAbs_mul, Nat.pow_add]
  exact Nat.mul_lt_mul'' h g
theorem Bt.small {i : Int} (h1 : -(2 ^ 40) < i) (h2 : i < 2 ^ 40) : Bt 40 i := by
  show i.natAbs < 2 ^ 40
  omega
theorem intBits_le {a : Nat} {i : Int} (h : Bt a i) : Builtin.Int.intBits i ≤ a := by
  unfold Builtin.Int.intBits
  have h1 : i.natAbs < 2 ^ a := h
  split
  · omega
  · rename_i hz
    have hz2 : i.natAbs ≠ 0 := by
      intro e
      apply hz
      simp [Int.natAbs_eq_zero.mp e]
    have := (Nat.log2_lt hz2).mpr h1
    omega
theorem bt_of_bits {a : Nat} {i : Int} (h : Builtin.Int.intBits i ≤ a) : Bt a i := by
  show i.natAbs < 2 ^ a
  unfold Builtin.Int.intBits at h
  split at h
  · rename_i hz
    have e : i.natAbs = 0 := by
      simp at hz
      omega
    rw [e]
    exact Nat.two_pow_pos a
  · rename_i hz
    have hz2 : i.natAbs ≠ 0 := by
      intro e
      apply hz
      simp [Int.natAbs_eq_zero.mp e]
    exact (Nat.log2_lt hz2).mp (by omega)
theorem mulOk {a b : Nat} {i j : Int} (h : Bt a i) (g : Bt b j) (l : a + b ≤ 100000000) : IntMulOk i j := by
  have h1 := intBits_le h
  have h2 := intBits_le g
  have e : bitsLine = 134217728 := by decide
  unfold IntMulOk
  intro z
  rw [Bool.and_eq_true] at z
  have z2 := z.2
  unfold Builtin.Int.intTooBig at z2
  have z3 := of_decide_eq_true z2
  rw [e] at z3
  omega

section
variable {X : Cx} {a b c d e : Expr} {ta tb tc td te ts : TE} {pos : Pos}
/-! ### rules -/
theorem op_mulO : OpR X (binaryOp .Mult) (rI IntMulOk fun i j => .int (i * j)) := opI fun _ _ _ _ _ _ _ hc q => mul_int q hc
/-- a op1 b op2 c op3 d -/
def tChain3 (r r' r'' : R2) (ta tb tc td : TE) : TE := fun σ H Q => ta σ H fun x H1 => tb σ H1 fun y H2 => r x y H2 fun z H3 => ∃ k, z = .bl k ∧
  (if k = true then tc σ H3 fun w' H4 => r' y w' H4 fun z' H5 => ∃ k', z' = .bl k' ∧ (if k' = true then td σ H5 fun v' H6 => r'' w' v' H6 Q else Q (.bl false) H5) else Q (.bl false) H3)
theorem pe_chain3 {op op' op'' : CmpOp} {r r' r'' : R2} (ho : OpR X (compareOp op) r) (ho' : OpR X (compareOp op') r') (ho'' : OpR X (compareOp op'') r'') (ha : PE X a ta) (hb : PE X b tb) (hc : PE X c tc) (hd : PE X d td)
    (hm : lastMarks [op, op', op''] [b, c, d] = false := by with_unfolding_all rfl) : PE X (.Compare a [op, op', op''] [b, c, d] pos) (tChain3 r r' r'' ta tb tc td) := by
  refine ⟨fun pins s σ H Q I h => ?_⟩
  refine Compare_chain (thn (ha.run pins s σ H _ I h) fun v s1 ⟨x, H1, I1, r1, q1⟩ => chain_link (thn (hb.run pins s1 σ H1 _ I1 q1) fun u s2 ⟨y, H2, I2, r2, q2⟩ =>
    thn (ho pins s2 σ H2 x y v u _ I2 r1 r2 q2) fun d' s3 ⟨z, H3, I3, r3, k, e, q3⟩ => ?_)) hm
  subst e
  cases r3
  refine wpAny_truthy_bool ?_
  cases k with
  | false => exact ite_ff ⟨.bl false, H3, I3, rfl, q3⟩
  | true =>
    refine ite_tt (chain_link (thn (hc.run pins s3 σ H3 _ I3 q3) fun w' s4 ⟨y', H4, I4, r4, q4⟩ => thn (ho' pins s4 σ H4 y y' u w' _ I4 r2 r4 q4) fun d2 s5 ⟨z2, H5, I5, r5, k2, e2, q5⟩ => ?_))
    subst e2
    cases r5
    refine wpAny_truthy_bool ?_
    cases k2 with
    | false => exact ite_ff ⟨.bl false, H5, I5, rfl, q5⟩
    | true => exact ite_tt (chain_last (thn (hd.run pins s5 σ H5 _ I5 q5) fun w6 s6 ⟨z', H6, I6, r6, q6⟩ => ho'' pins s6 σ H6 y' z' w' w6 Q I6 r4 r6 q6))

/-! ### xs[::k] -/
theorem vals_some : ∀ {us : List Value} {xs : List V} {its : List Value}, Vals xs its → (∀ u ∈ us, u ∈ its) → ∃ ys : List V, Vals ys us ∧ ∀ y ∈ ys, y ∈ xs
  | [], _, _, _, _ => ⟨[], .nil, fun y h => nomatch h⟩
  | u :: us, xs, its, r, h => by
    obtain ⟨ys, ry, hy⟩ := vals_some (us := us) r fun u hu => h u (List.mem_cons_of_mem _ hu)
    obtain ⟨i, hi, ei⟩ := List.getElem_of_mem (h u List.mem_cons_self)
    have hl := r.length
    have hi2 : i < xs.length := by omega
    obtain ⟨u', e1, ru⟩ := Vals.get r (List.getElem?_eq_getElem hi2)
    rw [List.getElem?_eq_getElem hi, ei] at e1
    cases e1
    refine ⟨xs[i] :: ys, .cons ru ry, fun y hm => ?_⟩
    rcases List.mem_cons.mp hm with e | e
    · rw [e]
      exact List.getElem_mem hi2
    · exact hy y e
theorem slicePick_mem {items : Array Value} {lo hi st : Option Int} {u : Value} (h : u ∈ (slicePick items lo hi st).toList) : u ∈ items.toList := by
  unfold slicePick at h
  obtain ⟨i, _, e⟩ := List.mem_filterMap.mp h
  exact Array.mem_toList_iff.mpr (Array.mem_of_getElem? e)
def tStepL (K : PySem.W.Frag) (te ts : TE) : TE := fun σ H Q => te σ H fun x H1 => tPart ts σ H1 fun y H2 => ∃ a xs k, x = .ref a ∧ y = some k ∧ k ≠ 0 ∧ SqL K H2 a xs ∧ ∀ ys p, (∀ z ∈ ys, z ∈ xs) → H2 p = none → Q (.ref p) (upd H2 p (.lst ys))
theorem pe_stepL {p3 : Pos} (he : PE X e te) (hk : PE X c ts) : PE X (.Subscript e (.Slice none none (some c) p3) pos) (tStepL X.K te ts) := by
  refine ⟨fun pins s σ H Q I h => ?_⟩
  refine Subscript_ (thn (he.run pins s σ H _ I h) fun v s1 ⟨x, H1, I1, r1, q1⟩ => ?_)
  have hst : PO X (some c) (tPart ts) := po_some hk
  refine wpAny_Slice (thn (po_none.run pins s1 σ H1 (fun o H2 => o = none ∧ H2 = H1) I1 ⟨rfl, rfl⟩) fun vl s2 ⟨l, H2, I2, pl, el, e2⟩ => ?_)
  subst el e2
  refine thn (po_none.run pins s2 σ H2 (fun o H3 => o = none ∧ H3 = H2) I2 ⟨rfl, rfl⟩) fun vu s3 ⟨u, H3, I3, pu, eu, e3⟩ => ?_
  subst eu e3
  refine thn (hst.run pins s3 σ H3 _ I3 q1) fun vs s4 ⟨o, H4, I4, ps, a, xs, k, ex, eo, k0, hx, q⟩ => ?_
  subst ex eo
  cases r1
  have I5 : Inv X pins σ H4 { s4 with heap := s4.heap.push { cls := .type "slice", data := .fields #[vl, vu, vs] } } := I4.kept (t' := s4.toks) fun b ob q => Heap.get?_push_of_some _ q
  obtain ⟨its, r, ht, hz⟩ := I5.list hx
  have hlen := r.length
  show wpAny (model X.prog X.w) X.A (subscriptTail e (.Slice none none (some c) p3) (.ref a) (.ref s4.heap.objs.size)) (EP X pins σ Q) X.xe { s4 with heap := s4.heap.push { cls := .type "slice", data := .fields #[vl, vu, vs] } }
  refine tail_any (ops := [.ref a, .ref s4.heap.objs.size]) ht.isList.typeIs (PySem.slot_list_getitem.lookup) ?_ (by with_unfolding_all rfl)
  refine wpAny_getItem_list_slice ht.isList (Heap.IsSliceOf.new _ vl vu vs) pl pu ps (fun z => k0 (Option.some.inj z)) ?_ (by rw [List.size_toArray]; omega)
  obtain ⟨ys, ry, hy⟩ := vals_some (us := (slicePick its.toArray none none (some k)).toList) r fun u hu => slicePick_mem hu
  have hsz := slicePick_size_le its.toArray none none (some k)
  refine ⟨.ref _, _, I5.laid (t' := s4.toks) (o := .lst ys) (fun b ob q => Heap.get?_push_of_some _ q) (Nat.le_refl _) ?_, rfl, q ys _ hy (I5.hok.fresh (Nat.le_refl _))⟩
  refine ⟨?_, _, 0, ry, Heap.get?_push_size _ ?_⟩
  · have hl := ry.length
    have e1 : its.toArray.size = its.length := List.size_toArray ..
    have e2 : (slicePick its.toArray none none (some k)).toList.length = (slicePick its.toArray none none (some k)).size := Array.length_toList ..
    omega
  · rfl

/-! ### len(set(xs)) -/
def dlen (ns : List Int) : Nat := (firstMet (fun i => ns.getD i 0) ns.length).length
def tLenSet (K : PySem.W.Frag) (ta : TE) : TE := fun σ H Q => ta σ H fun x H1 => ∃ (l : Addr) (ns : List Int), x = .ref l ∧ SqL K H1 l (ns.map V.int) ∧ ns.length ≤ 4000 ∧ Q (.int (dlen ns : Nat)) H1
theorem pe_lenSet {p p2 q pos : Pos} (hg : Gl X "len") (hm : X.mg "len" = none) (hg2 : Gl X "set") (hm2 : X.mg "set" = none) (ha : PE X a ta) (hc : X.calm = true := by rfl)
    (na : starEach [a] X.env = (false, eval a X.env) :: starEach [] X.env := by rfl) : PE X (.Call (.Name "len" p) [.Call (.Name "set" p2) [a] [] q] [] pos) (tLenSet X.K ta) := by
  refine ⟨fun pins s σ H Q I h => ?_⟩
  refine Call_ (ld_blt I hg hm boot_len ?_)
  refine PyProof.Rows.callWith_builtin1 (PyProof.Rows.args_cons ?_ rfl) rfl rfl
  have bs : bootBuiltins "set" = some (.type "set") := by decide +kernel
  refine Call_ (ld_blt I hg2 hm2 bs ?_)
  refine PyProof.Rows.callWith_type1 (PyProof.Rows.args_cons (thn (ha.run pins s σ H _ I h) fun v s1 ⟨x, H1, I1, r1, q1⟩ => PyProof.Rows.args_nil ?_) na) na rfl
  obtain ⟨l, ns, rfl, hq, hl, q1⟩ := q1
  cases r1
  obtain ⟨its, r, pl, hz⟩ := I1.list hq
  have hlen : its.toArray.size = ns.length := by rw [List.size_toArray, ← r.length, List.length_map]
  refine call_set_list (I1.ok.hd hc) pl.isList (by simpa using RZ.intsAre_vals r) (by rw [hlen]; unfold scanBound; omega) fun h' tk hS hk => ?_
  refine PyProof.Rows.args_nil ?_
  rw [hlen] at hS
  have hfl := firstMet_length_le (fun i => ns.getD i 0) ns.length
  obtain ⟨o, es, ep, t, ho, hex, hd, _, _, _, hf, hn⟩ := hS
  have I2 : Inv X pins σ H1 { s1 with heap := h', toks := tk } := I1.kept fun b o e => hk b o (Heap.lt_size e) e
  exact call_len_set ho hex hd hf (by rw [hn]; omega) ⟨.int (dlen ns : Nat), H1, I2.tok _, ⟨_, by rw [hn]; rfl⟩, q1⟩
end
end Eg

set_option Elab.async false
set_option linter.all false
set_option maxRecDepth 100000
set_option maxHeartbeats 2000000
namespace Eg
open PySem PySem.Spec PyProof.Rows L2 Evl

/-! ### what stands behind an extension -/
theorem tyOf_mono {K : PySem.W.Frag} {H H' : Hp} {x : V} {t : Value} (e : Ex H H') (h : TyOf K H x t) : TyOf K H' x t := by
  cases h with
  | non => exact .non
  | bl x => exact .bl x
  | int i => exact .int i
  | str x => exact .str x
  | flt x => exact .flt x
  | lst h => exact .lst (e _ _ h)
  | frz h => exact .frz (e _ _ h)
  | tup h => exact .tup (e _ _ h)
  | dK h => exact .dK (e _ _ h)
  | dT h => exact .dT (e _ _ h)
  | ins h a b c d f => exact .ins (e _ _ h) a b c d f
theorem tyX_mono {K : PySem.W.Frag} {H H' : Hp} {x : V} {t : Value} (e : Ex H H') (h : TyX K H x t) : TyX K H' x t := by
  cases h with
  | base h => exact .base (tyOf_mono e h)
  | byt b => exact .byt b
  | set h => exact .set (e _ _ h)
  | kList h c => exact .kList h c
  | kTuple h c => exact .kTuple h c
  | kDict h c => exact .kDict h c
  | fTuple h => exact .fTuple (e _ _ h)
  | fDict h => exact .fDict (e _ _ h)
theorem tyX_l {K : PySem.W.Frag} {H : Hp} {a : Addr} {xs : List V} (h : SqL K H a xs) : TyX K H (.ref a) (.type "list") := by
  rcases h with (h | ⟨o, h⟩) | ⟨o, its, n, h, c, _⟩
  · exact .base (.lst h)
  · exact .base (.frz h)
  · exact .kList h c
theorem tyX_t {K : PySem.W.Frag} {H : Hp} {a : Addr} {xs : List V} (h : SqT K H a xs) : TyX K H (.ref a) (.type "tuple") := by
  rcases h with (h | ⟨o, h⟩) | ⟨o, its, n, h, c, _⟩
  · exact .base (.tup h)
  · exact .fTuple h
  · exact .kTuple h c
mutual
theorem dp_mono {K : PySem.W.Frag} {H H' : Hp} (e : Ex H H') : ∀ {v : V} {d : PyData}, Dp K H v d → Dp K H' v d
  | _, _, .non => .non
  | _, _, .bl b => .bl b
  | _, _, .int i => .int i
  | _, _, .str x => .str x
  | _, _, .lst h a => .lst (ex_l e h) (dpa_mono e a)
  | _, _, .tup h a => .tup (ex_t e h) (dpa_mono e a)
theorem dpa_mono {K : PySem.W.Frag} {H H' : Hp} (e : Ex H H') : ∀ {vs : List V} {ds : List PyData}, DpAll K H vs ds → DpAll K H' vs ds
  | _, _, .nil => .nil
  | _, _, .cons h a => .cons (dp_mono e h) (dpa_mono e a)
end
theorem dpa_app {K : PySem.W.Frag} {H : Hp} : ∀ {vs ws : List V} {ds es : List PyData}, DpAll K H vs ds → DpAll K H ws es → DpAll K H (vs ++ ws) (ds ++ es)
  | _, _, _, _, .nil, h => h
  | _, _, _, _, .cons a b, h => .cons a (dpa_app b h)
theorem dpa_len {K : PySem.W.Frag} {H : Hp} : ∀ {vs : List V} {ds : List PyData}, DpAll K H vs ds → vs.length = ds.length
  | _, _, .nil => rfl
  | _, _, .cons _ b => congrArg (· + 1) (dpa_len b)
theorem dpa_ints {K : PySem.W.Frag} {H : Hp} : ∀ (ns : List Int), DpAll K H (ns.map V.int) (ns.map PyData.int)
  | [] => .nil
  | n :: ns => .cons (.int n) (dpa_ints ns)
theorem dpa_mem {K : PySem.W.Frag} {H : Hp} : ∀ {vs : List V} {ds : List PyData}, DpAll K H vs ds → ∀ v ∈ vs, ∃ d ∈ ds, Dp K H v d
  | _, _, .nil, v, h => nomatch h
  | _, _, .cons a b, v, h => by
    rcases List.mem_cons.mp h with e | e
    · rw [e]
      exact ⟨_, List.mem_cons_self, a⟩
    · obtain ⟨d, hd, q⟩ := dpa_mem b v e
      exact ⟨d, List.mem_cons_of_mem _ hd, q⟩
theorem can_all : ∀ {ds : List PyData}, (∀ d ∈ ds, d.canLay0 = true) → PyData.canLayAll0 ds = true
  | [], _ => by simp only [PyData.canLayAll0]
  | d :: ds, h => by
    simp only [PyData.canLayAll0, Bool.and_eq_true]
    exact ⟨h d List.mem_cons_self, can_all fun e he => h e (List.mem_cons_of_mem _ he)⟩
theorem depth_all {k : Nat} : ∀ {ds : List PyData}, (∀ d ∈ ds, d.depth ≤ k) → PyData.depthAll ds ≤ k
  | [], _ => by simp only [PyData.depthAll]; exact Nat.zero_le _
  | d :: ds, h => by
    simp only [PyData.depthAll]
    exact Nat.max_le.mpr ⟨h d List.mem_cons_self, depth_all fun e he => h e (List.mem_cons_of_mem _ he)⟩
/-- data that may be laid, at most k deep -/
def Lay (k : Nat) (d : PyData) : Prop := d.canLay0 = true ∧ d.depth ≤ k
theorem lay_int (i : Int) : Lay 0 (.int i) := ⟨by simp only [PyData.canLay0], by simp only [PyData.depth]; exact Nat.zero_le _⟩
theorem lay_list {k : Nat} {ds : List PyData} (h : ∀ d ∈ ds, Lay k d) : Lay (k + 1) (.list ds) :=
  ⟨by simp only [PyData.canLay0]; exact can_all fun d hd => (h d hd).1, by simp only [PyData.depth]; exact Nat.succ_le_succ (depth_all fun d hd => (h d hd).2)⟩
theorem lay_tup {k : Nat} {ds : List PyData} (h : ∀ d ∈ ds, Lay k d) : Lay (k + 1) (.tuple ds) :=
  ⟨by simp only [PyData.canLay0]; exact can_all fun d hd => (h d hd).1, by simp only [PyData.depth]; exact Nat.succ_le_succ (depth_all fun d hd => (h d hd).2)⟩
theorem Lay.shaped {k : Nat} {d : PyData} (h : Lay k d) (l : k ≤ 64 := by decide) : SeqAt.shaped d = true := (Bool.and_eq_true _ _).mpr ⟨h.1, decide_eq_true (Nat.le_trans h.2 l)⟩
theorem lay_ints (ns : List Int) : Lay 1 (.list (ns.map PyData.int)) := lay_list fun d hd => by
  obtain ⟨n, _, rfl⟩ := List.mem_map.mp hd
  exact lay_int n

section
variable {K : PySem.W.Frag} {σ : L2.St} {H H' : Hp} {ta tb tc td te tx : TE} {t u : TT} {x y z v : V} {r : R2} {i j k l : Int}
theorem ev_isi {b : Bool} {n : String} {ty : Value} (ha : Ev ta σ H x) (hb : Ev tb σ H (.ty n)) (hx : TyX K H x ty) (hk : PySem.W.kitOne K ty (.type n) = some b) : Ev (tCB (rIsi K) (tCons ta (tCons tb tNil))) σ H (.bl b) := fun H1 e Q q =>
  ha H1 e _ fun H2 e2 => hb H2 (e.trans e2) _ fun H3 e3 => ⟨x, .ty n, ty, _, b, rfl, .ty n, tyX_mono ((e.trans e2).trans e3) hx, hk, q H3 (e2.trans e3)⟩
theorem ev_int1 (ha : Ev ta σ H (.int i)) (hb : Ev tb σ H (.ty "int")) : Ev (tCB (rIsi K) (tCons ta (tCons tb tNil))) σ H (.bl true) := ev_isi ha hb (.base (.int i)) (kit_ty (by decide +kernel))
theorem ev_int2 (ha : Ev ta σ H (.int i)) (hb : Ev tb σ H (.ty "bool")) : Ev (tCB (rIsi K) (tCons ta (tCons tb tNil))) σ H (.bl false) := ev_isi ha hb (.base (.int i)) (kit_ty (by decide +kernel))
theorem ev_bl2 {c : Bool} (ha : Ev ta σ H (.bl c)) (hb : Ev tb σ H (.ty "bool")) : Ev (tCB (rIsi K) (tCons ta (tCons tb tNil))) σ H (.bl true) := ev_isi ha hb (.base (.bl c)) (kit_ty (by decide +kernel))
theorem ev_isl {p : Addr} {xs : List V} (ha : Ev ta σ H (.ref p)) (hb : Ev tb σ H (.ty "list")) (h : SqL K H p xs) : Ev (tCB (rIsi K) (tCons ta (tCons tb tNil))) σ H (.bl true) := ev_isi ha hb (tyX_l h) (kit_ty (by decide +kernel))
theorem ev_ist {p : Addr} {xs : List V} (ha : Ev ta σ H (.ref p)) (hb : Ev tb σ H (.ty "tuple")) (h : SqT K H p xs) : Ev (tCB (rIsi K) (tCons ta (tCons tb tNil))) σ H (.bl true) := ev_isi ha hb (tyX_t h) (kit_ty (by decide +kernel))

theorem ev_add (ha : Ev ta σ H (.int i)) (hb : Ev tb σ H (.int j)) : Ev (tOp (rI0 fun i j => .int (i + j)) ta tb) σ H (.int (i + j)) := ev_op ha hb rv_I0
theorem ev_sub (ha : Ev ta σ H (.int i)) (hb : Ev tb σ H (.int j)) : Ev (tOp (rI0 fun i j => .int (i - j)) ta tb) σ H (.int (i - j)) := ev_op ha hb rv_I0
theorem ev_mul (ha : Ev ta σ H (.int i)) (hb : Ev tb σ H (.int j)) (h : IntMulOk i j) : Ev (tOp (rI IntMulOk fun i j => .int (i * j)) ta tb) σ H (.int (i * j)) := ev_op ha hb (rv_I h)
theorem ev_fdiv (ha : Ev ta σ H (.int i)) (hb : Ev tb σ H (.int j)) (h : 0 < j ∧ j < 1073741824) : Ev (tOp (rI CDiv fun i j => .int (i / j)) ta tb) σ H (.int (i / j)) := ev_op ha hb (rv_I h)
theorem ev_mod (ha : Ev ta σ H (.int i)) (hb : Ev tb σ H (.int j)) (h : 0 < j) : Ev (tOp (rI (fun _ j => 0 < j) fun i j => .int (i % j)) ta tb) σ H (.int (i % j)) := ev_op ha hb (rv_I h)
theorem ev_shr (ha : Ev ta σ H (.int i)) (hb : Ev tb σ H (.int j)) (h : 0 ≤ j) : Ev (tOp (rI (fun _ j => 0 ≤ j) fun i j => .int (i / 2 ^ j.toNat)) ta tb) σ H (.int (i / 2 ^ j.toNat)) := ev_op ha hb (rv_I h)
theorem ev_pow (ha : Ev ta σ H (.int i)) (hb : Ev tb σ H (.int j)) (h : CPow i j) : Ev (tOp (rI CPow fun i j => .int (i ^ j.toNat)) ta tb) σ H (.int (i ^ j.toNat)) := ev_op ha hb (rv_I h)
theorem ev_lt (ha : Ev ta σ H (.int i)) (hb : Ev tb σ H (.int j)) : Ev (tOp (rI0 fun i j => .bl (decide (i < j))) ta tb) σ H (.bl (decide (i < j))) := ev_op ha hb rv_I0
theorem ev_le (ha : Ev ta σ H (.int i)) (hb : Ev tb σ H (.int j)) : Ev (tOp (rI0 fun i j => .bl (decide (i ≤ j))) ta tb) σ H (.bl (decide (i ≤ j))) := ev_op ha hb rv_I0
theorem ev_gt (ha : Ev ta σ H (.int i)) (hb : Ev tb σ H (.int j)) : Ev (tOp (rI0 fun i j => .bl (decide (j < i))) ta tb) σ H (.bl (decide (j < i))) := ev_op ha hb rv_I0
theorem ev_ge (ha : Ev ta σ H (.int i)) (hb : Ev tb σ H (.int j)) : Ev (tOp (rI0 fun i j => .bl (decide (j ≤ i))) ta tb) σ H (.bl (decide (j ≤ i))) := ev_op ha hb rv_I0
theorem ev_eqI (ha : Ev ta σ H (.int i)) (hb : Ev tb σ H (.int j)) : Ev (tOp rEq ta tb) σ H (.bl (decide (i = j))) := by
  have h := ev_op (r := rEq) ha hb (rv_eq rfl)
  rw [show decide (V.int i = V.int j) = decide (i = j) from decide_eq_decide.mpr ⟨fun e => V.int.inj e, fun e => by rw [e]⟩] at h
  exact h
theorem ev_neI (ha : Ev ta σ H (.int i)) (hb : Ev tb σ H (.int j)) : Ev (tOp rNe ta tb) σ H (.bl (!decide (i = j))) := by
  have h := ev_op (r := rNe) ha hb (rv_ne rfl)
  rw [show decide (V.int i = V.int j) = decide (i = j) from decide_eq_decide.mpr ⟨fun e => V.int.inj e, fun e => by rw [e]⟩] at h
  exact h
theorem ev_eqB {b c : Bool} (ha : Ev ta σ H (.bl b)) (hb : Ev tb σ H (.bl c)) : Ev (tOp rEq ta tb) σ H (.bl (b == c)) := by
  have h := ev_op (r := rEq) ha hb (rv_eq rfl)
  rw [dec_bl] at h
  exact h
theorem ev_ixL {p : Addr} {xs : List V} (ha : Ev ta σ H (.ref p)) (hb : Ev tb σ H (.int i)) (h : SqL K H p xs) (hv : atI xs i = some v) : Ev (tOp (rIxL K) ta tb) σ H v := ev_op ha hb (rv_ixL h hv)
theorem ev_ixT {p : Addr} {xs : List V} (ha : Ev ta σ H (.ref p)) (hb : Ev tb σ H (.int i)) (h : SqT K H p xs) (hv : atI xs i = some v) : Ev (tOp (rIxT K) ta tb) σ H v := ev_op ha hb (rv_ixT h hv)
theorem ev_lenL {p : Addr} {xs : List V} (ha : Ev ta σ H (.ref p)) (h : SqL K H p xs) : Ev (tCB (fun xs H Q => ∃ p ys, xs = [.ref p] ∧ (SqL K H p ys ∨ SqT K H p ys) ∧ Q (.int ys.length) H) (tCons ta tNil)) σ H (.int (xs.length : Int)) := ev_len ha h
theorem ev_lenT {p : Addr} {xs : List V} (ha : Ev ta σ H (.ref p)) (h : SqT K H p xs) : Ev (tCB (fun xs H Q => ∃ p ys, xs = [.ref p] ∧ (SqL K H p ys ∨ SqT K H p ys) ∧ Q (.int ys.length) H) (tCons ta tNil)) σ H (.int (xs.length : Int)) := fun H1 e Q q =>
  ha H1 e _ fun H2 e2 => ⟨p, xs, rfl, Or.inr (ex_t (e.trans e2) h), q H2 e2⟩
theorem ev_chain {r r' : R2} {b c : Bool} (ha : Ev ta σ H x) (hb : Ev tb σ H y) (hc : Ev tc σ H z) (h1 : RV r x y H (.bl b)) (h2 : b = true → RV r' y z H (.bl c)) : Ev (tChain r r' ta tb tc) σ H (.bl (b && c)) := fun H1 e Q q =>
  ha H1 e _ fun H2 e2 => hb H2 (e.trans e2) _ fun H3 e3 => h1 H3 ((e.trans e2).trans e3) _ fun H4 e4 => ⟨b, rfl, by
    cases b with
    | true =>
      show tc σ H4 _
      exact hc H4 (((e.trans e2).trans e3).trans e4) _ fun H5 e5 => h2 rfl H5 ((((e.trans e2).trans e3).trans e4).trans e5) _ fun H6 e6 => q H6 ((((e2.trans e3).trans e4).trans e5).trans e6)
    | false =>
      show Q (.bl false) H4
      exact q H4 ((e2.trans e3).trans e4)⟩
theorem ev_chain3 {r r' r'' : R2} {b c d : Bool} {z' : V} (ha : Ev ta σ H x) (hb : Ev tb σ H y) (hc : Ev tc σ H z) (hd : Ev td σ H z') (h1 : RV r x y H (.bl b)) (h2 : RV r' y z H (.bl c)) (h3 : RV r'' z z' H (.bl d)) : Ev (tChain3 r r' r'' ta tb tc td) σ H (.bl (b && (c && d))) := fun H1 e Q q =>
  ha H1 e _ fun H2 e2 => hb H2 (e.trans e2) _ fun H3 e3 => h1 H3 ((e.trans e2).trans e3) _ fun H4 e4 => ⟨b, rfl, by
    cases b with
    | true =>
      show tc σ H4 _
      refine hc H4 (((e.trans e2).trans e3).trans e4) _ fun H5 e5 => h2 H5 ((((e.trans e2).trans e3).trans e4).trans e5) _ fun H6 e6 => ⟨c, rfl, ?_⟩
      cases c with
      | true =>
        show td σ H6 _
        exact hd H6 (((((e.trans e2).trans e3).trans e4).trans e5).trans e6) _ fun H7 e7 => h3 H7 ((((((e.trans e2).trans e3).trans e4).trans e5).trans e6).trans e7) _ fun H8 e8 => q H8 ((((((e2.trans e3).trans e4).trans e5).trans e6).trans e7).trans e8)
      | false =>
        show Q (.bl false) H6
        exact q H6 ((((e2.trans e3).trans e4).trans e5).trans e6)
    | false =>
      show Q (.bl false) H4
      exact q H4 ((e2.trans e3).trans e4)⟩
theorem ev_call1 {sp : Sp} {E : XK} {vs : List V} {t : TA} (h : EvA t σ H vs) (hs : SpV sp vs H z) : Ev (tCall sp [] E t) σ H z := ev_call h (by rw [List.append_nil]; exact hs)

/-! ### what makes a new object, told by R of its address -/
def TrN (te : TE) (σ : L2.St) (H : Hp) (R : Addr → Hp → Prop) : Prop := ∀ H1, Ex H H1 → ∀ Q : VK, (∀ p H2, H1 p = none → Ex H1 H2 → R p H2 → Q (.ref p) H2) → te σ H1 Q
def SpN (sp : Sp) (vs : List V) (H : Hp) (R : Addr → Hp → Prop) : Prop := ∀ H1, Ex H H1 → ∀ Q : VK, (∀ p H2, H1 p = none → Ex H1 H2 → R p H2 → Q (.ref p) H2) → ∀ E : XK, sp vs H1 Q E
/-- some value that R tells -/
def TrV (te : TE) (σ : L2.St) (H : Hp) (R : V → Prop) : Prop := ∀ H1, Ex H H1 → ∀ Q : VK, (∀ v H2, Ex H1 H2 → R v → Q v H2) → te σ H1 Q
theorem tn_call {sp : Sp} {E : XK} {vs : List V} {t : TA} {R : Addr → Hp → Prop} (h : EvA t σ H vs) (hs : SpN sp vs H R) : TrN (tCall sp [] E t) σ H R := fun H1 e Q q =>
  h H1 e _ fun H2 e2 => by
    show sp (vs ++ []) H2 Q E
    rw [List.append_nil]
    exact hs H2 (e.trans e2) Q (fun p H3 hp e3 h3 => q p H3 (fresh_back e2 hp) (e2.trans e3) h3) E
theorem TrN.imp {R R' : Addr → Hp → Prop} (h : TrN te σ H R) (k : ∀ p H', R p H' → R' p H') : TrN te σ H R' := fun H1 e Q q => h H1 e Q fun p H2 hp e2 r => q p H2 hp e2 (k p H2 r)
theorem TrN.mono {R : Addr → Hp → Prop} (e : Ex H H') (h : TrN te σ H R) : TrN te σ H' R := fun H1 a Q q => h H1 (e.trans a) Q q
def IsL (K : PySem.W.Frag) (ds : List PyData) (p : Addr) (H : Hp) : Prop := ∃ rs, H p = some (.lst rs) ∧ DpAll K H rs ds
variable {D : Ends} {tz tu : TS} {R : Addr → Hp → Prop}
theorem s_asgN {i : Nat} (h : TrN te σ H R) (k : ∀ p H1, H p = none → Ex H H1 → R p H1 → D.nx (σ.set i (some (.ref p))) H1) : tAsg te (gName i) D σ H := h H (Ex.refl H) _ fun p H1 hp e r => k p H1 hp e r
theorem q_asgN {i : Nat} (h : TrN te σ H R) (k : ∀ p H1, H p = none → Ex H H1 → R p H1 → tz D (σ.set i (some (.ref p))) H1) : tSeq (tAsg te (gName i)) tz D σ H := s_asgN (D := { D with nx := tz D }) h k
theorem s_retN {R : Addr → Hp → Prop} (h : TrN te σ H R) (k : ∀ p H1, H p = none → Ex H H1 → R p H1 → D.rt (.ref p) H1) : tRet te D σ H := h H (Ex.refl H) _ k
theorem q_asgV {i : Nat} {R : V → Prop} (h : TrV te σ H R) (k : ∀ v H1, Ex H H1 → R v → tz D (σ.set i (some v)) H1) : tSeq (tAsg te (gName i)) tz D σ H := h H (Ex.refl H) _ fun v H1 e r => k v H1 e r
/-- an item of a tuple that is made on the way -/
theorem ev_ixU {xs : List V} (ha : EvU ta σ H xs) (hb : ∀ H1, Ex H H1 → Ev tb σ H1 (.int i)) (hv : atI xs i = some v) : Ev (tOp (rIxT K) ta tb) σ H v := fun H1 e Q q =>
  ha H1 e _ fun p H2 _ e2 hp => hb H2 (e.trans e2) H2 (Ex.refl H2) _ fun H3 e3 => ⟨p, xs, i, v, rfl, rfl, SqT.of (e3 p _ hp), hv, q H3 (e2.trans e3)⟩
theorem q_par {i j : Nat} {ta : TA} {v w : V} {D : Ends} {tz : TS} (h : EvA ta σ H [v, w]) (k : ∀ H1, Ex H H1 → tz D ((σ.set i (some v)).set j (some w)) H1) : tSeq (tPar i j ta) tz D σ H :=
  h H (Ex.refl H) _ fun H1 e => ⟨v, w, rfl, k H1 e⟩
theorem ev_min2 {i j : Int} (ha : Ev ta σ H (.int i)) (hb : Ev tb σ H (.int j)) : Ev (tCB (fun xs H Q => ∃ i j, xs = [.int i, .int j] ∧ Q (.int (if j < i then j else i)) H) (tCons ta (tCons tb tNil))) σ H (.int (if j < i then j else i)) := fun H1 e Q q =>
  ha H1 e _ fun H2 e2 => hb H2 (e.trans e2) _ fun H3 e3 => ⟨i, j, rfl, q H3 (e2.trans e3)⟩
theorem q_unpack2 {i j : Nat} {p : Addr} {v w : V} {D : Ends} {tz : TS} (h : Ev te σ H (.ref p)) (ht : SqT K H p [v, w]) (k : ∀ H1, Ex H H1 → tz D ((σ.set i (some v)).set j (some w)) H1) : tSeq (tAsg te (gTup K 2 (gCons (gName i) (gCons (gName j) gNil)))) tz D σ H :=
  h H (Ex.refl H) _ fun H1 e => ⟨p, [v, w], rfl, ex_t e ht, rfl, v, [w], rfl, w, [], rfl, rfl, k H1 e⟩
theorem ev_all {bs : List Bool} (h : EvL te σ H (bs.map V.bl)) : Ev (tCB (rAll K) (tCons te tNil)) σ H (.bl (bs.all id)) := fun H1 e Q q =>
  h H1 e _ fun p H2 _ e2 h2 => ⟨p, bs, rfl, SqL.of h2, q H2 e2⟩
theorem et_yes : EvT tYes σ H true := fun H1 _ _ q => q H1 (Ex.refl H1)
/-- any walk over a range, by a word of the turn -/
theorem walk_rng {lo : Int} {n : Nat} {H0 : Hp} {Qd : Hp → Prop} {BODY : V → Hp → (Hp → Prop) → Prop} (Pv : Nat → Hp → Prop) (h0 : Pv 0 H0) (hs : ∀ i H, i < n → Pv i H → BODY (.int (lo + i)) H (Pv (i + 1))) (hd : ∀ H, Pv n H → Qd H) :
    ∃ W : Nat → Nat → Hp → Prop, (∃ m, W 0 m H0) ∧ ∀ i m H, W i m H →
      ((Itr lo n).stop i H ∧ Qd H) ∨ ((Itr lo n).go i H ∧ ∃ Nx : Hp → Prop, (∀ H', Nx H' → ∃ m', m' < m ∧ W (i + 1) m' H') ∧ ∀ x H', (Itr lo n).yld i H x H' → BODY x H' Nx) := by
  refine ⟨fun i m H => m = n - i ∧ i ≤ n ∧ Pv i H, ⟨n, by simp, Nat.zero_le _, h0⟩, ?_⟩
  rintro i m H ⟨rfl, hi, p⟩
  by_cases hlt : i < n
  · refine .inr ⟨hlt, Pv (i + 1), fun H' p' => ⟨n - (i + 1), by omega, rfl, hlt, p'⟩, fun x H' y => ?_⟩
    obtain ⟨e, y⟩ := y
    subst e y
    exact hs i _ hlt p
  · have e : i = n := by omega
    subst e
    exact .inl ⟨Nat.le_refl _, hd H p⟩
theorem given_all (n : Nat) (b : Bool) : given n (fun _ => true) (fun _ => V.bl b) = (List.replicate n b).map V.bl := by
  unfold given
  rw [List.filter_eq_self.mpr (fun _ _ => rfl), List.map_replicate]
  have : ∀ (l : List Nat), l.map (fun _ => V.bl b) = List.replicate l.length (V.bl b) := fun l => by
    rw [List.map_const']
  rw [this, List.length_range]
end
/-! ### rules whose reading names the written part by itself (within comprehensions) -/
section
variable {X : Cx} {K : PySem.W.Frag}
theorem ix_list_K (h : X.K = K := by rfl) : IxR X (rIxL K) := by subst h; exact ix_list
theorem ix_tup_K (h : X.K = K := by rfl) : IxR X (rIxT K) := by subst h; exact ix_tup
theorem pi_list_K {tg l : Expr} {tl : TE} (hl : PE X l tl) (h : X.K = K := by rfl) : PI X tg l (iList K tl) := by subst h; exact pi_list hl
theorem pi_tup_K {tg l : Expr} {tl : TE} (hl : PE X l tl) (h : X.K = K := by rfl) : PI X tg l (iTup K tl) := by subst h; exact pi_tup hl
theorem call_isi_K (h : X.K = K := by rfl) : CallR X (.builtin "isinstance") (rIsi K) := by subst h; exact call_isi
theorem call_len_seq_K (h : X.K = K := by rfl) : CallR X (.builtin "len") (fun xs H Q => ∃ p ys, xs = [.ref p] ∧ (SqL K H p ys ∨ SqT K H p ys) ∧ Q (.int ys.length) H) := by subst h; exact call_len_seq
theorem cr_sum_K (hc : X.calm = true) (h : X.K = K := by rfl) : CallR X (.builtin "sum") (rSum K) := by subst h; exact cr_sum hc
theorem cr_all_K (hc : X.calm = true) (h : X.K = K := by rfl) : CallR X (.builtin "all") (rAll K) := by subst h; exact cr_all hc
theorem cr_any_K (hc : X.calm = true) (h : X.K = K := by rfl) : CallR X (.builtin "any") (rAny K) := by subst h; exact cr_any hc
theorem op_eqD_K (hu : X.A.units + 64 < cLine) (h : X.K = K := by rfl) : OpR X (compareOp .Eq) (rEqD K) := by subst h; exact op_eqD hu
theorem call_list_of_K (h : X.K = K := by rfl) : CallR X (.type "list") (fun xs H Q => ∃ p ys, xs = [.ref p] ∧ (SqL K H p ys ∨ SqT K H p ys) ∧ ∀ l, H l = none → Q (.ref l) (upd H l (.lst ys))) := by subst h; exact call_list_of
theorem call_tuple_of_K (h : X.K = K := by rfl) : CallR X (.type "tuple") (fun xs H Q => ∃ p ys, xs = [.ref p] ∧ ((SqL K H p ys ∧ ∀ l, H l = none → Q (.ref l) (upd H l (.tup ys))) ∨ (SqT K H p ys ∧ Q (.ref p) H))) := by subst h; exact call_tuple_of
theorem op_neD_K (hu : X.A.units + 64 < cLine) (h : X.K = K := by rfl) : OpR X (compareOp .NotEq) (rNeD K) := by subst h; exact op_neD hu
end
end Eg

set_option Elab.async false
set_option linter.all false
set_option maxRecDepth 100000
set_option maxHeartbeats 2000000
namespace Eg
open PySem PySem.Spec PyProof.Rows L2 Evl
/-! # the mathematics of rows: which pairs can be evened, in order; the row behind; what falls -/
def okP (ns : List Int) (i j : Nat) : Bool := !decide (ns.getD i 0 = ns.getD j 0) && decide ((ns.getD i 0 + ns.getD j 0) % 2 = 0)
def rowC (ns : List Int) (i m : Nat) : List (Nat × Nat) := (((List.range m).map (· + (i + 1))).filter (okP ns i)).map fun j => (i, j)
def canUp (ns : List Int) (i : Nat) : List (Nat × Nat) := (List.range i).flatMap fun i => rowC ns i (ns.length - (i + 1))
def canL (ns : List Int) : List (Nat × Nat) := canUp ns ns.length
def lawRow (ns : List Int) (j m : Nat) : List (Nat × Nat) := ((List.range m).filter fun i => okP ns i j).map fun i => (i, j)
def lawUp (ns : List Int) (j : Nat) : List (Nat × Nat) := (List.range j).flatMap fun j => lawRow ns j j
theorem rowC_yes {ns : List Int} {i m : Nat} (h : okP ns i (m + (i + 1)) = true) : rowC ns i (m + 1) = rowC ns i m ++ [(i, m + (i + 1))] := by
  unfold rowC
  rw [List.range_succ, List.map_append, List.filter_append, List.map_append]
  simp [h]
theorem rowC_no {ns : List Int} {i m : Nat} (h : okP ns i (m + (i + 1)) = false) : rowC ns i (m + 1) = rowC ns i m := by
  unfold rowC
  rw [List.range_succ, List.map_append, List.filter_append, List.map_append]
  simp [h]
theorem canUp_succ (ns : List Int) (i : Nat) : canUp ns (i + 1) = canUp ns i ++ rowC ns i (ns.length - (i + 1)) := by
  unfold canUp
  rw [List.range_succ, List.flatMap_append]
  simp
theorem lawRow_yes {ns : List Int} {j m : Nat} (h : okP ns m j = true) : lawRow ns j (m + 1) = lawRow ns j m ++ [(m, j)] := by
  unfold lawRow
  rw [List.range_succ, List.filter_append, List.map_append]
  simp [h]
theorem lawRow_no {ns : List Int} {j m : Nat} (h : okP ns m j = false) : lawRow ns j (m + 1) = lawRow ns j m := by
  unfold lawRow
  rw [List.range_succ, List.filter_append, List.map_append]
  simp [h]
theorem lawUp_succ (ns : List Int) (j : Nat) : lawUp ns (j + 1) = lawUp ns j ++ lawRow ns j j := by
  unfold lawUp
  rw [List.range_succ, List.flatMap_append]
  simp
theorem mem_rowC {ns : List Int} {i m : Nat} {p : Nat × Nat} : p ∈ rowC ns i m ↔ p.1 = i ∧ i < p.2 ∧ p.2 < m + (i + 1) ∧ okP ns i p.2 = true := by
  unfold rowC
  simp only [List.mem_map, List.mem_filter, List.mem_range]
  constructor
  · rintro ⟨j, ⟨⟨t, ht, rfl⟩, hj⟩, rfl⟩
    exact ⟨rfl, by show i < t + (i + 1); omega, by show t + (i + 1) < m + (i + 1); omega, hj⟩
  · rintro ⟨h1, h2, h3, h4⟩
    exact ⟨p.2, ⟨⟨p.2 - (i + 1), by omega, by omega⟩, h4⟩, by rw [← h1]⟩
theorem mem_canL {ns : List Int} {p : Nat × Nat} : p ∈ canL ns ↔ p.1 < p.2 ∧ p.2 < ns.length ∧ okP ns p.1 p.2 = true := by
  unfold canL canUp
  simp only [List.mem_flatMap, List.mem_range]
  constructor
  · rintro ⟨i, hi, h⟩
    obtain ⟨h1, h2, h3, h4⟩ := mem_rowC.mp h
    subst h1
    exact ⟨h2, by omega, h4⟩
  · rintro ⟨h1, h2, h3⟩
    exact ⟨p.1, by omega, mem_rowC.mpr ⟨rfl, h1, by omega, h3⟩⟩
theorem mem_lawUp {ns : List Int} {n : Nat} {p : Nat × Nat} : p ∈ lawUp ns n ↔ p.1 < p.2 ∧ p.2 < n ∧ okP ns p.1 p.2 = true := by
  unfold lawUp lawRow
  simp only [List.mem_flatMap, List.mem_range, List.mem_map, List.mem_filter]
  constructor
  · rintro ⟨j, hj, i, ⟨hi, ho⟩, rfl⟩
    exact ⟨hi, hj, ho⟩
  · rintro ⟨h1, h2, h3⟩
    exact ⟨p.2, h2, p.1, ⟨h1, h3⟩, rfl⟩
def PL (p q : Nat × Nat) : Prop := p.1 < q.1 ∨ (p.1 = q.1 ∧ p.2 < q.2)
theorem range_lt (n : Nat) : (List.range n).Pairwise (· < ·) := List.pairwise_lt_range
theorem canL_sorted (ns : List Int) : (canL ns).Pairwise PL := by
  unfold canL canUp
  refine List.pairwise_flatMap.mpr ⟨fun i _ => ?_, ?_⟩
  · unfold rowC
    refine List.pairwise_map.mpr ?_
    refine List.Pairwise.filter _ ?_
    refine List.pairwise_map.mpr ?_
    exact (range_lt _).imp fun h => .inr ⟨rfl, by omega⟩
  · refine (range_lt _).imp fun {a b} h x hx y hy => ?_
    obtain ⟨h1, _⟩ := mem_rowC.mp hx
    obtain ⟨h2, _⟩ := mem_rowC.mp hy
    exact .inl (by omega)
theorem lawUp_nodup (ns : List Int) (n : Nat) : (lawUp ns n).Nodup := by
  unfold lawUp
  refine List.pairwise_flatMap.mpr ⟨fun j _ => ?_, ?_⟩
  · unfold lawRow
    refine List.pairwise_map.mpr ?_
    refine List.Pairwise.filter _ ?_
    exact (range_lt _).imp fun {a b} h e => by
      have := congrArg Prod.fst e
      simp at this
      omega
  · refine (range_lt _).imp fun {a b} h x hx y hy e => ?_
    subst e
    unfold lawRow at hx hy
    obtain ⟨_, _, rfl⟩ := List.mem_map.mp hx
    obtain ⟨_, _, e⟩ := List.mem_map.mp hy
    have := congrArg Prod.snd e
    simp at this
    omega
theorem sorted_ext : ∀ {l m : List (Nat × Nat)}, l.Pairwise PL → m.Pairwise PL → (∀ p, p ∈ l ↔ p ∈ m) → l = m
  | [], [], _, _, _ => rfl
  | [], b :: m, _, _, h => by have := (h b).mpr List.mem_cons_self; simp at this
  | a :: l, [], _, _, h => by have := (h a).mp List.mem_cons_self; simp at this
  | a :: l, b :: m, hl, hm, h => by
    have h1 := List.pairwise_cons.mp hl
    have h2 := List.pairwise_cons.mp hm
    have irr : ∀ p, ¬ PL p p := fun p z => by rcases z with z | ⟨_, z⟩ <;> omega
    have asy : ∀ p q, PL p q → ¬ PL q p := fun p q z w => by rcases z with z | ⟨z1, z⟩ <;> rcases w with w | ⟨w1, w⟩ <;> omega
    have e : a = b := by
      rcases List.mem_cons.mp ((h a).mp List.mem_cons_self) with e | e
      · exact e
      · rcases List.mem_cons.mp ((h b).mpr List.mem_cons_self) with f | f
        · exact f.symm
        · exact absurd (h1.1 b f) (asy _ _ (h2.1 a e))
    subst e
    have : l = m := sorted_ext h1.2 h2.2 fun p => by
      constructor
      · intro hp
        rcases List.mem_cons.mp ((h p).mp (List.mem_cons_of_mem _ hp)) with e | e
        · rw [e] at hp
          exact absurd (h1.1 a hp) (irr a)
        · exact e
      · intro hp
        rcases List.mem_cons.mp ((h p).mpr (List.mem_cons_of_mem _ hp)) with e | e
        · rw [e] at hp
          exact absurd (h2.1 a hp) (irr a)
        · exact e
    rw [this]
/-- what the law's own sorted list is -/
theorem law_sorted {ns : List Int} {ps : List (Nat × Nat)} (h : ps.Perm (lawUp ns ns.length)) (hs : ps.Pairwise fun x y => ¬ PL y x) : ps = canL ns := by
  have nd : ps.Nodup := h.nodup_iff.mpr (lawUp_nodup ns ns.length)
  refine sorted_ext ?_ (canL_sorted ns) fun p => ?_
  · refine List.Pairwise.imp₂ (R := fun x y => ¬ PL y x) (S := fun x y => x ≠ y) (fun a b h1 h2 => ?_) hs nd
    by_cases e1 : a.1 < b.1
    · exact .inl e1
    · by_cases e2 : a.1 = b.1 ∧ a.2 < b.2
      · exact .inr e2
      · exfalso
        by_cases e3 : a.1 = b.1
        · by_cases e4 : a.2 = b.2
          · exact h2 (Prod.ext e3 e4)
          · exact h1 (.inr ⟨e3.symm, by omega⟩)
        · exact h1 (.inl (by omega))
  · rw [h.mem_iff, mem_lawUp, mem_canL]

/-! ### the row behind an evening -/
def halfL (ns : List Int) (i j : Nat) : Int := (ns.getD i 0 + ns.getD j 0) / 2
def evL (ns : List Int) (i j : Nat) : List Int := (ns.set i (halfL ns i j)).set j (halfL ns i j)
theorem gD_at {ns : List Int} {i : Nat} (h : i < ns.length) : ns[i]? = some (ns.getD i 0) := by
  rw [List.getD_eq_getElem?_getD, List.getElem?_eq_getElem h]
  rfl
theorem okP_iff {ns : List Int} {i j : Nat} : okP ns i j = true ↔ ns.getD i 0 ≠ ns.getD j 0 ∧ (ns.getD i 0 + ns.getD j 0) % 2 = 0 := by
  unfold okP
  rw [Bool.and_eq_true, Bool.not_eq_true', decide_eq_false_iff_not, decide_eq_true_iff]
def sqs (ns : List Int) : Int := (ns.map fun x => x * x).sum
theorem sqs_set {ns : List Int} {i : Nat} {y : Int} (h : i < ns.length) : sqs (ns.set i y) = sqs ns - ns.getD i 0 * ns.getD i 0 + y * y := by
  unfold sqs
  rw [List.map_set]
  refine sum_set (z := ns.getD i 0 * ns.getD i 0) ?_
  rw [List.getElem?_map, gD_at h]
  rfl
theorem fall_is {ns : List Int} {i j : Nat} (hij : i < j) (hj : j < ns.length) (ok : okP ns i j = true) :
    sqs ns - sqs (evL ns i j) = (ns.getD j 0 - ns.getD i 0) * (ns.getD j 0 - ns.getD i 0) / 2 ∧ 1 ≤ (ns.getD j 0 - ns.getD i 0) * (ns.getD j 0 - ns.getD i 0) / 2 := by
  obtain ⟨hne, he⟩ := okP_iff.mp ok
  unfold evL
  rw [sqs_set (by rw [List.length_set]; exact hj), sqs_set (by omega)]
  have e1 : (ns.set i (halfL ns i j)).getD j 0 = ns.getD j 0 := by
    rw [List.getD_eq_getElem?_getD, List.getElem?_set_ne (by omega), ← List.getD_eq_getElem?_getD]
  rw [e1]
  unfold halfL
  generalize ns.getD i 0 = a at *
  generalize ns.getD j 0 = b at *
  obtain ⟨d, hd⟩ : ∃ d, b - a = 2 * d := ⟨(b - a) / 2, by omega⟩
  have hb : b = a + 2 * d := by omega
  have hh : (a + b) / 2 = a + d := by omega
  rw [hh, hd, hb]
  have hd0 : d ≠ 0 := by omega
  have e2 : 2 * d * (2 * d) = 2 * (2 * (d * d)) := by grind
  rw [e2, Int.mul_ediv_cancel_left _ (by decide)]
  have pos : 1 ≤ d * d := by
    rcases Int.lt_or_gt_of_ne hd0 with h | h
    · have := Int.mul_pos_of_neg_of_neg h h
      omega
    · have := Int.mul_pos h h
      omega
  exact ⟨by grind, by omega⟩

/-! ### the number of unlike ones -/
theorem dedup_map {f : Int → Int} {σ : List Int} {v : Int} (inj : ∀ x ∈ σ, f x = f v → x = v) : step_dedup (σ.map f) (f v) = (step_dedup σ v).map f := by
  unfold step_dedup
  have e : (σ.map f).any (· == f v) = σ.any (· == v) := by
    rw [List.any_map, Bool.eq_iff_iff, List.any_eq_true, List.any_eq_true]
    constructor
    · rintro ⟨x, hx, h⟩
      exact ⟨x, hx, beq_iff_eq.mpr (inj x hx (beq_iff_eq.mp h))⟩
    · rintro ⟨x, hx, h⟩
      exact ⟨x, hx, beq_iff_eq.mpr (congrArg f (beq_iff_eq.mp h))⟩
  rw [e]
  split
  · rfl
  · rw [List.map_append]
    rfl
theorem firstMet_mem {val : Nat → Int} : ∀ {i : Nat} {x : Int}, x ∈ firstMet val i → ∃ j, j < i ∧ x = val j
  | 0, x, h => by simp [firstMet_zero] at h
  | i + 1, x, h => by
    rw [firstMet_succ] at h
    unfold step_dedup at h
    split at h
    · obtain ⟨j, hj, e⟩ := firstMet_mem h
      exact ⟨j, by omega, e⟩
    · rcases List.mem_append.mp h with h | h
      · obtain ⟨j, hj, e⟩ := firstMet_mem h
        exact ⟨j, by omega, e⟩
      · exact ⟨i, by omega, List.mem_singleton.mp h⟩
theorem firstMet_map {f : Int → Int} {val : Nat → Int} : ∀ {i : Nat}, (∀ a b, a < i → b < i → f (val a) = f (val b) → val a = val b) → firstMet (fun k => f (val k)) i = (firstMet val i).map f
  | 0, _ => rfl
  | i + 1, h => by
    rw [firstMet_succ, firstMet_succ, firstMet_map fun a b ha hb => h a b (by omega) (by omega)]
    refine dedup_map fun x hx e => ?_
    obtain ⟨j, hj, rfl⟩ := firstMet_mem hx
    exact h j i (by omega) (by omega) e
theorem firstMet_congr {val val' : Nat → Int} : ∀ {i : Nat}, (∀ a, a < i → val a = val' a) → firstMet val i = firstMet val' i
  | 0, _ => rfl
  | i + 1, h => by rw [firstMet_succ, firstMet_succ, firstMet_congr fun a ha => h a (by omega), h i (by omega)]
theorem dlen_settled {ns : List Int} (h : canL ns = []) : dlen (ns.map (· % 2)) = dlen ns := by
  unfold dlen
  have hc : ∀ a, a < ns.length → (ns.map (· % 2)).getD a 0 = (ns.getD a 0) % 2 := fun a ha => by
    rw [List.getD_eq_getElem?_getD, List.getElem?_map, gD_at ha]
    rfl
  rw [List.length_map, firstMet_congr (val' := fun k => (ns.getD k 0) % 2) hc, firstMet_map (f := (· % 2)), List.length_map]
  have key : ∀ a b, a < b → b < ns.length → (ns.getD a 0) % 2 = (ns.getD b 0) % 2 → ns.getD a 0 = ns.getD b 0 := fun a b hab hb e => by
    by_cases z : ns.getD a 0 = ns.getD b 0
    · exact z
    · exfalso
      have : (a, b) ∈ canL ns := mem_canL.mpr ⟨hab, hb, okP_iff.mpr ⟨z, by show (ns.getD a 0 + ns.getD b 0) % 2 = 0; omega⟩⟩
      rw [h] at this
      cases this
  intro a b ha hb e
  rcases Nat.lt_trichotomy a b with l | l | l
  · exact key a b l hb e
  · rw [l]
  · exact (key b a l ha e.symm).symm

/-! ### pairs as data -/
def prD (p : Nat × Nat) : PyData := .tuple [.int p.1, .int p.2]
def prsD (ps : List (Nat × Nat)) : List PyData := ps.map prD
theorem lay_prs (ps : List (Nat × Nat)) : Lay 2 (.list (prsD ps)) := lay_list fun d hd => by
  obtain ⟨p, _, rfl⟩ := List.mem_map.mp hd
  refine lay_tup fun d hd => ?_
  rcases List.mem_cons.mp hd with e | e
  · rw [e]
    exact lay_int _
  · rcases List.mem_cons.mp e with e | e
    · rw [e]
      exact lay_int _
    · cases e
def Prs (H : Hp) : List V → List (Nat × Nat) → Prop := Paired fun x p => ∃ t, x = .ref t ∧ H t = some (.tup [.int (p.1 : Nat), .int (p.2 : Nat)])
theorem Prs.mono {H H' : Hp} (e : Ex H H') : ∀ {rs : List V} {ps : List (Nat × Nat)}, Prs H rs ps → Prs H' rs ps
  | _, _, .nil => .nil
  | _, _, .cons ⟨t, h1, h2⟩ r => .cons ⟨t, h1, e _ _ h2⟩ (Prs.mono e r)
theorem Prs.app {H : Hp} : ∀ {rs rs' : List V} {ps ps' : List (Nat × Nat)}, Prs H rs ps → Prs H rs' ps' → Prs H (rs ++ rs') (ps ++ ps')
  | _, _, _, _, .nil, h => h
  | _, _, _, _, .cons a b, h => .cons a (Prs.app b h)
theorem Prs.dp {K : PySem.W.Frag} {H : Hp} : ∀ {rs : List V} {ps : List (Nat × Nat)}, Prs H rs ps → DpAll K H rs (prsD ps)
  | _, _, .nil => .nil
  | _, _, .cons ⟨t, h1, h2⟩ r => .cons (by rw [h1]; exact .tup (SqT.of h2) (.cons (.int _) (.cons (.int _) .nil))) (Prs.dp r)
theorem Prs.mem {H : Hp} : ∀ {rs : List V} {ps : List (Nat × Nat)}, Prs H rs ps → ∀ x ∈ rs, ∃ p ∈ ps, ∃ t, x = .ref t ∧ H t = some (.tup [.int (p.1 : Nat), .int (p.2 : Nat)])
  | _, _, .nil, x, h => nomatch h
  | _, _, .cons a b, x, h => by
    rcases List.mem_cons.mp h with e | e
    · rw [e]
      exact ⟨_, List.mem_cons_self, a⟩
    · obtain ⟨p, hp, q⟩ := Prs.mem b x e
      exact ⟨p, List.mem_cons_of_mem _ hp, q⟩
/-- the pair that stands at a value -/
def keyV (H : Hp) (x : V) : Int × Int := match x with
  | .ref t => match H t with
    | some (.tup [.int a, .int b]) => (a, b)
    | _ => (0, 0)
  | _ => (0, 0)
theorem keyV_at {H : Hp} {t : Addr} {a b : Int} (h : H t = some (.tup [.int a, .int b])) : keyV H (.ref t) = (a, b) := by
  unfold keyV
  dsimp only
  rw [h]
def natK (H : Hp) (x : V) : Nat × Nat := ((keyV H x).1.toNat, (keyV H x).2.toNat)
theorem Prs.keys {H : Hp} : ∀ {rs : List V} {ps : List (Nat × Nat)}, Prs H rs ps → rs.map (natK H) = ps
  | _, _, .nil => rfl
  | _, _, .cons ⟨t, h1, h2⟩ r => by
    rw [List.map_cons, Prs.keys r, h1]
    unfold natK
    rw [keyV_at h2]
    simp
theorem Prs.of_keys {H : Hp} : ∀ {rs : List V}, (∀ x ∈ rs, ∃ p : Nat × Nat, ∃ t, x = .ref t ∧ H t = some (.tup [.int (p.1 : Nat), .int (p.2 : Nat)])) → Prs H rs (rs.map (natK H))
  | [], _ => .nil
  | x :: rs, h => by
    refine .cons ?_ (Prs.of_keys fun y hy => h y (List.mem_cons_of_mem _ hy))
    obtain ⟨p, t, e1, e2⟩ := h x List.mem_cons_self
    refine ⟨t, e1, ?_⟩
    rw [e1]
    unfold natK
    rw [keyV_at e2, e2]
    simp
theorem prs_sorted {H : Hp} {rs ys : List V} {ns : List Int} (h : Prs H rs (lawUp ns ns.length)) (hs : SrtO.Srtd (ltP (keyV H)) ys) (hp : ys.Perm rs) : Prs H ys (canL ns) := by
  have hm : ∀ x ∈ ys, ∃ p : Nat × Nat, ∃ t, x = .ref t ∧ H t = some (.tup [.int (p.1 : Nat), .int (p.2 : Nat)]) := fun x hx => by
    obtain ⟨p, _, t, e1, e2⟩ := h.mem x (hp.mem_iff.mp hx)
    exact ⟨p, t, e1, e2⟩
  have key := Prs.of_keys hm
  have e : ys.map (natK H) = canL ns := by
    refine law_sorted ?_ ?_
    · have := hp.map (natK H)
      rw [h.keys] at this
      exact this
    · refine List.pairwise_map.mpr ?_
      refine List.Pairwise.imp_of_mem (fun {a b} ha hb hl hPL => ?_) hs
      obtain ⟨p, t, e1, e2⟩ := hm a ha
      obtain ⟨q, u, f1, f2⟩ := hm b hb
      have hk := SrtO.lexB_no.mp hl
      rw [e1, f1] at hPL hk
      unfold natK at hPL
      rw [keyV_at e2, keyV_at f2] at hPL hk
      apply hk
      unfold PL at hPL
      simp at hPL ⊢
      omega
  rw [← e]
  exact key
theorem Prs.upd {H : Hp} {p : Addr} {xs : List V} {o : HO} (hp : H p = some (.lst xs)) : ∀ {rs : List V} {ps : List (Nat × Nat)}, Prs H rs ps → Prs (L2.upd H p o) rs ps
  | _, _, .nil => .nil
  | _, _, .cons ⟨t, h1, h2⟩ r => .cons ⟨t, h1, by rw [upd_ne (ne_of h2 hp (by intro z; cases z))]; exact h2⟩ (Prs.upd hp r)
theorem Prs.length {H : Hp} {rs : List V} {ps : List (Nat × Nat)} (h : Prs H rs ps) : rs.length = ps.length := Paired.length h
/-- a new list of pairs -/
def IsP (ps : List (Nat × Nat)) (p : Addr) (H : Hp) : Prop := ∃ rs, H p = some (.lst rs) ∧ Prs H rs ps
def RetP (ps : List (Nat × Nat)) (H : Hp) (Q : VK) : Prop := ∀ p H2, H p = none → Ex H H2 → IsP ps p H2 → Q (.ref p) H2
theorem lawRow_len (ns : List Int) (j m : Nat) : (lawRow ns j m).length ≤ m := by
  unfold lawRow
  rw [List.length_map]
  have h := List.length_filter_le (fun i => okP ns i j) (List.range m)
  rw [List.length_range] at h
  exact h
theorem lawUp_len (ns : List Int) : ∀ j, j ≤ 100 → (lawUp ns j).length ≤ j * 100
  | 0, _ => by simp [lawUp]
  | j + 1, h => by
    have ih := lawUp_len ns j (by omega)
    have h2 := lawRow_len ns j j
    rw [lawUp_succ, List.length_append]
    omega
theorem rowC_len (ns : List Int) (i m : Nat) : (rowC ns i m).length ≤ m := by
  unfold rowC
  rw [List.length_map]
  have h := List.length_filter_le (okP ns i) ((List.range m).map (· + (i + 1)))
  rw [List.length_map, List.length_range] at h
  exact h
theorem canUp_len (ns : List Int) (hn : ns.length ≤ 100) : ∀ i, i ≤ 100 → (canUp ns i).length ≤ i * 100
  | 0, _ => by simp [canUp]
  | i + 1, h => by
    have ih := canUp_len ns hn i (by omega)
    have h2 := rowC_len ns i (ns.length - (i + 1))
    rw [canUp_succ, List.length_append]
    omega
def RowOk (ns : List Int) : Prop := 1 ≤ ns.length ∧ ns.length ≤ 12 ∧ ∀ x ∈ ns, 0 ≤ x ∧ x ≤ 1000000
theorem RowOk.get {ns : List Int} (h : RowOk ns) {i : Nat} (hi : i < ns.length) : 0 ≤ ns.getD i 0 ∧ ns.getD i 0 ≤ 1000000 := h.2.2 _ (List.mem_of_getElem? (gD_at hi))
theorem int_at {ns : List Int} {i : Nat} (h : i < ns.length) : atI (ns.map V.int) (i : Int) = some (.int (ns.getD i 0)) := atI_nat (by rw [List.getElem?_map, gD_at h]; rfl)
end Eg

set_option Elab.async false
set_option linter.all false
set_option maxRecDepth 100000
set_option maxHeartbeats 2000000
namespace Eg
open PySem PySem.Spec PyProof.Rows L2 Evl
/-! # the law's own draws, as plain functions -/
def primesL : List Int := [1000003, 1000033, 1000037, 1000039, 1000081, 1000099, 1000117, 1000121, 1000133, 1000151, 1000159, 1000171, 1000183, 1000187, 1000193, 1000199]
def primeF (k : Int) : Int := primesL.getD k.toNat 1
def drawF (c k m : Int) : Int := (c * 48271 + k * 69621) % primeF (k % 16) % m
def valueF (c t : Int) : Int :=
  if c ≥ (10 : Int) ^ (18 : Int).toNat then (c - (10 : Int) ^ (18 : Int).toNat) / 2 ^ (3 * t).toNat
  else drawF ((c + 977 * t) * (c + 31 * t + 5)) (t % 9 + 1) 999983 * 1000003 + drawF ((c + 31 * t) * (c + 7) + 977 * t) (t % 7 + 2) 1000003
def cellF (ns : List Int) (k : Int) : Int := ns.getD k.toNat 0
theorem prime_pos {k : Int} (h : 0 ≤ k) (h2 : k < 16) : 0 < primeF k ∧ atI (primesL.map V.int) k = some (.int (primeF k)) := by
  obtain ⟨n, rfl⟩ : ∃ n : Nat, k = n := ⟨k.toNat, by omega⟩
  have hn : n < 16 := by omega
  have : ∀ n : Fin 16, 0 < primeF (n.val : Int) ∧ (primesL.map V.int)[n.val]? = some (.int (primeF (n.val : Int))) := by decide
  obtain ⟨a, b⟩ := this ⟨n, hn⟩
  exact ⟨a, atI_nat b⟩
theorem drawF_nn {c k m : Int} (hm : 0 < m) : 0 ≤ drawF c k m := Int.emod_nonneg _ (by omega)
theorem drawF_lt {c k m : Int} (hm : 0 < m) : drawF c k m < m := Int.emod_lt_of_pos _ hm
theorem valueF_nn {c t : Int} : 0 ≤ valueF c t := by
  unfold valueF
  split
  · exact Int.ediv_nonneg (by omega) (two_pow_nn _)
  · have h1 := drawF_nn (c := (c + 977 * t) * (c + 31 * t + 5)) (k := t % 9 + 1) (m := 999983) (by decide)
    have h2 := drawF_nn (c := (c + 31 * t) * (c + 7) + 977 * t) (k := t % 7 + 2) (m := 1000003) (by decide)
    omega
def wideF (c g : Int) : Int := if valueF c 1 % 4 = 0 then g else if valueF c 1 % 4 = 1 then 3 else if valueF c 1 % 4 = 2 then g / 2 else 1
def stepF (c : Int) : Int := if valueF c 1 % 4 = 0 then 1 else if valueF c 1 % 4 = 1 then 1 else if valueF c 1 % 4 = 2 then 2 else 4
def numF (ns : List Int) (by_ g : Int) (at_ : Int) : Int := valueF (cellF ns (by_ + at_ % 5) + 11 * at_) (3 + at_ % 6) / 3
def putF1 (ns : List Int) (by_ g : Int) (at_ : Int) : Int :=
  let v := numF ns by_ g at_ % (wideF (cellF ns by_) g + 1) * stepF (cellF ns by_)
  if v < g then v else g
def rowLen (ns : List Int) (by_ m : Int) : Nat := (1 + valueF (cellF ns by_) 2 % m).toNat
def rowF (ns : List Int) (by_ m g : Int) : List Int := (List.range (rowLen ns by_ m)).map fun i : Nat => putF1 ns by_ g i
theorem rowF_len {ns : List Int} {by_ m g : Int} (hm : 0 < m) : 1 ≤ (rowF ns by_ m g).length ∧ ((rowF ns by_ m g).length : Int) ≤ m := by
  unfold rowF rowLen
  rw [List.length_map, List.length_range]
  have h1 := Int.emod_nonneg (valueF (cellF ns by_) 2) (show m ≠ 0 by omega)
  have h2 := Int.emod_lt_of_pos (valueF (cellF ns by_) 2) hm
  omega
theorem stepF_pos {c : Int} : 1 ≤ stepF c ∧ stepF c ≤ 4 := by
  unfold stepF
  split
  · decide
  · split
    · decide
    · split <;> decide
theorem wideF_pos {c g : Int} (hg : 0 ≤ g) : 0 ≤ wideF c g ∧ (wideF c g ≤ g ∨ wideF c g ≤ 3) := by
  unfold wideF
  split
  · omega
  · split
    · omega
    · split <;> omega
theorem putF1_in {ns : List Int} {by_ g a : Int} (hg : 0 ≤ g) : 0 ≤ putF1 ns by_ g a ∧ putF1 ns by_ g a ≤ g := by
  unfold putF1
  have h1 := (wideF_pos (c := cellF ns by_) hg).1
  have h2 := Int.emod_nonneg (numF ns by_ g a) (show wideF (cellF ns by_) g + 1 ≠ 0 by omega)
  have h3 := (stepF_pos (c := cellF ns by_)).1
  have h4 := Int.mul_nonneg h2 (show 0 ≤ stepF (cellF ns by_) by omega)
  dsimp only
  split <;> omega
theorem rowF_in {ns : List Int} {by_ m g : Int} (hg : 0 ≤ g) : ∀ x ∈ rowF ns by_ m g, 0 ≤ x ∧ x ≤ g := fun x hx => by
  unfold rowF at hx
  obtain ⟨i, _, rfl⟩ := List.mem_map.mp hx
  exact putF1_in hg
theorem cellF_bt {ns : List Int} {b : Nat} {k : Int} (h : ∀ z ∈ ns, Bt b z) : Bt b (cellF ns k) := by
  unfold cellF
  by_cases hk : k.toNat < ns.length
  · rw [List.getD_eq_getElem?_getD, List.getElem?_eq_getElem hk]
    exact h _ (List.getElem_mem hk)
  · rw [List.getD_eq_getElem?_getD, List.getElem?_eq_none (by omega)]
    exact Nat.two_pow_pos b
/-- what the draws ask of the cells: not beyond all bounds -/
def Cells (ns : List Int) : Prop := ∀ z ∈ ns, Bt 1050000 z
end Eg

set_option Elab.async false
set_option linter.all false
set_option maxRecDepth 100000
set_option maxHeartbeats 2000000
namespace Eg
open PySem PySem.Spec PyProof.Rows L2 Evl
/-! # more of what evaluates to what -/
section
variable {K : PySem.W.Frag} {σ : L2.St} {H H' : Hp} {ta tb tc td te ts : TE} {t u : TT} {x y z v : V} {D : Ends} {tz tu : TS}
theorem rv_neD {d : PyData} (dx : Dp K H x d) (dy : Dp K H y d) {k : Nat} (l : Lay k d) (hk : k ≤ 64 := by decide) : RV (rNeD K) x y H (.bl false) := fun H1 e Q q => by
  refine ⟨d, d, dp_mono e dx, dp_mono e dy, l.shaped hk, l.shaped hk, ?_⟩
  rw [SeqAt.eqv_refl d l.1]
  exact q H1 (Ex.refl H1)
theorem rv_eqD {d : PyData} (dx : Dp K H x d) (dy : Dp K H y d) {k : Nat} (l : Lay k d) (hk : k ≤ 64 := by decide) : RV (rEqD K) x y H (.bl true) := fun H1 e Q q => by
  refine ⟨d, d, dp_mono e dx, dp_mono e dy, l.shaped hk, l.shaped hk, ?_⟩
  rw [SeqAt.eqv_refl d l.1]
  exact q H1 (Ex.refl H1)
theorem ev_neD {d : PyData} (ha : Ev ta σ H x) (hb : Ev tb σ H y) (dx : Dp K H x d) (dy : Dp K H y d) {k : Nat} (l : Lay k d) (hk : k ≤ 64 := by decide) : Ev (tOp (rNeD K) ta tb) σ H (.bl false) := ev_op ha hb (rv_neD dx dy l hk)
/-- the first one a new list -/
theorem ev_neD1 {d : PyData} {R : Addr → Hp → Prop} (ha : TrN ta σ H R) (hb : ∀ H1, Ex H H1 → Ev tb σ H1 y) (dx : ∀ p H1, R p H1 → Dp K H1 (.ref p) d) (dy : Dp K H y d) {k : Nat} (l : Lay k d) (hk : k ≤ 64 := by decide) : Ev (tOp (rNeD K) ta tb) σ H (.bl false) := fun H1 e Q q =>
  ha H1 e _ fun p H2 _ e2 r => hb H2 (e.trans e2) H2 (Ex.refl H2) _ fun H3 e3 => rv_neD (dp_mono e3 (dx p H2 r)) (dp_mono ((e.trans e2).trans e3) dy) l hk H3 (Ex.refl H3) Q fun H4 e4 => q H4 ((e2.trans e3).trans e4)
/-- both new lists -/
theorem ev_neD2 {d : PyData} {R R' : Addr → Hp → Prop} (ha : TrN ta σ H R) (hb : ∀ H1, Ex H H1 → TrN tb σ H1 R') (dx : ∀ p H1, R p H1 → Dp K H1 (.ref p) d) (dy : ∀ p H1, R' p H1 → Dp K H1 (.ref p) d) {k : Nat} (l : Lay k d) (hk : k ≤ 64 := by decide) : Ev (tOp (rNeD K) ta tb) σ H (.bl false) := fun H1 e Q q =>
  ha H1 e _ fun p H2 _ e2 r => hb H2 (e.trans e2) H2 (Ex.refl H2) _ fun p' H3 _ e3 r' => rv_neD (dp_mono e3 (dx p H2 r)) (dy p' H3 r') l hk H3 (Ex.refl H3) Q fun H4 e4 => q H4 ((e2.trans e3).trans e4)
theorem ev_eqD2 {d : PyData} {R R' : Addr → Hp → Prop} (ha : TrN ta σ H R) (hb : ∀ H1, Ex H H1 → TrN tb σ H1 R') (dx : ∀ p H1, R p H1 → Dp K H1 (.ref p) d) (dy : ∀ p H1, R' p H1 → Dp K H1 (.ref p) d) {k : Nat} (l : Lay k d) (hk : k ≤ 64 := by decide) : Ev (tOp (rEqD K) ta tb) σ H (.bl true) := fun H1 e Q q =>
  ha H1 e _ fun p H2 _ e2 r => hb H2 (e.trans e2) H2 (Ex.refl H2) _ fun p' H3 _ e3 r' => rv_eqD (dp_mono e3 (dx p H2 r)) (dy p' H3 r') l hk H3 (Ex.refl H3) Q fun H4 e4 => q H4 ((e2.trans e3).trans e4)
theorem tn_of {xs : List V} (h : EvL te σ H xs) : TrN te σ H fun p H' => H' p = some (.lst xs) := h
/-- a list == [] -/
theorem ev_isNil {p : Addr} {rs : List V} {ds : List PyData} (ha : Ev ta σ H (.ref p)) (hl : SqL K H p rs) (hd : DpAll K H rs ds) {k : Nat} (l : Lay k (.list ds)) (hk : k ≤ 64 := by decide) : Ev (tOp (rEqD K) ta (tLst tNil)) σ H (.bl (decide (ds = []))) := fun H1 e Q q =>
  ha H1 e _ fun H2 e2 => (el_lst (vs := []) (σ := σ) ea_nil (by decide)) H2 (Ex.refl H2) _ fun o H3 ho e3 h3 => by
    refine ⟨.list ds, .list [], dp_mono ((e.trans e2).trans e3) (.lst hl hd), .lst (SqL.of h3) .nil, l.shaped hk, rfl, ?_⟩
    have e4 : PyData.eqv (.list ds) (.list []) = decide (ds = []) := by
      cases ds with
      | nil => rfl
      | cons a b => rfl
    rw [e4]
    exact q H3 (e2.trans e3)
theorem ev_lenSet {p : Addr} {ns : List Int} (ha : Ev ta σ H (.ref p)) (h : SqL K H p (ns.map V.int)) (hn : ns.length ≤ 4000) : Ev (tLenSet K ta) σ H (.int (dlen ns : Nat)) := fun H1 e Q q =>
  ha H1 e _ fun H2 e2 => ⟨p, ns, rfl, ex_l (e.trans e2) h, hn, q H2 e2⟩
theorem ev_sum {ns : List Int} (h : EvL te σ H (ns.map V.int)) : Ev (tCB (rSum K) (tCons te tNil)) σ H (.int ns.sum) := fun H1 e Q q =>
  h H1 e _ fun p H2 _ e2 h2 => ⟨p, ns, rfl, SqL.of h2, q H2 e2⟩
theorem tn_step {a : Addr} {xs : List V} {k : Int} (ha : Ev te σ H (.ref a)) (hb : Ev ts σ H (.int k)) (hk : k ≠ 0) (h : SqL K H a xs) : TrN (tStepL K te ts) σ H fun p H' => ∃ ys, H' p = some (.lst ys) ∧ ∀ z ∈ ys, z ∈ xs := fun H1 e Q q =>
  ha H1 e _ fun H2 e2 => hb H2 (e.trans e2) _ fun H3 e3 => ⟨k, rfl, a, xs, k, rfl, rfl, hk, ex_l ((e.trans e2).trans e3) h, fun ys p hy hp => q p _ (fresh_back (e2.trans e3) hp) ((e2.trans e3).trans (Ex.new hp)) ⟨ys, upd_same, hy⟩⟩
theorem el_rev {a : Addr} {xs : List V} (ha : Ev te σ H (.ref a)) (h : SqL K H a xs) : EvL (tRevL K te) σ H xs.reverse := fun H1 e Q q =>
  ha H1 e _ fun H2 e2 => ⟨a, xs, rfl, ex_l (e.trans e2) h, fun p hp => q p _ (fresh_back e2 hp) (e2.trans (Ex.new hp)) upd_same⟩
/-- a call with one new list as its argument -/
theorem tn_callL {sp : Sp} {E : XK} {xs : List V} {R : Addr → Hp → Prop} (h : EvL te σ H xs) (hs : ∀ p H1, H1 p = some (.lst xs) → Ex H H1 → SpN sp [.ref p] H1 R) : TrN (tCall sp [] E (tCons te tNil)) σ H R := fun H1 e Q q =>
  h H1 e _ fun p H2 _ e2 h2 => hs p H2 h2 (e.trans e2) H2 (Ex.refl H2) Q (fun r H3 hr e3 k => q r H3 (fresh_back e2 hr) (e2.trans e3) k) E
theorem q_rev {l : Addr} {xs : List V} (hl : H l = some (.lst xs)) (ha : Ev ta σ H (.ref l)) (k : ∀ H1, Ex H H1 → tz D σ (upd H1 l (.lst xs.reverse))) : tSeq (tDrop (tBM0 K "list" rReverse ta)) tz D σ H := ha H (Ex.refl H) _ fun H1 e1 =>
  ⟨Or.inl ⟨rfl, xs, sq_of (e1 l _ hl)⟩, l, xs, rfl, rfl, e1 l _ hl, k H1 e1⟩
theorem q_forR3 {ta : TA} {j : Nat} {lo hi c : Int} {n : Nat} (h : EvA ta σ H [.int lo, .int hi, .int c]) (hn : RgC lo hi c n) (Pv : Nat → L2.St → Hp → Prop) (h0 : ∀ H1, Ex H H1 → Pv 0 σ H1)
    (hs : ∀ (i : Nat) σ' H', i < n → Pv i σ' H' → tu { D with nx := Pv (i + 1), ct := Pv (i + 1), bk := tz D } (σ'.set j (some (.int (lo + (i : Nat) * c)))) H') (hd : ∀ σ' H', Pv n σ' H' → tz D σ' H') : tSeq (tFor (iRng3 ta) (gName j) tu) tz D σ H :=
  h H (Ex.refl H) _ fun H1 e => ⟨lo, hi, c, n, rfl, hn, for_rangeC (D := { D with nx := tz D }) Pv (h0 H1 e) hs hd⟩
/-- over a new tuple -/
theorem el_lcNU {xs : List V} {tl : TE} {j : Nat} {vs : List Nat} (f : Nat → Bool) (v : Nat → V) (h : EvU tl σ H xs) (hz : xs.length ≤ 40000) (hw : ∀ x, wipe ((wipe σ vs).set j (some x)) vs = wipe σ vs)
    (ht : ∀ (i : Nat) (x : V) H1, Ex H H1 → xs[i]? = some x → EvT t ((wipe σ vs).set j (some x)) H1 (f i)) (he : ∀ (i : Nat) (x : V) H1, Ex H H1 → xs[i]? = some x → f i = true → Ev te ((wipe σ vs).set j (some x)) H1 (v i)) :
    EvL (tLc (iTup K tl) (gName j) t te vs) σ H (given xs.length f v) := fun H0 e Q q => h H0 e _ fun a H1 ha e1 hx => ⟨a, rfl, ⟨xs, st_of hx⟩, fun Dl hD =>
  lc_tup (xs := xs) (Cw H1 f v Dl) ⟨hD, Ex.new hD, upd_same⟩ (fun i H' _ p => st_of (p.2.1 a _ hx)) (fun i x H' hi p => ⟨hw x, cw_turn p (by have := (List.getElem?_eq_some_iff.mp hi).1; omega) (ht i x H1 (e.trans e1) hi) (fun hf => he i x H1 (e.trans e1) hi hf)⟩)
    (fun H' p => q Dl H' (fresh_back e1 p.1) (e1.trans p.2.1) p.2.2)⟩
theorem ev_isTrue {b : Bool} (ha : Ev ta σ H (.bl b)) : Ev (tOp rIsB ta (tC (.bl true))) σ H (.bl (decide (b = true))) := ev_op ha ev_c fun H1 e Q q => ⟨b, true, rfl, rfl, q H1 (Ex.refl H1)⟩
/-- a, b = e1, e2: two new objects; a new object and a value -/
theorem q_parN {i j : Nat} {R R' : Addr → Hp → Prop} (h : TrN ta σ H R) (g : ∀ H1, Ex H H1 → TrN tb σ H1 R') (k : ∀ p r H1 H2, H p = none → Ex H H1 → R p H1 → H1 r = none → Ex H1 H2 → R' r H2 → tz D ((σ.set i (some (.ref p))).set j (some (.ref r))) H2) : tSeq (tPar i j (tCons ta (tCons tb tNil))) tz D σ H :=
  h H (Ex.refl H) _ fun p H1 hp e1 r1 => g H1 e1 H1 (Ex.refl H1) _ fun r H2 hr e2 r2 => ⟨_, _, rfl, k p r H1 H2 hp e1 r1 hr e2 r2⟩
theorem q_parNV {i j : Nat} {R : Addr → Hp → Prop} (h : TrN ta σ H R) (g : ∀ H1, Ex H H1 → Ev tb σ H1 v) (k : ∀ p H1 H2, H p = none → Ex H H1 → R p H1 → Ex H1 H2 → tz D ((σ.set i (some (.ref p))).set j (some v)) H2) : tSeq (tPar i j (tCons ta (tCons tb tNil))) tz D σ H :=
  h H (Ex.refl H) _ fun p H1 hp e1 r1 => g H1 e1 H1 (Ex.refl H1) _ fun H2 e2 => ⟨_, _, rfl, k p H1 H2 hp e1 r1 e2⟩
theorem tn_callLU {sp : Sp} {E : XK} {xs ys : List V} {R : Addr → Hp → Prop} (h : EvL ta σ H xs) (g : ∀ H1, Ex H H1 → EvU tb σ H1 ys) (hs : ∀ p r H1, H1 p = some (.lst xs) → H1 r = some (.tup ys) → Ex H H1 → SpN sp [.ref p, .ref r] H1 R) : TrN (tCall sp [] E (tCons ta (tCons tb tNil))) σ H R := fun H1 e Q q =>
  h H1 e _ fun p H2 _ e2 h2 => g H2 (e.trans e2) H2 (Ex.refl H2) _ fun r H3 _ e3 h3 => hs p r H3 (e3 _ _ h2) h3 ((e.trans e2).trans e3) H3 (Ex.refl H3) Q (fun u H4 hu e4 k => q u H4 (fresh_back (e2.trans e3) hu) ((e2.trans e3).trans e4) k) E
theorem ev_callL {sp : Sp} {E : XK} {xs : List V} (h : EvL ta σ H xs) (hs : ∀ p H1, H1 p = some (.lst xs) → Ex H H1 → SpV sp [.ref p] H1 z) : Ev (tCall sp [] E (tCons ta tNil)) σ H z := fun H1 e Q q =>
  h H1 e _ fun p H2 _ e2 h2 => hs p H2 h2 (e.trans e2) H2 (Ex.refl H2) Q (fun H3 e3 => q H3 (e2.trans e3)) E
theorem tn_lstUU {xs ys : List V} (h : ∀ H1, Ex H H1 → EvU ta σ H1 xs) (g : ∀ H1, Ex H H1 → EvU tb σ H1 ys) : TrN (tLst (tCons ta (tCons tb tNil))) σ H fun p H' => ∃ r u, H' p = some (.lst [.ref r, .ref u]) ∧ H' r = some (.tup xs) ∧ H' u = some (.tup ys) := fun H1 e Q q =>
  h H1 e H1 (Ex.refl H1) _ fun r H2 hr e2 h2 => g H2 (e.trans e2) H2 (Ex.refl H2) _ fun u H3 hu e3 h3 =>
    ⟨sz_of (by decide : 2 ≤ 100000), fun p hp => q p _ (fresh_back (e2.trans e3) hp) ((e2.trans e3).trans (Ex.new hp)) ⟨r, u, upd_same, (Ex.new hp) _ _ (e3 _ _ h2), (Ex.new hp) _ _ h3⟩⟩
/-- for x in a new list, told by R -/
theorem q_forN {tl : TE} {g : TG} {R : Addr → Hp → Prop} (h : TrN tl σ H R) (k : ∀ p H1, H p = none → Ex H H1 → R p H1 → ∃ (xs : List V) (Pv : Nat → L2.St → Hp → Prop), SqL K H1 p xs ∧ Pv 0 σ H1 ∧ (∀ i σ' H', i ≤ xs.length → Pv i σ' H' → SqL K H' p xs) ∧
      (∀ i x σ' H', xs[i]? = some x → Pv i σ' H' → g x σ' H' fun σ2 H2 => tu { D with nx := Pv (i + 1), ct := Pv (i + 1), bk := tz D } σ2 H2) ∧ ∀ σ' H', Pv xs.length σ' H' → tz D σ' H') : tSeq (tFor (iList K tl) g tu) tz D σ H :=
  h H (Ex.refl H) _ fun p H1 hp e r => by
    obtain ⟨xs, Pv, hs, h0, hl, hb, hd⟩ := k p H1 hp e r
    exact ⟨p, rfl, ⟨xs, hs⟩, for_list (D := { D with nx := tz D }) Pv h0 hl hb hd⟩
end
theorem rep_all (n : Nat) : (List.replicate n true).all id = true := List.all_eq_true.mpr fun x hx => (List.mem_replicate.mp hx).2
theorem given_map (ns : List Int) (g : Int → Int) : given ns.length (fun _ => true) (fun i => V.int (g (ns.getD i 0))) = (ns.map g).map V.int := by
  unfold given
  rw [List.filter_eq_self.mpr (fun _ _ => rfl)]
  refine List.ext_getElem? fun i => ?_
  rw [List.getElem?_map, List.getElem?_map, List.getElem?_map]
  by_cases h : i < ns.length
  · rw [gD_at h, List.getElem?_range h]
    rfl
  · rw [List.getElem?_eq_none (l := ns) (by omega), List.getElem?_eq_none (by rw [List.length_range]; omega)]
    rfl
theorem cut63 {xs : List V} (h : xs.length ≤ 63) : cutV xs none (some 63) = xs := by
  unfold cutV
  rw [HT.sIx_none, show HT.sIx xs.length xs.length (some 63) = min 63 xs.length from HT.sIx_nat xs.length xs.length 63, List.drop_zero, Nat.sub_zero, Nat.min_eq_right h, List.take_length]
/-- the turns of range(0, max(1, n), 1 + n // d), n up to 63 -/
def turnsN (d L : Nat) : Nat := (Builtin.Range.rangeSize 0 (if (L : Int) > 1 then (L : Int) else 1) (1 + (L : Int) / (d : Int))).toNat
theorem rg6 (L : Nat) (h : L ≤ 63) : RgC 0 (if (L : Int) > 1 then (L : Int) else 1) (1 + (L : Int) / 6) (turnsN 6 L) ∧ turnsN 6 L ≤ 63 := by
  have : ∀ L : Fin 64, RgC 0 (if (L.val : Int) > 1 then (L.val : Int) else 1) (1 + (L.val : Int) / 6) (turnsN 6 L.val) ∧ turnsN 6 L.val ≤ 63 := by
    unfold RgC
    decide +kernel
  exact this ⟨L, by omega⟩
theorem can_rev {ns : List Int} : canL ns.reverse = [] ↔ canL ns = [] := by
  have key : ∀ ns : List Int, canL ns = [] → canL ns.reverse = [] := fun ns h => by
    cases e : canL ns.reverse with
    | nil => rfl
    | cons p r =>
      exfalso
      have hp : p ∈ canL ns.reverse := by
        rw [e]
        exact List.mem_cons_self
      obtain ⟨h1, h2, h3⟩ := mem_canL.mp hp
      rw [List.length_reverse] at h2
      have g : ∀ i, i < ns.length → ns.reverse.getD i 0 = ns.getD (ns.length - 1 - i) 0 := fun i hi => by
        rw [List.getD_eq_getElem?_getD, List.getElem?_reverse hi, ← List.getD_eq_getElem?_getD]
      have h4 : (ns.length - 1 - p.2, ns.length - 1 - p.1) ∈ canL ns := by
        refine mem_canL.mpr ⟨by show ns.length - 1 - p.2 < ns.length - 1 - p.1; omega, by show ns.length - 1 - p.1 < ns.length; omega, ?_⟩
        rw [okP_iff] at h3 ⊢
        rw [g _ (by omega), g _ h2] at h3
        exact ⟨fun z => h3.1 z.symm, by have := h3.2; show (ns.getD (ns.length - 1 - p.2) 0 + ns.getD (ns.length - 1 - p.1) 0) % 2 = 0; omega⟩
      rw [h] at h4
      cases h4
  constructor
  · intro h
    have := key _ h
    rwa [List.reverse_reverse] at this
  · exact key ns
theorem RowOk.rev {ns : List Int} (h : RowOk ns) : RowOk ns.reverse := ⟨by rw [List.length_reverse]; exact h.1, by rw [List.length_reverse]; exact h.2.1, fun x hx => h.2.2 x (List.mem_reverse.mp hx)⟩
theorem IsP.dp {K : PySem.W.Frag} {ps : List (Nat × Nat)} {p : Addr} {H : Hp} (h : IsP ps p H) : Dp K H (.ref p) (.list (prsD ps)) := by
  obtain ⟨rs, hl, hr⟩ := h
  exact .lst (SqL.of hl) hr.dp
theorem ints_dp {K : PySem.W.Frag} {ns : List Int} {p : Addr} {H : Hp} (h : SqL K H p (ns.map V.int)) : Dp K H (.ref p) (.list (ns.map PyData.int)) := .lst h (dpa_ints ns)
end Eg

set_option Elab.async false
set_option linter.all false
set_option maxRecDepth 100000
set_option maxHeartbeats 2000000
namespace Eg
open PySem PySem.Spec PyProof.Rows L2 Evl
/-! # dicts whose keys are rows -/
section
variable {X : Cx} {k v : Expr} {tk tv : TE} {pos : Pos}
/-- {k: v}, k a tuple -/
def tDispT (tk tv : TE) : TE := fun σ H Q => ∀ d, H d = none → tk σ (upd H d (.dT [])) fun x H1 => tv σ H1 fun y H2 => ∃ (b : Addr) (ks : List L2.Key), x = .ref b ∧ H2 b = some (.tup (ks.map kV)) ∧ H2 d = some (.dT []) ∧ Q (.ref d) (upd H2 d (.dT [(ks, y)]))
theorem pe_dispT (hu : X.A.units + 1 < cLine) (hk : PE X k tk) (hv : PE X v tv) : PE X (.Dict [some k] [v] pos) (tDispT tk tv) := by
  refine ⟨fun pins s σ H Q I q => ?_⟩
  have hn := I.hok.fresh (Nat.le_refl s.heap.objs.size)
  have I1 := I.laid (a := s.heap.objs.size) (o := .dT []) (h' := s.heap.push { cls := .type "dict", data := .dict #[] }) (t' := s.toks) (fun _ _ q => Heap.get?_push_of_some _ q) (Nat.le_refl _) (dt_empty s.heap I.big)
  refine wpAny_Dict_any rfl rfl (by simp) (show 1 ≤ 15 by decide) ?_
  refine pairTrees_cons_walk (thn (hk.run pins _ σ _ _ I1 (q _ hn)) fun u s1 ⟨x, H1, I1', rx, q1⟩ => thn (hv.run pins s1 σ H1 _ I1' q1) fun z s2 ⟨y, H2, I2, ry, b, ks, ex, hb, hd, q2⟩ => pairTrees_nil_walk ?_)
  subst ex
  obtain rfl : u = Value.ref b := rx
  unfold storeAll
  rw [List.forIn_cons]
  obtain ⟨z0, hdd, xs, rel, dd⟩ := dt_of I2.hok hd
  have hxs : xs = [] := by
    cases rel
    rfl
  refine wpAny_bind (wpAny_bind (wpAny_dictSet_heap (hsz := by rw [hxs]; exact Nat.zero_le _) (show X.A.units < cLine by omega) (key_of I2.hok hb) dd fun h' dd' hs => wpAny_pure ?_))
  show wpAny _ _ (forIn [] PUnit.unit _) _ _ _
  rw [List.forIn_nil]
  refine wpAny_pure ⟨.ref s.heap.objs.size, _, ?_, rfl, q2⟩
  obtain ⟨q, es, ep, hq, h2, h3, h4, _, h5⟩ := dd'
  have rl := rel.put ks hb ry
  refine d_write I2 (by rw [hd]; exact True.intro) hs ⟨q, hq⟩ ⟨show 1 ≤ sizeLine by decide, hdd, _, rl.keeps fun c ys ec => ?_, q, es, ep, hq, h2, h3, h4, h5⟩
  rw [upd_ne (ne_of ec hd (fun z => nomatch z))]
  exact ec
end
/-! ### the mirror: rows that come behind one evening more -/
def putR (rows : List (List Int)) (r : List Int) : List (List Int) := if r ∈ rows then rows else rows ++ [r]
def addCan (acc : List (List Int)) (r : List Int) (ps : List (Nat × Nat)) : List (List Int) := ps.foldl (fun acc p => putR acc (evL r p.1 p.2)) acc
def nextR (rows : List (List Int)) : List (List Int) := rows.foldl (fun acc r => addCan acc r (canL r)) []
def lv (ns : List Int) : Nat → List (List Int)
  | 0 => [ns]
  | k + 1 => nextR (lv ns k)
/-- a small row -/
def Sm (ns : List Int) : Prop := 1 ≤ ns.length ∧ ns.length ≤ 5 ∧ ∀ x ∈ ns, 0 ≤ x ∧ x ≤ 20
theorem Sm.ok {ns : List Int} (h : Sm ns) : RowOk ns := ⟨h.1, by have := h.2.1; omega, fun x hx => by have := h.2.2 x hx; omega⟩
theorem mem_putR {rows : List (List Int)} {r x : List Int} : x ∈ putR rows r ↔ x ∈ rows ∨ x = r := by
  unfold putR
  split
  · rename_i h
    constructor
    · exact .inl
    · rintro (h1 | rfl)
      · exact h1
      · exact h
  · rw [List.mem_append, List.mem_singleton]
theorem nodup_putR {rows : List (List Int)} {r : List Int} (h : rows.Nodup) : (putR rows r).Nodup := by
  unfold putR
  split
  · exact h
  · rename_i hn
    refine List.nodup_append.mpr ⟨h, List.pairwise_singleton _ _, fun a ha b hb e => ?_⟩
    rw [List.mem_singleton.mp hb] at e
    exact hn (e ▸ ha)
theorem mem_addCan {r x : List Int} : ∀ {ps : List (Nat × Nat)} {acc : List (List Int)}, x ∈ addCan acc r ps ↔ x ∈ acc ∨ ∃ p ∈ ps, x = evL r p.1 p.2
  | [], acc => by simp [addCan]
  | p :: ps, acc => by
    show x ∈ addCan (putR acc (evL r p.1 p.2)) r ps ↔ _
    rw [mem_addCan, mem_putR]
    constructor
    · rintro ((h | h) | ⟨q, hq, h⟩)
      · exact .inl h
      · exact .inr ⟨p, List.mem_cons_self, h⟩
      · exact .inr ⟨q, List.mem_cons_of_mem _ hq, h⟩
    · rintro (h | ⟨q, hq, h⟩)
      · exact .inl (.inl h)
      · rcases List.mem_cons.mp hq with e | e
        · rw [e] at h
          exact .inl (.inr h)
        · exact .inr ⟨q, e, h⟩
theorem nodup_addCan {r : List Int} : ∀ {ps : List (Nat × Nat)} {acc : List (List Int)}, acc.Nodup → (addCan acc r ps).Nodup
  | [], _, h => h
  | p :: ps, acc, h => nodup_addCan (ps := ps) (acc := putR acc (evL r p.1 p.2)) (nodup_putR h)
theorem mem_nextG {x : List Int} : ∀ {rows acc : List (List Int)}, x ∈ rows.foldl (fun acc r => addCan acc r (canL r)) acc ↔ x ∈ acc ∨ ∃ r ∈ rows, ∃ p ∈ canL r, x = evL r p.1 p.2
  | [], acc => by simp
  | r :: rows, acc => by
    rw [List.foldl_cons, mem_nextG, mem_addCan]
    constructor
    · rintro ((h | h) | ⟨q, hq, h⟩)
      · exact .inl h
      · exact .inr ⟨r, List.mem_cons_self, h⟩
      · exact .inr ⟨q, List.mem_cons_of_mem _ hq, h⟩
    · rintro (h | ⟨q, hq, h⟩)
      · exact .inl (.inl h)
      · rcases List.mem_cons.mp hq with e | e
        · rw [e] at h
          exact .inl (.inr h)
        · exact .inr ⟨q, e, h⟩
theorem mem_nextR {x : List Int} {rows : List (List Int)} : x ∈ nextR rows ↔ ∃ r ∈ rows, ∃ p ∈ canL r, x = evL r p.1 p.2 := by
  unfold nextR
  rw [mem_nextG]
  simp
theorem nodup_nextG : ∀ {rows acc : List (List Int)}, acc.Nodup → (rows.foldl (fun acc r => addCan acc r (canL r)) acc).Nodup
  | [], _, h => h
  | r :: rows, acc, h => by
    rw [List.foldl_cons]
    exact nodup_nextG (nodup_addCan h)
theorem nodup_nextR (rows : List (List Int)) : (nextR rows).Nodup := nodup_nextG List.Pairwise.nil
theorem evL_length (ns : List Int) (i j : Nat) : (evL ns i j).length = ns.length := by
  unfold evL
  rw [List.length_set, List.length_set]
theorem evL_in {ns : List Int} {i j : Nat} {g : Int} (hi : i < ns.length) (hj : j < ns.length) (h : ∀ x ∈ ns, 0 ≤ x ∧ x ≤ g) : ∀ x ∈ evL ns i j, 0 ≤ x ∧ x ≤ g := fun x hx => by
  have hh : 0 ≤ halfL ns i j ∧ halfL ns i j ≤ g := by
    have b1 := h _ (List.mem_of_getElem? (gD_at hi))
    have b2 := h _ (List.mem_of_getElem? (gD_at hj))
    unfold halfL
    omega
  unfold evL at hx
  rcases List.mem_or_eq_of_mem_set hx with hx | hx
  · rcases List.mem_or_eq_of_mem_set hx with hx | hx
    · exact h x hx
    · rw [hx]
      exact hh
  · rw [hx]
    exact hh
theorem Sm.ev {ns : List Int} (h : Sm ns) {p : Nat × Nat} (hp : p ∈ canL ns) : Sm (evL ns p.1 p.2) := by
  obtain ⟨h1, h2, _⟩ := mem_canL.mp hp
  exact ⟨by rw [evL_length]; exact h.1, by rw [evL_length]; exact h.2.1, evL_in (by omega) h2 h.2.2⟩
theorem lv_sm {ns : List Int} (h : Sm ns) : ∀ k, ∀ r ∈ lv ns k, Sm r ∧ r.length = ns.length
  | 0, r, hr => by
    rw [List.mem_singleton.mp hr]
    exact ⟨h, rfl⟩
  | k + 1, r, hr => by
    obtain ⟨q, hq, p, hp, rfl⟩ := mem_nextR.mp hr
    obtain ⟨h1, h2⟩ := lv_sm h k q hq
    exact ⟨h1.ev hp, by rw [evL_length]; exact h2⟩
theorem lv_nodup (ns : List Int) : ∀ k, (lv ns k).Nodup
  | 0 => List.pairwise_singleton _ _
  | k + 1 => nodup_nextR _
theorem sqs_nn (ns : List Int) : 0 ≤ sqs ns := by
  unfold sqs
  induction ns with
  | nil => decide
  | cons a r ih =>
    rw [List.map_cons, List.sum_cons]
    have : 0 ≤ a * a := by
      rcases Int.le_total 0 a with h | h
      · exact Int.mul_nonneg h h
      · exact Int.mul_nonneg_of_nonpos_of_nonpos h h
    omega
theorem lv_sqs {ns : List Int} : ∀ k, ∀ r ∈ lv ns k, sqs r + k ≤ sqs ns
  | 0, r, hr => by
    rw [List.mem_singleton.mp hr]
    omega
  | k + 1, r, hr => by
    obtain ⟨q, hq, p, hp, rfl⟩ := mem_nextR.mp hr
    have h1 := lv_sqs k q hq
    obtain ⟨g1, g2, g3⟩ := mem_canL.mp hp
    have h2 := fall_is g1 g2 g3
    omega
theorem lv_short {ns : List Int} {k : Nat} (h : lv ns k ≠ []) : (k : Int) ≤ sqs ns := by
  obtain ⟨r, hr⟩ := List.exists_mem_of_ne_nil _ h
  have h1 := lv_sqs k r hr
  have h2 := sqs_nn r
  omega
theorem sqs_sm {ns : List Int} (h : Sm ns) : sqs ns ≤ 2000 := by
  have key : ∀ (l : List Int), (∀ x ∈ l, 0 ≤ x ∧ x ≤ 20) → sqs l ≤ 400 * l.length := fun l => by
    induction l with
    | nil => intro _; decide
    | cons a r ih =>
      intro hl
      have h1 := ih fun x hx => hl x (List.mem_cons_of_mem _ hx)
      have h2 := hl a List.mem_cons_self
      have h3 : a * a ≤ 20 * 20 := Int.mul_le_mul h2.2 h2.2 h2.1 (by decide)
      unfold sqs at h1 ⊢
      rw [List.map_cons, List.sum_cons, List.length_cons]
      omega
  have h1 := key ns h.2.2
  have h2 := h.2.1
  omega
/-! ### how many rows there can be -/
theorem nodup_lt : ∀ (M : Nat) (l : List Nat), l.Nodup → (∀ x ∈ l, x < M) → l.length ≤ M
  | 0, l, _, h => by
    cases l with
    | nil => exact Nat.le_refl _
    | cons a r => exact absurd (h a List.mem_cons_self) (Nat.not_lt_zero a)
  | M + 1, l, nd, h => by
    have ih := nodup_lt M (l.erase M) (nd.erase M) fun x hx => by
      have h1 := (nd.mem_erase_iff).mp hx
      have h2 := h x h1.2
      have h3 := h1.1
      omega
    rw [List.length_erase] at ih
    split at ih <;> omega
def codeR : List Int → Nat
  | [] => 0
  | x :: r => x.toNat + 21 * codeR r
theorem codeR_inj : ∀ {a b : List Int}, a.length = b.length → (∀ x ∈ a, 0 ≤ x ∧ x ≤ 20) → (∀ x ∈ b, 0 ≤ x ∧ x ≤ 20) → codeR a = codeR b → a = b
  | [], [], _, _, _, _ => rfl
  | [], y :: b, h, _, _, _ => by simp at h
  | x :: a, [], h, _, _, _ => by simp at h
  | x :: a, y :: b, h, ha, hb, e => by
    have h1 := ha x List.mem_cons_self
    have h2 := hb y List.mem_cons_self
    unfold codeR at e
    have e1 : codeR a = codeR b := by omega
    have e2 : x = y := by omega
    rw [e2, codeR_inj (by simpa using h) (fun z hz => ha z (List.mem_cons_of_mem _ hz)) (fun z hz => hb z (List.mem_cons_of_mem _ hz)) e1]
theorem codeR_lt : ∀ {a : List Int}, (∀ x ∈ a, 0 ≤ x ∧ x ≤ 20) → codeR a < 21 ^ a.length
  | [], _ => by decide
  | x :: a, h => by
    have h1 := h x List.mem_cons_self
    have h2 := codeR_lt (a := a) fun z hz => h z (List.mem_cons_of_mem _ hz)
    unfold codeR
    rw [List.length_cons, Nat.pow_succ]
    omega
/-- rows of one length, small, no one twice: not too many -/
theorem rows_few {rows : List (List Int)} {n : Nat} (hn : n ≤ 5) (nd : rows.Nodup) (h : ∀ r ∈ rows, Sm r ∧ r.length = n) : rows.length ≤ 4084101 := by
  have h1 : (rows.map codeR).Nodup := by
    refine List.pairwise_map.mpr (List.Pairwise.imp_of_mem (fun {a b} ha hb hne e => hne ?_) nd)
    obtain ⟨sa, la⟩ := h a ha
    obtain ⟨sb, lb⟩ := h b hb
    exact codeR_inj (la.trans lb.symm) sa.2.2 sb.2.2 e
  have h2 := nodup_lt (21 ^ n) (rows.map codeR) h1 fun x hx => by
    obtain ⟨r, hr, rfl⟩ := List.mem_map.mp hx
    obtain ⟨sr, lr⟩ := h r hr
    rw [← lr]
    exact codeR_lt sr.2.2
  rw [List.length_map] at h2
  have h3 : 21 ^ n ≤ 21 ^ 5 := Nat.pow_le_pow_right (by decide) hn
  have h4 : (21 : Nat) ^ 5 = 4084101 := by decide
  omega
theorem lv_few {ns : List Int} (h : Sm ns) (k : Nat) : (lv ns k).length ≤ 4084101 := rows_few h.2.1 (lv_nodup ns k) (lv_sm h k)
theorem few_line {n : Nat} (h : n ≤ 4084101) : n < sizeLine := Nat.lt_of_le_of_lt h (by decide)
end Eg

set_option Elab.async false
set_option linter.all false
set_option maxRecDepth 100000
set_option maxHeartbeats 2000000
namespace Eg
open PySem PySem.Spec PyProof.Rows L2 Evl
/-! # rows, levels and dicts of rows in the heap -/
def rowK (r : List Int) : List L2.Key := r.map Sum.inl
theorem rowK_V (r : List Int) : (rowK r).map kV = r.map V.int := by
  unfold rowK
  rw [List.map_map]
  rfl
theorem rowK_inj {a b : List Int} (h : rowK a = rowK b) : a = b := by
  have := congrArg (List.map kV) h
  rw [rowK_V, rowK_V] at this
  exact List.map_inj_right (fun _ _ e => V.int.inj e) |>.mp this
def encD (rows : List (List Int)) : List (List L2.Key × V) := rows.map fun r => (rowK r, V.bl true)
def HasD (rows : List (List Int)) (d : Addr) (H : Hp) : Prop := H d = some (.dT (encD rows))
theorem put_encD (rows : List (List Int)) (r : List Int) : putK (encD rows) (rowK r) (.bl true) = encD (putR rows r) := by
  unfold putK putR
  have e : ((encD rows).any fun kv => decide (kv.1 = rowK r)) = decide (r ∈ rows) := by
    rw [Bool.eq_iff_iff, List.any_eq_true, decide_eq_true_iff]
    constructor
    · rintro ⟨kv, hk, h⟩
      obtain ⟨q, hq, rfl⟩ := List.mem_map.mp hk
      rw [← rowK_inj (of_decide_eq_true h)]
      exact hq
    · intro h
      exact ⟨(rowK r, .bl true), List.mem_map.mpr ⟨r, h, rfl⟩, decide_eq_true rfl⟩
  rw [e]
  by_cases h : r ∈ rows
  · rw [decide_eq_true h, if_pos rfl, if_pos h]
    refine (List.map_congr_left (g := id) fun kv hk => ?_).trans (List.map_id _)
    obtain ⟨q, hq, rfl⟩ := List.mem_map.mp hk
    split
    · rename_i h2
      rfl
    · rfl
  · rw [decide_eq_false h, if_neg (by decide), if_neg h]
    unfold encD
    rw [List.map_append]
    rfl
/-- lists of rows, each a list by itself -/
def RowsH (H : Hp) : List V → List (List Int) → Prop := Paired fun x r => ∃ t, x = .ref t ∧ H t = some (.lst (r.map V.int))
theorem RowsH.mono {H H' : Hp} (e : Ex H H') : ∀ {rs : List V} {ps : List (List Int)}, RowsH H rs ps → RowsH H' rs ps
  | _, _, .nil => .nil
  | _, _, .cons ⟨t, h1, h2⟩ r => .cons ⟨t, h1, e _ _ h2⟩ (RowsH.mono e r)
theorem RowsH.app {H : Hp} : ∀ {rs rs' : List V} {ps ps' : List (List Int)}, RowsH H rs ps → RowsH H rs' ps' → RowsH H (rs ++ rs') (ps ++ ps')
  | _, _, _, _, .nil, h => h
  | _, _, _, _, .cons a b, h => .cons a (RowsH.app b h)
theorem RowsH.length {H : Hp} {rs : List V} {ps : List (List Int)} (h : RowsH H rs ps) : rs.length = ps.length := Paired.length h
theorem RowsH.get {H : Hp} : ∀ {rs : List V} {ps : List (List Int)}, RowsH H rs ps → ∀ {i : Nat} {x : V}, rs[i]? = some x → ∃ r t, ps[i]? = some r ∧ x = .ref t ∧ H t = some (.lst (r.map V.int))
  | _, _, .nil, i, x, h => by simp at h
  | _, _, .cons ⟨t, h1, h2⟩ q, 0, x, h => by
    simp at h
    subst h
    exact ⟨_, t, rfl, h1, h2⟩
  | _, _, .cons _ q, i + 1, x, h => by
    simp at h
    obtain ⟨r, t, e1, e2, e3⟩ := RowsH.get q h
    exact ⟨r, t, by simpa using e1, e2, e3⟩
def HasR (rows : List (List Int)) (p : Addr) (H : Hp) : Prop := ∃ rs, H p = some (.lst rs) ∧ RowsH H rs rows
theorem HasR.mono {H H' : Hp} {rows : List (List Int)} {p : Addr} (e : Ex H H') (h : HasR rows p H) : HasR rows p H' := by
  obtain ⟨rs, h1, h2⟩ := h
  exact ⟨rs, e _ _ h1, h2.mono e⟩
def LvH (H : Hp) : List V → List (List (List Int)) → Prop := Paired fun x rows => ∃ q, x = .ref q ∧ HasR rows q H
theorem LvH.mono {H H' : Hp} (e : Ex H H') : ∀ {rs : List V} {ps : List (List (List Int))}, LvH H rs ps → LvH H' rs ps
  | _, _, .nil => .nil
  | _, _, .cons ⟨t, h1, h2⟩ r => .cons ⟨t, h1, h2.mono e⟩ (LvH.mono e r)
theorem LvH.app {H : Hp} : ∀ {rs rs' : List V} {ps ps' : List (List (List Int))}, LvH H rs ps → LvH H rs' ps' → LvH H (rs ++ rs') (ps ++ ps')
  | _, _, _, _, .nil, h => h
  | _, _, _, _, .cons a b, h => .cons a (LvH.app b h)
theorem LvH.length {H : Hp} {rs : List V} {ps : List (List (List Int))} (h : LvH H rs ps) : rs.length = ps.length := Paired.length h
theorem LvH.get {H : Hp} : ∀ {rs : List V} {ps : List (List (List Int))}, LvH H rs ps → ∀ {i : Nat} {x : V}, rs[i]? = some x → ∃ r t, ps[i]? = some r ∧ x = .ref t ∧ HasR r t H
  | _, _, .nil, i, x, h => by simp at h
  | _, _, .cons ⟨t, h1, h2⟩ q, 0, x, h => by
    simp at h
    subst h
    exact ⟨_, t, rfl, h1, h2⟩
  | _, _, .cons _ q, i + 1, x, h => by
    simp at h
    obtain ⟨r, t, e1, e2, e3⟩ := LvH.get q h
    exact ⟨r, t, by simpa using e1, e2, e3⟩
def HasLv (lvs : List (List (List Int))) (p : Addr) (H : Hp) : Prop := ∃ rs, H p = some (.lst rs) ∧ LvH H rs lvs
/-- what a list changed at p leaves: all that stands elsewhere in tracked lists of other addresses -/
theorem RowsH.upd {H : Hp} {p : Addr} {o : HO} (hp : ∀ r : List Int, H p ≠ some (.lst (r.map V.int))) : ∀ {rs : List V} {ps : List (List Int)}, RowsH H rs ps → RowsH (L2.upd H p o) rs ps
  | _, _, .nil => .nil
  | _, _, .cons ⟨t, h1, h2⟩ r => .cons ⟨t, h1, by
      have ht : t ≠ p := fun z => hp _ (z ▸ h2)
      rw [upd_ne ht]
      exact h2⟩ (RowsH.upd hp r)
/-- the list of references itself may change -/
theorem RowsH.updSelf {H : Hp} {p : Addr} {o : HO} {all : List V} (hp : H p = some (.lst all)) : ∀ {rs : List V} {ps : List (List Int)}, (∀ x ∈ rs, x ∈ all) → RowsH H rs ps → RowsH (L2.upd H p o) rs ps
  | _, _, _, .nil => .nil
  | _, _, hm, .cons ⟨t, h1, h2⟩ r => .cons ⟨t, h1, by
      have ht : t ≠ p := fun z => by
        rw [z, hp] at h2
        have hx := hm _ List.mem_cons_self
        rw [HO.lst.inj (Option.some.inj h2), h1] at hx
        obtain ⟨_, _, e⟩ := List.mem_map.mp hx
        cases e
      rw [upd_ne ht]
      exact h2⟩ (RowsH.updSelf hp (fun x hx => hm x (List.mem_cons_of_mem _ hx)) r)

section
variable {K : PySem.W.Frag} {σ : L2.St} {H H' : Hp} {ta tb tc td te tk tv : TE} {t u : TT} {x y z v : V} {D : Ends} {tz tu : TS}
theorem eu_tupleL {p : Addr} {ys : List V} (ha : Ev ta σ H (.ref p)) (h : SqL K H p ys) : EvU (tCB (fun xs H Q => ∃ p ys, xs = [.ref p] ∧ ((SqL K H p ys ∧ ∀ l, H l = none → Q (.ref l) (upd H l (.tup ys))) ∨ (SqT K H p ys ∧ Q (.ref p) H))) (tCons ta tNil)) σ H ys := fun H1 e Q q =>
  ha H1 e _ fun H2 e2 => ⟨p, ys, rfl, .inl ⟨ex_l (e.trans e2) h, fun l hl => q l _ (fresh_back e2 hl) (e2.trans (Ex.new hl)) upd_same⟩⟩
theorem eu_tupleN {ys : List V} (ha : EvL ta σ H ys) : EvU (tCB (fun xs H Q => ∃ p ys, xs = [.ref p] ∧ ((SqL K H p ys ∧ ∀ l, H l = none → Q (.ref l) (upd H l (.tup ys))) ∨ (SqT K H p ys ∧ Q (.ref p) H))) (tCons ta tNil)) σ H ys := fun H1 e Q q =>
  ha H1 e _ fun p H2 hp e2 h2 => ⟨p, ys, rfl, .inl ⟨SqL.of h2, fun l hl => q l _ (fresh_back e2 hl) (e2.trans (Ex.new hl)) upd_same⟩⟩
/-- list(t), t a tuple -/
theorem el_listT {p : Addr} {xs : List V} (ha : Ev ta σ H (.ref p)) (h : SqT K H p xs) : EvL (tCB (fun xs H Q => ∃ p ys, xs = [.ref p] ∧ (SqL K H p ys ∨ SqT K H p ys) ∧ ∀ l, H l = none → Q (.ref l) (upd H l (.lst ys))) (tCons ta tNil)) σ H xs := fun H1 e Q q =>
  ha H1 e _ fun H2 e2 => ⟨p, xs, rfl, Or.inr (ex_t (e.trans e2) h), fun l hl => q l _ (fresh_back e2 hl) (e2.trans (Ex.new hl)) upd_same⟩
theorem tn_dispT {r : List Int} (hk : ∀ H1, Ex H H1 → EvU tk σ H1 (r.map V.int)) (hv : ∀ H1, Ex H H1 → Ev tv σ H1 (.bl true)) : TrN (tDispT tk tv) σ H (HasD [r]) := fun H1 e Q q => fun d hd => by
  have e1 := e.trans (Ex.new (o := .dT []) hd)
  refine hk _ e1 _ (Ex.refl _) _ fun b H2 hb e2 h2 => hv _ (e1.trans e2) _ (Ex.refl _) _ fun H3 e3 => ?_
  have hd3 : H3 d = some (.dT []) := e3 _ _ (e2 _ _ upd_same)
  refine ⟨b, rowK r, rfl, by rw [rowK_V]; exact e3 _ _ h2, hd3, q d _ hd (Ex.mut (((Ex.new hd).trans e2).trans e3) hd) ?_⟩
  exact upd_same
theorem tn_dnewT : TrN tDNewT σ H (HasD []) := fun H1 e Q q p hp => q p _ hp (Ex.new hp) upd_same
theorem ev_lenD {p : Addr} {rows : List (List Int)} (ha : Ev ta σ H (.ref p)) (h : HasD rows p H) : Ev (tCB rLenT (tCons ta tNil)) σ H (.int (rows.length : Int)) := fun H1 e Q q =>
  ha H1 e _ fun H2 e2 => ⟨p, encD rows, rfl, e2 _ _ (e _ _ h), by
    have : (encD rows).length = rows.length := by
      unfold encD
      rw [List.length_map]
    rw [this]
    exact q H2 e2⟩
/-- d[tuple] = True -/
theorem s_putD {d : Addr} {rows : List (List Int)} {r : List Int} (hd : HasD rows d H) (hv : Ev tv σ H (.bl true)) (ho : ∀ H1, Ex H H1 → Ev td σ H1 (.ref d)) (hk : ∀ H1, Ex H H1 → EvU tk σ H1 (r.map V.int)) (hz : rows.length < sizeLine)
    (k : ∀ H1, Ex H H1 → D.nx σ (upd H1 d (.dT (encD (putR rows r))))) : sDPut td tk tv D σ H := hv H (Ex.refl H) _ fun H1 e1 => ho H1 e1 H1 (Ex.refl _) _ fun H2 e2 => hk H2 (e1.trans e2) H2 (Ex.refl _) _ fun b H3 hb e3 h3 => by
  have e := (e1.trans e2).trans e3
  refine ⟨d, _, rfl, DPut.t (k := rowK r) (e _ _ hd) (by rw [rowK_V]; exact h3) (by unfold encD; rw [List.length_map]; exact hz), ?_⟩
  rw [put_encD]
  exact k H3 e
/-- any walk over the keys of a locked dict of tuple keys -/
theorem walk_keysT {d : Addr} {o : Obj} {kvs : List (List L2.Key × V)} {H0 : Hp} {Qd : Hp → Prop} {BODY : V → Hp → (Hp → Prop) → Prop} (Pv : Nat → Hp → Prop) (h0 : Pv 0 H0) (hl : ∀ i H, Pv i H → H d = some (.frz o (.dT kvs)))
    (hs : ∀ i H k v q, kvs[i]? = some (k, v) → H q = some (.tup (k.map kV)) → Pv i H → BODY (.ref q) H (Pv (i + 1))) (hd : ∀ H, Pv kvs.length H → Qd H) :
    ∃ W : Nat → Nat → Hp → Prop, (∃ m, W 0 m H0) ∧ ∀ i m H, W i m H →
      ((Itkt d o kvs).stop i H ∧ Qd H) ∨ ((Itkt d o kvs).go i H ∧ ∃ Nx : Hp → Prop, (∀ H', Nx H' → ∃ m', m' < m ∧ W (i + 1) m' H') ∧ ∀ x H', (Itkt d o kvs).yld i H x H' → BODY x H' Nx) := by
  refine ⟨fun i m H => m = kvs.length - i ∧ i ≤ kvs.length ∧ Pv i H, ⟨kvs.length, by simp, Nat.zero_le _, h0⟩, ?_⟩
  rintro i m H ⟨rfl, hi, p⟩
  by_cases hlt : i < kvs.length
  · refine .inr ⟨⟨hl i H p, hlt⟩, Pv (i + 1), fun H' p' => ⟨kvs.length - (i + 1), by omega, rfl, hlt, p'⟩, fun x H' y => ?_⟩
    obtain ⟨e, k, v, q, h1, h2, h3⟩ := y
    subst e h2
    exact hs i _ k v q h1 h3 p
  · have e : i = kvs.length := by omega
    subst e
    exact .inl ⟨⟨hl _ H p, Nat.le_refl _⟩, hd H p⟩
/-- [list(some) for some in d] -/
theorem tn_keyLists {d : Addr} {rows : List (List Int)} {i j : Nat} {vs : List Nat} (hσ : σ[i]? = some (some (.ref d))) (hd : HasD rows d H) (hz : rows.length < sizeLine) (hw : ∀ x, wipe ((wipe σ vs).set j (some x)) vs = wipe σ vs) (hj : ∀ x, ((wipe σ vs).set j (some x))[j]? = some (some x)) :
    TrN (tLockE (tLc (iKeys (tVar i)) (gName j) tYes (tCB (fun xs H Q => ∃ p ys, xs = [.ref p] ∧ (SqL K H p ys ∨ SqT K H p ys) ∧ ∀ l, H l = none → Q (.ref l) (upd H l (.lst ys))) (tCons (tVar j) tNil)) vs)) σ H (HasR rows) := fun H0 e Q q => by
  have hd0 := e _ _ hd
  refine ⟨d, .dT (encD rows), hd0, trivial, fun od => ?_⟩
  refine ⟨.ref d, hσ, d, od, rfl, .inr ⟨encD rows, upd_same, fun Dl hD => ?_⟩⟩
  have hDd : Dl ≠ d := fun z => by
    rw [z, upd_same] at hD
    cases hD
  have hD0 : H0 Dl = none := by
    rw [upd_ne hDd] at hD
    exact hD
  have lenE : (encD rows).length = rows.length := by
    unfold encD
    rw [List.length_map]
  refine walk_keysT (fun n H' => Ex (upd H0 d (.frz od (.dT (encD rows)))) H' ∧ HasR (rows.take n) Dl H') ⟨Ex.new hD, [], upd_same, by rw [List.take_zero]; exact .nil⟩ (fun n H' p => p.1 _ _ upd_same) (fun n H' k v b hk hb hP => ?_) (fun H' hP => ?_)
  · obtain ⟨eH, rs, hl, hr⟩ := hP
    have hn : n < rows.length := by
      have := (List.getElem?_eq_some_iff.mp hk).1
      omega
    have hkr : (encD rows)[n]? = some (rowK rows[n], .bl true) := by
      unfold encD
      rw [List.getElem?_map, List.getElem?_eq_getElem hn]
      rfl
    rw [hkr] at hk
    cases hk
    rw [rowK_V] at hb
    refine ⟨hw _, ?_⟩
    show tYes _ _ _
    refine et_yes H' (Ex.refl H') _ fun H2 e2 => iteT ?_
    refine (el_listT (K := K) (ev_var (hj _)) (SqT.of hb)) H2 e2 _ fun l H3 hl3 e3 h3 => ?_
    have e23 := e2.trans e3
    have hDl := e23 _ _ hl
    refine ⟨rs, hDl, ?_, Ex.mut (eH.trans e23) hD, _, upd_same, ?_⟩
    · have := hr.length
      rw [List.length_take] at this
      omega
    · have hnl : l ≠ Dl := fun z => by
        rw [z, e2 _ _ hl] at hl3
        cases hl3
      rw [List.take_add_one, List.getElem?_eq_getElem hn]
      exact RowsH.app (RowsH.updSelf hDl (fun x hx => hx) (hr.mono e23)) (.cons ⟨l, rfl, by rw [upd_ne hnl]; exact h3⟩ .nil)
  · obtain ⟨eH, hR⟩ := hP
    rw [lenE, List.take_length] at hR
    refine ⟨eH _ _ upd_same, ?_⟩
    obtain ⟨rs, h1, h2⟩ := hR
    have hfz := eH _ _ (upd_same (H := H0) (a := d) (o := .frz od (.dT (encD rows))))
    refine q Dl _ hD0 (fun a o ha => ?_) ⟨rs, by rw [upd_ne hDd]; exact h1, RowsH.upd (fun r hr => by rw [hfz] at hr; cases hr) h2⟩
    by_cases hx : a = d
    · subst hx
      rw [upd_same, ← ha, hd0]
    · rw [upd_ne hx]
      refine eH _ _ ?_
      rw [upd_ne hx]
      exact ha
/-- xs.append(a new object) -/
theorem q_appN {l : Addr} {xs : List V} {R : Addr → Hp → Prop} (hl : H l = some (.lst xs)) (ha : Ev ta σ H (.ref l)) (h : ∀ H1, Ex H H1 → TrN te σ H1 R) (hz : xs.length < sizeLine) (k : ∀ p H1, H p = none → Ex H H1 → R p H1 → tz D σ (upd H1 l (.lst (xs ++ [.ref p])))) :
    tSeq (tDrop (tBM K "list" rAppend ta (tCons te tNil))) tz D σ H := ha H (Ex.refl H) _ fun H1 e1 =>
  ⟨Or.inl ⟨rfl, xs, sq_of (e1 l _ hl)⟩, h H1 e1 H1 (Ex.refl _) _ fun p H2 hp e2 h2 => ⟨l, xs, .ref p, rfl, rfl, e2 l _ (e1 l _ hl), hz, k p H2 (fresh_back e1 hp) (e1.trans e2) h2⟩⟩
theorem s_forN {tl : TE} {g : TG} {R : Addr → Hp → Prop} (h : TrN tl σ H R) (k : ∀ p H1, H p = none → Ex H H1 → R p H1 → ∃ (xs : List V) (Pv : Nat → L2.St → Hp → Prop), SqL K H1 p xs ∧ Pv 0 σ H1 ∧ (∀ i σ' H', i ≤ xs.length → Pv i σ' H' → SqL K H' p xs) ∧
      (∀ i x σ' H', xs[i]? = some x → Pv i σ' H' → g x σ' H' fun σ2 H2 => tu { D with nx := Pv (i + 1), ct := Pv (i + 1), bk := D.nx } σ2 H2) ∧ ∀ σ' H', Pv xs.length σ' H' → D.nx σ' H') : tFor (iList K tl) g tu D σ H :=
  h H (Ex.refl H) _ fun p H1 hp e r => by
    obtain ⟨xs, Pv, hs, h0, hl, hb, hd⟩ := k p H1 hp e r
    exact ⟨p, rfl, ⟨xs, hs⟩, for_list Pv h0 hl hb hd⟩
end
theorem Prs.get {H : Hp} : ∀ {rs : List V} {ps : List (Nat × Nat)}, Prs H rs ps → ∀ {i : Nat} {x : V}, rs[i]? = some x → ∃ p t, ps[i]? = some p ∧ x = .ref t ∧ H t = some (.tup [.int (p.1 : Nat), .int (p.2 : Nat)])
  | _, _, .nil, i, x, h => by simp at h
  | _, _, .cons ⟨t, h1, h2⟩ q, 0, x, h => by
    simp at h
    subst h
    exact ⟨_, t, rfl, h1, h2⟩
  | _, _, .cons _ q, i + 1, x, h => by
    simp at h
    obtain ⟨r, t, e1, e2, e3⟩ := Prs.get q h
    exact ⟨r, t, by simpa using e1, e2, e3⟩
theorem Prs.updT {H : Hp} {p : Addr} {kvs : List (List L2.Key × V)} {o : HO} (hp : H p = some (.dT kvs)) : ∀ {rs : List V} {ps : List (Nat × Nat)}, Prs H rs ps → Prs (L2.upd H p o) rs ps
  | _, _, .nil => .nil
  | _, _, .cons ⟨t, h1, h2⟩ r => .cons ⟨t, h1, by rw [upd_ne (ne_of h2 hp (by intro z; cases z))]; exact h2⟩ (Prs.updT hp r)
theorem RowsH.updT {H : Hp} {p : Addr} {kvs : List (List L2.Key × V)} {o : HO} (hp : H p = some (.dT kvs)) {rs : List V} {ps : List (List Int)} (h : RowsH H rs ps) : RowsH (L2.upd H p o) rs ps := RowsH.upd (fun r hr => by rw [hp] at hr; cases hr) h
theorem HasR.updT {H : Hp} {p : Addr} {kvs : List (List L2.Key × V)} {o : HO} (hp : H p = some (.dT kvs)) {rows : List (List Int)} {q : Addr} (h : HasR rows q H) : HasR rows q (L2.upd H p o) := by
  obtain ⟨rs, h1, h2⟩ := h
  exact ⟨rs, by rw [upd_ne (ne_of h1 hp (by intro z; cases z))]; exact h1, RowsH.updT hp h2⟩
theorem LvH.updT {H : Hp} {p : Addr} {kvs : List (List L2.Key × V)} {o : HO} (hp : H p = some (.dT kvs)) : ∀ {rs : List V} {ps : List (List (List Int))}, LvH H rs ps → LvH (L2.upd H p o) rs ps
  | _, _, .nil => .nil
  | _, _, .cons ⟨t, h1, h2⟩ r => .cons ⟨t, h1, h2.updT hp⟩ (LvH.updT hp r)
theorem HasLv.mono {H H' : Hp} {lvs : List (List (List Int))} {p : Addr} (e : Ex H H') (h : HasLv lvs p H) : HasLv lvs p H' := by
  obtain ⟨rs, h1, h2⟩ := h
  exact ⟨rs, e _ _ h1, h2.mono e⟩
theorem HasLv.updT {H : Hp} {p : Addr} {kvs : List (List L2.Key × V)} {o : HO} (hp : H p = some (.dT kvs)) {lvs : List (List (List Int))} {q : Addr} (h : HasLv lvs q H) : HasLv lvs q (L2.upd H p o) := by
  obtain ⟨rs, h1, h2⟩ := h
  exact ⟨rs, by rw [upd_ne (ne_of h1 hp (by intro z; cases z))]; exact h1, LvH.updT hp h2⟩
theorem LvH.updSelf {H : Hp} {p : Addr} {o : HO} {all : List V} (hp : H p = some (.lst all)) : ∀ {rs : List V} {ps : List (List (List Int))}, (∀ x ∈ rs, x ∈ all) → LvH H rs ps → LvH (L2.upd H p o) rs ps
  | _, _, _, .nil => .nil
  | _, _, hm, .cons ⟨q, h1, rs', h2, h3⟩ r => .cons ⟨q, h1, rs', by
      have hx := hm _ List.mem_cons_self
      have hq : q ≠ p := fun z => by
        rw [z, hp] at h2
        have ea : all = rs' := HO.lst.inj (Option.some.inj h2)
        have hx2 : V.ref p ∈ all := by
          rw [h1, z] at hx
          exact hx
        have hx3 : V.ref p ∈ rs' := ea ▸ hx2
        obtain ⟨i, hi, ei⟩ := List.getElem_of_mem hx3
        obtain ⟨r', t, _, e2, e3⟩ := h3.get (List.getElem?_eq_getElem hi)
        rw [ei] at e2
        cases e2
        rw [hp] at e3
        have eb : all = r'.map V.int := HO.lst.inj (Option.some.inj e3)
        rw [eb] at hx2
        obtain ⟨_, _, e⟩ := List.mem_map.mp hx2
        cases e
      rw [upd_ne hq]
      exact h2, by
      have hx := hm _ List.mem_cons_self
      refine RowsH.upd (fun r hr => ?_) h3
      rw [hp] at hr
      rw [HO.lst.inj (Option.some.inj hr), h1] at hx
      obtain ⟨_, _, e⟩ := List.mem_map.mp hx
      cases e⟩ (LvH.updSelf hp (fun x hx => hm x (List.mem_cons_of_mem _ hx)) r)
theorem LvH.refs {H : Hp} : ∀ {rs : List V} {ps : List (List (List Int))}, LvH H rs ps → ∀ x ∈ rs, ∃ t, x = .ref t
  | _, _, .nil, x, h => nomatch h
  | _, _, .cons ⟨t, h1, _⟩ r, x, h => by
    rcases List.mem_cons.mp h with e | e
    · exact ⟨t, e.trans h1⟩
    · exact LvH.refs r x e
theorem RowsH.updLv {H : Hp} {L : Addr} {ls : List V} {lvs : List (List (List Int))} {o : HO} (hL : H L = some (.lst ls)) (hls : LvH H ls lvs) : ∀ {rs : List V} {ps : List (List Int)}, (∀ r ∈ ps, r ≠ []) → RowsH H rs ps → RowsH (L2.upd H L o) rs ps
  | _, _, _, .nil => .nil
  | _, _, hne, .cons ⟨t, h1, h2⟩ r => .cons ⟨t, h1, by
      have ht : t ≠ L := fun z => by
        rw [z, hL] at h2
        have e := HO.lst.inj (Option.some.inj h2)
        have hn := hne _ List.mem_cons_self
        obtain ⟨a, b, eab⟩ := List.exists_cons_of_ne_nil hn
        rw [eab, List.map_cons] at e
        obtain ⟨u, hu⟩ := hls.refs (.int a) (by rw [e]; exact List.mem_cons_self)
        cases hu
      rw [upd_ne ht]
      exact h2⟩ (RowsH.updLv hL hls (fun x hx => hne x (List.mem_cons_of_mem _ hx)) r)
/-- the levels that a row has, all of them -/
def RetLv (ns : List Int) (H : Hp) (Q : VK) : Prop := ∀ N p H2, (∀ j, j < N → lv ns j ≠ []) → lv ns N = [] → H p = none → Ex H H2 → HasLv ((List.range N).map (lv ns)) p H2 → Q (.ref p) H2
end Eg

set_option Elab.async false
set_option linter.all false
set_option maxRecDepth 100000
set_option maxHeartbeats 2000000
namespace Eg
open PySem PySem.Spec PyProof.Rows L2 Evl
/-! # sorted rows -/
def leR (a b : List Int) : Bool := decide (a ≤ b)
def sortR (rows : List (List Int)) : List (List Int) := rows.mergeSort leR
theorem sortR_perm (rows : List (List Int)) : (sortR rows).Perm rows := List.mergeSort_perm rows leR
theorem sortR_sorted (rows : List (List Int)) : (sortR rows).Pairwise (fun a b => a ≤ b) := by
  have h := List.pairwise_mergeSort (le := leR) (fun a b c h1 h2 => decide_eq_true (List.le_trans (of_decide_eq_true h1) (of_decide_eq_true h2))) (fun a b => by
    unfold leR
    rcases List.le_total a b with h | h
    · rw [decide_eq_true h]; rfl
    · rw [decide_eq_true h, Bool.or_true]) rows
  exact h.imp fun h => of_decide_eq_true h
theorem sortR_eq {a b : List (List Int)} (h : a.Perm b) : sortR a = sortR b :=
  List.Perm.eq_of_pairwise (fun x y _ _ h1 h2 => List.le_antisymm h1 h2) (sortR_sorted a) (sortR_sorted b) (((sortR_perm a).trans h).trans (sortR_perm b).symm)
theorem sortR_same {a b : List (List Int)} (na : a.Nodup) (nb : b.Nodup) (h : ∀ r, r ∈ a ↔ r ∈ b) : sortR a = sortR b := sortR_eq ((List.perm_ext_iff_of_nodup na nb).mpr h)
theorem sortR_nodup {a : List (List Int)} (h : a.Nodup) : (sortR a).Nodup := (sortR_perm a).nodup_iff.mpr h
theorem mem_sortR {a : List (List Int)} {r : List Int} : r ∈ sortR a ↔ r ∈ a := (sortR_perm a).mem_iff
theorem sortR_len (a : List (List Int)) : (sortR a).length = a.length := (sortR_perm a).length_eq
/-- sorted(xs), xs a list of rows, each a list -/
def rSortedR : List V → Hp → VK → Prop := fun vs H Q => ∃ (a : Addr) (xs : List V) (rows : List (List Int)), vs = [V.ref a] ∧ H a = some (.lst xs) ∧ RowsH H xs rows ∧ ∀ ys p, RowsH H ys (sortR rows) → (∀ y ∈ ys, y ∈ xs) → H p = none → Q (.ref p) (upd H p (.lst ys))
section
variable {X : Cx}
theorem each_of {R : Value → V × List Int → Prop} : ∀ {us : List Value} {xs : List V} {rows : List (List Int)}, xs.length = us.length → xs.length = rows.length → (∀ (i : Nat) u x r, us[i]? = some u → xs[i]? = some x → rows[i]? = some r → R u (x, r)) → PySem.W.EachIs R us (xs.zip rows)
  | [], [], [], _, _, _ => .nil
  | u :: us, x :: xs, r :: rows, h1, h2, h => .cons (h 0 u x r rfl rfl rfl) (each_of (by simpa using h1) (by simpa using h2) fun i u x r a b c => h (i + 1) u x r (by simpa using a) (by simpa using b) (by simpa using c))
  | [], x :: xs, _, h1, _, _ => by simp at h1
  | u :: us, [], _, h1, _, _ => by simp at h1
  | _, [], r :: rows, _, h2, _ => by simp at h2
  | _, x :: xs, [], _, h2, _ => by simp at h2
theorem of_each {H : Hp} : ∀ {us : List Value} {bs : List (V × List Int)}, PySem.W.EachIs (fun u b => RelV b.1 u ∧ ∃ t, b.1 = .ref t ∧ H t = some (.lst (b.2.map V.int))) us bs → Vals (bs.map (·.1)) us ∧ RowsH H (bs.map (·.1)) (bs.map (·.2))
  | _, _, .nil => ⟨.nil, .nil⟩
  | _, _, .cons h r => by
    obtain ⟨a, b⟩ := of_each r
    exact ⟨.cons h.1 a, .cons h.2 b⟩
theorem cr_sortedR (hu : X.A.units + 64 < cLine) : CallR X (.builtin "sorted") rSortedR := by
  intro pins s σ H vs us Q I r h
  obtain ⟨a, xs, rows, rfl, hs, hx, q⟩ := h
  obtain ⟨its, rv, hl, hz⟩ := I.list (SqL.of hs)
  obtain ⟨u, rfl, ru⟩ := vals1 r
  obtain rfl : u = Value.ref a := ru
  have hxl := hx.length
  have hvl := rv.length
  have em : PySem.W.EachIs (fun u (b : V × List Int) => RelV b.1 u ∧ ∃ t, b.1 = .ref t ∧ H t = some (.lst (b.2.map V.int))) its (xs.zip rows) := each_of hvl hxl fun i u x r h1 h2 h3 => by
    obtain ⟨r', t, e1, e2, e3⟩ := hx.get h2
    rw [h3] at e1
    cases e1
    obtain ⟨u', e4, ru⟩ := Vals.get rv h2
    rw [h1] at e4
    cases e4
    exact ⟨ru, t, e2, e3⟩
  refine PySem.W.sorted_data (β := V × List Int) (enc := fun b => .list (b.2.map .int)) (R := fun u b => RelV b.1 u ∧ ∃ t, b.1 = .ref t ∧ H t = some (.lst (b.2.map V.int))) (bs := xs.zip rows) hl.isList em (em.mono fun u b hb => ?_) ?_ ?_ ?_ ?_ ?_
  · obtain ⟨r1, t, e1, e2⟩ := hb
    have hdp : Dp X.K H b.1 (.list (b.2.map .int)) := by
      rw [e1]
      exact ints_dp (SqL.of e2)
    exact Dp.reads I (.list (b.2.map .int)) b.1 u hdp r1
  · refine PySem.W.AllAlike.of fun b b' => ?_
    show PySem.W.alike (.list (b.2.map .int)) (.list (b'.2.map .int)) = true
    simp only [PySem.W.alike]
    exact PySem.W.alike_ints _ _
  · exact PySem.W.Sortable.others fun b => ⟨(fun z => nomatch z), (fun xs z => nomatch z)⟩
  · rw [List.length_zip, ← hxl, Nat.min_self]
    exact hz
  · intro b _
    have : (PyData.list (b.2.map .int)).depth = 1 := by
      simp only [PyData.depth]
      rw [PySem.W.depth_ints]
    rw [this]
    omega
  · intro out ho eo
    obtain ⟨c, hc⟩ := sortedAll_at s.heap its out.toArray
    obtain ⟨v1, v2⟩ := of_each eo
    have e1 : ((xs.zip rows).mergeSort (PySem.W.dataLe false fun b => .list (b.2.map .int))).map (·.2) = sortR rows := by
      rw [PySem.W.dataLe_rows (fun b : V × List Int => b.2)]
      have h3 := List.map_mergeSort (f := fun b : V × List Int => b.2) (r := fun p q => decide (p.2 ≤ q.2)) (s := leR) (l := xs.zip rows) (fun a _ b _ => rfl)
      rw [h3, show (xs.zip rows).map (fun b => b.2) = rows from List.map_snd_zip (by omega)]
      rfl
    rw [e1] at v2
    have hn := I.hok.fresh (Nat.le_succ s.heap.objs.size)
    have hlen := v1.length
    refine ⟨.ref (s.heap.objs.size + 1), _, I.laid (t' := s.toks) (o := .lst (((xs.zip rows).mergeSort (PySem.W.dataLe false fun b => .list (b.2.map .int))).map (·.1))) (fun b o e => sortedAll_old e) (Nat.le_succ _) ⟨?_, out, c, v1, hc⟩, rfl, q _ _ v2 (fun y hy => ?_) hn⟩
    · rw [hlen, ho, List.length_zip]
      omega
    · obtain ⟨b, hb, rfl⟩ := List.mem_map.mp hy
      have hb2 := (List.mergeSort_perm (xs.zip rows) _).mem_iff.mp hb
      exact (List.of_mem_zip hb2).1
end
end Eg

set_option Elab.async false
set_option linter.all false
set_option maxRecDepth 100000
set_option maxHeartbeats 2000000
namespace Eg
open PySem PySem.Spec PyProof.Rows L2 Evl
/-! # settled rows: when they come, which they are -/
theorem lv_next_nil {ns : List Int} {k : Nat} (h : lv ns k = []) : ∀ j, k ≤ j → lv ns j = []
  | 0, hj => by
    have : k = 0 := by omega
    rw [this] at h
    exact h
  | j + 1, hj => by
    by_cases e : k = j + 1
    · rw [← e]
      exact h
    · have ih := lv_next_nil h j (by omega)
      show nextR (lv ns j) = []
      rw [ih]
      rfl
theorem lv_far {ns : List Int} (h : Sm ns) {k : Nat} (hk : 2001 ≤ k) : lv ns k = [] := by
  cases e : lv ns k with
  | nil => rfl
  | cons a r =>
    have h1 := lv_short (ns := ns) (k := k) (by rw [e]; exact List.cons_ne_nil _ _)
    have h2 := sqs_sm h
    omega
def SetAt (ns : List Int) (k : Nat) : Prop := ∃ r ∈ lv ns k, canL r = []
/-- the first and the last count of evenings behind which it is settled -/
def FM (ns : List Int) (lo hi : Int) : Prop := ∃ a b : Nat, lo = a ∧ hi = b ∧ SetAt ns a ∧ SetAt ns b ∧ ∀ k, SetAt ns k → a ≤ k ∧ k ≤ b
theorem FM.uniq {ns : List Int} {a b c d : Int} (h : FM ns a b) (g : FM ns c d) : a = c ∧ b = d := by
  obtain ⟨x, y, rfl, rfl, h1, h2, h3⟩ := h
  obtain ⟨z, w, rfl, rfl, g1, g2, g3⟩ := g
  have a1 := h3 z g1
  have a2 := h3 w g2
  have b1 := g3 x h1
  have b2 := g3 y h2
  omega
def lastF (acc : List (List Int)) (r : List Int) : List (List Int) := if canL r = [] then putR acc r else acc
def lastG (rows acc : List (List Int)) : List (List Int) := rows.foldl lastF acc
def upTo (ns : List Int) (N : Nat) : List (List Int) := (List.range N).flatMap (lv ns)
theorem upTo_succ (ns : List Int) (N : Nat) : upTo ns (N + 1) = upTo ns N ++ lv ns N := by
  unfold upTo
  rw [List.range_succ, List.flatMap_append]
  simp
theorem mem_lastG {x : List Int} : ∀ {rows acc : List (List Int)}, x ∈ lastG rows acc ↔ x ∈ acc ∨ (x ∈ rows ∧ canL x = [])
  | [], acc => by simp [lastG]
  | r :: rows, acc => by
    show x ∈ lastG rows (lastF acc r) ↔ _
    rw [mem_lastG]
    unfold lastF
    split
    · rename_i h
      rw [mem_putR]
      constructor
      · rintro ((h1 | rfl) | ⟨h1, h2⟩)
        · exact .inl h1
        · exact .inr ⟨List.mem_cons_self, h⟩
        · exact .inr ⟨List.mem_cons_of_mem _ h1, h2⟩
      · rintro (h1 | ⟨h1, h2⟩)
        · exact .inl (.inl h1)
        · rcases List.mem_cons.mp h1 with e | e
          · exact .inl (.inr e)
          · exact .inr ⟨e, h2⟩
    · rename_i h
      constructor
      · rintro (h1 | ⟨h1, h2⟩)
        · exact .inl h1
        · exact .inr ⟨List.mem_cons_of_mem _ h1, h2⟩
      · rintro (h1 | ⟨h1, h2⟩)
        · exact .inl h1
        · rcases List.mem_cons.mp h1 with e | e
          · rw [e] at h2
            exact absurd h2 h
          · exact .inr ⟨e, h2⟩
theorem nodup_lastG : ∀ {rows acc : List (List Int)}, acc.Nodup → (lastG rows acc).Nodup
  | [], _, h => h
  | r :: rows, acc, h => nodup_lastG (rows := rows) (acc := lastF acc r) (by
    unfold lastF
    split
    · exact nodup_putR h
    · exact h)
theorem lastG_app (a b acc : List (List Int)) : lastG (a ++ b) acc = lastG b (lastG a acc) := by
  unfold lastG
  rw [List.foldl_append]
/-- all settled rows that it can come to, in order -/
def setR (ns : List Int) : List (List Int) := lastG (upTo ns 2001) []
def endsL (ns : List Int) : List (List Int) := sortR (setR ns)
theorem mem_upTo {ns x : List Int} {N : Nat} : x ∈ upTo ns N ↔ ∃ k, k < N ∧ x ∈ lv ns k := by
  unfold upTo
  simp [List.mem_flatMap, List.mem_range]
theorem mem_setR {ns x : List Int} (h : Sm ns) : x ∈ setR ns ↔ canL x = [] ∧ ∃ k, x ∈ lv ns k := by
  unfold setR
  rw [mem_lastG, mem_upTo]
  constructor
  · rintro (h1 | ⟨⟨k, _, h1⟩, h2⟩)
    · cases h1
    · exact ⟨h2, k, h1⟩
  · rintro ⟨h1, k, h2⟩
    refine .inr ⟨⟨k, ?_, h2⟩, h1⟩
    by_cases hk : k < 2001
    · exact hk
    · rw [lv_far h (by omega)] at h2
      cases h2
theorem nodup_setR (ns : List Int) : (setR ns).Nodup := nodup_lastG List.Pairwise.nil
theorem mem_endsL {ns x : List Int} (h : Sm ns) : x ∈ endsL ns ↔ canL x = [] ∧ ∃ k, x ∈ lv ns k := mem_sortR.trans (mem_setR h)
theorem nodup_endsL (ns : List Int) : (endsL ns).Nodup := sortR_nodup (nodup_setR ns)
/-- what the law gathers, N the count of levels -/
theorem ends_of_levels {ns : List Int} (h : Sm ns) {N : Nat} (hN : lv ns N = []) : sortR (lastG (upTo ns N) []) = endsL ns := by
  refine sortR_same (nodup_lastG List.Pairwise.nil) (nodup_setR ns) fun r => ?_
  rw [mem_lastG, mem_setR h, mem_upTo]
  constructor
  · rintro (h1 | ⟨⟨k, _, h1⟩, h2⟩)
    · cases h1
    · exact ⟨h2, k, h1⟩
  · rintro ⟨h1, k, h2⟩
    refine .inr ⟨⟨k, ?_, h2⟩, h1⟩
    by_cases hk : k < N
    · exact hk
    · rw [lv_next_nil hN k (by omega)] at h2
      cases h2
/-! ### the counts -/
def cntK (ns : List Int) (k m : Nat) : List Int := (((lv ns k).take m).filter fun r => decide (canL r = [])).map fun _ => (k : Int)
def cntL (ns : List Int) (N : Nat) : List Int := (List.range N).flatMap fun k => cntK ns k (lv ns k).length
theorem cntL_succ (ns : List Int) (N : Nat) : cntL ns (N + 1) = cntL ns N ++ cntK ns N (lv ns N).length := by
  unfold cntL
  rw [List.range_succ, List.flatMap_append]
  simp
theorem cntK_yes {ns r : List Int} {k m : Nat} (h : (lv ns k)[m]? = some r) (hr : canL r = []) : cntK ns k (m + 1) = cntK ns k m ++ [(k : Int)] := by
  unfold cntK
  rw [List.take_add_one, h, List.filter_append, List.map_append]
  simp [hr]
theorem cntK_no {ns r : List Int} {k m : Nat} (h : (lv ns k)[m]? = some r) (hr : canL r ≠ []) : cntK ns k (m + 1) = cntK ns k m := by
  unfold cntK
  rw [List.take_add_one, h, List.filter_append, List.map_append]
  simp [hr]
theorem mem_cntL {ns : List Int} {N : Nat} {c : Int} : c ∈ cntL ns N ↔ ∃ k : Nat, c = k ∧ k < N ∧ SetAt ns k := by
  unfold cntL cntK SetAt
  simp only [List.mem_flatMap, List.mem_range, List.mem_map, List.mem_filter, decide_eq_true_iff, List.take_length]
  constructor
  · rintro ⟨k, hk, r, ⟨h1, h2⟩, rfl⟩
    exact ⟨k, rfl, hk, r, h1, h2⟩
  · rintro ⟨k, rfl, hk, r, h1, h2⟩
    exact ⟨k, hk, r, ⟨h1, h2⟩, rfl⟩
theorem setAt_lt {ns : List Int} {N k : Nat} (hN : lv ns N = []) (h : SetAt ns k) : k < N := by
  obtain ⟨r, hr, _⟩ := h
  by_cases hk : k < N
  · exact hk
  · rw [lv_next_nil hN k (by omega)] at hr
    cases hr
/-- the last level is settled -/
theorem setAt_last {ns : List Int} {N : Nat} (h0 : lv ns N ≠ []) (h1 : lv ns (N + 1) = []) : SetAt ns N := by
  obtain ⟨r, hr⟩ := List.exists_mem_of_ne_nil _ h0
  refine ⟨r, hr, ?_⟩
  cases e : canL r with
  | nil => rfl
  | cons p q =>
    exfalso
    have : evL r p.1 p.2 ∈ lv ns (N + 1) := mem_nextR.mpr ⟨r, hr, p, by rw [e]; exact List.mem_cons_self, rfl⟩
    rw [h1] at this
    cases this
theorem cnt_FM {ns : List Int} {N : Nat} (hN : lv ns N = []) {lo hi : Int} (h1 : lo ∈ cntL ns N) (h2 : ∀ y ∈ cntL ns N, lo ≤ y) (h3 : hi ∈ cntL ns N) (h4 : ∀ y ∈ cntL ns N, y ≤ hi) : FM ns lo hi := by
  obtain ⟨a, rfl, _, sa⟩ := mem_cntL.mp h1
  obtain ⟨b, rfl, _, sb⟩ := mem_cntL.mp h3
  refine ⟨a, b, rfl, rfl, sa, sb, fun k hk => ?_⟩
  have hm : (k : Int) ∈ cntL ns N := mem_cntL.mpr ⟨k, rfl, setAt_lt hN hk, hk⟩
  have g1 := h2 _ hm
  have g2 := h4 _ hm
  omega
theorem cnt_pos {ns : List Int} {N : Nat} (hne : ∀ j, j < N → lv ns j ≠ []) (hN : lv ns N = []) : 0 < (cntL ns N).length := by
  cases N with
  | zero => exact absurd hN (List.cons_ne_nil _ _)
  | succ n =>
    have h := setAt_last (hne n (by omega)) hN
    have hm : (n : Int) ∈ cntL ns (n + 1) := mem_cntL.mpr ⟨n, rfl, by omega, h⟩
    exact List.length_pos_of_mem hm
/-! ### sums stay -/
theorem sum_evL {ns : List Int} {p : Nat × Nat} (hp : p ∈ canL ns) : (evL ns p.1 p.2).sum = ns.sum := by
  obtain ⟨h1, h2, h3⟩ := mem_canL.mp hp
  obtain ⟨_, he⟩ := okP_iff.mp h3
  unfold evL
  have e1 : (ns.set p.1 (halfL ns p.1 p.2))[p.2]? = some (ns.getD p.2 0) := by
    rw [List.getElem?_set_ne (by omega)]
    exact gD_at h2
  rw [sum_set e1, sum_set (gD_at (by omega : p.1 < ns.length))]
  unfold halfL
  omega
theorem sum_lv {ns : List Int} : ∀ k, ∀ r ∈ lv ns k, r.sum = ns.sum
  | 0, r, hr => by rw [List.mem_singleton.mp hr]
  | k + 1, r, hr => by
    obtain ⟨q, hq, p, hp, rfl⟩ := mem_nextR.mp hr
    rw [sum_evL hp, sum_lv k q hq]
/-! ### turned about -/
theorem getD_rev {ns : List Int} {i : Nat} (h : i < ns.length) : ns.reverse.getD i 0 = ns.getD (ns.length - 1 - i) 0 := by
  rw [List.getD_eq_getElem?_getD, List.getElem?_reverse h, ← List.getD_eq_getElem?_getD]
theorem mem_can_rev {ns : List Int} {p : Nat × Nat} (hp : p ∈ canL ns) : (ns.length - 1 - p.2, ns.length - 1 - p.1) ∈ canL ns.reverse := by
  obtain ⟨h1, h2, h3⟩ := mem_canL.mp hp
  refine mem_canL.mpr ⟨by show ns.length - 1 - p.2 < ns.length - 1 - p.1; omega, by rw [List.length_reverse]; show ns.length - 1 - p.1 < ns.length; omega, ?_⟩
  rw [okP_iff] at h3 ⊢
  show ns.reverse.getD (ns.length - 1 - p.2) 0 ≠ ns.reverse.getD (ns.length - 1 - p.1) 0 ∧ (ns.reverse.getD (ns.length - 1 - p.2) 0 + ns.reverse.getD (ns.length - 1 - p.1) 0) % 2 = 0
  rw [getD_rev (by omega), getD_rev (by omega), show ns.length - 1 - (ns.length - 1 - p.2) = p.2 by omega, show ns.length - 1 - (ns.length - 1 - p.1) = p.1 by omega]
  exact ⟨fun z => h3.1 z.symm, by have := h3.2; omega⟩
theorem evL_rev {ns : List Int} {i j : Nat} (hij : i < j) (hj : j < ns.length) : evL ns.reverse (ns.length - 1 - j) (ns.length - 1 - i) = (evL ns i j).reverse := by
  have hh : halfL ns.reverse (ns.length - 1 - j) (ns.length - 1 - i) = halfL ns i j := by
    unfold halfL
    rw [getD_rev (by omega), getD_rev (by omega), show ns.length - 1 - (ns.length - 1 - j) = j by omega, show ns.length - 1 - (ns.length - 1 - i) = i by omega]
    congr 1
    omega
  refine List.ext_getElem? fun m => ?_
  unfold evL
  rw [hh]
  by_cases hm : m < ns.length
  · rw [List.getElem?_reverse (by rw [List.length_set, List.length_set]; exact hm), List.length_set, List.length_set]
    simp only [List.getElem?_set, List.length_set, List.length_reverse]
    by_cases h1 : ns.length - 1 - i = m
    · have e1 : i = ns.length - 1 - m := by omega
      have e2 : ¬ j = ns.length - 1 - m := by omega
      rw [if_pos h1, if_neg e2, if_pos e1, if_pos (by omega), if_pos (by omega)]
    · by_cases h2 : ns.length - 1 - j = m
      · have e1 : j = ns.length - 1 - m := by omega
        rw [if_neg h1, if_pos h2, if_pos e1, if_pos (by omega), if_pos (by omega)]
      · rw [if_neg h1, if_neg h2, if_neg (by omega), if_neg (by omega), List.getElem?_reverse hm]
  · rw [List.getElem?_eq_none (by rw [List.length_set, List.length_set, List.length_reverse]; omega), List.getElem?_eq_none (by rw [List.length_reverse, List.length_set, List.length_set]; omega)]
theorem lv_rev {ns : List Int} : ∀ k, ∀ r ∈ lv ns k, r.reverse ∈ lv ns.reverse k
  | 0, r, hr => by
    rw [List.mem_singleton.mp hr]
    exact List.mem_singleton.mpr rfl
  | k + 1, r, hr => by
    obtain ⟨q, hq, p, hp, rfl⟩ := mem_nextR.mp hr
    obtain ⟨h1, h2, _⟩ := mem_canL.mp hp
    exact mem_nextR.mpr ⟨q.reverse, lv_rev k q hq, _, mem_can_rev hp, (evL_rev h1 h2).symm⟩
theorem Sm.rev {ns : List Int} (h : Sm ns) : Sm ns.reverse := ⟨by rw [List.length_reverse]; exact h.1, by rw [List.length_reverse]; exact h.2.1, fun x hx => h.2.2 x (List.mem_reverse.mp hx)⟩
theorem setAt_rev {ns : List Int} {k : Nat} : SetAt ns.reverse k ↔ SetAt ns k := by
  have key : ∀ ns : List Int, SetAt ns k → SetAt ns.reverse k := fun ns ⟨r, h1, h2⟩ => ⟨r.reverse, lv_rev k r h1, can_rev.mpr h2⟩
  constructor
  · intro h
    have := key _ h
    rwa [List.reverse_reverse] at this
  · exact key ns
theorem FM.rev {ns : List Int} {lo hi : Int} (h : FM ns lo hi) : FM ns.reverse lo hi := by
  obtain ⟨a, b, e1, e2, h1, h2, h3⟩ := h
  exact ⟨a, b, e1, e2, setAt_rev.mpr h1, setAt_rev.mpr h2, fun k hk => h3 k (setAt_rev.mp hk)⟩
theorem ends_rev {ns : List Int} (h : Sm ns) : sortR ((endsL ns).map List.reverse) = endsL ns.reverse := by
  refine sortR_same ?_ (nodup_setR _) fun r => ?_
  · refine List.pairwise_map.mpr ((nodup_endsL ns).imp fun {a b} hne e => hne ?_)
    have := congrArg List.reverse e
    rwa [List.reverse_reverse, List.reverse_reverse] at this
  · rw [mem_setR h.rev]
    constructor
    · intro hr
      obtain ⟨q, hq, rfl⟩ := List.mem_map.mp hr
      obtain ⟨h1, k, h2⟩ := (mem_endsL h).mp hq
      exact ⟨can_rev.mpr h1, k, lv_rev k q h2⟩
    · rintro ⟨h1, k, h2⟩
      refine List.mem_map.mpr ⟨r.reverse, (mem_endsL h).mpr ⟨can_rev.mpr h1, k, ?_⟩, List.reverse_reverse r⟩
      have := lv_rev k r h2
      rwa [List.reverse_reverse] at this
end Eg

set_option Elab.async false
set_option linter.all false
set_option maxRecDepth 100000
set_option maxHeartbeats 2000000
namespace Eg
open PySem PySem.Spec PyProof.Rows L2 Evl
/-! # how many rows, by their greatest number -/
def codeB (b : Nat) : List Int → Nat
  | [] => 0
  | x :: r => x.toNat + b * codeB b r
theorem codeB_inj {g : Nat} : ∀ {a b : List Int}, a.length = b.length → (∀ x ∈ a, 0 ≤ x ∧ x ≤ (g : Int)) → (∀ x ∈ b, 0 ≤ x ∧ x ≤ (g : Int)) → codeB (g + 1) a = codeB (g + 1) b → a = b
  | [], [], _, _, _, _ => rfl
  | [], y :: b, h, _, _, _ => by simp at h
  | x :: a, [], h, _, _, _ => by simp at h
  | x :: a, y :: b, h, ha, hb, e => by
    have h1 := ha x List.mem_cons_self
    have h2 := hb y List.mem_cons_self
    unfold codeB at e
    have m1 : (x.toNat + (g + 1) * codeB (g + 1) a) % (g + 1) = x.toNat := by
      rw [Nat.add_mul_mod_self_left]
      exact Nat.mod_eq_of_lt (by omega)
    have m2 : (y.toNat + (g + 1) * codeB (g + 1) b) % (g + 1) = y.toNat := by
      rw [Nat.add_mul_mod_self_left]
      exact Nat.mod_eq_of_lt (by omega)
    have e2 : x = y := by
      rw [e, m2] at m1
      omega
    have e1 : codeB (g + 1) a = codeB (g + 1) b := by
      rw [e2] at e
      exact Nat.eq_of_mul_eq_mul_left (Nat.succ_pos g) (Nat.add_left_cancel e)
    rw [e2, codeB_inj (by simpa using h) (fun z hz => ha z (List.mem_cons_of_mem _ hz)) (fun z hz => hb z (List.mem_cons_of_mem _ hz)) e1]
theorem codeB_lt {g : Nat} : ∀ {a : List Int}, (∀ x ∈ a, 0 ≤ x ∧ x ≤ (g : Int)) → codeB (g + 1) a < (g + 1) ^ a.length
  | [], _ => by simp [codeB]
  | x :: a, h => by
    have h1 := h x List.mem_cons_self
    have h2 := codeB_lt (g := g) (a := a) fun z hz => h z (List.mem_cons_of_mem _ hz)
    unfold codeB
    rw [List.length_cons, Nat.pow_succ]
    have h3 : (g + 1) * (codeB (g + 1) a + 1) ≤ (g + 1) * (g + 1) ^ a.length := Nat.mul_le_mul_left _ h2
    rw [Nat.mul_add, Nat.mul_one] at h3
    rw [Nat.mul_comm ((g + 1) ^ a.length)]
    omega
theorem rows_fewG {g n : Nat} {rows : List (List Int)} (nd : rows.Nodup) (h : ∀ r ∈ rows, (∀ x ∈ r, 0 ≤ x ∧ x ≤ (g : Int)) ∧ r.length = n) : rows.length ≤ (g + 1) ^ n := by
  have h1 : (rows.map (codeB (g + 1))).Nodup := by
    refine List.pairwise_map.mpr (List.Pairwise.imp_of_mem (fun {a b} ha hb hne e => hne ?_) nd)
    obtain ⟨sa, la⟩ := h a ha
    obtain ⟨sb, lb⟩ := h b hb
    exact codeB_inj (la.trans lb.symm) sa sb e
  have h2 := nodup_lt ((g + 1) ^ n) (rows.map (codeB (g + 1))) h1 fun x hx => by
    obtain ⟨r, hr, rfl⟩ := List.mem_map.mp hx
    obtain ⟨sr, lr⟩ := h r hr
    rw [← lr]
    exact codeB_lt sr
  rw [List.length_map] at h2
  exact h2
theorem lv_in {ns : List Int} {g : Int} (h : ∀ x ∈ ns, 0 ≤ x ∧ x ≤ g) : ∀ k, ∀ r ∈ lv ns k, (∀ x ∈ r, 0 ≤ x ∧ x ≤ g) ∧ r.length = ns.length
  | 0, r, hr => by
    rw [List.mem_singleton.mp hr]
    exact ⟨h, rfl⟩
  | k + 1, r, hr => by
    obtain ⟨q, hq, p, hp, rfl⟩ := mem_nextR.mp hr
    obtain ⟨h1, h2⟩ := lv_in h k q hq
    obtain ⟨g1, g2, _⟩ := mem_canL.mp hp
    exact ⟨evL_in (by omega) g2 h1, by rw [evL_length]; exact h2⟩
theorem lv_fewG {ns : List Int} {g : Nat} (h : ∀ x ∈ ns, 0 ≤ x ∧ x ≤ (g : Int)) (k : Nat) : (lv ns k).length ≤ (g + 1) ^ ns.length := rows_fewG (lv_nodup ns k) (lv_in h k)
theorem sqs_le {g : Nat} : ∀ {l : List Int}, (∀ x ∈ l, 0 ≤ x ∧ x ≤ (g : Int)) → sqs l ≤ (g * g * l.length : Nat)
  | [], _ => by simp [sqs]
  | a :: r, hl => by
    have h1 := sqs_le (g := g) (l := r) fun x hx => hl x (List.mem_cons_of_mem _ hx)
    have h2 := hl a List.mem_cons_self
    have h3 : a * a ≤ (g : Int) * g := Int.mul_le_mul h2.2 h2.2 h2.1 (by omega)
    unfold sqs at h1 ⊢
    rw [List.map_cons, List.sum_cons, List.length_cons]
    have e : ((g * g * (r.length + 1) : Nat) : Int) = ((g * g * r.length : Nat) : Int) + (g : Int) * g := by
      rw [Nat.mul_add, Nat.mul_one]
      omega
    omega
theorem cntK_len (ns : List Int) (k m : Nat) : (cntK ns k m).length ≤ (lv ns k).length := by
  unfold cntK
  rw [List.length_map]
  refine Nat.le_trans (List.length_filter_le _ _) ?_
  rw [List.length_take]
  exact Nat.min_le_right _ _
theorem cntL_len {ns : List Int} {M : Nat} (h : ∀ k, (lv ns k).length ≤ M) : ∀ N, (cntL ns N).length ≤ N * M
  | 0 => by simp [cntL]
  | N + 1 => by
    have ih := cntL_len h N
    have h2 := cntK_len ns N (lv ns N).length
    have h3 := h N
    rw [cntL_succ, List.length_append, Nat.add_mul, Nat.one_mul]
    omega
/-- the rows that are drawn for a search: few enough to be counted one by one -/
structure Few (ns : List Int) : Prop where
  sm : Sm ns
  m : ∃ M, (∀ k, (lv ns k).length ≤ M) ∧ ((sqs ns).toNat + 1) * M < 16777216
theorem few_of {ns : List Int} {g : Nat} (h1 : 1 ≤ ns.length) (hx : ∀ x ∈ ns, 0 ≤ x ∧ x ≤ (g : Int)) (h : (ns.length ≤ 4 ∧ g ≤ 12) ∨ (ns.length ≤ 5 ∧ g ≤ 6)) : Few ns := by
  have sm : Sm ns := ⟨h1, by omega, fun x hm => by have := hx x hm; omega⟩
  have hs := sqs_le hx
  have hn := sqs_nn ns
  rcases h with ⟨a, b⟩ | ⟨a, b⟩
  · refine ⟨sm, 28561, fun k => ?_, ?_⟩
    · refine Nat.le_trans (lv_fewG hx k) ?_
      calc (g + 1) ^ ns.length ≤ 13 ^ ns.length := Nat.pow_le_pow_left (by omega) _
        _ ≤ 13 ^ 4 := Nat.pow_le_pow_right (by decide) a
        _ = 28561 := by decide
    · have h2 : g * g * ns.length ≤ 12 * 12 * 4 := Nat.mul_le_mul (Nat.mul_le_mul b b) a
      omega
  · refine ⟨sm, 16807, fun k => ?_, ?_⟩
    · refine Nat.le_trans (lv_fewG hx k) ?_
      calc (g + 1) ^ ns.length ≤ 7 ^ ns.length := Nat.pow_le_pow_left (by omega) _
        _ ≤ 7 ^ 5 := Nat.pow_le_pow_right (by decide) a
        _ = 16807 := by decide
    · have h2 : g * g * ns.length ≤ 6 * 6 * 5 := Nat.mul_le_mul (Nat.mul_le_mul b b) a
      omega
theorem Few.cnt {ns : List Int} (h : Few ns) {k m : Nat} (hne : ∀ j, j < k → lv ns j ≠ []) (hk : lv ns k ≠ []) : (cntL ns k ++ cntK ns k m).length < sizeLine := by
  obtain ⟨M, h1, h2⟩ := h.m
  have h3 := cntL_len h1 k
  have h4 := cntK_len ns k m
  have h5 := h1 k
  have h6 := lv_short hk
  have h7 : (k + 1) * M ≤ ((sqs ns).toNat + 1) * M := Nat.mul_le_mul_right _ (by omega)
  rw [Nat.add_mul, Nat.one_mul] at h7
  rw [List.length_append]
  have e : sizeLine = 16777216 := by decide
  omega
/-! ### all but two stay -/
def ExE (d p : Addr) (H H' : Hp) : Prop := ∀ a o, a ≠ d → a ≠ p → H a = some o → H' a = some o
theorem ExE.of {d p : Addr} {H H' : Hp} (e : Ex H H') : ExE d p H H' := fun a o _ _ h => e a o h
theorem ExE.trans {d p : Addr} {H H1 H2 : Hp} (a : ExE d p H H1) (b : ExE d p H1 H2) : ExE d p H H2 := fun x o h1 h2 h => b x o h1 h2 (a x o h1 h2 h)
theorem ExE.d {d p : Addr} {H H' : Hp} {o : HO} (e : ExE d p H H') : ExE d p H (upd H' d o) := fun a u h1 h2 h => by
  rw [upd_ne h1]
  exact e a u h1 h2 h
theorem ExE.p {d p : Addr} {H H' : Hp} {o : HO} (e : ExE d p H H') : ExE d p H (upd H' p o) := fun a u h1 h2 h => by
  rw [upd_ne h2]
  exact e a u h1 h2 h
/-- where neither was known, nothing known is lost -/
theorem ExE.ex {d p : Addr} {H0 H H' : Hp} (e : ExE d p H H') (h0 : Ex H0 H) (hd : H0 d = none) (hp : H0 p = none) : Ex H0 H' := fun a o h => e a o (ne_of_none h hd) (ne_of_none h hp) (h0 a o h)
theorem rowsH_exE {d p : Addr} {H H' : Hp} {kvs : List (List L2.Key × V)} (e : ExE d p H H') (hd : H d = some (.dT kvs)) (hp : H p = some (.lst [])) : ∀ {rs : List V} {ps : List (List Int)}, (∀ r ∈ ps, r ≠ []) → RowsH H rs ps → RowsH H' rs ps
  | _, _, _, .nil => .nil
  | _, _, hne, .cons ⟨t, h1, h2⟩ r => .cons ⟨t, h1, e t _ (ne_of h2 hd (by intro z; cases z)) (fun z => by
      rw [z, hp] at h2
      have := HO.lst.inj (Option.some.inj h2)
      exact hne _ List.mem_cons_self (List.map_eq_nil_iff.mp this.symm)) h2⟩ (rowsH_exE e hd hp (fun x hx => hne x (List.mem_cons_of_mem _ hx)) r)
theorem lvH_exE {d p : Addr} {H H' : Hp} {kvs : List (List L2.Key × V)} (e : ExE d p H H') (hd : H d = some (.dT kvs)) (hp : H p = some (.lst [])) : ∀ {rs : List V} {ps : List (List (List Int))}, (∀ l ∈ ps, l ≠ [] ∧ ∀ r ∈ l, r ≠ []) → LvH H rs ps → LvH H' rs ps
  | _, _, _, .nil => .nil
  | _, _, hne, .cons ⟨q, h1, rs', h2, h3⟩ r => .cons ⟨q, h1, rs', e q _ (ne_of h2 hd (by intro z; cases z)) (fun z => by
      rw [z, hp] at h2
      have := HO.lst.inj (Option.some.inj h2)
      have hl := h3.length
      rw [← this] at hl
      exact (hne _ List.mem_cons_self).1 (List.length_eq_zero_iff.mp hl.symm)) h2, rowsH_exE e hd hp (hne _ List.mem_cons_self).2 h3⟩ (lvH_exE e hd hp (fun x hx => hne x (List.mem_cons_of_mem _ hx)) r)

/-! ### more readings -/
section
variable {K : PySem.W.Frag} {σ : L2.St} {H H' : Hp} {ta tb tc td te tk tv : TE} {t u : TT} {x y z v : V} {D : Ends} {tz tu : TS}
theorem q_par3N {i j l : Nat} {R R' R'' : Addr → Hp → Prop} (h : TrN ta σ H R) (g : ∀ H1, Ex H H1 → TrN tb σ H1 R') (f : ∀ H1, Ex H H1 → TrN tc σ H1 R'') (k : ∀ p q r H1 H2 H3, H p = none → Ex H H1 → R p H1 → H1 q = none → Ex H1 H2 → R' q H2 → H2 r = none → Ex H2 H3 → R'' r H3 → tz D (((σ.set i (some (.ref p))).set j (some (.ref q))).set l (some (.ref r))) H3) :
    tSeq (tPar3 i j l (tCons ta (tCons tb (tCons tc tNil)))) tz D σ H :=
  h H (Ex.refl H) _ fun p H1 hp e1 r1 => g H1 e1 H1 (Ex.refl H1) _ fun q H2 hq e2 r2 => f H2 (e1.trans e2) H2 (Ex.refl H2) _ fun r H3 hr e3 r3 => ⟨_, _, _, rfl, k p q r H1 H2 H3 hp e1 r1 hq e2 r2 hr e3 r3⟩
theorem s_appZ {l : Addr} {xs : List V} (hl : H l = some (.lst xs)) (ha : Ev ta σ H (.ref l)) (h : Ev te σ H v) (hz : xs.length < sizeLine) (k : ∀ H1, Ex H H1 → D.nx σ (upd H1 l (.lst (xs ++ [v])))) :
    tDrop (tBM K "list" rAppend ta (tCons te tNil)) D σ H := ha H (Ex.refl H) _ fun H1 e1 =>
  ⟨Or.inl ⟨rfl, xs, sq_of (e1 l _ hl)⟩, h H1 e1 _ fun H2 e2 => ⟨l, xs, v, rfl, rfl, e2 l _ (e1 l _ hl), hz, k H2 (e1.trans e2)⟩⟩
theorem s_appNZ {l : Addr} {xs : List V} {R : Addr → Hp → Prop} (hl : H l = some (.lst xs)) (ha : Ev ta σ H (.ref l)) (h : ∀ H1, Ex H H1 → TrN te σ H1 R) (hz : xs.length < sizeLine) (k : ∀ p H1, H p = none → Ex H H1 → R p H1 → D.nx σ (upd H1 l (.lst (xs ++ [.ref p])))) :
    tDrop (tBM K "list" rAppend ta (tCons te tNil)) D σ H := ha H (Ex.refl H) _ fun H1 e1 =>
  ⟨Or.inl ⟨rfl, xs, sq_of (e1 l _ hl)⟩, h H1 e1 H1 (Ex.refl _) _ fun p H2 hp e2 h2 => ⟨l, xs, .ref p, rfl, rfl, e2 l _ (e1 l _ hl), hz, k p H2 (fresh_back e1 hp) (e1.trans e2) h2⟩⟩
theorem q_putD {d : Addr} {rows : List (List Int)} {r : List Int} (hd : HasD rows d H) (hv : Ev tv σ H (.bl true)) (ho : ∀ H1, Ex H H1 → Ev td σ H1 (.ref d)) (hk : ∀ H1, Ex H H1 → EvU tk σ H1 (r.map V.int)) (hz : rows.length < sizeLine)
    (k : ∀ H1, Ex H H1 → tz D σ (upd H1 d (.dT (encD (putR rows r))))) : tSeq (sDPut td tk tv) tz D σ H := s_putD (D := { D with nx := tz D }) hd hv ho hk hz k
/-- a new list == [] -/
theorem ev_isNilN {R : Addr → Hp → Prop} {ds : List PyData} (ha : TrN ta σ H R) (hR : ∀ p H1, R p H1 → ∃ rs, H1 p = some (.lst rs) ∧ DpAll K H1 rs ds) {k : Nat} (l : Lay k (.list ds)) (hk : k ≤ 64 := by decide) : Ev (tOp (rEqD K) ta (tLst tNil)) σ H (.bl (decide (ds = []))) := fun H1 e Q q =>
  ha H1 e _ fun p H2 hp e2 r => by
    obtain ⟨rs, h1, h2⟩ := hR p H2 r
    exact (ev_isNil (K := K) (ta := tC (.ref p)) (σ := σ) ev_c (SqL.of h1) h2 l hk) H2 (Ex.refl H2) Q fun H3 e3 => q H3 (e2.trans e3)
theorem tn_sortedR {rows : List (List Int)} (h : TrN te σ H (HasR rows)) : TrN (tCB rSortedR (tCons te tNil)) σ H (HasR (sortR rows)) := fun H1 e Q q =>
  h H1 e _ fun p H2 hp e2 ⟨rs, h1, h2⟩ => ⟨p, rs, rows, rfl, h1, h2, fun ys r hy _ hr => q r _ (fresh_back e2 hr) (e2.trans (Ex.new hr)) ⟨ys, upd_same, hy.mono (Ex.new hr)⟩⟩
theorem tv_min {p : Addr} {ns : List Int} (ha : Ev ta σ H (.ref p)) (h : SqL K H p (ns.map V.int)) (hn : 0 < ns.length) : TrV (tCB (rMin K) (tCons ta tNil)) σ H fun v => ∃ m, v = .int m ∧ m ∈ ns ∧ ∀ y ∈ ns, m ≤ y := fun H1 e Q q =>
  ha H1 e _ fun H2 e2 => ⟨p, ns, rfl, ex_l (e.trans e2) h, hn, fun m h1 h2 => q _ H2 e2 ⟨m, rfl, h1, h2⟩⟩
theorem tv_max {p : Addr} {ns : List Int} (ha : Ev ta σ H (.ref p)) (h : SqL K H p (ns.map V.int)) (hn : 0 < ns.length) : TrV (tCB (rMax K) (tCons ta tNil)) σ H fun v => ∃ m, v = .int m ∧ m ∈ ns ∧ ∀ y ∈ ns, y ≤ m := fun H1 e Q q =>
  ha H1 e _ fun H2 e2 => ⟨p, ns, rfl, ex_l (e.trans e2) h, hn, fun m h1 h2 => q _ H2 e2 ⟨m, rfl, h1, h2⟩⟩
theorem tn_tupVV {R R' : V → Prop} (ha : TrV ta σ H R) (hb : ∀ H1, Ex H H1 → TrV tb σ H1 R') : TrN (tTup (tCons ta (tCons tb tNil))) σ H fun p H' => ∃ v w, R v ∧ R' w ∧ H' p = some (.tup [v, w]) := fun H1 e Q q =>
  ha H1 e _ fun v H2 e2 r => hb H2 (e.trans e2) H2 (Ex.refl _) _ fun w H3 e3 r' => ⟨sz_of (by decide : 2 ≤ 100000), fun p hp => q p _ (fresh_back (e2.trans e3) hp) ((e2.trans e3).trans (Ex.new hp)) ⟨v, w, r, r', upd_same⟩⟩
/-- for i, x in enumerate(a new list) -/
theorem q_forEnum {te : TE} {a b : Nat} {R : Addr → Hp → Prop} (h : TrN te σ H R) (k : ∀ p H1, H p = none → Ex H H1 → R p H1 → ∃ (xs : List V) (Pv : Nat → L2.St → Hp → Prop), SqL K H1 p xs ∧ Pv 0 σ H1 ∧ (∀ i σ' H', i ≤ xs.length → Pv i σ' H' → SqL K H' p xs) ∧
      (∀ (i : Nat) x T σ' H', xs[i]? = some x → Pv i σ' H' → H' T = none → tu { D with nx := Pv (i + 1), ct := Pv (i + 1), bk := tz D } ((σ'.set a (some (.int (i : Nat)))).set b (some x)) (upd H' T (.tup [.int (i : Nat), x]))) ∧ ∀ σ' H', Pv xs.length σ' H' → tz D σ' H') :
    tSeq (tFor (iEnum K (tCons te tNil)) (gTup K 2 (gCons (gName a) (gCons (gName b) gNil))) tu) tz D σ H :=
  h H (Ex.refl H) _ fun p H1 hp e r => by
    obtain ⟨xs, Pv, hs, h0, hl, hb, hd⟩ := k p H1 hp e r
    refine ⟨p, xs, rfl, hs, fun i m σ H => m = xs.length - i ∧ i ≤ xs.length ∧ Pv i σ H, ⟨xs.length, by simp, Nat.zero_le _, h0⟩, ?_⟩
    rintro i m σ' H' ⟨rfl, hi, pv⟩
    have q := hl i σ' H' hi pv
    by_cases hlt : i < xs.length
    · refine .inr ⟨⟨xs, xs[i], q, by simp [hlt]⟩, Pv (i + 1), fun σ2 H2 p' => ⟨xs.length - (i + 1), by omega, rfl, hlt, p'⟩, fun x H2 y => ?_⟩
      obtain ⟨T, x', e1, hT, e2, e3⟩ := y
      subst e1 e2
      exact ⟨T, _, rfl, SqT.of upd_same, rfl, _, _, rfl, _, _, rfl, rfl, hb i x' T σ' H' (e3 xs q) pv hT⟩
    · have e : i = xs.length := by omega
      subst e
      exact .inl ⟨⟨xs, q, Nat.le_refl _⟩, hd σ' H' pv⟩
end
theorem HasR.dp {K : PySem.W.Frag} {rows : List (List Int)} {p : Addr} {H : Hp} (h : HasR rows p H) : Dp K H (.ref p) (.list (rows.map fun r => .list (r.map PyData.int))) := by
  obtain ⟨rs, hl, hr⟩ := h
  refine .lst (SqL.of hl) ?_
  clear hl
  induction hr with
  | nil => exact .nil
  | cons h _ ih =>
    obtain ⟨t, e1, e2⟩ := h
    exact .cons (by rw [e1]; exact ints_dp (SqL.of e2)) ih
theorem lay_rows (rows : List (List Int)) : Lay 2 (.list (rows.map fun r => .list (r.map PyData.int))) := lay_list fun d hd => by
  obtain ⟨r, _, rfl⟩ := List.mem_map.mp hd
  exact lay_ints r
theorem lay_pair (a b : Int) : Lay 1 (.tuple [.int a, .int b]) := lay_tup fun d hd => by
  rcases List.mem_cons.mp hd with e | e
  · rw [e]
    exact lay_int a
  · rcases List.mem_cons.mp e with e | e
    · rw [e]
      exact lay_int b
    · cases e
theorem pair_dp {K : PySem.W.Frag} {p : Addr} {a b : Int} {H : Hp} (h : H p = some (.tup [.int a, .int b])) : Dp K H (.ref p) (.tuple [.int a, .int b]) := .tup (SqT.of h) (.cons (.int a) (.cons (.int b) .nil))
theorem pe_revL_K {X : Cx} {K : PySem.W.Frag} {e : Expr} {te : TE} {k : Nat} {p1 p2 p3 pos : Pos} (he : PE X e te) (h : X.K = K := by rfl) : PE X (.Subscript e (.Slice none none (some (.UnaryOp .USub (.Constant (.int 1) k p1) p2)) p3) pos) (tRevL K te) := by subst h; exact pe_revL he
/-- rows, each a list by itself that H0 did not know -/
def HasRF (H0 : Hp) (rows : List (List Int)) (p : Addr) (H : Hp) : Prop := ∃ rs, H p = some (.lst rs) ∧ RowsH H rs rows ∧ ∀ t, V.ref t ∈ rs → H0 t = none
section
variable {K : PySem.W.Frag} {σ : L2.St} {H H' : Hp} {ta tb tc td te tk tv tl : TE} {t u : TT} {x y z v : V} {D : Ends} {tz tu : TS}
theorem tn_keyListsF {d : Addr} {rows : List (List Int)} {i j : Nat} {vs : List Nat} (hσ : σ[i]? = some (some (.ref d))) (hd : HasD rows d H) (hz : rows.length < sizeLine) (hw : ∀ x, wipe ((wipe σ vs).set j (some x)) vs = wipe σ vs) (hj : ∀ x, ((wipe σ vs).set j (some x))[j]? = some (some x)) :
    TrN (tLockE (tLc (iKeys (tVar i)) (gName j) tYes (tCB (fun xs H Q => ∃ p ys, xs = [.ref p] ∧ (SqL K H p ys ∨ SqT K H p ys) ∧ ∀ l, H l = none → Q (.ref l) (upd H l (.lst ys))) (tCons (tVar j) tNil)) vs)) σ H (HasRF H rows) := fun H0 e Q q => by
  have hd0 := e _ _ hd
  refine ⟨d, .dT (encD rows), hd0, trivial, fun od => ?_⟩
  refine ⟨.ref d, hσ, d, od, rfl, .inr ⟨encD rows, upd_same, fun Dl hD => ?_⟩⟩
  have hDd : Dl ≠ d := fun z => by
    rw [z, upd_same] at hD
    cases hD
  have hD0 : H0 Dl = none := by
    rw [upd_ne hDd] at hD
    exact hD
  have lenE : (encD rows).length = rows.length := by
    unfold encD
    rw [List.length_map]
  refine walk_keysT (fun n H' => Ex (upd H0 d (.frz od (.dT (encD rows)))) H' ∧ HasRF H (rows.take n) Dl H') ⟨Ex.new hD, [], upd_same, by rw [List.take_zero]; exact .nil, fun t ht => nomatch ht⟩ (fun n H' p => p.1 _ _ upd_same) (fun n H' k v b hk hb hP => ?_) (fun H' hP => ?_)
  · obtain ⟨eH, rs, hl, hr, hfr⟩ := hP
    have hn : n < rows.length := by
      have := (List.getElem?_eq_some_iff.mp hk).1
      omega
    have hkr : (encD rows)[n]? = some (rowK rows[n], .bl true) := by
      unfold encD
      rw [List.getElem?_map, List.getElem?_eq_getElem hn]
      rfl
    rw [hkr] at hk
    cases hk
    rw [rowK_V] at hb
    refine ⟨hw _, ?_⟩
    show tYes _ _ _
    refine et_yes H' (Ex.refl H') _ fun H2 e2 => iteT ?_
    refine (el_listT (K := K) (ev_var (hj _)) (SqT.of hb)) H2 e2 _ fun l H3 hl3 e3 h3 => ?_
    have e23 := e2.trans e3
    have hDl := e23 _ _ hl
    refine ⟨rs, hDl, ?_, Ex.mut (eH.trans e23) hD, _, upd_same, ?_, fun t ht => ?_⟩
    · have := hr.length
      rw [List.length_take] at this
      omega
    · have hnl : l ≠ Dl := fun z => by
        rw [z, e2 _ _ hl] at hl3
        cases hl3
      rw [List.take_add_one, List.getElem?_eq_getElem hn]
      exact RowsH.app (RowsH.updSelf hDl (fun x hx => hx) (hr.mono e23)) (.cons ⟨l, rfl, by rw [upd_ne hnl]; exact h3⟩ .nil)
    · rcases List.mem_append.mp ht with h | h
      · exact hfr t h
      · cases List.mem_singleton.mp h
        have hl0 := fresh_back (eH.trans e2) hl3
        by_cases hx : l = d
        · rw [hx, upd_same] at hl0
          cases hl0
        · rw [upd_ne hx] at hl0
          exact fresh_back e hl0
  · obtain ⟨eH, hR⟩ := hP
    rw [lenE, List.take_length] at hR
    refine ⟨eH _ _ upd_same, ?_⟩
    obtain ⟨rs, h1, h2, h3⟩ := hR
    have hfz := eH _ _ (upd_same (H := H0) (a := d) (o := .frz od (.dT (encD rows))))
    refine q Dl _ hD0 (fun a o ha => ?_) ⟨rs, by rw [upd_ne hDd]; exact h1, RowsH.upd (fun r hr => by rw [hfz] at hr; cases hr) h2, h3⟩
    by_cases hx : a = d
    · subst hx
      rw [upd_same, ← ha, hd0]
    · rw [upd_ne hx]
      refine eH _ _ ?_
      rw [upd_ne hx]
      exact ha
theorem tn_sortedRF {H0 : Hp} {rows : List (List Int)} (h : TrN te σ H (HasRF H0 rows)) : TrN (tCB rSortedR (tCons te tNil)) σ H (HasRF H0 (sortR rows)) := fun H1 e Q q =>
  h H1 e _ fun p H2 hp e2 ⟨rs, h1, h2, h3⟩ => ⟨p, rs, rows, rfl, h1, h2, fun ys r hy hsub hr => q r _ (fresh_back e2 hr) (e2.trans (Ex.new hr)) ⟨ys, upd_same, hy.mono (Ex.new hr), fun t ht => h3 t (hsub _ ht)⟩⟩
/-- [a new row for x in a list] -/
theorem tn_lcRows {a : Addr} {xs : List V} {rows : List (List Int)} {j : Nat} {vs : List Nat} (h : Ev tl σ H (.ref a)) (hx : SqL K H a xs) (hl : xs.length = rows.length) (hz : rows.length < sizeLine) (hw : ∀ x, wipe ((wipe σ vs).set j (some x)) vs = wipe σ vs)
    (he : ∀ (i : Nat) (x : V) (r : List Int) H1, Ex H H1 → xs[i]? = some x → rows[i]? = some r → EvL te ((wipe σ vs).set j (some x)) H1 (r.map V.int)) : TrN (tLc (iList K tl) (gName j) tYes te vs) σ H (HasR rows) := fun H0 e Q q => h H0 e _ fun H1 e1 => by
  have e01 := e.trans e1
  refine ⟨a, rfl, ⟨xs, ex_l e01 hx⟩, fun Dl hD => lc_list (xs := xs) (fun n H' => Ex H1 H' ∧ HasR (rows.take n) Dl H') ⟨Ex.new hD, [], upd_same, by rw [List.take_zero]; exact .nil⟩ (fun n H' _ p => ex_l (e01.trans p.1) hx) (fun n x H' hxn hP => ?_) (fun H' hP => ?_)⟩
  · obtain ⟨eH, rs, hl', hr⟩ := hP
    have hn : n < rows.length := by
      have := (List.getElem?_eq_some_iff.mp hxn).1
      omega
    refine ⟨hw _, ?_⟩
    show tYes _ _ _
    refine et_yes H' (Ex.refl H') _ fun H2 e2 => iteT ?_
    refine (he n x rows[n] H' (e01.trans eH) hxn (List.getElem?_eq_getElem hn)) H2 e2 _ fun l H3 hl3 e3 h3 => ?_
    have e23 := e2.trans e3
    have hDl := e23 _ _ hl'
    refine ⟨rs, hDl, ?_, Ex.mut (eH.trans e23) hD, _, upd_same, ?_⟩
    · have := hr.length
      rw [List.length_take] at this
      omega
    · have hnl : l ≠ Dl := fun z => by
        rw [z, e2 _ _ hl'] at hl3
        cases hl3
      rw [List.take_add_one, List.getElem?_eq_getElem hn]
      exact RowsH.app (RowsH.updSelf hDl (fun x hx => hx) (hr.mono e23)) (.cons ⟨l, rfl, by rw [upd_ne hnl]; exact h3⟩ .nil)
  · obtain ⟨eH, hR⟩ := hP
    rw [hl, List.take_length] at hR
    exact q Dl H' (fresh_back e1 hD) (e1.trans eH) hR
/-- over a tuple -/
theorem el_lcT {a : Addr} {xs : List V} {j : Nat} {vs : List Nat} (f : Nat → Bool) (v : Nat → V) (h : Ev tl σ H (.ref a)) (hx : SqT K H a xs) (hz : xs.length ≤ 40000) (hw : ∀ x, wipe ((wipe σ vs).set j (some x)) vs = wipe σ vs)
    (ht : ∀ (i : Nat) (x : V) H1, Ex H H1 → xs[i]? = some x → EvT t ((wipe σ vs).set j (some x)) H1 (f i)) (he : ∀ (i : Nat) (x : V) H1, Ex H H1 → xs[i]? = some x → f i = true → Ev te ((wipe σ vs).set j (some x)) H1 (v i)) :
    EvL (tLc (iTup K tl) (gName j) t te vs) σ H (given xs.length f v) := fun H0 e Q q => h H0 e _ fun H1 e1 => ⟨a, rfl, ⟨xs, ex_t (e.trans e1) hx⟩, fun Dl hD =>
  lc_tup (xs := xs) (Cw H1 f v Dl) ⟨hD, Ex.new hD, upd_same⟩ (fun i H' _ p => ex_t ((e.trans e1).trans p.2.1) hx) (fun i x H' hi p => ⟨hw x, cw_turn p (by have := (List.getElem?_eq_some_iff.mp hi).1; omega) (ht i x H1 (e.trans e1) hi) (fun hf => he i x H1 (e.trans e1) hi hf)⟩)
    (fun H' p => q Dl H' (fresh_back e1 p.1) (e1.trans p.2.1) p.2.2)⟩
/-- [b for x in xs], any number of them: all of the same truth -/
theorem tn_lcBl {a : Addr} {xs : List V} {b : Bool} {j : Nat} {vs : List Nat} (h : Ev tl σ H (.ref a)) (hx : SqL K H a xs) (hz : xs.length < sizeLine) (hw : ∀ x, wipe ((wipe σ vs).set j (some x)) vs = wipe σ vs)
    (he : ∀ (i : Nat) (x : V) H1, Ex H H1 → xs[i]? = some x → Ev te ((wipe σ vs).set j (some x)) H1 (.bl b)) : EvL (tLc (iList K tl) (gName j) tYes te vs) σ H ((List.replicate xs.length b).map V.bl) := fun H0 e Q q => h H0 e _ fun H1 e1 => by
  have e01 := e.trans e1
  refine ⟨a, rfl, ⟨xs, ex_l e01 hx⟩, fun Dl hD => lc_list (xs := xs) (fun n H' => Ex H1 H' ∧ H' Dl = some (.lst ((List.replicate n b).map V.bl))) ⟨Ex.new hD, upd_same⟩ (fun n H' _ p => ex_l (e01.trans p.1) hx) (fun n x H' hxn hP => ?_) (fun H' hP => q Dl H' (fresh_back e1 hD) (e1.trans hP.1) hP.2)⟩
  obtain ⟨eH, hl'⟩ := hP
  have hn := (List.getElem?_eq_some_iff.mp hxn).1
  refine ⟨hw _, ?_⟩
  show tYes _ _ _
  refine et_yes H' (Ex.refl H') _ fun H2 e2 => iteT ?_
  refine (he n x H' (e01.trans eH) hxn) H2 e2 _ fun H3 e3 => ?_
  refine ⟨_, (e2.trans e3) _ _ hl', by rw [List.length_map, List.length_replicate]; omega, Ex.mut (eH.trans (e2.trans e3)) hD, ?_⟩
  rw [upd_same, List.replicate_succ', List.map_append]
  rfl
theorem ev_any {bs : List Bool} (h : EvL te σ H (bs.map V.bl)) : Ev (tCB (rAny K) (tCons te tNil)) σ H (.bl (bs.any id)) := fun H1 e Q q =>
  h H1 e _ fun p H2 _ e2 h2 => ⟨p, bs, rfl, SqL.of h2, q H2 e2⟩
theorem ev_sumV {p : Addr} {ns : List Int} (ha : Ev ta σ H (.ref p)) (h : SqL K H p (ns.map V.int)) : Ev (tCB (rSum K) (tCons ta tNil)) σ H (.int ns.sum) := fun H1 e Q q =>
  ha H1 e _ fun H2 e2 => ⟨p, ns, rfl, ex_l (e.trans e2) h, q H2 e2⟩
/-- arguments that are new rows -/
def TrA (tA : TA) (σ : L2.St) (H : Hp) (rows : List (List Int)) : Prop := ∀ H1, Ex H H1 → ∀ Q : List V → Hp → Prop, (∀ vs H2, Ex H1 H2 → RowsH H2 vs rows → Q vs H2) → tA σ H1 Q
theorem tra_nil : TrA tNil σ H [] := fun H1 _ Q q => q [] H1 (Ex.refl H1) .nil
theorem tra_cons {tr : TA} {r : List Int} {rows : List (List Int)} (h : ∀ H1, Ex H H1 → EvL te σ H1 (r.map V.int)) (g : TrA tr σ H rows) : TrA (tCons te tr) σ H (r :: rows) := fun H1 e Q q =>
  h H1 e H1 (Ex.refl H1) _ fun p H2 hp e2 h2 => g H2 (e.trans e2) _ fun vs H3 e3 h3 => q _ H3 (e2.trans e3) (.cons ⟨p, rfl, e3 _ _ h2⟩ h3)
theorem tn_lstRows {tA : TA} {rows : List (List Int)} (h : TrA tA σ H rows) (hz : rows.length ≤ 100000) : TrN (tLst tA) σ H (HasR rows) := fun H1 e Q q =>
  h H1 e _ fun vs H2 e2 hr => ⟨by rw [hr.length]; exact sz_of hz, fun p hp => q p _ (fresh_back e2 hp) (e2.trans (Ex.new hp)) ⟨vs, upd_same, hr.mono (Ex.new hp)⟩⟩
end
theorem rep_any (n : Nat) : (List.replicate n false).any id = false := by
  induction n with
  | zero => rfl
  | succ n ih =>
    rw [List.replicate_succ, List.any_cons, ih]
    rfl
theorem exists_least : ∀ {l : List Int}, l ≠ [] → ∃ m ∈ l, ∀ y ∈ l, m ≤ y
  | [], h => absurd rfl h
  | [a], _ => ⟨a, List.mem_cons_self, fun y hy => by rw [List.mem_singleton.mp hy]; exact Int.le_refl _⟩
  | a :: b :: r, _ => by
    obtain ⟨m, hm, hl⟩ := exists_least (l := b :: r) (List.cons_ne_nil _ _)
    by_cases h : a ≤ m
    · exact ⟨a, List.mem_cons_self, fun y hy => by
        rcases List.mem_cons.mp hy with e | e
        · rw [e]
          exact Int.le_refl _
        · exact Int.le_trans h (hl y e)⟩
    · exact ⟨m, List.mem_cons_of_mem _ hm, fun y hy => by
        rcases List.mem_cons.mp hy with e | e
        · rw [e]
          omega
        · exact hl y e⟩
theorem exists_most : ∀ {l : List Int}, l ≠ [] → ∃ m ∈ l, ∀ y ∈ l, y ≤ m
  | [], h => absurd rfl h
  | [a], _ => ⟨a, List.mem_cons_self, fun y hy => by rw [List.mem_singleton.mp hy]; exact Int.le_refl _⟩
  | a :: b :: r, _ => by
    obtain ⟨m, hm, hl⟩ := exists_most (l := b :: r) (List.cons_ne_nil _ _)
    by_cases h : m ≤ a
    · exact ⟨a, List.mem_cons_self, fun y hy => by
        rcases List.mem_cons.mp hy with e | e
        · rw [e]
          exact Int.le_refl _
        · exact Int.le_trans (hl y e) h⟩
    · exact ⟨m, List.mem_cons_of_mem _ hm, fun y hy => by
        rcases List.mem_cons.mp hy with e | e
        · rw [e]
          omega
        · exact hl y e⟩
theorem cnt_ex {ns : List Int} {N : Nat} (hne : ∀ j, j < N → lv ns j ≠ []) (hN : lv ns N = []) : ∃ lo hi, FM ns lo hi := by
  have h := cnt_pos hne hN
  have h0 : cntL ns N ≠ [] := fun z => by
    rw [z] at h
    exact absurd h (Nat.lt_irrefl 0)
  obtain ⟨lo, h1, h2⟩ := exists_least h0
  obtain ⟨hi, h3, h4⟩ := exists_most h0
  exact ⟨lo, hi, cnt_FM hN h1 h2 h3 h4⟩
end Eg

set_option Elab.async false
set_option autoImplicit false
set_option linter.all false
set_option maxRecDepth 100000
set_option maxHeartbeats 2000000
namespace Eg
open PySem PySem.Spec PyProof.Rows L2 Evl
/-! # pairs of any whole numbers; walking by them -/
def PrsI (H : Hp) : List V → List (Int × Int) → Prop := Paired fun x p => ∃ t, x = .ref t ∧ H t = some (.tup [.int p.1, .int p.2])
theorem PrsI.mono {H H' : Hp} (e : Ex H H') : ∀ {rs : List V} {ps : List (Int × Int)}, PrsI H rs ps → PrsI H' rs ps
  | _, _, .nil => .nil
  | _, _, .cons ⟨t, h1, h2⟩ r => .cons ⟨t, h1, e _ _ h2⟩ (PrsI.mono e r)
theorem PrsI.app {H : Hp} : ∀ {rs rs' : List V} {ps ps' : List (Int × Int)}, PrsI H rs ps → PrsI H rs' ps' → PrsI H (rs ++ rs') (ps ++ ps')
  | _, _, _, _, .nil, h => h
  | _, _, _, _, .cons a b, h => .cons a (PrsI.app b h)
theorem PrsI.length {H : Hp} {rs : List V} {ps : List (Int × Int)} (h : PrsI H rs ps) : rs.length = ps.length := Paired.length h
theorem PrsI.get {H : Hp} : ∀ {rs : List V} {ps : List (Int × Int)}, PrsI H rs ps → ∀ {i : Nat} {x : V}, rs[i]? = some x → ∃ p t, ps[i]? = some p ∧ x = .ref t ∧ H t = some (.tup [.int p.1, .int p.2])
  | _, _, .cons ⟨t, h1, h2⟩ r, 0, x, hx => ⟨_, t, rfl, by rw [← h1]; exact (Option.some.inj hx).symm, h2⟩
  | _, _, .cons _ r, i + 1, x, hx => PrsI.get r (i := i) hx
def pI (p : Nat × Nat) : Int × Int := ((p.1 : Int), (p.2 : Int))
theorem pI_inj {p q : Nat × Nat} (h : pI p = pI q) : p = q := by
  obtain ⟨a, b⟩ := p
  obtain ⟨c, d⟩ := q
  have h1 : (a : Int) = c := congrArg Prod.fst h
  have h2 : (b : Int) = d := congrArg Prod.snd h
  have h1 : a = c := by omega
  have h2 : b = d := by omega
  rw [h1, h2]
theorem Prs.toI {H : Hp} : ∀ {rs : List V} {ps : List (Nat × Nat)}, Prs H rs ps → PrsI H rs (ps.map pI)
  | _, _, .nil => .nil
  | _, _, .cons ⟨t, h1, h2⟩ r => .cons ⟨t, h1, h2⟩ (Prs.toI r)
def prsDI (ps : List (Int × Int)) : List PyData := ps.map fun p => .tuple [.int p.1, .int p.2]
theorem PrsI.dp {K : PySem.W.Frag} {H : Hp} : ∀ {rs : List V} {ps : List (Int × Int)}, PrsI H rs ps → DpAll K H rs (prsDI ps)
  | _, _, .nil => .nil
  | _, _, .cons ⟨t, h1, h2⟩ r => .cons (by rw [h1]; exact .tup (SqT.of h2) (.cons (.int _) (.cons (.int _) .nil))) (PrsI.dp r)
theorem lay_prsI (ps : List (Int × Int)) : Lay 2 (.list (prsDI ps)) := lay_list fun d hd => by
  obtain ⟨p, _, rfl⟩ := List.mem_map.mp hd
  exact lay_pair _ _
theorem eqv_pair (a b c d : Int) : PyData.eqv (.tuple [.int a, .int b]) (.tuple [.int c, .int d]) = decide ((a, b) = (c, d)) := by
  simp only [PyData.eqv, PyData.eqvAll, Bool.and_true]
  rw [Bool.eq_iff_iff]
  simp
def canI (ns : List Int) : List (Int × Int) := (canL ns).map pI
theorem any_prs (p : Int × Int) : ∀ ps : List (Int × Int), ((prsDI ps).any fun z => PyData.eqv z (.tuple [.int p.1, .int p.2])) = decide (p ∈ ps)
  | [] => by simp [prsDI]
  | q :: ps => by
    have h := any_prs p ps
    unfold prsDI at h ⊢
    rw [List.map_cons, List.any_cons, h, eqv_pair, Bool.eq_iff_iff]
    simp only [Bool.or_eq_true, decide_eq_true_eq, List.mem_cons]
    constructor
    · rintro (e | e)
      · exact .inl e.symm
      · exact .inr e
    · rintro (e | e)
      · exact .inl e.symm
      · exact .inr e
section
variable {K : PySem.W.Frag} {H : Hp} {σ : L2.St} {ta tb : TE}
theorem units65 {A : Around} {k : Nat} (r : Room k A) : A.units + 65 < cLine := by have := r.un; omega
/-- `pair in can(row)` -/
theorem ev_inP {t : Addr} {p : Int × Int} {ps : List (Int × Int)} {R : Addr → Hp → Prop} (ha : Ev ta σ H (.ref t)) (ht : H t = some (.tup [.int p.1, .int p.2])) (hb : TrN tb σ H R) (hr : ∀ q H1, R q H1 → ∃ rs, H1 q = some (.lst rs) ∧ PrsI H1 rs ps) : Ev (tOp (rInD K) ta tb) σ H (.bl (decide (p ∈ ps))) := fun H1 e Q q =>
  ha H1 e _ fun H2 e2 => hb H2 (e.trans e2) _ fun y H3 _ e3 r => by
    obtain ⟨rs, h1, h2⟩ := hr y H3 r
    refine ⟨.tuple [.int p.1, .int p.2], prsDI ps, .tup (SqT.of (e3 _ _ (e2 _ _ (e _ _ ht)))) (.cons (.int _) (.cons (.int _) .nil)), .lst (SqL.of h1) h2.dp, (lay_pair _ _).shaped, (lay_prsI _).shaped, ?_⟩
    rw [any_prs]
    exact q H3 (e2.trans e3)
theorem ev_notN {v : V} (h : Ev ta σ H v) : Ev (tOp rNotN ta (tC .non)) σ H (.bl (!decide (v = .non))) := fun H1 e Q q => h H1 e _ fun H2 e2 => show V.non = V.non ∧ Q (.bl (!decide (v = .non))) H2 from ⟨rfl, q H2 e2⟩
theorem ev_notN0 (h : Ev ta σ H .non) : Ev (tOp rNotN ta (tC .non)) σ H (.bl false) := fun H1 e Q q => h H1 e _ fun H2 e2 => show V.non = V.non ∧ Q (.bl (!decide (V.non = .non))) H2 from ⟨rfl, q H2 e2⟩
theorem ev_notN1 {a : Addr} (h : Ev ta σ H (.ref a)) : Ev (tOp rNotN ta (tC .non)) σ H (.bl true) := fun H1 e Q q => h H1 e _ fun H2 e2 => show V.non = V.non ∧ Q (.bl (!decide (V.ref a = .non))) H2 from ⟨rfl, q H2 e2⟩
end
/-! ### some value that R tells of it and of the heap -/
def TrW (te : TE) (σ : L2.St) (H : Hp) (R : V → Hp → Prop) : Prop := ∀ H1, Ex H H1 → ∀ Q : VK, (∀ v H2, Ex H1 H2 → R v H2 → Q v H2) → te σ H1 Q
def SpW (sp : Sp) (vs : List V) (H : Hp) (R : V → Hp → Prop) : Prop := ∀ H1, Ex H H1 → ∀ Q : VK, (∀ v H2, Ex H1 H2 → R v H2 → Q v H2) → ∀ E : XK, sp vs H1 Q E
section
variable {H : Hp} {σ : L2.St} {te ta tb : TE} {t : TT} {D : Ends} {tz : TS} {R : V → Hp → Prop}
theorem tw_call {sp : Sp} {E : XK} {vs : List V} {t : TA} (h : EvA t σ H vs) (hs : SpW sp vs H R) : TrW (tCall sp [] E t) σ H R := fun H1 e Q q =>
  h H1 e _ fun H2 e2 => by
    show sp (vs ++ []) H2 Q E
    rw [List.append_nil]
    exact hs H2 (e.trans e2) Q (fun v H3 e3 h3 => q v H3 (e2.trans e3) h3) E
theorem tw_if {b : Bool} (h : EvT t σ H b) (h1 : b = true → TrW ta σ H R) (h2 : b = false → TrW tb σ H R) : TrW (tIf t ta tb) σ H R := fun H1 e Q q => h H1 e _ fun H2 e2 => by
  cases b with
  | true => exact (if_pos rfl).mpr (h1 rfl H2 (e.trans e2) Q fun v H3 e3 r => q v H3 (e2.trans e3) r)
  | false => exact (if_neg Bool.false_ne_true).mpr (h2 rfl H2 (e.trans e2) Q fun v H3 e3 r => q v H3 (e2.trans e3) r)
theorem tw_n {R' : Addr → Hp → Prop} (h : TrN te σ H R') (k : ∀ p H', R' p H' → R (.ref p) H') : TrW te σ H R := fun H1 e Q q => h H1 e Q fun p H2 _ e2 r => q _ H2 e2 (k p H2 r)
theorem tw_ev {v : V} (h : Ev te σ H v) (k : ∀ H', Ex H H' → R v H') : TrW te σ H R := fun H1 e Q q => h H1 e Q fun H2 e2 => q _ H2 e2 (k H2 (e.trans e2))
theorem tw_opC {r : R2} {R' : V → Hp → Prop} (ha : TrW ta σ H R) (k : ∀ v H1, Ex H H1 → R v H1 → TrW (tOp r (tC v) tb) σ H1 R') : TrW (tOp r ta tb) σ H R' := fun H1 e Q q => ha H1 e _ fun v H2 e2 rv => k v H2 (e.trans e2) rv H2 (Ex.refl H2) Q fun w H3 e3 rw => q w H3 (e2.trans e3) rw
theorem s_retW (h : TrW te σ H R) (k : ∀ v H1, Ex H H1 → R v H1 → D.rt v H1) : tRet te D σ H := h H (Ex.refl H) _ k
theorem s_asgW {i : Nat} (h : TrW te σ H R) (k : ∀ v H1, Ex H H1 → R v H1 → D.nx (σ.set i (some v)) H1) : tAsg te (gName i) D σ H := h H (Ex.refl H) _ fun v H1 e r => k v H1 e r
theorem q_asgW {i : Nat} (h : TrW te σ H R) (k : ∀ v H1, Ex H H1 → R v H1 → tz D (σ.set i (some v)) H1) : tSeq (tAsg te (gName i)) tz D σ H := h H (Ex.refl H) _ fun v H1 e r => k v H1 e r
end
def stepI : Option (List Int) → Int × Int → Option (List Int)
  | none, _ => none
  | some l, p => if p ∈ canI l then some (evL l p.1.toNat p.2.toNat) else none
def walkI (r : Option (List Int)) (ps : List (Int × Int)) : Option (List Int) := ps.foldl stepI r
theorem walkI_none : ∀ ps, walkI none ps = none
  | [] => rfl
  | _ :: ps => walkI_none ps
theorem walkI_app (r : Option (List Int)) (ps qs : List (Int × Int)) : walkI r (ps ++ qs) = walkI (walkI r ps) qs := List.foldl_append
theorem walkI_cons (r : Option (List Int)) (p : Int × Int) (qs : List (Int × Int)) : walkI r (p :: qs) = walkI (stepI r p) qs := rfl
theorem walkI_snoc {r : Option (List Int)} {ps : List (Int × Int)} {i : Nat} {p : Int × Int} (h : ps[i]? = some p) : walkI r (ps.take (i + 1)) = stepI (walkI r (ps.take i)) p := by
  rw [List.take_add_one, h]
  exact walkI_app r _ [p]
theorem stepI_yes {r : List Int} {p : Int × Int} (h : p ∈ canI r) : stepI (some r) p = some (evL r p.1.toNat p.2.toNat) := if_pos h
theorem stepI_no {r : List Int} {p : Int × Int} (h : ¬p ∈ canI r) : stepI (some r) p = none := if_neg h
theorem walkI_length {ns : List Int} : ∀ {ps : List (Int × Int)} {r l : List Int}, r.length = ns.length → walkI (some r) ps = some l → l.length = ns.length
  | [], r, l, h, e => by
    cases e
    exact h
  | p :: ps, r, l, h, e => by
    rw [walkI_cons] at e
    by_cases hp : p ∈ canI r
    · rw [stepI_yes hp] at e
      exact walkI_length ((evL_length _ _ _).trans h) e
    · rw [stepI_no hp, walkI_none] at e
      cases e
theorem mem_canI {ns : List Int} {p : Int × Int} : p ∈ canI ns ↔ ∃ i j : Nat, p = ((i : Int), (j : Int)) ∧ (i, j) ∈ canL ns := by
  unfold canI
  rw [List.mem_map]
  constructor
  · rintro ⟨⟨i, j⟩, h, rfl⟩
    exact ⟨i, j, rfl, h⟩
  · rintro ⟨i, j, rfl, h⟩
    exact ⟨(i, j), h, rfl⟩
/-- the value of a walked row: none, or a list with its numbers -/
def WalkV (K : PySem.W.Frag) (r : Option (List Int)) (v : V) (H : Hp) : Prop := match r with
  | none => v = .non
  | some l => ∃ p, v = .ref p ∧ SqL K H p (l.map V.int)
theorem WalkV.mono {K : PySem.W.Frag} {r : Option (List Int)} {v : V} {H H' : Hp} (e : Ex H H') (h : WalkV K r v H) : WalkV K r v H' := by
  cases r with
  | none => exact h
  | some l =>
    obtain ⟨p, h1, h2⟩ := h
    exact ⟨p, h1, ex_l e h2⟩
section
variable {K : PySem.W.Frag} {H : Hp} {σ : L2.St} {tl te : TE}
theorem el_lcG {α : Type} {rows : List α} (g : α → Bool) {a : Addr} {xs : List V} {j : Nat} {vs : List Nat} (h : Ev tl σ H (.ref a)) (hx : SqL K H a xs) (hl : xs.length = rows.length) (hz : rows.length < sizeLine) (hw : ∀ x, wipe ((wipe σ vs).set j (some x)) vs = wipe σ vs)
    (he : ∀ (i : Nat) (x : V) (r : α) H1, Ex H H1 → xs[i]? = some x → rows[i]? = some r → Ev te ((wipe σ vs).set j (some x)) H1 (.bl (g r))) : EvL (tLc (iList K tl) (gName j) tYes te vs) σ H ((rows.map g).map V.bl) := fun H0 e Q q => h H0 e _ fun H1 e1 => by
  have e01 := e.trans e1
  refine ⟨a, rfl, ⟨xs, ex_l e01 hx⟩, fun Dl hD => lc_list (xs := xs) (fun n H' => Ex H1 H' ∧ H' Dl = some (.lst (((rows.take n).map g).map V.bl))) ⟨Ex.new hD, upd_same⟩ (fun n H' _ p => ex_l (e01.trans p.1) hx) (fun n x H' hxn hP => ?_) (fun H' hP => q Dl H' (fresh_back e1 hD) (e1.trans hP.1) (by have h2 := hP.2; rw [hl, List.take_length] at h2; exact h2))⟩
  obtain ⟨eH, hl'⟩ := hP
  have hn := (List.getElem?_eq_some_iff.mp hxn).1
  have hn2 : n < rows.length := by omega
  have hr : rows[n]? = some rows[n] := List.getElem?_eq_getElem hn2
  refine ⟨hw _, ?_⟩
  show tYes _ _ _
  refine et_yes H' (Ex.refl H') _ fun H2 e2 => iteT ?_
  refine (he n x rows[n] H' (e01.trans eH) hxn hr) H2 e2 _ fun H3 e3 => ?_
  refine ⟨_, (e2.trans e3) _ _ hl', by rw [List.length_map, List.length_map, List.length_take]; omega, Ex.mut (eH.trans (e2.trans e3)) hD, ?_⟩
  rw [upd_same, List.take_add_one, hr, List.map_append, List.map_append]
  rfl
end
/-! # the fewest evenings behind which all are alike -/
def g1 (r : List Int) : Bool := decide (((dlen r : Nat) : Int) = 1)
def oneB (ns : List Int) (k : Nat) : Bool := (lv ns k).any g1
def Few1 (ns : List Int) (m : Int) : Prop := (∃ k : Nat, m = k ∧ oneB ns k = true ∧ ∀ j, j < k → oneB ns j = false) ∨ (m = -1 ∧ ∀ k, oneB ns k = false)
theorem Few1.uniq {ns : List Int} {m n : Int} (h : Few1 ns m) (g : Few1 ns n) : m = n := by
  rcases h with ⟨k, rfl, h1, h2⟩ | ⟨rfl, h1⟩ <;> rcases g with ⟨j, rfl, g1, g2⟩ | ⟨rfl, g1⟩
  · rcases Nat.lt_trichotomy k j with l | l | l
    · rw [g2 k l] at h1
      cases h1
    · rw [l]
    · rw [h2 j l] at g1
      cases g1
  · rw [g1 k] at h1
    cases h1
  · rw [h1 j] at g1
    cases g1
  · rfl
theorem Few1.neg {ns : List Int} {m : Int} (h : Few1 ns m) : m < 0 ↔ ∀ k, oneB ns k = false := by
  rcases h with ⟨k, rfl, h1, h2⟩ | ⟨rfl, h1⟩
  · constructor
    · intro h
      omega
    · intro h
      rw [h k] at h1
      cases h1
  · exact ⟨fun _ => h1, fun _ => by decide⟩
theorem oneB_far {ns : List Int} {N : Nat} (hN : lv ns N = []) {k : Nat} (h : N ≤ k) : oneB ns k = false := by
  unfold oneB
  rw [lv_next_nil hN k h]
  rfl
theorem pe_lenSet_K {X : Cx} {K : PySem.W.Frag} {a : Expr} {ta : TE} {p p2 q pos : Pos} (hg : Gl X "len") (hm : X.mg "len" = none) (hg2 : Gl X "set") (hm2 : X.mg "set" = none) (ha : PE X a ta) (h : X.K = K := by rfl) (hc : X.calm = true := by rfl)
    (na : starEach [a] X.env = (false, eval a X.env) :: starEach [] X.env := by rfl) : PE X (.Call (.Name "len" p) [.Call (.Name "set" p2) [a] [] q] [] pos) (tLenSet K ta) := by
  subst h
  exact pe_lenSet hg hm hg2 hm2 ha hc na
theorem ev_neg {H : Hp} {σ : L2.St} {ta : TE} {i : Int} (ha : Ev ta σ H (.int i)) : Ev (tUn (rU fun i => V.int (-i)) ta) σ H (.int (-i)) := fun H1 e Q q => ha H1 e _ fun H2 e2 => show ∃ j : Int, V.int i = V.int j ∧ _ from ⟨i, rfl, q H2 e2⟩
end Eg

set_option Elab.async false
set_option autoImplicit false
set_option linter.all false
set_option maxRecDepth 100000
set_option maxHeartbeats 2000000
namespace Eg
open PySem PySem.Spec PyProof.Rows L2 Evl
/-! # the two kinds of answers: their classes stand at A and N, the class above them at O -/
structure Cc where
  A : Addr
  N : Addr
  O : Addr
structure ClI (K : PySem.W.Frag) (C : Addr) : Prop where
  cl : Cls K C
  ac : PySem.W.findIn K (.ref C) "__class__" = some (some (.builtin "object.__class__"))
  mr : PySem.W.mroIn K C (.type "object") = some true
structure TxC (K : PySem.W.Frag) (mg : Str → Option Value) (c : Cc) : Prop where
  a : ClI K c.A
  n : ClI K c.N
  nE : NoAttr K c.A "evenings"
  mgA : mg "Alike" = some (.ref c.A)
  mgN : mg "Never" = some (.ref c.N)
  ge : PySem.W.specialIn K (.builtin "object.__class__") "__get__" = some (some (.builtin "getset_descriptor.__get__"))
  tk : PySem.W.takesIn K (.builtin "object.__class__") = some true
  kAA : PySem.W.kitOne K (.ref c.A) (.ref c.A) = some true
  kAN : PySem.W.kitOne K (.ref c.A) (.ref c.N) = some false
  kNA : PySem.W.kitOne K (.ref c.N) (.ref c.A) = some false
  kNN : PySem.W.kitOne K (.ref c.N) (.ref c.N) = some true
/-- the class above both, where the law names it -/
structure TxO (K : PySem.W.Frag) (mg : Str → Option Value) (c : Cc) : Prop where
  mgO : mg "Answer" = some (.ref c.O)
  kAO : PySem.W.kitOne K (.ref c.A) (.ref c.O) = some true
  kNO : PySem.W.kitOne K (.ref c.N) (.ref c.O) = some true
/-- an Alike stands at p, its list of evenings at l -/
def AlAt (c : Cc) (p l : Addr) (H : Hp) : Prop := ∃ dx, H p = some (.ins c.A dx [("evenings", .ref l)])
/-- a Never stands at p -/
def NvAt (c : Cc) (p : Addr) (H : Hp) : Prop := ∃ dx, H p = some (.ins c.N dx [])
theorem AlAt.mono {c : Cc} {p l : Addr} {H H' : Hp} (e : Ex H H') (h : AlAt c p l H) : AlAt c p l H' := by
  obtain ⟨dx, h⟩ := h
  exact ⟨dx, e _ _ h⟩
theorem NvAt.mono {c : Cc} {p : Addr} {H H' : Hp} (e : Ex H H') (h : NvAt c p H) : NvAt c p H' := by
  obtain ⟨dx, h⟩ := h
  exact ⟨dx, e _ _ h⟩
/-- the class of what stands at p -/
def clsOf (c : Cc) (b : Bool) : Addr := if b = true then c.A else c.N
/-- an answer at p: an Alike with its evenings (pairs of ints), or a Never -/
def AnsAt (c : Cc) (p : Addr) : Option (List (Int × Int)) → Hp → Prop
  | some ps, H => ∃ l xs, AlAt c p l H ∧ H l = some (.lst xs) ∧ PrsI H xs ps ∧ xs.length ≤ 4000
  | none, H => NvAt c p H
theorem AnsAt.mono {c : Cc} {p : Addr} {H H' : Hp} (e : Ex H H') : ∀ {r : Option (List (Int × Int))}, AnsAt c p r H → AnsAt c p r H'
  | some _, ⟨l, xs, h1, h2, h3, h4⟩ => ⟨l, xs, h1.mono e, e _ _ h2, h3.mono e, h4⟩
  | none, h => NvAt.mono e h
section
variable {K : PySem.W.Frag} {mg : Str → Option Value} {c : Cc} {H : Hp} {σ : L2.St} {ta tb te : TE}
theorem ty_al (T : TxC K mg c) {p l : Addr} (h : AlAt c p l H) : TyX K H (.ref p) (.ref c.A) := by
  obtain ⟨dx, h⟩ := h
  exact .base (.ins h T.a.cl T.a.ac T.ge T.tk T.a.mr)
theorem ty_nv (T : TxC K mg c) {p : Addr} (h : NvAt c p H) : TyX K H (.ref p) (.ref c.N) := by
  obtain ⟨dx, h⟩ := h
  exact .base (.ins h T.n.cl T.n.ac T.ge T.tk T.n.mr)
theorem ev_isiC {x : V} {t : Value} {C : Addr} {b : Bool} (ha : Ev ta σ H x) (ty : ∀ H1, Ex H H1 → TyX K H1 x t) (k : PySem.W.kitOne K t (.ref C) = some b) : Ev (tCB (rIsi K) (tCons ta (tCons (tC (.ref C)) tNil))) σ H (.bl b) := fun H1 e Q q =>
  ha H1 e _ fun H2 e2 => ⟨x, .ref C, t, .ref C, b, rfl, .own C, ty H2 (e.trans e2), k, q H2 e2⟩
/-- isinstance(answer, Never), isinstance(answer, Alike) -/
theorem ev_isNv (T : TxC K mg c) {p : Addr} : ∀ {r : Option (List (Int × Int))}, Ev ta σ H (.ref p) → AnsAt c p r H → Ev (tCB (rIsi K) (tCons ta (tCons (tC (.ref c.N)) tNil))) σ H (.bl r.isNone)
  | some _, ha, ⟨l, xs, h1, h2, h3⟩ => ev_isiC ha (fun H1 e => ty_al T (h1.mono e)) T.kAN
  | none, ha, h => ev_isiC ha (fun H1 e => ty_nv T (NvAt.mono e h)) T.kNN
theorem ev_isAl (T : TxC K mg c) {p : Addr} : ∀ {r : Option (List (Int × Int))}, Ev ta σ H (.ref p) → AnsAt c p r H → Ev (tCB (rIsi K) (tCons ta (tCons (tC (.ref c.A)) tNil))) σ H (.bl r.isSome)
  | some _, ha, ⟨l, xs, h1, h2, h3⟩ => ev_isiC ha (fun H1 e => ty_al T (h1.mono e)) T.kAA
  | none, ha, h => ev_isiC ha (fun H1 e => ty_nv T (NvAt.mono e h)) T.kNA
theorem ev_isAn (T : TxC K mg c) (O : TxO K mg c) {p : Addr} : ∀ {r : Option (List (Int × Int))}, Ev ta σ H (.ref p) → AnsAt c p r H → Ev (tCB (rIsi K) (tCons ta (tCons (tC (.ref c.O)) tNil))) σ H (.bl true)
  | some _, ha, ⟨l, xs, h1, h2, h3⟩ => ev_isiC ha (fun H1 e => ty_al T (h1.mono e)) O.kAO
  | none, ha, h => ev_isiC ha (fun H1 e => ty_nv T (NvAt.mono e h)) O.kNO
theorem look_evenings {l : Addr} : ([(("evenings" : Str), V.ref l)] : List (Str × V)).lookup ("evenings" : Str) = some (V.ref l) := by
  rw [List.lookup_cons, show (("evenings" : Str) == "evenings") = true from by decide +kernel]
theorem look_shows {l : Addr} : ([(("evenings" : Str), V.ref l)] : List (Str × V)).lookup ("shows" : Str) = none := by
  rw [List.lookup_cons, show (("shows" : Str) == "evenings") = false from by decide +kernel]
  rfl
/-- answer.evenings -/
theorem ev_evenings (T : TxC K mg c) {p l : Addr} (ha : Ev ta σ H (.ref p)) (h : AlAt c p l H) : Ev (tFld K ta "evenings") σ H (.ref l) := fun H1 e Q q => ha H1 e _ fun H2 e2 => by
  obtain ⟨dx, h⟩ := h.mono (e.trans e2)
  exact ⟨p, c.A, dx, _, _, rfl, h, T.a.cl, T.nE, look_evenings, q H2 e2⟩
end
/-! ### one of two ways -/
def tAlt (t u : TE) : TE := fun σ H Q => t σ H Q ∨ u σ H Q
theorem pe_alt {X : L2.Cx} {e : Expr} {t u : TE} (h : PE X e t) (g : PE X e u) : PE X e (tAlt t u) := ⟨fun pins s σ H Q I r => r.elim (h.run pins s σ H Q I) (g.run pins s σ H Q I)⟩
/-- a method that may be called -/
structure CalM (P : Program) (w : World) (K : PySem.W.Frag) (mg : Str → Option Value) (base : Heap) (CX : CXT) (k : Nat) (C : Addr) (m : Str) (ps : List Str) (sp : Sp) (f : Addr) (fd : FuncData) : Prop where
  ok : FnOk P w K mg base CX k f fd ps sp
  m : Meth K C m f
  b : Binds K fd ps []
/-! ### what is due -/
def alB (ns : List Int) (ps : List (Int × Int)) : Bool := match walkI (some ns) ps with
  | some l => g1 l
  | none => false
/-- b is what is due of the row ns by the answer r -/
def DueB (ns : List Int) : Option (List (Int × Int)) → Bool → Prop
  | some ps, b => b = alB ns ps
  | none, b => b = true ↔ ∀ k, oneB ns k = false
theorem DueB.uniq {ns : List Int} : ∀ {r : Option (List (Int × Int))} {a b : Bool}, DueB ns r a → DueB ns r b → a = b
  | some _, _, _, h, g => h.trans g.symm
  | none, a, b, h, g => by
    rw [Bool.eq_iff_iff]
    exact h.trans g.symm
theorem PrsI.upd {H : Hp} {p : Addr} {xs : List V} {o : HO} (hp : H p = some (.lst xs)) : ∀ {rs : List V} {ps : List (Int × Int)}, PrsI H rs ps → PrsI (L2.upd H p o) rs ps
  | _, _, .nil => .nil
  | _, _, .cons ⟨t, h1, h2⟩ r => .cons ⟨t, h1, by rw [upd_ne (ne_of h2 hp (by intro z; cases z))]; exact h2⟩ (PrsI.upd hp r)
theorem zero_no {ns : List Int} (ps : List (Int × Int)) : alB ns (ps ++ [(0, 0)]) = false := by
  unfold alB
  rw [walkI_app]
  cases walkI (some ns) ps with
  | none => rfl
  | some l =>
    show (match stepI (some l) (0, 0) with | some l => g1 l | none => false) = false
    rw [stepI_no]
    intro h
    obtain ⟨i, j, e, hij⟩ := mem_canI.mp h
    obtain ⟨g1, _, _⟩ := mem_canL.mp hij
    have e1 : (0 : Int) = i := congrArg Prod.fst e
    have e2 : (0 : Int) = j := congrArg Prod.snd e
    have g1 : i < j := g1
    omega
theorem Few1.short {ns : List Int} {n : Nat} (hm : Sm ns) (h : Few1 ns n) : n ≤ 2000 := by
  rcases h with ⟨k, e, h1, _⟩ | ⟨e, _⟩
  · have hk : lv ns k ≠ [] := fun z => by
      unfold oneB at h1
      rw [z] at h1
      cases h1
    have := lv_short hk
    have := sqs_sm hm
    omega
  · omega
section
variable {K : PySem.W.Frag} {H : Hp} {σ : L2.St} {ta tb te : TE}
theorem q_parNW {D : Ends} {tz : TS} {i j : Nat} {R : Addr → Hp → Prop} {R' : V → Hp → Prop} (h : TrN ta σ H R) (g : ∀ H1, Ex H H1 → TrW tb σ H1 R') (k : ∀ p v H1 H2, H p = none → Ex H H1 → R p H1 → Ex H1 H2 → R' v H2 → tz D ((σ.set i (some (.ref p))).set j (some v)) H2) : tSeq (tPar i j (tCons ta (tCons tb tNil))) tz D σ H :=
  h H (Ex.refl H) _ fun p H1 hp e1 r1 => g H1 e1 H1 (Ex.refl H1) _ fun v H2 e2 r2 => ⟨_, _, rfl, k p v H1 H2 hp e1 r1 e2 r2⟩
theorem ev_notB {a b : Bool} (ha : Ev ta σ H (.bl a)) (hb : Ev tb σ H (.bl b)) : Ev (tOp rNotB ta tb) σ H (.bl (!decide (a = b))) := fun H1 e Q q => ha H1 e _ fun H2 e2 => hb H2 (e.trans e2) _ fun H3 e3 =>
  show ∃ x y : Bool, V.bl a = .bl x ∧ V.bl b = .bl y ∧ Q (.bl (!decide (x = y))) H3 from ⟨a, b, rfl, rfl, q H3 (e2.trans e3)⟩
theorem bl2_dp {p : Addr} {x y : Bool} (h : H p = some (.lst [.bl x, .bl y])) : Dp K H (.ref p) (.list [.bool x, .bool y]) := .lst (SqL.of h) (.cons (.bl x) (.cons (.bl y) .nil))
theorem lay_bl (b : Bool) : Lay 0 (.bool b) := ⟨by simp only [PyData.canLay0], by simp only [PyData.depth]; exact Nat.zero_le _⟩
theorem lay_bl2 (a b : Bool) : Lay 1 (.list [.bool a, .bool b]) := lay_list fun d hd => by
  rcases List.mem_cons.mp hd with e | e
  · rw [e]
    exact lay_bl a
  · rw [List.mem_singleton.mp e]
    exact lay_bl b
theorem ev_neDR {d : PyData} {x : V} {R : Addr → Hp → Prop} (ha : Ev ta σ H x) (hb : ∀ H1, Ex H H1 → TrN tb σ H1 R) (dx : Dp K H x d) (dy : ∀ p H1, R p H1 → Dp K H1 (.ref p) d) {k : Nat} (l : Lay k d) (hk : k ≤ 64 := by decide) : Ev (tOp (rNeD K) ta tb) σ H (.bl false) := fun H1 e Q q =>
  ha H1 e _ fun H2 e2 => hb H2 (e.trans e2) H2 (Ex.refl H2) _ fun p' H3 _ e3 r' => rv_neD (dp_mono ((e.trans e2).trans e3) dx) (dy p' H3 r') l hk H3 (Ex.refl H3) Q fun H4 e4 => q H4 ((e2.trans e3).trans e4)
/-- sp(x, the new object) -/
theorem tw_call2N {sp : Sp} {E : XK} {x : V} {R : Addr → Hp → Prop} {R' : V → Hp → Prop} (ha : Ev ta σ H x) (hb : ∀ H1, Ex H H1 → TrN tb σ H1 R) (hs : ∀ p H1, Ex H H1 → R p H1 → SpW sp [x, .ref p] H1 R') : TrW (tCall sp [] E (tCons ta (tCons tb tNil))) σ H R' := fun H1 e Q q =>
  ha H1 e _ fun H2 e2 => hb H2 (e.trans e2) H2 (Ex.refl H2) _ fun p H3 _ e3 r => hs p H3 (e.trans (e2.trans e3)) r H3 (Ex.refl H3) Q (fun v H4 e4 rv => q v H4 (e2.trans (e3.trans e4)) rv) E
end
section
variable {K : PySem.W.Frag} {H : Hp} {σ : L2.St} {ta tb tc te : TE} {D : Ends} {tu : TS}
theorem el_cat {xs ys : List V} (ha : EvL ta σ H xs) (hb : EvL tb σ H ys) (hz : xs.length + ys.length ≤ 100000) : EvL (tOp rCat ta tb) σ H (xs ++ ys) := fun H1 e Q q =>
  ha H1 e _ fun p H2 hp e2 h2 => hb H2 (e.trans e2) _ fun r H3 hr e3 h3 => ⟨p, r, xs, ys, rfl, rfl, e3 _ _ h2, h3, sz_of hz, fun u hu => q u _ (fresh_back (e2.trans e3) hu) ((e2.trans e3).trans (Ex.new hu)) upd_same⟩
theorem s_forTN {tl : TE} {j : Nat} {R : Addr → Hp → Prop} (h : TrN tl σ H R) (k : ∀ p H1, H p = none → Ex H H1 → R p H1 → ∃ (xs : List V) (Pv : Nat → L2.St → Hp → Prop), SqT K H1 p xs ∧ Pv 0 σ H1 ∧ (∀ i σ' H', i ≤ xs.length → Pv i σ' H' → SqT K H' p xs) ∧
      (∀ (i : Nat) x σ' H', xs[i]? = some x → Pv i σ' H' → tu { D with nx := Pv (i + 1), ct := Pv (i + 1), bk := D.nx } (σ'.set j (some x)) H') ∧ ∀ σ' H', Pv xs.length σ' H' → D.nx σ' H') :
    tFor (iTup K tl) (gName j) tu D σ H :=
  h H (Ex.refl H) _ fun p H1 hp e r => by
    obtain ⟨xs, Pv, hs, h0, hl, hb, hd⟩ := k p H1 hp e r
    exact ⟨p, rfl, ⟨xs, hs⟩, for_tup Pv h0 hl hb hd⟩
theorem tn_tup3V {v w : V} {xs : List V} (ha : Ev ta σ H v) (hb : EvL tb σ H xs) (hc : Ev tc σ H w) : TrN (tTup (tCons ta (tCons tb (tCons tc tNil)))) σ H fun p H' => ∃ r, H' r = some (.lst xs) ∧ H' p = some (.tup [v, .ref r, w]) := fun H1 e Q q =>
  ha H1 e _ fun H2 e2 => hb H2 (e.trans e2) _ fun r H3 hr e3 h3 => hc H3 (e.trans (e2.trans e3)) _ fun H4 e4 =>
    ⟨sz_of (by decide : 3 ≤ 100000), fun p hp => q p _ (fresh_back (e2.trans (e3.trans e4)) hp) ((e2.trans (e3.trans e4)).trans (Ex.new hp)) ⟨r, (Ex.new hp) _ _ (e4 _ _ h3), upd_same⟩⟩
theorem tn_lst3 {v : V} {xs ys : List V} (ha : Ev ta σ H v) (hb : EvL tb σ H xs) (hc : EvL tc σ H ys) : TrN (tLst (tCons ta (tCons tb (tCons tc tNil)))) σ H fun p H' => ∃ r u, H' r = some (.lst xs) ∧ H' u = some (.lst ys) ∧ H' p = some (.lst [v, .ref r, .ref u]) := fun H1 e Q q =>
  ha H1 e _ fun H2 e2 => hb H2 (e.trans e2) _ fun r H3 hr e3 h3 => hc H3 (e.trans (e2.trans e3)) _ fun u H4 hu e4 h4 =>
    ⟨sz_of (by decide : 3 ≤ 100000), fun p hp => q p _ (fresh_back (e2.trans (e3.trans e4)) hp) ((e2.trans (e3.trans e4)).trans (Ex.new hp)) ⟨r, u, (Ex.new hp) _ _ (e4 _ _ h3), (Ex.new hp) _ _ h4, upd_same⟩⟩
theorem ev_of_tw {v : V} (h : TrW te σ H fun x _ => x = v) : Ev te σ H v := fun H1 e Q q => h H1 e Q fun x H2 e2 hx => by
  subst hx
  exact q H2 e2
end
theorem cut1 {x : V} {xs : List V} : cutV (x :: xs) none (some 1) = [x] := by
  unfold cutV
  rw [HT.sIx_none, show HT.sIx (x :: xs).length (x :: xs).length (some 1) = min 1 (x :: xs).length from HT.sIx_nat _ _ 1, List.drop_zero, Nat.sub_zero, List.length_cons, Nat.min_eq_left (by omega)]
  rfl
theorem Few1.of {ns : List Int} {k : Nat} (h : oneB ns k = true) (g : ∀ j, j < k → oneB ns j = false) : Few1 ns k := .inl ⟨k, rfl, h, g⟩
theorem none_of {ns : List Int} (N : Nat) (hN : lv ns N = []) (g : ∀ j, j < N → oneB ns j = false) : ∀ k, oneB ns k = false := fun k => by
  by_cases h : k < N
  · exact g k h
  · exact oneB_far hN (by omega)
theorem few012 : Few1 [0, 1, 2] (1 : Nat) := Few1.of (by decide +kernel) (by decide +kernel)
theorem few0044 : Few1 [0, 0, 4, 4] (2 : Nat) := Few1.of (by decide +kernel) (by decide +kernel)
theorem few02 : Few1 [0, 2] (1 : Nat) := Few1.of (by decide +kernel) (by decide +kernel)
theorem non003 : ∀ k, oneB [0, 0, 3] k = false := none_of 1 (by decide +kernel) (by decide +kernel)
theorem non01 : ∀ k, oneB [0, 1] k = false := none_of 1 (by decide +kernel) (by decide +kernel)
section
variable {K : PySem.W.Frag} {H : Hp} {σ : L2.St} {ta te : TE}
theorem el_is {xs ys : List V} (h : EvL te σ H xs) (e : xs = ys) : EvL te σ H ys := by
  subst e
  exact h
theorem tn_lst1U {xs : List V} (ha : EvU ta σ H xs) : TrN (tLst (tCons ta tNil)) σ H fun p H' => ∃ r, H' p = some (.lst [.ref r]) ∧ H' r = some (.tup xs) := fun H1 e Q q =>
  ha H1 e _ fun r H2 hr e2 h2 => ⟨sz_of (by decide : 1 ≤ 100000), fun p hp => q p _ (fresh_back e2 hp) (e2.trans (Ex.new hp)) ⟨r, upd_same, (Ex.new hp) _ _ h2⟩⟩
end
theorem sm_even {x : Int} (h0 : 0 ≤ x) (h1 : x ≤ 12) : Sm [x, 12 - x, x] := ⟨show 1 ≤ 3 from by decide, show 3 ≤ 5 from by decide, fun y hy => by
  simp only [List.mem_cons, List.not_mem_nil, or_false] at hy
  omega⟩
theorem DueB.ex (ns : List Int) : ∀ r : Option (List (Int × Int)), ∃ b, DueB ns r b
  | some ps => ⟨alB ns ps, rfl⟩
  | none => by
    by_cases h : ∀ k, oneB ns k = false
    · exact ⟨true, fun _ => h, fun _ => rfl⟩
    · exact ⟨false, fun z => Bool.noConfusion z, fun z => absurd z h⟩
end Eg

set_option Elab.async false
set_option autoImplicit false
set_option linter.all false
set_option maxRecDepth 100000
set_option maxHeartbeats 2000000
namespace Eg
open PySem PySem.Spec PyProof.Rows L2 Evl
/-! # C() where there is no __init__ but object's -/
structure Mk0 (K : PySem.W.Frag) (C : Addr) : Prop where
  makes : PySem.W.makesIn K C = true
  init : PySem.W.findIn K (.ref C) "__init__" = some (some (.builtin "object.__init__"))
  kp : PySem.W.keepIn K (.ref C) = true
theorem run_mk0 {X : L2.Cx} {C : Addr} {pins : List (Addr × Obj)} {σ : L2.St} {H : Hp} {s : Shared} {Q : VK} (M : Mk0 X.K C) (I : Inv X pins σ H s)
    (h : ∀ x dx, H x = none → H dx = none → dx ≠ x → Q (.ref x) (upd (upd H dx (.own x)) x (.ins C dx []))) : wpAny (model X.prog X.w) X.A (call (.ref C) []) (EP X pins σ Q) X.xe s := by
  have hq := h (s.heap.objs.size + 1) s.heap.objs.size (I.hok.fresh (Nat.le_succ _)) (I.hok.fresh (Nat.le_refl _)) (Nat.ne_of_lt (Nat.lt_succ_self _))
  have I2 := Inv.made (C := C) I
  have Y := PySem.W.makes_of (M := model X.prog X.w) I.kIn M.makes
  have top := Y.top.keeps (h' := (s.heap.push PySem.W.emptyDict).push (PySem.W.instObj C s.heap.objs.size)) fun b o e => Heap.get?_push_of_some _ (Heap.get?_push_of_some _ e)
  refine wpAny_call (make_map0 I.kIn M.makes M.init (fun self => PySem.W.Looks.of_pure (PySem.W.oi_bind self)) ?_)
  have e2 : ((s.heap.push PySem.W.emptyDict).push (PySem.W.instObj C s.heap.objs.size)).get? (s.heap.objs.size + 1) = some (PySem.W.instObj C s.heap.objs.size) := by
    have := Heap.get?_push_size (s.heap.push PySem.W.emptyDict) (o := PySem.W.instObj C s.heap.objs.size) rfl
    rwa [Heap.size_push] at this
  have t1 : PySem.W.Looks (model X.prog X.w) ((s.heap.push PySem.W.emptyDict).push (PySem.W.instObj C s.heap.objs.size)) (typeOf (.ref (s.heap.objs.size + 1))) (.ref C) := (PySem.W.Looks.ld e2).andThen .now
  have t2 : PySem.W.Looks (model X.prog X.w) ((s.heap.push PySem.W.emptyDict).push (PySem.W.instObj C s.heap.objs.size)) (isInstance (.ref (s.heap.objs.size + 1)) (.type "object")) true := t1.andThen top
  refine codeAny_call_builtin PySem.W.oi_plain PySem.W.entry_oi (@PySem.W.check_slot (model X.prog X.w) _ _ _ "object.__init__" "object" "__init__" (.ref (s.heap.objs.size + 1)) [] [] _ PySem.W.oi_kind PySem.W.oi_split t2 (PySem.W.oi_args (.ref (s.heap.objs.size + 1))) ?_)
  rw [PySem.W.oi_run]
  exact wpAny_pure (And.intro rfl ⟨V.ref (s.heap.objs.size + 1), _, I2, rfl, hq⟩)
def tMk0 (C : Addr) : TE := fun σ H Q => ∀ x dx, H x = none → H dx = none → dx ≠ x → Q (.ref x) (upd (upd H dx (.own x)) x (.ins C dx []))
theorem pe_mk0 {X : L2.Cx} {C : Addr} {x : Str} {p pos : Pos} (M : Mk0 X.K C) (hg : Gl X x) (hm : X.mg x = some (.ref C)) (hdb : (x == ("__debug__" : Str)) = false := by decide) : PE X (.Call (.Name x p) [] [] pos) (tMk0 C) := by
  refine ⟨fun pins s σ H Q I h => ?_⟩
  refine wpAny_Call_Name_kw (ld_glob I hg hm ?_ hdb)
  exact PySem.W.callWith_K0 I.kIn M.kp (run_mk0 M I h)
structure CalI (P : Program) (w : World) (K : PySem.W.Frag) (mg : Str → Option Value) (base : Heap) (CX : CXT) (k : Nat) (C : Addr) (ps : List Str) (sp : Sp) (f : Addr) (fd : FuncData) : Prop where
  ok : FnOk P w K mg base CX k f fd ps sp
  M : Mk K C f
  b : Binds K fd ps []
/-! # lists of pairs among the arguments -/
def HasQ (ps : List (Int × Int)) (v : V) (H : Hp) : Prop := ∃ t xs, v = .ref t ∧ H t = some (.lst xs) ∧ PrsI H xs ps
theorem HasQ.mono {ps : List (Int × Int)} {v : V} {H H' : Hp} (e : Ex H H') (h : HasQ ps v H) : HasQ ps v H' := by
  obtain ⟨t, xs, h1, h2, h3⟩ := h
  exact ⟨t, xs, h1, e _ _ h2, h3.mono e⟩
def AllQ (H : Hp) : List V → List (List (Int × Int)) → Prop := Paired fun v ps => HasQ ps v H
theorem AllQ.mono {H H' : Hp} (e : Ex H H') : ∀ {vs : List V} {pss : List (List (Int × Int))}, AllQ H vs pss → AllQ H' vs pss
  | _, _, .nil => .nil
  | _, _, .cons h r => .cons (h.mono e) (AllQ.mono e r)
theorem AllQ.length {H : Hp} {vs : List V} {pss : List (List (Int × Int))} (h : AllQ H vs pss) : vs.length = pss.length := Paired.length h
theorem AllQ.get {H : Hp} : ∀ {vs : List V} {pss : List (List (Int × Int))}, AllQ H vs pss → ∀ {i : Nat} {v : V}, vs[i]? = some v → ∃ ps, pss[i]? = some ps ∧ HasQ ps v H
  | _, _, .cons h r, 0, v, hv => by
    cases hv
    exact ⟨_, rfl, h⟩
  | _, _, .cons _ r, i + 1, v, hv => AllQ.get r (i := i) hv
def TrQ (tA : TA) (σ : L2.St) (H : Hp) (pss : List (List (Int × Int))) : Prop := ∀ H1, Ex H H1 → ∀ Q : List V → Hp → Prop, (∀ vs H2, Ex H1 H2 → AllQ H2 vs pss → Q vs H2) → tA σ H1 Q
section
variable {K : PySem.W.Frag} {H : Hp} {σ : L2.St} {ta te : TE} {tr : TA}
theorem trq_nil : TrQ tNil σ H [] := fun H1 _ Q q => q [] H1 (Ex.refl H1) .nil
theorem trq_cons {ps : List (Int × Int)} {pss : List (List (Int × Int))} (h : TrW te σ H (HasQ ps)) (g : TrQ tr σ H pss) : TrQ (tCons te tr) σ H (ps :: pss) := fun H1 e Q q =>
  h H1 e _ fun v H2 e2 hv => g H2 (e.trans e2) _ fun vs H3 e3 hvs => q _ H3 (e2.trans e3) (.cons (hv.mono e3) hvs)
theorem tn_tupQ {tA : TA} {pss : List (List (Int × Int))} (h : TrQ tA σ H pss) (hz : pss.length ≤ 100000) : TrN (tTup tA) σ H fun p H' => ∃ vs, H' p = some (.tup vs) ∧ AllQ H' vs pss := fun H1 e Q q =>
  h H1 e _ fun vs H2 e2 hv => ⟨by rw [hv.length]; exact sz_of hz, fun p hp => q p _ (fresh_back e2 hp) (e2.trans (Ex.new hp)) ⟨vs, upd_same, hv.mono (Ex.new hp)⟩⟩
theorem twq_var {ps : List (Int × Int)} {v : V} (h : Ev te σ H v) (g : HasQ ps v H) : TrW te σ H (HasQ ps) := tw_ev h fun H' e => g.mono e
theorem PrsI.drop {H : Hp} (n : Nat) : ∀ {xs : List V} {ps : List (Int × Int)}, PrsI H xs ps → PrsI H (xs.drop n) (ps.drop n) := by
  induction n with
  | zero => exact fun h => h
  | succ n ih =>
    intro xs ps h
    cases h with
    | nil => exact .nil
    | cons a b => exact ih b
theorem PrsI.reverse {H : Hp} : ∀ {xs : List V} {ps : List (Int × Int)}, PrsI H xs ps → PrsI H xs.reverse ps.reverse
  | _, _, .nil => .nil
  | _, _, .cons a b => by
    rw [List.reverse_cons, List.reverse_cons]
    exact (PrsI.reverse b).app (.cons a .nil)
theorem cutFrom1 (xs : List V) : cutV xs (some 1) none = xs.drop 1 := by
  unfold cutV
  cases xs with
  | nil => rfl
  | cons x r =>
    rw [show HT.sIx (x :: r).length 0 (some 1) = min 1 (x :: r).length from HT.sIx_nat _ _ 1, HT.sIx_none, List.length_cons, Nat.min_eq_left (by omega), List.drop_succ_cons, List.drop_zero]
    exact List.take_of_length_le (by omega)
theorem twq_l {ps : List (Int × Int)} {xs : List V} (h : EvL te σ H xs) (g : PrsI H xs ps) : TrW te σ H (HasQ ps) := fun H1 e Q q => h H1 e _ fun p H2 hp e2 h2 => q _ H2 e2 ⟨p, xs, rfl, h2, g.mono (e.trans e2)⟩
theorem twq_one {i j : Int} (h : EvU te σ H [.int i, .int j]) : TrW (tLst (tCons te tNil)) σ H (HasQ [(i, j)]) := tw_n (tn_lst1U h) fun p H' ⟨r, h1, h2⟩ => ⟨p, _, rfl, h1, .cons ⟨r, rfl, h2⟩ .nil⟩
end
theorem rg3 (L : Nat) (h : L ≤ 63) : RgC 0 (if (L : Int) > 1 then (L : Int) else 1) (1 + (L : Int) / 3) (turnsN 3 L) ∧ turnsN 3 L ≤ 3 := by
  have : ∀ L : Fin 64, RgC 0 (if (L.val : Int) > 1 then (L.val : Int) else 1) (1 + (L.val : Int) / 3) (turnsN 3 L.val) ∧ turnsN 3 L.val ≤ 3 := by
    unfold RgC
    decide +kernel
  exact this ⟨L, by omega⟩
section
variable {K : PySem.W.Frag} {H : Hp} {σ : L2.St} {ta tb te tl : TE} {D : Ends} {tu tz : TS}
theorem ev_neNil {p : Addr} {rs : List V} {ds : List PyData} (ha : Ev ta σ H (.ref p)) (hl : SqL K H p rs) (hd : DpAll K H rs ds) {k : Nat} (l : Lay k (.list ds)) (hk : k ≤ 64 := by decide) : Ev (tOp (rNeD K) ta (tLst tNil)) σ H (.bl (!decide (ds = []))) := fun H1 e Q q =>
  ha H1 e _ fun H2 e2 => (el_lst (vs := []) (σ := σ) ea_nil (by decide)) H2 (Ex.refl H2) _ fun o H3 ho e3 h3 => by
    refine ⟨.list ds, .list [], dp_mono ((e.trans e2).trans e3) (.lst hl hd), .lst (SqL.of h3) .nil, l.shaped hk, rfl, ?_⟩
    have e4 : PyData.eqv (.list ds) (.list []) = decide (ds = []) := by
      cases ds with
      | nil => rfl
      | cons a b => rfl
    rw [e4]
    exact q H3 (e2.trans e3)
theorem q_forTN {j : Nat} {R : Addr → Hp → Prop} (h : TrN tl σ H R) (k : ∀ p H1, H p = none → Ex H H1 → R p H1 → ∃ (xs : List V) (Pv : Nat → L2.St → Hp → Prop), SqT K H1 p xs ∧ Pv 0 σ H1 ∧ (∀ i σ' H', i ≤ xs.length → Pv i σ' H' → SqT K H' p xs) ∧
      (∀ (i : Nat) x σ' H', xs[i]? = some x → Pv i σ' H' → tu { D with nx := Pv (i + 1), ct := Pv (i + 1), bk := tz D } (σ'.set j (some x)) H') ∧ ∀ σ' H', Pv xs.length σ' H' → tz D σ' H') :
    tSeq (tFor (iTup K tl) (gName j) tu) tz D σ H := s_forTN (D := { D with nx := tz D }) h k
theorem el_catV {a b : Addr} {xs ys : List V} (ha : Ev ta σ H (.ref a)) (hb : Ev tb σ H (.ref b)) (h1 : H a = some (.lst xs)) (h2 : H b = some (.lst ys)) (hz : xs.length + ys.length ≤ 100000) : EvL (tOp rCat ta tb) σ H (xs ++ ys) := fun H1 e Q q =>
  ha H1 e _ fun H2 e2 => hb H2 (e.trans e2) _ fun H3 e3 => ⟨a, b, xs, ys, rfl, rfl, e3 _ _ (e2 _ _ (e _ _ h1)), e3 _ _ (e2 _ _ (e _ _ h2)), sz_of hz, fun u hu => q u _ (fresh_back (e2.trans e3) hu) ((e2.trans e3).trans (Ex.new hu)) upd_same⟩
/-- [f(x) for x in a new list] -/
theorem tn_lcG {α : Type} (g : α → Bool) {R R' : Addr → Hp → Prop} {j : Nat} {vs : List Nat} (h : TrN tl σ H R) (hw : ∀ x, wipe ((wipe σ vs).set j (some x)) vs = wipe σ vs)
    (k : ∀ p H1, Ex H H1 → R p H1 → ∃ (rows : List α) (xs : List V), SqL K H1 p xs ∧ xs.length = rows.length ∧ rows.length < sizeLine ∧
      (∀ (i : Nat) (x : V) (r : α) H2, Ex H1 H2 → xs[i]? = some x → rows[i]? = some r → Ev te ((wipe σ vs).set j (some x)) H2 (.bl (g r))) ∧ ∀ q H2, H2 q = some (.lst ((rows.map g).map V.bl)) → R' q H2) : TrN (tLc (iList K tl) (gName j) tYes te vs) σ H R' := fun H0 e Q q =>
  h H0 e _ fun p H1 hp e1 r => by
    obtain ⟨rows, xs, h1, h2, h3, h4, h5⟩ := k p H1 (e.trans e1) r
    exact (el_lcG (K := K) (H := H1) (σ := σ) (tl := tC (.ref p)) (te := te) (rows := rows) g ev_c h1 h2 h3 hw h4) H1 (Ex.refl H1) _ fun q' H2 hq e2 h6 => q q' H2 (fresh_back e1 hq) (e1.trans e2) (h5 q' H2 h6)
theorem ev_anyN {b : Bool} (h : TrN te σ H fun q H2 => ∃ bs : List Bool, H2 q = some (.lst (bs.map V.bl)) ∧ bs.any id = b) : Ev (tCB (rAny K) (tCons te tNil)) σ H (.bl b) := fun H1 e Q q =>
  h H1 e _ fun p H2 hp e2 ⟨bs, h1, h2⟩ => by
    subst h2
    exact ⟨p, bs, rfl, SqL.of h1, q H2 e2⟩
theorem tw_l {xs : List V} {R : V → Hp → Prop} (h : EvL te σ H xs) (k : ∀ p H', H' p = some (.lst xs) → R (.ref p) H') : TrW te σ H R := fun H1 e Q q => h H1 e _ fun p H2 hp e2 h2 => q _ H2 e2 (k p H2 h2)
end
end Eg

set_option Elab.async false
set_option autoImplicit false
set_option linter.all false
set_option maxRecDepth 100000
set_option maxHeartbeats 2000000
namespace Eg
open PySem PySem.Spec PyProof.Rows L2 Evl
/-! # what is handed in: any values of the built-in kinds -/
def isNum : V → Bool
  | .int _ => true
  | _ => false
def isMeas (g : Int) : V → Bool
  | .int i => decide (0 ≤ i) && decide (i ≤ g)
  | _ => false
def ItemOk (K : PySem.W.Frag) (H : Hp) (v : V) : Prop := (∃ i, v = .int i) ∨ (∃ n, TyX K H v (.type n) ∧ isNum v = false ∧ ((kitB n "int" = some true ∧ kitB n "bool" = some true) ∨ kitB n "int" = some false))
theorem isMeas_no {g : Int} {v : V} (h : isNum v = false) : isMeas g v = false := by
  cases v <;> first | rfl | cases h
/-- x is a row (b = true) of at most m numbers to g, or none (b = false) -/
inductive RowQ (K : PySem.W.Frag) (H : Hp) (m : Nat) (g : Int) : V → Bool → Prop
  | other {x : V} {n : String} (ty : TyX K H x (.type n)) (k : kitB n "list" = some false) : RowQ K H m g x false
  | lst {a : Addr} {xs : List V} (h : SqL K H a xs) (hi : ∀ v ∈ xs, ItemOk K H v) : RowQ K H m g (.ref a) ((decide (1 ≤ xs.length) && decide (xs.length ≤ m)) && xs.all (isMeas g))
/-- x is a pair of places below n, the lesser first (b = true), or none -/
inductive PairQ (K : PySem.W.Frag) (H : Hp) (n : Nat) : V → Bool → Prop
  | other {x : V} {t : String} (ty : TyX K H x (.type t)) (k : kitB t "tuple" = some false) : PairQ K H n x false
  | long {a : Addr} {xs : List V} (h : SqT K H a xs) (hl : xs.length ≠ 2) : PairQ K H n (.ref a) false
  | two {a : Addr} {x y : V} (h : SqT K H a [x, y]) (hx : ItemOk K H x) (hy : ItemOk K H y) (no : isNum x = false ∨ isNum y = false) : PairQ K H n (.ref a) false
  | nums {a : Addr} {i j : Int} (h : SqT K H a [.int i, .int j]) : PairQ K H n (.ref a) (decide (0 ≤ i) && (decide (i < j) && decide (j < (n : Int))))
/-- the own errors -/
structure TxE (K : PySem.W.Frag) (mg : Str → Option Value) (x : Str) (C : Addr) : Prop where
  g : mg x = some (.ref C)
  x : PySem.W.excIn K C [.type "ValueError", .type "Exception", .type "BaseException", .type "object"] "ValueError.__new__" = true
  k : PySem.W.keepIn K (.ref C) = true
  b : PySem.W.subIn K (.ref C) (.type "BaseException") = some true
  t : PySem.W.typeIn K (.ref C) = some (.type "type")
section
variable {K : PySem.W.Frag} {H H' : Hp} {σ : L2.St} {ta tb te : TE}
theorem TyX.monoE {v : V} {t : Value} (e : Ex H H') (h : TyX K H v t) : TyX K H' v t := by
  cases h with
  | base b =>
    cases b with
    | non => exact .base .non
    | bl x => exact .base (.bl x)
    | int i => exact .base (.int i)
    | str x => exact .base (.str x)
    | flt x => exact .base (.flt x)
    | lst a => exact .base (.lst (e _ _ a))
    | frz a => exact .base (.frz (e _ _ a))
    | tup a => exact .base (.tup (e _ _ a))
    | dK a => exact .base (.dK (e _ _ a))
    | dT a => exact .base (.dT (e _ _ a))
    | ins a cl ha hn htk hm => exact .base (.ins (e _ _ a) cl ha hn htk hm)
  | byt b => exact .byt b
  | set a => exact .set (e _ _ a)
  | kList a c => exact .kList a c
  | kTuple a c => exact .kTuple a c
  | kDict a c => exact .kDict a c
  | fTuple a => exact .fTuple (e _ _ a)
  | fDict a => exact .fDict (e _ _ a)
theorem ItemOk.mono {v : V} (e : Ex H H') (h : ItemOk K H v) : ItemOk K H' v := by
  rcases h with h | ⟨n, h1, h2, h3⟩
  · exact .inl h
  · exact .inr ⟨n, TyX.monoE e h1, h2, h3⟩
theorem RowQ.mono {m : Nat} {g : Int} {v : V} {b : Bool} (e : Ex H H') (h : RowQ K H m g v b) : RowQ K H' m g v b := by
  cases h with
  | other ty k => exact .other (TyX.monoE e ty) k
  | lst h hi => exact .lst (ex_l e h) fun v hv => (hi v hv).mono e
theorem PairQ.mono {n : Nat} {v : V} {b : Bool} (e : Ex H H') (h : PairQ K H n v b) : PairQ K H' n v b := by
  cases h with
  | other ty k => exact .other (TyX.monoE e ty) k
  | long h hl => exact .long (ex_t e h) hl
  | two h hx hy no => exact .two (ex_t e h) (hx.mono e) (hy.mono e) no
  | nums h => exact .nums (ex_t e h)
theorem item_int (i : Int) : ItemOk K H (.int i) := .inl ⟨i, rfl⟩
theorem all_meas {g : Int} {ns : List Int} (h : ∀ x ∈ ns, 0 ≤ x ∧ x ≤ g) : (ns.map V.int).all (isMeas g) = true := by
  rw [List.all_map, List.all_eq_true]
  intro x hx
  obtain ⟨h1, h2⟩ := h x hx
  show (decide (0 ≤ x) && decide (x ≤ g)) = true
  rw [decide_eq_true h1, decide_eq_true h2]
  rfl
end
end Eg

set_option Elab.async false
set_option autoImplicit false
set_option linter.all false
set_option maxRecDepth 100000
set_option maxHeartbeats 2000000
namespace Eg
open PySem PySem.Spec PyProof.Rows L2 Evl
/-! # of which classes a refusal is -/
structure TxK (K : PySem.W.Frag) (mg : Str → Option Value) (cG cR cE : Addr) : Prop where
  gG : mg "GlassError" = some (.ref cG)
  gR : mg "BadRow" = some (.ref cR)
  gE : mg "BadEvening" = some (.ref cE)
  eR : ExcC K cR
  eE : ExcC K cE
  xR : PySem.W.exmOne K (.ref cR) (.ref cG) = some true
  xE : PySem.W.exmOne K (.ref cE) (.ref cG) = some true
  kRR : PySem.W.kitOne K (.ref cR) (.ref cR) = some true
  kRE : PySem.W.kitOne K (.ref cR) (.ref cE) = some false
  kRV : PySem.W.kitOne K (.ref cR) (.type "ValueError") = some true
  kER : PySem.W.kitOne K (.ref cE) (.ref cR) = some false
  kEE : PySem.W.kitOne K (.ref cE) (.ref cE) = some true
  kEV : PySem.W.kitOne K (.ref cE) (.type "ValueError") = some true
/-- what a refusal of the class cls tells -/
def Told (K : PySem.W.Frag) (cG cR cE : Addr) (Q : VK) : XK := fun cls d H' => ∃ (D : Addr) (b1 b2 b3 : Bool), cls = .ref D ∧ d = none ∧ ExcC K D ∧ PySem.W.exmOne K cls (.ref cG) = some true ∧
  PySem.W.kitOne K (.ref D) (.ref cR) = some b1 ∧ PySem.W.kitOne K (.ref D) (.ref cE) = some b2 ∧ PySem.W.kitOne K (.ref D) (.type "ValueError") = some b3 ∧ ∀ H2, Ex H' H2 → ∀ p, H' p = none → H2 p = some (.lst [.bl b1, .bl b2, .bl b3]) → Q (.ref p) H2
def TTk (K : PySem.W.Frag) (cG cR cE : Addr) : (XK → Hp → VK → Prop) → Hp → VK → Prop := fun tl H Q => ∀ p0, H p0 = none → tl (Told K cG cR cE Q) (upd H p0 (.lst [])) (fun _ _ => False)
/-- a def that may be called, as FnR -/
theorem Cal.fnR {P : Program} {w : World} {K : PySem.W.Frag} {mg : Str → Option Value} {base : Heap} {CX : CXT} {k : Nat} {x : Str} {ps : List Str} {sp : Sp} {f : Addr} {fd : FuncData} (c : Cal P w K mg base CX k x ps sp f fd) : FnR P w K mg base CX k f sp := fun A outer s H us vs Q E hr e0 r h => by
  have hl : us.length = ps.length := by rw [← r.length]; exact c.ok.len _ _ _ _ h
  have X : K.In s.heap := e0.mod.kin.keeps fun b o e => (e0.bs b o e).1
  have b := c.b s us X (by rw [List.append_nil]; exact hl)
  rw [List.append_nil] at b
  exact c.ok.run A outer s H ⟨us, []⟩ us vs Q E hr e0 b r h
/-- what the body of a lambda may let out -/
theorem lam_passes {X : L2.Cx} {A : Around} {outer : List Env} {s : Shared} {H : Hp} {E : XK} {scope : Scope} {f c' : Addr} : Passes (L2.CX X.prog X.w) (LamX.lamCx X A outer s H E scope f c') E :=
  L2.passes_call (L2.takes_of (X := LamX.lamCx X A outer s H E scope f c') (E := E) rfl rfl rfl rfl) fun _ _ _ _ h => h
theorem pe_weak {X : L2.Cx} {e : Expr} {t : TE} (h : PE X e t) : PE X e (fun σ H Q => ∃ R : VK, t σ H R ∧ ∀ v H', R v H' → Q v H') := ⟨fun pins s σ H Q I ⟨R, h1, k⟩ => thn (h.run pins s σ H R I h1) fun u s1 ⟨v, H1, I1, r, q⟩ => ⟨v, H1, I1, r, k v H1 q⟩⟩
theorem ev_isE {K : PySem.W.Frag} {H : Hp} {σ : L2.St} {ta : TE} {D a : Addr} {c : V} {cv : Value} {b : Bool} (ha : Ev ta σ H (.ref a)) (hc : ∀ u, RelV c u → u = cv) (k : PySem.W.kitOne K (.ref D) cv = some b) : Ev (tCB (rIsE K D a) (tCons ta (tCons (tC c) tNil))) σ H (.bl b) := fun H1 e Q q =>
  ha H1 e _ fun H2 e2 => ⟨c, cv, b, rfl, hc, k, q H2 e2⟩
/-- the reading of the except clause -/
def tsK (K : PySem.W.Frag) (cR cE : Addr) (a : Addr) (cls : Value) (d : Option Addr) : TS := fun D σ H => ∃ (Dx : Addr) (b1 b2 b3 : Bool), cls = .ref Dx ∧ d = none ∧ ExcC K Dx ∧ PySem.W.kitOne K (.ref Dx) (.ref cR) = some b1 ∧ PySem.W.kitOne K (.ref Dx) (.ref cE) = some b2 ∧ PySem.W.kitOne K (.ref Dx) (.type "ValueError") = some b3 ∧
  σ[2]? = some (some (.ref a)) ∧ ∀ p H2, H p = none → Ex H H2 → H2 p = some (.lst [.bl b1, .bl b2, .bl b3]) → D.nx (σ.set 1 (some (.ref p))) H2
/-- the state at a raise has all slots -/
theorem takes_len {X : L2.Cx} {W : WX} (t : Takes X W) : Takes X (fun cls d σ H => σ.length = X.N.length → W cls d σ H) := fun u s' ⟨a, B, sI, pins, σ, H, cls, d, e, I, nb, up, sky, na, os, ag, w⟩ =>
  t u s' ⟨a, B, sI, pins, σ, H, cls, d, e, I, nb, up, sky, na, os, ag, w I.len⟩
end Eg

set_option Elab.async false
set_option autoImplicit false
set_option linter.all false
set_option maxRecDepth 100000
set_option maxHeartbeats 2000000
namespace Eg
open PySem PySem.Spec PyProof.Rows L2 Evl
/-! # lists of values of any kind -/
def UpP (P : V → Hp → Prop) : Prop := ∀ v H H', Ex H H' → P v H → P v H'
def TrAll (tA : TA) (σ : L2.St) (H : Hp) (n : Nat) (P : V → Hp → Prop) : Prop := ∀ H1, Ex H H1 → ∀ Q : List V → Hp → Prop, (∀ vs H2, Ex H1 H2 → vs.length = n → (∀ v ∈ vs, P v H2) → Q vs H2) → tA σ H1 Q
def HasAll (n : Nat) (P : V → Hp → Prop) (p : Addr) (H : Hp) : Prop := ∃ xs, H p = some (.lst xs) ∧ xs.length = n ∧ ∀ v ∈ xs, P v H
section
variable {K : PySem.W.Frag} {H : Hp} {σ : L2.St} {ta tb te : TE} {tr : TA} {P : V → Hp → Prop} {n m : Nat}
theorem trall_nil : TrAll tNil σ H 0 P := fun H1 _ Q q => q [] H1 (Ex.refl H1) rfl fun v hv => absurd hv (by simp)
theorem trall_cons (hP : UpP P) (h : TrW te σ H P) (g : TrAll tr σ H n P) : TrAll (tCons te tr) σ H (n + 1) P := fun H1 e Q q =>
  h H1 e _ fun v H2 e2 hv => g H2 (e.trans e2) _ fun vs H3 e3 hl hvs => q _ H3 (e2.trans e3) (by rw [List.length_cons, hl]) fun w hw => by
    rcases List.mem_cons.mp hw with rfl | hw
    · exact hP _ _ _ e3 hv
    · exact hvs w hw
theorem tn_lstAll {tA : TA} (hP : UpP P) (h : TrAll tA σ H n P) (hz : n ≤ 100000) : TrN (tLst tA) σ H (HasAll n P) := fun H1 e Q q =>
  h H1 e _ fun vs H2 e2 hl hv => ⟨by rw [hl]; exact sz_of hz, fun p hp => q p _ (fresh_back e2 hp) (e2.trans (Ex.new hp)) ⟨vs, upd_same, hl, fun v hm => hP _ _ _ (Ex.new hp) (hv v hm)⟩⟩
theorem tn_catAll (hP : UpP P) (ha : TrN ta σ H (HasAll n P)) (hb : ∀ H1, Ex H H1 → TrN tb σ H1 (HasAll m P)) (hz : n + m ≤ 100000) : TrN (tOp rCat ta tb) σ H (HasAll (n + m) P) := fun H1 e Q q =>
  ha H1 e _ fun p H2 hp e2 ⟨xs, h1, h2, h3⟩ => hb H2 (e.trans e2) H2 (Ex.refl H2) _ fun r H3 hr e3 ⟨ys, k1, k2, k3⟩ => ⟨p, r, xs, ys, rfl, rfl, e3 _ _ h1, k1, by rw [h2, k2]; exact sz_of hz, fun u hu =>
    q u _ (fresh_back (e2.trans e3) hu) ((e2.trans e3).trans (Ex.new hu)) ⟨xs ++ ys, upd_same, by rw [List.length_append, h2, k2], fun v hv => hP _ _ _ (Ex.new hu) (by
      rcases List.mem_append.mp hv with hv | hv
      · exact hP _ _ _ e3 (h3 v hv)
      · exact k3 v hv)⟩⟩
theorem tw_u {xs : List V} {R : V → Hp → Prop} (h : EvU te σ H xs) (k : ∀ p H', H' p = some (.tup xs) → R (.ref p) H') : TrW te σ H R := fun H1 e Q q => h H1 e _ fun p H2 hp e2 h2 => q _ H2 e2 (k p H2 h2)
theorem el_rep {v : V} {k : Int} (ha : EvL ta σ H [v]) (hb : ∀ H1, Ex H H1 → Ev tb σ H1 (.int k)) (h0 : 0 ≤ k) (h1 : k ≤ 100000) : EvL (tOp rRep ta tb) σ H (List.replicate k.toNat v) := fun H1 e Q q =>
  ha H1 e _ fun p H2 hp e2 h2 => hb H2 (e.trans e2) H2 (Ex.refl H2) _ fun H3 e3 => ⟨p, k, [v], rfl, rfl, e3 _ _ h2, by omega, by omega, by rw [show [v].length * k.toNat = k.toNat from Nat.one_mul _]; exact sz_of (by omega), fun u hu =>
    q u _ (fresh_back (e2.trans e3) hu) ((e2.trans e3).trans (Ex.new hu)) (by rw [List.flatten_replicate_singleton]; exact upd_same)⟩
end
section
variable {K : PySem.W.Frag} {H : Hp}
theorem item_ty {v : V} {n : String} (ty : TyX K H v (.type n)) (hn : isNum v = false) (k : kitB n "int" = some false) : ItemOk K H v := .inr ⟨n, ty, hn, .inr k⟩
theorem item_bl (b : Bool) : ItemOk K H (.bl b) := .inr ⟨"bool", .base (.bl b), rfl, .inl ⟨by decide +kernel, by decide +kernel⟩⟩
end
/-- what is no number, or a number below 0 -/
def Strg (K : PySem.W.Frag) (v : V) (H : Hp) : Prop := ItemOk K H v ∧ (isNum v = false ∨ ∃ i : Int, i < 0 ∧ v = .int i)
theorem Strg.up {K : PySem.W.Frag} : UpP (Strg K) := fun v H H' e h => ⟨h.1.mono e, h.2⟩
/-- what can't be in a row to g -/
def BadIt (K : PySem.W.Frag) (g : Int) (v : V) (H : Hp) : Prop := ItemOk K H v ∧ isMeas g v = false
theorem BadIt.up {K : PySem.W.Frag} {g : Int} : UpP (BadIt K g) := fun v H H' e h => ⟨h.1.mono e, h.2⟩
theorem Strg.bad {K : PySem.W.Frag} {g : Int} {v : V} {H : Hp} (h : Strg K v H) : BadIt K g v H := ⟨h.1, by
  rcases h.2 with h | ⟨i, hi, rfl⟩
  · exact isMeas_no h
  · show (decide (0 ≤ i) && decide (i ≤ g)) = false
    rw [decide_eq_false (by omega)]
    rfl⟩
/-- a list in place: what its items were stays -/
theorem tyX_upd {K : PySem.W.Frag} {H : Hp} {d : Addr} {xs ys : List V} (hd : H d = some (.lst xs)) {v : V} {t : Value} (h : TyX K H v t) : TyX K (L2.upd H d (.lst ys)) v t := by
  have go : ∀ {a : Addr} {o : HO}, H a = some o → (∀ zs, o ≠ .lst zs) → (L2.upd H d (.lst ys)) a = some o := fun {a o} h n => by
    rw [upd_ne (fun z => n xs (by rw [z, hd] at h; exact (Option.some.inj h).symm))]
    exact h
  cases h with
  | base b =>
    cases b with
    | non => exact .base .non
    | bl x => exact .base (.bl x)
    | int i => exact .base (.int i)
    | str x => exact .base (.str x)
    | flt x => exact .base (.flt x)
    | @lst a zs h =>
      by_cases e : a = d
      · rw [e]
        exact .base (.lst upd_same)
      · exact .base (.lst (by rw [upd_ne e]; exact h))
    | frz a => exact .base (.frz (go a (fun zs z => by cases z)))
    | tup a => exact .base (.tup (go a (fun zs z => by cases z)))
    | dK a => exact .base (.dK (go a (fun zs z => by cases z)))
    | dT a => exact .base (.dT (go a (fun zs z => by cases z)))
    | ins a cl ha hn htk hm => exact .base (.ins (go a (fun zs z => by cases z)) cl ha hn htk hm)
  | byt b => exact .byt b
  | set a => exact .set (go a (fun zs z => by cases z))
  | kList a c => exact .kList a c
  | kTuple a c => exact .kTuple a c
  | kDict a c => exact .kDict a c
  | fTuple a => exact .fTuple (go a (fun zs z => by cases z))
  | fDict a => exact .fDict (go a (fun zs z => by cases z))
theorem item_upd {K : PySem.W.Frag} {H : Hp} {d : Addr} {xs ys : List V} (hd : H d = some (.lst xs)) {v : V} (h : ItemOk K H v) : ItemOk K (L2.upd H d (.lst ys)) v := by
  rcases h with h | ⟨n, h1, h2, h3⟩
  · exact .inl h
  · exact .inr ⟨n, tyX_upd hd h1, h2, h3⟩
/-- a value that is no row, told by lists of the heap alone -/
def RowB (K : PySem.W.Frag) (m : Nat) (g : Int) (v : V) (H : Hp) : Prop := (∃ n, TyX K H v (.type n) ∧ kitB n "list" = some false) ∨ ∃ a xs, v = .ref a ∧ H a = some (.lst xs) ∧ (∀ w ∈ xs, ItemOk K H w) ∧ ((decide (1 ≤ xs.length) && decide (xs.length ≤ m)) && xs.all (isMeas g)) = false
theorem RowB.up {K : PySem.W.Frag} {m : Nat} {g : Int} : UpP (RowB K m g) := fun v H H' e h => by
  rcases h with ⟨n, h1, h2⟩ | ⟨a, xs, h1, h2, h3, h4⟩
  · exact .inl ⟨n, TyX.monoE e h1, h2⟩
  · exact .inr ⟨a, xs, h1, e _ _ h2, fun w hw => (h3 w hw).mono e, h4⟩
theorem RowB.q {K : PySem.W.Frag} {m : Nat} {g : Int} {v : V} {H : Hp} (h : RowB K m g v H) : RowQ K H m g v false := by
  rcases h with ⟨n, h1, h2⟩ | ⟨a, xs, rfl, h2, h3, h4⟩
  · exact .other h1 h2
  · have h := RowQ.lst (m := m) (g := g) (SqL.of (K := K) h2) h3
    rw [h4] at h
    exact h
theorem RowB.upd {K : PySem.W.Frag} {m : Nat} {g : Int} {v : V} {H : Hp} {d : Addr} {xs ys : List V} (hd : H d = some (.lst xs)) (hv : v ≠ .ref d) (h : RowB K m g v H) : RowB K m g v (L2.upd H d (.lst ys)) := by
  rcases h with ⟨n, h1, h2⟩ | ⟨a, zs, rfl, h2, h3, h4⟩
  · exact .inl ⟨n, tyX_upd hd h1, h2⟩
  · exact .inr ⟨a, zs, rfl, by rw [upd_ne (fun z => hv (by rw [z]))]; exact h2, fun w hw => item_upd hd (h3 w hw), h4⟩
theorem rowB_long {K : PySem.W.Frag} {m : Nat} {g : Int} {H : Hp} {p : Addr} {k : Nat} {i : Int} (h : H p = some (.lst (List.replicate k (.int i)))) (hk : m < k) : RowB K m g (.ref p) H := .inr ⟨p, _, rfl, h, fun w hw => by rw [(List.mem_replicate.mp hw).2]; exact item_int i, by
  rw [List.length_replicate, decide_eq_false (show ¬ k ≤ m by omega), Bool.and_false]
  rfl⟩
theorem rowB_item {K : PySem.W.Frag} {m : Nat} {g : Int} {H : Hp} {p : Addr} {xs : List V} {v : V} (h : H p = some (.lst xs)) (hi : ∀ w ∈ xs, ItemOk K H w) (hv : v ∈ xs) (hb : isMeas g v = false) : RowB K m g (.ref p) H := .inr ⟨p, xs, rfl, h, hi, by
  have : xs.all (isMeas g) = false := List.all_eq_false.mpr ⟨v, hv, by rw [hb]; decide⟩
  rw [this, Bool.and_false]⟩
/-- a value that is no row and that stands -/
def RowL (K : PySem.W.Frag) (m : Nat) (g : Int) (v : V) (H : Hp) : Prop := RowB K m g v H ∧ ∀ p, v = .ref p → H p ≠ none
theorem RowL.up {K : PySem.W.Frag} {m : Nat} {g : Int} : UpP (RowL K m g) := fun v H H' e h => ⟨RowB.up v H H' e h.1, fun p hp hn => by
  cases ho : H p with
  | none => exact h.2 p hp ho
  | some o =>
    rw [e _ _ ho] at hn
    cases hn⟩
section
variable {K : PySem.W.Frag} {H : Hp} {σ : L2.St} {ta tb te : TE} {m : Nat} {g : Int}
theorem tn_lstAll2 {tA : TA} {n : Nat} (h : TrAll tA σ H n (RowL K m g)) (hz : n ≤ 100000) : TrN (tLst tA) σ H (fun p H' => ∃ xs, H' p = some (.lst xs) ∧ xs.length = n ∧ ∀ v ∈ xs, RowB K m g v H' ∧ v ≠ .ref p) := fun H1 e Q q =>
  h H1 e _ fun vs H2 e2 hl hv => ⟨by rw [hl]; exact sz_of hz, fun p hp => q p _ (fresh_back e2 hp) (e2.trans (Ex.new hp)) ⟨vs, upd_same, hl, fun v hm => ⟨RowB.up _ _ _ (Ex.new hp) (hv v hm).1, fun z => (hv v hm).2 p z hp⟩⟩⟩
theorem rl_val {v : V} {n : String} (ty : TyX K H v (.type n)) (k : kitB n "list" = some false) (hv : ∀ p, v ≠ .ref p) : RowL K m g v H := ⟨.inl ⟨n, ty, k⟩, fun p z => absurd z (hv p)⟩
theorem rl_ref {p : Addr} {o : HO} {n : String} (h : H p = some o) (ty : TyX K H (.ref p) (.type n)) (k : kitB n "list" = some false) : RowL K m g (.ref p) H := ⟨.inl ⟨n, ty, k⟩, fun q z hn => by
  cases z
  rw [h] at hn
  cases hn⟩
theorem rl_lst {p : Addr} {xs : List V} (h : H p = some (.lst xs)) (b : RowB K m g (.ref p) H) : RowL K m g (.ref p) H := ⟨b, fun q z hn => by
  cases z
  rw [h] at hn
  cases hn⟩
/-- xs.insert(i, v) -/
theorem q_ins {D : Ends} {tz : TS} {tc : TE} {l : Addr} {xs : List V} {i : Int} {v : V} (hl : H l = some (.lst xs)) (ha : Ev ta σ H (.ref l)) (hb : Ev tb σ H (.int i)) (hc : Ev tc σ H v) (h0 : 0 ≤ i) (h1 : i ≤ 1000) (hz : xs.length < 100000) (k : ∀ H1, Ex H H1 → tz D σ (upd H1 l (.lst (xs.take i.toNat ++ [v] ++ xs.drop i.toNat)))) :
    tSeq (tDrop (tBM K "list" (fun x vs H Q => ∃ (l : Addr) (xs : List V) (i : Int) (y : V), x = .ref l ∧ vs = [.int i, y] ∧ H l = some (.lst xs) ∧ xs.length < sizeLine ∧ 0 ≤ i ∧ i < 2 ^ 63 ∧ Q .non (upd H l (.lst (xs.take i.toNat ++ [y] ++ xs.drop i.toNat)))) ta (tCons tb (tCons tc tNil)))) tz D σ H :=
  ha H (Ex.refl H) _ fun H1 e1 => ⟨Or.inl ⟨rfl, xs, sq_of (e1 l _ hl)⟩, hb H1 e1 _ fun H2 e2 => hc H2 (e1.trans e2) _ fun H3 e3 => ⟨l, xs, i, v, rfl, rfl, e3 _ _ (e2 _ _ (e1 l _ hl)), sz_lt hz, h0, by omega, k H3 (e1.trans (e2.trans e3))⟩⟩
end
end Eg

set_option Elab.async false
set_option autoImplicit false
set_option linter.all false
set_option maxRecDepth 100000
set_option maxHeartbeats 2000000
namespace Eg
open PySem PySem.Spec PyProof.Rows L2 Evl
open LamX (ExtN Tabs)
/-! # all but the tables of code objects stays -/
theorem ext_l {K : PySem.W.Frag} {H H' : Hp} (e : ExtN H H') {p : Addr} {xs : List V} (h : H p = some (.lst xs)) : H' p = some (.lst xs) := e _ _ h fun ps z => by cases z
theorem ext_t {H H' : Hp} (e : ExtN H H') {p : Addr} {xs : List V} (h : H p = some (.tup xs)) : H' p = some (.tup xs) := e _ _ h fun ps z => by cases z
theorem tyX_ext {K : PySem.W.Frag} {H H' : Hp} (e : ExtN H H') {v : V} {t : Value} (h : TyX K H v t) : TyX K H' v t := by
  cases h with
  | base b =>
    cases b with
    | non => exact .base .non
    | bl x => exact .base (.bl x)
    | int i => exact .base (.int i)
    | str x => exact .base (.str x)
    | flt x => exact .base (.flt x)
    | lst a => exact .base (.lst (e _ _ a fun ps z => by cases z))
    | frz a => exact .base (.frz (e _ _ a fun ps z => by cases z))
    | tup a => exact .base (.tup (e _ _ a fun ps z => by cases z))
    | dK a => exact .base (.dK (e _ _ a fun ps z => by cases z))
    | dT a => exact .base (.dT (e _ _ a fun ps z => by cases z))
    | ins a cl ha hn htk hm => exact .base (.ins (e _ _ a fun ps z => by cases z) cl ha hn htk hm)
  | byt b => exact .byt b
  | set a => exact .set (e _ _ a fun ps z => by cases z)
  | kList a c => exact .kList a c
  | kTuple a c => exact .kTuple a c
  | kDict a c => exact .kDict a c
  | fTuple a => exact .fTuple (e _ _ a fun ps z => by cases z)
  | fDict a => exact .fDict (e _ _ a fun ps z => by cases z)
theorem item_ext {K : PySem.W.Frag} {H H' : Hp} (e : ExtN H H') {v : V} (h : ItemOk K H v) : ItemOk K H' v := by
  rcases h with h | ⟨n, h1, h2, h3⟩
  · exact .inl h
  · exact .inr ⟨n, tyX_ext e h1, h2, h3⟩
theorem RowB.ext {K : PySem.W.Frag} {m : Nat} {g : Int} {v : V} {H H' : Hp} (e : ExtN H H') (h : RowB K m g v H) : RowB K m g v H' := by
  rcases h with ⟨n, h1, h2⟩ | ⟨a, xs, h1, h2, h3, h4⟩
  · exact .inl ⟨n, tyX_ext e h1, h2⟩
  · exact .inr ⟨a, xs, h1, ext_l (K := K) e h2, fun w hw => item_ext e (h3 w hw), h4⟩
theorem bl3_dp {K : PySem.W.Frag} {H : Hp} {p : Addr} {x y z : Bool} (h : H p = some (.lst [.bl x, .bl y, .bl z])) : Dp K H (.ref p) (.list [.bool x, .bool y, .bool z]) := .lst (SqL.of h) (.cons (.bl x) (.cons (.bl y) (.cons (.bl z) .nil)))
theorem lay_bl3 (a b c : Bool) : Lay 1 (.list [.bool a, .bool b, .bool c]) := lay_list fun d hd => by
  rcases List.mem_cons.mp hd with e | e
  · rw [e]
    exact lay_bl a
  · rcases List.mem_cons.mp e with e | e
    · rw [e]
      exact lay_bl b
    · rw [List.mem_singleton.mp e]
      exact lay_bl c
/-- if kinds(lambda: ..) != [..]: return False -/
theorem s_kinds {K : PySem.W.Frag} {H : Hp} {σ : L2.St} {tb : TE} {tu : TS} {D : Ends} {T : List (Addr × Str)} {t : XK → TE} {cG cR cE C : Addr} {b1 b2 b3 : Bool} (hT : Tabs T H)
    (hC : ExcC K C) (hx : PySem.W.exmOne K (.ref C) (.ref cG) = some true) (k1 : PySem.W.kitOne K (.ref C) (.ref cR) = some b1) (k2 : PySem.W.kitOne K (.ref C) (.ref cE) = some b2) (k3 : PySem.W.kitOne K (.ref C) (.type "ValueError") = some b3)
    (hk : ∀ H1, ExtN H H1 → ∀ E : XK, (∀ H', Ex H1 H' → E (.ref C) none H') → t E σ H1 (fun _ _ => False)) (hb : ∀ H1, EvL tb σ H1 [.bl b1, .bl b2, .bl b3]) (k : ∀ H3, ExtN H H3 → Tabs T H3 → D.nx σ H3) :
    tIfS (tTest (tOp (rNeD K) (LamX.tLam T (TTk K cG cR cE) t) tb)) tu tNext D σ H := by
  refine ⟨hT, fun H1 e1 T1 p0 hp0 => hk _ (e1.trans (ExtN.of (Ex.new hp0))) _ fun H' e' => ?_⟩
  refine ⟨C, b1, b2, b3, rfl, rfl, hC, hx, k1, k2, k3, fun H2 e2 p hp h2 => ?_⟩
  refine hb H2 H2 (Ex.refl H2) _ fun p' H3 hp' e3 h3 => ?_
  refine rv_neD (K := K) (d := .list [.bool b1, .bool b2, .bool b3]) (dp_mono e3 (bl3_dp h2)) (bl3_dp h3) (lay_bl3 _ _ _) (by decide) H3 (Ex.refl H3) _ fun H4 e4 => ?_
  refine ⟨false, rfl, ?_⟩
  have eAll : Ex H1 H4 := (Ex.new hp0).trans (e'.trans (e2.trans (e3.trans e4)))
  exact iteF (k H4 (e1.trans (ExtN.of eAll)) (T1.ext eAll))
/-- for ask in (f, ..): if kinds(lambda: ..) != [..]: return False -/
theorem s_asks {K : PySem.W.Frag} {H : Hp} {σ0 : L2.St} {o : Option V} {fs : List Addr} {tA : TA} {tb : TE} {tu : TS} {D : Ends} {T : List (Addr × Str)} {t : XK → TE} {cG cR cE C : Addr} {b1 b2 b3 : Bool} (hf : EvA tA (σ0.set 2 o) H (fs.map V.ref)) (hl : fs.length ≤ 100000) (hT : Tabs T H)
    (hC : ExcC K C) (hx : PySem.W.exmOne K (.ref C) (.ref cG) = some true) (k1 : PySem.W.kitOne K (.ref C) (.ref cR) = some b1) (k2 : PySem.W.kitOne K (.ref C) (.ref cE) = some b2) (k3 : PySem.W.kitOne K (.ref C) (.type "ValueError") = some b3)
    (hb : ∀ σ H1, EvL tb σ H1 [.bl b1, .bl b2, .bl b3]) (hk : ∀ f ∈ fs, ∀ H1, ExtN H H1 → ∀ E : XK, (∀ H', Ex H1 H' → E (.ref C) none H') → t E (σ0.set 2 (some (.ref f))) H1 (fun _ _ => False)) (k : ∀ o' H3, ExtN H H3 → Tabs T H3 → D.nx (σ0.set 2 o') H3) :
    tFor (iTup K (tTup tA)) (gName 2) (tIfS (tTest (tOp (rNeD K) (LamX.tLam T (TTk K cG cR cE) t) tb)) tu tNext) D (σ0.set 2 o) H := by
  refine s_forTN (R := fun p H' => H' p = some (.tup (fs.map V.ref))) (eu_tup hf (by rw [List.length_map]; exact hl)) fun p H1 hp e1 hP => ?_
  refine ⟨fs.map V.ref, (fun i σ' H' => ∃ o', σ' = σ0.set 2 o' ∧ ExtN H1 H' ∧ Tabs T H'), SqT.of hP, ⟨o, rfl, ExtN.refl _, hT.ext e1⟩, (fun i σ' H' _ hP' => ?_), (fun i x σ' H' hx' hP' => ?_), (fun σ' H' hP' => ?_)⟩
  · obtain ⟨_, _, e, _⟩ := hP'
    exact SqT.of (ext_t e hP)
  · obtain ⟨o', rfl, eN, hT'⟩ := hP'
    obtain ⟨f, hfm, rfl⟩ := List.mem_map.mp (List.mem_of_getElem? hx')
    rw [List.set_set]
    exact s_kinds (K := K) hT' hC hx k1 k2 k3 (fun H2 e2 E hE => hk f hfm H2 ((ExtN.of e1).trans (eN.trans e2)) E hE) (fun H2 => hb _ H2) (fun H3 e3 T3 => ⟨_, rfl, eN.trans e3, T3⟩)
  · obtain ⟨o', rfl, eN, hT'⟩ := hP'
    exact k o' H' ((ExtN.of e1).trans eN) hT'
/-- no evening of [1, 2, 5, 1], told by tuples of the heap alone -/
def BadIJ (i j : Int) : Prop := (decide (0 ≤ i) && (decide (i < j) && decide (j < (4 : Int)))) = false ∨ ∃ a b : Nat, i = a ∧ j = b ∧ a < b ∧ b < 4 ∧ okP [1, 2, 5, 1] a b = false
def PairB (K : PySem.W.Frag) (v : V) (H : Hp) : Prop := (∃ t, TyX K H v (.type t) ∧ kitB t "tuple" = some false) ∨ ∃ a xs, v = .ref a ∧ H a = some (.tup xs) ∧ (xs.length ≠ 2 ∨ (∃ x y, xs = [x, y] ∧ ItemOk K H x ∧ ItemOk K H y ∧ (isNum x = false ∨ isNum y = false)) ∨ ∃ i j : Int, xs = [.int i, .int j] ∧ BadIJ i j)
theorem PairB.up {K : PySem.W.Frag} : UpP (PairB K) := fun v H H' e h => by
  rcases h with ⟨t, h1, h2⟩ | ⟨a, xs, h1, h2, h3 | ⟨x, y, h3, h4, h5, h6⟩ | h3⟩
  · exact .inl ⟨t, TyX.monoE e h1, h2⟩
  · exact .inr ⟨a, xs, h1, e _ _ h2, .inl h3⟩
  · exact .inr ⟨a, xs, h1, e _ _ h2, .inr (.inl ⟨x, y, h3, h4.mono e, h5.mono e, h6⟩)⟩
  · exact .inr ⟨a, xs, h1, e _ _ h2, .inr (.inr h3)⟩
theorem PairB.ext {K : PySem.W.Frag} {v : V} {H H' : Hp} (e : ExtN H H') (h : PairB K v H) : PairB K v H' := by
  rcases h with ⟨t, h1, h2⟩ | ⟨a, xs, h1, h2, h3 | ⟨x, y, h3, h4, h5, h6⟩ | h3⟩
  · exact .inl ⟨t, tyX_ext e h1, h2⟩
  · exact .inr ⟨a, xs, h1, ext_t e h2, .inl h3⟩
  · exact .inr ⟨a, xs, h1, ext_t e h2, .inr (.inl ⟨x, y, h3, item_ext e h4, item_ext e h5, h6⟩)⟩
  · exact .inr ⟨a, xs, h1, ext_t e h2, .inr (.inr h3)⟩
section
variable {K : PySem.W.Frag} {H : Hp} {σ : L2.St} {ta tb te : TE} {P : V → Hp → Prop} {n m : Nat}
theorem tn_catAllV {a : Addr} (hP : UpP P) (ha : Ev ta σ H (.ref a)) (h : HasAll n P a H) (hb : ∀ H1, Ex H H1 → TrN tb σ H1 (HasAll m P)) (hz : n + m ≤ 100000) : TrN (tOp rCat ta tb) σ H (HasAll (n + m) P) := fun H1 e Q q =>
  ha H1 e _ fun H2 e2 => hb H2 (e.trans e2) H2 (Ex.refl H2) _ fun r H3 hr e3 ⟨ys, k1, k2, k3⟩ => by
    obtain ⟨xs, h1, h2, h3⟩ := h
    have e03 := e.trans (e2.trans e3)
    refine ⟨a, r, xs, ys, rfl, rfl, e03 _ _ h1, k1, by rw [h2, k2]; exact sz_of hz, fun u hu => q u _ (fresh_back (e2.trans e3) hu) ((e2.trans e3).trans (Ex.new hu)) ⟨xs ++ ys, upd_same, by rw [List.length_append, h2, k2], fun v hv => hP _ _ _ (Ex.new hu) ?_⟩⟩
    rcases List.mem_append.mp hv with hv | hv
    · exact hP _ _ _ e03 (h3 v hv)
    · exact k3 v hv
theorem pb_val {v : V} {n : String} (ty : TyX K H v (.type n)) (k : kitB n "tuple" = some false) : PairB K v H := .inl ⟨n, ty, k⟩
theorem pb_long {p : Addr} {xs : List V} (h : H p = some (.tup xs)) (hl : xs.length ≠ 2) : PairB K (.ref p) H := .inr ⟨p, xs, rfl, h, .inl hl⟩
theorem pb_ij {p : Addr} {i j : Int} (h : H p = some (.tup [.int i, .int j])) (b : BadIJ i j) : PairB K (.ref p) H := .inr ⟨p, _, rfl, h, .inr (.inr ⟨i, j, rfl, b⟩)⟩
theorem pb_strL {p : Addr} {v : V} {j : Int} (h : H p = some (.tup [v, .int j])) (hv : Strg K v H) : PairB K (.ref p) H := by
  rcases hv with ⟨h1, h2 | ⟨i, hi, rfl⟩⟩
  · exact .inr ⟨p, _, rfl, h, .inr (.inl ⟨v, .int j, rfl, h1, item_int j, .inl h2⟩)⟩
  · exact pb_ij h (.inl (by rw [decide_eq_false (show ¬ (0 : Int) ≤ i by omega)]; rfl))
theorem pb_strR {p : Addr} {v : V} (h : H p = some (.tup [.int 0, v])) (hv : Strg K v H) : PairB K (.ref p) H := by
  rcases hv with ⟨h1, h2 | ⟨i, hi, rfl⟩⟩
  · exact .inr ⟨p, _, rfl, h, .inr (.inl ⟨.int 0, v, rfl, item_int 0, h1, .inr h2⟩)⟩
  · exact pb_ij h (.inl (by rw [decide_eq_false (show ¬ (0 : Int) < i by omega)]; rfl))
end
end Eg

set_option Elab.async false
set_option autoImplicit false
set_option linter.all false
set_option maxRecDepth 100000
set_option maxHeartbeats 2000000
namespace Eg
open PySem PySem.Spec PyProof.Rows L2 Evl
/-! # a row that is a list or a tuple; what can be an evening; all alike -/
def SqS (K : PySem.W.Frag) (H : Hp) (a : Addr) (xs : List V) : Prop := SqL K H a xs ∨ SqT K H a xs
theorem ex_s {K : PySem.W.Frag} {H H' : Hp} {a : Addr} {xs : List V} (e : Ex H H') (h : SqS K H a xs) : SqS K H' a xs := h.elim (fun h => .inl (ex_l e h)) fun h => .inr (ex_t e h)
def iSeq (K : PySem.W.Frag) (t : TE) : TI := fun σ H R => iList K t σ H R ∨ iTup K t σ H R
section
variable {X : Cx} {K : PySem.W.Frag}
theorem ix_seq_K (h : X.K = K := by rfl) : IxR X (rIx K) := by subst h; exact ix_seq
theorem pi_seq {tg l : Expr} {tl : TE} (hl : PE X l tl) : PI X tg l (iSeq X.K tl) := ⟨fun pins s σ H R I h => h.elim ((pi_list hl).run pins s σ H R I) ((pi_tup hl).run pins s σ H R I)⟩
theorem pi_seq_K {tg l : Expr} {tl : TE} (hl : PE X l tl) (h : X.K = K := by rfl) : PI X tg l (iSeq K tl) := by subst h; exact pi_seq hl
end
section
variable {K : PySem.W.Frag} {H : Hp} {σ : L2.St} {ta tb te tl : TE} {t : TT}
theorem ev_ixQ {p : Addr} {xs : List V} {i : Int} {v : V} (ha : Ev ta σ H (.ref p)) (hb : Ev tb σ H (.int i)) (h : SqS K H p xs) (hv : atI xs i = some v) : Ev (tOp (rIx K) ta tb) σ H v := ev_op ha hb fun H1 e Q q => by
  rcases h with h | h
  · exact .inl ⟨p, xs, i, v, rfl, rfl, ex_l e h, hv, q H1 (Ex.refl H1)⟩
  · exact .inr (.inl ⟨p, xs, i, v, rfl, rfl, ex_t e h, hv, q H1 (Ex.refl H1)⟩)
theorem ev_lenQ {p : Addr} {xs : List V} (ha : Ev ta σ H (.ref p)) (h : SqS K H p xs) : Ev (tCB (fun xs H Q => ∃ p ys, xs = [.ref p] ∧ (SqL K H p ys ∨ SqT K H p ys) ∧ Q (.int ys.length) H) (tCons ta tNil)) σ H (.int (xs.length : Int)) := fun H1 e Q q =>
  ha H1 e _ fun H2 e2 => ⟨p, xs, rfl, ex_s (e.trans e2) h, q H2 e2⟩
theorem el_listQ {p : Addr} {xs : List V} (ha : Ev ta σ H (.ref p)) (h : SqS K H p xs) : EvL (tCB (fun xs H Q => ∃ p ys, xs = [.ref p] ∧ (SqL K H p ys ∨ SqT K H p ys) ∧ ∀ l, H l = none → Q (.ref l) (upd H l (.lst ys))) (tCons ta tNil)) σ H xs := fun H1 e Q q =>
  ha H1 e _ fun H2 e2 => ⟨p, xs, rfl, ex_s (e.trans e2) h, fun l hl => q l _ (fresh_back e2 hl) (e2.trans (Ex.new hl)) upd_same⟩
theorem el_lcQ {a : Addr} {xs : List V} {j : Nat} {vs : List Nat} (f : Nat → Bool) (v : Nat → V) (h : Ev tl σ H (.ref a)) (hx : SqS K H a xs) (hz : xs.length ≤ 40000) (hw : ∀ x, wipe ((wipe σ vs).set j (some x)) vs = wipe σ vs)
    (ht : ∀ (i : Nat) (x : V) H1, Ex H H1 → xs[i]? = some x → EvT t ((wipe σ vs).set j (some x)) H1 (f i)) (he : ∀ (i : Nat) (x : V) H1, Ex H H1 → xs[i]? = some x → f i = true → Ev te ((wipe σ vs).set j (some x)) H1 (v i)) :
    EvL (tLc (iSeq K tl) (gName j) t te vs) σ H (given xs.length f v) := fun H0 e Q q => by
  rcases hx with hx | hx
  · exact Or.inl (el_lcL f v h hx hz hw ht he H0 e Q q)
  · exact Or.inr (el_lcT f v h hx hz hw ht he H0 e Q q)
end
/-! ### all alike -/
theorem mem_firstMet {val : Nat → Int} : ∀ {n i : Nat}, i < n → val i ∈ firstMet val n
  | 0, i, h => absurd h (Nat.not_lt_zero i)
  | n + 1, i, h => by
    rw [firstMet_succ]
    have up : ∀ x, x ∈ firstMet val n → x ∈ step_dedup (firstMet val n) (val n) := fun x hx => by
      unfold step_dedup
      split
      · exact hx
      · exact List.mem_append_left _ hx
    by_cases e : i = n
    · subst e
      unfold step_dedup
      split
      · rename_i g
        obtain ⟨x, hx, e⟩ := List.any_eq_true.mp g
        rw [← beq_iff_eq.mp e]
        exact hx
      · exact List.mem_append_right _ (List.mem_singleton.mpr rfl)
    · exact up _ (mem_firstMet (by omega))
theorem firstMet_same {val : Nat → Int} : ∀ {n : Nat}, (∀ i, i < n + 1 → val i = val 0) → firstMet val (n + 1) = [val 0]
  | 0, _ => rfl
  | n + 1, h => by
    rw [firstMet_succ, firstMet_same fun i hi => h i (by omega), h (n + 1) (by omega)]
    unfold step_dedup
    simp
theorem g1_iff {ns : List Int} (h0 : ns ≠ []) : g1 ns = true ↔ ∀ x ∈ ns, x = ns.getD 0 0 := by
  unfold g1 dlen
  obtain ⟨n, hn⟩ : ∃ n, ns.length = n + 1 := ⟨ns.length - 1, by have := List.length_pos_iff.mpr h0; omega⟩
  rw [decide_eq_true_iff, hn]
  constructor
  · intro h x hx
    obtain ⟨i, hi, rfl⟩ := List.getElem_of_mem hx
    have m1 := mem_firstMet (val := fun i => ns.getD i 0) (n := n + 1) (i := i) (by omega)
    have m0 := mem_firstMet (val := fun i => ns.getD i 0) (n := n + 1) (i := 0) (by omega)
    obtain ⟨z, hz⟩ : ∃ z, firstMet (fun i => ns.getD i 0) (n + 1) = [z] := List.length_eq_one_iff.mp (by omega)
    rw [hz] at m1 m0
    have e1 : ns.getD i 0 = z := List.mem_singleton.mp m1
    have e0 : ns.getD 0 0 = z := List.mem_singleton.mp m0
    rw [e0, ← e1, List.getD_eq_getElem?_getD, List.getElem?_eq_getElem hi]
    rfl
  · intro h
    rw [firstMet_same (val := fun i => ns.getD i 0) fun i hi => h _ (List.mem_of_getElem? (gD_at (by omega)))]
    rfl
theorem g1_all {ns : List Int} (h0 : ns ≠ []) : (ns.map fun x => decide (x = ns.getD 0 0)).all id = g1 ns := by
  rw [Bool.eq_iff_iff, g1_iff h0, List.all_map, List.all_eq_true]
  exact ⟨fun h x hx => of_decide_eq_true (h x hx), fun h x hx => decide_eq_true (h x hx)⟩
theorem g1_perm {a b : List Int} (h : a.Perm b) (h0 : a ≠ []) : g1 a = g1 b := by
  have hb : b ≠ [] := fun z => h0 (by rw [z] at h; exact h.eq_nil)
  have key : ∀ {a b : List Int}, a.Perm b → a ≠ [] → b ≠ [] → g1 a = true → g1 b = true := fun {a b} h ha hb g => by
    rw [g1_iff ha] at g
    rw [g1_iff hb]
    have e0 := g _ (h.mem_iff.mpr (List.mem_of_getElem? (gD_at (List.length_pos_iff.mpr hb))))
    intro x hx
    rw [e0]
    exact g x (h.mem_iff.mpr hx)
  rw [Bool.eq_iff_iff]
  exact ⟨key h h0 hb, key h.symm hb h0⟩
/-! ### what can be an evening of a row -/
inductive BeQ (K : PySem.W.Frag) (H : Hp) (ns : List Int) : V → Bool → Prop
  | no {x : V} (h : PairQ K H ns.length x false) : BeQ K H ns x false
  | yes {t : Addr} {i j : Nat} (h : SqT K H t [.int (i : Int), .int (j : Int)]) (hij : i < j) (hj : j < ns.length) : BeQ K H ns (.ref t) (okP ns i j)
theorem BeQ.mono {K : PySem.W.Frag} {H H' : Hp} {ns : List Int} {x : V} {b : Bool} (e : Ex H H') (h : BeQ K H ns x b) : BeQ K H' ns x b := by
  cases h with
  | no h => exact .no (h.mono e)
  | yes h hij hj => exact .yes (ex_t e h) hij hj
/-- a pair of any two numbers -/
theorem beQ_I {K : PySem.W.Frag} {H : Hp} {ns : List Int} {t : Addr} {p : Int × Int} (h : SqT K H t [.int p.1, .int p.2]) : BeQ K H ns (.ref t) (decide (p ∈ canI ns)) := by
  obtain ⟨i, j⟩ := p
  by_cases c : (decide (0 ≤ i) && (decide (i < j) && decide (j < (ns.length : Int)))) = true
  · rw [Bool.and_eq_true, Bool.and_eq_true] at c
    have c1 := of_decide_eq_true c.1
    have c2 := of_decide_eq_true c.2.1
    have c3 := of_decide_eq_true c.2.2
    obtain ⟨a, rfl⟩ : ∃ a : Nat, i = a := ⟨i.toNat, by omega⟩
    obtain ⟨b, rfl⟩ : ∃ b : Nat, j = b := ⟨j.toNat, by omega⟩
    have g := BeQ.yes (ns := ns) h (by omega : a < b) (by omega : b < ns.length)
    have e : decide ((((a : Nat) : Int), ((b : Nat) : Int)) ∈ canI ns) = okP ns a b := by
      rw [Bool.eq_iff_iff, decide_eq_true_iff, mem_canI]
      constructor
      · rintro ⟨i, j, e, hm⟩
        have e1 := congrArg Prod.fst e
        have e2 := congrArg Prod.snd e
        have e1 : (a : Int) = i := e1
        have e2 : (b : Int) = j := e2
        have f1 : a = i := by omega
        have f2 : b = j := by omega
        subst f1 f2
        exact (mem_canL.mp hm).2.2
      · intro ho
        exact ⟨a, b, rfl, mem_canL.mpr ⟨by omega, by omega, ho⟩⟩
    rw [e]
    exact g
  · have c := eq_false_of_ne_true c
    have g := PairQ.nums (n := ns.length) h
    rw [c] at g
    have e : decide ((i, j) ∈ canI ns) = false := by
      rw [decide_eq_false_iff_not, mem_canI]
      rintro ⟨a, b, e, hm⟩
      obtain ⟨h1, h2, h3⟩ := mem_canL.mp hm
      have e1 : i = a := congrArg Prod.fst e
      have e2 : j = b := congrArg Prod.snd e
      subst e1 e2
      rw [decide_eq_true (show (0 : Int) ≤ (a : Int) by omega), decide_eq_true (show (a : Int) < (b : Int) by have : a < b := h1; omega), decide_eq_true (show (b : Int) < (ns.length : Int) by have : b < ns.length := h2; omega)] at c
      cases c
    rw [e]
    exact .no g
end Eg

set_option Elab.async false
set_option autoImplicit false
set_option linter.all false
set_option maxRecDepth 100000
set_option maxHeartbeats 2000000
namespace Eg
open PySem PySem.Spec PyProof.Rows L2 Evl
/-! # all rows that a row can come to, each reckoned once: the mathematics -/
abbrev Stp := (Nat × Nat) × List Int
abbrev StF := List Int → List Stp
def sucs (F : StF) (r : List Int) : List (List Int) := (F r).map (·.2)
def stepsL : StF := fun ns => (canL ns).map fun p => (p, evL ns p.1 p.2)
def sortI (ns : List Int) : List Int := ns.mergeSort (fun a b => decide (a ≤ b))
def sstepsL : StF := fun ns => (stepsL ns).map fun s => (s.1, sortI s.2)
structure Good (F : StF) : Prop where
  sm : ∀ {r : List Int}, Sm r → ∀ t ∈ sucs F r, Sm t ∧ t.length = r.length ∧ t.sum = r.sum ∧ sqs t + 1 ≤ sqs r
  few : ∀ {r : List Int}, Sm r → (F r).length ≤ 25
inductive RchK (F : StF) (s : List Int) : Nat → List Int → Prop
  | zero : RchK F s 0 s
  | succ {k : Nat} {r t : List Int} : RchK F s k r → t ∈ sucs F r → RchK F s (k + 1) t
theorem RchK.good {F : StF} {s : List Int} (G : Good F) (hs : Sm s) {k : Nat} {r : List Int} (h : RchK F s k r) : Sm r ∧ r.length = s.length ∧ r.sum = s.sum ∧ sqs r + k ≤ sqs s := by
  induction h with
  | zero => exact ⟨hs, rfl, rfl, by omega⟩
  | succ h ht ih =>
    obtain ⟨h1, h2, h3, h4⟩ := ih
    obtain ⟨g1, g2, g3, g4⟩ := G.sm h1 _ ht
    exact ⟨g1, g2.trans h2, g3.trans h3, by omega⟩
theorem RchK.inv {F : StF} {s t : List Int} {k : Nat} (h : RchK F s (k + 1) t) : ∃ r, RchK F s k r ∧ t ∈ sucs F r := by
  cases h with
  | succ h ht => exact ⟨_, h, ht⟩
theorem RchK.inv0 {F : StF} {s t : List Int} (h : RchK F s 0 t) : t = s := by
  cases h
  rfl
theorem RchK.front {F : StF} {s u t : List Int} {k : Nat} (hu : u ∈ sucs F s) (h : RchK F u k t) : RchK F s (k + 1) t := by
  induction h with
  | zero => exact .succ .zero hu
  | succ h ht ih => exact .succ ih ht
theorem RchK.unfront {F : StF} {s : List Int} : ∀ {k : Nat} {t : List Int}, RchK F s (k + 1) t → ∃ u ∈ sucs F s, RchK F u k t
  | 0, t, h => by
    obtain ⟨r, h1, h2⟩ := h.inv
    rw [h1.inv0] at h2
    exact ⟨t, h2, .zero⟩
  | k + 1, t, h => by
    obtain ⟨r, h1, h2⟩ := h.inv
    obtain ⟨u, hu, h3⟩ := RchK.unfront h1
    exact ⟨u, hu, .succ h3 h2⟩
/-! ### level by level -/
def bstep (F : StF) (st : List (List Int) × List (List Int)) (r : List Int) : List (List Int) × List (List Int) := if r ∈ st.1 then st else (st.1 ++ [r], st.2 ++ sucs F r)
def bfs (F : StF) (s : List Int) : Nat → List (List Int) × List (List Int)
  | 0 => ([], [s])
  | n + 1 => (bfs F s n).2.foldl (bstep F) ((bfs F s n).1, [])
theorem fold_new (F : StF) : ∀ (level f acc : List (List Int)), ∃ new, level.foldl (bstep F) (f, acc) = (f ++ new, acc ++ new.flatMap (sucs F)) ∧ new.Nodup ∧ (∀ r ∈ new, r ∈ level ∧ r ∉ f) ∧ (∀ r ∈ level, r ∈ f ∨ r ∈ new)
  | [], f, acc => ⟨[], by simp, List.Pairwise.nil, fun r h => (by simp at h), fun r h => (by simp at h)⟩
  | r :: level, f, acc => by
    rw [List.foldl_cons]
    by_cases h : r ∈ f
    · rw [show bstep F (f, acc) r = (f, acc) from if_pos h]
      obtain ⟨new, e, nd, h1, h2⟩ := fold_new F level f acc
      refine ⟨new, e, nd, fun q hq => ⟨List.mem_cons_of_mem _ (h1 q hq).1, (h1 q hq).2⟩, fun q hq => ?_⟩
      rcases List.mem_cons.mp hq with rfl | hq
      · exact .inl h
      · exact h2 q hq
    · rw [show bstep F (f, acc) r = (f ++ [r], acc ++ sucs F r) from if_neg h]
      obtain ⟨new, e, nd, h1, h2⟩ := fold_new F level (f ++ [r]) (acc ++ sucs F r)
      refine ⟨r :: new, ?_, ?_, fun q hq => ?_, fun q hq => ?_⟩
      · rw [e, List.flatMap_cons, List.append_assoc, List.append_assoc]
        rfl
      · refine List.nodup_cons.mpr ⟨fun hr => ?_, nd⟩
        exact (h1 r hr).2 (List.mem_append_right _ (List.mem_singleton.mpr rfl))
      · rcases List.mem_cons.mp hq with rfl | hq
        · exact ⟨List.mem_cons_self, h⟩
        · exact ⟨List.mem_cons_of_mem _ (h1 q hq).1, fun z => (h1 q hq).2 (List.mem_append_left _ z)⟩
      · rcases List.mem_cons.mp hq with rfl | hq
        · exact .inr List.mem_cons_self
        · rcases h2 q hq with z | z
          · rcases List.mem_append.mp z with z | z
            · exact .inl z
            · rw [List.mem_singleton.mp z]
              exact .inr List.mem_cons_self
          · exact .inr (List.mem_cons_of_mem _ z)
def LeR (F : StF) (s a b : List Int) : Prop := ∀ k, RchK F s k b → ∃ k', k' ≤ k ∧ RchK F s k' a
theorem LeR.refl (F : StF) (s a : List Int) : LeR F s a a := fun k h => ⟨k, Nat.le_refl _, h⟩
structure Bfs (F : StF) (s : List Int) (n : Nat) (found level : List (List Int)) : Prop where
  lev : ∀ r ∈ level, RchK F s n r
  mem : ∀ r, r ∈ found ↔ ∃ k, k < n ∧ RchK F s k r
  all : ∀ r, RchK F s n r → r ∈ found ∨ r ∈ level
  nd : found.Nodup
  le : found.Pairwise (LeR F s)
theorem nodup_app {α : Type} {a b : List α} (ha : a.Nodup) (hb : b.Nodup) (h : ∀ x ∈ b, x ∉ a) : (a ++ b).Nodup := List.nodup_append.mpr ⟨ha, hb, fun x hx y hy e => h y hy (e ▸ hx)⟩
theorem bfs_ok (F : StF) (s : List Int) : ∀ n, Bfs F s n (bfs F s n).1 (bfs F s n).2
  | 0 => ⟨fun r hr => by
      have hr : r ∈ [s] := hr
      rw [List.mem_singleton.mp hr]
      exact .zero, fun r => ⟨fun h => (by
      have h : r ∈ ([] : List (List Int)) := h
      simp at h), fun ⟨k, h, _⟩ => absurd h (Nat.not_lt_zero k)⟩, fun r h => by
      rw [h.inv0]
      exact .inr (List.mem_singleton.mpr rfl), List.Pairwise.nil, List.Pairwise.nil⟩
  | n + 1 => by
    have ih := bfs_ok F s n
    obtain ⟨new, e, nd, h1, h2⟩ := fold_new F (bfs F s n).2 (bfs F s n).1 []
    have e1 : (bfs F s (n + 1)).1 = (bfs F s n).1 ++ new := congrArg Prod.fst e
    have e2 : (bfs F s (n + 1)).2 = new.flatMap (sucs F) := (congrArg Prod.snd e).trans (List.nil_append _)
    have hnew : ∀ r ∈ new, RchK F s n r := fun r hr => ih.lev r (h1 r hr).1
    have hno : ∀ r ∈ new, ∀ k, RchK F s k r → n ≤ k := fun r hr k hk => by
      by_cases g : n ≤ k
      · exact g
      · exact absurd ((ih.mem r).mpr ⟨k, by omega, hk⟩) (h1 r hr).2
    have mem : ∀ r, r ∈ (bfs F s n).1 ++ new ↔ ∃ k, k < n + 1 ∧ RchK F s k r := fun r => by
      rw [List.mem_append]
      constructor
      · rintro (h | h)
        · obtain ⟨k, hk, hr⟩ := (ih.mem r).mp h
          exact ⟨k, by omega, hr⟩
        · exact ⟨n, by omega, hnew r h⟩
      · rintro ⟨k, hk, hr⟩
        by_cases g : k = n
        · subst g
          rcases ih.all r hr with z | z
          · exact .inl z
          · exact h2 r z
        · exact .inl ((ih.mem r).mpr ⟨k, by omega, hr⟩)
    rw [e1, e2]
    refine ⟨fun r hr => ?_, mem, fun r hr => ?_, nodup_app ih.nd nd fun r hr => (h1 r hr).2, ?_⟩
    · obtain ⟨q, hq, hr⟩ := List.mem_flatMap.mp hr
      exact .succ (hnew q hq) hr
    · obtain ⟨q, hq, hr⟩ := hr.inv
      have : q ∈ (bfs F s n).1 ∨ q ∈ new := by
        rcases ih.all q hq with z | z
        · exact .inl z
        · exact h2 q z
      rcases this with z | z
      · obtain ⟨k, hk, hkq⟩ := (ih.mem q).mp z
        exact .inl ((mem r).mpr ⟨k + 1, by omega, .succ hkq hr⟩)
      · exact .inr (List.mem_flatMap.mpr ⟨q, z, hr⟩)
    · refine List.pairwise_append.mpr ⟨ih.le, ?_, fun a ha b hb k hk => ?_⟩
      · refine List.Pairwise.imp_of_mem (fun {a b} ha hb _ => fun k hk => ?_) nd
        exact ⟨n, hno b hb k hk, hnew a ha⟩
      · obtain ⟨k', hk', h⟩ := (ih.mem a).mp ha
        have := hno b hb k hk
        exact ⟨k', by omega, h⟩
/-- what is found at the end -/
structure FinB (F : StF) (s : List Int) (ks : List (List Int)) : Prop where
  mem : ∀ r, r ∈ ks ↔ ∃ k, RchK F s k r
  nd : ks.Nodup
  le : ks.Pairwise (LeR F s)
theorem bfs_fin {F : StF} {s : List Int} {N : Nat} (h : (bfs F s N).2 = []) : FinB F s (bfs F s N).1 := by
  have B := bfs_ok F s N
  have H : ∀ k r, RchK F s k r → r ∈ (bfs F s N).1 := by
    intro k r hk
    induction hk with
    | zero =>
      cases N with
      | zero => cases h
      | succ n => exact (B.mem s).mpr ⟨0, by omega, .zero⟩
    | succ hq ht ih =>
      rename_i k r t
      obtain ⟨j, hj, hr⟩ := (B.mem r).mp ih
      by_cases g : j + 1 < N
      · exact (B.mem t).mpr ⟨j + 1, g, .succ hr ht⟩
      · have e : j + 1 = N := by omega
        rcases B.all t (e ▸ RchK.succ hr ht) with z | z
        · exact z
        · rw [h] at z
          simp at z
  exact ⟨fun r => ⟨fun hr => by
    obtain ⟨k, _, hk⟩ := (B.mem r).mp hr
    exact ⟨k, hk⟩, fun ⟨k, hk⟩ => H k r hk⟩, B.nd, B.le⟩
/-! ### how many -/
theorem rows_few_sum {rows : List (List Int)} {n : Nat} {S : Int} (nd : rows.Nodup) (h : ∀ r ∈ rows, Sm r ∧ r.length = n ∧ r.sum = S) : rows.length ≤ 194481 := by
  have h1 : (rows.map fun r => codeR r.tail).Nodup := by
    refine List.pairwise_map.mpr (List.Pairwise.imp_of_mem (fun {a b} ha hb hne e => hne ?_) nd)
    obtain ⟨sa, la, ea⟩ := h a ha
    obtain ⟨sb, lb, eb⟩ := h b hb
    cases a with
    | nil => exact absurd sa.1 (by decide)
    | cons x a =>
      cases b with
      | nil => exact absurd sb.1 (by decide)
      | cons y b =>
        have e2 : a = b := codeR_inj (by simpa using la.trans lb.symm) (fun z hz => sa.2.2 z (List.mem_cons_of_mem _ hz)) (fun z hz => sb.2.2 z (List.mem_cons_of_mem _ hz)) e
        rw [List.sum_cons] at ea eb
        rw [e2] at ea ⊢
        rw [show x = y by omega]
  have h2 := nodup_lt 194481 (rows.map fun r => codeR r.tail) h1 fun x hx => by
    obtain ⟨r, hr, rfl⟩ := List.mem_map.mp hx
    obtain ⟨sr, lr, _⟩ := h r hr
    have g := codeR_lt (a := r.tail) fun z hz => sr.2.2 z (List.mem_of_mem_tail hz)
    have l5 := sr.2.1
    have h3 : 21 ^ r.tail.length ≤ 21 ^ 4 := Nat.pow_le_pow_right (by decide) (by rw [List.length_tail]; omega)
    have h4 : (21 : Nat) ^ 4 = 194481 := by decide
    omega
  rwa [List.length_map] at h2
theorem flat_few {F : StF} (G : Good F) : ∀ {new : List (List Int)}, (∀ r ∈ new, Sm r) → (new.flatMap (sucs F)).length ≤ 25 * new.length
  | [], _ => by simp
  | r :: new, h => by
    have ih := flat_few G (new := new) fun q hq => h q (List.mem_cons_of_mem _ hq)
    have h2 := G.few (h r List.mem_cons_self)
    rw [List.flatMap_cons, List.length_append, List.length_cons]
    unfold sucs at ih ⊢
    rw [List.length_map]
    omega
/-- within a pass -/
def part (F : StF) (s : List Int) (n i : Nat) : List (List Int) × List (List Int) := ((bfs F s n).2.take i).foldl (bstep F) ((bfs F s n).1, [])
theorem part_zero (F : StF) (s : List Int) (n : Nat) : part F s n 0 = ((bfs F s n).1, []) := by
  unfold part
  rw [List.take_zero]
  rfl
theorem part_succ {F : StF} {s : List Int} {n i : Nat} {r : List Int} (h : (bfs F s n).2[i]? = some r) : part F s n (i + 1) = bstep F (part F s n i) r := by
  unfold part
  rw [List.take_add_one, h, List.foldl_append]
  rfl
theorem part_end (F : StF) (s : List Int) (n : Nat) : part F s n (bfs F s n).2.length = bfs F s (n + 1) := by
  unfold part
  rw [List.take_length]
  rfl
theorem part_ok {F : StF} {s : List Int} (G : Good F) (hs : Sm s) (n i : Nat) : (part F s n i).1.Nodup ∧ (∀ r ∈ (part F s n i).1, ∃ k, RchK F s k r) ∧ (part F s n i).1.length ≤ 194481 ∧ (part F s n i).2.length ≤ 4862025 ∧ (∀ r ∈ (part F s n i).2, ∃ k, RchK F s k r) := by
  have B := bfs_ok F s n
  obtain ⟨new, e, nd, h1, _⟩ := fold_new F ((bfs F s n).2.take i) (bfs F s n).1 []
  have e1 : (part F s n i).1 = (bfs F s n).1 ++ new := congrArg Prod.fst e
  have e2 : (part F s n i).2 = new.flatMap (sucs F) := (congrArg Prod.snd e).trans (List.nil_append _)
  have hn : ∀ r ∈ new, RchK F s n r := fun r hr => B.lev r (List.mem_of_mem_take (h1 r hr).1)
  have hr : ∀ r ∈ (part F s n i).1, ∃ k, RchK F s k r := fun r hr => by
    rw [e1] at hr
    rcases List.mem_append.mp hr with z | z
    · obtain ⟨k, _, hk⟩ := (B.mem r).mp z
      exact ⟨k, hk⟩
    · exact ⟨n, hn r z⟩
  have hd : (part F s n i).1.Nodup := by
    rw [e1]
    exact nodup_app B.nd nd fun r hr => (h1 r hr).2
  have hl := rows_few_sum (n := s.length) (S := s.sum) hd fun r h => by
    obtain ⟨k, hk⟩ := hr r h
    obtain ⟨g1, g2, g3, _⟩ := hk.good G hs
    exact ⟨g1, g2, g3⟩
  refine ⟨hd, hr, hl, ?_, fun r h => ?_⟩
  · rw [e2]
    have := flat_few G (new := new) fun r hr => ((hn r hr).good G hs).1
    rw [e1, List.length_append] at hl
    omega
  · rw [e2] at h
    obtain ⟨q, hq, h⟩ := List.mem_flatMap.mp h
    exact ⟨n + 1, .succ (hn q hq) h⟩
theorem bfs_short {F : StF} {s : List Int} (G : Good F) (hs : Sm s) {n : Nat} (h : (bfs F s n).2 ≠ []) : (n : Int) ≤ sqs s := by
  obtain ⟨r, hr⟩ := List.exists_mem_of_ne_nil _ h
  have h1 := (((bfs_ok F s n).lev r hr).good G hs).2.2.2
  have h2 := sqs_nn r
  omega
theorem bfs_few {F : StF} {s : List Int} (G : Good F) (hs : Sm s) (n : Nat) : (bfs F s n).1.length ≤ 194481 ∧ (bfs F s n).2.length ≤ 4862025 ∧ (∀ r ∈ (bfs F s n).1, ∃ k, RchK F s k r) ∧ (∀ r ∈ (bfs F s n).2, ∃ k, RchK F s k r) := by
  have h := part_ok G hs n 0
  rw [part_zero] at h
  refine ⟨h.2.2.1, ?_, h.2.1, fun r hr => ⟨n, (bfs_ok F s n).lev r hr⟩⟩
  cases n with
  | zero => exact (by decide : 1 ≤ 4862025)
  | succ m =>
    have := (part_ok G hs m (bfs F s m).2.length).2.2.2.1
    rwa [part_end] at this
/-! ### the shortest way -/
abbrev Cme := List Int × (List Int × (Nat × Nat))
def cstep (one : List Int) (acc : List Cme) (st : Stp) : List Cme := if st.2 ∈ acc.map (·.1) then acc else acc ++ [(st.2, (one, st.1))]
def crow (F : StF) (acc : List Cme) (one : List Int) : List Cme := (F one).foldl (cstep one) acc
structure CmQ (F : StF) (s : List Int) (l : List (List Int)) (m : List (List Int)) (acc : List Cme) : Prop where
  nd : (acc.map (·.1)).Nodup
  sound : ∀ e ∈ acc, e.2.1 ∈ m ∧ (e.2.2, e.1) ∈ F e.2.1
  first : ∀ e ∈ acc, ∀ q ∈ m, e.1 ∈ sucs F q → LeR F s e.2.1 q
  all : ∀ q ∈ l, ∀ b ∈ sucs F q, b ∈ acc.map (·.1)
theorem cstep_ok {F : StF} {s one : List Int} {l : List (List Int)} {acc : List Cme} {st : Stp} (h : CmQ F s l (l ++ [one]) acc) (hst : st ∈ F one) : CmQ F s l (l ++ [one]) (cstep one acc st) ∧ st.2 ∈ (cstep one acc st).map (·.1) ∧ ∀ b ∈ acc.map (·.1), b ∈ (cstep one acc st).map (·.1) := by
  unfold cstep
  split
  · rename_i hm
    exact ⟨h, hm, fun b hb => hb⟩
  · rename_i hm
    have up : ∀ b ∈ acc.map (·.1), b ∈ (acc ++ [(st.2, (one, st.1))]).map (·.1) := fun b hb => by
      rw [List.map_append]
      exact List.mem_append_left _ hb
    refine ⟨⟨?_, fun e he => ?_, fun e he q hq hb => ?_, fun q hq b hb => up b (h.all q hq b hb)⟩, ?_, up⟩
    · rw [List.map_append]
      exact nodup_app h.nd (List.pairwise_singleton _ _) fun x hx => by
        rw [List.mem_singleton.mp hx]
        exact hm
    · rcases List.mem_append.mp he with he | he
      · exact h.sound e he
      · rw [List.mem_singleton.mp he]
        exact ⟨List.mem_append_right _ (List.mem_singleton.mpr rfl), hst⟩
    · rcases List.mem_append.mp he with he | he
      · exact h.first e he q hq hb
      · rw [List.mem_singleton.mp he] at hb ⊢
        rcases List.mem_append.mp hq with hq | hq
        · exact absurd (h.all q hq _ hb) hm
        · rw [List.mem_singleton.mp hq]
          exact LeR.refl _ _ _
    · rw [List.map_append]
      exact List.mem_append_right _ (List.mem_singleton.mpr rfl)
theorem cfold_ok {F : StF} {s one : List Int} {l : List (List Int)} : ∀ {ss : List Stp} {acc : List Cme}, CmQ F s l (l ++ [one]) acc → (∀ st ∈ ss, st ∈ F one) → CmQ F s l (l ++ [one]) (ss.foldl (cstep one) acc) ∧ (∀ st ∈ ss, st.2 ∈ (ss.foldl (cstep one) acc).map (·.1)) ∧ ∀ b ∈ acc.map (·.1), b ∈ (ss.foldl (cstep one) acc).map (·.1)
  | [], acc, h, _ => ⟨h, fun st hst => (by simp at hst), fun b hb => hb⟩
  | st :: ss, acc, h, hm => by
    obtain ⟨g1, g2, g3⟩ := cstep_ok h (hm st List.mem_cons_self)
    obtain ⟨k1, k2, k3⟩ := cfold_ok g1 fun x hx => hm x (List.mem_cons_of_mem _ hx)
    rw [List.foldl_cons]
    refine ⟨k1, fun x hx => ?_, fun b hb => k3 b (g3 b hb)⟩
    rcases List.mem_cons.mp hx with rfl | hx
    · exact k3 _ g2
    · exact k2 x hx
/-- a row more -/
theorem CmQ.open {F : StF} {s one : List Int} {l : List (List Int)} {acc : List Cme} (h : CmQ F s l l acc) (hl : ∀ a ∈ l, LeR F s a one) : CmQ F s l (l ++ [one]) acc :=
  ⟨h.nd, fun e he => ⟨List.mem_append_left _ (h.sound e he).1, (h.sound e he).2⟩, fun e he q hq hb => by
    rcases List.mem_append.mp hq with hq | hq
    · exact h.first e he q hq hb
    · rw [List.mem_singleton.mp hq]
      exact hl _ (h.sound e he).1, h.all⟩
theorem crow_ok {F : StF} {s one : List Int} {l : List (List Int)} {acc : List Cme} (h : CmQ F s l l acc) (hl : ∀ a ∈ l, LeR F s a one) : CmQ F s (l ++ [one]) (l ++ [one]) (crow F acc one) := by
  obtain ⟨g1, g2, g3⟩ := cfold_ok (h.open hl) (ss := F one) fun st h => h
  refine ⟨g1.nd, g1.sound, g1.first, fun q hq b hb => ?_⟩
  rcases List.mem_append.mp hq with hq | hq
  · exact g1.all q hq b hb
  · rw [List.mem_singleton.mp hq] at hb
    obtain ⟨st, hst, rfl⟩ := List.mem_map.mp hb
    exact g2 st hst
def came (F : StF) (ks : List (List Int)) : List Cme := ks.foldl (crow F) []
theorem came_snoc {F : StF} {ks : List (List Int)} {i : Nat} {r : List Int} (h : ks[i]? = some r) : came F (ks.take (i + 1)) = crow F (came F (ks.take i)) r := by
  unfold came
  rw [List.take_add_one, h, List.foldl_append]
  rfl
theorem came_ok {F : StF} {s : List Int} {ks : List (List Int)} (hle : ks.Pairwise (LeR F s)) : ∀ i, i ≤ ks.length → CmQ F s (ks.take i) (ks.take i) (came F (ks.take i))
  | 0, _ => by
    rw [List.take_zero]
    exact ⟨List.Pairwise.nil, fun e he => (by simp [came] at he), fun e he => (by simp [came] at he), fun q hq => (by simp at hq)⟩
  | i + 1, hi => by
    have hg : ks[i]? = some ks[i] := List.getElem?_eq_getElem (by omega)
    have ih := came_ok hle i (by omega)
    rw [came_snoc hg, List.take_add_one, hg]
    refine crow_ok ih fun a ha => ?_
    obtain ⟨j, hj, e⟩ := List.getElem_of_mem ha
    rw [List.length_take] at hj
    rw [List.getElem_take] at e
    rw [← e]
    exact List.pairwise_iff_getElem.mp hle j i (by omega) (by omega) (by omega)
inductive PathF (F : StF) : List Int → List (Nat × Nat) → List Int → Prop
  | nil {r : List Int} : PathF F r [] r
  | cons {r r' t : List Int} {p : Nat × Nat} {ps : List (Nat × Nat)} : (p, r') ∈ F r → PathF F r' ps t → PathF F r (p :: ps) t
/-- on the way back from the goal -/
structure Back (F : StF) (s goal : List Int) (ks : List (List Int)) (here : List Int) (evs : List (Nat × Nat)) : Prop where
  path : PathF F here evs.reverse goal
  min : ∀ k, RchK F s k goal → ∃ k', k' + evs.length ≤ k ∧ RchK F s k' here
  mem : here ∈ ks
theorem Back.start {F : StF} {s goal : List Int} {ks : List (List Int)} (h : goal ∈ ks) : Back F s goal ks goal [] := ⟨.nil, fun k hk => ⟨k, Nat.le_refl _, hk⟩, h⟩
theorem Back.step {F : StF} {s goal here : List Int} {ks : List (List Int)} {evs : List (Nat × Nat)} {acc : List Cme} {e : Cme} (G : Good F) (hs : Sm s) (B : FinB F s ks) (C : CmQ F s ks ks acc) (h : Back F s goal ks here evs) (he : e ∈ acc) (e1 : e.1 = here) : Back F s goal ks e.2.1 (evs ++ [e.2.2]) ∧ sqs here + 1 ≤ sqs e.2.1 ∧ sqs e.2.1 ≤ sqs s := by
  obtain ⟨h1, h2⟩ := C.sound e he
  rw [e1] at h2
  obtain ⟨k1, hk1⟩ := (B.mem _).mp h1
  obtain ⟨g1, _, _, g4⟩ := hk1.good G hs
  have hsu : here ∈ sucs F e.2.1 := List.mem_map.mpr ⟨_, h2, rfl⟩
  have g5 := (G.sm g1 here hsu).2.2.2
  refine ⟨⟨?_, fun k hk => ?_, h1⟩, g5, by omega⟩
  · rw [List.reverse_append]
    exact .cons h2 h.path
  · obtain ⟨k', hk', hr⟩ := h.min k hk
    cases k' with
    | zero =>
      have := hr.inv0
      rw [this] at g5
      omega
    | succ k0 =>
      obtain ⟨q, hq, hb⟩ := hr.inv
      obtain ⟨k2, hk2, h3⟩ := C.first e he q ((B.mem q).mpr ⟨k0, hq⟩) (by rw [e1]; exact hb) k0 hq
      exact ⟨k2, by rw [List.length_append, List.length_singleton]; omega, h3⟩
theorem Back.end {F : StF} {s goal here : List Int} {ks : List (List Int)} {evs : List (Nat × Nat)} {acc : List Cme} (B : FinB F s ks) (C : CmQ F s ks ks acc) (h : Back F s goal ks here evs) (hn : here ∉ acc.map (·.1)) : PathF F s evs.reverse goal ∧ ∀ k, RchK F s k goal → evs.length ≤ k := by
  have e : here = s := by
    obtain ⟨k, hk⟩ := (B.mem here).mp h.mem
    cases k with
    | zero => exact hk.inv0
    | succ k =>
      obtain ⟨q, hq, hb⟩ := hk.inv
      exact absurd (C.all q ((B.mem q).mpr ⟨k, hq⟩) here hb) hn
  have hp := h.path
  rw [e] at hp
  exact ⟨hp, fun k hk => by
    obtain ⟨k', hk', _⟩ := h.min k hk
    omega⟩
theorem PathF.rch {F : StF} {r t : List Int} {ps : List (Nat × Nat)} (h : PathF F r ps t) : RchK F r ps.length t := by
  induction h with
  | nil => exact .zero
  | cons hm _ ih => exact RchK.front (List.mem_map.mpr ⟨_, hm, rfl⟩) ih
end Eg

set_option Elab.async false
set_option autoImplicit false
set_option linter.all false
set_option maxRecDepth 100000
set_option maxHeartbeats 2000000
namespace Eg
open PySem PySem.Spec PyProof.Rows L2 Evl
/-! # the two kinds of steps: as they stand, and put in order -/
theorem mem_sucs {r t : List Int} : t ∈ sucs stepsL r ↔ ∃ p ∈ canL r, t = evL r p.1 p.2 := by
  unfold sucs stepsL
  rw [List.map_map, List.mem_map]
  constructor
  · rintro ⟨p, hp, rfl⟩
    exact ⟨p, hp, rfl⟩
  · rintro ⟨p, hp, rfl⟩
    exact ⟨p, hp, rfl⟩
theorem mem_ssucs {r t : List Int} : t ∈ sucs sstepsL r ↔ ∃ p ∈ canL r, t = sortI (evL r p.1 p.2) := by
  unfold sucs sstepsL stepsL
  rw [List.map_map, List.map_map, List.mem_map]
  constructor
  · rintro ⟨p, hp, rfl⟩
    exact ⟨p, hp, rfl⟩
  · rintro ⟨p, hp, rfl⟩
    exact ⟨p, hp, rfl⟩
theorem steps_nil {r : List Int} : stepsL r = [] ↔ canL r = [] := List.map_eq_nil_iff
theorem ssteps_nil {r : List Int} : sstepsL r = [] ↔ canL r = [] := List.map_eq_nil_iff.trans List.map_eq_nil_iff
theorem canUp_few {ns : List Int} (h : ns.length ≤ 5) : ∀ i, (canUp ns i).length ≤ i * 5
  | 0 => by simp [canUp]
  | i + 1 => by
    have ih := canUp_few h i
    have h2 := rowC_len ns i (ns.length - (i + 1))
    rw [canUp_succ, List.length_append]
    omega
theorem canL_few {ns : List Int} (h : ns.length ≤ 5) : (canL ns).length ≤ 25 := by
  have := canUp_few h ns.length
  unfold canL
  omega
theorem good_steps : Good stepsL := ⟨fun {r} h t ht => by
  obtain ⟨p, hp, rfl⟩ := mem_sucs.mp ht
  obtain ⟨h1, h2, h3⟩ := mem_canL.mp hp
  have f := fall_is h1 h2 h3
  exact ⟨h.ev hp, evL_length _ _ _, sum_evL hp, by omega⟩, fun {r} h => by
  unfold stepsL
  rw [List.length_map]
  exact canL_few h.2.1⟩
theorem rch_lv {ns : List Int} : ∀ {k : Nat} {r : List Int}, RchK stepsL ns k r ↔ r ∈ lv ns k
  | 0, r => ⟨fun h => by
      rw [h.inv0]
      exact List.mem_singleton.mpr rfl, fun h => by
      rw [List.mem_singleton.mp h]
      exact .zero⟩
  | k + 1, r => ⟨fun h => by
      obtain ⟨q, hq, ht⟩ := h.inv
      obtain ⟨p, hp, rfl⟩ := mem_sucs.mp ht
      exact mem_nextR.mpr ⟨q, rch_lv.mp hq, p, hp, rfl⟩, fun h => by
      obtain ⟨q, hq, p, hp, rfl⟩ := mem_nextR.mp h
      exact .succ (rch_lv.mpr hq) (mem_sucs.mpr ⟨p, hp, rfl⟩)⟩
/-! ### put in order -/
theorem sortI_perm (ns : List Int) : (sortI ns).Perm ns := List.mergeSort_perm ns _
theorem sortI_sorted (ns : List Int) : (sortI ns).Pairwise (· ≤ ·) := by
  have h := List.pairwise_mergeSort (le := fun a b : Int => decide (a ≤ b)) (fun a b c h1 h2 => decide_eq_true (Int.le_trans (of_decide_eq_true h1) (of_decide_eq_true h2))) (fun a b => by
    rcases Int.le_total a b with h | h
    · rw [decide_eq_true h]; rfl
    · rw [decide_eq_true h, Bool.or_true]) ns
  exact h.imp fun h => of_decide_eq_true h
theorem sortI_is {a b : List Int} (hp : a.Perm b) (hs : a.Pairwise (· ≤ ·)) : a = sortI b := List.Perm.eq_of_pairwise (fun x y _ _ h1 h2 => Int.le_antisymm h1 h2) hs (sortI_sorted b) (hp.trans (sortI_perm b).symm)
theorem sortI_eq {a b : List Int} (h : a.Perm b) : sortI a = sortI b := sortI_is ((sortI_perm a).trans h) (sortI_sorted a)
theorem sum_perm {a b : List Int} (h : a.Perm b) : a.sum = b.sum := by
  induction h with
  | nil => rfl
  | cons x _ ih => rw [List.sum_cons, List.sum_cons, ih]
  | swap x y l =>
    rw [List.sum_cons, List.sum_cons, List.sum_cons, List.sum_cons]
    omega
  | trans _ _ h1 h2 => exact h1.trans h2
theorem sqs_perm {a b : List Int} (h : a.Perm b) : sqs a = sqs b := sum_perm (h.map _)
theorem Sm.perm {a b : List Int} (h : a.Perm b) (ha : Sm a) : Sm b := ⟨by rw [← h.length_eq]; exact ha.1, by rw [← h.length_eq]; exact ha.2.1, fun x hx => ha.2.2 x (h.mem_iff.mpr hx)⟩
theorem Sm.sort {a : List Int} (ha : Sm a) : Sm (sortI a) := ha.perm (sortI_perm a).symm
theorem good_ssteps : Good sstepsL := ⟨fun {r} h t ht => by
  obtain ⟨p, hp, rfl⟩ := mem_ssucs.mp ht
  obtain ⟨g1, g2, g3, g4⟩ := good_steps.sm h _ (mem_sucs.mpr ⟨p, hp, rfl⟩)
  have pm := sortI_perm (evL r p.1 p.2)
  exact ⟨g1.sort, pm.length_eq.trans g2, (sum_perm pm).trans g3, by rw [sqs_perm pm]; exact g4⟩, fun {r} h => by
  unfold sstepsL
  rw [List.length_map]
  exact good_steps.few h⟩
theorem set_perm {l : List Int} {i : Nat} {v : Int} (h : i < l.length) : (l.set i v).Perm (v :: l.eraseIdx i) := by
  rw [List.set_eq_take_append_cons_drop, if_pos h, List.eraseIdx_eq_take_drop_succ]
  exact List.perm_middle
theorem get_perm {l : List Int} {i : Nat} (h : i < l.length) : l.Perm (l.getD i 0 :: l.eraseIdx i) := by
  have e : l.set i (l.getD i 0) = l := by
    rw [List.getD_eq_getElem?_getD, List.getElem?_eq_getElem h]
    exact List.set_getElem_self h
  have := set_perm (l := l) (v := l.getD i 0) h
  rwa [e] at this
theorem ev_perm {ns : List Int} {i j : Nat} (hij : i < j) (hj : j < ns.length) : ∃ rest, ns.Perm (ns.getD i 0 :: ns.getD j 0 :: rest) ∧ (evL ns i j).Perm (halfL ns i j :: halfL ns i j :: rest) := by
  have hl : (ns.eraseIdx j).length = ns.length - 1 := by rw [List.length_eraseIdx_of_lt hj]
  have hi : i < (ns.eraseIdx j).length := by omega
  have e1 : (ns.eraseIdx j).getD i 0 = ns.getD i 0 := by
    rw [List.getD_eq_getElem?_getD, List.getD_eq_getElem?_getD, List.getElem?_eraseIdx_of_lt hij]
  refine ⟨(ns.eraseIdx j).eraseIdx i, ?_, ?_⟩
  · have h1 := get_perm hj
    have h2 := get_perm hi
    rw [e1] at h2
    exact (h1.trans (h2.cons _)).trans (List.Perm.swap _ _ _)
  · unfold evL
    have h1 := set_perm (l := ns.set i (halfL ns i j)) (i := j) (v := halfL ns i j) (by rw [List.length_set]; exact hj)
    have e2 : (ns.set i (halfL ns i j)).eraseIdx j = (ns.eraseIdx j).set i (halfL ns i j) := by
      rw [List.eraseIdx_set_gt hij]
    rw [e2] at h1
    exact h1.trans ((set_perm hi).cons _)
theorem can_perm {q q' : List Int} (h : q.Perm q') {p : Nat × Nat} (hp : p ∈ canL q) : ∃ p' ∈ canL q', (evL q p.1 p.2).Perm (evL q' p'.1 p'.2) := by
  obtain ⟨h1, h2, h3⟩ := mem_canL.mp hp
  obtain ⟨hne, hev⟩ := okP_iff.mp h3
  obtain ⟨rest, r1, r2⟩ := ev_perm h1 h2
  generalize ha : q.getD p.1 0 = a at *
  generalize hb : q.getD p.2 0 = b at *
  have hh : halfL q p.1 p.2 = (a + b) / 2 := by
    unfold halfL
    rw [ha, hb]
  rw [hh] at r2
  have hq := h.symm.trans r1
  obtain ⟨i, hi, ei⟩ := List.getElem_of_mem (hq.mem_iff.mpr List.mem_cons_self)
  obtain ⟨j, hj, ej⟩ := List.getElem_of_mem (hq.mem_iff.mpr (List.mem_cons_of_mem _ List.mem_cons_self))
  have gi : q'.getD i 0 = a := by
    rw [List.getD_eq_getElem?_getD, List.getElem?_eq_getElem hi, ei]
    rfl
  have gj : q'.getD j 0 = b := by
    rw [List.getD_eq_getElem?_getD, List.getElem?_eq_getElem hj, ej]
    rfl
  rcases Nat.lt_trichotomy i j with l | l | l
  · obtain ⟨rest', s1, s2⟩ := ev_perm l hj
    have hh' : halfL q' i j = (a + b) / 2 := by
      unfold halfL
      rw [gi, gj]
    rw [gi, gj] at s1
    rw [hh'] at s2
    have hr := ((s1.symm.trans hq).cons_inv).cons_inv
    exact ⟨(i, j), mem_canL.mpr ⟨l, hj, okP_iff.mpr ⟨by rw [gi, gj]; exact hne, by rw [gi, gj]; exact hev⟩⟩, r2.trans (s2.trans ((hr.cons _).cons _)).symm⟩
  · exfalso
    subst l
    exact hne (gi.symm.trans gj)
  · obtain ⟨rest', s1, s2⟩ := ev_perm l hi
    have hh' : halfL q' j i = (a + b) / 2 := by
      unfold halfL
      rw [gi, gj]
      congr 1
      omega
    rw [gi, gj] at s1
    rw [hh'] at s2
    have hr := (((s1.trans (List.Perm.swap _ _ _)).symm.trans hq).cons_inv).cons_inv
    exact ⟨(j, i), mem_canL.mpr ⟨l, hi, okP_iff.mpr ⟨by rw [gi, gj]; exact fun z => hne z.symm, by rw [gi, gj]; omega⟩⟩, r2.trans (s2.trans ((hr.cons _).cons _)).symm⟩
theorem can_nil_perm {q q' : List Int} (h : q.Perm q') : canL q = [] ↔ canL q' = [] := by
  have key : ∀ {q q' : List Int}, q.Perm q' → canL q = [] → canL q' = [] := fun {q q'} h e => by
    cases g : canL q' with
    | nil => rfl
    | cons p r =>
      obtain ⟨p', hp', _⟩ := can_perm h.symm (p := p) (by rw [g]; exact List.mem_cons_self)
      rw [e] at hp'
      cases hp'
  exact ⟨key h, key h.symm⟩
theorem rch_sorted {ns : List Int} : ∀ {k : Nat} {t : List Int}, RchK sstepsL (sortI ns) k t ↔ ∃ q ∈ lv ns k, t = sortI q
  | 0, t => ⟨fun h => ⟨ns, List.mem_singleton.mpr rfl, h.inv0⟩, fun ⟨q, hq, e⟩ => by
      rw [e, List.mem_singleton.mp hq]
      exact .zero⟩
  | k + 1, t => ⟨fun h => by
      obtain ⟨r, hr, ht⟩ := h.inv
      obtain ⟨q, hq, rfl⟩ := rch_sorted.mp hr
      obtain ⟨p, hp, rfl⟩ := mem_ssucs.mp ht
      obtain ⟨p', hp', e⟩ := can_perm (sortI_perm q) hp
      exact ⟨_, mem_nextR.mpr ⟨q, hq, p', hp', rfl⟩, sortI_eq e⟩, fun ⟨t', h, e⟩ => by
      obtain ⟨q, hq, p, hp, rfl⟩ := mem_nextR.mp h
      obtain ⟨p', hp', e2⟩ := can_perm (sortI_perm q).symm hp
      rw [e, sortI_eq e2]
      exact .succ (rch_sorted.mpr ⟨q, hq, rfl⟩) (mem_ssucs.mpr ⟨p', hp', rfl⟩)⟩
/-! ### the fewest and the most -/
def FMr (F : StF) (r : List Int) (a b : Nat) : Prop := (∃ t, RchK F r a t ∧ F t = []) ∧ (∃ t, RchK F r b t ∧ F t = []) ∧ ∀ k t, RchK F r k t → F t = [] → a ≤ k ∧ k ≤ b
theorem FMr.settled {F : StF} {r : List Int} (h : F r = []) : FMr F r 0 0 := ⟨⟨r, .zero, h⟩, ⟨r, .zero, h⟩, fun k t hk _ => by
  cases k with
  | zero => exact ⟨Nat.le_refl _, Nat.le_refl _⟩
  | succ k =>
    obtain ⟨u, hu, _⟩ := hk.unfront
    unfold sucs at hu
    rw [h] at hu
    simp at hu⟩
theorem paired_mem {α β : Type} {R : α → β → Prop} : ∀ {xs : List α} {ys : List β}, Paired R xs ys → ∀ y ∈ ys, ∃ x ∈ xs, R x y
  | _, _, .nil, y, h => nomatch h
  | _, _, .cons a b, y, h => by
    rcases List.mem_cons.mp h with rfl | h
    · exact ⟨_, List.mem_cons_self, a⟩
    · obtain ⟨x, hx, r⟩ := paired_mem b y h
      exact ⟨x, List.mem_cons_of_mem _ hx, r⟩
theorem paired_memL {α β : Type} {R : α → β → Prop} : ∀ {xs : List α} {ys : List β}, Paired R xs ys → ∀ x ∈ xs, ∃ y ∈ ys, R x y
  | _, _, .nil, y, h => nomatch h
  | _, _, .cons a b, y, h => by
    rcases List.mem_cons.mp h with rfl | h
    · exact ⟨_, List.mem_cons_self, a⟩
    · obtain ⟨x, hx, r⟩ := paired_memL b y h
      exact ⟨x, List.mem_cons_of_mem _ hx, r⟩
theorem FMr.step {F : StF} {r : List Int} {ab : List (Nat × Nat)} {m M : Nat} (h : Paired (fun u (z : Nat × Nat) => FMr F u z.1 z.2) (sucs F r) ab) (hne : F r ≠ []) (hm : m ∈ ab.map (·.1)) (hm2 : ∀ x ∈ ab.map (·.1), m ≤ x) (hM : M ∈ ab.map (·.2)) (hM2 : ∀ x ∈ ab.map (·.2), x ≤ M) : FMr F r (1 + m) (1 + M) := by
  obtain ⟨z, hz, rfl⟩ := List.mem_map.mp hm
  obtain ⟨w, hw, rfl⟩ := List.mem_map.mp hM
  obtain ⟨u, hu, hz2⟩ := paired_mem h z hz
  obtain ⟨v, hv, hw2⟩ := paired_mem h w hw
  obtain ⟨t, ht, htn⟩ := hz2.1
  obtain ⟨t', ht', htn'⟩ := hw2.2.1
  refine ⟨⟨t, by rw [Nat.add_comm]; exact ht.front hu, htn⟩, ⟨t', by rw [Nat.add_comm]; exact ht'.front hv, htn'⟩, fun k x hk hx => ?_⟩
  cases k with
  | zero =>
    rw [hk.inv0] at hx
    exact absurd hx hne
  | succ k =>
    obtain ⟨y, hy, hk⟩ := hk.unfront
    obtain ⟨c, hc, hc2⟩ := paired_memL h y hy
    obtain ⟨b1, b2⟩ := hc2.2.2 k x hk hx
    have c1 := hm2 c.1 (List.mem_map.mpr ⟨c, hc, rfl⟩)
    have c2 := hM2 c.2 (List.mem_map.mpr ⟨c, hc, rfl⟩)
    omega
theorem FMr.fm {ns : List Int} {a b : Nat} (h : FMr sstepsL (sortI ns) a b) : FM ns (a : Nat) (b : Nat) := by
  have key : ∀ k, (∃ t, RchK sstepsL (sortI ns) k t ∧ sstepsL t = []) ↔ SetAt ns k := fun k => by
    constructor
    · rintro ⟨t, ht, hn⟩
      obtain ⟨q, hq, rfl⟩ := rch_sorted.mp ht
      exact ⟨q, hq, (can_nil_perm (sortI_perm q)).mp (ssteps_nil.mp hn)⟩
    · rintro ⟨q, hq, hn⟩
      exact ⟨_, rch_sorted.mpr ⟨q, hq, rfl⟩, ssteps_nil.mpr ((can_nil_perm (sortI_perm q)).mpr hn)⟩
  exact ⟨a, b, rfl, rfl, (key a).mp h.1, (key b).mp h.2.1, fun k hk => by
    obtain ⟨t, h1, h2⟩ := (key k).mpr hk
    exact h.2.2 k t h1 h2⟩
/-! ### what is told of all that is found -/
theorem path_walk {r t : List Int} {ps : List (Nat × Nat)} (h : PathF stepsL r ps t) : walkI (some r) (ps.map pI) = some t := by
  induction h with
  | nil => rfl
  | @cons r r' t p ps hm _ ih =>
    unfold stepsL at hm
    obtain ⟨q, hq, e⟩ := List.mem_map.mp hm
    have e1 : q = p := congrArg Prod.fst e
    have e2 : evL r q.1 q.2 = r' := congrArg Prod.snd e
    subst e1
    rw [List.map_cons, walkI_cons, stepI_yes (p := pI q) (mem_canI.mpr ⟨q.1, q.2, rfl, hq⟩)]
    show walkI (some (evL r ((q.1 : Int)).toNat ((q.2 : Int)).toNat)) _ = _
    rw [Int.toNat_natCast, Int.toNat_natCast, e2]
    exact ih
theorem found_some {ns : List Int} {ks : List (List Int)} {i : Nat} {goal : List Int} {evs : List (Nat × Nat)} (B : FinB stepsL ns ks) (hi : ks[i]? = some goal) (hg : g1 goal = true) (hf : ∀ j r, j < i → ks[j]? = some r → g1 r = false) (hp : PathF stepsL ns evs goal) (hm : ∀ k, RchK stepsL ns k goal → evs.length ≤ k) : Few1 ns (evs.map pI).length ∧ alB ns (evs.map pI) = true := by
  constructor
  · refine .inl ⟨evs.length, by rw [List.length_map], ?_, fun j hj => ?_⟩
    · exact List.any_eq_true.mpr ⟨goal, rch_lv.mp hp.rch, hg⟩
    · cases h : oneB ns j with
      | false => rfl
      | true =>
        exfalso
        obtain ⟨t, ht, hg2⟩ := List.any_eq_true.mp h
        have hr := rch_lv.mpr ht
        obtain ⟨m, hm1, hm2⟩ := List.getElem_of_mem ((B.mem t).mpr ⟨j, hr⟩)
        have hm3 : ks[m]? = some t := by rw [List.getElem?_eq_getElem hm1, hm2]
        have le : LeR stepsL ns goal t := by
          rcases Nat.lt_trichotomy m i with l | l | l
          · rw [hf m t l hm3] at hg2
            cases hg2
          · rw [l, hi] at hm3
            rw [Option.some.inj hm3]
            exact LeR.refl _ _ _
          · obtain ⟨hi1, hi2⟩ := List.getElem?_eq_some_iff.mp hi
            have := List.pairwise_iff_getElem.mp B.le i m hi1 hm1 l
            rwa [hi2, hm2] at this
        obtain ⟨k', hk', hr'⟩ := le j hr
        have := hm k' hr'
        omega
  · unfold alB
    rw [path_walk hp]
    exact hg
theorem found_none {ns : List Int} {ks : List (List Int)} (B : FinB stepsL ns ks) (h : ∀ r ∈ ks, g1 r = false) : ∀ k, oneB ns k = false := fun k => by
  cases e : oneB ns k with
  | false => rfl
  | true =>
    obtain ⟨t, ht, hg⟩ := List.any_eq_true.mp e
    rw [h t ((B.mem t).mpr ⟨k, rch_lv.mpr ht⟩)] at hg
    cases hg
theorem lv_ne {ns : List Int} (hs : Sm ns) {k : Nat} {q : List Int} (h : q ∈ lv ns k) : q ≠ [] := fun z => by
  have := (lv_sm hs k q h).1.1
  rw [z] at this
  exact absurd this (by decide)
theorem never_iff {ns : List Int} (hs : Sm ns) {ks : List (List Int)} (B : FinB sstepsL (sortI ns) ks) : (!(ks.map g1).any id) = true ↔ ∀ k, oneB ns k = false := by
  rw [Bool.not_eq_true', List.any_map]
  constructor
  · intro h k
    cases e : oneB ns k with
    | false => rfl
    | true =>
      obtain ⟨t, ht, hg⟩ := List.any_eq_true.mp e
      have := List.any_eq_false.mp h (sortI t) ((B.mem _).mpr ⟨k, rch_sorted.mpr ⟨t, ht, rfl⟩⟩)
      exfalso
      apply this
      show g1 (sortI t) = true
      rw [g1_perm (sortI_perm t) (fun z => lv_ne hs ht (by have := sortI_perm t; rw [z] at this; exact this.symm.eq_nil))]
      exact hg
  · intro h
    refine List.any_eq_false.mpr fun t ht hg => ?_
    obtain ⟨k, hk⟩ := (B.mem t).mp ht
    obtain ⟨q, hq, rfl⟩ := rch_sorted.mp hk
    have hg : g1 (sortI q) = true := hg
    rw [g1_perm (sortI_perm q) (fun z => lv_ne hs hq (by have := sortI_perm q; rw [z] at this; exact this.symm.eq_nil))] at hg
    have : oneB ns k = true := List.any_eq_true.mpr ⟨q, hq, hg⟩
    rw [h k] at this
    cases this
theorem found_ends {ns : List Int} (hs : Sm ns) {ks : List (List Int)} (B : FinB stepsL ns ks) : (sortR ks).filter (fun r => decide (stepsL r = [])) = endsL ns := by
  refine List.Perm.eq_of_pairwise (fun x y _ _ h1 h2 => List.le_antisymm h1 h2) ((sortR_sorted ks).filter _) (sortR_sorted (setR ns)) ?_
  refine (List.perm_ext_iff_of_nodup ((sortR_nodup B.nd).filter _) (nodup_endsL ns)).mpr fun r => ?_
  rw [List.mem_filter, mem_sortR, mem_endsL hs, B.mem, decide_eq_true_iff, steps_nil]
  constructor
  · rintro ⟨⟨k, hk⟩, h⟩
    exact ⟨h, k, rch_lv.mp hk⟩
  · rintro ⟨h, k, hk⟩
    exact ⟨⟨k, rch_lv.mpr hk⟩, h⟩
end Eg

set_option Elab.async false
set_option autoImplicit false
set_option linter.all false
set_option maxRecDepth 100000
set_option maxHeartbeats 2000000
namespace Eg
open PySem PySem.Spec PyProof.Rows L2 Evl
/-! # sorted of anything that can be walked -/
section
variable {prog : Program} {w : World} {A : Around} {E : Value → Shared → Prop} {s : Shared}
open PySem.W PySem.Calls PyProof.V in
theorem sorted_of_any {arg : Value} {kw : List (Str × Value)} {Q : Value → Shared → Prop} {OKv : List Value → Prop} (ha1 : argsOk "sorted" ⟨[arg], kw⟩)
    (hc : ∀ (E' : Value → Shared → Prop) (R : List Value → Shared → Prop), (∀ (h' : Heap) (tk : Nat) (vs : List Value), (∀ b o, s.heap.get? b = some o → h'.get? b = some o) → OKv vs → R vs { s with heap := h', toks := tk }) → wpAny (model prog w) A.in1 (collect arg) R E' s)
    (hL : ∀ vs, OKv vs → vs.length ≤ sizeLine)
    (hg : ∀ (E' : Value → Shared → Prop) (h' : Heap) (tk : Nat) (vs : List Value), (∀ b o, s.heap.get? b = some o → h'.get? b = some o) → OKv vs → wpAny (model prog w) A.in1 (call (.builtin "list.sort") [.ref h'.objs.size] kw) (fun _ s' => Q (.ref h'.objs.size) s') E' { s with heap := h'.push (seqObj "list" vs.toArray 0), toks := tk }) :
    wpAny (model prog w) A (call (.builtin "sorted") [arg] kw) Q E s := by
  refine call_function_entry_kw PyProof.Rows.kind_sorted PyProof.Rows.plain_sorted PyProof.Rows.entry_sorted ha1 ?_
  unfold Builtin.«sorted»
  refine wpAny_bind (m := checkCount "sorted" 1 1 _) (wpAny_pure ?_)
  refine wpAny_bind (hc _ _ fun h' tk vs hk hv => ?_)
  refine wpAny_bind (wpAny_newList ?_ (hL vs hv))
  refine wpAny_bind (wpAny_holding (wpAny_mono (hg _ h' tk vs hk hv) (fun _ s' x => ?_) fun _ _ e => e))
  exact wpAny_pure ⟨_, rfl, x⟩
end
/-! ### rows that are tuples -/
def RowsT (H : Hp) : List V → List (List Int) → Prop := Paired fun x r => ∃ t, x = .ref t ∧ H t = some (.tup (r.map V.int))
theorem RowsT.mono {H H' : Hp} (e : Ex H H') : ∀ {rs : List V} {ps : List (List Int)}, RowsT H rs ps → RowsT H' rs ps
  | _, _, .nil => .nil
  | _, _, .cons ⟨t, h1, h2⟩ r => .cons ⟨t, h1, e _ _ h2⟩ (RowsT.mono e r)
theorem RowsT.app {H : Hp} : ∀ {rs rs' : List V} {ps ps' : List (List Int)}, RowsT H rs ps → RowsT H rs' ps' → RowsT H (rs ++ rs') (ps ++ ps')
  | _, _, _, _, .nil, h => h
  | _, _, _, _, .cons a b, h => .cons a (RowsT.app b h)
theorem RowsT.length {H : Hp} {rs : List V} {ps : List (List Int)} (h : RowsT H rs ps) : rs.length = ps.length := Paired.length h
theorem RowsT.get {H : Hp} : ∀ {rs : List V} {ps : List (List Int)}, RowsT H rs ps → ∀ {i : Nat} {x : V}, rs[i]? = some x → ∃ r t, ps[i]? = some r ∧ x = .ref t ∧ H t = some (.tup (r.map V.int))
  | _, _, .nil, i, x, h => by simp at h
  | _, _, .cons ⟨t, h1, h2⟩ q, 0, x, h => by
    simp at h
    subst h
    exact ⟨_, t, rfl, h1, h2⟩
  | _, _, .cons _ q, i + 1, x, h => by
    simp at h
    obtain ⟨r, t, e1, e2, e3⟩ := RowsT.get q h
    exact ⟨r, t, by simpa using e1, e2, e3⟩
theorem of_eachT {H : Hp} : ∀ {us : List Value} {bs : List (V × List Int)}, PySem.W.EachIs (fun u b => RelV b.1 u ∧ ∃ t, b.1 = .ref t ∧ H t = some (.tup (b.2.map V.int))) us bs → Vals (bs.map (·.1)) us ∧ RowsT H (bs.map (·.1)) (bs.map (·.2))
  | _, _, .nil => ⟨.nil, .nil⟩
  | _, _, .cons h r => by
    obtain ⟨a, b⟩ := of_eachT r
    exact ⟨.cons h.1 a, .cons h.2 b⟩
theorem tup_dp {K : PySem.W.Frag} {H : Hp} {t : Addr} {r : List Int} (h : H t = some (.tup (r.map V.int))) : Dp K H (.ref t) (.tuple (r.map PyData.int)) := .tup (SqT.of h) (dpa_ints r)
section
variable {X : Cx} {pins : List (Addr × Obj)} {σ : L2.St} {H : Hp} {s : Shared}
theorem rawT {d : Addr} {kvs : List (List L2.Key × V)} (I : Inv X pins σ H s) (h : Rd H d (.dT kvs)) :
    (d == sysModules) = false ∧ kvs.length ≤ sizeLine ∧ ∃ (es : Array DictEntry) (ep : Nat), s.heap.DictRaw d es ep ∧ es.size = kvs.length ∧
      ∀ (i : Nat) (k : List L2.Key) (v : V), kvs[i]? = some (k, v) → ∃ (en : DictEntry) (q : Addr), es[i]? = some en ∧ en.key = .ref q ∧ RelV v en.val ∧ H q = some (.tup (k.map kV)) := by
  obtain ⟨z, hs, xs, pr, o, es, ep, ho, hx, hdt, he, _⟩ := dt_rd I.hok h
  refine ⟨hs, z, es, ep, ⟨o, ho, hx, hdt⟩, ?_, fun i k v e => ?_⟩
  · have l1 : es.size = xs.length := size_of_entries he
    have l2 : kvs.length = xs.length := Paired.length pr
    omega
  · obtain ⟨b, hb, e1, e2, e3⟩ := paired_get pr e
    have q := entry_at he i
    rw [hb] at q
    exact ⟨_, b.2.1, q, rfl, e3, e2⟩
/-! ### sorted(d), the keys rows -/
def rSortedDT : List V → Hp → VK → Prop := fun vs H Q => ∃ (a : Addr) (kvs : List (List L2.Key × V)) (rows : List (List Int)), vs = [V.ref a] ∧ Rd H a (.dT kvs) ∧ kvs.map (·.1) = rows.map rowK ∧ (∀ r ∈ rows, r ≠ []) ∧ ∀ ys p, RowsT H ys (sortR rows) → H p = none → Q (.ref p) (upd H p (.lst ys))
theorem keysT_at {kvs : List (List L2.Key × V)} {rows : List (List Int)} (hk : kvs.map (·.1) = rows.map rowK) {i : Nat} {r : List Int} (h : rows[i]? = some r) : ∃ v, kvs[i]? = some (rowK r, v) := by
  have e := congrArg (fun l => l[i]?) hk
  simp only [List.getElem?_map, h] at e
  cases g : kvs[i]? with
  | none =>
    rw [g] at e
    cases e
  | some kv =>
    rw [g] at e
    have e2 : kv.1 = rowK r := Option.some.inj e
    exact ⟨kv.2, by rw [← e2]⟩
/-- the keys of a dict of rows, collected -/
def KeysAre (H : Hp) (rows : List (List Int)) (vs : List Value) : Prop := ∃ bs : List (V × List Int), bs.map (·.2) = rows ∧ PySem.W.EachIs (fun u b => RelV b.1 u ∧ ∃ t, b.1 = V.ref t ∧ H t = some (.tup (b.2.map V.int))) vs bs
theorem KeysAre.len {H : Hp} {rows : List (List Int)} {vs : List Value} (h : KeysAre H rows vs) : vs.length = rows.length := by
  obtain ⟨bs, e, em⟩ := h
  rw [← e, List.length_map]
  exact em.length
theorem collect_keys {A : Around} {E : Value → Shared → Prop} (hh : A.handled = none) (I : Inv X pins σ H s) {a : Addr} {kvs : List (List L2.Key × V)} {rows : List (List Int)} (hd : Rd H a (.dT kvs)) (hk : kvs.map (·.1) = rows.map rowK) {R : List Value → Shared → Prop}
    (h : ∀ h' tk vs, (∀ b o, s.heap.get? b = some o → h'.get? b = some o) → KeysAre H rows vs → R vs { s with heap := h', toks := tk }) : wpAny (model X.prog X.w) A (collect (.ref a)) R E s := by
  obtain ⟨lo, hz, es, ep, raw, hsz, ent⟩ := rawT I hd
  refine PySem.W.kdu_collect (PySem.KdlSrc.rawDict (es := es) (ep := ep) lo) hh raw (by rw [hsz]; exact hz) fun h' tk acc hkeep hacc => h h' tk acc.toList hkeep ?_
  have hl : kvs.length = rows.length := by
    have := congrArg List.length hk
    simpa using this
  have hal : acc.toList.length = rows.length := by rw [Array.length_toList, hacc.1, hsz, hl]
  refine ⟨(acc.toList.map fun u => V.ref (match u with | .ref q => q | _ => 0)).zip rows, List.map_snd_zip (by rw [List.length_map]; omega), each_of (by rw [List.length_map]) (by rw [List.length_map]; exact hal) fun i u x r h1 h2 h3 => ?_⟩
  rw [List.getElem?_map, h1] at h2
  obtain ⟨v, hv⟩ := keysT_at hk h3
  obtain ⟨en, q, e1, e2, _, e4⟩ := ent i _ v hv
  obtain ⟨hi, eu⟩ := hacc.2 i u (by rw [← Array.getElem?_toList]; exact h1)
  have e5 : es[i] = en := by
    rw [Array.getElem?_eq_getElem hi] at e1
    exact Option.some.inj e1
  rw [e5, e2] at eu
  subst eu
  cases h2
  rw [rowK_V] at e4
  exact ⟨rfl, q, rfl, e4⟩
theorem readsAll_ints {h : Heap} : ∀ {ns : List Int} {us : List Value} {as : List Addr}, ReadsAll h us (ns.map PyData.int) as → as = []
  | [], _, _, r => by
    have r' : ReadsAll h _ [] _ := r
    cases r'
    rfl
  | n :: ns, _, _, r => by
    have r' : ReadsAll h _ (.int n :: ns.map .int) _ := r
    cases r' with
    | cons h1 h2 =>
      cases h1
      rw [readsAll_ints h2]
      rfl
theorem dataLe_rowsT {β : Type} (x : β → List Int) : PySem.W.dataLe false (fun b => .tuple ((x b).map .int)) = fun p q => decide (x p ≤ x q) := by
  rw [← PySem.W.dataLe_rows]
  funext p q
  show (!PySem.W.dataLt (.tuple ((x q).map .int)) (.tuple ((x p).map .int))) = (!PySem.W.dataLt (.list ((x q).map .int)) (.list ((x p).map .int)))
  rw [PySem.W.dataLt_tuple, PySem.W.dataLt_list]
theorem cr_sortedDT (hu : X.A.units + 64 < cLine) (hcalm : X.calm = true) : CallR X (.builtin "sorted") rSortedDT := by
  intro pins s σ H vs us Q I r h
  obtain ⟨a, kvs, rows, rfl, hd, hk, hne, q⟩ := h
  obtain ⟨u, rfl, ru⟩ := vals1 r
  obtain rfl : u = Value.ref a := ru
  obtain ⟨lo, hz, es, ep, raw, hsz, ent⟩ := rawT I hd
  have hl : kvs.length = rows.length := by
    have := congrArg List.length hk
    simpa using this
  refine sorted_of_any (OKv := KeysAre H rows) (PyProof.Rows.args_sorted1 _) (fun E' R hR => collect_keys (A := X.A.in1) (I.ok.hd hcalm) I hd hk hR) (fun vs hv => by rw [hv.len]; omega) fun E' h' tk vs hkeep hv => ?_
  have hvl := hv.len
  obtain ⟨bs, eb, em⟩ := hv
  have I1 : Inv X pins σ H { s with heap := h', toks := tk } := I.kept hkeep
  have hat : (h'.push (seqObj "list" vs.toArray 0)).get? h'.objs.size = some (seqObj "list" vs.toArray 0) := Heap.get?_push_size _ rfl
  have kp2 : ∀ b o, s.heap.get? b = some o → (h'.push (seqObj "list" vs.toArray 0)).get? b = some o := fun b o e => Heap.get?_push_of_some _ (hkeep b o e)
  have I2 : Inv X pins σ H { s with heap := h'.push (seqObj "list" vs.toArray 0), toks := tk } := I.kept kp2
  refine PySem.W.list_sort_data (β := V × List Int) (s := { s with heap := h'.push (seqObj "list" vs.toArray 0), toks := tk }) (enc := fun b => .tuple (b.2.map .int)) (R := fun u b => RelV b.1 u ∧ ∃ t, b.1 = .ref t ∧ H t = some (.tup (b.2.map V.int))) (bs := bs) (n := 0) hat em (em.mono fun u b hb => ?_) ?_ ?_ ?_ ?_ ?_
  · obtain ⟨r1, t, e1, e2⟩ := hb
    have hdp : Dp X.K H b.1 (.tuple (b.2.map .int)) := by
      rw [e1]
      exact tup_dp e2
    obtain ⟨as, hr⟩ := Dp.reads I2 (.tuple (b.2.map .int)) b.1 u hdp r1
    refine ⟨as, hr, ?_⟩
    cases hr with
    | tuple _ _ _ h4 =>
      rw [readsAll_ints h4]
      simp
  · refine PySem.W.AllAlike.of fun b b' => ?_
    show PySem.W.alike (.tuple (b.2.map .int)) (.tuple (b'.2.map .int)) = true
    simp only [PySem.W.alike]
    exact PySem.W.alike_ints _ _
  · refine .inl fun d hd => ?_
    obtain ⟨b, hb, rfl⟩ := List.mem_map.mp hd
    have hr := hne b.2 (by rw [← eb]; exact List.mem_map.mpr ⟨b, hb, rfl⟩)
    obtain ⟨x, r, e⟩ := List.exists_cons_of_ne_nil hr
    exact ⟨.int x, r.map .int, by rw [e]; rfl⟩
  · have := congrArg List.length eb
    rw [List.length_map] at this
    omega
  · intro b _
    have : (PyData.tuple (b.2.map .int)).depth = 1 := by
      simp only [PyData.depth]
      rw [PySem.W.depth_ints]
    rw [this]
    show X.A.units + 1 + 1 + 1 < cLine
    omega
  · intro out ho eo
    obtain ⟨c, hc⟩ := PyProof.Rows.sortedHeap_at (vs := vs) (out := out.toArray) hat
    obtain ⟨v1, v2⟩ := of_eachT eo
    have e1 : (bs.mergeSort (PySem.W.dataLe false fun b => .tuple (b.2.map .int))).map (·.2) = sortR rows := by
      rw [dataLe_rowsT (fun b : V × List Int => b.2)]
      have h3 := List.map_mergeSort (f := fun b : V × List Int => b.2) (r := fun p q => decide (p.2 ≤ q.2)) (s := leR) (l := bs) (fun a _ b _ => rfl)
      rw [h3, eb]
      rfl
    rw [e1] at v2
    have hn := I1.hok.fresh (Nat.le_refl h'.objs.size)
    have hlen := v1.length
    refine ⟨.ref h'.objs.size, _, I1.laid (t' := tk) (o := .lst ((bs.mergeSort (PySem.W.dataLe false fun b => .tuple (b.2.map .int))).map (·.1))) (fun b o e => ?_) (Nat.le_refl _) ⟨?_, out, c, v1, hc⟩, rfl, q _ _ v2 hn⟩
    · have hlt : b < h'.objs.size := Heap.lt_size e
      rw [PyProof.Rows.sortedHeap_old (Nat.ne_of_lt hlt) (by rw [PyProof.Rows.size_push']; exact Nat.lt_succ_of_lt hlt)]
      exact Heap.get?_push_of_some _ e
    · rw [hlen, ho]
      have := congrArg List.length eb
      rw [List.length_map] at this
      omega
end
end Eg

set_option Elab.async false
set_option autoImplicit false
set_option linter.all false
set_option maxRecDepth 100000
set_option maxHeartbeats 2000000
namespace Eg
open PySem PySem.Spec PyProof.Rows L2 Evl
/-! # sorted(d, key=f), f an own def that gives a number -/
/-- the heap without the object at a -/
def offH (h : Heap) (a : Addr) : Heap := h.update a fun _ => { cls := .none, data := .freed }
theorem offH_none {h : Heap} {a : Addr} {o : Obj} (e : h.get? a = some o) : (offH h a).get? a = none := by
  cases g : (offH h a).get? a with
  | none => rfl
  | some o' =>
    exfalso
    obtain ⟨g1, g2⟩ := Heap.get?_some_iff.mp g
    obtain ⟨e1, _⟩ := Heap.get?_some_iff.mp e
    unfold offH at g1
    cases h
    simp only [Heap.update, Array.getElem?_modify, if_true] at g1
    simp only at e1
    rw [e1] at g1
    have g3 : ({ cls := .none, data := .freed } : Obj) = o' := Option.some.inj g1
    rw [← g3] at g2
    cases g2
theorem offH_ne {h : Heap} {a b : Addr} (hab : b ≠ a) : (offH h a).get? b = h.get? b := Heap.get?_update_other h _ (Ne.symm hab)
section
variable {X : Cx} {pins : List (Addr × Obj)} {σ : L2.St}
theorem pinned {H H' : Hp} {b : Addr} (f : FpOk X pins H b) {pins' : List (Addr × Obj)} (hn : H' b = none) (hp : ∀ p ∈ pins', p.1 ≠ b) : FpOk X pins' H' b := by
  obtain ⟨f0, f1, f2, f3, f4, f5⟩ := f
  refine ⟨hn, f1, f2, f3, f4, fun p h => ?_⟩
  rcases List.mem_append.mp h with h | h
  · exact f5 p (List.mem_append_left _ h)
  · exact hp p h
open PySem.W PyProof.V PySem.Calls in
/-- the keys are asked, one by one -/
theorem key_rest {A : Around} {E : Value → Shared → Prop} {H : Hp} {s : Shared} {a kS : Addr} {vs : List Value} {e1 : Nat} {f : Value} {kz : List Int} {P : PySem.Fin → Shared → Prop}
    (I : Inv X ((kS, seqObj "list" #[] 0) :: (a, seqObj "list" #[] e1) :: pins) σ H s) (fK : FpOk X pins H kS) (fA : FpOk X pins H a) (hka : kS ≠ a) (hap : ∀ p ∈ X.pn ++ pins, p.1 ≠ kS)
    (hlen : kz.length = vs.length) (hZ : vs.length ≤ sizeLine) (hun : A.units + 1 < cLine)
    (turn : ∀ (i : Nat) (u : Value) (k : Int), vs[i]? = some u → kz[i]? = some k → ∀ (ps : List (Addr × Obj)) (H1 : Hp) (s1 : Shared), Inv X ps σ H1 s1 → Ex H H1 → wpAny (model X.prog X.w) A (call f [u]) (fun v s2 => ∃ H2, Inv X ps σ H2 s2 ∧ Ex H1 H2 ∧ ∃ t, v = .int k t) (fun _ _ => False) s1)
    (h : ∀ s' H' out c, Inv X pins σ H' s' → Ex H H' → FpOk X pins H' a → s'.heap.get? a = some (seqObj "list" (List.toArray out) c) → KeyedOut false (kz.map PyData.int) vs out → P (.done (.ret .none)) s') :
    wpAny (model X.prog X.w) A (ksk_rest a f false vs.toArray e1 (.ref kS)) P E s := by
  unfold ksk_rest
  refine wpAny_bind (wpAny_rule ?_)
  first
    | rw [List.forIn_toArray]
    | (rw [← Array.forIn_toList]; simp only [List.toList_toArray])
    | rw [← Array.forIn_toList]
  refine wpAny_bind (ksk_fold (fun i s' => ∃ H' kA e, Inv X ((kS, seqObj "list" kA e) :: (a, seqObj "list" #[] e1) :: pins) σ H' s' ∧ Ex H H' ∧ EachIs (fun (v : Value) (k : Int) => ∃ t, v = .int k t) kA.toList (kz.take i)) vs 0 s
    ⟨H, #[], 0, I, Ex.refl H, by rw [List.take_zero]; exact EachIs.nil⟩ ?step ?done)
  case step =>
    rintro j x s' hx ⟨H', kA, e, I', eH, hk⟩
    simp only [Nat.zero_add] at hk ⊢
    have hj : j < vs.length := (List.getElem?_eq_some_iff.mp hx).1
    obtain ⟨k, hkj⟩ : ∃ k, kz[j]? = some k := ⟨_, List.getElem?_eq_getElem (by omega)⟩
    have hz : kA.size ≤ vs.length := by
      have h1 := hk.length
      rw [Array.length_toList, List.length_take] at h1
      omega
    refine wpAny_bind (wpAny_attempt (wpAny_mono (turn j x k hx hkj _ H' s' I' eH) (fun v s'' he => ?_) fun _ _ hF => hF.elim))
    obtain ⟨H2, I2, e2, t, rfl⟩ := he
    try dsimp only
    have pK := I2.pin (kS, seqObj "list" kA e) (List.mem_append_right _ List.mem_cons_self)
    have pA := I2.pin (a, seqObj "list" #[] e1) (List.mem_append_right _ (List.mem_cons_of_mem _ List.mem_cons_self))
    have nk2 : s''.heap.get? kS = some (seqObj "list" kA e) := pK.1
    have s1 := Heap.SameBut.update s''.heap kS (Obj.mapSeq (·.push (.int k t)))
    obtain ⟨c2, hc2⟩ : ∃ c2, (s''.heap.update kS (Obj.mapSeq (·.push (.int k t)))).get? kS = some (seqObj "list" (kA.push (.int k t)) c2) := ⟨_, get?_update_seq nk2 (·.push (.int k t))⟩
    have ek : kz.take (j + 1) = kz.take j ++ [k] := by rw [List.take_add_one, hkj]; simp
    have ea : (kA.push (.int k t)).toList = kA.toList ++ [.int k t] := by simp
    refine wpAny_bind (listUpdate_at nk2 rfl ?_ (Nat.le_trans hz hZ) (Nat.le_trans (Nat.le_of_eq (Array.size_push ..)) (Nat.succ_le_succ (Nat.le_trans hz hZ))))
    have J0 : Inv X ((a, seqObj "list" #[] e1) :: pins) σ H2 s'' := I2.pins_of fun p hp => I2.pin p (List.mem_append_right _ (List.mem_cons_of_mem _ hp))
    have fK2 : FpOk X ((a, seqObj "list" #[] e1) :: pins) H2 kS := pinned fK pK.2.1 fun p hp => by
      rcases List.mem_cons.mp hp with rfl | hp
      · exact hka.symm
      · exact hap p (List.mem_append_right _ hp)
    obtain ⟨f0, f1, f2, f3, f4, f5⟩ := fK2
    have J1 : Inv X ((a, seqObj "list" #[] e1) :: pins) σ H2 { s'' with heap := s''.heap.update kS (Obj.mapSeq (·.push (.int k t))) } := J0.turned (t' := s''.toks) (fun b o hb e => (s1.2 b hb).trans e) f0 f1 f3 f4 f5
    refine wpAny_pure ⟨rfl, H2, kA.push (.int k t), c2, J1.pins_of fun p hp => ?_, eH.trans e2, ?_⟩
    · rcases List.mem_cons.mp hp with rfl | hp
      · exact ⟨hc2, f0, f1, f2, fun v z => by cases z⟩
      · exact J1.pin p (List.mem_append_right _ hp)
    · rw [ea, ek]
      exact each_snoc (R := fun (v : Value) (k : Int) => ∃ t, v = .int k t) ⟨t, rfl⟩ hk
  case done =>
    rintro s' ⟨H', kA, e, I', eH, hk⟩
    have hk' : EachIs (fun (v : Value) (k : Int) => ∃ t, v = .int k t) kA.toList kz := by
      have e3 : kz.take (0 + vs.length) = kz := List.take_of_length_le (by omega)
      rwa [e3] at hk
    have hsz : kA.size = vs.length := by
      have h1 := hk'.length
      rw [Array.length_toList] at h1
      omega
    have pK := I'.pin (kS, seqObj "list" kA e) (List.mem_append_right _ List.mem_cons_self)
    have pA := I'.pin (a, seqObj "list" #[] e1) (List.mem_append_right _ (List.mem_cons_of_mem _ List.mem_cons_self))
    have nk' : s'.heap.get? kS = some (seqObj "list" kA e) := pK.1
    have na' : s'.heap.get? a = some (seqObj "list" #[] e1) := pA.1
    have hr : EachIs (fun v (d : PyData) => ∃ as, Reads s'.heap v d as) kA.toList (kz.map PyData.int) := by
      have : EachIs (fun v (k : Int) => ∃ as, Reads s'.heap v (.int k) as) kA.toList kz := hk'.mono fun v k ⟨t, ht⟩ => ⟨[], by rw [ht]; exact .int k t⟩
      exact each_map (R := fun v d => ∃ as, Reads s'.heap v d as) PyData.int this
    have hal : AllAlike (kz.map PyData.int) := AllAlike.of fun b b' => by simp [alike]
    have hsk : Sortable (kz.map PyData.int) := Sortable.others fun b => ⟨(fun z => nomatch z), (fun xs z => nomatch z)⟩
    try dsimp only
    refine wpAny_bind (listItems_at nk' rfl ?_)
    refine keyH_end (κ := dataKind s'.heap (kz.map PyData.int)) (h₁ := offH s'.heap kS) (s := s') (fun b o hb e => ?_) (offH_none nk') nk' na' hka (SortsAt.data (s := s') hr hal hsk (fun d hd => ?_)) hsz hZ fun h3 tk3 c k3 n3 => ?_
    · by_cases g : b = kS
      · rw [g, offH_none nk'] at e
        cases e
      · rwa [offH_ne g] at e
    · obtain ⟨i, _, rfl⟩ := List.mem_map.mp hd
      simp only [PyData.depth]
      omega
    · have J0 : Inv X pins σ H' s' := I'.pins_of fun p hp => I'.pin p (List.mem_append_right _ (List.mem_cons_of_mem _ (List.mem_cons_of_mem _ hp)))
      have fK' : FpOk X pins H' kS := pinned fK pK.2.1 fun p hp => hap p (List.mem_append_right _ hp)
      have fA' : FpOk X pins H' a := pinned fA pA.2.1 fun p hp z => fA.2.2.2.2.2 p (List.mem_append_right _ hp) z
      refine h { s' with heap := h3, toks := tk3 } H' _ c (J0.turnedL (ch := [kS, a]) (fun b o hb e => ?_) (fun b hb => ?_)) eH fA' n3 ⟨s'.heap, kA.toList, hal, rfl, hr⟩
      · refine k3 b o (fun z => hb (by simp [z])) ?_
        rw [offH_ne (fun z => hb (by simp [z]))]
        exact e
      · rcases List.mem_cons.mp hb with rfl | hb
        · exact fK'
        · rw [List.mem_singleton.mp hb]
          exact fA'
/-- an object of ours is tracked from now on -/
theorem track {H : Hp} {s : Shared} {a : Addr} {o : HO} (I : Inv X pins σ H s) (f : FpOk X pins H a) (new : ObjOk X.prog X.w (upd H a o) s.heap a o) : Inv X pins σ (upd H a o) s := by
  obtain ⟨f0, f1, f2, f3, f4, f5⟩ := f
  refine ⟨I.ok, I.os, I.bare, ⟨I.base.keep, I.base.slot, fun b o' e n hx => ?_, I.base.there, fun b xs e => ?_, fun b o' x e => ?_, fun b ps e => ?_⟩, I.loc, I.cell, ?_, fun x c e => ?_, fun p hp => ?_, fun b u e => ?_, I.len⟩
  · have hb : b ≠ a := fun z => by
      rcases f3 with g | g
      · exact hx (z ▸ g)
      · have h1 : X.s_0.heap.objs.size ≤ a := g
        have h2 := Heap.lt_size e
        rw [z] at h2
        exact absurd h2 (Nat.not_lt.mpr h1)
    rw [upd_ne hb]
    exact I.base.free b o' e n hx
  · have q := I.base.tups b xs e
    rw [upd_ne (ne_of_none q f0)]
    exact q
  · have q := I.base.frzs b o' x e
    rw [upd_ne (ne_of_none q f0)]
    exact q
  · obtain ⟨m, q⟩ := I.base.tbls b ps e
    exact ⟨m, by rw [upd_ne (ne_of_none q f0)]; exact q⟩
  · rw [upd_ne (Ne.symm f1)]
    exact I.free
  · rw [upd_ne (f4 x c e)]
    exact I.freeC x c e
  · obtain ⟨e, n, r⟩ := I.pin p hp
    exact ⟨e, by rw [upd_ne (f5 p hp)]; exact n, r⟩
  · by_cases hb : b = a
    · subst hb
      rw [upd_same] at e
      cases e
      exact new
    · rw [upd_ne hb] at e
      exact (I.hok b u e).stay (fun c v _ q => q) (fun c q => by rw [upd_ne (ne_of_none q f0)]; exact q) fun c xs q => by rw [upd_ne (ne_of_none q f0)]; exact q
/-- sorted(d, key=f): the rows by a number that f gives of each -/
def byVal (val : List Int → Int) (rows : List (List Int)) : List (List Int) := rows.mergeSort fun a b => decide (val a ≤ val b)
def rSortedKT (f : Addr) (val : List Int → Int) (sp : Sp) : List V → List V → Hp → VK → Prop := fun vs zs H Q => ∃ (a : Addr) (kvs : List (List L2.Key × V)) (rows : List (List Int)), vs = [V.ref a] ∧ zs = [.ref f] ∧ Rd H a (.dT kvs) ∧ kvs.map (·.1) = rows.map rowK ∧
  (∀ r ∈ rows, ∀ t H1, Ex H H1 → H1 t = some (.tup (r.map V.int)) → SpV sp [.ref t] H1 (.int (val r))) ∧ ∀ ys p H2, H p = none → Ex H H2 → H2 p = some (.lst ys) → RowsT H2 ys (byVal val rows) → Q (.ref p) H2
open PySem.W PyProof.V PySem.Calls in
theorem cr_sortedKT {k : Nat} {f : Addr} {val : List Int → Int} {sp : Sp} (F : FnR X.prog X.w X.K X.mg X.base CX0 k f sp) (hr : Room (k + 3) X.A) (hcalm : X.calm = true) : CallRK X (.builtin "sorted") [Str.ofString "key"] (rSortedKT f val sp) := by
  intro pins s σ H vs zs us ws Q I r rz h
  obtain ⟨a, kvs, rows, rfl, rfl, hd, hk, hsp, q⟩ := h
  obtain rfl := Vals.ref1 r
  obtain ⟨w1, rfl, e1⟩ := vals1 rz
  obtain rfl : w1 = Value.ref f := e1
  obtain ⟨lo, hz, es, ep, raw, hsz, ent⟩ := rawT I hd
  have hl : kvs.length = rows.length := by
    have := congrArg List.length hk
    simpa using this
  refine sorted_of_any (OKv := KeysAre H rows) (PyProof.Rows.ksk_s1 _ _) (fun E' R hR => collect_keys (A := X.A.in1) (I.ok.hd hcalm) I hd hk hR) (fun vs hv => by rw [hv.len]; omega) fun E' h' tk vs hkeep hv => ?_
  have hvl := hv.len
  obtain ⟨bs, eb, em⟩ := hv
  have hat : (h'.push (seqObj "list" vs.toArray 0)).get? h'.objs.size = some (seqObj "list" vs.toArray 0) := Heap.get?_push_size _ rfl
  have I1 : Inv X pins σ H { s with heap := h', toks := tk } := I.kept hkeep
  have hD : H h'.objs.size = none := I1.hok.fresh (Nat.le_refl _)
  have fD : FpOk X pins H h'.objs.size := I1.fpOk (Nat.le_refl _) hD
  have hbs : bs.length = vs.length := by
    have := congrArg List.length eb
    rw [List.length_map] at this
    omega
  have hZ : vs.length ≤ sizeLine := by omega
  refine wpAny_call_entry_kw PyProof.Rows.slot_list_sort ⟨_, hat, rfl⟩ PyProof.Rows.entry_list_sort ?_ (PyProof.Rows.ksk_l1 _ _)
  show wpAny (model X.prog X.w) X.A.in1.in1 (Builtin.«list.sort» ⟨[.ref h'.objs.size], [(Str.ofString "key", .ref f)]⟩) _ _ _
  rw [PyProof.Rows.ksk_t1]
  obtain ⟨e1, ho1⟩ : ∃ e1, ((h'.push (seqObj "list" vs.toArray 0)).update h'.objs.size (Obj.mapSeq fun _ => (#[] : Array Value))).get? h'.objs.size = some (seqObj "list" #[] e1) := ⟨_, get?_update_seq hat fun _ => #[]⟩
  have hlt : ∀ b o, s.heap.get? b = some o → b < h'.objs.size := fun b o e => Heap.lt_size (hkeep b o e)
  have hkS : (((h'.push (seqObj "list" vs.toArray 0)).update h'.objs.size (Obj.mapSeq fun _ => (#[] : Array Value))).push (seqObj "tuple" vs.toArray 0)).objs.size = h'.objs.size + 2 := by rw [PyProof.Rows.size_push', Heap.size_update, PyProof.Rows.size_push']
  unfold ksk_tree
  refine wpAny_bind (listItems_at hat rfl ?_)
  refine wpAny_bind (listUpdate_at hat rfl ?_ (by rw [List.size_toArray]; exact hZ) (Nat.zero_le _))
  refine wpAny_bind (seqEpoch_at ho1 rfl ?_)
  refine wpAny_bind (wpAny_newTuple ?_ (by show vs.length ≤ _; exact hZ))
  refine wpAny_bind (wpAny_newList ?_ (Nat.zero_le _))
  refine wpAny_holding ?_
  have keepB : ∀ b o, s.heap.get? b = some o → ((((h'.push (seqObj "list" vs.toArray 0)).update h'.objs.size (Obj.mapSeq fun _ => (#[] : Array Value))).push (seqObj "tuple" vs.toArray 0)).push (seqObj "list" #[] 0)).get? b = some o := fun b o e => by
    refine Heap.get?_push_of_some _ (Heap.get?_push_of_some _ ?_)
    rw [Heap.get?_update_other _ _ (Nat.ne_of_gt (hlt b o e))]
    exact Heap.get?_push_of_some _ (hkeep b o e)
  have hKn : H (h'.objs.size + 2) = none := I1.hok.fresh (Nat.le_add_right _ _)
  have fK : FpOk X pins H (h'.objs.size + 2) := I1.fpOk (Nat.le_add_right _ _) hKn
  have IB : Inv X pins σ H { s with heap := (((h'.push (seqObj "list" vs.toArray 0)).update h'.objs.size (Obj.mapSeq fun _ => (#[] : Array Value))).push (seqObj "tuple" vs.toArray 0)).push (seqObj "list" #[] 0), toks := tk } := I.kept keepB
  have atK : ((((h'.push (seqObj "list" vs.toArray 0)).update h'.objs.size (Obj.mapSeq fun _ => (#[] : Array Value))).push (seqObj "tuple" vs.toArray 0)).push (seqObj "list" #[] 0)).get? (h'.objs.size + 2) = some (seqObj "list" #[] 0) := by
    rw [← hkS]
    exact Heap.get?_push_size _ rfl
  have atD : ((((h'.push (seqObj "list" vs.toArray 0)).update h'.objs.size (Obj.mapSeq fun _ => (#[] : Array Value))).push (seqObj "tuple" vs.toArray 0)).push (seqObj "list" #[] 0)).get? h'.objs.size = some (seqObj "list" #[] e1) := Heap.get?_push_of_some _ (Heap.get?_push_of_some _ ho1)
  show wpAny (model X.prog X.w) X.A.in1.in1 (ksk_rest h'.objs.size (.ref f) false vs.toArray _ (.ref (((h'.push (seqObj "list" vs.toArray 0)).update h'.objs.size (Obj.mapSeq fun _ => (#[] : Array Value))).push (seqObj "tuple" vs.toArray 0)).objs.size)) _ _ _
  rw [hkS]
  refine key_rest (H := H) (pins := pins) (kz := bs.map fun b => val b.2) (IB.pins_of fun p hp => ?_) fK fD (Nat.ne_of_gt (Nat.lt_add_of_pos_right (by decide))) fK.2.2.2.2.2 (by rw [List.length_map]; exact hbs) hZ (by have := hr.un; show X.A.units + 1 + 1 + 1 < cLine; omega) (fun i u kk hu hkk ps H1 s1 J eH => ?_) fun s2 H2 out c J eH fA n3 ko => ⟨.none, rfl, ?_⟩
  · rcases List.mem_cons.mp hp with rfl | hp
    · exact ⟨atK, hKn, fK.2.1, fK.2.2.1, fun v z => by cases z⟩
    · rcases List.mem_cons.mp hp with rfl | hp
      · exact ⟨atD, hD, fD.2.1, fD.2.2.1, fun v z => by cases z⟩
      · exact IB.pin p (List.mem_append_right _ hp)
  · rw [List.getElem?_map] at hkk
    cases hb : bs[i]? with
    | none =>
      rw [hb] at hkk
      cases hkk
    | some b =>
      rw [hb] at hkk
      cases hkk
      have hz2 : (u, b) ∈ vs.zip bs := List.mem_of_getElem? (i := i) (by rw [List.getElem?_zip_eq_some]; exact ⟨hu, hb⟩)
      obtain ⟨r1, t, e2, e3⟩ := em.zip _ hz2
      have hrow : b.2 ∈ rows := by
        rw [← eb]
        exact List.mem_map.mpr ⟨b, List.mem_of_getElem? hb, rfl⟩
      have hs := hsp b.2 hrow t H1 eH (eH _ _ e3) H1 (Ex.refl H1) (fun v H3 => Ex H1 H3 ∧ v = .int (val b.2)) (fun H3 e4 => ⟨e4, rfl⟩) (fun _ _ _ => False)
      rw [e2] at r1
      refine wpAny_call (codeAny_mono (F X.A.in1.in1 X.stack s1 H1 [u] [.ref t] _ _ (hr.in1.in1.mono (Nat.le_succ _)) J.env0.in1.in1 (.cons r1 .nil) hs) fun rr s' hq => ?_)
      cases rr with
      | error e => exact hq
      | ok fl =>
        cases fl with
        | ret uu =>
          obtain ⟨v, H3, J3, rv, e5, e6⟩ := J.after hq
          subst e6
          obtain ⟨tt, rfl⟩ := rv
          exact ⟨H3, J3, e5, tt, rfl⟩
        | next => exact False.elim hq
        | brk => exact False.elim hq
        | cont => exact False.elim hq
  · rw [List.map_map] at ko
    have eo := keyedOut_each (fun b : V × List Int => PyData.int (val b.2)) ko em
    obtain ⟨v1, v2⟩ := of_eachT eo
    have e1 : (bs.mergeSort (PySem.W.dataLe false fun b => .int (val b.2))).map (·.2) = byVal val rows := by
      rw [PySem.W.dataLe_int (fun b : V × List Int => val b.2)]
      have h3 := List.map_mergeSort (f := fun b : V × List Int => b.2) (r := fun p q => decide (val p.2 ≤ val q.2)) (s := fun a b => decide (val a ≤ val b)) (l := bs) (fun a _ b _ => rfl)
      rw [h3, eb]
      rfl
    rw [e1] at v2
    have hlen : ((bs.mergeSort (PySem.W.dataLe false fun b => .int (val b.2))).map (·.1)).length ≤ sizeLine := by
      rw [List.length_map, List.length_mergeSort]
      omega
    refine ⟨.ref h'.objs.size, _, track (o := .lst ((bs.mergeSort (PySem.W.dataLe false fun b => .int (val b.2))).map (·.1))) J fA ⟨hlen, out, c, v1, n3⟩, rfl, q _ _ _ hD (Ex.mut eH hD) upd_same (v2.mono (Ex.mut eH hD))⟩
end
end Eg

set_option Elab.async false
set_option autoImplicit false
set_option linter.all false
set_option maxRecDepth 100000
set_option maxHeartbeats 2000000
namespace Eg
open PySem PySem.Spec PyProof.Rows L2 Evl
/-! # the pairs of a locked dict whose keys are tuples, each a new tuple -/
section
variable {X : Cx} {pins : List (Addr × Obj)} {σ : L2.St} {H : Hp} {s : Shared} {d : Addr} {o : Obj}
theorem frzT2 {kvs : List (List L2.Key × V)} (I : Inv X pins σ H s) (h : H d = some (.frz o (.dT kvs))) :
    (d == sysModules) = false ∧ s.heap.get? d = some o ∧ o.ExactDict ∧ ∃ (es : Array DictEntry) (ep : Nat), o.data = .dict es ep ∧ es.size = kvs.length ∧
      ∀ (i : Nat) (k : List L2.Key) (v : V), kvs[i]? = some (k, v) → ∃ (en : DictEntry) (q : Addr), es[i]? = some en ∧ en.key = .ref q ∧ RelV v en.val ∧ H q = some (.tup (k.map kV)) := by
  obtain ⟨hd, z, hs, xs, pr, o', es, ep, ho, hx, hdt, he, _⟩ := I.hok d _ h
  rw [hd] at ho
  cases ho
  refine ⟨hs, hd, hx, es, ep, hdt, ?_, fun i k v e => ?_⟩
  · have l1 : es.size = xs.length := size_of_entries he
    have l2 : kvs.length = xs.length := Paired.length pr
    omega
  · obtain ⟨b, hb, e1, e2, e3⟩ := paired_get pr e
    have q := entry_at he i
    rw [hb] at q
    exact ⟨_, b.2.1, q, rfl, e3, e2⟩
end
def ItiT (d : Addr) (o : Obj) (kvs : List (List L2.Key × V)) : It :=
  ⟨fun i H => H d = some (.frz o (.dT kvs)) ∧ i < kvs.length, fun i H x H' => ∃ T k v q, kvs[i]? = some (k, v) ∧ x = .ref T ∧ H T = none ∧ H q = some (.tup (k.map kV)) ∧ H' = upd H T (.tup [.ref q, v]), fun i H => H d = some (.frz o (.dT kvs)) ∧ kvs.length ≤ i⟩
section
variable {P : Program} {w : World} {K : PySem.W.Frag} {d : Addr} {o : Obj} {es : Array DictEntry} {ep : Nat}
theorem turn_itemsT {kvs : List (List L2.Key × V)} {elts : List Expr} {kk : Nat} {tpos : Pos} (it : Addr) (hod : o.data = .dict es ep) :
    Turn P w K (.Tuple elts kk tpos) (ItiT d o kvs) [it] it (fun i h => ∃ ok ov, IsItemIter h it d i es.size ep ok ov) where
  mem := by simp
  obj := fun i h st b hb => by
    have e : b = it := by simpa using hb
    subst e
    obtain ⟨ok, ov, e⟩ := st
    exact ⟨_, e, fun v z => nomatch z⟩
  keep := fun i h h' st k => let ⟨ok, ov, e⟩ := st; ⟨ok, ov, k it (by simp) _ e⟩
  item := by
    intro X hP hw hK hc i pins s σ H E I hf st hg
    subst hP hw hK
    obtain ⟨hd, hi⟩ := hg
    obtain ⟨hs, hgd, hx, es', ep', hdt, hsz, ent⟩ := frzT2 I hd
    obtain ⟨rfl, rfl⟩ := dict_ep hod hdt
    obtain ⟨⟨k, v⟩, hkv⟩ : ∃ p, kvs[i]? = some p := ⟨kvs[i], List.getElem?_eq_getElem hi⟩
    obtain ⟨en, q, hen, hkey, rv, hq⟩ := ent i k v hkv
    obtain ⟨ok, ov, he⟩ := st
    have hi2 : i < es'.size := by omega
    have een : es'[i] = en := by
      rw [Array.getElem?_eq_getElem hi2] at hen
      exact Option.some.inj hen
    have hlt : it < s.heap.objs.size := Heap.lt_size he
    refine DT.nextI he ⟨o, hgd, hx, hdt⟩ hi2 fun h' ho hT hz hk => ?_
    refine ⟨_, rfl, wpAny_letOwnedTupleGo_items (s := { s with heap := h' }) ho fun h'' he' sb => ?_⟩
    have hT2 : h''.get? s.heap.objs.size = some { cls := .type "tuple", data := .seq #[en.key, en.val] } := by
      rw [een] at hT
      exact (sb.2 _ (Nat.ne_of_gt hlt)).trans hT
    have new : ObjOk X.prog X.w (upd H s.heap.objs.size (.tup [.ref q, v])) h'' s.heap.objs.size (.tup [.ref q, v]) :=
      ⟨by show 2 ≤ sizeLine; decide, [en.key, en.val], .cons hkey (.cons rv .nil), ⟨_, hT2, rfl, _, rfl⟩⟩
    have I1 : Inv X pins σ (upd H s.heap.objs.size (.tup [.ref q, v])) { s with heap := h'' } :=
      I.turnedNew (t' := s.toks) (ch := [it]) (fun b ob hb e => (sb.2 b (by simpa using hb)).trans (hk b ob (by simpa using hb) e)) hf (Nat.le_refl _) new
    refine ⟨.ref s.heap.objs.size, _, I1, rfl, ⟨_, k, v, q, hkv, rfl, I.hok.fresh (Nat.le_refl _), hq, rfl⟩, ⟨_, _, he'⟩, fun b hb => ?_⟩
    have e : b = it := by simpa using hb
    rw [e, upd_ne (Nat.ne_of_lt hlt)]
    exact (hf it (by simp)).1
  done := by
    intro X hP hw hK hc i pins s σ H E I hf st hg
    subst hP hw hK
    obtain ⟨hd, hi⟩ := hg
    obtain ⟨f0, f1, f2, f3, f4, f5⟩ := hf it (by simp)
    obtain ⟨hs, hgd, hx, es', ep', hdt, hsz, ent⟩ := frzT2 I hd
    obtain ⟨rfl, rfl⟩ := dict_ep hod hdt
    obtain ⟨ok, ov, he⟩ := st
    exact DT.endI (I.ok.hd hc) he ⟨o, hgd, hx, hdt⟩ (by omega) fun h' eb => ⟨rfl, I.turned (t' := s.toks) (fun b ob hb e => eb b ob hb e) f0 f1 f3 f4 f5⟩
  self := fun A i s Q E st h => let ⟨_, _, e⟩ := st; PySem.W.kcp_self e h
end
def iItemsT (td : TE) : TI := fun σ H R => td σ H fun x H1 => ∃ d o kvs, x = .ref d ∧ H1 d = some (.frz o (.dT kvs)) ∧ R (ItiT d o kvs) H1
section
variable {X : Cx} {e : Expr} {td : TE} {apos cpos : Pos}
theorem pi_itemsT {elts : List Expr} {kk : Nat} {tpos : Pos} (he : PE X e td) (hbase : attributeBase e "items" X.env (eval e X.env) = eval e X.env := by rfl) (hline : (apos.endLine == cpos.line) = true := by rfl) :
    PI X (.Tuple elts kk tpos) (.Call (.Attribute e "items" apos) [] [] cpos) (iItemsT td) := by
  refine ⟨fun pins s σ H R I h => ?_⟩
  refine wpAny_Call_method (T := "dict") (id := "dict.items") hbase rfl hline F.plainAttrs_dict F.slot_dict_items F.type_dict_items (thn (he.run pins s σ H _ I h) fun u s1 ⟨x, H1, I1, rx, d, o, kvs, ex, hd, q⟩ => ?_)
  subst ex
  obtain rfl : u = Value.ref d := rx
  obtain ⟨hs, hgd, hx, es, ep, hdt, hsz, ent⟩ := frzT2 I1 hd
  have raw : DT.Raw s1.heap d es ep := ⟨o, hgd, hx, hdt⟩
  refine ⟨raw.typeIs, (fun b q => by cases q; exact ⟨o, hgd, hx.2.1⟩), ?_⟩
  have I2 : Inv X pins σ H1 { s1 with heap := s1.heap.push { cls := .type "dict_items", data := .fields #[.ref d] } } := I1.kept (t' := s1.toks) fun b ob q => Heap.get?_push_of_some _ q
  have fin : wpAny (model X.prog X.w) X.A (pyIter (.ref s1.heap.objs.size)) (PIE X pins σ (.Tuple elts kk tpos) R) X.xe { s1 with heap := s1.heap.push { cls := .type "dict_items", data := .fields #[.ref d] } } := by
    refine DT.iterI (d := d) ⟨_, Heap.get?_push_size _ rfl, rfl, rfl⟩ (raw.push _) (pi_one (tk := s1.toks) I2 _ (turn_itemsT _ hdt) ⟨.none, .none, ?_⟩ q)
    exact Heap.get?_push_size _ rfl
  show wpAny _ _ (callWith cpos (.builtin "dict.items") [.ref d] [] []) _ X.xe s1
  exact method_meetsIn F.slot_dict_items F.entry_dict_items rfl (PySem.evalArgs_none ⟨rfl, raw.typeIs, F.args_dict_items_1 _, _, DT.meetsItems (es := es) (ep := ep) hs, raw, fin⟩)
/-! ### sorted of ints, a list or a tuple -/
def rSortedQ (K : PySem.W.Frag) : List V → Hp → VK → Prop := fun vs H Q => ∃ (a : Addr) (ns : List Int), vs = [V.ref a] ∧ SqS K H a (ns.map V.int) ∧ ∀ p, H p = none → Q (.ref p) (upd H p (.lst ((sortI ns).map V.int)))
theorem cr_sortedQ (hcalm : X.calm = true) : CallR X (.builtin "sorted") (rSortedQ X.K) := by
  intro pins s σ H vs us Q I r h
  obtain ⟨a, ns, rfl, hs, q⟩ := h
  rcases hs with hs | hs
  · refine cr_sortedI pins s σ H _ us Q I r ⟨a, ns, rfl, hs, fun ns' p h1 h2 hp => ?_⟩
    rw [sortI_is h1 h2]
    exact q p hp
  · rw [Vals.ref1 r]
    obtain ⟨its, rv, ⟨ob, hob, hcl, n, hdat⟩, hz⟩ := I.tuple hs
    have hi := rv.ints
    have hzl : its.length ≤ sizeLine := by rw [← rv.length]; exact hz
    refine sorted_of_any (OKv := fun vs => vs = its) (PyProof.Rows.args_sorted1 _) (fun E' R hR => wpAny_collect_seq a (.inr rfl) hob hcl hdat (fun h' hk => hR h' s.toks _ hk (by simp)) (by simpa using hzl)) (fun vs hv => by rw [hv]; exact hzl) fun E' h' tk vs hkeep hv => ?_
    subst hv
    have hat : (h'.push (PyProof.Rows.seqObj "list" vs.toArray 0)).get? h'.objs.size = some (PyProof.Rows.seqObj "list" vs.toArray 0) := Heap.get?_push_size _ rfl
    have I1 : Inv X pins σ H { s with heap := h', toks := tk } := I.kept hkeep
    have hn := I1.hok.fresh (Nat.le_refl h'.objs.size)
    refine wpAny_call_entry PyProof.Rows.slot_list_sort ⟨_, hat, rfl⟩ PyProof.Rows.entry_list_sort
      (SrtO.list_sort_ord SrtO.swo_int hat hzl (fun h2 => SrtO.ints_sortable hi h2) fun out h1 h2 => ⟨.none, rfl, ?_⟩) (PyProof.Rows.args_list_sort _)
    obtain ⟨k1, k2, k3⟩ := SrtO.ints_out hi h1 h2
    obtain ⟨ep, he'⟩ := PyProof.Rows.sortedHeap_at (vs := vs) (out := out.toArray) hat
    have hlen : ((out.map SrtO.iv).map V.int).length ≤ sizeLine := by
      rw [List.length_map, k2.length_eq]
      rw [List.length_map] at hz
      exact hz
    have := q h'.objs.size hn
    rw [← sortI_is k2 k3] at this
    refine ⟨.ref _, upd H h'.objs.size (.lst ((out.map SrtO.iv).map V.int)), I1.laid (t' := tk) (fun b o e => ?_) (Nat.le_refl _) ⟨hlen, out, ep, vals_of_ints k1, he'⟩, rfl, this⟩
    have hlt : b < h'.objs.size := Heap.lt_size e
    rw [PyProof.Rows.sortedHeap_old (Nat.ne_of_lt hlt) (by rw [PyProof.Rows.size_push']; exact Nat.lt_succ_of_lt hlt)]
    exact Heap.get?_push_of_some _ e
theorem cr_sortedQ_K {K : PySem.W.Frag} (hcalm : X.calm = true) (h : X.K = K := by rfl) : CallR X (.builtin "sorted") (rSortedQ K) := by subst h; exact cr_sortedQ hcalm
end
end Eg

set_option Elab.async false
set_option autoImplicit false
set_option linter.all false
set_option maxRecDepth 100000
set_option maxHeartbeats 2000000
namespace Eg
open PySem PySem.Spec PyProof.Rows L2 Evl
/-! # the heap without what stands at one address -/
def Of (H : Hp) (d : Addr) : Hp := fun a => if a = d then none else H a
theorem of_ne {H : Hp} {d a : Addr} (h : a ≠ d) : Of H d a = H a := if_neg h
theorem of_self {H : Hp} {d : Addr} : Of H d d = none := if_pos rfl
theorem of_some {H : Hp} {d a : Addr} {o : HO} (h : Of H d a = some o) : a ≠ d ∧ H a = some o := by
  by_cases e : a = d
  · rw [e, of_self] at h
    cases h
  · rw [of_ne e] at h
    exact ⟨e, h⟩
theorem of_sub (H : Hp) (d : Addr) : Ex (Of H d) H := fun a o h => (of_some h).2
theorem of_ex {H H' : Hp} {d : Addr} (e : Ex H H') : Ex (Of H d) (Of H' d) := fun a o h => by
  obtain ⟨n, h⟩ := of_some h
  rw [of_ne n]
  exact e a o h
theorem of_upd {H : Hp} {d : Addr} {o : HO} : Of (upd H d o) d = Of H d := by
  funext a
  by_cases e : a = d
  · rw [e, of_self, of_self]
  · rw [of_ne e, of_ne e, upd_ne e]
theorem of_upd2 {H : Hp} {l d : Addr} {o : HO} : Of (Of (upd H d o) l) d = Of (Of H l) d := by
  funext a
  by_cases e : a = d
  · rw [e, of_self, of_self]
  · rw [of_ne e, of_ne e]
    by_cases e2 : a = l
    · rw [e2, of_self, of_self]
    · rw [of_ne e2, of_ne e2, upd_ne e]
theorem of_upd1 {H : Hp} {l d : Addr} {o : HO} : Of (Of (upd H l o) l) d = Of (Of H l) d := by rw [of_upd]
/-- what H does not know is no part of it -/
theorem of_fresh {H H' : Hp} {d : Addr} (e : Ex H H') (h : H d = none) : Ex H (Of H' d) := fun a o ha => by
  rw [of_ne (fun z => by rw [z, h] at ha; cases ha)]
  exact e a o ha
theorem tup_of {H : Hp} {t l : Addr} {xs ys : List V} (h : H t = some (.tup xs)) (hl : H l = some (.lst ys)) : Of H l t = some (.tup xs) := by
  rw [of_ne (fun z => by rw [z, hl] at h; cases h)]
  exact h
theorem tup_ofT {H : Hp} {t d : Addr} {xs : List V} {kvs : List (List L2.Key × V)} (h : H t = some (.tup xs)) (hd : H d = some (.dT kvs)) : Of H d t = some (.tup xs) := by
  rw [of_ne (fun z => by rw [z, hd] at h; cases h)]
  exact h
theorem RowsT.of {H : Hp} {l : Addr} {ls : List V} (hl : H l = some (.lst ls)) : ∀ {rs : List V} {ps : List (List Int)}, RowsT H rs ps → RowsT (Of H l) rs ps
  | _, _, .nil => .nil
  | _, _, .cons ⟨t, h1, h2⟩ r => .cons ⟨t, h1, tup_of h2 hl⟩ (RowsT.of hl r)
theorem RowsT.ofT {H : Hp} {d : Addr} {kvs : List (List L2.Key × V)} (hd : H d = some (.dT kvs)) : ∀ {rs : List V} {ps : List (List Int)}, RowsT H rs ps → RowsT (Of H d) rs ps
  | _, _, .nil => .nil
  | _, _, .cons ⟨t, h1, h2⟩ r => .cons ⟨t, h1, tup_ofT h2 hd⟩ (RowsT.ofT hd r)
/-! ### steps: an evening, the row behind it -/
def StAt (s : Stp) (x : V) (H : Hp) : Prop := ∃ t te tb, x = .ref t ∧ H t = some (.tup [.ref te, .ref tb]) ∧ H te = some (.tup [.int (s.1.1 : Nat), .int (s.1.2 : Nat)]) ∧ H tb = some (.tup (s.2.map V.int))
theorem StAt.mono {s : Stp} {x : V} {H H' : Hp} (e : Ex H H') (h : StAt s x H) : StAt s x H' := by
  obtain ⟨t, te, tb, h1, h2, h3, h4⟩ := h
  exact ⟨t, te, tb, h1, e _ _ h2, e _ _ h3, e _ _ h4⟩
theorem StAt.of {s : Stp} {x : V} {H : Hp} {l : Addr} {ls : List V} (hl : H l = some (.lst ls)) (h : StAt s x H) : StAt s x (Of H l) := by
  obtain ⟨t, te, tb, h1, h2, h3, h4⟩ := h
  exact ⟨t, te, tb, h1, tup_of h2 hl, tup_of h3 hl, tup_of h4 hl⟩
theorem StAt.ofT {s : Stp} {x : V} {H : Hp} {d : Addr} {kvs : List (List L2.Key × V)} (hd : H d = some (.dT kvs)) (h : StAt s x H) : StAt s x (Of H d) := by
  obtain ⟨t, te, tb, h1, h2, h3, h4⟩ := h
  exact ⟨t, te, tb, h1, tup_ofT h2 hd, tup_ofT h3 hd, tup_ofT h4 hd⟩
theorem paired_imp {α β : Type} {R S : α → β → Prop} (h : ∀ a b, R a b → S a b) : ∀ {xs : List α} {ys : List β}, Paired R xs ys → Paired S xs ys
  | _, _, .nil => .nil
  | _, _, .cons a b => .cons (h _ _ a) (paired_imp h b)
theorem paired_app {α β : Type} {R : α → β → Prop} : ∀ {xs xs' : List α} {ys ys' : List β}, Paired R xs ys → Paired R xs' ys' → Paired R (xs ++ xs') (ys ++ ys')
  | _, _, _, _, .nil, h => h
  | _, _, _, _, .cons a b, h => .cons a (paired_app b h)
theorem paired_at {α β : Type} {R : α → β → Prop} : ∀ {xs : List α} {ys : List β}, Paired R xs ys → ∀ {i : Nat} {x : α}, xs[i]? = some x → ∃ y, ys[i]? = some y ∧ R x y
  | _, _, .nil, i, x, h => by simp at h
  | _, _, .cons a b, 0, x, h => by
    simp at h
    subst h
    exact ⟨_, rfl, a⟩
  | _, _, .cons a b, i + 1, x, h => by
    simp at h
    obtain ⟨y, e, r⟩ := paired_at b h
    exact ⟨y, by simpa using e, r⟩
theorem paired_map {α β γ : Type} {R : α → β → Prop} {S : α → γ → Prop} (f : β → γ) (h : ∀ a b, R a b → S a (f b)) : ∀ {xs : List α} {ys : List β}, Paired R xs ys → Paired S xs (ys.map f)
  | _, _, .nil => .nil
  | _, _, .cons a b => .cons (h _ _ a) (paired_map f h b)
def StL (ss : List Stp) (p : Addr) (H : Hp) : Prop := ∃ xs, H p = some (.lst xs) ∧ Paired (fun x s => StAt s x H) xs ss
theorem StL.mono {ss : List Stp} {p : Addr} {H H' : Hp} (e : Ex H H') (h : StL ss p H) : StL ss p H' := by
  obtain ⟨xs, h1, h2⟩ := h
  exact ⟨xs, e _ _ h1, paired_imp (fun x s h => h.mono e) h2⟩
theorem StL.of {ss : List Stp} {p l : Addr} {H : Hp} {ls : List V} (hl : H l = some (.lst ls)) (hp : p ≠ l) (h : StL ss p H) : StL ss p (Of H l) := by
  obtain ⟨xs, h1, h2⟩ := h
  exact ⟨xs, by rw [of_ne hp]; exact h1, paired_imp (fun x s h => h.of hl) h2⟩
theorem StL.ofT {ss : List Stp} {p d : Addr} {H : Hp} {kvs : List (List L2.Key × V)} (hd : H d = some (.dT kvs)) (h : StL ss p H) : StL ss p (Of H d) := by
  obtain ⟨xs, h1, h2⟩ := h
  exact ⟨xs, by rw [of_ne (fun z => by rw [z, hd] at h1; cases h1)]; exact h1, paired_imp (fun x s h => h.ofT hd) h2⟩
def RetS (ss : List Stp) (H : Hp) (Q : VK) : Prop := ∀ p H2, H p = none → Ex H H2 → StL ss p H2 → Q (.ref p) H2
/-! ### a dict whose keys are rows -/
/-- entries: the rows and what R tells of their values -/
def KvH {α : Type} (key : α → List Int) (R : α → V → Hp → Prop) (H : Hp) : List (List L2.Key × V) → List α → Prop := Paired fun kv a => kv.1 = rowK (key a) ∧ R a kv.2 H
section
variable {α : Type} {key : α → List Int} {R : α → V → Hp → Prop}
theorem KvH.up {H H' : Hp} (hR : ∀ a v, R a v H → R a v H') {kvs : List (List L2.Key × V)} {as : List α} (h : KvH key R H kvs as) : KvH key R H' kvs as := paired_imp (fun kv a h => ⟨h.1, hR _ _ h.2⟩) h
theorem KvH.keys {H : Hp} : ∀ {kvs : List (List L2.Key × V)} {as : List α}, KvH key R H kvs as → kvs.map (·.1) = as.map fun a => rowK (key a)
  | _, _, .nil => rfl
  | _, _, .cons h r => by
    rw [List.map_cons, List.map_cons, h.1, KvH.keys r]
theorem KvH.length {H : Hp} {kvs : List (List L2.Key × V)} {as : List α} (h : KvH key R H kvs as) : kvs.length = as.length := Paired.length h
theorem KvH.none {H : Hp} {r : List Int} : ∀ {kvs : List (List L2.Key × V)} {as : List α}, KvH key R H kvs as → r ∉ as.map key → valV kvs (rowK r) = none
  | _, _, .nil, _ => valV_nil
  | _, _, .cons h t, hn => by
    rw [List.map_cons, List.mem_cons, not_or] at hn
    rw [valV_neg (fun z => hn.1 (rowK_inj (h.1.symm.trans z)).symm)]
    exact KvH.none t hn.2
theorem KvH.val {H : Hp} {r : List Int} : ∀ {kvs : List (List L2.Key × V)} {as : List α}, KvH key R H kvs as → r ∈ as.map key → ∃ a ∈ as, key a = r ∧ ∃ v, valV kvs (rowK r) = some v ∧ R a v H
  | _, _, .nil, hm => by simp at hm
  | _, _, .cons (a := kv) (b := a) h t, hm => by
    by_cases e : key a = r
    · exact ⟨a, List.mem_cons_self, e, kv.2, by rw [valV_pos (h.1.trans (by rw [e]))], h.2⟩
    · rw [valV_neg (fun z => e (rowK_inj (h.1.symm.trans z)))]
      rw [List.map_cons, List.mem_cons] at hm
      obtain ⟨b, hb, e2, v, h1, h2⟩ := KvH.val t (hm.resolve_left (fun z => e z.symm))
      exact ⟨b, List.mem_cons_of_mem _ hb, e2, v, h1, h2⟩
theorem KvH.snoc {H : Hp} {kvs : List (List L2.Key × V)} {as : List α} {a : α} {v : V} (h : KvH key R H kvs as) (hn : key a ∉ as.map key) (hv : R a v H) : KvH key R H (putK kvs (rowK (key a)) v) (as ++ [a]) := by
  rw [putK_new v (h.none hn)]
  exact paired_app h (.cons ⟨rfl, hv⟩ .nil)
theorem KvH.isSome {H : Hp} {kvs : List (List L2.Key × V)} {as : List α} {r : List Int} (h : KvH key R H kvs as) : (valV kvs (rowK r)).isSome = decide (r ∈ as.map key) := by
  by_cases hm : r ∈ as.map key
  · obtain ⟨a, _, _, v, h1, _⟩ := h.val hm
    rw [h1, decide_eq_true hm]
    rfl
  · rw [h.none hm, decide_eq_false hm]
    rfl
end
section
variable {K : PySem.W.Frag} {σ : L2.St} {H H' : Hp} {ta tb td tk tv te tl : TE} {D : Ends} {tz tu : TS}
theorem dget_rd {d t : Addr} {kvs : List (List L2.Key × V)} {r : List Int} (h : Rd H d (.dT kvs)) (ht : H t = some (.tup (r.map V.int))) : DGet H d (.ref t) (valV kvs (rowK r)) := .inr ⟨kvs, rowK r, t, h, rfl, by rw [rowK_V]; exact ht, rfl⟩
theorem ev_dgetT {d t : Addr} {kvs : List (List L2.Key × V)} {r : List Int} {v : V} (hd : Ev td σ H (.ref d)) (hk : Ev tk σ H (.ref t)) (h : Rd H d (.dT kvs)) (ht : H t = some (.tup (r.map V.int))) (hv : valV kvs (rowK r) = some v) : Ev (tDGet td tk) σ H v := fun H1 e Q q =>
  hd H1 e _ fun H2 e2 => hk H2 (e.trans e2) _ fun H3 e3 => by
    have e03 := e.trans (e2.trans e3)
    have g := dget_rd (ex_rd e03 h) (e03 _ _ ht)
    rw [hv] at g
    exact ⟨d, v, rfl, g, q H3 (e2.trans e3)⟩
theorem ev_dinT {d t : Addr} {kvs : List (List L2.Key × V)} {r : List Int} (hk : Ev tk σ H (.ref t)) (hd : Ev td σ H (.ref d)) (h : Rd H d (.dT kvs)) (ht : H t = some (.tup (r.map V.int))) : Ev (tDIn tk td) σ H (.bl (valV kvs (rowK r)).isSome) := fun H1 e Q q =>
  hk H1 e _ fun H2 e2 => hd H2 (e.trans e2) _ fun H3 e3 => by
    have e03 := e.trans (e2.trans e3)
    exact ⟨d, _, rfl, dget_rd (ex_rd e03 h) (e03 _ _ ht), q H3 (e2.trans e3)⟩
theorem ev_dnotT {d t : Addr} {kvs : List (List L2.Key × V)} {r : List Int} (hk : Ev tk σ H (.ref t)) (hd : Ev td σ H (.ref d)) (h : Rd H d (.dT kvs)) (ht : H t = some (.tup (r.map V.int))) : Ev (tDNotIn tk td) σ H (.bl (!(valV kvs (rowK r)).isSome)) := fun H1 e Q q =>
  hk H1 e _ fun H2 e2 => hd H2 (e.trans e2) _ fun H3 e3 => by
    have e03 := e.trans (e2.trans e3)
    exact ⟨d, _, rfl, dget_rd (ex_rd e03 h) (e03 _ _ ht), q H3 (e2.trans e3)⟩
/-- d[t] = a new object -/
theorem s_putT {d t : Addr} {kvs : List (List L2.Key × V)} {r : List Int} {R : Addr → Hp → Prop} (hv : TrN tv σ H R) (hd : Ev td σ H (.ref d)) (hk : Ev tk σ H (.ref t)) (h : H d = some (.dT kvs)) (ht : H t = some (.tup (r.map V.int))) (hz : kvs.length < sizeLine)
    (k : ∀ p H1, H p = none → Ex H H1 → R p H1 → D.nx σ (upd H1 d (.dT (putK kvs (rowK r) (.ref p))))) (hR : ∀ p H1 H2, Ex H1 H2 → R p H1 → R p H2) : sDPut td tk tv D σ H :=
  hv H (Ex.refl H) _ fun p H1 hp e1 r1 => hd H1 e1 _ fun H2 e2 => hk H2 (e1.trans e2) _ fun H3 e3 => by
    have e03 := e1.trans (e2.trans e3)
    exact ⟨d, _, rfl, DPut.t (k := rowK r) (e03 _ _ h) (by rw [rowK_V]; exact e03 _ _ ht) hz, k p H3 hp e03 (hR _ _ _ (e2.trans e3) r1)⟩
theorem q_putT {d t : Addr} {kvs : List (List L2.Key × V)} {r : List Int} {R : Addr → Hp → Prop} (hv : TrN tv σ H R) (hd : Ev td σ H (.ref d)) (hk : Ev tk σ H (.ref t)) (h : H d = some (.dT kvs)) (ht : H t = some (.tup (r.map V.int))) (hz : kvs.length < sizeLine)
    (k : ∀ p H1, H p = none → Ex H H1 → R p H1 → tz D σ (upd H1 d (.dT (putK kvs (rowK r) (.ref p))))) (hR : ∀ p H1 H2, Ex H1 H2 → R p H1 → R p H2) : tSeq (sDPut td tk tv) tz D σ H := s_putT (D := { D with nx := tz D }) hv hd hk h ht hz k hR
/-- a comprehension over a list: what it gives is told by R of the items -/
def SrcL {α : Type} (K : PySem.W.Frag) (S : α → V → Hp → Prop) (as : List α) (v : V) (H : Hp) : Prop := ∃ p xs, v = .ref p ∧ SqL K H p xs ∧ Paired (fun x a => S a x H) xs as
theorem lcX {α : Type} {as : List α} (f : α → Bool) {S R : α → V → Hp → Prop} (hS : ∀ a v H H', Ex H H' → S a v H → S a v H') (hR : ∀ a v H H', Ex H H' → R a v H → R a v H') {g : TG} {tt : TT} {vs : List Nat} (h : TrW tl σ H (SrcL K S as)) (hz : as.length < sizeLine)
    (he : ∀ (a : α) (x : V) (H1 : Hp) (Dl : Addr) (acc : List V), a ∈ as → Ex H H1 → H1 Dl = some (.lst acc) → S a x H1 → ∀ (Qe : VK) (Qf : Hp → Prop), (f a = true → ∀ y H2, Ex H1 H2 → R a y (Of H2 Dl) → Qe y H2) → (f a = false → ∀ H2, Ex H1 H2 → Qf H2) →
      g x (wipe σ vs) H1 fun σ2 H2 => wipe σ2 vs = wipe σ vs ∧ tt σ2 H2 fun b H3 => if b = true then te σ2 H3 Qe else Qf H3) :
    TrN (tLc (iList K tl) g tt te vs) σ H (fun Dl H' => ∃ ys, H' Dl = some (.lst ys) ∧ Paired (fun y a => R a y (Of H' Dl)) ys (as.filter f)) := fun H0 e Q q => h H0 e _ fun v H1 e1 hs => by
  obtain ⟨p, xs, rfl, hx, hp⟩ := hs
  have hl : xs.length = as.length := Paired.length hp
  refine ⟨p, rfl, ⟨xs, hx⟩, fun Dl hD => lc_list (xs := xs) (fun n H' => Ex H1 H' ∧ ∃ ys, H' Dl = some (.lst ys) ∧ Paired (fun y a => R a y (Of H' Dl)) ys ((as.take n).filter f)) ⟨Ex.new hD, [], upd_same, by rw [List.take_zero]; exact .nil⟩ (fun n H' _ p => ex_l p.1 hx) (fun n x H' hxn hP => ?_) (fun H' hP => ?_)⟩
  · obtain ⟨eH, ys, hl', hr⟩ := hP
    obtain ⟨a, ha, hs⟩ := paired_at hp hxn
    have hn : n < as.length := (List.getElem?_eq_some_iff.mp ha).1
    have hys : ys.length ≤ n := by
      rw [Paired.length hr]
      refine Nat.le_trans (List.length_filter_le _ _) ?_
      rw [List.length_take]
      omega
    refine he a x H' Dl ys (List.mem_of_getElem? ha) (e.trans (e1.trans eH)) hl' (hS _ _ _ _ eH hs) _ _ (fun hf y H2 e2 hy => ?_) (fun hf H2 e2 => ?_)
    · refine ⟨ys, e2 _ _ hl', by omega, Ex.mut (eH.trans e2) hD, ys ++ [y], upd_same, ?_⟩
      rw [List.take_add_one, ha, List.filter_append, of_upd]
      refine paired_app (paired_imp (fun y a h => hR _ _ _ _ (of_ex e2) h) hr) ?_
      show Paired _ [y] ([a].filter f)
      rw [List.filter_cons, if_pos hf]
      exact .cons hy .nil
    · refine ⟨eH.trans e2, ys, e2 _ _ hl', ?_⟩
      rw [List.take_add_one, ha, List.filter_append]
      show Paired _ ys (_ ++ [a].filter f)
      rw [List.filter_cons, if_neg (by rw [hf]; decide)]
      show Paired _ ys (_ ++ [])
      rw [List.append_nil]
      exact paired_imp (fun y a h => hR _ _ _ _ (of_ex e2) h) hr
  · obtain ⟨eH, ys, h1, h2⟩ := hP
    rw [hl, List.take_length] at h2
    exact q Dl H' (fresh_back e1 hD) (e1.trans eH) ⟨ys, h1, h2⟩
theorem filter_true {α : Type} (as : List α) : as.filter (fun _ => true) = as := List.filter_eq_self.mpr fun _ _ => rfl
/-- the walk over a list, its target two names: x is a tuple of two -/
theorem g_two {i j : Nat} {p : Addr} {v w : V} {k : L2.St → Hp → Prop} (ht : H p = some (.tup [v, w])) (hk : k ((σ.set i (some v)).set j (some w)) H) : gTup K 2 (gCons (gName i) (gCons (gName j) gNil)) (.ref p) σ H k :=
  ⟨p, [v, w], rfl, SqT.of ht, rfl, v, [w], rfl, w, [], rfl, rfl, hk⟩
end
end Eg

set_option Elab.async false
set_option autoImplicit false
set_option linter.all false
set_option maxRecDepth 100000
set_option maxHeartbeats 2000000
namespace Eg
open PySem PySem.Spec PyProof.Rows L2 Evl
/-! # promises of the search; readings for it -/
def sp_stp (K : PySem.W.Frag) (F : StF) : Sp := fun vs H Q _ => ∃ (a : Addr) (ns : List Int), vs = [.ref a] ∧ H a = some (.tup (ns.map V.int)) ∧ Sm ns ∧ RetS (F ns) H Q
abbrev FndR (F : StF) : List Int → V → Hp → Prop := fun r v H => ∃ q, v = .ref q ∧ StL (F r) q H
def FndH (F : StF) (H : Hp) (kvs : List (List L2.Key × V)) (ks : List (List Int)) : Prop := KvH id (FndR F) H kvs ks
theorem FndH.mono {F : StF} {H H' : Hp} (e : Ex H H') {kvs : List (List L2.Key × V)} {ks : List (List Int)} (h : FndH F H kvs ks) : FndH F H' kvs ks := KvH.up (fun a v ⟨q, h1, h2⟩ => ⟨q, h1, h2.mono e⟩) h
theorem FndH.keys {F : StF} {H : Hp} {kvs : List (List L2.Key × V)} {ks : List (List Int)} (h : FndH F H kvs ks) : kvs.map (·.1) = ks.map rowK := KvH.keys h
theorem FndH.val {F : StF} {H : Hp} {kvs : List (List L2.Key × V)} {ks : List (List Int)} {r : List Int} (h : FndH F H kvs ks) (hr : r ∈ ks) : ∃ q, valV kvs (rowK r) = some (.ref q) ∧ StL (F r) q H := by
  obtain ⟨a, ha, e, v, h1, q, rfl, h3⟩ := KvH.val h (r := r) (by rw [List.map_id]; exact hr)
  have e : a = r := e
  subst e
  exact ⟨q, h1, h3⟩
theorem FndH.some {F : StF} {H : Hp} {kvs : List (List L2.Key × V)} {ks : List (List Int)} {r : List Int} (h : FndH F H kvs ks) : (valV kvs (rowK r)).isSome = decide (r ∈ ks) := by
  rw [KvH.isSome h, List.map_id]
theorem FndH.snoc {F : StF} {H : Hp} {kvs : List (List L2.Key × V)} {ks : List (List Int)} {r : List Int} {q : Addr} (h : FndH F H kvs ks) (hn : r ∉ ks) (hv : StL (F r) q H) : FndH F H (putK kvs (rowK r) (.ref q)) (ks ++ [r]) :=
  KvH.snoc (key := id) h (by rw [List.map_id]; exact hn) ⟨q, rfl, hv⟩
def RowS (K : PySem.W.Frag) (H : Hp) (a : Addr) (ns : List Int) : Prop := SqL K H a (ns.map V.int) ∨ H a = some (.tup (ns.map V.int))
theorem RowS.mono {K : PySem.W.Frag} {H H' : Hp} {a : Addr} {ns : List Int} (e : Ex H H') (h : RowS K H a ns) : RowS K H' a ns := h.elim (fun h => .inl (ex_l e h)) fun h => .inr (e _ _ h)
def sp_reach (K : PySem.W.Frag) (F : StF) (fS : Addr) : Sp := fun vs H Q _ => ∃ (a : Addr) (ns : List Int), vs = [.ref a, .ref fS] ∧ RowS K H a ns ∧ Sm ns ∧
  ∀ d H2 kvs ks, H d = none → Ex H H2 → H2 d = some (.dT kvs) → FndH F (Of H2 d) kvs ks → FinB F ns ks → ks.length ≤ 194481 → (∀ r ∈ ks, Sm r) → Q (.ref d) H2
theorem RowsT.upd {H : Hp} {p : Addr} {o : HO} (hp : ∀ xs, H p ≠ some (.tup xs)) : ∀ {rs : List V} {ps : List (List Int)}, RowsT H rs ps → RowsT (L2.upd H p o) rs ps
  | _, _, .nil => .nil
  | _, _, .cons ⟨t, h1, h2⟩ r => .cons ⟨t, h1, by
      rw [upd_ne (fun z => hp _ (z ▸ h2))]
      exact h2⟩ (RowsT.upd hp r)
section
variable {X : Cx} {K : PySem.W.Frag} {σ : L2.St} {H H' : Hp} {ta tb td tk tv te tl : TE} {t : TT} {D : Ends} {tz tu : TS}
theorem pg_tup_K {pos : Pos} {es : List Expr} {k : Nat} {tt : TGs} {n : Nat} (hc : X.calm = true) (h : PGs X es tt) (hK : X.K = K := by rfl)
    (hn : (assignEach es X.env).length = n := by rfl) (hst : (assignEach es X.env).findIdx? (·.1) = none := by rfl) : PG X (.Tuple es k pos) (gTup K n tt) := by subst hK; exact pg_tup hc h hn hst
theorem tn_dnew : TrN tDNewT σ H fun p H' => H' p = some (.dT []) := fun H1 e Q q p hp => q p _ hp (Ex.new hp) upd_same
/-- while xs: -/
theorem et_truL {p : Addr} {xs : List V} (ha : Ev ta σ H (.ref p)) (h : H p = some (.lst xs)) : EvT (fun σ H Q => ta σ H fun x H' => ∃ k, TruV K x H' k ∧ Q k H') σ H (!xs.isEmpty) := fun H1 e Q q =>
  ha H1 e _ fun H2 e2 => ⟨_, Or.inl ⟨xs, SqL.of (e2 _ _ (e _ _ h)), rfl⟩, q H2 e2⟩
/-- [a value] -/
theorem tn_lst1W {R : V → Hp → Prop} (hR : ∀ v H H', Ex H H' → R v H → R v H') (ha : TrW ta σ H R) : TrN (tLst (tCons ta tNil)) σ H fun p H' => ∃ v, H' p = some (.lst [v]) ∧ R v H' := fun H1 e Q q =>
  ha H1 e _ fun v H2 e2 hv => ⟨sz_of (by decide : 1 ≤ 100000), fun p hp => q p _ (fresh_back e2 hp) (e2.trans (Ex.new hp)) ⟨v, upd_same, hR _ _ _ (Ex.new hp) hv⟩⟩
def RowV (ns : List Int) (v : V) (H : Hp) : Prop := ∃ t, v = .ref t ∧ H t = some (.tup (ns.map V.int))
theorem RowV.mono {ns : List Int} {v : V} {H H' : Hp} (e : Ex H H') (h : RowV ns v H) : RowV ns v H' := by
  obtain ⟨t, h1, h2⟩ := h
  exact ⟨t, h1, e _ _ h2⟩
/-- tuple(row), the row a list or a tuple that stands in H -/
theorem tw_tupleL {p : Addr} {ns : List Int} (ha : Ev ta σ H (.ref p)) (h : SqL K H p (ns.map V.int)) : TrW (tCB (fun xs H Q => ∃ p ys, xs = [.ref p] ∧ ((SqL K H p ys ∧ ∀ l, H l = none → Q (.ref l) (upd H l (.tup ys))) ∨ (SqT K H p ys ∧ Q (.ref p) H))) (tCons ta tNil)) σ H (RowV ns) := fun H1 e Q q =>
  ha H1 e _ fun H2 e2 => ⟨p, ns.map V.int, rfl, .inl ⟨ex_l (e.trans e2) h, fun l hl => q _ _ (e2.trans (Ex.new hl)) ⟨l, rfl, upd_same⟩⟩⟩
theorem tw_tupleT {p : Addr} {ns : List Int} (ha : Ev ta σ H (.ref p)) (h : H p = some (.tup (ns.map V.int))) : TrW (tCB (fun xs H Q => ∃ p ys, xs = [.ref p] ∧ ((SqL K H p ys ∧ ∀ l, H l = none → Q (.ref l) (upd H l (.tup ys))) ∨ (SqT K H p ys ∧ Q (.ref p) H))) (tCons ta tNil)) σ H (RowV ns) := fun H1 e Q q =>
  ha H1 e _ fun H2 e2 => ⟨p, ns.map V.int, rfl, .inr ⟨SqT.of ((e.trans e2) _ _ h), q _ _ e2 ⟨p, rfl, (e.trans e2) _ _ h⟩⟩⟩
/-- tuple(a new list) -/
theorem tw_tupleN {ns : List Int} (ha : EvL ta σ H (ns.map V.int)) : TrW (tCB (fun xs H Q => ∃ p ys, xs = [.ref p] ∧ ((SqL K H p ys ∧ ∀ l, H l = none → Q (.ref l) (upd H l (.tup ys))) ∨ (SqT K H p ys ∧ Q (.ref p) H))) (tCons ta tNil)) σ H (RowV ns) := fun H1 e Q q =>
  ha H1 e _ fun p H2 hp e2 h2 => ⟨p, ns.map V.int, rfl, .inl ⟨SqL.of h2, fun l hl => q _ _ (e2.trans (Ex.new hl)) ⟨l, rfl, upd_same⟩⟩⟩
/-- sorted(row) -/
theorem el_sortedQ {p : Addr} {ns : List Int} (ha : Ev ta σ H (.ref p)) (h : SqS K H p (ns.map V.int)) : EvL (tCB (rSortedQ K) (tCons ta tNil)) σ H ((sortI ns).map V.int) := fun H1 e Q q =>
  ha H1 e _ fun H2 e2 => ⟨p, ns, rfl, ex_s (e.trans e2) h, fun l hl => q l _ (fresh_back e2 hl) (e2.trans (Ex.new hl)) upd_same⟩
/-- (evening, the row behind) -/
theorem tw_pair {R : V → Hp → Prop} {te0 : Addr} (ha : Ev ta σ H (.ref te0)) (hb : TrW tb σ H R) (hR : ∀ v H H', Ex H H' → R v H → R v H') : TrW (tTup (tCons ta (tCons tb tNil))) σ H fun x H' => ∃ t v, x = .ref t ∧ H' t = some (.tup [.ref te0, v]) ∧ R v H' := fun H1 e Q q =>
  ha H1 e _ fun H2 e2 => hb H2 (e.trans e2) _ fun v H3 e3 hv => ⟨sz_of (by decide : 2 ≤ 100000), fun p hp => q _ _ (e2.trans (e3.trans (Ex.new hp))) ⟨p, v, rfl, upd_same, hR _ _ _ (Ex.new hp) hv⟩⟩
/-- xs.extend(a new list) -/
theorem s_extend {l : Addr} {xs : List V} {R : Addr → Hp → Prop} (ha : Ev ta σ H (.ref l)) (hl : H l = some (.lst xs)) (hb : TrN tb σ H R) (k : ∀ p H1, H p = none → Ex H H1 → R p H1 → ∃ ys, H1 p = some (.lst ys) ∧ xs.length + ys.length ≤ sizeLine ∧ D.nx σ (upd H1 l (.lst (xs ++ ys)))) :
    tDrop (tBM K "list" rExtend ta (tCons tb tNil)) D σ H := ha H (Ex.refl H) _ fun H1 e1 =>
  ⟨Or.inl ⟨rfl, xs, sq_of (e1 l _ hl)⟩, hb H1 e1 _ fun p H2 hp e2 r => by
    obtain ⟨ys, h1, h2, h3⟩ := k p H2 (fresh_back e1 hp) (e1.trans e2) r
    exact ⟨l, p, xs, ys, rfl, rfl, e2 l _ (e1 l _ hl), h1, h2, h3⟩⟩
theorem tw_of_ev {v : V} {R : V → Hp → Prop} (h : Ev te σ H v) (k : ∀ H', Ex H H' → R v H') : TrW te σ H R := tw_ev h k
theorem tn_w {R : V → Hp → Prop} {R' : Addr → Hp → Prop} (h : TrN te σ H R') (k : ∀ p H', R' p H' → R (.ref p) H') : TrW te σ H R := tw_n h k
/-- f(v) through a name that holds f -/
theorem tn_callV {i : Nat} {f : Addr} {sp : Sp} {E : XK} {ta : TA} {vs : List V} {R : Addr → Hp → Prop} (hf : σ[i]? = some (some (.ref f))) (h : EvA ta σ H vs) (hs : SpN sp vs H R) : TrN (ItX.tCallV i f sp E ta) σ H R := fun H1 e Q q =>
  ⟨hf, h H1 e _ fun H2 e2 => hs H2 (e.trans e2) Q (fun p H3 hp e3 r => q p H3 (fresh_back e2 hp) (e2.trans e3) r) E⟩
end
/-- the new rows of steps: [behind for _, behind in ..] -/
theorem rows_of_behinds {F : StF} {r : List Int} {H : Hp} {ys : List V} (h : Paired (fun y (s : Stp) => ∃ tb, y = .ref tb ∧ H tb = some (.tup (s.2.map V.int))) ys (F r)) : RowsT H ys (sucs F r) := paired_map (fun s : Stp => s.2) (fun y s h => h) h
/-! ### one more evening than behind: the fewest, the most -/
def TwoH (H : Hp) : List V → List (Nat × Nat) → Prop := Paired fun x z => ∃ t, x = .ref t ∧ H t = some (.tup [.int (z.1 : Nat), .int (z.2 : Nat)])
def OneMore (ab : List (Nat × Nat)) (lo hi : Nat) : Prop := (ab = [] ∧ lo = 0 ∧ hi = 0) ∨ (∃ m M, m ∈ ab.map (·.1) ∧ (∀ x ∈ ab.map (·.1), m ≤ x) ∧ M ∈ ab.map (·.2) ∧ (∀ x ∈ ab.map (·.2), x ≤ M) ∧ lo = 1 + m ∧ hi = 1 + M)
def IsTwo (ab : List (Nat × Nat)) (p : Addr) (H : Hp) : Prop := ∃ lo hi, OneMore ab lo hi ∧ H p = some (.tup [.int (lo : Nat), .int (hi : Nat)])
theorem OneMore.fm {F : StF} {r : List Int} {ab : List (Nat × Nat)} {lo hi : Nat} (h : OneMore ab lo hi) (hp : Paired (fun u (z : Nat × Nat) => FMr F u z.1 z.2) (sucs F r) ab) : FMr F r lo hi := by
  rcases h with ⟨rfl, rfl, rfl⟩ | ⟨m, M, h1, h2, h3, h4, rfl, rfl⟩
  · have := Paired.length hp
    exact FMr.settled (List.map_eq_nil_iff.mp (List.length_eq_zero_iff.mp this))
  · refine FMr.step hp (fun z => ?_) h1 h2 h3 h4
    have := Paired.length hp
    unfold sucs at this
    rw [z] at this
    have e : ab = [] := List.length_eq_zero_iff.mp this.symm
    rw [e] at h1
    simp at h1
theorem two_of {F : StF} {H : Hp} : ∀ {ys : List V} {ss : List Stp}, Paired (fun y (s : Stp) => ∃ t z, y = .ref t ∧ H t = some (.tup [.int ((z : Nat × Nat).1 : Nat), .int (z.2 : Nat)]) ∧ FMr F s.2 z.1 z.2) ys ss → ∃ ab, TwoH H ys ab ∧ Paired (fun u (z : Nat × Nat) => FMr F u z.1 z.2) (ss.map (·.2)) ab
  | _, _, .nil => ⟨[], .nil, .nil⟩
  | _, _, .cons ⟨t, z, h1, h2, h3⟩ r => by
    obtain ⟨ab, g1, g2⟩ := two_of r
    exact ⟨z :: ab, .cons ⟨t, h1, h2⟩ g1, .cons h3 g2⟩
theorem ints_of {f : Nat × Nat → Nat} : ∀ {ys : List V} {ab : List (Nat × Nat)}, Paired (fun y z => y = .int (f z : Nat)) ys ab → ys = (ab.map fun z => ((f z : Nat) : Int)).map V.int
  | _, _, .nil => rfl
  | _, _, .cons h r => by rw [h, ints_of r]; rfl
section
variable {K : PySem.W.Frag} {σ : L2.St} {H : Hp} {ta tb te tf : TE}
theorem tv_minN {ns : List Int} (ha : TrN ta σ H fun p H' => H' p = some (.lst (ns.map V.int))) (hn : 0 < ns.length) : TrV (tCB (rMin K) (tCons ta tNil)) σ H fun v => ∃ m, v = .int m ∧ m ∈ ns ∧ ∀ y ∈ ns, m ≤ y := fun H1 e Q q =>
  ha H1 e _ fun p H2 _ e2 h => ⟨p, ns, rfl, SqL.of h, hn, fun m h1 h2 => q _ H2 e2 ⟨m, rfl, h1, h2⟩⟩
theorem tv_maxN {ns : List Int} (ha : TrN ta σ H fun p H' => H' p = some (.lst (ns.map V.int))) (hn : 0 < ns.length) : TrV (tCB (rMax K) (tCons ta tNil)) σ H fun v => ∃ m, v = .int m ∧ m ∈ ns ∧ ∀ y ∈ ns, y ≤ m := fun H1 e Q q =>
  ha H1 e _ fun p H2 _ e2 h => ⟨p, ns, rfl, SqL.of h, hn, fun m h1 h2 => q _ H2 e2 ⟨m, rfl, h1, h2⟩⟩
theorem tv_add1 {C : Int → Prop} (ha : TrV ta σ H fun v => ∃ m, v = .int m ∧ C m) : TrV (tOp (rI0 fun i j => .int (i + j)) (tC (.int 1)) ta) σ H fun v => ∃ m, v = .int (1 + m) ∧ C m := fun H1 e Q q =>
  ha H1 e _ fun v H2 e2 ⟨m, hv, hm⟩ => by
    subst hv
    exact ⟨1, m, rfl, rfl, q _ H2 e2 ⟨m, rfl, hm⟩⟩
theorem tn_callR {sp : Sp} {E : XK} {R R' : Addr → Hp → Prop} (h : TrN te σ H R) (hs : ∀ p H1, R p H1 → Ex H H1 → SpN sp [.ref p] H1 R') : TrN (tCall sp [] E (tCons te tNil)) σ H R' := fun H1 e Q q =>
  h H1 e _ fun p H2 _ e2 r => hs p H2 r (e.trans e2) H2 (Ex.refl H2) Q (fun r H3 hr e3 k => q r H3 (fresh_back e2 hr) (e2.trans e3) k) E
theorem tn_sortedDT {d : Addr} {kvs : List (List L2.Key × V)} {rows : List (List Int)} (ha : Ev ta σ H (.ref d)) (h : Rd H d (.dT kvs)) (hk : kvs.map (·.1) = rows.map rowK) (hne : ∀ r ∈ rows, r ≠ []) : TrN (tCB rSortedDT (tCons ta tNil)) σ H fun p H' => ∃ ys, H' p = some (.lst ys) ∧ RowsT H' ys (sortR rows) := fun H1 e Q q =>
  ha H1 e _ fun H2 e2 => ⟨d, kvs, rows, rfl, ex_rd (e.trans e2) h, hk, hne, fun ys p hy hp => q p _ (fresh_back e2 hp) (e2.trans (Ex.new hp)) ⟨ys, upd_same, hy.mono (Ex.new hp)⟩⟩
theorem tn_sortedKT {d f : Addr} {val : List Int → Int} {sp : Sp} {kvs : List (List L2.Key × V)} {rows : List (List Int)} (ha : Ev ta σ H (.ref d)) (hf : Ev tf σ H (.ref f)) (h : Rd H d (.dT kvs)) (hk : kvs.map (·.1) = rows.map rowK)
    (hs : ∀ r ∈ rows, ∀ t H1, Ex H H1 → H1 t = some (.tup (r.map V.int)) → SpV sp [.ref t] H1 (.int (val r))) : TrN (tCKw (rSortedKT f val sp) (tCons ta tNil) (tCons tf tNil)) σ H fun p H' => ∃ ys, H' p = some (.lst ys) ∧ RowsT H' ys (byVal val rows) := fun H1 e Q q =>
  ha H1 e _ fun H2 e2 => hf H2 (e.trans e2) _ fun H3 e3 => by
    have e03 := e.trans (e2.trans e3)
    exact ⟨d, kvs, rows, rfl, rfl, ex_rd e03 h, hk, fun r hr t H4 e4 ht => hs r hr t H4 (e03.trans e4) ht, fun ys p H4 hp e4 h1 h2 => q p H4 (fresh_back (e2.trans e3) hp) (e2.trans (e3.trans e4)) ⟨ys, h1, h2⟩⟩
theorem ev_len0 {p : Addr} {xs : List V} (ha : Ev ta σ H (.ref p)) (h : SqL K H p xs) : Ev (tOp rEq (tCB (fun xs H Q => ∃ p ys, xs = [.ref p] ∧ (SqL K H p ys ∨ SqT K H p ys) ∧ Q (.int ys.length) H) (tCons ta tNil)) (tC (.int 0))) σ H (.bl (decide (xs = []))) := by
  refine ev_is (ev_eqI (ev_lenL ha h) ev_c) (congrArg V.bl (decide_eq_decide.mpr ⟨fun h => ?_, fun h => by rw [h]; rfl⟩))
  exact List.length_eq_zero_iff.mp (by omega)
end
theorem byVal_perm (val : List Int → Int) (rows : List (List Int)) : (byVal val rows).Perm rows := List.mergeSort_perm rows _
theorem byVal_sorted (val : List Int → Int) (rows : List (List Int)) : (byVal val rows).Pairwise fun a b => val a ≤ val b := by
  have h := List.pairwise_mergeSort (le := fun a b : List Int => decide (val a ≤ val b)) (fun a b c h1 h2 => decide_eq_true (Int.le_trans (of_decide_eq_true h1) (of_decide_eq_true h2))) (fun a b => by
    rcases Int.le_total (val a) (val b) with h | h
    · rw [decide_eq_true h]; rfl
    · rw [decide_eq_true h, Bool.or_true]) rows
  exact h.imp fun h => of_decide_eq_true h
/-- what has less of it stands ahead -/
theorem byVal_ahead {val : List Int → Int} {rows : List (List Int)} {i : Nat} {r u : List Int} (hr : (byVal val rows)[i]? = some r) (hu : u ∈ rows) (hlt : val u < val r) : u ∈ (byVal val rows).take i := by
  have hm : u ∈ byVal val rows := (byVal_perm val rows).mem_iff.mpr hu
  obtain ⟨j, hj, e⟩ := List.getElem_of_mem hm
  obtain ⟨hi, ei⟩ := List.getElem?_eq_some_iff.mp hr
  by_cases g : j < i
  · exact List.mem_take_iff_getElem.mpr ⟨j, by omega, e⟩
  · exfalso
    rcases Nat.lt_or_eq_of_le (Nat.not_lt.mp g) with g | g
    · have := List.pairwise_iff_getElem.mp (byVal_sorted val rows) i j hi hj g
      rw [e, ei] at this
      omega
    · subst g
      rw [ei] at e
      rw [e] at hlt
      omega
theorem sz_lt2 {n : Nat} (h : n ≤ 5000000) : n < sizeLine := Nat.lt_of_le_of_lt h (by decide)
theorem sz_le2 {n : Nat} (h : n ≤ 5000000) : n ≤ sizeLine := Nat.le_of_lt (sz_lt2 h)
end Eg

set_option Elab.async false
set_option autoImplicit false
set_option linter.all false
set_option maxRecDepth 100000
set_option maxHeartbeats 2000000
namespace Eg
open PySem PySem.Spec PyProof.Rows L2 Evl
/-! # loops over a locked dict of rows -/
theorem for_keysT {d : Addr} {o : Obj} {kvs : List (List L2.Key × V)} {g : TG} {tb : TS} {D : Ends} {σ : L2.St} {H : Hp} (Pv : Nat → L2.St → Hp → Prop) (h0 : Pv 0 σ H) (hl : ∀ i σ H, Pv i σ H → H d = some (.frz o (.dT kvs)))
    (hs : ∀ i k v q σ H, kvs[i]? = some (k, v) → H q = some (.tup (k.map kV)) → Pv i σ H → g (.ref q) σ H fun σ2 H2 => tb { D with nx := Pv (i + 1), ct := Pv (i + 1), bk := D.nx } σ2 H2) (hd : ∀ σ H, Pv kvs.length σ H → D.nx σ H) :
    ∃ W : Nat → Nat → L2.St → Hp → Prop, (∃ m, W 0 m σ H) ∧ ∀ i m σ H, W i m σ H →
      ((Itkt d o kvs).stop i H ∧ D.nx σ H) ∨ ((Itkt d o kvs).go i H ∧ ∃ N : L2.St → Hp → Prop, (∀ σ' H', N σ' H' → ∃ m', m' < m ∧ W (i + 1) m' σ' H') ∧ ∀ x H', (Itkt d o kvs).yld i H x H' → g x σ H' fun σ2 H2 => tb { D with nx := N, ct := N, bk := D.nx } σ2 H2) := by
  refine ⟨fun i m σ H => m = kvs.length - i ∧ i ≤ kvs.length ∧ Pv i σ H, ⟨kvs.length, by simp, Nat.zero_le _, h0⟩, ?_⟩
  rintro i m σ H ⟨rfl, hi, p⟩
  by_cases hlt : i < kvs.length
  · refine .inr ⟨⟨hl i σ H p, hlt⟩, Pv (i + 1), fun σ' H' p' => ⟨kvs.length - (i + 1), by omega, rfl, hlt, p'⟩, fun x H' y => ?_⟩
    obtain ⟨e, k, v, q, h1, h2, h3⟩ := y
    subst e h2
    exact hs i k v q σ _ h1 h3 p
  · have e : i = kvs.length := by omega
    subst e
    exact .inl ⟨⟨hl _ σ H p, Nat.le_refl _⟩, hd σ H p⟩
theorem for_itemsT {d : Addr} {o : Obj} {kvs : List (List L2.Key × V)} {g : TG} {tb : TS} {D : Ends} {σ : L2.St} {H : Hp} (Pv : Nat → L2.St → Hp → Prop) (h0 : Pv 0 σ H) (hl : ∀ i σ H, Pv i σ H → H d = some (.frz o (.dT kvs)))
    (hs : ∀ i k v q T σ H, kvs[i]? = some (k, v) → H q = some (.tup (k.map kV)) → H T = none → Pv i σ H → g (.ref T) σ (upd H T (.tup [.ref q, v])) fun σ2 H2 => tb { D with nx := Pv (i + 1), ct := Pv (i + 1), bk := D.nx } σ2 H2) (hd : ∀ σ H, Pv kvs.length σ H → D.nx σ H) :
    ∃ W : Nat → Nat → L2.St → Hp → Prop, (∃ m, W 0 m σ H) ∧ ∀ i m σ H, W i m σ H →
      ((ItiT d o kvs).stop i H ∧ D.nx σ H) ∨ ((ItiT d o kvs).go i H ∧ ∃ N : L2.St → Hp → Prop, (∀ σ' H', N σ' H' → ∃ m', m' < m ∧ W (i + 1) m' σ' H') ∧ ∀ x H', (ItiT d o kvs).yld i H x H' → g x σ H' fun σ2 H2 => tb { D with nx := N, ct := N, bk := D.nx } σ2 H2) := by
  refine ⟨fun i m σ H => m = kvs.length - i ∧ i ≤ kvs.length ∧ Pv i σ H, ⟨kvs.length, by simp, Nat.zero_le _, h0⟩, ?_⟩
  rintro i m σ H ⟨rfl, hi, p⟩
  by_cases hlt : i < kvs.length
  · refine .inr ⟨⟨hl i σ H p, hlt⟩, Pv (i + 1), fun σ' H' p' => ⟨kvs.length - (i + 1), by omega, rfl, hlt, p'⟩, fun x H' y => ?_⟩
    obtain ⟨T, k, v, q, h1, h2, h3, h4, h5⟩ := y
    subst h2 h5
    exact hs i k v q T σ H h1 h4 h3 p
  · have e : i = kvs.length := by omega
    subst e
    exact .inl ⟨⟨hl _ σ H p, Nat.le_refl _⟩, hd σ H p⟩
section
variable {K : PySem.W.Frag} {σ : L2.St} {H : Hp} {ta tb td te : TE} {D : Ends} {tz tu : TS} {g : TG}
theorem q_forItemsT {d : Addr} {o : Obj} {kvs : List (List L2.Key × V)} (h : Ev td σ H (.ref d)) (hd : H d = some (.frz o (.dT kvs))) (Pv : Nat → L2.St → Hp → Prop) (h0 : ∀ H1, Ex H H1 → Pv 0 σ H1) (hl : ∀ i σ H, Pv i σ H → H d = some (.frz o (.dT kvs)))
    (hs : ∀ i k v q T σ H, kvs[i]? = some (k, v) → H q = some (.tup (k.map kV)) → H T = none → Pv i σ H → g (.ref T) σ (upd H T (.tup [.ref q, v])) fun σ2 H2 => tu { D with nx := Pv (i + 1), ct := Pv (i + 1), bk := tz D } σ2 H2) (hn : ∀ σ H, Pv kvs.length σ H → tz D σ H) :
    tSeq (tFor (iItemsT td) g tu) tz D σ H := h H (Ex.refl H) _ fun H1 e => ⟨d, o, kvs, rfl, e _ _ hd, for_itemsT (D := { D with nx := tz D }) Pv (h0 H1 e) hl hs hn⟩
/-- [b for k in d], a truth of each key -/
theorem tn_lcKeys {d : Addr} {kvs : List (List L2.Key × V)} {ks : List (List Int)} {i j : Nat} {vs : List Nat} (f : List Int → Bool) (hσ : σ[i]? = some (some (.ref d))) (hd : H d = some (.dT kvs)) (hk : kvs.map (·.1) = ks.map rowK) (hz : ks.length < sizeLine) (hw : ∀ x, wipe ((wipe σ vs).set j (some x)) vs = wipe σ vs)
    (he : ∀ (r : List Int) (q : Addr) H1, r ∈ ks → H1 q = some (.tup (r.map V.int)) → Ev te ((wipe σ vs).set j (some (.ref q))) H1 (.bl (f r))) : TrN (tLockE (tLc (iKeys (tVar i)) (gName j) tYes te vs)) σ H fun p H' => H' p = some (.lst ((ks.map f).map V.bl)) := fun H0 e Q q => by
  have hd0 := e _ _ hd
  have hlen : kvs.length = ks.length := by
    have := congrArg List.length hk
    simpa using this
  refine ⟨d, .dT kvs, hd0, trivial, fun od => ?_⟩
  refine ⟨.ref d, hσ, d, od, rfl, .inr ⟨kvs, upd_same, fun Dl hD => ?_⟩⟩
  have hDd : Dl ≠ d := fun z => by
    rw [z, upd_same] at hD
    cases hD
  have hD0 : H0 Dl = none := by
    rw [upd_ne hDd] at hD
    exact hD
  refine walk_keysT (fun n H' => Ex (upd H0 d (.frz od (.dT kvs))) H' ∧ H' Dl = some (.lst (((ks.take n).map f).map V.bl))) ⟨Ex.new hD, by rw [List.take_zero]; exact upd_same⟩ (fun n H' p => p.1 _ _ upd_same) (fun n H' k v b hkv hb hP => ?_) (fun H' hP => ?_)
  · obtain ⟨eH, hl⟩ := hP
    have hn : n < ks.length := by
      have := (List.getElem?_eq_some_iff.mp hkv).1
      omega
    have hr : ks[n]? = some ks[n] := List.getElem?_eq_getElem hn
    obtain ⟨v', hv'⟩ := keysT_at hk hr
    rw [hv'] at hkv
    cases hkv
    rw [rowK_V] at hb
    refine ⟨hw _, ?_⟩
    show tYes _ _ _
    refine et_yes H' (Ex.refl H') _ fun H2 e2 => iteT ?_
    refine (he ks[n] b H2 (List.mem_of_getElem? hr) (e2 _ _ hb)) H2 (Ex.refl H2) _ fun H3 e3 => ?_
    have e23 := e2.trans e3
    refine ⟨_, e23 _ _ hl, by rw [List.length_map, List.length_map, List.length_take]; omega, Ex.mut (eH.trans e23) hD, ?_⟩
    rw [upd_same, List.take_add_one, hr, List.map_append, List.map_append]
    rfl
  · obtain ⟨eH, hl⟩ := hP
    rw [hlen, List.take_length] at hl
    refine ⟨eH _ _ upd_same, ?_⟩
    refine q Dl _ hD0 (fun a o ha => ?_) ((upd_ne hDd).trans hl)
    by_cases hx : a = d
    · subst hx
      rw [upd_same, ← ha, hd0]
    · rw [upd_ne hx]
      refine eH _ _ ?_
      rw [upd_ne hx]
      exact ha
theorem PrsI.updN {p : Addr} {o : HO} (hp : ∀ xs, H p ≠ some (.tup xs)) : ∀ {rs : List V} {ps : List (Int × Int)}, PrsI H rs ps → PrsI (L2.upd H p o) rs ps
  | _, _, .nil => .nil
  | _, _, .cons ⟨t, h1, h2⟩ r => .cons ⟨t, h1, by rw [upd_ne (fun z => hp _ (z ▸ h2))]; exact h2⟩ (PrsI.updN hp r)
end
theorem cm_few {F : StF} {s : List Int} {l m : List (List Int)} {acc : List Cme} (G : Good F) (hs : Sm s) (h : CmQ F s l m acc) (hm : ∀ q ∈ m, ∃ k, RchK F s k q) : acc.length ≤ 194481 := by
  have := rows_few_sum (rows := acc.map (·.1)) (n := s.length) (S := s.sum) h.nd fun r hr => by
    obtain ⟨e, he, rfl⟩ := List.mem_map.mp hr
    obtain ⟨h1, h2⟩ := h.sound e he
    obtain ⟨k, hk⟩ := hm _ h1
    have hk1 : RchK F s (k + 1) e.1 := .succ hk (List.mem_map.mpr ⟨_, h2, rfl⟩)
    obtain ⟨g1, g2, g3, _⟩ := hk1.good G hs
    exact ⟨g1, g2, g3⟩
  rwa [List.length_map] at this
/-- what stands under a key of `came` -/
abbrev CmR : Cme → V → Hp → Prop := fun e v H => ∃ t tq te, v = .ref t ∧ H t = some (.tup [.ref tq, .ref te]) ∧ H tq = some (.tup (e.2.1.map V.int)) ∧ H te = some (.tup [.int (e.2.2.1 : Nat), .int (e.2.2.2 : Nat)])
theorem CmR.mono {e : Cme} {v : V} {H H' : Hp} (x : Ex H H') (h : CmR e v H) : CmR e v H' := by
  obtain ⟨t, tq, te, h1, h2, h3, h4⟩ := h
  exact ⟨t, tq, te, h1, x _ _ h2, x _ _ h3, x _ _ h4⟩
theorem CmR.upd {e : Cme} {v : V} {H : Hp} {p : Addr} {o : HO} (hp : ∀ xs, H p ≠ some (.tup xs)) (h : CmR e v H) : CmR e v (L2.upd H p o) := by
  obtain ⟨t, tq, te, h1, h2, h3, h4⟩ := h
  exact ⟨t, tq, te, h1, by rw [upd_ne (fun z => hp _ (z ▸ h2))]; exact h2, by rw [upd_ne (fun z => hp _ (z ▸ h3))]; exact h3, by rw [upd_ne (fun z => hp _ (z ▸ h4))]; exact h4⟩
def CmH (H : Hp) (kvs : List (List L2.Key × V)) (acc : List Cme) : Prop := KvH (fun e : Cme => e.1) CmR H kvs acc
theorem CmH.mono {H H' : Hp} {kvs : List (List L2.Key × V)} {acc : List Cme} (x : Ex H H') (h : CmH H kvs acc) : CmH H' kvs acc := KvH.up (fun e v h => CmR.mono x h) h
theorem CmH.upd {H : Hp} {kvs : List (List L2.Key × V)} {acc : List Cme} {p : Addr} {o : HO} (hp : ∀ xs, H p ≠ some (.tup xs)) (h : CmH H kvs acc) : CmH (L2.upd H p o) kvs acc := KvH.up (fun e v h => CmR.upd hp h) h
/-- isinstance of own classes, by the facts of the written part -/
theorem kit_ref {K : PySem.W.Frag} {t : Value} {C : Addr} {b : Bool} (hc : PySem.W.isClsIn K C = true) (ht : PySem.W.typeIn K (.ref C) = some (.type "type")) (hs : PySem.W.subIn K t (.ref C) = some b) (h : b = false → (t == Value.ref C) = false) : PySem.W.kitOne K t (.ref C) = some b := by
  unfold PySem.W.kitOne
  split
  · rename_i e
    cases b with
    | true => rfl
    | false =>
      rw [h rfl] at e
      cases e
  · have e2 : ((PySem.W.clsIn K C).isSome && PySem.W.typeIn K (.ref C) == some (.type "type")) = true := by
      have h2' : (PySem.W.clsIn K C).isSome = true := hc
      rw [h2', ht] <;> rfl
    show (if ((PySem.W.clsIn K C).isSome && PySem.W.typeIn K (.ref C) == some (.type "type")) = true then PySem.W.subIn K t (.ref C) else none) = some b
    rw [if_pos e2]
    exact hs
end Eg

set_option Elab.async false
set_option linter.all false
set_option maxRecDepth 100000
set_option maxHeartbeats 4000000
namespace Eg
open PySem PySem.Spec PyProof.Rows L2 Evl
/-- what the head knows of the def y: its code object's table is empty -/
def DefTab (q : Program) (K : PySem.W.Frag) (h : Heap) (y : Str) : Prop := ∀ (d : DefRec) (c P : Addr), (recsOf q).find? (fun e => e.name == y) = some d → PySem.W.tabIn K y = some (c, P) → PySem.W.CodeHd h c P ∧ h.get? P = some { cls := .none, data := .fields #[] }
abbrev TabTold (K : PySem.W.Frag) (h : Heap) (y : Str) : Prop := ∀ c P : Addr, PySem.W.tabIn K y = some (c, P) → PySem.W.CodeHd h c P ∧ h.get? P = some { cls := .none, data := .fields #[] }
theorem DefTab.told {q : Program} {K : PySem.W.Frag} {h : Heap} {y : Str} (D : DefTab q K h y) (hr : ((recsOf q).any fun e => e.name == y) = true) : TabTold K h y := fun c P ht => by
  cases hf : (recsOf q).find? (fun e => e.name == y) with
  | some d => exact D d c P hf ht
  | none =>
    obtain ⟨d, hd, k⟩ := List.any_eq_true.mp hr
    exact absurd k (List.find?_eq_none.mp hf d hd)
theorem tabIn_of {K : PySem.W.Frag} {y : Str} {f c P : Addr} {oc eL : Value} {od dL : Option Addr} {fd : FuncData} {sl xL : Array (Option Value)} {vL : Array Value} (a : PySem.W.nsIn K mainGlobals y = some (some (.ref f))) (l : K.lookup f = some ⟨oc, od, .func fd, sl⟩) (e : fd.code = .ref c) (lc : K.lookup c = some ⟨eL, dL, .fields vL, xL⟩) (v : vL[11]? = some (.ref P)) : PySem.W.tabIn K y = some (c, P) := by
  unfold PySem.W.tabIn
  simp only [a, l, e, lc, v]
open LamX in
/-- the walk, with what the head knows of the tables of all defs -/
theorem walk_ofTT {l : PySem.W.OpenLaw} {n k : Nat} {q : Program} {loose : List Str} {XP : (Str → Option Value) → Heap → Prop} {YP : World → Heap → Prop} {d : DefRec} {K : Params → PySem.W.Frag} {CX : World → CXT} {x : Str}
    (hn : l.most = some n) (hn2 : n ≤ sizeLine) (hdf : d.params.defaults = []) (hr : Room k callerA) (hY : ∀ (w : World) (h : Heap), YP w h → (K w.params).In h)
    (F : ∀ (w : World) (mg : Str → Option Value) (fa : Addr) (h : Heap), YP w h → (K w.params).In h → h.Ns mainGlobals mg → mg d.name = some (.ref fa) → (∀ y : Str, DefTab q (K w.params) h y) → LawAtS l w (K w.params) (CX w) k n x mg fa h)
    (hCX : ∀ (w : World) (H : Hp) (s : Shared) (e : Value) (s' : Shared), CX w [] H s (fun _ _ _ => False) e s' → False) :
    PySem.W.WalkO q loose XP YP l.row.toRowW d [] (fun f vs => PySem.call f vs) :=
  Att.attach_callB hn hdf fun w s₀ s₁ mg mb fa o pm cd doc a vs ns G Y ho hd hcd hmg hobj hints hlen hbits hg =>
    have KX := hY w _ Y
    let ⟨fd, cs, sp, hT, nT, C, hb, hsp, hF⟩ := F w mg fa _ Y KX G.T.g hmg fun y d c P hr ht => PySem.W.tab_of G.T KX hr ht
    law_callTs KX G.T.g G.T.b G.T.builtins G.T.nolimit hg hT nT C G.T.bmain hobj hints (Nat.le_trans hlen hn2) hr hF hb (fun H hH hS => hsp H a ns hlen hbits hH hS) fun H e s' => hCX w H s₁ e s'
theorem exm_ref {K : PySem.W.Frag} {t : Value} {C : Addr} {b : Bool} (hb : PySem.W.subIn K (.ref C) (.type "BaseException") = some true) (hc : PySem.W.isClsIn K C = true) (ht : PySem.W.typeIn K (.ref C) = some (.type "type")) (hs : PySem.W.subIn K t (.ref C) = some b) : PySem.W.exmOne K t (.ref C) = some b := by
  unfold PySem.W.exmOne
  rw [hb]
  have e2 : ((PySem.W.clsIn K C).isSome && PySem.W.typeIn K (.ref C) == some (.type "type")) = true := by
    have h2' : (PySem.W.clsIn K C).isSome = true := hc
    rw [h2', ht] <;> rfl
  show (if ((PySem.W.clsIn K C).isSome && PySem.W.typeIn K (.ref C) == some (.type "type")) = true then PySem.W.subIn K t (.ref C) else none) = some b
  rw [if_pos e2]
  exact hs
theorem kit_val {K : PySem.W.Frag} {D : Addr} (hs : PySem.W.subIn K (.ref D) (.type "ValueError") = some true) : PySem.W.kitOne K (.ref D) (.type "ValueError") = some true := by
  unfold PySem.W.kitOne
  split
  · rfl
  · exact hs
end Eg

set_option Elab.async false
set_option linter.all false
set_option maxRecDepth 100000
set_option maxHeartbeats 4000000
namespace Lk
open PySem PySem.Spec PyProof.Rows L2 Evl Eg
def topS (i : Nat) : Stmt := PySem.Challenge.pw_evenglasses_k05_refused.main.body.getD i (.Pass ⟨0, 0, 0, 0⟩)
structure Bi (mg : Str → Option Value) : Prop where
  ValueError_ : mg "ValueError" = none
  all_ : mg "all" = none
  bool_ : mg "bool" = none
  int_ : mg "int" = none
  isinstance_ : mg "isinstance" = none
  len_ : mg "len" = none
  list_ : mg "list" = none
  range_ : mg "range" = none
  sorted_ : mg "sorted" = none
  tuple_ : mg "tuple" = none
structure Mo (mg : Str → Option Value) (t1 t2 t3 t4 : Tok) : Prop where
  MOST_GLASSES_ : mg "MOST_GLASSES" = some (.int 12 t1)
  MOST_MEASURES_ : mg "MOST_MEASURES" = some (.int 1000000 t2)
  MOST_SMALL_GLASSES_ : mg "MOST_SMALL_GLASSES" = some (.int 5 t3)
  MOST_SMALL_MEASURES_ : mg "MOST_SMALL_MEASURES" = some (.int 20 t4)
abbrev s_is_number : Stmt := topS 10
abbrev N_is_number : List Str := ["value"]
abbrev P_is_number : List Str := ["value"]
theorem sc_is_number : FnScope N_is_number P_is_number (defScope s_is_number) := ⟨rfl, rfl, rfl, by decide +kernel, rfl, by decide +kernel, by decide +kernel⟩
abbrev s_is_measure : Stmt := topS 11
abbrev N_is_measure : List Str := ["value"]
abbrev P_is_measure : List Str := ["value"]
theorem sc_is_measure : FnScope N_is_measure P_is_measure (defScope s_is_measure) := ⟨rfl, rfl, rfl, by decide +kernel, rfl, by decide +kernel, by decide +kernel⟩
abbrev s_is_row : Stmt := topS 12
abbrev N_is_row : List Str := ["value", "amount"]
abbrev P_is_row : List Str := ["value"]
theorem sc_is_row : FnScope N_is_row P_is_row (defScope s_is_row) := ⟨rfl, rfl, rfl, by decide +kernel, rfl, by decide +kernel, by decide +kernel⟩
abbrev s_are_places : Stmt := topS 14
abbrev N_are_places : List Str := ["row", "value", "first", "second"]
abbrev P_are_places : List Str := ["row", "value"]
theorem sc_are_places : FnScope N_are_places P_are_places (defScope s_are_places) := ⟨rfl, rfl, rfl, by decide +kernel, rfl, by decide +kernel, by decide +kernel⟩
abbrev s_can_even : Stmt := topS 15
abbrev N_can_even : List Str := ["one", "other"]
abbrev P_can_even : List Str := ["one", "other"]
theorem sc_can_even : FnScope N_can_even P_can_even (defScope s_can_even) := ⟨rfl, rfl, rfl, by decide +kernel, rfl, by decide +kernel, by decide +kernel⟩
abbrev s_is_small_row : Stmt := topS 13
abbrev N_is_small_row : List Str := ["value", "amount"]
abbrev P_is_small_row : List Str := ["value"]
theorem sc_is_small_row : FnScope N_is_small_row P_is_small_row (defScope s_is_small_row) := ⟨rfl, rfl, rfl, by decide +kernel, rfl, by decide +kernel, by decide +kernel⟩
abbrev s_can_be : Stmt := topS 16
abbrev N_can_be : List Str := ["row", "value", "first", "second"]
abbrev P_can_be : List Str := ["row", "value"]
theorem sc_can_be : FnScope N_can_be P_can_be (defScope s_can_be) := ⟨rfl, rfl, rfl, by decide +kernel, rfl, by decide +kernel, by decide +kernel⟩
abbrev s_are_alike : Stmt := topS 17
abbrev N_are_alike : List Str := ["row", "amount"]
abbrev P_are_alike : List Str := ["row"]
theorem sc_are_alike : FnScope N_are_alike P_are_alike (defScope s_are_alike) := ⟨rfl, rfl, rfl, by decide +kernel, rfl, by decide +kernel, by decide +kernel⟩
abbrev s_refuse_no_row : Stmt := topS 18
abbrev N_refuse_no_row : List Str := ["row"]
abbrev P_refuse_no_row : List Str := ["row"]
theorem sc_refuse_no_row : FnScope N_refuse_no_row P_refuse_no_row (defScope s_refuse_no_row) := ⟨rfl, rfl, rfl, by decide +kernel, rfl, by decide +kernel, by decide +kernel⟩
abbrev s_refuse_no_small_row : Stmt := topS 19
abbrev N_refuse_no_small_row : List Str := ["row"]
abbrev P_refuse_no_small_row : List Str := ["row"]
theorem sc_refuse_no_small_row : FnScope N_refuse_no_small_row P_refuse_no_small_row (defScope s_refuse_no_small_row) := ⟨rfl, rfl, rfl, by decide +kernel, rfl, by decide +kernel, by decide +kernel⟩
abbrev s_refuse_no_evening : Stmt := topS 20
abbrev N_refuse_no_evening : List Str := ["row", "evening"]
abbrev P_refuse_no_evening : List Str := ["row", "evening"]
theorem sc_refuse_no_evening : FnScope N_refuse_no_evening P_refuse_no_evening (defScope s_refuse_no_evening) := ⟨rfl, rfl, rfl, by decide +kernel, rfl, by decide +kernel, by decide +kernel⟩
abbrev s_pairs_to_even : Stmt := topS 21
abbrev N_pairs_to_even : List Str := ["row", "many", "first", "second"]
abbrev P_pairs_to_even : List Str := ["row"]
theorem sc_pairs_to_even : FnScope N_pairs_to_even P_pairs_to_even (defScope s_pairs_to_even) := ⟨rfl, rfl, rfl, by decide +kernel, rfl, by decide +kernel, by decide +kernel⟩
abbrev s_row_behind : Stmt := topS 22
abbrev N_row_behind : List Str := ["row", "evening", "first", "second", "half", "behind"]
abbrev P_row_behind : List Str := ["row", "evening"]
theorem sc_row_behind : FnScope N_row_behind P_row_behind (defScope s_row_behind) := ⟨rfl, rfl, rfl, by decide +kernel, rfl, by decide +kernel, by decide +kernel⟩
abbrev s_evenings : Stmt := topS 23
abbrev N_evenings : List Str := ["row"]
abbrev P_evenings : List Str := ["row"]
theorem sc_evenings : FnScope N_evenings P_evenings (defScope s_evenings) := ⟨rfl, rfl, rfl, by decide +kernel, rfl, by decide +kernel, by decide +kernel⟩
abbrev s_evened : Stmt := topS 24
abbrev N_evened : List Str := ["row", "evening"]
abbrev P_evened : List Str := ["row", "evening"]
theorem sc_evened : FnScope N_evened P_evened (defScope s_evened) := ⟨rfl, rfl, rfl, by decide +kernel, rfl, by decide +kernel, by decide +kernel⟩
abbrev s_settled : Stmt := topS 25
abbrev N_settled : List Str := ["row"]
abbrev P_settled : List Str := ["row"]
theorem sc_settled : FnScope N_settled P_settled (defScope s_settled) := ⟨rfl, rfl, rfl, by decide +kernel, rfl, by decide +kernel, by decide +kernel⟩
abbrev s_fall : Stmt := topS 26
abbrev N_fall : List Str := ["row", "evening", "first", "second", "gap"]
abbrev P_fall : List Str := ["row", "evening"]
theorem sc_fall : FnScope N_fall P_fall (defScope s_fall) := ⟨rfl, rfl, rfl, by decide +kernel, rfl, by decide +kernel, by decide +kernel⟩
abbrev s_steps : Stmt := topS 28
abbrev N_steps : List Str := ["row", "evening"]
abbrev P_steps : List Str := ["row"]
theorem sc_steps : FnScope N_steps P_steps (defScope s_steps) := ⟨rfl, rfl, rfl, by decide +kernel, rfl, by decide +kernel, by decide +kernel⟩
abbrev s_reach : Stmt := topS 30
abbrev N_reach : List Str := ["row", "steps_of", "found", "level", "following", "one", "_", "behind"]
abbrev P_reach : List Str := ["row", "steps_of"]
theorem sc_reach : FnScope N_reach P_reach (defScope s_reach) := ⟨rfl, rfl, rfl, by decide +kernel, rfl, by decide +kernel, by decide +kernel⟩
abbrev s_ends : Stmt := topS 41
abbrev N_ends : List Str := ["row", "found", "one"]
abbrev P_ends : List Str := ["row"]
theorem sc_ends : FnScope N_ends P_ends (defScope s_ends) := ⟨rfl, rfl, rfl, by decide +kernel, rfl, by decide +kernel, by decide +kernel⟩
abbrev s__law_strange : Stmt := topS 47
abbrev N__law_strange : List Str := ["_law_far"]
abbrev P__law_strange : List Str := ["_law_far"]
theorem sc__law_strange : FnScope N__law_strange P__law_strange (defScope s__law_strange) := ⟨rfl, rfl, rfl, by decide +kernel, rfl, by decide +kernel, by decide +kernel⟩
abbrev s__law_no_rows : Stmt := topS 48
abbrev N__law_no_rows : List Str := ["_law_far", "_law_most", "_law_greatest", "_law_bad", "_law_strange_here", "_law_row"]
abbrev P__law_no_rows : List Str := ["_law_far", "_law_most", "_law_greatest"]
theorem sc__law_no_rows : FnScope N__law_no_rows P__law_no_rows (defScope s__law_no_rows) := ⟨rfl, rfl, rfl, by decide +kernel, rfl, by decide +kernel, by decide +kernel⟩
abbrev s__law_cell_at : Stmt := topS 43
abbrev N__law_cell_at : List Str := ["_law_script", "_law_k"]
abbrev P__law_cell_at : List Str := ["_law_script", "_law_k"]
theorem sc__law_cell_at : FnScope N__law_cell_at P__law_cell_at (defScope s__law_cell_at) := ⟨rfl, rfl, rfl, by decide +kernel, rfl, by decide +kernel, by decide +kernel⟩
abbrev s__law_draw : Stmt := topS 44
abbrev N__law_draw : List Str := ["_law_cell", "_law_k", "_law_many", "_law_primes"]
abbrev P__law_draw : List Str := ["_law_cell", "_law_k", "_law_many"]
theorem sc__law_draw : FnScope N__law_draw P__law_draw (defScope s__law_draw) := ⟨rfl, rfl, rfl, by decide +kernel, rfl, by decide +kernel, by decide +kernel⟩
abbrev s__law_value : Stmt := topS 45
abbrev N__law_value : List Str := ["_law_cell", "_law_turn", "_law_mixed"]
abbrev P__law_value : List Str := ["_law_cell", "_law_turn"]
theorem sc__law_value : FnScope N__law_value P__law_value (defScope s__law_value) := ⟨rfl, rfl, rfl, by decide +kernel, rfl, by decide +kernel, by decide +kernel⟩
abbrev s_law : Stmt := topS 50
abbrev N_law : List Str := ["_law_script", "_law_by"]
abbrev P_law : List Str := ["_law_script"]
theorem sc_law : FnScope N_law P_law (defScope s_law) := ⟨rfl, rfl, rfl, by decide +kernel, rfl, by decide +kernel, by decide +kernel⟩
abbrev s__law_kinds : Stmt := topS 46
abbrev N__law_kinds : List Str := ["_law_ask", "_law_found", "error"]
abbrev P__law_kinds : List Str := ["_law_ask"]
theorem sc__law_kinds : FnScope N__law_kinds P__law_kinds (defScope s__law_kinds) := ⟨rfl, rfl, rfl, by decide +kernel, rfl, by decide +kernel, by decide +kernel⟩
abbrev s__law_right : Stmt := topS 49
abbrev N__law_right : List Str := ["_law_far", "_law_bad", "_law_ask", "_law_pairs", "_law_strange_here", "_law_pair"]
abbrev P__law_right : List Str := ["_law_far"]
theorem sc__law_right : FnScope N__law_right P__law_right (defScope s__law_right) := ⟨rfl, rfl, rfl, by decide +kernel, rfl, by decide +kernel, by decide +kernel⟩
abbrev s_alike : Stmt := topS 37
abbrev N_alike : List Str := ["row", "found", "one"]
abbrev P_alike : List Str := ["row"]
theorem sc_alike : FnScope N_alike P_alike (defScope s_alike) := ⟨rfl, rfl, rfl, by decide +kernel, rfl, by decide +kernel, by decide +kernel⟩
abbrev s_fewest_most : Stmt := topS 40
abbrev N_fewest_most : List Str := ["row", "start", "found", "told", "one", "_", "behind"]
abbrev P_fewest_most : List Str := ["row"]
theorem sc_fewest_most : FnScope N_fewest_most P_fewest_most (defScope s_fewest_most) := ⟨rfl, rfl, rfl, by decide +kernel, rfl, by decide +kernel, by decide +kernel⟩

def sp_is_number (K : PySem.W.Frag) : Sp := fun vs H Q _ => ∃ v : V, vs = [v] ∧ ItemOk K H v ∧ RetV (.bl (isNum v)) H Q
theorem sv_is_numberX {K : PySem.W.Frag} {H : Hp} {v : V} (h : ItemOk K H v) : SpV (sp_is_number K) [v] H (.bl (isNum v)) := fun H1 e Q q E => ⟨v, rfl, h.mono e, q⟩
theorem sv_is_number {K : PySem.W.Frag} {H : Hp} {i : Int} : SpV (sp_is_number K) [.int i] H (.bl true) := fun H1 e Q q E => ⟨.int i, rfl, item_int i, q⟩

def sp_is_measure (K : PySem.W.Frag) : Sp := fun vs H Q _ => ∃ v : V, vs = [v] ∧ ItemOk K H v ∧ RetV (.bl (isMeas 1000000 v)) H Q
theorem sv_is_measureX {K : PySem.W.Frag} {H : Hp} {v : V} (h : ItemOk K H v) : SpV (sp_is_measure K) [v] H (.bl (isMeas 1000000 v)) := fun H1 e Q q E => ⟨v, rfl, h.mono e, q⟩

def sp_is_row (K : PySem.W.Frag) : Sp := fun vs H Q _ => ∃ (x : V) (b : Bool), vs = [x] ∧ RowQ K H 12 1000000 x b ∧ RetV (.bl b) H Q
theorem sv_is_rowX {K : PySem.W.Frag} {H : Hp} {x : V} {b : Bool} (h : RowQ K H 12 1000000 x b) : SpV (sp_is_row K) [x] H (.bl b) := fun H1 e Q q E => ⟨x, b, rfl, h.mono e, q⟩
theorem rowQ_ok {K : PySem.W.Frag} {H : Hp} {a : Addr} {ns : List Int} (hS : SqL K H a (ns.map V.int)) (hR : RowOk ns) : RowQ K H 12 1000000 (.ref a) true := by
  have h := RowQ.lst (m := 12) (g := 1000000) hS (fun v hv => by obtain ⟨i, _, rfl⟩ := List.mem_map.mp hv; exact item_int i)
  have e : ((decide (1 ≤ (ns.map V.int).length) && decide ((ns.map V.int).length ≤ 12)) && (ns.map V.int).all (isMeas 1000000)) = true := by
    rw [all_meas hR.2.2, List.length_map, decide_eq_true hR.1, decide_eq_true hR.2.1]
    rfl
  rw [e] at h
  exact h
theorem sv_is_row {K : PySem.W.Frag} {H : Hp} {a : Addr} {ns : List Int} (hS : SqL K H a (ns.map V.int)) (hR : RowOk ns) : SpV (sp_is_row K) [.ref a] H (.bl true) := sv_is_rowX (rowQ_ok hS hR)

def sp_are_places (K : PySem.W.Frag) : Sp := fun vs H Q _ => ∃ (a : Addr) (ns : List Int) (x : V) (b : Bool), vs = [.ref a, x] ∧ SqL K H a (ns.map V.int) ∧ PairQ K H ns.length x b ∧ RetV (.bl b) H Q
theorem sv_are_placesX {K : PySem.W.Frag} {H : Hp} {a : Addr} {ns : List Int} {x : V} {b : Bool} (hS : SqL K H a (ns.map V.int)) (h : PairQ K H ns.length x b) : SpV (sp_are_places K) [.ref a, x] H (.bl b) := fun H1 e Q q E => ⟨a, ns, x, b, rfl, ex_l e hS, h.mono e, q⟩
theorem sv_are_places {K : PySem.W.Frag} {H : Hp} {a t : Addr} {ns : List Int} {i j : Nat} (hS : SqL K H a (ns.map V.int)) (hT : SqT K H t [.int (i : Int), .int (j : Int)]) (hij : i < j) (hj : j < ns.length) : SpV (sp_are_places K) [.ref a, .ref t] H (.bl true) := by
  have h := sv_are_placesX hS (PairQ.nums (n := ns.length) hT)
  rw [decide_eq_true (show (0 : Int) ≤ (i : Int) by omega), decide_eq_true (show (i : Int) < (j : Int) by omega), decide_eq_true (show (j : Int) < (ns.length : Int) by omega)] at h
  exact h

def sp_can_even (K : PySem.W.Frag) : Sp := fun vs H Q _ => ∃ x y : Int, vs = [.int x, .int y] ∧ RetV (.bl (!decide (x = y) && decide ((x + y) % 2 = 0))) H Q
theorem sv_can_even {K : PySem.W.Frag} {H : Hp} {x y : Int} : SpV (sp_can_even K) [.int x, .int y] H (.bl (!decide (x = y) && decide ((x + y) % 2 = 0))) := fun H1 e Q q E => ⟨x, y, rfl, q⟩

def sp_is_small_row (K : PySem.W.Frag) : Sp := fun vs H Q _ => ∃ (x : V) (b : Bool), vs = [x] ∧ RowQ K H 5 20 x b ∧ RetV (.bl b) H Q
theorem sv_is_small_rowX {K : PySem.W.Frag} {H : Hp} {x : V} {b : Bool} (h : RowQ K H 5 20 x b) : SpV (sp_is_small_row K) [x] H (.bl b) := fun H1 e Q q E => ⟨x, b, rfl, h.mono e, q⟩
theorem rowQ_sm {K : PySem.W.Frag} {H : Hp} {a : Addr} {ns : List Int} (hS : SqL K H a (ns.map V.int)) (hm : Sm ns) : RowQ K H 5 20 (.ref a) true := by
  have h := RowQ.lst (m := 5) (g := 20) hS (fun v hv => by obtain ⟨i, _, rfl⟩ := List.mem_map.mp hv; exact item_int i)
  have e : ((decide (1 ≤ (ns.map V.int).length) && decide ((ns.map V.int).length ≤ 5)) && (ns.map V.int).all (isMeas 20)) = true := by
    rw [all_meas hm.2.2, List.length_map, decide_eq_true hm.1, decide_eq_true hm.2.1]
    rfl
  rw [e] at h
  exact h

def sp_can_be (K : PySem.W.Frag) : Sp := fun vs H Q _ => ∃ (a : Addr) (ns : List Int) (x : V) (b : Bool), vs = [.ref a, x] ∧ SqL K H a (ns.map V.int) ∧ BeQ K H ns x b ∧ RetV (.bl b) H Q
theorem sv_can_be {K : PySem.W.Frag} {H : Hp} {a : Addr} {ns : List Int} {x : V} {b : Bool} (hS : SqL K H a (ns.map V.int)) (h : BeQ K H ns x b) : SpV (sp_can_be K) [.ref a, x] H (.bl b) := fun H1 e Q q E => ⟨a, ns, x, b, rfl, ex_l e hS, h.mono e, q⟩

def sp_are_alike (K : PySem.W.Frag) : Sp := fun vs H Q _ => ∃ (a : Addr) (ns : List Int), vs = [.ref a] ∧ SqS K H a (ns.map V.int) ∧ ns.length ≤ 100 ∧ ns ≠ [] ∧ RetV (.bl (g1 ns)) H Q
theorem sv_are_alike {K : PySem.W.Frag} {H : Hp} {a : Addr} {ns : List Int} (hS : SqS K H a (ns.map V.int)) (hl : ns.length ≤ 100) (h0 : ns ≠ []) : SpV (sp_are_alike K) [.ref a] H (.bl (g1 ns)) := fun H1 e Q q E => ⟨a, ns, rfl, ex_s e hS, hl, h0, q⟩
theorem given_mapB (ns : List Int) (g : Int → Bool) : given (ns.map V.int).length (fun _ => true) (fun i => V.bl (g (ns.getD i 0))) = (ns.map g).map V.bl := by
  unfold given
  rw [List.filter_eq_self.mpr (fun _ _ => rfl), List.length_map]
  refine List.ext_getElem? fun i => ?_
  rw [List.getElem?_map, List.getElem?_map, List.getElem?_map]
  by_cases h : i < ns.length
  · rw [gD_at h, List.getElem?_range h]
    rfl
  · rw [List.getElem?_eq_none (l := ns) (by omega), List.getElem?_eq_none (by rw [List.length_range]; omega)]
    rfl

def sp_refuse_no_row (K : PySem.W.Frag) : Sp := fun vs H Q _ => ∃ (a : Addr) (ns : List Int), vs = [.ref a] ∧ SqL K H a (ns.map V.int) ∧ RowOk ns ∧ RetV .non H Q
theorem sv_refuse_no_row {K : PySem.W.Frag} {H : Hp} {a : Addr} {ns : List Int} (hS : SqL K H a (ns.map V.int)) (hR : RowOk ns) : SpV (sp_refuse_no_row K) [.ref a] H .non := fun H1 e Q q E => ⟨a, ns, rfl, ex_l e hS, hR, q⟩

def sp_refuse_no_small_row (K : PySem.W.Frag) : Sp := fun vs H Q _ => ∃ (a : Addr) (ns : List Int), vs = [.ref a] ∧ SqL K H a (ns.map V.int) ∧ Sm ns ∧ RetV .non H Q
theorem sv_refuse_no_small_row {K : PySem.W.Frag} {H : Hp} {a : Addr} {ns : List Int} (hS : SqL K H a (ns.map V.int)) (hR : Sm ns) : SpV (sp_refuse_no_small_row K) [.ref a] H .non := fun H1 e Q q E => ⟨a, ns, rfl, ex_l e hS, hR, q⟩

def sp_refuse_no_evening (K : PySem.W.Frag) : Sp := fun vs H Q _ => ∃ (a t : Addr) (ns : List Int) (i j : Nat), vs = [.ref a, .ref t] ∧ SqL K H a (ns.map V.int) ∧ SqT K H t [.int (i : Int), .int (j : Int)] ∧ i < j ∧ j < ns.length ∧ okP ns i j = true ∧ RetV .non H Q
theorem sv_refuse_no_evening {K : PySem.W.Frag} {H : Hp} {a t : Addr} {ns : List Int} {i j : Nat} (hS : SqL K H a (ns.map V.int)) (hT : SqT K H t [.int (i : Int), .int (j : Int)]) (hij : i < j) (hj : j < ns.length) (hok : okP ns i j = true) : SpV (sp_refuse_no_evening K) [.ref a, .ref t] H .non := fun H1 e Q q E => ⟨a, t, ns, i, j, rfl, ex_l e hS, ex_t e hT, hij, hj, hok, q⟩

def sp_pairs_to_even (K : PySem.W.Frag) : Sp := fun vs H Q _ => ∃ (a : Addr) (ns : List Int), vs = [.ref a] ∧ SqS K H a (ns.map V.int) ∧ ns.length ≤ 12 ∧ RetP (canL ns) H Q
theorem sn_pairs_to_even {K : PySem.W.Frag} {H : Hp} {a : Addr} {ns : List Int} (hS : SqS K H a (ns.map V.int)) (hl : ns.length ≤ 12) : SpN (sp_pairs_to_even K) [.ref a] H (IsP (canL ns)) := fun H1 e Q q E => ⟨a, ns, rfl, ex_s e hS, hl, q⟩

def sp_row_behind (K : PySem.W.Frag) : Sp := fun vs H Q _ => ∃ (a t : Addr) (ns : List Int) (i j : Nat), vs = [.ref a, .ref t] ∧ SqS K H a (ns.map V.int) ∧ SqT K H t [.int (i : Int), .int (j : Int)] ∧ i < j ∧ j < ns.length ∧ RetL ((evL ns i j).map V.int) H Q
theorem sl_row_behind {K : PySem.W.Frag} {H : Hp} {a t : Addr} {ns : List Int} {i j : Nat} (hS : SqS K H a (ns.map V.int)) (hT : SqT K H t [.int (i : Int), .int (j : Int)]) (hij : i < j) (hj : j < ns.length) : SpL (sp_row_behind K) [.ref a, .ref t] H ((evL ns i j).map V.int) := fun H1 e Q q E => ⟨a, t, ns, i, j, rfl, ex_s e hS, ex_t e hT, hij, hj, q⟩

def sp_evenings (K : PySem.W.Frag) : Sp := fun vs H Q _ => ∃ (a : Addr) (ns : List Int), vs = [.ref a] ∧ SqL K H a (ns.map V.int) ∧ RowOk ns ∧ RetP (canL ns) H Q

def sp_evened (K : PySem.W.Frag) : Sp := fun vs H Q _ => ∃ (a t : Addr) (ns : List Int) (i j : Nat), vs = [.ref a, .ref t] ∧ SqL K H a (ns.map V.int) ∧ RowOk ns ∧ SqT K H t [.int (i : Int), .int (j : Int)] ∧ i < j ∧ j < ns.length ∧ okP ns i j = true ∧ RetL ((evL ns i j).map V.int) H Q

def sp_settled (K : PySem.W.Frag) : Sp := fun vs H Q _ => ∃ (a : Addr) (ns : List Int), vs = [.ref a] ∧ SqL K H a (ns.map V.int) ∧ RowOk ns ∧ RetV (.bl (decide (canL ns = []))) H Q
theorem sn_evenings {K : PySem.W.Frag} {H : Hp} {a : Addr} {ns : List Int} (hS : SqL K H a (ns.map V.int)) (hR : RowOk ns) : SpN (sp_evenings K) [.ref a] H (IsP (canL ns)) := fun H1 e Q q E => ⟨a, ns, rfl, ex_l e hS, hR, q⟩

def sp_fall (K : PySem.W.Frag) : Sp := fun vs H Q _ => ∃ (a t : Addr) (ns : List Int) (i j : Nat), vs = [.ref a, .ref t] ∧ SqL K H a (ns.map V.int) ∧ RowOk ns ∧ SqT K H t [.int (i : Int), .int (j : Int)] ∧ i < j ∧ j < ns.length ∧ okP ns i j = true ∧ RetV (.int ((ns.getD j 0 - ns.getD i 0) * (ns.getD j 0 - ns.getD i 0) / 2)) H Q

def sp_steps (K : PySem.W.Frag) : Sp := sp_stp K stepsL
theorem sn_steps {K : PySem.W.Frag} {H : Hp} {a : Addr} {ns : List Int} (hS : H a = some (.tup (ns.map V.int))) (hm : Sm ns) : SpN (sp_steps K) [.ref a] H (StL (stepsL ns)) := fun H1 e Q q E => ⟨a, ns, rfl, e _ _ hS, hm, q⟩

theorem sn_reach {K : PySem.W.Frag} {F : StF} {fS : Addr} {H : Hp} {a : Addr} {ns : List Int} (hS : RowS K H a ns) (hm : Sm ns) : SpN (sp_reach K F fS) [.ref a, .ref fS] H (fun d H2 => ∃ kvs ks, H2 d = some (.dT kvs) ∧ FndH F (Of H2 d) kvs ks ∧ FinB F ns ks ∧ ks.length ≤ 194481 ∧ ∀ r ∈ ks, Sm r) := fun H1 e Q q E => ⟨a, ns, rfl, hS.mono e, hm, fun d H2 kvs ks h1 h2 h3 h4 h5 h6 h7 => q d H2 h1 h2 ⟨kvs, ks, h3, h4, h5, h6, h7⟩⟩
def sp_ends (K : PySem.W.Frag) : Sp := fun vs H Q _ => ∃ (a : Addr) (ns : List Int), vs = [.ref a] ∧ SqL K H a (ns.map V.int) ∧ Sm ns ∧ ∀ p H2 rs, H p = none → Ex H H2 → H2 p = some (.lst rs) → RowsH H2 rs (endsL ns) → (∀ t, .ref t ∈ rs → H t = none ∧ t ≠ p) → Q (.ref p) H2

def sp__law_strange (K : PySem.W.Frag) : Sp := fun vs H Q _ => ∃ far : Int, vs = [.int far] ∧ 0 < far ∧ ∀ p H2, H p = none → Ex H H2 → HasAll 9 (Strg K) p H2 → Q (.ref p) H2
theorem sn__law_strange {K : PySem.W.Frag} {H : Hp} {far : Int} (hf : 0 < far) : SpN (sp__law_strange K) [.int far] H (HasAll 9 (Strg K)) := fun H1 e Q q E => ⟨far, rfl, hf, fun p H2 hp e2 h => q p H2 hp e2 h⟩

def IsBad (K : PySem.W.Frag) (m : Nat) (g : Int) (p : Addr) (H : Hp) : Prop := ∃ xs, H p = some (.lst xs) ∧ xs.length ≤ 100 ∧ ∀ v ∈ xs, RowB K m g v H
def sp__law_no_rows (K : PySem.W.Frag) : Sp := fun vs H Q _ => ∃ (far : Int) (m : Nat) (g : Int), vs = [.int far, .int (m : Int), .int g] ∧ 0 < far ∧ m ≤ 1000 ∧ 0 ≤ g ∧ ∀ p H2, H p = none → Ex H H2 → IsBad K m g p H2 → Q (.ref p) H2
theorem sn__law_no_rows {K : PySem.W.Frag} {H : Hp} {far : Int} {m : Nat} {g : Int} (hf : 0 < far) (hm : m ≤ 1000) (hg : 0 ≤ g) : SpN (sp__law_no_rows K) [.int far, .int (m : Int), .int g] H (IsBad K m g) := fun H1 e Q q E => ⟨far, m, g, rfl, hf, hm, hg, fun p H2 hp e2 h => q p H2 hp e2 h⟩
theorem bad_big {g i : Int} (h : g < i) : isMeas g (.int i) = false := by
  show (decide (0 ≤ i) && decide (i ≤ g)) = false
  rw [decide_eq_false (show ¬ i ≤ g by omega), Bool.and_false]
theorem two_item {K : PySem.W.Frag} {H : Hp} {w : V} (h : w ∈ [V.int 2, V.int 0]) : ItemOk K H w := by
  rcases List.mem_cons.mp h with rfl | h
  · exact item_int 2
  · rw [List.mem_singleton.mp h]
    exact item_int 0
theorem rep_bad {K : PySem.W.Frag} {m : Nat} {g i : Int} {H : Hp} {p : Addr} {k : Int} (h : H p = some (.lst (List.replicate k.toNat (.int i)))) (hk : (m : Int) < k) : RowB K m g (.ref p) H := rowB_long h (by omega)

def sp__law_cell_at (K : PySem.W.Frag) : Sp := fun vs H Q _ => ∃ (a : Addr) (ns : List Int) (k : Int), vs = [.ref a, .int k] ∧ SqL K H a (ns.map V.int) ∧ 0 ≤ k ∧ RetV (.int (cellF ns k)) H Q

def sp__law_draw (K : PySem.W.Frag) : Sp := fun vs H Q _ => ∃ c k m : Int, vs = [.int c, .int k, .int m] ∧ 0 ≤ k ∧ 0 < m ∧ RetV (.int (drawF c k m)) H Q

def sp__law_value (K : PySem.W.Frag) : Sp := fun vs H Q _ => ∃ c t : Int, vs = [.int c, .int t] ∧ Bt 1100000 c ∧ 0 ≤ t ∧ t ≤ 1000 ∧ RetV (.int (valueF c t)) H Q
theorem sv__law_draw {K : PySem.W.Frag} {H : Hp} {c k m : Int} (hk : 0 ≤ k) (hm : 0 < m) : SpV (sp__law_draw K) [.int c, .int k, .int m] H (.int (drawF c k m)) := fun H1 e Q q E => ⟨c, k, m, rfl, hk, hm, q⟩

/-- a row is refused -/
def sp_refuse_no_row_bad (K : PySem.W.Frag) (C : Addr) : Sp := fun vs H Q E => ∃ x, vs = [x] ∧ RowQ K H 12 1000000 x false ∧ ∀ H', Ex H H' → E (.ref C) none H'
def sp_row2_bad (K : PySem.W.Frag) (C : Addr) : Sp := fun vs H Q E => ∃ x y, vs = [x, y] ∧ RowQ K H 12 1000000 x false ∧ ∀ H', Ex H H' → E (.ref C) none H'
/-- x is no evening of the row ns -/
def NoEv (K : PySem.W.Frag) (H : Hp) (ns : List Int) (x : V) : Prop := PairQ K H ns.length x false ∨ ∃ (t : Addr) (i j : Nat), x = .ref t ∧ SqT K H t [.int (i : Int), .int (j : Int)] ∧ i < j ∧ j < ns.length ∧ okP ns i j = false
theorem NoEv.mono {K : PySem.W.Frag} {H H' : Hp} {ns : List Int} {x : V} (e : Ex H H') (h : NoEv K H ns x) : NoEv K H' ns x := by
  rcases h with h | ⟨t, i, j, h1, h2, h3⟩
  · exact .inl (h.mono e)
  · exact .inr ⟨t, i, j, h1, ex_t e h2, h3⟩
theorem NoEv.be {K : PySem.W.Frag} {H : Hp} {ns : List Int} {x : V} (h : NoEv K H ns x) : BeQ K H ns x false := by
  rcases h with h | ⟨t, i, j, rfl, h1, h2, h3, h4⟩
  · exact .no h
  · rw [← h4]
    exact .yes h1 h2 h3
def sp_small_bad (K : PySem.W.Frag) (C : Addr) : Sp := fun vs H Q E => ∃ x, vs = [x] ∧ RowQ K H 5 20 x false ∧ ∀ H', Ex H H' → E (.ref C) none H'
def sp_refuse_no_evening_bad (K : PySem.W.Frag) (C : Addr) : Sp := fun vs H Q E => ∃ (a : Addr) (ns : List Int) (x : V), vs = [.ref a, x] ∧ SqL K H a (ns.map V.int) ∧ RowOk ns ∧ NoEv K H ns x ∧ ∀ H', Ex H H' → E (.ref C) none H'
section
variable {P : Program} {w : World} {K : PySem.W.Frag} {mg : Str → Option Value} {base : Heap}
theorem ok_is_number {f : Addr} {fd : FuncData} (F : Fun K "is_number" "is_number" s_is_number f fd) (B : Bi mg)   : FnOk P w K mg base CX0 1 f fd P_is_number (sp_is_number K) := by
  refine F.ok sc_is_number (fun vs H Q E h => ?_) (fun cdv A outer s H vs Q E hr h => ?_)
  · obtain ⟨v, rfl, hv, q⟩ := h
    rfl
  · obtain ⟨v, rfl, hv, q⟩ := h
    refine ⟨_, (pss_one (ps_ret (pe_and (pe_callB call_isi (by rfl) B.isinstance_ (by decide +kernel) (pa_cons (pv 0) (pa_cons (pe_bltn (v := .ty "int") (by rfl) B.int_ (by decide +kernel) rfl) pa_nil))) (pe_one (pe_not (pe_callB call_isi (by rfl) B.isinstance_ (by decide +kernel) (pa_cons (pv 0) (pa_cons (pe_bltn (v := .ty "bool") (by rfl) B.bool_ (by decide +kernel) rfl) pa_nil)))))))), ?_⟩
    rcases hv with ⟨i, rfl⟩ | ⟨n, ty, hn, ⟨k1, k2⟩ | k1⟩
    · exact s_ret (ev_andV (a := true) (b := !false) (ev_int1 (ev_var rfl) ev_c) fun _ => ev_notV (ev_int2 (ev_var rfl) ev_c)) q
    · rw [hn] at q
      exact s_ret (ev_andV (a := true) (b := !true) (ev_isi (ev_var rfl) ev_c ty (kit_ty k1)) fun _ => ev_notV (ev_isi (ev_var rfl) ev_c ty (kit_ty k2))) q
    · rw [hn] at q
      exact s_ret (ev_is (ev_andV (a := false) (b := false) (ev_isi (ev_var rfl) ev_c ty (kit_ty k1)) fun h => Bool.noConfusion h) rfl) q
theorem ok_is_measure {f : Addr} {fd : FuncData} (F : Fun K "is_measure" "is_measure" s_is_measure f fd) (B : Bi mg) {t1 t2 t3 t4 : Tok} (M : Mo mg t1 t2 t3 t4)  {f_is_number : Addr} {fd_is_number : FuncData} (C_is_number : Cal P w K mg base CX0 1 "is_number" P_is_number (sp_is_number K) f_is_number fd_is_number) : FnOk P w K mg base CX0 2 f fd P_is_measure (sp_is_measure K) := by
  refine F.ok sc_is_measure (fun vs H Q E h => ?_) (fun cdv A outer s H vs Q E hr h => ?_)
  · obtain ⟨v, rfl, hv, q⟩ := h
    rfl
  · obtain ⟨v, rfl, hv, q⟩ := h
    refine ⟨_, (pss_one (ps_ret (pe_and (pe_call C_is_number.ok (hr.mono (by decide)) (by rfl) C_is_number.g C_is_number.kp C_is_number.b .nil pass0 (pa_cons (pv 0) pa_nil)) (pe_one (pe_chain op_le op_le pe_int (pv 0) (pe_glob (v := .int 1000000) (by rfl) M.MOST_MEASURES_ ⟨_, rfl⟩)))))), ?_⟩
    rcases id hv with ⟨i, rfl⟩ | ⟨n, ty, hn, _⟩
    · exact s_ret (ev_andV (a := true) (b := decide (0 ≤ i) && decide (i ≤ 1000000)) (ev_call1 (ea_cons (ev_var rfl) ea_nil) sv_is_number) fun _ => ev_chain ev_c (ev_var rfl) ev_c rv_I0 fun _ => rv_I0) q
    · rw [isMeas_no hn] at q
      exact s_ret (ev_is (ev_andV (a := isNum v) (b := false) (ev_call1 (ea_cons (ev_var rfl) ea_nil) (sv_is_numberX hv)) fun h => by rw [hn] at h; cases h) (by rw [hn]; rfl)) q
theorem ok_is_row {f : Addr} {fd : FuncData} (F : Fun K "is_row" "is_row" s_is_row f fd) (B : Bi mg) {t1 t2 t3 t4 : Tok} (M : Mo mg t1 t2 t3 t4)  {f_is_measure : Addr} {fd_is_measure : FuncData} (C_is_measure : Cal P w K mg base CX0 2 "is_measure" P_is_measure (sp_is_measure K) f_is_measure fd_is_measure) : FnOk P w K mg base CX0 3 f fd P_is_row (sp_is_row K) := by
  refine F.ok sc_is_row (fun vs H Q E h => ?_) (fun cdv A outer s H vs Q E hr h => ?_)
  · obtain ⟨x, b, rfl, hx, q⟩ := h
    rfl
  · obtain ⟨x, b, rfl, hx, q⟩ := h
    refine ⟨_, (pss_cons (ps_if (pt_not (pt_val (pe_callB call_isi (by rfl) B.isinstance_ (by decide +kernel) (pa_cons (pv 0) (pa_cons (pe_bltn (v := .ty "list") (by rfl) B.list_ (by decide +kernel) rfl) pa_nil))))) (pss_one (ps_ret pe_bl)) pss_nil) (pss_cons (ps_if (pt_not (pt_chain op_le op_le pe_int (pe_callB call_len_seq (by rfl) B.len_ (by decide +kernel) (pa_cons (pv 0) pa_nil)) (pe_glob (v := .int 12) (by rfl) M.MOST_GLASSES_ ⟨_, rfl⟩))) (pss_one (ps_ret pe_bl)) pss_nil) (pss_one (ps_ret (pe_callB (cr_all rfl) (by rfl) B.all_ (by decide +kernel) (pa_cons (pe_lc (own := [("amount", 1)]) (tt := tYes) rfl sc_is_row.nd (pi_list (pv 0)) (blkOk_by (own := [("amount", 1)]) (N := N_is_row) (sc := defScope s_is_row) (by decide +kernel)) (fun _ _ _ _ _ => by exact (pg_name (i := 1) sc_is_row.nd rfl (Or.inl rfl))) (fun _ _ _ _ _ => by exact pts_nil) (fun _ _ _ _ _ => by exact (pe_call C_is_measure.ok (hr.mono (by decide)) (by rfl) C_is_measure.g C_is_measure.kp C_is_measure.b .nil pass0 (pa_cons (pv 1) pa_nil)))) pa_nil)))))), ?_⟩
    cases hx with
    | @other x n ty k =>
      exact q_when (b := true) (et_is (et_not (et_B (ev_isi (ev_var rfl) ev_c ty (kit_ty k)))) rfl) (fun _ H1 e1 => s_ret ev_c fun H2 e2 => q H2 (e1.trans e2)) (fun hb => Bool.noConfusion hb)
    | @lst a xs hS hi =>
      refine q_when (b := false) (et_not (et_B (ev_isl (ev_var rfl) ev_c hS))) (fun hb => Bool.noConfusion hb) (fun hb H1 e1 => ?_)
      have hS1 := ex_l e1 hS
      have d1 : decide (1 ≤ xs.length) = decide ((1 : Int) ≤ (xs.length : Int)) := decide_eq_decide.mpr (by omega)
      have d2 : decide (xs.length ≤ 12) = decide ((xs.length : Int) ≤ 12) := decide_eq_decide.mpr (by omega)
      rw [d1, d2] at q
      refine q_when (b := !(decide ((1 : Int) ≤ (xs.length : Int)) && decide ((xs.length : Int) ≤ 12))) (et_not (et_test (ev_chain ev_c (ev_lenL (ev_var rfl) hS1) ev_c rv_I0 fun _ => rv_I0))) (fun hb H2 e2 => ?_) (fun hb H2 e2 => ?_)
      · have hb : (decide ((1 : Int) ≤ (xs.length : Int)) && decide ((xs.length : Int) ≤ 12)) = false := by
          rw [Bool.not_eq_true'] at hb
          exact hb
        rw [hb] at q
        exact s_ret ev_c fun H3 e3 => q H3 ((e1.trans e2).trans e3)
      · have hb : (decide ((1 : Int) ≤ (xs.length : Int)) && decide ((xs.length : Int) ≤ 12)) = true := by
          rw [Bool.not_eq_false'] at hb
          exact hb
        rw [hb] at q
        have hl12 : xs.length ≤ 12 := by
          rw [Bool.and_eq_true] at hb
          have := of_decide_eq_true hb.2
          omega
        refine s_ret (ev_is (ev_all (el_lcG (K := K) (rows := xs) (isMeas 1000000) (ev_var rfl) (ex_l e2 hS1) rfl (sz_of (by omega : xs.length.succ ≤ 100000)) (fun _ => rfl) (fun i v r H3 e3 hv hr => ?_))) ?_) fun H3 e3 => q H3 ((e1.trans e2).trans e3)
        · rw [hv] at hr
          cases hr
          exact ev_call1 (ea_cons (ev_var rfl) ea_nil) (sv_is_measureX ((hi v (List.mem_of_getElem? hv)).mono ((e1.trans e2).trans e3)))
        · rw [List.all_map]
          rfl
theorem ok_are_places {f : Addr} {fd : FuncData} (F : Fun K "are_places" "are_places" s_are_places f fd) (B : Bi mg)  {f_is_number : Addr} {fd_is_number : FuncData} (C_is_number : Cal P w K mg base CX0 1 "is_number" P_is_number (sp_is_number K) f_is_number fd_is_number) : FnOk P w K mg base CX0 2 f fd P_are_places (sp_are_places K) := by
  refine F.ok sc_are_places (fun vs H Q E h => ?_) (fun cdv A outer s H vs Q E hr h => ?_)
  · obtain ⟨a, ns, x, b, rfl, hS, hx, q⟩ := h
    rfl
  · obtain ⟨a, ns, x, b, rfl, hS, hx, q⟩ := h
    refine ⟨_, (pss_cons (ps_if (PW.pt (pw_or (pt_not (pt_val (pe_callB call_isi (by rfl) B.isinstance_ (by decide +kernel) (pa_cons (pv 1) (pa_cons (pe_bltn (v := .ty "tuple") (by rfl) B.tuple_ (by decide +kernel) rfl) pa_nil))))) (pw_or1 (pt_cmpR op_ne (pe_callB call_len_seq (by rfl) B.len_ (by decide +kernel) (pa_cons (pv 1) pa_nil)) pe_int (nomark _))))) (pss_one (ps_ret pe_bl)) pss_nil) (pss_cons (ps_asg (pv 1) (pg_tup (by rfl) (pgs_cons (pg_name (i := 2) sc_are_places.nd rfl (Or.inl rfl)) (pgs_cons (pg_name (i := 3) sc_are_places.nd rfl (Or.inl rfl)) pgs_nil)))) (pss_cons (ps_if (PW.pt (pw_or (pt_not (pt_val (pe_call C_is_number.ok (hr.mono (by decide)) (by rfl) C_is_number.g C_is_number.kp C_is_number.b .nil pass0 (pa_cons (pv 2) pa_nil)))) (pw_or1 (pt_not (pt_val (pe_call C_is_number.ok (hr.mono (by decide)) (by rfl) C_is_number.g C_is_number.kp C_is_number.b .nil pass0 (pa_cons (pv 3) pa_nil))))))) (pss_one (ps_ret pe_bl)) pss_nil) (pss_one (ps_ret (pe_chain3 op_le op_lt op_lt pe_int (pv 2) (pv 3) (pe_callB call_len_seq (by rfl) B.len_ (by decide +kernel) (pa_cons (pv 0) pa_nil)))))))), ?_⟩
    cases hx with
    | @other x n ty k =>
      exact q_when (b := true) (et_is (et_or (a := true) (b := true) (et_is (et_not (et_B (ev_isi (ev_var rfl) ev_c ty (kit_ty k)))) rfl) fun h => Bool.noConfusion h) rfl) (fun _ H1 e1 => s_ret ev_c fun H2 e2 => q H2 (e1.trans e2)) (fun hb => Bool.noConfusion hb)
    | @long t xs hT hl =>
      have hne : (!decide ((xs.length : Int) = 2)) = true := by
        rw [decide_eq_false (by omega)]
        rfl
      exact q_when (b := true) (et_is (et_or (a := !true) (b := true) (et_not (et_B (ev_ist (ev_var rfl) ev_c hT))) fun _ => et_test (ev_is (ev_neI (ev_lenT (ev_var rfl) hT) ev_c) (by rw [hne]))) rfl) (fun _ H1 e1 => s_ret ev_c fun H2 e2 => q H2 (e1.trans e2)) (fun hb => Bool.noConfusion hb)
    | @two t x y hT h1 h2 no =>
      refine q_when (b := false) (et_or (a := !true) (b := !true) (et_not (et_B (ev_ist (ev_var rfl) ev_c hT))) fun _ => et_test (ev_neI (ev_lenT (ev_var rfl) hT) ev_c)) (fun hb => Bool.noConfusion hb) (fun hb H1 e1 => ?_)
      refine q_unpack2 (ev_var rfl) (ex_t e1 hT) fun H2 e2 => ?_
      have e12 := e1.trans e2
      refine q_when (b := true) (et_is (et_or (a := !isNum x) (b := !isNum y) (et_not (et_B (ev_call1 (ea_cons (ev_var rfl) ea_nil) (sv_is_numberX (h1.mono e12))))) fun _ => (et_not (et_B (ev_call1 (ea_cons (ev_var rfl) ea_nil) (sv_is_numberX (h2.mono e12)))))) ?_) (fun _ H3 e3 => s_ret ev_c fun H4 e4 => q H4 (e12.trans (e3.trans e4))) (fun hb => Bool.noConfusion hb)
      rcases no with no | no
      · rw [no]
        rfl
      · rw [no, Bool.or_comm]
        rfl
    | @nums t i j hT =>
      refine q_when (b := false) (et_or (a := !true) (b := !true) (et_not (et_B (ev_ist (ev_var rfl) ev_c hT))) fun _ => et_test (ev_neI (ev_lenT (ev_var rfl) hT) ev_c)) (fun hb => Bool.noConfusion hb) (fun hb H1 e1 => ?_)
      refine q_unpack2 (ev_var rfl) (ex_t e1 hT) fun H2 e2 => ?_
      refine q_when (b := false) (et_or (a := !true) (b := !true) (et_not (et_B (ev_call1 (ea_cons (ev_var rfl) ea_nil) sv_is_number))) fun _ => (et_not (et_B (ev_call1 (ea_cons (ev_var rfl) ea_nil) sv_is_number)))) (fun hb => Bool.noConfusion hb) (fun hb H3 e3 => ?_)
      have e03 := (e1.trans e2).trans e3
      refine s_ret (ev_is (ev_chain3 ev_c (ev_var rfl) (ev_var rfl) (ev_lenL (ev_var rfl) (ex_l e03 hS)) rv_I0 rv_I0 rv_I0) ?_) fun H4 e4 => q H4 (e03.trans e4)
      rw [List.length_map]
theorem ok_can_even {f : Addr} {fd : FuncData} (F : Fun K "can_even" "can_even" s_can_even f fd) (B : Bi mg)   : FnOk P w K mg base CX0 1 f fd P_can_even (sp_can_even K) := by
  refine F.ok sc_can_even (fun vs H Q E h => ?_) (fun cdv A outer s H vs Q E hr h => ?_)
  · obtain ⟨x, y, rfl, q⟩ := h
    rfl
  · obtain ⟨x, y, rfl, q⟩ := h
    refine ⟨_, (pss_one (ps_ret (pe_and (pe_cmpR op_ne (pv 0) (pv 1) (nomark _)) (pe_one (pe_cmpR op_eq (pe_op op_mod (pe_op op_add (pv 0) (pv 1)) pe_int) pe_int (nomark _)))))), ?_⟩
    exact s_ret (ev_andV (ev_neI (ev_var rfl) (ev_var rfl)) fun _ => ev_eqI (ev_mod (ev_add (ev_var rfl) (ev_var rfl)) ev_c (by decide)) ev_c) q
theorem ok_is_small_row {f : Addr} {fd : FuncData} (F : Fun K "is_small_row" "is_small_row" s_is_small_row f fd) (B : Bi mg) {t1 t2 t3 t4 : Tok} (M : Mo mg t1 t2 t3 t4)  {f_is_row : Addr} {fd_is_row : FuncData} (C_is_row : Cal P w K mg base CX0 3 "is_row" P_is_row (sp_is_row K) f_is_row fd_is_row) : FnOk P w K mg base CX0 4 f fd P_is_small_row (sp_is_small_row K) := by
  refine F.ok sc_is_small_row (fun vs H Q E h => ?_) (fun cdv A outer s H vs Q E hr h => ?_)
  · obtain ⟨x, b, rfl, hx, q⟩ := h
    rfl
  · obtain ⟨x, b, rfl, hx, q⟩ := h
    refine ⟨_, (pss_cons (ps_if (PW.pt (pw_or (pt_not (pt_val (pe_call C_is_row.ok (hr.mono (by decide)) (by rfl) C_is_row.g C_is_row.kp C_is_row.b .nil pass0 (pa_cons (pv 0) pa_nil)))) (pw_or1 (pt_cmpR op_gt (pe_callB call_len_seq (by rfl) B.len_ (by decide +kernel) (pa_cons (pv 0) pa_nil)) (pe_glob (v := .int 5) (by rfl) M.MOST_SMALL_GLASSES_ ⟨_, rfl⟩) (nomark _))))) (pss_one (ps_ret pe_bl)) pss_nil) (pss_one (ps_ret (pe_callB (cr_all rfl) (by rfl) B.all_ (by decide +kernel) (pa_cons (pe_lc (own := [("amount", 1)]) (tt := tYes) rfl sc_is_small_row.nd (pi_list (pv 0)) (blkOk_by (own := [("amount", 1)]) (N := N_is_small_row) (sc := defScope s_is_small_row) (by decide +kernel)) (fun _ _ _ _ _ => by exact (pg_name (i := 1) sc_is_small_row.nd rfl (Or.inl rfl))) (fun _ _ _ _ _ => by exact pts_nil) (fun _ _ _ _ _ => by exact (pe_cmpR op_le (pv 1) (pe_glob (v := .int 20) (by rfl) M.MOST_SMALL_MEASURES_ ⟨_, rfl⟩) (nomark _)))) pa_nil))))), ?_⟩
    cases hx with
    | @other x n ty k =>
      exact q_when (b := true) (et_is (et_or (a := !false) (b := true) (et_not (et_B (ev_call1 (ea_cons (ev_var rfl) ea_nil) (sv_is_rowX (.other ty k))))) fun h => Bool.noConfusion h) rfl) (fun _ H1 e1 => s_ret ev_c fun H2 e2 => q H2 (e1.trans e2)) (fun hb => Bool.noConfusion hb)
    | @lst a xs hS hi =>
      have hR := RowQ.lst (m := 12) (g := 1000000) hS hi
      have up : (xs.all (isMeas 20)) = true → (xs.all (isMeas 1000000)) = true := fun h => by
        rw [List.all_eq_true] at h ⊢
        intro v hv
        have := h v hv
        cases v with
        | int i =>
          have h2 : (decide (0 ≤ i) && decide (i ≤ (20 : Int))) = true := this
          rw [Bool.and_eq_true] at h2
          have a1 := of_decide_eq_true h2.1
          have a2 := of_decide_eq_true h2.2
          show (decide (0 ≤ i) && decide (i ≤ (1000000 : Int))) = true
          rw [decide_eq_true a1, decide_eq_true (show i ≤ 1000000 by omega)]
          rfl
        | _ => cases this
      generalize hb12 : ((decide (1 ≤ xs.length) && decide (xs.length ≤ 12)) && xs.all (isMeas 1000000)) = b12 at hR
      have hlen : ∀ {H1 : Hp}, Ex H H1 → Ev (tOp (rI0 fun i j => .bl (decide (j < i))) (tCB (fun xs H Q => ∃ p ys, xs = [.ref p] ∧ (SqL K H p ys ∨ SqT K H p ys) ∧ Q (.int ys.length) H) (tCons (tVar 0) tNil)) (tC (.int 5))) [some (.ref a), none] H1 (.bl (decide ((5 : Int) < (xs.length : Int)))) := fun e1 => ev_gt (ev_lenL (ev_var rfl) (ex_l e1 hS)) ev_c
      cases b12 with
      | false =>
        have hb : ((decide (1 ≤ xs.length) && decide (xs.length ≤ 5)) && xs.all (isMeas 20)) = false := by
          cases h : ((decide (1 ≤ xs.length) && decide (xs.length ≤ 5)) && xs.all (isMeas 20)) with
          | false => rfl
          | true =>
            rw [Bool.and_eq_true, Bool.and_eq_true] at h
            have l1 := of_decide_eq_true h.1.1
            have l2 := of_decide_eq_true h.1.2
            rw [decide_eq_true l1, decide_eq_true (show xs.length ≤ 12 by omega), up h.2] at hb12
            cases hb12
        rw [hb] at q
        exact q_when (b := true) (et_is (et_or (a := !false) (b := true) (et_not (et_B (ev_call1 (ea_cons (ev_var rfl) ea_nil) (sv_is_rowX hR)))) fun h => Bool.noConfusion h) rfl) (fun _ H1 e1 => s_ret ev_c fun H2 e2 => q H2 (e1.trans e2)) (fun hb => Bool.noConfusion hb)
      | true =>
        rw [Bool.and_eq_true, Bool.and_eq_true] at hb12
        have l1 := of_decide_eq_true hb12.1.1
        have l12 := of_decide_eq_true hb12.1.2
        by_cases l5 : xs.length ≤ 5
        · refine q_when (b := false) (et_is (et_or (a := !true) (b := decide ((5 : Int) < (xs.length : Int))) (et_not (et_B (ev_call1 (ea_cons (ev_var rfl) ea_nil) (sv_is_rowX hR)))) fun _ => et_test (hlen (Ex.refl H))) (by rw [decide_eq_false (show ¬ (5 : Int) < (xs.length : Int) by omega)]; rfl)) (fun hb => Bool.noConfusion hb) (fun hb H2 e2 => ?_)
          rw [decide_eq_true l1, decide_eq_true l5] at q
          refine s_ret (ev_is (ev_all (el_lcG (K := K) (rows := xs) (isMeas 20) (ev_var rfl) (ex_l e2 hS) rfl (sz_of (by omega : xs.length.succ ≤ 100000)) (fun _ => rfl) (fun i v r H3 e3 hv hr => ?_))) ?_) fun H3 e3 => q H3 (e2.trans e3)
          · rw [hv] at hr
            cases hr
            have hm := List.all_eq_true.mp hb12.2 v (List.mem_of_getElem? hv)
            cases v with
            | int i =>
              have h2 : (decide (0 ≤ i) && decide (i ≤ (1000000 : Int))) = true := hm
              rw [Bool.and_eq_true] at h2
              refine ev_is (ev_le (ev_var rfl) ev_c) ?_
              show V.bl (decide (i ≤ 20)) = V.bl (decide (0 ≤ i) && decide (i ≤ (20 : Int)))
              rw [h2.1]
              rfl
            | _ => cases hm
          · rw [List.all_map]
            rfl
        · rw [decide_eq_false l5, Bool.and_false, Bool.false_and] at q
          exact q_when (b := true) (et_is (et_or (a := !true) (b := decide ((5 : Int) < (xs.length : Int))) (et_not (et_B (ev_call1 (ea_cons (ev_var rfl) ea_nil) (sv_is_rowX hR)))) fun _ => et_test (hlen (Ex.refl H))) (by rw [decide_eq_true (show (5 : Int) < (xs.length : Int) by omega)]; rfl)) (fun _ H1 e1 => s_ret ev_c fun H2 e2 => q H2 (e1.trans e2)) (fun hb => Bool.noConfusion hb)
theorem ok_can_be {f : Addr} {fd : FuncData} (F : Fun K "can_be" "can_be" s_can_be f fd) (B : Bi mg)  {f_are_places : Addr} {fd_are_places : FuncData} (C_are_places : Cal P w K mg base CX0 2 "are_places" P_are_places (sp_are_places K) f_are_places fd_are_places) {f_can_even : Addr} {fd_can_even : FuncData} (C_can_even : Cal P w K mg base CX0 1 "can_even" P_can_even (sp_can_even K) f_can_even fd_can_even) : FnOk P w K mg base CX0 3 f fd P_can_be (sp_can_be K) := by
  refine F.ok sc_can_be (fun vs H Q E h => ?_) (fun cdv A outer s H vs Q E hr h => ?_)
  · obtain ⟨a, ns, x, b, rfl, hS, hx, q⟩ := h
    rfl
  · obtain ⟨a, ns, x, b, rfl, hS, hx, q⟩ := h
    refine ⟨_, (pss_cons (ps_if (pt_not (pt_val (pe_call C_are_places.ok (hr.mono (by decide)) (by rfl) C_are_places.g C_are_places.kp C_are_places.b .nil pass0 (pa_cons (pv 0) (pa_cons (pv 1) pa_nil))))) (pss_one (ps_ret pe_bl)) pss_nil) (pss_cons (ps_asg (pv 1) (pg_tup (by rfl) (pgs_cons (pg_name (i := 2) sc_can_be.nd rfl (Or.inl rfl)) (pgs_cons (pg_name (i := 3) sc_can_be.nd rfl (Or.inl rfl)) pgs_nil)))) (pss_one (ps_ret (pe_call C_can_even.ok (hr.mono (by decide)) (by rfl) C_can_even.g C_can_even.kp C_can_even.b .nil pass0 (pa_cons (pe_ix ix_list (pv 0) (pv 2) (fun _ _ => rfl)) (pa_cons (pe_ix ix_list (pv 0) (pv 3) (fun _ _ => rfl)) pa_nil))))))), ?_⟩
    cases hx with
    | no hx =>
      exact q_when (b := true) (et_is (et_not (et_B (ev_call1 (ea_cons (ev_var rfl) (ea_cons (ev_var rfl) ea_nil)) (sv_are_placesX hS hx)))) rfl) (fun _ H1 e1 => s_ret ev_c fun H2 e2 => q H2 (e1.trans e2)) (fun hb => Bool.noConfusion hb)
    | @yes t i j hT hij hj =>
      refine q_when (b := false) (et_is (et_not (et_B (ev_call1 (ea_cons (ev_var rfl) (ea_cons (ev_var rfl) ea_nil)) (sv_are_places hS hT hij hj)))) rfl) (fun hb => Bool.noConfusion hb) (fun _ H1 e1 => ?_)
      refine q_unpack2 (ev_var rfl) (ex_t e1 hT) fun H2 e2 => ?_
      have e12 := e1.trans e2
      have hS2 := ex_l e12 hS
      exact s_ret (ev_call1 (ea_cons (ev_ixL (ev_var rfl) (ev_var rfl) hS2 (int_at (by omega : i < ns.length))) (ea_cons (ev_ixL (ev_var rfl) (ev_var rfl) hS2 (int_at hj)) ea_nil)) sv_can_even) fun H3 e3 => q H3 (e12.trans e3)
theorem ok_are_alike {f : Addr} {fd : FuncData} (F : Fun K "are_alike" "are_alike" s_are_alike f fd) (B : Bi mg)   : FnOk P w K mg base CX0 1 f fd P_are_alike (sp_are_alike K) := by
  refine F.ok sc_are_alike (fun vs H Q E h => ?_) (fun cdv A outer s H vs Q E hr h => ?_)
  · obtain ⟨a, ns, rfl, hS, hl, h0, q⟩ := h
    rfl
  · obtain ⟨a, ns, rfl, hS, hl, h0, q⟩ := h
    refine ⟨_, (pss_one (ps_ret (pe_callB (cr_all rfl) (by rfl) B.all_ (by decide +kernel) (pa_cons (pe_lc (own := [("amount", 1)]) (tt := tYes) rfl sc_are_alike.nd (pi_seq (pv 0)) (blkOk_by (own := [("amount", 1)]) (N := N_are_alike) (sc := defScope s_are_alike) (by decide +kernel)) (fun _ _ _ _ _ => by exact (pg_name (i := 1) sc_are_alike.nd rfl (Or.inl rfl))) (fun _ _ _ _ _ => by exact pts_nil) (fun _ _ _ _ _ => by exact (pe_cmpR op_eq (pv 1) (pe_ix (ix_seq_K (K := K)) (pv 0) pe_int (fun _ _ => rfl)) (nomark _)))) pa_nil)))), ?_⟩
    have hl2 := el_lcQ (K := K) (j := 1) (vs := [1]) (te := tOp rEq (tVar 1) (tOp (rIx K) (tVar 0) (tC (.int 0)))) (fun _ => true) (fun i => .bl (decide (ns.getD i 0 = ns.getD 0 0))) (ev_var (σ := [some (.ref a), none]) (i := 0) rfl) hS (by rw [List.length_map]; omega) (fun _ => rfl) (fun i x H1 e1 hx => et_yes) (fun i x H1 e1 hx _ => by
      have hi : i < ns.length := by
        have := (List.getElem?_eq_some_iff.mp hx).1
        rwa [List.length_map] at this
      rw [List.getElem?_map, gD_at hi] at hx
      cases hx
      exact ev_eqI (ev_var rfl) (ev_ixQ (ev_var rfl) ev_c (ex_s e1 hS) (int_at (List.length_pos_iff.mpr h0))))
    rw [given_mapB ns fun x => decide (x = ns.getD 0 0)] at hl2
    exact s_ret (ev_is (ev_all hl2) (by rw [g1_all h0])) fun H1 e1 => q H1 e1
theorem ok_refuse_no_row {f : Addr} {fd : FuncData} (F : Fun K "refuse_no_row" "refuse_no_row" s_refuse_no_row f fd) (B : Bi mg)  {f_is_row : Addr} {fd_is_row : FuncData} (C_is_row : Cal P w K mg base CX0 3 "is_row" P_is_row (sp_is_row K) f_is_row fd_is_row) : FnOk P w K mg base CX0 4 f fd P_refuse_no_row (sp_refuse_no_row K) := by
  refine F.ok sc_refuse_no_row (fun vs H Q E h => ?_) (fun cdv A outer s H vs Q E hr h => ?_)
  · obtain ⟨a, ns, rfl, hS, hR, q⟩ := h
    rfl
  · obtain ⟨a, ns, rfl, hS, hR, q⟩ := h
    refine ⟨_, (pss_one (ps_if (pt_not (pt_val (pe_call C_is_row.ok (hr.mono (by decide)) (by rfl) C_is_row.g C_is_row.kp C_is_row.b .nil pass0 (pa_cons (pv 0) pa_nil)))) (pss_one ps_never) pss_nil)), ?_⟩
    exact s_when (et_not (et_B (ev_call1 (ea_cons (ev_var rfl) ea_nil) (sv_is_row hS hR)))) (fun hb => Bool.noConfusion hb) (fun hb H1 e1 => q H1 e1)
theorem ok_refuse_no_small_row {f : Addr} {fd : FuncData} (F : Fun K "refuse_no_small_row" "refuse_no_small_row" s_refuse_no_small_row f fd) (B : Bi mg)  {f_is_small_row : Addr} {fd_is_small_row : FuncData} (C_is_small_row : Cal P w K mg base CX0 4 "is_small_row" P_is_small_row (sp_is_small_row K) f_is_small_row fd_is_small_row) : FnOk P w K mg base CX0 5 f fd P_refuse_no_small_row (sp_refuse_no_small_row K) := by
  refine F.ok sc_refuse_no_small_row (fun vs H Q E h => ?_) (fun cdv A outer s H vs Q E hr h => ?_)
  · obtain ⟨a, ns, rfl, hS, hR, q⟩ := h
    rfl
  · obtain ⟨a, ns, rfl, hS, hR, q⟩ := h
    refine ⟨_, (pss_one (ps_if (pt_not (pt_val (pe_call C_is_small_row.ok (hr.mono (by decide)) (by rfl) C_is_small_row.g C_is_small_row.kp C_is_small_row.b .nil pass0 (pa_cons (pv 0) pa_nil)))) (pss_one ps_never) pss_nil)), ?_⟩
    exact s_when (et_not (et_B (ev_call1 (ea_cons (ev_var rfl) ea_nil) (sv_is_small_rowX (rowQ_sm hS hR))))) (fun hb => Bool.noConfusion hb) (fun hb H1 e1 => q H1 e1)
theorem ok_refuse_no_evening {f : Addr} {fd : FuncData} (F : Fun K "refuse_no_evening" "refuse_no_evening" s_refuse_no_evening f fd) (B : Bi mg)  {f_can_be : Addr} {fd_can_be : FuncData} (C_can_be : Cal P w K mg base CX0 3 "can_be" P_can_be (sp_can_be K) f_can_be fd_can_be) : FnOk P w K mg base CX0 4 f fd P_refuse_no_evening (sp_refuse_no_evening K) := by
  refine F.ok sc_refuse_no_evening (fun vs H Q E h => ?_) (fun cdv A outer s H vs Q E hr h => ?_)
  · obtain ⟨a, t, ns, i, j, rfl, hS, hT, hij, hj, hok, q⟩ := h
    rfl
  · obtain ⟨a, t, ns, i, j, rfl, hS, hT, hij, hj, hok, q⟩ := h
    refine ⟨_, (pss_one (ps_if (pt_not (pt_val (pe_call C_can_be.ok (hr.mono (by decide)) (by rfl) C_can_be.g C_can_be.kp C_can_be.b .nil pass0 (pa_cons (pv 0) (pa_cons (pv 1) pa_nil))))) (pss_one ps_never) pss_nil)), ?_⟩
    have hb := BeQ.yes (ns := ns) hT hij hj
    rw [hok] at hb
    exact s_when (b := false) (et_is (et_not (et_B (ev_call1 (ea_cons (ev_var rfl) (ea_cons (ev_var rfl) ea_nil)) (sv_can_be hS hb)))) rfl) (fun hb => Bool.noConfusion hb) (fun hb H1 e1 => q H1 e1)
theorem ok_pairs_to_even {f : Addr} {fd : FuncData} (F : Fun K "pairs_to_even" "pairs_to_even" s_pairs_to_even f fd) (B : Bi mg)  {f_can_even : Addr} {fd_can_even : FuncData} (C_can_even : Cal P w K mg base CX0 1 "can_even" P_can_even (sp_can_even K) f_can_even fd_can_even) : FnOk P w K mg base CX0 2 f fd P_pairs_to_even (sp_pairs_to_even K) := by
  refine F.ok sc_pairs_to_even (fun vs H Q E h => ?_) (fun cdv A outer s H vs Q E hr h => ?_)
  · obtain ⟨a, ns, rfl, hS, hlen, q⟩ := h
    rfl
  · obtain ⟨a, ns, rfl, hS, hlen, q⟩ := h
    refine ⟨_, (pss_cons (ps_set (i := 1) sc_pairs_to_even.nd rfl (Or.inr rfl) (pe_callB call_len_seq (by rfl) B.len_ (by decide +kernel) (pa_cons (pv 0) pa_nil))) (pss_one (ps_ret (pe_lc2 (own := [("first", 2), ("second", 3)]) (vs1 := [3]) rfl sc_pairs_to_even.nd (pi_range1 (by rfl) B.range_ (pa_cons (pv 1) pa_nil)) (blkOk_by (own := [("first", 2), ("second", 3)]) (N := N_pairs_to_even) (sc := defScope s_pairs_to_even) (by decide +kernel)) (by decide) (fun _ _ _ _ _ => by exact (pg_name (i := 2) sc_pairs_to_even.nd rfl (Or.inl rfl))) (fun _ _ _ _ _ => by exact pts_nil) (fun _ _ _ _ _ => by exact (pi_range2 (by rfl) B.range_ (pa_cons (pe_op op_add (pv 2) pe_int) (pa_cons (pv 1) pa_nil)))) (fun _ _ _ _ _ => by exact (pg_name (i := 3) sc_pairs_to_even.nd rfl (Or.inl rfl))) (fun _ _ _ _ _ => by exact (pts_one (pt_val (pe_call C_can_even.ok (hr.mono (by decide)) (by rfl) C_can_even.g C_can_even.kp C_can_even.b .nil pass0 (pa_cons (pe_ix (ix_seq_K (K := K)) (pv 0) (pv 2) (fun _ _ => rfl)) (pa_cons (pe_ix (ix_seq_K (K := K)) (pv 0) (pv 3) (fun _ _ => rfl)) pa_nil)))))) (fun _ _ _ _ _ => by exact (pe_tup (pa_cons (pv 2) (pa_cons (pv 3) pa_nil)))))))), ?_⟩
    refine q_asg (v := .int (ns.length : Int)) (ev_is (ev_lenQ (ev_var rfl) hS) (by rw [List.length_map])) fun H2 e2 => ?_
    have e02 := e2
    refine ⟨_, rfl, (ns.length : Int), rfl, by omega, by omega, fun D hD => ?_⟩
    refine walk_rng (lo := 0) (n := (ns.length : Int).toNat) (fun i H' => Ex H H' ∧ IsP (canUp ns i) D H') ⟨e02.trans (Ex.new hD), [], upd_same, .nil⟩ (fun i H' hi hP => ?_) (fun H' hP => ?_)
    · obtain ⟨eH, rs, hl, hr⟩ := hP
      have hi2 : i < ns.length := by omega
      rw [Int.zero_add]
      refine ⟨rfl, ?_⟩
      show tYes _ _ _
      refine et_yes H' (Ex.refl H') _ fun H3 e3 => ?_
      refine iteT ?_
      refine (ev_add (ev_var rfl) ev_c) H3 (Ex.refl H3) _ fun H4 e4 => ?_
      refine ⟨_, rfl, (i : Int) + 1, (ns.length : Int), rfl, ⟨by omega, by omega, by omega, by omega⟩, ?_⟩
      have e34 := e3.trans e4
      refine walk_rng (lo := (i : Int) + 1) (n := ((ns.length : Int) - ((i : Int) + 1)).toNat) (fun m H' => Ex H H' ∧ IsP (canUp ns i ++ rowC ns i m) D H') ⟨eH.trans e34, rs, e34 _ _ hl, by show Prs H4 rs (canUp ns i ++ []); rw [List.append_nil]; exact Prs.mono e34 hr⟩ (fun m H' hm hP => ?_) (fun H' hP => ?_)
      · obtain ⟨eH, rs, hl, hr⟩ := hP
        have ej : ((i : Int) + 1 + (m : Int)) = ((m + (i + 1) : Nat) : Int) := by omega
        have hj2 : m + (i + 1) < ns.length := by omega
        rw [ej]
        refine ⟨rfl, ?_⟩
        have hS2 := ex_s eH hS
        refine (et_B (ev_call1 (ea_cons (ev_ixQ (ev_var rfl) (ev_var rfl) hS2 (int_at hi2)) (ea_cons (ev_ixQ (ev_var rfl) (ev_var rfl) hS2 (int_at hj2)) ea_nil)) sv_can_even)) H' (Ex.refl H') _ fun H5 e5 => ?_
        have hb : (!decide (ns.getD i 0 = ns.getD (m + (i + 1)) 0) && decide ((ns.getD i 0 + ns.getD (m + (i + 1)) 0) % 2 = 0)) = okP ns i (m + (i + 1)) := rfl
        rw [hb]
        cases hok : okP ns i (m + (i + 1)) with
        | true =>
          refine iteT ?_
          refine (eu_tup (ea_cons (ev_var rfl) (ea_cons (ev_var rfl) ea_nil)) (by decide : 2 ≤ 100000)) H5 (Ex.refl H5) _ fun t H6 ht e6 h6 => ?_
          have e56 := e5.trans e6
          have hl6 := e56 _ _ hl
          refine ⟨rs, hl6, ?_, Ex.mut (eH.trans e56) (fresh_back e02 hD), _, upd_same, ?_⟩
          · have l1 := hr.length
            have l2 := canUp_len ns (by omega) i (by omega)
            have l3 := rowC_len ns i m
            rw [List.length_append] at l1
            exact sz_lt (by omega)
          · rw [rowC_yes hok, ← List.append_assoc]
            exact Prs.upd hl6 (Prs.app (Prs.mono e56 hr) (.cons ⟨t, rfl, h6⟩ .nil))
        | false =>
          refine iteF ?_
          refine ⟨eH.trans e5, rs, e5 _ _ hl, ?_⟩
          rw [rowC_no hok]
          exact Prs.mono e5 hr
      · obtain ⟨eH, rs, hl, hr⟩ := hP
        refine ⟨eH, rs, hl, ?_⟩
        have e0 : ((ns.length : Int) - ((i : Int) + 1)).toNat = ns.length - (i + 1) := by omega
        rw [e0] at hr
        rw [canUp_succ]
        exact hr
    · obtain ⟨eH, rs, hl, hr⟩ := hP
      have e0 : (ns.length : Int).toNat = ns.length := by omega
      rw [e0] at hr
      exact q D H' (fresh_back e02 hD) eH ⟨rs, hl, hr⟩
theorem ok_row_behind {f : Addr} {fd : FuncData} (F : Fun K "row_behind" "row_behind" s_row_behind f fd) (B : Bi mg)   : FnOk P w K mg base CX0 1 f fd P_row_behind (sp_row_behind K) := by
  refine F.ok sc_row_behind (fun vs H Q E h => ?_) (fun cdv A outer s H vs Q E hr h => ?_)
  · obtain ⟨a, t, ns, i, j, rfl, hS, hT, hij, hj, q⟩ := h
    rfl
  · obtain ⟨a, t, ns, i, j, rfl, hS, hT, hij, hj, q⟩ := h
    refine ⟨_, (pss_cons (ps_asg (pv 1) (pg_tup (by rfl) (pgs_cons (pg_name (i := 2) sc_row_behind.nd rfl (Or.inl rfl)) (pgs_cons (pg_name (i := 3) sc_row_behind.nd rfl (Or.inl rfl)) pgs_nil)))) (pss_cons (ps_set (i := 4) sc_row_behind.nd rfl (Or.inl rfl) (pe_op op_fdiv (pe_op op_add (pe_ix ix_seq (pv 0) (pv 2) (fun _ _ => rfl)) (pe_ix ix_seq (pv 0) (pv 3) (fun _ _ => rfl))) pe_int)) (pss_cons (ps_set (i := 5) sc_row_behind.nd rfl (Or.inl rfl) (pe_callTy call_list_of (by rfl) B.list_ (by decide +kernel) (pa_cons (pv 0) pa_nil))) (pss_cons (ps_asg (pv 4) (pg_sub (pv 5) (pv 2) set_list)) (pss_cons (ps_asg (pv 4) (pg_sub (pv 5) (pv 3) set_list)) (pss_one (ps_ret (pv 5)))))))), ?_⟩
    have hi : i < ns.length := by omega
    refine q_unpack2 (ev_var rfl) hT fun H3 e3 => ?_
    have hS3 := ex_s e3 hS
    refine q_asg (v := .int (halfL ns i j)) (ev_fdiv (ev_add (ev_ixQ (ev_var rfl) (ev_var rfl) hS3 (int_at hi)) (ev_ixQ (ev_var rfl) (ev_var rfl) hS3 (int_at hj))) ev_c ⟨by decide, by decide⟩) fun H4 e4 => ?_
    refine q_asgL (el_listQ (ev_var rfl) (ex_s e4 hS3)) fun p H5 hp e5 h5 => ?_
    have hpH : H p = none := fresh_back (e3.trans e4) hp
    have e05 := (e3.trans e4).trans e5
    refine q_setL (j := i) (v := .int (halfL ns i j)) h5 (ev_var rfl) (ev_var rfl) (ev_var rfl) (by rw [List.length_map]; exact hi) fun H6 e6 => ?_
    refine q_setL (j := j) (v := .int (halfL ns i j)) (xs := (ns.map V.int).set i (.int (halfL ns i j))) upd_same (ev_var rfl) (ev_var rfl) (ev_var rfl) (by rw [List.length_set, List.length_map]; exact hj) fun H7 e7 => ?_
    have e07 := (Ex.mut (e05.trans e6) hpH (o := .lst ((ns.map V.int).set i (.int (halfL ns i j))))).trans e7
    refine s_ret (ev_var rfl) fun H8 e8 => q p H8 hpH ((Ex.mut e07 hpH).trans e8) (e8 _ _ ?_)
    rw [upd_same]
    unfold evL
    rw [List.map_set, List.map_set]
theorem ok_evenings {f : Addr} {fd : FuncData} (F : Fun K "evenings" "evenings" s_evenings f fd) (B : Bi mg)  {f_pairs_to_even : Addr} {fd_pairs_to_even : FuncData} (C_pairs_to_even : Cal P w K mg base CX0 2 "pairs_to_even" P_pairs_to_even (sp_pairs_to_even K) f_pairs_to_even fd_pairs_to_even) {f_refuse_no_row : Addr} {fd_refuse_no_row : FuncData} (C_refuse_no_row : Cal P w K mg base CX0 4 "refuse_no_row" P_refuse_no_row (sp_refuse_no_row K) f_refuse_no_row fd_refuse_no_row) : FnOk P w K mg base CX0 5 f fd P_evenings (sp_evenings K) := by
  refine F.ok sc_evenings (fun vs H Q E h => ?_) (fun cdv A outer s H vs Q E hr h => ?_)
  · obtain ⟨a, ns, rfl, hS, hR, q⟩ := h
    rfl
  · obtain ⟨a, ns, rfl, hS, hR, q⟩ := h
    refine ⟨_, (pss_cons (ps_expr (pe_call C_refuse_no_row.ok (hr.mono (by decide)) (by rfl) C_refuse_no_row.g C_refuse_no_row.kp C_refuse_no_row.b .nil pass0 (pa_cons (pv 0) pa_nil))) (pss_one (ps_ret (pe_call C_pairs_to_even.ok (hr.mono (by decide)) (by rfl) C_pairs_to_even.g C_pairs_to_even.kp C_pairs_to_even.b .nil pass0 (pa_cons (pv 0) pa_nil))))), ?_⟩
    refine q_drop (ev_call1 (ea_cons (ev_var rfl) ea_nil) (sv_refuse_no_row hS hR)) fun H1 e1 => ?_
    exact s_retN (tn_call (ea_cons (ev_var rfl) ea_nil) (sn_pairs_to_even (.inl (ex_l e1 hS)) hR.2.1)) fun p H2 hp e2 h => q p H2 (fresh_back e1 hp) (e1.trans e2) h
theorem ok_evened {f : Addr} {fd : FuncData} (F : Fun K "evened" "evened" s_evened f fd) (B : Bi mg)  {f_refuse_no_evening : Addr} {fd_refuse_no_evening : FuncData} (C_refuse_no_evening : Cal P w K mg base CX0 4 "refuse_no_evening" P_refuse_no_evening (sp_refuse_no_evening K) f_refuse_no_evening fd_refuse_no_evening) {f_refuse_no_row : Addr} {fd_refuse_no_row : FuncData} (C_refuse_no_row : Cal P w K mg base CX0 4 "refuse_no_row" P_refuse_no_row (sp_refuse_no_row K) f_refuse_no_row fd_refuse_no_row) {f_row_behind : Addr} {fd_row_behind : FuncData} (C_row_behind : Cal P w K mg base CX0 1 "row_behind" P_row_behind (sp_row_behind K) f_row_behind fd_row_behind) : FnOk P w K mg base CX0 5 f fd P_evened (sp_evened K) := by
  refine F.ok sc_evened (fun vs H Q E h => ?_) (fun cdv A outer s H vs Q E hr h => ?_)
  · obtain ⟨a, t, ns, i, j, rfl, hS, hR, hT, hij, hj, hok, q⟩ := h
    rfl
  · obtain ⟨a, t, ns, i, j, rfl, hS, hR, hT, hij, hj, hok, q⟩ := h
    refine ⟨_, (pss_cons (ps_expr (pe_call C_refuse_no_row.ok (hr.mono (by decide)) (by rfl) C_refuse_no_row.g C_refuse_no_row.kp C_refuse_no_row.b .nil pass0 (pa_cons (pv 0) pa_nil))) (pss_cons (ps_expr (pe_call C_refuse_no_evening.ok (hr.mono (by decide)) (by rfl) C_refuse_no_evening.g C_refuse_no_evening.kp C_refuse_no_evening.b .nil pass0 (pa_cons (pv 0) (pa_cons (pv 1) pa_nil)))) (pss_one (ps_ret (pe_call C_row_behind.ok (hr.mono (by decide)) (by rfl) C_row_behind.g C_row_behind.kp C_row_behind.b .nil pass0 (pa_cons (pv 0) (pa_cons (pv 1) pa_nil))))))), ?_⟩
    have hi : i < ns.length := by omega
    refine q_drop (ev_call1 (ea_cons (ev_var rfl) ea_nil) (sv_refuse_no_row hS hR)) fun H1 e1 => ?_
    refine q_drop (ev_call1 (ea_cons (ev_var rfl) (ea_cons (ev_var rfl) ea_nil)) (sv_refuse_no_evening (ex_l e1 hS) (ex_t e1 hT) hij hj hok)) fun H2 e2 => ?_
    have e12 := e1.trans e2
    exact s_retN (tn_of (el_call (ea_cons (ev_var rfl) (ea_cons (ev_var rfl) ea_nil)) (sl_row_behind (.inl (ex_l e12 hS)) (ex_t e12 hT) hij hj))) fun p H3 hp e3 h => q p H3 (fresh_back e12 hp) (e12.trans e3) h
theorem ok_settled {f : Addr} {fd : FuncData} (F : Fun K "settled" "settled" s_settled f fd) (B : Bi mg)  {f_evenings : Addr} {fd_evenings : FuncData} (C_evenings : Cal P w K mg base CX0 5 "evenings" P_evenings (sp_evenings K) f_evenings fd_evenings) : FnOk P w K mg base CX0 6 f fd P_settled (sp_settled K) := by
  refine F.ok sc_settled (fun vs H Q E h => ?_) (fun cdv A outer s H vs Q E hr h => ?_)
  · obtain ⟨a, ns, rfl, hS, hR, q⟩ := h
    rfl
  · obtain ⟨a, ns, rfl, hS, hR, q⟩ := h
    refine ⟨_, (pss_one (ps_ret (pe_cmpR op_eq (pe_callB call_len_seq (by rfl) B.len_ (by decide +kernel) (pa_cons (pe_call C_evenings.ok (hr.mono (by decide)) (by rfl) C_evenings.g C_evenings.kp C_evenings.b .nil pass0 (pa_cons (pv 0) pa_nil)) pa_nil)) pe_int (nomark _)))), ?_⟩
    refine (tn_call (ea_cons (ev_var rfl) ea_nil) (sn_evenings hS hR)) H (Ex.refl H) _ fun p H1 hp e1 hP => ?_
    obtain ⟨rs, hl, hr⟩ := hP
    refine ⟨p, rs, rfl, .inl (SqL.of hl), rfl, ?_⟩
    have e : decide (V.int (rs.length : Int) = V.int 0) = decide (canL ns = []) := by
      rw [hr.length]
      refine decide_eq_decide.mpr ⟨fun h => ?_, fun h => by rw [h]; rfl⟩
      have := V.int.inj h
      exact List.length_eq_zero_iff.mp (by omega)
    rw [e]
    exact q H1 e1
theorem ok_fall {f : Addr} {fd : FuncData} (F : Fun K "fall" "fall" s_fall f fd) (B : Bi mg)  {f_refuse_no_evening : Addr} {fd_refuse_no_evening : FuncData} (C_refuse_no_evening : Cal P w K mg base CX0 4 "refuse_no_evening" P_refuse_no_evening (sp_refuse_no_evening K) f_refuse_no_evening fd_refuse_no_evening) {f_refuse_no_row : Addr} {fd_refuse_no_row : FuncData} (C_refuse_no_row : Cal P w K mg base CX0 4 "refuse_no_row" P_refuse_no_row (sp_refuse_no_row K) f_refuse_no_row fd_refuse_no_row) : FnOk P w K mg base CX0 5 f fd P_fall (sp_fall K) := by
  refine F.ok sc_fall (fun vs H Q E h => ?_) (fun cdv A outer s H vs Q E hr h => ?_)
  · obtain ⟨a, t, ns, i, j, rfl, hS, hR, hT, hij, hj, hok, q⟩ := h
    rfl
  · obtain ⟨a, t, ns, i, j, rfl, hS, hR, hT, hij, hj, hok, q⟩ := h
    refine ⟨_, (pss_cons (ps_expr (pe_call C_refuse_no_row.ok (hr.mono (by decide)) (by rfl) C_refuse_no_row.g C_refuse_no_row.kp C_refuse_no_row.b .nil pass0 (pa_cons (pv 0) pa_nil))) (pss_cons (ps_expr (pe_call C_refuse_no_evening.ok (hr.mono (by decide)) (by rfl) C_refuse_no_evening.g C_refuse_no_evening.kp C_refuse_no_evening.b .nil pass0 (pa_cons (pv 0) (pa_cons (pv 1) pa_nil)))) (pss_cons (ps_asg (pv 1) (pg_tup (by rfl) (pgs_cons (pg_name (i := 2) sc_fall.nd rfl (Or.inl rfl)) (pgs_cons (pg_name (i := 3) sc_fall.nd rfl (Or.inl rfl)) pgs_nil)))) (pss_cons (ps_set (i := 4) sc_fall.nd rfl (Or.inl rfl) (pe_op op_sub (pe_ix ix_list (pv 0) (pv 3) (fun _ _ => rfl)) (pe_ix ix_list (pv 0) (pv 2) (fun _ _ => rfl)))) (pss_one (ps_ret (pe_op op_fdiv (pe_op op_mulO (pv 4) (pv 4)) pe_int))))))), ?_⟩
    have hi : i < ns.length := by omega
    refine q_drop (ev_call1 (ea_cons (ev_var rfl) ea_nil) (sv_refuse_no_row hS hR)) fun H1 e1 => ?_
    refine q_drop (ev_call1 (ea_cons (ev_var rfl) (ea_cons (ev_var rfl) ea_nil)) (sv_refuse_no_evening (ex_l e1 hS) (ex_t e1 hT) hij hj hok)) fun H2 e2 => ?_
    refine q_unpack2 (ev_var rfl) (ex_t (e1.trans e2) hT) fun H3 e3 => ?_
    have e03 := (e1.trans e2).trans e3
    have hS3 := ex_l e03 hS
    have b1 := hR.get hi
    have b2 := hR.get hj
    refine q_asg (ev_sub (ev_ixL (ev_var rfl) (ev_var rfl) hS3 (int_at hj)) (ev_ixL (ev_var rfl) (ev_var rfl) hS3 (int_at hi))) fun H4 e4 => ?_
    exact s_ret (ev_fdiv (ev_mul (ev_var rfl) (ev_var rfl) (IntMulOk.of_left (intBits_le_64 (by omega) (by omega)))) ev_c ⟨by decide, by decide⟩) fun H5 e5 => q H5 ((e03.trans e4).trans e5)
theorem ok_steps {f : Addr} {fd : FuncData} (F : Fun K "steps" "steps" s_steps f fd) (B : Bi mg)  {f_pairs_to_even : Addr} {fd_pairs_to_even : FuncData} (C_pairs_to_even : Cal P w K mg base CX0 2 "pairs_to_even" P_pairs_to_even (sp_pairs_to_even K) f_pairs_to_even fd_pairs_to_even) {f_row_behind : Addr} {fd_row_behind : FuncData} (C_row_behind : Cal P w K mg base CX0 1 "row_behind" P_row_behind (sp_row_behind K) f_row_behind fd_row_behind) : FnOk P w K mg base CX0 3 f fd P_steps (sp_steps K) := by
  refine F.ok sc_steps (fun vs H Q E h => ?_) (fun cdv A outer s H vs Q E hr h => ?_)
  · obtain ⟨a, ns, rfl, hS, hm, q⟩ := h
    rfl
  · obtain ⟨a, ns, rfl, hS, hm, q⟩ := h
    refine ⟨_, (pss_one (ps_ret (pe_lc (own := [("evening", 1)]) (tt := tYes) rfl sc_steps.nd (pi_list (pe_call C_pairs_to_even.ok (hr.mono (by decide)) (by rfl) C_pairs_to_even.g C_pairs_to_even.kp C_pairs_to_even.b .nil pass0 (pa_cons (pv 0) pa_nil))) (blkOk_by (own := [("evening", 1)]) (N := N_steps) (sc := defScope s_steps) (by decide +kernel)) (fun _ _ _ _ _ => by exact (pg_name (i := 1) sc_steps.nd rfl (Or.inl rfl))) (fun _ _ _ _ _ => by exact pts_nil) (fun _ _ _ _ _ => by exact (pe_tup (pa_cons (pv 1) (pa_cons (pe_callTy (call_tuple_of_K (K := K)) (by rfl) B.tuple_ (by decide +kernel) (pa_cons (pe_call C_row_behind.ok (hr.mono (by decide)) (by rfl) C_row_behind.g C_row_behind.kp C_row_behind.b .nil pass0 (pa_cons (pv 0) (pa_cons (pv 1) pa_nil))) pa_nil)) pa_nil))))))), ?_⟩
    have h5 := hm.2.1
    refine s_retN (lcX (K := K) (as := canL ns) (fun _ => true) (S := fun p x H => ∃ t, x = .ref t ∧ H t = some (.tup [.int (p.1 : Nat), .int (p.2 : Nat)])) (R := fun p x H => StAt (p, evL ns p.1 p.2) x H) (fun p v H H' e ⟨t, h1, h2⟩ => ⟨t, h1, e _ _ h2⟩) (fun p v H H' e h => h.mono e)
      (tw_n (tn_call (ea_cons (ev_var rfl) ea_nil) (sn_pairs_to_even (.inr (SqT.of hS)) (by omega))) fun p H' ⟨rs, h1, h2⟩ => ⟨p, rs, rfl, SqL.of h1, h2⟩) (sz_lt (by have := canL_few h5; omega)) (fun p x H1 Dl acc hp e1 hD hx Qe Qf k1 _ => ?_)) fun p H1 hp e1 ⟨ys, h1, h2⟩ => ?_
    · obtain ⟨te, rfl, hte⟩ := hx
      obtain ⟨g1, g2, _⟩ := mem_canL.mp hp
      refine ⟨rfl, ?_⟩
      show tYes _ _ _
      refine et_yes H1 (Ex.refl H1) _ fun H2 e2 => iteT ?_
      refine (tw_pair (R := RowV (evL ns p.1 p.2)) (ev_var rfl) (tw_tupleN (el_call (ea_cons (ev_var rfl) (ea_cons (ev_var rfl) ea_nil)) (sl_row_behind (.inr (SqT.of ((e1.trans e2) _ _ hS))) (SqT.of (e2 _ _ hte)) g1 g2))) (fun v H H' e h => h.mono e)) H2 (Ex.refl H2) _ fun x H3 e3 ⟨t, v, hx, ht, tb, hv, htb⟩ => ?_
      subst hx hv
      have e23 := e2.trans e3
      exact k1 rfl _ H3 e23 (StAt.of (e23 _ _ hD) ⟨t, te, tb, rfl, ht, e23 _ _ hte, htb⟩)
    · rw [filter_true] at h2
      exact q p H1 hp e1 ⟨ys, h1, paired_map (fun p : Nat × Nat => ((p, evL ns p.1 p.2) : Stp)) (fun y p h => h) (paired_imp (fun y p h => StAt.mono (of_sub _ _) h) h2)⟩
theorem ok_reach {f : Addr} {fd : FuncData} (F : Fun K "reach" "reach" s_reach f fd) (B : Bi mg)  {fS : Addr} {F_S : StF} (G_S : Good F_S) (FS : FnR P w K mg base CX0 4 fS (sp_stp K F_S)) (kS : PySem.W.keepIn K (.ref fS) = true) : FnOk P w K mg base CX0 5 f fd P_reach (sp_reach K F_S fS) := by
  refine F.ok sc_reach (fun vs H Q E h => ?_) (fun cdv A outer s H vs Q E hr h => ?_)
  · obtain ⟨a, ns, rfl, hS, hm, q⟩ := h
    rfl
  · obtain ⟨a, ns, rfl, hS, hm, q⟩ := h
    refine ⟨_, (pss_cons (ps_set (i := 2) sc_reach.nd rfl (Or.inl rfl) pe_dnewT) (pss_cons (ps_set (i := 3) sc_reach.nd rfl (Or.inl rfl) (pe_lst (pa_cons (pe_callTy call_tuple_of (by rfl) B.tuple_ (by decide +kernel) (pa_cons (pv 0) pa_nil)) pa_nil))) (pss_cons (ps_while PassesOwn.never (pt_truth (pv 3) (by intro _; rfl)) (pss_cons (ps_set (i := 4) sc_reach.nd rfl (Or.inl rfl) (pe_lst pa_nil)) (pss_cons (ps_for PassesOwn.never rfl (pi_list (pv 3)) (pg_name (i := 5) sc_reach.nd rfl (Or.inl rfl)) (pss_one (ps_if (pt_cmp (pc_dnotin (hu_of hr) (pv 5) (pv 2)) rfl) (pss_cons (ps_dput (hu_of hr) (pv 2) (pv 5) (ItX.pe_callV (i := 1) FS (hr.mono (by decide)) kS pass0 (by rfl) (Or.inl rfl) (pa_cons (pv 5) pa_nil)) rfl) (pss_one (ps_expr (pe_bm PySem.F.plainAttrs_list PySem.F.slot_list_extend PySem.F.type_list_extend mt_extend (pv 4) (pa_cons (pe_lc (own := [("_", 6), ("behind", 7)]) (tt := tYes) rfl sc_reach.nd (pi_list (pe_dget (hu_of hr) (pv 2) (pv 5) (fun _ _ => rfl))) (blkOk_by (own := [("_", 6), ("behind", 7)]) (N := N_reach) (sc := defScope s_reach) (by decide +kernel)) (fun _ _ _ _ _ => by exact (pg_tup_K (K := K) (n := 2) (by rfl) (pgs_cons (pg_name (i := 6) sc_reach.nd rfl (Or.inl rfl)) (pgs_cons (pg_name (i := 7) sc_reach.nd rfl (Or.inl rfl)) pgs_nil)))) (fun _ _ _ _ _ => by exact pts_nil) (fun _ _ _ _ _ => by exact (pv 7))) pa_nil))))) pss_nil))) (pss_one (ps_set (i := 3) sc_reach.nd rfl (Or.inl rfl) (pv 4)))))) (pss_one (ps_ret (pv 2)))))), ?_⟩
    refine q_asgN tn_dnew fun d H1 hd e1 h1 => ?_
    refine q_asgN (R := fun p H' => ∃ v, H' p = some (.lst [v]) ∧ RowV ns v H') ?_ fun l H2 hl e2 h2 => ?_
    · refine tn_lst1W (fun v H H' e h => h.mono e) ?_
      rcases hS with hS | hS
      · exact tw_tupleL (ev_var rfl) (ex_l e1 hS)
      · exact tw_tupleT (ev_var rfl) (e1 _ _ hS)
    obtain ⟨v0, h2, t0, rfl, ht0⟩ := h2
    have e02 := e1.trans e2
    have fB := fun n => bfs_few G_S hm n
    refine q_while (fun m σ' H' => ∃ (n : Nat) (l : Addr) (ls : List V) (kvs : List (List L2.Key × V)) (y4 y5 y6 y7 : Option V), σ' = [some (.ref a), some (.ref fS), some (.ref d), some (.ref l), y4, y5, y6, y7] ∧ m = 2001 - n ∧ Ex H H' ∧ H' d = some (.dT kvs) ∧ FndH F_S (Of H' d) kvs (bfs F_S ns n).1 ∧ H' l = some (.lst ls) ∧ RowsT H' ls (bfs F_S ns n).2)
      2001 ⟨0, l, _, [], _, _, _, _, rfl, rfl, e02, e2 _ _ h1, .nil, h2, .cons ⟨t0, rfl, ht0⟩ .nil⟩ (fun m σ' H' hW => ?_)
    obtain ⟨n, l, ls, kvs, y4, y5, y6, y7, rfl, rfl, eH, hd', hF, hl', hR⟩ := hW
    have hlen := hR.length
    refine ⟨_, et_truL (ev_var rfl) hl', fun hb H3 e3 => ?_, fun hb H3 e3 => ?_⟩
    · have hne : (bfs F_S ns n).2 ≠ [] := fun z => by
        rw [z] at hlen
        have : ls = [] := List.length_eq_zero_iff.mp hlen
        rw [this] at hb
        cases hb
      have hn := bfs_short G_S hm hne
      have hq := sqs_sm hm
      refine ⟨fun σ2 H2 => ∃ (l : Addr) (ls : List V) (kvs : List (List L2.Key × V)) (y4 y5 y6 y7 : Option V), σ2 = [some (.ref a), some (.ref fS), some (.ref d), some (.ref l), y4, y5, y6, y7] ∧ Ex H H2 ∧ H2 d = some (.dT kvs) ∧ FndH F_S (Of H2 d) kvs (bfs F_S ns (n + 1)).1 ∧ H2 l = some (.lst ls) ∧ RowsT H2 ls (bfs F_S ns (n + 1)).2,
        fun σ2 H2 ⟨l, ls, kvs, y4, y5, y6, y7, e, r⟩ => ⟨2001 - (n + 1), by omega, n + 1, l, ls, kvs, y4, y5, y6, y7, e, rfl, r⟩, ?_⟩
      refine q_asgL (el_lst (vs := []) ea_nil (by decide)) fun lf H4 hlf e4 h4 => ?_
      have e34 := e3.trans e4
      have hlfH : H lf = none := fresh_back (eH.trans e3) hlf
      have hdH : H d = none := hd
      have hdl : d ≠ lf := fun z => by
        rw [← z, e3 _ _ hd'] at hlf
        cases hlf
      have hll : l ≠ lf := fun z => by
        rw [← z, e3 _ _ hl'] at hlf
        cases hlf
      have hF4 : FndH F_S (Of (Of H4 d) lf) kvs (bfs F_S ns n).1 := hF.mono (of_fresh (of_ex e34) (by rw [of_ne hdl.symm]; exact fresh_back e3 hlf))
      refine q_forLn (a := l) (xs := ls) (ev_var rfl) (SqL.of (e34 _ _ hl')) (fun i σ' H' => ∃ (fs : List V) (kvs : List (List L2.Key × V)) (y5 y6 y7 : Option V), σ' = [some (.ref a), some (.ref fS), some (.ref d), some (.ref l), some (.ref lf), y5, y6, y7] ∧ Ex H H' ∧ H' l = some (.lst ls) ∧ RowsT H' ls (bfs F_S ns n).2 ∧ H' d = some (.dT kvs) ∧ FndH F_S (Of (Of H' d) lf) kvs (part F_S ns n i).1 ∧ H' lf = some (.lst fs) ∧ RowsT H' fs (part F_S ns n i).2)
        (fun H5 e5 => ⟨[], kvs, _, _, _, rfl, eH.trans (e34.trans e5), (e34.trans e5) _ _ hl', hR.mono (e34.trans e5), (e34.trans e5) _ _ hd', by rw [part_zero]; exact hF4.mono (of_ex (of_ex e5)), e5 _ _ h4, by rw [part_zero]; exact .nil⟩) (fun i σ' H' _ hP => ?_) (fun i x σ' H' hx hP => ?_) (fun σ' H' hP => ?_)
      · obtain ⟨_, _, _, _, _, _, _, h, _⟩ := hP
        exact SqL.of h
      · obtain ⟨fs, kvs', y5, y6, y7, rfl, eH', hl5, hR5, hd5, hF5, hf5, hRf⟩ := hP
        obtain ⟨r, t, hr, rfl, ht⟩ := hR5.get hx
        obtain ⟨p1, p2, p3, p4, p5⟩ := part_ok G_S hm n i
        have hrm : Sm r := by
          obtain ⟨k, hk⟩ := (fB n).2.2.2 r (List.mem_of_getElem? hr)
          exact (hk.good G_S hm).1
        have hkl : kvs'.length = (part F_S ns n i).1.length := KvH.length hF5
        refine s_when (b := !decide (r ∈ (part F_S ns n i).1)) (et_is (et_B (ev_dnotT (ev_var rfl) (ev_var rfl) (.inl hd5) ht)) (by rw [hF5.some])) (fun hb H6 e6 => ?_) (fun hb H6 e6 => ?_)
        · have hnot : r ∉ (part F_S ns n i).1 := of_decide_eq_false (by rw [Bool.not_eq_true'] at hb; exact hb)
          have hp1 : part F_S ns n (i + 1) = ((part F_S ns n i).1 ++ [r], (part F_S ns n i).2 ++ sucs F_S r) := by
            rw [part_succ hr]
            exact if_neg hnot
          refine q_putT (tn_callV (R := StL (F_S r)) rfl (ea_cons (ev_var rfl) ea_nil) (fun H7 e7 Q7 q7 E7 => ⟨t, r, rfl, (e6.trans e7) _ _ ht, hrm, q7⟩)) (ev_var rfl) (ev_var rfl) (e6 _ _ hd5) (e6 _ _ ht) (sz_lt2 (by omega)) (fun qa H7 hqa e7 hS7 => ?_) (fun p H H' e h => h.mono e)
          have e67 := e6.trans e7
          have hd7 := e67 _ _ hd5
          have hf7 := e67 _ _ hf5
          have hql : qa ≠ lf := fun z => by
            rw [z, e6 _ _ hf5] at hqa
            cases hqa
          have hnt : ∀ xs, H7 d ≠ some (.tup xs) := fun xs z => by
            rw [hd7] at z
            cases z
          have hF8 : FndH F_S (Of (Of (upd H7 d (.dT (putK kvs' (rowK r) (.ref qa)))) d) lf) (putK kvs' (rowK r) (.ref qa)) ((part F_S ns n i).1 ++ [r]) := by
            rw [of_upd]
            exact (hF5.mono (of_ex (of_ex e67))).snoc hnot ((hS7.ofT hd7).of (by rw [of_ne hdl.symm]; exact hf7) hql)
          have hf8 : (upd H7 d (.dT (putK kvs' (rowK r) (.ref qa)))) lf = some (.lst fs) := by
            rw [upd_ne hdl.symm]
            exact hf7
          have hl8 : (upd H7 d (.dT (putK kvs' (rowK r) (.ref qa)))) l = some (.lst ls) := by
            rw [upd_ne (ne_of (e67 _ _ hl5) hd7 (by intro z; cases z))]
            exact e67 _ _ hl5
          have ht8 : (upd H7 d (.dT (putK kvs' (rowK r) (.ref qa)))) t = some (.tup (r.map V.int)) := by
            rw [upd_ne (fun z => hnt _ (z ▸ e67 _ _ ht))]
            exact e67 _ _ ht
          have hd8 : (upd H7 d (.dT (putK kvs' (rowK r) (.ref qa)))) d = some (.dT (putK kvs' (rowK r) (.ref qa))) := upd_same
          have hR8 := RowsT.upd (o := .dT (putK kvs' (rowK r) (.ref qa))) hnt (hR5.mono e67)
          have hRf8 := RowsT.upd (o := .dT (putK kvs' (rowK r) (.ref qa))) hnt (hRf.mono e67)
          have eH8 : Ex H (upd H7 d (.dT (putK kvs' (rowK r) (.ref qa)))) := Ex.mut (eH'.trans e67) hdH
          generalize upd H7 d (.dT (putK kvs' (rowK r) (.ref qa))) = H8 at hF8 hf8 hl8 ht8 hd8 hR8 hRf8 eH8
          obtain ⟨q8, hv8, hS8⟩ := hF8.val (r := r) (List.mem_append_right _ (List.mem_singleton.mpr rfl))
          have hS8' : StL (F_S r) q8 H8 := hS8.mono ((of_sub _ _).trans (of_sub _ _))
          refine s_extend (ev_var rfl) hf8 (lcX (K := K) (as := F_S r) (fun _ => true) (S := StAt) (R := fun s y H => ∃ tb, y = .ref tb ∧ H tb = some (.tup (s.2.map V.int))) (fun s v H H' e h => h.mono e) (fun s v H H' e ⟨tb, h1, h2⟩ => ⟨tb, h1, e _ _ h2⟩)
            (tw_ev (ev_dgetT (ev_var rfl) (ev_var rfl) (.inl hd8) ht8 hv8) fun H9 e9 => by
              obtain ⟨xs, g1, g2⟩ := hS8'.mono e9
              exact ⟨q8, xs, rfl, SqL.of g1, g2⟩) (sz_lt (by have := G_S.few hrm; omega)) (fun s x H9 Dl acc hs e9 hD hx9 Qe Qf k1 _ => ?_)) fun p9 H9 hp9 e9 ⟨ys, g1, g2⟩ => ?_
          · obtain ⟨t9, te, tb, rfl, ht9, hte, htb⟩ := hx9
            refine g_two ht9 ⟨rfl, ?_⟩
            show tYes _ _ _
            refine et_yes H9 (Ex.refl H9) _ fun H10 e10 => iteT ?_
            exact (ev_var rfl) H10 (Ex.refl H10) _ fun H11 e11 => k1 rfl _ H11 (e10.trans e11) ⟨tb, rfl, tup_of ((e10.trans e11) _ _ htb) ((e10.trans e11) _ _ hD)⟩
          · rw [filter_true] at g2
            have g3 : RowsT H9 ys (sucs F_S r) := rows_of_behinds (paired_imp (fun y s ⟨tb, h1, h2⟩ => ⟨tb, h1, of_sub _ _ _ _ h2⟩) g2)
            have hyl := g3.length
            have hfl := hRf8.length
            have hsl : (sucs F_S r).length ≤ 25 := by
              unfold sucs
              rw [List.length_map]
              exact G_S.few hrm
            refine ⟨ys, g1, sz_le2 (by omega), fs ++ ys, putK kvs' (rowK r) (.ref qa), _, _, _, rfl, Ex.mut (eH8.trans e9) hlfH, ?_, ?_, ?_, ?_, upd_same, ?_⟩
            · rw [upd_ne hll]
              exact e9 _ _ hl8
            · exact RowsT.upd (fun xs z => by rw [e9 _ _ hf8] at z; cases z) (hR8.mono e9)
            · rw [upd_ne hdl]
              exact e9 _ _ hd8
            · rw [of_upd2, hp1]
              exact hF8.mono (of_ex (of_ex e9))
            · rw [hp1]
              exact RowsT.upd (fun xs z => by rw [e9 _ _ hf8] at z; cases z) ((hRf8.mono e9).app g3)
        · have hin : r ∈ (part F_S ns n i).1 := of_decide_eq_true (by rw [Bool.not_eq_false'] at hb; exact hb)
          have hp1 : part F_S ns n (i + 1) = part F_S ns n i := by
            rw [part_succ hr]
            exact if_pos hin
          exact ⟨fs, kvs', _, _, _, rfl, eH'.trans e6, e6 _ _ hl5, hR5.mono e6, e6 _ _ hd5, by rw [hp1]; exact hF5.mono (of_ex (of_ex e6)), e6 _ _ hf5, by rw [hp1]; exact hRf.mono e6⟩
      · obtain ⟨fs, kvs', y5, y6, y7, rfl, eH', hl5, hR5, hd5, hF5, hf5, hRf⟩ := hP
        rw [hlen, part_end] at hF5 hRf
        exact s_asg (ev_var rfl) fun H6 e6 => ⟨lf, fs, kvs', _, _, _, _, rfl, eH'.trans e6, e6 _ _ hd5, (hF5.mono (of_sub _ _)).mono (of_ex e6), e6 _ _ hf5, hRf.mono e6⟩
    · have hnil : (bfs F_S ns n).2 = [] := by
        rw [Bool.not_eq_false', List.isEmpty_iff] at hb
        rw [hb] at hlen
        exact List.length_eq_zero_iff.mp hlen.symm
      have B := bfs_fin hnil
      refine s_ret (ev_var rfl) fun H4 e4 => q d H4 kvs _ hd (eH.trans (e3.trans e4)) ((e3.trans e4) _ _ hd') (hF.mono (of_ex (e3.trans e4))) B (fB n).1 fun r hr => ?_
      obtain ⟨k, hk⟩ := (fB n).2.2.1 r hr
      exact (hk.good G_S hm).1
theorem ok_ends {f : Addr} {fd : FuncData} (F : Fun K "ends" "ends" s_ends f fd) (B : Bi mg)  {f_refuse_no_small_row : Addr} {fd_refuse_no_small_row : FuncData} (C_refuse_no_small_row : Cal P w K mg base CX0 5 "refuse_no_small_row" P_refuse_no_small_row (sp_refuse_no_small_row K) f_refuse_no_small_row fd_refuse_no_small_row) {f_steps : Addr} {fd_steps : FuncData} (C_steps : Cal P w K mg base CX0 3 "steps" P_steps (sp_steps K) f_steps fd_steps) {f_reach_steps : Addr} {fd_reach_steps : FuncData} (C_reach_steps : Cal P w K mg base CX0 5 "reach" P_reach (sp_reach K stepsL f_steps) f_reach_steps fd_reach_steps) : FnOk P w K mg base CX0 8 f fd P_ends (sp_ends K) := by
  refine F.ok sc_ends (fun vs H Q E h => ?_) (fun cdv A outer s H vs Q E hr h => ?_)
  · obtain ⟨a, ns, rfl, hS, hm, q⟩ := h
    rfl
  · obtain ⟨a, ns, rfl, hS, hm, q⟩ := h
    refine ⟨_, (pss_cons (ps_expr (pe_call C_refuse_no_small_row.ok (hr.mono (by decide)) (by rfl) C_refuse_no_small_row.g C_refuse_no_small_row.kp C_refuse_no_small_row.b .nil pass0 (pa_cons (pv 0) pa_nil))) (pss_cons (ps_set (i := 1) sc_ends.nd rfl (Or.inr rfl) (pe_call C_reach_steps.ok (hr.mono (by decide)) (by rfl) C_reach_steps.g C_reach_steps.kp C_reach_steps.b .nil pass0 (pa_cons (pv 0) (pa_cons (pe_glob (v := .ref f_steps) (by rfl) C_steps.g rfl) pa_nil)))) (pss_one (ps_ret (pe_lc (own := [("one", 2)]) rfl sc_ends.nd (pi_list (pe_callB (cr_sortedDT hr.units rfl) (by rfl) B.sorted_ (by decide +kernel) (pa_cons (pv 1) pa_nil))) (blkOk_by (own := [("one", 2)]) (N := N_ends) (sc := defScope s_ends) (by decide +kernel)) (fun _ _ _ _ _ => by exact (pg_name (i := 2) sc_ends.nd rfl (Or.inl rfl))) (fun _ _ _ _ _ => by exact (pts_one (pt_cmpR op_eq (pe_callB (call_len_seq_K (K := K)) (by rfl) B.len_ (by decide +kernel) (pa_cons (pe_dget (hu_of hr) (pv 1) (pv 2) (fun _ _ => rfl)) pa_nil)) pe_int (nomark _)))) (fun _ _ _ _ _ => by exact (pe_callTy (call_list_of_K (K := K)) (by rfl) B.list_ (by decide +kernel) (pa_cons (pv 2) pa_nil)))))))), ?_⟩
    refine q_drop (ev_call1 (ea_cons (ev_var rfl) ea_nil) (sv_refuse_no_small_row hS hm)) fun H1 e1 => ?_
    refine q_asgN (tn_call (ea_cons (ev_var rfl) (ea_cons ev_c ea_nil)) (sn_reach (.inl (ex_l e1 hS)) hm)) fun d H2 hd e2 ⟨kvs, ks, hd2, hF2, B, hkl, hks⟩ => ?_
    have hF2 := hF2.mono (of_sub H2 d)
    have e02 := e1.trans e2
    refine s_retN (lcX (K := K) (as := sortR ks) (fun r => decide (stepsL r = [])) (S := RowV) (R := fun r y H' => ∃ t, y = .ref t ∧ H' t = some (.lst (r.map V.int)) ∧ H t = none) (fun r v H H' e h => h.mono e) (fun r v H H' e ⟨t, h1, h2, h3⟩ => ⟨t, h1, e _ _ h2, h3⟩)
      (tw_n (tn_sortedDT (ev_var rfl) (.inl hd2) hF2.keys (fun r hr z => by have := (hks r hr).1; rw [z] at this; exact absurd this (by decide))) fun p H' ⟨ys, h1, h2⟩ => ⟨p, ys, rfl, SqL.of h1, h2⟩) (sz_lt2 (by rw [sortR_len]; omega)) (fun r x H9 Dl acc hr e9 hD hx9 Qe Qf k1 k2 => ?_)) fun p H3 hp e3 ⟨ys, h1, h2⟩ => ?_
    · obtain ⟨t, rfl, ht⟩ := hx9
      refine ⟨rfl, ?_⟩
      obtain ⟨qr, hv, hSt⟩ := (hF2.mono e9).val (mem_sortR.mp hr)
      obtain ⟨xs, g1, g2⟩ := hSt
      have hxl := Paired.length g2
      refine (et_is (b := decide (stepsL r = [])) (et_test (ev_len0 (K := K) (ev_dgetT (ev_var rfl) (ev_var rfl) (.inl (e9 _ _ hd2)) ht hv) (SqL.of g1))) (decide_eq_decide.mpr ⟨fun h => by rw [h] at hxl; exact List.length_eq_zero_iff.mp hxl.symm, fun h => by rw [h] at hxl; exact List.length_eq_zero_iff.mp hxl⟩)) H9 (Ex.refl H9) _ fun H10 e10 => ?_
      cases hb : decide (stepsL r = []) with
      | false => exact iteF (k2 hb H10 e10)
      | true =>
        refine iteT ?_
        refine (el_listT (K := K) (ev_var rfl) (SqT.of (e10 _ _ ht))) H10 (Ex.refl H10) _ fun l H11 hl e11 h11 => k1 hb _ H11 (e10.trans e11) ⟨l, rfl, ?_, fresh_back (e02.trans (e9.trans e10)) hl⟩
        rw [of_ne (fun z => by rw [z, e10 _ _ hD] at hl; cases hl)]
        exact h11
    · rw [found_ends hm B] at h2
      refine q p H3 ys (fresh_back e02 hp) (e02.trans e3) h1 (paired_imp (fun y r ⟨t, g1, g2, _⟩ => ⟨t, g1, of_sub _ _ _ _ g2⟩) h2) fun t ht => ?_
      obtain ⟨i, hi⟩ := List.getElem?_of_mem ht
      obtain ⟨r, _, t', g1, g2, g3⟩ := paired_at h2 hi
      cases g1
      exact ⟨g3, (of_some g2).1⟩
theorem ok__law_strange {f : Addr} {fd : FuncData} (F : Fun K "_law_strange" "_law_strange" s__law_strange f fd) (B : Bi mg)   : FnOk P w K mg base CX0 1 f fd P__law_strange (sp__law_strange K) := by
  refine F.ok sc__law_strange (fun vs H Q E h => ?_) (fun cdv A outer s H vs Q E hr h => ?_)
  · obtain ⟨far, rfl, hf, q⟩ := h
    rfl
  · obtain ⟨far, rfl, hf, q⟩ := h
    refine ⟨_, (pss_one (ps_ret (pe_lst (pa_cons pe_non (pa_cons pe_str (pa_cons pe_bl (pa_cons pe_bl (pa_cons (pe_lst (pa_cons pe_int pa_nil)) (pa_cons (pe_tup (pa_cons pe_int pa_nil)) (pa_cons pe_dnewT (pa_cons (pe_un un_neg pe_int) (pa_cons (pe_op op_sub (pe_un un_neg pe_int) (pv 0)) pa_nil)))))))))))), ?_⟩
    refine s_retN (tn_lstAll Strg.up (n := 9) (trall_cons Strg.up (tw_ev ev_c fun H' _ => ⟨item_ty (n := "NoneType") (.base .non) rfl (by decide +kernel), .inl rfl⟩)
      (trall_cons Strg.up (tw_ev ev_c fun H' _ => ⟨item_ty (n := "str") (.base (.str _)) rfl (by decide +kernel), .inl rfl⟩)
      (trall_cons Strg.up (tw_ev ev_c fun H' _ => ⟨item_bl true, .inl rfl⟩)
      (trall_cons Strg.up (tw_ev ev_c fun H' _ => ⟨item_bl false, .inl rfl⟩)
      (trall_cons Strg.up (tw_l (el_lst (ea_cons ev_c ea_nil) (by decide : 1 ≤ 100000)) fun p H' h => ⟨item_ty (n := "list") (.base (.lst h)) rfl (by decide +kernel), .inl rfl⟩)
      (trall_cons Strg.up (tw_u (eu_tup (ea_cons ev_c ea_nil) (by decide : 1 ≤ 100000)) fun p H' h => ⟨item_ty (n := "tuple") (.base (.tup h)) rfl (by decide +kernel), .inl rfl⟩)
      (trall_cons Strg.up (tw_n tn_dnewT fun p H' h => ⟨item_ty (n := "dict") (.base (.dT h)) rfl (by decide +kernel), .inl rfl⟩)
      (trall_cons Strg.up (tw_ev (ev_neg ev_c) fun H' _ => ⟨item_int _, .inr ⟨_, by decide, rfl⟩⟩)
      (trall_cons Strg.up (tw_ev (ev_sub (ev_neg ev_c) (ev_var rfl)) fun H' _ => ⟨item_int _, .inr ⟨_, by omega, rfl⟩⟩) trall_nil))))))))) (by decide)) fun p H1 hp e h => q p H1 hp e h
theorem ok__law_no_rows {f : Addr} {fd : FuncData} (F : Fun K "_law_no_rows" "_law_no_rows" s__law_no_rows f fd) (B : Bi mg)  {f__law_strange : Addr} {fd__law_strange : FuncData} (C__law_strange : Cal P w K mg base CX0 1 "_law_strange" P__law_strange (sp__law_strange K) f__law_strange fd__law_strange) : FnOk P w K mg base CX0 2 f fd P__law_no_rows (sp__law_no_rows K) := by
  refine F.ok sc__law_no_rows (fun vs H Q E h => ?_) (fun cdv A outer s H vs Q E hr h => ?_)
  · obtain ⟨far, m, g, rfl, hf, hm, hg, q⟩ := h
    rfl
  · obtain ⟨far, m, g, rfl, hf, hm, hg, q⟩ := h
    refine ⟨_, (pss_cons (ps_set (i := 3) sc__law_no_rows.nd rfl (Or.inl rfl) (pe_lst (pa_cons pe_non (pa_cons pe_int (pa_cons pe_str (pa_cons (pe_tup pa_nil) (pa_cons (pe_tup (pa_cons pe_int (pa_cons pe_int pa_nil))) (pa_cons pe_dnewT (pa_cons (pe_lst pa_nil) (pa_cons (pe_op op_rep (pe_lst (pa_cons pe_int pa_nil)) (pe_op op_add (pv 1) pe_int)) (pa_cons (pe_op op_rep (pe_lst (pa_cons pe_int pa_nil)) (pe_op op_add (pe_op op_add (pv 1) (pe_op op_mod (pv 0) pe_int)) pe_int)) pa_nil))))))))))) (pss_cons (ps_for PassesOwn.never rfl (pi_list (pe_op op_cat (pe_call C__law_strange.ok (hr.mono (by decide)) (by rfl) C__law_strange.g C__law_strange.kp C__law_strange.b .nil pass0 (pa_cons (pv 0) pa_nil)) (pe_lst (pa_cons (pe_op op_add (pv 2) pe_int) (pa_cons (pe_op op_add (pv 2) (pv 0)) pa_nil))))) (pg_name (i := 4) sc__law_no_rows.nd rfl (Or.inl rfl)) (pss_cons (ps_set (i := 5) sc__law_no_rows.nd rfl (Or.inl rfl) (pe_lst (pa_cons pe_int (pa_cons pe_int pa_nil)))) (pss_cons (ps_expr (pe_bm PySem.F.plainAttrs_list PySem.F.slot_list_insert PySem.F.type_list_insert mt_insert (pv 5) (pa_cons (pe_op op_mod (pe_op op_fdiv (pv 0) pe_int) pe_int) (pa_cons (pv 4) pa_nil)))) (pss_one (ps_expr (pe_bm PySem.F.plainAttrs_list PySem.F.slot_list_append PySem.F.type_list_append mt_append (pv 3) (pa_cons (pv 5) pa_nil))))))) (pss_one (ps_ret (pv 3))))), ?_⟩
    have f9 := Int.emod_nonneg far (show (9 : Int) ≠ 0 by decide)
    have f9' := Int.emod_lt_of_pos far (show (0 : Int) < 9 by decide)
    refine q_asgN (tn_lstAll2 (K := K) (m := m) (g := g) (n := 9) (trall_cons RowL.up (tw_ev ev_c fun H' _ => rl_val (n := "NoneType") (.base .non) (by decide +kernel) (fun _ z => nomatch z))
      (trall_cons RowL.up (tw_ev ev_c fun H' _ => rl_val (n := "int") (.base (.int _)) (by decide +kernel) (fun _ z => nomatch z))
      (trall_cons RowL.up (tw_ev ev_c fun H' _ => rl_val (n := "str") (.base (.str _)) (by decide +kernel) (fun _ z => nomatch z))
      (trall_cons RowL.up (tw_u (eu_tup ea_nil (by decide : 0 ≤ 100000)) fun p H' h => rl_ref (n := "tuple") h (.base (.tup h)) (by decide +kernel))
      (trall_cons RowL.up (tw_u (eu_tup (ea_cons ev_c (ea_cons ev_c ea_nil)) (by decide : 2 ≤ 100000)) fun p H' h => rl_ref (n := "tuple") h (.base (.tup h)) (by decide +kernel))
      (trall_cons RowL.up (tw_n tn_dnewT fun p H' h => rl_ref (n := "dict") h (.base (.dT h)) (by decide +kernel))
      (trall_cons RowL.up (tw_l (el_lst ea_nil (by decide)) fun p H' h => rl_lst h (.inr ⟨p, [], rfl, h, fun w hw => absurd hw (by simp), rfl⟩))
      (trall_cons RowL.up (tw_l (el_rep (k := (m : Int) + 1) (el_lst (ea_cons ev_c ea_nil) (by decide : 1 ≤ 100000)) (fun _ _ => ev_add (ev_var rfl) ev_c) (by omega) (by omega)) fun p H' h => rl_lst h (rep_bad h (by omega)))
      (trall_cons RowL.up (tw_l (el_rep (k := (m : Int) + far % 9 + 1) (el_lst (ea_cons ev_c ea_nil) (by decide : 1 ≤ 100000)) (fun _ _ => ev_add (ev_add (ev_var rfl) (ev_mod (ev_var rfl) ev_c (by decide))) ev_c) (by omega) (by omega)) fun p H' h => rl_lst h (rep_bad h (by omega))) trall_nil))))))))) (by decide)) fun d H1 hd e1 ⟨xs, h1, hl, hx⟩ => ?_
    refine q_forN (tn_catAll (BadIt.up (K := K) (g := g)) ((tn_call (ea_cons (ev_var rfl) ea_nil) (sn__law_strange (K := K) hf)).imp fun p H' ⟨ys, k1, k2, k3⟩ => ⟨ys, k1, k2, fun v hv => (k3 v hv).bad⟩) (fun H2 e2 => tn_lstAll BadIt.up (n := 2) (trall_cons BadIt.up (tw_ev (ev_add (ev_var rfl) ev_c) fun H' _ => ⟨item_int _, bad_big (by omega)⟩) (trall_cons BadIt.up (tw_ev (ev_add (ev_var rfl) (ev_var rfl)) fun H' _ => ⟨item_int _, bad_big (by omega)⟩) trall_nil)) (by decide)) (by decide)) fun pI H2 hpI e2 ⟨its, hI, hIl, hIb⟩ => ?_
    have nd : pI ≠ d := fun z => by rw [z, h1] at hpI; cases hpI
    refine ⟨its, (fun i σ' H' => ∃ z4 z5 ys, σ' = [some (.int far), some (.int (m : Int)), some (.int g), some (.ref d), z4, z5] ∧ (∀ a o, H2 a = some o → a ≠ d → H' a = some o) ∧ H' d = some (.lst ys) ∧ ys.length = 9 + i ∧ (∀ v ∈ ys, RowB K m g v H' ∧ v ≠ .ref d) ∧ ∀ v ∈ its, BadIt K g v H'),
      SqL.of hI, ⟨_, _, xs, rfl, fun a o h _ => h, e2 _ _ h1, hl, fun v hv => ⟨RowB.up _ _ _ e2 (hx v hv).1, (hx v hv).2⟩, hIb⟩, (fun i σ' H' _ hP => ?_), (fun i v σ' H' hv hP => ?_), (fun σ' H' hP => ?_)⟩
    · obtain ⟨_, _, _, _, k, _⟩ := hP
      exact SqL.of (k _ _ hI nd)
    · obtain ⟨z4, z5, ys, rfl, kE, hd', hyl, hys, hits⟩ := hP
      have hvb := hits v (List.mem_of_getElem? hv)
      have hil : i < 11 := by
        have := (List.getElem?_eq_some_iff.mp hv).1
        omega
      have f3 := Int.emod_nonneg (far / 9) (show (3 : Int) ≠ 0 by decide)
      have f3' := Int.emod_lt_of_pos (far / 9) (show (0 : Int) < 3 by decide)
      refine q_asgL (el_lst (ea_cons ev_c (ea_cons ev_c ea_nil)) (by decide : 2 ≤ 100000)) fun pr H3 hpr e3 h3 => ?_
      have nrd : pr ≠ d := fun z => by rw [z, hd'] at hpr; cases hpr
      refine q_ins (K := K) h3 (ev_var rfl) (ev_mod (ev_fdiv (ev_var rfl) ev_c ⟨by decide, by decide⟩) ev_c (by decide)) (ev_var rfl) f3 (by omega) (by decide) fun H4 e4 => ?_
      have h44 := e4 _ _ h3
      have e34 : Ex H' (upd H4 pr (.lst (([V.int 2, V.int 0].take (far / 9 % 3).toNat ++ [v] ++ [V.int 2, V.int 0].drop (far / 9 % 3).toNat)))) := Ex.mut (e3.trans e4) hpr
      have h4r : (upd H4 pr (.lst (([V.int 2, V.int 0].take (far / 9 % 3).toNat ++ [v] ++ [V.int 2, V.int 0].drop (far / 9 % 3).toNat)))) pr = some (.lst (([V.int 2, V.int 0].take (far / 9 % 3).toNat ++ [v] ++ [V.int 2, V.int 0].drop (far / 9 % 3).toNat))) := upd_same
      generalize upd H4 pr (.lst (([V.int 2, V.int 0].take (far / 9 % 3).toNat ++ [v] ++ [V.int 2, V.int 0].drop (far / 9 % 3).toNat))) = HA at e34 h4r
      have hrow : RowB K m g (.ref pr) HA := rowB_item (v := v) h4r (fun w hw => by
        rcases List.mem_append.mp hw with hw | hw
        · rcases List.mem_append.mp hw with hw | hw
          · exact two_item (List.mem_of_mem_take hw)
          · rw [List.mem_singleton.mp hw]
            exact hvb.1.mono e34
        · exact two_item (List.mem_of_mem_drop hw)) (List.mem_append_left _ (List.mem_append_right _ (List.mem_singleton.mpr rfl))) hvb.2
      refine s_app (e34 _ _ hd') (ev_var rfl) (ev_var rfl) (by omega) fun H5 e5 => ?_
      have hd5 := e5 _ _ (e34 _ _ hd')
      have e05 := e34.trans e5
      refine ⟨_, _, _, rfl, fun a o h n => by rw [upd_ne n]; exact e05 _ _ (kE a o h n), upd_same, by rw [List.length_append]; show ys.length + 1 = 9 + (i + 1); omega, fun w hw => ?_, fun w hw => ?_⟩
      · rcases List.mem_append.mp hw with hw | hw
        · exact ⟨RowB.upd hd5 (hys w hw).2 (RowB.up _ _ _ e05 (hys w hw).1), (hys w hw).2⟩
        · rw [List.mem_singleton.mp hw]
          exact ⟨RowB.upd hd5 (fun z => nrd (V.ref.inj z)) (RowB.up _ _ _ e5 hrow), fun z => nrd (V.ref.inj z)⟩
      · exact ⟨item_upd hd5 ((hits w hw).1.mono e05), (hits w hw).2⟩
    · obtain ⟨z4, z5, ys, rfl, kE, hd', hyl, hys, hits⟩ := hP
      refine s_ret (ev_var rfl) fun H3 e3 => q d H3 hd ?_ ⟨ys, e3 _ _ hd', by omega, fun v hv => RowB.up _ _ _ e3 (hys v hv).1⟩
      intro a o ha
      refine e3 _ _ (kE a o (e2 _ _ (e1 _ _ ha)) fun z => ?_)
      rw [z, hd] at ha
      cases ha
theorem ok__law_cell_at {f : Addr} {fd : FuncData} (F : Fun K "_law_cell_at" "_law_cell_at" s__law_cell_at f fd) (B : Bi mg)   : FnOk P w K mg base CX0 1 f fd P__law_cell_at (sp__law_cell_at K) := by
  refine F.ok sc__law_cell_at (fun vs H Q E h => ?_) (fun cdv A outer s H vs Q E hr h => ?_)
  · obtain ⟨a, ns, k, rfl, hS, hk, q⟩ := h
    rfl
  · obtain ⟨a, ns, k, rfl, hS, hk, q⟩ := h
    refine ⟨_, (pss_cons (ps_if (pt_cmpR op_lt (pv 1) (pe_callB call_len_seq (by rfl) B.len_ (by decide +kernel) (pa_cons (pv 0) pa_nil)) (nomark _)) (pss_one (ps_ret (pe_ix ix_list (pv 0) (pv 1) (fun _ _ => rfl)))) pss_nil) (pss_one (ps_ret pe_int))), ?_⟩
    refine q_when (et_test (ev_lt (ev_var rfl) (ev_lenL (ev_var rfl) hS))) (fun hb H1 e1 => ?_) (fun hb H1 e1 => ?_)
    · have hb2 := of_decide_eq_true hb
      rw [List.length_map] at hb2
      have hk2 : k.toNat < ns.length := by omega
      refine s_ret (ev_ixL (v := .int (cellF ns k)) (ev_var rfl) (ev_var rfl) (ex_l e1 hS) ?_) fun H2 e2 => q H2 (e1.trans e2)
      have e : (k.toNat : Int) = k := Int.toNat_of_nonneg hk
      rw [← e]
      refine atI_nat ?_
      rw [List.getElem?_map, gD_at hk2]
      unfold cellF
      rw [e]
      rfl
    · have hb2 := of_decide_eq_false hb
      rw [List.length_map] at hb2
      have e : cellF ns k = 0 := by
        unfold cellF
        rw [List.getD_eq_getElem?_getD, List.getElem?_eq_none (by omega)]
        rfl
      rw [e] at q
      exact s_ret ev_c fun H2 e2 => q H2 (e1.trans e2)
theorem ok__law_draw {f : Addr} {fd : FuncData} (F : Fun K "_law_draw" "_law_draw" s__law_draw f fd) (B : Bi mg)   : FnOk P w K mg base CX0 1 f fd P__law_draw (sp__law_draw K) := by
  refine F.ok sc__law_draw (fun vs H Q E h => ?_) (fun cdv A outer s H vs Q E hr h => ?_)
  · obtain ⟨c, k, m, rfl, hk, hm, q⟩ := h
    rfl
  · obtain ⟨c, k, m, rfl, hk, hm, q⟩ := h
    refine ⟨_, (pss_cons (ps_set (i := 3) sc__law_draw.nd rfl (Or.inl rfl) (pe_tup (pa_cons pe_int (pa_cons pe_int (pa_cons pe_int (pa_cons pe_int (pa_cons pe_int (pa_cons pe_int (pa_cons pe_int (pa_cons pe_int (pa_cons pe_int (pa_cons pe_int (pa_cons pe_int (pa_cons pe_int (pa_cons pe_int (pa_cons pe_int (pa_cons pe_int (pa_cons pe_int pa_nil)))))))))))))))))) (pss_one (ps_ret (pe_op op_mod (pe_op op_mod (pe_op op_add (pe_op op_mulO (pv 0) pe_int) (pe_op op_mulO (pv 1) pe_int)) (pe_ix ix_tup (pv 3) (pe_op op_mod (pv 1) pe_int) (fun _ _ => rfl))) (pv 2))))), ?_⟩
    refine q_asgU (xs := primesL.map V.int) (eu_tup ?_ (by decide)) fun p H1 hp e1 h1 => ?_
    · exact ea_cons ev_c (ea_cons ev_c (ea_cons ev_c (ea_cons ev_c (ea_cons ev_c (ea_cons ev_c (ea_cons ev_c (ea_cons ev_c (ea_cons ev_c (ea_cons ev_c (ea_cons ev_c (ea_cons ev_c (ea_cons ev_c (ea_cons ev_c (ea_cons ev_c (ea_cons ev_c ea_nil)))))))))))))))
    · obtain ⟨pp, pa⟩ := prime_pos (k := k % 16) (Int.emod_nonneg _ (by decide)) (Int.emod_lt_of_pos _ (by decide))
      refine s_ret (ev_mod (ev_mod (ev_add (ev_mul (ev_var rfl) ev_c (IntMulOk.of_right (by decide))) (ev_mul (ev_var rfl) ev_c (IntMulOk.of_right (by decide)))) (ev_ixT (ev_var rfl) (ev_mod (ev_var rfl) ev_c (by decide)) (SqT.of h1) pa) pp) (ev_var rfl) hm) fun H2 e2 => q H2 (e1.trans e2)
theorem ok__law_value {f : Addr} {fd : FuncData} (F : Fun K "_law_value" "_law_value" s__law_value f fd) (B : Bi mg)  {f__law_draw : Addr} {fd__law_draw : FuncData} (C__law_draw : Cal P w K mg base CX0 1 "_law_draw" P__law_draw (sp__law_draw K) f__law_draw fd__law_draw) : FnOk P w K mg base CX0 2 f fd P__law_value (sp__law_value K) := by
  refine F.ok sc__law_value (fun vs H Q E h => ?_) (fun cdv A outer s H vs Q E hr h => ?_)
  · obtain ⟨c, t, rfl, hc, h0, h1, q⟩ := h
    rfl
  · obtain ⟨c, t, rfl, hc, h0, h1, q⟩ := h
    refine ⟨_, (pss_cons (ps_if (pt_cmpR op_ge (pv 0) (pe_op op_pow pe_int pe_int) (nomark _)) (pss_one (ps_ret (pe_op op_shr (pe_op op_sub (pv 0) (pe_op op_pow pe_int pe_int)) (pe_op op_mulO pe_int (pv 1))))) pss_nil) (pss_cons (ps_set (i := 2) sc__law_value.nd rfl (Or.inl rfl) (pe_call C__law_draw.ok (hr.mono (by decide)) (by rfl) C__law_draw.g C__law_draw.kp C__law_draw.b .nil pass0 (pa_cons (pe_op op_mulO (pe_op op_add (pv 0) (pe_op op_mulO pe_int (pv 1))) (pe_op op_add (pe_op op_add (pv 0) (pe_op op_mulO pe_int (pv 1))) pe_int)) (pa_cons (pe_op op_add (pe_op op_mod (pv 1) pe_int) pe_int) (pa_cons pe_int pa_nil))))) (pss_one (ps_ret (pe_op op_add (pe_op op_mulO (pv 2) pe_int) (pe_call C__law_draw.ok (hr.mono (by decide)) (by rfl) C__law_draw.g C__law_draw.kp C__law_draw.b .nil pass0 (pa_cons (pe_op op_add (pe_op op_mulO (pe_op op_add (pv 0) (pe_op op_mulO pe_int (pv 1))) (pe_op op_add (pv 0) pe_int)) (pe_op op_mulO pe_int (pv 1))) (pa_cons (pe_op op_add (pe_op op_mod (pv 1) pe_int) pe_int) (pa_cons pe_int pa_nil))))))))), ?_⟩
    have ep : Ev (tOp (rI CPow fun i j => .int (i ^ j.toNat)) (tC (.int 10)) (tC (.int 18))) [some (.int c), some (.int t), none] H (.int ((10 : Int) ^ (18 : Int).toNat)) := ev_pow ev_c ev_c ⟨by decide, by decide, by decide⟩
    refine q_when (et_test (ev_ge (ev_var rfl) ep)) (fun hb H1 e1 => ?_) (fun hb H1 e1 => ?_)
    · have hb2 : c ≥ (10 : Int) ^ (18 : Int).toNat := of_decide_eq_true hb
      have ev : valueF c t = (c - (10 : Int) ^ (18 : Int).toNat) / 2 ^ (3 * t).toNat := by
        unfold valueF
        rw [if_pos hb2]
      rw [ev] at q
      exact s_ret (ev_shr (ev_sub (ev_var rfl) (Ev.mono e1 ep)) (ev_mul ev_c (ev_var rfl) (IntMulOk.of_left (by decide))) (by omega)) fun H2 e2 => q H2 (e1.trans e2)
    · have hb2 : ¬ c ≥ (10 : Int) ^ (18 : Int).toNat := of_decide_eq_false hb
      have ev : valueF c t = drawF ((c + 977 * t) * (c + 31 * t + 5)) (t % 9 + 1) 999983 * 1000003 + drawF ((c + 31 * t) * (c + 7) + 977 * t) (t % 7 + 2) 1000003 := by
        unfold valueF
        rw [if_neg hb2]
      rw [ev] at q
      have b9 := Int.emod_nonneg t (show (9 : Int) ≠ 0 by decide)
      have b7 := Int.emod_nonneg t (show (7 : Int) ≠ 0 by decide)
      have s1 : ∀ z : Int, 0 ≤ z → z ≤ 1000000 → Bt 1100000 z := fun z z0 z1 => Bt.mono (Bt.small (by omega) (by omega)) (by decide)
      have m1 : IntMulOk (c + 977 * t) (c + 31 * t + 5) := mulOk (Bt.add hc (s1 _ (by omega) (by omega))) (Bt.add (Bt.add hc (s1 _ (by omega) (by omega))) (Bt.mono (s1 5 (by decide) (by decide)) (by decide))) (by decide)
      have m2 : IntMulOk (c + 31 * t) (c + 7) := mulOk (Bt.add hc (s1 _ (by omega) (by omega))) (Bt.add hc (s1 7 (by decide) (by decide))) (by decide)
      have ml : ∀ (a : Int), IntMulOk 977 a := fun a => IntMulOk.of_left (by decide)
      have ml2 : ∀ (a : Int), IntMulOk 31 a := fun a => IntMulOk.of_left (by decide)
      refine q_asg (ev_call1 (ea_cons (ev_mul (ev_add (ev_var rfl) (ev_mul ev_c (ev_var rfl) (ml _))) (ev_add (ev_add (ev_var rfl) (ev_mul ev_c (ev_var rfl) (ml2 _))) ev_c) m1) (ea_cons (ev_add (ev_mod (ev_var rfl) ev_c (by decide)) ev_c) (ea_cons ev_c ea_nil))) (sv__law_draw (by omega) (by decide))) fun H2 e2 => ?_
      exact s_ret (ev_add (ev_mul (ev_var rfl) ev_c (IntMulOk.of_right (by decide))) (ev_call1 (ea_cons (ev_add (ev_mul (ev_add (ev_var rfl) (ev_mul ev_c (ev_var rfl) (ml2 _))) (ev_add (ev_var rfl) ev_c) m2) (ev_mul ev_c (ev_var rfl) (ml _))) (ea_cons (ev_add (ev_mod (ev_var rfl) ev_c (by decide)) ev_c) (ea_cons ev_c ea_nil))) (sv__law_draw (by omega) (by decide)))) fun H3 e3 => q H3 ((e1.trans e2).trans e3)
theorem ok_refuse_no_row_bad {f : Addr} {fd : FuncData} (F : Fun K "refuse_no_row" "refuse_no_row" s_refuse_no_row f fd) (B : Bi mg) {C : Addr} (X : TxE K mg "BadRow" C) {f_is_row : Addr} {fd_is_row : FuncData} (C_is_row : Cal P w K mg base CX0 3 "is_row" P_is_row (sp_is_row K) f_is_row fd_is_row) : FnOk P w K mg base (L2.CX P w) 4 f fd P_refuse_no_row (sp_refuse_no_row_bad K C) := by
  refine F.okX sc_refuse_no_row (fun vs H Q E h => ?_) (fun cdv A outer s H vs Q E hr h => ?_)
  · obtain ⟨x, rfl, hx, q⟩ := h
    rfl
  · obtain ⟨x, rfl, hx, q⟩ := h
    refine ⟨_, pss_one (ps_if (pt_not (pt_val (pe_call C_is_row.ok (hr.mono (by decide)) (by rfl) C_is_row.g C_is_row.kp C_is_row.b .nil pass0 (pa_cons (pv 0) pa_nil)))) (pss_one (ps_raise rfl (takes_of rfl rfl rfl rfl) (pmk_own PySem.F.excBase_ValueError X.x X.g X.k (raises_own X.b X.t) rfl))) pss_nil), ?_⟩
    exact s_when (b := true) (et_is (et_not (et_B (ev_call1 (ea_cons (ev_var rfl) ea_nil) (sv_is_rowX hx)))) rfl) (fun _ H1 e1 => q H1 e1) (fun hb => Bool.noConfusion hb)
theorem ok_refuse_no_evening_bad {f : Addr} {fd : FuncData} (F : Fun K "refuse_no_evening" "refuse_no_evening" s_refuse_no_evening f fd) (B : Bi mg) {C : Addr} (X : TxE K mg "BadEvening" C) {f_can_be : Addr} {fd_can_be : FuncData} (C_can_be : Cal P w K mg base CX0 3 "can_be" P_can_be (sp_can_be K) f_can_be fd_can_be) : FnOk P w K mg base (L2.CX P w) 4 f fd P_refuse_no_evening (sp_refuse_no_evening_bad K C) := by
  refine F.okX sc_refuse_no_evening (fun vs H Q E h => ?_) (fun cdv A outer s H vs Q E hr h => ?_)
  · obtain ⟨a, ns, x, rfl, hS, hR, hx, q⟩ := h
    rfl
  · obtain ⟨a, ns, x, rfl, hS, hR, hx, q⟩ := h
    refine ⟨_, pss_one (ps_if (pt_not (pt_val (pe_call C_can_be.ok (hr.mono (by decide)) (by rfl) C_can_be.g C_can_be.kp C_can_be.b .nil pass0 (pa_cons (pv 0) (pa_cons (pv 1) pa_nil))))) (pss_one (ps_raise rfl (takes_of rfl rfl rfl rfl) (pmk_own PySem.F.excBase_ValueError X.x X.g X.k (raises_own X.b X.t) rfl))) pss_nil), ?_⟩
    exact s_when (b := true) (et_is (et_not (et_B (ev_call1 (ea_cons (ev_var rfl) (ea_cons (ev_var rfl) ea_nil)) (sv_can_be hS hx.be)))) rfl) (fun _ H1 e1 => q H1 e1) (fun hb => Bool.noConfusion hb)
theorem ok_refuse_no_small_row_bad {f : Addr} {fd : FuncData} (F : Fun K "refuse_no_small_row" "refuse_no_small_row" s_refuse_no_small_row f fd) (B : Bi mg) {C : Addr} (X : TxE K mg "BadRow" C) {f_is_small_row : Addr} {fd_is_small_row : FuncData} (C_is_small_row : Cal P w K mg base CX0 4 "is_small_row" P_is_small_row (sp_is_small_row K) f_is_small_row fd_is_small_row) : FnOk P w K mg base (L2.CX P w) 5 f fd P_refuse_no_small_row (sp_small_bad K C) := by
  refine F.okX sc_refuse_no_small_row (fun vs H Q E h => ?_) (fun cdv A outer s H vs Q E hr h => ?_)
  · obtain ⟨x, rfl, hx, q⟩ := h
    rfl
  · obtain ⟨x, rfl, hx, q⟩ := h
    refine ⟨_, pss_one (ps_if (pt_not (pt_val (pe_call C_is_small_row.ok (hr.mono (by decide)) (by rfl) C_is_small_row.g C_is_small_row.kp C_is_small_row.b .nil pass0 (pa_cons (pv 0) pa_nil)))) (pss_one (ps_raise rfl (takes_of rfl rfl rfl rfl) (pmk_own PySem.F.excBase_ValueError X.x X.g X.k (raises_own X.b X.t) rfl))) pss_nil), ?_⟩
    exact s_when (b := true) (et_is (et_not (et_B (ev_call1 (ea_cons (ev_var rfl) ea_nil) (sv_is_small_rowX hx)))) rfl) (fun _ H1 e1 => q H1 e1) (fun hb => Bool.noConfusion hb)
theorem ok_evenings_bad {f : Addr} {fd : FuncData} (F : Fun K "evenings" "evenings" s_evenings f fd) (B : Bi mg) {C : Addr} {f_refuse_no_row_bad : Addr} {fd_refuse_no_row_bad : FuncData} (C_refuse_no_row_bad : Cal P w K mg base (L2.CX P w) 4 "refuse_no_row" P_refuse_no_row (sp_refuse_no_row_bad K C) f_refuse_no_row_bad fd_refuse_no_row_bad) : FnOk P w K mg base (L2.CX P w) 5 f fd P_evenings (sp_refuse_no_row_bad K C) := by
  refine F.okX sc_evenings (fun vs H Q E h => ?_) (fun cdv A outer s H vs Q E hr h => ?_)
  · obtain ⟨x, rfl, hx, q⟩ := h
    rfl
  · obtain ⟨x, rfl, hx, q⟩ := h
    refine ⟨_, pss_cons (ps_expr (pe_callS C_refuse_no_row_bad.ok (hr.mono (by decide)) (by rfl) C_refuse_no_row_bad.g C_refuse_no_row_bad.kp C_refuse_no_row_bad.b (fun σ => passAt (takes_of rfl rfl rfl rfl) σ) (pa_cons (pv 0) pa_nil))) pss_never, ?_⟩
    exact ⟨_, rfl, x, rfl, hx, q⟩
theorem ok_evened_bad {f : Addr} {fd : FuncData} (F : Fun K "evened" "evened" s_evened f fd) (B : Bi mg) {C : Addr} {f_refuse_no_row_bad : Addr} {fd_refuse_no_row_bad : FuncData} (C_refuse_no_row_bad : Cal P w K mg base (L2.CX P w) 4 "refuse_no_row" P_refuse_no_row (sp_refuse_no_row_bad K C) f_refuse_no_row_bad fd_refuse_no_row_bad) : FnOk P w K mg base (L2.CX P w) 5 f fd P_evened (sp_row2_bad K C) := by
  refine F.okX sc_evened (fun vs H Q E h => ?_) (fun cdv A outer s H vs Q E hr h => ?_)
  · obtain ⟨x, y, rfl, hx, q⟩ := h
    rfl
  · obtain ⟨x, y, rfl, hx, q⟩ := h
    refine ⟨_, pss_cons (ps_expr (pe_callS C_refuse_no_row_bad.ok (hr.mono (by decide)) (by rfl) C_refuse_no_row_bad.g C_refuse_no_row_bad.kp C_refuse_no_row_bad.b (fun σ => passAt (takes_of rfl rfl rfl rfl) σ) (pa_cons (pv 0) pa_nil))) pss_never, ?_⟩
    exact ⟨_, rfl, x, rfl, hx, q⟩
theorem ok_fall_bad {f : Addr} {fd : FuncData} (F : Fun K "fall" "fall" s_fall f fd) (B : Bi mg) {C : Addr} {f_refuse_no_row_bad : Addr} {fd_refuse_no_row_bad : FuncData} (C_refuse_no_row_bad : Cal P w K mg base (L2.CX P w) 4 "refuse_no_row" P_refuse_no_row (sp_refuse_no_row_bad K C) f_refuse_no_row_bad fd_refuse_no_row_bad) : FnOk P w K mg base (L2.CX P w) 5 f fd P_fall (sp_row2_bad K C) := by
  refine F.okX sc_fall (fun vs H Q E h => ?_) (fun cdv A outer s H vs Q E hr h => ?_)
  · obtain ⟨x, y, rfl, hx, q⟩ := h
    rfl
  · obtain ⟨x, y, rfl, hx, q⟩ := h
    refine ⟨_, pss_cons (ps_expr (pe_callS C_refuse_no_row_bad.ok (hr.mono (by decide)) (by rfl) C_refuse_no_row_bad.g C_refuse_no_row_bad.kp C_refuse_no_row_bad.b (fun σ => passAt (takes_of rfl rfl rfl rfl) σ) (pa_cons (pv 0) pa_nil))) pss_never, ?_⟩
    exact ⟨_, rfl, x, rfl, hx, q⟩
theorem ok_alike_bad {f : Addr} {fd : FuncData} (F : Fun K "alike" "alike" s_alike f fd) (B : Bi mg) {C : Addr} {f_refuse_no_small_row_bad : Addr} {fd_refuse_no_small_row_bad : FuncData} (C_refuse_no_small_row_bad : Cal P w K mg base (L2.CX P w) 5 "refuse_no_small_row" P_refuse_no_small_row (sp_small_bad K C) f_refuse_no_small_row_bad fd_refuse_no_small_row_bad) : FnOk P w K mg base (L2.CX P w) 9 f fd P_alike (sp_small_bad K C) := by
  refine F.okX sc_alike (fun vs H Q E h => ?_) (fun cdv A outer s H vs Q E hr h => ?_)
  · obtain ⟨x, rfl, hx, q⟩ := h
    rfl
  · obtain ⟨x, rfl, hx, q⟩ := h
    refine ⟨_, pss_cons (ps_expr (pe_callS C_refuse_no_small_row_bad.ok (hr.mono (by decide)) (by rfl) C_refuse_no_small_row_bad.g C_refuse_no_small_row_bad.kp C_refuse_no_small_row_bad.b (fun σ => passAt (takes_of rfl rfl rfl rfl) σ) (pa_cons (pv 0) pa_nil))) pss_never, ?_⟩
    exact ⟨_, rfl, x, rfl, hx, q⟩
theorem ok_ends_bad {f : Addr} {fd : FuncData} (F : Fun K "ends" "ends" s_ends f fd) (B : Bi mg) {C : Addr} {f_refuse_no_small_row_bad : Addr} {fd_refuse_no_small_row_bad : FuncData} (C_refuse_no_small_row_bad : Cal P w K mg base (L2.CX P w) 5 "refuse_no_small_row" P_refuse_no_small_row (sp_small_bad K C) f_refuse_no_small_row_bad fd_refuse_no_small_row_bad) : FnOk P w K mg base (L2.CX P w) 9 f fd P_ends (sp_small_bad K C) := by
  refine F.okX sc_ends (fun vs H Q E h => ?_) (fun cdv A outer s H vs Q E hr h => ?_)
  · obtain ⟨x, rfl, hx, q⟩ := h
    rfl
  · obtain ⟨x, rfl, hx, q⟩ := h
    refine ⟨_, pss_cons (ps_expr (pe_callS C_refuse_no_small_row_bad.ok (hr.mono (by decide)) (by rfl) C_refuse_no_small_row_bad.g C_refuse_no_small_row_bad.kp C_refuse_no_small_row_bad.b (fun σ => passAt (takes_of rfl rfl rfl rfl) σ) (pa_cons (pv 0) pa_nil))) pss_never, ?_⟩
    exact ⟨_, rfl, x, rfl, hx, q⟩
theorem ok_fewest_most_bad {f : Addr} {fd : FuncData} (F : Fun K "fewest_most" "fewest_most" s_fewest_most f fd) (B : Bi mg) {C : Addr} {f_refuse_no_small_row_bad : Addr} {fd_refuse_no_small_row_bad : FuncData} (C_refuse_no_small_row_bad : Cal P w K mg base (L2.CX P w) 5 "refuse_no_small_row" P_refuse_no_small_row (sp_small_bad K C) f_refuse_no_small_row_bad fd_refuse_no_small_row_bad) : FnOk P w K mg base (L2.CX P w) 9 f fd P_fewest_most (sp_small_bad K C) := by
  refine F.okX sc_fewest_most (fun vs H Q E h => ?_) (fun cdv A outer s H vs Q E hr h => ?_)
  · obtain ⟨x, rfl, hx, q⟩ := h
    rfl
  · obtain ⟨x, rfl, hx, q⟩ := h
    refine ⟨_, pss_cons (ps_expr (pe_callS C_refuse_no_small_row_bad.ok (hr.mono (by decide)) (by rfl) C_refuse_no_small_row_bad.g C_refuse_no_small_row_bad.kp C_refuse_no_small_row_bad.b (fun σ => passAt (takes_of rfl rfl rfl rfl) σ) (pa_cons (pv 0) pa_nil))) pss_never, ?_⟩
    exact ⟨_, rfl, x, rfl, hx, q⟩
theorem ok_settled_bad {f : Addr} {fd : FuncData} (F : Fun K "settled" "settled" s_settled f fd) (B : Bi mg) {C : Addr} {f_evenings_bad : Addr} {fd_evenings_bad : FuncData} (C_evenings_bad : Cal P w K mg base (L2.CX P w) 5 "evenings" P_evenings (sp_refuse_no_row_bad K C) f_evenings_bad fd_evenings_bad) : FnOk P w K mg base (L2.CX P w) 6 f fd P_settled (sp_refuse_no_row_bad K C) := by
  refine F.okX sc_settled (fun vs H Q E h => ?_) (fun cdv A outer s H vs Q E hr h => ?_)
  · obtain ⟨x, rfl, hx, q⟩ := h
    rfl
  · obtain ⟨x, rfl, hx, q⟩ := h
    refine ⟨_, pss_one (ps_ret (pe_cmpR op_eq (pe_callB call_len_seq (by rfl) B.len_ (by decide +kernel) (pa_cons (pe_callS C_evenings_bad.ok (hr.mono (by decide)) (by rfl) C_evenings_bad.g C_evenings_bad.kp C_evenings_bad.b (fun σ => passAt (takes_of rfl rfl rfl rfl) σ) (pa_cons (pv 0) pa_nil)) pa_nil)) pe_int (nomark _))), ?_⟩
    exact ⟨_, rfl, x, rfl, hx, q⟩
theorem ok_evened_badE {f : Addr} {fd : FuncData} (F : Fun K "evened" "evened" s_evened f fd) (B : Bi mg) {C : Addr} {f_refuse_no_row : Addr} {fd_refuse_no_row : FuncData} (C_refuse_no_row : Cal P w K mg base CX0 4 "refuse_no_row" P_refuse_no_row (sp_refuse_no_row K) f_refuse_no_row fd_refuse_no_row) {f_refuse_no_evening_bad : Addr} {fd_refuse_no_evening_bad : FuncData} (C_refuse_no_evening_bad : Cal P w K mg base (L2.CX P w) 4 "refuse_no_evening" P_refuse_no_evening (sp_refuse_no_evening_bad K C) f_refuse_no_evening_bad fd_refuse_no_evening_bad) : FnOk P w K mg base (L2.CX P w) 5 f fd P_evened (sp_refuse_no_evening_bad K C) := by
  refine F.okX sc_evened (fun vs H Q E h => ?_) (fun cdv A outer s H vs Q E hr h => ?_)
  · obtain ⟨a, ns, x, rfl, hS, hR, hx, q⟩ := h
    rfl
  · obtain ⟨a, ns, x, rfl, hS, hR, hx, q⟩ := h
    refine ⟨_, pss_cons (ps_expr (pe_call C_refuse_no_row.ok (hr.mono (by decide)) (by rfl) C_refuse_no_row.g C_refuse_no_row.kp C_refuse_no_row.b .nil pass0 (pa_cons (pv 0) pa_nil))) (pss_cons (ps_expr (pe_callS C_refuse_no_evening_bad.ok (hr.mono (by decide)) (by rfl) C_refuse_no_evening_bad.g C_refuse_no_evening_bad.kp C_refuse_no_evening_bad.b (fun σ => passAt (takes_of rfl rfl rfl rfl) σ) (pa_cons (pv 0) (pa_cons (pv 1) pa_nil)))) pss_never), ?_⟩
    refine q_drop (ev_call1 (ea_cons (ev_var rfl) ea_nil) (sv_refuse_no_row hS hR)) fun H1 e1 => ?_
    exact ⟨_, rfl, _, rfl, a, ns, x, rfl, ex_l e1 hS, hR, hx.mono e1, fun H' e => q H' (e1.trans e)⟩
theorem ok_fall_badE {f : Addr} {fd : FuncData} (F : Fun K "fall" "fall" s_fall f fd) (B : Bi mg) {C : Addr} {f_refuse_no_row : Addr} {fd_refuse_no_row : FuncData} (C_refuse_no_row : Cal P w K mg base CX0 4 "refuse_no_row" P_refuse_no_row (sp_refuse_no_row K) f_refuse_no_row fd_refuse_no_row) {f_refuse_no_evening_bad : Addr} {fd_refuse_no_evening_bad : FuncData} (C_refuse_no_evening_bad : Cal P w K mg base (L2.CX P w) 4 "refuse_no_evening" P_refuse_no_evening (sp_refuse_no_evening_bad K C) f_refuse_no_evening_bad fd_refuse_no_evening_bad) : FnOk P w K mg base (L2.CX P w) 5 f fd P_fall (sp_refuse_no_evening_bad K C) := by
  refine F.okX sc_fall (fun vs H Q E h => ?_) (fun cdv A outer s H vs Q E hr h => ?_)
  · obtain ⟨a, ns, x, rfl, hS, hR, hx, q⟩ := h
    rfl
  · obtain ⟨a, ns, x, rfl, hS, hR, hx, q⟩ := h
    refine ⟨_, pss_cons (ps_expr (pe_call C_refuse_no_row.ok (hr.mono (by decide)) (by rfl) C_refuse_no_row.g C_refuse_no_row.kp C_refuse_no_row.b .nil pass0 (pa_cons (pv 0) pa_nil))) (pss_cons (ps_expr (pe_callS C_refuse_no_evening_bad.ok (hr.mono (by decide)) (by rfl) C_refuse_no_evening_bad.g C_refuse_no_evening_bad.kp C_refuse_no_evening_bad.b (fun σ => passAt (takes_of rfl rfl rfl rfl) σ) (pa_cons (pv 0) (pa_cons (pv 1) pa_nil)))) pss_never), ?_⟩
    refine q_drop (ev_call1 (ea_cons (ev_var rfl) ea_nil) (sv_refuse_no_row hS hR)) fun H1 e1 => ?_
    exact ⟨_, rfl, _, rfl, a, ns, x, rfl, ex_l e1 hS, hR, hx.mono e1, fun H' e => q H' (e1.trans e)⟩
open LamX in
theorem gives_kinds {X : L2.Cx} {cG cR cE g : Addr} {cdg : Value} {q : Str} (TK : TxK X.K X.mg cG cR cE) (hisi : X.mg "isinstance" = none) (hVE : X.mg "ValueError" = none) : GivesTo X N__law_kinds "_law_kinds" (defScope s__law_kinds) g cdg (defBody s__law_kinds) "_law_ask" q (TTk X.K cG cR cE) := by
  intro f c' s H Q tl act hc h
  refine ⟨_, pss_cons (ps_set (i := 1) sc__law_kinds.nd rfl (Or.inl rfl) (pe_lst pa_nil)) (pss_cons (ps_try_as (i := 2) (c := .ref cG)
    (tb := fun W D σ H => ∃ (Ech : XK) (R : VK), (∀ cls d (σ' : L2.St) H', Ech cls d H' → σ'.length = 3 → W cls d σ' H') ∧ σ[0]? = some (some (.ref f)) ∧ H c' = some (CodeO c' q) ∧ tl Ech H R ∧ ∀ v H', R v H' → D.nx σ H')
    (ts := tsK X.K cR cE) (Wout := fun _ _ _ _ => False) rfl rfl sc__law_kinds.nd rfl rfl ⟨rfl, by decide, .inl TK.gG⟩ LamX.takes0 (fun W pn xe tk _ => ?_) (fun a oe cls d pn hz hf => ?_)) (pss_one (ps_ret (pv 1)))), ?_⟩
  · refine ⟨fun pins s' σ H' D I h' => ?_⟩
    obtain ⟨Ech, R, hW, h1, h2, h3, h4⟩ := h'
    exact (pss_one (ps_expr (pe_weak (act _ pn xe Ech _ _ (takes_len tk) fun cls d σ' H' hE hl => hW cls d σ' H' hE hl)))).run pins s' σ H' D I ⟨R, ⟨h1, h2, h3⟩, fun v H'' r => h4 v H'' r⟩
  · refine ⟨fun pins s' σ H' D I h' => ?_⟩
    obtain ⟨Dx, b1, b2, b3, rfl, rfl, hC, k1, k2, k3, hσ, hn⟩ := h'
    refine (pss_one (ps_set (i := 1) sc__law_kinds.nd rfl (Or.inl rfl) (pe_lst (pa_cons (pe_callB (call_isE (X := (cxOf C8.CX0 X.prog X.w X.K X.mg X.base N__law_kinds "_law_kinds" (defScope s__law_kinds) g cdg X.A X.stack s H C8.E0).nox) hC hz hf) (by rfl) hisi (by decide +kernel) (pa_cons (pv 2) (pa_cons (pe_glob (v := .ref cR) (by rfl) TK.gR rfl) pa_nil)))
      (pa_cons (pe_callB (call_isE (X := (cxOf C8.CX0 X.prog X.w X.K X.mg X.base N__law_kinds "_law_kinds" (defScope s__law_kinds) g cdg X.A X.stack s H C8.E0).nox) hC hz hf) (by rfl) hisi (by decide +kernel) (pa_cons (pv 2) (pa_cons (pe_glob (v := .ref cE) (by rfl) TK.gE rfl) pa_nil)))
      (pa_cons (pe_callB (call_isE (X := (cxOf C8.CX0 X.prog X.w X.K X.mg X.base N__law_kinds "_law_kinds" (defScope s__law_kinds) g cdg X.A X.stack s H C8.E0).nox) hC hz hf) (by rfl) hisi (by decide +kernel) (pa_cons (pv 2) (pa_cons (pe_bltn (v := .ty "ValueError") (by rfl) hVE (by decide +kernel) rfl) pa_nil))) pa_nil)))))).run pins s' σ H' D I ?_
    exact s_asgL (el_lst (ea_cons (ev_isE (ev_var hσ) (fun u r => r) k1) (ea_cons (ev_isE (ev_var hσ) (fun u r => r) k2) (ea_cons (ev_isE (ev_var hσ) (fun u r => r) k3) ea_nil))) (by decide : 3 ≤ 100000)) fun p H2 hp e2 h2 => hn p H2 hp e2 h2
  · refine ⟨sz_of (by decide : 0 ≤ 100000), fun p0 hp0 => ?_⟩
    refine ⟨Told X.K cG cR cE Q, fun _ _ => False, fun cls d σ' H' hT hl3 => ?_, rfl, ?_, h p0 hp0, fun _ _ z => z.elim⟩
    · obtain ⟨D, b1, b2, b3, rfl, rfl, hC, hx, k1, k2, k3, hn⟩ := hT
      refine ⟨true, hx, fun _ a ha => ⟨D, b1, b2, b3, rfl, rfl, hC, k1, k2, k3, by rw [List.getElem?_set_self (by omega)], fun p H2 hp e2 h2 => ?_⟩, fun z => Bool.noConfusion z⟩
      exact ⟨.ref p, by rw [List.getElem?_set_ne (by decide), List.getElem?_set_self (by rw [List.length_set]; omega)], hn H2 e2 p hp h2⟩
    · rw [upd_ne (ne_of_none hc hp0)]
      exact hc
def tabsR (Pt : Addr) : List (Addr × Str) := [(Pt, (("_law_right" : Str) ++ ".<locals>.") ++ "<lambda>")]
structure CalK (K : PySem.W.Frag) (mg : Str → Option Value) (g : Addr) (fd : FuncData) : Prop where
  F : Fun K "_law_kinds" "_law_kinds" s__law_kinds g fd
  mgk : mg "_law_kinds" = some (.ref g)
  kp : PySem.W.keepIn K (.ref g) = true
  b : L2.Binds K fd ["_law_ask"] []
open LamX in
theorem pe_kinds {X : L2.Cx} {T : List (Addr × Str)} {g c Pt cG cR cE : Addr} {fd : FuncData} {k : Nat} {t : XK → TE} {params : Arguments} {body : Expr} {scope : Scope} {p lpos pos : Pos} (C : CalK X.K X.mg g fd) (TK : TxK X.K X.mg cG cR cE) (hisi : X.mg "isinstance" = none) (hVE : X.mg "ValueError" = none) (hg : Gl X "_law_kinds")
    (TB : TabB X.base X.mg c Pt) (hcode : X.env.code = .ref c) (hT : T = tabsR Pt) (hq : X.env.qual = ("_law_right" : Str) ++ ".<locals>.") (hr : Room (k + 2) X.A) (L : LamS X.env.scope scope) (hdef : defaultsOf params X.env = ([], []))
    (hbind : ∀ (q : Str) (cl : List (Str × Addr)) (pm cv ctv : Value), bindArgs (PySem.W.kla_fn "<lambda>" q params body scope cl pm cv ctv) ⟨[], []⟩ = pure [])
    (hbody : ∀ (A : Around) (outer : List Env) (s : Shared) (H : Hp) (E : XK) (f c' : Addr), Room k (A.deeper (lamEnv X scope s.heap.objs.size f c')) → PE (lamCx X A outer s H E scope f c') body (t E)) :
    PE X (.Call (.Name "_law_kinds" p) [.Lambda params body scope lpos] [] pos) (tLam T (TTk X.K cG cR cE) t) := by
  obtain ⟨oc, od, kV, doc, pm, an, cdv, ct, osl, rfl, lk, hcd⟩ := C.F.ex
  exact pe_lamcall (x := "_law_kinds") (a := "_law_ask") (Ng := N__law_kinds) hg C.mgk C.kp lk hcd C.b sc__law_kinds rfl (Or.inl rfl) (gives_kinds TK hisi hVE) TB hcode (by rw [hT, hq]; exact List.mem_singleton.mpr rfl) (fun p hp _ => by rw [hT] at hp; rw [hq, List.mem_singleton.mp hp]) hr L hdef hbind hbody
def sp__law_right (K : PySem.W.Frag) (Pt : Addr) : Sp := fun vs H Q _ => ∃ far : Int, vs = [.int far] ∧ 0 < far ∧ LamX.Tabs (tabsR Pt) H ∧ ∀ H', LamX.ExtN H H' → LamX.Tabs (tabsR Pt) H' → Q (.bl true) H'
theorem PairB.noEv {K : PySem.W.Frag} {v : V} {H : Hp} (h : PairB K v H) : NoEv K H [1, 2, 5, 1] v := by
  rcases h with ⟨t, h1, h2⟩ | ⟨a, xs, rfl, h2, h3 | ⟨x, y, rfl, h4, h5, h6⟩ | ⟨i, j, rfl, h3 | ⟨a', b', rfl, rfl, k1, k2, k3⟩⟩⟩
  · exact .inl (.other h1 h2)
  · exact .inl (.long (SqT.of h2) h3)
  · exact .inl (.two (SqT.of h2) h4 h5 h6)
  · have h := PairQ.nums (K := K) (n := 4) (SqT.of h2)
    rw [show (decide (0 ≤ i) && (decide (i < j) && decide (j < ((4 : Nat) : Int)))) = false from h3] at h
    exact .inl h
  · exact .inr ⟨a, a', b', rfl, SqT.of h2, k1, k2, k3⟩
theorem tw_uX {H : Hp} {σ : L2.St} {te : TE} {xs : List V} {R : V → Hp → Prop} (h : EvU te σ H xs) (k : ∀ p H', Ex H H' → H' p = some (.tup xs) → R (.ref p) H') : TrW te σ H R := fun H1 e Q q => h H1 e _ fun p H2 hp e2 h2 => q _ H2 e2 (k p H2 (e.trans e2) h2)
open LamX in
theorem ok__law_right {f c Pt : Addr} {fd : FuncData} (F : Fun K "_law_right" "_law_right" s__law_right f fd) (hfc : fd.code = .ref c) (B : Bi mg) {cG cR cE g : Addr} {fdk : FuncData} (CK : CalK K mg g fdk) (TK : TxK K mg cG cR cE) (TB : TabB base mg c Pt)
    {f_evenings : Addr} {fd_evenings : FuncData} (C_evenings_bad : Cal P w K mg base (L2.CX P w) 5 "evenings" P_evenings (sp_refuse_no_row_bad K cR) f_evenings fd_evenings) {f_settled : Addr} {fd_settled : FuncData} (C_settled_bad : Cal P w K mg base (L2.CX P w) 6 "settled" P_settled (sp_refuse_no_row_bad K cR) f_settled fd_settled) {f_evened : Addr} {fd_evened : FuncData} (C_evened_bad : Cal P w K mg base (L2.CX P w) 5 "evened" P_evened (sp_row2_bad K cR) f_evened fd_evened) {f_fall : Addr} {fd_fall : FuncData} (C_fall_bad : Cal P w K mg base (L2.CX P w) 5 "fall" P_fall (sp_row2_bad K cR) f_fall fd_fall) {f_alike : Addr} {fd_alike : FuncData} (C_alike_bad : Cal P w K mg base (L2.CX P w) 9 "alike" P_alike (sp_small_bad K cR) f_alike fd_alike) {f_ends : Addr} {fd_ends : FuncData} (C_ends_bad : Cal P w K mg base (L2.CX P w) 9 "ends" P_ends (sp_small_bad K cR) f_ends fd_ends) {f_fewest_most : Addr} {fd_fewest_most : FuncData} (C_fewest_most_bad : Cal P w K mg base (L2.CX P w) 9 "fewest_most" P_fewest_most (sp_small_bad K cR) f_fewest_most fd_fewest_most) (C_evened_badE : Cal P w K mg base (L2.CX P w) 5 "evened" P_evened (sp_refuse_no_evening_bad K cE) f_evened fd_evened) (C_fall_badE : Cal P w K mg base (L2.CX P w) 5 "fall" P_fall (sp_refuse_no_evening_bad K cE) f_fall fd_fall) {f__law_no_rows : Addr} {fd__law_no_rows : FuncData} (C__law_no_rows : Cal P w K mg base CX0 2 "_law_no_rows" P__law_no_rows (sp__law_no_rows K) f__law_no_rows fd__law_no_rows) {f__law_strange : Addr} {fd__law_strange : FuncData} (C__law_strange : Cal P w K mg base CX0 1 "_law_strange" P__law_strange (sp__law_strange K) f__law_strange fd__law_strange)  : FnOk P w K mg base CX0 13 f fd P__law_right (sp__law_right K Pt) := by
  obtain ⟨oc, od, kV, doc, pm, an, cdv, ct, osl, rfl, lk, hcd⟩ := F.ex
  have hfc : cdv = .ref c := hfc
  subst hfc
  refine fn_of lk hcd sc__law_right (fun vs H Q E h => ?_) fun A outer s H vs Q E hr h => ?_
  · obtain ⟨far, rfl, hf, hT, q⟩ := h
    rfl
  · obtain ⟨far, rfl, hf, hT, q⟩ := h
    suffices hh : ∃ t, PSs (cxOf CX0 P w K mg base N__law_right "_law_right" (defScope s__law_right) f (.ref c) A outer s H E).nox (defBody s__law_right) t ∧ t { nx := fun _ H' => Q .non H', rt := Q } (L2.start N__law_right [.int far]) H by
      obtain ⟨t, h1, h2⟩ := hh
      exact ⟨t, h1.nox, h2⟩
    refine ⟨_, (pss_cons (ps_for PassesOwn.never rfl (pi_list (pe_call C__law_no_rows.ok (hr.mono (by decide)) (by rfl) C__law_no_rows.g C__law_no_rows.kp C__law_no_rows.b .nil pass0 (pa_cons (pv 0) (pa_cons pe_int (pa_cons pe_int pa_nil))))) (pg_name (i := 1) sc__law_right.nd rfl (Or.inr rfl)) (pss_cons (ps_for PassesOwn.never rfl (pi_tup (pe_tup (pa_cons (pe_glob (v := .ref f_evenings) (by rfl) C_evenings_bad.g rfl) (pa_cons (pe_glob (v := .ref f_settled) (by rfl) C_settled_bad.g rfl) pa_nil)))) (pg_name (i := 2) sc__law_right.nd rfl (Or.inr rfl)) (pss_one (ps_if (pt_cmpR (op_neD hr.units) (pe_kinds (T := tabsR Pt) (k := 9) CK TK B.isinstance_ B.ValueError_ (by rfl) TB rfl rfl rfl (hr.mono (by decide)) (LamX.lamS_by (sc := defScope s__law_right) (by decide +kernel)) rfl (fun _ _ _ _ _ => rfl) (fun _ _ _ _ E' _ _ hr2 => (pe_alt (ItX.pe_callV (i := 2) C_evenings_bad.fnR (hr2.mono (by decide)) C_evenings_bad.kp lam_passes (by rfl) (Or.inr (Or.inr rfl)) (pa_cons (pv 1) pa_nil)) (ItX.pe_callV (i := 2) C_settled_bad.fnR (hr2.mono (by decide)) C_settled_bad.kp lam_passes (by rfl) (Or.inr (Or.inr rfl)) (pa_cons (pv 1) pa_nil))))) (pe_lst (pa_cons pe_bl (pa_cons pe_bl (pa_cons pe_bl pa_nil)))) (nomark _)) (pss_one (ps_ret pe_bl)) pss_nil))) (pss_one (ps_for PassesOwn.never rfl (pi_tup (pe_tup (pa_cons (pe_glob (v := .ref f_evened) (by rfl) C_evened_bad.g rfl) (pa_cons (pe_glob (v := .ref f_fall) (by rfl) C_fall_bad.g rfl) pa_nil)))) (pg_name (i := 2) sc__law_right.nd rfl (Or.inr rfl)) (pss_one (ps_if (pt_cmpR (op_neD hr.units) (pe_kinds (T := tabsR Pt) (k := 9) CK TK B.isinstance_ B.ValueError_ (by rfl) TB rfl rfl rfl (hr.mono (by decide)) (LamX.lamS_by (sc := defScope s__law_right) (by decide +kernel)) rfl (fun _ _ _ _ _ => rfl) (fun _ _ _ _ E' _ _ hr2 => (pe_alt (ItX.pe_callV (i := 2) C_evened_bad.fnR (hr2.mono (by decide)) C_evened_bad.kp lam_passes (by rfl) (Or.inr (Or.inr rfl)) (pa_cons (pv 1) (pa_cons pe_non pa_nil))) (ItX.pe_callV (i := 2) C_fall_bad.fnR (hr2.mono (by decide)) C_fall_bad.kp lam_passes (by rfl) (Or.inr (Or.inr rfl)) (pa_cons (pv 1) (pa_cons pe_non pa_nil)))))) (pe_lst (pa_cons pe_bl (pa_cons pe_bl (pa_cons pe_bl pa_nil)))) (nomark _)) (pss_one (ps_ret pe_bl)) pss_nil)))))) (pss_cons (ps_for PassesOwn.never rfl (pi_list (pe_call C__law_no_rows.ok (hr.mono (by decide)) (by rfl) C__law_no_rows.g C__law_no_rows.kp C__law_no_rows.b .nil pass0 (pa_cons (pv 0) (pa_cons pe_int (pa_cons pe_int pa_nil))))) (pg_name (i := 1) sc__law_right.nd rfl (Or.inr rfl)) (pss_one (ps_for PassesOwn.never rfl (pi_tup (pe_tup (pa_cons (pe_glob (v := .ref f_alike) (by rfl) C_alike_bad.g rfl) (pa_cons (pe_glob (v := .ref f_ends) (by rfl) C_ends_bad.g rfl) (pa_cons (pe_glob (v := .ref f_fewest_most) (by rfl) C_fewest_most_bad.g rfl) pa_nil))))) (pg_name (i := 2) sc__law_right.nd rfl (Or.inr rfl)) (pss_one (ps_if (pt_cmpR (op_neD hr.units) (pe_kinds (T := tabsR Pt) (k := 9) CK TK B.isinstance_ B.ValueError_ (by rfl) TB rfl rfl rfl (hr.mono (by decide)) (LamX.lamS_by (sc := defScope s__law_right) (by decide +kernel)) rfl (fun _ _ _ _ _ => rfl) (fun _ _ _ _ E' _ _ hr2 => (pe_alt (ItX.pe_callV (i := 2) C_alike_bad.fnR (hr2.mono (by decide)) C_alike_bad.kp lam_passes (by rfl) (Or.inr (Or.inr rfl)) (pa_cons (pv 1) pa_nil)) (pe_alt (ItX.pe_callV (i := 2) C_ends_bad.fnR (hr2.mono (by decide)) C_ends_bad.kp lam_passes (by rfl) (Or.inr (Or.inr rfl)) (pa_cons (pv 1) pa_nil)) (ItX.pe_callV (i := 2) C_fewest_most_bad.fnR (hr2.mono (by decide)) C_fewest_most_bad.kp lam_passes (by rfl) (Or.inr (Or.inr rfl)) (pa_cons (pv 1) pa_nil)))))) (pe_lst (pa_cons pe_bl (pa_cons pe_bl (pa_cons pe_bl pa_nil)))) (nomark _)) (pss_one (ps_ret pe_bl)) pss_nil))))) (pss_cons (ps_set (i := 3) sc__law_right.nd rfl (Or.inl rfl) (pe_lst (pa_cons pe_non (pa_cons pe_int (pa_cons pe_str (pa_cons (pe_tup pa_nil) (pa_cons (pe_tup (pa_cons pe_int pa_nil)) (pa_cons (pe_tup (pa_cons pe_int (pa_cons pe_int (pa_cons pe_int pa_nil)))) (pa_cons (pe_lst (pa_cons pe_int (pa_cons pe_int pa_nil))) (pa_cons pe_dnewT (pa_cons (pe_tup (pa_cons pe_int (pa_cons pe_int pa_nil))) (pa_cons (pe_tup (pa_cons pe_int (pa_cons pe_int pa_nil))) (pa_cons (pe_tup (pa_cons pe_int (pa_cons pe_int pa_nil))) pa_nil))))))))))))) (pss_cons (ps_set (i := 3) sc__law_right.nd rfl (Or.inl rfl) (pe_op op_cat (pv 3) (pe_lst (pa_cons (pe_tup (pa_cons pe_int (pa_cons pe_int pa_nil))) (pa_cons (pe_tup (pa_cons pe_int (pa_cons pe_int pa_nil))) (pa_cons (pe_tup (pa_cons (pe_un un_neg pe_int) (pa_cons pe_int pa_nil))) (pa_cons (pe_tup (pa_cons pe_int (pa_cons (pe_op op_add pe_int (pv 0)) pa_nil))) pa_nil))))))) (pss_cons (ps_for PassesOwn.never rfl (pi_list (pe_call C__law_strange.ok (hr.mono (by decide)) (by rfl) C__law_strange.g C__law_strange.kp C__law_strange.b .nil pass0 (pa_cons (pv 0) pa_nil))) (pg_name (i := 4) sc__law_right.nd rfl (Or.inl rfl)) (pss_one (ps_set (i := 3) sc__law_right.nd rfl (Or.inl rfl) (pe_op op_cat (pv 3) (pe_lst (pa_cons (pe_tup (pa_cons (pv 4) (pa_cons pe_int pa_nil))) (pa_cons (pe_tup (pa_cons pe_int (pa_cons (pv 4) pa_nil))) pa_nil))))))) (pss_cons (ps_for PassesOwn.never rfl (pi_list (pv 3)) (pg_name (i := 5) sc__law_right.nd rfl (Or.inr rfl)) (pss_one (ps_for PassesOwn.never rfl (pi_tup (pe_tup (pa_cons (pe_glob (v := .ref f_evened) (by rfl) C_evened_bad.g rfl) (pa_cons (pe_glob (v := .ref f_fall) (by rfl) C_fall_bad.g rfl) pa_nil)))) (pg_name (i := 2) sc__law_right.nd rfl (Or.inr rfl)) (pss_one (ps_if (pt_cmpR (op_neD hr.units) (pe_kinds (T := tabsR Pt) (k := 9) CK TK B.isinstance_ B.ValueError_ (by rfl) TB rfl rfl rfl (hr.mono (by decide)) (LamX.lamS_by (sc := defScope s__law_right) (by decide +kernel)) rfl (fun _ _ _ _ _ => rfl) (fun _ _ _ _ E' _ _ hr2 => (pe_alt (ItX.pe_callV (i := 2) C_evened_badE.fnR (hr2.mono (by decide)) C_evened_badE.kp lam_passes (by rfl) (Or.inr (Or.inr rfl)) (pa_cons (pe_lst (pa_cons pe_int (pa_cons pe_int (pa_cons pe_int (pa_cons pe_int pa_nil))))) (pa_cons (pv 5) pa_nil))) (ItX.pe_callV (i := 2) C_fall_badE.fnR (hr2.mono (by decide)) C_fall_badE.kp lam_passes (by rfl) (Or.inr (Or.inr rfl)) (pa_cons (pe_lst (pa_cons pe_int (pa_cons pe_int (pa_cons pe_int (pa_cons pe_int pa_nil))))) (pa_cons (pv 5) pa_nil)))))) (pe_lst (pa_cons pe_bl (pa_cons pe_bl (pa_cons pe_bl pa_nil)))) (nomark _)) (pss_one (ps_ret pe_bl)) pss_nil))))) (pss_one (ps_ret pe_bl)))))))), ?_⟩
    have lit3 : ∀ (x y z : Bool) (σ : L2.St) (H1 : Hp), EvL (tLst (tCons (tC (.bl x)) (tCons (tC (.bl y)) (tCons (tC (.bl z)) tNil)))) σ H1 [.bl x, .bl y, .bl z] := fun x y z σ H1 => el_lst (ea_cons ev_c (ea_cons ev_c (ea_cons ev_c ea_nil))) (by decide : 3 ≤ 100000)
    -- no rows, of any row
    refine q_forN (tn_call (ea_cons (ev_var rfl) (ea_cons ev_c (ea_cons ev_c ea_nil))) (sn__law_no_rows (K := K) (m := 12) (g := 1000000) hf (by decide) (by decide))) fun d H1 hd e1 ⟨xs, hx, _, hxs⟩ => ?_
    refine ⟨xs, (fun i σ' H' => ∃ z1 z2, σ' = [some (.int far), z1, z2, none, none, none] ∧ ExtN H1 H' ∧ Tabs (tabsR Pt) H'), SqL.of hx, ⟨_, _, rfl, ExtN.refl _, hT.ext e1⟩, (fun i σ' H' _ hP => ?_), (fun i v σ' H' hv hP => ?_), (fun σ' H' hP => ?_)⟩
    · obtain ⟨_, _, _, e, _⟩ := hP
      exact SqL.of (ext_l (K := K) e hx)
    · obtain ⟨z1, z2, rfl, eN, hT'⟩ := hP
      have hb := (hxs v (List.mem_of_getElem? hv)).ext eN
      refine s_asks (K := K) (σ0 := [some (.int far), some v, none, none, none, none]) (fs := [f_evenings, f_settled]) (ea_cons ev_c (ea_cons ev_c ea_nil)) (show 2 ≤ 100000 from by decide) hT' TK.eR TK.xR TK.kRR TK.kRE TK.kRV (lit3 _ _ _) (fun fa hfa H2 e2 E' hE => ?_) (fun o' H3 e3 T3 => ?_)
      · simp only [List.mem_cons, List.not_mem_nil, or_false] at hfa
        rcases hfa with rfl | rfl
        · exact .inl ⟨rfl, (ea_cons (ev_var rfl) ea_nil) H2 (Ex.refl _) _ fun H4 e4 => ⟨v, rfl, RowQ.mono e4 (hb.ext e2).q, fun H' e' => hE H' (e4.trans e')⟩⟩
        · exact .inr ⟨rfl, (ea_cons (ev_var rfl) ea_nil) H2 (Ex.refl _) _ fun H4 e4 => ⟨v, rfl, RowQ.mono e4 (hb.ext e2).q, fun H' e' => hE H' (e4.trans e')⟩⟩
      · refine s_asks (K := K) (σ0 := [some (.int far), some v, none, none, none, none]) (fs := [f_evened, f_fall]) (ea_cons ev_c (ea_cons ev_c ea_nil)) (show 2 ≤ 100000 from by decide) T3 TK.eR TK.xR TK.kRR TK.kRE TK.kRV (lit3 _ _ _) (fun fa hfa H2 e2 E' hE => ?_) (fun o'' H4 e4 T4 => ⟨_, _, rfl, eN.trans (e3.trans e4), T4⟩)
        have hb2 := (hb.ext e3).ext e2
        simp only [List.mem_cons, List.not_mem_nil, or_false] at hfa
        rcases hfa with rfl | rfl
        · exact .inl ⟨rfl, (ea_cons (ev_var rfl) (ea_cons ev_c ea_nil)) H2 (Ex.refl _) _ fun H4 e4 => ⟨v, .non, rfl, RowQ.mono e4 hb2.q, fun H' e' => hE H' (e4.trans e')⟩⟩
        · exact .inr ⟨rfl, (ea_cons (ev_var rfl) (ea_cons ev_c ea_nil)) H2 (Ex.refl _) _ fun H4 e4 => ⟨v, .non, rfl, RowQ.mono e4 hb2.q, fun H' e' => hE H' (e4.trans e')⟩⟩
    obtain ⟨z1, z2, rfl, eN1, hT1⟩ := hP
    -- no rows, of small rows
    refine q_forN (tn_call (ea_cons (ev_var rfl) (ea_cons ev_c (ea_cons ev_c ea_nil))) (sn__law_no_rows (K := K) (m := 5) (g := 20) hf (by decide) (by decide))) fun d2 H5 hd2 e5 ⟨xs2, hx2, _, hxs2⟩ => ?_
    refine ⟨xs2, (fun i σ' H' => ∃ z1 z2, σ' = [some (.int far), z1, z2, none, none, none] ∧ ExtN H5 H' ∧ Tabs (tabsR Pt) H'), SqL.of hx2, ⟨_, _, rfl, ExtN.refl _, hT1.ext e5⟩, (fun i σ' H' _ hP => ?_), (fun i v σ' H' hv hP => ?_), (fun σ' H' hP => ?_)⟩
    · obtain ⟨_, _, _, e, _⟩ := hP
      exact SqL.of (ext_l (K := K) e hx2)
    · obtain ⟨z1, z2, rfl, eN, hT'⟩ := hP
      have hb := (hxs2 v (List.mem_of_getElem? hv)).ext eN
      refine s_asks (K := K) (σ0 := [some (.int far), some v, none, none, none, none]) (fs := [f_alike, f_ends, f_fewest_most]) (ea_cons ev_c (ea_cons ev_c (ea_cons ev_c ea_nil))) (show 3 ≤ 100000 from by decide) hT' TK.eR TK.xR TK.kRR TK.kRE TK.kRV (lit3 _ _ _) (fun fa hfa H2 e2 E' hE => ?_) (fun o'' H4 e4 T4 => ⟨_, _, rfl, eN.trans e4, T4⟩)
      simp only [List.mem_cons, List.not_mem_nil, or_false] at hfa
      rcases hfa with rfl | rfl | rfl
      · exact .inl ⟨rfl, (ea_cons (ev_var rfl) ea_nil) H2 (Ex.refl _) _ fun H4 e4 => ⟨v, rfl, RowQ.mono e4 (hb.ext e2).q, fun H' e' => hE H' (e4.trans e')⟩⟩
      · exact .inr (.inl ⟨rfl, (ea_cons (ev_var rfl) ea_nil) H2 (Ex.refl _) _ fun H4 e4 => ⟨v, rfl, RowQ.mono e4 (hb.ext e2).q, fun H' e' => hE H' (e4.trans e')⟩⟩)
      · exact .inr (.inr ⟨rfl, (ea_cons (ev_var rfl) ea_nil) H2 (Ex.refl _) _ fun H4 e4 => ⟨v, rfl, RowQ.mono e4 (hb.ext e2).q, fun H' e' => hE H' (e4.trans e')⟩⟩)
    obtain ⟨z1, z2, rfl, eN2, hT2⟩ := hP
    -- no evenings
    have e15 : ExtN H H' := (ExtN.of e1).trans (eN1.trans ((ExtN.of e5).trans eN2))
    refine q_asgN (tn_lstAll (PairB.up (K := K)) (n := 11) (trall_cons PairB.up (tw_ev ev_c fun H' _ => pb_val (n := "NoneType") (.base .non) (by decide +kernel))
      (trall_cons PairB.up (tw_ev ev_c fun H' _ => pb_val (n := "int") (.base (.int _)) (by decide +kernel))
      (trall_cons PairB.up (tw_ev ev_c fun H' _ => pb_val (n := "str") (.base (.str _)) (by decide +kernel))
      (trall_cons PairB.up (tw_u (eu_tup ea_nil (by decide : 0 ≤ 100000)) fun p H' h => pb_long h (by decide))
      (trall_cons PairB.up (tw_u (eu_tup (ea_cons ev_c ea_nil) (by decide : 1 ≤ 100000)) fun p H' h => pb_long h (by decide))
      (trall_cons PairB.up (tw_u (eu_tup (ea_cons ev_c (ea_cons ev_c (ea_cons ev_c ea_nil))) (by decide : 3 ≤ 100000)) fun p H' h => pb_long h (by decide))
      (trall_cons PairB.up (tw_l (el_lst (ea_cons ev_c (ea_cons ev_c ea_nil)) (by decide : 2 ≤ 100000)) fun p H' h => pb_val (n := "list") (.base (.lst h)) (by decide +kernel))
      (trall_cons PairB.up (tw_n tn_dnewT fun p H' h => pb_val (n := "dict") (.base (.dT h)) (by decide +kernel))
      (trall_cons PairB.up (tw_u (eu_tup (ea_cons ev_c (ea_cons ev_c ea_nil)) (by decide : 2 ≤ 100000)) fun p H' h => pb_ij h (.inr ⟨0, 1, rfl, rfl, by decide, by decide, by decide⟩))
      (trall_cons PairB.up (tw_u (eu_tup (ea_cons ev_c (ea_cons ev_c ea_nil)) (by decide : 2 ≤ 100000)) fun p H' h => pb_ij h (.inr ⟨0, 3, rfl, rfl, by decide, by decide, by decide⟩))
      (trall_cons PairB.up (tw_u (eu_tup (ea_cons ev_c (ea_cons ev_c ea_nil)) (by decide : 2 ≤ 100000)) fun p H' h => pb_ij h (.inl (by decide))) trall_nil))))))))))) (by decide)) fun pp H6 hpp e6 hAll => ?_
    refine q_asgN (tn_catAllV (PairB.up (K := K)) (ev_var rfl) hAll (fun H1 _ => tn_lstAll (PairB.up (K := K)) (n := 4) (trall_cons PairB.up (tw_u (eu_tup (ea_cons ev_c (ea_cons ev_c ea_nil)) (by decide : 2 ≤ 100000)) fun p H' h => pb_ij h (.inl (by decide)))
      (trall_cons PairB.up (tw_u (eu_tup (ea_cons ev_c (ea_cons ev_c ea_nil)) (by decide : 2 ≤ 100000)) fun p H' h => pb_ij h (.inl (by decide)))
      (trall_cons PairB.up (tw_u (eu_tup (ea_cons (ev_neg ev_c) (ea_cons ev_c ea_nil)) (by decide : 2 ≤ 100000)) fun p H' h => pb_ij h (.inl (by decide)))
      (trall_cons PairB.up (tw_u (eu_tup (ea_cons ev_c (ea_cons (ev_add ev_c (ev_var rfl)) ea_nil)) (by decide : 2 ≤ 100000)) fun p H' h => pb_ij h (.inl (by rw [decide_eq_false (show ¬ (4 : Int) + far < 4 by omega), Bool.and_false, Bool.and_false]))) trall_nil)))) (by decide)) (by decide)) fun pp2 H7 hpp2 e7 hAll2 => ?_
    refine q_forN (tn_call (ea_cons (ev_var rfl) ea_nil) (sn__law_strange (K := K) hf)) fun dS H8 hdS e8 ⟨ys, hy, hyl, hys⟩ => ?_
    refine ⟨ys, (fun i σ' H' => ∃ z4 pq, σ' = [some (.int far), z1, z2, some (.ref pq), z4, none] ∧ Ex H8 H' ∧ HasAll (15 + 2 * i) (PairB K) pq H'), SqL.of hy, ⟨_, pp2, rfl, Ex.refl _, by
      obtain ⟨zs, w1, w2, w3⟩ := hAll2
      exact ⟨zs, e8 _ _ w1, w2, fun v hv => PairB.up _ _ _ e8 (w3 v hv)⟩⟩, (fun i σ' H' _ hP => ?_), (fun i v σ' H' hv hP => ?_), (fun σ' H9 hP => ?_)⟩
    · obtain ⟨_, _, _, e, _⟩ := hP
      exact SqL.of (e _ _ hy)
    · obtain ⟨z4, pq, rfl, e, hA⟩ := hP
      have hil := (List.getElem?_eq_some_iff.mp hv).1
      have hsv := Strg.up (K := K) _ _ _ e (hys v (List.mem_of_getElem? hv))
      refine s_asgN (tn_catAllV (PairB.up (K := K)) (ev_var rfl) hA (fun H1 eA => tn_lstAll (PairB.up (K := K)) (n := 2) (trall_cons PairB.up (tw_uX (eu_tup (ea_cons (ev_var rfl) (ea_cons ev_c ea_nil)) (by decide : 2 ≤ 100000)) fun p H'' e'' h => pb_strL h (Strg.up _ _ _ (eA.trans e'') hsv))
        (trall_cons PairB.up (tw_uX (eu_tup (ea_cons ev_c (ea_cons (ev_var rfl) ea_nil)) (by decide : 2 ≤ 100000)) fun p H'' e'' h => pb_strR h (Strg.up _ _ _ (eA.trans e'') hsv)) trall_nil)) (by decide)) (by omega)) fun pq2 H9 hpq2 e9 hA2 => ⟨_, pq2, rfl, e.trans e9, hA2⟩
    obtain ⟨z4, pq, rfl, e9, ps, hps, hpl, hpb⟩ := hP
    have T9 : Tabs (tabsR Pt) H9 := hT2.ext (e6.trans (e7.trans (e8.trans e9)))
    refine q_forL (ev_var rfl) (SqL.of hps) (fun i σ' H' => ∃ z2 z5, σ' = [some (.int far), z1, z2, some (.ref pq), z4, z5] ∧ ExtN H9 H' ∧ Tabs (tabsR Pt) H') (fun H1 e => ⟨_, _, rfl, ExtN.of e, T9.ext e⟩) (fun i σ' H' _ hP => ?_) (fun i v σ' H' hv hP => ?_) (fun σ' H' hP => ?_)
    · obtain ⟨_, _, _, e, _⟩ := hP
      exact SqL.of (ext_l (K := K) e hps)
    · obtain ⟨z2', z5, rfl, eN, hT'⟩ := hP
      have hb := (hpb v (List.mem_of_getElem? hv)).ext eN
      refine s_asks (K := K) (σ0 := [some (.int far), z1, none, some (.ref pq), z4, some v]) (fs := [f_evened, f_fall]) (ea_cons ev_c (ea_cons ev_c ea_nil)) (show 2 ≤ 100000 from by decide) hT' TK.eE TK.xE TK.kER TK.kEE TK.kEV (lit3 _ _ _) (fun fa hfa H2 e2 E' hE => ?_) (fun o'' H4 e4 T4 => ⟨_, _, rfl, eN.trans e4, T4⟩)
      have hb2 := hb.ext e2
      have rok : RowOk [1, 2, 5, 1] := ⟨by decide, by decide, by decide⟩
      simp only [List.mem_cons, List.not_mem_nil, or_false] at hfa
      rcases hfa with rfl | rfl
      · refine .inl ⟨rfl, ?_⟩
        exact (el_lst (ea_cons ev_c (ea_cons ev_c (ea_cons ev_c (ea_cons ev_c ea_nil)))) (by decide : 4 ≤ 100000)) H2 (Ex.refl _) _ fun pl H4 hpl4 e4 h4 => (ev_var (i := 5) rfl) H4 (Ex.refl _) _ fun H5' e5' => ⟨pl, [1, 2, 5, 1], v, rfl, SqL.of (e5' _ _ h4), rok, PairB.noEv (PairB.up _ _ _ (e4.trans e5') hb2), fun H' e' => hE H' (e4.trans (e5'.trans e'))⟩
      · refine .inr ⟨rfl, ?_⟩
        exact (el_lst (ea_cons ev_c (ea_cons ev_c (ea_cons ev_c (ea_cons ev_c ea_nil)))) (by decide : 4 ≤ 100000)) H2 (Ex.refl _) _ fun pl H4 hpl4 e4 h4 => (ev_var (i := 5) rfl) H4 (Ex.refl _) _ fun H5' e5' => ⟨pl, [1, 2, 5, 1], v, rfl, SqL.of (e5' _ _ h4), rok, PairB.noEv (PairB.up _ _ _ (e4.trans e5') hb2), fun H' e' => hE H' (e4.trans (e5'.trans e'))⟩
    · obtain ⟨z2', z5, rfl, eN, hT'⟩ := hP
      have eAll : ExtN H H' := e15.trans ((ExtN.of (e6.trans (e7.trans (e8.trans e9)))).trans eN)
      exact s_ret ev_c fun H4 e4 => q H4 (eAll.trans (ExtN.of e4)) (hT'.ext e4)
theorem svX_cell {K : PySem.W.Frag} {H : Hp} {a : Addr} {ns : List Int} {k : Int} (hS : SqL K H a (ns.map V.int)) (hk : 0 ≤ k) : SpV (sp__law_cell_at K) [.ref a, .int k] H (.int (cellF ns k)) := fun H1 e Q q E => ⟨a, ns, k, rfl, ex_l e hS, hk, q⟩
theorem svX_value {K : PySem.W.Frag} {H : Hp} {c t : Int} (hc : Bt 1100000 c) (h0 : 0 ≤ t) (h1 : t ≤ 1000) : SpV (sp__law_value K) [.int c, .int t] H (.int (valueF c t)) := fun H1 e Q q E => ⟨c, t, rfl, hc, h0, h1, q⟩
theorem svX_settled {K : PySem.W.Frag} {H : Hp} {a : Addr} {ns : List Int} (hS : SqL K H a (ns.map V.int)) (hR : RowOk ns) : SpV (sp_settled K) [.ref a] H (.bl (decide (canL ns = []))) := fun H1 e Q q E => ⟨a, ns, rfl, ex_l e hS, hR, q⟩
def IsE2 (rows : List (List Int)) (p : Addr) (H2 : Hp) : Prop := HasR rows p H2
theorem sr_ends {K : PySem.W.Frag} {H : Hp} {a : Addr} {ns : List Int} (hS : SqL K H a (ns.map V.int)) (hm : Sm ns) : SpN (sp_ends K) [.ref a] H (HasR (endsL ns)) := fun H1 e Q q E => ⟨a, ns, rfl, ex_l e hS, hm, fun p H2 rs hp e2 h1 h2 h3 => q p H2 hp e2 ⟨rs, h1, h2⟩⟩
def sp_law (K : PySem.W.Frag) (Pt : Addr) : Sp := fun vs H Q _ => ∃ (a : Addr) (ns : List Int), vs = [.ref a] ∧ SqL K H a (ns.map V.int) ∧ ns.length ≤ 63 ∧ Cells ns ∧ LamX.Tabs (tabsR Pt) H ∧ ∀ H', Q (.bl true) H'
theorem ev_callLU {H : Hp} {σ : L2.St} {ta tb : TE} {sp : Sp} {E : XK} {xs ys : List V} {z : V} (h : EvL ta σ H xs) (g : ∀ H1, Ex H H1 → EvU tb σ H1 ys) (hs : ∀ p r H1, H1 p = some (.lst xs) → H1 r = some (.tup ys) → Ex H H1 → SpV sp [.ref p, .ref r] H1 z) : Ev (tCall sp [] E (tCons ta (tCons tb tNil))) σ H z := fun H1 e Q q =>
  h H1 e _ fun p H2 _ e2 h2 => g H2 (e.trans e2) H2 (Ex.refl H2) _ fun r H3 _ e3 h3 => hs p r H3 (e3 _ _ h2) h3 ((e.trans e2).trans e3) H3 (Ex.refl H3) Q (fun H4 e4 => q H4 ((e2.trans e3).trans e4)) E
theorem s_notCall {H : Hp} {σ : L2.St} {tA : TA} {tu : TS} {D : Ends} {sp : Sp} {E : XK} {vs : List V} (h : EvA tA σ H vs) (hk : ∀ H1, Ex H H1 → sp (vs ++ []) H1 (fun v H2 => ∃ c : Bool, v = .bl c ∧ (if (!c) = true then tu D σ H2 else D.nx σ H2)) E) : tIfS (tNot (tB (tCall sp [] E tA))) tu tNext D σ H := h H (Ex.refl H) _ fun H1 e => hk H1 e
open LamX in
theorem ok_law {f Pt : Addr} {fd : FuncData} (F : Fun K "law" "law" s_law f fd) (B : Bi mg) {f__law_cell_at : Addr} {fd__law_cell_at : FuncData} (C__law_cell_at : Cal P w K mg base CX0 1 "_law_cell_at" P__law_cell_at (sp__law_cell_at K) f__law_cell_at fd__law_cell_at) {f__law_value : Addr} {fd__law_value : FuncData} (C__law_value : Cal P w K mg base CX0 2 "_law_value" P__law_value (sp__law_value K) f__law_value fd__law_value) {f_settled : Addr} {fd_settled : FuncData} (C_settled : Cal P w K mg base CX0 6 "settled" P_settled (sp_settled K) f_settled fd_settled) {f_evened : Addr} {fd_evened : FuncData} (C_evened : Cal P w K mg base CX0 5 "evened" P_evened (sp_evened K) f_evened fd_evened) {f_fall : Addr} {fd_fall : FuncData} (C_fall : Cal P w K mg base CX0 5 "fall" P_fall (sp_fall K) f_fall fd_fall) {f_ends : Addr} {fd_ends : FuncData} (C_ends : Cal P w K mg base CX0 8 "ends" P_ends (sp_ends K) f_ends fd_ends) {f__law_right : Addr} {fd__law_right : FuncData} (C__law_right : Cal P w K mg base CX0 13 "_law_right" P__law_right (sp__law_right K Pt) f__law_right fd__law_right)  : FnOk P w K mg base CX0 14 f fd P_law (sp_law K Pt) := by
  refine F.ok sc_law (fun vs H Q E h => ?_) (fun cdv A outer s H vs Q E hr h => ?_)
  · obtain ⟨a, ns, rfl, hS, hlen, hC, hT, q⟩ := h
    rfl
  · obtain ⟨a, ns, rfl, hS, hlen, hC, hT, q⟩ := h
    refine ⟨_, (pss_cons (ps_set (i := 0) sc_law.nd rfl (Or.inl rfl) (pe_slice sl_list (pv 0) po_none (po_some pe_int))) (pss_cons (ps_for PassesOwn.never rfl (pi_tup (pe_tup (pa_cons pe_int (pa_cons pe_int pa_nil)))) (pg_name (i := 1) sc_law.nd rfl (Or.inl rfl)) (pss_one (ps_if (pt_not (pt_val (pe_call C__law_right.ok (hr.mono (by decide)) (by rfl) C__law_right.g C__law_right.kp C__law_right.b .nil pass0 (pa_cons (pe_op op_add pe_int (pe_op op_mod (pe_call C__law_value.ok (hr.mono (by decide)) (by rfl) C__law_value.g C__law_value.kp C__law_value.b .nil pass0 (pa_cons (pe_call C__law_cell_at.ok (hr.mono (by decide)) (by rfl) C__law_cell_at.g C__law_cell_at.kp C__law_cell_at.b .nil pass0 (pa_cons (pv 0) (pa_cons (pv 1) pa_nil))) (pa_cons pe_int pa_nil))) (pe_op op_pow pe_int pe_int))) pa_nil)))) (pss_one (ps_ret pe_bl)) pss_nil))) (pss_cons (ps_if (PW.pt (pw_or (pt_cmpR (op_neD hr.units) (pe_call C_evened.ok (hr.mono (by decide)) (by rfl) C_evened.g C_evened.kp C_evened.b .nil pass0 (pa_cons (pe_lst (pa_cons pe_int (pa_cons pe_int (pa_cons pe_int (pa_cons pe_int pa_nil))))) (pa_cons (pe_tup (pa_cons pe_int (pa_cons pe_int pa_nil))) pa_nil))) (pe_lst (pa_cons pe_int (pa_cons pe_int (pa_cons pe_int (pa_cons pe_int pa_nil))))) (nomark _)) (pw_or1 (pt_cmpR op_ne (pe_call C_fall.ok (hr.mono (by decide)) (by rfl) C_fall.g C_fall.kp C_fall.b .nil pass0 (pa_cons (pe_lst (pa_cons pe_int (pa_cons pe_int pa_nil))) (pa_cons (pe_tup (pa_cons pe_int (pa_cons pe_int pa_nil))) pa_nil))) pe_int (nomark _))))) (pss_one (ps_ret pe_bl)) pss_nil) (pss_one (ps_ret (pe_and (pe_cmpR op_isBl (pe_call C_settled.ok (hr.mono (by decide)) (by rfl) C_settled.g C_settled.kp C_settled.b .nil pass0 (pa_cons (pe_op op_rep (pe_lst (pa_cons pe_int pa_nil)) pe_int) pa_nil)) pe_bl (nomark _)) (pe_one (pe_cmpR (op_eqD hr.units) (pe_call C_ends.ok (hr.mono (by decide)) (by rfl) C_ends.g C_ends.kp C_ends.b .nil pass0 (pa_cons (pe_op op_rep (pe_lst (pa_cons pe_int pa_nil)) pe_int) pa_nil)) (pe_lst (pa_cons (pe_op op_rep (pe_lst (pa_cons pe_int pa_nil)) pe_int) pa_nil)) (nomark _))))))))), ?_⟩
    refine q_asgL (el_sl (ev_var rfl) eo_none (eo_some ev_c) hS) fun p0 H1 hp0 e1 h1 => ?_
    rw [cut63 (by rw [List.length_map]; exact hlen)] at h1
    have hT1 := hT.ext e1
    refine q_forTN (R := fun p H' => H' p = some (.tup [.int 0, .int 3])) (eu_tup (ea_cons ev_c (ea_cons ev_c ea_nil)) (by decide : 2 ≤ 100000)) fun pT H2 hpT e2 hP => ?_
    refine ⟨_, (fun i σ' H' => ∃ y1, σ' = [some (.ref p0), y1] ∧ ExtN H2 H' ∧ Tabs (tabsR Pt) H'), SqT.of hP, ⟨_, rfl, ExtN.refl _, hT1.ext e2⟩, (fun i σ' H' _ hP' => ?_), (fun i x σ' H' hx hP' => ?_), (fun σ' H' hP' => ?_)⟩
    · obtain ⟨_, _, e, _⟩ := hP'
      exact SqT.of (ext_t e hP)
    · obtain ⟨y1, rfl, eN, hT'⟩ := hP'
      obtain ⟨b, rfl, hb0, hb1⟩ : ∃ b : Int, x = .int b ∧ 0 ≤ b ∧ b ≤ 10 := by
        match i, hx with
        | 0, hx => exact ⟨0, (Option.some.inj hx).symm, by decide, by decide⟩
        | 1, hx => exact ⟨3, (Option.some.inj hx).symm, by decide, by decide⟩
        | i + 2, hx => simp at hx
      have hS' : SqL K H' p0 (ns.map V.int) := SqL.of (ext_l (K := K) eN (e2 _ _ h1))
      have hb2 : Bt 1100000 (cellF ns b) := Bt.mono (cellF_bt (k := b) hC) (by decide)
      have v1 := Int.emod_nonneg (valueF (cellF ns b) 7) (show ((10 : Int) ^ (20 : Int).toNat) ≠ 0 by decide)
      refine s_notCall (ea_cons (ev_add ev_c (ev_mod (ev_call1 (ea_cons (ev_call1 (ea_cons (ev_var rfl) (ea_cons (ev_var rfl) ea_nil)) (svX_cell hS' hb0)) (ea_cons ev_c ea_nil)) (svX_value hb2 (by decide) (by decide))) (ev_pow ev_c ev_c ⟨by decide, by decide, by decide⟩) (by decide))) ea_nil) fun H3 e3 => ?_
      refine ⟨_, rfl, by omega, hT'.ext e3, fun H4 e4 T4 => ⟨true, rfl, ?_⟩⟩
      exact iteF ⟨_, rfl, eN.trans ((ExtN.of e3).trans e4), T4⟩
    · obtain ⟨y1, rfl, eN, hT'⟩ := hP'
      have r1251 : RowOk [1, 2, 5, 1] := ⟨by decide, by decide, by decide⟩
      have r01 : RowOk [0, 1000000] := ⟨by decide, by decide, by decide⟩
      have r12 : RowOk [0, 0, 0, 0, 0, 0, 0, 0, 0, 0, 0, 0] := ⟨by decide, by decide, by decide⟩
      have s20 : Sm [20, 20, 20, 20, 20] := ⟨by decide, by decide, by decide⟩
      refine q_when (b := false) (et_is (et_or (a := false) (b := false) (et_test ?_) fun _ => et_test ?_) rfl) (fun hb => Bool.noConfusion hb) (fun _ H5 e5 => ?_)
      · refine ev_neD2 (K := K) (R := fun p H' => H' p = some (.lst ((evL [1, 2, 5, 1] 0 2).map V.int))) (R' := fun p H' => H' p = some (.lst ([3, 2, 3, 1].map V.int))) (tn_callLU (el_lst (ea_cons ev_c (ea_cons ev_c (ea_cons ev_c (ea_cons ev_c ea_nil)))) (by decide : 4 ≤ 100000)) (fun H1 _ => eu_tup (ea_cons ev_c (ea_cons ev_c ea_nil)) (by decide : 2 ≤ 100000)) fun p r H1 h2 h3 e => fun H2 e2 Q q E => ⟨p, r, [1, 2, 5, 1], 0, 2, rfl, ex_l e2 (SqL.of h2), r1251, ex_t e2 (SqT.of h3), by decide, by decide, by decide, q⟩) (fun H1 e => tn_of (el_lst (ea_cons ev_c (ea_cons ev_c (ea_cons ev_c (ea_cons ev_c ea_nil)))) (by decide : 4 ≤ 100000))) (fun p H1 h => ints_dp (SqL.of h)) (fun p H1 h => ints_dp (SqL.of h)) (lay_ints _)
      · refine ev_is (ev_neI (i := 500000000000) (ev_callLU (el_lst (ea_cons ev_c (ea_cons ev_c ea_nil)) (by decide : 2 ≤ 100000)) (fun H1 _ => eu_tup (ea_cons ev_c (ea_cons ev_c ea_nil)) (by decide : 2 ≤ 100000)) fun p r H1 h2 h3 e => fun H2 e2 Q q E => ⟨p, r, [0, 1000000], 0, 1, rfl, ex_l e2 (SqL.of h2), r01, ex_t e2 (SqT.of h3), by decide, by decide, by decide, q⟩) ev_c) rfl
      · refine s_ret (ev_andV (a := true) (b := true) ?_ fun _ => ?_) fun H6 e6 => q _
        · exact ev_is (ev_isTrue (ev_callL (el_is (el_rep (k := 12) (el_lst (ea_cons ev_c ea_nil) (by decide : 1 ≤ 100000)) (fun _ _ => ev_c) (by decide) (by decide)) (show _ = [0, 0, 0, 0, 0, 0, 0, 0, 0, 0, 0, 0].map V.int from rfl)) fun p H1 h e => svX_settled (SqL.of h) r12)) (by rw [decide_eq_true (show canL [0, 0, 0, 0, 0, 0, 0, 0, 0, 0, 0, 0] = [] by decide +kernel)]; rfl)
        · exact ev_eqD2 (K := K) (tn_callL (el_is (el_rep (k := 5) (el_lst (ea_cons ev_c ea_nil) (by decide : 1 ≤ 100000)) (fun _ _ => ev_c) (by decide) (by decide)) (show _ = [20, 20, 20, 20, 20].map V.int from rfl)) fun p H1 h e => sr_ends (SqL.of h) s20) (fun H1 e => tn_lstRows (tra_cons (r := [20, 20, 20, 20, 20]) (fun _ _ => el_is (el_rep (k := 5) (el_lst (ea_cons ev_c ea_nil) (by decide : 1 ≤ 100000)) (fun _ _ => ev_c) (by decide) (by decide)) rfl) tra_nil) (by decide)) (fun p H1 h => HasR.dp h) (fun p H1 h => by rw [show endsL [20, 20, 20, 20, 20] = [[20, 20, 20, 20, 20]] by decide +kernel]; exact h.dp) (lay_rows _)
theorem all_mk {l : PySem.W.OpenLaw} {w : World} {K : PySem.W.Frag} {h : Heap} {mg : Str → Option Value} {fa : Addr} (X : K.In h) (G : h.Ns mainGlobals mg) (hfa : mg "law" = some (.ref fa))
    {f_is_number : Addr} {od_is_number an_is_number : Option Addr} {sl_is_number : Array (Option Value)} {oc_is_number kV_is_number dc_is_number pm_is_number cd_is_number ct_is_number : Value}
    (a_is_number : PySem.W.nsIn K mainGlobals "is_number" = some (some (.ref f_is_number)))
    (l_is_number : K.lookup f_is_number = some ⟨oc_is_number, od_is_number, .func (PySem.W.fnOf "is_number" "is_number" (defArgs s_is_number) (defBody s_is_number) (defScope s_is_number) .none kV_is_number dc_is_number pm_is_number an_is_number cd_is_number ct_is_number), sl_is_number⟩)
    (c_is_number : PySem.W.codeIn K cd_is_number "is_number" = true) (k_is_number : PySem.W.keepIn K (.ref f_is_number) = true)
    {f_is_measure : Addr} {od_is_measure an_is_measure : Option Addr} {sl_is_measure : Array (Option Value)} {oc_is_measure kV_is_measure dc_is_measure pm_is_measure cd_is_measure ct_is_measure : Value}
    (a_is_measure : PySem.W.nsIn K mainGlobals "is_measure" = some (some (.ref f_is_measure)))
    (l_is_measure : K.lookup f_is_measure = some ⟨oc_is_measure, od_is_measure, .func (PySem.W.fnOf "is_measure" "is_measure" (defArgs s_is_measure) (defBody s_is_measure) (defScope s_is_measure) .none kV_is_measure dc_is_measure pm_is_measure an_is_measure cd_is_measure ct_is_measure), sl_is_measure⟩)
    (c_is_measure : PySem.W.codeIn K cd_is_measure "is_measure" = true) (k_is_measure : PySem.W.keepIn K (.ref f_is_measure) = true)
    {f_is_row : Addr} {od_is_row an_is_row : Option Addr} {sl_is_row : Array (Option Value)} {oc_is_row kV_is_row dc_is_row pm_is_row cd_is_row ct_is_row : Value}
    (a_is_row : PySem.W.nsIn K mainGlobals "is_row" = some (some (.ref f_is_row)))
    (l_is_row : K.lookup f_is_row = some ⟨oc_is_row, od_is_row, .func (PySem.W.fnOf "is_row" "is_row" (defArgs s_is_row) (defBody s_is_row) (defScope s_is_row) .none kV_is_row dc_is_row pm_is_row an_is_row cd_is_row ct_is_row), sl_is_row⟩)
    (c_is_row : PySem.W.codeIn K cd_is_row "is_row" = true) (k_is_row : PySem.W.keepIn K (.ref f_is_row) = true)
    {f_are_places : Addr} {od_are_places an_are_places : Option Addr} {sl_are_places : Array (Option Value)} {oc_are_places kV_are_places dc_are_places pm_are_places cd_are_places ct_are_places : Value}
    (a_are_places : PySem.W.nsIn K mainGlobals "are_places" = some (some (.ref f_are_places)))
    (l_are_places : K.lookup f_are_places = some ⟨oc_are_places, od_are_places, .func (PySem.W.fnOf "are_places" "are_places" (defArgs s_are_places) (defBody s_are_places) (defScope s_are_places) .none kV_are_places dc_are_places pm_are_places an_are_places cd_are_places ct_are_places), sl_are_places⟩)
    (c_are_places : PySem.W.codeIn K cd_are_places "are_places" = true) (k_are_places : PySem.W.keepIn K (.ref f_are_places) = true)
    {f_can_even : Addr} {od_can_even an_can_even : Option Addr} {sl_can_even : Array (Option Value)} {oc_can_even kV_can_even dc_can_even pm_can_even cd_can_even ct_can_even : Value}
    (a_can_even : PySem.W.nsIn K mainGlobals "can_even" = some (some (.ref f_can_even)))
    (l_can_even : K.lookup f_can_even = some ⟨oc_can_even, od_can_even, .func (PySem.W.fnOf "can_even" "can_even" (defArgs s_can_even) (defBody s_can_even) (defScope s_can_even) .none kV_can_even dc_can_even pm_can_even an_can_even cd_can_even ct_can_even), sl_can_even⟩)
    (c_can_even : PySem.W.codeIn K cd_can_even "can_even" = true) (k_can_even : PySem.W.keepIn K (.ref f_can_even) = true)
    {f_is_small_row : Addr} {od_is_small_row an_is_small_row : Option Addr} {sl_is_small_row : Array (Option Value)} {oc_is_small_row kV_is_small_row dc_is_small_row pm_is_small_row cd_is_small_row ct_is_small_row : Value}
    (a_is_small_row : PySem.W.nsIn K mainGlobals "is_small_row" = some (some (.ref f_is_small_row)))
    (l_is_small_row : K.lookup f_is_small_row = some ⟨oc_is_small_row, od_is_small_row, .func (PySem.W.fnOf "is_small_row" "is_small_row" (defArgs s_is_small_row) (defBody s_is_small_row) (defScope s_is_small_row) .none kV_is_small_row dc_is_small_row pm_is_small_row an_is_small_row cd_is_small_row ct_is_small_row), sl_is_small_row⟩)
    (c_is_small_row : PySem.W.codeIn K cd_is_small_row "is_small_row" = true) (k_is_small_row : PySem.W.keepIn K (.ref f_is_small_row) = true)
    {f_can_be : Addr} {od_can_be an_can_be : Option Addr} {sl_can_be : Array (Option Value)} {oc_can_be kV_can_be dc_can_be pm_can_be cd_can_be ct_can_be : Value}
    (a_can_be : PySem.W.nsIn K mainGlobals "can_be" = some (some (.ref f_can_be)))
    (l_can_be : K.lookup f_can_be = some ⟨oc_can_be, od_can_be, .func (PySem.W.fnOf "can_be" "can_be" (defArgs s_can_be) (defBody s_can_be) (defScope s_can_be) .none kV_can_be dc_can_be pm_can_be an_can_be cd_can_be ct_can_be), sl_can_be⟩)
    (c_can_be : PySem.W.codeIn K cd_can_be "can_be" = true) (k_can_be : PySem.W.keepIn K (.ref f_can_be) = true)
    {f_are_alike : Addr} {od_are_alike an_are_alike : Option Addr} {sl_are_alike : Array (Option Value)} {oc_are_alike kV_are_alike dc_are_alike pm_are_alike cd_are_alike ct_are_alike : Value}
    (a_are_alike : PySem.W.nsIn K mainGlobals "are_alike" = some (some (.ref f_are_alike)))
    (l_are_alike : K.lookup f_are_alike = some ⟨oc_are_alike, od_are_alike, .func (PySem.W.fnOf "are_alike" "are_alike" (defArgs s_are_alike) (defBody s_are_alike) (defScope s_are_alike) .none kV_are_alike dc_are_alike pm_are_alike an_are_alike cd_are_alike ct_are_alike), sl_are_alike⟩)
    (c_are_alike : PySem.W.codeIn K cd_are_alike "are_alike" = true) (k_are_alike : PySem.W.keepIn K (.ref f_are_alike) = true)
    {f_refuse_no_row : Addr} {od_refuse_no_row an_refuse_no_row : Option Addr} {sl_refuse_no_row : Array (Option Value)} {oc_refuse_no_row kV_refuse_no_row dc_refuse_no_row pm_refuse_no_row cd_refuse_no_row ct_refuse_no_row : Value}
    (a_refuse_no_row : PySem.W.nsIn K mainGlobals "refuse_no_row" = some (some (.ref f_refuse_no_row)))
    (l_refuse_no_row : K.lookup f_refuse_no_row = some ⟨oc_refuse_no_row, od_refuse_no_row, .func (PySem.W.fnOf "refuse_no_row" "refuse_no_row" (defArgs s_refuse_no_row) (defBody s_refuse_no_row) (defScope s_refuse_no_row) .none kV_refuse_no_row dc_refuse_no_row pm_refuse_no_row an_refuse_no_row cd_refuse_no_row ct_refuse_no_row), sl_refuse_no_row⟩)
    (c_refuse_no_row : PySem.W.codeIn K cd_refuse_no_row "refuse_no_row" = true) (k_refuse_no_row : PySem.W.keepIn K (.ref f_refuse_no_row) = true)
    {f_refuse_no_small_row : Addr} {od_refuse_no_small_row an_refuse_no_small_row : Option Addr} {sl_refuse_no_small_row : Array (Option Value)} {oc_refuse_no_small_row kV_refuse_no_small_row dc_refuse_no_small_row pm_refuse_no_small_row cd_refuse_no_small_row ct_refuse_no_small_row : Value}
    (a_refuse_no_small_row : PySem.W.nsIn K mainGlobals "refuse_no_small_row" = some (some (.ref f_refuse_no_small_row)))
    (l_refuse_no_small_row : K.lookup f_refuse_no_small_row = some ⟨oc_refuse_no_small_row, od_refuse_no_small_row, .func (PySem.W.fnOf "refuse_no_small_row" "refuse_no_small_row" (defArgs s_refuse_no_small_row) (defBody s_refuse_no_small_row) (defScope s_refuse_no_small_row) .none kV_refuse_no_small_row dc_refuse_no_small_row pm_refuse_no_small_row an_refuse_no_small_row cd_refuse_no_small_row ct_refuse_no_small_row), sl_refuse_no_small_row⟩)
    (c_refuse_no_small_row : PySem.W.codeIn K cd_refuse_no_small_row "refuse_no_small_row" = true) (k_refuse_no_small_row : PySem.W.keepIn K (.ref f_refuse_no_small_row) = true)
    {f_refuse_no_evening : Addr} {od_refuse_no_evening an_refuse_no_evening : Option Addr} {sl_refuse_no_evening : Array (Option Value)} {oc_refuse_no_evening kV_refuse_no_evening dc_refuse_no_evening pm_refuse_no_evening cd_refuse_no_evening ct_refuse_no_evening : Value}
    (a_refuse_no_evening : PySem.W.nsIn K mainGlobals "refuse_no_evening" = some (some (.ref f_refuse_no_evening)))
    (l_refuse_no_evening : K.lookup f_refuse_no_evening = some ⟨oc_refuse_no_evening, od_refuse_no_evening, .func (PySem.W.fnOf "refuse_no_evening" "refuse_no_evening" (defArgs s_refuse_no_evening) (defBody s_refuse_no_evening) (defScope s_refuse_no_evening) .none kV_refuse_no_evening dc_refuse_no_evening pm_refuse_no_evening an_refuse_no_evening cd_refuse_no_evening ct_refuse_no_evening), sl_refuse_no_evening⟩)
    (c_refuse_no_evening : PySem.W.codeIn K cd_refuse_no_evening "refuse_no_evening" = true) (k_refuse_no_evening : PySem.W.keepIn K (.ref f_refuse_no_evening) = true)
    {f_pairs_to_even : Addr} {od_pairs_to_even an_pairs_to_even : Option Addr} {sl_pairs_to_even : Array (Option Value)} {oc_pairs_to_even kV_pairs_to_even dc_pairs_to_even pm_pairs_to_even cd_pairs_to_even ct_pairs_to_even : Value}
    (a_pairs_to_even : PySem.W.nsIn K mainGlobals "pairs_to_even" = some (some (.ref f_pairs_to_even)))
    (l_pairs_to_even : K.lookup f_pairs_to_even = some ⟨oc_pairs_to_even, od_pairs_to_even, .func (PySem.W.fnOf "pairs_to_even" "pairs_to_even" (defArgs s_pairs_to_even) (defBody s_pairs_to_even) (defScope s_pairs_to_even) .none kV_pairs_to_even dc_pairs_to_even pm_pairs_to_even an_pairs_to_even cd_pairs_to_even ct_pairs_to_even), sl_pairs_to_even⟩)
    (c_pairs_to_even : PySem.W.codeIn K cd_pairs_to_even "pairs_to_even" = true) (k_pairs_to_even : PySem.W.keepIn K (.ref f_pairs_to_even) = true)
    {f_row_behind : Addr} {od_row_behind an_row_behind : Option Addr} {sl_row_behind : Array (Option Value)} {oc_row_behind kV_row_behind dc_row_behind pm_row_behind cd_row_behind ct_row_behind : Value}
    (a_row_behind : PySem.W.nsIn K mainGlobals "row_behind" = some (some (.ref f_row_behind)))
    (l_row_behind : K.lookup f_row_behind = some ⟨oc_row_behind, od_row_behind, .func (PySem.W.fnOf "row_behind" "row_behind" (defArgs s_row_behind) (defBody s_row_behind) (defScope s_row_behind) .none kV_row_behind dc_row_behind pm_row_behind an_row_behind cd_row_behind ct_row_behind), sl_row_behind⟩)
    (c_row_behind : PySem.W.codeIn K cd_row_behind "row_behind" = true) (k_row_behind : PySem.W.keepIn K (.ref f_row_behind) = true)
    {f_evenings : Addr} {od_evenings an_evenings : Option Addr} {sl_evenings : Array (Option Value)} {oc_evenings kV_evenings dc_evenings pm_evenings cd_evenings ct_evenings : Value}
    (a_evenings : PySem.W.nsIn K mainGlobals "evenings" = some (some (.ref f_evenings)))
    (l_evenings : K.lookup f_evenings = some ⟨oc_evenings, od_evenings, .func (PySem.W.fnOf "evenings" "evenings" (defArgs s_evenings) (defBody s_evenings) (defScope s_evenings) .none kV_evenings dc_evenings pm_evenings an_evenings cd_evenings ct_evenings), sl_evenings⟩)
    (c_evenings : PySem.W.codeIn K cd_evenings "evenings" = true) (k_evenings : PySem.W.keepIn K (.ref f_evenings) = true)
    {f_evened : Addr} {od_evened an_evened : Option Addr} {sl_evened : Array (Option Value)} {oc_evened kV_evened dc_evened pm_evened cd_evened ct_evened : Value}
    (a_evened : PySem.W.nsIn K mainGlobals "evened" = some (some (.ref f_evened)))
    (l_evened : K.lookup f_evened = some ⟨oc_evened, od_evened, .func (PySem.W.fnOf "evened" "evened" (defArgs s_evened) (defBody s_evened) (defScope s_evened) .none kV_evened dc_evened pm_evened an_evened cd_evened ct_evened), sl_evened⟩)
    (c_evened : PySem.W.codeIn K cd_evened "evened" = true) (k_evened : PySem.W.keepIn K (.ref f_evened) = true)
    {f_settled : Addr} {od_settled an_settled : Option Addr} {sl_settled : Array (Option Value)} {oc_settled kV_settled dc_settled pm_settled cd_settled ct_settled : Value}
    (a_settled : PySem.W.nsIn K mainGlobals "settled" = some (some (.ref f_settled)))
    (l_settled : K.lookup f_settled = some ⟨oc_settled, od_settled, .func (PySem.W.fnOf "settled" "settled" (defArgs s_settled) (defBody s_settled) (defScope s_settled) .none kV_settled dc_settled pm_settled an_settled cd_settled ct_settled), sl_settled⟩)
    (c_settled : PySem.W.codeIn K cd_settled "settled" = true) (k_settled : PySem.W.keepIn K (.ref f_settled) = true)
    {f_fall : Addr} {od_fall an_fall : Option Addr} {sl_fall : Array (Option Value)} {oc_fall kV_fall dc_fall pm_fall cd_fall ct_fall : Value}
    (a_fall : PySem.W.nsIn K mainGlobals "fall" = some (some (.ref f_fall)))
    (l_fall : K.lookup f_fall = some ⟨oc_fall, od_fall, .func (PySem.W.fnOf "fall" "fall" (defArgs s_fall) (defBody s_fall) (defScope s_fall) .none kV_fall dc_fall pm_fall an_fall cd_fall ct_fall), sl_fall⟩)
    (c_fall : PySem.W.codeIn K cd_fall "fall" = true) (k_fall : PySem.W.keepIn K (.ref f_fall) = true)
    {f_steps : Addr} {od_steps an_steps : Option Addr} {sl_steps : Array (Option Value)} {oc_steps kV_steps dc_steps pm_steps cd_steps ct_steps : Value}
    (a_steps : PySem.W.nsIn K mainGlobals "steps" = some (some (.ref f_steps)))
    (l_steps : K.lookup f_steps = some ⟨oc_steps, od_steps, .func (PySem.W.fnOf "steps" "steps" (defArgs s_steps) (defBody s_steps) (defScope s_steps) .none kV_steps dc_steps pm_steps an_steps cd_steps ct_steps), sl_steps⟩)
    (c_steps : PySem.W.codeIn K cd_steps "steps" = true) (k_steps : PySem.W.keepIn K (.ref f_steps) = true)
    {f_reach : Addr} {od_reach an_reach : Option Addr} {sl_reach : Array (Option Value)} {oc_reach kV_reach dc_reach pm_reach cd_reach ct_reach : Value}
    (a_reach : PySem.W.nsIn K mainGlobals "reach" = some (some (.ref f_reach)))
    (l_reach : K.lookup f_reach = some ⟨oc_reach, od_reach, .func (PySem.W.fnOf "reach" "reach" (defArgs s_reach) (defBody s_reach) (defScope s_reach) .none kV_reach dc_reach pm_reach an_reach cd_reach ct_reach), sl_reach⟩)
    (c_reach : PySem.W.codeIn K cd_reach "reach" = true) (k_reach : PySem.W.keepIn K (.ref f_reach) = true)
    {f_ends : Addr} {od_ends an_ends : Option Addr} {sl_ends : Array (Option Value)} {oc_ends kV_ends dc_ends pm_ends cd_ends ct_ends : Value}
    (a_ends : PySem.W.nsIn K mainGlobals "ends" = some (some (.ref f_ends)))
    (l_ends : K.lookup f_ends = some ⟨oc_ends, od_ends, .func (PySem.W.fnOf "ends" "ends" (defArgs s_ends) (defBody s_ends) (defScope s_ends) .none kV_ends dc_ends pm_ends an_ends cd_ends ct_ends), sl_ends⟩)
    (c_ends : PySem.W.codeIn K cd_ends "ends" = true) (k_ends : PySem.W.keepIn K (.ref f_ends) = true)
    {f__law_strange : Addr} {od__law_strange an__law_strange : Option Addr} {sl__law_strange : Array (Option Value)} {oc__law_strange kV__law_strange dc__law_strange pm__law_strange cd__law_strange ct__law_strange : Value}
    (a__law_strange : PySem.W.nsIn K mainGlobals "_law_strange" = some (some (.ref f__law_strange)))
    (l__law_strange : K.lookup f__law_strange = some ⟨oc__law_strange, od__law_strange, .func (PySem.W.fnOf "_law_strange" "_law_strange" (defArgs s__law_strange) (defBody s__law_strange) (defScope s__law_strange) .none kV__law_strange dc__law_strange pm__law_strange an__law_strange cd__law_strange ct__law_strange), sl__law_strange⟩)
    (c__law_strange : PySem.W.codeIn K cd__law_strange "_law_strange" = true) (k__law_strange : PySem.W.keepIn K (.ref f__law_strange) = true)
    {f__law_no_rows : Addr} {od__law_no_rows an__law_no_rows : Option Addr} {sl__law_no_rows : Array (Option Value)} {oc__law_no_rows kV__law_no_rows dc__law_no_rows pm__law_no_rows cd__law_no_rows ct__law_no_rows : Value}
    (a__law_no_rows : PySem.W.nsIn K mainGlobals "_law_no_rows" = some (some (.ref f__law_no_rows)))
    (l__law_no_rows : K.lookup f__law_no_rows = some ⟨oc__law_no_rows, od__law_no_rows, .func (PySem.W.fnOf "_law_no_rows" "_law_no_rows" (defArgs s__law_no_rows) (defBody s__law_no_rows) (defScope s__law_no_rows) .none kV__law_no_rows dc__law_no_rows pm__law_no_rows an__law_no_rows cd__law_no_rows ct__law_no_rows), sl__law_no_rows⟩)
    (c__law_no_rows : PySem.W.codeIn K cd__law_no_rows "_law_no_rows" = true) (k__law_no_rows : PySem.W.keepIn K (.ref f__law_no_rows) = true)
    {f__law_cell_at : Addr} {od__law_cell_at an__law_cell_at : Option Addr} {sl__law_cell_at : Array (Option Value)} {oc__law_cell_at kV__law_cell_at dc__law_cell_at pm__law_cell_at cd__law_cell_at ct__law_cell_at : Value}
    (a__law_cell_at : PySem.W.nsIn K mainGlobals "_law_cell_at" = some (some (.ref f__law_cell_at)))
    (l__law_cell_at : K.lookup f__law_cell_at = some ⟨oc__law_cell_at, od__law_cell_at, .func (PySem.W.fnOf "_law_cell_at" "_law_cell_at" (defArgs s__law_cell_at) (defBody s__law_cell_at) (defScope s__law_cell_at) .none kV__law_cell_at dc__law_cell_at pm__law_cell_at an__law_cell_at cd__law_cell_at ct__law_cell_at), sl__law_cell_at⟩)
    (c__law_cell_at : PySem.W.codeIn K cd__law_cell_at "_law_cell_at" = true) (k__law_cell_at : PySem.W.keepIn K (.ref f__law_cell_at) = true)
    {f__law_draw : Addr} {od__law_draw an__law_draw : Option Addr} {sl__law_draw : Array (Option Value)} {oc__law_draw kV__law_draw dc__law_draw pm__law_draw cd__law_draw ct__law_draw : Value}
    (a__law_draw : PySem.W.nsIn K mainGlobals "_law_draw" = some (some (.ref f__law_draw)))
    (l__law_draw : K.lookup f__law_draw = some ⟨oc__law_draw, od__law_draw, .func (PySem.W.fnOf "_law_draw" "_law_draw" (defArgs s__law_draw) (defBody s__law_draw) (defScope s__law_draw) .none kV__law_draw dc__law_draw pm__law_draw an__law_draw cd__law_draw ct__law_draw), sl__law_draw⟩)
    (c__law_draw : PySem.W.codeIn K cd__law_draw "_law_draw" = true) (k__law_draw : PySem.W.keepIn K (.ref f__law_draw) = true)
    {f__law_value : Addr} {od__law_value an__law_value : Option Addr} {sl__law_value : Array (Option Value)} {oc__law_value kV__law_value dc__law_value pm__law_value cd__law_value ct__law_value : Value}
    (a__law_value : PySem.W.nsIn K mainGlobals "_law_value" = some (some (.ref f__law_value)))
    (l__law_value : K.lookup f__law_value = some ⟨oc__law_value, od__law_value, .func (PySem.W.fnOf "_law_value" "_law_value" (defArgs s__law_value) (defBody s__law_value) (defScope s__law_value) .none kV__law_value dc__law_value pm__law_value an__law_value cd__law_value ct__law_value), sl__law_value⟩)
    (c__law_value : PySem.W.codeIn K cd__law_value "_law_value" = true) (k__law_value : PySem.W.keepIn K (.ref f__law_value) = true)
    {f_alike : Addr} {od_alike an_alike : Option Addr} {sl_alike : Array (Option Value)} {oc_alike kV_alike dc_alike pm_alike cd_alike ct_alike : Value}
    (a_alike : PySem.W.nsIn K mainGlobals "alike" = some (some (.ref f_alike)))
    (l_alike : K.lookup f_alike = some ⟨oc_alike, od_alike, .func (PySem.W.fnOf "alike" "alike" (defArgs s_alike) (defBody s_alike) (defScope s_alike) .none kV_alike dc_alike pm_alike an_alike cd_alike ct_alike), sl_alike⟩)
    (c_alike : PySem.W.codeIn K cd_alike "alike" = true) (k_alike : PySem.W.keepIn K (.ref f_alike) = true)
    {f_fewest_most : Addr} {od_fewest_most an_fewest_most : Option Addr} {sl_fewest_most : Array (Option Value)} {oc_fewest_most kV_fewest_most dc_fewest_most pm_fewest_most cd_fewest_most ct_fewest_most : Value}
    (a_fewest_most : PySem.W.nsIn K mainGlobals "fewest_most" = some (some (.ref f_fewest_most)))
    (l_fewest_most : K.lookup f_fewest_most = some ⟨oc_fewest_most, od_fewest_most, .func (PySem.W.fnOf "fewest_most" "fewest_most" (defArgs s_fewest_most) (defBody s_fewest_most) (defScope s_fewest_most) .none kV_fewest_most dc_fewest_most pm_fewest_most an_fewest_most cd_fewest_most ct_fewest_most), sl_fewest_most⟩)
    (c_fewest_most : PySem.W.codeIn K cd_fewest_most "fewest_most" = true) (k_fewest_most : PySem.W.keepIn K (.ref f_fewest_most) = true)
    {f__law_kinds : Addr} {od__law_kinds an__law_kinds : Option Addr} {sl__law_kinds : Array (Option Value)} {oc__law_kinds kV__law_kinds dc__law_kinds pm__law_kinds cd__law_kinds ct__law_kinds : Value}
    (a__law_kinds : PySem.W.nsIn K mainGlobals "_law_kinds" = some (some (.ref f__law_kinds)))
    (l__law_kinds : K.lookup f__law_kinds = some ⟨oc__law_kinds, od__law_kinds, .func (PySem.W.fnOf "_law_kinds" "_law_kinds" (defArgs s__law_kinds) (defBody s__law_kinds) (defScope s__law_kinds) .none kV__law_kinds dc__law_kinds pm__law_kinds an__law_kinds cd__law_kinds ct__law_kinds), sl__law_kinds⟩)
    (c__law_kinds : PySem.W.codeIn K cd__law_kinds "_law_kinds" = true) (k__law_kinds : PySem.W.keepIn K (.ref f__law_kinds) = true)
    {f__law_right : Addr} {od__law_right an__law_right : Option Addr} {sl__law_right : Array (Option Value)} {oc__law_right kV__law_right dc__law_right pm__law_right cd__law_right ct__law_right : Value}
    (a__law_right : PySem.W.nsIn K mainGlobals "_law_right" = some (some (.ref f__law_right)))
    (l__law_right : K.lookup f__law_right = some ⟨oc__law_right, od__law_right, .func (PySem.W.fnOf "_law_right" "_law_right" (defArgs s__law_right) (defBody s__law_right) (defScope s__law_right) .none kV__law_right dc__law_right pm__law_right an__law_right cd__law_right ct__law_right), sl__law_right⟩)
    (c__law_right : PySem.W.codeIn K cd__law_right "_law_right" = true) (k__law_right : PySem.W.keepIn K (.ref f__law_right) = true)
    {f_law : Addr} {od_law an_law : Option Addr} {sl_law : Array (Option Value)} {oc_law kV_law dc_law pm_law cd_law ct_law : Value}
    (a_law : PySem.W.nsIn K mainGlobals "law" = some (some (.ref f_law)))
    (l_law : K.lookup f_law = some ⟨oc_law, od_law, .func (PySem.W.fnOf "law" "law" (defArgs s_law) (defBody s_law) (defScope s_law) .none kV_law dc_law pm_law an_law cd_law ct_law), sl_law⟩)
    (c_law : PySem.W.codeIn K cd_law "law" = true) (k_law : PySem.W.keepIn K (.ref f_law) = true)
    (z_ValueError : PySem.W.nsIn K mainGlobals "ValueError" = some none)
    (z_all : PySem.W.nsIn K mainGlobals "all" = some none)
    (z_bool : PySem.W.nsIn K mainGlobals "bool" = some none)
    (z_int : PySem.W.nsIn K mainGlobals "int" = some none)
    (z_isinstance : PySem.W.nsIn K mainGlobals "isinstance" = some none)
    (z_len : PySem.W.nsIn K mainGlobals "len" = some none)
    (z_list : PySem.W.nsIn K mainGlobals "list" = some none)
    (z_range : PySem.W.nsIn K mainGlobals "range" = some none)
    (z_sorted : PySem.W.nsIn K mainGlobals "sorted" = some none)
    (z_tuple : PySem.W.nsIn K mainGlobals "tuple" = some none)
    {t1 t2 t3 t4 : Tok}
    (m_MOST_GLASSES : PySem.W.nsIn K mainGlobals "MOST_GLASSES" = some (some (.int 12 t1)))
    (m_MOST_MEASURES : PySem.W.nsIn K mainGlobals "MOST_MEASURES" = some (some (.int 1000000 t2)))
    (m_MOST_SMALL_GLASSES : PySem.W.nsIn K mainGlobals "MOST_SMALL_GLASSES" = some (some (.int 5 t3)))
    (m_MOST_SMALL_MEASURES : PySem.W.nsIn K mainGlobals "MOST_SMALL_MEASURES" = some (some (.int 20 t4)))
    {cG : Addr} (gG : PySem.W.nsIn K mainGlobals "GlassError" = some (some (.ref cG))) (icG : PySem.W.isClsIn K cG = true) (tyG : PySem.W.typeIn K (.ref cG) = some (.type "type")) (sbG : PySem.W.subIn K (.ref cG) (.type "BaseException") = some true)
    {cR : Addr} (gR : PySem.W.nsIn K mainGlobals "BadRow" = some (some (.ref cR))) (icR : PySem.W.isClsIn K cR = true) (tyR : PySem.W.typeIn K (.ref cR) = some (.type "type")) (sbR : PySem.W.subIn K (.ref cR) (.type "BaseException") = some true)
    {cE : Addr} (gE : PySem.W.nsIn K mainGlobals "BadEvening" = some (some (.ref cE))) (icE : PySem.W.isClsIn K cE = true) (tyE : PySem.W.typeIn K (.ref cE) = some (.type "type")) (sbE : PySem.W.subIn K (.ref cE) (.type "BaseException") = some true)
    (exR : PySem.W.excIn K cR [.type "ValueError", .type "Exception", .type "BaseException", .type "object"] "ValueError.__new__" = true) (kcR : PySem.W.keepIn K (.ref cR) = true) (hgR : PySem.W.findIn K (.ref cR) "__getattribute__" = some (some (.builtin "BaseException.__getattribute__"))) (hkR : PySem.W.findIn K (.ref cR) "__getattr__" = some none) (hdR : PySem.W.hasDictIn K cR = true) (haR : PySem.W.findIn K (.ref cR) "__class__" = some (some (.builtin "object.__class__"))) (hmR : PySem.W.mroIn K cR (.type "object") = some true)
    (sRG : PySem.W.subIn K (.ref cR) (.ref cG) = some true) (sRV : PySem.W.subIn K (.ref cR) (.type "ValueError") = some true)
    (sRR : PySem.W.subIn K (.ref cR) (.ref cR) = some true)
    (sRE : PySem.W.subIn K (.ref cR) (.ref cE) = some false)
    (neRE : (Value.ref cR == Value.ref cE) = false)
    (exE : PySem.W.excIn K cE [.type "ValueError", .type "Exception", .type "BaseException", .type "object"] "ValueError.__new__" = true) (kcE : PySem.W.keepIn K (.ref cE) = true) (hgE : PySem.W.findIn K (.ref cE) "__getattribute__" = some (some (.builtin "BaseException.__getattribute__"))) (hkE : PySem.W.findIn K (.ref cE) "__getattr__" = some none) (hdE : PySem.W.hasDictIn K cE = true) (haE : PySem.W.findIn K (.ref cE) "__class__" = some (some (.builtin "object.__class__"))) (hmE : PySem.W.mroIn K cE (.type "object") = some true)
    (sEG : PySem.W.subIn K (.ref cE) (.ref cG) = some true) (sEV : PySem.W.subIn K (.ref cE) (.type "ValueError") = some true)
    (sER : PySem.W.subIn K (.ref cE) (.ref cR) = some false)
    (neER : (Value.ref cE == Value.ref cR) = false)
    (sEE : PySem.W.subIn K (.ref cE) (.ref cE) = some true)
    (ge : PySem.W.specialIn K (.builtin "object.__class__") "__get__" = some (some (.builtin "getset_descriptor.__get__"))) (tk : PySem.W.takesIn K (.builtin "object.__class__") = some true)
    {cL Pt : Addr} {eL : Value} {dL : Option Addr} {vL : Array Value} {xL : Array (Option Value)} (eT : cd__law_right = .ref cL) (lT : K.lookup cL = some ⟨eL, dL, .fields vL, xL⟩) (vT : vL[11]? = some (.ref Pt)) (nT : (K.lookup Pt).isNone = true) (gT : mainGlobals ≠ Pt) (DT : TabTold K h "_law_right")
    : LamX.LawAtS l w K CX0 14 63 "_law_script" mg fa h := by
  have e := hfa.symm.trans (PySem.W.mg_of X G a_law)
  cases e
  obtain ⟨CH, hP0⟩ := DT _ _ (tabIn_of a__law_right l__law_right eT lT vT)
  refine ⟨PySem.W.fnOf "law" "law" (defArgs s_law) (defBody s_law) (defScope s_law) .none kV_law dc_law pm_law an_law cd_law ct_law, [(cL, Pt)], sp_law K Pt, (fun p hp => by rw [List.mem_singleton.mp hp]; exact hP0), (fun p hp => by rw [List.mem_singleton.mp hp]; exact Option.isNone_iff_eq_none.mp nT), (fun p hp => by rw [List.mem_singleton.mp hp]; exact CH), (fun s v => .of_eq rfl), (fun H a ns hl hb hH hS => ⟨a, ns, rfl, hS, hl, fun z hz => Eg.Bt.mono (Eg.bt_of_bits (hb z hz)) (by decide), (fun q hq => ⟨#[], (by rw [List.mem_singleton.mp hq]; exact hH (cL, Pt) (List.mem_singleton.mpr rfl)), trivial, fun pos cv h => by cases (show (none : Option Value) = some cv from h)⟩), fun _ => rfl⟩), fun base _ _ TBs => ?_⟩
  have TB := TBs (cL, Pt) (List.mem_singleton.mpr rfl)
  have B : Bi mg := ⟨PySem.W.mg_none_of X G z_ValueError, PySem.W.mg_none_of X G z_all, PySem.W.mg_none_of X G z_bool, PySem.W.mg_none_of X G z_int, PySem.W.mg_none_of X G z_isinstance, PySem.W.mg_none_of X G z_len, PySem.W.mg_none_of X G z_list, PySem.W.mg_none_of X G z_range, PySem.W.mg_none_of X G z_sorted, PySem.W.mg_none_of X G z_tuple⟩
  have M : Mo mg t1 t2 t3 t4 := ⟨PySem.W.mg_of X G m_MOST_GLASSES, PySem.W.mg_of X G m_MOST_MEASURES, PySem.W.mg_of X G m_MOST_SMALL_GLASSES, PySem.W.mg_of X G m_MOST_SMALL_MEASURES⟩
  have XR : TxE K mg "BadRow" cR := ⟨PySem.W.mg_of X G gR, exR, kcR, sbR, tyR⟩
  have XE : TxE K mg "BadEvening" cE := ⟨PySem.W.mg_of X G gE, exE, kcE, sbE, tyE⟩
  have TK : TxK K mg cG cR cE := ⟨PySem.W.mg_of X G gG, PySem.W.mg_of X G gR, PySem.W.mg_of X G gE, ⟨hgR, hkR, sbR, hdR, haR, ge, tk, hmR⟩, ⟨hgE, hkE, sbE, hdE, haE, ge, tk, hmE⟩, exm_ref sbG icG tyG sRG, exm_ref sbG icG tyG sEG, kit_ref icR tyR sRR fun z => Bool.noConfusion z, kit_ref icE tyE sRE fun z => neRE, kit_val sRV, kit_ref icR tyR sER fun z => neER, kit_ref icE tyE sEE fun z => Bool.noConfusion z, kit_val sEV⟩
  have CK : CalK K mg f__law_kinds _ := ⟨fun_mk (st := s__law_kinds) l__law_kinds c__law_kinds k__law_kinds, PySem.W.mg_of X G a__law_kinds, k__law_kinds, (fun_mk (st := s__law_kinds) l__law_kinds c__law_kinds k__law_kinds).binds fun _ _ _ _ _ _ us hl => match us, hl with | [_], _ => rfl⟩
  have C_is_number : Cal l.prog w K mg base CX0 1 "is_number" P_is_number (sp_is_number K) f_is_number _ := ⟨ok_is_number (fun_mk (st := s_is_number) l_is_number c_is_number k_is_number) B , PySem.W.mg_of X G a_is_number, k_is_number, (fun_mk (st := s_is_number) l_is_number c_is_number k_is_number).binds fun _ _ _ _ _ _ us hl => match us, hl with | [_], _ => rfl⟩
  have C_is_measure : Cal l.prog w K mg base CX0 2 "is_measure" P_is_measure (sp_is_measure K) f_is_measure _ := ⟨ok_is_measure (fun_mk (st := s_is_measure) l_is_measure c_is_measure k_is_measure) B M C_is_number, PySem.W.mg_of X G a_is_measure, k_is_measure, (fun_mk (st := s_is_measure) l_is_measure c_is_measure k_is_measure).binds fun _ _ _ _ _ _ us hl => match us, hl with | [_], _ => rfl⟩
  have C_is_row : Cal l.prog w K mg base CX0 3 "is_row" P_is_row (sp_is_row K) f_is_row _ := ⟨ok_is_row (fun_mk (st := s_is_row) l_is_row c_is_row k_is_row) B M C_is_measure, PySem.W.mg_of X G a_is_row, k_is_row, (fun_mk (st := s_is_row) l_is_row c_is_row k_is_row).binds fun _ _ _ _ _ _ us hl => match us, hl with | [_], _ => rfl⟩
  have C_are_places : Cal l.prog w K mg base CX0 2 "are_places" P_are_places (sp_are_places K) f_are_places _ := ⟨ok_are_places (fun_mk (st := s_are_places) l_are_places c_are_places k_are_places) B C_is_number, PySem.W.mg_of X G a_are_places, k_are_places, (fun_mk (st := s_are_places) l_are_places c_are_places k_are_places).binds fun _ _ _ _ _ _ us hl => match us, hl with | [_, _], _ => rfl⟩
  have C_can_even : Cal l.prog w K mg base CX0 1 "can_even" P_can_even (sp_can_even K) f_can_even _ := ⟨ok_can_even (fun_mk (st := s_can_even) l_can_even c_can_even k_can_even) B , PySem.W.mg_of X G a_can_even, k_can_even, (fun_mk (st := s_can_even) l_can_even c_can_even k_can_even).binds fun _ _ _ _ _ _ us hl => match us, hl with | [_, _], _ => rfl⟩
  have C_is_small_row : Cal l.prog w K mg base CX0 4 "is_small_row" P_is_small_row (sp_is_small_row K) f_is_small_row _ := ⟨ok_is_small_row (fun_mk (st := s_is_small_row) l_is_small_row c_is_small_row k_is_small_row) B M C_is_row, PySem.W.mg_of X G a_is_small_row, k_is_small_row, (fun_mk (st := s_is_small_row) l_is_small_row c_is_small_row k_is_small_row).binds fun _ _ _ _ _ _ us hl => match us, hl with | [_], _ => rfl⟩
  have C_can_be : Cal l.prog w K mg base CX0 3 "can_be" P_can_be (sp_can_be K) f_can_be _ := ⟨ok_can_be (fun_mk (st := s_can_be) l_can_be c_can_be k_can_be) B C_are_places C_can_even, PySem.W.mg_of X G a_can_be, k_can_be, (fun_mk (st := s_can_be) l_can_be c_can_be k_can_be).binds fun _ _ _ _ _ _ us hl => match us, hl with | [_, _], _ => rfl⟩
  have C_are_alike : Cal l.prog w K mg base CX0 1 "are_alike" P_are_alike (sp_are_alike K) f_are_alike _ := ⟨ok_are_alike (fun_mk (st := s_are_alike) l_are_alike c_are_alike k_are_alike) B , PySem.W.mg_of X G a_are_alike, k_are_alike, (fun_mk (st := s_are_alike) l_are_alike c_are_alike k_are_alike).binds fun _ _ _ _ _ _ us hl => match us, hl with | [_], _ => rfl⟩
  have C_refuse_no_row : Cal l.prog w K mg base CX0 4 "refuse_no_row" P_refuse_no_row (sp_refuse_no_row K) f_refuse_no_row _ := ⟨ok_refuse_no_row (fun_mk (st := s_refuse_no_row) l_refuse_no_row c_refuse_no_row k_refuse_no_row) B C_is_row, PySem.W.mg_of X G a_refuse_no_row, k_refuse_no_row, (fun_mk (st := s_refuse_no_row) l_refuse_no_row c_refuse_no_row k_refuse_no_row).binds fun _ _ _ _ _ _ us hl => match us, hl with | [_], _ => rfl⟩
  have C_refuse_no_small_row : Cal l.prog w K mg base CX0 5 "refuse_no_small_row" P_refuse_no_small_row (sp_refuse_no_small_row K) f_refuse_no_small_row _ := ⟨ok_refuse_no_small_row (fun_mk (st := s_refuse_no_small_row) l_refuse_no_small_row c_refuse_no_small_row k_refuse_no_small_row) B C_is_small_row, PySem.W.mg_of X G a_refuse_no_small_row, k_refuse_no_small_row, (fun_mk (st := s_refuse_no_small_row) l_refuse_no_small_row c_refuse_no_small_row k_refuse_no_small_row).binds fun _ _ _ _ _ _ us hl => match us, hl with | [_], _ => rfl⟩
  have C_refuse_no_evening : Cal l.prog w K mg base CX0 4 "refuse_no_evening" P_refuse_no_evening (sp_refuse_no_evening K) f_refuse_no_evening _ := ⟨ok_refuse_no_evening (fun_mk (st := s_refuse_no_evening) l_refuse_no_evening c_refuse_no_evening k_refuse_no_evening) B C_can_be, PySem.W.mg_of X G a_refuse_no_evening, k_refuse_no_evening, (fun_mk (st := s_refuse_no_evening) l_refuse_no_evening c_refuse_no_evening k_refuse_no_evening).binds fun _ _ _ _ _ _ us hl => match us, hl with | [_, _], _ => rfl⟩
  have C_pairs_to_even : Cal l.prog w K mg base CX0 2 "pairs_to_even" P_pairs_to_even (sp_pairs_to_even K) f_pairs_to_even _ := ⟨ok_pairs_to_even (fun_mk (st := s_pairs_to_even) l_pairs_to_even c_pairs_to_even k_pairs_to_even) B C_can_even, PySem.W.mg_of X G a_pairs_to_even, k_pairs_to_even, (fun_mk (st := s_pairs_to_even) l_pairs_to_even c_pairs_to_even k_pairs_to_even).binds fun _ _ _ _ _ _ us hl => match us, hl with | [_], _ => rfl⟩
  have C_row_behind : Cal l.prog w K mg base CX0 1 "row_behind" P_row_behind (sp_row_behind K) f_row_behind _ := ⟨ok_row_behind (fun_mk (st := s_row_behind) l_row_behind c_row_behind k_row_behind) B , PySem.W.mg_of X G a_row_behind, k_row_behind, (fun_mk (st := s_row_behind) l_row_behind c_row_behind k_row_behind).binds fun _ _ _ _ _ _ us hl => match us, hl with | [_, _], _ => rfl⟩
  have C_evenings : Cal l.prog w K mg base CX0 5 "evenings" P_evenings (sp_evenings K) f_evenings _ := ⟨ok_evenings (fun_mk (st := s_evenings) l_evenings c_evenings k_evenings) B C_pairs_to_even C_refuse_no_row, PySem.W.mg_of X G a_evenings, k_evenings, (fun_mk (st := s_evenings) l_evenings c_evenings k_evenings).binds fun _ _ _ _ _ _ us hl => match us, hl with | [_], _ => rfl⟩
  have C_evened : Cal l.prog w K mg base CX0 5 "evened" P_evened (sp_evened K) f_evened _ := ⟨ok_evened (fun_mk (st := s_evened) l_evened c_evened k_evened) B C_refuse_no_evening C_refuse_no_row C_row_behind, PySem.W.mg_of X G a_evened, k_evened, (fun_mk (st := s_evened) l_evened c_evened k_evened).binds fun _ _ _ _ _ _ us hl => match us, hl with | [_, _], _ => rfl⟩
  have C_settled : Cal l.prog w K mg base CX0 6 "settled" P_settled (sp_settled K) f_settled _ := ⟨ok_settled (fun_mk (st := s_settled) l_settled c_settled k_settled) B C_evenings, PySem.W.mg_of X G a_settled, k_settled, (fun_mk (st := s_settled) l_settled c_settled k_settled).binds fun _ _ _ _ _ _ us hl => match us, hl with | [_], _ => rfl⟩
  have C_fall : Cal l.prog w K mg base CX0 5 "fall" P_fall (sp_fall K) f_fall _ := ⟨ok_fall (fun_mk (st := s_fall) l_fall c_fall k_fall) B C_refuse_no_evening C_refuse_no_row, PySem.W.mg_of X G a_fall, k_fall, (fun_mk (st := s_fall) l_fall c_fall k_fall).binds fun _ _ _ _ _ _ us hl => match us, hl with | [_, _], _ => rfl⟩
  have C_steps : Cal l.prog w K mg base CX0 3 "steps" P_steps (sp_steps K) f_steps _ := ⟨ok_steps (fun_mk (st := s_steps) l_steps c_steps k_steps) B C_pairs_to_even C_row_behind, PySem.W.mg_of X G a_steps, k_steps, (fun_mk (st := s_steps) l_steps c_steps k_steps).binds fun _ _ _ _ _ _ us hl => match us, hl with | [_], _ => rfl⟩
  have C_reach_steps : Cal l.prog w K mg base CX0 5 "reach" P_reach (sp_reach K stepsL f_steps) f_reach _ := ⟨ok_reach (fun_mk (st := s_reach) l_reach c_reach k_reach) B good_steps (C_steps.fnR.mono (by decide)) k_steps, PySem.W.mg_of X G a_reach, k_reach, (fun_mk (st := s_reach) l_reach c_reach k_reach).binds fun _ _ _ _ _ _ us hl => match us, hl with | [_, _], _ => rfl⟩
  have C_ends : Cal l.prog w K mg base CX0 8 "ends" P_ends (sp_ends K) f_ends _ := ⟨ok_ends (fun_mk (st := s_ends) l_ends c_ends k_ends) B C_refuse_no_small_row C_steps C_reach_steps, PySem.W.mg_of X G a_ends, k_ends, (fun_mk (st := s_ends) l_ends c_ends k_ends).binds fun _ _ _ _ _ _ us hl => match us, hl with | [_], _ => rfl⟩
  have C__law_strange : Cal l.prog w K mg base CX0 1 "_law_strange" P__law_strange (sp__law_strange K) f__law_strange _ := ⟨ok__law_strange (fun_mk (st := s__law_strange) l__law_strange c__law_strange k__law_strange) B , PySem.W.mg_of X G a__law_strange, k__law_strange, (fun_mk (st := s__law_strange) l__law_strange c__law_strange k__law_strange).binds fun _ _ _ _ _ _ us hl => match us, hl with | [_], _ => rfl⟩
  have C__law_no_rows : Cal l.prog w K mg base CX0 2 "_law_no_rows" P__law_no_rows (sp__law_no_rows K) f__law_no_rows _ := ⟨ok__law_no_rows (fun_mk (st := s__law_no_rows) l__law_no_rows c__law_no_rows k__law_no_rows) B C__law_strange, PySem.W.mg_of X G a__law_no_rows, k__law_no_rows, (fun_mk (st := s__law_no_rows) l__law_no_rows c__law_no_rows k__law_no_rows).binds fun _ _ _ _ _ _ us hl => match us, hl with | [_, _, _], _ => rfl⟩
  have C__law_cell_at : Cal l.prog w K mg base CX0 1 "_law_cell_at" P__law_cell_at (sp__law_cell_at K) f__law_cell_at _ := ⟨ok__law_cell_at (fun_mk (st := s__law_cell_at) l__law_cell_at c__law_cell_at k__law_cell_at) B , PySem.W.mg_of X G a__law_cell_at, k__law_cell_at, (fun_mk (st := s__law_cell_at) l__law_cell_at c__law_cell_at k__law_cell_at).binds fun _ _ _ _ _ _ us hl => match us, hl with | [_, _], _ => rfl⟩
  have C__law_draw : Cal l.prog w K mg base CX0 1 "_law_draw" P__law_draw (sp__law_draw K) f__law_draw _ := ⟨ok__law_draw (fun_mk (st := s__law_draw) l__law_draw c__law_draw k__law_draw) B , PySem.W.mg_of X G a__law_draw, k__law_draw, (fun_mk (st := s__law_draw) l__law_draw c__law_draw k__law_draw).binds fun _ _ _ _ _ _ us hl => match us, hl with | [_, _, _], _ => rfl⟩
  have C__law_value : Cal l.prog w K mg base CX0 2 "_law_value" P__law_value (sp__law_value K) f__law_value _ := ⟨ok__law_value (fun_mk (st := s__law_value) l__law_value c__law_value k__law_value) B C__law_draw, PySem.W.mg_of X G a__law_value, k__law_value, (fun_mk (st := s__law_value) l__law_value c__law_value k__law_value).binds fun _ _ _ _ _ _ us hl => match us, hl with | [_, _], _ => rfl⟩
  have C_refuse_no_row_bad : Cal l.prog w K mg base (L2.CX l.prog w) 4 "refuse_no_row" P_refuse_no_row (sp_refuse_no_row_bad K cR) f_refuse_no_row _ := ⟨ok_refuse_no_row_bad (fun_mk (st := s_refuse_no_row) l_refuse_no_row c_refuse_no_row k_refuse_no_row) B XR C_is_row, PySem.W.mg_of X G a_refuse_no_row, k_refuse_no_row, (fun_mk (st := s_refuse_no_row) l_refuse_no_row c_refuse_no_row k_refuse_no_row).binds fun _ _ _ _ _ _ us hl => match us, hl with | [_], _ => rfl⟩
  have C_refuse_no_evening_bad : Cal l.prog w K mg base (L2.CX l.prog w) 4 "refuse_no_evening" P_refuse_no_evening (sp_refuse_no_evening_bad K cE) f_refuse_no_evening _ := ⟨ok_refuse_no_evening_bad (fun_mk (st := s_refuse_no_evening) l_refuse_no_evening c_refuse_no_evening k_refuse_no_evening) B XE C_can_be, PySem.W.mg_of X G a_refuse_no_evening, k_refuse_no_evening, (fun_mk (st := s_refuse_no_evening) l_refuse_no_evening c_refuse_no_evening k_refuse_no_evening).binds fun _ _ _ _ _ _ us hl => match us, hl with | [_, _], _ => rfl⟩
  have C_refuse_no_small_row_bad : Cal l.prog w K mg base (L2.CX l.prog w) 5 "refuse_no_small_row" P_refuse_no_small_row (sp_small_bad K cR) f_refuse_no_small_row _ := ⟨ok_refuse_no_small_row_bad (fun_mk (st := s_refuse_no_small_row) l_refuse_no_small_row c_refuse_no_small_row k_refuse_no_small_row) B XR C_is_small_row, PySem.W.mg_of X G a_refuse_no_small_row, k_refuse_no_small_row, (fun_mk (st := s_refuse_no_small_row) l_refuse_no_small_row c_refuse_no_small_row k_refuse_no_small_row).binds fun _ _ _ _ _ _ us hl => match us, hl with | [_], _ => rfl⟩
  have C_evenings_bad : Cal l.prog w K mg base (L2.CX l.prog w) 5 "evenings" P_evenings (sp_refuse_no_row_bad K cR) f_evenings _ := ⟨ok_evenings_bad (fun_mk (st := s_evenings) l_evenings c_evenings k_evenings) B C_refuse_no_row_bad, PySem.W.mg_of X G a_evenings, k_evenings, (fun_mk (st := s_evenings) l_evenings c_evenings k_evenings).binds fun _ _ _ _ _ _ us hl => match us, hl with | [_], _ => rfl⟩
  have C_evened_bad : Cal l.prog w K mg base (L2.CX l.prog w) 5 "evened" P_evened (sp_row2_bad K cR) f_evened _ := ⟨ok_evened_bad (fun_mk (st := s_evened) l_evened c_evened k_evened) B C_refuse_no_row_bad, PySem.W.mg_of X G a_evened, k_evened, (fun_mk (st := s_evened) l_evened c_evened k_evened).binds fun _ _ _ _ _ _ us hl => match us, hl with | [_, _], _ => rfl⟩
  have C_fall_bad : Cal l.prog w K mg base (L2.CX l.prog w) 5 "fall" P_fall (sp_row2_bad K cR) f_fall _ := ⟨ok_fall_bad (fun_mk (st := s_fall) l_fall c_fall k_fall) B C_refuse_no_row_bad, PySem.W.mg_of X G a_fall, k_fall, (fun_mk (st := s_fall) l_fall c_fall k_fall).binds fun _ _ _ _ _ _ us hl => match us, hl with | [_, _], _ => rfl⟩
  have C_alike_bad : Cal l.prog w K mg base (L2.CX l.prog w) 9 "alike" P_alike (sp_small_bad K cR) f_alike _ := ⟨ok_alike_bad (fun_mk (st := s_alike) l_alike c_alike k_alike) B C_refuse_no_small_row_bad, PySem.W.mg_of X G a_alike, k_alike, (fun_mk (st := s_alike) l_alike c_alike k_alike).binds fun _ _ _ _ _ _ us hl => match us, hl with | [_], _ => rfl⟩
  have C_ends_bad : Cal l.prog w K mg base (L2.CX l.prog w) 9 "ends" P_ends (sp_small_bad K cR) f_ends _ := ⟨ok_ends_bad (fun_mk (st := s_ends) l_ends c_ends k_ends) B C_refuse_no_small_row_bad, PySem.W.mg_of X G a_ends, k_ends, (fun_mk (st := s_ends) l_ends c_ends k_ends).binds fun _ _ _ _ _ _ us hl => match us, hl with | [_], _ => rfl⟩
  have C_fewest_most_bad : Cal l.prog w K mg base (L2.CX l.prog w) 9 "fewest_most" P_fewest_most (sp_small_bad K cR) f_fewest_most _ := ⟨ok_fewest_most_bad (fun_mk (st := s_fewest_most) l_fewest_most c_fewest_most k_fewest_most) B C_refuse_no_small_row_bad, PySem.W.mg_of X G a_fewest_most, k_fewest_most, (fun_mk (st := s_fewest_most) l_fewest_most c_fewest_most k_fewest_most).binds fun _ _ _ _ _ _ us hl => match us, hl with | [_], _ => rfl⟩
  have C_settled_bad : Cal l.prog w K mg base (L2.CX l.prog w) 6 "settled" P_settled (sp_refuse_no_row_bad K cR) f_settled _ := ⟨ok_settled_bad (fun_mk (st := s_settled) l_settled c_settled k_settled) B C_evenings_bad, PySem.W.mg_of X G a_settled, k_settled, (fun_mk (st := s_settled) l_settled c_settled k_settled).binds fun _ _ _ _ _ _ us hl => match us, hl with | [_], _ => rfl⟩
  have C_evened_badE : Cal l.prog w K mg base (L2.CX l.prog w) 5 "evened" P_evened (sp_refuse_no_evening_bad K cE) f_evened _ := ⟨ok_evened_badE (fun_mk (st := s_evened) l_evened c_evened k_evened) B C_refuse_no_row C_refuse_no_evening_bad, PySem.W.mg_of X G a_evened, k_evened, (fun_mk (st := s_evened) l_evened c_evened k_evened).binds fun _ _ _ _ _ _ us hl => match us, hl with | [_, _], _ => rfl⟩
  have C_fall_badE : Cal l.prog w K mg base (L2.CX l.prog w) 5 "fall" P_fall (sp_refuse_no_evening_bad K cE) f_fall _ := ⟨ok_fall_badE (fun_mk (st := s_fall) l_fall c_fall k_fall) B C_refuse_no_row C_refuse_no_evening_bad, PySem.W.mg_of X G a_fall, k_fall, (fun_mk (st := s_fall) l_fall c_fall k_fall).binds fun _ _ _ _ _ _ us hl => match us, hl with | [_, _], _ => rfl⟩
  have C__law_right : Cal l.prog w K mg base CX0 13 "_law_right" P__law_right (sp__law_right K Pt) f__law_right _ := ⟨ok__law_right (fun_mk (st := s__law_right) l__law_right c__law_right k__law_right) eT B CK TK TB C_evenings_bad C_settled_bad C_evened_bad C_fall_bad C_alike_bad C_ends_bad C_fewest_most_bad C_evened_badE C_fall_badE C__law_no_rows C__law_strange, PySem.W.mg_of X G a__law_right, k__law_right, (fun_mk (st := s__law_right) l__law_right c__law_right k__law_right).binds fun _ _ _ _ _ _ us hl => match us, hl with | [_], _ => rfl⟩
  exact ok_law (fun_mk (st := s_law) l_law c_law k_law) B C__law_cell_at C__law_value C_settled C_evened C_fall C_ends C__law_right
end
end Lk

open PySem PySem.W PyProof.Rows
set_option maxRecDepth 100000 in
set_option maxHeartbeats 0 in
theorem PySem.Challenge.cw_evenglasses_k05_refused_holds : PySem.Challenge.rw_evenglasses_k05_refused.Holds := by
  w_on; o_law; k_head; (case hw => w_witness2)
  k_fill
  refine Eg.walk_ofTT (l := PySem.Challenge.rw_evenglasses_k05_refused) (n := 63) (k := 14) (x := "_law_script") (CX := fun _ => L2.CX0) rfl (by decide) rfl ⟨rfl, by decide, by decide⟩ (fun w h Y => PySem.W.km_in_of Y) ?F (fun _ _ _ _ _ h => h)
  case F =>
    intro w mg fa h Y KX G hmg hDT
    refine' Lk.all_mk KX G hmg ?a_is_number ?l_is_number ?c_is_number ?k_is_number ?a_is_measure ?l_is_measure ?c_is_measure ?k_is_measure ?a_is_row ?l_is_row ?c_is_row ?k_is_row ?a_are_places ?l_are_places ?c_are_places ?k_are_places ?a_can_even ?l_can_even ?c_can_even ?k_can_even ?a_is_small_row ?l_is_small_row ?c_is_small_row ?k_is_small_row ?a_can_be ?l_can_be ?c_can_be ?k_can_be ?a_are_alike ?l_are_alike ?c_are_alike ?k_are_alike ?a_refuse_no_row ?l_refuse_no_row ?c_refuse_no_row ?k_refuse_no_row ?a_refuse_no_small_row ?l_refuse_no_small_row ?c_refuse_no_small_row ?k_refuse_no_small_row ?a_refuse_no_evening ?l_refuse_no_evening ?c_refuse_no_evening ?k_refuse_no_evening ?a_pairs_to_even ?l_pairs_to_even ?c_pairs_to_even ?k_pairs_to_even ?a_row_behind ?l_row_behind ?c_row_behind ?k_row_behind ?a_evenings ?l_evenings ?c_evenings ?k_evenings ?a_evened ?l_evened ?c_evened ?k_evened ?a_settled ?l_settled ?c_settled ?k_settled ?a_fall ?l_fall ?c_fall ?k_fall ?a_steps ?l_steps ?c_steps ?k_steps ?a_reach ?l_reach ?c_reach ?k_reach ?a_ends ?l_ends ?c_ends ?k_ends ?a__law_strange ?l__law_strange ?c__law_strange ?k__law_strange ?a__law_no_rows ?l__law_no_rows ?c__law_no_rows ?k__law_no_rows ?a__law_cell_at ?l__law_cell_at ?c__law_cell_at ?k__law_cell_at ?a__law_draw ?l__law_draw ?c__law_draw ?k__law_draw ?a__law_value ?l__law_value ?c__law_value ?k__law_value ?a_alike ?l_alike ?c_alike ?k_alike ?a_fewest_most ?l_fewest_most ?c_fewest_most ?k_fewest_most ?a__law_kinds ?l__law_kinds ?c__law_kinds ?k__law_kinds ?a__law_right ?l__law_right ?c__law_right ?k__law_right ?a_law ?l_law ?c_law ?k_law ?z_ValueError ?z_all ?z_bool ?z_int ?z_isinstance ?z_len ?z_list ?z_range ?z_sorted ?z_tuple ?m_MOST_GLASSES ?m_MOST_MEASURES ?m_MOST_SMALL_GLASSES ?m_MOST_SMALL_MEASURES ?gG ?icG ?tyG ?sbG ?gR ?icR ?tyR ?sbR ?gE ?icE ?tyE ?sbE ?exR ?kcR ?hgR ?hkR ?hdR ?haR ?hmR ?sRG ?sRV ?sRR ?sRE ?neRE ?exE ?kcE ?hgE ?hkE ?hdE ?haE ?hmE ?sEG ?sEV ?sER ?neER ?sEE ?ge ?tk ?eT ?lT ?vT ?nT ?gT ?DT
    (case gG => k_is)
    (case gR => k_is)
    (case gE => k_is)
    (case a_is_number => k_is)
    (case l_is_number => k_is)
    (case c_is_number => k_is)
    (case k_is_number => k_is)
    (case a_is_measure => k_is)
    (case l_is_measure => k_is)
    (case c_is_measure => k_is)
    (case k_is_measure => k_is)
    (case a_is_row => k_is)
    (case l_is_row => k_is)
    (case c_is_row => k_is)
    (case k_is_row => k_is)
    (case a_are_places => k_is)
    (case l_are_places => k_is)
    (case c_are_places => k_is)
    (case k_are_places => k_is)
    (case a_can_even => k_is)
    (case l_can_even => k_is)
    (case c_can_even => k_is)
    (case k_can_even => k_is)
    (case a_is_small_row => k_is)
    (case l_is_small_row => k_is)
    (case c_is_small_row => k_is)
    (case k_is_small_row => k_is)
    (case a_can_be => k_is)
    (case l_can_be => k_is)
    (case c_can_be => k_is)
    (case k_can_be => k_is)
    (case a_are_alike => k_is)
    (case l_are_alike => k_is)
    (case c_are_alike => k_is)
    (case k_are_alike => k_is)
    (case a_refuse_no_row => k_is)
    (case l_refuse_no_row => k_is)
    (case c_refuse_no_row => k_is)
    (case k_refuse_no_row => k_is)
    (case a_refuse_no_small_row => k_is)
    (case l_refuse_no_small_row => k_is)
    (case c_refuse_no_small_row => k_is)
    (case k_refuse_no_small_row => k_is)
    (case a_refuse_no_evening => k_is)
    (case l_refuse_no_evening => k_is)
    (case c_refuse_no_evening => k_is)
    (case k_refuse_no_evening => k_is)
    (case a_pairs_to_even => k_is)
    (case l_pairs_to_even => k_is)
    (case c_pairs_to_even => k_is)
    (case k_pairs_to_even => k_is)
    (case a_row_behind => k_is)
    (case l_row_behind => k_is)
    (case c_row_behind => k_is)
    (case k_row_behind => k_is)
    (case a_evenings => k_is)
    (case l_evenings => k_is)
    (case c_evenings => k_is)
    (case k_evenings => k_is)
    (case a_evened => k_is)
    (case l_evened => k_is)
    (case c_evened => k_is)
    (case k_evened => k_is)
    (case a_settled => k_is)
    (case l_settled => k_is)
    (case c_settled => k_is)
    (case k_settled => k_is)
    (case a_fall => k_is)
    (case l_fall => k_is)
    (case c_fall => k_is)
    (case k_fall => k_is)
    (case a_steps => k_is)
    (case l_steps => k_is)
    (case c_steps => k_is)
    (case k_steps => k_is)
    (case a_reach => k_is)
    (case l_reach => k_is)
    (case c_reach => k_is)
    (case k_reach => k_is)
    (case a_ends => k_is)
    (case l_ends => k_is)
    (case c_ends => k_is)
    (case k_ends => k_is)
    (case a__law_strange => k_is)
    (case l__law_strange => k_is)
    (case c__law_strange => k_is)
    (case k__law_strange => k_is)
    (case a__law_no_rows => k_is)
    (case l__law_no_rows => k_is)
    (case c__law_no_rows => k_is)
    (case k__law_no_rows => k_is)
    (case a__law_cell_at => k_is)
    (case l__law_cell_at => k_is)
    (case c__law_cell_at => k_is)
    (case k__law_cell_at => k_is)
    (case a__law_draw => k_is)
    (case l__law_draw => k_is)
    (case c__law_draw => k_is)
    (case k__law_draw => k_is)
    (case a__law_value => k_is)
    (case l__law_value => k_is)
    (case c__law_value => k_is)
    (case k__law_value => k_is)
    (case a_alike => k_is)
    (case l_alike => k_is)
    (case c_alike => k_is)
    (case k_alike => k_is)
    (case a_fewest_most => k_is)
    (case l_fewest_most => k_is)
    (case c_fewest_most => k_is)
    (case k_fewest_most => k_is)
    (case a__law_kinds => k_is)
    (case l__law_kinds => k_is)
    (case c__law_kinds => k_is)
    (case k__law_kinds => k_is)
    (case a__law_right => k_is)
    (case l__law_right => k_is)
    (case c__law_right => k_is)
    (case k__law_right => k_is)
    (case a_law => k_is)
    (case l_law => k_is)
    (case c_law => k_is)
    (case k_law => k_is)
    (case z_ValueError => k_is)
    (case z_all => k_is)
    (case z_bool => k_is)
    (case z_int => k_is)
    (case z_isinstance => k_is)
    (case z_len => k_is)
    (case z_list => k_is)
    (case z_range => k_is)
    (case z_sorted => k_is)
    (case z_tuple => k_is)
    (case m_MOST_GLASSES => k_is)
    (case m_MOST_MEASURES => k_is)
    (case m_MOST_SMALL_GLASSES => k_is)
    (case m_MOST_SMALL_MEASURES => k_is)
    (case icG => k_is)
    (case tyG => k_is)
    (case sbG => k_is)
    (case icR => k_is)
    (case tyR => k_is)
    (case sbR => k_is)
    (case icE => k_is)
    (case tyE => k_is)
    (case sbE => k_is)
    (case exR => k_exc)
    (case kcR => k_is)
    (case hgR => k_is)
    (case hkR => k_is)
    (case hdR => k_is)
    (case haR => k_is)
    (case hmR => k_is)
    (case sRG => k_is)
    (case sRV => k_is)
    (case sRR => k_is)
    (case sRE => k_is)
    (case neRE => rfl)
    (case exE => k_exc)
    (case kcE => k_is)
    (case hgE => k_is)
    (case hkE => k_is)
    (case hdE => k_is)
    (case haE => k_is)
    (case hmE => k_is)
    (case sEG => k_is)
    (case sEV => k_is)
    (case sER => k_is)
    (case neER => rfl)
    (case sEE => k_is)
    (case ge => k_is)
    (case tk => k_is)
    (case eT => rfl)
    (case lT => k_is)
    (case vT => rfl)
    (case nT => rfl)
    (case gT => decide)
    (case DT => exact (hDT _).told (by decide +kernel))
