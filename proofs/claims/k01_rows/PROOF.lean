import PyProof.Rows.All
import Wide.All
import OpenK.AllK
import Wide.FinOn
import HandS.Base
import HandS.Call
import HandS.List
import HandS.Comp
import HandS.Iter
import HandS.Ends
import HandS.Words
import HandS.WordsList
import HandS.Sort
import HandS.SortRule
import HandS.Zip
import HandS.Evl
import HandS.EndBits
import HandS.IsInst
import HandS.Style
import PySem.Challenge.RW_evenglasses_k01_rows
set_option Elab.async false
set_option linter.all false
set_option maxRecDepth 100000
set_option maxHeartbeats 2000000
namespace Eg
open PySem PySem.Spec PyProof.Rows L2 Evl

/-! ### names of the module -/
structure Cal (P : Program) (w : World) (K : PySem.W.Frag) (mg : Str → Option Value) (base : Heap) (CX : CXT) (k : Nat) (x : Str) (ps : List Str) (sp : Sp) (f : Addr) (fd : FuncData) : Prop where
  ok : FnOk P w K mg base CX k f fd ps sp
  g : mg x = some (.ref f)
  kp : PySem.W.keepIn K (.ref f) = true
  b : Binds K fd ps []

/-! ### bits -/
def Bt (a : Nat) (i : Int) : Prop := i.natAbs < 2 ^ a
theorem Bt.mono {a b : Nat} {i : Int} (h : Bt a i) (l : a ≤ b) : Bt b i := Nat.lt_of_lt_of_le h (Nat.pow_le_pow_right (by decide) l)
theorem Bt.add {a : Nat} {i j : Int} (h : Bt a i) (g : Bt a j) : Bt (a + 1) (i + j) := by
  have h1 : i.natAbs < 2 ^ a := h
  have h2 : j.natAbs < 2 ^ a := g
  show (i + j).natAbs < 2 ^ (a + 1)
  rw [Nat.pow_succ]
  omega
theorem Bt.sub {a : Nat} {i j : Int} (h : Bt a i) (g : Bt a j) : Bt (a + 1) (i - j) := by
  have h1 : i.natAbs < 2 ^ a := h
  have h2 : j.natAbs < 2 ^ a := g
  show (i - j).natAbs < 2 ^ (a + 1)
  rw [Nat.pow_succ]
  omega
theorem Bt.mul {a b : Nat} {i j : Int} (h : Bt a i) (g : Bt b j) : Bt (a + b) (i * j) := by
  show (i * j).natAbs < 2 ^ (a + b)
  rw [Int.natAbs_mul, Nat.pow_add]
  exact Nat.mul_lt_mul'' h g
theorem Bt.small {i : Int} (h1 : -(2 ^ 40) < i) (h2 : i < 2 ^ 40) : Bt 40 i := by
  show i.natAbs < 2 ^ 40
  omega
theorem intBits_le {a : Nat} {i : Int} (h : Bt a i) : Builtin.Int.intBits i ≤ a := by
  unfold Builtin.Int.intBits
  have h1 : i.natAbs < 2 ^ a := h
  split
  · omega
  · rename_i hz
    have hz2 : i.natAbs ≠ 0 := by
      intro e
      apply hz
      simp [Int.natAbs_eq_zero.mp e]
    have := (Nat.log2_lt hz2).mpr h1
    omega
theorem bt_of_bits {a : Nat} {i : Int} (h : Builtin.Int.intBits i ≤ a) : Bt a i := by
  show i.natAbs < 2 ^ a
  unfold Builtin.Int.intBits at h
  split at h
  · rename_i hz
    have e : i.natAbs = 0 := by
      simp at hz
      omega
    rw [e]
    exact Nat.two_pow_pos a
  · rename_i hz
    have hz2 : i.natAbs ≠ 0 := by
      intro e
      apply hz
      simp [Int.natAbs_eq_zero.mp e]
    exact (Nat.log2_lt hz2).mp (by omega)
theorem mulOk {a b : Nat} {i j : Int} (h : Bt a i) (g : Bt b j) (l : a + b ≤ 100000000) : IntMulOk i j := by
  have h1 := intBits_le h
  have h2 := intBits_le g
  have e : bitsLine = 134217728 := by decide
  unfold IntMulOk
  intro z
  rw [Bool.and_eq_true] at z
  have z2 := z.2
  unfold Builtin.Int.intTooBig at z2
  have z3 := of_decide_eq_true z2
  rw [e] at z3
  omega

section
variable {X : Cx} {a b c d e : Expr} {ta tb tc td te ts : TE} {pos : Pos}
/-! ### rules -/
theorem op_mulO : OpR X (binaryOp .Mult) (rI IntMulOk fun i j => .int (i * j)) := opI fun _ _ _ _ _ _ _ hc q => mul_int q hc
/-- a op1 b op2 c op3 d -/
def tChain3 (r r' r'' : R2) (ta tb tc td : TE) : TE := fun σ H Q => ta σ H fun x H1 => tb σ H1 fun y H2 => r x y H2 fun z H3 => ∃ k, z = .bl k ∧
  (if k = true then tc σ H3 fun w' H4 => r' y w' H4 fun z' H5 => ∃ k', z' = .bl k' ∧ (if k' = true then td σ H5 fun v' H6 => r'' w' v' H6 Q else Q (.bl false) H5) else Q (.bl false) H3)
theorem pe_chain3 {op op' op'' : CmpOp} {r r' r'' : R2} (ho : OpR X (compareOp op) r) (ho' : OpR X (compareOp op') r') (ho'' : OpR X (compareOp op'') r'') (ha : PE X a ta) (hb : PE X b tb) (hc : PE X c tc) (hd : PE X d td)
    (hm : lastMarks [op, op', op''] [b, c, d] = false := by with_unfolding_all rfl) : PE X (.Compare a [op, op', op''] [b, c, d] pos) (tChain3 r r' r'' ta tb tc td) := by
  refine ⟨fun pins s σ H Q I h => ?_⟩
  refine Compare_chain (thn (ha.run pins s σ H _ I h) fun v s1 ⟨x, H1, I1, r1, q1⟩ => chain_link (thn (hb.run pins s1 σ H1 _ I1 q1) fun u s2 ⟨y, H2, I2, r2, q2⟩ =>
    thn (ho pins s2 σ H2 x y v u _ I2 r1 r2 q2) fun d' s3 ⟨z, H3, I3, r3, k, e, q3⟩ => ?_)) hm
  subst e
  cases r3
  refine wpAny_truthy_bool ?_
  cases k with
  | false => exact ite_ff ⟨.bl false, H3, I3, rfl, q3⟩
  | true =>
    refine ite_tt (chain_link (thn (hc.run pins s3 σ H3 _ I3 q3) fun w' s4 ⟨y', H4, I4, r4, q4⟩ => thn (ho' pins s4 σ H4 y y' u w' _ I4 r2 r4 q4) fun d2 s5 ⟨z2, H5, I5, r5, k2, e2, q5⟩ => ?_))
    subst e2
    cases r5
    refine wpAny_truthy_bool ?_
    cases k2 with
    | false => exact ite_ff ⟨.bl false, H5, I5, rfl, q5⟩
    | true => exact ite_tt (chain_last (thn (hd.run pins s5 σ H5 _ I5 q5) fun w6 s6 ⟨z', H6, I6, r6, q6⟩ => ho'' pins s6 σ H6 y' z' w' w6 Q I6 r4 r6 q6))

/-! ### xs[::k] -/
theorem vals_some : ∀ {us : List Value} {xs : List V} {its : List Value}, Vals xs its → (∀ u ∈ us, u ∈ its) → ∃ ys : List V, Vals ys us ∧ ∀ y ∈ ys, y ∈ xs
  | [], _, _, _, _ => ⟨[], .nil, fun y h => nomatch h⟩
  | u :: us, xs, its, r, h => by
    obtain ⟨ys, ry, hy⟩ := vals_some (us := us) r fun u hu => h u (List.mem_cons_of_mem _ hu)
    obtain ⟨i, hi, ei⟩ := List.getElem_of_mem (h u List.mem_cons_self)
    have hl := r.length
    have hi2 : i < xs.length := by omega
    obtain ⟨u', e1, ru⟩ := Vals.get r (List.getElem?_eq_getElem hi2)
    rw [List.getElem?_eq_getElem hi, ei] at e1
    cases e1
    refine ⟨xs[i] :: ys, .cons ru ry, fun y hm => ?_⟩
    rcases List.mem_cons.mp hm with e | e
    · rw [e]
      exact List.getElem_mem hi2
    · exact hy y e
theorem slicePick_mem {items : Array Value} {lo hi st : Option Int} {u : Value} (h : u ∈ (slicePick items lo hi st).toList) : u ∈ items.toList := by
  unfold slicePick at h
  obtain ⟨i, _, e⟩ := List.mem_filterMap.mp h
  exact Array.mem_toList_iff.mpr (Array.mem_of_getElem? e)
def tStepL (K : PySem.W.Frag) (te ts : TE) : TE := fun σ H Q => te σ H fun x H1 => tPart ts σ H1 fun y H2 => ∃ a xs k, x = .ref a ∧ y = some k ∧ k ≠ 0 ∧ SqL K H2 a xs ∧ ∀ ys p, (∀ z ∈ ys, z ∈ xs) → H2 p = none → Q (.ref p) (upd H2 p (.lst ys))
theorem pe_stepL {p3 : Pos} (he : PE X e te) (hk : PE X c ts) : PE X (.Subscript e (.Slice none none (some c) p3) pos) (tStepL X.K te ts) := by
  refine ⟨fun pins s σ H Q I h => ?_⟩
  refine Subscript_ (thn (he.run pins s σ H _ I h) fun v s1 ⟨x, H1, I1, r1, q1⟩ => ?_)
  have hst : PO X (some c) (tPart ts) := po_some hk
  refine wpAny_Slice (thn (po_none.run pins s1 σ H1 (fun o H2 => o = none ∧ H2 = H1) I1 ⟨rfl, rfl⟩) fun vl s2 ⟨l, H2, I2, pl, el, e2⟩ => ?_)
  subst el e2
  refine thn (po_none.run pins s2 σ H2 (fun o H3 => o = none ∧ H3 = H2) I2 ⟨rfl, rfl⟩) fun vu s3 ⟨u, H3, I3, pu, eu, e3⟩ => ?_
  subst eu e3
  refine thn (hst.run pins s3 σ H3 _ I3 q1) fun vs s4 ⟨o, H4, I4, ps, a, xs, k, ex, eo, k0, hx, q⟩ => ?_
  subst ex eo
  cases r1
  have I5 : Inv X pins σ H4 { s4 with heap := s4.heap.push { cls := .type "slice", data := .fields #[vl, vu, vs] } } := I4.kept (t' := s4.toks) fun b ob q => Heap.get?_push_of_some _ q
  obtain ⟨its, r, ht, hz⟩ := I5.list hx
  have hlen := r.length
  show wpAny (model X.prog X.w) X.A (subscriptTail e (.Slice none none (some c) p3) (.ref a) (.ref s4.heap.objs.size)) (EP X pins σ Q) X.xe { s4 with heap := s4.heap.push { cls := .type "slice", data := .fields #[vl, vu, vs] } }
  refine tail_any (ops := [.ref a, .ref s4.heap.objs.size]) ht.isList.typeIs (PySem.slot_list_getitem.lookup) ?_ (by with_unfolding_all rfl)
  refine wpAny_getItem_list_slice ht.isList (Heap.IsSliceOf.new _ vl vu vs) pl pu ps (fun z => k0 (Option.some.inj z)) ?_ (by rw [List.size_toArray]; omega)
  obtain ⟨ys, ry, hy⟩ := vals_some (us := (slicePick its.toArray none none (some k)).toList) r fun u hu => slicePick_mem hu
  have hsz := slicePick_size_le its.toArray none none (some k)
  refine ⟨.ref _, _, I5.laid (t' := s4.toks) (o := .lst ys) (fun b ob q => Heap.get?_push_of_some _ q) (Nat.le_refl _) ?_, rfl, q ys _ hy (I5.hok.fresh (Nat.le_refl _))⟩
  refine ⟨?_, _, 0, ry, Heap.get?_push_size _ ?_⟩
  · have hl := ry.length
    have e1 : its.toArray.size = its.length := List.size_toArray ..
    have e2 : (slicePick its.toArray none none (some k)).toList.length = (slicePick its.toArray none none (some k)).size := Array.length_toList ..
    omega
  · rfl

/-! ### len(set(xs)) -/
def dlen (ns : List Int) : Nat := (firstMet (fun i => ns.getD i 0) ns.length).length
def tLenSet (K : PySem.W.Frag) (ta : TE) : TE := fun σ H Q => ta σ H fun x H1 => ∃ (l : Addr) (ns : List Int), x = .ref l ∧ SqL K H1 l (ns.map V.int) ∧ ns.length ≤ 4000 ∧ Q (.int (dlen ns : Nat)) H1
theorem pe_lenSet {p p2 q pos : Pos} (hg : Gl X "len") (hm : X.mg "len" = none) (hg2 : Gl X "set") (hm2 : X.mg "set" = none) (ha : PE X a ta) (hc : X.calm = true := by rfl)
    (na : starEach [a] X.env = (false, eval a X.env) :: starEach [] X.env := by rfl) : PE X (.Call (.Name "len" p) [.Call (.Name "set" p2) [a] [] q] [] pos) (tLenSet X.K ta) := by
  refine ⟨fun pins s σ H Q I h => ?_⟩
  refine Call_ (ld_blt I hg hm boot_len ?_)
  refine PyProof.Rows.callWith_builtin1 (PyProof.Rows.args_cons ?_ rfl) rfl rfl
  have bs : bootBuiltins "set" = some (.type "set") := by decide +kernel
  refine Call_ (ld_blt I hg2 hm2 bs ?_)
  refine PyProof.Rows.callWith_type1 (PyProof.Rows.args_cons (thn (ha.run pins s σ H _ I h) fun v s1 ⟨x, H1, I1, r1, q1⟩ => PyProof.Rows.args_nil ?_) na) na rfl
  obtain ⟨l, ns, rfl, hq, hl, q1⟩ := q1
  cases r1
  obtain ⟨its, r, pl, hz⟩ := I1.list hq
  have hlen : its.toArray.size = ns.length := by rw [List.size_toArray, ← r.length, List.length_map]
  refine call_set_list (I1.ok.hd hc) pl.isList (by simpa using RZ.intsAre_vals r) (by rw [hlen]; unfold scanBound; omega) fun h' tk hS hk => ?_
  refine PyProof.Rows.args_nil ?_
  rw [hlen] at hS
  have hfl := firstMet_length_le (fun i => ns.getD i 0) ns.length
  obtain ⟨o, es, ep, t, ho, hex, hd, _, _, _, hf, hn⟩ := hS
  have I2 : Inv X pins σ H1 { s1 with heap := h', toks := tk } := I1.kept fun b o e => hk b o (Heap.lt_size e) e
  exact call_len_set ho hex hd hf (by rw [hn]; omega) ⟨.int (dlen ns : Nat), H1, I2.tok _, ⟨_, by rw [hn]; rfl⟩, q1⟩
end
end Eg

set_option Elab.async false
set_option linter.all false
set_option maxRecDepth 100000
set_option maxHeartbeats 2000000
namespace Eg
open PySem PySem.Spec PyProof.Rows L2 Evl

structure Bi (mg : Str → Option Value) : Prop where
  len_ : mg "len" = none
  range_ : mg "range" = none
  isinstance_ : mg "isinstance" = none
  int_ : mg "int" = none
  bool_ : mg "bool" = none
  list_ : mg "list" = none
  tuple_ : mg "tuple" = none
  all_ : mg "all" = none
  min_ : mg "min" = none
  max_ : mg "max" = none
  sum_ : mg "sum" = none
  set_ : mg "set" = none
  sorted_ : mg "sorted" = none

/-! ### what stands behind an extension -/
theorem tyOf_mono {K : PySem.W.Frag} {H H' : Hp} {x : V} {t : Value} (e : Ex H H') (h : TyOf K H x t) : TyOf K H' x t := by
  cases h with
  | non => exact .non
  | bl x => exact .bl x
  | int i => exact .int i
  | str x => exact .str x
  | flt x => exact .flt x
  | lst h => exact .lst (e _ _ h)
  | frz h => exact .frz (e _ _ h)
  | tup h => exact .tup (e _ _ h)
  | dK h => exact .dK (e _ _ h)
  | dT h => exact .dT (e _ _ h)
  | ins h a b c d f => exact .ins (e _ _ h) a b c d f
theorem tyX_mono {K : PySem.W.Frag} {H H' : Hp} {x : V} {t : Value} (e : Ex H H') (h : TyX K H x t) : TyX K H' x t := by
  cases h with
  | base h => exact .base (tyOf_mono e h)
  | byt b => exact .byt b
  | set h => exact .set (e _ _ h)
  | kList h c => exact .kList h c
  | kTuple h c => exact .kTuple h c
  | kDict h c => exact .kDict h c
  | fTuple h => exact .fTuple (e _ _ h)
  | fDict h => exact .fDict (e _ _ h)
theorem tyX_l {K : PySem.W.Frag} {H : Hp} {a : Addr} {xs : List V} (h : SqL K H a xs) : TyX K H (.ref a) (.type "list") := by
  rcases h with (h | ⟨o, h⟩) | ⟨o, its, n, h, c, _⟩
  · exact .base (.lst h)
  · exact .base (.frz h)
  · exact .kList h c
theorem tyX_t {K : PySem.W.Frag} {H : Hp} {a : Addr} {xs : List V} (h : SqT K H a xs) : TyX K H (.ref a) (.type "tuple") := by
  rcases h with (h | ⟨o, h⟩) | ⟨o, its, n, h, c, _⟩
  · exact .base (.tup h)
  · exact .fTuple h
  · exact .kTuple h c
mutual
theorem dp_mono {K : PySem.W.Frag} {H H' : Hp} (e : Ex H H') : ∀ {v : V} {d : PyData}, Dp K H v d → Dp K H' v d
  | _, _, .non => .non
  | _, _, .bl b => .bl b
  | _, _, .int i => .int i
  | _, _, .str x => .str x
  | _, _, .lst h a => .lst (ex_l e h) (dpa_mono e a)
  | _, _, .tup h a => .tup (ex_t e h) (dpa_mono e a)
theorem dpa_mono {K : PySem.W.Frag} {H H' : Hp} (e : Ex H H') : ∀ {vs : List V} {ds : List PyData}, DpAll K H vs ds → DpAll K H' vs ds
  | _, _, .nil => .nil
  | _, _, .cons h a => .cons (dp_mono e h) (dpa_mono e a)
end
theorem dpa_app {K : PySem.W.Frag} {H : Hp} : ∀ {vs ws : List V} {ds es : List PyData}, DpAll K H vs ds → DpAll K H ws es → DpAll K H (vs ++ ws) (ds ++ es)
  | _, _, _, _, .nil, h => h
  | _, _, _, _, .cons a b, h => .cons a (dpa_app b h)
theorem dpa_len {K : PySem.W.Frag} {H : Hp} : ∀ {vs : List V} {ds : List PyData}, DpAll K H vs ds → vs.length = ds.length
  | _, _, .nil => rfl
  | _, _, .cons _ b => congrArg (· + 1) (dpa_len b)
theorem dpa_ints {K : PySem.W.Frag} {H : Hp} : ∀ (ns : List Int), DpAll K H (ns.map V.int) (ns.map PyData.int)
  | [] => .nil
  | n :: ns => .cons (.int n) (dpa_ints ns)
theorem dpa_mem {K : PySem.W.Frag} {H : Hp} : ∀ {vs : List V} {ds : List PyData}, DpAll K H vs ds → ∀ v ∈ vs, ∃ d ∈ ds, Dp K H v d
  | _, _, .nil, v, h => nomatch h
  | _, _, .cons a b, v, h => by
    rcases List.mem_cons.mp h with e | e
    · rw [e]
      exact ⟨_, List.mem_cons_self, a⟩
    · obtain ⟨d, hd, q⟩ := dpa_mem b v e
      exact ⟨d, List.mem_cons_of_mem _ hd, q⟩
theorem can_all : ∀ {ds : List PyData}, (∀ d ∈ ds, d.canLay0 = true) → PyData.canLayAll0 ds = true
  | [], _ => by simp only [PyData.canLayAll0]
  | d :: ds, h => by
    simp only [PyData.canLayAll0, Bool.and_eq_true]
    exact ⟨h d List.mem_cons_self, can_all fun e he => h e (List.mem_cons_of_mem _ he)⟩
theorem depth_all {k : Nat} : ∀ {ds : List PyData}, (∀ d ∈ ds, d.depth ≤ k) → PyData.depthAll ds ≤ k
  | [], _ => by simp only [PyData.depthAll]; exact Nat.zero_le _
  | d :: ds, h => by
    simp only [PyData.depthAll]
    exact Nat.max_le.mpr ⟨h d List.mem_cons_self, depth_all fun e he => h e (List.mem_cons_of_mem _ he)⟩
/-- data that may be laid, at most k deep -/
def Lay (k : Nat) (d : PyData) : Prop := d.canLay0 = true ∧ d.depth ≤ k
theorem lay_int (i : Int) : Lay 0 (.int i) := ⟨by simp only [PyData.canLay0], by simp only [PyData.depth]; exact Nat.zero_le _⟩
theorem lay_list {k : Nat} {ds : List PyData} (h : ∀ d ∈ ds, Lay k d) : Lay (k + 1) (.list ds) :=
  ⟨by simp only [PyData.canLay0]; exact can_all fun d hd => (h d hd).1, by simp only [PyData.depth]; exact Nat.succ_le_succ (depth_all fun d hd => (h d hd).2)⟩
theorem lay_tup {k : Nat} {ds : List PyData} (h : ∀ d ∈ ds, Lay k d) : Lay (k + 1) (.tuple ds) :=
  ⟨by simp only [PyData.canLay0]; exact can_all fun d hd => (h d hd).1, by simp only [PyData.depth]; exact Nat.succ_le_succ (depth_all fun d hd => (h d hd).2)⟩
theorem Lay.shaped {k : Nat} {d : PyData} (h : Lay k d) (l : k ≤ 64 := by decide) : SeqAt.shaped d = true := (Bool.and_eq_true _ _).mpr ⟨h.1, decide_eq_true (Nat.le_trans h.2 l)⟩
theorem lay_ints (ns : List Int) : Lay 1 (.list (ns.map PyData.int)) := lay_list fun d hd => by
  obtain ⟨n, _, rfl⟩ := List.mem_map.mp hd
  exact lay_int n

section
variable {K : PySem.W.Frag} {σ : L2.St} {H H' : Hp} {ta tb tc td te tx : TE} {t u : TT} {x y z v : V} {r : R2} {i j k l : Int}
theorem ev_isi {b : Bool} {n : String} {ty : Value} (ha : Ev ta σ H x) (hb : Ev tb σ H (.ty n)) (hx : TyX K H x ty) (hk : PySem.W.kitOne K ty (.type n) = some b) : Ev (tCB (rIsi K) (tCons ta (tCons tb tNil))) σ H (.bl b) := fun H1 e Q q =>
  ha H1 e _ fun H2 e2 => hb H2 (e.trans e2) _ fun H3 e3 => ⟨x, .ty n, ty, _, b, rfl, .ty n, tyX_mono ((e.trans e2).trans e3) hx, hk, q H3 (e2.trans e3)⟩
theorem ev_int1 (ha : Ev ta σ H (.int i)) (hb : Ev tb σ H (.ty "int")) : Ev (tCB (rIsi K) (tCons ta (tCons tb tNil))) σ H (.bl true) := ev_isi ha hb (.base (.int i)) (kit_ty (by decide +kernel))
theorem ev_int2 (ha : Ev ta σ H (.int i)) (hb : Ev tb σ H (.ty "bool")) : Ev (tCB (rIsi K) (tCons ta (tCons tb tNil))) σ H (.bl false) := ev_isi ha hb (.base (.int i)) (kit_ty (by decide +kernel))
theorem ev_bl2 {c : Bool} (ha : Ev ta σ H (.bl c)) (hb : Ev tb σ H (.ty "bool")) : Ev (tCB (rIsi K) (tCons ta (tCons tb tNil))) σ H (.bl true) := ev_isi ha hb (.base (.bl c)) (kit_ty (by decide +kernel))
theorem ev_isl {p : Addr} {xs : List V} (ha : Ev ta σ H (.ref p)) (hb : Ev tb σ H (.ty "list")) (h : SqL K H p xs) : Ev (tCB (rIsi K) (tCons ta (tCons tb tNil))) σ H (.bl true) := ev_isi ha hb (tyX_l h) (kit_ty (by decide +kernel))
theorem ev_ist {p : Addr} {xs : List V} (ha : Ev ta σ H (.ref p)) (hb : Ev tb σ H (.ty "tuple")) (h : SqT K H p xs) : Ev (tCB (rIsi K) (tCons ta (tCons tb tNil))) σ H (.bl true) := ev_isi ha hb (tyX_t h) (kit_ty (by decide +kernel))

theorem ev_add (ha : Ev ta σ H (.int i)) (hb : Ev tb σ H (.int j)) : Ev (tOp (rI0 fun i j => .int (i + j)) ta tb) σ H (.int (i + j)) := ev_op ha hb rv_I0
theorem ev_sub (ha : Ev ta σ H (.int i)) (hb : Ev tb σ H (.int j)) : Ev (tOp (rI0 fun i j => .int (i - j)) ta tb) σ H (.int (i - j)) := ev_op ha hb rv_I0
theorem ev_mul (ha : Ev ta σ H (.int i)) (hb : Ev tb σ H (.int j)) (h : IntMulOk i j) : Ev (tOp (rI IntMulOk fun i j => .int (i * j)) ta tb) σ H (.int (i * j)) := ev_op ha hb (rv_I h)
theorem ev_fdiv (ha : Ev ta σ H (.int i)) (hb : Ev tb σ H (.int j)) (h : 0 < j ∧ j < 1073741824) : Ev (tOp (rI CDiv fun i j => .int (i / j)) ta tb) σ H (.int (i / j)) := ev_op ha hb (rv_I h)
theorem ev_mod (ha : Ev ta σ H (.int i)) (hb : Ev tb σ H (.int j)) (h : 0 < j) : Ev (tOp (rI (fun _ j => 0 < j) fun i j => .int (i % j)) ta tb) σ H (.int (i % j)) := ev_op ha hb (rv_I h)
theorem ev_shr (ha : Ev ta σ H (.int i)) (hb : Ev tb σ H (.int j)) (h : 0 ≤ j) : Ev (tOp (rI (fun _ j => 0 ≤ j) fun i j => .int (i / 2 ^ j.toNat)) ta tb) σ H (.int (i / 2 ^ j.toNat)) := ev_op ha hb (rv_I h)
theorem ev_pow (ha : Ev ta σ H (.int i)) (hb : Ev tb σ H (.int j)) (h : CPow i j) : Ev (tOp (rI CPow fun i j => .int (i ^ j.toNat)) ta tb) σ H (.int (i ^ j.toNat)) := ev_op ha hb (rv_I h)
theorem ev_lt (ha : Ev ta σ H (.int i)) (hb : Ev tb σ H (.int j)) : Ev (tOp (rI0 fun i j => .bl (decide (i < j))) ta tb) σ H (.bl (decide (i < j))) := ev_op ha hb rv_I0
theorem ev_le (ha : Ev ta σ H (.int i)) (hb : Ev tb σ H (.int j)) : Ev (tOp (rI0 fun i j => .bl (decide (i ≤ j))) ta tb) σ H (.bl (decide (i ≤ j))) := ev_op ha hb rv_I0
theorem ev_gt (ha : Ev ta σ H (.int i)) (hb : Ev tb σ H (.int j)) : Ev (tOp (rI0 fun i j => .bl (decide (j < i))) ta tb) σ H (.bl (decide (j < i))) := ev_op ha hb rv_I0
theorem ev_ge (ha : Ev ta σ H (.int i)) (hb : Ev tb σ H (.int j)) : Ev (tOp (rI0 fun i j => .bl (decide (j ≤ i))) ta tb) σ H (.bl (decide (j ≤ i))) := ev_op ha hb rv_I0
theorem ev_eqI (ha : Ev ta σ H (.int i)) (hb : Ev tb σ H (.int j)) : Ev (tOp rEq ta tb) σ H (.bl (decide (i = j))) := by
  have h := ev_op (r := rEq) ha hb (rv_eq rfl)
  rw [show decide (V.int i = V.int j) = decide (i = j) from decide_eq_decide.mpr ⟨fun e => V.int.inj e, fun e => by rw [e]⟩] at h
  exact h
theorem ev_neI (ha : Ev ta σ H (.int i)) (hb : Ev tb σ H (.int j)) : Ev (tOp rNe ta tb) σ H (.bl (!decide (i = j))) := by
  have h := ev_op (r := rNe) ha hb (rv_ne rfl)
  rw [show decide (V.int i = V.int j) = decide (i = j) from decide_eq_decide.mpr ⟨fun e => V.int.inj e, fun e => by rw [e]⟩] at h
  exact h
theorem ev_eqB {b c : Bool} (ha : Ev ta σ H (.bl b)) (hb : Ev tb σ H (.bl c)) : Ev (tOp rEq ta tb) σ H (.bl (b == c)) := by
  have h := ev_op (r := rEq) ha hb (rv_eq rfl)
  rw [dec_bl] at h
  exact h
theorem ev_ixL {p : Addr} {xs : List V} (ha : Ev ta σ H (.ref p)) (hb : Ev tb σ H (.int i)) (h : SqL K H p xs) (hv : atI xs i = some v) : Ev (tOp (rIxL K) ta tb) σ H v := ev_op ha hb (rv_ixL h hv)
theorem ev_ixT {p : Addr} {xs : List V} (ha : Ev ta σ H (.ref p)) (hb : Ev tb σ H (.int i)) (h : SqT K H p xs) (hv : atI xs i = some v) : Ev (tOp (rIxT K) ta tb) σ H v := ev_op ha hb (rv_ixT h hv)
theorem ev_lenL {p : Addr} {xs : List V} (ha : Ev ta σ H (.ref p)) (h : SqL K H p xs) : Ev (tCB (fun xs H Q => ∃ p ys, xs = [.ref p] ∧ (SqL K H p ys ∨ SqT K H p ys) ∧ Q (.int ys.length) H) (tCons ta tNil)) σ H (.int (xs.length : Int)) := ev_len ha h
theorem ev_lenT {p : Addr} {xs : List V} (ha : Ev ta σ H (.ref p)) (h : SqT K H p xs) : Ev (tCB (fun xs H Q => ∃ p ys, xs = [.ref p] ∧ (SqL K H p ys ∨ SqT K H p ys) ∧ Q (.int ys.length) H) (tCons ta tNil)) σ H (.int (xs.length : Int)) := fun H1 e Q q =>
  ha H1 e _ fun H2 e2 => ⟨p, xs, rfl, Or.inr (ex_t (e.trans e2) h), q H2 e2⟩
theorem ev_chain {r r' : R2} {b c : Bool} (ha : Ev ta σ H x) (hb : Ev tb σ H y) (hc : Ev tc σ H z) (h1 : RV r x y H (.bl b)) (h2 : b = true → RV r' y z H (.bl c)) : Ev (tChain r r' ta tb tc) σ H (.bl (b && c)) := fun H1 e Q q =>
  ha H1 e _ fun H2 e2 => hb H2 (e.trans e2) _ fun H3 e3 => h1 H3 ((e.trans e2).trans e3) _ fun H4 e4 => ⟨b, rfl, by
    cases b with
    | true =>
      show tc σ H4 _
      exact hc H4 (((e.trans e2).trans e3).trans e4) _ fun H5 e5 => h2 rfl H5 ((((e.trans e2).trans e3).trans e4).trans e5) _ fun H6 e6 => q H6 ((((e2.trans e3).trans e4).trans e5).trans e6)
    | false =>
      show Q (.bl false) H4
      exact q H4 ((e2.trans e3).trans e4)⟩
theorem ev_chain3 {r r' r'' : R2} {b c d : Bool} {z' : V} (ha : Ev ta σ H x) (hb : Ev tb σ H y) (hc : Ev tc σ H z) (hd : Ev td σ H z') (h1 : RV r x y H (.bl b)) (h2 : RV r' y z H (.bl c)) (h3 : RV r'' z z' H (.bl d)) : Ev (tChain3 r r' r'' ta tb tc td) σ H (.bl (b && (c && d))) := fun H1 e Q q =>
  ha H1 e _ fun H2 e2 => hb H2 (e.trans e2) _ fun H3 e3 => h1 H3 ((e.trans e2).trans e3) _ fun H4 e4 => ⟨b, rfl, by
    cases b with
    | true =>
      show tc σ H4 _
      refine hc H4 (((e.trans e2).trans e3).trans e4) _ fun H5 e5 => h2 H5 ((((e.trans e2).trans e3).trans e4).trans e5) _ fun H6 e6 => ⟨c, rfl, ?_⟩
      cases c with
      | true =>
        show td σ H6 _
        exact hd H6 (((((e.trans e2).trans e3).trans e4).trans e5).trans e6) _ fun H7 e7 => h3 H7 ((((((e.trans e2).trans e3).trans e4).trans e5).trans e6).trans e7) _ fun H8 e8 => q H8 ((((((e2.trans e3).trans e4).trans e5).trans e6).trans e7).trans e8)
      | false =>
        show Q (.bl false) H6
        exact q H6 ((((e2.trans e3).trans e4).trans e5).trans e6)
    | false =>
      show Q (.bl false) H4
      exact q H4 ((e2.trans e3).trans e4)⟩
theorem ev_call1 {sp : Sp} {E : XK} {vs : List V} {t : TA} (h : EvA t σ H vs) (hs : SpV sp vs H z) : Ev (tCall sp [] E t) σ H z := ev_call h (by rw [List.append_nil]; exact hs)

/-! ### what makes a new object, told by R of its address -/
def TrN (te : TE) (σ : L2.St) (H : Hp) (R : Addr → Hp → Prop) : Prop := ∀ H1, Ex H H1 → ∀ Q : VK, (∀ p H2, H1 p = none → Ex H1 H2 → R p H2 → Q (.ref p) H2) → te σ H1 Q
def SpN (sp : Sp) (vs : List V) (H : Hp) (R : Addr → Hp → Prop) : Prop := ∀ H1, Ex H H1 → ∀ Q : VK, (∀ p H2, H1 p = none → Ex H1 H2 → R p H2 → Q (.ref p) H2) → ∀ E : XK, sp vs H1 Q E
/-- some value that R tells -/
def TrV (te : TE) (σ : L2.St) (H : Hp) (R : V → Prop) : Prop := ∀ H1, Ex H H1 → ∀ Q : VK, (∀ v H2, Ex H1 H2 → R v → Q v H2) → te σ H1 Q
theorem tn_call {sp : Sp} {E : XK} {vs : List V} {t : TA} {R : Addr → Hp → Prop} (h : EvA t σ H vs) (hs : SpN sp vs H R) : TrN (tCall sp [] E t) σ H R := fun H1 e Q q =>
  h H1 e _ fun H2 e2 => by
    show sp (vs ++ []) H2 Q E
    rw [List.append_nil]
    exact hs H2 (e.trans e2) Q (fun p H3 hp e3 h3 => q p H3 (fresh_back e2 hp) (e2.trans e3) h3) E
theorem TrN.imp {R R' : Addr → Hp → Prop} (h : TrN te σ H R) (k : ∀ p H', R p H' → R' p H') : TrN te σ H R' := fun H1 e Q q => h H1 e Q fun p H2 hp e2 r => q p H2 hp e2 (k p H2 r)
theorem TrN.mono {R : Addr → Hp → Prop} (e : Ex H H') (h : TrN te σ H R) : TrN te σ H' R := fun H1 a Q q => h H1 (e.trans a) Q q
def IsL (K : PySem.W.Frag) (ds : List PyData) (p : Addr) (H : Hp) : Prop := ∃ rs, H p = some (.lst rs) ∧ DpAll K H rs ds
variable {D : Ends} {tz tu : TS} {R : Addr → Hp → Prop}
theorem s_asgN {i : Nat} (h : TrN te σ H R) (k : ∀ p H1, H p = none → Ex H H1 → R p H1 → D.nx (σ.set i (some (.ref p))) H1) : tAsg te (gName i) D σ H := h H (Ex.refl H) _ fun p H1 hp e r => k p H1 hp e r
theorem q_asgN {i : Nat} (h : TrN te σ H R) (k : ∀ p H1, H p = none → Ex H H1 → R p H1 → tz D (σ.set i (some (.ref p))) H1) : tSeq (tAsg te (gName i)) tz D σ H := s_asgN (D := { D with nx := tz D }) h k
theorem s_retN {R : Addr → Hp → Prop} (h : TrN te σ H R) (k : ∀ p H1, H p = none → Ex H H1 → R p H1 → D.rt (.ref p) H1) : tRet te D σ H := h H (Ex.refl H) _ k
theorem q_asgV {i : Nat} {R : V → Prop} (h : TrV te σ H R) (k : ∀ v H1, Ex H H1 → R v → tz D (σ.set i (some v)) H1) : tSeq (tAsg te (gName i)) tz D σ H := h H (Ex.refl H) _ fun v H1 e r => k v H1 e r
/-- an item of a tuple that is made on the way -/
theorem ev_ixU {xs : List V} (ha : EvU ta σ H xs) (hb : ∀ H1, Ex H H1 → Ev tb σ H1 (.int i)) (hv : atI xs i = some v) : Ev (tOp (rIxT K) ta tb) σ H v := fun H1 e Q q =>
  ha H1 e _ fun p H2 _ e2 hp => hb H2 (e.trans e2) H2 (Ex.refl H2) _ fun H3 e3 => ⟨p, xs, i, v, rfl, rfl, SqT.of (e3 p _ hp), hv, q H3 (e2.trans e3)⟩
theorem q_par {i j : Nat} {ta : TA} {v w : V} {D : Ends} {tz : TS} (h : EvA ta σ H [v, w]) (k : ∀ H1, Ex H H1 → tz D ((σ.set i (some v)).set j (some w)) H1) : tSeq (tPar i j ta) tz D σ H :=
  h H (Ex.refl H) _ fun H1 e => ⟨v, w, rfl, k H1 e⟩
theorem ev_min2 {i j : Int} (ha : Ev ta σ H (.int i)) (hb : Ev tb σ H (.int j)) : Ev (tCB (fun xs H Q => ∃ i j, xs = [.int i, .int j] ∧ Q (.int (if j < i then j else i)) H) (tCons ta (tCons tb tNil))) σ H (.int (if j < i then j else i)) := fun H1 e Q q =>
  ha H1 e _ fun H2 e2 => hb H2 (e.trans e2) _ fun H3 e3 => ⟨i, j, rfl, q H3 (e2.trans e3)⟩
theorem q_unpack2 {i j : Nat} {p : Addr} {v w : V} {D : Ends} {tz : TS} (h : Ev te σ H (.ref p)) (ht : SqT K H p [v, w]) (k : ∀ H1, Ex H H1 → tz D ((σ.set i (some v)).set j (some w)) H1) : tSeq (tAsg te (gTup K 2 (gCons (gName i) (gCons (gName j) gNil)))) tz D σ H :=
  h H (Ex.refl H) _ fun H1 e => ⟨p, [v, w], rfl, ex_t e ht, rfl, v, [w], rfl, w, [], rfl, rfl, k H1 e⟩
theorem ev_all {bs : List Bool} (h : EvL te σ H (bs.map V.bl)) : Ev (tCB (rAll K) (tCons te tNil)) σ H (.bl (bs.all id)) := fun H1 e Q q =>
  h H1 e _ fun p H2 _ e2 h2 => ⟨p, bs, rfl, SqL.of h2, q H2 e2⟩
theorem et_yes : EvT tYes σ H true := fun H1 _ _ q => q H1 (Ex.refl H1)
/-- any walk over a range, by a word of the turn -/
theorem walk_rng {lo : Int} {n : Nat} {H0 : Hp} {Qd : Hp → Prop} {BODY : V → Hp → (Hp → Prop) → Prop} (Pv : Nat → Hp → Prop) (h0 : Pv 0 H0) (hs : ∀ i H, i < n → Pv i H → BODY (.int (lo + i)) H (Pv (i + 1))) (hd : ∀ H, Pv n H → Qd H) :
    ∃ W : Nat → Nat → Hp → Prop, (∃ m, W 0 m H0) ∧ ∀ i m H, W i m H →
      ((Itr lo n).stop i H ∧ Qd H) ∨ ((Itr lo n).go i H ∧ ∃ Nx : Hp → Prop, (∀ H', Nx H' → ∃ m', m' < m ∧ W (i + 1) m' H') ∧ ∀ x H', (Itr lo n).yld i H x H' → BODY x H' Nx) := by
  refine ⟨fun i m H => m = n - i ∧ i ≤ n ∧ Pv i H, ⟨n, by simp, Nat.zero_le _, h0⟩, ?_⟩
  rintro i m H ⟨rfl, hi, p⟩
  by_cases hlt : i < n
  · refine .inr ⟨hlt, Pv (i + 1), fun H' p' => ⟨n - (i + 1), by omega, rfl, hlt, p'⟩, fun x H' y => ?_⟩
    obtain ⟨e, y⟩ := y
    subst e y
    exact hs i _ hlt p
  · have e : i = n := by omega
    subst e
    exact .inl ⟨Nat.le_refl _, hd H p⟩
theorem given_all (n : Nat) (b : Bool) : given n (fun _ => true) (fun _ => V.bl b) = (List.replicate n b).map V.bl := by
  unfold given
  rw [List.filter_eq_self.mpr (fun _ _ => rfl), List.map_replicate]
  have : ∀ (l : List Nat), l.map (fun _ => V.bl b) = List.replicate l.length (V.bl b) := fun l => by
    rw [List.map_const']
  rw [this, List.length_range]
end
/-! ### rules whose reading names the written part by itself (within comprehensions) -/
section
variable {X : Cx} {K : PySem.W.Frag}
theorem ix_list_K (h : X.K = K := by rfl) : IxR X (rIxL K) := by subst h; exact ix_list
theorem ix_tup_K (h : X.K = K := by rfl) : IxR X (rIxT K) := by subst h; exact ix_tup
theorem pi_list_K {tg l : Expr} {tl : TE} (hl : PE X l tl) (h : X.K = K := by rfl) : PI X tg l (iList K tl) := by subst h; exact pi_list hl
theorem pi_tup_K {tg l : Expr} {tl : TE} (hl : PE X l tl) (h : X.K = K := by rfl) : PI X tg l (iTup K tl) := by subst h; exact pi_tup hl
theorem call_isi_K (h : X.K = K := by rfl) : CallR X (.builtin "isinstance") (rIsi K) := by subst h; exact call_isi
theorem call_len_seq_K (h : X.K = K := by rfl) : CallR X (.builtin "len") (fun xs H Q => ∃ p ys, xs = [.ref p] ∧ (SqL K H p ys ∨ SqT K H p ys) ∧ Q (.int ys.length) H) := by subst h; exact call_len_seq
theorem cr_sum_K (hc : X.calm = true) (h : X.K = K := by rfl) : CallR X (.builtin "sum") (rSum K) := by subst h; exact cr_sum hc
theorem cr_all_K (hc : X.calm = true) (h : X.K = K := by rfl) : CallR X (.builtin "all") (rAll K) := by subst h; exact cr_all hc
theorem cr_any_K (hc : X.calm = true) (h : X.K = K := by rfl) : CallR X (.builtin "any") (rAny K) := by subst h; exact cr_any hc
theorem op_eqD_K (hu : X.A.units + 64 < cLine) (h : X.K = K := by rfl) : OpR X (compareOp .Eq) (rEqD K) := by subst h; exact op_eqD hu
theorem op_neD_K (hu : X.A.units + 64 < cLine) (h : X.K = K := by rfl) : OpR X (compareOp .NotEq) (rNeD K) := by subst h; exact op_neD hu
end
end Eg

set_option Elab.async false
set_option linter.all false
set_option maxRecDepth 100000
set_option maxHeartbeats 2000000
namespace Eg
open PySem PySem.Spec PyProof.Rows L2 Evl
/-! # the mathematics of rows: which pairs can be evened, in order; the row behind; what falls -/
def okP (ns : List Int) (i j : Nat) : Bool := !decide (ns.getD i 0 = ns.getD j 0) && decide ((ns.getD i 0 + ns.getD j 0) % 2 = 0)
def rowC (ns : List Int) (i m : Nat) : List (Nat × Nat) := (((List.range m).map (· + (i + 1))).filter (okP ns i)).map fun j => (i, j)
def canUp (ns : List Int) (i : Nat) : List (Nat × Nat) := (List.range i).flatMap fun i => rowC ns i (ns.length - (i + 1))
def canL (ns : List Int) : List (Nat × Nat) := canUp ns ns.length
def lawRow (ns : List Int) (j m : Nat) : List (Nat × Nat) := ((List.range m).filter fun i => okP ns i j).map fun i => (i, j)
def lawUp (ns : List Int) (j : Nat) : List (Nat × Nat) := (List.range j).flatMap fun j => lawRow ns j j
theorem rowC_yes {ns : List Int} {i m : Nat} (h : okP ns i (m + (i + 1)) = true) : rowC ns i (m + 1) = rowC ns i m ++ [(i, m + (i + 1))] := by
  unfold rowC
  rw [List.range_succ, List.map_append, List.filter_append, List.map_append]
  simp [h]
theorem rowC_no {ns : List Int} {i m : Nat} (h : okP ns i (m + (i + 1)) = false) : rowC ns i (m + 1) = rowC ns i m := by
  unfold rowC
  rw [List.range_succ, List.map_append, List.filter_append, List.map_append]
  simp [h]
theorem canUp_succ (ns : List Int) (i : Nat) : canUp ns (i + 1) = canUp ns i ++ rowC ns i (ns.length - (i + 1)) := by
  unfold canUp
  rw [List.range_succ, List.flatMap_append]
  simp
theorem lawRow_yes {ns : List Int} {j m : Nat} (h : okP ns m j = true) : lawRow ns j (m + 1) = lawRow ns j m ++ [(m, j)] := by
  unfold lawRow
  rw [List.range_succ, List.filter_append, List.map_append]
  simp [h]
theorem lawRow_no {ns : List Int} {j m : Nat} (h : okP ns m j = false) : lawRow ns j (m + 1) = lawRow ns j m := by
  unfold lawRow
  rw [List.range_succ, List.filter_append, List.map_append]
  simp [h]
theorem lawUp_succ (ns : List Int) (j : Nat) : lawUp ns (j + 1) = lawUp ns j ++ lawRow ns j j := by
  unfold lawUp
  rw [List.range_succ, List.flatMap_append]
  simp
theorem mem_rowC {ns : List Int} {i m : Nat} {p : Nat × Nat} : p ∈ rowC ns i m ↔ p.1 = i ∧ i < p.2 ∧ p.2 < m + (i + 1) ∧ okP ns i p.2 = true := by
  unfold rowC
  simp only [List.mem_map, List.mem_filter, List.mem_range]
  constructor
  · rintro ⟨j, ⟨⟨t, ht, rfl⟩, hj⟩, rfl⟩
    exact ⟨rfl, by show i < t + (i + 1); omega, by show t + (i + 1) < m + (i + 1); omega, hj⟩
  · rintro ⟨h1, h2, h3, h4⟩
    exact ⟨p.2, ⟨⟨p.2 - (i + 1), by omega, by omega⟩, h4⟩, by rw [← h1]⟩
theorem mem_canL {ns : List Int} {p : Nat × Nat} : p ∈ canL ns ↔ p.1 < p.2 ∧ p.2 < ns.length ∧ okP ns p.1 p.2 = true := by
  unfold canL canUp
  simp only [List.mem_flatMap, List.mem_range]
  constructor
  · rintro ⟨i, hi, h⟩
    obtain ⟨h1, h2, h3, h4⟩ := mem_rowC.mp h
    subst h1
    exact ⟨h2, by omega, h4⟩
  · rintro ⟨h1, h2, h3⟩
    exact ⟨p.1, by omega, mem_rowC.mpr ⟨rfl, h1, by omega, h3⟩⟩
theorem mem_lawUp {ns : List Int} {n : Nat} {p : Nat × Nat} : p ∈ lawUp ns n ↔ p.1 < p.2 ∧ p.2 < n ∧ okP ns p.1 p.2 = true := by
  unfold lawUp lawRow
  simp only [List.mem_flatMap, List.mem_range, List.mem_map, List.mem_filter]
  constructor
  · rintro ⟨j, hj, i, ⟨hi, ho⟩, rfl⟩
    exact ⟨hi, hj, ho⟩
  · rintro ⟨h1, h2, h3⟩
    exact ⟨p.2, h2, p.1, ⟨h1, h3⟩, rfl⟩
def PL (p q : Nat × Nat) : Prop := p.1 < q.1 ∨ (p.1 = q.1 ∧ p.2 < q.2)
theorem range_lt (n : Nat) : (List.range n).Pairwise (· < ·) := List.pairwise_lt_range
theorem canL_sorted (ns : List Int) : (canL ns).Pairwise PL := by
  unfold canL canUp
  refine List.pairwise_flatMap.mpr ⟨fun i _ => ?_, ?_⟩
  · unfold rowC
    refine List.pairwise_map.mpr ?_
    refine List.Pairwise.filter _ ?_
    refine List.pairwise_map.mpr ?_
    exact (range_lt _).imp fun h => .inr ⟨rfl, by omega⟩
  · refine (range_lt _).imp fun {a b} h x hx y hy => ?_
    obtain ⟨h1, _⟩ := mem_rowC.mp hx
    obtain ⟨h2, _⟩ := mem_rowC.mp hy
    exact .inl (by omega)
theorem lawUp_nodup (ns : List Int) (n : Nat) : (lawUp ns n).Nodup := by
  unfold lawUp
  refine List.pairwise_flatMap.mpr ⟨fun j _ => ?_, ?_⟩
  · unfold lawRow
    refine List.pairwise_map.mpr ?_
    refine List.Pairwise.filter _ ?_
    exact (range_lt _).imp fun {a b} h e => by
      have := congrArg Prod.fst e
      simp at this
      omega
  · refine (range_lt _).imp fun {a b} h x hx y hy e => ?_
    subst e
    unfold lawRow at hx hy
    obtain ⟨_, _, rfl⟩ := List.mem_map.mp hx
    obtain ⟨_, _, e⟩ := List.mem_map.mp hy
    have := congrArg Prod.snd e
    simp at this
    omega
theorem sorted_ext : ∀ {l m : List (Nat × Nat)}, l.Pairwise PL → m.Pairwise PL → (∀ p, p ∈ l ↔ p ∈ m) → l = m
  | [], [], _, _, _ => rfl
  | [], b :: m, _, _, h => by have := (h b).mpr List.mem_cons_self; simp at this
  | a :: l, [], _, _, h => by have := (h a).mp List.mem_cons_self; simp at this
  | a :: l, b :: m, hl, hm, h => by
    have h1 := List.pairwise_cons.mp hl
    have h2 := List.pairwise_cons.mp hm
    have irr : ∀ p, ¬ PL p p := fun p z => by rcases z with z | ⟨_, z⟩ <;> omega
    have asy : ∀ p q, PL p q → ¬ PL q p := fun p q z w => by rcases z with z | ⟨z1, z⟩ <;> rcases w with w | ⟨w1, w⟩ <;> omega
    have e : a = b := by
      rcases List.mem_cons.mp ((h a).mp List.mem_cons_self) with e | e
      · exact e
      · rcases List.mem_cons.mp ((h b).mpr List.mem_cons_self) with f | f
        · exact f.symm
        · exact absurd (h1.1 b f) (asy _ _ (h2.1 a e))
    subst e
    have : l = m := sorted_ext h1.2 h2.2 fun p => by
      constructor
      · intro hp
        rcases List.mem_cons.mp ((h p).mp (List.mem_cons_of_mem _ hp)) with e | e
        · rw [e] at hp
          exact absurd (h1.1 a hp) (irr a)
        · exact e
      · intro hp
        rcases List.mem_cons.mp ((h p).mpr (List.mem_cons_of_mem _ hp)) with e | e
        · rw [e] at hp
          exact absurd (h2.1 a hp) (irr a)
        · exact e
    rw [this]
/-- what the law's own sorted list is -/
theorem law_sorted {ns : List Int} {ps : List (Nat × Nat)} (h : ps.Perm (lawUp ns ns.length)) (hs : ps.Pairwise fun x y => ¬ PL y x) : ps = canL ns := by
  have nd : ps.Nodup := h.nodup_iff.mpr (lawUp_nodup ns ns.length)
  refine sorted_ext ?_ (canL_sorted ns) fun p => ?_
  · refine List.Pairwise.imp₂ (R := fun x y => ¬ PL y x) (S := fun x y => x ≠ y) (fun a b h1 h2 => ?_) hs nd
    by_cases e1 : a.1 < b.1
    · exact .inl e1
    · by_cases e2 : a.1 = b.1 ∧ a.2 < b.2
      · exact .inr e2
      · exfalso
        by_cases e3 : a.1 = b.1
        · by_cases e4 : a.2 = b.2
          · exact h2 (Prod.ext e3 e4)
          · exact h1 (.inr ⟨e3.symm, by omega⟩)
        · exact h1 (.inl (by omega))
  · rw [h.mem_iff, mem_lawUp, mem_canL]

/-! ### the row behind an evening -/
def halfL (ns : List Int) (i j : Nat) : Int := (ns.getD i 0 + ns.getD j 0) / 2
def evL (ns : List Int) (i j : Nat) : List Int := (ns.set i (halfL ns i j)).set j (halfL ns i j)
theorem gD_at {ns : List Int} {i : Nat} (h : i < ns.length) : ns[i]? = some (ns.getD i 0) := by
  rw [List.getD_eq_getElem?_getD, List.getElem?_eq_getElem h]
  rfl
theorem okP_iff {ns : List Int} {i j : Nat} : okP ns i j = true ↔ ns.getD i 0 ≠ ns.getD j 0 ∧ (ns.getD i 0 + ns.getD j 0) % 2 = 0 := by
  unfold okP
  rw [Bool.and_eq_true, Bool.not_eq_true', decide_eq_false_iff_not, decide_eq_true_iff]
def sqs (ns : List Int) : Int := (ns.map fun x => x * x).sum
theorem sqs_set {ns : List Int} {i : Nat} {y : Int} (h : i < ns.length) : sqs (ns.set i y) = sqs ns - ns.getD i 0 * ns.getD i 0 + y * y := by
  unfold sqs
  rw [List.map_set]
  refine sum_set (z := ns.getD i 0 * ns.getD i 0) ?_
  rw [List.getElem?_map, gD_at h]
  rfl
theorem fall_is {ns : List Int} {i j : Nat} (hij : i < j) (hj : j < ns.length) (ok : okP ns i j = true) :
    sqs ns - sqs (evL ns i j) = (ns.getD j 0 - ns.getD i 0) * (ns.getD j 0 - ns.getD i 0) / 2 ∧ 1 ≤ (ns.getD j 0 - ns.getD i 0) * (ns.getD j 0 - ns.getD i 0) / 2 := by
  obtain ⟨hne, he⟩ := okP_iff.mp ok
  unfold evL
  rw [sqs_set (by rw [List.length_set]; exact hj), sqs_set (by omega)]
  have e1 : (ns.set i (halfL ns i j)).getD j 0 = ns.getD j 0 := by
    rw [List.getD_eq_getElem?_getD, List.getElem?_set_ne (by omega), ← List.getD_eq_getElem?_getD]
  rw [e1]
  unfold halfL
  generalize ns.getD i 0 = a at *
  generalize ns.getD j 0 = b at *
  obtain ⟨d, hd⟩ : ∃ d, b - a = 2 * d := ⟨(b - a) / 2, by omega⟩
  have hb : b = a + 2 * d := by omega
  have hh : (a + b) / 2 = a + d := by omega
  rw [hh, hd, hb]
  have hd0 : d ≠ 0 := by omega
  have e2 : 2 * d * (2 * d) = 2 * (2 * (d * d)) := by grind
  rw [e2, Int.mul_ediv_cancel_left _ (by decide)]
  have pos : 1 ≤ d * d := by
    rcases Int.lt_or_gt_of_ne hd0 with h | h
    · have := Int.mul_pos_of_neg_of_neg h h
      omega
    · have := Int.mul_pos h h
      omega
  exact ⟨by grind, by omega⟩

/-! ### the number of unlike ones -/
theorem dedup_map {f : Int → Int} {σ : List Int} {v : Int} (inj : ∀ x ∈ σ, f x = f v → x = v) : step_dedup (σ.map f) (f v) = (step_dedup σ v).map f := by
  unfold step_dedup
  have e : (σ.map f).any (· == f v) = σ.any (· == v) := by
    rw [List.any_map, Bool.eq_iff_iff, List.any_eq_true, List.any_eq_true]
    constructor
    · rintro ⟨x, hx, h⟩
      exact ⟨x, hx, beq_iff_eq.mpr (inj x hx (beq_iff_eq.mp h))⟩
    · rintro ⟨x, hx, h⟩
      exact ⟨x, hx, beq_iff_eq.mpr (congrArg f (beq_iff_eq.mp h))⟩
  rw [e]
  split
  · rfl
  · rw [List.map_append]
    rfl
theorem firstMet_mem {val : Nat → Int} : ∀ {i : Nat} {x : Int}, x ∈ firstMet val i → ∃ j, j < i ∧ x = val j
  | 0, x, h => by simp [firstMet_zero] at h
  | i + 1, x, h => by
    rw [firstMet_succ] at h
    unfold step_dedup at h
    split at h
    · obtain ⟨j, hj, e⟩ := firstMet_mem h
      exact ⟨j, by omega, e⟩
    · rcases List.mem_append.mp h with h | h
      · obtain ⟨j, hj, e⟩ := firstMet_mem h
        exact ⟨j, by omega, e⟩
      · exact ⟨i, by omega, List.mem_singleton.mp h⟩
theorem firstMet_map {f : Int → Int} {val : Nat → Int} : ∀ {i : Nat}, (∀ a b, a < i → b < i → f (val a) = f (val b) → val a = val b) → firstMet (fun k => f (val k)) i = (firstMet val i).map f
  | 0, _ => rfl
  | i + 1, h => by
    rw [firstMet_succ, firstMet_succ, firstMet_map fun a b ha hb => h a b (by omega) (by omega)]
    refine dedup_map fun x hx e => ?_
    obtain ⟨j, hj, rfl⟩ := firstMet_mem hx
    exact h j i (by omega) (by omega) e
theorem firstMet_congr {val val' : Nat → Int} : ∀ {i : Nat}, (∀ a, a < i → val a = val' a) → firstMet val i = firstMet val' i
  | 0, _ => rfl
  | i + 1, h => by rw [firstMet_succ, firstMet_succ, firstMet_congr fun a ha => h a (by omega), h i (by omega)]
theorem dlen_settled {ns : List Int} (h : canL ns = []) : dlen (ns.map (· % 2)) = dlen ns := by
  unfold dlen
  have hc : ∀ a, a < ns.length → (ns.map (· % 2)).getD a 0 = (ns.getD a 0) % 2 := fun a ha => by
    rw [List.getD_eq_getElem?_getD, List.getElem?_map, gD_at ha]
    rfl
  rw [List.length_map, firstMet_congr (val' := fun k => (ns.getD k 0) % 2) hc, firstMet_map (f := (· % 2)), List.length_map]
  have key : ∀ a b, a < b → b < ns.length → (ns.getD a 0) % 2 = (ns.getD b 0) % 2 → ns.getD a 0 = ns.getD b 0 := fun a b hab hb e => by
    by_cases z : ns.getD a 0 = ns.getD b 0
    · exact z
    · exfalso
      have : (a, b) ∈ canL ns := mem_canL.mpr ⟨hab, hb, okP_iff.mpr ⟨z, by show (ns.getD a 0 + ns.getD b 0) % 2 = 0; omega⟩⟩
      rw [h] at this
      cases this
  intro a b ha hb e
  rcases Nat.lt_trichotomy a b with l | l | l
  · exact key a b l hb e
  · rw [l]
  · exact (key b a l ha e.symm).symm

/-! ### pairs as data -/
def prD (p : Nat × Nat) : PyData := .tuple [.int p.1, .int p.2]
def prsD (ps : List (Nat × Nat)) : List PyData := ps.map prD
theorem lay_prs (ps : List (Nat × Nat)) : Lay 2 (.list (prsD ps)) := lay_list fun d hd => by
  obtain ⟨p, _, rfl⟩ := List.mem_map.mp hd
  refine lay_tup fun d hd => ?_
  rcases List.mem_cons.mp hd with e | e
  · rw [e]
    exact lay_int _
  · rcases List.mem_cons.mp e with e | e
    · rw [e]
      exact lay_int _
    · cases e
def Prs (H : Hp) : List V → List (Nat × Nat) → Prop := Paired fun x p => ∃ t, x = .ref t ∧ H t = some (.tup [.int (p.1 : Nat), .int (p.2 : Nat)])
theorem Prs.mono {H H' : Hp} (e : Ex H H') : ∀ {rs : List V} {ps : List (Nat × Nat)}, Prs H rs ps → Prs H' rs ps
  | _, _, .nil => .nil
  | _, _, .cons ⟨t, h1, h2⟩ r => .cons ⟨t, h1, e _ _ h2⟩ (Prs.mono e r)
theorem Prs.app {H : Hp} : ∀ {rs rs' : List V} {ps ps' : List (Nat × Nat)}, Prs H rs ps → Prs H rs' ps' → Prs H (rs ++ rs') (ps ++ ps')
  | _, _, _, _, .nil, h => h
  | _, _, _, _, .cons a b, h => .cons a (Prs.app b h)
theorem Prs.dp {K : PySem.W.Frag} {H : Hp} : ∀ {rs : List V} {ps : List (Nat × Nat)}, Prs H rs ps → DpAll K H rs (prsD ps)
  | _, _, .nil => .nil
  | _, _, .cons ⟨t, h1, h2⟩ r => .cons (by rw [h1]; exact .tup (SqT.of h2) (.cons (.int _) (.cons (.int _) .nil))) (Prs.dp r)
theorem Prs.mem {H : Hp} : ∀ {rs : List V} {ps : List (Nat × Nat)}, Prs H rs ps → ∀ x ∈ rs, ∃ p ∈ ps, ∃ t, x = .ref t ∧ H t = some (.tup [.int (p.1 : Nat), .int (p.2 : Nat)])
  | _, _, .nil, x, h => nomatch h
  | _, _, .cons a b, x, h => by
    rcases List.mem_cons.mp h with e | e
    · rw [e]
      exact ⟨_, List.mem_cons_self, a⟩
    · obtain ⟨p, hp, q⟩ := Prs.mem b x e
      exact ⟨p, List.mem_cons_of_mem _ hp, q⟩
/-- the pair that stands at a value -/
def keyV (H : Hp) (x : V) : Int × Int := match x with
  | .ref t => match H t with
    | some (.tup [.int a, .int b]) => (a, b)
    | _ => (0, 0)
  | _ => (0, 0)
theorem keyV_at {H : Hp} {t : Addr} {a b : Int} (h : H t = some (.tup [.int a, .int b])) : keyV H (.ref t) = (a, b) := by
  unfold keyV
  dsimp only
  rw [h]
def natK (H : Hp) (x : V) : Nat × Nat := ((keyV H x).1.toNat, (keyV H x).2.toNat)
theorem Prs.keys {H : Hp} : ∀ {rs : List V} {ps : List (Nat × Nat)}, Prs H rs ps → rs.map (natK H) = ps
  | _, _, .nil => rfl
  | _, _, .cons ⟨t, h1, h2⟩ r => by
    rw [List.map_cons, Prs.keys r, h1]
    unfold natK
    rw [keyV_at h2]
    simp
theorem Prs.of_keys {H : Hp} : ∀ {rs : List V}, (∀ x ∈ rs, ∃ p : Nat × Nat, ∃ t, x = .ref t ∧ H t = some (.tup [.int (p.1 : Nat), .int (p.2 : Nat)])) → Prs H rs (rs.map (natK H))
  | [], _ => .nil
  | x :: rs, h => by
    refine .cons ?_ (Prs.of_keys fun y hy => h y (List.mem_cons_of_mem _ hy))
    obtain ⟨p, t, e1, e2⟩ := h x List.mem_cons_self
    refine ⟨t, e1, ?_⟩
    rw [e1]
    unfold natK
    rw [keyV_at e2, e2]
    simp
theorem prs_sorted {H : Hp} {rs ys : List V} {ns : List Int} (h : Prs H rs (lawUp ns ns.length)) (hs : SrtO.Srtd (ltP (keyV H)) ys) (hp : ys.Perm rs) : Prs H ys (canL ns) := by
  have hm : ∀ x ∈ ys, ∃ p : Nat × Nat, ∃ t, x = .ref t ∧ H t = some (.tup [.int (p.1 : Nat), .int (p.2 : Nat)]) := fun x hx => by
    obtain ⟨p, _, t, e1, e2⟩ := h.mem x (hp.mem_iff.mp hx)
    exact ⟨p, t, e1, e2⟩
  have key := Prs.of_keys hm
  have e : ys.map (natK H) = canL ns := by
    refine law_sorted ?_ ?_
    · have := hp.map (natK H)
      rw [h.keys] at this
      exact this
    · refine List.pairwise_map.mpr ?_
      refine List.Pairwise.imp_of_mem (fun {a b} ha hb hl hPL => ?_) hs
      obtain ⟨p, t, e1, e2⟩ := hm a ha
      obtain ⟨q, u, f1, f2⟩ := hm b hb
      have hk := SrtO.lexB_no.mp hl
      rw [e1, f1] at hPL hk
      unfold natK at hPL
      rw [keyV_at e2, keyV_at f2] at hPL hk
      apply hk
      unfold PL at hPL
      simp at hPL ⊢
      omega
  rw [← e]
  exact key
theorem Prs.upd {H : Hp} {p : Addr} {xs : List V} {o : HO} (hp : H p = some (.lst xs)) : ∀ {rs : List V} {ps : List (Nat × Nat)}, Prs H rs ps → Prs (L2.upd H p o) rs ps
  | _, _, .nil => .nil
  | _, _, .cons ⟨t, h1, h2⟩ r => .cons ⟨t, h1, by rw [upd_ne (ne_of h2 hp (by intro z; cases z))]; exact h2⟩ (Prs.upd hp r)
theorem Prs.length {H : Hp} {rs : List V} {ps : List (Nat × Nat)} (h : Prs H rs ps) : rs.length = ps.length := Paired.length h
/-- a new list of pairs -/
def IsP (ps : List (Nat × Nat)) (p : Addr) (H : Hp) : Prop := ∃ rs, H p = some (.lst rs) ∧ Prs H rs ps
def RetP (ps : List (Nat × Nat)) (H : Hp) (Q : VK) : Prop := ∀ p H2, H p = none → Ex H H2 → IsP ps p H2 → Q (.ref p) H2
theorem lawRow_len (ns : List Int) (j m : Nat) : (lawRow ns j m).length ≤ m := by
  unfold lawRow
  rw [List.length_map]
  have h := List.length_filter_le (fun i => okP ns i j) (List.range m)
  rw [List.length_range] at h
  exact h
theorem lawUp_len (ns : List Int) : ∀ j, j ≤ 100 → (lawUp ns j).length ≤ j * 100
  | 0, _ => by simp [lawUp]
  | j + 1, h => by
    have ih := lawUp_len ns j (by omega)
    have h2 := lawRow_len ns j j
    rw [lawUp_succ, List.length_append]
    omega
theorem rowC_len (ns : List Int) (i m : Nat) : (rowC ns i m).length ≤ m := by
  unfold rowC
  rw [List.length_map]
  have h := List.length_filter_le (okP ns i) ((List.range m).map (· + (i + 1)))
  rw [List.length_map, List.length_range] at h
  exact h
theorem canUp_len (ns : List Int) (hn : ns.length ≤ 100) : ∀ i, i ≤ 100 → (canUp ns i).length ≤ i * 100
  | 0, _ => by simp [canUp]
  | i + 1, h => by
    have ih := canUp_len ns hn i (by omega)
    have h2 := rowC_len ns i (ns.length - (i + 1))
    rw [canUp_succ, List.length_append]
    omega
def RowOk (ns : List Int) : Prop := 1 ≤ ns.length ∧ ns.length ≤ 12 ∧ ∀ x ∈ ns, 0 ≤ x ∧ x ≤ 1000000
theorem RowOk.get {ns : List Int} (h : RowOk ns) {i : Nat} (hi : i < ns.length) : 0 ≤ ns.getD i 0 ∧ ns.getD i 0 ≤ 1000000 := h.2.2 _ (List.mem_of_getElem? (gD_at hi))
theorem int_at {ns : List Int} {i : Nat} (h : i < ns.length) : atI (ns.map V.int) (i : Int) = some (.int (ns.getD i 0)) := atI_nat (by rw [List.getElem?_map, gD_at h]; rfl)
end Eg

set_option Elab.async false
set_option linter.all false
set_option maxRecDepth 100000
set_option maxHeartbeats 2000000
namespace Eg
open PySem PySem.Spec PyProof.Rows L2 Evl
/-! # the law's own draws, as plain functions -/
def primesL : List Int := [1000003, 1000033, 1000037, 1000039, 1000081, 1000099, 1000117, 1000121, 1000133, 1000151, 1000159, 1000171, 1000183, 1000187, 1000193, 1000199]
def primeF (k : Int) : Int := primesL.getD k.toNat 1
def drawF (c k m : Int) : Int := (c * 48271 + k * 69621) % primeF (k % 16) % m
def valueF (c t : Int) : Int :=
  if c ≥ (10 : Int) ^ (18 : Int).toNat then (c - (10 : Int) ^ (18 : Int).toNat) / 2 ^ (3 * t).toNat
  else drawF ((c + 977 * t) * (c + 31 * t + 5)) (t % 9 + 1) 999983 * 1000003 + drawF ((c + 31 * t) * (c + 7) + 977 * t) (t % 7 + 2) 1000003
def cellF (ns : List Int) (k : Int) : Int := ns.getD k.toNat 0
theorem prime_pos {k : Int} (h : 0 ≤ k) (h2 : k < 16) : 0 < primeF k ∧ atI (primesL.map V.int) k = some (.int (primeF k)) := by
  obtain ⟨n, rfl⟩ : ∃ n : Nat, k = n := ⟨k.toNat, by omega⟩
  have hn : n < 16 := by omega
  have : ∀ n : Fin 16, 0 < primeF (n.val : Int) ∧ (primesL.map V.int)[n.val]? = some (.int (primeF (n.val : Int))) := by decide
  obtain ⟨a, b⟩ := this ⟨n, hn⟩
  exact ⟨a, atI_nat b⟩
theorem drawF_nn {c k m : Int} (hm : 0 < m) : 0 ≤ drawF c k m := Int.emod_nonneg _ (by omega)
theorem drawF_lt {c k m : Int} (hm : 0 < m) : drawF c k m < m := Int.emod_lt_of_pos _ hm
theorem valueF_nn {c t : Int} : 0 ≤ valueF c t := by
  unfold valueF
  split
  · exact Int.ediv_nonneg (by omega) (two_pow_nn _)
  · have h1 := drawF_nn (c := (c + 977 * t) * (c + 31 * t + 5)) (k := t % 9 + 1) (m := 999983) (by decide)
    have h2 := drawF_nn (c := (c + 31 * t) * (c + 7) + 977 * t) (k := t % 7 + 2) (m := 1000003) (by decide)
    omega
def wideF (c g : Int) : Int := if valueF c 1 % 4 = 0 then g else if valueF c 1 % 4 = 1 then 3 else if valueF c 1 % 4 = 2 then g / 2 else 1
def stepF (c : Int) : Int := if valueF c 1 % 4 = 0 then 1 else if valueF c 1 % 4 = 1 then 1 else if valueF c 1 % 4 = 2 then 2 else 4
def numF (ns : List Int) (by_ g : Int) (at_ : Int) : Int := valueF (cellF ns (by_ + at_ % 5) + 11 * at_) (3 + at_ % 6) / 3
def putF1 (ns : List Int) (by_ g : Int) (at_ : Int) : Int :=
  let v := numF ns by_ g at_ % (wideF (cellF ns by_) g + 1) * stepF (cellF ns by_)
  if v < g then v else g
def rowLen (ns : List Int) (by_ m : Int) : Nat := (1 + valueF (cellF ns by_) 2 % m).toNat
def rowF (ns : List Int) (by_ m g : Int) : List Int := (List.range (rowLen ns by_ m)).map fun i : Nat => putF1 ns by_ g i
theorem rowF_len {ns : List Int} {by_ m g : Int} (hm : 0 < m) : 1 ≤ (rowF ns by_ m g).length ∧ ((rowF ns by_ m g).length : Int) ≤ m := by
  unfold rowF rowLen
  rw [List.length_map, List.length_range]
  have h1 := Int.emod_nonneg (valueF (cellF ns by_) 2) (show m ≠ 0 by omega)
  have h2 := Int.emod_lt_of_pos (valueF (cellF ns by_) 2) hm
  omega
theorem stepF_pos {c : Int} : 1 ≤ stepF c ∧ stepF c ≤ 4 := by
  unfold stepF
  split
  · decide
  · split
    · decide
    · split <;> decide
theorem wideF_pos {c g : Int} (hg : 0 ≤ g) : 0 ≤ wideF c g ∧ (wideF c g ≤ g ∨ wideF c g ≤ 3) := by
  unfold wideF
  split
  · omega
  · split
    · omega
    · split <;> omega
theorem putF1_in {ns : List Int} {by_ g a : Int} (hg : 0 ≤ g) : 0 ≤ putF1 ns by_ g a ∧ putF1 ns by_ g a ≤ g := by
  unfold putF1
  have h1 := (wideF_pos (c := cellF ns by_) hg).1
  have h2 := Int.emod_nonneg (numF ns by_ g a) (show wideF (cellF ns by_) g + 1 ≠ 0 by omega)
  have h3 := (stepF_pos (c := cellF ns by_)).1
  have h4 := Int.mul_nonneg h2 (show 0 ≤ stepF (cellF ns by_) by omega)
  dsimp only
  split <;> omega
theorem rowF_in {ns : List Int} {by_ m g : Int} (hg : 0 ≤ g) : ∀ x ∈ rowF ns by_ m g, 0 ≤ x ∧ x ≤ g := fun x hx => by
  unfold rowF at hx
  obtain ⟨i, _, rfl⟩ := List.mem_map.mp hx
  exact putF1_in hg
theorem cellF_bt {ns : List Int} {b : Nat} {k : Int} (h : ∀ z ∈ ns, Bt b z) : Bt b (cellF ns k) := by
  unfold cellF
  by_cases hk : k.toNat < ns.length
  · rw [List.getD_eq_getElem?_getD, List.getElem?_eq_getElem hk]
    exact h _ (List.getElem_mem hk)
  · rw [List.getD_eq_getElem?_getD, List.getElem?_eq_none (by omega)]
    exact Nat.two_pow_pos b
/-- what the draws ask of the cells: not beyond all bounds -/
def Cells (ns : List Int) : Prop := ∀ z ∈ ns, Bt 1050000 z
end Eg

set_option Elab.async false
set_option linter.all false
set_option maxRecDepth 100000
set_option maxHeartbeats 2000000
namespace Eg
open PySem PySem.Spec PyProof.Rows L2 Evl
/-! # more of what evaluates to what -/
section
variable {K : PySem.W.Frag} {σ : L2.St} {H H' : Hp} {ta tb tc td te ts : TE} {t u : TT} {x y z v : V} {D : Ends} {tz tu : TS}
theorem rv_neD {d : PyData} (dx : Dp K H x d) (dy : Dp K H y d) {k : Nat} (l : Lay k d) (hk : k ≤ 64 := by decide) : RV (rNeD K) x y H (.bl false) := fun H1 e Q q => by
  refine ⟨d, d, dp_mono e dx, dp_mono e dy, l.shaped hk, l.shaped hk, ?_⟩
  rw [SeqAt.eqv_refl d l.1]
  exact q H1 (Ex.refl H1)
theorem rv_eqD {d : PyData} (dx : Dp K H x d) (dy : Dp K H y d) {k : Nat} (l : Lay k d) (hk : k ≤ 64 := by decide) : RV (rEqD K) x y H (.bl true) := fun H1 e Q q => by
  refine ⟨d, d, dp_mono e dx, dp_mono e dy, l.shaped hk, l.shaped hk, ?_⟩
  rw [SeqAt.eqv_refl d l.1]
  exact q H1 (Ex.refl H1)
theorem ev_neD {d : PyData} (ha : Ev ta σ H x) (hb : Ev tb σ H y) (dx : Dp K H x d) (dy : Dp K H y d) {k : Nat} (l : Lay k d) (hk : k ≤ 64 := by decide) : Ev (tOp (rNeD K) ta tb) σ H (.bl false) := ev_op ha hb (rv_neD dx dy l hk)
/-- the first one a new list -/
theorem ev_neD1 {d : PyData} {R : Addr → Hp → Prop} (ha : TrN ta σ H R) (hb : ∀ H1, Ex H H1 → Ev tb σ H1 y) (dx : ∀ p H1, R p H1 → Dp K H1 (.ref p) d) (dy : Dp K H y d) {k : Nat} (l : Lay k d) (hk : k ≤ 64 := by decide) : Ev (tOp (rNeD K) ta tb) σ H (.bl false) := fun H1 e Q q =>
  ha H1 e _ fun p H2 _ e2 r => hb H2 (e.trans e2) H2 (Ex.refl H2) _ fun H3 e3 => rv_neD (dp_mono e3 (dx p H2 r)) (dp_mono ((e.trans e2).trans e3) dy) l hk H3 (Ex.refl H3) Q fun H4 e4 => q H4 ((e2.trans e3).trans e4)
/-- both new lists -/
theorem ev_neD2 {d : PyData} {R R' : Addr → Hp → Prop} (ha : TrN ta σ H R) (hb : ∀ H1, Ex H H1 → TrN tb σ H1 R') (dx : ∀ p H1, R p H1 → Dp K H1 (.ref p) d) (dy : ∀ p H1, R' p H1 → Dp K H1 (.ref p) d) {k : Nat} (l : Lay k d) (hk : k ≤ 64 := by decide) : Ev (tOp (rNeD K) ta tb) σ H (.bl false) := fun H1 e Q q =>
  ha H1 e _ fun p H2 _ e2 r => hb H2 (e.trans e2) H2 (Ex.refl H2) _ fun p' H3 _ e3 r' => rv_neD (dp_mono e3 (dx p H2 r)) (dy p' H3 r') l hk H3 (Ex.refl H3) Q fun H4 e4 => q H4 ((e2.trans e3).trans e4)
theorem ev_eqD2 {d : PyData} {R R' : Addr → Hp → Prop} (ha : TrN ta σ H R) (hb : ∀ H1, Ex H H1 → TrN tb σ H1 R') (dx : ∀ p H1, R p H1 → Dp K H1 (.ref p) d) (dy : ∀ p H1, R' p H1 → Dp K H1 (.ref p) d) {k : Nat} (l : Lay k d) (hk : k ≤ 64 := by decide) : Ev (tOp (rEqD K) ta tb) σ H (.bl true) := fun H1 e Q q =>
  ha H1 e _ fun p H2 _ e2 r => hb H2 (e.trans e2) H2 (Ex.refl H2) _ fun p' H3 _ e3 r' => rv_eqD (dp_mono e3 (dx p H2 r)) (dy p' H3 r') l hk H3 (Ex.refl H3) Q fun H4 e4 => q H4 ((e2.trans e3).trans e4)
theorem tn_of {xs : List V} (h : EvL te σ H xs) : TrN te σ H fun p H' => H' p = some (.lst xs) := h
/-- a list == [] -/
theorem ev_isNil {p : Addr} {rs : List V} {ds : List PyData} (ha : Ev ta σ H (.ref p)) (hl : SqL K H p rs) (hd : DpAll K H rs ds) {k : Nat} (l : Lay k (.list ds)) (hk : k ≤ 64 := by decide) : Ev (tOp (rEqD K) ta (tLst tNil)) σ H (.bl (decide (ds = []))) := fun H1 e Q q =>
  ha H1 e _ fun H2 e2 => (el_lst (vs := []) (σ := σ) ea_nil (by decide)) H2 (Ex.refl H2) _ fun o H3 ho e3 h3 => by
    refine ⟨.list ds, .list [], dp_mono ((e.trans e2).trans e3) (.lst hl hd), .lst (SqL.of h3) .nil, l.shaped hk, rfl, ?_⟩
    have e4 : PyData.eqv (.list ds) (.list []) = decide (ds = []) := by
      cases ds with
      | nil => rfl
      | cons a b => rfl
    rw [e4]
    exact q H3 (e2.trans e3)
theorem ev_lenSet {p : Addr} {ns : List Int} (ha : Ev ta σ H (.ref p)) (h : SqL K H p (ns.map V.int)) (hn : ns.length ≤ 4000) : Ev (tLenSet K ta) σ H (.int (dlen ns : Nat)) := fun H1 e Q q =>
  ha H1 e _ fun H2 e2 => ⟨p, ns, rfl, ex_l (e.trans e2) h, hn, q H2 e2⟩
theorem ev_sum {ns : List Int} (h : EvL te σ H (ns.map V.int)) : Ev (tCB (rSum K) (tCons te tNil)) σ H (.int ns.sum) := fun H1 e Q q =>
  h H1 e _ fun p H2 _ e2 h2 => ⟨p, ns, rfl, SqL.of h2, q H2 e2⟩
theorem tn_step {a : Addr} {xs : List V} {k : Int} (ha : Ev te σ H (.ref a)) (hb : Ev ts σ H (.int k)) (hk : k ≠ 0) (h : SqL K H a xs) : TrN (tStepL K te ts) σ H fun p H' => ∃ ys, H' p = some (.lst ys) ∧ ∀ z ∈ ys, z ∈ xs := fun H1 e Q q =>
  ha H1 e _ fun H2 e2 => hb H2 (e.trans e2) _ fun H3 e3 => ⟨k, rfl, a, xs, k, rfl, rfl, hk, ex_l ((e.trans e2).trans e3) h, fun ys p hy hp => q p _ (fresh_back (e2.trans e3) hp) ((e2.trans e3).trans (Ex.new hp)) ⟨ys, upd_same, hy⟩⟩
theorem el_rev {a : Addr} {xs : List V} (ha : Ev te σ H (.ref a)) (h : SqL K H a xs) : EvL (tRevL K te) σ H xs.reverse := fun H1 e Q q =>
  ha H1 e _ fun H2 e2 => ⟨a, xs, rfl, ex_l (e.trans e2) h, fun p hp => q p _ (fresh_back e2 hp) (e2.trans (Ex.new hp)) upd_same⟩
/-- a call with one new list as its argument -/
theorem tn_callL {sp : Sp} {E : XK} {xs : List V} {R : Addr → Hp → Prop} (h : EvL te σ H xs) (hs : ∀ p H1, H1 p = some (.lst xs) → Ex H H1 → SpN sp [.ref p] H1 R) : TrN (tCall sp [] E (tCons te tNil)) σ H R := fun H1 e Q q =>
  h H1 e _ fun p H2 _ e2 h2 => hs p H2 h2 (e.trans e2) H2 (Ex.refl H2) Q (fun r H3 hr e3 k => q r H3 (fresh_back e2 hr) (e2.trans e3) k) E
theorem q_rev {l : Addr} {xs : List V} (hl : H l = some (.lst xs)) (ha : Ev ta σ H (.ref l)) (k : ∀ H1, Ex H H1 → tz D σ (upd H1 l (.lst xs.reverse))) : tSeq (tDrop (tBM0 K "list" rReverse ta)) tz D σ H := ha H (Ex.refl H) _ fun H1 e1 =>
  ⟨Or.inl ⟨rfl, xs, sq_of (e1 l _ hl)⟩, l, xs, rfl, rfl, e1 l _ hl, k H1 e1⟩
theorem q_forR3 {ta : TA} {j : Nat} {lo hi c : Int} {n : Nat} (h : EvA ta σ H [.int lo, .int hi, .int c]) (hn : RgC lo hi c n) (Pv : Nat → L2.St → Hp → Prop) (h0 : ∀ H1, Ex H H1 → Pv 0 σ H1)
    (hs : ∀ (i : Nat) σ' H', i < n → Pv i σ' H' → tu { D with nx := Pv (i + 1), ct := Pv (i + 1), bk := tz D } (σ'.set j (some (.int (lo + (i : Nat) * c)))) H') (hd : ∀ σ' H', Pv n σ' H' → tz D σ' H') : tSeq (tFor (iRng3 ta) (gName j) tu) tz D σ H :=
  h H (Ex.refl H) _ fun H1 e => ⟨lo, hi, c, n, rfl, hn, for_rangeC (D := { D with nx := tz D }) Pv (h0 H1 e) hs hd⟩
/-- over a new tuple -/
theorem el_lcNU {xs : List V} {tl : TE} {j : Nat} {vs : List Nat} (f : Nat → Bool) (v : Nat → V) (h : EvU tl σ H xs) (hz : xs.length ≤ 40000) (hw : ∀ x, wipe ((wipe σ vs).set j (some x)) vs = wipe σ vs)
    (ht : ∀ (i : Nat) (x : V) H1, Ex H H1 → xs[i]? = some x → EvT t ((wipe σ vs).set j (some x)) H1 (f i)) (he : ∀ (i : Nat) (x : V) H1, Ex H H1 → xs[i]? = some x → f i = true → Ev te ((wipe σ vs).set j (some x)) H1 (v i)) :
    EvL (tLc (iTup K tl) (gName j) t te vs) σ H (given xs.length f v) := fun H0 e Q q => h H0 e _ fun a H1 ha e1 hx => ⟨a, rfl, ⟨xs, st_of hx⟩, fun Dl hD =>
  lc_tup (xs := xs) (Cw H1 f v Dl) ⟨hD, Ex.new hD, upd_same⟩ (fun i H' _ p => st_of (p.2.1 a _ hx)) (fun i x H' hi p => ⟨hw x, cw_turn p (by have := (List.getElem?_eq_some_iff.mp hi).1; omega) (ht i x H1 (e.trans e1) hi) (fun hf => he i x H1 (e.trans e1) hi hf)⟩)
    (fun H' p => q Dl H' (fresh_back e1 p.1) (e1.trans p.2.1) p.2.2)⟩
theorem ev_isTrue {b : Bool} (ha : Ev ta σ H (.bl b)) : Ev (tOp rIsB ta (tC (.bl true))) σ H (.bl (decide (b = true))) := ev_op ha ev_c fun H1 e Q q => ⟨b, true, rfl, rfl, q H1 (Ex.refl H1)⟩
/-- a, b = e1, e2: two new objects; a new object and a value -/
theorem q_parN {i j : Nat} {R R' : Addr → Hp → Prop} (h : TrN ta σ H R) (g : ∀ H1, Ex H H1 → TrN tb σ H1 R') (k : ∀ p r H1 H2, H p = none → Ex H H1 → R p H1 → H1 r = none → Ex H1 H2 → R' r H2 → tz D ((σ.set i (some (.ref p))).set j (some (.ref r))) H2) : tSeq (tPar i j (tCons ta (tCons tb tNil))) tz D σ H :=
  h H (Ex.refl H) _ fun p H1 hp e1 r1 => g H1 e1 H1 (Ex.refl H1) _ fun r H2 hr e2 r2 => ⟨_, _, rfl, k p r H1 H2 hp e1 r1 hr e2 r2⟩
theorem q_parNV {i j : Nat} {R : Addr → Hp → Prop} (h : TrN ta σ H R) (g : ∀ H1, Ex H H1 → Ev tb σ H1 v) (k : ∀ p H1 H2, H p = none → Ex H H1 → R p H1 → Ex H1 H2 → tz D ((σ.set i (some (.ref p))).set j (some v)) H2) : tSeq (tPar i j (tCons ta (tCons tb tNil))) tz D σ H :=
  h H (Ex.refl H) _ fun p H1 hp e1 r1 => g H1 e1 H1 (Ex.refl H1) _ fun H2 e2 => ⟨_, _, rfl, k p H1 H2 hp e1 r1 e2⟩
theorem tn_callLU {sp : Sp} {E : XK} {xs ys : List V} {R : Addr → Hp → Prop} (h : EvL ta σ H xs) (g : ∀ H1, Ex H H1 → EvU tb σ H1 ys) (hs : ∀ p r H1, H1 p = some (.lst xs) → H1 r = some (.tup ys) → Ex H H1 → SpN sp [.ref p, .ref r] H1 R) : TrN (tCall sp [] E (tCons ta (tCons tb tNil))) σ H R := fun H1 e Q q =>
  h H1 e _ fun p H2 _ e2 h2 => g H2 (e.trans e2) H2 (Ex.refl H2) _ fun r H3 _ e3 h3 => hs p r H3 (e3 _ _ h2) h3 ((e.trans e2).trans e3) H3 (Ex.refl H3) Q (fun u H4 hu e4 k => q u H4 (fresh_back (e2.trans e3) hu) ((e2.trans e3).trans e4) k) E
theorem ev_callL {sp : Sp} {E : XK} {xs : List V} (h : EvL ta σ H xs) (hs : ∀ p H1, H1 p = some (.lst xs) → Ex H H1 → SpV sp [.ref p] H1 z) : Ev (tCall sp [] E (tCons ta tNil)) σ H z := fun H1 e Q q =>
  h H1 e _ fun p H2 _ e2 h2 => hs p H2 h2 (e.trans e2) H2 (Ex.refl H2) Q (fun H3 e3 => q H3 (e2.trans e3)) E
theorem tn_lstUU {xs ys : List V} (h : ∀ H1, Ex H H1 → EvU ta σ H1 xs) (g : ∀ H1, Ex H H1 → EvU tb σ H1 ys) : TrN (tLst (tCons ta (tCons tb tNil))) σ H fun p H' => ∃ r u, H' p = some (.lst [.ref r, .ref u]) ∧ H' r = some (.tup xs) ∧ H' u = some (.tup ys) := fun H1 e Q q =>
  h H1 e H1 (Ex.refl H1) _ fun r H2 hr e2 h2 => g H2 (e.trans e2) H2 (Ex.refl H2) _ fun u H3 hu e3 h3 =>
    ⟨sz_of (by decide : 2 ≤ 100000), fun p hp => q p _ (fresh_back (e2.trans e3) hp) ((e2.trans e3).trans (Ex.new hp)) ⟨r, u, upd_same, (Ex.new hp) _ _ (e3 _ _ h2), (Ex.new hp) _ _ h3⟩⟩
/-- for x in a new list, told by R -/
theorem q_forN {tl : TE} {g : TG} {R : Addr → Hp → Prop} (h : TrN tl σ H R) (k : ∀ p H1, H p = none → Ex H H1 → R p H1 → ∃ (xs : List V) (Pv : Nat → L2.St → Hp → Prop), SqL K H1 p xs ∧ Pv 0 σ H1 ∧ (∀ i σ' H', i ≤ xs.length → Pv i σ' H' → SqL K H' p xs) ∧
      (∀ i x σ' H', xs[i]? = some x → Pv i σ' H' → g x σ' H' fun σ2 H2 => tu { D with nx := Pv (i + 1), ct := Pv (i + 1), bk := tz D } σ2 H2) ∧ ∀ σ' H', Pv xs.length σ' H' → tz D σ' H') : tSeq (tFor (iList K tl) g tu) tz D σ H :=
  h H (Ex.refl H) _ fun p H1 hp e r => by
    obtain ⟨xs, Pv, hs, h0, hl, hb, hd⟩ := k p H1 hp e r
    exact ⟨p, rfl, ⟨xs, hs⟩, for_list (D := { D with nx := tz D }) Pv h0 hl hb hd⟩
end
theorem rep_all (n : Nat) : (List.replicate n true).all id = true := List.all_eq_true.mpr fun x hx => (List.mem_replicate.mp hx).2
theorem given_map (ns : List Int) (g : Int → Int) : given ns.length (fun _ => true) (fun i => V.int (g (ns.getD i 0))) = (ns.map g).map V.int := by
  unfold given
  rw [List.filter_eq_self.mpr (fun _ _ => rfl)]
  refine List.ext_getElem? fun i => ?_
  rw [List.getElem?_map, List.getElem?_map, List.getElem?_map]
  by_cases h : i < ns.length
  · rw [gD_at h, List.getElem?_range h]
    rfl
  · rw [List.getElem?_eq_none (l := ns) (by omega), List.getElem?_eq_none (by rw [List.length_range]; omega)]
    rfl
theorem cut63 {xs : List V} (h : xs.length ≤ 63) : cutV xs none (some 63) = xs := by
  unfold cutV
  rw [HT.sIx_none, show HT.sIx xs.length xs.length (some 63) = min 63 xs.length from HT.sIx_nat xs.length xs.length 63, List.drop_zero, Nat.sub_zero, Nat.min_eq_right h, List.take_length]
/-- the turns of range(0, max(1, n), 1 + n // d), n up to 63 -/
def turnsN (d L : Nat) : Nat := (Builtin.Range.rangeSize 0 (if (L : Int) > 1 then (L : Int) else 1) (1 + (L : Int) / (d : Int))).toNat
theorem rg6 (L : Nat) (h : L ≤ 63) : RgC 0 (if (L : Int) > 1 then (L : Int) else 1) (1 + (L : Int) / 6) (turnsN 6 L) ∧ turnsN 6 L ≤ 63 := by
  have : ∀ L : Fin 64, RgC 0 (if (L.val : Int) > 1 then (L.val : Int) else 1) (1 + (L.val : Int) / 6) (turnsN 6 L.val) ∧ turnsN 6 L.val ≤ 63 := by
    unfold RgC
    decide +kernel
  exact this ⟨L, by omega⟩
theorem can_rev {ns : List Int} : canL ns.reverse = [] ↔ canL ns = [] := by
  have key : ∀ ns : List Int, canL ns = [] → canL ns.reverse = [] := fun ns h => by
    cases e : canL ns.reverse with
    | nil => rfl
    | cons p r =>
      exfalso
      have hp : p ∈ canL ns.reverse := by
        rw [e]
        exact List.mem_cons_self
      obtain ⟨h1, h2, h3⟩ := mem_canL.mp hp
      rw [List.length_reverse] at h2
      have g : ∀ i, i < ns.length → ns.reverse.getD i 0 = ns.getD (ns.length - 1 - i) 0 := fun i hi => by
        rw [List.getD_eq_getElem?_getD, List.getElem?_reverse hi, ← List.getD_eq_getElem?_getD]
      have h4 : (ns.length - 1 - p.2, ns.length - 1 - p.1) ∈ canL ns := by
        refine mem_canL.mpr ⟨by show ns.length - 1 - p.2 < ns.length - 1 - p.1; omega, by show ns.length - 1 - p.1 < ns.length; omega, ?_⟩
        rw [okP_iff] at h3 ⊢
        rw [g _ (by omega), g _ h2] at h3
        exact ⟨fun z => h3.1 z.symm, by have := h3.2; show (ns.getD (ns.length - 1 - p.2) 0 + ns.getD (ns.length - 1 - p.1) 0) % 2 = 0; omega⟩
      rw [h] at h4
      cases h4
  constructor
  · intro h
    have := key _ h
    rwa [List.reverse_reverse] at this
  · exact key ns
theorem RowOk.rev {ns : List Int} (h : RowOk ns) : RowOk ns.reverse := ⟨by rw [List.length_reverse]; exact h.1, by rw [List.length_reverse]; exact h.2.1, fun x hx => h.2.2 x (List.mem_reverse.mp hx)⟩
theorem IsP.dp {K : PySem.W.Frag} {ps : List (Nat × Nat)} {p : Addr} {H : Hp} (h : IsP ps p H) : Dp K H (.ref p) (.list (prsD ps)) := by
  obtain ⟨rs, hl, hr⟩ := h
  exact .lst (SqL.of hl) hr.dp
theorem ints_dp {K : PySem.W.Frag} {ns : List Int} {p : Addr} {H : Hp} (h : SqL K H p (ns.map V.int)) : Dp K H (.ref p) (.list (ns.map PyData.int)) := .lst h (dpa_ints ns)
end Eg

set_option Elab.async false
set_option linter.all false
set_option maxRecDepth 100000
set_option maxHeartbeats 4000000
namespace Lk
open PySem PySem.Spec PyProof.Rows L2 Evl Eg
def topS (i : Nat) : Stmt := PySem.Challenge.pw_evenglasses_k01_rows.main.body.getD i (.Pass ⟨0, 0, 0, 0⟩)
structure Mo (mg : Str → Option Value) (t1 t2 : Tok) : Prop where
  MOST_GLASSES_ : mg "MOST_GLASSES" = some (.int 12 t1)
  MOST_MEASURES_ : mg "MOST_MEASURES" = some (.int 1000000 t2)
abbrev s_is_number : Stmt := topS 7
abbrev N_is_number : List Str := ["value"]
abbrev P_is_number : List Str := ["value"]
theorem sc_is_number : FnScope N_is_number P_is_number (defScope s_is_number) := ⟨rfl, rfl, rfl, by decide +kernel, rfl, by decide +kernel, by decide +kernel⟩
abbrev s_is_measure : Stmt := topS 8
abbrev N_is_measure : List Str := ["value"]
abbrev P_is_measure : List Str := ["value"]
theorem sc_is_measure : FnScope N_is_measure P_is_measure (defScope s_is_measure) := ⟨rfl, rfl, rfl, by decide +kernel, rfl, by decide +kernel, by decide +kernel⟩
abbrev s_is_row : Stmt := topS 9
abbrev N_is_row : List Str := ["value", "amount"]
abbrev P_is_row : List Str := ["value"]
theorem sc_is_row : FnScope N_is_row P_is_row (defScope s_is_row) := ⟨rfl, rfl, rfl, by decide +kernel, rfl, by decide +kernel, by decide +kernel⟩
abbrev s_are_places : Stmt := topS 10
abbrev N_are_places : List Str := ["row", "value", "first", "second"]
abbrev P_are_places : List Str := ["row", "value"]
theorem sc_are_places : FnScope N_are_places P_are_places (defScope s_are_places) := ⟨rfl, rfl, rfl, by decide +kernel, rfl, by decide +kernel, by decide +kernel⟩
abbrev s_can_even : Stmt := topS 11
abbrev N_can_even : List Str := ["one", "other"]
abbrev P_can_even : List Str := ["one", "other"]
theorem sc_can_even : FnScope N_can_even P_can_even (defScope s_can_even) := ⟨rfl, rfl, rfl, by decide +kernel, rfl, by decide +kernel, by decide +kernel⟩
abbrev s_refuse_no_row : Stmt := topS 12
abbrev N_refuse_no_row : List Str := ["row"]
abbrev P_refuse_no_row : List Str := ["row"]
theorem sc_refuse_no_row : FnScope N_refuse_no_row P_refuse_no_row (defScope s_refuse_no_row) := ⟨rfl, rfl, rfl, by decide +kernel, rfl, by decide +kernel, by decide +kernel⟩
abbrev s_refuse_no_evening : Stmt := topS 13
abbrev N_refuse_no_evening : List Str := ["row", "evening", "first", "second"]
abbrev P_refuse_no_evening : List Str := ["row", "evening"]
theorem sc_refuse_no_evening : FnScope N_refuse_no_evening P_refuse_no_evening (defScope s_refuse_no_evening) := ⟨rfl, rfl, rfl, by decide +kernel, rfl, by decide +kernel, by decide +kernel⟩
abbrev s_evenings : Stmt := topS 14
abbrev N_evenings : List Str := ["row", "many", "first", "second"]
abbrev P_evenings : List Str := ["row"]
theorem sc_evenings : FnScope N_evenings P_evenings (defScope s_evenings) := ⟨rfl, rfl, rfl, by decide +kernel, rfl, by decide +kernel, by decide +kernel⟩
abbrev s_evened : Stmt := topS 15
abbrev N_evened : List Str := ["row", "evening", "first", "second", "half", "behind"]
abbrev P_evened : List Str := ["row", "evening"]
theorem sc_evened : FnScope N_evened P_evened (defScope s_evened) := ⟨rfl, rfl, rfl, by decide +kernel, rfl, by decide +kernel, by decide +kernel⟩
abbrev s_settled : Stmt := topS 16
abbrev N_settled : List Str := ["row"]
abbrev P_settled : List Str := ["row"]
theorem sc_settled : FnScope N_settled P_settled (defScope s_settled) := ⟨rfl, rfl, rfl, by decide +kernel, rfl, by decide +kernel, by decide +kernel⟩
abbrev s_fall : Stmt := topS 17
abbrev N_fall : List Str := ["row", "evening", "first", "second", "gap"]
abbrev P_fall : List Str := ["row", "evening"]
theorem sc_fall : FnScope N_fall P_fall (defScope s_fall) := ⟨rfl, rfl, rfl, by decide +kernel, rfl, by decide +kernel, by decide +kernel⟩
abbrev s__law_cell_at : Stmt := topS 19
abbrev N__law_cell_at : List Str := ["_law_script", "_law_k"]
abbrev P__law_cell_at : List Str := ["_law_script", "_law_k"]
theorem sc__law_cell_at : FnScope N__law_cell_at P__law_cell_at (defScope s__law_cell_at) := ⟨rfl, rfl, rfl, by decide +kernel, rfl, by decide +kernel, by decide +kernel⟩
abbrev s__law_draw : Stmt := topS 20
abbrev N__law_draw : List Str := ["_law_cell", "_law_k", "_law_many", "_law_primes"]
abbrev P__law_draw : List Str := ["_law_cell", "_law_k", "_law_many"]
theorem sc__law_draw : FnScope N__law_draw P__law_draw (defScope s__law_draw) := ⟨rfl, rfl, rfl, by decide +kernel, rfl, by decide +kernel, by decide +kernel⟩
abbrev s__law_value : Stmt := topS 21
abbrev N__law_value : List Str := ["_law_cell", "_law_turn", "_law_mixed"]
abbrev P__law_value : List Str := ["_law_cell", "_law_turn"]
theorem sc__law_value : FnScope N__law_value P__law_value (defScope s__law_value) := ⟨rfl, rfl, rfl, by decide +kernel, rfl, by decide +kernel, by decide +kernel⟩
abbrev s__law_whole : Stmt := topS 22
abbrev N__law_whole : List Str := ["_law_number"]
abbrev P__law_whole : List Str := ["_law_number"]
theorem sc__law_whole : FnScope N__law_whole P__law_whole (defScope s__law_whole) := ⟨rfl, rfl, rfl, by decide +kernel, rfl, by decide +kernel, by decide +kernel⟩
abbrev s__law_says : Stmt := topS 23
abbrev N__law_says : List Str := ["_law_said", "_law_due"]
abbrev P__law_says : List Str := ["_law_said", "_law_due"]
theorem sc__law_says : FnScope N__law_says P__law_says (defScope s__law_says) := ⟨rfl, rfl, rfl, by decide +kernel, rfl, by decide +kernel, by decide +kernel⟩
abbrev s__law_row : Stmt := topS 24
abbrev N__law_row : List Str := ["_law_script", "_law_by", "_law_most", "_law_greatest", "_law_cell", "_law_wide", "_law_step", "_law_found", "_law_at", "_law_number"]
abbrev P__law_row : List Str := ["_law_script", "_law_by", "_law_most", "_law_greatest"]
theorem sc__law_row : FnScope N__law_row P__law_row (defScope s__law_row) := ⟨rfl, rfl, rfl, by decide +kernel, rfl, by decide +kernel, by decide +kernel⟩
abbrev s__law_can : Stmt := topS 25
abbrev N__law_can : List Str := ["_law_row_here", "_law_found", "_law_other", "_law_one"]
abbrev P__law_can : List Str := ["_law_row_here"]
theorem sc__law_can : FnScope N__law_can P__law_can (defScope s__law_can) := ⟨rfl, rfl, rfl, by decide +kernel, rfl, by decide +kernel, by decide +kernel⟩
abbrev s__law_evened : Stmt := topS 26
abbrev N__law_evened : List Str := ["_law_row_here", "_law_pair", "_law_found"]
abbrev P__law_evened : List Str := ["_law_row_here", "_law_pair"]
theorem sc__law_evened : FnScope N__law_evened P__law_evened (defScope s__law_evened) := ⟨rfl, rfl, rfl, by decide +kernel, rfl, by decide +kernel, by decide +kernel⟩
abbrev s_law : Stmt := topS 27
abbrev N_law : List Str := ["_law_script", "_law_by", "_law_row_here", "_law_handed", "_law_due", "_law_again", "_law_found", "_law_rests", "_law_pair", "_law_less", "_law_there", "_law_squares", "_law_one", "_law_some"]
abbrev P_law : List Str := ["_law_script"]
theorem sc_law : FnScope N_law P_law (defScope s_law) := ⟨rfl, rfl, rfl, by decide +kernel, rfl, by decide +kernel, by decide +kernel⟩

def sp_is_number (K : PySem.W.Frag) : Sp := fun vs H Q _ => ∃ i : Int, vs = [.int i] ∧ RetV (.bl true) H Q
theorem sv_is_number {K : PySem.W.Frag} {H : Hp} {i : Int} : SpV (sp_is_number K) [.int i] H (.bl true) := fun H1 e Q q E => ⟨i, rfl, q⟩

def sp_is_measure (K : PySem.W.Frag) : Sp := fun vs H Q _ => ∃ i : Int, vs = [.int i] ∧ 0 ≤ i ∧ i ≤ 1000000 ∧ RetV (.bl true) H Q
theorem sv_is_measure {K : PySem.W.Frag} {H : Hp} {i : Int} (h0 : 0 ≤ i) (h1 : i ≤ 1000000) : SpV (sp_is_measure K) [.int i] H (.bl true) := fun H1 e Q q E => ⟨i, rfl, h0, h1, q⟩

def sp_is_row (K : PySem.W.Frag) : Sp := fun vs H Q _ => ∃ (a : Addr) (ns : List Int), vs = [.ref a] ∧ SqL K H a (ns.map V.int) ∧ RowOk ns ∧ RetV (.bl true) H Q
theorem sv_is_row {K : PySem.W.Frag} {H : Hp} {a : Addr} {ns : List Int} (hS : SqL K H a (ns.map V.int)) (hR : RowOk ns) : SpV (sp_is_row K) [.ref a] H (.bl true) := fun H1 e Q q E => ⟨a, ns, rfl, ex_l e hS, hR, q⟩

def sp_are_places (K : PySem.W.Frag) : Sp := fun vs H Q _ => ∃ (a t : Addr) (ns : List Int) (i j : Nat), vs = [.ref a, .ref t] ∧ SqL K H a (ns.map V.int) ∧ SqT K H t [.int (i : Int), .int (j : Int)] ∧ i < j ∧ j < ns.length ∧ RetV (.bl true) H Q
theorem sv_are_places {K : PySem.W.Frag} {H : Hp} {a t : Addr} {ns : List Int} {i j : Nat} (hS : SqL K H a (ns.map V.int)) (hT : SqT K H t [.int (i : Int), .int (j : Int)]) (hij : i < j) (hj : j < ns.length) : SpV (sp_are_places K) [.ref a, .ref t] H (.bl true) := fun H1 e Q q E => ⟨a, t, ns, i, j, rfl, ex_l e hS, ex_t e hT, hij, hj, q⟩

def sp_can_even (K : PySem.W.Frag) : Sp := fun vs H Q _ => ∃ x y : Int, vs = [.int x, .int y] ∧ RetV (.bl (!decide (x = y) && decide ((x + y) % 2 = 0))) H Q
theorem sv_can_even {K : PySem.W.Frag} {H : Hp} {x y : Int} : SpV (sp_can_even K) [.int x, .int y] H (.bl (!decide (x = y) && decide ((x + y) % 2 = 0))) := fun H1 e Q q E => ⟨x, y, rfl, q⟩

def sp_refuse_no_row (K : PySem.W.Frag) : Sp := fun vs H Q _ => ∃ (a : Addr) (ns : List Int), vs = [.ref a] ∧ SqL K H a (ns.map V.int) ∧ RowOk ns ∧ RetV .non H Q
theorem sv_refuse_no_row {K : PySem.W.Frag} {H : Hp} {a : Addr} {ns : List Int} (hS : SqL K H a (ns.map V.int)) (hR : RowOk ns) : SpV (sp_refuse_no_row K) [.ref a] H .non := fun H1 e Q q E => ⟨a, ns, rfl, ex_l e hS, hR, q⟩

def sp_refuse_no_evening (K : PySem.W.Frag) : Sp := fun vs H Q _ => ∃ (a t : Addr) (ns : List Int) (i j : Nat), vs = [.ref a, .ref t] ∧ SqL K H a (ns.map V.int) ∧ SqT K H t [.int (i : Int), .int (j : Int)] ∧ i < j ∧ j < ns.length ∧ okP ns i j = true ∧ RetV .non H Q
theorem sv_refuse_no_evening {K : PySem.W.Frag} {H : Hp} {a t : Addr} {ns : List Int} {i j : Nat} (hS : SqL K H a (ns.map V.int)) (hT : SqT K H t [.int (i : Int), .int (j : Int)]) (hij : i < j) (hj : j < ns.length) (hok : okP ns i j = true) : SpV (sp_refuse_no_evening K) [.ref a, .ref t] H .non := fun H1 e Q q E => ⟨a, t, ns, i, j, rfl, ex_l e hS, ex_t e hT, hij, hj, hok, q⟩

def sp_evenings (K : PySem.W.Frag) : Sp := fun vs H Q _ => ∃ (a : Addr) (ns : List Int), vs = [.ref a] ∧ SqL K H a (ns.map V.int) ∧ RowOk ns ∧ RetP (canL ns) H Q

def sp_evened (K : PySem.W.Frag) : Sp := fun vs H Q _ => ∃ (a t : Addr) (ns : List Int) (i j : Nat), vs = [.ref a, .ref t] ∧ SqL K H a (ns.map V.int) ∧ RowOk ns ∧ SqT K H t [.int (i : Int), .int (j : Int)] ∧ i < j ∧ j < ns.length ∧ okP ns i j = true ∧ RetL ((evL ns i j).map V.int) H Q

def sp_settled (K : PySem.W.Frag) : Sp := fun vs H Q _ => ∃ (a : Addr) (ns : List Int), vs = [.ref a] ∧ SqL K H a (ns.map V.int) ∧ RowOk ns ∧ RetV (.bl (decide (canL ns = []))) H Q
theorem sn_evenings {K : PySem.W.Frag} {H : Hp} {a : Addr} {ns : List Int} (hS : SqL K H a (ns.map V.int)) (hR : RowOk ns) : SpN (sp_evenings K) [.ref a] H (IsP (canL ns)) := fun H1 e Q q E => ⟨a, ns, rfl, ex_l e hS, hR, q⟩

def sp_fall (K : PySem.W.Frag) : Sp := fun vs H Q _ => ∃ (a t : Addr) (ns : List Int) (i j : Nat), vs = [.ref a, .ref t] ∧ SqL K H a (ns.map V.int) ∧ RowOk ns ∧ SqT K H t [.int (i : Int), .int (j : Int)] ∧ i < j ∧ j < ns.length ∧ okP ns i j = true ∧ RetV (.int ((ns.getD j 0 - ns.getD i 0) * (ns.getD j 0 - ns.getD i 0) / 2)) H Q

def sp__law_cell_at (K : PySem.W.Frag) : Sp := fun vs H Q _ => ∃ (a : Addr) (ns : List Int) (k : Int), vs = [.ref a, .int k] ∧ SqL K H a (ns.map V.int) ∧ 0 ≤ k ∧ RetV (.int (cellF ns k)) H Q

def sp__law_draw (K : PySem.W.Frag) : Sp := fun vs H Q _ => ∃ c k m : Int, vs = [.int c, .int k, .int m] ∧ 0 ≤ k ∧ 0 < m ∧ RetV (.int (drawF c k m)) H Q

def sp__law_value (K : PySem.W.Frag) : Sp := fun vs H Q _ => ∃ c t : Int, vs = [.int c, .int t] ∧ Bt 1100000 c ∧ 0 ≤ t ∧ t ≤ 1000 ∧ RetV (.int (valueF c t)) H Q
theorem sv__law_draw {K : PySem.W.Frag} {H : Hp} {c k m : Int} (hk : 0 ≤ k) (hm : 0 < m) : SpV (sp__law_draw K) [.int c, .int k, .int m] H (.int (drawF c k m)) := fun H1 e Q q E => ⟨c, k, m, rfl, hk, hm, q⟩

def sp__law_whole (K : PySem.W.Frag) : Sp := fun vs H Q _ => ∃ i : Int, vs = [.int i] ∧ RetV (.bl true) H Q

def sp__law_says (K : PySem.W.Frag) : Sp := fun vs H Q _ => ∃ a b : Bool, vs = [.bl a, .bl b] ∧ RetV (.bl (a == b)) H Q

def sp__law_row (K : PySem.W.Frag) : Sp := fun vs H Q _ => ∃ (a : Addr) (ns : List Int) (by_ m g : Int), vs = [.ref a, .int by_, .int m, .int g] ∧ SqL K H a (ns.map V.int) ∧ Cells ns ∧ 0 ≤ by_ ∧ by_ ≤ 1000 ∧ 0 < m ∧ m ≤ 12 ∧ 0 ≤ g ∧ g ≤ 1000000 ∧ RetL ((rowF ns by_ m g).map V.int) H Q
theorem sv__law_cell_at {K : PySem.W.Frag} {H : Hp} {a : Addr} {ns : List Int} {k : Int} (hS : SqL K H a (ns.map V.int)) (hk : 0 ≤ k) : SpV (sp__law_cell_at K) [.ref a, .int k] H (.int (cellF ns k)) := fun H1 e Q q E => ⟨a, ns, k, rfl, ex_l e hS, hk, q⟩
theorem sv__law_value {K : PySem.W.Frag} {H : Hp} {c t : Int} (hc : Bt 1100000 c) (h0 : 0 ≤ t) (h1 : t ≤ 1000) : SpV (sp__law_value K) [.int c, .int t] H (.int (valueF c t)) := fun H1 e Q q E => ⟨c, t, rfl, hc, h0, h1, q⟩
theorem four_at {x y z u : V} {k : Int} (h0 : 0 ≤ k) (h1 : k < 4) : atI [x, y, z, u] k = some (if k = 0 then x else if k = 1 then y else if k = 2 then z else u) := by
  have h : k = 0 ∨ k = 1 ∨ k = 2 ∨ k = 3 := by omega
  rcases h with h | h | h | h <;> subst h <;> rfl

def sp__law_can (K : PySem.W.Frag) : Sp := fun vs H Q _ => ∃ (a : Addr) (ns : List Int), vs = [.ref a] ∧ SqL K H a (ns.map V.int) ∧ ns.length ≤ 100 ∧ RetP (canL ns) H Q

def sp__law_evened (K : PySem.W.Frag) : Sp := fun vs H Q _ => ∃ (a t : Addr) (ns : List Int) (i j : Nat), vs = [.ref a, .ref t] ∧ SqL K H a (ns.map V.int) ∧ SqT K H t [.int (i : Int), .int (j : Int)] ∧ i < j ∧ j < ns.length ∧ RetL ((evL ns i j).map V.int) H Q

def sp_law (K : PySem.W.Frag) : Sp := fun vs H Q _ => ∃ (a : Addr) (ns : List Int), vs = [.ref a] ∧ SqL K H a (ns.map V.int) ∧ ns.length ≤ 63 ∧ Cells ns ∧ ∀ H', Q (.bl true) H'
section
variable {K : PySem.W.Frag} {H : Hp}
theorem sl__law_row {a : Addr} {ns : List Int} {b m g : Int} (hS : SqL K H a (ns.map V.int)) (hC : Cells ns) (h0 : 0 ≤ b) (h1 : b ≤ 1000) (hm : 0 < m) (hm2 : m ≤ 12) (hg : 0 ≤ g) (hg2 : g ≤ 1000000) : SpL (sp__law_row K) [.ref a, .int b, .int m, .int g] H ((rowF ns b m g).map V.int) := fun H1 e Q q E => ⟨a, ns, b, m, g, rfl, ex_l e hS, hC, h0, h1, hm, hm2, hg, hg2, q⟩
theorem sn__law_can {a : Addr} {ns : List Int} (hS : SqL K H a (ns.map V.int)) (hn : ns.length ≤ 100) : SpN (sp__law_can K) [.ref a] H (IsP (canL ns)) := fun H1 e Q q E => ⟨a, ns, rfl, ex_l e hS, hn, q⟩
theorem sv_settled {a : Addr} {ns : List Int} (hS : SqL K H a (ns.map V.int)) (hR : RowOk ns) : SpV (sp_settled K) [.ref a] H (.bl (decide (canL ns = []))) := fun H1 e Q q E => ⟨a, ns, rfl, ex_l e hS, hR, q⟩
theorem sv__law_says {a b : Bool} : SpV (sp__law_says K) [.bl a, .bl b] H (.bl (a == b)) := fun H1 e Q q E => ⟨a, b, rfl, q⟩
theorem sv__law_whole {i : Int} : SpV (sp__law_whole K) [.int i] H (.bl true) := fun H1 e Q q E => ⟨i, rfl, q⟩
theorem sl_evened {a t : Addr} {ns : List Int} {i j : Nat} (hS : SqL K H a (ns.map V.int)) (hR : RowOk ns) (hT : SqT K H t [.int (i : Int), .int (j : Int)]) (hij : i < j) (hj : j < ns.length) (hok : okP ns i j = true) : SpL (sp_evened K) [.ref a, .ref t] H ((evL ns i j).map V.int) := fun H1 e Q q E => ⟨a, t, ns, i, j, rfl, ex_l e hS, hR, ex_t e hT, hij, hj, hok, q⟩
theorem sv_fall {a t : Addr} {ns : List Int} {i j : Nat} (hS : SqL K H a (ns.map V.int)) (hR : RowOk ns) (hT : SqT K H t [.int (i : Int), .int (j : Int)]) (hij : i < j) (hj : j < ns.length) (hok : okP ns i j = true) : SpV (sp_fall K) [.ref a, .ref t] H (.int ((ns.getD j 0 - ns.getD i 0) * (ns.getD j 0 - ns.getD i 0) / 2)) := fun H1 e Q q E => ⟨a, t, ns, i, j, rfl, ex_l e hS, hR, ex_t e hT, hij, hj, hok, q⟩
theorem sl__law_evened {a t : Addr} {ns : List Int} {i j : Nat} (hS : SqL K H a (ns.map V.int)) (hT : SqT K H t [.int (i : Int), .int (j : Int)]) (hij : i < j) (hj : j < ns.length) : SpL (sp__law_evened K) [.ref a, .ref t] H ((evL ns i j).map V.int) := fun H1 e Q q E => ⟨a, t, ns, i, j, rfl, ex_l e hS, ex_t e hT, hij, hj, q⟩
theorem rowF_ok {ns : List Int} {b : Int} : RowOk (rowF ns b 12 1000000) := by
  have h := rowF_len (ns := ns) (by_ := b) (m := 12) (g := 1000000) (by decide)
  exact ⟨h.1, by omega, rowF_in (by decide)⟩
end
section
variable {P : Program} {w : World} {K : PySem.W.Frag} {mg : Str → Option Value} {base : Heap}
theorem ok_is_number {f : Addr} {fd : FuncData} (F : Fun K "is_number" "is_number" s_is_number f fd) (B : Bi mg)  : FnOk P w K mg base CX0 1 f fd P_is_number (sp_is_number K) := by
  refine F.ok sc_is_number (fun vs H Q E h => ?_) (fun cdv A outer s H vs Q E hr h => ?_)
  · obtain ⟨i, rfl, q⟩ := h
    rfl
  · obtain ⟨i, rfl, q⟩ := h
    refine ⟨_, (pss_one (ps_ret (pe_and (pe_callB call_isi (by rfl) B.isinstance_ (by decide +kernel) (pa_cons (pv 0) (pa_cons (pe_bltn (v := .ty "int") (by rfl) B.int_ (by decide +kernel) rfl) pa_nil))) (pe_one (pe_not (pe_callB call_isi (by rfl) B.isinstance_ (by decide +kernel) (pa_cons (pv 0) (pa_cons (pe_bltn (v := .ty "bool") (by rfl) B.bool_ (by decide +kernel) rfl) pa_nil)))))))), ?_⟩
    exact s_ret (ev_andV (a := true) (b := !false) (ev_int1 (ev_var rfl) ev_c) fun _ => ev_notV (ev_int2 (ev_var rfl) ev_c)) q
theorem ok_is_measure {f : Addr} {fd : FuncData} (F : Fun K "is_measure" "is_measure" s_is_measure f fd) (B : Bi mg) {t1 t2 : Tok} (M : Mo mg t1 t2) {f_is_number : Addr} {fd_is_number : FuncData} (C_is_number : Cal P w K mg base CX0 1 "is_number" P_is_number (sp_is_number K) f_is_number fd_is_number) : FnOk P w K mg base CX0 2 f fd P_is_measure (sp_is_measure K) := by
  refine F.ok sc_is_measure (fun vs H Q E h => ?_) (fun cdv A outer s H vs Q E hr h => ?_)
  · obtain ⟨i, rfl, h0, h1, q⟩ := h
    rfl
  · obtain ⟨i, rfl, h0, h1, q⟩ := h
    refine ⟨_, (pss_one (ps_ret (pe_and (pe_call C_is_number.ok (hr.mono (by decide)) (by rfl) C_is_number.g C_is_number.kp C_is_number.b .nil pass0 (pa_cons (pv 0) pa_nil)) (pe_one (pe_chain op_le op_le pe_int (pv 0) (pe_glob (v := .int 1000000) (by rfl) M.MOST_MEASURES_ ⟨_, rfl⟩)))))), ?_⟩
    exact s_ret (ev_is (ev_andV (a := true) (b := decide (0 ≤ i) && decide (i ≤ 1000000)) (ev_call1 (ea_cons (ev_var rfl) ea_nil) sv_is_number) fun _ => ev_chain ev_c (ev_var rfl) ev_c rv_I0 fun _ => rv_I0) (by rw [decide_eq_true h0, decide_eq_true h1]; rfl)) q
theorem ok_is_row {f : Addr} {fd : FuncData} (F : Fun K "is_row" "is_row" s_is_row f fd) (B : Bi mg) {t1 t2 : Tok} (M : Mo mg t1 t2) {f_is_measure : Addr} {fd_is_measure : FuncData} (C_is_measure : Cal P w K mg base CX0 2 "is_measure" P_is_measure (sp_is_measure K) f_is_measure fd_is_measure) : FnOk P w K mg base CX0 3 f fd P_is_row (sp_is_row K) := by
  refine F.ok sc_is_row (fun vs H Q E h => ?_) (fun cdv A outer s H vs Q E hr h => ?_)
  · obtain ⟨a, ns, rfl, hS, hR, q⟩ := h
    rfl
  · obtain ⟨a, ns, rfl, hS, hR, q⟩ := h
    refine ⟨_, (pss_cons (ps_if (pt_not (pt_val (pe_callB call_isi (by rfl) B.isinstance_ (by decide +kernel) (pa_cons (pv 0) (pa_cons (pe_bltn (v := .ty "list") (by rfl) B.list_ (by decide +kernel) rfl) pa_nil))))) (pss_one (ps_ret pe_bl)) pss_nil) (pss_cons (ps_if (pt_not (pt_chain op_le op_le pe_int (pe_callB call_len_seq (by rfl) B.len_ (by decide +kernel) (pa_cons (pv 0) pa_nil)) (pe_glob (v := .int 12) (by rfl) M.MOST_GLASSES_ ⟨_, rfl⟩))) (pss_one (ps_ret pe_bl)) pss_nil) (pss_one (ps_ret (pe_callB (cr_all rfl) (by rfl) B.all_ (by decide +kernel) (pa_cons (pe_lc (own := [("amount", 1)]) (tt := tYes) rfl sc_is_row.nd (pi_list (pv 0)) (blkOk_by (own := [("amount", 1)]) (N := N_is_row) (sc := defScope s_is_row) (by decide +kernel)) (fun _ _ _ _ _ => by exact (pg_name (i := 1) sc_is_row.nd rfl (Or.inl rfl))) (fun _ _ _ _ _ => by exact pts_nil) (fun _ _ _ _ _ => by exact (pe_call C_is_measure.ok (hr.mono (by decide)) (by rfl) C_is_measure.g C_is_measure.kp C_is_measure.b .nil pass0 (pa_cons (pv 1) pa_nil)))) pa_nil)))))), ?_⟩
    refine q_when (et_not (et_B (ev_isl (ev_var rfl) ev_c hS))) (fun hb => Bool.noConfusion hb) (fun hb H1 e1 => ?_)
    have hS1 := ex_l e1 hS
    have l1 : (1 : Int) ≤ ((ns.map V.int).length : Int) := by rw [List.length_map]; have := hR.1; omega
    have l2 : ((ns.map V.int).length : Int) ≤ 12 := by rw [List.length_map]; have := hR.2.1; omega
    refine q_when (b := false) (et_is (et_not (et_test (ev_chain ev_c (ev_lenL (ev_var rfl) hS1) ev_c rv_I0 fun _ => rv_I0))) (by rw [decide_eq_true l1, decide_eq_true l2]; rfl)) (fun hb => Bool.noConfusion hb) (fun hb H2 e2 => ?_)
    have hS2 := ex_l e2 hS1
    have hl := el_lcL (K := K) (j := 1) (vs := [1]) (fun _ => true) (fun _ => .bl true) (ev_var (σ := [some (.ref a), none]) (i := 0) rfl) hS2 (by rw [List.length_map]; have := hR.2.1; omega) (te := tCall (sp_is_measure K) [] E0 (tCons (tVar 1) tNil)) (fun _ => rfl) (fun i x H3 e3 hx => et_yes) (fun i x H3 e3 hx _ => by
      rw [List.getElem?_map] at hx
      cases hn : ns[i]? with
      | none =>
        rw [hn] at hx
        cases hx
      | some n =>
        rw [hn] at hx
        cases hx
        obtain ⟨b0, b1⟩ := hR.2.2 n (List.mem_of_getElem? hn)
        exact ev_call1 (ea_cons (ev_var rfl) ea_nil) (sv_is_measure b0 b1))
    rw [given_all] at hl
    refine s_ret (ev_is (ev_all hl) ?_) fun H3 e3 => q H3 ((e1.trans e2).trans e3)
    rw [show (List.replicate (ns.map V.int).length true).all id = true from List.all_eq_true.mpr fun x hx => (List.mem_replicate.mp hx).2]
theorem ok_are_places {f : Addr} {fd : FuncData} (F : Fun K "are_places" "are_places" s_are_places f fd) (B : Bi mg) {f_is_number : Addr} {fd_is_number : FuncData} (C_is_number : Cal P w K mg base CX0 1 "is_number" P_is_number (sp_is_number K) f_is_number fd_is_number) : FnOk P w K mg base CX0 2 f fd P_are_places (sp_are_places K) := by
  refine F.ok sc_are_places (fun vs H Q E h => ?_) (fun cdv A outer s H vs Q E hr h => ?_)
  · obtain ⟨a, t, ns, i, j, rfl, hS, hT, hij, hj, q⟩ := h
    rfl
  · obtain ⟨a, t, ns, i, j, rfl, hS, hT, hij, hj, q⟩ := h
    refine ⟨_, (pss_cons (ps_if (PW.pt (pw_or (pt_not (pt_val (pe_callB call_isi (by rfl) B.isinstance_ (by decide +kernel) (pa_cons (pv 1) (pa_cons (pe_bltn (v := .ty "tuple") (by rfl) B.tuple_ (by decide +kernel) rfl) pa_nil))))) (pw_or1 (pt_cmpR op_ne (pe_callB call_len_seq (by rfl) B.len_ (by decide +kernel) (pa_cons (pv 1) pa_nil)) pe_int (nomark _))))) (pss_one (ps_ret pe_bl)) pss_nil) (pss_cons (ps_asg (pv 1) (pg_tup (by rfl) (pgs_cons (pg_name (i := 2) sc_are_places.nd rfl (Or.inl rfl)) (pgs_cons (pg_name (i := 3) sc_are_places.nd rfl (Or.inl rfl)) pgs_nil)))) (pss_cons (ps_if (PW.pt (pw_or (pt_not (pt_val (pe_call C_is_number.ok (hr.mono (by decide)) (by rfl) C_is_number.g C_is_number.kp C_is_number.b .nil pass0 (pa_cons (pv 2) pa_nil)))) (pw_or1 (pt_not (pt_val (pe_call C_is_number.ok (hr.mono (by decide)) (by rfl) C_is_number.g C_is_number.kp C_is_number.b .nil pass0 (pa_cons (pv 3) pa_nil))))))) (pss_one (ps_ret pe_bl)) pss_nil) (pss_one (ps_ret (pe_chain3 op_le op_lt op_lt pe_int (pv 2) (pv 3) (pe_callB call_len_seq (by rfl) B.len_ (by decide +kernel) (pa_cons (pv 0) pa_nil)))))))), ?_⟩
    refine q_when (b := false) (et_or (a := !true) (b := !true) (et_not (et_B (ev_ist (ev_var rfl) ev_c hT))) fun _ => et_test (ev_neI (ev_lenT (ev_var rfl) hT) ev_c)) (fun hb => Bool.noConfusion hb) (fun hb H1 e1 => ?_)
    refine q_unpack2 (ev_var rfl) (ex_t e1 hT) fun H2 e2 => ?_
    refine q_when (b := false) (et_or (a := !true) (b := !true) (et_not (et_B (ev_call1 (ea_cons (ev_var rfl) ea_nil) sv_is_number))) fun _ => (et_not (et_B (ev_call1 (ea_cons (ev_var rfl) ea_nil) sv_is_number)))) (fun hb => Bool.noConfusion hb) (fun hb H3 e3 => ?_)
    have e03 := (e1.trans e2).trans e3
    refine s_ret (ev_is (ev_chain3 ev_c (ev_var rfl) (ev_var rfl) (ev_lenL (ev_var rfl) (ex_l e03 hS)) rv_I0 rv_I0 rv_I0) ?_) fun H4 e4 => q H4 (e03.trans e4)
    rw [List.length_map, decide_eq_true (show (0 : Int) ≤ (i : Int) by omega), decide_eq_true (show (i : Int) < (j : Int) by omega), decide_eq_true (show (j : Int) < (ns.length : Int) by omega)]
    rfl
theorem ok_can_even {f : Addr} {fd : FuncData} (F : Fun K "can_even" "can_even" s_can_even f fd) (B : Bi mg)  : FnOk P w K mg base CX0 1 f fd P_can_even (sp_can_even K) := by
  refine F.ok sc_can_even (fun vs H Q E h => ?_) (fun cdv A outer s H vs Q E hr h => ?_)
  · obtain ⟨x, y, rfl, q⟩ := h
    rfl
  · obtain ⟨x, y, rfl, q⟩ := h
    refine ⟨_, (pss_one (ps_ret (pe_and (pe_cmpR op_ne (pv 0) (pv 1) (nomark _)) (pe_one (pe_cmpR op_eq (pe_op op_mod (pe_op op_add (pv 0) (pv 1)) pe_int) pe_int (nomark _)))))), ?_⟩
    exact s_ret (ev_andV (ev_neI (ev_var rfl) (ev_var rfl)) fun _ => ev_eqI (ev_mod (ev_add (ev_var rfl) (ev_var rfl)) ev_c (by decide)) ev_c) q
theorem ok_refuse_no_row {f : Addr} {fd : FuncData} (F : Fun K "refuse_no_row" "refuse_no_row" s_refuse_no_row f fd) (B : Bi mg) {f_is_row : Addr} {fd_is_row : FuncData} (C_is_row : Cal P w K mg base CX0 3 "is_row" P_is_row (sp_is_row K) f_is_row fd_is_row) : FnOk P w K mg base CX0 4 f fd P_refuse_no_row (sp_refuse_no_row K) := by
  refine F.ok sc_refuse_no_row (fun vs H Q E h => ?_) (fun cdv A outer s H vs Q E hr h => ?_)
  · obtain ⟨a, ns, rfl, hS, hR, q⟩ := h
    rfl
  · obtain ⟨a, ns, rfl, hS, hR, q⟩ := h
    refine ⟨_, (pss_one (ps_if (pt_not (pt_val (pe_call C_is_row.ok (hr.mono (by decide)) (by rfl) C_is_row.g C_is_row.kp C_is_row.b .nil pass0 (pa_cons (pv 0) pa_nil)))) (pss_one ps_never) pss_nil)), ?_⟩
    exact s_when (et_not (et_B (ev_call1 (ea_cons (ev_var rfl) ea_nil) (sv_is_row hS hR)))) (fun hb => Bool.noConfusion hb) (fun hb H1 e1 => q H1 e1)
theorem ok_refuse_no_evening {f : Addr} {fd : FuncData} (F : Fun K "refuse_no_evening" "refuse_no_evening" s_refuse_no_evening f fd) (B : Bi mg) {f_are_places : Addr} {fd_are_places : FuncData} (C_are_places : Cal P w K mg base CX0 2 "are_places" P_are_places (sp_are_places K) f_are_places fd_are_places) {f_can_even : Addr} {fd_can_even : FuncData} (C_can_even : Cal P w K mg base CX0 1 "can_even" P_can_even (sp_can_even K) f_can_even fd_can_even) : FnOk P w K mg base CX0 3 f fd P_refuse_no_evening (sp_refuse_no_evening K) := by
  refine F.ok sc_refuse_no_evening (fun vs H Q E h => ?_) (fun cdv A outer s H vs Q E hr h => ?_)
  · obtain ⟨a, t, ns, i, j, rfl, hS, hT, hij, hj, hok, q⟩ := h
    rfl
  · obtain ⟨a, t, ns, i, j, rfl, hS, hT, hij, hj, hok, q⟩ := h
    refine ⟨_, (pss_cons (ps_if (pt_not (pt_val (pe_call C_are_places.ok (hr.mono (by decide)) (by rfl) C_are_places.g C_are_places.kp C_are_places.b .nil pass0 (pa_cons (pv 0) (pa_cons (pv 1) pa_nil))))) (pss_one ps_never) pss_nil) (pss_cons (ps_asg (pv 1) (pg_tup (by rfl) (pgs_cons (pg_name (i := 2) sc_refuse_no_evening.nd rfl (Or.inl rfl)) (pgs_cons (pg_name (i := 3) sc_refuse_no_evening.nd rfl (Or.inl rfl)) pgs_nil)))) (pss_one (ps_if (pt_not (pt_val (pe_call C_can_even.ok (hr.mono (by decide)) (by rfl) C_can_even.g C_can_even.kp C_can_even.b .nil pass0 (pa_cons (pe_ix ix_list (pv 0) (pv 2) (fun _ _ => rfl)) (pa_cons (pe_ix ix_list (pv 0) (pv 3) (fun _ _ => rfl)) pa_nil))))) (pss_one ps_never) pss_nil)))), ?_⟩
    refine q_when (et_not (et_B (ev_call1 (ea_cons (ev_var rfl) (ea_cons (ev_var rfl) ea_nil)) (sv_are_places hS hT hij hj)))) (fun hb => Bool.noConfusion hb) (fun hb H1 e1 => ?_)
    refine q_unpack2 (ev_var rfl) (ex_t e1 hT) fun H2 e2 => ?_
    have hS2 := ex_l (e1.trans e2) hS
    have hb : (!decide (ns.getD i 0 = ns.getD j 0) && decide ((ns.getD i 0 + ns.getD j 0) % 2 = 0)) = true := hok
    refine s_when (b := false) (et_is (et_not (et_B (ev_call1 (ea_cons (ev_ixL (ev_var rfl) (ev_var rfl) hS2 (int_at (by omega : i < ns.length))) (ea_cons (ev_ixL (ev_var rfl) (ev_var rfl) hS2 (int_at hj)) ea_nil)) sv_can_even))) (by rw [hb]; rfl)) (fun hb => Bool.noConfusion hb) (fun hb H3 e3 => q H3 ((e1.trans e2).trans e3))
theorem ok_evenings {f : Addr} {fd : FuncData} (F : Fun K "evenings" "evenings" s_evenings f fd) (B : Bi mg) {f_can_even : Addr} {fd_can_even : FuncData} (C_can_even : Cal P w K mg base CX0 1 "can_even" P_can_even (sp_can_even K) f_can_even fd_can_even) {f_refuse_no_row : Addr} {fd_refuse_no_row : FuncData} (C_refuse_no_row : Cal P w K mg base CX0 4 "refuse_no_row" P_refuse_no_row (sp_refuse_no_row K) f_refuse_no_row fd_refuse_no_row) : FnOk P w K mg base CX0 5 f fd P_evenings (sp_evenings K) := by
  refine F.ok sc_evenings (fun vs H Q E h => ?_) (fun cdv A outer s H vs Q E hr h => ?_)
  · obtain ⟨a, ns, rfl, hS, hR, q⟩ := h
    rfl
  · obtain ⟨a, ns, rfl, hS, hR, q⟩ := h
    refine ⟨_, (pss_cons (ps_expr (pe_call C_refuse_no_row.ok (hr.mono (by decide)) (by rfl) C_refuse_no_row.g C_refuse_no_row.kp C_refuse_no_row.b .nil pass0 (pa_cons (pv 0) pa_nil))) (pss_cons (ps_set (i := 1) sc_evenings.nd rfl (Or.inr rfl) (pe_callB call_len_seq (by rfl) B.len_ (by decide +kernel) (pa_cons (pv 0) pa_nil))) (pss_one (ps_ret (pe_lc2 (own := [("first", 2), ("second", 3)]) (vs1 := [3]) rfl sc_evenings.nd (pi_range1 (by rfl) B.range_ (pa_cons (pv 1) pa_nil)) (blkOk_by (own := [("first", 2), ("second", 3)]) (N := N_evenings) (sc := defScope s_evenings) (by decide +kernel)) (by decide) (fun _ _ _ _ _ => by exact (pg_name (i := 2) sc_evenings.nd rfl (Or.inl rfl))) (fun _ _ _ _ _ => by exact pts_nil) (fun _ _ _ _ _ => by exact (pi_range2 (by rfl) B.range_ (pa_cons (pe_op op_add (pv 2) pe_int) (pa_cons (pv 1) pa_nil)))) (fun _ _ _ _ _ => by exact (pg_name (i := 3) sc_evenings.nd rfl (Or.inl rfl))) (fun _ _ _ _ _ => by exact (pts_one (pt_val (pe_call C_can_even.ok (hr.mono (by decide)) (by rfl) C_can_even.g C_can_even.kp C_can_even.b .nil pass0 (pa_cons (pe_ix (ix_list_K (K := K)) (pv 0) (pv 2) (fun _ _ => rfl)) (pa_cons (pe_ix (ix_list_K (K := K)) (pv 0) (pv 3) (fun _ _ => rfl)) pa_nil)))))) (fun _ _ _ _ _ => by exact (pe_tup (pa_cons (pv 2) (pa_cons (pv 3) pa_nil))))))))), ?_⟩
    refine q_drop (ev_call1 (ea_cons (ev_var rfl) ea_nil) (sv_refuse_no_row hS hR)) fun H1 e1 => ?_
    have hlen := hR.2.1
    refine q_asg (v := .int (ns.length : Int)) (ev_is (ev_lenL (ev_var rfl) (ex_l e1 hS)) (by rw [List.length_map])) fun H2 e2 => ?_
    have e02 := e1.trans e2
    refine ⟨_, rfl, (ns.length : Int), rfl, by omega, by omega, fun D hD => ?_⟩
    refine walk_rng (lo := 0) (n := (ns.length : Int).toNat) (fun i H' => Ex H H' ∧ IsP (canUp ns i) D H') ⟨e02.trans (Ex.new hD), [], upd_same, .nil⟩ (fun i H' hi hP => ?_) (fun H' hP => ?_)
    · obtain ⟨eH, rs, hl, hr⟩ := hP
      have hi2 : i < ns.length := by omega
      rw [Int.zero_add]
      refine ⟨rfl, ?_⟩
      show tYes _ _ _
      refine et_yes H' (Ex.refl H') _ fun H3 e3 => ?_
      refine iteT ?_
      refine (ev_add (ev_var rfl) ev_c) H3 (Ex.refl H3) _ fun H4 e4 => ?_
      refine ⟨_, rfl, (i : Int) + 1, (ns.length : Int), rfl, ⟨by omega, by omega, by omega, by omega⟩, ?_⟩
      have e34 := e3.trans e4
      refine walk_rng (lo := (i : Int) + 1) (n := ((ns.length : Int) - ((i : Int) + 1)).toNat) (fun m H' => Ex H H' ∧ IsP (canUp ns i ++ rowC ns i m) D H') ⟨eH.trans e34, rs, e34 _ _ hl, by show Prs H4 rs (canUp ns i ++ []); rw [List.append_nil]; exact Prs.mono e34 hr⟩ (fun m H' hm hP => ?_) (fun H' hP => ?_)
      · obtain ⟨eH, rs, hl, hr⟩ := hP
        have ej : ((i : Int) + 1 + (m : Int)) = ((m + (i + 1) : Nat) : Int) := by omega
        have hj2 : m + (i + 1) < ns.length := by omega
        rw [ej]
        refine ⟨rfl, ?_⟩
        have hS2 := ex_l eH hS
        refine (et_B (ev_call1 (ea_cons (ev_ixL (ev_var rfl) (ev_var rfl) hS2 (int_at hi2)) (ea_cons (ev_ixL (ev_var rfl) (ev_var rfl) hS2 (int_at hj2)) ea_nil)) sv_can_even)) H' (Ex.refl H') _ fun H5 e5 => ?_
        have hb : (!decide (ns.getD i 0 = ns.getD (m + (i + 1)) 0) && decide ((ns.getD i 0 + ns.getD (m + (i + 1)) 0) % 2 = 0)) = okP ns i (m + (i + 1)) := rfl
        rw [hb]
        cases hok : okP ns i (m + (i + 1)) with
        | true =>
          refine iteT ?_
          refine (eu_tup (ea_cons (ev_var rfl) (ea_cons (ev_var rfl) ea_nil)) (by decide : 2 ≤ 100000)) H5 (Ex.refl H5) _ fun t H6 ht e6 h6 => ?_
          have e56 := e5.trans e6
          have hl6 := e56 _ _ hl
          refine ⟨rs, hl6, ?_, Ex.mut (eH.trans e56) (fresh_back e02 hD), _, upd_same, ?_⟩
          · have l1 := hr.length
            have l2 := canUp_len ns (by omega) i (by omega)
            have l3 := rowC_len ns i m
            rw [List.length_append] at l1
            exact sz_lt (by omega)
          · rw [rowC_yes hok, ← List.append_assoc]
            exact Prs.upd hl6 (Prs.app (Prs.mono e56 hr) (.cons ⟨t, rfl, h6⟩ .nil))
        | false =>
          refine iteF ?_
          refine ⟨eH.trans e5, rs, e5 _ _ hl, ?_⟩
          rw [rowC_no hok]
          exact Prs.mono e5 hr
      · obtain ⟨eH, rs, hl, hr⟩ := hP
        refine ⟨eH, rs, hl, ?_⟩
        have e0 : ((ns.length : Int) - ((i : Int) + 1)).toNat = ns.length - (i + 1) := by omega
        rw [e0] at hr
        rw [canUp_succ]
        exact hr
    · obtain ⟨eH, rs, hl, hr⟩ := hP
      have e0 : (ns.length : Int).toNat = ns.length := by omega
      rw [e0] at hr
      exact q D H' (fresh_back e02 hD) eH ⟨rs, hl, hr⟩
theorem ok_evened {f : Addr} {fd : FuncData} (F : Fun K "evened" "evened" s_evened f fd) (B : Bi mg) {f_refuse_no_evening : Addr} {fd_refuse_no_evening : FuncData} (C_refuse_no_evening : Cal P w K mg base CX0 3 "refuse_no_evening" P_refuse_no_evening (sp_refuse_no_evening K) f_refuse_no_evening fd_refuse_no_evening) {f_refuse_no_row : Addr} {fd_refuse_no_row : FuncData} (C_refuse_no_row : Cal P w K mg base CX0 4 "refuse_no_row" P_refuse_no_row (sp_refuse_no_row K) f_refuse_no_row fd_refuse_no_row) : FnOk P w K mg base CX0 5 f fd P_evened (sp_evened K) := by
  refine F.ok sc_evened (fun vs H Q E h => ?_) (fun cdv A outer s H vs Q E hr h => ?_)
  · obtain ⟨a, t, ns, i, j, rfl, hS, hR, hT, hij, hj, hok, q⟩ := h
    rfl
  · obtain ⟨a, t, ns, i, j, rfl, hS, hR, hT, hij, hj, hok, q⟩ := h
    refine ⟨_, (pss_cons (ps_expr (pe_call C_refuse_no_row.ok (hr.mono (by decide)) (by rfl) C_refuse_no_row.g C_refuse_no_row.kp C_refuse_no_row.b .nil pass0 (pa_cons (pv 0) pa_nil))) (pss_cons (ps_expr (pe_call C_refuse_no_evening.ok (hr.mono (by decide)) (by rfl) C_refuse_no_evening.g C_refuse_no_evening.kp C_refuse_no_evening.b .nil pass0 (pa_cons (pv 0) (pa_cons (pv 1) pa_nil)))) (pss_cons (ps_asg (pv 1) (pg_tup (by rfl) (pgs_cons (pg_name (i := 2) sc_evened.nd rfl (Or.inl rfl)) (pgs_cons (pg_name (i := 3) sc_evened.nd rfl (Or.inl rfl)) pgs_nil)))) (pss_cons (ps_set (i := 4) sc_evened.nd rfl (Or.inl rfl) (pe_op op_fdiv (pe_op op_add (pe_ix ix_list (pv 0) (pv 2) (fun _ _ => rfl)) (pe_ix ix_list (pv 0) (pv 3) (fun _ _ => rfl))) pe_int)) (pss_cons (ps_set (i := 5) sc_evened.nd rfl (Or.inl rfl) (pe_callTy call_list_of (by rfl) B.list_ (by decide +kernel) (pa_cons (pv 0) pa_nil))) (pss_cons (ps_asg (pv 4) (pg_sub (pv 5) (pv 2) set_list)) (pss_cons (ps_asg (pv 4) (pg_sub (pv 5) (pv 3) set_list)) (pss_one (ps_ret (pv 5)))))))))), ?_⟩
    have hi : i < ns.length := by omega
    refine q_drop (ev_call1 (ea_cons (ev_var rfl) ea_nil) (sv_refuse_no_row hS hR)) fun H1 e1 => ?_
    refine q_drop (ev_call1 (ea_cons (ev_var rfl) (ea_cons (ev_var rfl) ea_nil)) (sv_refuse_no_evening (ex_l e1 hS) (ex_t e1 hT) hij hj hok)) fun H2 e2 => ?_
    refine q_unpack2 (ev_var rfl) (ex_t (e1.trans e2) hT) fun H3 e3 => ?_
    have e03 := (e1.trans e2).trans e3
    have hS3 := ex_l e03 hS
    refine q_asg (v := .int (halfL ns i j)) (ev_fdiv (ev_add (ev_ixL (ev_var rfl) (ev_var rfl) hS3 (int_at hi)) (ev_ixL (ev_var rfl) (ev_var rfl) hS3 (int_at hj))) ev_c ⟨by decide, by decide⟩) fun H4 e4 => ?_
    refine q_asgL (el_list (ev_var rfl) (ex_l e4 hS3)) fun p H5 hp e5 h5 => ?_
    have hpH : H p = none := fresh_back (e03.trans e4) hp
    have e05 := (e03.trans e4).trans e5
    refine q_setL (j := i) (v := .int (halfL ns i j)) h5 (ev_var rfl) (ev_var rfl) (ev_var rfl) (by rw [List.length_map]; exact hi) fun H6 e6 => ?_
    refine q_setL (j := j) (v := .int (halfL ns i j)) (xs := (ns.map V.int).set i (.int (halfL ns i j))) upd_same (ev_var rfl) (ev_var rfl) (ev_var rfl) (by rw [List.length_set, List.length_map]; exact hj) fun H7 e7 => ?_
    have e07 := (Ex.mut (e05.trans e6) hpH (o := .lst ((ns.map V.int).set i (.int (halfL ns i j))))).trans e7
    refine s_ret (ev_var rfl) fun H8 e8 => q p H8 hpH ((Ex.mut e07 hpH).trans e8) (e8 _ _ ?_)
    rw [upd_same]
    unfold evL
    rw [List.map_set, List.map_set]
theorem ok_settled {f : Addr} {fd : FuncData} (F : Fun K "settled" "settled" s_settled f fd) (B : Bi mg) {f_evenings : Addr} {fd_evenings : FuncData} (C_evenings : Cal P w K mg base CX0 5 "evenings" P_evenings (sp_evenings K) f_evenings fd_evenings) : FnOk P w K mg base CX0 6 f fd P_settled (sp_settled K) := by
  refine F.ok sc_settled (fun vs H Q E h => ?_) (fun cdv A outer s H vs Q E hr h => ?_)
  · obtain ⟨a, ns, rfl, hS, hR, q⟩ := h
    rfl
  · obtain ⟨a, ns, rfl, hS, hR, q⟩ := h
    refine ⟨_, (pss_one (ps_ret (pe_cmpR op_eq (pe_callB call_len_seq (by rfl) B.len_ (by decide +kernel) (pa_cons (pe_call C_evenings.ok (hr.mono (by decide)) (by rfl) C_evenings.g C_evenings.kp C_evenings.b .nil pass0 (pa_cons (pv 0) pa_nil)) pa_nil)) pe_int (nomark _)))), ?_⟩
    refine (tn_call (ea_cons (ev_var rfl) ea_nil) (sn_evenings hS hR)) H (Ex.refl H) _ fun p H1 hp e1 hP => ?_
    obtain ⟨rs, hl, hr⟩ := hP
    refine ⟨p, rs, rfl, .inl (SqL.of hl), rfl, ?_⟩
    have e : decide (V.int (rs.length : Int) = V.int 0) = decide (canL ns = []) := by
      rw [hr.length]
      refine decide_eq_decide.mpr ⟨fun h => ?_, fun h => by rw [h]; rfl⟩
      have := V.int.inj h
      exact List.length_eq_zero_iff.mp (by omega)
    rw [e]
    exact q H1 e1
theorem ok_fall {f : Addr} {fd : FuncData} (F : Fun K "fall" "fall" s_fall f fd) (B : Bi mg) {f_refuse_no_evening : Addr} {fd_refuse_no_evening : FuncData} (C_refuse_no_evening : Cal P w K mg base CX0 3 "refuse_no_evening" P_refuse_no_evening (sp_refuse_no_evening K) f_refuse_no_evening fd_refuse_no_evening) {f_refuse_no_row : Addr} {fd_refuse_no_row : FuncData} (C_refuse_no_row : Cal P w K mg base CX0 4 "refuse_no_row" P_refuse_no_row (sp_refuse_no_row K) f_refuse_no_row fd_refuse_no_row) : FnOk P w K mg base CX0 5 f fd P_fall (sp_fall K) := by
  refine F.ok sc_fall (fun vs H Q E h => ?_) (fun cdv A outer s H vs Q E hr h => ?_)
  · obtain ⟨a, t, ns, i, j, rfl, hS, hR, hT, hij, hj, hok, q⟩ := h
    rfl
  · obtain ⟨a, t, ns, i, j, rfl, hS, hR, hT, hij, hj, hok, q⟩ := h
    refine ⟨_, (pss_cons (ps_expr (pe_call C_refuse_no_row.ok (hr.mono (by decide)) (by rfl) C_refuse_no_row.g C_refuse_no_row.kp C_refuse_no_row.b .nil pass0 (pa_cons (pv 0) pa_nil))) (pss_cons (ps_expr (pe_call C_refuse_no_evening.ok (hr.mono (by decide)) (by rfl) C_refuse_no_evening.g C_refuse_no_evening.kp C_refuse_no_evening.b .nil pass0 (pa_cons (pv 0) (pa_cons (pv 1) pa_nil)))) (pss_cons (ps_asg (pv 1) (pg_tup (by rfl) (pgs_cons (pg_name (i := 2) sc_fall.nd rfl (Or.inl rfl)) (pgs_cons (pg_name (i := 3) sc_fall.nd rfl (Or.inl rfl)) pgs_nil)))) (pss_cons (ps_set (i := 4) sc_fall.nd rfl (Or.inl rfl) (pe_op op_sub (pe_ix ix_list (pv 0) (pv 3) (fun _ _ => rfl)) (pe_ix ix_list (pv 0) (pv 2) (fun _ _ => rfl)))) (pss_one (ps_ret (pe_op op_fdiv (pe_op op_mulO (pv 4) (pv 4)) pe_int))))))), ?_⟩
    have hi : i < ns.length := by omega
    refine q_drop (ev_call1 (ea_cons (ev_var rfl) ea_nil) (sv_refuse_no_row hS hR)) fun H1 e1 => ?_
    refine q_drop (ev_call1 (ea_cons (ev_var rfl) (ea_cons (ev_var rfl) ea_nil)) (sv_refuse_no_evening (ex_l e1 hS) (ex_t e1 hT) hij hj hok)) fun H2 e2 => ?_
    refine q_unpack2 (ev_var rfl) (ex_t (e1.trans e2) hT) fun H3 e3 => ?_
    have e03 := (e1.trans e2).trans e3
    have hS3 := ex_l e03 hS
    have b1 := hR.get hi
    have b2 := hR.get hj
    refine q_asg (ev_sub (ev_ixL (ev_var rfl) (ev_var rfl) hS3 (int_at hj)) (ev_ixL (ev_var rfl) (ev_var rfl) hS3 (int_at hi))) fun H4 e4 => ?_
    exact s_ret (ev_fdiv (ev_mul (ev_var rfl) (ev_var rfl) (IntMulOk.of_left (intBits_le_64 (by omega) (by omega)))) ev_c ⟨by decide, by decide⟩) fun H5 e5 => q H5 ((e03.trans e4).trans e5)
theorem ok__law_cell_at {f : Addr} {fd : FuncData} (F : Fun K "_law_cell_at" "_law_cell_at" s__law_cell_at f fd) (B : Bi mg)  : FnOk P w K mg base CX0 1 f fd P__law_cell_at (sp__law_cell_at K) := by
  refine F.ok sc__law_cell_at (fun vs H Q E h => ?_) (fun cdv A outer s H vs Q E hr h => ?_)
  · obtain ⟨a, ns, k, rfl, hS, hk, q⟩ := h
    rfl
  · obtain ⟨a, ns, k, rfl, hS, hk, q⟩ := h
    refine ⟨_, (pss_cons (ps_if (pt_cmpR op_lt (pv 1) (pe_callB call_len_seq (by rfl) B.len_ (by decide +kernel) (pa_cons (pv 0) pa_nil)) (nomark _)) (pss_one (ps_ret (pe_ix ix_list (pv 0) (pv 1) (fun _ _ => rfl)))) pss_nil) (pss_one (ps_ret pe_int))), ?_⟩
    refine q_when (et_test (ev_lt (ev_var rfl) (ev_lenL (ev_var rfl) hS))) (fun hb H1 e1 => ?_) (fun hb H1 e1 => ?_)
    · have hb2 := of_decide_eq_true hb
      rw [List.length_map] at hb2
      have hk2 : k.toNat < ns.length := by omega
      refine s_ret (ev_ixL (v := .int (cellF ns k)) (ev_var rfl) (ev_var rfl) (ex_l e1 hS) ?_) fun H2 e2 => q H2 (e1.trans e2)
      have e : (k.toNat : Int) = k := Int.toNat_of_nonneg hk
      rw [← e]
      refine atI_nat ?_
      rw [List.getElem?_map, gD_at hk2]
      unfold cellF
      rw [e]
      rfl
    · have hb2 := of_decide_eq_false hb
      rw [List.length_map] at hb2
      have e : cellF ns k = 0 := by
        unfold cellF
        rw [List.getD_eq_getElem?_getD, List.getElem?_eq_none (by omega)]
        rfl
      rw [e] at q
      exact s_ret ev_c fun H2 e2 => q H2 (e1.trans e2)
theorem ok__law_draw {f : Addr} {fd : FuncData} (F : Fun K "_law_draw" "_law_draw" s__law_draw f fd) (B : Bi mg)  : FnOk P w K mg base CX0 1 f fd P__law_draw (sp__law_draw K) := by
  refine F.ok sc__law_draw (fun vs H Q E h => ?_) (fun cdv A outer s H vs Q E hr h => ?_)
  · obtain ⟨c, k, m, rfl, hk, hm, q⟩ := h
    rfl
  · obtain ⟨c, k, m, rfl, hk, hm, q⟩ := h
    refine ⟨_, (pss_cons (ps_set (i := 3) sc__law_draw.nd rfl (Or.inl rfl) (pe_tup (pa_cons pe_int (pa_cons pe_int (pa_cons pe_int (pa_cons pe_int (pa_cons pe_int (pa_cons pe_int (pa_cons pe_int (pa_cons pe_int (pa_cons pe_int (pa_cons pe_int (pa_cons pe_int (pa_cons pe_int (pa_cons pe_int (pa_cons pe_int (pa_cons pe_int (pa_cons pe_int pa_nil)))))))))))))))))) (pss_one (ps_ret (pe_op op_mod (pe_op op_mod (pe_op op_add (pe_op op_mulO (pv 0) pe_int) (pe_op op_mulO (pv 1) pe_int)) (pe_ix ix_tup (pv 3) (pe_op op_mod (pv 1) pe_int) (fun _ _ => rfl))) (pv 2))))), ?_⟩
    refine q_asgU (xs := primesL.map V.int) (eu_tup ?_ (by decide)) fun p H1 hp e1 h1 => ?_
    · exact ea_cons ev_c (ea_cons ev_c (ea_cons ev_c (ea_cons ev_c (ea_cons ev_c (ea_cons ev_c (ea_cons ev_c (ea_cons ev_c (ea_cons ev_c (ea_cons ev_c (ea_cons ev_c (ea_cons ev_c (ea_cons ev_c (ea_cons ev_c (ea_cons ev_c (ea_cons ev_c ea_nil)))))))))))))))
    · obtain ⟨pp, pa⟩ := prime_pos (k := k % 16) (Int.emod_nonneg _ (by decide)) (Int.emod_lt_of_pos _ (by decide))
      refine s_ret (ev_mod (ev_mod (ev_add (ev_mul (ev_var rfl) ev_c (IntMulOk.of_right (by decide))) (ev_mul (ev_var rfl) ev_c (IntMulOk.of_right (by decide)))) (ev_ixT (ev_var rfl) (ev_mod (ev_var rfl) ev_c (by decide)) (SqT.of h1) pa) pp) (ev_var rfl) hm) fun H2 e2 => q H2 (e1.trans e2)
theorem ok__law_value {f : Addr} {fd : FuncData} (F : Fun K "_law_value" "_law_value" s__law_value f fd) (B : Bi mg) {f__law_draw : Addr} {fd__law_draw : FuncData} (C__law_draw : Cal P w K mg base CX0 1 "_law_draw" P__law_draw (sp__law_draw K) f__law_draw fd__law_draw) : FnOk P w K mg base CX0 2 f fd P__law_value (sp__law_value K) := by
  refine F.ok sc__law_value (fun vs H Q E h => ?_) (fun cdv A outer s H vs Q E hr h => ?_)
  · obtain ⟨c, t, rfl, hc, h0, h1, q⟩ := h
    rfl
  · obtain ⟨c, t, rfl, hc, h0, h1, q⟩ := h
    refine ⟨_, (pss_cons (ps_if (pt_cmpR op_ge (pv 0) (pe_op op_pow pe_int pe_int) (nomark _)) (pss_one (ps_ret (pe_op op_shr (pe_op op_sub (pv 0) (pe_op op_pow pe_int pe_int)) (pe_op op_mulO pe_int (pv 1))))) pss_nil) (pss_cons (ps_set (i := 2) sc__law_value.nd rfl (Or.inl rfl) (pe_call C__law_draw.ok (hr.mono (by decide)) (by rfl) C__law_draw.g C__law_draw.kp C__law_draw.b .nil pass0 (pa_cons (pe_op op_mulO (pe_op op_add (pv 0) (pe_op op_mulO pe_int (pv 1))) (pe_op op_add (pe_op op_add (pv 0) (pe_op op_mulO pe_int (pv 1))) pe_int)) (pa_cons (pe_op op_add (pe_op op_mod (pv 1) pe_int) pe_int) (pa_cons pe_int pa_nil))))) (pss_one (ps_ret (pe_op op_add (pe_op op_mulO (pv 2) pe_int) (pe_call C__law_draw.ok (hr.mono (by decide)) (by rfl) C__law_draw.g C__law_draw.kp C__law_draw.b .nil pass0 (pa_cons (pe_op op_add (pe_op op_mulO (pe_op op_add (pv 0) (pe_op op_mulO pe_int (pv 1))) (pe_op op_add (pv 0) pe_int)) (pe_op op_mulO pe_int (pv 1))) (pa_cons (pe_op op_add (pe_op op_mod (pv 1) pe_int) pe_int) (pa_cons pe_int pa_nil))))))))), ?_⟩
    have ep : Ev (tOp (rI CPow fun i j => .int (i ^ j.toNat)) (tC (.int 10)) (tC (.int 18))) [some (.int c), some (.int t), none] H (.int ((10 : Int) ^ (18 : Int).toNat)) := ev_pow ev_c ev_c ⟨by decide, by decide, by decide⟩
    refine q_when (et_test (ev_ge (ev_var rfl) ep)) (fun hb H1 e1 => ?_) (fun hb H1 e1 => ?_)
    · have hb2 : c ≥ (10 : Int) ^ (18 : Int).toNat := of_decide_eq_true hb
      have ev : valueF c t = (c - (10 : Int) ^ (18 : Int).toNat) / 2 ^ (3 * t).toNat := by
        unfold valueF
        rw [if_pos hb2]
      rw [ev] at q
      exact s_ret (ev_shr (ev_sub (ev_var rfl) (Ev.mono e1 ep)) (ev_mul ev_c (ev_var rfl) (IntMulOk.of_left (by decide))) (by omega)) fun H2 e2 => q H2 (e1.trans e2)
    · have hb2 : ¬ c ≥ (10 : Int) ^ (18 : Int).toNat := of_decide_eq_false hb
      have ev : valueF c t = drawF ((c + 977 * t) * (c + 31 * t + 5)) (t % 9 + 1) 999983 * 1000003 + drawF ((c + 31 * t) * (c + 7) + 977 * t) (t % 7 + 2) 1000003 := by
        unfold valueF
        rw [if_neg hb2]
      rw [ev] at q
      have b9 := Int.emod_nonneg t (show (9 : Int) ≠ 0 by decide)
      have b7 := Int.emod_nonneg t (show (7 : Int) ≠ 0 by decide)
      have s1 : ∀ z : Int, 0 ≤ z → z ≤ 1000000 → Bt 1100000 z := fun z z0 z1 => Bt.mono (Bt.small (by omega) (by omega)) (by decide)
      have m1 : IntMulOk (c + 977 * t) (c + 31 * t + 5) := mulOk (Bt.add hc (s1 _ (by omega) (by omega))) (Bt.add (Bt.add hc (s1 _ (by omega) (by omega))) (Bt.mono (s1 5 (by decide) (by decide)) (by decide))) (by decide)
      have m2 : IntMulOk (c + 31 * t) (c + 7) := mulOk (Bt.add hc (s1 _ (by omega) (by omega))) (Bt.add hc (s1 7 (by decide) (by decide))) (by decide)
      have ml : ∀ (a : Int), IntMulOk 977 a := fun a => IntMulOk.of_left (by decide)
      have ml2 : ∀ (a : Int), IntMulOk 31 a := fun a => IntMulOk.of_left (by decide)
      refine q_asg (ev_call1 (ea_cons (ev_mul (ev_add (ev_var rfl) (ev_mul ev_c (ev_var rfl) (ml _))) (ev_add (ev_add (ev_var rfl) (ev_mul ev_c (ev_var rfl) (ml2 _))) ev_c) m1) (ea_cons (ev_add (ev_mod (ev_var rfl) ev_c (by decide)) ev_c) (ea_cons ev_c ea_nil))) (sv__law_draw (by omega) (by decide))) fun H2 e2 => ?_
      exact s_ret (ev_add (ev_mul (ev_var rfl) ev_c (IntMulOk.of_right (by decide))) (ev_call1 (ea_cons (ev_add (ev_mul (ev_add (ev_var rfl) (ev_mul ev_c (ev_var rfl) (ml2 _))) (ev_add (ev_var rfl) ev_c) m2) (ev_mul ev_c (ev_var rfl) (ml _))) (ea_cons (ev_add (ev_mod (ev_var rfl) ev_c (by decide)) ev_c) (ea_cons ev_c ea_nil))) (sv__law_draw (by omega) (by decide)))) fun H3 e3 => q H3 ((e1.trans e2).trans e3)
theorem ok__law_whole {f : Addr} {fd : FuncData} (F : Fun K "_law_whole" "_law_whole" s__law_whole f fd) (B : Bi mg)  : FnOk P w K mg base CX0 1 f fd P__law_whole (sp__law_whole K) := by
  refine F.ok sc__law_whole (fun vs H Q E h => ?_) (fun cdv A outer s H vs Q E hr h => ?_)
  · obtain ⟨i, rfl, q⟩ := h
    rfl
  · obtain ⟨i, rfl, q⟩ := h
    refine ⟨_, (pss_one (ps_ret (pe_and (pe_callB call_isi (by rfl) B.isinstance_ (by decide +kernel) (pa_cons (pv 0) (pa_cons (pe_bltn (v := .ty "int") (by rfl) B.int_ (by decide +kernel) rfl) pa_nil))) (pe_one (pe_not (pe_callB call_isi (by rfl) B.isinstance_ (by decide +kernel) (pa_cons (pv 0) (pa_cons (pe_bltn (v := .ty "bool") (by rfl) B.bool_ (by decide +kernel) rfl) pa_nil)))))))), ?_⟩
    exact s_ret (ev_andV (a := true) (b := !false) (ev_int1 (ev_var rfl) ev_c) fun _ => ev_notV (ev_int2 (ev_var rfl) ev_c)) q
theorem ok__law_says {f : Addr} {fd : FuncData} (F : Fun K "_law_says" "_law_says" s__law_says f fd) (B : Bi mg)  : FnOk P w K mg base CX0 1 f fd P__law_says (sp__law_says K) := by
  refine F.ok sc__law_says (fun vs H Q E h => ?_) (fun cdv A outer s H vs Q E hr h => ?_)
  · obtain ⟨a, b, rfl, q⟩ := h
    rfl
  · obtain ⟨a, b, rfl, q⟩ := h
    refine ⟨_, (pss_one (ps_ret (pe_and (pe_callB call_isi (by rfl) B.isinstance_ (by decide +kernel) (pa_cons (pv 0) (pa_cons (pe_bltn (v := .ty "bool") (by rfl) B.bool_ (by decide +kernel) rfl) pa_nil))) (pe_one (pe_cmpR op_eq (pv 0) (pv 1) (nomark _)))))), ?_⟩
    exact s_ret (ev_andV (a := true) (b := a == b) (ev_bl2 (ev_var rfl) ev_c) fun _ => ev_eqB (ev_var rfl) (ev_var rfl)) q
theorem ok__law_row {f : Addr} {fd : FuncData} (F : Fun K "_law_row" "_law_row" s__law_row f fd) (B : Bi mg) {f__law_cell_at : Addr} {fd__law_cell_at : FuncData} (C__law_cell_at : Cal P w K mg base CX0 1 "_law_cell_at" P__law_cell_at (sp__law_cell_at K) f__law_cell_at fd__law_cell_at) {f__law_value : Addr} {fd__law_value : FuncData} (C__law_value : Cal P w K mg base CX0 2 "_law_value" P__law_value (sp__law_value K) f__law_value fd__law_value) : FnOk P w K mg base CX0 3 f fd P__law_row (sp__law_row K) := by
  refine F.ok sc__law_row (fun vs H Q E h => ?_) (fun cdv A outer s H vs Q E hr h => ?_)
  · obtain ⟨a, ns, by_, m, g, rfl, hS, hC, h0, h1, hm, hm2, hg, hg2, q⟩ := h
    rfl
  · obtain ⟨a, ns, by_, m, g, rfl, hS, hC, h0, h1, hm, hm2, hg, hg2, q⟩ := h
    refine ⟨_, (pss_cons (ps_set (i := 4) sc__law_row.nd rfl (Or.inl rfl) (pe_call C__law_cell_at.ok (hr.mono (by decide)) (by rfl) C__law_cell_at.g C__law_cell_at.kp C__law_cell_at.b .nil pass0 (pa_cons (pv 0) (pa_cons (pv 1) pa_nil)))) (pss_cons (ps_par (i := 5) (j := 6) (by rfl) sc__law_row.nd rfl rfl (by decide) rfl rfl (pa_cons (pe_ix ix_tup (pe_tup (pa_cons (pv 3) (pa_cons pe_int (pa_cons (pe_op op_fdiv (pv 3) pe_int) (pa_cons pe_int pa_nil))))) (pe_op op_mod (pe_call C__law_value.ok (hr.mono (by decide)) (by rfl) C__law_value.g C__law_value.kp C__law_value.b .nil pass0 (pa_cons (pv 4) (pa_cons pe_int pa_nil))) pe_int) (fun _ _ => rfl)) (pa_cons (pe_ix ix_tup (pe_tup (pa_cons pe_int (pa_cons pe_int (pa_cons pe_int (pa_cons pe_int pa_nil))))) (pe_op op_mod (pe_call C__law_value.ok (hr.mono (by decide)) (by rfl) C__law_value.g C__law_value.kp C__law_value.b .nil pass0 (pa_cons (pv 4) (pa_cons pe_int pa_nil))) pe_int) (fun _ _ => rfl)) pa_nil)) (by rfl)) (pss_cons (ps_set (i := 7) sc__law_row.nd rfl (Or.inl rfl) (pe_lst pa_nil)) (pss_cons (ps_for PassesOwn.never rfl (pi_range1 (by rfl) B.range_ (pa_cons (pe_op op_add pe_int (pe_op op_mod (pe_call C__law_value.ok (hr.mono (by decide)) (by rfl) C__law_value.g C__law_value.kp C__law_value.b .nil pass0 (pa_cons (pv 4) (pa_cons pe_int pa_nil))) (pv 2))) pa_nil)) (pg_name (i := 8) sc__law_row.nd rfl (Or.inl rfl)) (pss_cons (ps_set (i := 9) sc__law_row.nd rfl (Or.inl rfl) (pe_op op_fdiv (pe_call C__law_value.ok (hr.mono (by decide)) (by rfl) C__law_value.g C__law_value.kp C__law_value.b .nil pass0 (pa_cons (pe_op op_add (pe_call C__law_cell_at.ok (hr.mono (by decide)) (by rfl) C__law_cell_at.g C__law_cell_at.kp C__law_cell_at.b .nil pass0 (pa_cons (pv 0) (pa_cons (pe_op op_add (pv 1) (pe_op op_mod (pv 8) pe_int)) pa_nil))) (pe_op op_mulO pe_int (pv 8))) (pa_cons (pe_op op_add pe_int (pe_op op_mod (pv 8) pe_int)) pa_nil))) pe_int)) (pss_one (ps_expr (pe_bm PySem.F.plainAttrs_list PySem.F.slot_list_append PySem.F.type_list_append mt_append (pv 7) (pa_cons (pe_callB (call_min2 rfl) (by rfl) B.min_ (by decide +kernel) (pa_cons (pv 3) (pa_cons (pe_op op_mulO (pe_op op_mod (pv 9) (pe_op op_add (pv 5) pe_int)) (pv 6)) pa_nil))) pa_nil)))))) (pss_one (ps_ret (pv 7))))))), ?_⟩
    have hb := cellF_bt (k := by_) hC
    have hbc : ∀ k z : Int, 0 ≤ z → z ≤ 1000000 → Bt 1100000 (cellF ns k + z) := fun k z z0 z1 => Bt.mono (Bt.add (cellF_bt (k := k) hC) (Bt.mono (Bt.small (by omega) (by omega)) (by decide))) (by decide)
    have hb2 : Bt 1100000 (cellF ns by_) := Bt.mono hb (by decide)
    refine q_asg (ev_call1 (ea_cons (ev_var rfl) (ea_cons (ev_var rfl) ea_nil)) (sv__law_cell_at hS h0)) fun H1 e1 => ?_
    have v4 := Int.emod_nonneg (valueF (cellF ns by_) 1) (show (4 : Int) ≠ 0 by decide)
    have v4' := Int.emod_lt_of_pos (valueF (cellF ns by_) 1) (show (0 : Int) < 4 by decide)
    have wp := wideF_pos (c := cellF ns by_) hg
    have spp := stepF_pos (c := cellF ns by_)
    have evk : ∀ H1, Ev (tOp (rI (fun _ j => 0 < j) fun i j => .int (i % j)) (tCall (sp__law_value K) [] E0 (tCons (tVar 4) (tCons (tC (.int 1)) tNil))) (tC (.int 4))) ([some (.ref a), some (.int by_), some (.int m), some (.int g), some (.int (cellF ns by_)), none, none, none, none, none] : L2.St) H1 (.int (valueF (cellF ns by_) 1 % 4)) := fun H1 => ev_mod (ev_call1 (ea_cons (ev_var rfl) (ea_cons ev_c ea_nil)) (sv__law_value hb2 (by decide) (by decide))) ev_c (by decide)
    have w1 : atI [V.int g, V.int 3, V.int (g / 2), V.int 1] (valueF (cellF ns by_) 1 % 4) = some (.int (wideF (cellF ns by_) g)) := by
      rw [four_at v4 v4']
      unfold wideF
      split
      · rfl
      · split
        · rfl
        · split <;> rfl
    have w2 : atI [V.int 1, V.int 1, V.int 2, V.int 4] (valueF (cellF ns by_) 1 % 4) = some (.int (stepF (cellF ns by_))) := by
      rw [four_at v4 v4']
      unfold stepF
      split
      · rfl
      · split
        · rfl
        · split <;> rfl
    refine q_par (v := .int (wideF (cellF ns by_) g)) (w := .int (stepF (cellF ns by_))) (ea_cons (ev_ixU (eu_tup (ea_cons (ev_var rfl) (ea_cons ev_c (ea_cons (ev_fdiv (ev_var rfl) ev_c ⟨by decide, by decide⟩) (ea_cons ev_c ea_nil)))) (by decide : 4 ≤ 100000)) (fun H1 _ => evk H1) w1) (ea_cons (ev_ixU (eu_tup (ea_cons ev_c (ea_cons ev_c (ea_cons ev_c (ea_cons ev_c ea_nil)))) (by decide : 4 ≤ 100000)) (fun H1 _ => evk H1) w2) ea_nil)) fun H2 e2 => ?_
    refine q_asgL (el_lst ea_nil (by decide)) fun p H3 hp e3 h3 => ?_
    have e13 : Ex H H3 := (e1.trans e2).trans e3
    have hpH : H p = none := fresh_back (e1.trans e2) hp
    have vm := Int.emod_nonneg (valueF (cellF ns by_) 2) (show m ≠ 0 by omega)
    have vm' := Int.emod_lt_of_pos (valueF (cellF ns by_) 2) hm
    refine q_forR1 (n := 1 + valueF (cellF ns by_) 2 % m) (ea_cons (ev_add ev_c (ev_mod (ev_call1 (ea_cons (ev_var rfl) (ea_cons ev_c ea_nil)) (sv__law_value hb2 (by decide) (by decide))) (ev_var rfl) hm)) ea_nil) ⟨by omega, by omega⟩
      (fun i σ' H' => ∃ y8 y9, σ' = [some (.ref a), some (.int by_), some (.int m), some (.int g), some (.int (cellF ns by_)), some (.int (wideF (cellF ns by_) g)), some (.int (stepF (cellF ns by_))), some (.ref p), y8, y9] ∧ Ex H H' ∧ H' p = some (.lst (((List.range i).map fun i : Nat => putF1 ns by_ g i).map V.int)))
      (fun H4 e4 => ⟨_, _, rfl, e13.trans e4, e4 _ _ h3⟩) (fun i σ' H' hi hP => ?_) (fun σ' H' hP => ?_)
    · obtain ⟨y8, y9, rfl, eH, hl⟩ := hP
      have hi2 : (i : Int) ≤ 12 := by omega
      have a5 := Int.emod_nonneg (i : Int) (show (5 : Int) ≠ 0 by decide)
      have a6 := Int.emod_nonneg (i : Int) (show (6 : Int) ≠ 0 by decide)
      have a6' := Int.emod_lt_of_pos (i : Int) (show (0 : Int) < 6 by decide)
      refine q_asg (v := .int (numF ns by_ g i)) (ev_fdiv (ev_call1 (ea_cons (ev_add (ev_call1 (ea_cons (ev_var rfl) (ea_cons (ev_add (ev_var rfl) (ev_mod (ev_var rfl) ev_c (by decide))) ea_nil)) (sv__law_cell_at (ex_l eH hS) (by omega))) (ev_mul ev_c (ev_var rfl) (IntMulOk.of_left (by decide)))) (ea_cons (ev_add ev_c (ev_mod (ev_var rfl) ev_c (by decide))) ea_nil)) (sv__law_value (hbc _ _ (by omega) (by omega)) (by omega) (by omega))) ev_c ⟨by decide, by decide⟩) fun H4 e4 => ?_
      refine s_app (e4 _ _ hl) (ev_var rfl) (v := .int (putF1 ns by_ g i)) (ev_min2 (ev_var rfl) (ev_mul (ev_mod (ev_var rfl) (ev_add (ev_var rfl) ev_c) (by omega)) (ev_var rfl) (IntMulOk.of_right (intBits_le_64 (by omega) (by omega))))) ?_ fun H5 e5 => ?_
      · rw [List.length_map, List.length_map, List.length_range]
        omega
      · refine ⟨_, _, rfl, Ex.mut ((eH.trans e4).trans e5) hpH, ?_⟩
        rw [upd_same, List.range_succ, List.map_append, List.map_append]
        rfl
    · obtain ⟨y8, y9, rfl, eH, hl⟩ := hP
      exact s_ret (ev_var rfl) fun H4 e4 => q p H4 hpH (eH.trans e4) (e4 _ _ hl)
theorem ok__law_can {f : Addr} {fd : FuncData} (F : Fun K "_law_can" "_law_can" s__law_can f fd) (B : Bi mg)  : FnOk P w K mg base CX0 1 f fd P__law_can (sp__law_can K) := by
  refine F.ok sc__law_can (fun vs H Q E h => ?_) (fun cdv A outer s H vs Q E hr h => ?_)
  · obtain ⟨a, ns, rfl, hS, hlen, q⟩ := h
    rfl
  · obtain ⟨a, ns, rfl, hS, hlen, q⟩ := h
    refine ⟨_, (pss_cons (ps_set (i := 1) sc__law_can.nd rfl (Or.inl rfl) (pe_lst pa_nil)) (pss_cons (ps_for PassesOwn.never rfl (pi_range1 (by rfl) B.range_ (pa_cons (pe_callB call_len_seq (by rfl) B.len_ (by decide +kernel) (pa_cons (pv 0) pa_nil)) pa_nil)) (pg_name (i := 2) sc__law_can.nd rfl (Or.inl rfl)) (pss_one (ps_for PassesOwn.never rfl (pi_range1 (by rfl) B.range_ (pa_cons (pv 2) pa_nil)) (pg_name (i := 3) sc__law_can.nd rfl (Or.inl rfl)) (pss_one (ps_if (PW.pt (pw_and (pt_cmpR op_ne (pe_ix ix_list (pv 0) (pv 3) (fun _ _ => rfl)) (pe_ix ix_list (pv 0) (pv 2) (fun _ _ => rfl)) (nomark _)) (pw_and1 (pt_cmpR op_eq (pe_op op_mod (pe_ix ix_list (pv 0) (pv 3) (fun _ _ => rfl)) pe_int) (pe_op op_mod (pe_ix ix_list (pv 0) (pv 2) (fun _ _ => rfl)) pe_int) (nomark _))))) (pss_one (ps_expr (pe_bm PySem.F.plainAttrs_list PySem.F.slot_list_append PySem.F.type_list_append mt_append (pv 1) (pa_cons (pe_tup (pa_cons (pv 3) (pa_cons (pv 2) pa_nil))) pa_nil)))) pss_nil))))) (pss_one (ps_ret (pe_callB cr_sortedPO (by rfl) B.sorted_ (by decide +kernel) (pa_cons (pv 1) pa_nil)))))), ?_⟩
    refine q_asgL (el_lst ea_nil (by decide)) fun p H1 hp e1 h1 => ?_
    refine q_forR1 (n := (ns.length : Int)) (ea_cons (ev_is (ev_lenL (ev_var rfl) (ex_l e1 hS)) (by rw [List.length_map])) ea_nil) ⟨by omega, by omega⟩
      (fun j σ' H' => ∃ y2 y3, σ' = [some (.ref a), some (.ref p), y2, y3] ∧ Ex H H' ∧ IsP (lawUp ns j) p H')
      (fun H2 e2 => ⟨_, _, rfl, e1.trans e2, [], e2 _ _ h1, .nil⟩) (fun j σ' H' hj hP => ?_) (fun σ' H' hP => ?_)
    · obtain ⟨y2, y3, rfl, eH, rs, hl, hr⟩ := hP
      have hj2 : j < ns.length := by omega
      refine s_forR1 (n := (j : Int)) (ea_cons (ev_var rfl) ea_nil) ⟨by omega, by omega⟩
        (fun i σ' H' => ∃ y3, σ' = [some (.ref a), some (.ref p), some (.int (j : Int)), y3] ∧ Ex H H' ∧ IsP (lawUp ns j ++ lawRow ns j i) p H')
        (fun H2 e2 => ⟨_, rfl, eH.trans e2, rs, e2 _ _ hl, by show Prs H2 rs (lawUp ns j ++ []); rw [List.append_nil]; exact Prs.mono e2 hr⟩) (fun i σ' H' hi hP => ?_) (fun σ' H' hP => ?_)
      · obtain ⟨y3, rfl, eH, rs, hl, hr⟩ := hP
        have hi2 : i < ns.length := by omega
        have hS2 := ex_l eH hS
        have hb : (!decide (ns.getD i 0 = ns.getD j 0) && decide (ns.getD i 0 % 2 = ns.getD j 0 % 2)) = okP ns i j := by
          unfold okP
          rw [Bool.eq_iff_iff, Bool.and_eq_true, Bool.and_eq_true, decide_eq_true_iff, decide_eq_true_iff]
          constructor
          · rintro ⟨h1, h2⟩
            exact ⟨h1, by omega⟩
          · rintro ⟨h1, h2⟩
            exact ⟨h1, by omega⟩
        refine s_when (b := okP ns i j) (et_is (et_and (et_test (ev_neI (ev_ixL (ev_var rfl) (ev_var rfl) hS2 (int_at hi2)) (ev_ixL (ev_var rfl) (ev_var rfl) hS2 (int_at hj2)))) fun _ => et_test (ev_eqI (ev_mod (ev_ixL (ev_var rfl) (ev_var rfl) hS2 (int_at hi2)) ev_c (by decide)) (ev_mod (ev_ixL (ev_var rfl) (ev_var rfl) hS2 (int_at hj2)) ev_c (by decide)))) hb) (fun hok H2 e2 => ?_) (fun hok H2 e2 => ?_)
        · refine s_appU (e2 _ _ hl) (ev_var rfl) (eu_tup (ea_cons (ev_var rfl) (ea_cons (ev_var rfl) ea_nil)) (by decide : 2 ≤ 100000)) ?_ fun t H3 ht e3 h3 => ?_
          · have l1 := hr.length
            have l2 := lawUp_len ns j (by omega)
            have l3 := lawRow_len ns j i
            rw [List.length_append] at l1
            omega
          · have hp3 : H p = none := hp
            have hl3 := e3 _ _ (e2 _ _ hl)
            refine ⟨_, rfl, Ex.mut ((eH.trans e2).trans e3) hp, _, upd_same, ?_⟩
            rw [lawRow_yes hok, ← List.append_assoc]
            refine Prs.upd hl3 (Prs.app (Prs.mono (e2.trans e3) hr) (.cons ⟨t, rfl, h3⟩ .nil))
        · refine ⟨_, rfl, eH.trans e2, rs, e2 _ _ hl, ?_⟩
          rw [lawRow_no hok]
          exact Prs.mono e2 hr
      · obtain ⟨y3, rfl, eH, rs, hl, hr⟩ := hP
        refine ⟨_, _, rfl, eH, rs, hl, ?_⟩
        rw [lawUp_succ]
        exact hr
    · obtain ⟨y2, y3, rfl, eH, rs, hl, hr⟩ := hP
      have e0 : (ns.length : Int).toNat = ns.length := by omega
      rw [e0] at hr
      refine ⟨_, rfl, p, rs, keyV H', rfl, SqL.of hl, fun x hx => ?_, fun ys r hs hst hr2 => ?_⟩
      · obtain ⟨pr, _, t, f1, f2⟩ := hr.mem x hx
        refine ⟨t, f1, ?_⟩
        rw [f1, keyV_at f2, f2]
      · exact q r _ (fresh_back eH hr2) (eH.trans (Ex.new hr2)) ⟨ys, upd_same, Prs.mono (Ex.new hr2) (prs_sorted hr hs hst.perm)⟩
theorem ok__law_evened {f : Addr} {fd : FuncData} (F : Fun K "_law_evened" "_law_evened" s__law_evened f fd) (B : Bi mg)  : FnOk P w K mg base CX0 1 f fd P__law_evened (sp__law_evened K) := by
  refine F.ok sc__law_evened (fun vs H Q E h => ?_) (fun cdv A outer s H vs Q E hr h => ?_)
  · obtain ⟨a, t, ns, i, j, rfl, hS, hT, hij, hj, q⟩ := h
    rfl
  · obtain ⟨a, t, ns, i, j, rfl, hS, hT, hij, hj, q⟩ := h
    refine ⟨_, (pss_cons (ps_set (i := 2) sc__law_evened.nd rfl (Or.inl rfl) (pe_callTy call_list_of (by rfl) B.list_ (by decide +kernel) (pa_cons (pv 0) pa_nil))) (pss_cons (ps_asg (pe_op op_fdiv (pe_op op_add (pe_ix ix_list (pv 0) (pe_ix ix_tup (pv 1) pe_int (fun _ _ => rfl)) (fun _ _ => rfl)) (pe_ix ix_list (pv 0) (pe_ix ix_tup (pv 1) pe_int (fun _ _ => rfl)) (fun _ _ => rfl))) pe_int) (pg_sub (pv 2) (pe_ix ix_tup (pv 1) pe_int (fun _ _ => rfl)) set_list)) (pss_cons (ps_asg (pe_ix ix_list (pv 2) (pe_ix ix_tup (pv 1) pe_int (fun _ _ => rfl)) (fun _ _ => rfl)) (pg_sub (pv 2) (pe_ix ix_tup (pv 1) pe_int (fun _ _ => rfl)) set_list)) (pss_one (ps_ret (pv 2)))))), ?_⟩
    have hi : i < ns.length := by omega
    refine q_asgL (el_list (ev_var rfl) hS) fun p H1 hp e1 h1 => ?_
    have hS1 := ex_l e1 hS
    have hT1 := ex_t e1 hT
    refine q_setL (j := i) (v := .int (halfL ns i j)) h1 (ev_fdiv (ev_add (ev_ixL (ev_var rfl) (ev_ixT (ev_var rfl) ev_c hT1 rfl) hS1 (int_at hi)) (ev_ixL (ev_var rfl) (ev_ixT (ev_var rfl) ev_c hT1 rfl) hS1 (int_at hj))) ev_c ⟨by decide, by decide⟩) (ev_var rfl) (ev_ixT (ev_var rfl) ev_c hT1 rfl) (by rw [List.length_map]; exact hi) fun H2 e2 => ?_
    have e02 : Ex H (upd H2 p (.lst ((ns.map V.int).set i (.int (halfL ns i j))))) := Ex.mut (e1.trans e2) hp
    have hT2 := ex_t e02 hT
    have em : (ns.map V.int).set i (V.int (halfL ns i j)) = (ns.set i (halfL ns i j)).map V.int := by rw [List.map_set]
    have hl2 : (upd H2 p (.lst ((ns.map V.int).set i (.int (halfL ns i j))))) p = some (.lst ((ns.set i (halfL ns i j)).map V.int)) := by rw [upd_same, em]
    refine q_setL (j := j) (v := .int (halfL ns i j)) hl2 (ev_ixL (ev_var rfl) (ev_ixT (ev_var rfl) ev_c hT2 rfl) (SqL.of hl2) ?_) (ev_var rfl) (ev_ixT (ev_var rfl) ev_c hT2 rfl) (by rw [List.length_map, List.length_set]; exact hj) fun H3 e3 => ?_
    · refine atI_nat ?_
      rw [List.getElem?_map, List.getElem?_set_self (by exact hi)]
      rfl
    · refine s_ret (ev_var rfl) fun H4 e4 => q p H4 hp ((Ex.mut (e02.trans e3) hp).trans e4) (e4 _ _ ?_)
      rw [upd_same]
      unfold evL
      simp only [List.map_set]
theorem ok_law {f : Addr} {fd : FuncData} (F : Fun K "law" "law" s_law f fd) (B : Bi mg) {f__law_can : Addr} {fd__law_can : FuncData} (C__law_can : Cal P w K mg base CX0 1 "_law_can" P__law_can (sp__law_can K) f__law_can fd__law_can) {f__law_evened : Addr} {fd__law_evened : FuncData} (C__law_evened : Cal P w K mg base CX0 1 "_law_evened" P__law_evened (sp__law_evened K) f__law_evened fd__law_evened) {f__law_row : Addr} {fd__law_row : FuncData} (C__law_row : Cal P w K mg base CX0 3 "_law_row" P__law_row (sp__law_row K) f__law_row fd__law_row) {f__law_says : Addr} {fd__law_says : FuncData} (C__law_says : Cal P w K mg base CX0 1 "_law_says" P__law_says (sp__law_says K) f__law_says fd__law_says) {f__law_whole : Addr} {fd__law_whole : FuncData} (C__law_whole : Cal P w K mg base CX0 1 "_law_whole" P__law_whole (sp__law_whole K) f__law_whole fd__law_whole) {f_evened : Addr} {fd_evened : FuncData} (C_evened : Cal P w K mg base CX0 5 "evened" P_evened (sp_evened K) f_evened fd_evened) {f_evenings : Addr} {fd_evenings : FuncData} (C_evenings : Cal P w K mg base CX0 5 "evenings" P_evenings (sp_evenings K) f_evenings fd_evenings) {f_fall : Addr} {fd_fall : FuncData} (C_fall : Cal P w K mg base CX0 5 "fall" P_fall (sp_fall K) f_fall fd_fall) {f_settled : Addr} {fd_settled : FuncData} (C_settled : Cal P w K mg base CX0 6 "settled" P_settled (sp_settled K) f_settled fd_settled) : FnOk P w K mg base CX0 7 f fd P_law (sp_law K) := by
  refine F.ok sc_law (fun vs H Q E h => ?_) (fun cdv A outer s H vs Q E hr h => ?_)
  · obtain ⟨a, ns, rfl, hS, hlen, hC, q⟩ := h
    rfl
  · obtain ⟨a, ns, rfl, hS, hlen, hC, q⟩ := h
    refine ⟨_, (pss_cons (ps_set (i := 0) sc_law.nd rfl (Or.inl rfl) (pe_slice sl_list (pv 0) po_none (po_some pe_int))) (pss_cons (ps_for PassesOwn.never rfl (pi_range3 (by rfl) B.range_ (pa_cons pe_int (pa_cons (pe_callB (call_max2 rfl) (by rfl) B.max_ (by decide +kernel) (pa_cons pe_int (pa_cons (pe_callB call_len_seq (by rfl) B.len_ (by decide +kernel) (pa_cons (pv 0) pa_nil)) pa_nil))) (pa_cons (pe_op op_add pe_int (pe_op op_fdiv (pe_callB call_len_seq (by rfl) B.len_ (by decide +kernel) (pa_cons (pv 0) pa_nil)) pe_int)) pa_nil)))) (pg_name (i := 1) sc_law.nd rfl (Or.inl rfl)) (pss_cons (ps_set (i := 2) sc_law.nd rfl (Or.inl rfl) (pe_call C__law_row.ok (hr.mono (by decide)) (by rfl) C__law_row.g C__law_row.kp C__law_row.b .nil pass0 (pa_cons (pv 0) (pa_cons (pv 1) (pa_cons pe_int (pa_cons pe_int pa_nil)))))) (pss_cons (ps_par (i := 3) (j := 4) (by rfl) sc_law.nd rfl rfl (by decide) rfl rfl (pa_cons (pe_callTy call_list_of (by rfl) B.list_ (by decide +kernel) (pa_cons (pv 2) pa_nil)) (pa_cons (pe_call C__law_can.ok (hr.mono (by decide)) (by rfl) C__law_can.g C__law_can.kp C__law_can.b .nil pass0 (pa_cons (pv 2) pa_nil)) pa_nil)) (by rfl)) (pss_cons (ps_for PassesOwn.never rfl (pi_range1 (by rfl) B.range_ (pa_cons pe_int pa_nil)) (pg_name (i := 5) sc_law.nd rfl (Or.inl rfl)) (pss_cons (ps_set (i := 6) sc_law.nd rfl (Or.inl rfl) (pe_call C_evenings.ok (hr.mono (by decide)) (by rfl) C_evenings.g C_evenings.kp C_evenings.b .nil pass0 (pa_cons (pv 3) pa_nil))) (pss_cons (ps_if (PW.pt (pw_or (pt_not (pt_val (pe_callB call_isi (by rfl) B.isinstance_ (by decide +kernel) (pa_cons (pv 6) (pa_cons (pe_bltn (v := .ty "list") (by rfl) B.list_ (by decide +kernel) rfl) pa_nil))))) (pw_or (pt_cmpR (op_neD hr.units) (pv 6) (pv 4) (nomark _)) (pw_or1 (pt_cmpR (op_neD hr.units) (pv 3) (pv 2) (nomark _)))))) (pss_one (ps_ret pe_bl)) pss_nil) (pss_cons (ps_if (pt_not (pt_val (pe_callB (cr_all rfl) (by rfl) B.all_ (by decide +kernel) (pa_cons (pe_lc (own := [("_law_pair", 8)]) (tt := tYes) rfl sc_law.nd (pi_list (pv 6)) (blkOk_by (own := [("_law_pair", 8)]) (N := N_law) (sc := defScope s_law) (by decide +kernel)) (fun _ _ _ _ _ => by exact (pg_name (i := 8) sc_law.nd rfl (Or.inl rfl))) (fun _ _ _ _ _ => by exact pts_nil) (fun _ _ _ _ _ => by exact (pe_callB (call_isi_K (K := K)) (by rfl) B.isinstance_ (by decide +kernel) (pa_cons (pv 8) (pa_cons (pe_bltn (v := .ty "tuple") (by rfl) B.tuple_ (by decide +kernel) rfl) pa_nil))))) pa_nil)))) (pss_one (ps_ret pe_bl)) pss_nil) (pss_one (ps_expr (pe_bm PySem.F.plainAttrs_list PySem.F.slot_list_append PySem.F.type_list_append mt_append (pv 6) (pa_cons (pe_tup (pa_cons pe_int (pa_cons pe_int pa_nil))) pa_nil)))))))) (pss_cons (ps_if (pt_not (pt_val (pe_call C__law_says.ok (hr.mono (by decide)) (by rfl) C__law_says.g C__law_says.kp C__law_says.b .nil pass0 (pa_cons (pe_call C_settled.ok (hr.mono (by decide)) (by rfl) C_settled.g C_settled.kp C_settled.b .nil pass0 (pa_cons (pv 3) pa_nil)) (pa_cons (pe_cmpR (op_eqD hr.units) (pv 4) (pe_lst pa_nil) (nomark _)) pa_nil))))) (pss_one (ps_ret pe_bl)) pss_nil) (pss_cons (ps_setLc (i := 7) (own := [("_law_one", 12)]) (tt := tYes) rfl sc_law.nd rfl rfl (sw_true rfl rfl rfl (by decide +kernel)) (pi_list (pv 2)) (blkOk_by (own := [("_law_one", 12)]) (N := N_law) (sc := defScope s_law) (by decide +kernel)) (fun _ _ _ _ _ => by exact (pg_name (i := 12) sc_law.nd rfl (Or.inl rfl))) (fun _ _ _ _ _ => by exact pts_nil) (fun _ _ _ _ _ => by exact (pe_op op_mod (pv 12) pe_int))) (pss_cons (ps_if (PW.pt (pw_and (pt_cmpR (op_eqD hr.units) (pv 4) (pe_lst pa_nil) (nomark _)) (pw_and1 (pt_cmpR op_ne (pe_lenSet (by rfl) B.len_ (by rfl) B.set_ (pv 7)) (pe_lenSet (by rfl) B.len_ (by rfl) B.set_ (pv 2)) (nomark _))))) (pss_one (ps_ret pe_bl)) pss_nil) (pss_cons (ps_for PassesOwn.never rfl (pi_list (pe_stepL (pv 4) (pe_op op_add pe_int (pe_op op_fdiv (pe_callB call_len_seq (by rfl) B.len_ (by decide +kernel) (pa_cons (pv 4) pa_nil)) pe_int)))) (pg_name (i := 8) sc_law.nd rfl (Or.inl rfl)) (pss_cons (ps_par (i := 6) (j := 9) (by rfl) sc_law.nd rfl rfl (by decide) rfl rfl (pa_cons (pe_call C_evened.ok (hr.mono (by decide)) (by rfl) C_evened.g C_evened.kp C_evened.b .nil pass0 (pa_cons (pv 3) (pa_cons (pv 8) pa_nil))) (pa_cons (pe_call C_fall.ok (hr.mono (by decide)) (by rfl) C_fall.g C_fall.kp C_fall.b .nil pass0 (pa_cons (pv 3) (pa_cons (pv 8) pa_nil))) pa_nil)) (by rfl)) (pss_cons (ps_set (i := 10) sc_law.nd rfl (Or.inl rfl) (pe_call C__law_evened.ok (hr.mono (by decide)) (by rfl) C__law_evened.g C__law_evened.kp C__law_evened.b .nil pass0 (pa_cons (pv 2) (pa_cons (pv 8) pa_nil)))) (pss_cons (ps_if (PW.pt (pw_or (pt_not (pt_val (pe_callB call_isi (by rfl) B.isinstance_ (by decide +kernel) (pa_cons (pv 6) (pa_cons (pe_bltn (v := .ty "list") (by rfl) B.list_ (by decide +kernel) rfl) pa_nil))))) (pw_or (pt_cmpR (op_neD hr.units) (pv 6) (pv 10) (nomark _)) (pw_or (pt_cmpR (op_neD hr.units) (pv 3) (pv 2) (nomark _)) (pw_or1 (pt_not (pt_val (pe_call C__law_whole.ok (hr.mono (by decide)) (by rfl) C__law_whole.g C__law_whole.kp C__law_whole.b .nil pass0 (pa_cons (pv 9) pa_nil))))))))) (pss_one (ps_ret pe_bl)) pss_nil) (pss_cons (ps_setLc (i := 11) (own := [("_law_some", 13)]) (tt := tYes) rfl sc_law.nd rfl rfl (sw_true rfl rfl rfl (by decide +kernel)) (pi_tup (pe_tup (pa_cons (pv 2) (pa_cons (pv 10) pa_nil)))) (blkOk_by (own := [("_law_some", 13)]) (N := N_law) (sc := defScope s_law) (by decide +kernel)) (fun _ _ _ _ _ => by exact (pg_name (i := 13) sc_law.nd rfl (Or.inl rfl))) (fun _ _ _ _ _ => by exact pts_nil) (fun _ _ _ _ _ => by exact (pe_callB (cr_sum_K (K := K) rfl) (by rfl) B.sum_ (by decide +kernel) (pa_cons (pe_lc (own := [("_law_one", 12)]) (tt := tYes) rfl sc_law.nd (pi_list_K (K := K) (pv 13)) (blkOk_by (own := [("_law_one", 12)]) (N := N_law) (by kernel_rfl)) (fun _ _ _ _ _ => by exact (pg_name (i := 12) sc_law.nd rfl (Or.inl rfl))) (fun _ _ _ _ _ => by exact pts_nil) (fun _ _ _ _ _ => by exact (pe_op op_mulO (pv 12) (pv 12)))) pa_nil)))) (pss_cons (ps_if (PW.pt (pw_or (pt_cmpR op_ne (pv 9) (pe_op op_sub (pe_ix ix_list (pv 11) pe_int (fun _ _ => rfl)) (pe_ix ix_list (pv 11) pe_int (fun _ _ => rfl))) (nomark _)) (pw_or1 (pt_cmpR op_lt (pv 9) pe_int (nomark _))))) (pss_one (ps_ret pe_bl)) pss_nil) (pss_cons (ps_expr (pe_bm PySem.F.plainAttrs_list PySem.F.slot_list_append PySem.F.type_list_append mt_append (pv 6) (pa_cons pe_int pa_nil))) (pss_one (ps_if (pt_cmpR (op_neD hr.units) (pe_call C_evened.ok (hr.mono (by decide)) (by rfl) C_evened.g C_evened.kp C_evened.b .nil pass0 (pa_cons (pv 3) (pa_cons (pv 8) pa_nil))) (pv 10) (nomark _)) (pss_one (ps_ret pe_bl)) pss_nil))))))))) (pss_cons (ps_expr (pe_bm0 PySem.F.plainAttrs_list PySem.F.slot_list_reverse PySem.F.type_list_reverse mt_reverse (pv 3))) (pss_one (ps_if (PW.pt (pw_or (pt_cmpR (op_neD hr.units) (pe_call C_evenings.ok (hr.mono (by decide)) (by rfl) C_evenings.g C_evenings.kp C_evenings.b .nil pass0 (pa_cons (pv 3) pa_nil)) (pe_call C__law_can.ok (hr.mono (by decide)) (by rfl) C__law_can.g C__law_can.kp C__law_can.b .nil pass0 (pa_cons (pe_revL (pv 2)) pa_nil)) (nomark _)) (pw_or1 (pt_not (pt_val (pe_call C__law_says.ok (hr.mono (by decide)) (by rfl) C__law_says.g C__law_says.kp C__law_says.b .nil pass0 (pa_cons (pe_call C_settled.ok (hr.mono (by decide)) (by rfl) C_settled.g C_settled.kp C_settled.b .nil pass0 (pa_cons (pv 3) pa_nil)) (pa_cons (pe_cmpR (op_eqD hr.units) (pv 4) (pe_lst pa_nil) (nomark _)) pa_nil)))))))) (pss_one (ps_ret pe_bl)) pss_nil))))))))))) (pss_one (ps_ret (pe_and (pe_cmpR (op_eqD hr.units) (pe_call C_evened.ok (hr.mono (by decide)) (by rfl) C_evened.g C_evened.kp C_evened.b .nil pass0 (pa_cons (pe_lst (pa_cons pe_int (pa_cons pe_int (pa_cons pe_int pa_nil)))) (pa_cons (pe_tup (pa_cons pe_int (pa_cons pe_int pa_nil))) pa_nil))) (pe_lst (pa_cons pe_int (pa_cons pe_int (pa_cons pe_int pa_nil)))) (nomark _)) (pe_and (pe_cmpR (op_eqD hr.units) (pe_call C_evenings.ok (hr.mono (by decide)) (by rfl) C_evenings.g C_evenings.kp C_evenings.b .nil pass0 (pa_cons (pe_lst (pa_cons pe_int (pa_cons pe_int (pa_cons pe_int pa_nil)))) pa_nil)) (pe_lst (pa_cons (pe_tup (pa_cons pe_int (pa_cons pe_int pa_nil))) (pa_cons (pe_tup (pa_cons pe_int (pa_cons pe_int pa_nil))) pa_nil))) (nomark _)) (pe_one (pe_cmpR op_isBl (pe_call C_settled.ok (hr.mono (by decide)) (by rfl) C_settled.g C_settled.kp C_settled.b .nil pass0 (pa_cons (pe_lst (pa_cons pe_int pa_nil)) pa_nil)) pe_bl (nomark _))))))))), ?_⟩
    refine q_asgL (el_sl (ev_var rfl) eo_none (eo_some ev_c) hS) fun p0 H1 hp0 e1 h1 => ?_
    rw [cut63 (by rw [List.length_map]; exact hlen)] at h1
    have hS1 : SqL K H1 p0 (ns.map V.int) := SqL.of h1
    obtain ⟨hrg, hrn⟩ := rg6 ns.length hlen
    refine q_forR3 (lo := 0) (n := turnsN 6 ns.length) (ea_cons ev_c (ea_cons (ev_max2 ev_c (ev_is (ev_lenL (ev_var rfl) hS1) (by rw [List.length_map]))) (ea_cons (ev_add ev_c (ev_fdiv (ev_is (ev_lenL (ev_var rfl) hS1) (by rw [List.length_map])) ev_c ⟨by decide, by decide⟩)) ea_nil))) hrg
      (fun i σ' H' => ∃ y1 y2 y3 y4 y5 y6 y7 y8 y9 y10 y11 y12 y13, σ' = [some (.ref p0), y1, y2, y3, y4, y5, y6, y7, y8, y9, y10, y11, y12, y13] ∧ Ex H1 H')
      (fun H2 e2 => ⟨_, _, _, _, _, _, _, _, _, _, _, _, _, rfl, e2⟩) (fun k σ' H' hk hP => ?_) (fun σ' H' hP => ?_)
    · obtain ⟨y1, y2, y3, y4, y5, y6, y7, y8, y9, y10, y11, y12, y13, rfl, eH⟩ := hP
      obtain ⟨by_, hby⟩ : ∃ b : Int, b = 0 + (k : Nat) * (1 + (ns.length : Int) / 6) := ⟨_, rfl⟩
      rw [← hby]
      have b0 : 0 ≤ by_ ∧ by_ ≤ 1000 := by
        have k1 : (0 : Int) ≤ (k : Int) := by omega
        have k2 : (k : Int) ≤ 63 := by omega
        have c1 : (0 : Int) ≤ 1 + (ns.length : Int) / 6 := by omega
        have c2 : 1 + (ns.length : Int) / 6 ≤ 11 := by omega
        have m1 := Int.mul_nonneg k1 c1
        have m2 : (k : Int) * (1 + (ns.length : Int) / 6) ≤ 63 * 11 := Int.mul_le_mul k2 c2 c1 (by decide)
        omega
      have hS' : SqL K H' p0 (ns.map V.int) := SqL.of (eH _ _ h1)
      refine q_asgL (el_call (ea_cons (ev_var rfl) (ea_cons (ev_var rfl) (ea_cons ev_c (ea_cons ev_c ea_nil)))) (sl__law_row hS' hC b0.1 b0.2 (by decide) (by decide) (by decide) (by decide))) fun p2 H2 hp2 e2 h2 => ?_
      have hR : RowOk (rowF ns by_ 12 1000000) := rowF_ok
      generalize rowF ns by_ 12 1000000 = row at h2 hR
      have rl := hR.2.1
      -- handed, due
      refine q_parN (tn_of (el_list (ev_var rfl) (SqL.of h2))) (fun H1 e => tn_call (ea_cons (ev_var rfl) ea_nil) (sn__law_can (SqL.of (e _ _ h2)) (by omega))) fun p3 p4 H3 H4 hp3 e3 h3 hp4 e4 hP4 => ?_
      have h2' := e3 _ _ h2
      obtain ⟨ds, hl4, hd4⟩ := hP4
      have h24 := e4 _ _ h2'
      have h34 := e4 _ _ h3
      have n23 : p2 ≠ p3 := fun z => by rw [z, hp3] at h2; cases h2
      have n43 : p4 ≠ p3 := fun z => by rw [← z, hp4] at h3; cases h3
      have eB4 : Ex H1 H4 := ((eH.trans e2).trans e3).trans e4
      -- twice
      refine q_forR1 (n := 2) (ea_cons ev_c ea_nil) ⟨by decide, by decide⟩
        (fun i σ' H' => ∃ z5 z6, σ' = [some (.ref p0), some (.int by_), some (.ref p2), some (.ref p3), some (.ref p4), z5, z6, y7, y8, y9, y10, y11, y12, y13] ∧ Ex H4 H')
        (fun H5 e5 => ⟨_, _, rfl, e5⟩) (fun i σ' H5 hi hP => ?_) (fun σ' H5 hP => ?_)
      · obtain ⟨z5, z6, rfl, e5⟩ := hP
        refine q_asgN (tn_call (ea_cons (ev_var rfl) ea_nil) (sn_evenings (SqL.of (e5 _ _ h34)) hR)) fun p6 H6 hp6 e6 hP6 => ?_
        obtain ⟨rs, hl6, hr6⟩ := hP6
        have e56 := e5.trans e6
        have hp64 := fresh_back e5 hp6
        refine q_when (b := !true || (false || false)) (et_or (et_not (et_B (ev_isl (ev_var rfl) ev_c (SqL.of hl6)))) fun _ => et_or (et_test (ev_neD (ev_var rfl) (ev_var rfl) (IsP.dp ⟨rs, hl6, hr6⟩) (IsP.dp ⟨ds, e56 _ _ hl4, Prs.mono e56 hd4⟩) (lay_prs _))) fun _ => et_test (ev_neD (ev_var rfl) (ev_var rfl) (ints_dp (SqL.of (e56 _ _ h34))) (ints_dp (SqL.of (e56 _ _ h24))) (lay_ints _))) (fun hb => Bool.noConfusion hb) (fun hb H7 e7 => ?_)
        have hl7 := e7 _ _ hl6
        have hr7 := Prs.mono e7 hr6
        have hrl : rs.length ≤ 10000 := by
          have l1 := hr6.length
          have l2 := canUp_len row (by omega) row.length (by omega)
          have l3 : (canL row).length = (canUp row row.length).length := rfl
          have l4 : row.length * 100 ≤ 1200 := by omega
          omega
        have hll := el_lcL (K := K) (σ := ([some (.ref p0), some (.int by_), some (.ref p2), some (.ref p3), some (.ref p4), some (.int (i : Int)), some (.ref p6), y7, y8, y9, y10, y11, y12, y13] : L2.St)) (j := 8) (vs := [8]) (fun _ => true) (fun _ => .bl true) (ev_var (i := 6) rfl) (SqL.of hl7) (by omega) (te := tCB (rIsi K) (tCons (tVar 8) (tCons (tC (.ty "tuple")) tNil))) (fun _ => rfl) (fun i x H3 e3 hx => et_yes) (fun i x H3 e3 hx _ => by
          obtain ⟨pr, _, t, f1, f2⟩ := hr7.mem x (List.mem_of_getElem? hx)
          subst f1
          exact ev_ist (ev_var rfl) ev_c (SqT.of (e3 _ _ f2)))
        rw [given_all] at hll
        refine q_when (b := !true) (et_not (et_B (ev_is (ev_all hll) (by rw [rep_all])))) (fun hb => Bool.noConfusion hb) (fun hb H8 e8 => ?_)
        refine s_appU (e8 _ _ hl7) (ev_var rfl) (eu_tup (ea_cons ev_c (ea_cons ev_c ea_nil)) (by decide : 2 ≤ 100000)) (by omega) fun t H9 ht e9 h9 => ?_
        exact ⟨_, _, rfl, Ex.mut (((e56.trans e7).trans e8).trans e9) hp64⟩
      obtain ⟨z5, z6, rfl, e5⟩ := hP
      have hl5 := e5 _ _ hl4
      have hd5 := Prs.mono e5 hd4
      have h35 := e5 _ _ h34
      have h25 := e5 _ _ h24
      have nil5 : ∀ {σ : L2.St} {H' : Hp}, Ex H5 H' → σ[4]? = some (some (.ref p4)) → Ev (tOp (rEqD K) (tVar 4) (tLst tNil)) σ H' (.bl (decide (canL row = []))) := fun {σ H'} e hσ => by
        have h := ev_isNil (K := K) (ev_var (σ := σ) (H := H') hσ) (SqL.of (e _ _ hl5)) (Prs.dp (Prs.mono e hd5)) (lay_prs _)
        refine ev_is h (congrArg V.bl (decide_eq_decide.mpr ⟨fun z => ?_, fun z => by rw [z]; rfl⟩))
        exact List.map_eq_nil_iff.mp z
      refine q_when (b := !(decide (canL row = []) == decide (canL row = []))) (et_not (et_B (ev_call1 (ea_cons (ev_call1 (ea_cons (ev_var rfl) ea_nil) (sv_settled (SqL.of h35) hR)) (ea_cons (nil5 (Ex.refl _) rfl) ea_nil)) sv__law_says))) (fun hb => by rw [beq_self_eq_true] at hb; exact Bool.noConfusion hb) (fun hb H6 e6 => ?_)
      have h26 := e6 _ _ h25
      -- rests
      have hrest := el_lcL (K := K) (σ := ([some (.ref p0), some (.int by_), some (.ref p2), some (.ref p3), some (.ref p4), z5, z6, y7, y8, y9, y10, y11, y12, y13] : L2.St)) (j := 12) (vs := [12]) (fun _ => true) (fun i => .int ((row.getD i 0) % 2)) (ev_var (i := 2) rfl) (SqL.of h26) (by rw [List.length_map]; omega) (te := tOp (rI (fun _ j => 0 < j) fun i j => .int (i % j)) (tVar 12) (tC (.int 2))) (fun _ => rfl) (fun i x H3 e3 hx => et_yes) (fun i x H3 e3 hx _ => by
        have hi : i < row.length := by
          have := (List.getElem?_eq_some_iff.mp hx).1
          rw [List.length_map] at this
          exact this
        rw [List.getElem?_map, gD_at hi] at hx
        cases hx
        exact ev_mod (ev_var rfl) ev_c (by decide))
      rw [List.length_map, given_map row (· % 2)] at hrest
      refine q_asgL hrest fun p7 H7 hp7 e7 h7 => ?_
      have e57 := e6.trans e7
      have hset : ∀ b, b = (decide (canL row = []) && !decide (((dlen (row.map (· % 2)) : Nat) : Int) = ((dlen row : Nat) : Int))) → b = false := fun b hb => by
        rw [hb]
        by_cases hc : canL row = []
        · rw [dlen_settled hc, decide_eq_true hc, decide_eq_true rfl]
          rfl
        · rw [decide_eq_false hc]
          rfl
      refine q_when (et_and (et_test (nil5 e57 rfl)) fun _ => et_test (ev_neI (ev_lenSet (ev_var rfl) (SqL.of h7) (by rw [List.length_map]; omega)) (ev_lenSet (ev_var rfl) (SqL.of (e7 _ _ h26)) (by omega)))) (fun hb => by rw [hset _ rfl] at hb; exact Bool.noConfusion hb) (fun hb H8 e8 => ?_)
      have e58 := e57.trans e8
      -- for pair in due[::k]
      have hkp : (1 + (ds.length : Int) / 8) ≠ 0 := by omega
      refine q_forN (tn_step (ev_var rfl) (ev_add ev_c (ev_fdiv (ev_lenL (ev_var rfl) (SqL.of (e58 _ _ hl5))) ev_c ⟨by decide, by decide⟩)) hkp (SqL.of (e58 _ _ hl5))) fun p9 H9 hp9 e9 hR9 => ?_
      obtain ⟨ys, hl9, hys⟩ := hR9
      have e59 := e58.trans e9
      refine ⟨ys, (fun k σ' H' => ∃ z6 z8 z9 z10 z11 z12 z13, σ' = [some (.ref p0), some (.int by_), some (.ref p2), some (.ref p3), some (.ref p4), z5, z6, some (.ref p7), z8, z9, z10, z11, z12, z13] ∧ Ex H9 H'),
        SqL.of hl9, ⟨_, _, _, _, _, _, _, rfl, Ex.refl H9⟩, (fun k σ' H' _ hP => ?_), (fun k x σ' H' hx hP => ?_), (fun σ' H' hP => ?_)⟩
      · obtain ⟨_, _, _, _, _, _, _, _, e⟩ := hP
        exact SqL.of (e _ _ hl9)
      · obtain ⟨z6, z8, z9, z10, z11, z12, z13, rfl, e10⟩ := hP
        obtain ⟨pr, hpr, t, ft, ht9⟩ := (Prs.mono e59 hd5).mem x (hys x (List.mem_of_getElem? hx))
        subst ft
        obtain ⟨hij, hj, hok⟩ := mem_canL.mp hpr
        obtain ⟨i, j⟩ := pr
        dsimp only at hij hj hok ht9
        have hi : i < row.length := by omega
        have e5A := e59.trans e10
        have hT := SqT.of (K := K) (e10 _ _ ht9)
        refine q_parNV (tn_of (el_call (ea_cons (ev_var rfl) (ea_cons (ev_var rfl) ea_nil)) (sl_evened (SqL.of (e5A _ _ h35)) hR hT hij hj hok))) (fun H1 e => ev_call1 (ea_cons (ev_var rfl) (ea_cons (ev_var rfl) ea_nil)) (sv_fall (SqL.of (e _ _ (e5A _ _ h35))) hR (ex_t e hT) hij hj hok)) fun p6 HA HB hp6 eA hA eB => ?_
        have e5B := (e5A.trans eA).trans eB
        have hB6 := eB _ _ hA
        refine q_asgL (el_call (ea_cons (ev_var rfl) (ea_cons (ev_var rfl) ea_nil)) (sl__law_evened (SqL.of (e5B _ _ h25)) (ex_t (eA.trans eB) hT) hij hj)) fun p10 HC hp10 eC hC10 => ?_
        have e5C := e5B.trans eC
        have hC6 := eC _ _ hB6
        refine q_when (b := !true || (false || (false || !true))) (et_or (et_not (et_B (ev_isl (ev_var rfl) ev_c (SqL.of hC6)))) fun _ => et_or (et_test (ev_neD (ev_var rfl) (ev_var rfl) (ints_dp (SqL.of hC6)) (ints_dp (SqL.of hC10)) (lay_ints _))) fun _ => et_or (et_test (ev_neD (ev_var rfl) (ev_var rfl) (ints_dp (SqL.of (e5C _ _ h35))) (ints_dp (SqL.of (e5C _ _ h25))) (lay_ints _))) fun _ => et_not (et_B (ev_call1 (ea_cons (ev_var rfl) ea_nil) sv__law_whole))) (fun hb => Bool.noConfusion hb) (fun hb HD eD => ?_)
        have e5D := e5C.trans eD
        have sqf : ∀ (σ : L2.St) (H0 : Hp) (p : Addr) (l : List Int), σ[13]? = some (some (.ref p)) → SqL K H0 p (l.map V.int) → l.length ≤ 100 → (∀ x ∈ l, 0 ≤ x ∧ x ≤ 1000000) → (∀ x, wipe ((wipe σ [12]).set 12 (some x)) [12] = wipe σ [12]) → (∀ x, ((wipe σ [12]).set 12 (some x))[12]? = some (some x)) →
            Ev (tCB (rSum K) (tCons (tLc (iList K (tVar 13)) (gName 12) tYes (tOp (rI IntMulOk fun i j => .int (i * j)) (tVar 12) (tVar 12)) [12]) tNil)) σ H0 (.int (sqs l)) := fun σ H0 p l hσ hl hn hx hw hg => by
          have hq := el_lcL (K := K) (σ := σ) (j := 12) (vs := [12]) (fun _ => true) (fun i => .int ((l.getD i 0) * (l.getD i 0))) (ev_var (i := 13) hσ) hl (by rw [List.length_map]; omega) (te := tOp (rI IntMulOk fun i j => .int (i * j)) (tVar 12) (tVar 12)) hw (fun i x H3 e3 hx => et_yes) (fun i x H3 e3 hxx _ => by
            have hi : i < l.length := by
              have := (List.getElem?_eq_some_iff.mp hxx).1
              rw [List.length_map] at this
              exact this
            rw [List.getElem?_map, gD_at hi] at hxx
            cases hxx
            have hb := hx _ (List.mem_of_getElem? (gD_at hi))
            exact ev_mul (ev_var (hg _)) (ev_var (hg _)) (IntMulOk.of_left (intBits_le_64 (by omega) (by omega))))
          rw [List.length_map, given_map l (fun x => x * x)] at hq
          exact ev_sum hq
        have hin : ∀ x ∈ evL row i j, 0 ≤ x ∧ x ≤ 1000000 := fun x hx => by
          have hh : 0 ≤ halfL row i j ∧ halfL row i j ≤ 1000000 := by
            have b1 := hR.get hi
            have b2 := hR.get hj
            unfold halfL
            omega
          unfold evL at hx
          rcases List.mem_or_eq_of_mem_set hx with hx | hx
          · rcases List.mem_or_eq_of_mem_set hx with hx | hx
            · exact hR.2.2 x hx
            · rw [hx]
              exact hh
          · rw [hx]
            exact hh
        have hev : (evL row i j).length = row.length := by
          unfold evL
          rw [List.length_set, List.length_set]
        have hsq := el_lcNU (K := K) (H := HD) (σ := ([some (.ref p0), some (.int by_), some (.ref p2), some (.ref p3), some (.ref p4), z5, some (.ref p6), some (.ref p7), some (.ref t), some (.int ((row.getD j 0 - row.getD i 0) * (row.getD j 0 - row.getD i 0) / 2)), some (.ref p10), z11, z12, z13] : L2.St)) (j := 13) (vs := [13]) (fun _ => true) (fun n => .int (if n = 0 then sqs row else sqs (evL row i j))) (eu_tup (ea_cons (ev_var (i := 2) rfl) (ea_cons (ev_var (i := 10) rfl) ea_nil)) (by decide : 2 ≤ 100000)) (by decide : 2 ≤ 40000) (te := tCB (rSum K) (tCons (tLc (iList K (tVar 13)) (gName 12) tYes (tOp (rI IntMulOk fun i j => .int (i * j)) (tVar 12) (tVar 12)) [12]) tNil)) (fun _ => rfl) (fun i x H3 e3 hx => et_yes) (fun n x H3 e3 hx _ => by
          match n, hx with
          | 0, hx =>
            cases hx
            exact sqf _ _ p2 row rfl (SqL.of (e3 _ _ (e5D _ _ h25))) (by omega) hR.2.2 (fun _ => rfl) (fun _ => rfl)
          | 1, hx =>
            cases hx
            exact sqf _ _ p10 (evL row i j) rfl (SqL.of (e3 _ _ (eD _ _ hC10))) (by omega) hin (fun _ => rfl) (fun _ => rfl)
          | n + 2, hx => simp at hx)
        refine q_asgL hsq fun p11 HE hp11 eE hE11 => ?_
        obtain ⟨f1, f2⟩ := fall_is hij hj hok
        have g11 : SqL K HE p11 [.int (sqs row), .int (sqs (evL row i j))] := SqL.of hE11
        refine q_when (b := false) (et_is (et_or (et_test (ev_neI (ev_var rfl) (ev_sub (ev_ixL (ev_var rfl) ev_c g11 rfl) (ev_ixL (ev_var rfl) ev_c g11 rfl)))) fun _ => et_test (ev_lt (ev_var rfl) ev_c)) (by rw [f1, decide_eq_true rfl, decide_eq_false (by omega)]; rfl)) (fun hb => Bool.noConfusion hb) (fun hb HF eF => ?_)
        have e5F := (e5D.trans eE).trans eF
        have hF6 := eF _ _ (eE _ _ (eD _ _ hC6))
        refine q_app hF6 (ev_var rfl) ev_c (by rw [List.length_map, hev]; omega) fun HG eG => ?_
        have h9p6 : H9 p6 = none := fresh_back e10 hp6
        have e9G : Ex H9 (upd HG p6 (.lst ((evL row i j).map V.int ++ [.int 0]))) := Ex.mut (((((((e10.trans eA).trans eB).trans eC).trans eD).trans eE).trans eF).trans eG) h9p6
        have n10 : p10 ≠ p6 := fun z => by rw [z, hB6] at hp10; cases hp10
        have hG10 : (upd HG p6 (.lst ((evL row i j).map V.int ++ [.int 0]))) p10 = some (.lst ((evL row i j).map V.int)) := by
          rw [upd_ne n10]
          exact eG _ _ (eF _ _ (eE _ _ (eD _ _ hC10)))
        have e5G := e59.trans e9G
        refine s_when (b := false) (et_test (ev_neD1 (tn_of (el_call (ea_cons (ev_var rfl) (ea_cons (ev_var rfl) ea_nil)) (sl_evened (SqL.of (e5G _ _ h35)) hR (SqT.of (e9G _ _ ht9)) hij hj hok))) (fun H1 _ => ev_var rfl) (fun p H1 h => ints_dp (SqL.of h)) (ints_dp (SqL.of hG10)) (lay_ints _))) (fun hb => Bool.noConfusion hb) (fun hb HI eI => ?_)
        exact ⟨_, _, _, _, _, _, _, rfl, e9G.trans eI⟩
      obtain ⟨z6, z8, z9, z10, z11, z12, z13, rfl, e10⟩ := hP
      have e5A := e59.trans e10
      refine q_rev (e5A _ _ h35) (ev_var rfl) fun HA eA => ?_
      have e5B := e5A.trans eA
      rw [← List.map_reverse]
      have hp3B : H1 p3 = none := fresh_back (eH.trans e2) hp3
      have eHB : Ex H1 (upd HA p3 (.lst (row.reverse.map V.int))) := Ex.mut ((eB4.trans e5).trans e5B) hp3B
      have hB3 : (upd HA p3 (.lst (row.reverse.map V.int))) p3 = some (.lst (row.reverse.map V.int)) := upd_same
      have hB2 : (upd HA p3 (.lst (row.reverse.map V.int))) p2 = some (.lst (row.map V.int)) := by
        rw [upd_ne n23]
        exact e5B _ _ h25
      have hB4 : (upd HA p3 (.lst (row.reverse.map V.int))) p4 = some (.lst ds) := by
        rw [upd_ne n43]
        exact e5B _ _ hl5
      have hBd : Prs (upd HA p3 (.lst (row.reverse.map V.int))) ds (canL row) := Prs.upd (e5B _ _ h35) (Prs.mono e5B hd5)
      have nilB : Ev (tOp (rEqD K) (tVar 4) (tLst tNil)) ([some (.ref p0), some (.int by_), some (.ref p2), some (.ref p3), some (.ref p4), z5, z6, some (.ref p7), z8, z9, z10, z11, z12, z13] : L2.St) (upd HA p3 (.lst (row.reverse.map V.int))) (.bl (decide (canL row = []))) := by
        have h := ev_isNil (K := K) (ev_var (σ := ([some (.ref p0), some (.int by_), some (.ref p2), some (.ref p3), some (.ref p4), z5, z6, some (.ref p7), z8, z9, z10, z11, z12, z13] : L2.St)) (i := 4) rfl) (SqL.of hB4) hBd.dp (lay_prs _)
        refine ev_is h (congrArg V.bl (decide_eq_decide.mpr ⟨fun z => ?_, fun z => by rw [z]; rfl⟩))
        exact List.map_eq_nil_iff.mp z
      refine s_when (b := false) (et_is (et_or (et_test (ev_neD2 (tn_call (ea_cons (ev_var rfl) ea_nil) (sn_evenings (SqL.of hB3) hR.rev)) (fun H1 e => tn_callL (el_rev (ev_var rfl) (ex_l e (SqL.of hB2))) fun p H2 hp e2 => sn__law_can (by rw [← List.map_reverse] at hp; exact SqL.of hp) (by rw [List.length_reverse]; omega)) (fun p H1 h => IsP.dp h) (fun p H1 h => IsP.dp h) (lay_prs _))) fun _ => et_not (et_B (ev_call1 (ea_cons (ev_call1 (ea_cons (ev_var rfl) ea_nil) (sv_settled (SqL.of hB3) hR.rev)) (ea_cons nilB ea_nil)) sv__law_says))) (by rw [decide_eq_decide.mpr can_rev, beq_self_eq_true]; rfl)) (fun hb => Bool.noConfusion hb) (fun hb HC eC => ?_)
      exact ⟨_, _, _, _, _, _, _, _, _, _, _, _, _, rfl, eHB.trans eC⟩
    · obtain ⟨y1, y2, y3, y4, y5, y6, y7, y8, y9, y10, y11, y12, y13, rfl, eH⟩ := hP
      have r145 : RowOk [1, 4, 5] := ⟨by decide, by decide, by decide⟩
      have r224 : RowOk [2, 2, 4] := ⟨by decide, by decide, by decide⟩
      have r0 : RowOk [0] := ⟨by decide, by decide, by decide⟩
      refine s_ret (v := .bl (true && (true && decide (decide (canL [0] = []) = true)))) (ev_andV (a := true) ?_ fun _ => ev_andV (a := true) ?_ fun _ => ev_isTrue ?_) fun H2 e2 => ?_
      · refine ev_eqD2 (R := fun p H' => H' p = some (.lst ((evL [1, 4, 5] 0 2).map V.int))) (R' := fun p H' => H' p = some (.lst ([3, 4, 3].map V.int))) ?_ (fun H1 e => tn_of (el_lst (ea_cons ev_c (ea_cons ev_c (ea_cons ev_c ea_nil))) (by decide : 3 ≤ 100000))) (fun p H1 h => ints_dp (SqL.of h)) (fun p H1 h => ints_dp (SqL.of h)) (lay_ints _)
        exact tn_callLU (el_lst (ea_cons ev_c (ea_cons ev_c (ea_cons ev_c ea_nil))) (by decide : 3 ≤ 100000)) (fun H1 _ => eu_tup (ea_cons ev_c (ea_cons ev_c ea_nil)) (by decide : 2 ≤ 100000)) fun p r H1 h2 h3 e => sl_evened (ns := [1, 4, 5]) (i := 0) (j := 2) (SqL.of h2) r145 (SqT.of h3) (by decide) (by decide) (by decide)
      · refine ev_eqD2 (R := IsP (canL [2, 2, 4])) (R' := IsP [(0, 2), (1, 2)]) (tn_callL (el_lst (ea_cons ev_c (ea_cons ev_c (ea_cons ev_c ea_nil))) (by decide : 3 ≤ 100000)) fun p H1 h e => sn_evenings (ns := [2, 2, 4]) (SqL.of h) r224) ?_ (fun p H1 h => IsP.dp h) (fun p H1 h => IsP.dp h) (lay_prs _)
        exact fun H1 e => (tn_lstUU (fun H1 _ => eu_tup (ea_cons ev_c (ea_cons ev_c ea_nil)) (by decide : 2 ≤ 100000)) (fun H1 _ => eu_tup (ea_cons ev_c (ea_cons ev_c ea_nil)) (by decide : 2 ≤ 100000))).imp fun p H' ⟨r, u, h1, h2, h3⟩ => ⟨_, h1, .cons ⟨r, rfl, h2⟩ (.cons ⟨u, rfl, h3⟩ .nil)⟩
      · exact ev_callL (el_lst (ea_cons ev_c ea_nil) (by decide : 1 ≤ 100000)) fun p H1 h e => sv_settled (ns := [0]) (SqL.of h) r0
      · exact q H2
theorem all_mk {l : PySem.W.OpenLaw} {w : World} {K : PySem.W.Frag} {h : Heap} {mg : Str → Option Value} {fa : Addr} (X : K.In h) (G : h.Ns mainGlobals mg) (hfa : mg "law" = some (.ref fa))
    {f_is_number : Addr} {od_is_number an_is_number : Option Addr} {sl_is_number : Array (Option Value)} {oc_is_number kV_is_number dc_is_number pm_is_number cd_is_number ct_is_number : Value}
    (a_is_number : PySem.W.nsIn K mainGlobals "is_number" = some (some (.ref f_is_number)))
    (l_is_number : K.lookup f_is_number = some ⟨oc_is_number, od_is_number, .func (PySem.W.fnOf "is_number" "is_number" (defArgs s_is_number) (defBody s_is_number) (defScope s_is_number) .none kV_is_number dc_is_number pm_is_number an_is_number cd_is_number ct_is_number), sl_is_number⟩)
    (c_is_number : PySem.W.codeIn K cd_is_number "is_number" = true) (k_is_number : PySem.W.keepIn K (.ref f_is_number) = true)
    {f_is_measure : Addr} {od_is_measure an_is_measure : Option Addr} {sl_is_measure : Array (Option Value)} {oc_is_measure kV_is_measure dc_is_measure pm_is_measure cd_is_measure ct_is_measure : Value}
    (a_is_measure : PySem.W.nsIn K mainGlobals "is_measure" = some (some (.ref f_is_measure)))
    (l_is_measure : K.lookup f_is_measure = some ⟨oc_is_measure, od_is_measure, .func (PySem.W.fnOf "is_measure" "is_measure" (defArgs s_is_measure) (defBody s_is_measure) (defScope s_is_measure) .none kV_is_measure dc_is_measure pm_is_measure an_is_measure cd_is_measure ct_is_measure), sl_is_measure⟩)
    (c_is_measure : PySem.W.codeIn K cd_is_measure "is_measure" = true) (k_is_measure : PySem.W.keepIn K (.ref f_is_measure) = true)
    {f_is_row : Addr} {od_is_row an_is_row : Option Addr} {sl_is_row : Array (Option Value)} {oc_is_row kV_is_row dc_is_row pm_is_row cd_is_row ct_is_row : Value}
    (a_is_row : PySem.W.nsIn K mainGlobals "is_row" = some (some (.ref f_is_row)))
    (l_is_row : K.lookup f_is_row = some ⟨oc_is_row, od_is_row, .func (PySem.W.fnOf "is_row" "is_row" (defArgs s_is_row) (defBody s_is_row) (defScope s_is_row) .none kV_is_row dc_is_row pm_is_row an_is_row cd_is_row ct_is_row), sl_is_row⟩)
    (c_is_row : PySem.W.codeIn K cd_is_row "is_row" = true) (k_is_row : PySem.W.keepIn K (.ref f_is_row) = true)
    {f_are_places : Addr} {od_are_places an_are_places : Option Addr} {sl_are_places : Array (Option Value)} {oc_are_places kV_are_places dc_are_places pm_are_places cd_are_places ct_are_places : Value}
    (a_are_places : PySem.W.nsIn K mainGlobals "are_places" = some (some (.ref f_are_places)))
    (l_are_places : K.lookup f_are_places = some ⟨oc_are_places, od_are_places, .func (PySem.W.fnOf "are_places" "are_places" (defArgs s_are_places) (defBody s_are_places) (defScope s_are_places) .none kV_are_places dc_are_places pm_are_places an_are_places cd_are_places ct_are_places), sl_are_places⟩)
    (c_are_places : PySem.W.codeIn K cd_are_places "are_places" = true) (k_are_places : PySem.W.keepIn K (.ref f_are_places) = true)
    {f_can_even : Addr} {od_can_even an_can_even : Option Addr} {sl_can_even : Array (Option Value)} {oc_can_even kV_can_even dc_can_even pm_can_even cd_can_even ct_can_even : Value}
    (a_can_even : PySem.W.nsIn K mainGlobals "can_even" = some (some (.ref f_can_even)))
    (l_can_even : K.lookup f_can_even = some ⟨oc_can_even, od_can_even, .func (PySem.W.fnOf "can_even" "can_even" (defArgs s_can_even) (defBody s_can_even) (defScope s_can_even) .none kV_can_even dc_can_even pm_can_even an_can_even cd_can_even ct_can_even), sl_can_even⟩)
    (c_can_even : PySem.W.codeIn K cd_can_even "can_even" = true) (k_can_even : PySem.W.keepIn K (.ref f_can_even) = true)
    {f_refuse_no_row : Addr} {od_refuse_no_row an_refuse_no_row : Option Addr} {sl_refuse_no_row : Array (Option Value)} {oc_refuse_no_row kV_refuse_no_row dc_refuse_no_row pm_refuse_no_row cd_refuse_no_row ct_refuse_no_row : Value}
    (a_refuse_no_row : PySem.W.nsIn K mainGlobals "refuse_no_row" = some (some (.ref f_refuse_no_row)))
    (l_refuse_no_row : K.lookup f_refuse_no_row = some ⟨oc_refuse_no_row, od_refuse_no_row, .func (PySem.W.fnOf "refuse_no_row" "refuse_no_row" (defArgs s_refuse_no_row) (defBody s_refuse_no_row) (defScope s_refuse_no_row) .none kV_refuse_no_row dc_refuse_no_row pm_refuse_no_row an_refuse_no_row cd_refuse_no_row ct_refuse_no_row), sl_refuse_no_row⟩)
    (c_refuse_no_row : PySem.W.codeIn K cd_refuse_no_row "refuse_no_row" = true) (k_refuse_no_row : PySem.W.keepIn K (.ref f_refuse_no_row) = true)
    {f_refuse_no_evening : Addr} {od_refuse_no_evening an_refuse_no_evening : Option Addr} {sl_refuse_no_evening : Array (Option Value)} {oc_refuse_no_evening kV_refuse_no_evening dc_refuse_no_evening pm_refuse_no_evening cd_refuse_no_evening ct_refuse_no_evening : Value}
    (a_refuse_no_evening : PySem.W.nsIn K mainGlobals "refuse_no_evening" = some (some (.ref f_refuse_no_evening)))
    (l_refuse_no_evening : K.lookup f_refuse_no_evening = some ⟨oc_refuse_no_evening, od_refuse_no_evening, .func (PySem.W.fnOf "refuse_no_evening" "refuse_no_evening" (defArgs s_refuse_no_evening) (defBody s_refuse_no_evening) (defScope s_refuse_no_evening) .none kV_refuse_no_evening dc_refuse_no_evening pm_refuse_no_evening an_refuse_no_evening cd_refuse_no_evening ct_refuse_no_evening), sl_refuse_no_evening⟩)
    (c_refuse_no_evening : PySem.W.codeIn K cd_refuse_no_evening "refuse_no_evening" = true) (k_refuse_no_evening : PySem.W.keepIn K (.ref f_refuse_no_evening) = true)
    {f_evenings : Addr} {od_evenings an_evenings : Option Addr} {sl_evenings : Array (Option Value)} {oc_evenings kV_evenings dc_evenings pm_evenings cd_evenings ct_evenings : Value}
    (a_evenings : PySem.W.nsIn K mainGlobals "evenings" = some (some (.ref f_evenings)))
    (l_evenings : K.lookup f_evenings = some ⟨oc_evenings, od_evenings, .func (PySem.W.fnOf "evenings" "evenings" (defArgs s_evenings) (defBody s_evenings) (defScope s_evenings) .none kV_evenings dc_evenings pm_evenings an_evenings cd_evenings ct_evenings), sl_evenings⟩)
    (c_evenings : PySem.W.codeIn K cd_evenings "evenings" = true) (k_evenings : PySem.W.keepIn K (.ref f_evenings) = true)
    {f_evened : Addr} {od_evened an_evened : Option Addr} {sl_evened : Array (Option Value)} {oc_evened kV_evened dc_evened pm_evened cd_evened ct_evened : Value}
    (a_evened : PySem.W.nsIn K mainGlobals "evened" = some (some (.ref f_evened)))
    (l_evened : K.lookup f_evened = some ⟨oc_evened, od_evened, .func (PySem.W.fnOf "evened" "evened" (defArgs s_evened) (defBody s_evened) (defScope s_evened) .none kV_evened dc_evened pm_evened an_evened cd_evened ct_evened), sl_evened⟩)
    (c_evened : PySem.W.codeIn K cd_evened "evened" = true) (k_evened : PySem.W.keepIn K (.ref f_evened) = true)
    {f_settled : Addr} {od_settled an_settled : Option Addr} {sl_settled : Array (Option Value)} {oc_settled kV_settled dc_settled pm_settled cd_settled ct_settled : Value}
    (a_settled : PySem.W.nsIn K mainGlobals "settled" = some (some (.ref f_settled)))
    (l_settled : K.lookup f_settled = some ⟨oc_settled, od_settled, .func (PySem.W.fnOf "settled" "settled" (defArgs s_settled) (defBody s_settled) (defScope s_settled) .none kV_settled dc_settled pm_settled an_settled cd_settled ct_settled), sl_settled⟩)
    (c_settled : PySem.W.codeIn K cd_settled "settled" = true) (k_settled : PySem.W.keepIn K (.ref f_settled) = true)
    {f_fall : Addr} {od_fall an_fall : Option Addr} {sl_fall : Array (Option Value)} {oc_fall kV_fall dc_fall pm_fall cd_fall ct_fall : Value}
    (a_fall : PySem.W.nsIn K mainGlobals "fall" = some (some (.ref f_fall)))
    (l_fall : K.lookup f_fall = some ⟨oc_fall, od_fall, .func (PySem.W.fnOf "fall" "fall" (defArgs s_fall) (defBody s_fall) (defScope s_fall) .none kV_fall dc_fall pm_fall an_fall cd_fall ct_fall), sl_fall⟩)
    (c_fall : PySem.W.codeIn K cd_fall "fall" = true) (k_fall : PySem.W.keepIn K (.ref f_fall) = true)
    {f__law_cell_at : Addr} {od__law_cell_at an__law_cell_at : Option Addr} {sl__law_cell_at : Array (Option Value)} {oc__law_cell_at kV__law_cell_at dc__law_cell_at pm__law_cell_at cd__law_cell_at ct__law_cell_at : Value}
    (a__law_cell_at : PySem.W.nsIn K mainGlobals "_law_cell_at" = some (some (.ref f__law_cell_at)))
    (l__law_cell_at : K.lookup f__law_cell_at = some ⟨oc__law_cell_at, od__law_cell_at, .func (PySem.W.fnOf "_law_cell_at" "_law_cell_at" (defArgs s__law_cell_at) (defBody s__law_cell_at) (defScope s__law_cell_at) .none kV__law_cell_at dc__law_cell_at pm__law_cell_at an__law_cell_at cd__law_cell_at ct__law_cell_at), sl__law_cell_at⟩)
    (c__law_cell_at : PySem.W.codeIn K cd__law_cell_at "_law_cell_at" = true) (k__law_cell_at : PySem.W.keepIn K (.ref f__law_cell_at) = true)
    {f__law_draw : Addr} {od__law_draw an__law_draw : Option Addr} {sl__law_draw : Array (Option Value)} {oc__law_draw kV__law_draw dc__law_draw pm__law_draw cd__law_draw ct__law_draw : Value}
    (a__law_draw : PySem.W.nsIn K mainGlobals "_law_draw" = some (some (.ref f__law_draw)))
    (l__law_draw : K.lookup f__law_draw = some ⟨oc__law_draw, od__law_draw, .func (PySem.W.fnOf "_law_draw" "_law_draw" (defArgs s__law_draw) (defBody s__law_draw) (defScope s__law_draw) .none kV__law_draw dc__law_draw pm__law_draw an__law_draw cd__law_draw ct__law_draw), sl__law_draw⟩)
    (c__law_draw : PySem.W.codeIn K cd__law_draw "_law_draw" = true) (k__law_draw : PySem.W.keepIn K (.ref f__law_draw) = true)
    {f__law_value : Addr} {od__law_value an__law_value : Option Addr} {sl__law_value : Array (Option Value)} {oc__law_value kV__law_value dc__law_value pm__law_value cd__law_value ct__law_value : Value}
    (a__law_value : PySem.W.nsIn K mainGlobals "_law_value" = some (some (.ref f__law_value)))
    (l__law_value : K.lookup f__law_value = some ⟨oc__law_value, od__law_value, .func (PySem.W.fnOf "_law_value" "_law_value" (defArgs s__law_value) (defBody s__law_value) (defScope s__law_value) .none kV__law_value dc__law_value pm__law_value an__law_value cd__law_value ct__law_value), sl__law_value⟩)
    (c__law_value : PySem.W.codeIn K cd__law_value "_law_value" = true) (k__law_value : PySem.W.keepIn K (.ref f__law_value) = true)
    {f__law_whole : Addr} {od__law_whole an__law_whole : Option Addr} {sl__law_whole : Array (Option Value)} {oc__law_whole kV__law_whole dc__law_whole pm__law_whole cd__law_whole ct__law_whole : Value}
    (a__law_whole : PySem.W.nsIn K mainGlobals "_law_whole" = some (some (.ref f__law_whole)))
    (l__law_whole : K.lookup f__law_whole = some ⟨oc__law_whole, od__law_whole, .func (PySem.W.fnOf "_law_whole" "_law_whole" (defArgs s__law_whole) (defBody s__law_whole) (defScope s__law_whole) .none kV__law_whole dc__law_whole pm__law_whole an__law_whole cd__law_whole ct__law_whole), sl__law_whole⟩)
    (c__law_whole : PySem.W.codeIn K cd__law_whole "_law_whole" = true) (k__law_whole : PySem.W.keepIn K (.ref f__law_whole) = true)
    {f__law_says : Addr} {od__law_says an__law_says : Option Addr} {sl__law_says : Array (Option Value)} {oc__law_says kV__law_says dc__law_says pm__law_says cd__law_says ct__law_says : Value}
    (a__law_says : PySem.W.nsIn K mainGlobals "_law_says" = some (some (.ref f__law_says)))
    (l__law_says : K.lookup f__law_says = some ⟨oc__law_says, od__law_says, .func (PySem.W.fnOf "_law_says" "_law_says" (defArgs s__law_says) (defBody s__law_says) (defScope s__law_says) .none kV__law_says dc__law_says pm__law_says an__law_says cd__law_says ct__law_says), sl__law_says⟩)
    (c__law_says : PySem.W.codeIn K cd__law_says "_law_says" = true) (k__law_says : PySem.W.keepIn K (.ref f__law_says) = true)
    {f__law_row : Addr} {od__law_row an__law_row : Option Addr} {sl__law_row : Array (Option Value)} {oc__law_row kV__law_row dc__law_row pm__law_row cd__law_row ct__law_row : Value}
    (a__law_row : PySem.W.nsIn K mainGlobals "_law_row" = some (some (.ref f__law_row)))
    (l__law_row : K.lookup f__law_row = some ⟨oc__law_row, od__law_row, .func (PySem.W.fnOf "_law_row" "_law_row" (defArgs s__law_row) (defBody s__law_row) (defScope s__law_row) .none kV__law_row dc__law_row pm__law_row an__law_row cd__law_row ct__law_row), sl__law_row⟩)
    (c__law_row : PySem.W.codeIn K cd__law_row "_law_row" = true) (k__law_row : PySem.W.keepIn K (.ref f__law_row) = true)
    {f__law_can : Addr} {od__law_can an__law_can : Option Addr} {sl__law_can : Array (Option Value)} {oc__law_can kV__law_can dc__law_can pm__law_can cd__law_can ct__law_can : Value}
    (a__law_can : PySem.W.nsIn K mainGlobals "_law_can" = some (some (.ref f__law_can)))
    (l__law_can : K.lookup f__law_can = some ⟨oc__law_can, od__law_can, .func (PySem.W.fnOf "_law_can" "_law_can" (defArgs s__law_can) (defBody s__law_can) (defScope s__law_can) .none kV__law_can dc__law_can pm__law_can an__law_can cd__law_can ct__law_can), sl__law_can⟩)
    (c__law_can : PySem.W.codeIn K cd__law_can "_law_can" = true) (k__law_can : PySem.W.keepIn K (.ref f__law_can) = true)
    {f__law_evened : Addr} {od__law_evened an__law_evened : Option Addr} {sl__law_evened : Array (Option Value)} {oc__law_evened kV__law_evened dc__law_evened pm__law_evened cd__law_evened ct__law_evened : Value}
    (a__law_evened : PySem.W.nsIn K mainGlobals "_law_evened" = some (some (.ref f__law_evened)))
    (l__law_evened : K.lookup f__law_evened = some ⟨oc__law_evened, od__law_evened, .func (PySem.W.fnOf "_law_evened" "_law_evened" (defArgs s__law_evened) (defBody s__law_evened) (defScope s__law_evened) .none kV__law_evened dc__law_evened pm__law_evened an__law_evened cd__law_evened ct__law_evened), sl__law_evened⟩)
    (c__law_evened : PySem.W.codeIn K cd__law_evened "_law_evened" = true) (k__law_evened : PySem.W.keepIn K (.ref f__law_evened) = true)
    {f_law : Addr} {od_law an_law : Option Addr} {sl_law : Array (Option Value)} {oc_law kV_law dc_law pm_law cd_law ct_law : Value}
    (a_law : PySem.W.nsIn K mainGlobals "law" = some (some (.ref f_law)))
    (l_law : K.lookup f_law = some ⟨oc_law, od_law, .func (PySem.W.fnOf "law" "law" (defArgs s_law) (defBody s_law) (defScope s_law) .none kV_law dc_law pm_law an_law cd_law ct_law), sl_law⟩)
    (c_law : PySem.W.codeIn K cd_law "law" = true) (k_law : PySem.W.keepIn K (.ref f_law) = true)
    (z_len : PySem.W.nsIn K mainGlobals "len" = some none)
    (z_range : PySem.W.nsIn K mainGlobals "range" = some none)
    (z_isinstance : PySem.W.nsIn K mainGlobals "isinstance" = some none)
    (z_int : PySem.W.nsIn K mainGlobals "int" = some none)
    (z_bool : PySem.W.nsIn K mainGlobals "bool" = some none)
    (z_list : PySem.W.nsIn K mainGlobals "list" = some none)
    (z_tuple : PySem.W.nsIn K mainGlobals "tuple" = some none)
    (z_all : PySem.W.nsIn K mainGlobals "all" = some none)
    (z_min : PySem.W.nsIn K mainGlobals "min" = some none)
    (z_max : PySem.W.nsIn K mainGlobals "max" = some none)
    (z_sum : PySem.W.nsIn K mainGlobals "sum" = some none)
    (z_set : PySem.W.nsIn K mainGlobals "set" = some none)
    (z_sorted : PySem.W.nsIn K mainGlobals "sorted" = some none)
    {t1 t2 : Tok}
    (m_MOST_GLASSES : PySem.W.nsIn K mainGlobals "MOST_GLASSES" = some (some (.int 12 t1)))
    (m_MOST_MEASURES : PySem.W.nsIn K mainGlobals "MOST_MEASURES" = some (some (.int 1000000 t2)))
    : ∃ fd : FuncData, (∀ (s : Shared) (v : Value), BindsTo s fd ⟨[v], []⟩ [("_law_script", v)]) ∧ ∀ base : Heap, K.In base → base.Ns mainGlobals mg → FnOk l.prog w K mg base CX0 7 fa fd ["_law_script"] (sp_law K) := by
  have e := hfa.symm.trans (PySem.W.mg_of X G a_law)
  cases e
  refine ⟨PySem.W.fnOf "law" "law" (defArgs s_law) (defBody s_law) (defScope s_law) .none kV_law dc_law pm_law an_law cd_law ct_law, fun s v => .of_eq rfl, fun base _ _ => ?_⟩
  have B : Bi mg := ⟨PySem.W.mg_none_of X G z_len, PySem.W.mg_none_of X G z_range, PySem.W.mg_none_of X G z_isinstance, PySem.W.mg_none_of X G z_int, PySem.W.mg_none_of X G z_bool, PySem.W.mg_none_of X G z_list, PySem.W.mg_none_of X G z_tuple, PySem.W.mg_none_of X G z_all, PySem.W.mg_none_of X G z_min, PySem.W.mg_none_of X G z_max, PySem.W.mg_none_of X G z_sum, PySem.W.mg_none_of X G z_set, PySem.W.mg_none_of X G z_sorted⟩
  have M : Mo mg t1 t2 := ⟨PySem.W.mg_of X G m_MOST_GLASSES, PySem.W.mg_of X G m_MOST_MEASURES⟩
  have C_is_number : Cal l.prog w K mg base CX0 1 "is_number" P_is_number (sp_is_number K) f_is_number _ := ⟨ok_is_number (fun_mk (st := s_is_number) l_is_number c_is_number k_is_number) B , PySem.W.mg_of X G a_is_number, k_is_number, (fun_mk (st := s_is_number) l_is_number c_is_number k_is_number).binds fun _ _ _ _ _ _ us hl => match us, hl with | [_], _ => rfl⟩
  have C_is_measure : Cal l.prog w K mg base CX0 2 "is_measure" P_is_measure (sp_is_measure K) f_is_measure _ := ⟨ok_is_measure (fun_mk (st := s_is_measure) l_is_measure c_is_measure k_is_measure) B M C_is_number, PySem.W.mg_of X G a_is_measure, k_is_measure, (fun_mk (st := s_is_measure) l_is_measure c_is_measure k_is_measure).binds fun _ _ _ _ _ _ us hl => match us, hl with | [_], _ => rfl⟩
  have C_is_row : Cal l.prog w K mg base CX0 3 "is_row" P_is_row (sp_is_row K) f_is_row _ := ⟨ok_is_row (fun_mk (st := s_is_row) l_is_row c_is_row k_is_row) B M C_is_measure, PySem.W.mg_of X G a_is_row, k_is_row, (fun_mk (st := s_is_row) l_is_row c_is_row k_is_row).binds fun _ _ _ _ _ _ us hl => match us, hl with | [_], _ => rfl⟩
  have C_are_places : Cal l.prog w K mg base CX0 2 "are_places" P_are_places (sp_are_places K) f_are_places _ := ⟨ok_are_places (fun_mk (st := s_are_places) l_are_places c_are_places k_are_places) B C_is_number, PySem.W.mg_of X G a_are_places, k_are_places, (fun_mk (st := s_are_places) l_are_places c_are_places k_are_places).binds fun _ _ _ _ _ _ us hl => match us, hl with | [_, _], _ => rfl⟩
  have C_can_even : Cal l.prog w K mg base CX0 1 "can_even" P_can_even (sp_can_even K) f_can_even _ := ⟨ok_can_even (fun_mk (st := s_can_even) l_can_even c_can_even k_can_even) B , PySem.W.mg_of X G a_can_even, k_can_even, (fun_mk (st := s_can_even) l_can_even c_can_even k_can_even).binds fun _ _ _ _ _ _ us hl => match us, hl with | [_, _], _ => rfl⟩
  have C_refuse_no_row : Cal l.prog w K mg base CX0 4 "refuse_no_row" P_refuse_no_row (sp_refuse_no_row K) f_refuse_no_row _ := ⟨ok_refuse_no_row (fun_mk (st := s_refuse_no_row) l_refuse_no_row c_refuse_no_row k_refuse_no_row) B C_is_row, PySem.W.mg_of X G a_refuse_no_row, k_refuse_no_row, (fun_mk (st := s_refuse_no_row) l_refuse_no_row c_refuse_no_row k_refuse_no_row).binds fun _ _ _ _ _ _ us hl => match us, hl with | [_], _ => rfl⟩
  have C_refuse_no_evening : Cal l.prog w K mg base CX0 3 "refuse_no_evening" P_refuse_no_evening (sp_refuse_no_evening K) f_refuse_no_evening _ := ⟨ok_refuse_no_evening (fun_mk (st := s_refuse_no_evening) l_refuse_no_evening c_refuse_no_evening k_refuse_no_evening) B C_are_places C_can_even, PySem.W.mg_of X G a_refuse_no_evening, k_refuse_no_evening, (fun_mk (st := s_refuse_no_evening) l_refuse_no_evening c_refuse_no_evening k_refuse_no_evening).binds fun _ _ _ _ _ _ us hl => match us, hl with | [_, _], _ => rfl⟩
  have C_evenings : Cal l.prog w K mg base CX0 5 "evenings" P_evenings (sp_evenings K) f_evenings _ := ⟨ok_evenings (fun_mk (st := s_evenings) l_evenings c_evenings k_evenings) B C_can_even C_refuse_no_row, PySem.W.mg_of X G a_evenings, k_evenings, (fun_mk (st := s_evenings) l_evenings c_evenings k_evenings).binds fun _ _ _ _ _ _ us hl => match us, hl with | [_], _ => rfl⟩
  have C_evened : Cal l.prog w K mg base CX0 5 "evened" P_evened (sp_evened K) f_evened _ := ⟨ok_evened (fun_mk (st := s_evened) l_evened c_evened k_evened) B C_refuse_no_evening C_refuse_no_row, PySem.W.mg_of X G a_evened, k_evened, (fun_mk (st := s_evened) l_evened c_evened k_evened).binds fun _ _ _ _ _ _ us hl => match us, hl with | [_, _], _ => rfl⟩
  have C_settled : Cal l.prog w K mg base CX0 6 "settled" P_settled (sp_settled K) f_settled _ := ⟨ok_settled (fun_mk (st := s_settled) l_settled c_settled k_settled) B C_evenings, PySem.W.mg_of X G a_settled, k_settled, (fun_mk (st := s_settled) l_settled c_settled k_settled).binds fun _ _ _ _ _ _ us hl => match us, hl with | [_], _ => rfl⟩
  have C_fall : Cal l.prog w K mg base CX0 5 "fall" P_fall (sp_fall K) f_fall _ := ⟨ok_fall (fun_mk (st := s_fall) l_fall c_fall k_fall) B C_refuse_no_evening C_refuse_no_row, PySem.W.mg_of X G a_fall, k_fall, (fun_mk (st := s_fall) l_fall c_fall k_fall).binds fun _ _ _ _ _ _ us hl => match us, hl with | [_, _], _ => rfl⟩
  have C__law_cell_at : Cal l.prog w K mg base CX0 1 "_law_cell_at" P__law_cell_at (sp__law_cell_at K) f__law_cell_at _ := ⟨ok__law_cell_at (fun_mk (st := s__law_cell_at) l__law_cell_at c__law_cell_at k__law_cell_at) B , PySem.W.mg_of X G a__law_cell_at, k__law_cell_at, (fun_mk (st := s__law_cell_at) l__law_cell_at c__law_cell_at k__law_cell_at).binds fun _ _ _ _ _ _ us hl => match us, hl with | [_, _], _ => rfl⟩
  have C__law_draw : Cal l.prog w K mg base CX0 1 "_law_draw" P__law_draw (sp__law_draw K) f__law_draw _ := ⟨ok__law_draw (fun_mk (st := s__law_draw) l__law_draw c__law_draw k__law_draw) B , PySem.W.mg_of X G a__law_draw, k__law_draw, (fun_mk (st := s__law_draw) l__law_draw c__law_draw k__law_draw).binds fun _ _ _ _ _ _ us hl => match us, hl with | [_, _, _], _ => rfl⟩
  have C__law_value : Cal l.prog w K mg base CX0 2 "_law_value" P__law_value (sp__law_value K) f__law_value _ := ⟨ok__law_value (fun_mk (st := s__law_value) l__law_value c__law_value k__law_value) B C__law_draw, PySem.W.mg_of X G a__law_value, k__law_value, (fun_mk (st := s__law_value) l__law_value c__law_value k__law_value).binds fun _ _ _ _ _ _ us hl => match us, hl with | [_, _], _ => rfl⟩
  have C__law_whole : Cal l.prog w K mg base CX0 1 "_law_whole" P__law_whole (sp__law_whole K) f__law_whole _ := ⟨ok__law_whole (fun_mk (st := s__law_whole) l__law_whole c__law_whole k__law_whole) B , PySem.W.mg_of X G a__law_whole, k__law_whole, (fun_mk (st := s__law_whole) l__law_whole c__law_whole k__law_whole).binds fun _ _ _ _ _ _ us hl => match us, hl with | [_], _ => rfl⟩
  have C__law_says : Cal l.prog w K mg base CX0 1 "_law_says" P__law_says (sp__law_says K) f__law_says _ := ⟨ok__law_says (fun_mk (st := s__law_says) l__law_says c__law_says k__law_says) B , PySem.W.mg_of X G a__law_says, k__law_says, (fun_mk (st := s__law_says) l__law_says c__law_says k__law_says).binds fun _ _ _ _ _ _ us hl => match us, hl with | [_, _], _ => rfl⟩
  have C__law_row : Cal l.prog w K mg base CX0 3 "_law_row" P__law_row (sp__law_row K) f__law_row _ := ⟨ok__law_row (fun_mk (st := s__law_row) l__law_row c__law_row k__law_row) B C__law_cell_at C__law_value, PySem.W.mg_of X G a__law_row, k__law_row, (fun_mk (st := s__law_row) l__law_row c__law_row k__law_row).binds fun _ _ _ _ _ _ us hl => match us, hl with | [_, _, _, _], _ => rfl⟩
  have C__law_can : Cal l.prog w K mg base CX0 1 "_law_can" P__law_can (sp__law_can K) f__law_can _ := ⟨ok__law_can (fun_mk (st := s__law_can) l__law_can c__law_can k__law_can) B , PySem.W.mg_of X G a__law_can, k__law_can, (fun_mk (st := s__law_can) l__law_can c__law_can k__law_can).binds fun _ _ _ _ _ _ us hl => match us, hl with | [_], _ => rfl⟩
  have C__law_evened : Cal l.prog w K mg base CX0 1 "_law_evened" P__law_evened (sp__law_evened K) f__law_evened _ := ⟨ok__law_evened (fun_mk (st := s__law_evened) l__law_evened c__law_evened k__law_evened) B , PySem.W.mg_of X G a__law_evened, k__law_evened, (fun_mk (st := s__law_evened) l__law_evened c__law_evened k__law_evened).binds fun _ _ _ _ _ _ us hl => match us, hl with | [_, _], _ => rfl⟩
  exact ok_law (fun_mk (st := s_law) l_law c_law k_law) B C__law_can C__law_evened C__law_row C__law_says C__law_whole C_evened C_evenings C_fall C_settled
end
end Lk
open PySem PySem.W PyProof.Rows
set_option maxRecDepth 100000 in
set_option maxHeartbeats 0 in
theorem PySem.Challenge.cw_evenglasses_k01_rows_holds : PySem.Challenge.rw_evenglasses_k01_rows.Holds := by
  w_on; o_law; k_head; (case hw => w_witness2)
  k_fill
  refine L2.walk_ofB (l := PySem.Challenge.rw_evenglasses_k01_rows) (n := 63) (k := 7) (x := "_law_script") (CX := fun _ => L2.CX0) (sp := fun w => Lk.sp_law _) rfl (by decide) rfl ⟨rfl, by decide, by decide⟩ (fun w h Y => PySem.W.kIn_of Y) ?F (fun _ _ a ns hl hb _ hS => ⟨a, ns, rfl, hS, hl, fun z hz => Eg.Bt.mono (Eg.bt_of_bits (hb z hz)) (by decide), fun _ => rfl⟩) (fun _ _ _ _ _ h => h)
  case F =>
    intro w mg fa h KX G hmg
    refine' Lk.all_mk KX G hmg ?a_is_number ?l_is_number ?c_is_number ?k_is_number ?a_is_measure ?l_is_measure ?c_is_measure ?k_is_measure ?a_is_row ?l_is_row ?c_is_row ?k_is_row ?a_are_places ?l_are_places ?c_are_places ?k_are_places ?a_can_even ?l_can_even ?c_can_even ?k_can_even ?a_refuse_no_row ?l_refuse_no_row ?c_refuse_no_row ?k_refuse_no_row ?a_refuse_no_evening ?l_refuse_no_evening ?c_refuse_no_evening ?k_refuse_no_evening ?a_evenings ?l_evenings ?c_evenings ?k_evenings ?a_evened ?l_evened ?c_evened ?k_evened ?a_settled ?l_settled ?c_settled ?k_settled ?a_fall ?l_fall ?c_fall ?k_fall ?a__law_cell_at ?l__law_cell_at ?c__law_cell_at ?k__law_cell_at ?a__law_draw ?l__law_draw ?c__law_draw ?k__law_draw ?a__law_value ?l__law_value ?c__law_value ?k__law_value ?a__law_whole ?l__law_whole ?c__law_whole ?k__law_whole ?a__law_says ?l__law_says ?c__law_says ?k__law_says ?a__law_row ?l__law_row ?c__law_row ?k__law_row ?a__law_can ?l__law_can ?c__law_can ?k__law_can ?a__law_evened ?l__law_evened ?c__law_evened ?k__law_evened ?a_law ?l_law ?c_law ?k_law ?z_len ?z_range ?z_isinstance ?z_int ?z_bool ?z_list ?z_tuple ?z_all ?z_min ?z_max ?z_sum ?z_set ?z_sorted ?m_MOST_GLASSES ?m_MOST_MEASURES
    (case a_is_number => k_is)
    (case l_is_number => k_is)
    (case c_is_number => k_is)
    (case k_is_number => k_is)
    (case a_is_measure => k_is)
    (case l_is_measure => k_is)
    (case c_is_measure => k_is)
    (case k_is_measure => k_is)
    (case a_is_row => k_is)
    (case l_is_row => k_is)
    (case c_is_row => k_is)
    (case k_is_row => k_is)
    (case a_are_places => k_is)
    (case l_are_places => k_is)
    (case c_are_places => k_is)
    (case k_are_places => k_is)
    (case a_can_even => k_is)
    (case l_can_even => k_is)
    (case c_can_even => k_is)
    (case k_can_even => k_is)
    (case a_refuse_no_row => k_is)
    (case l_refuse_no_row => k_is)
    (case c_refuse_no_row => k_is)
    (case k_refuse_no_row => k_is)
    (case a_refuse_no_evening => k_is)
    (case l_refuse_no_evening => k_is)
    (case c_refuse_no_evening => k_is)
    (case k_refuse_no_evening => k_is)
    (case a_evenings => k_is)
    (case l_evenings => k_is)
    (case c_evenings => k_is)
    (case k_evenings => k_is)
    (case a_evened => k_is)
    (case l_evened => k_is)
    (case c_evened => k_is)
    (case k_evened => k_is)
    (case a_settled => k_is)
    (case l_settled => k_is)
    (case c_settled => k_is)
    (case k_settled => k_is)
    (case a_fall => k_is)
    (case l_fall => k_is)
    (case c_fall => k_is)
    (case k_fall => k_is)
    (case a__law_cell_at => k_is)
    (case l__law_cell_at => k_is)
    (case c__law_cell_at => k_is)
    (case k__law_cell_at => k_is)
    (case a__law_draw => k_is)
    (case l__law_draw => k_is)
    (case c__law_draw => k_is)
    (case k__law_draw => k_is)
    (case a__law_value => k_is)
    (case l__law_value => k_is)
    (case c__law_value => k_is)
    (case k__law_value => k_is)
    (case a__law_whole => k_is)
    (case l__law_whole => k_is)
    (case c__law_whole => k_is)
    (case k__law_whole => k_is)
    (case a__law_says => k_is)
    (case l__law_says => k_is)
    (case c__law_says => k_is)
    (case k__law_says => k_is)
    (case a__law_row => k_is)
    (case l__law_row => k_is)
    (case c__law_row => k_is)
    (case k__law_row => k_is)
    (case a__law_can => k_is)
    (case l__law_can => k_is)
    (case c__law_can => k_is)
    (case k__law_can => k_is)
    (case a__law_evened => k_is)
    (case l__law_evened => k_is)
    (case c__law_evened => k_is)
    (case k__law_evened => k_is)
    (case a_law => k_is)
    (case l_law => k_is)
    (case c_law => k_is)
    (case k_law => k_is)
    (case z_len => k_is)
    (case z_range => k_is)
    (case z_isinstance => k_is)
    (case z_int => k_is)
    (case z_bool => k_is)
    (case z_list => k_is)
    (case z_tuple => k_is)
    (case z_all => k_is)
    (case z_min => k_is)
    (case z_max => k_is)
    (case z_sum => k_is)
    (case z_set => k_is)
    (case z_sorted => k_is)
    (case m_MOST_GLASSES => k_is)
    (case m_MOST_MEASURES => k_is)
