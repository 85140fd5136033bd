import PyProof.Rows.All
import Wide.All
import OpenK.AllK
import Wide.FinOn
import HandS.ForExc
import HandS.ForMost
import HandS.GenList
import PyProof.EqAt
import PyProof.EqKinds
import PyProof.TupleCall
import HandS.Dict
import HandS.Comp
import HandS.IsInst
import PyProof.StrBlock2
import HandS.Zip
import HandS.Walk
import KE.GoesNew
import KE.GoesMore
import HandS.TupAny
import HandS.ExcInit
import HandS.ExcField
import HandS.Star
import HandS.Lambda
import HandS.EndTab
import KE.KNest
import KE.KNestM
import KE.KIntText
import PyProof.P3Eq
import PySem.Challenge.RW_midswitch_k02_standings_listed
set_option Elab.async false
set_option linter.all false
set_option maxRecDepth 100000
set_option maxHeartbeats 4000000
namespace Ms
open PySem PySem.Spec PyProof.Rows L2 GenW
/-! ### a generator that a comprehension draws from: between two draws an item goes behind the list at S, and the block's names at C change -/
structure Zz (S C : Addr) (v : Value) (s s' : Shared) : Prop where
  os : s'.os = s.os
  bare : AllBare s'.gens
  rest : ∀ b o, b ≠ S → b ≠ C → s.heap.get? b = some o → s'.heap.get? b = some o
  put : ∀ acc c, s.heap.get? S = some (lstObj acc c) → ∃ c', s'.heap.get? S = some (lstObj (acc.push v) c')
  names : ∃ o, s'.heap.get? C = some o ∧ ∀ v, o.data ≠ .cell v
/-- the generator runs: ys is out and stands in S, the names at C are as they were when it was woken (s₀) -/
def Zi (X : Cx) (S C : Addr) (ys : List V) (σ : L2.St) (H : Hp) (s₀ s : Shared) : Prop :=
  ∃ (acc : Array Value) (c : Nat) (o : Obj), Vals ys acc.toList ∧ s₀.heap.get? C = some o ∧ Inv X [(S, lstObj acc c), (C, o)] σ H s
/-- S and C are none of the generator's own -/
structure ZFar (X : Cx) (S C : Addr) : Prop where
  s : Apart X S
  c : Apart X C
  ne : S ≠ C
  pn : ∀ p ∈ X.pn, p.1 ≠ S ∧ p.1 ≠ C
section
variable {X : Cx} {S C : Addr} {ys : List V} {σ : L2.St} {H : Hp} {s₀ s s' : Shared}
theorem Zi.at (h : Zi X S C ys σ H s₀ s) : H S = none ∧ H C = none ∧ (∃ acc c, Vals ys acc.toList ∧ s.heap.get? S = some (lstObj acc c)) ∧ s.heap.get? C = s₀.heap.get? C := by
  obtain ⟨acc, c, o, r, e0, I⟩ := h
  have p1 := I.pin (S, lstObj acc c) (List.mem_append_right _ (.head _))
  have p2 := I.pin (C, o) (List.mem_append_right _ (.tail _ (.head _)))
  exact ⟨p1.2.1, p2.2.1, ⟨acc, c, r, p1.1⟩, p2.1.trans e0.symm⟩
theorem Zi.woken {x : V} {v : Value} (F : ZFar X S C) (h : Zi X S C ys σ H s₀ s) (rv : RelV x v) (z : Zz S C v s s') : Zi X S C (ys ++ [x]) σ H s' s' := by
  obtain ⟨acc, c, o, r, e0, I⟩ := h
  obtain ⟨s1, s2, s3, s4, s5⟩ := I.pin (S, lstObj acc c) (List.mem_append_right _ (.head _))
  obtain ⟨c1, c2, c3, c4, c5⟩ := I.pin (C, o) (List.mem_append_right _ (.tail _ (.head _)))
  have I0 : Inv X [] σ H s := I.pins_of fun p hp => nomatch hp
  obtain ⟨zo, zb, zr, zp, on, en, nn⟩ := z
  obtain ⟨c', eS⟩ := zp acc c s1
  obtain ⟨hh, g, d, t, q⟩ := s'
  obtain rfl : q = s.os := zo
  have out : ∀ b, b ∉ [S, C] → b ≠ S ∧ b ≠ C := fun b hb => ⟨fun e => hb (e ▸ .head _), fun e => hb (e ▸ .tail _ (.head _))⟩
  have seen : ∀ b u, H b = some u → b ≠ S ∧ b ≠ C := fun b u e => ⟨fun y => (by rw [y, s2] at e; cases e), fun y => (by rw [y, c2] at e; cases e)⟩
  have J : Inv X [] σ H { s with heap := hh, gens := g, drawn := d, toks := t } := by
    refine I0.step (g' := g) (d' := d) (t' := t) (ch := [S, C]) (fun b hb => ?_) (fun b ob _ _ hc e _ => zr b ob (out b hc).1 (out b hc).2 e) (fun b ob _ _ hc e _ => ⟨_, zr b ob (out b hc).1 (out b hc).2 e⟩)
      (fun _ _ _ _ n => n) (fun b ob hc e => ⟨ob, zr b ob (out b hc).1 (out b hc).2 e⟩) (fun _ _ e => e) (fun _ _ _ e => e) (fun b ps e => ⟨#[], e.trans (by simp)⟩) (fun m hm => ?_) (fun b u e => ?_) zb
    · rcases List.mem_cons.mp hb with e | hb
      · exact e ▸ ⟨.inr F.s.1, F.s.2.1, F.s.2.2, fun p hp => (F.pn p (by simpa using hp)).1⟩
      · obtain rfl := List.mem_singleton.mp hb
        exact ⟨.inr F.c.1, F.c.2.1, F.c.2.2, fun p hp => (F.pn p (by simpa using hp)).2⟩
    · obtain ⟨ob, es, ep, ho, rest⟩ := hm
      exact ⟨ob, es, ep, zr _ ob (Ne.symm s3) (Ne.symm c3) ho, rest⟩
    · refine (I0.hok b u e).stay (fun a w ha y => ?_) (fun _ y => y) fun _ _ y => y
      rcases ha with y1 | y1
      · rw [y1] at y ⊢; exact zr b w (seen b u e).1 (seen b u e).2 y
      · exact zr a w (seen a _ y1).1 (seen a _ y1).2 y
  refine ⟨acc.push v, c', on, by rw [Array.toList_push]; exact r.append (.cons rv .nil), en, J.pins_of fun p hp => ?_⟩
  rcases List.mem_cons.mp hp with e | hp
  · exact e ▸ ⟨eS, s2, s3, s4, fun v y => by cases y⟩
  · obtain rfl := List.mem_singleton.mp hp
    exact ⟨en, c2, c3, c4, nn⟩
/-- a turn of an iterator at it keeps all that is known -/
theorem Zi.turned {it : Addr} {h' : Heap} {tk : Nat} (hp : ∀ p ∈ X.pn, p.1 ≠ it) (hS : it ≠ S) (hC : it ≠ C) (hH : H it = none) (hL : it ≠ X.env.locals) (hx : it ∈ X.ex ∨ X.s_0.heap.objs.size ≤ it) (hcell : ∀ x c, X.env.cells.lookup x = some c → c ≠ it)
    (h : Zi X S C ys σ H s₀ s) (k : ∀ b o, b ≠ it → s.heap.get? b = some o → h'.get? b = some o) : Zi X S C ys σ H s₀ { s with heap := h', toks := tk } := by
  obtain ⟨acc, c, o, r, e0, I⟩ := h
  refine ⟨acc, c, o, r, e0, I.turned (it := it) k hH hL hx hcell fun p hm => ?_⟩
  rcases List.mem_append.mp hm with y | y
  · exact hp p y
  rcases List.mem_cons.mp y with e | y
  · rw [e]; exact Ne.symm hS
  · rw [List.mem_singleton.mp y]; exact Ne.symm hC
end
/-- what is handed out, and who wakes it -/
def ZY (X : Cx) (S C : Addr) : Protocol := fun n s₀ v s kap =>
  ∃ ys x σ H, n + 1 + ys.length = sizeLine ∧ RelV x v ∧ Zi X S C ys σ H s₀ s ∧ ∀ s', Zz S C v s s' → kap (.send .none) s'
/-- the turns of «yield from» -/
theorem seg_yfZ {X : Cx} {S C : Addr} {A : Around} {R : GenEnd} {fs : List Frame} {it : Addr} {xs : List V} {St : Nat → Heap → Prop} {σ : L2.St} {H : Hp} (F : ZFar X S C) (hp : ∀ p ∈ X.pn, p.1 ≠ it) (hS : it ≠ S) (hC : it ≠ C) (hH : H it = none) (hL : it ≠ X.env.locals)
    (hx : it ∈ X.ex ∨ X.s_0.heap.objs.size ≤ it) (hcell : ∀ x c, X.env.cells.lookup x = some c → c ≠ it) (q : QIt X H it xs St) (ho : (A.over (.builtin "proto.yield_from" ⟨[.ref it, .bool false, .none], []⟩) fs).handled = none) (hsp : splitAtGen fs = none) (hgd : fs.any Frame.guarded = false)
    (hend : ∀ (n : Nat) (s₀ s : Shared), Zi X S C xs σ H s₀ s → n + xs.length = sizeLine → Seg (model X.prog X.w) A R (ZY X S C) n s₀ (.builtin "proto.yield_from" ⟨[.ref it, .bool false, .none], []⟩) (.pure (.done (.ret .none))) fs s) :
    ∀ (r j n : Nat) (s₀ s : Shared), j + r = xs.length → n + j = sizeLine → r ≤ n → Zi X S C (xs.take j) σ H s₀ s → St j s.heap → Seg (model X.prog X.w) A R (ZY X S C) n s₀ (.builtin "proto.yield_from" ⟨[.ref it, .bool false, .none], []⟩) ((model X.prog X.w).den (.builtin "proto.yield_from" ⟨[.ref it, .bool false, .none], []⟩)) fs s := by
  obtain ⟨T, hT, hcl, hng⟩ := q.ty
  intro r
  induction r with
  | zero =>
    intro j n s₀ s hj hn _ hI hst
    obtain rfl : j = xs.length := by omega
    rw [List.take_length] at hI
    rw [den_yf]; unfold Builtin.«proto.yield_from»
    try dsimp only
    refine seg_bind (wpAny_pure ?_); try dsimp only
    refine seg_bind (wpAny_attempt (wpAny_holding ?_)); rw [if_neg Bool.false_ne_true, if_pos (by rfl)]
    refine wpAny_bind (wpAny_rule (wpAny_bind (q.done _ s _ _ ho hst fun e h' tk hSx hk => ?_)))
    obtain ⟨a, o, vs, rfl, hoa, hcls, hdat, h5⟩ := hSx
    try dsimp only
    refine seg_bind (wpAny_endsTurn hoa hcls ?_); try dsimp only
    rw [if_pos rfl]
    first
      | exact seg_bind (wpAny_rule (seg_bind (wpAny_field hoa hdat h5 (hend n s₀ _ (hI.turned hp hS hC hH hL hx hcell hk) hn))))
      | (rw [if_neg Bool.false_ne_true]; exact seg_bind (wpAny_rule (seg_bind (wpAny_field hoa hdat h5 (hend n s₀ _ (hI.turned hp hS hC hH hL hx hcell hk) hn)))))
      | (rw [if_neg Bool.false_ne_true]; exact seg_bind (wpAny_pure (seg_bind (wpAny_rule (seg_bind (wpAny_field hoa hdat h5 (hend n s₀ _ (hI.turned hp hS hC hH hL hx hcell hk) hn)))))))
  | succ r ih =>
    intro j n s₀ s hj hn hrn hI hst
    have jl : j < xs.length := by omega
    obtain ⟨x, ex⟩ : ∃ x, xs[j]? = some x := ⟨_, List.getElem?_eq_getElem jl⟩
    obtain ⟨n, rfl⟩ : ∃ k, n = k + 1 := ⟨n - 1, by omega⟩
    have tl : (xs.take j).length = j := by rw [List.length_take]; omega
    rw [den_yf]; unfold Builtin.«proto.yield_from»
    try dsimp only
    refine seg_bind (wpAny_pure ?_); try dsimp only
    refine seg_bind (wpAny_attempt (wpAny_holding ?_)); rw [if_neg Bool.false_ne_true, if_pos (by rfl)]
    refine wpAny_bind (wpAny_rule (wpAny_bind (q.item _ j x s _ _ ho ex hst fun v h' tk rv st1 hk => ?_)))
    have hI1 := hI.turned (tk := tk) hp hS hC hH hL hx hcell hk
    obtain ⟨oi, hoi, hoc⟩ := hT (j + 1) h' st1
    refine wpAny_pure ?_; try dsimp only
    refine seg_bind (wpAny_typeOf (T := T) ⟨oi, hoi, hoc⟩ ?_); try dsimp only
    first
      | (refine seg_bind (wpAny_of_eq hcl (seg_bind (wpAny_pure ?_))))
      | refine seg_bind (wpAny_bind (wpAny_of_eq hcl (wpAny_pure ?_)))
      | refine seg_bind (wpAny_of_eq hcl ?_)
    try dsimp only
    refine seg_bind (wpAny_sleptOver hoi hoc hng ?_); refine seg_yield hsp rfl hgd ?_
    refine ⟨xs.take j, x, σ, H, by rw [tl]; omega, rv, hI1, fun s2 z => ?_⟩
    have a1 := hI1.at
    have hI2 := hI1.woken F rv z
    have st2 : St (j + 1) s2.heap := q.frame (j + 1) h' s2.heap st1 fun b o hb e => z.rest b o (fun y => ?_) (fun y => ?_) e
    · obtain ⟨oj, hoj, hjc⟩ := hT (j + 1) s2.heap st2
      have et : xs.take j ++ [x] = xs.take (j + 1) := by rw [List.take_add_one, ex]; rfl
      rw [et] at hI2
      show Seg _ _ _ _ n s2 _ (Builtin.Generator.sleptOver (.ref it) false >>= _) fs s2
      refine seg_bind (wpAny_sleptOver hoj hjc hng ?_); try dsimp only
      exact seg_bind (wpAny_pure (seg_again (plainId_quiet plain_yf _) (ih (j + 1) n s2 s2 (by omega) (by omega) (by omega) hI2 st2)))
    · rcases hb with e1 | e1
      · exact hS (e1.symm.trans y)
      · exact e1 (by rw [y]; exact a1.1)
    · rcases hb with e1 | e1
      · exact hC (e1.symm.trans y)
      · exact e1 (by rw [y]; exact a1.2.1)
end Ms
namespace Ms
open PySem PySem.Spec PyProof.Rows L2 GenW
/-! ### «yield from» over a list -/
section
variable {prog : Program} {w : World} {A : Around} {E : Value → Shared → Prop} {s : Shared}
theorem nx_lst_item {it l : Addr} {i : Nat} {its : Array Value} {x : Value} {Q : Option Value → Shared → Prop} (hit : s.heap.IsListIter it l i) (hl : s.heap.IsList l its) (hx : its[i]? = some x)
    (hQ : ∀ h', h'.IsListIter it l (i + 1) → Heap.SameBut it s.heap h' → Q (some x) { s with heap := h' }) : wpAny (model prog w) A (callSpecial? (.ref it) "__next__") Q E s := by
  obtain ⟨o, ho, hc, hd⟩ := id hit
  obtain ⟨ol, hol, _, nl, hdl⟩ := hl
  refine wpAny_callSpecial?_slot (name := Str.ofString "__next__") hit.typeIs slot_listiter_next (wpAny_call_entry slot_listiter_next hit.typeIs entry_listiter_next ?_ (args_listiter_next _))
  refine wpAny_bind (m := field (.ref it) 0) (wpAny_field ho hd (x := .ref l) rfl ?_)
  show wpAny _ _ (if (Value.ref l == Value.none) = true then _ else _) _ _ s; rw [if_neg (by exact Bool.false_ne_true)]
  refine wpAny_bind (m := field (.ref it) 1) (wpAny_field ho hd (x := .int i 0) rfl ?_)
  refine wpAny_bind (m := seqItems? (.ref l)) (wpAny_seqItems hol hdl ?_); simp only [Int.toNat_natCast, hx]
  exact wpAny_bind (wpAny_setField ho hd (by simp) (wpAny_pure ⟨x, rfl, hQ _ ⟨_, Heap.get?_update_self _ ho (Obj.isFreed_of_fields (Obj.data_mapFields hd _)), (Obj.cls_mapFields ..).trans hc, by rw [Obj.data_mapFields hd]; simp [rawInt]⟩ (Heap.SameBut.update ..)⟩))
theorem nx_lst_end {it l : Addr} {i : Nat} {its : Array Value} {Q : Option Value → Shared → Prop} (hh : A.handled = none) (hit : s.heap.IsListIter it l i) (hl : s.heap.IsList l its) (hx : its[i]? = none)
    (hE : ∀ e h', StopX e h' → Heap.ExtBut it s.heap h' → E e { s with heap := h' }) : wpAny (model prog w) A (callSpecial? (.ref it) "__next__") Q E s := by
  obtain ⟨o, ho, hc, hd⟩ := id hit
  obtain ⟨ol, hol, _, nl, hdl⟩ := hl
  refine wpAny_callSpecial?_slot (name := Str.ofString "__next__") hit.typeIs slot_listiter_next (wpAny_call_entry slot_listiter_next hit.typeIs entry_listiter_next ?_ (args_listiter_next _))
  refine wpAny_bind (m := field (.ref it) 0) (wpAny_field ho hd (x := .ref l) rfl ?_)
  show wpAny _ _ (if (Value.ref l == Value.none) = true then _ else _) _ _ s; rw [if_neg (by exact Bool.false_ne_true)]
  refine wpAny_bind (m := field (.ref it) 1) (wpAny_field ho hd (x := .int i 0) rfl ?_)
  refine wpAny_bind (m := seqItems? (.ref l)) (wpAny_seqItems hol hdl ?_); simp only [Int.toNat_natCast, hx]
  refine wpAny_bind (wpAny_rule (wpAny_bind (wpAny_setField ho hd (by simp) ?_)))
  refine wpAny_bind (m := newExc (.type "StopIteration") []) ?_
  simp only [newExc, newTuple]; refine wpAny_bind (wpAny_newObj_type ?_ (by size_fits))
  refine wpAny_bind (m := firstArgMember _ _) (wpAny_of_eq (a := Value.none) (by first | rfl | (simp only [firstArgMember]; rfl)) (wpAny_newObj_type ?_ (by size_fits)))
  simp only [raiseNew]; refine wpAny_bind (wpAny_handled ?_)
  first | rw [show A.in1.handled = none from hh] | rw [hh]
  refine wpAny_bind (wpAny_pure (wpAny_throw (hE _ _ ⟨_, _, _, rfl, Heap.get?_push_size _ rfl, rfl, rfl, ?_⟩ (((Heap.SameBut.update ..).extBut.push _).push _))))
  first | rfl | kernel_rfl | (rw [Array.getElem?_append_left (by decide)]; rfl)
end
theorem close_lst : typeLookup (.type "list_iterator") "close" = pure none := by rw [typeLookup_type, builtinLookup_eq_fast]; kernel_rfl
section
variable {X : Cx} {e : Expr} {te : TE}
def tYfLst (te : TE) : TYf := fun σ H Q => te σ H fun x H1 => ∃ a xs, x = .ref a ∧ H1 a = some (.lst xs) ∧ Q xs H1
theorem yf_lst (he : PE X e te) : YfE X e (tYfLst te) := by
  refine ⟨fun pins s σ H Q I h => thn (he.run pins s σ H _ I h) fun v s1 ⟨x, H1, I1, r1, a, xs, ex, ha, hq⟩ => ?_⟩
  subst ex
  obtain rfl : v = Value.ref a := r1
  have hsq : SqL X.K H1 a xs := SqL.of ha
  obtain ⟨its, rits, p, hz⟩ := I1.list hsq
  have hl := p.isList
  have far : ∀ b o, s1.heap.get? b = some o → b ≠ s1.heap.objs.size := fun b o e => Nat.ne_of_lt (Heap.lt_size e)
  refine ⟨"list", hl.typeIs, by decide, wpAny_pyIter_list hl ⟨s1.heap.objs.size, H1, xs, fun j h => h.IsListIter s1.heap.objs.size a j ∧ h.IsList a its.toArray, rfl, I1.kept (t' := s1.toks) fun b o e => Heap.get?_push_of_some _ e, .inr I1.sz, Nat.ne_of_gt I1.lt, fun y c hy => ?_,
    I1.hok.fresh (Nat.le_refl _), fun q hq => far q.1 _ (I1.pin q hq).1, ⟨⟨_, Heap.get?_push_size _ rfl, rfl, rfl⟩, hl.push _⟩, ⟨⟨"list_iterator", fun j h q => ?_, close_lst, by decide⟩, fun j h h' q hk => ?_, fun A' j x s2 Q' E' hA hx q hQ => ?_, fun A' s2 Q' E' hA q hE => ?_⟩, hq⟩⟩
  · obtain ⟨v, o, ho, _⟩ := I1.cell y c hy
    exact far c o ho
  · obtain ⟨⟨o, ho, hc, _⟩, _⟩ := q
    exact ⟨o, ho, hc⟩
  · obtain ⟨q1, o2, ho2, r2⟩ := q
    exact ⟨q1.at fun o ho => hk _ o (.inl rfl) ho, o2, hk _ o2 (.inr (by rw [ha]; exact fun z => by cases z)) ho2, r2⟩
  · obtain ⟨u, hu, ru⟩ := rits.get hx
    have ne : a ≠ s1.heap.objs.size := by
      obtain ⟨o, ho, _⟩ := hl
      exact far a o ho
    exact nx_lst_item q.1 q.2 (x := u) (by simpa using hu) fun h' q1 hs => hQ u h' s2.toks ru ⟨q1, q.2.extBut hs.extBut ne⟩ fun b o hb eb => hs.extBut b o hb eb
  · have no : its.toArray[xs.length]? = none := by
      have z := rits.length
      have z2 : its[xs.length]? = none := List.getElem?_eq_none_iff.mpr (by omega)
      simpa using z2
    exact nx_lst_end hA q.1 q.2 no fun e h' hS hk => hE e h' s2.toks hS fun b o hb eb => hk b o hb eb
end
end Ms
namespace Ms
open PySem PySem.Spec PyProof.Rows L2 GenW
/-! ### a generator def that is one «yield from», called -/
abbrev XF : XK := fun _ _ _ => False
abbrev SpZ := List V → Hp → (List V → Hp → Prop) → Prop
/-- the generator has come to its end: all it handed out stands in S -/
def ZF (P : Program) (w : World) (outer : List Env) (H : Hp) (s : Shared) (Q : List V → Hp → Prop) (S C : Addr) (s₀ s₁ : Shared) : Prop :=
  ∃ H' ys acc c, s₁.os = s.os ∧ AllBare s₁.gens ∧ Un (frs outer) [] H H' s.heap s₁.heap ∧ HOk P w H' s₁.heap ∧ H' S = none ∧ H' C = none ∧ s₁.heap.get? S = some (lstObj acc c) ∧ Vals ys acc.toList ∧ ys.length ≤ sizeLine ∧ s₁.heap.get? C = s₀.heap.get? C ∧ Q ys H'
def ZEnd (P : Program) (w : World) (outer : List Env) (H : Hp) (s : Shared) (Q : List V → Hp → Prop) (S C : Addr) : GenEnd := fun _ s₀ r s₁ =>
  ((r = .ok (.ret .none) ∨ r = .ok .next) ∧ ZF P w outer H s Q S C s₀ s₁) ∨ ∃ e, r = .error e ∧ False
def ZItem (s : Shared) (S C a : Addr) (g : Nat) : Protocol := fun n s₀ v s1 kap =>
  s1.os = s.os ∧ AllBare s1.gens ∧ s1.heap.NoLimit ∧ s1.heap.IsGen a g ∧ (∃ (acc : Array Value) (c : Nat), s1.heap.get? S = some (lstObj acc c) ∧ n + 1 + acc.size = sizeLine) ∧ s1.heap.get? C = s₀.heap.get? C ∧ ∀ s', Zz S C v s1 s' → kap (.send .none) s'
/-- a generator that has not begun -/
def GMadeZ (P : Program) (w : World) (k : Nat) (outer : List Env) (H : Hp) (s : Shared) (Q : List V → Hp → Prop) (u : Value) (s' : Shared) : Prop :=
  ∃ (a : Addr) (g : Nat) (c : Code), u = .ref a ∧ s.heap.objs.size ≤ a ∧ a < s'.heap.objs.size ∧ s'.heap.IsGen a g ∧ s'.gens[g]? = some (.fresh c) ∧ s'.os = s.os ∧ AllBare s'.gens ∧ s'.heap.NoLimit ∧ (∀ b o, s.heap.get? b = some o → s'.heap.get? b = some o) ∧
    ∀ (A : Around) (S C : Addr) (s2 : Shared), Room k A → A.frames = some outer → s'.heap.objs.size ≤ S → s'.heap.objs.size ≤ C → S ≠ C → (∀ b o, s'.heap.get? b = some o → s2.heap.get? b = some o) → (∃ c, s2.heap.get? S = some (lstObj #[] c)) → (∃ o, s2.heap.get? C = some o ∧ ∀ v, o.data ≠ .cell v) →
      s2.os = s.os → AllBare s2.gens → Seg (model P w) A (ZEnd P w outer H s Q S C) (ZItem s S C a g) sizeLine s2 c ((model P w).den c) [] s2
structure GFnZ (P : Program) (w : World) (K : PySem.W.Frag) (mg : Str → Option Value) (base : Heap) (k : Nat) (f : Addr) (fd : FuncData) (ps : List Str) (sp : SpZ) : Prop where
  len : ∀ vs H Q, sp vs H Q → vs.length = ps.length
  run : ∀ (A : Around) (outer : List Env) (s : Shared) (H : Hp) (args : Args) (us : List Value) (vs : List V) (Q : List V → Hp → Prop), Room k A → Env0 P w K mg base A outer s H → BindsTo s fd args (ps.zip us) → Vals vs us → sp vs H Q →
    codeAny (model P w) A (.call (.ref f) args) (fun r s' => match r with | .ok (.ret u) => GMadeZ P w k outer H s Q u s' | _ => False) s
theorem gfnZ {P : Program} {w : World} {K : PySem.W.Frag} {mg : Str → Option Value} {base : Heap} {k : Nat} {x qual : Str} {st : Stmt} {f : Addr} {fd : FuncData} {N ps : List Str} {sp : SpZ} {e : Expr} {yp pos : Pos} (F : Fun K x qual st f fd) (hb0 : defBody st = [.Expr (.YieldFrom e yp) pos]) (G : GScope N ps (defScope st))
    (len : ∀ vs H Q, sp vs H Q → vs.length = ps.length)
    (hbody : ∀ (cdv : Value) (A : Around) (outer : List Env) (s : Shared) (H : Hp) (vs : List V) (Q : List V → Hp → Prop) (pn : List (Addr × Obj)), Room k (A.deeper (envOfC qual (defScope st) s.heap.objs.size f cdv)) → sp vs H Q →
      ∃ t, YfE (gcxOf P w K mg base N qual (defScope st) f cdv A outer s H XF pn) e t ∧ t (start N vs) H fun ys H' => ys.length ≤ sizeLine ∧ Q ys H') : GFnZ P w K mg base (k + 1) f fd ps sp := by
  obtain ⟨oc, od, kV, doc, pm, an, cdv, ct, osl, rfl, lk, hcd⟩ := F.ex
  refine ⟨len, fun A outer s H args us vs Q hr e0 hb r hsp => ?_⟩
  have lv := len _ _ _ hsp
  have kin : K.In s.heap := e0.mod.kin.keeps fun b o q => (e0.bs b o q).1
  have lim : s.heap.NoLimit := e0.mod.nolimit.keeps fun b o q => (e0.bs b o q).1
  refine codeAny_call_generator hr.depth (kin _ _ lk) rfl G.co G.gen rfl (PySem.W.codeRec_of kin hcd) (hb _ _ _ _ (wpAny_newFunctionEnv_cells G.kind (fun ⟨n, v⟩ hy => ?_) fun env he s1 xc => ?_))
  · rcases G.par n (List.of_mem_zip hy).1 with q | q
    · exact .inl q
    · exact .inr ⟨q, PySem.W.cellsFrom_some _ _ _ (.inl q)⟩
  subst he
  have lim1 : s1.heap.NoLimit := lim.keeps xc.toInCall.keep
  refine ⟨lim1, ?_⟩
  obtain ⟨h1, tk, es1, hk1⟩ := xc.done
  have os1 : s1.os = s.os := es1 ▸ rfl
  have gen1 : s1.gens = s.gens := es1 ▸ rfl
  have lt1 : s.heap.objs.size < s1.heap.objs.size := xc.toInCall.ns.lt
  have kp1 : ∀ b o, s.heap.get? b = some o → s1.heap.get? b = some o := xc.toInCall.keep
  suffices main : ∀ (go : Obj) (nm qn : Value) (tk2 : Nat), go.cls = .type "generator" → go.data = .fields #[.int s1.gens.size 0, nm, qn] → go.slots = #[] → (∀ h : Heap, (h.push go).get? h.objs.size = some go) →
      GMadeZ P w (k + 1) outer H s Q (.ref s1.heap.objs.size) { s1 with gens := s1.gens.push (.fresh (.func (defBody st) (envOfC qual (defScope st) s.heap.objs.size f cdv))), toks := tk2, heap := s1.heap.push go } from
    main _ _ _ _ rfl rfl rfl fun h => Heap.get?_push_size _ rfl
  intro go nm qn tk2 g1 g2 g3 gp
  have isg : ∀ h : Heap, h.get? s1.heap.objs.size = some go → h.IsGen s1.heap.objs.size s1.gens.size := fun h e => ⟨go, nm, qn, e, g1, g2, g3⟩
  refine ⟨s1.heap.objs.size, s1.gens.size, _, rfl, Nat.le_of_lt lt1, by rw [Heap.size_push]; exact Nat.lt_succ_self _, isg _ (gp _), Array.getElem?_push_size .., os1, AllBare.push (by rw [gen1]; exact e0.bare) rfl, lim1.keeps fun b o e => Heap.get?_push_of_some _ e,
    fun b o e => Heap.get?_push_of_some _ (kp1 b o e), fun Aw S C s2 hrw hfr hS hC hSC hk2 hSo hCo hos hba => ?_⟩
  have e0w : Env0 P w K mg base Aw outer s H := ⟨hfr, e0.mod, e0.bs, e0.bsz, e0.funs, e0.frf, e0.hok, e0.bare⟩
  obtain ⟨t, ht, hq⟩ := hbody cdv Aw outer s H vs Q [(s1.heap.objs.size, go)] (hrw.deeper _) hsp
  have I1 : Inv (gcxOf P w K mg base N qual (defScope st) f cdv Aw outer s H XF []) [] (start N vs) H s1 := inv_startG G hrw.hd e0w lv r xc
  have kp2 : ∀ b o, s1.heap.get? b = some o → s2.heap.get? b = some o := fun b o q => hk2 b o (Heap.get?_push_of_some _ q)
  have I2 : Inv (gcxOf P w K mg base N qual (defScope st) f cdv Aw outer s H XF []) [] (start N vs) H s2 := I1.call' (ch := []) (hos.trans os1.symm) (Un.kept kp2) (I1.hok.kept kp2) hba fun b z => nomatch z
  rw [Heap.size_push] at hS hC
  obtain ⟨cS, eS⟩ := hSo
  obtain ⟨oC, eC, nC⟩ := hCo
  have young : ∀ b, s1.heap.objs.size ≤ b → H b = none ∧ b ≠ s.heap.objs.size ∧ b ∉ frs outer ∧ s.heap.objs.size ≤ b ∧ ∀ y c, (cellsFrom (s.heap.objs.size + 1) (defScope st).names []).lookup y = some c → c ≠ b := fun b hb => by
    refine ⟨I1.hok.fresh hb, fun y => by omega, I1.nofs hb, by omega, fun y c q z => ?_⟩
    obtain ⟨v, ob, ho, _⟩ := I1.cell y c q
    exact absurd (Nat.lt_of_lt_of_le (Heap.lt_size ho) (z ▸ hb)) (Nat.lt_irrefl _)
  have hS1 := young S (by omega)
  have hC1 := young C (by omega)
  have ha1 := young s1.heap.objs.size (Nat.le_refl _)
  have I3 : Inv (gcxOf P w K mg base N qual (defScope st) f cdv Aw outer s H XF [(s1.heap.objs.size, go)]) [(S, lstObj #[] cS), (C, oC)] (start N vs) H s2 := Inv.pinnedG I2 fun p hp => by
    rcases List.mem_cons.mp hp with e1 | hp
    · exact e1 ▸ ⟨hk2 _ _ (gp _), ha1.1, ha1.2.1, ha1.2.2.1, fun v q => by rw [g2] at q; cases q⟩
    rcases List.mem_cons.mp hp with e1 | hp
    · exact e1 ▸ ⟨eS, hS1.1, hS1.2.1, hS1.2.2.1, fun v q => by cases q⟩
    · obtain rfl := List.mem_singleton.mp hp
      exact ⟨eC, hC1.1, hC1.2.1, hC1.2.2.1, nC⟩
  generalize hX : gcxOf P w K mg base N qual (defScope st) f cdv Aw outer s H XF [(s1.heap.objs.size, go)] = X at I3 ht
  have xA : X.A = Aw.deeper (envOfC qual (defScope st) s.heap.objs.size f cdv) := by rw [← hX]; rfl
  have xe : X.env = envOfC qual (defScope st) s.heap.objs.size f cdv := by rw [← hX]; rfl
  have xP : X.prog = P := by rw [← hX]; rfl
  have xW : X.w = w := by rw [← hX]; rfl
  have xpn : X.pn = [(s1.heap.objs.size, go)] := by rw [← hX]; rfl
  have xs0 : X.s_0 = s := by rw [← hX]; rfl
  have xbad : ∀ y s', X.xe y s' → wpAny (model P w) X.A (leaving X.env y) (fun _ _ => False) (fun _ _ => False) s' := fun y s' hx => by
    rw [← hX] at hx ⊢
    exact wpAny_mono hx (fun _ _ q => (by obtain ⟨⟨_, _, _, _, _, _, _, _, _, _, _, _, q⟩, _⟩ := q; exact q)) fun _ _ q => q
  have FZ : ZFar X S C := by
    refine ⟨⟨by rw [xs0]; exact hS1.2.2.2.1, by rw [xe]; exact hS1.2.1, by rw [xe]; exact hS1.2.2.2.2⟩, ⟨by rw [xs0]; exact hC1.2.2.2.1, by rw [xe]; exact hC1.2.1, by rw [xe]; exact hC1.2.2.2.2⟩, hSC, fun p hp => ?_⟩
    rw [xpn] at hp
    obtain rfl := List.mem_singleton.mp hp
    exact ⟨by show s1.heap.objs.size ≠ S; omega, by show s1.heap.objs.size ≠ C; omega⟩
  have gone : ∀ {ys σ' H' s₀ s'}, Zi X S C ys σ' H' s₀ s' → s'.heap.IsGen s1.heap.objs.size s1.gens.size := fun {ys σ' H' s₀ s'} hI => by
    obtain ⟨_, _, _, _, _, J⟩ := hI
    exact isg _ (J.pin (s1.heap.objs.size, go) (List.mem_append_left _ (by rw [xpn]; exact .head _))).1
  have facts : ∀ {ys σ' H' s₀ s'}, Zi X S C ys σ' H' s₀ s' → s'.os = s.os ∧ AllBare s'.gens ∧ s'.heap.NoLimit ∧ Un (frs outer) [] H H' s.heap s'.heap ∧ HOk P w H' s'.heap := fun {ys σ' H' s₀ s'} hI => by
    obtain ⟨_, _, _, _, _, J⟩ := hI
    subst hX
    exact ⟨J.os, J.bare, J.nolimit, J.base, J.hok⟩
  refine seg_func ?_
  rw [hb0]
  refine seg_imp (R := fun _ s₀ r s' => r = .ok (.ret .none) ∧ ∃ ys σ' H', Zi X S C ys σ' H' s₀ s' ∧ ys.length ≤ sizeLine ∧ Q ys H') (Y := ZY X S C) (fun n s₀ r s' hR => ?_) (fun n s₀ v s' kap kap' hkk hY => ?_) sizeLine ?_
  · obtain ⟨rfl, ys, σ', H', hI, hl, hQ⟩ := hR
    obtain ⟨a1, a2, ⟨acc, c, ra, ea⟩, a4⟩ := hI.at
    obtain ⟨f1, f2, f3, f4, f5⟩ := facts hI
    exact .inl ⟨.inl rfl, H', ys, acc, c, f1, f2, f4, f5, a1, a2, ea, ra, hl, a4, hQ⟩
  · obtain ⟨ys, x, σ', H', hn, rv, hI, hw⟩ := hY
    obtain ⟨a1, a2, ⟨acc, c, ra, ea⟩, a4⟩ := hI.at
    obtain ⟨f1, f2, f3, f4, f5⟩ := facts hI
    have la : acc.size = ys.length := (by simp : acc.size = acc.toList.length).trans ra.length.symm
    exact ⟨f1, f2, f3, gone hI, ⟨acc, c, ea, by rw [la]; exact hn⟩, a4, fun s' z => hkk _ _ (hw s' z)⟩
  rw [← xe]
  have over : Aw.over (.func [.Expr (.YieldFrom e yp) pos] X.env) [] = X.A := by rw [over_func, xA, xe]
  have intr : interactive X.env = false := I3.quiet
  refine seg_execs_cons ?_
  rw [exec_Expr X.env _ pos intr rfl]
  have bad : ∀ (n : Nat) (s₀ : Shared) (y : Value) (s' : Shared), X.xe y s' → Seg (model P w) Aw (fun _ s₀ r s' => r = .ok (.ret .none) ∧ ∃ ys σ' H', Zi X S C ys σ' H' s₀ s' ∧ ys.length ≤ sizeLine ∧ Q ys H') (ZY X S C) n s₀ (.func [.Expr (.YieldFrom e yp) pos] X.env) ((leaving X.env y).wrap (fun _ => .raise y) .raise id id) [] s' := fun n s₀ y s' hx => by
    refine seg_wrap ?_
    rw [over]
    exact wpAny_mono (xbad y s' hx) (fun _ _ q => q.elim) fun _ _ q => q.elim
  show Seg _ _ _ _ sizeLine s2 _ (.at pos fun _ => ((eval e X.env >>= fun v => (standAt yp >>= fun _ => yieldFrom X.env v)) >>= fun x => dropValue (.YieldFrom e yp) pos x).wrap _ _ id id) [] s2
  refine seg_at (segw_bind2 ?_)
  rw [over, ← xP, ← xW]
  refine wpAny_mono (ht.run _ s2 _ H _ I3 (by exact hq)) (fun v s3 hv => ?_) fun y s' hx => by rw [xP, xW]; exact bad _ _ _ _ hx
  obtain ⟨T, hT, hne, hit⟩ := hv
  refine seg_at ?_
  show Seg _ _ _ _ sizeLine s2 _ ((yieldFrom X.env v).wrap (fun b => (dropValue (.YieldFrom e yp) pos b).wrap _ _ id id) _ id id) [] s3
  unfold yieldFrom
  refine seg_bind_wrap (wpAny_typeOf hT ?_)
  rw [if_neg (by rw [hne]; exact Bool.false_ne_true)]
  refine seg_bind_wrap (wpAny_holding ?_)
  rw [over]
  refine wpAny_mono hit (fun u s4 hu => ?_) fun y s' hx => by rw [xP, xW]; exact bad _ _ _ _ hx
  obtain ⟨it, H', xs, Stt, rfl, I4, q1, q2, q3, q4, q5, q6, q7, hle, hQ⟩ := hu
  have hiS : it ≠ S := fun z => q5 (S, lstObj #[] cS) (List.mem_append_right _ (.head _)) z.symm
  have hiC : it ≠ C := fun z => q5 (C, oC) (List.mem_append_right _ (.tail _ (.head _))) z.symm
  refine seg_call fun p => seg_yfZ (xs := xs) FZ (fun p hp => q5 p (List.mem_append_left _ hp)) hiS hiC q4 q2 q1 q3 q7 ?_ ?_ ?_ (fun n s₀ s' hI hn => ?_) xs.length 0 sizeLine s2 s4 (Nat.zero_add _) (Nat.add_zero _) hle ⟨#[], cS, oC, .nil, eC, I4⟩ q6
  · show (Aw.over (.func [.Expr (.YieldFrom e yp) pos] X.env) []).handled = none
    rw [over, xA]; exact hrw.hd
  · rfl
  · rfl
  · refine seg_leaf (.ok (.ret .none)) ?_
    exact seg_end (.ok (.ret .none)) ⟨rfl, xs, _, H', hI, hle, hQ⟩
end Ms
namespace Ms
open PySem PySem.Spec PyProof.Rows L2 GenW
/-! ### [x for x in g(..)]: a comprehension that draws from a generator -/
abbrev TGenZ := L2.St → Hp → (List V → Hp → Prop) → Prop
structure PGenZ (X : Cx) (k : Nat) (e : Expr) (tg : TGenZ) : Prop where
  run : ∀ (pins : List (Addr × Obj)) (s : Shared) (σ : L2.St) (H : Hp) (cont : List V → Hp → Prop), Inv X pins σ H s → tg σ H cont → wpAny (model X.prog X.w) X.A (eval e X.env)
    (fun u s' => ∃ H1 sc, Inv X pins σ H1 sc ∧ GMadeZ X.prog X.w k X.stack H1 sc cont u s') X.xe s
section
variable {X : Cx} {k : Nat}
def tCallZ (sp : SpZ) (t : TA) : TGenZ := fun σ H cont => t σ H fun vs H1 => sp vs H1 cont
theorem pgenZ_call {f : Addr} {fd : FuncData} {ps : List Str} {sp : SpZ} {y : Str} {p pos' : Pos} {e : Expr} {es : List Expr} {t : TA} (F : GFnZ X.prog X.w X.K X.mg X.base k f fd ps sp) (hr : Room k X.A) (hg : Gl X y) (hm : X.mg y = some (.ref f)) (hk : PySem.W.keepIn X.K (.ref f) = true) (hb : Binds X.K fd ps [])
    (ha : PA X (e :: es) t) (hdb : (y == ("__debug__" : Str)) = false := by decide) (he : starEach (e :: es) X.env = (false, eval e X.env) :: starEach es X.env := by rfl) (hpl : (backTo pos' (starEach es X.env)).any (·.1) = false := by rfl) : PGenZ X k (.Call (.Name y p) (e :: es) [] pos') (tCallZ sp t) := by
  refine ⟨fun pins s σ H cont I h => wpAny_Call_Name_kw (ld_glob I hg hm (PySem.W.callWith_K (h₀ := X.base) I.ok.mod.kin hk (thn (ha.run pos' pins s σ H _ I h) fun us s1 ⟨vs, H1, I1, r, q⟩ => ⟨I1.kIn, ?_⟩) he hpl) hdb)⟩
  have l1 := F.len _ _ _ q
  have hb1 : BindsTo s1 fd ⟨us, []⟩ (ps.zip us) := by
    have z := hb s1 us I1.kIn (by rw [List.append_nil, ← r.length]; exact l1)
    rwa [List.append_nil] at z
  refine wpAny_call (codeAny_mono (F.run X.A X.stack s1 H1 ⟨us, []⟩ us vs cont hr I1.env0 hb1 r q) fun r2 s2 hq => ?_)
  match r2, hq with
  | .ok (.ret u), hq => exact ⟨H1, s1, I1, hq⟩
def tLcG (tg : TGenZ) : TE := fun σ H Q => tg σ H fun out H2 => ∀ p, H2 p = none → Q (.ref p) (upd H2 p (.lst out))
theorem pe_lcGen {x : Str} {px p2 pos : Pos} {iter : Expr} {scope : Scope} {own : List (Str × Nat)} {tg : TGenZ} (hc : X.calm = true) (hi : PGenZ X k iter tg) (hr : Room (k + 3) X.A) (ok : BlkOk X.N X.env.scope scope own) (hx : scope.names.lookup x = some .local)
    (hs : ∀ x, foldedSetIterable iter X.env x = pure x := by intro _; rfl) (hd : (x == ("__debug__" : Str)) = false := by decide) : PE X (.ListComp (.Name x p2) [⟨.Name x px, iter, [], 0⟩] scope pos) (tLcG tg) := by
  refine ⟨fun pins s σ H Q I h => ?_⟩
  rw [eval_ListComp]
  have hfree : ∀ y ∈ scope.names, y.2 = .free → ∃ c, X.env.cells.lookup y.1 = some c := fun y hy e => (ok.free y hy e).elim (fun k => I.ok.has _ (.inl k)) fun k => I.ok.has _ (.inr k)
  refine wpAny_comprehension_free (use := none) rfl hs (closure_ok hfree) ok.kind (fun y hy e => by rw [ok.uniq y hy, e]) (thn (hi.run pins s σ H _ I h) fun u s1 ⟨H1, sc, I1, hG⟩ => ?_)
  obtain ⟨a, g, c, rfl, ha1, ha2, hg, hgs, hos, hb, hl, hkp, wake⟩ := hG
  refine wpAny_pyIter_gen hg (wpAny_newObj_type (newEnv_comp ?_) (by show 0 ≤ sizeLine; decide))
  generalize hcell : cellsFrom _ scope.names (cloFrom X.env.cells scope.names []) = cl
  generalize hD : s1.heap.objs.size = D
  have hC : (s1.heap.push { cls := .type "list", data := .seq ([] : List Value).toArray }).objs.size = D + 1 := by rw [Heap.size_push, hD]
  generalize hs2 : ({ s1 with heap := pushCells ((s1.heap.push { cls := .type "list", data := .seq ([] : List Value).toArray }).push { cls := .type "dict", data := .dict #[] }) scope.names } : Shared) = s2
  show codeAny _ _ (.compStart _ 0 (.ref a) (.ref D) (compEnvC scope cl (s1.heap.push { cls := .type "list", data := .seq ([] : List Value).toArray }).objs.size X.env)) (compPost _ _ _ none _ (.ref D) (s1.heap.push { cls := .type "list", data := .seq ([] : List Value).toArray }).objs.size) _
  have keep2 : ∀ b o, s1.heap.get? b = some o → s2.heap.get? b = some o := fun b o e => by rw [← hs2]; exact pushCells_keeps _ _ _ _ (Heap.get?_push_of_some _ (Heap.get?_push_of_some _ e))
  have eD : s2.heap.get? D = some (lstObj #[] 0) := by
    rw [← hs2, ← hD]
    exact pushCells_keeps _ _ _ _ (Heap.get?_push_of_some _ (Heap.get?_push_size _ rfl))
  have nsC : s2.heap.Ns (D + 1) fun _ => none := by
    rw [← hs2, ← hC]
    exact (Heap.Ns.new _ _).keeps fun b o e => pushCells_keeps _ _ _ _ e
  rw [hC]
  have gen2 : s2.gens = s1.gens := by rw [← hs2]
  have os2 : s2.os = sc.os := by rw [← hs2]; exact hos
  have hh : X.A.handled = none := I.ok.hd hc
  have haD : a ≠ D := Nat.ne_of_lt (hD ▸ ha2)
  have haC : a ≠ D + 1 := Nat.ne_of_lt (Nat.lt_succ_of_lt (hD ▸ ha2))
  have hSt : cStatics < s1.heap.objs.size := let ⟨_, hn, _⟩ := hl; hn.lt
  generalize hce : compEnvC scope cl (D + 1) X.env = ce
  have ceL : ce.locals = D + 1 := by rw [← hce]; rfl
  have ceK : ce.scope.kind = .function := by rw [← hce]; exact ok.kind
  have ceX : ce.kindOf x = some .local := by
    rw [← hce]
    exact lookup_relabel_local hx
  have noncell : ∀ {h : Heap} {m : Str → Option Value}, h.Ns (D + 1) m → ∃ o, h.get? (D + 1) = some o ∧ ∀ v, o.data ≠ .cell v := by
    intro h m hn
    obtain ⟨o, es, ep, e, hdat, _, _⟩ := hn
    refine ⟨o, e, fun v z => ?_⟩
    rw [hdat] at z
    cases z
  have nDC : D ≠ D + 1 := Nat.ne_of_lt (Nat.lt_succ_self D)
  have nCD : D + 1 ≠ D := Nat.succ_ne_self D
  have scD : sc.heap.objs.size ≤ D := Nat.le_trans ha1 (Nat.le_of_lt (hD ▸ ha2))
  have stD : cStatics ≠ D := Nat.ne_of_lt (hD ▸ hSt)
  have stC : cStatics ≠ D + 1 := Nat.ne_of_lt (Nat.lt_succ_of_lt (hD ▸ hSt))
  have loop : codeAny (model X.prog X.w) X.A (.compLoop (.ListComp (.Name x p2) [⟨.Name x px, iter, [], 0⟩] scope pos) 0 (.ref a) (.ref D) ce) (compPost (model X.prog X.w) X.A X.xe none (fun v s' => EP X pins σ Q v s') (.ref D) (D + 1)) s2 := by
    refine compLoop_any (fun n s' => s'.heap.IsGen a g ∧ s'.heap.NoLimit ∧ (∃ m, s'.heap.Ns (D + 1) m) ∧ ∃ gs, s'.gens[g]? = some gs ∧ gs.Goes (model X.prog X.w) X.A.in1 (ZEnd X.prog X.w X.stack H1 sc (fun out H2 => ∀ p, H2 p = none → Q (.ref p) (upd H2 p (.lst out))) D (D + 1)) (ZItem sc D (D + 1) a g) n (.send .none) (s'.setGen g .running)) ?_ sizeLine
      ⟨hg.keeps keep2, hl.keeps keep2, ⟨_, nsC⟩, .fresh c, by rw [gen2]; exact hgs, rfl, wake X.A.in1 D (D + 1) (s2.setGen g .running) (Room.in1 (hr.mono (by omega))) I.ok.frames (Nat.le_of_eq hD) (Nat.le_succ_of_le (Nat.le_of_eq hD)) nDC keep2 ⟨_, eD⟩ (noncell nsC) os2 (allBare_setGen (by rw [gen2]; exact hb) rfl)⟩
    rintro n s3 ⟨hg3, hl3, ⟨m3, ns3⟩, gs, hgs3, hgo⟩
    have hgl : g + 1 ≤ s3.gens.size := (Array.getElem?_eq_some_iff.mp hgs3).1
    refine wpAny_gsz (n := g + 1) hgl (next_genG (F := fun _ s₀ s₁ => ZF X.prog X.w X.stack H1 sc (fun out H2 => ∀ p, H2 p = none → Q (.ref p) (upd H2 p (.lst out))) D (D + 1) s₀ s₁) (Er := fun _ _ => False) hh hl3 hr.depth hg3 hgs3 hgo (fun v s4 gs' hbare hv => ?_) (fun s4 hp h' hk => ?_) fun e s4 he => he.elim)
    · intro hsz
      obtain ⟨os4, ba4, nl4, ig4, ⟨acc, cc, eS, hz⟩, eC, wk⟩ := hv
      have hlt : g < s4.gens.size := by
        have q : (s4.setGen g gs').gens.size = s4.gens.size := setGen_size _ _ _
        omega
      refine wpAny_pure (wpAny_assign_Name (wpAny_storeName_local (m := m3) ceX ?_ (fun h5 ns5 sb5 => wpAny_tests_nil ?_) (by rw [ceK]; rfl)))
      · obtain ⟨o, es, ep, e, rest⟩ := ns3
        exact ⟨o, es, ep, by rw [ceL]; exact eC.trans e, rest⟩
      rw [ceL] at sb5
      have e5 : h5.get? D = some (lstObj acc cc) := (sb5.2 D nDC).trans eS
      rw [if_pos rfl]
      refine wpAny_Name (wpAny_loadName_local (v := v) ceK ceX ns5 (by simp) (append_at (its := acc) (n := cc) e5 (fun h6 sb6 e6 => ?_) (by omega))) hd
      have ns6 : h6.Ns (D + 1) _ := (ceL ▸ ns5).sameBut sb6 nCD
      have zz : Zz D (D + 1) v s4 ({ (s4.setGen g gs') with heap := h6, toks := s4.toks + 1 }.setGen g .running) := by
        refine ⟨rfl, allBare_setGen (s := { (s4.setGen g gs') with heap := h6 }) (allBare_setGen ba4 hbare) rfl, fun b o b1 b2 e => (sb6.2 b b1).trans ((sb5.2 b b2).trans e), fun acc' c' e => ?_, noncell ns6⟩
        rw [eS] at e
        cases e
        exact ⟨_, e6⟩
      have kap := wk _ zz
      cases n with
      | zero => exact False.elim kap
      | succ m =>
        have keep : ∀ b o, b ≠ D → b ≠ D + 1 → s4.heap.get? b = some o → h6.get? b = some o := fun b o b1 b2 e => (sb6.2 b b1).trans ((sb5.2 b b2).trans e)
        refine ⟨m, Nat.lt_succ_self _, ?_, ?_, ⟨_, ns6⟩, gs', setGen_at hlt, kap⟩
        · obtain ⟨o, nm, qn, ho, r⟩ := ig4
          exact ⟨o, nm, qn, keep a o haD haC ho, r⟩
        · obtain ⟨mc, hns, hnn⟩ := nl4
          exact ⟨mc, hns.at' fun o e => keep _ o stD stC e, hnn⟩
    · intro _
      obtain ⟨H', ys, acc, cc, os4, ba4, un, hok, nS, nC, eS, rv, hle, eC, hQ⟩ := hp
      refine ⟨m3, ?_, fun h2 sb => ⟨.ref D, upd H' D (.lst ys), ?_, rfl, hQ D nS⟩⟩
      · obtain ⟨o, es, ep, e, rest⟩ := ns3
        exact ⟨o, es, ep, hk _ _ (eC.trans e), rest⟩
      have I2 : Inv X pins σ (upd H' D (.lst ys)) { s4.setGen g .finished with heap := h' } := I1.drained (S := D) scD hle (hk _ _ eS) rv ExOk.nil os4 (allBare_setGen ba4 rfl) (un.trans (Un.kept hk)) (hok.kept hk) nS
      obtain ⟨f0, f1, f2, f3, f4, f5⟩ := I1.fpOk (b := D + 1) (H' := upd H' D (.lst ys)) (Nat.le_succ_of_le scD) (by rw [upd_ne nCD]; exact nC)
      exact I2.turned (t' := s4.toks) (fun b o hb e => (sb.2 b hb).trans e) f0 f1 f3 f4 f5
  exact codeAny_compStart_list loop (wpAny_pyIter_gen (hg.keeps keep2) loop)
end
end Ms
namespace Ms
open PySem PySem.Spec PyProof.Rows L2
section
variable {P : Program} {w : World} {K : PySem.W.Frag} {mg : Str → Option Value} {base : Heap}
theorem deeper_guards {A : Around} {env : Env} (h : A.guards = some []) : (A.deeper env).guards = some [] := h
/-- a def is run where it is known that no guard stands (repr asks for that) -/
theorem run_known {x qual : Str} {st : Stmt} {f : Addr} {fd : FuncData} {N ps : List Str} {k : Nat} (F : Fun K x qual st f fd) (S : FnScope N ps (defScope st))
    {A : Around} {outer : List Env} {s : Shared} {H : Hp} {args : Args} {us : List Value} {vs : List V} {Q : VK} {E : XK}
    (gA : A.guards = some []) (rm : Room (k + 1) A) (st0 : Env0 P w K mg base A outer s H) (bd : BindsTo s fd args (ps.zip us)) (rel : Vals vs us) (ln : vs.length = ps.length)
    (walk : ∀ cdv : Value, Room k (A.deeper (envOfC qual (defScope st) s.heap.objs.size f cdv)) →
      ∃ t, PSs (cxOf CX0 P w K mg base N qual (defScope st) f cdv A outer s H E).nox (defBody st) t ∧ t { nx := fun _ H' => Q .non H', rt := Q } (start N vs) H) :
    codeAny (model P w) A (.call (.ref f) args) (CR CX0 outer P w H s Q E) s := by
  obtain ⟨oc, od, kV, doc, pm, an, cdv, ct, osl, rfl, atK, code⟩ := F.ex
  have inH : K.In s.heap := st0.mod.kin.keeps fun b o q => (st0.bs b o q).1
  have noLim : s.heap.NoLimit := st0.mod.nolimit.keeps fun b o q => (st0.bs b o q).1
  have kinds : ∀ y ∈ ps.zip us, (defScope st).names.lookup y.1 = some .local ∨ ((defScope st).names.lookup y.1 = some .cell ∧ ((cellsFrom (s.heap.objs.size + 1) (defScope st).names []).lookup y.1).isSome = true) := by
    rintro ⟨n, v⟩ hy
    rcases S.par n (List.of_mem_zip hy).1 with z | z
    · exact Or.inl z
    · exact Or.inr ⟨z, PySem.W.cellsFrom_some _ _ _ (.inl z)⟩
  refine codeAny_call_function rm.depth (inH _ _ atK) rfl S.co S.gen rfl (PySem.W.codeRec_of inH code) (bd _ _ _ _ ?_)
  refine wpAny_newFunctionEnv_cells S.kind kinds fun env eq s1 inC => ?_
  subst eq
  refine And.intro (noLim.keeps inC.toInCall.keep) (codeAny_func ?_)
  obtain ⟨t, derives, reads⟩ := walk cdv (rm.deeper _)
  have I := inv_start (CX := CX0) (P := P) (mg := mg) (base := base) (E := E) S rm.hd st0 ln rel inC
  refine wpAny_mono (derives.nox.run [] s1 (start N vs) H _ I reads) (fun fl s' hs => ?_) fun e s' hs => hs
  cases fl with
  | ret u =>
    obtain ⟨v, σ', H', J, rv, q⟩ := hs
    exact ⟨v, H', J.os, J.bare, J.base, J.hok, rv, q⟩
  | next =>
    obtain ⟨σ', H', J, q⟩ := hs
    exact ⟨V.non, H', J.os, J.bare, J.base, J.hok, rfl, q⟩
  | brk => obtain ⟨_, _, _, q⟩ := hs; exact q.elim
  | cont => obtain ⟨_, _, _, q⟩ := hs; exact q.elim

/-- what a law's own def has to show: at a list of at most 63 ints it hands back True, where no guard stands -/
def LawRun (P : Program) (w : World) (K : PySem.W.Frag) (mg : Str → Option Value) (fa : Addr) : Prop :=
  ∀ (base : Heap) (H : Hp) (s : Shared) (a : Addr) (ns : List Int), K.In base → base.Ns mainGlobals mg → SqL K H a (ns.map V.int) → ns.length ≤ 63 → Env0 P w K mg base callerA [] s H →
    codeAny (model P w) callerA (.call (.ref fa) ⟨[.ref a], []⟩) (CR CX0 [] P w H s (fun v _ => v = .bl true) fun _ _ _ => False) s
/-- the script stands alone in the heap that is told: in H only at a, if at all -/
structure Alone (H : Hp) (h : Heap) (K : PySem.W.Frag) (a : Addr) : Prop where
  only : Only H
  here : ∀ b, H b ≠ none → b = a
  off : H a ≠ none → K.lookup a = none
theorem Alone.none {H : Hp} {h : Heap} {K : PySem.W.Frag} {a b : Addr} {o p : Obj} (x : Alone H h K a) (e : h.get? b = some o) (ea : h.get? a = some p) (d : o.data ≠ p.data) : H b = none := by
  cases q : H b with
  | none => rfl
  | some u =>
    have z := x.here b (by rw [q]; exact fun z => nomatch z)
    subst z
    rw [ea] at e
    cases e
    exact absurd rfl d
theorem Alone.ns {H : Hp} {h : Heap} {K : PySem.W.Frag} {a b : Addr} {vs : Array Value} {m : Str → Option Value} (x : Alone H h K a) (ea : h.get? a = some { cls := .type "list", data := .seq vs }) (n : h.Ns b m) : (hidT h H).Ns b m := by
  obtain ⟨o, es, ep, e, d, r⟩ := n
  refine ⟨o, es, ep, hidT_get e (x.none e ea ?_), d, r⟩
  rw [d]
  intro z
  cases z
theorem Alone.kin {H : Hp} {h : Heap} {K : PySem.W.Frag} {a : Addr} (x : Alone H h K a) (X : K.In h) : K.In (hidT h H) := by
  intro b o e
  refine hidT_get (X b o e) ?_
  cases q : H b with
  | none => rfl
  | some u =>
    have z := x.here b (by rw [q]; exact fun z => nomatch z)
    subst z
    rw [x.off (by rw [q]; exact fun z => nomatch z)] at e
    cases e
theorem law_ends {fa a : Addr} {s : Shared} {vs : List Value} {ns : List Int} {mb : Str → Option Value} {H : Hp} (R : LawRun P w K mg fa) (al : Alone H s.heap K a)
    (X : K.In s.heap) (g : s.heap.Ns mainGlobals mg) (b : s.heap.Ns builtinsNs mb) (bb : ∀ x : Str, x ≠ "__name__" → mb x = bootBuiltins x) (lim : s.heap.NoLimit) (gs : s.gens = #[])
    (ea : s.heap.get? a = some { cls := .type "list", data := .seq vs.toArray }) (hS : SqL K H a (ns.map V.int)) (hl : ns.length ≤ 63) (ok : HOk P w H s.heap) :
    codeAny (model P w) callerA (.call (.ref fa) ⟨[.ref a], []⟩) (fun r s' => r = .ok (.ret (.bool true)) ∧ OldK s.heap s'.heap ∧ s'.os = s.os ∧ AllBare s'.gens) s := by
  have M : Mod K mg (hidT s.heap H) := by
    refine ⟨al.kin X, al.ns ea g, ⟨mb, al.ns ea b, bb⟩, ?_⟩
    obtain ⟨mc, l1, l2⟩ := lim
    exact ⟨mc, al.ns ea l1, l2⟩
  have st0 : Env0 P w K mg (hidT s.heap H) callerA [] s H := by
    refine ⟨rfl, M, fun b o e => of_hidT e, Nat.le_of_eq (hidT_size _ _), trivial, fun b hb => ?_, ok, AllBare.of_eq gs⟩
    cases (show b ∈ ([] : List Addr) from hb)
  refine codeAny_mono (R _ H s a ns M.kin M.glob hS hl st0) fun r s' q => ?_
  match r, q with
  | .error e, q => exact False.elim q
  | .ok (.next), q => exact False.elim q
  | .ok (.brk), q => exact False.elim q
  | .ok (.cont), q => exact False.elim q
  | .ok (.ret u), q =>
    obtain ⟨v, H', eos, bare, un, ok', rv, qv⟩ := q
    have qv' : v = .bl true := qv
    subst qv'
    obtain rfl : u = Value.bool true := rv
    refine And.intro rfl (And.intro (OldK.of_keep fun c o e => ?_) (And.intro eos bare))
    rcases al.only c with z | ⟨ob, xs, z⟩
    · exact un.keep c o e z (fun y => by cases (show c ∈ ([] : List Addr) from y)) (by simp)
    · have h1 := (ok c _ z).1
      have h2 := (ok' c _ (un.frzs c ob _ z)).1
      rw [e] at h1
      cases h1
      exact h2
theorem law_known {fa a : Addr} {s : Shared} {vs : List Value} {ns : List Int} {mb : Str → Option Value} (R : LawRun P w K mg fa)
    (X : K.In s.heap) (g : s.heap.Ns mainGlobals mg) (b : s.heap.Ns builtinsNs mb) (bb : ∀ x : Str, x ≠ "__name__" → mb x = bootBuiltins x) (lim : s.heap.NoLimit) (gs : s.gens = #[])
    (ea : s.heap.get? a = some { cls := .type "list", data := .seq vs.toArray }) (hi : IntsAre vs ns) (hl : ns.length ≤ 63) :
    codeAny (model P w) callerA (.call (.ref fa) ⟨[.ref a], []⟩) (fun r s' => r = .ok (.ret (.bool true)) ∧ OldK s.heap s'.heap ∧ s'.os = s.os ∧ AllBare s'.gens) s := by
  have rel := vals_ints hi
  have ll := hi.length
  have hl2 : ns.length ≤ sizeLine := Nat.le_trans hl (by decide)
  cases lk : K.lookup a with
  | some o =>
    have e := X a o lk
    rw [ea] at e
    cases e
    refine law_ends (H := fun _ => Option.none) R ⟨fun _ => .inl rfl, fun _ z => absurd rfl z, fun z => absurd rfl z⟩ X g b bb lim gs ea ?_ hl (fun _ _ z => by cases (show (Option.none : Option HO) = some _ from z))
    refine .inr ⟨_, vs.toArray, _, lk, rfl, rfl, rfl, ?_, by simpa using rel⟩
    rw [List.size_toArray, ll]
    exact hl2
  | none =>
    let o0 : HO := .frz { cls := .type "list", data := .seq vs.toArray } (.lst (ns.map V.int))
    have at0 : ∀ c u, (fun c => if c = a then some o0 else Option.none) c = some u → c = a ∧ u = o0 := fun c u z => by
      by_cases hc : c = a
      · have z' := (if_pos hc).symm.trans z
        exact ⟨hc, (Option.some.inj z').symm⟩
      · have z' := (if_neg hc).symm.trans z
        cases z'
    refine law_ends (H := fun c => if c = a then some o0 else Option.none) R ⟨fun c => ?_, fun c z => ?_, fun _ => lk⟩ X g b bb lim gs ea (.inl (.inr ⟨_, if_pos rfl⟩)) hl (fun c u z => ?_)
    · by_cases hc : c = a
      · exact .inr ⟨_, _, if_pos hc⟩
      · exact .inl (if_neg hc)
    · by_cases hc : c = a
      · exact hc
      · exact absurd (if_neg hc) z
    · obtain ⟨hc, hu⟩ := at0 c u z
      subst hc
      subst hu
      exact ⟨ea, by rw [List.length_map]; exact hl2, vs, _, rel, ea⟩
/-- the end of a law's row -/
theorem walk_known {l : PySem.W.OpenLaw} {q : Program} {loose : List Str} {XP : (Str → Option Value) → Heap → Prop} {YP : World → Heap → Prop} {d : DefRec} {K : Params → PySem.W.Frag} (hn : l.most = some 63) (hdf : d.params.defaults = [])
    (hY : ∀ (w : World) (h : Heap), YP w h → (K w.params).In h)
    (R : ∀ (w : World) (mg : Str → Option Value) (fa : Addr) (h : Heap), (K w.params).In h → h.Ns mainGlobals mg → mg d.name = some (.ref fa) → LawRun l.prog w (K w.params) mg fa) :
    PySem.W.WalkO q loose XP YP l.row.toRowW d [] (fun f vs => PySem.call f vs) := by
  refine Att.attach_call hn hdf fun w s₀ s₁ mg mb fa o pm cd doc a vs ns G Y ho hd hcd hmg hobj hints hlen hg => ?_
  have KX := hY w _ Y
  exact law_known (R w mg fa _ KX G.T.g hmg) KX G.T.g G.T.b G.T.builtins G.T.nolimit hg hobj hints hlen
end

/-! ### data, and its repr -/
mutual
/-- v is the data d; its lists and dicts are none of the machine's two -/
inductive Dq (K : PySem.W.Frag) (H : Hp) (m l : Addr) : V → PyData → Prop
  | non : Dq K H m l .non .none
  | bl (b : Bool) : Dq K H m l (.bl b) (.bool b)
  | int (i : Int) : Dq K H m l (.int i) (.int i)
  | str (x : Str) : Dq K H m l (.str x) (.str x)
  | lst {a : Addr} {xs : List V} {ds : List PyData} : H a = some (.lst xs) → a ≠ m → a ≠ l → DqAll K H m l xs ds → Dq K H m l (.ref a) (.list ds)
  | tup {a : Addr} {xs : List V} {ds : List PyData} : SqT K H a xs → DqAll K H m l xs ds → Dq K H m l (.ref a) (.tuple ds)
  | dct {a : Addr} : H a = some (.dK []) → a ≠ m → a ≠ l → Dq K H m l (.ref a) (.dict [])
inductive DqAll (K : PySem.W.Frag) (H : Hp) (m l : Addr) : List V → List PyData → Prop
  | nil : DqAll K H m l [] []
  | cons {v : V} {vs : List V} {d : PyData} {ds : List PyData} : Dq K H m l v d → DqAll K H m l vs ds → DqAll K H m l (v :: vs) (d :: ds)
end
/-- from one heap to another one: what is not the machine's stands, and is not the machine's then -/
structure Kept (m l l' : Addr) (H H' : Hp) : Prop where
  keep : ∀ b o, H b = some o → b ≠ m → b ≠ l → H' b = some o
  ne : ∀ b o, H b = some o → b ≠ l → b ≠ l'
  am : ∃ z, H m = some (.dK z)
  al : ∃ z, H l = some (.lst z)
theorem Kept.tup {K : PySem.W.Frag} {m l l' a : Addr} {H H' : Hp} {xs : List V} (k : Kept m l l' H H') (h : SqT K H a xs) : SqT K H' a xs := by
  obtain ⟨z1, e1⟩ := k.am
  obtain ⟨z2, e2⟩ := k.al
  rcases h with (h | ⟨o, h⟩) | h
  · exact .inl (.inl (k.keep a _ h (ne_of h e1 (by intro z; cases z)) (ne_of h e2 (by intro z; cases z))))
  · exact .inl (.inr ⟨o, k.keep a _ h (ne_of h e1 (by intro z; cases z)) (ne_of h e2 (by intro z; cases z))⟩)
  · exact .inr h
mutual
theorem Dq.step {K : PySem.W.Frag} {m l l' : Addr} {H H' : Hp} (k : Kept m l l' H H') : ∀ (d : PyData) (v : V), Dq K H m l v d → Dq K H' m l' v d
  | .none, _, h => by cases h; exact .non
  | .bool b, _, h => by cases h; exact .bl b
  | .int i, _, h => by cases h; exact .int i
  | .str x, _, h => by cases h; exact .str x
  | .list ds, _, h => by
    cases h with
    | lst e n1 n2 t => exact .lst (k.keep _ _ e n1 n2) n1 (k.ne _ _ e n2) (DqAll.step k ds _ t)
  | .tuple ds, _, h => by
    cases h with
    | tup e t => exact .tup (k.tup e) (DqAll.step k ds _ t)
  | .dict _, _, h => by
    cases h with
    | dct e n1 n2 => exact .dct (k.keep _ _ e n1 n2) n1 (k.ne _ _ e n2)
theorem DqAll.step {K : PySem.W.Frag} {m l l' : Addr} {H H' : Hp} (k : Kept m l l' H H') : ∀ (ds : List PyData) (vs : List V), DqAll K H m l vs ds → DqAll K H' m l' vs ds
  | [], _, h => by cases h; exact .nil
  | d :: ds, _, h => by
    cases h with
    | cons h1 h2 => exact .cons (Dq.step k d _ h1) (DqAll.step k ds _ h2)
end
section
variable {X : Cx} {pins : List (Addr × Obj)} {σ : L2.St} {H : Hp} {s : Shared} {m l : Addr}
mutual
theorem Dq.reads (I : Inv X pins σ H s) (hs : H sysModules = none) : ∀ (d : PyData) (v : V) (u : Value), Dq X.K H m l v d → RelV v u → ∃ as, Reads s.heap u d as ∧ sysModules ∉ as
  | .none, _, _, h, r => by cases h; cases r; exact ⟨_, .none, by simp⟩
  | .bool b, _, _, h, r => by cases h; cases r; exact ⟨_, .bool b, by simp⟩
  | .int i, _, _, h, r => by cases h; obtain ⟨t, rfl⟩ := r; exact ⟨_, .int i t, by simp⟩
  | .str x, _, _, h, r => by cases h; obtain ⟨t, rfl⟩ := r; exact ⟨_, .str x t, by simp⟩
  | .list ds, _, _, h, r => by
    cases h with
    | lst e n1 n2 t =>
      cases r
      obtain ⟨its, rv, ⟨o, n, ho, hc, _, hd⟩, _⟩ := I.list (SqL.of e)
      obtain ⟨as, q1, q2⟩ := DqAll.reads I hs ds _ its t rv
      refine ⟨_, Reads.list ho hc hd q1, fun z => ?_⟩
      rcases List.mem_cons.mp z with z | z
      · rw [← z, hs] at e; cases e
      · exact q2 z
  | .tuple ds, _, _, h, r => by
    cases h with
    | tup e t =>
      cases r
      obtain ⟨its, rv, ⟨o, ho, hc, n, hd⟩, _⟩ := I.tuple e
      obtain ⟨as, q1, q2⟩ := DqAll.reads I hs ds _ its t rv
      exact ⟨_, Reads.tuple ho hc hd q1, q2⟩
  | .dict _, _, _, h, r => by
    cases h with
    | dct e n1 n2 =>
      cases r
      obtain ⟨z, hd, vs, rel, dd⟩ := dk_of I.hok e
      cases rel
      obtain ⟨o, es, ep, ho, hc, hdat, hlay⟩ := id dd
      have e0 : es.toList = [] := by
        have p := hlay.2.1
        cases q : es.toList with
        | nil => rfl
        | cons z zs => rw [q] at p; cases p
      refine ⟨_, Reads.dict (as := []) (bs := []) ho hc.1 hdat ?_ ?_, ?_⟩
      · rw [e0]; exact .nil
      · rw [e0]; exact .nil
      · intro z
        have z2 := List.mem_singleton.mp (show sysModules ∈ [_] from z)
        rw [← z2, hs] at e
        cases e
theorem DqAll.reads (I : Inv X pins σ H s) (hs : H sysModules = none) : ∀ (ds : List PyData) (vs : List V) (us : List Value), DqAll X.K H m l vs ds → Vals vs us → ∃ as, ReadsAll s.heap us ds as ∧ sysModules ∉ as
  | [], _, _, h, r => by cases h; cases r; exact ⟨_, .nil, by simp⟩
  | d :: ds, _, _, h, r => by
    cases h with
    | cons h1 h2 =>
      cases r with
      | cons r1 r2 =>
        obtain ⟨as, q1, p1⟩ := Dq.reads I hs d _ _ h1 r1
        obtain ⟨bs, q2, p2⟩ := DqAll.reads I hs ds _ _ h2 r2
        exact ⟨_, .cons q1 q2, fun z => (List.mem_append.mp z).elim p1 p2⟩
end
theorem no_sys {o : Obj} (hk : X.K.lookup sysModules = some o) (I : Inv X pins σ H s) : H sysModules = none := (I.bs _ _ (I.ok.mod.kin _ _ hk)).2
end
/-- repr(x) -/
theorem call_repr {X : Cx} {o : Obj} (hg : X.A.guards = some []) (hu : X.A.units + 64 < cLine) (hk : X.K.lookup sysModules = some o) :
    CallR X (.builtin "repr") (fun xs H Q => ∃ x d m l, xs = [x] ∧ Dq X.K H m l x d ∧ d.showable = true ∧ d.depth ≤ 60 ∧ d.shown.length ≤ sizeLine ∧ Q (.str d.shown) H) := by
  intro pins s σ H xs us Q I r h
  obtain ⟨x, d, m, l, rfl, hd, hs, hdep, hlen, q⟩ := h
  obtain ⟨u, rfl, rx⟩ := vals1 r
  obtain ⟨as, rd, na⟩ := Dq.reads I (no_sys hk I) d x u hd rx
  cases rd with
  | none => exact PySem.P.repr_of_none ⟨V.str _, H, I.tok _, ⟨_, rfl⟩, by simpa only [PyData.shown] using q⟩
  | bool b => exact PySem.P.repr_of_bool ⟨V.str _, H, I.tok _, ⟨_, rfl⟩, by simpa only [PyData.shown] using q⟩
  | int i t => exact PySem.P.repr_of_int (by simpa [PyData.showable] using hs) ⟨V.str _, H, I.tok _, ⟨_, rfl⟩, by simpa only [PyData.shown] using q⟩
  | str y t => exact PySem.P.repr_of_str ⟨V.str _, H, I.tok _, ⟨_, rfl⟩, by simpa only [PyData.shown] using q⟩ (by simpa only [PyData.shown] using hlen)
  | list h1 h2 h3 h4 => exact repr_of_reads' (.list h1 h2 h3 h4) hs (fun _ => na) hg (by omega) (fun _ _ e => e) (fun h' u' tk k => ⟨V.str _, H, I.kept k, ⟨_, rfl⟩, q⟩) hlen
  | tuple h1 h2 h3 h4 => exact repr_of_reads' (.tuple h1 h2 h3 h4) hs (fun _ => na) hg (by omega) (fun _ _ e => e) (fun h' u' tk k => ⟨V.str _, H, I.kept k, ⟨_, rfl⟩, q⟩) hlen
  | dict h1 h2 h3 h4 h5 => exact repr_of_reads' (.dict h1 h2 h3 h4 h5) hs (fun _ => na) hg (by omega) (fun _ _ e => e) (fun h' u' tk k => ⟨V.str _, H, I.kept k, ⟨_, rfl⟩, q⟩) hlen

/-! ### the same, of data that is a dict or bears none -/
def plainD : PyData → Bool
  | .dict [] => true
  | d => !d.hasDict
section
variable {X : Cx} {pins : List (Addr × Obj)} {σ : L2.St} {H : Hp} {s : Shared} {m l : Addr}
mutual
theorem Dq.reads0 (I : Inv X pins σ H s) : ∀ (d : PyData) (v : V) (u : Value), Dq X.K H m l v d → RelV v u → ∃ as, Reads s.heap u d as ∧ (d = .dict [] → sysModules ∉ as)
  | .none, _, _, h, r => by cases h; cases r; exact ⟨_, .none, by simp⟩
  | .bool b, _, _, h, r => by cases h; cases r; exact ⟨_, .bool b, by simp⟩
  | .int i, _, _, h, r => by cases h; obtain ⟨t, rfl⟩ := r; exact ⟨_, .int i t, by simp⟩
  | .str x, _, _, h, r => by cases h; obtain ⟨t, rfl⟩ := r; exact ⟨_, .str x t, by simp⟩
  | .list ds, _, _, h, r => by
    cases h with
    | lst e n1 n2 t =>
      cases r
      obtain ⟨its, rv, ⟨o, n, ho, hc, _, hd⟩, _⟩ := I.list (SqL.of e)
      obtain ⟨as, q1⟩ := DqAll.reads0 I ds _ its t rv
      exact ⟨_, Reads.list ho hc hd q1, fun z => nomatch z⟩
  | .tuple ds, _, _, h, r => by
    cases h with
    | tup e t =>
      cases r
      obtain ⟨its, rv, ⟨o, ho, hc, n, hd⟩, _⟩ := I.tuple e
      obtain ⟨as, q1⟩ := DqAll.reads0 I ds _ its t rv
      exact ⟨_, Reads.tuple ho hc hd q1, fun z => nomatch z⟩
  | .dict _, _, _, h, r => by
    cases h with
    | dct e n1 n2 =>
      cases r
      obtain ⟨z, hd, vs, rel, dd⟩ := dk_of I.hok e
      cases rel
      obtain ⟨o, es, ep, ho, hc, hdat, hlay⟩ := id dd
      have e0 : es.toList = [] := by
        have p := hlay.2.1
        cases q : es.toList with
        | nil => rfl
        | cons z zs => rw [q] at p; cases p
      refine ⟨_, Reads.dict (as := []) (bs := []) ho hc.1 hdat ?_ ?_, fun _ z => ?_⟩
      · rw [e0]; exact .nil
      · rw [e0]; exact .nil
      · have z2 := List.mem_singleton.mp (show sysModules ∈ [_] from z)
        rw [← z2] at hd
        exact absurd hd (by decide)
theorem DqAll.reads0 (I : Inv X pins σ H s) : ∀ (ds : List PyData) (vs : List V) (us : List Value), DqAll X.K H m l vs ds → Vals vs us → ∃ as, ReadsAll s.heap us ds as
  | [], _, _, h, r => by cases h; cases r; exact ⟨_, .nil⟩
  | d :: ds, _, _, h, r => by
    cases h with
    | cons h1 h2 =>
      cases r with
      | cons r1 r2 =>
        obtain ⟨as, q1, p1⟩ := Dq.reads0 I d _ _ h1 r1
        obtain ⟨bs, q2⟩ := DqAll.reads0 I ds _ _ h2 r2
        exact ⟨_, .cons q1 q2⟩
end
end
theorem plain_off {d : PyData} {as : List Addr} (p : plainD d = true) (h : d = .dict [] → sysModules ∉ as) : d.hasDict = true → sysModules ∉ as := fun z => by
  cases d with
  | dict kvs =>
    cases kvs with
    | nil => exact h rfl
    | cons a b =>
      have p' : (!(PyData.dict (a :: b)).hasDict) = true := p
      rw [z] at p'
      cases p'
  | _ =>
    have p' := p
    simp only [plainD, Bool.not_eq_true'] at p'
    rw [z] at p'
    cases p'
theorem call_repr0 {X : Cx} (hg : X.A.guards = some []) (hu : X.A.units + 64 < cLine) :
    CallR X (.builtin "repr") (fun xs H Q => ∃ x d m l, xs = [x] ∧ Dq X.K H m l x d ∧ plainD d = true ∧ d.showable = true ∧ d.depth ≤ 60 ∧ d.shown.length ≤ sizeLine ∧ Q (.str d.shown) H) := by
  intro pins s σ H xs us Q I r h
  obtain ⟨x, d, m, l, rfl, hd, hp, hs, hdep, hlen, q⟩ := h
  obtain ⟨u, rfl, rx⟩ := vals1 r
  obtain ⟨as, rd, na0⟩ := Dq.reads0 I d x u hd rx
  have na := plain_off hp na0
  cases rd with
  | none => exact PySem.P.repr_of_none ⟨V.str _, H, I.tok _, ⟨_, rfl⟩, by simpa only [PyData.shown] using q⟩
  | bool b => exact PySem.P.repr_of_bool ⟨V.str _, H, I.tok _, ⟨_, rfl⟩, by simpa only [PyData.shown] using q⟩
  | int i t => exact PySem.P.repr_of_int (by simpa [PyData.showable] using hs) ⟨V.str _, H, I.tok _, ⟨_, rfl⟩, by simpa only [PyData.shown] using q⟩
  | str y t => exact PySem.P.repr_of_str ⟨V.str _, H, I.tok _, ⟨_, rfl⟩, by simpa only [PyData.shown] using q⟩ (by simpa only [PyData.shown] using hlen)
  | list h1 h2 h3 h4 => exact repr_of_reads' (.list h1 h2 h3 h4) hs na hg (by omega) (fun _ _ e => e) (fun h' u' tk k => ⟨V.str _, H, I.kept k, ⟨_, rfl⟩, q⟩) hlen
  | tuple h1 h2 h3 h4 => exact repr_of_reads' (.tuple h1 h2 h3 h4) hs na hg (by omega) (fun _ _ e => e) (fun h' u' tk k => ⟨V.str _, H, I.kept k, ⟨_, rfl⟩, q⟩) hlen
  | dict h1 h2 h3 h4 h5 => exact repr_of_reads' (.dict h1 h2 h3 h4 h5) hs na hg (by omega) (fun _ _ e => e) (fun h' u' tk k => ⟨V.str _, H, I.kept k, ⟨_, rfl⟩, q⟩) hlen
end Ms
namespace Ms
open PySem PySem.Spec PyProof.Rows L2
/-! ### repr of any such data: no dict of it is the interpreter's own, and that is all that is asked -/
section
variable {X : Cx} {pins : List (Addr × Obj)} {σ : L2.St} {H : Hp} {s : Shared} {m l : Addr}
mutual
theorem Dq.shows (I : Inv X pins σ H s) : ∀ (d : PyData) (v : V) (u : Value), Dq X.K H m l v d → RelV v u → d.showable = true → d.shown.length ≤ sizeLine →
    ∃ as bs, Reads s.heap u d as ∧ ReadAtMost s.heap d.depth bs ∧ ReprK X.prog X.w bs s.heap d.depth u d.shown
  | .none, _, _, h, r, hs, hz => by
    cases h; cases r
    obtain ⟨bs, p, q⟩ := ReprK.of_reads (prog := X.prog) (w := X.w) (h₀ := s.heap) .none hs (fun z => by simp [PyData.hasDict] at z) hz
    exact ⟨_, bs, .none, p, q⟩
  | .bool b, _, _, h, r, hs, hz => by
    cases h; cases r
    obtain ⟨bs, p, q⟩ := ReprK.of_reads (prog := X.prog) (w := X.w) (h₀ := s.heap) (.bool b) hs (fun z => by simp [PyData.hasDict] at z) hz
    exact ⟨_, bs, .bool b, p, q⟩
  | .int i, _, _, h, r, hs, hz => by
    cases h; obtain ⟨t, rfl⟩ := r
    obtain ⟨bs, p, q⟩ := ReprK.of_reads (prog := X.prog) (w := X.w) (h₀ := s.heap) (.int i t) hs (fun z => by simp [PyData.hasDict] at z) hz
    exact ⟨_, bs, .int i t, p, q⟩
  | .str x, _, _, h, r, hs, hz => by
    cases h; obtain ⟨t, rfl⟩ := r
    obtain ⟨bs, p, q⟩ := ReprK.of_reads (prog := X.prog) (w := X.w) (h₀ := s.heap) (.str x t) hs (fun z => by simp [PyData.hasDict] at z) hz
    exact ⟨_, bs, .str x t, p, q⟩
  | .list ds, _, _, h, r, hs, hz => by
    cases h with
    | lst e n1 n2 t =>
      cases r
      obtain ⟨its, rv, ⟨o, n, ho, hc, _, hd⟩, _⟩ := I.list (SqL.of e)
      have fits : (listText (PyData.shownAll ds)).length ≤ sizeLine := by simpa only [PyData.shown] using hz
      obtain ⟨as, bs, r1, p, q⟩ := DqAll.shows I ds _ its t rv (by simpa [PyData.showable] using hs) fun x hx => Nat.le_trans (listText_mem_le hx) fits
      have rd := Reads.list ho hc hd r1
      have off := not_mem_of_deeper rd (by simp only [PyData.depth]; omega) p
      refine ⟨_, _, rd, ReadAtMost.cons rd (by simp only [PyData.depth]; omega) p, ?_⟩
      simp only [PyData.depth, PyData.shown]
      cases its with
      | nil =>
        cases r1
        simp only [PyData.shownAll, listText_nil]
        exact ReprK.listEmpty ho hc hd
      | cons y ys => exact ReprK.list ho hc hd off (by simpa using q.length_eq) fun i z e => q.item i z (by simpa using e)
  | .tuple ds, _, _, h, r, hs, hz => by
    cases h with
    | tup e t =>
      cases r
      obtain ⟨its, rv, ⟨o, ho, hc, n, hd⟩, _⟩ := I.tuple e
      have fits : (tupleText (PyData.shownAll ds)).length ≤ sizeLine := by simpa only [PyData.shown] using hz
      obtain ⟨as, bs, r1, p, q⟩ := DqAll.shows I ds _ its t rv (by simpa [PyData.showable] using hs) fun x hx => Nat.le_trans (tupleText_mem_le hx) fits
      have rd := Reads.tuple ho hc hd r1
      have off := not_mem_of_deeper rd (by simp only [PyData.depth]; omega) p
      refine ⟨_, _, rd, ReadAtMost.cons rd (by simp only [PyData.depth]; omega) p, ?_⟩
      simp only [PyData.depth, PyData.shown]
      exact ReprK.tuple ho hc hd off q
  | .dict kvs, v, u, h, r, hs, hz => by
    obtain ⟨as, rd, na⟩ := Dq.reads0 I (.dict kvs) v u h r
    cases h with
    | dct e n1 n2 =>
      obtain ⟨bs, p, q⟩ := ReprK.of_reads (prog := X.prog) (w := X.w) rd hs (fun _ => na rfl) hz
      exact ⟨as, bs, rd, p, q⟩
theorem DqAll.shows (I : Inv X pins σ H s) : ∀ (ds : List PyData) (vs : List V) (us : List Value), DqAll X.K H m l vs ds → Vals vs us → PyData.showableAll ds = true → (∀ t ∈ PyData.shownAll ds, t.length ≤ sizeLine) →
    ∃ as bs, ReadsAll s.heap us ds as ∧ ReadAtMost s.heap (PyData.depthAll ds) bs ∧ ReprAllK X.prog X.w bs s.heap (PyData.depthAll ds) us (PyData.shownAll ds)
  | [], _, _, h, r, _, _ => by
    cases h; cases r
    exact ⟨_, [], .nil, (fun _ z => nomatch z), by simp only [PyData.shownAll]; exact .nil⟩
  | d :: ds, _, _, h, r, hs, hz => by
    cases h with
    | cons h1 h2 =>
      cases r with
      | cons r1 r2 =>
        have both : d.showable = true ∧ PyData.showableAll ds = true := by simpa [PyData.showableAll] using hs
        obtain ⟨as1, bs1, rd1, p1, q1⟩ := Dq.shows I d _ _ h1 r1 both.1 (hz _ (by simp only [PyData.shownAll]; exact List.mem_cons_self ..))
        obtain ⟨as2, bs2, rd2, p2, q2⟩ := DqAll.shows I ds _ _ h2 r2 both.2 (fun x hx => hz x (by simp only [PyData.shownAll]; exact List.mem_cons_of_mem _ hx))
        refine ⟨_, bs1 ++ bs2, .cons rd1 rd2, ?_, ?_⟩
        · simp only [PyData.depthAll]
          exact (p1.mono (Nat.le_max_left _ _)).append (p2.mono (Nat.le_max_right _ _))
        · simp only [PyData.depthAll, PyData.shownAll]
          exact .cons ((q1.more fun b hb => List.mem_append_left _ hb).level_le (Nat.le_max_left _ _)) (q2.more_le (fun b hb => List.mem_append_right _ hb) (Nat.le_max_right _ _))
end
end
/-- repr(x) -/
theorem call_reprD {X : Cx} (hg : X.A.guards = some []) (hu : X.A.units + 64 < cLine) :
    CallR X (.builtin "repr") (fun xs H Q => ∃ x d m l, xs = [x] ∧ Dq X.K H m l x d ∧ d.showable = true ∧ d.depth ≤ 60 ∧ d.shown.length ≤ sizeLine ∧ Q (.str d.shown) H) := by
  intro pins s σ H xs us Q I r h
  obtain ⟨x, d, m, l, rfl, hd, hs, hdep, hlen, q⟩ := h
  cases d with
  | list ds =>
    obtain ⟨u, rfl, rx⟩ := vals1 r
    cases hd with
    | lst e n1 n2 t =>
      cases rx
      obtain ⟨its, rv, ⟨o, n, ho, hc, _, hdt⟩, _⟩ := I.list (SqL.of e)
      have fits : (listText (PyData.shownAll ds)).length ≤ sizeLine := by simpa only [PyData.shown] using hlen
      obtain ⟨as, bs, r1, p, k⟩ := DqAll.shows I ds _ its t rv (by simpa [PyData.showable] using hs) fun y hy => Nat.le_trans (listText_mem_le hy) fits
      have rd := Reads.list ho hc hdt r1
      have off := not_mem_of_deeper rd (by simp only [PyData.depth]; omega) p
      simp only [PyData.depth] at hdep
      refine call_repr_slot (by omega) ⟨o, ho, hc⟩ F.slot_list_repr.toG ?_
      have fin : ∀ (h' : Heap) (u : Tok) (tk : Nat), (∀ b o, s.heap.get? b = some o → h'.get? b = some o) → ∃ x t, Value.str (PyData.list ds).shown u = Value.str x t ∧ EP X pins σ Q (Value.str (PyData.list ds).shown u) { s with heap := h', toks := tk } := fun h' u tk k => ⟨_, _, rfl, V.str _, H, I.kept k, ⟨_, rfl⟩, q⟩
      simp only [PyData.shown] at fin
      cases its with
      | nil =>
        cases r1
        simp only [PyData.shownAll, listText_nil] at fin
        exact call_list_repr_empty ⟨o, ho, hc⟩ ho hdt (fin s.heap _ _ fun _ _ e => e)
      | cons y ys =>
        exact call_list_reprK ho hc hdt off (by simpa using k.length_eq) (fun i z e => k.item i z (by simpa using e)) hg (fun b _ => Clear.nil b) (by show X.A.units + 1 + _ < cLine; omega) (fun _ _ e => e) (fun h' u tk k => fin h' u tk k) fits
  | tuple ds =>
    obtain ⟨u, rfl, rx⟩ := vals1 r
    cases hd with
    | tup e t =>
      cases rx
      obtain ⟨its, rv, ⟨o, ho, hc, n, hdt⟩, _⟩ := I.tuple e
      have fits : (tupleText (PyData.shownAll ds)).length ≤ sizeLine := by simpa only [PyData.shown] using hlen
      obtain ⟨as, bs, r1, p, k⟩ := DqAll.shows I ds _ its t rv (by simpa [PyData.showable] using hs) fun y hy => Nat.le_trans (tupleText_mem_le hy) fits
      have rd := Reads.tuple ho hc hdt r1
      have off := not_mem_of_deeper rd (by simp only [PyData.depth]; omega) p
      simp only [PyData.depth] at hdep
      refine call_repr_slot (by omega) ⟨o, ho, hc⟩ F.slot_tuple_repr ?_
      have fin : ∀ (h' : Heap) (u : Tok) (tk : Nat), (∀ b o, s.heap.get? b = some o → h'.get? b = some o) → ∃ x t, Value.str (PyData.tuple ds).shown u = Value.str x t ∧ EP X pins σ Q (Value.str (PyData.tuple ds).shown u) { s with heap := h', toks := tk } := fun h' u tk k => ⟨_, _, rfl, V.str _, H, I.kept k, ⟨_, rfl⟩, q⟩
      simp only [PyData.shown] at fin
      exact call_tuple_reprK ho hc hdt off k hg (fun b _ => Clear.nil b) (by show X.A.units + 1 + _ < cLine; omega) (fun _ _ e => e) (fun h' u tk k => fin h' u tk k) fits
  | dict kvs =>
    cases hd with
    | dct e n1 n2 => exact call_repr0 hg hu pins s σ H [.ref _] us Q I r ⟨_, _, m, l, rfl, .dct e n1 n2, rfl, hs, hdep, hlen, q⟩
  | none => exact call_repr0 hg hu pins s σ H [x] us Q I r ⟨x, _, m, l, rfl, hd, by simp [plainD, PyData.hasDict], hs, hdep, hlen, q⟩
  | bool b => exact call_repr0 hg hu pins s σ H [x] us Q I r ⟨x, _, m, l, rfl, hd, by simp [plainD, PyData.hasDict], hs, hdep, hlen, q⟩
  | int i => exact call_repr0 hg hu pins s σ H [x] us Q I r ⟨x, _, m, l, rfl, hd, by simp [plainD, PyData.hasDict], hs, hdep, hlen, q⟩
  | str y => exact call_repr0 hg hu pins s σ H [x] us Q I r ⟨x, _, m, l, rfl, hd, by simp [plainD, PyData.hasDict], hs, hdep, hlen, q⟩
end Ms
namespace Ms
open PySem PySem.Spec PyProof.Rows L2
/-! ### data of bounded size -/
mutual
/-- ints within B, signs that are code points, dicts that are empty -/
def okD (B : Nat) : PyData → Bool
  | .none | .bool _ => true
  | .int i => decide (i.natAbs ≤ B)
  | .str x => x.cps.toList.all fun c => decide (c < 0x110000)
  | .list xs | .tuple xs => okAll B xs
  | .dict kvs => kvs.isEmpty
def okAll (B : Nat) : List PyData → Bool
  | [] => true
  | x :: xs => okD B x && okAll B xs
end
theorem okAll_iff {B : Nat} : ∀ {xs : List PyData}, okAll B xs = true ↔ ∀ x ∈ xs, okD B x = true
  | [] => by simp [okAll]
  | x :: xs => by simp [okAll, okAll_iff (xs := xs)]
mutual
theorem okD_mono {B C : Nat} (h : B ≤ C) : ∀ d : PyData, okD B d = true → okD C d = true
  | .none, _ => rfl
  | .bool _, _ => rfl
  | .int i, e => by simp only [okD, decide_eq_true_eq] at e ⊢; omega
  | .str x, e => by simpa only [okD] using e
  | .list xs, e => by simp only [okD] at e ⊢; exact okAll_mono h xs e
  | .tuple xs, e => by simp only [okD] at e ⊢; exact okAll_mono h xs e
  | .dict kvs, e => by simpa only [okD] using e
theorem okAll_mono {B C : Nat} (h : B ≤ C) : ∀ xs : List PyData, okAll B xs = true → okAll C xs = true
  | [], _ => rfl
  | x :: xs, e => by
    simp only [okAll, Bool.and_eq_true] at e ⊢
    exact ⟨okD_mono h x e.1, okAll_mono h xs e.2⟩
end
theorem log_small {i : Int} (h : i.natAbs ≤ 10 ^ 31) : i.natAbs.log2 < 1920 := by
  by_cases z : i.natAbs = 0
  · rw [z]; decide
  · have h1 : i.natAbs < 2 ^ 103 := by
      have e : (10 : Nat) ^ 31 < 2 ^ 103 := by decide
      omega
    have := (Nat.log2_lt z).mpr h1
    omega
theorem int_short {i : Int} (h : i.natAbs ≤ 10 ^ 31) : (PyData.shown (.int i)).length ≤ 64 := by
  have e := int_text_length_le10 (k := 32) (by decide) (show i.natAbs < 10 ^ 32 by
    have z : (10 : Nat) ^ 31 < 10 ^ 32 := by decide
    omega)
  show (Str.ofString (toString i)).length ≤ 64
  rw [PySem.ofString_length]
  omega
mutual
theorem ok_shows : ∀ d : PyData, okD (10 ^ 31) d = true → d.showable = true ∧ d.leavesShort 64 = true
  | .none, _ => ⟨rfl, rfl⟩
  | .bool _, _ => ⟨rfl, rfl⟩
  | .int i, e => by
    simp only [okD, decide_eq_true_eq] at e
    simp only [PyData.showable, PyData.leavesShort, decide_eq_true_eq]
    exact ⟨log_small e, int_short e⟩
  | .str x, e => by
    simp only [okD, List.all_eq_true, decide_eq_true_eq] at e
    refine ⟨rfl, ?_⟩
    simp only [PyData.leavesShort, List.all_eq_true, decide_eq_true_eq]
    intro c hc
    have := e c hc
    have z : (0x110000 : Nat) < 16 ^ 8 := by decide
    omega
  | .list xs, e => by
    simp only [okD] at e
    simp only [PyData.showable, PyData.leavesShort]
    exact okAll_shows xs e
  | .tuple xs, e => by
    simp only [okD] at e
    simp only [PyData.showable, PyData.leavesShort]
    exact okAll_shows xs e
  | .dict [], _ => ⟨rfl, rfl⟩
  | .dict (a :: b), e => by simp [okD] at e
theorem okAll_shows : ∀ xs : List PyData, okAll (10 ^ 31) xs = true → PyData.showableAll xs = true ∧ PyData.leavesShortAll 64 xs = true
  | [], _ => ⟨rfl, rfl⟩
  | x :: xs, e => by
    simp only [okAll, Bool.and_eq_true] at e
    obtain ⟨h1, h2⟩ := ok_shows x e.1
    obtain ⟨h3, h4⟩ := okAll_shows xs e.2
    simp only [PyData.showableAll, PyData.leavesShortAll, h1, h2, h3, h4, Bool.and_self, and_self]
end
/-- data within B, of weight at most a, of depth at most b -/
structure Gd (B a b : Nat) (d : PyData) : Prop where
  ok : okD B d = true
  wt : d.weight ≤ a
  dp : d.depth ≤ b
theorem Gd.mono {B a b B' a' b' : Nat} {d : PyData} (g : Gd B a b d) (h1 : B ≤ B') (h2 : a ≤ a') (h3 : b ≤ b') : Gd B' a' b' d := ⟨okD_mono h1 d g.ok, Nat.le_trans g.wt h2, Nat.le_trans g.dp h3⟩
theorem Gd.shown {a b : Nat} {d : PyData} (g : Gd (10 ^ 31) a b d) (ha : a ≤ 200000) : d.showable = true ∧ d.shown.length ≤ sizeLine := by
  obtain ⟨h1, h2⟩ := ok_shows d g.ok
  refine ⟨h1, ?_⟩
  have h := PyData.shown_le 64 (by decide) d h2
  have w := g.wt
  rw [sizeLine_eq]
  omega
end Ms
namespace Ms
open PySem PySem.Spec PyProof.Rows L2
/-! ### the machine of draws: a dict with the cells, what is left of the great ones, and a count -/
def kvM (c l : Addr) (n : Int) : List (Key × V) := [(.inr "cells", .ref c), (.inr "left", .ref l), (.inr "at", .int n)]
structure Mch (H : Hp) (m l : Addr) (n : Nat) : Prop where
  ex : ∃ (c : Addr) (cs ls : List Int) (z : Int), H m = some (.dK (kvM c l z)) ∧ H c = some (.lst (cs.map V.int)) ∧ H l = some (.lst (ls.map V.int)) ∧ c ≠ l ∧ 0 ≤ z ∧ z ≤ (n : Int) ∧ cs.length ≤ 63 ∧ ls.length ≤ 63
/-- behind a step: all but the machine's own dict and list stand as before -/
structure Fr (m l l' : Addr) (H H' : Hp) : Prop where
  keep : ∀ b o, H b = some o → b ≠ m → b ≠ l → H' b = some o
  new : l' = l ∨ H l' = none
  dom : ∀ b, H b ≠ none → H' b ≠ none
theorem Mch.mm {H : Hp} {m l : Addr} {n : Nat} (M : Mch H m l n) : H m ≠ none := by
  obtain ⟨c, cs, ls, z, h, _⟩ := M.ex
  rw [h]; exact fun z => nomatch z
theorem Fr.refl {m l : Addr} {H : Hp} {n : Nat} (M : Mch H m l n) : Fr m l l H H := ⟨fun _ _ e _ _ => e, .inl rfl, fun _ h => h⟩
theorem upd_dom {H : Hp} {p b : Addr} {o : HO} (h : H b ≠ none) : (upd H p o) b ≠ none := by
  by_cases e : b = p
  · rw [e, upd_same]; exact fun z => nomatch z
  · rw [upd_ne e]; exact h
theorem Fr.free {m l l' p : Addr} {H H' : Hp} (f : Fr m l l' H H') (hp : H' p = none) : H p = none := by
  cases q : H p with
  | none => rfl
  | some o => exact absurd hp (f.dom p (by rw [q]; exact fun z => nomatch z))
theorem Fr.trans {m l l' l'' : Addr} {H H' H'' : Hp} (f : Fr m l l' H H') (g : Fr m l' l'' H' H'') : Fr m l l'' H H'' := by
  have hl : ∀ b o, H b = some o → b ≠ m → b ≠ l → b ≠ l' := fun b o e hm hl => by
    rcases f.new with z | z
    · rw [z]; exact hl
    · exact ne_of_none e z
  refine ⟨fun b o e hm hb => g.keep b o (f.keep b o e hm hb) hm (hl b o e hm hb), ?_, fun b h => g.dom b (f.dom b h)⟩
  rcases g.new with z | z
  · rw [z]; exact f.new
  · exact .inr (f.free z)
theorem Mch.mono {H : Hp} {m l : Addr} {n k : Nat} (M : Mch H m l n) (h : n ≤ k) : Mch H m l k := by
  obtain ⟨c, cs, ls, z, h1, h2, h3, h4, h5, h6, h7⟩ := M.ex
  exact ⟨c, cs, ls, z, h1, h2, h3, h4, h5, by omega, h7⟩
def spBegun (K : PySem.W.Frag) : Sp := fun vs H Q _ => ∃ (a : Addr) (ns : List Int), vs = [.ref a] ∧ SqL K H a (ns.map V.int) ∧ ns.length ≤ 63 ∧
  ∀ (m l : Addr) (H' : Hp), H m = none → H l = none → Same H H' → Mch H' m l 0 → Q (.ref m) H'
structure Txt (mg : Str → Option Value) : Prop where
  list : mg "list" = none
  len : mg "len" = none
  int : mg "int" = none
section
variable {P : Program} {w : World} {K : PySem.W.Frag} {mg : Str → Option Value} {base : Heap}
/-! ### _law_next -/
structure MS (H : Hp) (m c l : Addr) (cs ls : List Int) (z : Int) : Prop where
  dm : H m = some (.dK (kvM c l z))
  dc : H c = some (.lst (cs.map V.int))
  dl : H l = some (.lst (ls.map V.int))
  ne : c ≠ l
theorem MS.junk {H : Hp} {m c l p : Addr} {cs ls : List Int} {z : Int} {o : HO} (S : MS H m c l cs ls z) (hp : H p = none) : MS (upd H p o) m c l cs ls z :=
  ⟨by rw [upd_ne (ne_of_none S.dm hp)]; exact S.dm, by rw [upd_ne (ne_of_none S.dc hp)]; exact S.dc, by rw [upd_ne (ne_of_none S.dl hp)]; exact S.dl, S.ne⟩
theorem Fr.junk {m l l' p : Addr} {H H' : Hp} {o : HO} (f : Fr m l l' H H') (hp : H' p = none) : Fr m l l' H (upd H' p o) := by
  refine ⟨fun b o e h1 h2 => ?_, f.new, fun b h => upd_dom (f.dom b h)⟩
  have q := f.keep b o e h1 h2
  rw [upd_ne (ne_of_none q hp)]; exact q
theorem MS.left {H : Hp} {m c l : Addr} {cs ls : List Int} {z : Int} (S : MS H m c l cs ls z) : DGet H m (.str "left") (some (.ref l)) := by
  have e : valV (kvM c l z) (.inr "left" : Key) = some (.ref l) := by unfold valV kvM; rfl
  rw [← e]; exact DGet.k (k := Sum.inr "left") S.dm
theorem MS.cells {H : Hp} {m c l : Addr} {cs ls : List Int} {z : Int} (S : MS H m c l cs ls z) : DGet H m (.str "cells") (some (.ref c)) := by
  have e : valV (kvM c l z) (.inr "cells" : Key) = some (.ref c) := by unfold valV kvM; rfl
  rw [← e]; exact DGet.k (k := Sum.inr "cells") S.dm
theorem MS.at {H : Hp} {m c l : Addr} {cs ls : List Int} {z : Int} (S : MS H m c l cs ls z) : DGet H m (.str "at") (some (.int z)) := by
  have e : valV (kvM c l z) (.inr "at" : Key) = some (.int z) := by unfold valV kvM; rfl
  rw [← e]; exact DGet.k (k := Sum.inr "at") S.dm
theorem put_left (c l l' : Addr) (z : Int) : putK (kvM c l z) (.inr "left" : Key) (.ref l') = kvM c l' z := by unfold putK kvM; rfl
theorem put_at (c l : Addr) (z z' : Int) : putK (kvM c l z) (.inr "at" : Key) (.int z') = kvM c l z' := by unfold putK kvM; rfl
theorem dpAll_ints {K : PySem.W.Frag} {H : Hp} : ∀ ns : List Int, DpAll K H (ns.map V.int) (ns.map PyData.int)
  | [] => .nil
  | n :: ns => .cons (.int n) (dpAll_ints ns)
theorem lay_ints : ∀ ns : List Int, PyData.canLayAll0 (ns.map PyData.int) = true
  | [] => rfl
  | n :: ns => by
    show (PyData.canLay0 (.int n) && PyData.canLayAll0 (ns.map PyData.int)) = true
    rw [lay_ints ns]; rfl
theorem depth_ints : ∀ ns : List Int, PyData.depthAll (ns.map PyData.int) = 0
  | [] => rfl
  | n :: ns => by
    show max (PyData.depth (.int n)) (PyData.depthAll (ns.map PyData.int)) = 0
    rw [depth_ints ns]; rfl
theorem shaped_ints (ns : List Int) : SeqAt.shaped (.list (ns.map PyData.int)) = true := by
  show (PyData.canLayAll0 (ns.map PyData.int) && decide (PyData.depthAll (ns.map PyData.int) + 1 ≤ 64)) = true
  rw [lay_ints, depth_ints]; rfl
theorem ifF {c : Bool} {A B : Prop} (hc : c = false) (h : B) : if c = true then A else B := by rw [hc, if_neg Bool.false_ne_true]; exact h
theorem ifT {c : Bool} {A B : Prop} (hc : c = true) (h : A) : if c = true then A else B := by rw [if_pos hc]; exact h
theorem cut1 (y : Int) (ys : List Int) : cutV ((y :: ys).map V.int) (some 1) none = ys.map V.int := by
  unfold cutV
  have e1 : HT.sIx ((y :: ys).map V.int).length 0 (some (1 : Int)) = 1 := by
    show HT.sIx _ 0 (some ((1 : Nat) : Int)) = 1
    rw [HT.sIx_nat]
    simp
  have e2 : HT.sIx ((y :: ys).map V.int).length ((y :: ys).map V.int).length none = (y :: ys).length := by
    show ((y :: ys).map V.int).length = _
    rw [List.length_map]
  rw [e1, e2]
  simp only [List.map_cons, List.drop_succ_cons, List.drop_zero, List.length_cons, Nat.add_sub_cancel]
  exact List.take_of_length_le (by simp)
theorem MS.fresh {H : Hp} {m c l p : Addr} {cs ls : List Int} {z : Int} (S : MS H m c l cs ls z) (hp : H p = none) : p ≠ m ∧ p ≠ c ∧ p ≠ l :=
  ⟨(fun e => by rw [e, S.dm] at hp; cases hp), (fun e => by rw [e, S.dc] at hp; cases hp), (fun e => by rw [e, S.dl] at hp; cases hp)⟩
theorem MS.mc {H : Hp} {m c l : Addr} {cs ls : List Int} {z : Int} (S : MS H m c l cs ls z) : m ≠ c := ne_of S.dm S.dc (by intro q; cases q)
theorem MS.ml {H : Hp} {m c l : Addr} {cs ls : List Int} {z : Int} (S : MS H m c l cs ls z) : m ≠ l := ne_of S.dm S.dl (by intro q; cases q)
/-- a new list is put as what is left -/
theorem MS.putL {H : Hp} {m c l p : Addr} {cs ls ls' : List Int} {z : Int} (S : MS H m c l cs ls z) (hp : H p = none) :
    MS (upd (upd H p (.lst (ls'.map V.int))) m (.dK (putK (kvM c l z) (.inr "left" : Key) (.ref p)))) m c p cs ls' z := by
  obtain ⟨n1, n2, n3⟩ := S.fresh hp
  refine ⟨by rw [upd_same, put_left], ?_, ?_, n2.symm⟩
  · rw [upd_ne S.mc.symm, upd_ne n2.symm]; exact S.dc
  · rw [upd_ne n1, upd_same]
theorem Fr.putM {m l l' p : Addr} {H H' : Hp} {o o' : HO} (f : Fr m l l' H H') (hp : H' p = none) : Fr m l p H (upd (upd H' p o) m o') := by
  refine ⟨fun b o e h1 h2 => ?_, .inr (f.free hp), fun b h => upd_dom (upd_dom (f.dom b h))⟩
  have q := f.keep b o e h1 h2
  rw [upd_ne h1, upd_ne (ne_of_none q hp)]; exact q
theorem MS.putA {H : Hp} {m c l : Addr} {cs ls : List Int} {z z' : Int} (S : MS H m c l cs ls z) :
    MS (upd H m (.dK (putK (kvM c l z) (.inr "at" : Key) (.int z')))) m c l cs ls z' :=
  ⟨by rw [upd_same, put_at], by rw [upd_ne S.mc.symm]; exact S.dc, by rw [upd_ne S.ml.symm]; exact S.dl, S.ne⟩
theorem Fr.putA {m l l' : Addr} {H H' : Hp} {o : HO} (f : Fr m l l' H H') : Fr m l l' H (upd H' m o) :=
  ⟨fun b o e h1 h2 => by rw [upd_ne h1]; exact f.keep b o e h1 h2, f.new, fun b h => upd_dom (f.dom b h)⟩
theorem MS.setL {H : Hp} {m c l : Addr} {cs ls ls' : List Int} {z : Int} (S : MS H m c l cs ls z) : MS (upd H l (.lst (ls'.map V.int))) m c l cs ls' z :=
  ⟨by rw [upd_ne S.ml]; exact S.dm, by rw [upd_ne S.ne]; exact S.dc, upd_same, S.ne⟩
theorem Fr.setL {m l l' : Addr} {H H' : Hp} {o : HO} (f : Fr m l l' H H') : Fr m l l' H (upd H' l' o) := by
  refine ⟨fun b o e h1 h2 => ?_, f.new, fun b h => upd_dom (f.dom b h)⟩
  have nb : b ≠ l' := by
    rcases f.new with q | q
    · rw [q]; exact h2
    · exact ne_of_none e q
  rw [upd_ne nb]; exact f.keep b o e h1 h2
theorem MS.mch {H : Hp} {m c l : Addr} {cs ls : List Int} {z : Int} {n : Nat} (S : MS H m c l cs ls z) (h1 : 0 ≤ z) (h2 : z ≤ (n : Int)) (h3 : cs.length ≤ 63) (h4 : ls.length ≤ 63) : Mch H m l n :=
  ⟨c, cs, ls, z, S.dm, S.dc, S.dl, S.ne, h1, h2, h3, h4⟩
def spNext : Sp := fun vs H Q _ => ∃ (m l : Addr) (n : Nat) (k : Int), vs = [.ref m, .int k] ∧ Mch H m l n ∧ n < 1000000 ∧ 0 < k ∧ k < 1000000 ∧
  ∀ (r : Int) (l' : Addr) (H' : Hp), 0 ≤ r → r < k → Mch H' m l' (n + 1) → Fr m l l' H H' → Q (.int r) H'
end
/-! ### growth of the heap -/
theorem Same.upd {H : Hp} {p : Addr} {o : HO} (h : H p = none) : Same H (upd H p o) := fun b q e => by rw [upd_ne (ne_of_none e h)]; exact e
theorem Mch.same {H H' : Hp} {m l : Addr} {n : Nat} (s : Same H H') (M : Mch H m l n) : Mch H' m l n := by
  obtain ⟨c, cs, ls, z, h1, h2, h3, h⟩ := M.ex
  exact ⟨c, cs, ls, z, s _ _ h1, s _ _ h2, s _ _ h3, h⟩
theorem Mch.kept {H H' : Hp} {m l : Addr} {n : Nat} (M : Mch H m l n) (s : Same H H') : Kept m l l H H' := by
  obtain ⟨c, cs, ls, z, h1, h2, h3, h⟩ := M.ex
  exact ⟨fun b o e _ _ => s b o e, fun _ _ _ h => h, ⟨_, h1⟩, ⟨_, h3⟩⟩
theorem Mch.step {H H' : Hp} {m l l' : Addr} {n : Nat} (M : Mch H m l n) (f : Fr m l l' H H') : Kept m l l' H H' := by
  obtain ⟨c, cs, ls, z, h1, h2, h3, h⟩ := M.ex
  refine ⟨f.keep, fun b o e hb => ?_, ⟨_, h1⟩, ⟨_, h3⟩⟩
  rcases f.new with q | q
  · rw [q]; exact hb
  · exact ne_of_none e q
theorem Mch.ne {H : Hp} {m l p : Addr} {n : Nat} (M : Mch H m l n) (h : H p = none) : p ≠ m ∧ p ≠ l := by
  obtain ⟨c, cs, ls, z, h1, h2, h3, _⟩ := M.ex
  exact ⟨(fun e => by rw [e, h1] at h; cases h), (fun e => by rw [e, h3] at h; cases h)⟩
/-- a fresh list, and one behind it -/
theorem Fr.lead {H0 H H' : Hp} {m l l' : Addr} (s : Same H0 H) (f : Fr m l l' H H') : Fr m l l' H0 H' := by
  have d : ∀ b, H0 b ≠ none → H b ≠ none := fun b h => by
    cases q : H0 b with
    | none => exact absurd q h
    | some o => rw [s b o q]; exact fun z => nomatch z
  refine ⟨fun b o e h1 h2 => f.keep b o (s b o e) h1 h2, ?_, fun b h => f.dom b (d b h)⟩
  rcases f.new with q | q
  · exact .inl q
  · exact .inr (Same.free s q)
theorem DqAll.get {K : PySem.W.Frag} {H : Hp} {m l : Addr} : ∀ {ds : List PyData} {vs : List V} {i : Nat} {v : V}, DqAll K H m l vs ds → vs[i]? = some v → ∃ d, ds[i]? = some d ∧ Dq K H m l v d
  | [], _, i, v, h, e => by cases h; simp at e
  | d :: ds, _, 0, v, h, e => by
    cases h with
    | cons h1 h2 => simp at e; subst e; exact ⟨d, rfl, h1⟩
  | d :: ds, _, i + 1, v, h, e => by
    cases h with
    | cons h1 h2 => exact DqAll.get (i := i) h2 (by simpa using e)
end Ms
namespace Ms
open PySem PySem.Spec PyProof.Rows L2
def top (i : Nat) : Stmt := PySem.Challenge.pw_midswitch_k02_standings_listed.main.body.getD i (.Pass ⟨0, 0, 0, 0⟩)
abbrev sPInt : Stmt := top 1
abbrev sPGrid : Stmt := top 2
abbrev sGenSt : Stmt := top 3
abbrev sPStand : Stmt := top 4
abbrev sBegun : Stmt := top 6
abbrev sNext : Stmt := top 7
abbrev sNames : Stmt := top 8
abbrev sSettings : Stmt := top 9
abbrev sOdd : Stmt := top 10
abbrev sBent : Stmt := top 11
abbrev sIsWhole : Stmt := top 12
abbrev sIsName : Stmt := top 13
abbrev sStandings : Stmt := top 14
abbrev sLaw : Stmt := top 15
end Ms
namespace Ms
open PySem PySem.Spec PyProof.Rows L2
section
variable {P : Program} {w : World} {K : PySem.W.Frag} {mg : Str → Option Value} {base : Heap}
theorem scB : FnScope ["script", "cell"] ["script"] (defScope sBegun) := ⟨rfl, rfl, rfl, by decide +kernel, rfl, by decide +kernel, by decide +kernel⟩
theorem ok_begun {f : Addr} {fd : FuncData} (F : Fun K "_law_begun" "_law_begun" sBegun f fd) (T : Txt mg) : FnOk P w K mg base CX0 1 f fd ["script"] (spBegun K) := by
  refine F.ok scB (fun vs H Q E h => ?_) (fun cdv A outer s H vs Q E hr h => ?_)
  · obtain ⟨a, ns, rfl, _⟩ := h
    rfl
  · obtain ⟨a, ns, rfl, hS, hlen, k⟩ := h
    have hu := hu_of hr
    refine ⟨_, pss_one (ps_ret (pe_disp (pps_cons pe_str (pe_callTy call_list_of (by rfl) T.list (by decide +kernel) (pa_cons (pv 0) pa_nil))
      (pps_cons pe_str (pe_lc (own := [("cell", 1)]) (g := gName 1) (by rfl) scB.nd (pi_list (pv 0)) (blkOk_by (own := [("cell", 1)]) (N := ["script", "cell"]) (sc := defScope sBegun) (by decide +kernel))
        (fun _ _ _ _ _ => pg_name (i := 1) scB.nd rfl (Or.inl rfl)) (fun _ _ _ _ _ => pts_one (pt_cmpR op_ge (pv 1) (pe_op op_pow pe_int pe_int) (nomark _))) (fun _ _ _ _ _ => pv 1))
      (pps_cons pe_str pe_int pps_nil))) (by rfl) (by rfl) (fun z => by cases z) (by decide))), ?_⟩
    intro m hm
    have s0 : Same H (upd H m (.dK [])) := fun b o e => by rw [upd_ne (ne_of_none e hm)]; exact e
    refine ⟨_, rfl, a, _, rfl, .inl (s0.seq hS), fun c hc => ?_⟩
    have ncm : c ≠ m := fun z => by rw [z, upd_same] at hc; cases hc
    have hc0 : H c = none := by rw [upd_ne ncm] at hc; exact hc
    have s1 : Same H (upd (upd H m (.dK [])) c (.lst (ns.map V.int))) := fun b o e => by rw [upd_ne (ne_of_none e hc0)]; exact s0 b o e
    refine ⟨_, rfl, a, rfl, ⟨_, s1.seq hS⟩, fun l hl => ?_⟩
    have nlc : l ≠ c := fun z => by rw [z, upd_same] at hl; cases hl
    have hl1 : (upd H m (.dK [])) l = none := by rw [upd_ne nlc] at hl; exact hl
    have nlm : l ≠ m := fun z => by rw [z, upd_same] at hl1; cases hl1
    have hl0 : H l = none := by rw [upd_ne nlm] at hl1; exact hl1
    refine lc_list (K := K) (a := a) (xs := ns.map V.int) (fun i H2 => ∃ ls : List Int, ls.length ≤ i ∧ H2 = upd (upd (upd H m (.dK [])) c (.lst (ns.map V.int))) l (.lst (ls.map V.int))) ⟨[], Nat.le_refl _, rfl⟩ (fun i H2 _ ⟨ls, _, e⟩ => ?_) ?_ ?_
    · have s2 : Same H H2 := fun b o q => by rw [e, upd_ne (ne_of_none q hl0)]; exact s1 b o q
      exact s2.seq hS
    · rintro i x H2 hi ⟨ls, hls, e⟩
      obtain ⟨z, rfl⟩ : ∃ z, x = V.int z := by
        rw [List.getElem?_map] at hi
        cases q : ns[i]? with
        | none => rw [q] at hi; cases hi
        | some z => rw [q] at hi; exact ⟨z, (Option.some.inj hi).symm⟩
      have hil : i < ns.length := by
        have q := (List.getElem?_eq_some_iff.mp hi).1
        rw [List.length_map] at q
        exact q
      refine ⟨rfl, _, rfl, _, _, rfl, rfl, ⟨by decide, by decide, by decide⟩, _, _, rfl, rfl, _, rfl, ?_⟩
      refine ite2 (fun _ => ?_) (fun _ => ?_)
      · refine ⟨_, rfl, ls.map V.int, by rw [e]; exact upd_same, small1000 (by rw [List.length_map]; omega), ls ++ [z], ?_, ?_⟩
        · rw [List.length_append, List.length_singleton]; omega
        · rw [e, upd_upd, List.map_append]; rfl
      · exact ⟨ls, by omega, e⟩
    · rintro H2 ⟨ls, hls, e⟩
      rw [List.length_map] at hls
      refine ⟨?_, [(.inr "cells", .ref c), (.inr "left", .ref l), (.inr "at", .int 0)], rfl, (by show 3 ≤ 15; decide), ?_⟩
      · rw [e, upd_ne nlm.symm, upd_ne ncm.symm, upd_same]
      · refine k m l _ hm hl0 (fun b o q => ?_) ⟨c, ns, ls, 0, ?_, ?_, ?_, nlc.symm, Int.le_refl _, Int.le_refl _, hlen, by omega⟩
        · rw [upd_ne (ne_of_none q hm), e, upd_ne (ne_of_none q hl0)]; exact s1 b o q
        · rw [upd_same]; rfl
        · rw [upd_ne ncm, e, upd_ne nlc.symm, upd_same]
        · rw [upd_ne nlm, e, upd_same]

theorem scN : FnScope ["m", "many", "rest", "at", "lot", "cell", "blend"] ["m", "many"] (defScope sNext) := ⟨rfl, rfl, rfl, by decide +kernel, rfl, by decide +kernel, by decide +kernel⟩
set_option maxHeartbeats 4000000 in
theorem ok_next {f : Addr} {fd : FuncData} (F : Fun K "_law_next" "_law_next" sNext f fd) (T : Txt mg) : FnOk P w K mg base CX0 1 f fd ["m", "many"] spNext := by
  refine F.ok scN (fun vs H Q E h => ?_) (fun cdv A outer s H vs Q E hr h => ?_)
  · obtain ⟨m, l, n, k, rfl, _⟩ := h
    rfl
  · obtain ⟨m, l, n, k, rfl, M, hn, hk, hk2, q⟩ := h
    have hu := hu_of hr
    refine ⟨_, pss_cons (ps_while PassesOwn.never (PW.pt (pw_and (pt_cmpR (op_neD hr.units) (pe_dget hu (pv 0) pe_str (fun _ _ => rfl)) (pe_lst pa_nil) (nomark _))
          (pw_and1 (pt_cmpR op_eq (pe_ix ix_list (pe_dget hu (pv 0) pe_str (fun _ _ => rfl)) pe_int (fun _ _ => rfl)) pe_int (nomark _)))))
        (pss_one (ps_dput hu (pv 0) pe_str (pe_slice sl_list (pe_dget hu (pv 0) pe_str (fun _ _ => rfl)) (po_some pe_int) po_none) rfl)))
      (pss_cons (ps_if (pt_cmpR (op_neD hr.units) (pe_dget hu (pv 0) pe_str (fun _ _ => rfl)) (pe_lst pa_nil) (nomark _))
        (pss_cons (ps_set (i := 2) scN.nd rfl (Or.inl rfl) (pe_ix ix_list (pe_dget hu (pv 0) pe_str (fun _ _ => rfl)) pe_int (fun _ _ => rfl)))
          (pss_cons (ps_asg (pe_op op_fdiv (pv 2) (pv 1)) (pg_sub (pe_dget hu (pv 0) pe_str (fun _ _ => rfl)) pe_int set_list))
          (pss_one (ps_ret (pe_op op_mod (pe_callTy call_int1 (by rfl) T.int (by decide +kernel) (pa_cons (pv 2) pa_nil)) (pv 1))))))
        pss_nil)
      (pss_cons (ps_par (i := 3) (j := 4) (by rfl) scN.nd rfl rfl (by decide) rfl rfl (pa_cons (pe_op op_add (pe_dget hu (pv 0) pe_str (fun _ _ => rfl)) pe_int) (pa_cons (pe_dget hu (pv 0) pe_str (fun _ _ => rfl)) pa_nil)) (by rfl))
      (pss_cons (ps_dput hu (pv 0) pe_str (pv 3) rfl)
      (pss_cons (ps_set (i := 5) scN.nd rfl (Or.inl rfl) (pe_ifExp (pt_cmpR (op_neD hr.units) (pv 4) (pe_lst pa_nil) (nomark _))
        (pe_callTy call_int1 (by rfl) T.int (by decide +kernel) (pa_cons (pe_ix ix_list (pv 4) (pe_op op_mod (pe_callTy call_int1 (by rfl) T.int (by decide +kernel) (pa_cons (pe_op op_add (pe_op op_mul (pv 3) (pv 3)) (pe_op op_fdiv (pv 3) pe_int)) pa_nil))
          (pe_callB call_len_seq (by rfl) T.len PySem.boot_len (pa_cons (pv 4) pa_nil))) (fun _ _ => rfl)) pa_nil)) pe_int))
      (pss_cons (ps_set (i := 6) scN.nd rfl (Or.inl rfl) (pe_op op_mod (pe_callTy call_int1 (by rfl) T.int (by decide +kernel) (pa_cons (pe_op op_add (pe_op op_add (pe_op op_mul (pv 5) pe_int) (pe_op op_mul (pv 3) pe_int)) (pe_op op_mul (pe_op op_mul pe_int (pv 3)) (pv 3))) pa_nil)) pe_int))
      (pss_one (ps_ret (pe_op op_mod (pe_callTy call_int1 (by rfl) T.int (by decide +kernel) (pa_cons (pe_op op_fdiv (pe_op op_mod (pe_callTy call_int1 (by rfl) T.int (by decide +kernel) (pa_cons (pe_op op_add (pe_op op_mul (pv 6) pe_int) (pe_op op_mul pe_int (pv 3))) pa_nil)) pe_int) pe_int) pa_nil)) (pv 1))))))))), ?_⟩
    obtain ⟨c, cs, ls, z, h1, h2, h3, h4, h5, h6, h7, h8⟩ := M.ex
    refine (show ∀ D : Ends, (∀ l2 ls2 H3, H3 l ≠ none → ls2.length ≤ 63 → MS H3 m c l2 cs ls2 z → Fr m l l2 H H3 → D.nx [some (.ref m), some (.int k), none, none, none, none, none] H3) → tWhile _ _ D _ _ from ?_) _ ?_
    · intro D rest
      refine ⟨fun N σ H2 => σ = [some (.ref m), some (.int k), none, none, none, none, none] ∧ ∃ l2 ls, ls.length = N ∧ ls.length ≤ 63 ∧ H2 l ≠ none ∧ MS H2 m c l2 cs ls z ∧ Fr m l l2 H H2, ⟨_, rfl, l, ls, rfl, h8, (by rw [h3]; exact fun z => nomatch z), ⟨h1, h2, h3, h4⟩, Fr.refl M⟩, ?_⟩
      rintro N σ H2 ⟨rfl, l2, ls2, rfl, hz, hl2, S, f⟩
      refine ⟨_, rfl, m, .ref l2, rfl, S.left, Nat.zero_le _, fun p hp => ?_⟩
      have S' := S.junk (o := .lst []) hp
      have f' := f.junk (o := .lst []) hp
      have nz : ∀ {H2 : Hp} {p : Addr}, H2 l ≠ none → ∀ o, (upd H2 p o) l ≠ none := fun {H2 p} hl2 o => by
        by_cases e : l = p
        · rw [e, upd_same]; exact fun z => nomatch z
        · rw [upd_ne e]; exact hl2
      refine ⟨.list (ls2.map PyData.int), .list [], .lst (SqL.of S'.dl) (dpAll_ints _), .lst (SqL.of upd_same) .nil, shaped_ints _, rfl, _, rfl, ?_⟩
      cases ls2 with
      | nil =>
        refine ifF rfl ?_
        refine ifF rfl ?_
        exact rest l2 [] _ (nz hl2 _) hz S' f'
      | cons y ys =>
        refine ifT rfl ?_
        refine ⟨_, rfl, m, .ref l2, rfl, S'.left, l2, _, 0, .int y, rfl, rfl, SqL.of S'.dl, atI_nat (j := 0) rfl, rfl, _, rfl, ?_⟩
        refine ite2 (fun _ => ?_) (fun _ => rest l2 (y :: ys) _ (nz hl2 _) hz S' f')
        refine ⟨fun σ' H' => σ' = [some (.ref m), some (.int k), none, none, none, none, none] ∧ ∃ l2, H' l ≠ none ∧ MS H' m c l2 cs ys z ∧ Fr m l l2 H H', (fun σ' H' ⟨e, l3, g1, g2, g3⟩ => ⟨ys.length, by simp, e, l3, ys, rfl, by simp at hz; omega, g1, g2, g3⟩), ?_⟩
        refine ⟨_, rfl, m, .ref l2, rfl, S'.left, ⟨1, rfl, l2, _, rfl, SqL.of S'.dl, fun p2 hp2 => ?_⟩⟩
        rw [cut1]
        refine ⟨_, rfl, m, _, rfl, DPut.k (k := Sum.inr "left") (S'.junk hp2).dm (by show 3 < sizeLine; exact small1000 (by decide)), rfl, p2, nz (nz (nz hl2 _) _) _, S'.putL hp2, f'.putM hp2⟩
    · intro l2 ls2 H3 hl3 hz S f
      refine ⟨_, rfl, m, .ref l2, rfl, S.left, Nat.zero_le _, fun p hp => ?_⟩
      have S' := S.junk (o := .lst []) hp
      have f' := f.junk (o := .lst []) hp
      refine ⟨.list (ls2.map PyData.int), .list [], .lst (SqL.of S'.dl) (dpAll_ints _), .lst (SqL.of upd_same) .nil, shaped_ints _, rfl, _, rfl, ?_⟩
      cases ls2 with
      | cons y ys =>
        refine ifT rfl ?_
        refine ⟨_, rfl, m, .ref l2, rfl, S'.left, l2, _, 0, .int y, rfl, rfl, SqL.of S'.dl, atI_nat (j := 0) rfl, ?_⟩
        refine ⟨_, rfl, _, rfl, _, _, rfl, rfl, ⟨hk, by omega⟩, _, rfl, m, .ref l2, rfl, S'.left, l2, _, 0, 0, rfl, rfl, S'.dl, (by unfold ixN; rw [if_pos (by decide), if_pos (by simp only [List.map_cons, List.length_cons]; omega)]; rfl), ?_⟩
        refine ⟨_, rfl, .inl ⟨_, rfl, _, rfl, _, _, rfl, rfl, hk, ?_⟩⟩
        have S2 := S'.setL (ls' := (y / k) :: ys)
        exact q _ l2 _ (Int.emod_nonneg _ (by omega)) (Int.emod_lt_of_pos _ hk) (S2.mch h5 (by omega) h7 (by simpa using hz)) f'.setL
      | nil =>
        refine ifF rfl ?_
        refine ⟨_, rfl, m, .int z, rfl, S'.at, _, _, rfl, rfl, _, rfl, m, .ref c, rfl, S'.cells, _, _, rfl, ?_⟩
        refine ⟨_, rfl, _, rfl, m, _, rfl, DPut.k (k := Sum.inr "at") S'.dm (by show 3 < sizeLine; exact small1000 (by decide)), ?_⟩
        have S2 := S'.putA (z' := z + 1)
        have f2 := f'.putA (o := (.dK (putK (kvM c l2 z) (.inr "at" : Key) (.int (z + 1)))))
        refine ⟨_, rfl, Nat.zero_le _, fun p2 hp2 => ?_⟩
        have S3 := S2.junk (o := .lst []) hp2
        have f3 := f2.junk (o := .lst []) hp2
        refine ⟨.list (cs.map PyData.int), .list [], .lst (SqL.of S3.dc) (dpAll_ints _), .lst (SqL.of upd_same) .nil, shaped_ints _, rfl, _, rfl, ?_⟩
        cases cs with
        | nil =>
          refine ifF rfl ?_
          refine ⟨_, rfl, _, _, rfl, rfl, .inr ⟨by decide, by decide⟩, _, rfl, _, _, rfl, rfl, .inr ⟨by decide, by decide⟩, _, _, rfl, rfl, _, rfl, _, _, rfl, rfl, .inl ⟨by decide, by decide⟩, _, rfl, _, _, rfl, rfl, .inr ⟨by omega, by omega⟩, _, _, rfl, rfl, .inl ⟨_, rfl, _, _, rfl, rfl, (by show (0 : Int) < 2147483399; decide), ?_⟩⟩
          refine ⟨_, rfl, _, _, rfl, rfl, .inr ⟨by decide, by decide⟩, _, rfl, _, _, rfl, rfl, .inl ⟨by decide, by decide⟩, _, _, rfl, rfl, .inl ⟨_, rfl, _, _, rfl, rfl, (by show (0 : Int) < 2147483647; decide), _, _, rfl, rfl, ⟨by decide, by decide⟩, .inl ⟨_, rfl, _, rfl, _, _, rfl, rfl, hk, ?_⟩⟩⟩
          exact q _ l2 _ (Int.emod_nonneg _ (by omega)) (Int.emod_lt_of_pos _ hk) (S3.mch (by omega) (by omega) h7 (by simp)) f3
        | cons y ys =>
          refine ifT rfl ?_
          refine ⟨_, rfl, _, rfl, _, rfl, _, _, rfl, rfl, .inl ⟨by omega, by omega⟩, _, rfl, _, _, rfl, rfl, ⟨by decide, by decide⟩, _, _, rfl, rfl, .inl ⟨_, rfl, ?_⟩⟩
          have hlen : ((y :: ys).map V.int).length = ys.length + 1 := by rw [List.length_map, List.length_cons]
          refine ⟨_, rfl, c, _, rfl, .inl (SqL.of S3.dc), _, _, rfl, rfl, (by rw [hlen]; omega), ?_⟩
          generalize hg : ((z + 1) * (z + 1) + (z + 1) / 2) % ((((y :: ys).map V.int).length : Nat) : Int) = g
          have g0 : 0 ≤ g := by rw [← hg, hlen]; exact Int.emod_nonneg _ (by omega)
          have g1 : g < ((y :: ys).length : Nat) := by rw [← hg, hlen]; exact Int.emod_lt_of_pos _ (by omega)
          obtain ⟨gn, rfl⟩ : ∃ gn : Nat, g = (gn : Int) := ⟨g.toNat, by omega⟩
          obtain ⟨u, hu2⟩ : ∃ u, (y :: ys)[gn]? = some u := ⟨_, List.getElem?_eq_getElem (by omega)⟩
          refine ⟨c, _, (gn : Int), .int u, rfl, congrArg V.int hg, SqL.of S3.dc, atI_nat (by rw [List.getElem?_map, hu2]; rfl), .inl ⟨_, rfl, ?_⟩⟩
          refine ⟨_, rfl, _, _, rfl, rfl, .inr ⟨by decide, by decide⟩, _, rfl, _, _, rfl, rfl, .inr ⟨by decide, by decide⟩, _, _, rfl, rfl, _, rfl, _, _, rfl, rfl, .inl ⟨by decide, by decide⟩, _, rfl, _, _, rfl, rfl, .inr ⟨by omega, by omega⟩, _, _, rfl, rfl, .inl ⟨_, rfl, _, _, rfl, rfl, (by show (0 : Int) < 2147483399; decide), ?_⟩⟩
          refine ⟨_, rfl, _, _, rfl, rfl, .inr ⟨by decide, by decide⟩, _, rfl, _, _, rfl, rfl, .inl ⟨by decide, by decide⟩, _, _, rfl, rfl, .inl ⟨_, rfl, _, _, rfl, rfl, (by show (0 : Int) < 2147483647; decide), _, _, rfl, rfl, ⟨by decide, by decide⟩, .inl ⟨_, rfl, _, rfl, _, _, rfl, rfl, hk, ?_⟩⟩⟩
          exact q _ l2 _ (Int.emod_nonneg _ (by omega)) (Int.emod_lt_of_pos _ hk) (S3.mch (by omega) (by omega) h7 (by simp)) f3
end
end Ms
namespace Ms
open PySem PySem.Spec PyProof.Rows L2
structure TxtN (mg : Str → Option Value) (fN : Addr) : Prop extends Txt mg where
  next : mg "_law_next" = some (.ref fN)
  range : mg "range" = none
  tuple : mg "tuple" = none
  zip : mg "zip" = none
/-- s * n -/
theorem op_mul_si {X : Cx} : OpR X (binaryOp .Mult) (fun x y H Q => ∃ z i, x = .str z ∧ y = .int i ∧ PySem.MulOk z i ∧ Q (.str (Txt.mul z i)) H) := by
  intro pins s σ H x y v u Q I rx ry h
  obtain ⟨z, i, rfl, rfl, ok, q⟩ := h
  obtain ⟨t, rfl⟩ := rx
  obtain ⟨t', rfl⟩ := ry
  exact PySem.SB.mul ok fun t2 k => ⟨.str _, H, I.tok _, ⟨_, rfl⟩, q⟩
theorem tyes {σ : L2.St} {H : Hp} {R S : Hp → Prop} (h : R H) : tYes σ H (fun b H3 => if b = true then R H3 else S H3) := by
  show if true = true then R H else S H
  rw [if_pos rfl]
  exact h
/-- a list of texts grows by one -/
theorem str_grow {H8 H9 : Hp} {D : Addr} {ys : List Str} {y : Str} (e : H9 = upd H8 D (.lst (ys.map V.str))) : upd H9 D (.lst (ys.map V.str ++ [.str y])) = upd H8 D (.lst ((ys ++ [y]).map V.str)) := by
  rw [e, upd_upd, List.map_append]
  rfl
/-! ### short texts -/
def sOk (a : Nat) (z : Str) : Prop := z.length ≤ a ∧ ∀ c ∈ z.cps.toList, c < 0x110000
theorem sOk.mono {a b : Nat} {z : Str} (h : sOk a z) (k : a ≤ b) : sOk b z := ⟨Nat.le_trans h.1 k, h.2⟩
theorem sOk.app {a b : Nat} {z y : Str} (h : sOk a z) (k : sOk b y) : sOk (a + b) (z ++ y) := by
  refine ⟨by rw [Str.length_append]; exact Nat.add_le_add h.1 k.1, fun c hc => ?_⟩
  have e : (z ++ y).cps.toList = z.cps.toList ++ y.cps.toList := Array.toList_append
  rw [e] at hc
  exact (List.mem_append.mp hc).elim (h.2 c) (k.2 c)
theorem sOk.cut {a : Nat} {z : Str} (h : sOk a z) (lo hi : Option Int) : sOk a (cutS z lo hi) := by
  refine ⟨?_, fun c hc => h.2 c ?_⟩
  · show ((z.cps.toList.drop (HT.sIx z.length 0 lo)).take (HT.sIx z.length z.length hi - HT.sIx z.length 0 lo)).toArray.size ≤ a
    have e : z.cps.toList.length ≤ a := by rw [Array.length_toList]; exact h.1
    rw [List.size_toArray, List.length_take, List.length_drop]
    omega
  · have hc' : c ∈ ((z.cps.toList.drop (HT.sIx z.length 0 lo)).take (HT.sIx z.length z.length hi - HT.sIx z.length 0 lo)) := by simpa [cutS] using hc
    exact List.mem_of_mem_drop (List.mem_of_mem_take hc')
theorem sOk.sign {c : Nat} (h : c < 0x110000) : sOk 1 ⟨#[c]⟩ := ⟨Nat.le_refl _, fun d hd => by simp at hd; rw [hd]; exact h⟩
theorem sOk.okd {a B : Nat} {z : Str} (h : sOk a z) : okD B (.str z) = true := by
  simp only [okD, List.all_eq_true, decide_eq_true_eq]
  exact h.2
abbrev alpha : Str := "abcdefghijklmnopqrstuvwxyz"
theorem alpha_list : alpha.cps.toList = [97, 98, 99, 100, 101, 102, 103, 104, 105, 106, 107, 108, 109, 110, 111, 112, 113, 114, 115, 116, 117, 118, 119, 120, 121, 122] := by decide +kernel
theorem alpha_at {i : Int} (h0 : 0 ≤ i) (h1 : i < 26) : ∃ c, atI alpha.cps.toList i = some c ∧ c < 0x110000 := by
  obtain ⟨j, rfl⟩ : ∃ j : Nat, i = (j : Int) := ⟨i.toNat, by omega⟩
  have hl : alpha.cps.toList.length = 26 := by rw [alpha_list]; rfl
  obtain ⟨c, hc⟩ : ∃ c, alpha.cps.toList[j]? = some c := ⟨_, List.getElem?_eq_getElem (by rw [hl]; omega)⟩
  refine ⟨c, atI_nat hc, ?_⟩
  have z : ∀ d ∈ alpha.cps.toList, d < 0x110000 := by rw [alpha_list]; decide
  exact z c (List.mem_of_getElem? hc)
theorem alpha_len : alpha.length ≤ sizeLine := by decide +kernel
theorem mul8 (c : Nat) : Txt.mul ⟨#[c]⟩ 8 = ⟨#[c, c, c, c, c, c, c, c]⟩ := by rfl
theorem mul8_ok (c : Nat) : PySem.MulOk ⟨#[c]⟩ 8 := ⟨by decide, fun _ _ => by show ¬ ((1 : Nat) : Int) > (2 ^ 63 - 1) / 8; decide, fun _ _ => rfl⟩
section
variable {P : Program} {w : World} {K : PySem.W.Frag} {mg : Str → Option Value} {base : Heap} {fN : Addr}
abbrev NN : List Str := ["m", "many", "letters", "stem", "k", "at", "first", "by", "word"]
theorem scNm : FnScope NN ["m", "many"] (defScope sNames) := ⟨rfl, rfl, rfl, by decide +kernel, rfl, by decide +kernel, by decide +kernel⟩
def spNames : Sp := fun vs H Q _ => ∃ (m l : Addr) (n : Nat) (k : Nat), vs = [.ref m, .int (k : Int)] ∧ Mch H m l n ∧ n < 900000 ∧ 1 ≤ k ∧ k ≤ 8 ∧
  ∀ (p : Addr) (ys : List Str) (l' : Addr) (H' : Hp), H p = none → H' p = some (.lst (ys.map V.str)) → ys.length = k → (∀ y ∈ ys, sOk 16 y) → p ≠ m → p ≠ l' → Mch H' m l' (n + 11) → Fr m l l' H H' → Q (.ref p) H'
theorem ok_names {f : Addr} {fd fdN : FuncData} (F : Fun K "_law_names" "_law_names" sNames f fd) (T : TxtN mg fN) (FN : Fun K "_law_next" "_law_next" sNext fN fdN) (bN : Binds K fdN ["m", "many"] []) : FnOk P w K mg base CX0 2 f fd ["m", "many"] spNames := by
  have GN : FnOk P w K mg base CX0 1 fN fdN ["m", "many"] spNext := ok_next FN T.toTxt
  refine F.ok scNm (fun vs H Q E h => ?_) (fun cdv A outer s H vs Q E hr h => ?_)
  · obtain ⟨m, l, n, k, rfl, _⟩ := h
    rfl
  · obtain ⟨m, l, n, k, rfl, M, hn, hk, hk2, q⟩ := h
    refine ⟨_, pss_cons (ps_asg (pe_tup (pa_cons pe_str (pa_cons pe_str pa_nil))) (pg_tup rfl (pgs_cons (pg_name (i := 2) scNm.nd rfl (Or.inr rfl)) (pgs_cons (pg_name (i := 3) scNm.nd rfl (Or.inr rfl)) pgs_nil))))
      (pss_cons (ps_for PassesOwn.never rfl (pi_range1 (by rfl) T.range (pa_cons (pe_call GN hr rfl T.next FN.kp bN .nil pass0 (pa_cons (pv 0) (pa_cons pe_int pa_nil))) pa_nil)) (pg_name (i := 4) scNm.nd rfl (Or.inl rfl))
        (pss_one (ps_set (i := 3) scNm.nd rfl (Or.inr rfl) (pe_op op_add_str (pv 3) (pe_ix ix_str (pv 2) (pe_call GN hr rfl T.next FN.kp bN .nil pass0 (pa_cons (pv 0) (pa_cons pe_int pa_nil))) (fun _ _ => rfl))))))
      (pss_cons (ps_asg (pe_tup (pa_cons (pe_call GN hr rfl T.next FN.kp bN .nil pass0 (pa_cons (pv 0) (pa_cons (pe_op op_add (pe_callB call_len_str (by rfl) T.len PySem.boot_len (pa_cons (pv 3) pa_nil)) pe_int) pa_nil)))
          (pa_cons (pe_call GN hr rfl T.next FN.kp bN .nil pass0 (pa_cons (pv 0) (pa_cons pe_int pa_nil)))
          (pa_cons (pe_ix ix_list (pe_lst (pa_cons pe_int (pa_cons pe_int (pa_cons pe_int (pa_cons pe_int (pa_cons pe_int (pa_cons pe_int pa_nil))))))) (pe_call GN hr rfl T.next FN.kp bN .nil pass0 (pa_cons (pv 0) (pa_cons pe_int pa_nil))) (fun _ _ => rfl)) pa_nil))))
        (pg_tup rfl (pgs_cons (pg_name (i := 5) scNm.nd rfl (Or.inr rfl)) (pgs_cons (pg_name (i := 6) scNm.nd rfl (Or.inr rfl)) (pgs_cons (pg_name (i := 7) scNm.nd rfl (Or.inr rfl)) pgs_nil)))))
      (pss_cons (ps_set (i := 8) scNm.nd rfl (Or.inr rfl) (pe_slice sl_str (pe_op op_add_str (pv 3) (pe_op op_mul_si (pe_ix ix_str (pv 2) (pv 6) (fun _ _ => rfl)) pe_int)) po_none (po_some pe_int)))
      (pss_cons (ps_if (pt_cmpR op_gt (pv 7) pe_int (nomark _)) (pss_one (ps_ret (pe_lc (own := [("k", 4)]) (g := gName 4) (by rfl) scNm.nd (pi_range1 (by rfl) T.range (pa_cons (pv 1) pa_nil)) (blkOk_by (own := [("k", 4)]) (N := NN) (sc := defScope sNames) (by decide +kernel))
          (fun _ _ _ _ _ => pg_name (i := 4) scNm.nd rfl (Or.inl rfl)) (fun _ _ _ _ _ => pts_nil) (fun _ _ _ _ _ => pe_ifExp (pt_cmpR op_gt (pv 7) pe_int (nomark _)) (pe_slice sl_str (pv 8) (po_some (pv 4)) po_none) (pe_slice sl_str (pv 8) po_none (po_some (pe_op op_sub (pe_op op_add (pv 4) pe_int) (pv 1)))))))) pss_nil)
      (pss_one (ps_ret (pe_lc (own := [("k", 4)]) (g := gName 4) (by rfl) scNm.nd (pi_range1 (by rfl) T.range (pa_cons (pv 1) pa_nil)) (blkOk_by (own := [("k", 4)]) (N := NN) (sc := defScope sNames) (by decide +kernel))
          (fun _ _ _ _ _ => pg_name (i := 4) scNm.nd rfl (Or.inl rfl)) (fun _ _ _ _ _ => pts_nil) (fun _ _ _ _ _ => pe_op op_add_str (pe_op op_add_str (pe_slice sl_str (pv 3) po_none (po_some (pv 5)))
            (pe_ix ix_str (pv 2) (pe_op op_mod (pe_callTy call_int1 (by rfl) T.int (by decide +kernel) (pa_cons (pe_op op_add (pv 6) (pe_op op_mul (pv 7) (pv 4))) pa_nil)) pe_int) (fun _ _ => rfl))) (pe_slice sl_str (pv 3) (po_some (pv 5)) po_none))))))))), ?_⟩
    refine ⟨(by show 2 ≤ sizeLine; decide), fun p1 h1 => ⟨p1, _, rfl, .inl (.inl upd_same), rfl, _, _, rfl, _, _, rfl, rfl, ?_⟩⟩
    have s1 : Same H _ := Same.upd (o := .tup [.str alpha, .str ""]) h1
    refine ⟨_, rfl, m, l, n, 8, rfl, M.same s1, by omega, by decide, by decide, fun r0 l1 H1 r0p r0l M1 f1 => ?_⟩
    refine ⟨r0, rfl, by omega, by omega, ?_⟩
    refine for_range (lo := 0) (n := r0.toNat) (fun i σ H2 => ∃ (z : Str) (v4 : Option V) (l2 : Addr), σ = [some (.ref m), some (.int (k : Int)), some (.str alpha), some (.str z), v4, none, none, none, none] ∧ sOk i z ∧ Mch H2 m l2 (n + 1 + i) ∧ Fr m l l2 H H2)
      ⟨"", _, l1, rfl, ⟨Nat.le_refl _, fun c hc => by cases hc⟩, M1, Fr.lead s1 f1⟩ ?_ ?_
    · rintro i σ H2 hi ⟨z, v4, l2, rfl, hz, M2, f2⟩
      refine ⟨_, rfl, _, rfl, _, rfl, m, l2, _, 26, rfl, M2, by omega, by decide, by decide, fun r l3 H3 rp rl M3 f3 => ?_⟩
      obtain ⟨c, hc, hc2⟩ := alpha_at rp rl
      refine ⟨alpha, r, c, rfl, rfl, alpha_len, hc, z, _, rfl, rfl, ?_, ?_⟩
      · have := hz.1
        show z.length + 1 ≤ sizeLine
        exact small1000 (by omega)
      · exact ⟨_, _, l3, rfl, hz.app (sOk.sign hc2), M3, f2.trans f3⟩
    · rintro σ H2 ⟨z, v4, l2, rfl, hz, M2, f2⟩
      have z7 := hz.1
      have zs : z.length ≤ sizeLine := Nat.le_of_lt (small1000 (by omega))
      refine ⟨_, rfl, _, rfl, z, rfl, zs, _, _, rfl, rfl, m, l2, _, (z.length : Int) + 1, rfl, M2, by omega, by omega, by omega, fun r5 l3 H3 a5 b5 M3 f3 => ?_⟩
      refine ⟨_, rfl, m, l3, _, 26, rfl, M3, by omega, by decide, by decide, fun r6 l4 H4 a6 b6 M4 f4 => ?_⟩
      refine ⟨(by show 6 ≤ sizeLine; decide), fun pL hL => ?_⟩
      have sL := Same.upd (o := .lst [.int 1, .int 3, .int 5, .int 7, .int 9, .int 11]) hL
      have nL := M4.ne hL
      refine ⟨_, rfl, m, l4, _, 6, rfl, M4.same sL, by omega, by decide, by decide, fun r7 l5 H5 a7 b7 M5 f5 => ?_⟩
      obtain ⟨b, hb, b1, b11⟩ : ∃ b : Int, atI ([.int 1, .int 3, .int 5, .int 7, .int 9, .int 11] : List V) r7 = some (.int b) ∧ 1 ≤ b ∧ b ≤ 11 := by
        obtain ⟨j, rfl⟩ : ∃ j : Nat, r7 = (j : Int) := ⟨r7.toNat, by omega⟩
        have hj : j < 6 := by omega
        match j, hj with
        | 0, _ => exact ⟨1, rfl, by decide, by decide⟩
        | 1, _ => exact ⟨3, rfl, by decide, by decide⟩
        | 2, _ => exact ⟨5, rfl, by decide, by decide⟩
        | 3, _ => exact ⟨7, rfl, by decide, by decide⟩
        | 4, _ => exact ⟨9, rfl, by decide, by decide⟩
        | 5, _ => exact ⟨11, rfl, by decide, by decide⟩
      refine ⟨pL, _, r7, .int b, rfl, rfl, SqL.of (f5.keep pL _ upd_same nL.1 nL.2), hb, (by show 3 ≤ sizeLine; decide), fun p3 h3 => ?_⟩
      have F5 : Fr m l l5 H H5 := f2.trans (f3.trans (f4.trans (Fr.lead sL f5)))
      refine ⟨p3, _, rfl, .inl (.inl upd_same), rfl, _, _, rfl, _, _, rfl, _, _, rfl, rfl, ?_⟩
      have s3 := Same.upd (o := .tup [.int r5, .int r6, .int b]) h3
      have M6 := M5.same s3
      have F6 := F5.junk (o := .tup [.int r5, .int r6, .int b]) h3
      obtain ⟨c6, hc6, cc6⟩ := alpha_at a6 b6
      refine ⟨_, rfl, _, rfl, _, rfl, alpha, r6, c6, rfl, rfl, alpha_len, hc6, _, 8, rfl, rfl, mul8_ok c6, z, _, rfl, rfl, ?_, 8, rfl, _, rfl, ?_, ?_⟩
      · rw [mul8]
        show z.length + 8 ≤ sizeLine
        exact Nat.le_of_lt (small1000 (by omega))
      · rw [mul8, Str.length_append]
        show z.length + 8 ≤ sizeLine
        exact Nat.le_of_lt (small1000 (by omega))
      obtain ⟨W, hW, eW⟩ : ∃ W, sOk 16 W ∧ W = cutS (z ++ Txt.mul { cps := #[c6] } 8) none (some 8) := ⟨_, by
        rw [mul8]
        exact (((hz.mono (show r0.toNat ≤ 7 by omega)).app (b := 8) ⟨by show 8 ≤ 8; decide, fun d hd => by simp at hd; rw [hd]; exact cc6⟩).mono (by decide)).cut _ _, rfl⟩
      rw [← eW]
      have Wl : W.length ≤ sizeLine := Nat.le_trans hW.1 (by decide)
      have ek : ((k : Int)).toNat = k := by omega
      refine ⟨_, rfl, _, _, rfl, rfl, _, rfl, ite2 (fun _ => ?_) (fun _ => ?_)⟩
      · refine ⟨_, rfl, (k : Int), rfl, by omega, by omega, fun D hD => ?_⟩
        have nD := M6.ne hD
        refine lc_range (lo := 0) (n := ((k : Int)).toNat) (fun i H9 => ∃ ys : List Str, ys.length = i ∧ (∀ y ∈ ys, sOk 16 y) ∧ H9 = upd _ D (.lst (ys.map V.str))) ⟨[], rfl, (fun y hy => nomatch hy), rfl⟩ ?_ ?_
        · rintro i H9 hi ⟨ys, yl, yo, e9⟩
          refine ⟨rfl, tyes ?_⟩
          refine ⟨_, rfl, _, _, rfl, rfl, _, rfl, ite2 (fun _ => ?_) (fun _ => ?_)⟩
          · refine ⟨_, rfl, _, rfl, _, rfl, _, rfl, Wl, _, by rw [e9]; exact upd_same, small1000 (by rw [List.length_map]; omega), _, (by rw [List.length_append, yl]; rfl), ?_, str_grow e9⟩
            intro y hy
            rcases List.mem_append.mp hy with hy | hy
            · exact yo y hy
            · rw [List.mem_singleton.mp hy]; exact hW.cut _ _
          · refine ⟨_, rfl, _, rfl, _, _, rfl, rfl, _, rfl, _, _, rfl, rfl, _, rfl, _, rfl, Wl, _, by rw [e9]; exact upd_same, small1000 (by rw [List.length_map]; omega), _, (by rw [List.length_append, yl]; rfl), ?_, str_grow e9⟩
            intro y hy
            rcases List.mem_append.mp hy with hy | hy
            · exact yo y hy
            · rw [List.mem_singleton.mp hy]; exact hW.cut _ _
        · rintro H9 ⟨ys, yl, yo, e9⟩
          have sD := Same.upd (o := .lst (ys.map V.str)) hD
          rw [e9]
          exact q D ys l5 _ (F6.free hD) upd_same (by omega) yo nD.1 nD.2 ((M6.same sD).mono (by omega)) (F6.junk hD)
      · refine ⟨_, rfl, (k : Int), rfl, by omega, by omega, fun D hD => ?_⟩
        have nD := M6.ne hD
        refine lc_range (lo := 0) (n := ((k : Int)).toNat) (fun i H9 => ∃ ys : List Str, ys.length = i ∧ (∀ y ∈ ys, sOk 16 y) ∧ H9 = upd _ D (.lst (ys.map V.str))) ⟨[], rfl, (fun y hy => nomatch hy), rfl⟩ ?_ ?_
        · rintro i H9 hi ⟨ys, yl, yo, e9⟩
          have hz7 : sOk 7 z := hz.mono (by omega)
          obtain ⟨c9, hc9, cc9⟩ := alpha_at (i := (r6 + b * (0 + (i : Int))) % 26) (Int.emod_nonneg _ (by decide)) (Int.emod_lt_of_pos _ (by decide))
          have p1 := (hz7.cut none (some r5))
          have p2 := (p1.app (sOk.sign cc9))
          have p3' := p2.app (hz7.cut (some r5) none)
          refine ⟨rfl, tyes ?_⟩
          refine ⟨_, rfl, _, rfl, _, rfl, _, rfl, zs, _, rfl, _, rfl, _, rfl, _, rfl, _, _, rfl, rfl, .inr ⟨by omega, by omega⟩, _, _, rfl, rfl, .inl ⟨_, rfl, _, _, rfl, rfl, (by show (0 : Int) < 26; decide), ?_⟩⟩
          refine ⟨alpha, _, c9, rfl, rfl, alpha_len, hc9, _, _, rfl, rfl, ?_, _, rfl, _, rfl, _, rfl, _, rfl, zs, _, _, rfl, rfl, ?_, _, by rw [e9]; exact upd_same, small1000 (by rw [List.length_map]; omega), _, (by rw [List.length_append, yl]; rfl), ?_, str_grow e9⟩
          · have := p1.1
            show _ + 1 ≤ sizeLine
            exact Nat.le_of_lt (small1000 (by omega))
          · have := p2.1
            have := (hz7.cut (some r5) none).1
            exact Nat.le_of_lt (small1000 (by omega))
          · intro y hy
            rcases List.mem_append.mp hy with hy | hy
            · exact yo y hy
            · rw [List.mem_singleton.mp hy]; exact p3'.mono (by decide)
        · rintro H9 ⟨ys, yl, yo, e9⟩
          have sD := Same.upd (o := .lst (ys.map V.str)) hD
          rw [e9]
          exact q D ys l5 _ (F6.free hD) upd_same (by omega) yo nD.1 nD.2 ((M6.same sD).mono (by omega)) (F6.junk hD)
end
end Ms
namespace Ms
open PySem PySem.Spec PyProof.Rows L2
/-! ### zip(list, tuple) over KE's draws -/
/-- the list at a, the tuple at b, the items in new pairs -/
def ItZM (K : PySem.W.Frag) (a b : Addr) : It :=
  ⟨fun i H => ∃ (xs ys : List V), SqL K H a xs ∧ SqT K H b ys ∧ i < xs.length ∧ i < ys.length,
    fun i H v H' => ∃ T x y, v = .ref T ∧ H T = none ∧ H' = upd H T (.tup [x, y]) ∧ (∀ xs, SqL K H a xs → xs[i]? = some x) ∧ ∀ ys, SqT K H b ys → ys[i]? = some y,
    fun i H => ∃ xs ys : List V, SqL K H a xs ∧ SqT K H b ys ∧ i ≤ xs.length ∧ i ≤ ys.length ∧ (i = xs.length ∨ i = ys.length)⟩
theorem walk_zm {K : PySem.W.Frag} {a b : Addr} {xs ys : List V} {n : Nat} (hn : n = min xs.length ys.length) : Walk (ItZM K a b) n (fun H => SqL K H a xs ∧ SqT K H b ys) (YPair (fun i => xs[i]?) (fun i => ys[i]?)) := by
  subst hn
  refine ⟨fun i _ hi q => ⟨xs, ys, q.1, q.2, by omega, by omega⟩, fun _ q => ⟨xs, ys, q.1, q.2, by omega, by omega, by omega⟩, fun i H v H' _ q y => ?_⟩
  obtain ⟨T, x, z, h1, h2, h3, h4, h5⟩ := y
  exact ⟨T, x, z, h1, h2, h3, h4 xs q.1, h5 ys q.2⟩
section
variable {a b z TI TO i1 i2 : Addr}
abbrev zmCells (z TI TO i1 i2 : Addr) : List Addr := [z, TI, TO, i1, i2]
abbrev ZmSt (a b z TI TO i1 i2 : Addr) : Nat → Heap → Prop := fun i h => IsZip h z TI TO .none ∧ IsTupOf2 h TI (.ref i1) (.ref i2) ∧ (∃ x y, IsTupOf2 h TO x y) ∧ h.IsListIter i1 a i ∧ h.IsTupleIter i2 b i
theorem zm_mem {c z TI TO i1 i2 : Addr} (h : c ∈ zmCells z TI TO i1 i2) : c = z ∨ c = TI ∨ c = TO ∨ c = i1 ∨ c = i2 := by simpa using h
theorem zm_there {i : Nat} {h : Heap} (st : ZmSt a b z TI TO i1 i2 i h) : ∀ c ∈ zmCells z TI TO i1 i2, ∃ o, h.get? c = some o ∧ ∀ v, o.data ≠ .cell v := fun c hc => by
  obtain ⟨hz, hTI, ⟨x, y, hTO⟩, ⟨o1, e1, _, d1⟩, ⟨o2, e2, _, d2⟩⟩ := st
  rcases zm_mem hc with rfl | rfl | rfl | rfl | rfl
  · exact ⟨_, hz, fun v q => nomatch q⟩
  · exact ⟨_, hTI, fun v q => nomatch q⟩
  · exact ⟨_, hTO, fun v q => nomatch q⟩
  · exact ⟨o1, e1, fun v q => by rw [d1] at q; cases q⟩
  · exact ⟨o2, e2, fun v q => by rw [d2] at q; cases q⟩
theorem turn_zm {P : Program} {w : World} {K : PySem.W.Frag} {elts : List Expr} {kk : Nat} {tpos : Pos} (S : ZipSep2 z TI TO i1 i2 [i1, a] [i2, b]) (na : a ≠ i1) (nb : b ≠ i2) :
    Turn P w K (.Tuple elts kk tpos) (ItZM K a b) (zmCells z TI TO i1 i2) z (ZmSt a b z TI TO i1 i2) where
  mem := by simp
  obj := fun i h st => zm_there st
  keep := fun i h h' st k => by
    obtain ⟨hz, hTI, ⟨x, y, hTO⟩, h1, h2⟩ := st
    exact ⟨k z (by simp) _ hz, k TI (by simp) _ hTI, ⟨x, y, k TO (by simp) _ hTO⟩, h1.at fun o q => k i1 (by simp) o q, h2.at fun o q => k i2 (by simp) o q⟩
  item := by
    intro X hP hw hK hc i pins s σ H E I hf st hg
    subst hP hw hK
    have live := zm_there st
    obtain ⟨hz, hTI, ⟨x0, y0, hTO⟩, h1, h2⟩ := st
    obtain ⟨xs, ys, hqx, hqy, hi1, hi2⟩ := hg
    obtain ⟨its, rv, p, _⟩ := I.list hqx
    obtain ⟨its2, rv2, p2, _⟩ := I.tuple hqy
    have l1 := rv.length
    have l2 := rv2.length
    have hh : X.A.in1.handled = none := I.ok.hd hc
    have fresh : ∀ c ∈ zmCells z TI TO i1 i2, c ≠ s.heap.objs.size := fun c hc => by
      obtain ⟨o, e, _⟩ := live c hc
      exact Nat.ne_of_lt (Heap.lt_size e)
    refine wpAny_pyNext_zipD2_item S (Draws.list hh i1 a na its.toArray) (Draws.tuple hh i2 b nb its2.toArray) hz hTI hTO ⟨h1, p.isList⟩ ⟨h2, p2⟩ (by simp; omega) (by simp; omega) fun u u2 h' tk hu hu2 z' TO' st1' st2' hT hsz hk => ?_
    refine ⟨_, rfl, wpAny_letOwnedTupleGo_zip (s := { s with heap := h', toks := tk }) z' fun h'' z'' sb => ?_⟩
    have hx : xs[i]? = some xs[i] := List.getElem?_eq_getElem hi1
    have hy : ys[i]? = some ys[i] := List.getElem?_eq_getElem hi2
    obtain ⟨v, hv, ru⟩ := rv.get hx
    obtain ⟨v2, hv2, ru2⟩ := rv2.get hy
    have e1 : u = v := by simp [hv] at hu; exact hu.symm
    have e2 : u2 = v2 := by simp [hv2] at hu2; exact hu2.symm
    subst e1 e2
    have zN := fresh z (by simp)
    have hT2 : h''.get? s.heap.objs.size = some { cls := .type "tuple", data := .seq #[u, u2] } := (sb.2 _ zN.symm).trans hT
    have new : ObjOk X.prog X.w (upd H s.heap.objs.size (.tup [xs[i], ys[i]])) h'' s.heap.objs.size (.tup [xs[i], ys[i]]) :=
      ⟨(by show 2 ≤ sizeLine; decide), [u, u2], .cons ru (.cons ru2 .nil), ⟨_, hT2, rfl, _, rfl⟩⟩
    have I1 : L2.Inv X pins σ (upd H s.heap.objs.size (.tup [xs[i], ys[i]])) { s with heap := h'', toks := tk } :=
      I.turnedNew (t' := tk) (ch := zmCells z TI TO i1 i2) (fun c o hb q => (sb.2 c fun e => hb (by simp [e])).trans (hk c o (fun e => hb (by simp [e])) (fun e => hb (by simp [e])) (fun e => hb (by simp [e])) (fun e => hb (by simp [e])) q)) hf (Nat.le_refl _) new
    refine ⟨.ref s.heap.objs.size, _, I1, rfl, ⟨_, xs[i], ys[i], rfl, I.hok.fresh (Nat.le_refl _), rfl, fun l hl => ?_, fun l hl => ?_⟩, ⟨z'', (sb.2 _ S.TIz).trans (hk _ _ S.TIz S.TITO S.TIi1 S.TIi2 hTI), ⟨_, _, (sb.2 _ S.TOz).trans TO'⟩, st1'.1.at fun o q => (sb.2 _ S.zi1.symm).trans q, st2'.1.at fun o q => (sb.2 _ S.zi2.symm).trans q⟩, fun c hcm => ?_⟩
    · rw [I.list_inj hl hqx]; exact hx
    · rw [I.tuple_inj hl hqy]; exact hy
    · rw [upd_ne (fresh c hcm)]
      exact (hf c hcm).1
  done := by
    intro X hP hw hK hc i pins s σ H E I hf st hg
    subst hP hw hK
    obtain ⟨hz, hTI, ⟨x0, y0, hTO⟩, h1, h2⟩ := st
    obtain ⟨xs, ys, hqx, hqy, hi1, hi2, hend⟩ := hg
    obtain ⟨its, rv, p, _⟩ := I.list hqx
    obtain ⟨its2, rv2, p2, _⟩ := I.tuple hqy
    have l1 := rv.length
    have l2 := rv2.length
    have hh : X.A.in1.handled = none := I.ok.hd hc
    exact wpAny_pyNext_zipD2_end S (Draws.list hh i1 a na its.toArray) (Draws.tuple hh i2 b nb its2.toArray) hz hTI hTO ⟨h1, p.isList⟩ ⟨h2, p2⟩ (by simp; omega) (by simp; omega) (by simp; omega) fun h' tk hk =>
      ⟨rfl, I.turnedL (t' := tk) (ch := zmCells z TI TO i1 i2) (fun c o hb q => hk c o (fun e => hb (by simp [e])) (fun e => hb (by simp [e])) (fun e => hb (by simp [e])) (fun e => hb (by simp [e])) q) hf⟩
  self := fun A i s Q E st h => wpAny_pyIter_zip st.1 h
end
/-- zip(list, tuple) -/
def iZM (K : PySem.W.Frag) (ta : TA) : TI := fun σ H R => ta σ H fun vs H1 => ∃ a b xs ys, vs = [.ref a, .ref b] ∧ SqL K H1 a xs ∧ SqT K H1 b ys ∧ R (ItZM K a b) H1
theorem pi_zm {X : Cx} {e e2 : Expr} {ta : TA} {p pos tpos : Pos} {elts : List Expr} {kk : Nat} (hg : Gl X "zip") (hm : X.mg "zip" = none) (ha : PA X [e, e2] ta)
    (hs : starEach [e, e2] X.env = (false, eval e X.env) :: starEach [e2] X.env := by rfl) (hpl : (backTo pos (starEach [e2] X.env)).any (·.1) = false := by rfl) :
    PI X (.Tuple elts kk tpos) (.Call (.Name "zip" p) [e, e2] [] pos) (iZM X.K ta) := by
  refine ⟨fun pins s σ H R I h => Call_ (ld_blt I hg hm PyProof.Rows.boot_zip (PyProof.Rows.callWith_type1 (thn (ha.run pos pins s σ H _ I h) fun us s1 ⟨vs, H1, I1, r1, q1⟩ => ?_) hs hpl))⟩
  obtain ⟨a, b, xs, ys, ex, hqx, hqy, q⟩ := q1
  subst ex
  cases r1 with
  | cons r rr =>
    cases rr with
    | cons r' rr =>
      cases rr
      cases r
      cases r'
      obtain ⟨its, rv, p1, _⟩ := I1.list hqx
      obtain ⟨its2, rv2, p2, _⟩ := I1.tuple hqy
      obtain ⟨o2, ho2, _⟩ := id p2
      have la := p1.lt
      have lb : b < s1.heap.objs.size := Heap.lt_size ho2
      have fp : ∀ c ∈ zmCells (s1.heap.objs.size + 4) (s1.heap.objs.size + 2) (s1.heap.objs.size + 3) s1.heap.objs.size (s1.heap.objs.size + 1), FpOk X pins H1 c := fun c hcm => by
        have hle : s1.heap.objs.size ≤ c := by
          rcases zm_mem hcm with q | q | q | q | q
          · rw [q]; exact Nat.le_add_right _ _
          · rw [q]; exact Nat.le_add_right _ _
          · rw [q]; exact Nat.le_add_right _ _
          · rw [q]; exact Nat.le_refl _
          · rw [q]; exact Nat.le_add_right _ _
        exact I1.fpOk hle (I1.hok.fresh hle)
      have S : ZipSep2 (s1.heap.objs.size + 4) (s1.heap.objs.size + 2) (s1.heap.objs.size + 3) s1.heap.objs.size (s1.heap.objs.size + 1) [s1.heap.objs.size, a] [s1.heap.objs.size + 1, b] :=
        zip_sep2 (fun c h => by rw [List.mem_singleton.mp h]; exact la) (fun c h => by rw [List.mem_singleton.mp h]; exact lb)
      have nb : b ≠ s1.heap.objs.size + 1 := Nat.ne_of_lt (Nat.lt_succ_of_lt lb)
      have T := turn_zm (P := X.prog) (w := X.w) (K := X.K) (elts := elts) (kk := kk) (tpos := tpos) S (Nat.ne_of_lt la) nb
      refine zip_begins2 (begins_list a its.toArray) (begins_tuple b its2.toArray) p1.isList p2 fun h' hz hTI hTO h1 h2 hsz hk => wpAny_pyIter_zip hz ?_
      have I2 : L2.Inv X pins σ H1 { s1 with heap := h' } := I1.kept (t' := s1.toks) hk
      exact ⟨s1.heap.objs.size + 4, zmCells (s1.heap.objs.size + 4) (s1.heap.objs.size + 2) (s1.heap.objs.size + 3) s1.heap.objs.size (s1.heap.objs.size + 1), _, ItZM X.K a b, H1, rfl, I2, T,
        ⟨hz, hTI, ⟨_, _, hTO⟩, ⟨_, h1, rfl, rfl⟩, ⟨_, h2, rfl, rfl⟩⟩, fp, q⟩
end Ms
namespace Ms
open PySem PySem.Spec PyProof.Rows L2
/-! ### _law_settings -/
/-- pairs of a text and an int, each a tuple of its own -/
inductive Prs (H : Hp) : List Addr → List (Str × Int) → Prop
  | nil : Prs H [] []
  | cons {a : Addr} {as : List Addr} {y : Str} {k : Int} {ys : List (Str × Int)} : H a = some (.tup [.str y, .int k]) → Prs H as ys → Prs H (a :: as) ((y, k) :: ys)
theorem Prs.same {H H' : Hp} {as : List Addr} {ys : List (Str × Int)} (s : ∀ b o, b ∈ as → H b = some o → H' b = some o) (p : Prs H as ys) : Prs H' as ys := by
  induction p with
  | nil => exact .nil
  | cons h _ ih => exact .cons (s _ _ (List.mem_cons_self ..) h) (ih fun b o hb => s b o (List.mem_cons_of_mem _ hb))
theorem Prs.snoc {H : Hp} {as : List Addr} {ys : List (Str × Int)} {a : Addr} {y : Str} {k : Int} (p : Prs H as ys) (h : H a = some (.tup [.str y, .int k])) : Prs H (as ++ [a]) (ys ++ [(y, k)]) := by
  induction p with
  | nil => exact .cons h .nil
  | cons h' _ ih => exact .cons h' ih
theorem Prs.length {H : Hp} {as : List Addr} {ys : List (Str × Int)} (p : Prs H as ys) : as.length = ys.length := by
  induction p with
  | nil => rfl
  | cons _ _ ih => simp [ih]
theorem Prs.live {H : Hp} {as : List Addr} {ys : List (Str × Int)} (p : Prs H as ys) : ∀ a ∈ as, ∃ y k, H a = some (.tup [.str y, .int k]) := by
  induction p with
  | nil => intro a h; cases h
  | cons h' _ ih =>
    intro b hb
    rcases List.mem_cons.mp hb with rfl | hb
    · exact ⟨_, _, h'⟩
    · exact ih b hb
theorem Prs.get {H : Hp} {as : List Addr} {ys : List (Str × Int)} (p : Prs H as ys) : ∀ {i : Nat} {a : Addr}, as[i]? = some a → ∃ y k, ys[i]? = some (y, k) ∧ H a = some (.tup [.str y, .int k]) := by
  induction p with
  | nil => intro i a h; simp at h
  | cons h' _ ih =>
    intro i b hb
    cases i with
    | zero => simp at hb; subst hb; exact ⟨_, _, rfl, h'⟩
    | succ i => exact ih (by simpa using hb)
/-- the data of such pairs -/
def prD (ys : List (Str × Int)) : List PyData := ys.map fun q => .tuple [.str q.1, .int q.2]
theorem Prs.dq {K : PySem.W.Frag} {H : Hp} {m l : Addr} {as : List Addr} {ys : List (Str × Int)} (p : Prs H as ys) : DqAll K H m l (as.map V.ref) (prD ys) := by
  induction p with
  | nil => exact .nil
  | cons h _ ih => exact .cons (.tup (.inl (.inl h)) (.cons (.str _) (.cons (.int _) .nil))) ih
theorem Fr.trail {m l l' : Addr} {H H1 H2 : Hp} (f : Fr m l l' H H1) (s : Same H1 H2) : Fr m l l' H H2 :=
  ⟨fun b o e h1 h2 => s _ _ (f.keep b o e h1 h2), f.new, fun b h => by
    cases q : H1 b with
    | none => exact absurd q (f.dom b h)
    | some o => rw [s _ _ q]; exact fun z => nomatch z⟩
/-- how often each may stand: one to three small ints -/
def Mo (H : Hp) (a : Addr) : Prop := ∃ ms : List Int, H a = some (.tup (ms.map V.int)) ∧ 1 ≤ ms.length ∧ ms.length ≤ 3 ∧ ∀ x ∈ ms, 1 ≤ x ∧ x ≤ 3
theorem Mo.same {H H' : Hp} {a : Addr} (s : Same H H') (h : Mo H a) : Mo H' a := by
  obtain ⟨ms, e, r⟩ := h
  exact ⟨ms, s _ _ e, r⟩
section
variable {P : Program} {w : World} {K : PySem.W.Frag} {mg : Str → Option Value} {base : Heap} {fN fM : Addr}
structure TxtS (mg : Str → Option Value) (fN fM : Addr) : Prop extends TxtN mg fN where
  names : mg "_law_names" = some (.ref fM)
abbrev NS : List Str := ["m", "mosts", "some", "name", "most"]
theorem scSt : FnScope NS ["m"] (defScope sSettings) := ⟨rfl, rfl, rfl, by decide +kernel, rfl, by decide +kernel, by decide +kernel⟩
/-- good pairs: names of at most 16 signs, small numbers -/
def okP (ys : List (Str × Int)) : Prop := ∀ q ∈ ys, sOk 16 q.1 ∧ 1 ≤ q.2 ∧ q.2 ≤ 3
def spSettings : Sp := fun vs H Q _ => ∃ (m l : Addr) (n : Nat), vs = [.ref m] ∧ Mch H m l n ∧ n < 800000 ∧
  ∀ (p : Addr) (as : List Addr) (ys : List (Str × Int)) (l' : Addr) (H' : Hp), H' p = some (.tup (as.map V.ref)) → Prs H' as ys → 1 ≤ ys.length → ys.length ≤ 3 → okP ys → Mch H' m l' (n + 12) → Fr m l l' H H' → Q (.ref p) H'
theorem ok_settings {f : Addr} {fd fdN fdM : FuncData} (F : Fun K "_law_settings" "_law_settings" sSettings f fd) (T : TxtS mg fN fM) (FN : Fun K "_law_next" "_law_next" sNext fN fdN) (bN : Binds K fdN ["m", "many"] [])
    (FM : Fun K "_law_names" "_law_names" sNames fM fdM) (bM : Binds K fdM ["m", "many"] []) : FnOk P w K mg base CX0 3 f fd ["m"] spSettings := by
  have GN : FnOk P w K mg base CX0 2 fN fdN ["m", "many"] spNext := (ok_next FN T.toTxt).mono (by decide)
  have GM : FnOk P w K mg base CX0 2 fM fdM ["m", "many"] spNames := ok_names FM T.toTxtN FN bN
  refine F.ok scSt (fun vs H Q E h => ?_) (fun cdv A outer s H vs Q E hr h => ?_)
  · obtain ⟨m, l, n, rfl, _⟩ := h
    rfl
  · obtain ⟨m, l, n, rfl, M, hn, q⟩ := h
    refine ⟨_, pss_cons (ps_set (i := 1) scSt.nd rfl (by first | exact Or.inl rfl | exact Or.inr rfl) (pe_lst (pa_cons (pe_tup (pa_cons pe_int pa_nil)) (pa_cons (pe_tup (pa_cons pe_int pa_nil)) (pa_cons (pe_tup (pa_cons pe_int pa_nil)) (pa_cons (pe_tup (pa_cons pe_int (pa_cons pe_int pa_nil))) (pa_cons (pe_tup (pa_cons pe_int (pa_cons pe_int pa_nil))) (pa_cons (pe_tup (pa_cons pe_int (pa_cons pe_int pa_nil))) (pa_cons (pe_tup (pa_cons pe_int (pa_cons pe_int pa_nil))) (pa_cons (pe_tup (pa_cons pe_int (pa_cons pe_int pa_nil))) (pa_cons (pe_tup (pa_cons pe_int (pa_cons pe_int pa_nil))) (pa_cons (pe_tup (pa_cons pe_int (pa_cons pe_int (pa_cons pe_int pa_nil)))) (pa_cons (pe_tup (pa_cons pe_int (pa_cons pe_int (pa_cons pe_int pa_nil)))) (pa_cons (pe_tup (pa_cons pe_int (pa_cons pe_int (pa_cons pe_int pa_nil)))) pa_nil))))))))))))))
      (pss_cons (ps_set (i := 2) scSt.nd rfl (by first | exact Or.inl rfl | exact Or.inr rfl) (pe_ix ix_list (pv 1) (pe_call GN hr rfl T.next FN.kp bN .nil pass0 (pa_cons (pv 0) (pa_cons pe_int pa_nil))) (fun _ _ => rfl)))
      (pss_one (ps_ret (pe_callTy call_tuple_of (by rfl) T.tuple (by decide +kernel) (pa_cons (pe_lc (own := [("name", 3), ("most", 4)]) (g := gTup K 2 (gCons (gName 3) (gCons (gName 4) gNil))) (by rfl) scSt.nd
        (pi_zm (by rfl) T.zip (pa_cons (pe_call GM hr rfl T.names FM.kp bM .nil pass0 (pa_cons (pv 0) (pa_cons (pe_callB call_len (by rfl) T.len PySem.boot_len (pa_cons (pv 2) pa_nil)) pa_nil))) (pa_cons (pv 2) pa_nil)))
        (blkOk_by (own := [("name", 3), ("most", 4)]) (N := NS) (sc := defScope sSettings) (by decide +kernel))
        (fun _ _ _ _ _ => pg_tup rfl (pgs_cons (pg_name (i := 3) scSt.nd rfl (Or.inl rfl)) (pgs_cons (pg_name (i := 4) scSt.nd rfl (Or.inl rfl)) pgs_nil))) (fun _ _ _ _ _ => pts_nil)
        (fun _ _ _ _ _ => pe_tup (pa_cons (pv 3) (pa_cons (pv 4) pa_nil)))) pa_nil))))), ?_⟩
    refine ⟨(by show 1 ≤ sizeLine; decide), fun p1 h1 => ?_⟩
    obtain ⟨G1, e1⟩ : ∃ G, G = upd H p1 (.tup [.int 1]) := ⟨_, rfl⟩
    rw [← e1]
    have s1 : Same H G1 := e1 ▸ Same.upd h1
    have M1 := M.same s1
    have f1 : Fr m l l H G1 := e1 ▸ (Fr.refl M).junk h1
    have a1_1 : Mo G1 p1 := ⟨[1], by rw [e1, upd_same]; rfl, by decide, by decide, by decide⟩
    refine ⟨(by show 1 ≤ sizeLine; decide), fun p2 h2 => ?_⟩
    obtain ⟨G2, e2⟩ : ∃ G, G = upd G1 p2 (.tup [.int 2]) := ⟨_, rfl⟩
    rw [← e2]
    have s2 : Same G1 G2 := e2 ▸ Same.upd h2
    have M2 := M1.same s2
    have f2 : Fr m l l H G2 := e2 ▸ f1.junk h2
    have a2_2 : Mo G2 p2 := ⟨[2], by rw [e2, upd_same]; rfl, by decide, by decide, by decide⟩
    have a1_2 := a1_1.same s2
    refine ⟨(by show 1 ≤ sizeLine; decide), fun p3 h3 => ?_⟩
    obtain ⟨G3, e3⟩ : ∃ G, G = upd G2 p3 (.tup [.int 3]) := ⟨_, rfl⟩
    rw [← e3]
    have s3 : Same G2 G3 := e3 ▸ Same.upd h3
    have M3 := M2.same s3
    have f3 : Fr m l l H G3 := e3 ▸ f2.junk h3
    have a3_3 : Mo G3 p3 := ⟨[3], by rw [e3, upd_same]; rfl, by decide, by decide, by decide⟩
    have a1_3 := a1_2.same s3
    have a2_3 := a2_2.same s3
    refine ⟨(by show 2 ≤ sizeLine; decide), fun p4 h4 => ?_⟩
    obtain ⟨G4, e4⟩ : ∃ G, G = upd G3 p4 (.tup [.int 1, .int 1]) := ⟨_, rfl⟩
    rw [← e4]
    have s4 : Same G3 G4 := e4 ▸ Same.upd h4
    have M4 := M3.same s4
    have f4 : Fr m l l H G4 := e4 ▸ f3.junk h4
    have a4_4 : Mo G4 p4 := ⟨[1, 1], by rw [e4, upd_same]; rfl, by decide, by decide, by decide⟩
    have a1_4 := a1_3.same s4
    have a2_4 := a2_3.same s4
    have a3_4 := a3_3.same s4
    refine ⟨(by show 2 ≤ sizeLine; decide), fun p5 h5 => ?_⟩
    obtain ⟨G5, e5⟩ : ∃ G, G = upd G4 p5 (.tup [.int 1, .int 2]) := ⟨_, rfl⟩
    rw [← e5]
    have s5 : Same G4 G5 := e5 ▸ Same.upd h5
    have M5 := M4.same s5
    have f5 : Fr m l l H G5 := e5 ▸ f4.junk h5
    have a5_5 : Mo G5 p5 := ⟨[1, 2], by rw [e5, upd_same]; rfl, by decide, by decide, by decide⟩
    have a1_5 := a1_4.same s5
    have a2_5 := a2_4.same s5
    have a3_5 := a3_4.same s5
    have a4_5 := a4_4.same s5
    refine ⟨(by show 2 ≤ sizeLine; decide), fun p6 h6 => ?_⟩
    obtain ⟨G6, e6⟩ : ∃ G, G = upd G5 p6 (.tup [.int 2, .int 1]) := ⟨_, rfl⟩
    rw [← e6]
    have s6 : Same G5 G6 := e6 ▸ Same.upd h6
    have M6 := M5.same s6
    have f6 : Fr m l l H G6 := e6 ▸ f5.junk h6
    have a6_6 : Mo G6 p6 := ⟨[2, 1], by rw [e6, upd_same]; rfl, by decide, by decide, by decide⟩
    have a1_6 := a1_5.same s6
    have a2_6 := a2_5.same s6
    have a3_6 := a3_5.same s6
    have a4_6 := a4_5.same s6
    have a5_6 := a5_5.same s6
    refine ⟨(by show 2 ≤ sizeLine; decide), fun p7 h7 => ?_⟩
    obtain ⟨G7, e7⟩ : ∃ G, G = upd G6 p7 (.tup [.int 2, .int 2]) := ⟨_, rfl⟩
    rw [← e7]
    have s7 : Same G6 G7 := e7 ▸ Same.upd h7
    have M7 := M6.same s7
    have f7 : Fr m l l H G7 := e7 ▸ f6.junk h7
    have a7_7 : Mo G7 p7 := ⟨[2, 2], by rw [e7, upd_same]; rfl, by decide, by decide, by decide⟩
    have a1_7 := a1_6.same s7
    have a2_7 := a2_6.same s7
    have a3_7 := a3_6.same s7
    have a4_7 := a4_6.same s7
    have a5_7 := a5_6.same s7
    have a6_7 := a6_6.same s7
    refine ⟨(by show 2 ≤ sizeLine; decide), fun p8 h8 => ?_⟩
    obtain ⟨G8, e8⟩ : ∃ G, G = upd G7 p8 (.tup [.int 1, .int 3]) := ⟨_, rfl⟩
    rw [← e8]
    have s8 : Same G7 G8 := e8 ▸ Same.upd h8
    have M8 := M7.same s8
    have f8 : Fr m l l H G8 := e8 ▸ f7.junk h8
    have a8_8 : Mo G8 p8 := ⟨[1, 3], by rw [e8, upd_same]; rfl, by decide, by decide, by decide⟩
    have a1_8 := a1_7.same s8
    have a2_8 := a2_7.same s8
    have a3_8 := a3_7.same s8
    have a4_8 := a4_7.same s8
    have a5_8 := a5_7.same s8
    have a6_8 := a6_7.same s8
    have a7_8 := a7_7.same s8
    refine ⟨(by show 2 ≤ sizeLine; decide), fun p9 h9 => ?_⟩
    obtain ⟨G9, e9⟩ : ∃ G, G = upd G8 p9 (.tup [.int 3, .int 2]) := ⟨_, rfl⟩
    rw [← e9]
    have s9 : Same G8 G9 := e9 ▸ Same.upd h9
    have M9 := M8.same s9
    have f9 : Fr m l l H G9 := e9 ▸ f8.junk h9
    have a9_9 : Mo G9 p9 := ⟨[3, 2], by rw [e9, upd_same]; rfl, by decide, by decide, by decide⟩
    have a1_9 := a1_8.same s9
    have a2_9 := a2_8.same s9
    have a3_9 := a3_8.same s9
    have a4_9 := a4_8.same s9
    have a5_9 := a5_8.same s9
    have a6_9 := a6_8.same s9
    have a7_9 := a7_8.same s9
    have a8_9 := a8_8.same s9
    refine ⟨(by show 3 ≤ sizeLine; decide), fun p10 h10 => ?_⟩
    obtain ⟨G10, e10⟩ : ∃ G, G = upd G9 p10 (.tup [.int 1, .int 1, .int 1]) := ⟨_, rfl⟩
    rw [← e10]
    have s10 : Same G9 G10 := e10 ▸ Same.upd h10
    have M10 := M9.same s10
    have f10 : Fr m l l H G10 := e10 ▸ f9.junk h10
    have a10_10 : Mo G10 p10 := ⟨[1, 1, 1], by rw [e10, upd_same]; rfl, by decide, by decide, by decide⟩
    have a1_10 := a1_9.same s10
    have a2_10 := a2_9.same s10
    have a3_10 := a3_9.same s10
    have a4_10 := a4_9.same s10
    have a5_10 := a5_9.same s10
    have a6_10 := a6_9.same s10
    have a7_10 := a7_9.same s10
    have a8_10 := a8_9.same s10
    have a9_10 := a9_9.same s10
    refine ⟨(by show 3 ≤ sizeLine; decide), fun p11 h11 => ?_⟩
    obtain ⟨G11, e11⟩ : ∃ G, G = upd G10 p11 (.tup [.int 1, .int 2, .int 1]) := ⟨_, rfl⟩
    rw [← e11]
    have s11 : Same G10 G11 := e11 ▸ Same.upd h11
    have M11 := M10.same s11
    have f11 : Fr m l l H G11 := e11 ▸ f10.junk h11
    have a11_11 : Mo G11 p11 := ⟨[1, 2, 1], by rw [e11, upd_same]; rfl, by decide, by decide, by decide⟩
    have a1_11 := a1_10.same s11
    have a2_11 := a2_10.same s11
    have a3_11 := a3_10.same s11
    have a4_11 := a4_10.same s11
    have a5_11 := a5_10.same s11
    have a6_11 := a6_10.same s11
    have a7_11 := a7_10.same s11
    have a8_11 := a8_10.same s11
    have a9_11 := a9_10.same s11
    have a10_11 := a10_10.same s11
    refine ⟨(by show 3 ≤ sizeLine; decide), fun p12 h12 => ?_⟩
    obtain ⟨G12, e12⟩ : ∃ G, G = upd G11 p12 (.tup [.int 1, .int 1, .int 2]) := ⟨_, rfl⟩
    rw [← e12]
    have s12 : Same G11 G12 := e12 ▸ Same.upd h12
    have M12 := M11.same s12
    have f12 : Fr m l l H G12 := e12 ▸ f11.junk h12
    have a12_12 : Mo G12 p12 := ⟨[1, 1, 2], by rw [e12, upd_same]; rfl, by decide, by decide, by decide⟩
    have a1_12 := a1_11.same s12
    have a2_12 := a2_11.same s12
    have a3_12 := a3_11.same s12
    have a4_12 := a4_11.same s12
    have a5_12 := a5_11.same s12
    have a6_12 := a6_11.same s12
    have a7_12 := a7_11.same s12
    have a8_12 := a8_11.same s12
    have a9_12 := a9_11.same s12
    have a10_12 := a10_11.same s12
    have a11_12 := a11_11.same s12
    refine ⟨(by show 12 ≤ sizeLine; decide), fun D hD => ?_⟩
    obtain ⟨G, eG⟩ : ∃ G, G = upd G12 D (.lst [.ref p1, .ref p2, .ref p3, .ref p4, .ref p5, .ref p6, .ref p7, .ref p8, .ref p9, .ref p10, .ref p11, .ref p12]) := ⟨_, rfl⟩
    rw [← eG]
    have sG : Same G12 G := eG ▸ Same.upd hD
    have nD := M12.ne hD
    have MG := M12.same sG
    have fG : Fr m l l H G := eG ▸ f12.junk hD
    have gD : G D = some (.lst [.ref p1, .ref p2, .ref p3, .ref p4, .ref p5, .ref p6, .ref p7, .ref p8, .ref p9, .ref p10, .ref p11, .ref p12]) := by rw [eG, upd_same]
    have pick : ∀ r : Int, 0 ≤ r → r < 12 → ∃ a, atI ([.ref p1, .ref p2, .ref p3, .ref p4, .ref p5, .ref p6, .ref p7, .ref p8, .ref p9, .ref p10, .ref p11, .ref p12] : List V) r = some (.ref a) ∧ Mo G a := by
      intro r h0 h1
      obtain ⟨j, rfl⟩ : ∃ j : Nat, r = (j : Int) := ⟨r.toNat, by omega⟩
      have hj : j < 12 := by omega
      match j, hj with
      | 0, _ => exact ⟨p1, rfl, a1_12.same sG⟩
      | 1, _ => exact ⟨p2, rfl, a2_12.same sG⟩
      | 2, _ => exact ⟨p3, rfl, a3_12.same sG⟩
      | 3, _ => exact ⟨p4, rfl, a4_12.same sG⟩
      | 4, _ => exact ⟨p5, rfl, a5_12.same sG⟩
      | 5, _ => exact ⟨p6, rfl, a6_12.same sG⟩
      | 6, _ => exact ⟨p7, rfl, a7_12.same sG⟩
      | 7, _ => exact ⟨p8, rfl, a8_12.same sG⟩
      | 8, _ => exact ⟨p9, rfl, a9_12.same sG⟩
      | 9, _ => exact ⟨p10, rfl, a10_12.same sG⟩
      | 10, _ => exact ⟨p11, rfl, a11_12.same sG⟩
      | 11, _ => exact ⟨p12, rfl, a12_12.same sG⟩
    clear e1 s1 M1 f1 e2 s2 M2 f2 e3 s3 M3 f3 e4 s4 M4 f4 e5 s5 M5 f5 e6 s6 M6 f6 e7 s7 M7 f7 e8 s8 M8 f8 e9 s9 M9 f9 e10 s10 M10 f10 e11 s11 M11 f11 a1_1 a1_2 a2_2 a1_3 a2_3 a3_3 a1_4 a2_4 a3_4 a4_4 a1_5 a2_5 a3_5 a4_5 a5_5 a1_6 a2_6 a3_6 a4_6 a5_6 a6_6 a1_7 a2_7 a3_7 a4_7 a5_7 a6_7 a7_7 a1_8 a2_8 a3_8 a4_8 a5_8 a6_8 a7_8 a8_8 a1_9 a2_9 a3_9 a4_9 a5_9 a6_9 a7_9 a8_9 a9_9 a1_10 a2_10 a3_10 a4_10 a5_10 a6_10 a7_10 a8_10 a9_10 a10_10 a1_11 a2_11 a3_11 a4_11 a5_11 a6_11 a7_11 a8_11 a9_11 a10_11 a11_11 a1_12 a2_12 a3_12 a4_12 a5_12 a6_12 a7_12 a8_12 a9_12 a10_12 a11_12 a12_12
    refine ⟨_, rfl, _, rfl, m, l, n, 12, rfl, MG, by omega, by decide, by decide, fun r l1 H1 r0 r1 M1 f1' => ?_⟩
    obtain ⟨a, ha, mo⟩ := pick r r0 r1
    refine ⟨D, _, r, .ref a, rfl, rfl, SqL.of (f1'.keep D _ gD nD.1 nD.2), ha, ?_⟩
    obtain ⟨ms, hms, ml1, ml3, msok⟩ := mo
    have am : a ≠ m ∧ a ≠ l := by
      obtain ⟨c, cs, ls, z, dm, dc, dl, _⟩ := MG.ex
      exact ⟨ne_of hms dm (by intro q; cases q), ne_of hms dl (by intro q; cases q)⟩
    have ka : H1 a = some (.tup (ms.map V.int)) := f1'.keep a _ hms am.1 am.2
    have F1 : Fr m l l1 H H1 := fG.trans f1'
    clear pick gD eG sG MG fG hD e12 s12 M12 f12 h12 h11 h10 h9 h8 h7 h6 h5 h4 h3 h2 h1 ha f1' hms
    have lenA : ((ms.map V.int).length : Nat) = ms.length := List.length_map ..
    refine ⟨_, rfl, _, rfl, _, _, rfl, .inr ⟨_, SqT.of ka, rfl⟩, ?_⟩
    refine ⟨m, l1, n + 1, (ms.map V.int).length, rfl, M1, by omega, by omega, by omega, fun N ys l2 H2 hN gN yl yo nm nl M2 f2 => ?_⟩
    have F2 := F1.trans f2
    have ka2 : H2 a = some (.tup (ms.map V.int)) := f2.keep a _ ka am.1 (by
      obtain ⟨c, cs, ls, z, dm, dc, dl, _⟩ := M1.ex
      exact ne_of ka dl (by intro q; cases q))
    refine ⟨_, rfl, N, a, _, _, rfl, SqL.of gN, .inl (.inl ka2), fun D2 hD2 => ?_⟩
    have yl' : ys.length = ms.length := yl.trans lenA
    refine lc_it (walk_zm (xs := ys.map V.str) (ys := ms.map V.int) (n := ms.length) (by simp [yl'])) (fun i H3 => ∃ as : List Addr, as.length = i ∧ Prs H3 as ((ys.zip ms).take i) ∧ (∀ b ∈ as, b ≠ D2) ∧ H3 D2 = some (.lst (as.map V.ref)) ∧ Same H2 H3)
      ⟨[], rfl, .nil, (fun _ hb => nomatch hb), upd_same, Same.upd hD2⟩ (fun i H3 _ ⟨as, _, _, _, _, s3⟩ => ⟨SqL.of (s3 _ _ gN), SqT.of (s3 _ _ ka2)⟩) ?_ ?_
    · rintro i x H3 H4 hi ⟨as, al, pr, nd, gd, s3⟩ ⟨T, x1, x2, rfl, hT, rfl, e1, e2⟩
      have hy : i < ys.length := by omega
      have e1' : x1 = .str ys[i] := by simp [hy] at e1; exact e1.symm
      have e2' : x2 = .int ms[i] := by simp [hi] at e2; exact e2.symm
      subst e1' e2'
      refine ⟨T, _, rfl, .inl (.inl upd_same), rfl, _, _, rfl, _, _, rfl, rfl, rfl, tyes ?_⟩
      refine ⟨_, rfl, _, rfl, (by show 2 ≤ sizeLine; decide), fun p hp => ?_⟩
      have sT : Same H3 (upd H3 T (.tup [.str ys[i], .int ms[i]])) := Same.upd hT
      have sp : Same (upd H3 T (.tup [.str ys[i], .int ms[i]])) (upd (upd H3 T (.tup [.str ys[i], .int ms[i]])) p (.tup [.str ys[i], .int ms[i]])) := Same.upd hp
      have nDp : p ≠ D2 := fun e => by rw [e, sT _ _ gd] at hp; cases hp
      refine ⟨_, sp _ _ (sT _ _ gd), small1000 (by rw [List.length_map]; omega), as ++ [p], by simp [al], ?_, ?_, ?_, ?_⟩
      · rw [List.take_succ]
        have ez : (ys.zip ms)[i]? = some (ys[i], ms[i]) := by rw [List.getElem?_zip_eq_some]; exact ⟨List.getElem?_eq_getElem hy, List.getElem?_eq_getElem hi⟩
        rw [ez]
        refine Prs.snoc (Prs.same (fun b o hb e => ?_) pr) ?_
        · rw [upd_ne (nd b hb)]; exact sp _ _ (sT _ _ e)
        · rw [upd_ne nDp, upd_same]
      · intro b hb
        rcases List.mem_append.mp hb with hb | hb
        · exact nd b hb
        · rw [List.mem_singleton.mp hb]; exact nDp
      · rw [upd_same, List.map_append]; rfl
      · intro b o e
        have nb : b ≠ D2 := ne_of_none e hD2
        rw [upd_ne nb]; exact sp _ _ (sT _ _ (s3 _ _ e))
    · rintro H3 ⟨as, al, pr, nd, gd, s3⟩
      have lz : (ys.zip ms).length = ms.length := by simp [yl']
      rw [List.take_of_length_le (by omega)] at pr
      refine ⟨D2, _, rfl, .inl ⟨SqL.of gd, fun p hp => ?_⟩⟩
      have sp : Same H3 (upd H3 p (.tup (as.map V.ref))) := Same.upd hp
      refine q p as (ys.zip ms) l2 _ upd_same (pr.same fun b o _ e => sp b o e) (by omega) (by omega) (fun y hy => ?_) ((((M2.same s3).same sp)).mono (by omega)) ((F2.trail s3).trail sp)
      have := List.of_mem_zip hy
      exact ⟨yo _ this.1, msok _ this.2⟩
end
end Ms
namespace Ms
open PySem PySem.Spec PyProof.Rows L2
abbrev big : Nat := 10 ^ 30
def gdB (B a b : Nat) (d : PyData) : Bool := okD B d && (decide (d.weight ≤ a) && decide (d.depth ≤ b))
theorem gd_of {B a b : Nat} {d : PyData} (h : gdB B a b d = true) : Gd B a b d := by
  unfold gdB at h
  simp only [Bool.and_eq_true, decide_eq_true_eq] at h
  exact ⟨h.1, h.2.1, h.2.2⟩
end Ms
namespace Ms
open PySem PySem.Spec PyProof.Rows L2
/-! ### two rules over tuples -/
/-- t == (), whatever the items are -/
theorem op_eq_nil {X : Cx} (hu : X.A.units + 64 < cLine) : OpR X (compareOp .Eq) (fun x y H Q => ∃ a b xs, x = .ref a ∧ y = .ref b ∧ SqT X.K H a xs ∧ SqT X.K H b [] ∧ Q (.bl (xs.length == 0)) H) := by
  intro pins s σ H x y v u Q I rx ry h
  obtain ⟨a, b, xs, rfl, rfl, ha, hb, q⟩ := h
  cases rx
  cases ry
  obtain ⟨its, r1, p1, _⟩ := I.tuple ha
  obtain ⟨its2, r2, p2, _⟩ := I.tuple hb
  cases r2
  have hl := r1.length
  refine SeqAt.eq_tupleAt (e := fun _ => true) p1 p2 (by omega) (fun j h1 h2 => by simp at h2) ?_
  refine ⟨.bl _, H, I, rfl, ?_⟩
  have e : ((List.range (min its.toArray.size ([] : List Value).toArray.size)).all (fun _ => true) && its.toArray.size == ([] : List Value).toArray.size) = (xs.length == 0) := by
    rw [hl]; simp
  rw [e]; exact q
section
variable {prog : Program} {w : World} {A : Around} {E : Value → Shared → Prop} {s : Shared}
theorem places_rev (n : Nat) : Builtin.Slice.slicePlaces ((n : Int) - 1) (-1) (-1) = n := by
  unfold Builtin.Slice.slicePlaces
  have h1 : ¬ ((-1 : Int) > 0) := by decide
  have h2 : (- -1 : Int) = 1 := by decide
  simp only [h1, if_false, h2, Int.ediv_one]
  split <;> omega
theorem applied_rev {sl : Addr} {vs : Value} {n : Nat} {Q : Int × Int × Nat → Shared → Prop} (hs : s.heap.IsSliceOf sl .none .none vs) (ps : IsPart vs (some (-1)))
    (h : Q ((n : Int) - 1, -1, n) s) : wpAny (model prog w) A (Builtin.Slice.sliceApplied (.ref sl) (pure (n : Int))) Q E s := by
  obtain ⟨os, hos, hcs, hds⟩ := id hs
  unfold Builtin.Slice.sliceApplied Builtin.Slice.sliceFields
  refine wpAny_bind (wpAny_bind (wpAny_field hos hds (x := .none) rfl (wpAny_bind (wpAny_field hos hds (x := .none) rfl (wpAny_bind (wpAny_field hos hds (x := vs) rfl (wpAny_pure ?_)))))))
  refine wpAny_bind (HT.slicePart_ ps ?_)
  show wpAny _ _ (if ((-1 : Int) == 0) = true then _ else _) _ _ s
  rw [if_neg (by decide)]
  refine wpAny_bind (HT.slicePart_ .none (wpAny_bind (HT.slicePart_ .none (wpAny_bind (wpAny_pure ?_)))))
  show wpAny _ _ (pure ((n : Int) - 1, (-1 : Int), Builtin.Slice.slicePlaces ((n : Int) - 1) (-1) (-1))) _ _ s
  rw [places_rev]
  exact wpAny_pure h
theorem pick_rev (xs : Array Value) : ((List.range xs.size).filterMap fun (m : Nat) => xs[((xs.size : Int) - 1 + (m : Int) * (-1)).toNat]?).toArray = xs.toList.reverse.toArray := by
  have e : (List.range xs.size).filterMap (fun (m : Nat) => xs[((xs.size : Int) - 1 + (m : Int) * (-1)).toNat]?) = ((List.range xs.size).map fun k => xs.size - 1 - k).filterMap (xs[·]?) := by
    have g : ∀ (f : Nat → Option Value), (List.range xs.size).filterMap f = ((List.range xs.size).map f).filterMap id := fun f => by rw [List.filterMap_map]; rfl
    rw [List.filterMap_map, g, g]
    refine congrArg (List.filterMap id) (List.map_congr_left fun m hm => ?_)
    have := List.mem_range.mp hm
    have q : ((xs.size : Int) - 1 + (m : Int) * (-1)).toNat = xs.size - 1 - m := by omega
    show _ = xs[xs.size - 1 - m]?
    rw [q]
  rw [e, PySem.W.krv_range, List.filterMap_reverse, PySem.W.krv_all]
theorem getItem_tuple_rev {t sl : Addr} {items : Array Value} {vs : Value} {Q : Value → Shared → Prop} (ht : IsTup s.heap t items) (hs : s.heap.IsSliceOf sl .none .none vs) (ps : IsPart vs (some (-1)))
    (h : Q (.ref s.heap.objs.size) { s with heap := s.heap.push { cls := .type "tuple", data := .seq items.toList.reverse.toArray } })
    (hsz : items.size ≤ sizeLine) : wpAny (model prog w) A (getItem (.ref t) (.ref sl)) Q E s := by
  have hrev : sizeOk (.seq items.toList.reverse.toArray) := by
    show items.toList.reverse.toArray.size ≤ sizeLine
    simpa using hsz
  obtain ⟨os, hos, hcs, hds⟩ := id hs
  have hTs : s.TypeIs (.ref sl) "slice" := ⟨os, hos, hcs⟩
  have seq : ∀ {Q : Value → Shared → Prop}, wpAny (model prog w) A.in1 (Builtin.«tuple.__getitem__» ⟨[.ref t, .ref sl], []⟩) (fun fin s' => ∃ v, fin = .done (.ret v) ∧ Q v s') E s → wpAny (model prog w) A (getItem (.ref t) (.ref sl)) Q E s := fun {Q} run => by
    unfold getItem
    first | with_reducible apply wpAny_holding | skip
    first | refine wpAny_bind (wpAny_pure (wpAny_bind (wpAny_sequenceKey ht.typeIs (by decide) ?_))) | refine wpAny_bind (wpAny_sequenceKey ht.typeIs (by decide) ?_)
    exact wpAny_bind (wpAny_callSpecial?_slot (name := Str.ofString "__getitem__") ht.typeIs PyProof.Rows.slot_tuple_getitem (wpAny_call_entry PyProof.Rows.slot_tuple_getitem ht.typeIs PyProof.Rows.entry_tuple_getitem (wpAny_mono run (fun fin s1 ⟨v, e, q⟩ => ⟨v, e, wpAny_pure q⟩) (fun _ _ x => x)) (PyProof.Rows.args_tuple_getitem _ _)))
  refine seq ?_
  show wpAny _ _ (Builtin.Tuple.tupleItemsOf (.ref t) >>= _) _ _ s
  refine wpAny_bind (PyProof.Rows.tupleItemsOf_ ht ?_)
  refine wpAny_bind (wpAny_typeOf hTs ?_)
  rw [if_pos (by decide)]
  refine wpAny_bind (applied_rev hs ps ?_)
  have hno : ¬ ((((items.size : Int) - 1) == 0 && (-1 : Int) == 1 && items.size == items.size) = true) := by simp
  show wpAny _ _ (if (((items.size : Int) - 1) == 0 && (-1 : Int) == 1 && items.size == items.size) = true then _ else _) _ _ s
  rw [if_neg hno, pick_rev]
  first
    | exact wpAny_bind (m := Builtin.Tuple.tupleExact _) (wpAny_newObj_type (wpAny_pure ⟨_, rfl, h⟩) hrev)
    | exact wpAny_bind (m := Builtin.Tuple.tupleExact _) (wpAny_newObj_type (wpAny_bind (wpAny_pure (wpAny_pure ⟨_, rfl, h⟩))) hrev)
    | exact wpAny_bind (wpAny_bind (m := Builtin.Tuple.tupleExact _) (wpAny_newObj_type (wpAny_pure (wpAny_pure ⟨_, rfl, h⟩)) hrev))
    | exact wpAny_bind (wpAny_bind (m := Builtin.Tuple.tupleExact _) (wpAny_newObj_type (wpAny_pure ⟨_, rfl, h⟩) hrev))
end
/-- t[::-1] -/
def tRevT (K : PySem.W.Frag) (te : TE) : TE := fun σ H Q => te σ H fun x H1 => ∃ a xs, x = .ref a ∧ SqT K H1 a xs ∧ ∀ p, H1 p = none → Q (.ref p) (upd H1 p (.tup xs.reverse))
theorem pe_revT {X : Cx} {e : Expr} {te : TE} {k : Nat} {p1 p2 p3 pos : Pos} (he : PE X e te) : PE X (.Subscript e (.Slice none none (some (.UnaryOp .USub (.Constant (.int 1) k p1) p2)) p3) pos) (tRevT X.K te) := by
  refine ⟨fun pins s σ H Q I h => Subscript_ (thn (he.run pins s σ H _ I h) fun v s1 ⟨x, H1, I1, r1, q1⟩ => ?_)⟩
  obtain ⟨a, xs, ex, hx, q⟩ := q1
  subst ex
  cases r1
  have hst : PO X (some (.UnaryOp .USub (.Constant (.int 1) k p1) p2)) (tPart (tUn (rU fun i => .int (-i)) (tC (.int 1)))) := po_some (pe_un un_neg pe_int)
  refine wpAny_Slice ?_
  rw [evalPart_none]
  refine wpAny_pure ?_
  refine wpAny_pure ?_
  refine thn (hst.run pins s1 σ H1 (fun o H4 => o = some (-1) ∧ H4 = H1) I1 ⟨1, rfl, -1, rfl, rfl, rfl⟩) fun vs s4 ⟨o, H4, I4, ps, eo, e4⟩ => ?_
  subst eo e4
  have I5 : L2.Inv X pins σ H4 { s4 with heap := s4.heap.push { cls := .type "slice", data := .fields #[.none, .none, vs] } } := I4.kept (t' := s4.toks) fun b ob q => Heap.get?_push_of_some _ q
  obtain ⟨its, r, ht, hz⟩ := I5.tuple hx
  have hlen := r.length
  show wpAny (model X.prog X.w) X.A (subscriptTail e (.Slice none none (some (.UnaryOp .USub (.Constant (.int 1) k p1) p2)) p3) (.ref a) (.ref s4.heap.objs.size)) (EP X pins σ Q) X.xe { s4 with heap := s4.heap.push { cls := .type "slice", data := .fields #[.none, .none, vs] } }
  refine tail_any (ops := [.ref a, .ref s4.heap.objs.size]) ht.typeIs PyProof.Rows.slot_tuple_getitem.lookup ?_ (by with_unfolding_all rfl)
  refine getItem_tuple_rev ht (Heap.IsSliceOf.new _ .none .none vs) ps ?_ (by rw [List.size_toArray]; omega)
  refine ⟨.ref _, _, I5.laid (t' := s4.toks) (o := .tup xs.reverse) (fun b ob q => Heap.get?_push_of_some _ q) (Nat.le_refl _) ?_, rfl, q _ (I5.hok.fresh (Nat.le_refl _))⟩
  exact ⟨by rw [List.length_reverse]; exact hz, _, r.reverse, ⟨_, Heap.get?_push_size _ rfl, rfl, _, rfl⟩⟩
/-! ### the kinds of data -/
def tyD : PyData → String
  | .none => "NoneType"
  | .bool _ => "bool"
  | .int _ => "int"
  | .str _ => "str"
  | .list _ => "list"
  | .tuple _ => "tuple"
  | .dict _ => "dict"
theorem Dq.ty {K : PySem.W.Frag} {H : Hp} {m l : Addr} {v : V} {d : PyData} (h : Dq K H m l v d) : TyX K H v (.type (tyD d)) := by
  cases h with
  | non => exact .base .non
  | bl b => exact .base (.bl b)
  | int i => exact .base (.int i)
  | str x => exact .base (.str x)
  | lst e _ _ _ => exact .base (.lst e)
  | dct e _ _ => exact .base (.dK e)
  | tup e _ =>
    rcases e with (e | ⟨o, e⟩) | ⟨o, its, n, e, c, _⟩
    · exact .base (.tup e)
    · exact .fTuple e
    · exact .kTuple e c
theorem isi_str (K : PySem.W.Frag) (d : PyData) : PySem.W.kitOne K (.type (tyD d)) (.type "str") = some (match d with | .str _ => true | _ => false) := by cases d <;> rfl
theorem isi_int (K : PySem.W.Frag) (d : PyData) : PySem.W.kitOne K (.type (tyD d)) (.type "int") = some (match d with | .int _ | .bool _ => true | _ => false) := by cases d <;> rfl
theorem isi_bool (K : PySem.W.Frag) (d : PyData) : PySem.W.kitOne K (.type (tyD d)) (.type "bool") = some (match d with | .bool _ => true | _ => false) := by cases d <;> rfl
theorem isi_tup (K : PySem.W.Frag) (d : PyData) : PySem.W.kitOne K (.type (tyD d)) (.type "tuple") = some (match d with | .tuple _ => true | _ => false) := by cases d <;> rfl
end Ms
namespace Ms
open PySem PySem.Spec PyProof.Rows L2
/-! ### slices and joins of tuples, whole or not -/
theorem Same.seqT {K : PySem.W.Frag} {H H' : Hp} {a : Addr} {xs : List V} (e : Same H H') (h : SqT K H a xs) : SqT K H' a xs := by
  rcases h with (h | ⟨o, h⟩) | h
  · exact .inl (.inl (e _ _ h))
  · exact .inl (.inr ⟨o, e _ _ h⟩)
  · exact .inr h
theorem cutV_whole {xs : List V} {lo hi : Option Int} (h : HT.sIx xs.length 0 lo = 0 ∧ HT.sIx xs.length xs.length hi = xs.length) : cutV xs lo hi = xs := by
  unfold cutV
  rw [h.1, h.2, List.drop_zero, Nat.sub_zero, List.take_length]
theorem slA_any {K : PySem.W.Frag} {H : Hp} {a : Addr} {xs : List V} {lo hi : Option Int} {Q : VK} (h : SqT K H a xs) (q : ∀ (p : Addr) (H' : Hp), Same H H' → SqT K H' p (cutV xs lo hi) → Q (.ref p) H') : rSlA K (.ref a) lo hi H Q :=
  ⟨a, xs, rfl, h, fun w => q a H (fun _ _ e => e) (by rw [cutV_whole w]; exact h), fun _ p hp => q p _ (Same.upd hp) (.inl (.inl upd_same))⟩
theorem catA_any {K : PySem.W.Frag} {H : Hp} {a b : Addr} {xs ys : List V} {Q : VK} (h : SqT K H a xs) (h2 : SqT K H b ys) (hl : xs.length + ys.length ≤ sizeLine) (q : ∀ (p : Addr) (H' : Hp), Same H H' → SqT K H' p (xs ++ ys) → Q (.ref p) H') : rCatA K (.ref a) (.ref b) H Q :=
  ⟨a, b, xs, ys, rfl, rfl, h, h2, hl, fun e => q b H (fun _ _ e => e) (by rw [e]; exact h2), fun _ e => q a H (fun _ _ e => e) (by rw [e, List.append_nil]; exact h), fun _ _ p hp => q p _ (Same.upd hp) (.inl (.inl upd_same))⟩
theorem cut_to {xs : List V} {i : Nat} (h : i ≤ xs.length) : cutV xs none (some (i : Int)) = xs.take i := by
  unfold cutV
  rw [HT.sIx_nat, HT.sIx_none, List.drop_zero, Nat.sub_zero, Nat.min_eq_left h]
theorem cut_from {xs : List V} {i : Nat} (h : i ≤ xs.length) : cutV xs (some (i : Int)) none = xs.drop i := by
  unfold cutV
  rw [HT.sIx_nat, HT.sIx_none, Nat.min_eq_left h]
  exact List.take_of_length_le (by simp)
theorem cut_one {xs : List V} {i : Nat} (h : i < xs.length) : cutV xs (some (i : Int)) (some ((i : Int) + 1)) = (xs.drop i).take 1 := by
  have e : ((i : Int) + 1) = ((i + 1 : Nat) : Int) := by omega
  unfold cutV
  rw [e, HT.sIx_nat, HT.sIx_nat, Nat.min_eq_left (by omega), Nat.min_eq_left (by omega)]
  have : i + 1 - i = 1 := by omega
  rw [this]
theorem cut_from1 {xs : List V} {i : Nat} (h : i < xs.length) : cutV xs (some ((i : Int) + 1)) none = xs.drop (i + 1) := by
  have e : ((i : Int) + 1) = ((i + 1 : Nat) : Int) := by omega
  rw [e]; exact cut_from h
/-! ### lists of data -/
section
variable {K : PySem.W.Frag} {H : Hp} {m l : Addr}
theorem DqAll.app {vs ws : List V} : ∀ {ds es : List PyData}, DqAll K H m l vs ds → DqAll K H m l ws es → DqAll K H m l (vs ++ ws) (ds ++ es) := by
  intro ds
  induction ds generalizing vs with
  | nil => intro es h1 h2; cases h1; exact h2
  | cons d ds ih => intro es h1 h2; cases h1 with | cons a b => exact .cons a (ih b h2)
theorem DqAll.len {vs : List V} : ∀ {ds : List PyData}, DqAll K H m l vs ds → vs.length = ds.length := by
  intro ds
  induction ds generalizing vs with
  | nil => intro h; cases h; rfl
  | cons d ds ih => intro h; cases h with | cons a b => simp [ih b]
theorem DqAll.drop {vs : List V} : ∀ {ds : List PyData} (i : Nat), DqAll K H m l vs ds → DqAll K H m l (vs.drop i) (ds.drop i) := by
  intro ds
  induction ds generalizing vs with
  | nil => intro i h; cases h; simp; exact .nil
  | cons d ds ih =>
    intro i h
    cases h with
    | cons a b =>
      cases i with
      | zero => exact .cons a b
      | succ i => simpa using ih i b
theorem DqAll.take {vs : List V} : ∀ {ds : List PyData} (i : Nat), DqAll K H m l vs ds → DqAll K H m l (vs.take i) (ds.take i) := by
  intro ds
  induction ds generalizing vs with
  | nil => intro i h; cases h; simp; exact .nil
  | cons d ds ih =>
    intro i h
    cases h with
    | cons a b =>
      cases i with
      | zero => simp; exact .nil
      | succ i => simpa using DqAll.cons a (ih i b)
theorem DqAll.rev {vs : List V} : ∀ {ds : List PyData}, DqAll K H m l vs ds → DqAll K H m l vs.reverse ds.reverse := by
  intro ds
  induction ds generalizing vs with
  | nil => intro h; cases h; exact .nil
  | cons d ds ih => intro h; cases h with | cons a b => rw [List.reverse_cons, List.reverse_cons]; exact (ih b).app (.cons a .nil)
end
theorem wA_app : ∀ (xs ys : List PyData), PyData.weightAll (xs ++ ys) = PyData.weightAll xs + PyData.weightAll ys
  | [], ys => by simp [PyData.weightAll]
  | x :: xs, ys => by simp only [List.cons_append, PyData.weightAll, wA_app xs ys]; omega
theorem wA_rev : ∀ (xs : List PyData), PyData.weightAll xs.reverse = PyData.weightAll xs
  | [] => rfl
  | x :: xs => by rw [List.reverse_cons, wA_app, wA_rev xs]; simp only [PyData.weightAll]; omega
theorem wA_split (xs : List PyData) (i : Nat) : PyData.weightAll (xs.take i) + PyData.weightAll (xs.drop i) = PyData.weightAll xs := by
  rw [← wA_app, List.take_append_drop]
theorem wA_len : ∀ (xs : List PyData), xs.length ≤ PyData.weightAll xs
  | [] => Nat.le_refl _
  | x :: xs => by simp only [List.length_cons, PyData.weightAll]; have := wA_len xs; omega
theorem dA_iff {c : Nat} : ∀ {xs : List PyData}, PyData.depthAll xs ≤ c ↔ ∀ x ∈ xs, x.depth ≤ c
  | [] => by simp [PyData.depthAll]
  | x :: xs => by simp only [PyData.depthAll, List.mem_cons, forall_eq_or_imp]; rw [Nat.max_le, dA_iff (xs := xs)]
/-- a list of good data -/
structure Gl' (B w c : Nat) (ds : List PyData) : Prop where
  ok : ∀ d ∈ ds, okD B d = true
  wt : PyData.weightAll ds ≤ w
  dp : ∀ d ∈ ds, d.depth ≤ c
theorem Gd.tup {B a b : Nat} {ds : List PyData} (g : Gl' B a b ds) : Gd B a (b + 1) (.tuple ds) :=
  ⟨by simp only [okD]; exact okAll_iff.mpr g.ok, by simp only [PyData.weight]; exact g.wt, by simp only [PyData.depth]; exact Nat.succ_le_succ (dA_iff.mpr g.dp)⟩
theorem Gd.lst {B a b : Nat} {ds : List PyData} (g : Gl' B a b ds) : Gd B a (b + 1) (.list ds) :=
  ⟨by simp only [okD]; exact okAll_iff.mpr g.ok, by simp only [PyData.weight]; exact g.wt, by simp only [PyData.depth]; exact Nat.succ_le_succ (dA_iff.mpr g.dp)⟩
theorem Gd.untup {B a b : Nat} {ds : List PyData} (g : Gd B a b (.tuple ds)) : ∃ c, b = c + 1 ∧ Gl' B a c ds := by
  obtain ⟨h1, h2, h3⟩ := g
  simp only [okD] at h1
  simp only [PyData.weight] at h2
  simp only [PyData.depth] at h3
  obtain ⟨c, rfl⟩ : ∃ c, b = c + 1 := ⟨b - 1, by omega⟩
  exact ⟨c, rfl, okAll_iff.mp h1, h2, dA_iff.mp (by omega)⟩
section
variable {B a c : Nat} {ds es : List PyData}
theorem Gl'.mono {B' a' c' : Nat} (g : Gl' B a c ds) (h1 : B ≤ B') (h2 : a ≤ a') (h3 : c ≤ c') : Gl' B' a' c' ds :=
  ⟨fun d h => okD_mono h1 d (g.ok d h), Nat.le_trans g.wt h2, fun d h => Nat.le_trans (g.dp d h) h3⟩
theorem Gl'.app {a2 : Nat} (g : Gl' B a c ds) (h : Gl' B a2 c es) : Gl' B (a + a2) c (ds ++ es) :=
  ⟨fun d q => (List.mem_append.mp q).elim (g.ok d) (h.ok d), by rw [wA_app]; have := g.wt; have := h.wt; omega, fun d q => (List.mem_append.mp q).elim (g.dp d) (h.dp d)⟩
theorem Gl'.tk (g : Gl' B a c ds) (i : Nat) : Gl' B (PyData.weightAll (ds.take i)) c (ds.take i) := ⟨fun d q => g.ok d (List.mem_of_mem_take q), Nat.le_refl _, fun d q => g.dp d (List.mem_of_mem_take q)⟩
theorem Gl'.dr (g : Gl' B a c ds) (i : Nat) : Gl' B (PyData.weightAll (ds.drop i)) c (ds.drop i) := ⟨fun d q => g.ok d (List.mem_of_mem_drop q), Nat.le_refl _, fun d q => g.dp d (List.mem_of_mem_drop q)⟩
theorem Gl'.rv (g : Gl' B a c ds) : Gl' B a c ds.reverse := ⟨fun d q => g.ok d (List.mem_reverse.mp q), by rw [wA_rev]; exact g.wt, fun d q => g.dp d (List.mem_reverse.mp q)⟩
theorem Gl'.one {d : PyData} {w : Nat} (g : Gd B w c d) : Gl' B (w + 1) c [d] :=
  ⟨fun x h => by rw [List.mem_singleton.mp h]; exact g.ok, by simp only [PyData.weightAll]; have := g.wt; omega, fun x h => by rw [List.mem_singleton.mp h]; exact g.dp⟩
theorem Gl'.at (g : Gl' B a c ds) {i : Nat} {d : PyData} (h : ds[i]? = some d) : Gd B d.weight c d := ⟨g.ok d (List.mem_of_getElem? h), Nat.le_refl _, g.dp d (List.mem_of_getElem? h)⟩
theorem wA_at {i : Nat} {d : PyData} (h : ds[i]? = some d) : PyData.weightAll (ds.take i) + (d.weight + 1) + PyData.weightAll (ds.drop (i + 1)) = PyData.weightAll ds := by
  have hi : i < ds.length := (List.getElem?_eq_some_iff.mp h).1
  have e : ds[i] = d := (List.getElem?_eq_some_iff.mp h).2
  rw [← wA_split ds i, List.drop_eq_getElem_cons hi, e]
  simp only [PyData.weightAll]
  omega
end
/-! ### texts and numbers -/
theorem Gd.str {B a : Nat} {z : Str} (h : sOk a z) : Gd B a 0 (.str z) := ⟨h.okd, by simp only [PyData.weight]; exact h.1, Nat.le_refl _⟩
theorem Gd.unstr {B a b : Nat} {z : Str} (g : Gd B a b (.str z)) : sOk a z := by
  obtain ⟨h1, h2, _⟩ := g
  simp only [okD, List.all_eq_true, decide_eq_true_eq] at h1
  simp only [PyData.weight] at h2
  exact ⟨h2, h1⟩
theorem mul2 (z : Str) : sOk (2 * z.length) (Txt.mul z 2) ∨ ¬ sOk z.length z := by
  by_cases h : sOk z.length z
  · refine .inl ?_
    unfold Txt.mul
    rw [if_neg (by decide)]
    by_cases e : ((2 : Int) == 1 || z.length == 0) = true
    · rw [if_pos e]; exact h.mono (by omega)
    · rw [if_neg e]
      have q : ((List.replicate (2 : Int).toNat z.cps).foldl (· ++ ·) #[] : Array Nat) = z.cps ++ z.cps := by
        show (#[] ++ z.cps) ++ z.cps = _
        rw [Array.empty_append]
      rw [q]
      have := h.app h
      refine this.mono (by omega)
  · exact .inr h
theorem mul2_ok {a : Nat} {z : Str} (h : sOk a z) : sOk (2 * a) (Txt.mul z 2) := by
  rcases mul2 z with q | q
  · exact q.mono (by have := h.1; omega)
  · exact absurd ⟨Nat.le_refl _, h.2⟩ q
theorem wt_int {i : Int} (h : i.natAbs ≤ 10 ^ 31) : PyData.weight (.int i) ≤ 104 := by
  simp only [PyData.weight]
  split
  · decide
  · rename_i z
    have h1 : i.natAbs < 2 ^ 103 := by
      have e : (10 : Nat) ^ 31 < 2 ^ 103 := by decide
      omega
    have nz : i.natAbs ≠ 0 := by
      intro e
      exact z (by simp; omega)
    have := (Nat.log2_lt nz).mpr h1
    omega
theorem Gd.int {B : Nat} {i : Int} (h : i.natAbs ≤ B) (hB : B ≤ 10 ^ 31) : Gd B 104 0 (.int i) :=
  ⟨by simp only [okD, decide_eq_true_eq]; exact h, wt_int (by omega), Nat.le_refl _⟩
theorem Gd.unint {B a b : Nat} {i : Int} (g : Gd B a b (.int i)) : i.natAbs ≤ B := by
  have := g.ok
  simpa only [okD, decide_eq_true_eq] using this
theorem ite_b {c : Bool} {A B : Prop} (h1 : c = true → A) (h2 : c = false → B) : if c = true then A else B := by
  cases c
  · rw [if_neg Bool.false_ne_true]; exact h2 rfl
  · rw [if_pos rfl]; exact h1 rfl
theorem noPart {σ : L2.St} {H : Hp} {Q : Option Int → Hp → Prop} (h : Q none H) : tNoPart σ H Q := h
end Ms
namespace Ms
open PySem PySem.Spec PyProof.Rows L2
def isWhole (d : PyData) (lo hi : Int) : Bool := match d with | .int i => decide (lo ≤ i) && decide (i ≤ hi) | _ => false
def isName (d : PyData) : Bool := match d with | .str z => (decide (1 ≤ z.length) && decide (z.length ≤ 8)) && z.cps.toList.all fun c => decide (c ∈ alpha.cps.toList) | _ => false
theorem lay_strs : ∀ ys : List Str, (∀ y ∈ ys, PyData.canLay0 (.str y) = true) → PyData.canLayAll0 (ys.map PyData.str) = true
  | [], _ => rfl
  | y :: ys, h => by
    show (PyData.canLay0 (.str y) && PyData.canLayAll0 (ys.map PyData.str)) = true
    rw [lay_strs ys (fun x hx => h x (List.mem_cons_of_mem _ hx)), h y (List.mem_cons_self ..)]; rfl
theorem depth_strs : ∀ ys : List Str, PyData.depthAll (ys.map PyData.str) = 0
  | [] => rfl
  | y :: ys => by
    show max (PyData.depth (.str y)) (PyData.depthAll (ys.map PyData.str)) = 0
    rw [depth_strs ys]; rfl
theorem shaped_strs (ys : List Str) (h : ∀ y ∈ ys, PyData.canLay0 (.str y) = true) : SeqAt.shaped (.list (ys.map PyData.str)) = true := by
  show (PyData.canLayAll0 (ys.map PyData.str) && decide (PyData.depthAll (ys.map PyData.str) + 1 ≤ 64)) = true
  rw [lay_strs ys h, depth_strs]; rfl
theorem dpAll_strs {K : PySem.W.Frag} {H : Hp} : ∀ ys : List Str, DpAll K H (ys.map V.str) (ys.map PyData.str)
  | [] => .nil
  | y :: ys => .cons (.str y) (dpAll_strs ys)
structure TxtQ (mg : Str → Option Value) : Prop where
  isi : mg "isinstance" = none
  int : mg "int" = none
  bool : mg "bool" = none
  str : mg "str" = none
  len : mg "len" = none
def spWhole (K : PySem.W.Frag) : Sp := fun vs H Q _ => ∃ (m l : Addr) (v : V) (d : PyData) (lo hi : Int), vs = [v, .int lo, .int hi] ∧ Dq K H m l v d ∧ Q (.bl (isWhole d lo hi)) H
def spName (K : PySem.W.Frag) : Sp := fun vs H Q _ => ∃ (m l : Addr) (v : V) (d : PyData), vs = [v] ∧ Dq K H m l v d ∧ (∀ z, d = .str z → sOk 100000 z) ∧ ∀ H', Same H H' → Q (.bl (isName d)) H'
end Ms
namespace Ms
open PySem PySem.Spec PyProof.Rows L2
/-! ### enumerate(tuple) over KE's draws -/
def ItET (K : PySem.W.Frag) (a : Addr) : It :=
  ⟨fun i H => ∃ xs : List V, SqT K H a xs ∧ i < xs.length,
    fun i H v H' => ∃ T x, v = .ref T ∧ H T = none ∧ H' = upd H T (.tup [.int (i : Nat), x]) ∧ ∀ xs, SqT K H a xs → xs[i]? = some x,
    fun i H => ∃ xs : List V, SqT K H a xs ∧ i = xs.length⟩
theorem walk_et {K : PySem.W.Frag} {a : Addr} {xs : List V} : Walk (ItET K a) xs.length (fun H => SqT K H a xs) (YPair (fun i => some (.int (i : Nat))) (fun i => xs[i]?)) := by
  refine ⟨fun i _ hi q => ⟨xs, q, hi⟩, fun _ q => ⟨xs, q, rfl⟩, fun i H v H' _ q y => ?_⟩
  obtain ⟨T, x, h1, h2, h3, h4⟩ := y
  exact ⟨T, .int (i : Nat), x, h1, h2, h3, rfl, h4 xs q⟩
abbrev EtSt (a e it : Addr) : Nat → Heap → Prop := fun i h => (∃ old, IsEnum h e it ((0 : Int) + (i : Int)) old) ∧ h.IsTupleIter it a i
theorem turn_et {P : Program} {w : World} {K : PySem.W.Frag} {elts : List Expr} {kk : Nat} {tpos : Pos} {a e it : Addr} (na : a ≠ it) (ne : e ≠ it) (nea : e ≠ a) :
    Turn P w K (.Tuple elts kk tpos) (ItET K a) [e, it] e (EtSt a e it) where
  mem := by simp
  obj := fun i h st b hb => by
    obtain ⟨⟨old, he⟩, ⟨o, ho, hc, hd⟩⟩ := st
    have e' : b = e ∨ b = it := by simpa using hb
    rcases e' with rfl | rfl
    · exact ⟨_, he, fun v q => nomatch q⟩
    · exact ⟨o, ho, fun v q => by rw [hd] at q; cases q⟩
  keep := fun i h h' st k => by
    obtain ⟨⟨old, he⟩, hi⟩ := st
    exact ⟨⟨old, k e (by simp) _ he⟩, hi.at fun o q => k it (by simp) o q⟩
  item := by
    intro X hP hw hK hc i pins s σ H E I hf st hg
    subst hP hw hK
    obtain ⟨xs, hq, hi⟩ := hg
    obtain ⟨its, rv, p, _⟩ := I.tuple hq
    have l1 := rv.length
    have hh : X.A.in1.handled = none := I.ok.hd hc
    have W := GoesN.enumFrom (elts := elts) (x1 := kk) (pos := tpos) 0 (Draws.tuple (prog := X.prog) (w := X.w) hh it a na its.toArray) e ne (by simp [ne, nea]) (by simp)
    have lv : ∀ c ∈ [e, it], c < s.heap.objs.size := fun c hc => by
      obtain ⟨⟨old, he⟩, ⟨o, ho, _⟩⟩ := st
      have e' : c = e ∨ c = it := by simpa using hc
      rcases e' with rfl | rfl
      · exact Heap.lt_size he
      · exact Heap.lt_size ho
    refine W.goes i s (fun u s2 => ∃ x H', L2.Inv X pins σ H' s2 ∧ RelV x u ∧ (ItET X.K a).yld i H x H' ∧ EtSt a e it (i + 1) s2.heap ∧ ∀ b ∈ [e, it], H' b = none) E (by simp; omega) ⟨st.1, st.2, p⟩ fun v h' tk Y st' hk htk => ?_
    obtain ⟨T, t, x, rfl, hT, hx, hI⟩ := Y
    have hxx : xs[i]? = some xs[i] := List.getElem?_eq_getElem hi
    obtain ⟨u, hu, ru⟩ := rv.get hxx
    have ex : x = u := by simp [hu] at hx; exact hx.symm
    subst ex
    have new : ObjOk X.prog X.w (upd H T (.tup [.int (i : Nat), xs[i]])) h' T (.tup [.int (i : Nat), xs[i]]) :=
      ⟨(by show 2 ≤ sizeLine; decide), [.int (0 + (i : Int)) t, x], .cons ⟨t, by rw [Int.zero_add]⟩ (.cons ru .nil), hI⟩
    have I1 : L2.Inv X pins σ (upd H T (.tup [.int (i : Nat), xs[i]])) { s with heap := h', toks := tk } := I.turnedNew (t' := tk) (ch := [e, it]) hk hf hT new
    refine ⟨.ref T, _, I1, rfl, ⟨T, xs[i], rfl, I.hok.fresh hT, rfl, fun ys hy => by rw [I.tuple_inj hy hq]; exact hxx⟩, ⟨st'.1, st'.2.1⟩, fun b hb => ?_⟩
    rw [upd_ne (Nat.ne_of_lt (Nat.lt_of_lt_of_le (lv b hb) hT))]
    exact (hf b hb).1
  done := by
    intro X hP hw hK hc i pins s σ H E I hf st hg
    subst hP hw hK
    obtain ⟨xs, hq, hi⟩ := hg
    obtain ⟨its, rv, p, _⟩ := I.tuple hq
    have l1 := rv.length
    have hh : X.A.in1.handled = none := I.ok.hd hc
    have W := GoesN.enumFrom (elts := elts) (x1 := kk) (pos := tpos) 0 (Draws.tuple (prog := X.prog) (w := X.w) hh it a na its.toArray) e ne (by simp [ne, nea]) (by simp)
    have ei : i = its.toArray.size := by simp; omega
    rw [ei] at st
    exact W.stops s (fun s1 => L2.Inv X pins σ H s1) E ⟨st.1, st.2, p⟩ fun h' tk hk htk => I.turnedL (t' := tk) (ch := [e, it]) hk hf
  self := fun A i s Q E st h => let ⟨⟨_, he⟩, _⟩ := st; wpAny_pyIter_enum he h
def iET (K : PySem.W.Frag) (ta : TA) : TI := fun σ H R => ta σ H fun vs H1 => ∃ a xs, vs = [.ref a] ∧ SqT K H1 a xs ∧ R (ItET K a) H1
set_option maxHeartbeats 1000000 in
/-- enumerate(v), v told by how its iterator begins -/
theorem meets_en1 {v : Value} {o : Obj} {HP : Heap → Prop} (B : Begins v o HP) :
    Meets (Builtin.«enumerate.__new__» ⟨[.type "enumerate", v], []⟩) (fun _ R s => HP s.heap ∧
      R (.ok (.ret (.ref (s.heap.push o).objs.size))) { s with heap := (s.heap.push o).push { cls := .type "enumerate", data := .fields #[.none, .bool false, .ref s.heap.objs.size, rawInt 0, .none, .none] } }) :=
  .of_wp fun prog w A R s h => by
    obtain ⟨hp, g, d, tk, os⟩ := s
    obtain ⟨h1, h⟩ := h
    have hsub := sub_enumerate
    have begins : ∀ {A' : Around} {E : Value → Shared → Prop} {Q : Value → Shared → Prop}, Q (.ref hp.objs.size) ⟨hp.push o, g, d, tk, os⟩ → wpAny (model prog w) A' (pyIter v) Q E ⟨hp, g, d, tk, os⟩ :=
      fun q => B.iter prog w _ _ ⟨hp, g, d, tk, os⟩ _ h1 q
    wp_walk using begins
    refine wpAny_stack_any fun st => wpAny_pure ?_
    split
    · rename_i c _ _ _ _ _
      cases (c == Value.type "enumerate") <;> (wp_walk using begins; exact ⟨_, rfl, h⟩)
    · wp_walk using begins
      exact ⟨_, rfl, h⟩
theorem pi_et {X : Cx} {e : Expr} {ta : TA} {p pos tpos : Pos} {elts : List Expr} {kk : Nat} (hg : Gl X "enumerate") (hm : X.mg "enumerate" = none) (ha : PA X [e] ta) (hs : starEach [e] X.env = [(false, eval e X.env)] := by rfl) :
    PI X (.Tuple elts kk tpos) (.Call (.Name "enumerate" p) [e] [] pos) (iET X.K ta) := by
  refine ⟨fun pins s σ H R I h => Call_ (ld_blt I hg hm boot_enumerate (PyProof.Rows.callWith_type1 (thn (ha.run pos pins s σ H _ I h) fun us s1 ⟨vs, H1, I1, r1, q1⟩ => ?_) hs rfl))⟩
  obtain ⟨a, xs, ex, hq, q⟩ := q1
  subst ex
  obtain ⟨u, rfl, ru⟩ := vals1 r1
  cases ru
  obtain ⟨its, rv, p1, _⟩ := I1.tuple hq
  obtain ⟨oa, hoa, _⟩ := id p1
  have la : a < s1.heap.objs.size := Heap.lt_size hoa
  refine callType_new F.called_enumerate (by decide) (F.typeCall_enumerate_1 _) (F.newCall_enumerate_1 _) (fun obj => F.args_object_init_2 obj _) F.entry_enumerate_new (meets_en1 (begins_tuple a its.toArray)) ⟨p1, ?_⟩
  obtain ⟨oi, hoi⟩ : ∃ oi : Obj, oi = { cls := .type "tuple_iterator", data := .fields #[.ref a, .int 0 0] } := ⟨_, rfl⟩
  obtain ⟨oe, hoe⟩ : ∃ oe : Obj, oe = { cls := .type "enumerate", data := .fields #[.none, .bool false, .ref s1.heap.objs.size, rawInt 0, .none, .none] } := ⟨_, rfl⟩
  rw [← hoi, ← hoe]
  have hz : (s1.heap.push oi).objs.size = s1.heap.objs.size + 1 := Heap.size_push ..
  have ge : ((s1.heap.push oi).push oe).get? (s1.heap.objs.size + 1) = some oe := by
    have := Heap.get?_push_size (s1.heap.push oi) (o := oe) (by rw [hoe]; rfl)
    rw [hz] at this; exact this
  have gi : ((s1.heap.push oi).push oe).get? s1.heap.objs.size = some oi := Heap.get?_push_of_some _ (Heap.get?_push_size _ (by rw [hoi]; rfl))
  have hk : ∀ b o, s1.heap.get? b = some o → ((s1.heap.push oi).push oe).get? b = some o := fun b o x => Heap.get?_push_of_some _ (Heap.get?_push_of_some _ x)
  show _ ∧ _
  rw [hz]
  have he : IsEnum ((s1.heap.push oi).push oe) (s1.heap.objs.size + 1) s1.heap.objs.size 0 .none := ge.trans (by rw [hoe])
  refine ⟨⟨_, ge, by rw [hoe]⟩, wpAny_pyIter_enum he ?_⟩
  have I2 : L2.Inv X pins σ H1 { s1 with heap := (s1.heap.push oi).push oe } := I1.kept (t' := s1.toks) hk
  have n1 : s1.heap.objs.size + 1 ≠ s1.heap.objs.size := Nat.succ_ne_self _
  have n2 : s1.heap.objs.size + 1 ≠ a := Nat.ne_of_gt (Nat.lt_succ_of_lt la)
  refine ⟨s1.heap.objs.size + 1, [s1.heap.objs.size + 1, s1.heap.objs.size], EtSt a (s1.heap.objs.size + 1) s1.heap.objs.size, ItET X.K a, H1, rfl, I2, turn_et (Nat.ne_of_lt la) n1 n2, ⟨⟨.none, he⟩, ⟨oi, gi, by rw [hoi], by rw [hoi]; rfl⟩⟩, fun c hc => ?_, q⟩
  have e' : c = s1.heap.objs.size + 1 ∨ c = s1.heap.objs.size := by simpa using hc
  have hle : s1.heap.objs.size ≤ c := by
    rcases e' with e | e
    · rw [e]; exact Nat.le_succ _
    · rw [e]; exact Nat.le_refl _
  exact I1.fpOk hle (I1.hok.fresh hle)
end Ms
namespace Ms
open PySem PySem.Spec PyProof.Rows L2
/-! ### _law_due -/
/-- a good pair -/
def oneD : PyData → Option (Str × Int)
  | .tuple [.str z, .int c] => if (isName (.str z) && isWhole (.int c) 1 3) = true then some (z, c) else none
  | _ => none
def dueGo : Nat → List Str → Int → List PyData → Sum Nat Int
  | _, _, many, [] => .inr many
  | p, seen, many, d :: ds => match oneD d with
    | none => .inl p
    | some (z, c) => if z ∈ seen then .inl p else dueGo (p + 1) (seen ++ [z]) (many * (c + 1)) ds
def bad (d : PyData) : PyData := .tuple [.str "settings", d]
def dueD (d : PyData) : PyData := match d with
  | .tuple ds => if 1 ≤ ds.length ∧ ds.length ≤ 3 then (match dueGo 0 [] 1 ds with | .inl p => bad (.int p) | .inr many => if many ≤ 12 then .list [d] else bad (.str "many")) else bad .none
  | _ => bad .none
theorem oneD_name {d0 d1 : PyData} (h : isName d0 = false) : oneD (.tuple [d0, d1]) = none := by
  cases d0 <;> cases d1 <;> first | rfl | (simp only [oneD]; rw [h]; rfl)
theorem oneD_whole {d0 d1 : PyData} (h : isWhole d1 1 3 = false) : oneD (.tuple [d0, d1]) = none := by
  cases d0 <;> cases d1 <;> first | rfl | (simp only [oneD]; rw [h, Bool.and_false]; rfl)
theorem oneD_len {es : List PyData} (h : es.length ≠ 2) : oneD (.tuple es) = none := by
  match es, h with
  | [], _ => rfl
  | [x], _ => cases x <;> rfl
  | [_, _], h => exact absurd rfl h
  | x :: y :: z :: r, _ => cases x <;> cases y <;> rfl
theorem oneD_ok {d0 d1 : PyData} (h : isName d0 = true) (h1 : isWhole d1 1 3 = true) : ∃ z c, d0 = .str z ∧ d1 = .int c ∧ 1 ≤ c ∧ c ≤ 3 ∧ oneD (.tuple [d0, d1]) = some (z, c) := by
  cases d0 with
  | str z =>
    cases d1 with
    | int c =>
      refine ⟨z, c, rfl, rfl, ?_, ?_, by simp only [oneD]; rw [h, h1]; rfl⟩
      · have := (Bool.and_eq_true _ _ ▸ h1 : _ ∧ _).1
        exact of_decide_eq_true this
      · have := (Bool.and_eq_true _ _ ▸ h1 : _ ∧ _).2
        exact of_decide_eq_true this
    | _ => exact absurd h1 (by simp [isWhole])
  | _ => exact absurd h (by simp [isName])
theorem inV_str (z : Str) (ys : List Str) : inV (.str z) (ys.map V.str) = decide (z ∈ ys) := by
  unfold inV
  rw [List.any_map]
  rw [Bool.eq_iff_iff]
  simp only [List.any_eq_true, Function.comp, eqV, beq_iff_eq, decide_eq_true_eq]
  constructor
  · rintro ⟨y, hy, rfl⟩; exact hy
  · intro h; exact ⟨z, h, rfl⟩
end Ms
namespace Ms
open PySem PySem.Spec PyProof.Rows L2
/-! ### data keeps while the heap grows -/
mutual
theorem Dq.same {K : PySem.W.Frag} {m l : Addr} {H H' : Hp} (k : Same H H') : ∀ (d : PyData) (v : V), Dq K H m l v d → Dq K H' m l v d
  | .none, _, h => by cases h; exact .non
  | .bool b, _, h => by cases h; exact .bl b
  | .int i, _, h => by cases h; exact .int i
  | .str x, _, h => by cases h; exact .str x
  | .list ds, _, h => by
    cases h with
    | lst e n1 n2 t => exact .lst (k _ _ e) n1 n2 (DqAll.same k ds _ t)
  | .tuple ds, _, h => by
    cases h with
    | tup e t => exact .tup (Same.seqT k e) (DqAll.same k ds _ t)
  | .dict _, _, h => by
    cases h with
    | dct e n1 n2 => exact .dct (k _ _ e) n1 n2
theorem DqAll.same {K : PySem.W.Frag} {m l : Addr} {H H' : Hp} (k : Same H H') : ∀ (ds : List PyData) (vs : List V), DqAll K H m l vs ds → DqAll K H' m l vs ds
  | [], _, h => by cases h; exact .nil
  | d :: ds, _, h => by
    cases h with
    | cons h1 h2 => exact .cons (Dq.same k d _ h1) (DqAll.same k ds _ h2)
end
/-! ### comprehensions of two clauses -/
theorem lc2_it {J : It} {n : Nat} {G : Hp → Prop} {Y : Nat → Hp → V → Hp → Prop} (w : Walk J n G Y) {g : TG} {tt : TT} {wi1 : TI} {g1 : TG} {tt1 : TT} {te : TE} {vs vs1 : List Nat} {σ : L2.St} {H1 : Hp} {D : Addr} {Qd : Hp → Prop} (Pv : Nat → Hp → Prop)
    (h0 : Pv 0 (upd H1 D (.lst []))) (hG : ∀ i H, i ≤ n → Pv i H → G H)
    (hs : ∀ i x H H', i < n → Pv i H → Y i H x H' → g x (wipe σ vs) H' fun σ2 H2 => wipe σ2 vs = wipe σ vs ∧ tt σ2 H2 fun b H3 =>
      if b = true then wi1 σ2 H3 fun J1 H4 => ∃ W1 : Nat → Nat → Hp → Prop, (∃ m, W1 0 m H4) ∧ ∀ j k H, W1 j k H →
        (J1.stop j H ∧ Pv (i + 1) H) ∨ (J1.go j H ∧ ∃ Nx1 : Hp → Prop, (∀ H', Nx1 H' → ∃ k', k' < k ∧ W1 (j + 1) k' H') ∧ ∀ x H', J1.yld j H x H' → g1 x (wipe σ2 vs1) H' fun σ3 H5 => wipe σ3 vs1 = wipe σ2 vs1 ∧ tt1 σ3 H5 fun b H6 =>
          if b = true then te σ3 H6 fun y H7 => ∃ acc, H7 D = some (.lst acc) ∧ acc.length < sizeLine ∧ Nx1 (upd H7 D (.lst (acc ++ [y]))) else Nx1 H6)
      else Pv (i + 1) H3) (hd : ∀ H, Pv n H → Qd H) :
    ∃ W : Nat → Nat → Hp → Prop, (∃ m, W 0 m (upd H1 D (.lst []))) ∧ ∀ i m H, W i m H →
      (J.stop i H ∧ Qd H) ∨ (J.go i H ∧ ∃ Nx : Hp → Prop, (∀ H', Nx H' → ∃ m', m' < m ∧ W (i + 1) m' H') ∧ ∀ x H', J.yld i H x H' → g x (wipe σ vs) H' fun σ2 H2 => wipe σ2 vs = wipe σ vs ∧ tt σ2 H2 fun b H3 =>
        if b = true then wi1 σ2 H3 fun J1 H4 => ∃ W1 : Nat → Nat → Hp → Prop, (∃ m, W1 0 m H4) ∧ ∀ j k H, W1 j k H →
          (J1.stop j H ∧ Nx H) ∨ (J1.go j H ∧ ∃ Nx1 : Hp → Prop, (∀ H', Nx1 H' → ∃ k', k' < k ∧ W1 (j + 1) k' H') ∧ ∀ x H', J1.yld j H x H' → g1 x (wipe σ2 vs1) H' fun σ3 H5 => wipe σ3 vs1 = wipe σ2 vs1 ∧ tt1 σ3 H5 fun b H6 =>
            if b = true then te σ3 H6 fun y H7 => ∃ acc, H7 D = some (.lst acc) ∧ acc.length < sizeLine ∧ Nx1 (upd H7 D (.lst (acc ++ [y]))) else Nx1 H6)
        else Nx H3) := by
  refine ⟨fun i m H => i + m = n ∧ Pv i H, ⟨n, by omega, h0⟩, ?_⟩
  rintro i m H ⟨e, p⟩
  have q := hG i H (by omega) p
  by_cases hi : i < n
  · exact .inr ⟨w.goes i H hi q, Pv (i + 1), fun H' p' => ⟨n - (i + 1), by omega, by omega, p'⟩, fun x H' y => hs i x H H' hi p (w.yields i H x H' hi q y)⟩
  · have z : i = n := by omega
    subst z
    exact .inl ⟨w.stops H q, hd H p⟩
/-- the inner clause's walk -/
theorem lc_in {J : It} {n : Nat} {G : Hp → Prop} {Y : Nat → Hp → V → Hp → Prop} (w : Walk J n G Y) {g : TG} {tt : TT} {te : TE} {vs : List Nat} {σ : L2.St} {H4 : Hp} {D : Addr} {Qd : Hp → Prop} (Pv : Nat → Hp → Prop)
    (h0 : Pv 0 H4) (hG : ∀ i H, i ≤ n → Pv i H → G H)
    (hs : ∀ i x H H', i < n → Pv i H → Y i H x H' → g x (wipe σ vs) H' fun σ2 H2 => wipe σ2 vs = wipe σ vs ∧ tt σ2 H2 fun b H3 =>
      if b = true then te σ2 H3 fun y H4 => ∃ acc, H4 D = some (.lst acc) ∧ acc.length < sizeLine ∧ Pv (i + 1) (upd H4 D (.lst (acc ++ [y]))) else Pv (i + 1) H3) (hd : ∀ H, Pv n H → Qd H) :
    ∃ W : Nat → Nat → Hp → Prop, (∃ m, W 0 m H4) ∧ ∀ i m H, W i m H →
      (J.stop i H ∧ Qd H) ∨ (J.go i H ∧ ∃ Nx : Hp → Prop, (∀ H', Nx H' → ∃ m', m' < m ∧ W (i + 1) m' H') ∧ ∀ x H', J.yld i H x H' → g x (wipe σ vs) H' fun σ2 H2 => wipe σ2 vs = wipe σ vs ∧ tt σ2 H2 fun b H3 =>
        if b = true then te σ2 H3 fun y H4 => ∃ acc, H4 D = some (.lst acc) ∧ acc.length < sizeLine ∧ Nx (upd H4 D (.lst (acc ++ [y]))) else Nx H3) := by
  refine ⟨fun i m H => i + m = n ∧ Pv i H, ⟨n, by omega, h0⟩, ?_⟩
  rintro i m H ⟨e, p⟩
  have q := hG i H (by omega) p
  by_cases hi : i < n
  · exact .inr ⟨w.goes i H hi q, Pv (i + 1), fun H' p' => ⟨n - (i + 1), by omega, by omega, p'⟩, fun x H' y => hs i x H H' hi p (w.yields i H x H' hi q y)⟩
  · have z : i = n := by omega
    subst z
    exact .inl ⟨w.stops H q, hd H p⟩
/-! ### pairs of a text and an int, wherever they stand -/
def PrT (K : PySem.W.Frag) (H : Hp) (v : V) (q : Str × Int) : Prop := ∃ a, v = .ref a ∧ SqT K H a [.str q.1, .int q.2]
inductive PrTs (K : PySem.W.Frag) (H : Hp) : List V → List (Str × Int) → Prop
  | nil : PrTs K H [] []
  | cons {v : V} {vs : List V} {q : Str × Int} {qs : List (Str × Int)} : PrT K H v q → PrTs K H vs qs → PrTs K H (v :: vs) (q :: qs)
section
variable {K : PySem.W.Frag} {H H' : Hp}
theorem PrTs.same (s : Same H H') {vs : List V} {qs : List (Str × Int)} (p : PrTs K H vs qs) : PrTs K H' vs qs := by
  induction p with
  | nil => exact .nil
  | cons h _ ih =>
    obtain ⟨a, e, h⟩ := h
    exact .cons ⟨a, e, Same.seqT s h⟩ ih
theorem PrTs.len {vs : List V} {qs : List (Str × Int)} (p : PrTs K H vs qs) : vs.length = qs.length := by
  induction p with
  | nil => rfl
  | cons _ _ ih => simp [ih]
theorem PrTs.get {vs : List V} {qs : List (Str × Int)} (p : PrTs K H vs qs) : ∀ {i : Nat} {v : V}, vs[i]? = some v → ∃ q, qs[i]? = some q ∧ PrT K H v q := by
  induction p with
  | nil => intro i v h; simp at h
  | cons h' _ ih =>
    intro i b hb
    cases i with
    | zero => simp at hb; subst hb; exact ⟨_, rfl, h'⟩
    | succ i => exact ih (by simpa using hb)
theorem PrTs.snoc {vs : List V} {qs : List (Str × Int)} {v : V} {q : Str × Int} (p : PrTs K H vs qs) (h : PrT K H v q) : PrTs K H (vs ++ [v]) (qs ++ [q]) := by
  induction p with
  | nil => exact .cons h .nil
  | cons h' _ ih => exact .cons h' ih
end
/-! ### rows: tuples of ints, each with its own address -/
inductive Rws (H : Hp) : List Addr → List (List Int) → Prop
  | nil : Rws H [] []
  | cons {a : Addr} {as : List Addr} {r : List Int} {rs : List (List Int)} : H a = some (.tup (r.map V.int)) → Rws H as rs → Rws H (a :: as) (r :: rs)
section
variable {H H' : Hp}
theorem Rws.same {as : List Addr} {rs : List (List Int)} (s : ∀ b o, b ∈ as → H b = some o → H' b = some o) (p : Rws H as rs) : Rws H' as rs := by
  induction p with
  | nil => exact .nil
  | cons h _ ih => exact .cons (s _ _ (List.mem_cons_self ..) h) (ih fun b o hb => s b o (List.mem_cons_of_mem _ hb))
theorem Rws.snoc {as : List Addr} {rs : List (List Int)} {a : Addr} {r : List Int} (p : Rws H as rs) (h : H a = some (.tup (r.map V.int))) : Rws H (as ++ [a]) (rs ++ [r]) := by
  induction p with
  | nil => exact .cons h .nil
  | cons h' _ ih => exact .cons h' ih
theorem Rws.length {as : List Addr} {rs : List (List Int)} (p : Rws H as rs) : as.length = rs.length := by
  induction p with
  | nil => rfl
  | cons _ _ ih => simp [ih]
theorem Rws.get {as : List Addr} {rs : List (List Int)} (p : Rws H as rs) : ∀ {i : Nat} {a : Addr}, as[i]? = some a → ∃ r, rs[i]? = some r ∧ H a = some (.tup (r.map V.int)) := by
  induction p with
  | nil => intro i a h; simp at h
  | cons h' _ ih =>
    intro i b hb
    cases i with
    | zero => simp at hb; subst hb; exact ⟨_, rfl, h'⟩
    | succ i => exact ih (by simpa using hb)
end
/-! ### all standings, by the settings -/
/-- each row with each value behind it -/
def widen (rs : List (List Int)) (n : Nat) : List (List Int) := rs.flatMap fun r => (List.range n).map fun (v : Nat) => r ++ [(v : Int)]
def grid (qs : List (Str × Int)) : List (List Int) := qs.foldl (fun rs q => widen rs (q.2 + 1).toNat) [[]]
theorem widen_len (rs : List (List Int)) (n : Nat) : (widen rs n).length = rs.length * n := by
  unfold widen
  induction rs with
  | nil => simp
  | cons r rs ih => rw [List.flatMap_cons, List.length_append, ih, List.length_map, List.length_range, List.length_cons, Nat.succ_mul, Nat.add_comm]
end Ms
namespace Ms
open PySem PySem.Spec PyProof.Rows L2
/-! ### the package's is_int and grid_of -/
structure TxtI (mg : Str → Option Value) (fI : Addr) : Prop where
  isi : mg "isinstance" = none
  int : mg "int" = none
  bool : mg "bool" = none
  tuple : mg "tuple" = none
  len : mg "len" = none
  range : mg "range" = none
  gI : mg "is_int" = some (.ref fI)
def isInt (d : PyData) : Bool := match d with | .int _ => true | _ => false
section
variable {P : Program} {w : World} {K : PySem.W.Frag} {mg : Str → Option Value} {base : Heap} {fI fN fM fSt fNs C fE : Addr}
theorem scPi : FnScope ["thing"] ["thing"] (defScope sPInt) := ⟨rfl, rfl, rfl, by decide +kernel, rfl, by decide +kernel, by decide +kernel⟩
def spPInt (K : PySem.W.Frag) : Sp := fun vs H Q _ => ∃ (m l : Addr) (v : V) (d : PyData), vs = [v] ∧ Dq K H m l v d ∧ Q (.bl (isInt d)) H
theorem ok_pint {f : Addr} {fd : FuncData} (F : Fun K "is_int" "is_int" sPInt f fd) (T : TxtI mg fI) : FnOk P w K mg base CX0 1 f fd ["thing"] (spPInt K) := by
  refine F.ok scPi (fun vs H Q E h => ?_) (fun cdv A outer s H vs Q E hr h => ?_)
  · obtain ⟨m, l, v, d, rfl, _⟩ := h
    rfl
  · obtain ⟨m, l, v, d, rfl, hd, q⟩ := h
    refine ⟨_, pss_one (ps_ret (pe_and (pe_callB call_isi (by rfl) T.isi PyProof.Rows.boot_isinstance (pa_cons (pv 0) (pa_cons (pe_bltn (v := .ty "int") (u := .type "int") (by rfl) T.int (by decide +kernel) rfl) pa_nil)))
      (pe_one (pe_not (pe_callB call_isi (by rfl) T.isi PyProof.Rows.boot_isinstance (pa_cons (pv 0) (pa_cons (pe_bltn (v := .ty "bool") (u := .type "bool") (by rfl) T.bool (by decide +kernel) rfl) pa_nil))))))), ?_⟩
    refine ⟨_, rfl, v, .ty "int", _, _, _, rfl, .ty _, hd.ty, isi_int K d, _, rfl, ?_⟩
    cases d with
    | int j =>
      cases hd
      exact ifT rfl ⟨_, rfl, .int j, .ty "bool", _, _, _, rfl, .ty _, .base (.int j), isi_bool K (.int j), _, rfl, q⟩
    | bool j =>
      cases hd
      exact ifT rfl ⟨_, rfl, .bl j, .ty "bool", _, _, _, rfl, .ty _, .base (.bl j), isi_bool K (.bool j), _, rfl, q⟩
    | _ => exact ifF rfl q
def lowB (c : Nat) : Bool := decide (97 ≤ c) && decide (c ≤ 122)
theorem lowB_alpha (c : Nat) : decide (c ∈ alpha.cps.toList) = lowB c := by
  rw [alpha_list, Bool.eq_iff_iff]
  simp only [decide_eq_true_eq, lowB, Bool.and_eq_true, List.mem_cons, List.mem_nil_iff, or_false]
  omega
/-! grid_of -/
abbrev NPg : List Str := ["settings", "rows", "name", "most", "row", "value"]
theorem scPg : FnScope NPg ["settings"] (defScope sPGrid) := ⟨rfl, rfl, rfl, by decide +kernel, rfl, by decide +kernel, by decide +kernel⟩
def spPGrid (K : PySem.W.Frag) : Sp := fun vs H Q _ => ∃ (a : Addr) (xs : List V) (qs : List (Str × Int)), vs = [.ref a] ∧ SqT K H a xs ∧ PrTs K H xs qs ∧ qs.length ≤ 3 ∧ (∀ q ∈ qs, 1 ≤ q.2 ∧ q.2 ≤ 3) ∧
  ∀ D as H', H D = none → Same H H' → H' D = some (.lst (as.map V.ref)) → Rws H' as (grid qs) → (∀ b ∈ as, H b = none) → Q (.ref D) H'
theorem fold_row {k : Nat} : ∀ (qs : List (Str × Int)) (rs : List (List Int)) (k : Nat), (∀ r ∈ rs, r.length = k) → ∀ r ∈ qs.foldl (fun rs q => widen rs (q.2 + 1).toNat) rs, r.length = k + qs.length
  | [], rs, k, h => fun r hr => h r hr
  | q :: qs, rs, k, h => fun r hr => by
    have z := fold_row (k := k) qs (widen rs (q.2 + 1).toNat) (k + 1) (fun r hr => by
      unfold widen at hr
      obtain ⟨y, hy, hr⟩ := List.mem_flatMap.mp hr
      obtain ⟨v, _, rfl⟩ := List.mem_map.mp hr
      rw [List.length_append, h y hy]; rfl) r hr
    rw [z, List.length_cons]; omega
theorem grid_row (qs : List (Str × Int)) : ∀ r ∈ grid qs, r.length = qs.length := fun r hr => by
  have z := fold_row (k := 0) qs [[]] 0 (fun r hr => by rw [List.mem_singleton.mp hr]; rfl) r hr
  rw [z]; omega
structure Acc (H0 H1 H : Hp) (D : Addr) (as : List Addr) (rs : List (List Int)) : Prop where
  rws : Rws H as rs
  far : ∀ b ∈ as, b ≠ D ∧ H0 b = none
  at_ : H D = some (.lst (as.map V.ref))
  same : Same H1 H
theorem Acc.more {H0 H1 H : Hp} {D p : Addr} {as : List Addr} {rs : List (List Int)} {r : List Int} (A : Acc H0 H1 H D as rs) (s : Same H0 H1) (hD : H1 D = none) (hp : H p = none) :
    Acc H0 H1 (upd (upd H p (.tup (r.map V.int))) D (.lst (as.map V.ref ++ [.ref p]))) D (as ++ [p]) (rs ++ [r]) := by
  have nD : p ≠ D := fun e => by rw [e, A.at_] at hp; cases hp
  have sp : Same H (upd H p (.tup (r.map V.int))) := Same.upd hp
  refine ⟨Rws.snoc (Rws.same (fun b o hb e => ?_) A.rws) ?_, fun b hb => ?_, ?_, fun b o e => ?_⟩
  · rw [upd_ne (A.far b hb).1]; exact sp _ _ e
  · rw [upd_ne nD, upd_same]
  · rcases List.mem_append.mp hb with hb | hb
    · exact A.far b hb
    · rw [List.mem_singleton.mp hb]
      exact ⟨nD, Same.free s (Same.free A.same hp)⟩
  · rw [upd_same, List.map_append]; rfl
  · have nb : b ≠ D := ne_of_none e hD
    rw [upd_ne nb]; exact sp _ _ (A.same _ _ e)
theorem widen_take {rs : List (List Int)} {n i : Nat} {r : List Int} (h : rs[i]? = some r) : widen (rs.take (i + 1)) n = widen (rs.take i) n ++ (List.range n).map fun (v : Nat) => r ++ [(v : Int)] := by
  unfold widen
  rw [List.take_succ, h, List.flatMap_append]
  simp
theorem range_more {n : Nat} {r : List Int} : ((List.range (n + 1)).map fun (v : Nat) => r ++ [(v : Int)]) = ((List.range n).map fun (v : Nat) => r ++ [(v : Int)]) ++ [r ++ [(n : Int)]] := by
  rw [List.range_succ, List.map_append]; rfl
theorem ok_pgrid {f : Addr} {fd : FuncData} (F : Fun K "grid_of" "grid_of" sPGrid f fd) (T : TxtI mg fI) : FnOk P w K mg base CX0 1 f fd ["settings"] (spPGrid K) := by
  refine F.ok scPg (fun vs H Q E h => ?_) (fun cdv A outer s H vs Q E hr h => ?_)
  · obtain ⟨a, xs, qs, rfl, _⟩ := h
    rfl
  · obtain ⟨a, xs, qs, rfl, hs, hp, hl, hb, q⟩ := h
    refine ⟨_, pss_cons (ps_set (i := 1) scPg.nd rfl (by first | exact Or.inl rfl | exact Or.inr rfl) (pe_lst (pa_cons (pe_tup pa_nil) pa_nil)))
      (pss_cons (ps_for PassesOwn.never rfl (pi_tup (pv 0)) (pg_tup rfl (pgs_cons (pg_name (i := 2) scPg.nd rfl (by first | exact Or.inl rfl | exact Or.inr rfl)) (pgs_cons (pg_name (i := 3) scPg.nd rfl (by first | exact Or.inl rfl | exact Or.inr rfl)) pgs_nil)))
        (pss_one (ps_setLc2 (i := 1) (own := [("row", 4), ("value", 5)]) (vs1 := [5]) (g := gName 4) (g1 := gName 5) (tt := tYes) (tt1 := tYes) (te := tTup (StX.tStar K (tVar 4) (tCons (tVar 5) tNil))) (by rfl) scPg.nd rfl rfl (sw_true rfl rfl rfl (by decide +kernel)) (pi_list (pv 1)) (blkOk_by (own := [("row", 4), ("value", 5)]) (N := NPg) (sc := defScope sPGrid) (by decide +kernel)) (by decide)
          (fun _ _ _ _ _ => pg_name (i := 4) scPg.nd rfl (by first | exact Or.inl rfl | exact Or.inr rfl)) (fun _ _ _ _ _ => pts_nil) (fun _ _ _ _ _ => pi_range1 (by rfl) T.range (pa_cons (pe_op op_add (pv 3) pe_int) pa_nil))
          (fun _ _ _ _ _ => pg_name (i := 5) scPg.nd rfl (by first | exact Or.inl rfl | exact Or.inr rfl)) (fun _ _ _ _ _ => pts_nil) (fun _ _ _ _ _ => pe_tup (StX.pa_star (pv 4) (pa_cons (pv 5) pa_nil))))))
      (pss_one (ps_ret (pv 1)))), ?_⟩
    have ll := hp.len
    refine ⟨Nat.zero_le _, fun p0 h0 => ⟨(by show 1 ≤ sizeLine; decide), fun R0 hR0 => ?_⟩⟩
    have s0 : Same H (upd H p0 (.tup [])) := Same.upd h0
    have s1 : Same H (upd (upd H p0 (.tup [])) R0 (.lst [.ref p0])) := s0.trans (Same.upd hR0)
    have nR0 : p0 ≠ R0 := fun e => by rw [← e, upd_same] at hR0; cases hR0
    refine ⟨_, rfl, a, rfl, ⟨_, Same.seqT s1 hs⟩, ?_⟩
    have tk1 : ∀ {i : Nat} {qq : Str × Int}, qs[i]? = some qq → grid (qs.take (i + 1)) = widen (grid (qs.take i)) (qq.2 + 1).toNat := fun {i qq} hq => by
      unfold grid
      rw [List.take_succ, hq, List.foldl_append]
      rfl
    refine for_it (walk_tup (xs := xs)) (fun i σ H2 => ∃ (R : Addr) (as : List Addr) (v2 v3 : Option V), σ = [some (.ref a), some (.ref R), v2, v3, none, none] ∧ Same H H2 ∧ H R = none ∧ H2 R = some (.lst (as.map V.ref)) ∧ Rws H2 as (grid (qs.take i)) ∧ (∀ b ∈ as, H b = none) ∧ as.length ≤ 4 ^ i)
      ⟨R0, [p0], none, none, rfl, s1, Same.free s0 hR0, upd_same, ?_, ?_, Nat.le_refl _⟩ (fun i σ H2 _ ⟨R, as, v2, v3, _, s2, _⟩ => Same.seqT s2 hs) ?_ ?_
    · rw [List.take_zero]
      refine .cons ?_ .nil
      rw [upd_ne nR0, upd_same]; rfl
    · intro b hb
      rw [List.mem_singleton.mp hb]; exact h0
    · rintro i x σ H2 H3 hi ⟨R, as, v2, v3, rfl, s2, hR, gR, rw2, far, al⟩ ⟨rfl, hx⟩
      obtain ⟨qq, hq, b, rfl, hb2⟩ := hp.get hx
      have hqb := hb qq (List.mem_of_getElem? hq)
      have i3 : i < 3 := by omega
      have a16 : as.length ≤ 16 := Nat.le_trans al (by
        match i, i3 with
        | 0, _ => decide
        | 1, _ => decide
        | 2, _ => decide)
      have rl := rw2.length
      obtain ⟨rs, ers⟩ : ∃ rs, rs = grid (qs.take i) := ⟨_, rfl⟩
      rw [← ers] at rw2 rl
      obtain ⟨n, en⟩ : ∃ n : Nat, n = (qq.2 + 1).toNat := ⟨_, rfl⟩
      have n4 : n ≤ 4 := by omega
      refine ⟨b, _, rfl, Same.seqT s2 hb2, rfl, _, _, rfl, _, _, rfl, rfl, ?_⟩
      refine ⟨_, rfl, R, rfl, ⟨_, SqL.of gR⟩, fun D hD => ?_⟩
      have sD : Same H3 (upd H3 D (.lst [])) := Same.upd hD
      refine lc2_it (walk_list (xs := as.map V.ref)) (fun k H4 => ∃ as', Acc H H3 H4 D as' (widen (rs.take k) n)) ⟨[], .nil, (fun b hb => nomatch hb), upd_same, sD⟩ (fun k H4 _ ⟨as', A⟩ => SqL.of (A.same _ _ gR)) ?_ ?_
      · rintro k x H4 H5 hk ⟨as', A⟩ ⟨rfl, hxk⟩
        have hk' : k < as.length := by rw [List.length_map] at hk; exact hk
        obtain ⟨bk, hbk⟩ : ∃ bk, as[k]? = some bk := ⟨_, List.getElem?_eq_getElem hk'⟩
        have ex : x = .ref bk := by
          rw [List.getElem?_map, hbk] at hxk
          exact (Option.some.inj hxk).symm
        subst ex
        obtain ⟨r, hr2, gk⟩ := rw2.get hbk
        refine ⟨rfl, tyes ⟨_, rfl, _, _, rfl, rfl, qq.2 + 1, rfl, by omega, by omega, ?_⟩⟩
        rw [← en]
        refine lc_in walk_range (fun j H6 => ∃ as2, Acc H H3 H6 D as2 (widen (rs.take k) n ++ (List.range j).map fun (v : Nat) => r ++ [(v : Int)])) ⟨as', by simpa using A⟩ (fun _ _ _ _ => True.intro) ?_ ?_
        · rintro j y H6 H7 hj ⟨as2, A2⟩ ⟨rfl, ey⟩
          have ey' : y = .int (j : Int) := ey.trans (congrArg V.int (by omega))
          subst ey'
          have rlen : r.length ≤ 900 := by
            have z := grid_row (qs.take i) r (ers ▸ List.mem_of_getElem? hr2)
            rw [z, List.length_take]; omega
          have al2 : as2.length ≤ 100 := by
            rw [A2.rws.length, List.length_append, List.length_map, List.length_range, widen_len]
            have h1 : (rs.take k).length ≤ 16 := by rw [List.length_take]; omega
            have h2 := Nat.mul_le_mul h1 n4
            omega
          refine ⟨rfl, tyes ⟨_, rfl, bk, _, rfl, .inl (.inl (.inl (A2.same _ _ gk))), _, rfl, ?_, fun p hp7 => ?_⟩⟩
          · rw [List.length_append, List.length_map, List.length_singleton]
            exact Nat.le_of_lt (small1000 (by omega))
          have nD : D ≠ p := ne_of_none A2.at_ hp7
          have er : (r.map V.int ++ [.int (j : Int)] : List V) = (r ++ [(j : Int)]).map V.int := by rw [List.map_append]; rfl
          rw [er]
          refine ⟨_, by rw [upd_ne nD]; exact A2.at_, small1000 (by rw [List.length_map]; omega), as2 ++ [p], ?_⟩
          rw [range_more, ← List.append_assoc]
          exact A2.more s2 hD hp7
        · rintro H6 ⟨as2, A2⟩
          rw [← widen_take hr2] at A2
          exact ⟨as2, A2⟩
      · rintro H4 ⟨as', A⟩
        rw [List.length_map, List.take_of_length_le (by omega)] at A
        have l1 := A.rws.length
        refine ⟨D, as', _, _, rfl, s2.trans A.same, Same.free s2 hD, A.at_, ?_, fun b hb => (A.far b hb).2, ?_⟩
        · rw [tk1 hq, ← ers, ← en]; exact A.rws
        · rw [l1, widen_len, Nat.pow_succ, ← rl]
          exact Nat.mul_le_mul al n4
    · rintro σ H2 ⟨R, as, v2, v3, rfl, s2, hR, gR, rw2, far, al⟩
      rw [List.take_of_length_le (by omega)] at rw2
      exact ⟨_, rfl, q R as H2 hR s2 gR rw2 far⟩
end
end Ms
namespace Ms
open PySem PySem.Spec PyProof.Rows L2
/-! ### drawn names are names, and no two are the same -/
def lowC (c : Nat) : Prop := 97 ≤ c ∧ c ≤ 122
def Lw (a : Nat) (z : Str) : Prop := z.length ≤ a ∧ ∀ c ∈ z.cps.toList, lowC c
theorem Lw.ok {a : Nat} {z : Str} (h : Lw a z) : sOk a z := ⟨h.1, fun c hc => by have := (h.2 c hc).2; omega⟩
theorem Lw.mono {a b : Nat} {z : Str} (h : Lw a z) (k : a ≤ b) : Lw b z := ⟨Nat.le_trans h.1 k, h.2⟩
theorem app_list (z y : Str) : (z ++ y).cps.toList = z.cps.toList ++ y.cps.toList := Array.toList_append
theorem Lw.app {a b : Nat} {z y : Str} (h : Lw a z) (k : Lw b y) : Lw (a + b) (z ++ y) := by
  refine ⟨by rw [Str.length_append]; exact Nat.add_le_add h.1 k.1, fun c hc => ?_⟩
  rw [app_list] at hc
  exact (List.mem_append.mp hc).elim (h.2 c) (k.2 c)
theorem cut_list (z : Str) (lo hi : Option Int) : (cutS z lo hi).cps.toList = (z.cps.toList.drop (HT.sIx z.length 0 lo)).take (HT.sIx z.length z.length hi - HT.sIx z.length 0 lo) := by simp [cutS]
theorem len_list (z : Str) : z.cps.toList.length = z.length := Array.length_toList
theorem Lw.cut {a : Nat} {z : Str} (h : Lw a z) (lo hi : Option Int) : Lw a (cutS z lo hi) := by
  refine ⟨?_, fun c hc => h.2 c ?_⟩
  · rw [← len_list, cut_list, List.length_take, List.length_drop, len_list]
    have := h.1
    omega
  · rw [cut_list] at hc
    exact List.mem_of_mem_drop (List.mem_of_mem_take hc)
theorem Lw.sign {c : Nat} (h : lowC c) : Lw 1 ⟨#[c]⟩ := ⟨Nat.le_refl _, fun d hd => by simp at hd; rw [hd]; exact h⟩
theorem alpha_nat : ∀ j : Nat, j < 26 → alpha.cps.toList[j]? = some (97 + j) := by
  intro j h
  rw [alpha_list]
  have : ∀ j : Fin 26, ([97, 98, 99, 100, 101, 102, 103, 104, 105, 106, 107, 108, 109, 110, 111, 112, 113, 114, 115, 116, 117, 118, 119, 120, 121, 122] : List Nat)[j.1]? = some (97 + j.1) := by decide
  exact this ⟨j, h⟩
theorem alpha_at2 {i : Int} (h0 : 0 ≤ i) (h1 : i < 26) : atI alpha.cps.toList i = some (97 + i.toNat) ∧ lowC (97 + i.toNat) := by
  obtain ⟨j, rfl⟩ : ∃ j : Nat, i = (j : Int) := ⟨i.toNat, by omega⟩
  refine ⟨atI_nat (alpha_nat j (by omega)), ?_⟩
  unfold lowC
  omega
def nmOk (z : Str) : Prop := 1 ≤ z.length ∧ z.length ≤ 8 ∧ ∀ c ∈ z.cps.toList, lowC c
theorem nmOk.ok {z : Str} (h : nmOk z) : sOk 16 z := ⟨by have := h.2.1; omega, fun c hc => by have := (h.2.2 c hc).2; omega⟩
theorem map_nodup {k : Nat} {f : Nat → Str} (h : ∀ i j, i < k → j < k → f i = f j → i = j) : ((List.range k).map f).Nodup := by
  unfold List.Nodup
  rw [List.pairwise_map]
  refine List.Pairwise.imp_of_mem ?_ (List.pairwise_lt_range (n := k))
  intro i j hi hj hlt e
  have := h i j (List.mem_range.mp hi) (List.mem_range.mp hj) e
  omega
/-- beginnings or ends of one word -/
def fA (W : Str) (b : Int) (k : Nat) (i : Nat) : Str := if b > 7 then cutS W (some (0 + (i : Int))) none else cutS W none (some (0 + (i : Int) + 9 - (k : Int)))
theorem fA_len {W : Str} {b : Int} {k i : Nat} (hW : W.length = 8) (hk : k ≤ 8) (hi : i < k) : (fA W b k i).length = if b > 7 then 8 - i else i + 9 - k := by
  unfold fA
  by_cases h : b > 7
  · rw [if_pos h, if_pos h, ← len_list, cut_list, List.length_take, List.length_drop, len_list, hW]
    have e : (0 + (i : Int)) = ((i : Nat) : Int) := by omega
    rw [e, HT.sIx_nat]
    show min (8 - min i 8) (8 - min i 8) = 8 - i
    omega
  · rw [if_neg h, if_neg h, ← len_list, cut_list, List.length_take, List.length_drop, len_list, hW]
    have e : (0 + (i : Int) + 9 - (k : Int)) = ((i + 9 - k : Nat) : Int) := by omega
    rw [e, HT.sIx_nat, HT.sIx_none]
    omega
theorem fA_good {W : Str} {b : Int} {k : Nat} (hW : Lw 16 W) (h8 : W.length = 8) (hk : k ≤ 8) : ((List.range k).map (fA W b k)).Nodup ∧ ∀ y ∈ (List.range k).map (fA W b k), nmOk y := by
  refine ⟨map_nodup fun i j hi hj e => ?_, fun y hy => ?_⟩
  · have l1 := fA_len (b := b) h8 hk hi
    have l2 := fA_len (b := b) h8 hk hj
    rw [e, l2] at l1
    split at l1 <;> omega
  · obtain ⟨i, hi, rfl⟩ := List.mem_map.mp hy
    have hi' := List.mem_range.mp hi
    have l := fA_len (b := b) h8 hk hi'
    refine ⟨by rw [l]; split <;> omega, by rw [l]; split <;> omega, ?_⟩
    unfold fA
    split
    · exact (hW.cut _ _).2
    · exact (hW.cut _ _).2
/-- one letter exchanged -/
def fB (z : Str) (r5 r6 b : Int) (i : Nat) : Str := cutS z none (some r5) ++ ⟨#[97 + ((r6 + b * (0 + (i : Int))) % 26).toNat]⟩ ++ cutS z (some r5) none
theorem fB_list (z : Str) (r5 r6 b : Int) (i : Nat) : (fB z r5 r6 b i).cps.toList = (cutS z none (some r5)).cps.toList ++ [97 + ((r6 + b * (0 + (i : Int))) % 26).toNat] ++ (cutS z (some r5) none).cps.toList := by
  unfold fB
  rw [app_list, app_list]
theorem fB_good {z : Str} {r5 r6 b : Int} {k : Nat} (hz : Lw 7 z) (h0 : 0 ≤ r5) (h1 : r5 ≤ z.length) (hb : b = 1 ∨ b = 3 ∨ b = 5) (hk : k ≤ 8) : ((List.range k).map (fB z r5 r6 b)).Nodup ∧ ∀ y ∈ (List.range k).map (fB z r5 r6 b), nmOk y := by
  refine ⟨map_nodup fun i j hi hj e => ?_, fun y hy => ?_⟩
  · have e' : (fB z r5 r6 b i).cps.toList = (fB z r5 r6 b j).cps.toList := by rw [e]
    rw [fB_list, fB_list, List.append_assoc, List.append_assoc] at e'
    have e2 := List.append_cancel_left e'
    have e3 : 97 + ((r6 + b * (0 + (i : Int))) % 26).toNat = 97 + ((r6 + b * (0 + (j : Int))) % 26).toNat := by
      simp only [List.cons_append, List.nil_append, List.cons.injEq] at e2
      exact e2.1
    have p1 := Int.emod_nonneg (r6 + b * (0 + (i : Int))) (b := 26) (by decide)
    have p2 := Int.emod_nonneg (r6 + b * (0 + (j : Int))) (b := 26) (by decide)
    rcases hb with rfl | rfl | rfl <;> omega
  · obtain ⟨i, hi, rfl⟩ := List.mem_map.mp hy
    have l := hz.1
    obtain ⟨n5, rfl⟩ : ∃ n : Nat, r5 = (n : Int) := ⟨r5.toNat, by omega⟩
    have len : (fB z (n5 : Int) r6 b i).length = z.length + 1 := by
      rw [← len_list, fB_list, List.length_append, List.length_append, cut_list, cut_list, List.length_take, List.length_drop, List.length_take, List.length_drop, len_list, HT.sIx_nat, HT.sIx_none, HT.sIx_nat, HT.sIx_none]
      simp only [List.length_cons, List.length_nil]
      omega
    refine ⟨by rw [len]; omega, by rw [len]; omega, fun c hc => ?_⟩
    rw [fB_list] at hc
    have q1 := Int.emod_nonneg (r6 + b * (0 + (i : Int))) (b := 26) (by decide)
    have q2 := Int.emod_lt_of_pos (r6 + b * (0 + (i : Int))) (b := 26) (by decide)
    rcases List.mem_append.mp hc with hc | hc
    · rcases List.mem_append.mp hc with hc | hc
      · exact (hz.cut _ _).2 c hc
      · rw [List.mem_singleton.mp hc]
        unfold lowC
        omega
    · exact (hz.cut _ _).2 c hc
theorem mul8_len (z : Str) (c : Nat) : (cutS (z ++ Txt.mul ⟨#[c]⟩ 8) none (some 8)).length = 8 := by
  rw [mul8, ← len_list, cut_list, List.length_take, List.length_drop, len_list, Str.length_append, HT.sIx_none]
  have e : (8 : Int) = ((8 : Nat) : Int) := rfl
  rw [e, HT.sIx_nat]
  show min (min 8 (z.length + 8) - 0) (z.length + 8 - 0) = 8
  omega
section
variable {P : Program} {w : World} {K : PySem.W.Frag} {mg : Str → Option Value} {base : Heap} {fN : Addr}
def spNamesV : Sp := fun vs H Q _ => ∃ (m l : Addr) (n : Nat) (k : Nat), vs = [.ref m, .int (k : Int)] ∧ Mch H m l n ∧ n < 900000 ∧ 1 ≤ k ∧ k ≤ 8 ∧
  ∀ (p : Addr) (ys : List Str) (l' : Addr) (H' : Hp), H p = none → H' p = some (.lst (ys.map V.str)) → ys.length = k → ys.Nodup → (∀ y ∈ ys, nmOk y) → p ≠ m → p ≠ l' → Mch H' m l' (n + 11) → Fr m l l' H H' → Q (.ref p) H'
theorem ok_namesV {f : Addr} {fd fdN : FuncData} (F : Fun K "_law_names" "_law_names" sNames f fd) (T : TxtN mg fN) (FN : Fun K "_law_next" "_law_next" sNext fN fdN) (bN : Binds K fdN ["m", "many"] []) : FnOk P w K mg base CX0 2 f fd ["m", "many"] spNamesV := by
  have GN : FnOk P w K mg base CX0 1 fN fdN ["m", "many"] spNext := ok_next FN T.toTxt
  refine F.ok scNm (fun vs H Q E h => ?_) (fun cdv A outer s H vs Q E hr h => ?_)
  · obtain ⟨m, l, n, k, rfl, _⟩ := h
    rfl
  · obtain ⟨m, l, n, k, rfl, M, hn, hk, hk2, q⟩ := h
    refine ⟨_, pss_cons (ps_asg (pe_tup (pa_cons pe_str (pa_cons pe_str pa_nil))) (pg_tup rfl (pgs_cons (pg_name (i := 2) scNm.nd rfl (Or.inr rfl)) (pgs_cons (pg_name (i := 3) scNm.nd rfl (Or.inr rfl)) pgs_nil))))
      (pss_cons (ps_for PassesOwn.never rfl (pi_range1 (by rfl) T.range (pa_cons (pe_call GN hr rfl T.next FN.kp bN .nil pass0 (pa_cons (pv 0) (pa_cons pe_int pa_nil))) pa_nil)) (pg_name (i := 4) scNm.nd rfl (Or.inl rfl))
        (pss_one (ps_set (i := 3) scNm.nd rfl (Or.inr rfl) (pe_op op_add_str (pv 3) (pe_ix ix_str (pv 2) (pe_call GN hr rfl T.next FN.kp bN .nil pass0 (pa_cons (pv 0) (pa_cons pe_int pa_nil))) (fun _ _ => rfl))))))
      (pss_cons (ps_asg (pe_tup (pa_cons (pe_call GN hr rfl T.next FN.kp bN .nil pass0 (pa_cons (pv 0) (pa_cons (pe_op op_add (pe_callB call_len_str (by rfl) T.len PySem.boot_len (pa_cons (pv 3) pa_nil)) pe_int) pa_nil)))
          (pa_cons (pe_call GN hr rfl T.next FN.kp bN .nil pass0 (pa_cons (pv 0) (pa_cons pe_int pa_nil)))
          (pa_cons (pe_ix ix_list (pe_lst (pa_cons pe_int (pa_cons pe_int (pa_cons pe_int (pa_cons pe_int (pa_cons pe_int (pa_cons pe_int pa_nil))))))) (pe_call GN hr rfl T.next FN.kp bN .nil pass0 (pa_cons (pv 0) (pa_cons pe_int pa_nil))) (fun _ _ => rfl)) pa_nil))))
        (pg_tup rfl (pgs_cons (pg_name (i := 5) scNm.nd rfl (Or.inr rfl)) (pgs_cons (pg_name (i := 6) scNm.nd rfl (Or.inr rfl)) (pgs_cons (pg_name (i := 7) scNm.nd rfl (Or.inr rfl)) pgs_nil)))))
      (pss_cons (ps_set (i := 8) scNm.nd rfl (Or.inr rfl) (pe_slice sl_str (pe_op op_add_str (pv 3) (pe_op op_mul_si (pe_ix ix_str (pv 2) (pv 6) (fun _ _ => rfl)) pe_int)) po_none (po_some pe_int)))
      (pss_cons (ps_if (pt_cmpR op_gt (pv 7) pe_int (nomark _)) (pss_one (ps_ret (pe_lc (own := [("k", 4)]) (g := gName 4) (by rfl) scNm.nd (pi_range1 (by rfl) T.range (pa_cons (pv 1) pa_nil)) (blkOk_by (own := [("k", 4)]) (N := NN) (sc := defScope sNames) (by decide +kernel))
          (fun _ _ _ _ _ => pg_name (i := 4) scNm.nd rfl (Or.inl rfl)) (fun _ _ _ _ _ => pts_nil) (fun _ _ _ _ _ => pe_ifExp (pt_cmpR op_gt (pv 7) pe_int (nomark _)) (pe_slice sl_str (pv 8) (po_some (pv 4)) po_none) (pe_slice sl_str (pv 8) po_none (po_some (pe_op op_sub (pe_op op_add (pv 4) pe_int) (pv 1)))))))) pss_nil)
      (pss_one (ps_ret (pe_lc (own := [("k", 4)]) (g := gName 4) (by rfl) scNm.nd (pi_range1 (by rfl) T.range (pa_cons (pv 1) pa_nil)) (blkOk_by (own := [("k", 4)]) (N := NN) (sc := defScope sNames) (by decide +kernel))
          (fun _ _ _ _ _ => pg_name (i := 4) scNm.nd rfl (Or.inl rfl)) (fun _ _ _ _ _ => pts_nil) (fun _ _ _ _ _ => pe_op op_add_str (pe_op op_add_str (pe_slice sl_str (pv 3) po_none (po_some (pv 5)))
            (pe_ix ix_str (pv 2) (pe_op op_mod (pe_callTy call_int1 (by rfl) T.int (by decide +kernel) (pa_cons (pe_op op_add (pv 6) (pe_op op_mul (pv 7) (pv 4))) pa_nil)) pe_int) (fun _ _ => rfl))) (pe_slice sl_str (pv 3) (po_some (pv 5)) po_none))))))))), ?_⟩
    refine ⟨(by show 2 ≤ sizeLine; decide), fun p1 h1 => ⟨p1, _, rfl, .inl (.inl upd_same), rfl, _, _, rfl, _, _, rfl, rfl, ?_⟩⟩
    have s1 : Same H _ := Same.upd (o := .tup [.str alpha, .str ""]) h1
    refine ⟨_, rfl, m, l, n, 8, rfl, M.same s1, by omega, by decide, by decide, fun r0 l1 H1 r0p r0l M1 f1 => ?_⟩
    refine ⟨r0, rfl, by omega, by omega, ?_⟩
    refine for_range (lo := 0) (n := r0.toNat) (fun i σ H2 => ∃ (z : Str) (v4 : Option V) (l2 : Addr), σ = [some (.ref m), some (.int (k : Int)), some (.str alpha), some (.str z), v4, none, none, none, none] ∧ Lw i z ∧ Mch H2 m l2 (n + 1 + i) ∧ Fr m l l2 H H2)
      ⟨"", _, l1, rfl, ⟨Nat.le_refl _, fun c hc => by cases hc⟩, M1, Fr.lead s1 f1⟩ ?_ ?_
    · rintro i σ H2 hi ⟨z, v4, l2, rfl, hz, M2, f2⟩
      refine ⟨_, rfl, _, rfl, _, rfl, m, l2, _, 26, rfl, M2, by omega, by decide, by decide, fun r l3 H3 rp rl M3 f3 => ?_⟩
      obtain ⟨hc, hc2⟩ := alpha_at2 rp rl
      refine ⟨alpha, r, _, rfl, rfl, alpha_len, hc, z, _, rfl, rfl, ?_, ?_⟩
      · have := hz.1
        show z.length + 1 ≤ sizeLine
        exact small1000 (by omega)
      · exact ⟨_, _, l3, rfl, hz.app (Lw.sign hc2), M3, f2.trans f3⟩
    · rintro σ H2 ⟨z, v4, l2, rfl, hz, M2, f2⟩
      have z7 := hz.1
      have zs : z.length ≤ sizeLine := Nat.le_of_lt (small1000 (by omega))
      refine ⟨_, rfl, _, rfl, z, rfl, zs, _, _, rfl, rfl, m, l2, _, (z.length : Int) + 1, rfl, M2, by omega, by omega, by omega, fun r5 l3 H3 a5 b5 M3 f3 => ?_⟩
      refine ⟨_, rfl, m, l3, _, 26, rfl, M3, by omega, by decide, by decide, fun r6 l4 H4 a6 b6 M4 f4 => ?_⟩
      refine ⟨(by show 6 ≤ sizeLine; decide), fun pL hL => ?_⟩
      have sL := Same.upd (o := .lst [.int 1, .int 3, .int 5, .int 7, .int 9, .int 11]) hL
      have nL := M4.ne hL
      refine ⟨_, rfl, m, l4, _, 6, rfl, M4.same sL, by omega, by decide, by decide, fun r7 l5 H5 a7 b7 M5 f5 => ?_⟩
      obtain ⟨b, hb, bs, b11⟩ : ∃ b : Int, atI ([.int 1, .int 3, .int 5, .int 7, .int 9, .int 11] : List V) r7 = some (.int b) ∧ (b = 1 ∨ b = 3 ∨ b = 5 ∨ 5 < b) ∧ b ≤ 11 := by
        obtain ⟨j, rfl⟩ : ∃ j : Nat, r7 = (j : Int) := ⟨r7.toNat, by omega⟩
        have hj : j < 6 := by omega
        match j, hj with
        | 0, _ => exact ⟨1, rfl, by omega, by omega⟩
        | 1, _ => exact ⟨3, rfl, by omega, by omega⟩
        | 2, _ => exact ⟨5, rfl, by omega, by omega⟩
        | 3, _ => exact ⟨7, rfl, by omega, by omega⟩
        | 4, _ => exact ⟨9, rfl, by omega, by omega⟩
        | 5, _ => exact ⟨11, rfl, by omega, by omega⟩
      refine ⟨pL, _, r7, .int b, rfl, rfl, SqL.of (f5.keep pL _ upd_same nL.1 nL.2), hb, (by show 3 ≤ sizeLine; decide), fun p3 h3 => ?_⟩
      have F5 : Fr m l l5 H H5 := f2.trans (f3.trans (f4.trans (Fr.lead sL f5)))
      refine ⟨p3, _, rfl, .inl (.inl upd_same), rfl, _, _, rfl, _, _, rfl, _, _, rfl, rfl, ?_⟩
      have s3 := Same.upd (o := .tup [.int r5, .int r6, .int b]) h3
      have M6 := M5.same s3
      have F6 := F5.junk (o := .tup [.int r5, .int r6, .int b]) h3
      obtain ⟨hc6, cc6⟩ := alpha_at2 a6 b6
      obtain ⟨c6, ec6⟩ : ∃ c6, c6 = 97 + r6.toNat := ⟨_, rfl⟩
      rw [← ec6] at hc6 cc6
      refine ⟨_, rfl, _, rfl, _, rfl, alpha, r6, c6, rfl, rfl, alpha_len, hc6, _, 8, rfl, rfl, mul8_ok c6, z, _, rfl, rfl, ?_, 8, rfl, _, rfl, ?_, ?_⟩
      · rw [mul8]
        show z.length + 8 ≤ sizeLine
        exact Nat.le_of_lt (small1000 (by omega))
      · rw [mul8, Str.length_append]
        show z.length + 8 ≤ sizeLine
        exact Nat.le_of_lt (small1000 (by omega))
      obtain ⟨W, hW, eW⟩ : ∃ W, Lw 16 W ∧ W = cutS (z ++ Txt.mul { cps := #[c6] } 8) none (some 8) := ⟨_, by
        rw [mul8]
        exact (((hz.mono (show r0.toNat ≤ 7 by omega)).app (b := 8) ⟨by show 8 ≤ 8; decide, fun d hd => by simp at hd; rw [hd]; exact cc6⟩).mono (by decide)).cut _ _, rfl⟩
      rw [← eW]
      have W8 : W.length = 8 := by rw [eW]; exact mul8_len z c6
      have Wl : W.length ≤ sizeLine := Nat.le_trans hW.1 (by decide)
      have ek : ((k : Int)).toNat = k := by omega
      refine ⟨_, rfl, _, _, rfl, rfl, _, rfl, ite2 (fun hb5 => ?_) (fun hb5 => ?_)⟩
      · refine ⟨_, rfl, (k : Int), rfl, by omega, by omega, fun D hD => ?_⟩
        have nD := M6.ne hD
        refine lc_range (lo := 0) (n := ((k : Int)).toNat) (fun i H9 => H9 = upd _ D (.lst (((List.range i).map (fA W b k)).map V.str))) rfl ?_ ?_
        · rintro i H9 hi e9
          have li : ((List.range i).map (fA W b k)).length = i := by rw [List.length_map, List.length_range]
          have gr : ∀ y, y = fA W b k i → upd H9 D (.lst (((List.range i).map (fA W b k)).map V.str ++ [.str y])) = upd (upd H5 p3 (.tup [.int r5, .int r6, .int b])) D (.lst (((List.range (i + 1)).map (fA W b k)).map V.str)) := fun y ey => by
            rw [str_grow e9, ey]; simp only [List.range_succ, List.map_append]; rfl
          refine ⟨rfl, tyes ?_⟩
          refine ⟨_, rfl, _, _, rfl, rfl, _, rfl, ite2 (fun h7 => ?_) (fun h7 => ?_)⟩
          · exact ⟨_, rfl, _, rfl, _, rfl, _, rfl, Wl, _, by rw [e9]; exact upd_same, small1000 (by rw [List.length_map, li]; omega), gr _ (by unfold fA; rw [if_pos (show b > 7 from of_decide_eq_true h7)])⟩
          · exact ⟨_, rfl, _, rfl, _, _, rfl, rfl, _, rfl, _, _, rfl, rfl, _, rfl, _, rfl, Wl, _, by rw [e9]; exact upd_same, small1000 (by rw [List.length_map, li]; omega), gr _ (by unfold fA; rw [if_neg (show ¬ b > 7 from fun z => h7 (decide_eq_true z))])⟩
        · rintro H9 e9
          rw [ek] at e9
          obtain ⟨g1, g2⟩ := fA_good (b := b) hW W8 hk2
          have sD := Same.upd (o := .lst (((List.range k).map (fA W b k)).map V.str)) hD
          rw [e9]
          exact q D _ l5 _ (F6.free hD) upd_same (by rw [List.length_map, List.length_range]) g1 g2 nD.1 nD.2 ((M6.same sD).mono (by omega)) (F6.junk hD)
      · refine ⟨_, rfl, (k : Int), rfl, by omega, by omega, fun D hD => ?_⟩
        have nD := M6.ne hD
        have hz7 : Lw 7 z := hz.mono (by omega)
        have z7o := hz7.ok
        refine lc_range (lo := 0) (n := ((k : Int)).toNat) (fun i H9 => H9 = upd _ D (.lst (((List.range i).map (fB z r5 r6 b)).map V.str))) rfl ?_ ?_
        · rintro i H9 hi e9
          have li : ((List.range i).map (fB z r5 r6 b)).length = i := by rw [List.length_map, List.length_range]
          have nb5 : ¬ (5 < b) := fun z => hb5 (decide_eq_true z)
          have b15 : 1 ≤ b ∧ b ≤ 11 := by omega
          obtain ⟨hc9, cc9⟩ := alpha_at2 (i := (r6 + b * (0 + (i : Int))) % 26) (Int.emod_nonneg _ (by decide)) (Int.emod_lt_of_pos _ (by decide))
          have p1 := (hz7.cut none (some r5))
          have p2 := (p1.app (Lw.sign cc9))
          have p3' := (hz7.cut (some r5) none)
          refine ⟨rfl, tyes ?_⟩
          refine ⟨_, rfl, _, rfl, _, rfl, _, rfl, zs, _, rfl, _, rfl, _, rfl, _, rfl, _, _, rfl, rfl, .inr ⟨by omega, by omega⟩, _, _, rfl, rfl, .inl ⟨_, rfl, _, _, rfl, rfl, (by show (0 : Int) < 26; decide), ?_⟩⟩
          refine ⟨alpha, _, _, rfl, rfl, alpha_len, hc9, _, _, rfl, rfl, ?_, _, rfl, _, rfl, _, rfl, _, rfl, zs, _, _, rfl, rfl, ?_, _, by rw [e9]; exact upd_same, small1000 (by rw [List.length_map, li]; omega), ?_⟩
          · have := p1.1
            show _ + 1 ≤ sizeLine
            exact Nat.le_of_lt (small1000 (by omega))
          · have := p2.1
            have := p3'.1
            exact Nat.le_of_lt (small1000 (by omega))
          · rw [str_grow e9]; simp only [List.range_succ, List.map_append]; rfl
        · rintro H9 e9
          rw [ek] at e9
          obtain ⟨g1, g2⟩ := fB_good (r5 := r5) (r6 := r6) (b := b) hz7 a5 (by omega) (by have nb5 : ¬ (5 < b) := fun z => hb5 (decide_eq_true z); omega) hk2
          have sD := Same.upd (o := .lst (((List.range k).map (fB z r5 r6 b)).map V.str)) hD
          rw [e9]
          exact q D _ l5 _ (F6.free hD) upd_same (by rw [List.length_map, List.length_range]) g1 g2 nD.1 nD.2 ((M6.same sD).mono (by omega)) (F6.junk hD)
end
end Ms
namespace Ms
open PySem PySem.Spec PyProof.Rows L2
/-! ### drawn settings are settings -/
def many (qs : List (Str × Int)) : Int := qs.foldl (fun m q => m * (q.2 + 1)) 1
theorem fold_many : ∀ (qs : List (Str × Int)) (rs : List (List Int)) (m : Int), (∀ q ∈ qs, 1 ≤ q.2 ∧ q.2 ≤ 3) → (rs.length : Int) = m → ((qs.foldl (fun rs q => widen rs (q.2 + 1).toNat) rs).length : Int) = qs.foldl (fun m q => m * (q.2 + 1)) m
  | [], rs, m, _, h => h
  | q :: qs, rs, m, hq, h => by
    refine fold_many qs (widen rs (q.2 + 1).toNat) (m * (q.2 + 1)) (fun x hx => hq x (List.mem_cons_of_mem _ hx)) ?_
    have := hq q (List.mem_cons_self ..)
    rw [widen_len, Int.natCast_mul, h]
    congr 1
    omega
theorem grid_many (qs : List (Str × Int)) (h : ∀ q ∈ qs, 1 ≤ q.2 ∧ q.2 ≤ 3) : ((grid qs).length : Int) = many qs := fold_many qs [[]] 1 h rfl
/-- settings, as pairs -/
structure SetOk (ys : List (Str × Int)) : Prop where
  len1 : 1 ≤ ys.length
  len3 : ys.length ≤ 3
  nm : ∀ q ∈ ys, nmOk q.1
  most : ∀ q ∈ ys, 1 ≤ q.2 ∧ q.2 ≤ 3
  nodup : (ys.map (·.1)).Nodup
  few : many ys ≤ 12
theorem prD_len (ys : List (Str × Int)) : (prD ys).length = ys.length := by unfold prD; exact List.length_map ..
theorem SetOk.okP {ys : List (Str × Int)} (s : SetOk ys) : okP ys := fun q hq => ⟨(s.nm q hq).ok, s.most q hq⟩
theorem zip_many : ∀ (ys : List Str) (ms : List Int) (i : Int), ys.length = ms.length → (ys.zip ms).foldl (fun m q => m * (q.2 + 1)) i = ms.foldl (fun m x => m * (x + 1)) i
  | [], [], _, _ => rfl
  | y :: ys, x :: ms, i, h => zip_many ys ms (i * (x + 1)) (by simpa using h)
  | [], _ :: _, _, h => by simp at h
  | _ :: _, [], _, h => by simp at h
theorem zip_fst : ∀ (ys : List Str) (ms : List Int), ys.length = ms.length → (ys.zip ms).map (·.1) = ys
  | [], [], _ => rfl
  | y :: ys, x :: ms, h => by
    show y :: (ys.zip ms).map (·.1) = y :: ys
    rw [zip_fst ys ms (by simpa using h)]
  | [], _ :: _, h => by simp at h
  | _ :: _, [], h => by simp at h
/-- how often each may stand: one to three small ints -/
def MoV (H : Hp) (a : Addr) : Prop := ∃ ms : List Int, H a = some (.tup (ms.map V.int)) ∧ 1 ≤ ms.length ∧ ms.length ≤ 3 ∧ (∀ x ∈ ms, 1 ≤ x ∧ x ≤ 3) ∧ ms.foldl (fun m x => m * (x + 1)) 1 ≤ 12
theorem MoV.same {H H' : Hp} {a : Addr} (s : Same H H') (h : MoV H a) : MoV H' a := by
  obtain ⟨ms, e, r⟩ := h
  exact ⟨ms, s _ _ e, r⟩
section
variable {P : Program} {w : World} {K : PySem.W.Frag} {mg : Str → Option Value} {base : Heap} {fN fM : Addr}
def spSettingsV : Sp := fun vs H Q _ => ∃ (m l : Addr) (n : Nat), vs = [.ref m] ∧ Mch H m l n ∧ n < 800000 ∧
  ∀ (p : Addr) (as : List Addr) (ys : List (Str × Int)) (l' : Addr) (H' : Hp), H' p = some (.tup (as.map V.ref)) → Prs H' as ys → SetOk ys → Mch H' m l' (n + 12) → Fr m l l' H H' → Q (.ref p) H'
theorem ok_settingsV {f : Addr} {fd fdN fdM : FuncData} (F : Fun K "_law_settings" "_law_settings" sSettings f fd) (T : TxtS mg fN fM) (FN : Fun K "_law_next" "_law_next" sNext fN fdN) (bN : Binds K fdN ["m", "many"] [])
    (FM : Fun K "_law_names" "_law_names" sNames fM fdM) (bM : Binds K fdM ["m", "many"] []) : FnOk P w K mg base CX0 3 f fd ["m"] spSettingsV := by
  have GN : FnOk P w K mg base CX0 2 fN fdN ["m", "many"] spNext := (ok_next FN T.toTxt).mono (by decide)
  have GM : FnOk P w K mg base CX0 2 fM fdM ["m", "many"] spNamesV := ok_namesV FM T.toTxtN FN bN
  refine F.ok scSt (fun vs H Q E h => ?_) (fun cdv A outer s H vs Q E hr h => ?_)
  · obtain ⟨m, l, n, rfl, _⟩ := h
    rfl
  · obtain ⟨m, l, n, rfl, M, hn, q⟩ := h
    refine ⟨_, pss_cons (ps_set (i := 1) scSt.nd rfl (by first | exact Or.inl rfl | exact Or.inr rfl) (pe_lst (pa_cons (pe_tup (pa_cons pe_int pa_nil)) (pa_cons (pe_tup (pa_cons pe_int pa_nil)) (pa_cons (pe_tup (pa_cons pe_int pa_nil)) (pa_cons (pe_tup (pa_cons pe_int (pa_cons pe_int pa_nil))) (pa_cons (pe_tup (pa_cons pe_int (pa_cons pe_int pa_nil))) (pa_cons (pe_tup (pa_cons pe_int (pa_cons pe_int pa_nil))) (pa_cons (pe_tup (pa_cons pe_int (pa_cons pe_int pa_nil))) (pa_cons (pe_tup (pa_cons pe_int (pa_cons pe_int pa_nil))) (pa_cons (pe_tup (pa_cons pe_int (pa_cons pe_int pa_nil))) (pa_cons (pe_tup (pa_cons pe_int (pa_cons pe_int (pa_cons pe_int pa_nil)))) (pa_cons (pe_tup (pa_cons pe_int (pa_cons pe_int (pa_cons pe_int pa_nil)))) (pa_cons (pe_tup (pa_cons pe_int (pa_cons pe_int (pa_cons pe_int pa_nil)))) pa_nil))))))))))))))
      (pss_cons (ps_set (i := 2) scSt.nd rfl (by first | exact Or.inl rfl | exact Or.inr rfl) (pe_ix ix_list (pv 1) (pe_call GN hr rfl T.next FN.kp bN .nil pass0 (pa_cons (pv 0) (pa_cons pe_int pa_nil))) (fun _ _ => rfl)))
      (pss_one (ps_ret (pe_callTy call_tuple_of (by rfl) T.tuple (by decide +kernel) (pa_cons (pe_lc (own := [("name", 3), ("most", 4)]) (g := gTup K 2 (gCons (gName 3) (gCons (gName 4) gNil))) (by rfl) scSt.nd
        (pi_zm (by rfl) T.zip (pa_cons (pe_call GM hr rfl T.names FM.kp bM .nil pass0 (pa_cons (pv 0) (pa_cons (pe_callB call_len (by rfl) T.len PySem.boot_len (pa_cons (pv 2) pa_nil)) pa_nil))) (pa_cons (pv 2) pa_nil)))
        (blkOk_by (own := [("name", 3), ("most", 4)]) (N := NS) (sc := defScope sSettings) (by decide +kernel))
        (fun _ _ _ _ _ => pg_tup rfl (pgs_cons (pg_name (i := 3) scSt.nd rfl (Or.inl rfl)) (pgs_cons (pg_name (i := 4) scSt.nd rfl (Or.inl rfl)) pgs_nil))) (fun _ _ _ _ _ => pts_nil)
        (fun _ _ _ _ _ => pe_tup (pa_cons (pv 3) (pa_cons (pv 4) pa_nil)))) pa_nil))))), ?_⟩
    refine ⟨(by show 1 ≤ sizeLine; decide), fun p1 h1 => ?_⟩
    obtain ⟨G1, e1⟩ : ∃ G, G = upd H p1 (.tup [.int 1]) := ⟨_, rfl⟩
    rw [← e1]
    have s1 : Same H G1 := e1 ▸ Same.upd h1
    have M1 := M.same s1
    have f1 : Fr m l l H G1 := e1 ▸ (Fr.refl M).junk h1
    have a1_1 : MoV G1 p1 := ⟨[1], by rw [e1, upd_same]; rfl, by decide, by decide, by decide, by decide⟩
    refine ⟨(by show 1 ≤ sizeLine; decide), fun p2 h2 => ?_⟩
    obtain ⟨G2, e2⟩ : ∃ G, G = upd G1 p2 (.tup [.int 2]) := ⟨_, rfl⟩
    rw [← e2]
    have s2 : Same G1 G2 := e2 ▸ Same.upd h2
    have M2 := M1.same s2
    have f2 : Fr m l l H G2 := e2 ▸ f1.junk h2
    have a2_2 : MoV G2 p2 := ⟨[2], by rw [e2, upd_same]; rfl, by decide, by decide, by decide, by decide⟩
    have a1_2 := a1_1.same s2
    refine ⟨(by show 1 ≤ sizeLine; decide), fun p3 h3 => ?_⟩
    obtain ⟨G3, e3⟩ : ∃ G, G = upd G2 p3 (.tup [.int 3]) := ⟨_, rfl⟩
    rw [← e3]
    have s3 : Same G2 G3 := e3 ▸ Same.upd h3
    have M3 := M2.same s3
    have f3 : Fr m l l H G3 := e3 ▸ f2.junk h3
    have a3_3 : MoV G3 p3 := ⟨[3], by rw [e3, upd_same]; rfl, by decide, by decide, by decide, by decide⟩
    have a1_3 := a1_2.same s3
    have a2_3 := a2_2.same s3
    refine ⟨(by show 2 ≤ sizeLine; decide), fun p4 h4 => ?_⟩
    obtain ⟨G4, e4⟩ : ∃ G, G = upd G3 p4 (.tup [.int 1, .int 1]) := ⟨_, rfl⟩
    rw [← e4]
    have s4 : Same G3 G4 := e4 ▸ Same.upd h4
    have M4 := M3.same s4
    have f4 : Fr m l l H G4 := e4 ▸ f3.junk h4
    have a4_4 : MoV G4 p4 := ⟨[1, 1], by rw [e4, upd_same]; rfl, by decide, by decide, by decide, by decide⟩
    have a1_4 := a1_3.same s4
    have a2_4 := a2_3.same s4
    have a3_4 := a3_3.same s4
    refine ⟨(by show 2 ≤ sizeLine; decide), fun p5 h5 => ?_⟩
    obtain ⟨G5, e5⟩ : ∃ G, G = upd G4 p5 (.tup [.int 1, .int 2]) := ⟨_, rfl⟩
    rw [← e5]
    have s5 : Same G4 G5 := e5 ▸ Same.upd h5
    have M5 := M4.same s5
    have f5 : Fr m l l H G5 := e5 ▸ f4.junk h5
    have a5_5 : MoV G5 p5 := ⟨[1, 2], by rw [e5, upd_same]; rfl, by decide, by decide, by decide, by decide⟩
    have a1_5 := a1_4.same s5
    have a2_5 := a2_4.same s5
    have a3_5 := a3_4.same s5
    have a4_5 := a4_4.same s5
    refine ⟨(by show 2 ≤ sizeLine; decide), fun p6 h6 => ?_⟩
    obtain ⟨G6, e6⟩ : ∃ G, G = upd G5 p6 (.tup [.int 2, .int 1]) := ⟨_, rfl⟩
    rw [← e6]
    have s6 : Same G5 G6 := e6 ▸ Same.upd h6
    have M6 := M5.same s6
    have f6 : Fr m l l H G6 := e6 ▸ f5.junk h6
    have a6_6 : MoV G6 p6 := ⟨[2, 1], by rw [e6, upd_same]; rfl, by decide, by decide, by decide, by decide⟩
    have a1_6 := a1_5.same s6
    have a2_6 := a2_5.same s6
    have a3_6 := a3_5.same s6
    have a4_6 := a4_5.same s6
    have a5_6 := a5_5.same s6
    refine ⟨(by show 2 ≤ sizeLine; decide), fun p7 h7 => ?_⟩
    obtain ⟨G7, e7⟩ : ∃ G, G = upd G6 p7 (.tup [.int 2, .int 2]) := ⟨_, rfl⟩
    rw [← e7]
    have s7 : Same G6 G7 := e7 ▸ Same.upd h7
    have M7 := M6.same s7
    have f7 : Fr m l l H G7 := e7 ▸ f6.junk h7
    have a7_7 : MoV G7 p7 := ⟨[2, 2], by rw [e7, upd_same]; rfl, by decide, by decide, by decide, by decide⟩
    have a1_7 := a1_6.same s7
    have a2_7 := a2_6.same s7
    have a3_7 := a3_6.same s7
    have a4_7 := a4_6.same s7
    have a5_7 := a5_6.same s7
    have a6_7 := a6_6.same s7
    refine ⟨(by show 2 ≤ sizeLine; decide), fun p8 h8 => ?_⟩
    obtain ⟨G8, e8⟩ : ∃ G, G = upd G7 p8 (.tup [.int 1, .int 3]) := ⟨_, rfl⟩
    rw [← e8]
    have s8 : Same G7 G8 := e8 ▸ Same.upd h8
    have M8 := M7.same s8
    have f8 : Fr m l l H G8 := e8 ▸ f7.junk h8
    have a8_8 : MoV G8 p8 := ⟨[1, 3], by rw [e8, upd_same]; rfl, by decide, by decide, by decide, by decide⟩
    have a1_8 := a1_7.same s8
    have a2_8 := a2_7.same s8
    have a3_8 := a3_7.same s8
    have a4_8 := a4_7.same s8
    have a5_8 := a5_7.same s8
    have a6_8 := a6_7.same s8
    have a7_8 := a7_7.same s8
    refine ⟨(by show 2 ≤ sizeLine; decide), fun p9 h9 => ?_⟩
    obtain ⟨G9, e9⟩ : ∃ G, G = upd G8 p9 (.tup [.int 3, .int 2]) := ⟨_, rfl⟩
    rw [← e9]
    have s9 : Same G8 G9 := e9 ▸ Same.upd h9
    have M9 := M8.same s9
    have f9 : Fr m l l H G9 := e9 ▸ f8.junk h9
    have a9_9 : MoV G9 p9 := ⟨[3, 2], by rw [e9, upd_same]; rfl, by decide, by decide, by decide, by decide⟩
    have a1_9 := a1_8.same s9
    have a2_9 := a2_8.same s9
    have a3_9 := a3_8.same s9
    have a4_9 := a4_8.same s9
    have a5_9 := a5_8.same s9
    have a6_9 := a6_8.same s9
    have a7_9 := a7_8.same s9
    have a8_9 := a8_8.same s9
    refine ⟨(by show 3 ≤ sizeLine; decide), fun p10 h10 => ?_⟩
    obtain ⟨G10, e10⟩ : ∃ G, G = upd G9 p10 (.tup [.int 1, .int 1, .int 1]) := ⟨_, rfl⟩
    rw [← e10]
    have s10 : Same G9 G10 := e10 ▸ Same.upd h10
    have M10 := M9.same s10
    have f10 : Fr m l l H G10 := e10 ▸ f9.junk h10
    have a10_10 : MoV G10 p10 := ⟨[1, 1, 1], by rw [e10, upd_same]; rfl, by decide, by decide, by decide, by decide⟩
    have a1_10 := a1_9.same s10
    have a2_10 := a2_9.same s10
    have a3_10 := a3_9.same s10
    have a4_10 := a4_9.same s10
    have a5_10 := a5_9.same s10
    have a6_10 := a6_9.same s10
    have a7_10 := a7_9.same s10
    have a8_10 := a8_9.same s10
    have a9_10 := a9_9.same s10
    refine ⟨(by show 3 ≤ sizeLine; decide), fun p11 h11 => ?_⟩
    obtain ⟨G11, e11⟩ : ∃ G, G = upd G10 p11 (.tup [.int 1, .int 2, .int 1]) := ⟨_, rfl⟩
    rw [← e11]
    have s11 : Same G10 G11 := e11 ▸ Same.upd h11
    have M11 := M10.same s11
    have f11 : Fr m l l H G11 := e11 ▸ f10.junk h11
    have a11_11 : MoV G11 p11 := ⟨[1, 2, 1], by rw [e11, upd_same]; rfl, by decide, by decide, by decide, by decide⟩
    have a1_11 := a1_10.same s11
    have a2_11 := a2_10.same s11
    have a3_11 := a3_10.same s11
    have a4_11 := a4_10.same s11
    have a5_11 := a5_10.same s11
    have a6_11 := a6_10.same s11
    have a7_11 := a7_10.same s11
    have a8_11 := a8_10.same s11
    have a9_11 := a9_10.same s11
    have a10_11 := a10_10.same s11
    refine ⟨(by show 3 ≤ sizeLine; decide), fun p12 h12 => ?_⟩
    obtain ⟨G12, e12⟩ : ∃ G, G = upd G11 p12 (.tup [.int 1, .int 1, .int 2]) := ⟨_, rfl⟩
    rw [← e12]
    have s12 : Same G11 G12 := e12 ▸ Same.upd h12
    have M12 := M11.same s12
    have f12 : Fr m l l H G12 := e12 ▸ f11.junk h12
    have a12_12 : MoV G12 p12 := ⟨[1, 1, 2], by rw [e12, upd_same]; rfl, by decide, by decide, by decide, by decide⟩
    have a1_12 := a1_11.same s12
    have a2_12 := a2_11.same s12
    have a3_12 := a3_11.same s12
    have a4_12 := a4_11.same s12
    have a5_12 := a5_11.same s12
    have a6_12 := a6_11.same s12
    have a7_12 := a7_11.same s12
    have a8_12 := a8_11.same s12
    have a9_12 := a9_11.same s12
    have a10_12 := a10_11.same s12
    have a11_12 := a11_11.same s12
    refine ⟨(by show 12 ≤ sizeLine; decide), fun D hD => ?_⟩
    obtain ⟨G, eG⟩ : ∃ G, G = upd G12 D (.lst [.ref p1, .ref p2, .ref p3, .ref p4, .ref p5, .ref p6, .ref p7, .ref p8, .ref p9, .ref p10, .ref p11, .ref p12]) := ⟨_, rfl⟩
    rw [← eG]
    have sG : Same G12 G := eG ▸ Same.upd hD
    have nD := M12.ne hD
    have MG := M12.same sG
    have fG : Fr m l l H G := eG ▸ f12.junk hD
    have gD : G D = some (.lst [.ref p1, .ref p2, .ref p3, .ref p4, .ref p5, .ref p6, .ref p7, .ref p8, .ref p9, .ref p10, .ref p11, .ref p12]) := by rw [eG, upd_same]
    have pick : ∀ r : Int, 0 ≤ r → r < 12 → ∃ a, atI ([.ref p1, .ref p2, .ref p3, .ref p4, .ref p5, .ref p6, .ref p7, .ref p8, .ref p9, .ref p10, .ref p11, .ref p12] : List V) r = some (.ref a) ∧ MoV G a := by
      intro r h0 h1
      obtain ⟨j, rfl⟩ : ∃ j : Nat, r = (j : Int) := ⟨r.toNat, by omega⟩
      have hj : j < 12 := by omega
      match j, hj with
      | 0, _ => exact ⟨p1, rfl, a1_12.same sG⟩
      | 1, _ => exact ⟨p2, rfl, a2_12.same sG⟩
      | 2, _ => exact ⟨p3, rfl, a3_12.same sG⟩
      | 3, _ => exact ⟨p4, rfl, a4_12.same sG⟩
      | 4, _ => exact ⟨p5, rfl, a5_12.same sG⟩
      | 5, _ => exact ⟨p6, rfl, a6_12.same sG⟩
      | 6, _ => exact ⟨p7, rfl, a7_12.same sG⟩
      | 7, _ => exact ⟨p8, rfl, a8_12.same sG⟩
      | 8, _ => exact ⟨p9, rfl, a9_12.same sG⟩
      | 9, _ => exact ⟨p10, rfl, a10_12.same sG⟩
      | 10, _ => exact ⟨p11, rfl, a11_12.same sG⟩
      | 11, _ => exact ⟨p12, rfl, a12_12.same sG⟩
    clear e1 s1 M1 f1 e2 s2 M2 f2 e3 s3 M3 f3 e4 s4 M4 f4 e5 s5 M5 f5 e6 s6 M6 f6 e7 s7 M7 f7 e8 s8 M8 f8 e9 s9 M9 f9 e10 s10 M10 f10 e11 s11 M11 f11 a1_1 a1_2 a2_2 a1_3 a2_3 a3_3 a1_4 a2_4 a3_4 a4_4 a1_5 a2_5 a3_5 a4_5 a5_5 a1_6 a2_6 a3_6 a4_6 a5_6 a6_6 a1_7 a2_7 a3_7 a4_7 a5_7 a6_7 a7_7 a1_8 a2_8 a3_8 a4_8 a5_8 a6_8 a7_8 a8_8 a1_9 a2_9 a3_9 a4_9 a5_9 a6_9 a7_9 a8_9 a9_9 a1_10 a2_10 a3_10 a4_10 a5_10 a6_10 a7_10 a8_10 a9_10 a10_10 a1_11 a2_11 a3_11 a4_11 a5_11 a6_11 a7_11 a8_11 a9_11 a10_11 a11_11 a1_12 a2_12 a3_12 a4_12 a5_12 a6_12 a7_12 a8_12 a9_12 a10_12 a11_12 a12_12
    refine ⟨_, rfl, _, rfl, m, l, n, 12, rfl, MG, by omega, by decide, by decide, fun r l1 H1 r0 r1 M1 f1' => ?_⟩
    obtain ⟨a, ha, mo⟩ := pick r r0 r1
    refine ⟨D, _, r, .ref a, rfl, rfl, SqL.of (f1'.keep D _ gD nD.1 nD.2), ha, ?_⟩
    obtain ⟨ms, hms, ml1, ml3, msok, mfew⟩ := mo
    have am : a ≠ m ∧ a ≠ l := by
      obtain ⟨c, cs, ls, z, dm, dc, dl, _⟩ := MG.ex
      exact ⟨ne_of hms dm (by intro q; cases q), ne_of hms dl (by intro q; cases q)⟩
    have ka : H1 a = some (.tup (ms.map V.int)) := f1'.keep a _ hms am.1 am.2
    have F1 : Fr m l l1 H H1 := fG.trans f1'
    clear pick gD eG sG MG fG hD e12 s12 M12 f12 h12 h11 h10 h9 h8 h7 h6 h5 h4 h3 h2 h1 ha f1' hms
    have lenA : ((ms.map V.int).length : Nat) = ms.length := List.length_map ..
    refine ⟨_, rfl, _, rfl, _, _, rfl, .inr ⟨_, SqT.of ka, rfl⟩, ?_⟩
    refine ⟨m, l1, n + 1, (ms.map V.int).length, rfl, M1, by omega, by omega, by omega, fun N ys l2 H2 hN gN yl yn yo nm nl M2 f2 => ?_⟩
    have F2 := F1.trans f2
    have ka2 : H2 a = some (.tup (ms.map V.int)) := f2.keep a _ ka am.1 (by
      obtain ⟨c, cs, ls, z, dm, dc, dl, _⟩ := M1.ex
      exact ne_of ka dl (by intro q; cases q))
    refine ⟨_, rfl, N, a, _, _, rfl, SqL.of gN, .inl (.inl ka2), fun D2 hD2 => ?_⟩
    have yl' : ys.length = ms.length := yl.trans lenA
    refine lc_it (walk_zm (xs := ys.map V.str) (ys := ms.map V.int) (n := ms.length) (by simp [yl'])) (fun i H3 => ∃ as : List Addr, as.length = i ∧ Prs H3 as ((ys.zip ms).take i) ∧ (∀ b ∈ as, b ≠ D2) ∧ H3 D2 = some (.lst (as.map V.ref)) ∧ Same H2 H3)
      ⟨[], rfl, .nil, (fun _ hb => nomatch hb), upd_same, Same.upd hD2⟩ (fun i H3 _ ⟨as, _, _, _, _, s3⟩ => ⟨SqL.of (s3 _ _ gN), SqT.of (s3 _ _ ka2)⟩) ?_ ?_
    · rintro i x H3 H4 hi ⟨as, al, pr, nd, gd, s3⟩ ⟨T, x1, x2, rfl, hT, rfl, e1, e2⟩
      have hy : i < ys.length := by omega
      have e1' : x1 = .str ys[i] := by simp [hy] at e1; exact e1.symm
      have e2' : x2 = .int ms[i] := by simp [hi] at e2; exact e2.symm
      subst e1' e2'
      refine ⟨T, _, rfl, .inl (.inl upd_same), rfl, _, _, rfl, _, _, rfl, rfl, rfl, tyes ?_⟩
      refine ⟨_, rfl, _, rfl, (by show 2 ≤ sizeLine; decide), fun p hp => ?_⟩
      have sT : Same H3 (upd H3 T (.tup [.str ys[i], .int ms[i]])) := Same.upd hT
      have sp : Same (upd H3 T (.tup [.str ys[i], .int ms[i]])) (upd (upd H3 T (.tup [.str ys[i], .int ms[i]])) p (.tup [.str ys[i], .int ms[i]])) := Same.upd hp
      have nDp : p ≠ D2 := fun e => by rw [e, sT _ _ gd] at hp; cases hp
      refine ⟨_, sp _ _ (sT _ _ gd), small1000 (by rw [List.length_map]; omega), as ++ [p], by simp [al], ?_, ?_, ?_, ?_⟩
      · rw [List.take_succ]
        have ez : (ys.zip ms)[i]? = some (ys[i], ms[i]) := by rw [List.getElem?_zip_eq_some]; exact ⟨List.getElem?_eq_getElem hy, List.getElem?_eq_getElem hi⟩
        rw [ez]
        refine Prs.snoc (Prs.same (fun b o hb e => ?_) pr) ?_
        · rw [upd_ne (nd b hb)]; exact sp _ _ (sT _ _ e)
        · rw [upd_ne nDp, upd_same]
      · intro b hb
        rcases List.mem_append.mp hb with hb | hb
        · exact nd b hb
        · rw [List.mem_singleton.mp hb]; exact nDp
      · rw [upd_same, List.map_append]; rfl
      · intro b o e
        have nb : b ≠ D2 := ne_of_none e hD2
        rw [upd_ne nb]; exact sp _ _ (sT _ _ (s3 _ _ e))
    · rintro H3 ⟨as, al, pr, nd, gd, s3⟩
      have lz : (ys.zip ms).length = ms.length := by simp [yl']
      rw [List.take_of_length_le (by omega)] at pr
      refine ⟨D2, _, rfl, .inl ⟨SqL.of gd, fun p hp => ?_⟩⟩
      have sp : Same H3 (upd H3 p (.tup (as.map V.ref))) := Same.upd hp
      have so : SetOk (ys.zip ms) := by
        refine ⟨by omega, by omega, fun y hy => yo _ (List.of_mem_zip hy).1, fun y hy => msok _ (List.of_mem_zip hy).2, by rw [zip_fst ys ms yl']; exact yn, ?_⟩
        unfold many
        rw [zip_many ys ms 1 yl']; exact mfew
      exact q p as (ys.zip ms) l2 _ upd_same (pr.same fun b o _ e => sp b o e) so ((((M2.same s3).same sp)).mono (by omega)) ((F2.trail s3).trail sp)
end
end Ms
namespace Ms
open PySem PySem.Spec PyProof.Rows L2 RZ
/-! ### is_standing, need_standing of the package -/
theorem walk_zt {K : PySem.W.Frag} {a b : Addr} {xs ys : List V} {n : Nat} (hn : n = min xs.length ys.length) : Walk (ItzT K a b) n (fun H => SqT K H a xs ∧ SqT K H b ys) (YPair (fun i => xs[i]?) (fun i => ys[i]?)) := by
  subst hn
  refine ⟨fun i H hi q => ?_, fun H q => ?_, fun i H x H' hi q y => ?_⟩
  · have h1 : i < xs.length := by omega
    have h2 : i < ys.length := by omega
    exact ⟨xs, ys, _, _, q.1, q.2, List.getElem?_eq_getElem h1, List.getElem?_eq_getElem h2⟩
  · exact ⟨xs, ys, q.1, q.2, by omega⟩
  · obtain ⟨T, x', z, h1, h2, h3, h4, h5⟩ := y
    exact ⟨T, x', z, h1, h2, h3, h4 xs q.1, h5 ys q.2⟩
/-- a standing of the settings, told of any data -/
def standD (qs : List (Str × Int)) (d : PyData) : Bool := match d with
  | .tuple ds => decide (ds.length = qs.length) && (ds.zip qs).all fun p => isWhole p.1 0 p.2.2
  | _ => false
section
variable {P : Program} {w : World} {K : PySem.W.Frag} {mg : Str → Option Value} {base : Heap} {fI fN fS fA fG fSt fNs C fE : Addr}
abbrev NSt : List Str := ["settings", "thing", "value", "name", "most"]
theorem scSd : FnScope NSt ["settings", "thing"] (defScope sPStand) := ⟨rfl, rfl, rfl, by decide +kernel, rfl, by decide +kernel, by decide +kernel⟩
def spPStand (K : PySem.W.Frag) : Sp := fun vs H Q _ => ∃ (m l a : Addr) (xs : List V) (qs : List (Str × Int)) (v : V) (d : PyData), vs = [.ref a, v] ∧ SqT K H a xs ∧ PrTs K H xs qs ∧ qs.length ≤ 900 ∧ Dq K H m l v d ∧ ∀ H', Same H H' → Q (.bl (standD qs d)) H'
theorem ok_pstand {f : Addr} {fd fdI : FuncData} (F : Fun K "is_standing" "is_standing" sPStand f fd) (T : TxtI mg fI) (hz : mg "zip" = none) (FI : Fun K "is_int" "is_int" sPInt fI fdI) (bI : Binds K fdI ["thing"] []) : FnOk P w K mg base CX0 2 f fd ["settings", "thing"] (spPStand K) := by
  have GI : FnOk P w K mg base CX0 1 fI fdI ["thing"] (spPInt K) := ok_pint FI T
  refine F.ok scSd (fun vs H Q E h => ?_) (fun cdv A outer s H vs Q E hr h => ?_)
  · obtain ⟨m, l, a, xs, qs, v, d, rfl, _⟩ := h
    rfl
  obtain ⟨m, l, a, xs, qs, v, d, rfl, hs, hp, hl, hd, q⟩ := h
  have lx := hp.len
  refine ⟨_, pss_cons (ps_if (PW.pt (pw_or (pt_not (pt_val (pe_callB call_isi (by rfl) T.isi PyProof.Rows.boot_isinstance (pa_cons (pv 1) (pa_cons (pe_bltn (v := .ty "tuple") (u := .type "tuple") (by rfl) T.tuple (by decide +kernel) rfl) pa_nil)))))
      (pw_or1 (pt_cmpR op_ne (pe_callB call_len (by rfl) T.len PySem.boot_len (pa_cons (pv 1) pa_nil)) (pe_callB call_len (by rfl) T.len PySem.boot_len (pa_cons (pv 0) pa_nil)) (nomark _))))) (pss_one (ps_ret pe_bl)) pss_nil)
    (pss_cons (ps_for PassesOwn.never rfl (pi_zipA (by rfl) hz (pa_cons (pv 1) (pa_cons (pv 0) pa_nil)))
        (pg_tup rfl (pgs_cons (pg_name (i := 2) scSd.nd rfl (Or.inl rfl)) (pgs_cons (pg_tup rfl (pgs_cons (pg_name (i := 3) scSd.nd rfl (Or.inl rfl)) (pgs_cons (pg_name (i := 4) scSd.nd rfl (Or.inl rfl)) pgs_nil))) pgs_nil)))
        (pss_one (ps_if (PW.pt (pw_or (pt_not (pt_val (pe_call GI hr (by rfl) T.gI FI.kp bI .nil pass0 (pa_cons (pv 2) pa_nil)))) (pw_or1 (pt_not (pt_chain op_le op_le pe_int (pv 2) (pv 4)))))) (pss_one (ps_ret pe_bl)) pss_nil)))
      (pss_one (ps_ret pe_bl))), ?_⟩
  refine ⟨_, rfl, v, .ty "tuple", _, _, _, rfl, .ty _, hd.ty, isi_tup K d, _, rfl, ?_⟩
  cases d with
  | tuple es =>
    cases hd with
    | tup hq hy =>
      rename_i p ys
      have ly := hy.len
      refine ifF rfl ⟨_, rfl, .ref p, ys.length, rfl, .inr ⟨ys, hq, rfl⟩, _, rfl, .ref a, xs.length, rfl, .inr ⟨xs, hs, rfl⟩, rfl, _, rfl, ?_⟩
      have ee : decide (V.int ((ys.length : Nat) : Int) = V.int ((xs.length : Nat) : Int)) = decide (ys.length = xs.length) := by
        rw [Bool.eq_iff_iff, decide_eq_true_eq, decide_eq_true_eq, V.int.injEq]; omega
      rw [ee]
      by_cases hlen : ys.length = xs.length
      · refine ifF (by rw [decide_eq_true hlen]; rfl) ?_
        have es' : standD qs (.tuple es) = (es.zip qs).all fun p => isWhole p.1 0 p.2.2 := by
          show (decide (es.length = qs.length) && _) = _
          rw [decide_eq_true (by omega)]; rfl
        have lz : (es.zip qs).length = ys.length := by rw [List.length_zip]; omega
        refine ⟨_, rfl, _, rfl, p, a, ys, xs, rfl, .inr ⟨hq, hs, ?_⟩⟩
        refine for_zipT hlen (fun i σ H3 => ∃ v2 v3 v4 : Option V, σ = [some (.ref a), some (.ref p), v2, v3, v4] ∧ Same H H3 ∧ ((es.zip qs).all fun p => isWhole p.1 0 p.2.2) = (((es.zip qs).drop i).all fun p => isWhole p.1 0 p.2.2))
          ⟨none, none, none, rfl, Same.refl H, rfl⟩ (fun i σ H3 ⟨_, _, _, _, s3, _⟩ => ⟨Same.seqT s3 hq, Same.seqT s3 hs⟩) ?_ ?_
        · rintro i x1 y1 TT σ H3 e1 e2 ⟨v2, v3, v4, rfl, s3, g3⟩ hT
          obtain ⟨e, he, dqe⟩ := hy.get e1
          obtain ⟨qq, hqq, b, rfl, hb⟩ := hp.get e2
          have sT : Same H3 (upd H3 TT (.tup [x1, .ref b])) := Same.upd hT
          have s4 := s3.trans sT
          have ez : (es.zip qs)[i]? = some (e, qq) := by
            rw [List.getElem?_zip_eq_some]; exact ⟨he, hqq⟩
          have dr : (es.zip qs).drop i = (e, qq) :: (es.zip qs).drop (i + 1) := by
            obtain ⟨hi, hj⟩ := List.getElem?_eq_some_iff.mp ez
            rw [List.drop_eq_getElem_cons hi, hj]
          rw [dr, List.all_cons] at g3
          have bad : isWhole e 0 qq.2 = false → Q (.bl false) (upd H3 TT (.tup [x1, .ref b])) := fun h => by
            have : standD qs (.tuple es) = false := by rw [es', g3]; show (isWhole e 0 qq.2 && _) = false; rw [h]; rfl
            rw [← this]
            exact q _ s4
          have good : isWhole e 0 qq.2 = true → ((es.zip qs).all fun p => isWhole p.1 0 p.2.2) = (((es.zip qs).drop (i + 1)).all fun p => isWhole p.1 0 p.2.2) := fun h => by
            rw [g3]; show (isWhole e 0 qq.2 && _) = _; rw [h]; rfl
          refine ⟨TT, _, rfl, .inl (.inl upd_same), rfl, _, _, rfl, _, _, rfl, b, _, rfl, Same.seqT s4 hb, rfl, _, _, rfl, _, _, rfl, rfl, rfl, ?_⟩
          refine ⟨_, rfl, m, l, x1, e, rfl, Dq.same s4 e x1 dqe, _, rfl, ?_⟩
          cases e with
          | int j =>
            cases dqe
            refine ifF rfl ⟨_, rfl, 0, j, rfl, rfl, _, rfl, ite_b (fun h2 => ⟨_, rfl, j, qq.2, rfl, rfl, _, rfl, ite_b (fun h3 => bad ?_) (fun h3 => ⟨_, _, _, rfl, s4, good ?_⟩)⟩) (fun h2 => ⟨_, rfl, ifT rfl (bad ?_)⟩)⟩
            · show (decide (0 ≤ j) && decide (j ≤ qq.2)) = false
              have : decide (j ≤ qq.2) = false := by simpa using h3
              rw [this, Bool.and_false]
            · show (decide (0 ≤ j) && decide (j ≤ qq.2)) = true
              have : decide (j ≤ qq.2) = true := by simpa using h3
              rw [h2, this]; rfl
            · show (decide (0 ≤ j) && decide (j ≤ qq.2)) = false
              rw [h2]; rfl
          | _ => exact ifT rfl (bad rfl)
        · rintro σ H3 ⟨v2, v3, v4, rfl, s3, g3⟩
          rw [List.drop_of_length_le (by omega)] at g3
          have : standD qs (.tuple es) = true := by rw [es', g3]; rfl
          rw [← this]
          exact q _ s3
      · have es' : standD qs (.tuple es) = false := by
          show (decide (es.length = qs.length) && _) = false
          rw [decide_eq_false (by omega)]; rfl
        rw [es'] at q
        exact ifT (by rw [decide_eq_false hlen]; rfl) (q H (Same.refl H))
  | _ => exact ifT rfl (ifT rfl (q H (Same.refl H)))
end
end Ms
namespace Ms
open PySem PySem.Spec PyProof.Rows L2 LamX
/-! ### a law's own def that makes lambdas: its table of code objects is told -/
section
variable {P : Program} {w : World} {K : PySem.W.Frag} {mg : Str → Option Value} {base : Heap}
/-- as run_known, and the code object is told -/
theorem run_code {x qual : Str} {st : Stmt} {f : Addr} {fd : FuncData} {N ps : List Str} {k : Nat} (F : Fun K x qual st f fd) (S : FnScope N ps (defScope st))
    {A : Around} {outer : List Env} {s : Shared} {H : Hp} {args : Args} {us : List Value} {vs : List V} {Q : VK} {E : XK}
    (gA : A.guards = some []) (rm : Room (k + 1) A) (st0 : Env0 P w K mg base A outer s H) (bd : BindsTo s fd args (ps.zip us)) (rel : Vals vs us) (ln : vs.length = ps.length)
    (walk : ∀ cdv : Value, fd.code = cdv → Room k (A.deeper (envOfC qual (defScope st) s.heap.objs.size f cdv)) →
      ∃ t, PSs (cxOf CX0 P w K mg base N qual (defScope st) f cdv A outer s H E).nox (defBody st) t ∧ t { nx := fun _ H' => Q .non H', rt := Q } (start N vs) H) :
    codeAny (model P w) A (.call (.ref f) args) (CR CX0 outer P w H s Q E) s := by
  obtain ⟨oc, od, kV, doc, pm, an, cdv0, ct, osl, efd, atK, code⟩ := F.ex
  have ec : fd.code = cdv0 := by rw [efd]
  subst efd
  have inH : K.In s.heap := st0.mod.kin.keeps fun b o q => (st0.bs b o q).1
  have noLim : s.heap.NoLimit := st0.mod.nolimit.keeps fun b o q => (st0.bs b o q).1
  have kinds : ∀ y ∈ ps.zip us, (defScope st).names.lookup y.1 = some .local ∨ ((defScope st).names.lookup y.1 = some .cell ∧ ((cellsFrom (s.heap.objs.size + 1) (defScope st).names []).lookup y.1).isSome = true) := by
    rintro ⟨n, v⟩ hy
    rcases S.par n (List.of_mem_zip hy).1 with z | z
    · exact Or.inl z
    · exact Or.inr ⟨z, PySem.W.cellsFrom_some _ _ _ (.inl z)⟩
  refine codeAny_call_function rm.depth (inH _ _ atK) rfl S.co S.gen rfl (PySem.W.codeRec_of inH code) (bd _ _ _ _ ?_)
  refine wpAny_newFunctionEnv_cells S.kind kinds fun env eq s1 inC => ?_
  subst eq
  refine And.intro (noLim.keeps inC.toInCall.keep) (codeAny_func ?_)
  obtain ⟨t, derives, reads⟩ := walk cdv0 ec (rm.deeper _)
  have I := inv_start (CX := CX0) (P := P) (mg := mg) (base := base) (E := E) S rm.hd st0 ln rel inC
  refine wpAny_mono (derives.nox.run [] s1 (start N vs) H _ I reads) (fun fl s' hs => ?_) fun e s' hs => hs
  cases fl with
  | ret u =>
    obtain ⟨v, σ', H', J, rv, q⟩ := hs
    exact ⟨v, H', J.os, J.bare, J.base, J.hok, rv, q⟩
  | next =>
    obtain ⟨σ', H', J, q⟩ := hs
    exact ⟨V.non, H', J.os, J.bare, J.base, J.hok, rfl, q⟩
  | brk => obtain ⟨_, _, _, q⟩ := hs; exact q.elim
  | cont => obtain ⟨_, _, _, q⟩ := hs; exact q.elim

/-- as LawRun; c the law's code object, T its table, empty as yet -/
def LawRunT (P : Program) (w : World) (K : PySem.W.Frag) (mg : Str → Option Value) (fa c T : Addr) : Prop :=
  ∀ (base : Heap) (H : Hp) (s : Shared) (a : Addr) (ns : List Int), K.In base → base.Ns mainGlobals mg → TabB base mg c T → H T = some (.tbl #[]) → SqL K H a (ns.map V.int) → ns.length ≤ 63 → Env0 P w K mg base callerA [] s H →
    codeAny (model P w) callerA (.call (.ref fa) ⟨[.ref a], []⟩) (CR CX0 [] P w H s (fun v _ => v = .bl true) fun _ _ _ => False) s
/-- the script and the table stand alone in the heap that is told -/
structure AloneT (H : Hp) (h : Heap) (K : PySem.W.Frag) (a T : Addr) : Prop where
  only : ∀ b, H b = none ∨ b = T ∨ ∃ ob xs, H b = some (.frz ob (.lst xs))
  here : ∀ b, H b ≠ none → b = a ∨ b = T
  off : H a ≠ none → K.lookup a = none
  offT : K.lookup T = none
  tab : h.get? T = some { cls := .none, data := .fields #[] }
  told : H T = some (.tbl #[])
section
variable {H : Hp} {h : Heap} {a c T : Addr} {vs : Array Value}
theorem AloneT.hidden (x : AloneT H h K a T) (ea : h.get? a = some { cls := .type "list", data := .seq vs }) {b : Addr} {o : Obj} (e : h.get? b = some o) (d1 : o.data ≠ .seq vs) (d2 : o.data ≠ .fields #[]) : H b = none := by
  cases q : H b with
  | none => rfl
  | some u =>
    rcases x.here b (by rw [q]; exact fun z => nomatch z) with z | z
    · subst z
      rw [ea] at e
      cases e
      exact absurd rfl d1
    · subst z
      rw [x.tab] at e
      cases e
      exact absurd rfl d2
theorem AloneT.get (x : AloneT H h K a T) (ea : h.get? a = some { cls := .type "list", data := .seq vs }) {b : Addr} {o : Obj} (e : h.get? b = some o) (d1 : o.data ≠ .seq vs) (d2 : o.data ≠ .fields #[]) : (hidT h H).get? b = some o := hidT_get e (x.hidden ea e d1 d2)
theorem AloneT.ns (x : AloneT H h K a T) (ea : h.get? a = some { cls := .type "list", data := .seq vs }) {b : Addr} {m : Str → Option Value} (n : h.Ns b m) : (hidT h H).Ns b m := by
  obtain ⟨o, es, ep, e, d, r⟩ := n
  refine ⟨o, es, ep, x.get ea e ?_ ?_, d, r⟩ <;> (rw [d]; intro z; cases z)
theorem AloneT.kin (x : AloneT H h K a T) (X : K.In h) : K.In (hidT h H) := fun b o e => by
  refine hidT_get (X b o e) ?_
  cases q : H b with
  | none => rfl
  | some u =>
    rcases x.here b (by rw [q]; exact fun z => nomatch z) with z | z
    · subst z
      rw [x.off (by rw [q]; exact fun z => nomatch z)] at e
      cases e
    · subst z
      rw [x.offT] at e
      cases e
theorem AloneT.hd (x : AloneT H h K a T) (ea : h.get? a = some { cls := .type "list", data := .seq vs }) (C : PySem.W.CodeHd h c T) : PySem.W.CodeHd (hidT h H) c T := by
  obtain ⟨o, us, f, tf, g, tg, inF, n, tt, e, r1, r2, r3, r⟩ := C
  refine ⟨o, us, f, tf, g, tg, inF, n, tt, x.get ea e ?_ ?_, r1, r2, r3, r⟩
  · rw [r2]; intro z; cases z
  · intro z
    rw [r2] at z
    cases z
    simp at r3
end
theorem law_told {fa a c T : Addr} {s : Shared} {vs : List Value} {ns : List Int} {mb : Str → Option Value} {H : Hp} (R : LawRunT P w K mg fa c T) (al : AloneT H s.heap K a T)
    (X : K.In s.heap) (g : s.heap.Ns mainGlobals mg) (b : s.heap.Ns builtinsNs mb) (bb : ∀ x : Str, x ≠ "__name__" → mb x = bootBuiltins x) (lim : s.heap.NoLimit) (gs : s.gens = #[]) (C : PySem.W.CodeHd s.heap c T)
    (bm : ∃ (bm : Addr) (ob : Obj), mg "__builtins__" = some (.ref bm) ∧ bm ≠ builtinsNs ∧ s.heap.get? bm = some ob ∧ ob.cls = .type "module" ∧ ob.dict = some builtinsNs ∧ ob.data = .plain)
    (ea : s.heap.get? a = some { cls := .type "list", data := .seq vs.toArray }) (hS : SqL K H a (ns.map V.int)) (hl : ns.length ≤ 63) (ok : HOk P w H s.heap) :
    codeAny (model P w) callerA (.call (.ref fa) ⟨[.ref a], []⟩) (fun r s' => r = .ok (.ret (.bool true)) ∧ OldK s.heap s'.heap ∧ s'.os = s.os ∧ AllBare s'.gens) s := by
  have gT : mainGlobals ≠ T := fun z => by
    obtain ⟨o, es, ep, e, d, _⟩ := g
    rw [z, al.tab] at e
    cases e
    cases d
  have M : L2.Mod K mg (hidT s.heap H) := by
    refine ⟨al.kin X, al.ns ea g, ⟨mb, al.ns ea b, bb⟩, ?_⟩
    obtain ⟨mc, l1, l2⟩ := lim
    exact ⟨mc, al.ns ea l1, l2⟩
  have TB : TabB (hidT s.heap H) mg c T := by
    refine ⟨al.hd ea C, ?_, gT⟩
    obtain ⟨q, ob, b1, b2, b3, b4, b5, b6⟩ := bm
    have nG : q ≠ mainGlobals := fun z => by
      obtain ⟨o, es, ep, e, d, _⟩ := g
      rw [z, e] at b3
      cases b3
      rw [d] at b6
      cases b6
    have nT : q ≠ T := fun z => by
      rw [z, al.tab] at b3
      cases b3
      cases b6
    refine ⟨q, ob, b1, b2, nG, nT, al.get ea b3 ?_ ?_, b4, b5, b6⟩ <;> (rw [b6]; intro z; cases z)
  have st0 : Env0 P w K mg (hidT s.heap H) callerA [] s H := by
    refine ⟨rfl, M, fun b o e => of_hidT e, Nat.le_of_eq (hidT_size _ _), trivial, fun b hb => ?_, ok, AllBare.of_eq gs⟩
    cases (show b ∈ ([] : List Addr) from hb)
  refine codeAny_mono (R _ H s a ns M.kin M.glob TB al.told hS hl st0) fun r s' q => ?_
  match r, q with
  | .error e, q => exact False.elim q
  | .ok (.next), q => exact False.elim q
  | .ok (.brk), q => exact False.elim q
  | .ok (.cont), q => exact False.elim q
  | .ok (.ret u), q =>
    obtain ⟨v, H', eos, bare, un, ok', rv, qv⟩ := q
    have qv' : v = .bl true := qv
    subst qv'
    obtain rfl : u = Value.bool true := rv
    obtain ⟨more, hm⟩ := un.tbls T #[] al.told
    have eT : s'.heap.get? T = some { cls := .none, data := .fields (#[] ++ more) } := ok' T _ hm
    have other : ∀ b o, b ≠ T → s.heap.get? b = some o → s'.heap.get? b = some o := fun b o nb e => by
      rcases al.only b with z | z | ⟨ob, xs, z⟩
      · exact un.keep b o e z (fun y => by cases (show b ∈ ([] : List Addr) from y)) (by simp)
      · exact absurd z nb
      · have h1 := (ok b _ z).1
        have h2 := (ok' b _ (un.frzs b ob _ z)).1
        rw [e] at h1
        cases h1
        exact h2
    refine And.intro rfl (And.intro ⟨fun b o e => ?_, fun b o e => ?_⟩ (And.intro eos bare))
    · by_cases hb : b = T
      · subst hb
        rw [al.tab] at e
        cases e
        exact .inr (.inl ⟨(C.tab al.tab).isCodeTable, rfl, #[], more, rfl, eT⟩)
      · exact .inl (other b o hb e)
    · by_cases hb : b = T
      · subst hb
        exact ⟨_, eT⟩
      · exact ⟨o, other b o hb e⟩
theorem law_tabled {fa a c T : Addr} {s : Shared} {vs : List Value} {ns : List Int} {mb : Str → Option Value} (R : LawRunT P w K mg fa c T)
    (X : K.In s.heap) (g : s.heap.Ns mainGlobals mg) (b : s.heap.Ns builtinsNs mb) (bb : ∀ x : Str, x ≠ "__name__" → mb x = bootBuiltins x) (lim : s.heap.NoLimit) (gs : s.gens = #[]) (C : PySem.W.CodeHd s.heap c T)
    (bm : ∃ (bm : Addr) (ob : Obj), mg "__builtins__" = some (.ref bm) ∧ bm ≠ builtinsNs ∧ s.heap.get? bm = some ob ∧ ob.cls = .type "module" ∧ ob.dict = some builtinsNs ∧ ob.data = .plain)
    (et : s.heap.get? T = some { cls := .none, data := .fields #[] }) (nt : K.lookup T = none)
    (ea : s.heap.get? a = some { cls := .type "list", data := .seq vs.toArray }) (hi : IntsAre vs ns) (hl : ns.length ≤ 63) :
    codeAny (model P w) callerA (.call (.ref fa) ⟨[.ref a], []⟩) (fun r s' => r = .ok (.ret (.bool true)) ∧ OldK s.heap s'.heap ∧ s'.os = s.os ∧ AllBare s'.gens) s := by
  have rel := vals_ints hi
  have ll := hi.length
  have hl2 : ns.length ≤ sizeLine := Nat.le_trans hl (by decide)
  have naT : a ≠ T := fun z => by
    rw [z, et] at ea
    cases ea
  cases lk : K.lookup a with
  | some o =>
    have e := X a o lk
    rw [ea] at e
    cases e
    let H0 : Hp := fun b => if b = T then some (.tbl #[]) else Option.none
    have hT : H0 T = some (.tbl #[]) := if_pos rfl
    have hN : ∀ b, b ≠ T → H0 b = none := fun b hb => if_neg hb
    refine law_told (H := H0) R ⟨fun b => ?_, fun b z => ?_, fun z => absurd (hN a naT) z, nt, et, hT⟩ X g b bb lim gs C bm ea ?_ hl (fun b u z => ?_)
    · by_cases hb : b = T
      · exact .inr (.inl hb)
      · exact .inl (hN b hb)
    · by_cases hb : b = T
      · exact .inr hb
      · exact absurd (hN b hb) z
    · refine .inr ⟨_, vs.toArray, _, lk, rfl, rfl, rfl, ?_, by simpa using rel⟩
      rw [List.size_toArray, ll]
      exact hl2
    · by_cases hb : b = T
      · subst hb
        rw [hT] at z
        cases z
        exact et
      · rw [hN b hb] at z
        cases z
  | none =>
    let o0 : HO := .frz { cls := .type "list", data := .seq vs.toArray } (.lst (ns.map V.int))
    let H0 : Hp := fun b => if b = a then some o0 else if b = T then some (.tbl #[]) else Option.none
    have hA : H0 a = some o0 := if_pos rfl
    have hT : H0 T = some (.tbl #[]) := (if_neg (Ne.symm naT)).trans (if_pos rfl)
    have hN : ∀ b, b ≠ a → b ≠ T → H0 b = none := fun b h1 h2 => (if_neg h1).trans (if_neg h2)
    refine law_told (H := H0) R ⟨fun b => ?_, fun b z => ?_, fun _ => lk, nt, et, hT⟩ X g b bb lim gs C bm ea (.inl (.inr ⟨_, hA⟩)) hl (fun b u z => ?_)
    · by_cases h1 : b = a
      · subst h1; exact .inr (.inr ⟨_, _, hA⟩)
      · by_cases hb : b = T
        · exact .inr (.inl hb)
        · exact .inl (hN b h1 hb)
    · by_cases h1 : b = a
      · exact .inl h1
      · by_cases hb : b = T
        · exact .inr hb
        · exact absurd (hN b h1 hb) z
    · by_cases h1 : b = a
      · subst h1
        rw [hA] at z
        cases z
        exact ⟨ea, by rw [List.length_map]; exact hl2, vs, _, rel, ea⟩
      · by_cases hb : b = T
        · subst hb
          rw [hT] at z
          cases z
          exact et
        · rw [hN b h1 hb] at z
          cases z
/-- the end of such a law's row -/
theorem walk_tabled {l : PySem.W.OpenLaw} {q : Program} {loose : List Str} {XP : (Str → Option Value) → Heap → Prop} {YP : World → Heap → Prop} {d : DefRec} {K : Params → PySem.W.Frag} {c T : Addr} (hn : l.most = some 63) (hdf : d.params.defaults = [])
    (hY : ∀ (w : World) (h : Heap), YP w h → (K w.params).In h) (ht : ∀ (w : World) (h : Heap), YP w h → h.get? T = some { cls := .none, data := .fields #[] }) (hc : ∀ w : World, PySem.W.codeHdIn (K w.params) c T = true) (nt : ∀ w : World, (K w.params).lookup T = none)
    (R : ∀ (w : World) (mg : Str → Option Value) (fa : Addr) (h : Heap), (K w.params).In h → h.Ns mainGlobals mg → mg d.name = some (.ref fa) → LawRunT l.prog w (K w.params) mg fa c T) :
    PySem.W.WalkO q loose XP YP l.row.toRowW d [] (fun f vs => PySem.call f vs) := by
  refine Att.attach_call hn hdf fun w s₀ s₁ mg mb fa o pm cd doc a vs ns G Y ho hd hcd hmg hobj hints hlen hg => ?_
  have KX := hY w _ Y
  exact law_tabled (R w mg fa _ KX G.T.g hmg) KX G.T.g G.T.b G.T.builtins G.T.nolimit hg (PySem.W.codeHd_of_K KX (hc w)) G.T.bmain (ht w _ Y) (nt w) hobj hints hlen
end
end Ms
namespace Ms
open PySem PySem.Spec PyProof.Rows L2 LamX
/-! ### data, where the heap is changed elsewhere -/
mutual
theorem Dq.gen {K : PySem.W.Frag} {m l m' l' : Addr} {H H' : Hp} (k1 : ∀ a xs, H a = some (.lst xs) → a ≠ m → a ≠ l → H' a = some (.lst xs) ∧ a ≠ m' ∧ a ≠ l') (k2 : ∀ a xs, SqT K H a xs → SqT K H' a xs)
    (k3 : ∀ a, H a = some (.dK []) → a ≠ m → a ≠ l → H' a = some (.dK []) ∧ a ≠ m' ∧ a ≠ l') : ∀ (d : PyData) (v : V), Dq K H m l v d → Dq K H' m' l' v d
  | .none, _, h => by cases h; exact .non
  | .bool b, _, h => by cases h; exact .bl b
  | .int i, _, h => by cases h; exact .int i
  | .str x, _, h => by cases h; exact .str x
  | .list ds, _, h => by
    cases h with
    | lst e n1 n2 t =>
      obtain ⟨e', n1', n2'⟩ := k1 _ _ e n1 n2
      exact .lst e' n1' n2' (DqAll.gen k1 k2 k3 ds _ t)
  | .tuple ds, _, h => by
    cases h with
    | tup e t => exact .tup (k2 _ _ e) (DqAll.gen k1 k2 k3 ds _ t)
  | .dict _, _, h => by
    cases h with
    | dct e n1 n2 =>
      obtain ⟨e', n1', n2'⟩ := k3 _ e n1 n2
      exact .dct e' n1' n2'
theorem DqAll.gen {K : PySem.W.Frag} {m l m' l' : Addr} {H H' : Hp} (k1 : ∀ a xs, H a = some (.lst xs) → a ≠ m → a ≠ l → H' a = some (.lst xs) ∧ a ≠ m' ∧ a ≠ l') (k2 : ∀ a xs, SqT K H a xs → SqT K H' a xs)
    (k3 : ∀ a, H a = some (.dK []) → a ≠ m → a ≠ l → H' a = some (.dK []) ∧ a ≠ m' ∧ a ≠ l') : ∀ (ds : List PyData) (vs : List V), DqAll K H m l vs ds → DqAll K H' m' l' vs ds
  | [], _, h => by cases h; exact .nil
  | d :: ds, _, h => by
    cases h with
    | cons h1 h2 => exact .cons (Dq.gen k1 k2 k3 d _ h1) (DqAll.gen k1 k2 k3 ds _ h2)
end
section
variable {K : PySem.W.Frag} {H H' : Hp} {m l : Addr}
theorem ExtN.seqT (e : ExtN H H') {a : Addr} {xs : List V} (h : SqT K H a xs) : SqT K H' a xs := by
  rcases h with (h | ⟨o, h⟩) | h
  · exact .inl (.inl (e _ _ h fun _ z => nomatch z))
  · exact .inl (.inr ⟨o, e _ _ h fun _ z => nomatch z⟩)
  · exact .inr h
theorem Dq.ext (e : ExtN H H') {v : V} {d : PyData} (h : Dq K H m l v d) : Dq K H' m l v d :=
  Dq.gen (fun a xs q n1 n2 => ⟨e _ _ q (fun _ z => nomatch z), n1, n2⟩) (fun a xs q => ExtN.seqT e q) (fun a q n1 n2 => ⟨e _ _ q (fun _ z => nomatch z), n1, n2⟩) d v h
theorem Mch.ext {n : Nat} (s : ExtN H H') (M : Mch H m l n) : Mch H' m l n := by
  obtain ⟨c, cs, ls, z, h1, h2, h3, h⟩ := M.ex
  exact ⟨c, cs, ls, z, s _ _ h1 (fun _ z => nomatch z), s _ _ h2 (fun _ z => nomatch z), s _ _ h3 (fun _ z => nomatch z), h⟩
theorem Same.toN (s : Same H H') : ExtN H H' := ExtN.of s
theorem Tabs.same {T : List (Addr × Str)} (t : Tabs T H) (s : Same H H') : Tabs T H' := t.ext s
end
/-! ### a list that is locked while its next item is made -/
section
variable {K : PySem.W.Frag} {H H' : Hp} {m l L : Addr} {n : Nat} {od : Obj} {u o : HO}
theorem upd_frz (h : H L = some (.frz od u)) {b : Addr} {w : HO} (k : ∀ od u, w ≠ .frz od u) (e : H b = some w) : upd H L o b = some w := by
  have nb : b ≠ L := fun z => by
    rw [z, h] at e
    exact k _ _ (Option.some.inj e).symm
  rw [upd_ne nb]; exact e
theorem Mch.unlock (h : H L = some (.frz od u)) (M : Mch H m l n) : Mch (upd H L o) m l n := by
  obtain ⟨c, cs, ls, z, h1, h2, h3, r⟩ := M.ex
  exact ⟨c, cs, ls, z, upd_frz h (fun _ _ z => nomatch z) h1, upd_frz h (fun _ _ z => nomatch z) h2, upd_frz h (fun _ _ z => nomatch z) h3, r⟩
theorem Tabs.unlock {T : List (Addr × Str)} (h : H L = some (.frz od u)) (t : Tabs T H) : Tabs T (upd H L o) := fun p hp => by
  obtain ⟨ps, h1, h2, h3⟩ := t p hp
  refine ⟨ps, upd_frz h (fun _ _ z => nomatch z) h1, h2, fun pos cv hc => ?_⟩
  obtain ⟨c, e1, e2⟩ := h3 pos cv hc
  refine ⟨c, e1, upd_frz h (fun _ _ z => ?_) e2⟩
  unfold CodeO at z
  cases z
theorem Dq.unlock (h : H L = some (.frz od (.lst u'))) {v : V} {d : PyData} (hd : Dq K H m l v d) : Dq K (upd H L o) m l v d := by
  refine Dq.gen (fun a xs q n1 n2 => ⟨upd_frz h (fun _ _ z => nomatch z) q, n1, n2⟩) (fun a xs q => ?_) (fun a q n1 n2 => ⟨upd_frz h (fun _ _ z => nomatch z) q, n1, n2⟩) d v hd
  rcases q with (q | ⟨o', q⟩) | q
  · exact .inl (.inl (upd_frz h (fun _ _ z => nomatch z) q))
  · have q' : H a = some (.frz o' (.tup xs)) := q
    have nb : a ≠ L := fun z => by
      rw [z, h] at q'
      cases q'
    have q2 : upd H L o a = some (.frz o' (.tup xs)) := by rw [upd_ne nb]; exact q'
    exact .inl (.inr ⟨o', q2⟩)
  · exact .inr q
theorem Tabs.fr {T : List (Addr × Str)} {l' : Addr} (M : Mch H m l n) (f : Fr m l l' H H') (t : Tabs T H) : Tabs T H' := fun p hp => by
  obtain ⟨ps, h1, h2, h3⟩ := t p hp
  obtain ⟨c0, cs, ls, z, e1, e2, e3, _⟩ := M.ex
  refine ⟨ps, f.keep _ _ h1 (ne_of h1 e1 (by intro z; cases z)) (ne_of h1 e3 (by intro z; cases z)), h2, fun pos cv hc => ?_⟩
  obtain ⟨c, q1, q2⟩ := h3 pos cv hc
  exact ⟨c, q1, f.keep _ _ q2 (ne_of q2 e1 (by intro z; unfold CodeO at z; cases z)) (ne_of q2 e3 (by intro z; unfold CodeO at z; cases z))⟩
end
end Ms
namespace Ms
open PySem PySem.Spec PyProof.Rows L2
/-! ### _law_standings -/
/-- rows: tuples of ints, wherever they stand -/
inductive Rwq (K : PySem.W.Frag) (H : Hp) : List V → List (List Int) → Prop
  | nil : Rwq K H [] []
  | cons {a : Addr} {vs : List V} {r : List Int} {rs : List (List Int)} : SqT K H a (r.map V.int) → Rwq K H vs rs → Rwq K H (.ref a :: vs) (r :: rs)
section
variable {K : PySem.W.Frag} {H H' : Hp}
theorem Rwq.gen (k : ∀ a xs, SqT K H a xs → SqT K H' a xs) {vs : List V} {rs : List (List Int)} (p : Rwq K H vs rs) : Rwq K H' vs rs := by
  induction p with
  | nil => exact .nil
  | cons h _ ih => exact .cons (k _ _ h) ih
theorem Rwq.same (s : Same H H') {vs : List V} {rs : List (List Int)} (p : Rwq K H vs rs) : Rwq K H' vs rs := p.gen fun _ _ h => Same.seqT s h
theorem Rwq.snoc {vs : List V} {rs : List (List Int)} {a : Addr} {r : List Int} (p : Rwq K H vs rs) (h : SqT K H a (r.map V.int)) : Rwq K H (vs ++ [.ref a]) (rs ++ [r]) := by
  induction p with
  | nil => exact .cons h .nil
  | cons h' _ ih => exact .cons h' ih
theorem Rwq.len {vs : List V} {rs : List (List Int)} (p : Rwq K H vs rs) : vs.length = rs.length := by
  induction p with
  | nil => rfl
  | cons _ _ ih => simp [ih]
theorem Rwq.get {vs : List V} {rs : List (List Int)} (p : Rwq K H vs rs) : ∀ {i : Nat} {v : V}, vs[i]? = some v → ∃ a r, v = .ref a ∧ rs[i]? = some r ∧ SqT K H a (r.map V.int) := by
  induction p with
  | nil => intro i a h; simp at h
  | cons h' _ ih =>
    intro i b hb
    cases i with
    | zero => simp at hb; subst hb; exact ⟨_, _, rfl, rfl, h'⟩
    | succ i => exact ih (by simpa using hb)
/-- a list is written, the tuples stay -/
theorem SqT.lst {F : Addr} {u : List V} {o : HO} (h : H F = some (.lst u)) {a : Addr} {xs : List V} (q : SqT K H a xs) : SqT K (upd H F o) a xs := by
  rcases q with (q | ⟨o', q⟩) | q
  · exact .inl (.inl (by rw [upd_ne (ne_of q h (by intro z; cases z))]; exact q))
  · exact .inl (.inr ⟨o', by rw [upd_ne (ne_of q h (by intro z; cases z))]; exact q⟩)
  · exact .inr q
end
section
variable {P : Program} {w : World} {K : PySem.W.Frag} {mg : Str → Option Value} {base : Heap} {fN fM : Addr}
abbrev NLs : List Str := ["spots", "rows", "name", "most", "further", "row", "value"]
theorem scLs : FnScope NLs ["spots"] (defScope sStandings) := ⟨rfl, rfl, rfl, by decide +kernel, rfl, by decide +kernel, by decide +kernel⟩
def spLStand (K : PySem.W.Frag) : Sp := fun vs H Q _ => ∃ (a : Addr) (xs : List V) (qs : List (Str × Int)), vs = [.ref a] ∧ SqT K H a xs ∧ PrTs K H xs qs ∧ qs.length ≤ 3 ∧ (∀ q ∈ qs, 1 ≤ q.2 ∧ q.2 ≤ 3) ∧
  ∀ R vs' H', H R = none → Same H H' → H' R = some (.lst vs') → Rwq K H' vs' (grid qs) → Q (.ref R) H'
theorem grid_small : ∀ (qs : List (Str × Int)), qs.length ≤ 3 → (∀ q ∈ qs, 1 ≤ q.2 ∧ q.2 ≤ 3) → (grid qs).length ≤ 64 := by
  have key : ∀ (qs : List (Str × Int)) (rs : List (List Int)), (∀ q ∈ qs, 1 ≤ q.2 ∧ q.2 ≤ 3) → (qs.foldl (fun rs q => widen rs (q.2 + 1).toNat) rs).length ≤ rs.length * 4 ^ qs.length := by
    intro qs
    induction qs with
    | nil => intro rs _; simp
    | cons q qs ih =>
      intro rs h
      have hq := h q (List.mem_cons_self ..)
      have h1 := ih (widen rs (q.2 + 1).toNat) fun x hx => h x (List.mem_cons_of_mem _ hx)
      rw [widen_len] at h1
      have h4 : (q.2 + 1).toNat ≤ 4 := by omega
      refine Nat.le_trans h1 ?_
      rw [List.length_cons, Nat.pow_succ, Nat.mul_comm (4 ^ qs.length) 4, ← Nat.mul_assoc]
      exact Nat.mul_le_mul_right _ (Nat.mul_le_mul_left _ h4)
  intro qs hl h
  have h1 := key qs [[]] h
  have h2 : 4 ^ qs.length ≤ 4 ^ 3 := Nat.pow_le_pow_right (by decide) hl
  have : (grid qs).length ≤ ([[]] : List (List Int)).length * 4 ^ qs.length := h1
  simp at this
  omega
theorem ok_lstand {f : Addr} {fd : FuncData} (F : Fun K "_law_standings" "_law_standings" sStandings f fd) (T : TxtN mg fN) : FnOk P w K mg base CX0 1 f fd ["spots"] (spLStand K) := by
  refine F.ok scLs (fun vs H Q E h => ?_) (fun cdv A outer s H vs Q E hr h => ?_)
  · obtain ⟨a, xs, qs, rfl, _⟩ := h
    rfl
  obtain ⟨a, xs, qs, rfl, hs, hp, hl, hb, q⟩ := h
  have ll := hp.len
  refine ⟨_, pss_cons (ps_set (i := 1) scLs.nd rfl (Or.inl rfl) (pe_lst (pa_cons (pe_tup pa_nil) pa_nil)))
    (pss_cons (ps_for PassesOwn.never rfl (pi_tup (pv 0)) (pg_tup rfl (pgs_cons (pg_name (i := 2) scLs.nd rfl (Or.inl rfl)) (pgs_cons (pg_name (i := 3) scLs.nd rfl (Or.inl rfl)) pgs_nil)))
      (pss_cons (ps_set (i := 4) scLs.nd rfl (Or.inl rfl) (pe_lst pa_nil))
      (pss_cons (ps_for PassesOwn.never rfl (pi_list (pe_callTy call_list_of (by rfl) T.list (by decide +kernel) (pa_cons (pv 1) pa_nil))) (pg_name (i := 5) scLs.nd rfl (Or.inl rfl))
        (pss_one (ps_for PassesOwn.never rfl (pi_range1 (by rfl) T.range (pa_cons (pe_op op_add (pv 3) pe_int) pa_nil)) (pg_name (i := 6) scLs.nd rfl (Or.inl rfl))
          (pss_one (ps_expr (pe_bm PySem.F.plainAttrs_list PySem.F.slot_list_append PySem.F.type_list_append mt_append (pv 4) (pa_cons (pe_op op_catA (pv 5) (pe_tup (pa_cons (pv 6) pa_nil))) pa_nil)))))))
      (pss_one (ps_set (i := 1) scLs.nd rfl (Or.inl rfl) (pv 4))))))
    (pss_one (ps_ret (pv 1)))), ?_⟩
  refine ⟨Nat.zero_le _, fun p0 h0 => ⟨(by show 1 ≤ sizeLine; decide), fun R0 hR0 => ?_⟩⟩
  have s0 : Same H (upd H p0 (.tup [])) := Same.upd h0
  have s1 : Same H (upd (upd H p0 (.tup [])) R0 (.lst [.ref p0])) := s0.trans (Same.upd hR0)
  have nR0 : p0 ≠ R0 := fun e => by rw [← e, upd_same] at hR0; cases hR0
  refine ⟨_, rfl, a, rfl, ⟨_, Same.seqT s1 hs⟩, ?_⟩
  have tk1 : ∀ {i : Nat} {qq : Str × Int}, qs[i]? = some qq → grid (qs.take (i + 1)) = widen (grid (qs.take i)) (qq.2 + 1).toNat := fun {i qq} hq => by
    unfold grid
    rw [List.take_succ, hq, List.foldl_append]
    rfl
  have g64 : ∀ i, (grid (qs.take i)).length ≤ 64 := fun i => grid_small _ (by rw [List.length_take]; omega) fun q hq => hb q (List.mem_of_mem_take hq)
  refine for_it (walk_tup (xs := xs)) (fun i σ H2 => ∃ (R : Addr) (us : List V) (v2 v3 v4 v5 v6 : Option V), σ = [some (.ref a), some (.ref R), v2, v3, v4, v5, v6] ∧ Same H H2 ∧ H R = none ∧ H2 R = some (.lst us) ∧ Rwq K H2 us (grid (qs.take i)))
    ⟨R0, [.ref p0], none, none, none, none, none, rfl, s1, Same.free s0 hR0, upd_same, ?_⟩ (fun i σ H2 _ ⟨R, us, v2, v3, v4, v5, v6, _, s2, _⟩ => Same.seqT s2 hs) ?_ ?_
  · rw [List.take_zero]
    refine .cons (r := []) (.inl (.inl ?_)) .nil
    rw [upd_ne nR0, upd_same]; rfl
  · rintro i x σ H2 H3 hi ⟨R, us, v2, v3, v4, v5, v6, rfl, s2, hR, gR, rw2⟩ ⟨rfl, hx⟩
    obtain ⟨qq, hq, b, rfl, hb2⟩ := hp.get hx
    have hqb := hb qq (List.mem_of_getElem? hq)
    obtain ⟨rs, ers⟩ : ∃ rs, rs = grid (qs.take i) := ⟨_, rfl⟩
    have e1 := tk1 hq
    have g1 := g64 (i + 1)
    have g0 := g64 i
    rw [← ers] at rw2 e1 g0
    rw [e1] at g1
    obtain ⟨n, en⟩ : ∃ n : Nat, n = (qq.2 + 1).toNat := ⟨_, rfl⟩
    rw [← en] at e1 g1
    have n4 : n ≤ 4 := by omega
    have lu := rw2.len
    refine ⟨b, _, rfl, Same.seqT s2 hb2, rfl, _, _, rfl, _, _, rfl, rfl, ?_⟩
    refine ⟨(by show 0 ≤ sizeLine; decide), fun F hF => ?_⟩
    have hFH : H F = none := Same.free s2 hF
    have sF : Same H3 (upd H3 F (.lst [])) := Same.upd hF
    have nRF : R ≠ F := ne_of_none gR hF
    refine ⟨_, rfl, R, us, rfl, .inl (SqL.of (sF _ _ gR)), fun L hL => ?_⟩
    have hL3 : H3 L = none := Same.free sF hL
    have nFL : F ≠ L := fun e => by rw [← e, upd_same] at hL; cases hL
    have sL : Same (upd H3 F (.lst [])) (upd (upd H3 F (.lst [])) L (.lst us)) := Same.upd hL
    refine ⟨L, rfl, ⟨_, SqL.of upd_same⟩, for_list (K := K) (a := L) (xs := us) (fun j σ H4 => ∃ (ws : List V) (v5 v6 : Option V), σ = [some (.ref a), some (.ref R), some (.str qq.1), some (.int qq.2), some (.ref F), v5, v6] ∧ (∀ c o, H3 c = some o → H4 c = some o) ∧ H4 L = some (.lst us) ∧ H4 F = some (.lst ws) ∧ Rwq K H4 ws (widen (rs.take j) n))
      ⟨[], v5, v6, rfl, sF.trans sL, upd_same, sL _ _ upd_same, by rw [List.take_zero]; exact .nil⟩ (fun j σ H4 _ ⟨ws, v5, v6, _, _, gL, _⟩ => SqL.of gL) ?_ ?_⟩
    · rintro j y σ H4 hj ⟨ws, v5, v6, rfl, s4, gL, gF, rw4⟩
      obtain ⟨pr, r, rfl, hr, hpr⟩ := rw2.get hj
      have lw := rw4.len
      have ew := widen_take (n := n) hr
      have lw2 : (widen (rs.take (j + 1)) n).length ≤ 64 := by
        rw [widen_len, List.length_take]
        rw [widen_len] at g1
        refine Nat.le_trans (Nat.mul_le_mul_right _ (Nat.min_le_right _ _)) g1
      have lw1 : (widen (rs.take j) n).length ≤ 64 := by rw [ew, List.length_append] at lw2; omega
      have lr : r.length ≤ 3 := by
        have := grid_row (qs.take i) r (by rw [← ers]; exact List.mem_of_getElem? hr)
        rw [this, List.length_take]; omega
      refine ⟨_, rfl, _, _, rfl, rfl, qq.2 + 1, rfl, by omega, by omega, ?_⟩
      rw [← en]
      refine for_range (lo := 0) (n := n) (fun k σ H5 => ∃ (ws' : List V) (v6 : Option V), σ = [some (.ref a), some (.ref R), some (.str qq.1), some (.int qq.2), some (.ref F), some (.ref pr), v6] ∧ (∀ c o, H3 c = some o → H5 c = some o) ∧ H5 L = some (.lst us) ∧ H5 F = some (.lst ws') ∧ Rwq K H5 ws' (widen (rs.take j) n ++ (List.range k).map fun (v : Nat) => r ++ [(v : Int)]))
        ⟨ws, v6, rfl, s4, gL, gF, by simpa using rw4⟩ ?_ ?_
      · rintro k σ H5 hk ⟨ws', v6, rfl, s5, gL5, gF5, rw5⟩
        have lw5 := rw5.len
        rw [List.length_append, List.length_map, List.length_range] at lw5
        refine ⟨_, rfl, .inl ⟨rfl, _, SqL.of gF5⟩, _, rfl, _, rfl, (by show 1 ≤ sizeLine; decide), fun p6 h6 => ?_⟩
        have s6 : Same H5 (upd H5 p6 (.tup [.int (0 + (k : Int))])) := Same.upd h6
        refine catA_any (Same.seqT s6 (Same.seqT (fun c o hc => s5 c o hc) hpr)) (.inl (.inl upd_same)) (Nat.le_of_lt (small1000 (by simp; omega))) fun p7 H7 s7 c7 => ?_
        have s57 := s6.trans s7
        have gF7 : H7 F = some (.lst ws') := s57 _ _ gF5
        refine ⟨F, ws', _, rfl, rfl, gF7, small1000 (by omega), ws' ++ [.ref p7], _, rfl, fun c o hc => ?_, ?_, upd_same, ?_⟩
        · rw [upd_ne (ne_of_none hc hF)]; exact s57 _ _ (s5 c o hc)
        · rw [upd_ne nFL.symm]; exact s57 _ _ gL5
        · rw [range_more, ← List.append_assoc]
          refine Rwq.snoc ((rw5.same s57).gen fun c ys hc => SqT.lst gF7 hc) (SqT.lst gF7 ?_)
          have e : (r ++ [(k : Int)]).map V.int = r.map V.int ++ [.int (0 + (k : Int))] := by
            rw [List.map_append, Int.zero_add]; rfl
          rw [e]
          exact c7
      · rintro σ H5 ⟨ws', v6, rfl, s5, gL5, gF5, rw5⟩
        rw [← ew] at rw5
        exact ⟨ws', _, v6, rfl, s5, gL5, gF5, rw5⟩
    · rintro σ H4 ⟨ws, v5, v6, rfl, s4, gL, gF, rw4⟩
      rw [List.take_of_length_le (by omega), ← e1] at rw4
      exact ⟨_, rfl, F, ws, _, _, _, v5, v6, rfl, fun c o hc => s4 c o (s2 c o hc), hFH, gF, rw4⟩
  · rintro σ H2 ⟨R, us, v2, v3, v4, v5, v6, rfl, s2, hR, gR, rw2⟩
    rw [List.take_of_length_le (by omega)] at rw2
    exact ⟨_, rfl, q R us H2 hR s2 gR rw2⟩
end
end Ms
namespace Ms
open PySem PySem.Spec PyProof.Rows L2
/-! ### data told apart by its repr -/
/-- the code of the first sign -/
def hd? (z : Str) : Option Nat := z.cps.toList.head?
theorem hd_app {z y : Str} {c : Nat} (h : hd? z = some c) : hd? (z ++ y) = some c := by
  unfold hd? at h ⊢
  have e : (z ++ y).cps.toList = z.cps.toList ++ y.cps.toList := Array.toList_append
  rw [e]
  cases q : z.cps.toList with
  | nil => rw [q] at h; cases h
  | cons a r => rw [q] at h; exact h
theorem app_cps (z y : Str) : (z ++ y).cps.toList = z.cps.toList ++ y.cps.toList := Array.toList_append
/-- repr of a text, as signs -/
theorem repr_list (z : Str) : (reprText z).cps.toList = reprQuote z :: (z.cps.toList.flatMap (Builtin.Str.reprChar (reprQuote z)) ++ [reprQuote z]) := by
  have key : ∀ (l : List Nat) (acc : Array Nat) (q : Nat), (l.foldl (fun out c => out ++ (Builtin.Str.reprChar q c).toArray) acc).toList = acc.toList ++ l.flatMap (Builtin.Str.reprChar q) := by
    intro l
    induction l with
    | nil => intro acc q; simp
    | cons c r ih =>
      intro acc q
      rw [List.foldl_cons, ih, List.flatMap_cons, Array.toList_append]
      simp
  unfold reprText
  show (Array.push _ _).toList = _
  rw [Array.toList_push, ← Array.foldl_toList, key]
  simp
theorem reprChar_in {q c : Nat} {d : Nat} (h : d ∈ Builtin.Str.reprChar q c) (hl : ∀ d ∈ Builtin.Str.reprChar q c, 97 ≤ d ∧ d ≤ 122) : Builtin.Str.reprChar q c = [c] := by
  unfold Builtin.Str.reprChar at hl ⊢
  repeat' split
  all_goals first
    | rfl
    | (exfalso
       rename_i h1
       have z := hl 92 (by simp [*])
       omega)
    | (exfalso
       have z := hl 92 (by simp [*])
       omega)
def plainZ (w : Str) : Prop := ∀ c ∈ w.cps.toList, 97 ≤ c ∧ c ≤ 122
theorem flat_same {q : Nat} : ∀ (l w : List Nat), l.flatMap (Builtin.Str.reprChar q) = w → (∀ d ∈ w, 97 ≤ d ∧ d ≤ 122) → l = w
  | [], w, h, _ => by simpa using h
  | c :: r, w, h, hw => by
    rw [List.flatMap_cons] at h
    have hin : ∀ d ∈ Builtin.Str.reprChar q c, 97 ≤ d ∧ d ≤ 122 := fun d hd => hw d (by rw [← h]; exact List.mem_append_left _ hd)
    have ne : ∃ d, d ∈ Builtin.Str.reprChar q c := by
      unfold Builtin.Str.reprChar
      repeat' split
      all_goals exact ⟨_, List.mem_cons_self ..⟩
    obtain ⟨d, hd⟩ := ne
    have e := reprChar_in hd hin
    rw [e] at h
    have e2 := flat_same r (r.flatMap (Builtin.Str.reprChar q)) rfl (fun d hd => hw d (by rw [← h]; exact List.mem_append_right _ hd))
    rw [← h, ← e2]; rfl
theorem quote_plain {w : Str} (h : plainZ w) : reprQuote w = 39 := by
  unfold reprQuote
  have e : w.cps.contains 39 = false := by
    rw [Bool.eq_false_iff]
    intro z
    rw [Array.contains_iff_mem] at z
    have := h 39 (Array.mem_toList_iff.mpr z)
    omega
  rw [e]; rfl
theorem letter_repr : ∀ c : Nat, 97 ≤ c → c ≤ 122 → Builtin.Str.reprChar 39 c = [c] := by
  have key : ∀ j : Fin 26, Builtin.Str.reprChar 39 (97 + j.1) = [97 + j.1] := by decide +kernel
  intro c h1 h2
  have := key ⟨c - 97, by omega⟩
  have e : 97 + (c - 97) = c := by omega
  rw [e] at this
  exact this
theorem repr_plain {w : Str} (h : plainZ w) : (reprText w).cps.toList = 39 :: (w.cps.toList ++ [39]) := by
  rw [repr_list, quote_plain h]
  congr 2
  have key : ∀ l : List Nat, (∀ d ∈ l, 97 ≤ d ∧ d ≤ 122) → l.flatMap (Builtin.Str.reprChar 39) = l := by
    intro l
    induction l with
    | nil => intro _; rfl
    | cons c r ih =>
      intro hl
      obtain ⟨a, b⟩ := hl c (List.mem_cons_self ..)
      rw [List.flatMap_cons, letter_repr c a b, ih fun d hd => hl d (List.mem_cons_of_mem _ hd)]
      rfl
  exact key _ h
theorem str_ext {z y : Str} (h : z.cps.toList = y.cps.toList) : z = y := by
  cases z with
  | mk a =>
    cases y with
    | mk b =>
      have : a = b := Array.toList_inj.mp h
      rw [this]
theorem repr_str_inj {z w : Str} (h : plainZ w) (e : reprText z = reprText w) : z = w := by
  have e1 : (reprText z).cps.toList = (reprText w).cps.toList := by rw [e]
  rw [repr_list, repr_plain h] at e1
  obtain ⟨hq, e2⟩ := List.cons.inj e1
  rw [hq] at e2
  have e3 := List.append_cancel_right e2
  exact str_ext (flat_same _ _ e3 h)
/-- how the repr of data begins -/
theorem digit_lo : ∀ d : Nat, d < 10 → 48 ≤ (Nat.digitChar d).toNat ∧ (Nat.digitChar d).toNat ≤ 57 := by decide
theorem digits_lo (m : Nat) : ∀ c ∈ (Nat.toDigits 10 m).map Char.toNat, 48 ≤ c ∧ c ≤ 57 := by
  induction m using Nat.strongRecOn with
  | _ m ih =>
    by_cases h : m < 10
    · rw [Nat.toDigits_of_lt_base h]
      intro c hc
      rw [List.mem_singleton.mp hc]
      exact digit_lo m h
    · have hm : m % 10 < 10 := Nat.mod_lt m (by decide)
      have t : Nat.toDigits 10 (m / 10) ++ Nat.toDigits 10 (m % 10) = Nat.toDigits 10 (10 * (m / 10) + m % 10) := Nat.toDigits_append_toDigits (by decide) (by omega) hm
      rw [Nat.div_add_mod] at t
      rw [← t, List.map_append, Nat.toDigits_of_lt_base hm]
      intro c hc
      rcases List.mem_append.mp hc with hc | hc
      · exact ih (m / 10) (by omega) c hc
      · rw [List.mem_singleton.mp hc]
        exact digit_lo _ hm
theorem int_signs (i : Int) : ∀ c ∈ (Str.ofString (toString i)).cps.toList, c = 45 ∨ (48 ≤ c ∧ c ≤ 57) := by
  cases i with
  | ofNat n =>
    intro c hc
    have e := PySem.W.KIN.signs_num n
    rw [show (Int.ofNat n) = ((n : Nat) : Int) from rfl, e] at hc
    exact .inr (digits_lo n c hc)
  | negSucc n =>
    intro c hc
    have e : (Str.ofString (toString (Int.negSucc n))).cps.toList = 45 :: (Nat.toDigits 10 (n + 1)).map Char.toNat := by
      rw [signs_ofString]
      show ("-" ++ Nat.repr (n + 1)).toList.map Char.toNat = _
      rw [String.toList_append, List.map_append, Nat.toList_repr]
      rfl
    rw [e] at hc
    rcases List.mem_cons.mp hc with rfl | hc
    · exact .inl rfl
    · exact .inr (digits_lo _ c hc)
theorem shown_str {d : PyData} {w : Str} (hs : d.shown = reprText w) (h : plainZ w) : d = .str w := by
  have hl : d.shown.cps.toList = 39 :: (w.cps.toList ++ [39]) := by rw [hs, repr_plain h]
  have first : d.shown.cps.toList.head? = some 39 := by rw [hl]; rfl
  cases d with
  | str z =>
    simp only [PyData.shown] at hs
    rw [repr_str_inj h hs]
  | none => exact absurd first (by decide +kernel)
  | bool b => cases b <;> exact absurd first (by decide +kernel)
  | int i =>
    have e : (Str.ofString (toString i)).cps.toList = 39 :: (w.cps.toList ++ [39]) := hl
    have := int_signs i 39 (by rw [e]; exact List.mem_cons_self ..)
    omega
  | list xs =>
    exfalso
    simp only [PyData.shown] at first
    unfold listText at first
    have key : ∀ (ts : List Str) (k : Nat) (acc : Str), hd? acc = some 91 → hd? (textFrom k acc ts) = some 91 := by
      intro ts
      induction ts with
      | nil => intro k acc h; exact h
      | cons t r ih => intro k acc h; exact ih _ _ (hd_app (hd_app h))
    have z := hd_app (y := "]") (key (PyData.shownAll xs) 0 "[" (by decide +kernel))
    unfold hd? at z
    rw [z] at first
    cases first
  | tuple xs =>
    exfalso
    simp only [PyData.shown] at first
    unfold tupleText at first
    have z : hd? (("(" : Str) ++ Str.join ", " (PyData.shownAll xs) ++ (if (PyData.shownAll xs).length == 1 then ",)" else ")" : String)) = some 40 := hd_app (hd_app (by decide +kernel))
    unfold hd? at z
    rw [z] at first
    cases first
  | dict kvs =>
    exfalso
    simp only [PyData.shown] at first
    unfold dictText at first
    have z : hd? (("{" : Str) ++ Str.join ", " (PyData.shownKv kvs) ++ ("}" : String)) = some 123 := hd_app (hd_app (by decide +kernel))
    unfold hd? at z
    rw [z] at first
    cases first
theorem shown_eq {d : PyData} {w : Str} (h : plainZ w) : (d.shown = reprText w) ↔ d = .str w := ⟨fun e => shown_str e h, fun e => by rw [e]; simp only [PyData.shown]⟩
abbrev endT : Str := "('end',)"
theorem plain_end : plainZ "end" := by
  have e : ("end" : Str).cps.toList = [101, 110, 100] := by decide +kernel
  unfold plainZ
  rw [e]; decide
theorem shown_end {d : PyData} (hs : d.shown = endT) : d = .tuple [.str "end"] := by
  have hl : d.shown.cps.toList = [40, 39, 101, 110, 100, 39, 44, 41] := by rw [hs]; decide +kernel
  have first : d.shown.cps.toList.head? = some 40 := by rw [hl]; rfl
  cases d with
  | none => exact absurd first (by decide +kernel)
  | bool b => cases b <;> exact absurd first (by decide +kernel)
  | int i =>
    have e : (Str.ofString (toString i)).cps.toList = [40, 39, 101, 110, 100, 39, 44, 41] := hl
    have := int_signs i 40 (by rw [e]; exact List.mem_cons_self ..)
    omega
  | str z =>
    exfalso
    have e : (reprText z).cps.toList = [40, 39, 101, 110, 100, 39, 44, 41] := hl
    rw [repr_list] at e
    have q := (List.cons.inj e).1
    unfold reprQuote at q
    split at q <;> omega
  | list xs =>
    exfalso
    simp only [PyData.shown] at first
    unfold listText at first
    have key : ∀ (ts : List Str) (k : Nat) (acc : Str), hd? acc = some 91 → hd? (textFrom k acc ts) = some 91 := by
      intro ts
      induction ts with
      | nil => intro k acc h; exact h
      | cons t r ih => intro k acc h; exact ih _ _ (hd_app (hd_app h))
    have z := hd_app (y := "]") (key (PyData.shownAll xs) 0 "[" (by decide +kernel))
    unfold hd? at z
    rw [z] at first
    cases first
  | dict kvs =>
    exfalso
    simp only [PyData.shown] at first
    unfold dictText at first
    have z : hd? (("{" : Str) ++ Str.join ", " (PyData.shownKv kvs) ++ ("}" : String)) = some 123 := hd_app (hd_app (by decide +kernel))
    unfold hd? at z
    rw [z] at first
    cases first
  | tuple ds =>
    match ds with
    | [] =>
      have e : (PyData.tuple []).shown.cps.toList = [40, 41] := by decide +kernel
      rw [e] at hl
      cases hl
    | [x] =>
      have e : (PyData.tuple [x]).shown = ("(" : Str) ++ x.shown ++ (",)" : String) := rfl
      rw [e, app_cps, app_cps] at hl
      have e1 : ("(" : Str).cps.toList = [40] := by decide +kernel
      have e2 : ((",)" : String) : Str).cps.toList = [44, 41] := by decide +kernel
      have e3 : [40] ++ x.shown.cps.toList ++ [44, 41] = [40] ++ [39, 101, 110, 100, 39] ++ [44, 41] := by rw [← e1, ← e2]; rw [e1, e2]; exact (by rw [e1, e2] at hl; exact hl)
      have e4 := List.append_cancel_left (List.append_cancel_right e3)
      have e5 : x.shown = reprText "end" := str_ext (by
        rw [e4, repr_plain plain_end]
        decide +kernel)
      rw [shown_str e5 plain_end]
    | x :: y :: r =>
      exfalso
      have e : (PyData.tuple (x :: y :: r)).shown = ("(" : Str) ++ (x.shown ++ ", " ++ Str.join ", " (PyData.shownAll (y :: r))) ++ (if (PyData.shownAll (x :: y :: r)).length == 1 then ",)" else ")" : String) := rfl
      have hm : 32 ∈ (PyData.tuple (x :: y :: r)).shown.cps.toList := by
        rw [e, app_cps, app_cps, app_cps, app_cps]
        have e2 : ((", " : String) : Str).cps.toList = [44, 32] := by decide +kernel
        rw [e2]
        simp
      rw [hl] at hm
      exact absurd hm (by decide)
theorem end_shown : (PyData.tuple [.str "end"]).shown = endT := by decide +kernel
theorem nm_plain {z : Str} (h : ∀ c ∈ z.cps.toList, 97 ≤ c ∧ c ≤ 122) : plainZ z := h
end Ms
namespace Ms
open PySem PySem.Spec PyProof.Rows L2
/-! ### tuples of small ints told apart by their repr -/
theorem digits_two {n : Nat} (h : ¬ n < 10) : ∃ a b r, (Nat.toDigits 10 n).map Char.toNat = a :: b :: r := by
  have hm : n % 10 < 10 := Nat.mod_lt n (by decide)
  have t : Nat.toDigits 10 (n / 10) ++ Nat.toDigits 10 (n % 10) = Nat.toDigits 10 (10 * (n / 10) + n % 10) := Nat.toDigits_append_toDigits (by decide) (by omega) hm
  rw [Nat.div_add_mod] at t
  rw [← t, Nat.toDigits_of_lt_base hm, List.map_append]
  have ne : Nat.toDigits 10 (n / 10) ≠ [] := Nat.toDigits_ne_nil
  cases e : Nat.toDigits 10 (n / 10) with
  | nil => exact absurd e ne
  | cons a r =>
    cases r with
    | nil => exact ⟨_, _, _, rfl⟩
    | cons b r => exact ⟨_, _, _, rfl⟩
theorem digit_at : ∀ d : Nat, d < 10 → (Nat.digitChar d).toNat = 48 + d := by decide
theorem int_digit {k : Int} (h0 : 0 ≤ k) (h9 : k ≤ 9) : (Str.ofString (toString k)).cps.toList = [48 + k.toNat] := by
  obtain ⟨n, rfl⟩ : ∃ n : Nat, k = (n : Int) := ⟨k.toNat, by omega⟩
  rw [PySem.W.KIN.signs_num n, Nat.toDigits_of_lt_base (by omega)]
  show [(Nat.digitChar n).toNat] = _
  rw [digit_at n (by omega)]
  rfl
/-- an item that begins like a digit with a comma or the end behind it is that digit -/
theorem item_of {d : PyData} {k : Int} {rest rest' : List Nat} (h0 : 0 ≤ k) (h9 : k ≤ 9) (e : d.shown.cps.toList ++ rest = (48 + k.toNat) :: rest') (hr : rest'.head? = some 44 ∨ rest'.head? = some 41) : d = .int k ∧ rest = rest' := by
  have kb : 48 ≤ 48 + k.toNat ∧ 48 + k.toNat ≤ 57 := by omega
  have hd : ∀ {c : Nat}, d.shown.cps.toList.head? = some c → c = 48 + k.toNat := fun {c} h => by
    cases q : d.shown.cps.toList with
    | nil => rw [q] at h; cases h
    | cons a r =>
      rw [q] at h e
      have e1 := (List.cons.inj e).1
      have e2 := Option.some.inj h
      omega
  cases d with
  | none =>
    exfalso
    have := hd (c := 78) (by decide +kernel)
    omega
  | bool b =>
    exfalso
    cases b with
    | false =>
      have := hd (c := 70) (by decide +kernel)
      omega
    | true =>
      have := hd (c := 84) (by decide +kernel)
      omega
  | str z =>
    have e0 : (PyData.str z).shown = reprText z := by simp only [PyData.shown]
    have q : reprQuote z = 39 ∨ reprQuote z = 34 := by
      unfold reprQuote
      split
      · exact .inr rfl
      · exact .inl rfl
    have := hd (c := reprQuote z) (by rw [e0, repr_list]; rfl)
    omega
  | list xs =>
    exfalso
    have key : ∀ (ts : List Str) (k : Nat) (acc : Str), hd? acc = some 91 → hd? (textFrom k acc ts) = some 91 := by
      intro ts
      induction ts with
      | nil => intro k acc h; exact h
      | cons t r ih => intro k acc h; exact ih _ _ (hd_app (hd_app h))
    have z := hd_app (y := "]") (key (PyData.shownAll xs) 0 "[" (by decide +kernel))
    have := hd (c := 91) (by simp only [PyData.shown]; unfold listText; exact z)
    omega
  | tuple xs =>
    exfalso
    have z : hd? (("(" : Str) ++ Str.join ", " (PyData.shownAll xs) ++ (if (PyData.shownAll xs).length == 1 then ",)" else ")" : String)) = some 40 := hd_app (hd_app (by decide +kernel))
    have := hd (c := 40) (by simp only [PyData.shown]; unfold tupleText; exact z)
    omega
  | dict kvs =>
    exfalso
    have z : hd? (("{" : Str) ++ Str.join ", " (PyData.shownKv kvs) ++ ("}" : String)) = some 123 := hd_app (hd_app (by decide +kernel))
    have := hd (c := 123) (by simp only [PyData.shown]; unfold dictText; exact z)
    omega
  | int i =>
    have es : (PyData.int i).shown.cps.toList = (Str.ofString (toString i)).cps.toList := rfl
    rw [es] at e
    have one : (Str.ofString (toString i)).cps.toList = [48 + k.toNat] → PyData.int i = .int k ∧ rest = rest' := fun h => by
      rw [h] at e
      refine ⟨?_, (List.cons.inj e).2⟩
      cases i with
      | ofNat n =>
        rw [show (Int.ofNat n) = ((n : Nat) : Int) from rfl, PySem.W.KIN.signs_num n] at h
        by_cases hn : n < 10
        · rw [Nat.toDigits_of_lt_base hn] at h
          have h2 : [(Nat.digitChar n).toNat] = [48 + k.toNat] := h
          rw [digit_at n hn] at h2
          have h3 := (List.cons.inj h2).1
          show PyData.int ((n : Nat) : Int) = .int k
          congr 1
          omega
        · obtain ⟨a, b, r, h2⟩ := digits_two hn
          rw [h2] at h
          cases h
      | negSucc n =>
        have e : (Str.ofString (toString (Int.negSucc n))).cps.toList = 45 :: (Nat.toDigits 10 (n + 1)).map Char.toNat := by
          rw [signs_ofString]
          show ("-" ++ Nat.repr (n + 1)).toList.map Char.toNat = _
          rw [String.toList_append, List.map_append, Nat.toList_repr]
          rfl
        rw [e] at h
        have := (List.cons.inj h).1
        omega
    cases q : (Str.ofString (toString i)).cps.toList with
    | nil =>
      exfalso
      cases i with
      | ofNat n =>
        rw [show (Int.ofNat n) = ((n : Nat) : Int) from rfl, PySem.W.KIN.signs_num n] at q
        exact Nat.toDigits_ne_nil (List.map_eq_nil_iff.mp q)
      | negSucc n =>
        have e : (Str.ofString (toString (Int.negSucc n))).cps.toList = 45 :: (Nat.toDigits 10 (n + 1)).map Char.toNat := by
          rw [signs_ofString]
          show ("-" ++ Nat.repr (n + 1)).toList.map Char.toNat = _
          rw [String.toList_append, List.map_append, Nat.toList_repr]
          rfl
        rw [e] at q
        cases q
    | cons a r =>
      rw [q] at e
      cases r with
      | nil =>
        have ea := (List.cons.inj e).1
        exact one (by rw [q, ea])
      | cons b r =>
        exfalso
        have e2 := (List.cons.inj e).2
        have hb := int_signs i b (by rw [q]; simp)
        have hr2 : rest'.head? = some b := by rw [← e2]; rfl
        rcases hr with hr | hr <;> (rw [hr2] at hr; have := Option.some.inj hr; omega)
/-- the items' texts, joined -/
def joinS (ds : List PyData) : List Nat := (Str.join ", " (PyData.shownAll ds)).cps.toList
theorem join_one (x : PyData) : joinS [x] = x.shown.cps.toList := rfl
theorem join_more (x y : PyData) (r : List PyData) : joinS (x :: y :: r) = x.shown.cps.toList ++ (44 :: 32 :: joinS (y :: r)) := by
  have e : Str.join ", " (PyData.shownAll (x :: y :: r)) = x.shown ++ ", " ++ Str.join ", " (PyData.shownAll (y :: r)) := rfl
  unfold joinS
  rw [e, app_cps, app_cps]
  have e2 : ((", " : String) : Str).cps.toList = [44, 32] := by decide +kernel
  rw [e2, List.append_assoc]
  rfl
theorem tup_one (x : PyData) : (PyData.tuple [x]).shown.cps.toList = 40 :: (x.shown.cps.toList ++ [44, 41]) := by
  have e : (PyData.tuple [x]).shown = ("(" : Str) ++ x.shown ++ (",)" : String) := rfl
  rw [e, app_cps, app_cps]
  have e1 : ("(" : Str).cps.toList = [40] := by decide +kernel
  have e2 : ((",)" : String) : Str).cps.toList = [44, 41] := by decide +kernel
  rw [e1, e2]
  rfl
theorem tup_more (x y : PyData) (r : List PyData) : (PyData.tuple (x :: y :: r)).shown.cps.toList = 40 :: (joinS (x :: y :: r) ++ [41]) := by
  have e : (PyData.tuple (x :: y :: r)).shown = ("(" : Str) ++ Str.join ", " (PyData.shownAll (x :: y :: r)) ++ (if (PyData.shownAll (x :: y :: r)).length == 1 then ",)" else ")" : String) := rfl
  have e0 : (if (PyData.shownAll (x :: y :: r)).length == 1 then ",)" else ")" : String) = ")" := by
    show (if ((PyData.shownAll r).length + 1 + 1 == 1) = true then ",)" else ")" : String) = ")"
    rw [if_neg (by simp)]
  rw [e, e0, app_cps, app_cps]
  have e1 : ("(" : Str).cps.toList = [40] := by decide +kernel
  have e2 : ((")" : String) : Str).cps.toList = [41] := by decide +kernel
  rw [e1, e2]
  rfl
theorem shown_int {k : Int} (h0 : 0 ≤ k) (h9 : k ≤ 9) : (PyData.int k).shown.cps.toList = [48 + k.toNat] := int_digit h0 h9
theorem join_inj : ∀ (is : List Int) (ds : List PyData), is ≠ [] → ds ≠ [] → (∀ i ∈ is, 0 ≤ i ∧ i ≤ 9) → joinS ds ++ [41] = joinS (is.map .int) ++ [41] → ds = is.map .int
  | [], _, h, _, _, _ => absurd rfl h
  | _, [], _, h, _, _ => absurd rfl h
  | i :: is, d :: ds, _, _, hi, e => by
    obtain ⟨h0, h9⟩ := hi i (List.mem_cons_self ..)
    cases is with
    | nil =>
      rw [show List.map PyData.int [i] = [.int i] from rfl, join_one (.int i), shown_int h0 h9] at e
      cases ds with
      | nil =>
        rw [join_one] at e
        rw [(item_of h0 h9 e (.inr rfl)).1]
        rfl
      | cons d2 ds =>
        rw [join_more, List.append_assoc] at e
        have := (item_of h0 h9 e (.inr rfl)).2
        cases this
    | cons i2 is =>
      rw [show List.map PyData.int (i :: i2 :: is) = .int i :: .int i2 :: is.map .int from rfl, join_more, shown_int h0 h9] at e
      cases ds with
      | nil =>
        rw [join_one] at e
        have := (item_of h0 h9 e (.inl rfl)).2
        cases this
      | cons d2 ds =>
        rw [join_more, List.append_assoc] at e
        obtain ⟨e1, e2⟩ := item_of h0 h9 e (.inl rfl)
        have e3 : joinS (d2 :: ds) ++ [41] = joinS ((i2 :: is).map .int) ++ [41] := (List.cons.inj (List.cons.inj e2).2).2
        rw [e1, join_inj (i2 :: is) (d2 :: ds) nofun nofun (fun x hx => hi x (List.mem_cons_of_mem _ hx)) e3]
        rfl
theorem shown_ints {d : PyData} {is : List Int} (hi : ∀ i ∈ is, 0 ≤ i ∧ i ≤ 9) (hl : is ≠ []) (hs : d.shown = (PyData.tuple (is.map .int)).shown) : d = .tuple (is.map .int) := by
  have e : d.shown.cps.toList = (PyData.tuple (is.map .int)).shown.cps.toList := by rw [hs]
  obtain ⟨i, r, rfl⟩ : ∃ i r, is = i :: r := by
    cases is with
    | nil => exact absurd rfl hl
    | cons i r => exact ⟨i, r, rfl⟩
  obtain ⟨h0, h9⟩ := hi i (List.mem_cons_self ..)
  obtain ⟨tl, ht⟩ : ∃ tl, (PyData.tuple ((i :: r).map .int)).shown.cps.toList = 40 :: tl := by
    cases r with
    | nil => exact ⟨_, tup_one (.int i)⟩
    | cons j r => exact ⟨_, tup_more (.int i) (.int j) (r.map .int)⟩
  have first : d.shown.cps.toList.head? = some 40 := by rw [e, ht]; rfl
  cases d with
  | none => exact absurd first (by decide +kernel)
  | bool b => cases b <;> exact absurd first (by decide +kernel)
  | int j =>
    exfalso
    have es : (PyData.int j).shown.cps.toList = (Str.ofString (toString j)).cps.toList := rfl
    have := int_signs j 40 (by
      rw [← es]
      cases q : (PyData.int j).shown.cps.toList with
      | nil => rw [q] at first; cases first
      | cons a t => rw [q] at first; rw [Option.some.inj first]; exact List.mem_cons_self ..)
    omega
  | str z =>
    exfalso
    have e0 : (PyData.str z).shown = reprText z := by simp only [PyData.shown]
    rw [e0, repr_list] at first
    have q := Option.some.inj first
    unfold reprQuote at q
    split at q <;> omega
  | list xs =>
    exfalso
    simp only [PyData.shown] at first
    unfold listText at first
    have key : ∀ (ts : List Str) (k : Nat) (acc : Str), hd? acc = some 91 → hd? (textFrom k acc ts) = some 91 := by
      intro ts
      induction ts with
      | nil => intro k acc h; exact h
      | cons t r ih => intro k acc h; exact ih _ _ (hd_app (hd_app h))
    have z := hd_app (y := "]") (key (PyData.shownAll xs) 0 "[" (by decide +kernel))
    unfold hd? at z
    rw [z] at first
    cases first
  | dict kvs =>
    exfalso
    simp only [PyData.shown] at first
    unfold dictText at first
    have z : hd? (("{" : Str) ++ Str.join ", " (PyData.shownKv kvs) ++ ("}" : String)) = some 123 := hd_app (hd_app (by decide +kernel))
    unfold hd? at z
    rw [z] at first
    cases first
  | tuple ds =>
    cases r with
    | nil =>
      rw [show List.map PyData.int [i] = [.int i] from rfl, tup_one, shown_int h0 h9] at e
      match ds with
      | [] =>
        have e1 : (PyData.tuple []).shown.cps.toList = [40, 41] := by decide +kernel
        rw [e1] at e
        exact absurd (congrArg List.length e) (by simp)
      | [x] =>
        rw [tup_one] at e
        rw [(item_of h0 h9 (List.cons.inj e).2 (.inl rfl)).1]
        rfl
      | x :: y :: q =>
        rw [tup_more, join_more, List.append_assoc] at e
        have := (item_of h0 h9 (List.cons.inj e).2 (.inl rfl)).2
        cases this
    | cons j r =>
      rw [show List.map PyData.int (i :: j :: r) = .int i :: .int j :: r.map .int from rfl, tup_more] at e
      match ds with
      | [] =>
        have e1 : (PyData.tuple []).shown.cps.toList = [40, 41] := by decide +kernel
        rw [e1, join_more, shown_int h0 h9] at e
        have e3 := (List.cons.inj (List.cons.inj e).2).1
        exact absurd e3 (by omega)
      | [x] =>
        rw [tup_one, join_more, shown_int h0 h9] at e
        have := (item_of h0 h9 (List.cons.inj e).2 (.inl rfl)).2
        cases this
      | x :: y :: q =>
        rw [tup_more] at e
        rw [join_inj (i :: j :: r) (x :: y :: q) nofun nofun hi (List.cons.inj e).2]
end Ms
namespace Ms
open PySem PySem.Spec PyProof.Rows L2 RZ
/-! ### standings as data -/
def stOk (qs : List (Str × Int)) (st : List Int) : Prop := st.length = qs.length ∧ ∀ (i : Nat) (q : Str × Int) (v : Int), qs[i]? = some q → st[i]? = some v → 0 ≤ v ∧ v ≤ q.2
theorem stand_st {qs : List (Str × Int)} {d : PyData} (h : standD qs d = true) : ∃ st : List Int, d = .tuple (st.map .int) ∧ stOk qs st := by
  cases d with
  | tuple ds =>
    have h' : (decide (ds.length = qs.length) && (ds.zip qs).all fun p => isWhole p.1 0 p.2.2) = true := h
    rw [Bool.and_eq_true] at h'
    obtain ⟨h1, h2⟩ := h'
    have h1 := of_decide_eq_true h1
    rw [List.all_eq_true] at h2
    have key : ∀ (ds : List PyData) (qs : List (Str × Int)), ds.length = qs.length → (∀ p ∈ ds.zip qs, isWhole p.1 0 p.2.2 = true) → ∃ st : List Int, ds = st.map .int ∧ stOk qs st := by
      intro ds
      induction ds with
      | nil =>
        intro qs hl _
        refine ⟨[], rfl, by simpa using hl, fun i q v h1 h2 => by simp at h2⟩
      | cons d ds ih =>
        intro qs hl hp
        cases qs with
        | nil => simp at hl
        | cons q qs =>
          have hd : isWhole d 0 q.2 = true := hp (d, q) (by simp)
          obtain ⟨st, e, so⟩ := ih qs (by simpa using hl) fun p hp' => hp p (by rw [List.zip_cons_cons]; exact List.mem_cons_of_mem _ hp')
          cases d with
          | int j =>
            have hj : (decide (0 ≤ j) && decide (j ≤ q.2)) = true := hd
            rw [Bool.and_eq_true, decide_eq_true_eq, decide_eq_true_eq] at hj
            refine ⟨j :: st, by rw [e]; rfl, by simp [so.1], fun i q' v h1 h2 => ?_⟩
            cases i with
            | zero =>
              cases h1
              cases h2
              exact hj
            | succ i => exact so.2 i q' v (by simpa using h1) (by simpa using h2)
          | _ => cases hd
    obtain ⟨st, e, so⟩ := key ds qs h1 h2
    exact ⟨st, by rw [e], so⟩
  | _ => cases h
theorem st_stand {qs : List (Str × Int)} {st : List Int} (h : stOk qs st) : standD qs (.tuple (st.map .int)) = true := by
  show (decide ((st.map PyData.int).length = qs.length) && ((st.map PyData.int).zip qs).all fun p => isWhole p.1 0 p.2.2) = true
  rw [List.length_map, decide_eq_true h.1, Bool.true_and, List.all_eq_true]
  intro p hp
  obtain ⟨i, hi⟩ := List.mem_iff_getElem?.mp hp
  rw [List.getElem?_zip_eq_some, List.getElem?_map] at hi
  obtain ⟨h1, h2⟩ := hi
  cases e : st[i]? with
  | none => rw [e] at h1; cases h1
  | some v =>
    rw [e] at h1
    have e1 : p.1 = .int v := (Option.some.inj h1).symm
    obtain ⟨a, b⟩ := h.2 i p.2 v h2 e
    rw [e1]
    show (decide (0 ≤ v) && decide (v ≤ p.2.2)) = true
    rw [decide_eq_true a, decide_eq_true b]; rfl
theorem mem_fold : ∀ (qs : List (Str × Int)) (rs : List (List Int)) (r : List Int), (∀ q ∈ qs, 0 ≤ q.2) → (r ∈ qs.foldl (fun rs q => widen rs (q.2 + 1).toNat) rs ↔ ∃ r0 ∈ rs, ∃ t, r = r0 ++ t ∧ stOk qs t)
  | [], rs, r, _ => by
    constructor
    · intro h
      exact ⟨r, h, [], by simp, rfl, fun i q v h1 _ => by simp at h1⟩
    · rintro ⟨r0, h, t, e, h1, _⟩
      have : t = [] := List.eq_nil_of_length_eq_zero h1
      rw [e, this, List.append_nil]; exact h
  | q :: qs, rs, r, h => by
    have hq := h q (List.mem_cons_self ..)
    rw [List.foldl_cons, mem_fold qs _ r fun x hx => h x (List.mem_cons_of_mem _ hx)]
    constructor
    · rintro ⟨r1, h1, t, e, so⟩
      unfold widen at h1
      obtain ⟨r0, h0, h1⟩ := List.mem_flatMap.mp h1
      obtain ⟨v, hv, rfl⟩ := List.mem_map.mp h1
      rw [List.mem_range] at hv
      refine ⟨r0, h0, (v : Int) :: t, by rw [e, List.append_assoc]; rfl, by simp [so.1], fun i q' v' h1 h2 => ?_⟩
      cases i with
      | zero =>
        cases h1
        cases h2
        omega
      | succ i => exact so.2 i q' v' (by simpa using h1) (by simpa using h2)
    · rintro ⟨r0, h0, t, e, so⟩
      cases t with
      | nil => exact absurd so.1 (by simp)
      | cons v t =>
        have b := so.2 0 q v rfl rfl
        refine ⟨r0 ++ [v], ?_, t, by rw [e, List.append_assoc]; rfl, by simpa using so.1, fun i q' v' h1 h2 => so.2 (i + 1) q' v' (by simpa using h1) (by simpa using h2)⟩
        unfold widen
        refine List.mem_flatMap.mpr ⟨r0, h0, List.mem_map.mpr ⟨v.toNat, List.mem_range.mpr (by omega), ?_⟩⟩
        have : ((v.toNat : Nat) : Int) = v := by omega
        rw [this]
theorem mem_grid {qs : List (Str × Int)} {r : List Int} (h : ∀ q ∈ qs, 0 ≤ q.2) : r ∈ grid qs ↔ stOk qs r := by
  unfold grid
  rw [mem_fold qs _ r h]
  constructor
  · rintro ⟨r0, h0, t, e, so⟩
    rw [List.mem_singleton] at h0
    rw [e, h0, List.nil_append]; exact so
  · intro so
    exact ⟨[], List.mem_singleton.mpr rfl, r, by simp, so⟩
def rowS (r : List Int) : Str := (PyData.tuple (r.map .int)).shown
theorem in_rows {qs : List (Str × Int)} {d : PyData} (h : ∀ q ∈ qs, 0 ≤ q.2 ∧ q.2 ≤ 9) (l : 1 ≤ qs.length) : decide (d.shown ∈ (grid qs).map rowS) = standD qs d := by
  rw [Bool.eq_iff_iff, decide_eq_true_eq]
  have h0 : ∀ q ∈ qs, 0 ≤ q.2 := fun q hq => (h q hq).1
  constructor
  · intro hm
    obtain ⟨r, hr, e⟩ := List.mem_map.mp hm
    have so := (mem_grid h0).mp hr
    have := shown_ints (d := d) (is := r) (fun i hi => ?_) (fun z => ?_) e.symm
    · rw [this]; exact st_stand so
    · obtain ⟨j, hj⟩ := List.mem_iff_getElem?.mp hi
      obtain ⟨b, _⟩ := List.getElem?_eq_some_iff.mp hj
      have hq : qs[j]? = some (qs[j]'(by rw [← so.1]; exact b)) := List.getElem?_eq_getElem _
      have := so.2 j _ i hq hj
      have := h _ (List.mem_of_getElem? hq)
      omega
    · have := so.1
      rw [z] at this
      simp at this
      omega
  · intro hs
    obtain ⟨st, e, so⟩ := stand_st hs
    exact List.mem_map.mpr ⟨st, (mem_grid h0).mpr so, by rw [e]; rfl⟩
theorem ints_good : ∀ ns : List Int, (∀ x ∈ ns, 0 ≤ x ∧ x < 16) → Gl' big (105 * ns.length) 0 (ns.map PyData.int)
  | [], _ => ⟨(fun d h => nomatch h), Nat.le_refl _, (fun d h => nomatch h)⟩
  | x :: ns, h => by
    obtain ⟨h0, h1⟩ := h x (List.mem_cons_self ..)
    have g := (Gl'.one (Gd.int (B := big) (i := x) (by show x.natAbs ≤ 10 ^ 30; omega) (by decide))).app (ints_good ns fun y hy => h y (List.mem_cons_of_mem _ hy))
    exact g.mono (Nat.le_refl _) (by simp only [List.length_cons]; omega) (Nat.le_refl _)
theorem ints_dq {K : PySem.W.Frag} {H : Hp} {m l : Addr} : ∀ ns : List Int, DqAll K H m l (ns.map V.int) (ns.map PyData.int)
  | [] => .nil
  | _ :: ns => .cons (.int _) (ints_dq ns)
end Ms
namespace Ms
open PySem PySem.Spec PyProof.Rows L2
/-! ### _law_odd -/
def odds : List PyData := [.none, .int 0, .int 1, .int 2, .int 4, .int (-1), .int 100, .bool true, .bool false, .str "", .str "a", .str "abcdefghi", .str "A", .str "end", .str "live", .tuple [], .tuple [.tuple []], .tuple [.str "a", .int 1], .list [], .dict [], .int (10 ^ (30 : Int).toNat), .tuple [.str "end"], .tuple [.tuple [.str "end"]], .str "begin", .str "a1", .tuple [.str "do", .str "a", .int 0]]
theorem odds_good : odds.all (gdB big 128 2) = true := by decide +kernel
section
variable {P : Program} {w : World} {K : PySem.W.Frag} {mg : Str → Option Value} {base : Heap} {fN fM : Addr}
theorem scOd : FnScope ["m", "some"] ["m"] (defScope sOdd) := ⟨rfl, rfl, rfl, by decide +kernel, rfl, by decide +kernel, by decide +kernel⟩
def spOdd (K : PySem.W.Frag) : Sp := fun vs H Q _ => ∃ (m l : Addr) (n : Nat), vs = [.ref m] ∧ Mch H m l n ∧ n < 900000 ∧
  ∀ (v : V) (d : PyData) (l' : Addr) (H' : Hp), Dq K H' m l' v d → Gd big 128 2 d → Mch H' m l' (n + 1) → Fr m l l' H H' → Q v H'
theorem ok_odd {f : Addr} {fd fdN : FuncData} (F : Fun K "_law_odd" "_law_odd" sOdd f fd) (T : TxtS mg fN fM) (FN : Fun K "_law_next" "_law_next" sNext fN fdN) (bN : Binds K fdN ["m", "many"] []) : FnOk P w K mg base CX0 2 f fd ["m"] (spOdd K) := by
  have GN : FnOk P w K mg base CX0 1 fN fdN ["m", "many"] spNext := ok_next FN T.toTxt
  refine F.ok scOd (fun vs H Q E h => ?_) (fun cdv A outer s H vs Q E hr h => ?_)
  · obtain ⟨m, l, n, rfl, _⟩ := h
    rfl
  · obtain ⟨m, l, n, rfl, M, hn, q⟩ := h
    refine ⟨_, pss_cons (ps_set (i := 1) scOd.nd rfl (by first | exact Or.inl rfl | exact Or.inr rfl) (pe_lst (pa_cons pe_non (pa_cons pe_int (pa_cons pe_int (pa_cons pe_int (pa_cons pe_int (pa_cons (pe_un un_neg pe_int) (pa_cons pe_int (pa_cons pe_bl (pa_cons pe_bl (pa_cons pe_str (pa_cons pe_str (pa_cons pe_str (pa_cons pe_str (pa_cons pe_str (pa_cons pe_str (pa_cons (pe_tup pa_nil) (pa_cons (pe_tup (pa_cons (pe_tup pa_nil) pa_nil)) (pa_cons (pe_tup (pa_cons pe_str (pa_cons pe_int pa_nil))) pa_nil))))))))))))))))))))
      (pss_one (ps_ret (pe_ix ix_list (pe_op op_cat (pv 1) (pe_lst (pa_cons (pe_lst pa_nil) (pa_cons pe_dnewK (pa_cons (pe_op op_pow pe_int pe_int) (pa_cons (pe_tup (pa_cons pe_str pa_nil)) (pa_cons (pe_tup (pa_cons (pe_tup (pa_cons pe_str pa_nil)) pa_nil)) (pa_cons pe_str (pa_cons pe_str (pa_cons (pe_tup (pa_cons pe_str (pa_cons pe_str (pa_cons pe_int pa_nil)))) pa_nil))))))))))
        (pe_call GN hr rfl T.next FN.kp bN .nil pass0 (pa_cons (pv 0) (pa_cons pe_int pa_nil))) (fun _ _ => rfl)))), ?_⟩
    refine ⟨_, rfl, ?_⟩
    refine ⟨Nat.zero_le _, fun p1 hp1 => ?_⟩
    obtain ⟨G1, e1⟩ : ∃ G, G = upd H p1 (.tup []) := ⟨_, rfl⟩
    rw [← e1]
    have s : Same H G1 := e1 ▸ Same.upd hp1
    have np1 := M.ne hp1
    have M1 := M.same s
    have f1 : Fr m l l H G1 := e1 ▸ (Fr.refl M).junk hp1
    have kp1 : G1 p1 = some (.tup []) := by rw [e1, upd_same]
    clear s e1
    refine ⟨Nat.zero_le _, fun p2 hp2 => ?_⟩
    obtain ⟨G2, e2⟩ : ∃ G, G = upd G1 p2 (.tup []) := ⟨_, rfl⟩
    rw [← e2]
    have s : Same G1 G2 := e2 ▸ Same.upd hp2
    have np2 := M1.ne hp2
    have M2 := M1.same s
    have f2 : Fr m l l H G2 := e2 ▸ f1.junk hp2
    replace kp1 := s _ _ kp1
    have kp2 : G2 p2 = some (.tup []) := by rw [e2, upd_same]
    clear s e2
    refine ⟨(by show 1 ≤ sizeLine; decide), fun p3 hp3 => ?_⟩
    obtain ⟨G3, e3⟩ : ∃ G, G = upd G2 p3 (.tup [.ref p2]) := ⟨_, rfl⟩
    rw [← e3]
    have s : Same G2 G3 := e3 ▸ Same.upd hp3
    have np3 := M2.ne hp3
    have M3 := M2.same s
    have f3 : Fr m l l H G3 := e3 ▸ f2.junk hp3
    replace kp1 := s _ _ kp1
    replace kp2 := s _ _ kp2
    have kp3 : G3 p3 = some (.tup [.ref p2]) := by rw [e3, upd_same]
    clear s e3
    refine ⟨(by show 2 ≤ sizeLine; decide), fun p4 hp4 => ?_⟩
    obtain ⟨G4, e4⟩ : ∃ G, G = upd G3 p4 (.tup [.str "a", .int 1]) := ⟨_, rfl⟩
    rw [← e4]
    have s : Same G3 G4 := e4 ▸ Same.upd hp4
    have np4 := M3.ne hp4
    have M4 := M3.same s
    have f4 : Fr m l l H G4 := e4 ▸ f3.junk hp4
    replace kp1 := s _ _ kp1
    replace kp2 := s _ _ kp2
    replace kp3 := s _ _ kp3
    have kp4 : G4 p4 = some (.tup [.str "a", .int 1]) := by rw [e4, upd_same]
    clear s e4
    refine ⟨(by show 18 ≤ sizeLine; decide), fun L1 hL1 => ?_⟩
    obtain ⟨G5, e5⟩ : ∃ G, G = upd G4 L1 (.lst [.non, .int 0, .int 1, .int 2, .int 4, .int (-1), .int 100, .bl true, .bl false, .str "", .str "a", .str "abcdefghi", .str "A", .str "end", .str "live", .ref p1, .ref p3, .ref p4]) := ⟨_, rfl⟩
    rw [← e5]
    have s : Same G4 G5 := e5 ▸ Same.upd hL1
    have nL1 := M4.ne hL1
    have M5 := M4.same s
    have f5 : Fr m l l H G5 := e5 ▸ f4.junk hL1
    replace kp1 := s _ _ kp1
    replace kp2 := s _ _ kp2
    replace kp3 := s _ _ kp3
    replace kp4 := s _ _ kp4
    have kL1 : G5 L1 = some (.lst [.non, .int 0, .int 1, .int 2, .int 4, .int (-1), .int 100, .bl true, .bl false, .str "", .str "a", .str "abcdefghi", .str "A", .str "end", .str "live", .ref p1, .ref p3, .ref p4]) := by rw [e5, upd_same]
    clear s e5
    refine ⟨_, rfl, ?_⟩
    refine ⟨Nat.zero_le _, fun p5 hp5 => ?_⟩
    obtain ⟨G6, e6⟩ : ∃ G, G = upd G5 p5 (.lst []) := ⟨_, rfl⟩
    rw [← e6]
    have s : Same G5 G6 := e6 ▸ Same.upd hp5
    have np5 := M5.ne hp5
    have M6 := M5.same s
    have f6 : Fr m l l H G6 := e6 ▸ f5.junk hp5
    replace kp1 := s _ _ kp1
    replace kp2 := s _ _ kp2
    replace kp3 := s _ _ kp3
    replace kp4 := s _ _ kp4
    replace kL1 := s _ _ kL1
    have kp5 : G6 p5 = some (.lst []) := by rw [e6, upd_same]
    clear s e6
    intro p6 hp6
    obtain ⟨G7, e7⟩ : ∃ G, G = upd G6 p6 (.dK []) := ⟨_, rfl⟩
    rw [← e7]
    have s : Same G6 G7 := e7 ▸ Same.upd hp6
    have np6 := M6.ne hp6
    have M7 := M6.same s
    have f7 : Fr m l l H G7 := e7 ▸ f6.junk hp6
    replace kp1 := s _ _ kp1
    replace kp2 := s _ _ kp2
    replace kp3 := s _ _ kp3
    replace kp4 := s _ _ kp4
    replace kL1 := s _ _ kL1
    replace kp5 := s _ _ kp5
    have kp6 : G7 p6 = some (.dK []) := by rw [e7, upd_same]
    clear s e7
    refine ⟨_, _, rfl, rfl, ⟨by decide, by decide, by decide⟩, ?_⟩
    refine ⟨(by show 1 ≤ sizeLine; decide), fun p7 hp7 => ?_⟩
    obtain ⟨G8, e8⟩ : ∃ G, G = upd G7 p7 (.tup [.str "end"]) := ⟨_, rfl⟩
    rw [← e8]
    have s : Same G7 G8 := e8 ▸ Same.upd hp7
    have np7 := M7.ne hp7
    have M8 := M7.same s
    have f8 : Fr m l l H G8 := e8 ▸ f7.junk hp7
    replace kp1 := s _ _ kp1
    replace kp2 := s _ _ kp2
    replace kp3 := s _ _ kp3
    replace kp4 := s _ _ kp4
    replace kL1 := s _ _ kL1
    replace kp5 := s _ _ kp5
    replace kp6 := s _ _ kp6
    have kp7 : G8 p7 = some (.tup [.str "end"]) := by rw [e8, upd_same]
    clear s e8
    refine ⟨(by show 1 ≤ sizeLine; decide), fun p8 hp8 => ?_⟩
    obtain ⟨G9, e9⟩ : ∃ G, G = upd G8 p8 (.tup [.str "end"]) := ⟨_, rfl⟩
    rw [← e9]
    have s : Same G8 G9 := e9 ▸ Same.upd hp8
    have np8 := M8.ne hp8
    have M9 := M8.same s
    have f9 : Fr m l l H G9 := e9 ▸ f8.junk hp8
    replace kp1 := s _ _ kp1
    replace kp2 := s _ _ kp2
    replace kp3 := s _ _ kp3
    replace kp4 := s _ _ kp4
    replace kL1 := s _ _ kL1
    replace kp5 := s _ _ kp5
    replace kp6 := s _ _ kp6
    replace kp7 := s _ _ kp7
    have kp8 : G9 p8 = some (.tup [.str "end"]) := by rw [e9, upd_same]
    clear s e9
    refine ⟨(by show 1 ≤ sizeLine; decide), fun p9 hp9 => ?_⟩
    obtain ⟨G10, e10⟩ : ∃ G, G = upd G9 p9 (.tup [.ref p8]) := ⟨_, rfl⟩
    rw [← e10]
    have s : Same G9 G10 := e10 ▸ Same.upd hp9
    have np9 := M9.ne hp9
    have M10 := M9.same s
    have f10 : Fr m l l H G10 := e10 ▸ f9.junk hp9
    replace kp1 := s _ _ kp1
    replace kp2 := s _ _ kp2
    replace kp3 := s _ _ kp3
    replace kp4 := s _ _ kp4
    replace kL1 := s _ _ kL1
    replace kp5 := s _ _ kp5
    replace kp6 := s _ _ kp6
    replace kp7 := s _ _ kp7
    replace kp8 := s _ _ kp8
    have kp9 : G10 p9 = some (.tup [.ref p8]) := by rw [e10, upd_same]
    clear s e10
    refine ⟨(by show 3 ≤ sizeLine; decide), fun p10 hp10 => ?_⟩
    obtain ⟨G11, e11⟩ : ∃ G, G = upd G10 p10 (.tup [.str "do", .str "a", .int 0]) := ⟨_, rfl⟩
    rw [← e11]
    have s : Same G10 G11 := e11 ▸ Same.upd hp10
    have np10 := M10.ne hp10
    have M11 := M10.same s
    have f11 : Fr m l l H G11 := e11 ▸ f10.junk hp10
    replace kp1 := s _ _ kp1
    replace kp2 := s _ _ kp2
    replace kp3 := s _ _ kp3
    replace kp4 := s _ _ kp4
    replace kL1 := s _ _ kL1
    replace kp5 := s _ _ kp5
    replace kp6 := s _ _ kp6
    replace kp7 := s _ _ kp7
    replace kp8 := s _ _ kp8
    replace kp9 := s _ _ kp9
    have kp10 : G11 p10 = some (.tup [.str "do", .str "a", .int 0]) := by rw [e11, upd_same]
    clear s e11
    refine ⟨(by show 8 ≤ sizeLine; decide), fun L2 hL2 => ?_⟩
    obtain ⟨G12, e12⟩ : ∃ G, G = upd G11 L2 (.lst [.ref p5, .ref p6, .int (10 ^ (30 : Int).toNat), .ref p7, .ref p9, .str "begin", .str "a1", .ref p10]) := ⟨_, rfl⟩
    rw [← e12]
    have s : Same G11 G12 := e12 ▸ Same.upd hL2
    have nL2 := M11.ne hL2
    have M12 := M11.same s
    have f12 : Fr m l l H G12 := e12 ▸ f11.junk hL2
    replace kp1 := s _ _ kp1
    replace kp2 := s _ _ kp2
    replace kp3 := s _ _ kp3
    replace kp4 := s _ _ kp4
    replace kL1 := s _ _ kL1
    replace kp5 := s _ _ kp5
    replace kp6 := s _ _ kp6
    replace kp7 := s _ _ kp7
    replace kp8 := s _ _ kp8
    replace kp9 := s _ _ kp9
    replace kp10 := s _ _ kp10
    have kL2 : G12 L2 = some (.lst [.ref p5, .ref p6, .int (10 ^ (30 : Int).toNat), .ref p7, .ref p9, .str "begin", .str "a1", .ref p10]) := by rw [e12, upd_same]
    clear s e12
    refine ⟨L1, L2, _, _, rfl, rfl, kL1, kL2, (by show 26 ≤ sizeLine; decide), fun L3 hL3 => ?_⟩
    obtain ⟨G13, e13⟩ : ∃ G, G = upd G12 L3 (.lst [.non, .int 0, .int 1, .int 2, .int 4, .int (-1), .int 100, .bl true, .bl false, .str "", .str "a", .str "abcdefghi", .str "A", .str "end", .str "live", .ref p1, .ref p3, .ref p4, .ref p5, .ref p6, .int (10 ^ (30 : Int).toNat), .ref p7, .ref p9, .str "begin", .str "a1", .ref p10]) := ⟨_, rfl⟩
    have e13' : upd G12 L3 (.lst (([.non, .int 0, .int 1, .int 2, .int 4, .int (-1), .int 100, .bl true, .bl false, .str "", .str "a", .str "abcdefghi", .str "A", .str "end", .str "live", .ref p1, .ref p3, .ref p4] : List V) ++ [.ref p5, .ref p6, .int (10 ^ (30 : Int).toNat), .ref p7, .ref p9, .str "begin", .str "a1", .ref p10])) = G13 := e13.symm
    rw [e13']
    have s : Same G12 G13 := e13 ▸ Same.upd hL3
    have nL3 := M12.ne hL3
    have M13 := M12.same s
    have f13 : Fr m l l H G13 := e13 ▸ f12.junk hL3
    replace kp1 := s _ _ kp1
    replace kp2 := s _ _ kp2
    replace kp3 := s _ _ kp3
    replace kp4 := s _ _ kp4
    replace kL1 := s _ _ kL1
    replace kp5 := s _ _ kp5
    replace kp6 := s _ _ kp6
    replace kp7 := s _ _ kp7
    replace kp8 := s _ _ kp8
    replace kp9 := s _ _ kp9
    replace kp10 := s _ _ kp10
    replace kL2 := s _ _ kL2
    have kL3 : G13 L3 = some (.lst [.non, .int 0, .int 1, .int 2, .int 4, .int (-1), .int 100, .bl true, .bl false, .str "", .str "a", .str "abcdefghi", .str "A", .str "end", .str "live", .ref p1, .ref p3, .ref p4, .ref p5, .ref p6, .int (10 ^ (30 : Int).toNat), .ref p7, .ref p9, .str "begin", .str "a1", .ref p10]) := by rw [e13, upd_same]
    clear s e13 e13'
    have D : DqAll K G13 m l [.non, .int 0, .int 1, .int 2, .int 4, .int (-1), .int 100, .bl true, .bl false, .str "", .str "a", .str "abcdefghi", .str "A", .str "end", .str "live", .ref p1, .ref p3, .ref p4, .ref p5, .ref p6, .int (10 ^ (30 : Int).toNat), .ref p7, .ref p9, .str "begin", .str "a1", .ref p10] odds :=
      (.cons (.non) (.cons (.int _) (.cons (.int _) (.cons (.int _) (.cons (.int _) (.cons (.int _) (.cons (.int _) (.cons (.bl _) (.cons (.bl _) (.cons (.str _) (.cons (.str _) (.cons (.str _) (.cons (.str _) (.cons (.str _) (.cons (.str _) (.cons (.tup (.inl (.inl kp1)) .nil) (.cons (.tup (.inl (.inl kp3)) (.cons (.tup (.inl (.inl kp2)) .nil) .nil)) (.cons (.tup (.inl (.inl kp4)) (.cons (.str _) (.cons (.int _) .nil))) (.cons (.lst kp5 np5.1 np5.2 .nil) (.cons (.dct kp6 np6.1 np6.2) (.cons (.int _) (.cons (.tup (.inl (.inl kp7)) (.cons (.str _) .nil)) (.cons (.tup (.inl (.inl kp9)) (.cons (.tup (.inl (.inl kp8)) (.cons (.str _) .nil)) .nil)) (.cons (.str _) (.cons (.str _) (.cons (.tup (.inl (.inl kp10)) (.cons (.str _) (.cons (.str _) (.cons (.int _) .nil)))) .nil))))))))))))))))))))))))))
    have kd := M13.step (l' := l) (Fr.refl M13)
    clear kL1 kL2 kp1 kp2 kp3 kp4 kp5 kp6 kp7 kp8 kp9 kp10
    refine ⟨_, rfl, m, l, n, 26, rfl, M13, by omega, by decide, by decide, fun r l' H' r0 r1 M' f => ?_⟩
    obtain ⟨rn, rfl⟩ : ∃ rn : Nat, r = (rn : Int) := ⟨r.toNat, by omega⟩
    obtain ⟨vs, hvs⟩ : ∃ vs : List V, vs = [.non, .int 0, .int 1, .int 2, .int 4, .int (-1), .int 100, .bl true, .bl false, .str "", .str "a", .str "abcdefghi", .str "A", .str "end", .str "live", .ref p1, .ref p3, .ref p4, .ref p5, .ref p6, .int (10 ^ (30 : Int).toNat), .ref p7, .ref p9, .str "begin", .str "a1", .ref p10] := ⟨_, rfl⟩
    rw [← hvs] at D kL3
    have lv : vs.length = 26 := by rw [hvs]; rfl
    obtain ⟨v, hv⟩ : ∃ v, vs[rn]? = some v := ⟨_, List.getElem?_eq_getElem (by rw [lv]; omega)⟩
    obtain ⟨d, hd, dq⟩ := D.get hv
    have gd : Gd big 128 2 d := gd_of (List.all_eq_true.mp odds_good d (List.mem_of_getElem? hd))
    refine ⟨L3, _, (rn : Int), v, rfl, rfl, SqL.of (f.keep L3 _ kL3 nL3.1 nL3.2), atI_nat hv, ?_⟩
    exact q v d l' H' (Dq.step (M13.step f) d v dq) gd M' (f13.trans f)
end
end Ms
namespace Ms
open PySem PySem.Spec PyProof.Rows L2
structure TxtB (mg : Str → Option Value) (fN fM fO fB : Addr) : Prop extends TxtS mg fN fM where
  odd : mg "_law_odd" = some (.ref fO)
  bent : mg "_law_bent" = some (.ref fB)
  isi : mg "isinstance" = none
  str : mg "str" = none
  bool : mg "bool" = none
def spBent (K : PySem.W.Frag) : Nat → Sp
  | 0 => fun _ _ _ _ => False
  | k + 1 => fun vs H Q _ => ∃ (m l : Addr) (n : Nat) (v : V) (d : PyData) (B a b : Nat), vs = [.ref m, v] ∧ Mch H m l n ∧ n + 8 * (k + 1) < 700000 ∧ Dq K H m l v d ∧ Gd B a b d ∧ big ≤ B ∧ B + 100 ≤ 10 ^ 31 ∧ a ≤ 50000 ∧ d.depth ≤ k ∧
    ∀ (v' : V) (d' : PyData) (l' : Addr) (H' : Hp), Dq K H' m l' v' d' → Gd (B + 100) (2 * a + 200) (b + 2) d' → Mch H' m l' (n + 8 * (k + 1)) → Fr m l l' H H' → Q v' H'
abbrev NB : List Str := ["m", "thing", "at", "way"]
theorem scBe : FnScope NB ["m", "thing"] (defScope sBent) := ⟨rfl, rfl, rfl, by decide +kernel, rfl, by decide +kernel, by decide +kernel⟩
theorem mul_small {z : Str} (h : z.length ≤ 50000) : PySem.MulOk z 2 := ⟨by decide, fun _ _ => by
    have e : ((2 : Int) ^ 63 - 1) / 2 = 4611686018427387903 := by decide
    rw [e]; omega, fun _ _ => by
    show decide (z.length * 2 > sizeLine) = false
    rw [decide_eq_false_iff_not, sizeLine_eq]
    omega⟩
section
variable {P : Program} {w : World} {K : PySem.W.Frag} {mg : Str → Option Value} {base : Heap} {fN fM fO fB : Addr}
theorem bent_step {k : Nat} {fd fdN fdO : FuncData} (F : Fun K "_law_bent" "_law_bent" sBent fB fd) (bB : Binds K fd ["m", "thing"] []) (T : TxtB mg fN fM fO fB) (FN : Fun K "_law_next" "_law_next" sNext fN fdN) (bN : Binds K fdN ["m", "many"] [])
    (FO : Fun K "_law_odd" "_law_odd" sOdd fO fdO) (bO : Binds K fdO ["m"] []) (GB : FnOk P w K mg base CX0 (k + 2) fB fd ["m", "thing"] (spBent K k)) : FnOk P w K mg base CX0 (k + 3) fB fd ["m", "thing"] (spBent K (k + 1)) := by
  have GN : FnOk P w K mg base CX0 (k + 2) fN fdN ["m", "many"] spNext := (ok_next FN T.toTxt).mono (by omega)
  have GO : FnOk P w K mg base CX0 (k + 2) fO fdO ["m"] (spOdd K) := (ok_odd FO T.toTxtS FN bN).mono (by omega)
  refine F.ok scBe (fun vs H Q E h => ?_) (fun cdv A outer s H vs Q E hr h => ?_)
  · obtain ⟨m, l, n, v, d, B, a, b, rfl, _⟩ := h
    rfl
  obtain ⟨m, l, n, v, d, B, a, b, rfl, M, hn, hd, gd, hB, hB2, ha, hk, q⟩ := h
  have hu := hu_of hr
  have lenOk : ∀ c : Nat, c ≤ 100400 → c ≤ sizeLine := fun c h => by rw [sizeLine_eq]; omega
  have tupOk : ∀ (ds : List PyData), d = .tuple ds → ∃ c, b = c + 1 ∧ Gl' B a c ds ∧ PyData.weightAll ds ≤ a := fun ds e => by
    obtain ⟨c, e1, g⟩ := Gd.untup (e ▸ gd)
    exact ⟨c, e1, g, g.wt⟩
  have st5 : ∃ t, PSs (cxOf CX0 P w K mg base NB "_law_bent" (defScope sBent) fB cdv A outer s H E).nox ((defBody sBent).drop 9) t ∧ ∀ (p : Addr) (xs : List V) (ds : List PyData) (i : Nat) (way : Int) (l1 : Addr) (n1 : Nat) (H1 : Hp), d = .tuple ds → SqT K H1 p xs → DqAll K H1 m l1 xs ds → i < xs.length → Mch H1 m l1 n1 → n1 ≤ n + 5 → Fr m l l1 H H1 → t ({ nx := fun _ H' => Q .non H', rt := Q } : Ends) [some (.ref m), some (.ref p), some (.int (i : Int)), some (.int way)] H1 := by
    refine ⟨_, pss_one (ps_ret (pe_op op_catA (pe_op op_catA (pe_slice sl_tupA (pv 1) po_none (po_some (pv 2))) (pe_tup (pa_cons (pe_call GB hr rfl T.bent F.kp bB .nil pass0 (pa_cons (pv 0) (pa_cons (pe_ix ix_tup (pv 1) (pv 2) (fun _ _ => rfl)) pa_nil))) pa_nil))) (pe_slice sl_tupA (pv 1) (po_some (pe_op op_add (pv 2) pe_int)) po_none))), ?_⟩
    intro p xs ds i way l1 n1 H1 ed hp hx hi M1 h1 f1
    obtain ⟨c, eb, g, gw⟩ := tupOk ds ed
    have lx := hx.len
    have ls := wA_len ds
    cases k with
    | zero =>
      rw [ed] at hk
      simp only [PyData.depth] at hk
      omega
    | succ k' =>
    obtain ⟨e, he⟩ : ∃ e, ds[i]? = some e := ⟨_, List.getElem?_eq_getElem (by omega)⟩
    obtain ⟨u, hui⟩ : ∃ u, xs[i]? = some u := ⟨_, List.getElem?_eq_getElem hi⟩
    have ge := g.at he
    have wat := wA_at he
    have dk : e.depth ≤ k' := by
      rw [ed] at hk
      simp only [PyData.depth] at hk
      exact dA_iff.mp (by omega) e (List.mem_of_getElem? he)
    refine ⟨_, rfl, _, rfl, _, rfl, slA_any hp fun p1 H2 s2 c2 => ?_⟩
    rw [cut_to (by omega)] at c2
    have k2 := M1.kept s2
    have hx2 := DqAll.step k2 ds xs hx
    obtain ⟨e', he', dqe⟩ := hx2.get hui
    have ee : e' = e := Option.some.inj (he'.symm.trans he)
    subst ee
    refine ⟨_, rfl, _, rfl, _, rfl, p, xs, _, u, rfl, rfl, Same.seqT s2 hp, atI_nat hui, m, l1, n1, u, e', B, e'.weight, c, rfl, M1.same s2, by omega, dqe, ge, hB, hB2, by omega, dk, fun v2 d2 l2 H3 dq2 gd2 M3 f3 => ?_⟩
    refine ⟨(by show 1 ≤ sizeLine; decide), fun p3 h3 => ?_⟩
    have k3 := (M1.same s2).step f3
    have s4 : Same H3 (upd H3 p3 (.tup [v2])) := Same.upd h3
    refine catA_any (Same.seqT s4 (k3.tup c2)) (.inl (.inl upd_same)) (lenOk _ (by simp; omega)) fun p4 H5 s5 c5 => ?_
    have hp5 : SqT K H5 p xs := Same.seqT s5 (Same.seqT s4 (k3.tup (Same.seqT s2 hp)))
    refine ⟨_, rfl, _, rfl, _, _, rfl, rfl, _, rfl, ?_⟩
    refine noPart ?_
    refine slA_any hp5 fun p6 H6 s6 c6 => ?_
    rw [cut_from1 hi] at c6
    refine catA_any (Same.seqT s6 c5) c6 (lenOk _ (by simp; omega)) fun p7 H7 s7 c7 => ?_
    have s37 := ((s4.trans s5).trans s6).trans s7
    have F7 := (Fr.lead s2 f3).trail s37
    have hx7 := DqAll.step (M1.step F7) ds xs hx
    have dq7 := Dq.step (M3.kept s37) d2 v2 dq2
    refine q (.ref p7) (.tuple ((ds.take i ++ [d2]) ++ ds.drop (i + 1))) l2 H7 (.tup c7 (((hx7.take i).app (.cons dq7 .nil)).app (hx7.drop (i + 1)))) ?_ ((M3.same s37).mono (by omega)) (f1.trans F7)
    rw [eb]
    exact Gd.tup (((((g.tk i).mono (by omega) (Nat.le_refl _) (by omega)).app (Gl'.one gd2)).app ((g.dr (i + 1)).mono (by omega) (Nat.le_refl _) (by omega))).mono (Nat.le_refl _) (by omega) (Nat.le_refl _))
  have st4 : ∃ t, PSs (cxOf CX0 P w K mg base NB "_law_bent" (defScope sBent) fB cdv A outer s H E).nox ((defBody sBent).drop 8) t ∧ ∀ (p : Addr) (xs : List V) (ds : List PyData) (i : Nat) (way : Int) (l1 : Addr) (n1 : Nat) (H1 : Hp), d = .tuple ds → SqT K H1 p xs → DqAll K H1 m l1 xs ds → i < xs.length → Mch H1 m l1 n1 → n1 ≤ n + 5 → Fr m l l1 H H1 → t ({ nx := fun _ H' => Q .non H', rt := Q } : Ends) [some (.ref m), some (.ref p), some (.int (i : Int)), some (.int way)] H1 := by
    obtain ⟨t5, d5, z5⟩ := st5
    refine ⟨_, pss_cons (ps_if (pt_cmpR op_eq (pv 3) pe_int (nomark _)) (pss_one (ps_ret (pe_revT (pv 1)))) pss_nil) d5, ?_⟩
    intro p xs ds i way l1 n1 H1 ed hp hx hi M1 h1 f1
    refine ⟨_, rfl, rfl, _, rfl, ite_b (fun e => ?_) (fun _ => z5 p xs ds i way l1 n1 H1 ed hp hx hi M1 h1 f1)⟩
    obtain ⟨c, eb, g, gw⟩ := tupOk ds ed
    have lx := hx.len
    have ls := wA_len ds
    refine ⟨_, rfl, p, xs, rfl, hp, fun p7 h7 => ?_⟩
    have s17 : Same H1 (upd H1 p7 (.tup xs.reverse)) := Same.upd h7
    have hx7 := DqAll.step (M1.kept s17) ds xs hx
    refine q (.ref p7) (.tuple ds.reverse) l1 _ (.tup (.inl (.inl upd_same)) hx7.rev) ?_ ((M1.same s17).mono (by omega)) (f1.trail s17)
    rw [eb]
    exact (Gd.tup g.rv).mono (by omega) (by omega) (by omega)
  have st3 : ∃ t, PSs (cxOf CX0 P w K mg base NB "_law_bent" (defScope sBent) fB cdv A outer s H E).nox ((defBody sBent).drop 7) t ∧ ∀ (p : Addr) (xs : List V) (ds : List PyData) (i : Nat) (way : Int) (l1 : Addr) (n1 : Nat) (H1 : Hp), d = .tuple ds → SqT K H1 p xs → DqAll K H1 m l1 xs ds → i < xs.length → Mch H1 m l1 n1 → n1 ≤ n + 5 → Fr m l l1 H H1 → t ({ nx := fun _ H' => Q .non H', rt := Q } : Ends) [some (.ref m), some (.ref p), some (.int (i : Int)), some (.int way)] H1 := by
    obtain ⟨t4, d4, z4⟩ := st4
    refine ⟨_, pss_cons (ps_if (pt_cmpR op_eq (pv 3) pe_int (nomark _)) (pss_one (ps_ret (pe_op op_catA (pe_op op_catA (pe_slice sl_tupA (pv 1) po_none (po_some (pv 2))) (pe_tup (pa_cons (pe_call GO hr rfl T.odd FO.kp bO .nil pass0 (pa_cons (pv 0) pa_nil)) pa_nil))) (pe_slice sl_tupA (pv 1) (po_some (pv 2)) po_none)))) pss_nil) d4, ?_⟩
    intro p xs ds i way l1 n1 H1 ed hp hx hi M1 h1 f1
    refine ⟨_, rfl, rfl, _, rfl, ite_b (fun e => ?_) (fun _ => z4 p xs ds i way l1 n1 H1 ed hp hx hi M1 h1 f1)⟩
    obtain ⟨c, eb, g, gw⟩ := tupOk ds ed
    have lx := hx.len
    have ls := wA_len ds
    refine ⟨_, rfl, _, rfl, _, rfl, slA_any hp fun p1 H2 s2 c2 => ?_⟩
    rw [cut_to (by omega)] at c2
    have k2 := M1.kept s2
    refine ⟨_, rfl, m, l1, n1, rfl, M1.same s2, by omega, fun v2 d2 l2 H3 dq2 gd2 M3 f3 => ?_⟩
    refine ⟨(by show 1 ≤ sizeLine; decide), fun p3 h3 => ?_⟩
    have k3 := (M1.same s2).step f3
    have s4 : Same H3 (upd H3 p3 (.tup [v2])) := Same.upd h3
    refine catA_any (Same.seqT s4 (k3.tup c2)) (.inl (.inl upd_same)) (lenOk _ (by simp; omega)) fun p4 H5 s5 c5 => ?_
    have hp5 : SqT K H5 p xs := Same.seqT s5 (Same.seqT s4 (k3.tup (Same.seqT s2 hp)))
    refine ⟨_, rfl, _, rfl, _, rfl, ?_⟩
    refine noPart ?_
    refine slA_any hp5 fun p6 H6 s6 c6 => ?_
    rw [cut_from (by omega)] at c6
    refine catA_any (Same.seqT s6 c5) c6 (lenOk _ (by simp; omega)) fun p7 H7 s7 c7 => ?_
    have s37 := ((s4.trans s5).trans s6).trans s7
    have F7 := (Fr.lead s2 f3).trail s37
    have hx7 := DqAll.step (M1.step F7) ds xs hx
    have dq7 := Dq.step (M3.kept s37) d2 v2 dq2
    have wsp := wA_split ds i
    refine q (.ref p7) (.tuple ((ds.take i ++ [d2]) ++ ds.drop i)) l2 H7 (.tup c7 (((hx7.take i).app (.cons dq7 .nil)).app (hx7.drop i))) ?_ ((M3.same s37).mono (by omega)) (f1.trans F7)
    rw [eb]
    exact Gd.tup (((((g.tk i).mono (B' := B + 100) (c' := c + 2) (by omega) (Nat.le_refl _) (by omega)).app (Gl'.one (gd2.mono (by omega) (Nat.le_refl _) (by omega)))).app ((g.dr i).mono (by omega) (Nat.le_refl _) (by omega))).mono (Nat.le_refl _) (by omega) (Nat.le_refl _))
  have st2 : ∃ t, PSs (cxOf CX0 P w K mg base NB "_law_bent" (defScope sBent) fB cdv A outer s H E).nox ((defBody sBent).drop 6) t ∧ ∀ (p : Addr) (xs : List V) (ds : List PyData) (i : Nat) (way : Int) (l1 : Addr) (n1 : Nat) (H1 : Hp), d = .tuple ds → SqT K H1 p xs → DqAll K H1 m l1 xs ds → i < xs.length → Mch H1 m l1 n1 → n1 ≤ n + 5 → Fr m l l1 H H1 → t ({ nx := fun _ H' => Q .non H', rt := Q } : Ends) [some (.ref m), some (.ref p), some (.int (i : Int)), some (.int way)] H1 := by
    obtain ⟨t3, d3, z3⟩ := st3
    refine ⟨_, pss_cons (ps_if (pt_cmpR op_eq (pv 3) pe_int (nomark _)) (pss_one (ps_ret (pe_callTy call_list_of (by rfl) T.list (by decide +kernel) (pa_cons (pv 1) pa_nil)))) pss_nil) d3, ?_⟩
    intro p xs ds i way l1 n1 H1 ed hp hx hi M1 h1 f1
    refine ⟨_, rfl, rfl, _, rfl, ite_b (fun e => ?_) (fun _ => z3 p xs ds i way l1 n1 H1 ed hp hx hi M1 h1 f1)⟩
    obtain ⟨c, eb, g, gw⟩ := tupOk ds ed
    have lx := hx.len
    have ls := wA_len ds
    refine ⟨_, rfl, p, xs, rfl, .inr hp, fun p7 h7 => ?_⟩
    have s17 : Same H1 (upd H1 p7 (.lst xs)) := Same.upd h7
    have n7 := M1.ne h7
    have hx7 := DqAll.step (M1.kept s17) ds xs hx
    refine q (.ref p7) (.list ds) l1 _ (.lst upd_same n7.1 n7.2 hx7) ?_ ((M1.same s17).mono (by omega)) (f1.trail s17)
    rw [eb]
    exact (Gd.lst g).mono (by omega) (by omega) (by omega)
  have st1 : ∃ t, PSs (cxOf CX0 P w K mg base NB "_law_bent" (defScope sBent) fB cdv A outer s H E).nox ((defBody sBent).drop 5) t ∧ ∀ (p : Addr) (xs : List V) (ds : List PyData) (i : Nat) (way : Int) (l1 : Addr) (n1 : Nat) (H1 : Hp), d = .tuple ds → SqT K H1 p xs → DqAll K H1 m l1 xs ds → i < xs.length → Mch H1 m l1 n1 → n1 ≤ n + 5 → Fr m l l1 H H1 → t ({ nx := fun _ H' => Q .non H', rt := Q } : Ends) [some (.ref m), some (.ref p), some (.int (i : Int)), some (.int way)] H1 := by
    obtain ⟨t2, d2, z2⟩ := st2
    refine ⟨_, pss_cons (ps_if (pt_cmpR op_eq (pv 3) pe_int (nomark _)) (pss_one (ps_ret (pe_op op_catA (pv 1) (pe_slice sl_tupA (pv 1) (po_some (pv 2)) (po_some (pe_op op_add (pv 2) pe_int)))))) pss_nil) d2, ?_⟩
    intro p xs ds i way l1 n1 H1 ed hp hx hi M1 h1 f1
    refine ⟨_, rfl, rfl, _, rfl, ite_b (fun e => ?_) (fun _ => z2 p xs ds i way l1 n1 H1 ed hp hx hi M1 h1 f1)⟩
    obtain ⟨c, eb, g, gw⟩ := tupOk ds ed
    have lx := hx.len
    have ls := wA_len ds
    refine ⟨_, rfl, _, rfl, _, rfl, _, rfl, _, rfl, _, _, rfl, rfl, _, rfl, ?_⟩
    refine slA_any hp fun p6 H6 s6 c6 => ?_
    rw [cut_one hi] at c6
    refine catA_any (Same.seqT s6 hp) c6 (lenOk _ (by simp; omega)) fun p7 H7 s7 c7 => ?_
    have s17 := s6.trans s7
    have hx7 := DqAll.step (M1.kept s17) ds xs hx
    have w1 := wA_split ds i
    have w2 := wA_split (ds.drop i) 1
    refine q (.ref p7) (.tuple (ds ++ (ds.drop i).take 1)) l1 H7 (.tup c7 (hx7.app ((hx7.drop i).take 1))) ?_ ((M1.same s17).mono (by omega)) (f1.trail s17)
    rw [eb]
    exact (Gd.tup (g.app ((g.dr i).tk 1))).mono (by omega) (by omega) (by omega)
  have st0 : ∃ t, PSs (cxOf CX0 P w K mg base NB "_law_bent" (defScope sBent) fB cdv A outer s H E).nox ((defBody sBent).drop 4) t ∧ ∀ (p : Addr) (xs : List V) (ds : List PyData) (i : Nat) (way : Int) (l1 : Addr) (n1 : Nat) (H1 : Hp), d = .tuple ds → SqT K H1 p xs → DqAll K H1 m l1 xs ds → i < xs.length → Mch H1 m l1 n1 → n1 ≤ n + 5 → Fr m l l1 H H1 → t ({ nx := fun _ H' => Q .non H', rt := Q } : Ends) [some (.ref m), some (.ref p), some (.int (i : Int)), some (.int way)] H1 := by
    obtain ⟨t1, d1, z1⟩ := st1
    refine ⟨_, pss_cons (ps_if (pt_cmpR op_eq (pv 3) pe_int (nomark _)) (pss_one (ps_ret (pe_op op_catA (pe_slice sl_tupA (pv 1) po_none (po_some (pv 2))) (pe_slice sl_tupA (pv 1) (po_some (pe_op op_add (pv 2) pe_int)) po_none)))) pss_nil) d1, ?_⟩
    intro p xs ds i way l1 n1 H1 ed hp hx hi M1 h1 f1
    refine ⟨_, rfl, rfl, _, rfl, ite_b (fun e => ?_) (fun _ => z1 p xs ds i way l1 n1 H1 ed hp hx hi M1 h1 f1)⟩
    obtain ⟨c, eb, g, gw⟩ := tupOk ds ed
    have lx := hx.len
    have ls := wA_len ds
    refine ⟨_, rfl, _, rfl, _, rfl, slA_any hp fun p1 H2 s2 c2 => ?_⟩
    rw [cut_to (by omega)] at c2
    refine ⟨_, rfl, _, rfl, _, _, rfl, rfl, _, rfl, ?_⟩
    refine noPart ?_
    refine slA_any (Same.seqT s2 hp) fun p6 H6 s6 c6 => ?_
    rw [cut_from1 hi] at c6
    refine catA_any (Same.seqT s6 c2) c6 (lenOk _ (by simp; omega)) fun p7 H7 s7 c7 => ?_
    have s17 := (s2.trans s6).trans s7
    have hx7 := DqAll.step (M1.kept s17) ds xs hx
    have w1 := wA_split ds i
    have w2 := wA_split ds (i + 1)
    have w3 : PyData.weightAll (ds.drop (i + 1)) ≤ PyData.weightAll (ds.drop i) := by
      have := wA_split (ds.drop i) 1
      rw [List.drop_drop] at this
      omega
    refine q (.ref p7) (.tuple (ds.take i ++ ds.drop (i + 1))) l1 H7 (.tup c7 ((hx7.take i).app (hx7.drop (i + 1)))) ?_ ((M1.same s17).mono (by omega)) (f1.trail s17)
    rw [eb]
    exact (Gd.tup ((g.tk i).app (g.dr (i + 1)))).mono (by omega) (by omega) (by omega)
  obtain ⟨t0, d0, z0⟩ := st0
  have sa : ∃ t, PSs (cxOf CX0 P w K mg base NB "_law_bent" (defScope sBent) fB cdv A outer s H E).nox ((defBody sBent).drop 3) t ∧ ∀ (p : Addr) (xs : List V) (ds : List PyData) (l1 : Addr) (n1 : Nat) (H1 : Hp), d = .tuple ds → SqT K H1 p xs → DqAll K H1 m l1 xs ds → 0 < xs.length → Mch H1 m l1 n1 → n1 ≤ n + 3 → Fr m l l1 H H1 → t ({ nx := fun _ H' => Q .non H', rt := Q } : Ends) [some (.ref m), some (.ref p), none, none] H1 := by
    refine ⟨_, pss_cons (ps_par (i := 2) (j := 3) (by rfl) scBe.nd rfl rfl (by decide) rfl rfl (pa_cons (pe_call GN hr rfl T.next FN.kp bN .nil pass0 (pa_cons (pv 0) (pa_cons (pe_callB call_len (by rfl) T.len PySem.boot_len (pa_cons (pv 1) pa_nil)) pa_nil))) (pa_cons (pe_call GN hr rfl T.next FN.kp bN .nil pass0 (pa_cons (pv 0) (pa_cons pe_int pa_nil))) pa_nil)) (by rfl)) d0, ?_⟩
    intro p xs ds l1 n1 H1 ed hp hx hi M1 h1 f1
    obtain ⟨c, eb, g, gw⟩ := tupOk ds ed
    have lx := hx.len
    have ls := wA_len ds
    refine ⟨_, rfl, _, rfl, _, _, rfl, .inr ⟨_, hp, rfl⟩, m, l1, n1, (xs.length : Int), rfl, M1, by omega, by omega, by omega, fun r l2 H2 r0 r1 M2 f2 => ?_⟩
    obtain ⟨i, rfl⟩ : ∃ i : Nat, r = (i : Int) := ⟨r.toNat, by omega⟩
    refine ⟨_, rfl, m, l2, n1 + 1, 11, rfl, M2, by omega, by decide, by decide, fun way l3 H3 w0 w1 M3 f3 => ?_⟩
    have F3 := f2.trans f3
    have k4 := M1.step F3
    exact ⟨_, _, rfl, z0 p xs ds i way l3 (n1 + 2) _ ed (k4.tup hp) (DqAll.step k4 ds xs hx) (by omega) M3 (by omega) (f1.trans F3)⟩
  obtain ⟨ta, da, za⟩ := sa
  have sb : ∃ t, PSs (cxOf CX0 P w K mg base NB "_law_bent" (defScope sBent) fB cdv A outer s H E).nox ((defBody sBent).drop 2) t ∧ ∀ (l1 : Addr) (n1 : Nat) (H1 : Hp), Mch H1 m l1 n1 → n1 ≤ n + 2 → Fr m l l1 H H1 → t ({ nx := fun _ H' => Q .non H', rt := Q } : Ends) [some (.ref m), some v, none, none] H1 := by
    refine ⟨_, pss_cons (ps_if (PW.pt (pw_or (pt_not (pt_val (pe_callB call_isi (by rfl) T.isi PyProof.Rows.boot_isinstance (pa_cons (pv 1) (pa_cons (pe_bltn (v := .ty "tuple") (u := .type "tuple") (by rfl) T.tuple (by decide +kernel) rfl) pa_nil))))) (pw_or (pt_cmpR (op_eq_nil hr.units) (pv 1) (pe_tup pa_nil) (nomark _)) (pw_or1 (pt_cmpR op_eq (pe_call GN hr rfl T.next FN.kp bN .nil pass0 (pa_cons (pv 0) (pa_cons pe_int pa_nil))) pe_int (nomark _)))))) (pss_one (ps_ret (pe_call GO hr rfl T.odd FO.kp bO .nil pass0 (pa_cons (pv 0) pa_nil)))) pss_nil) da, ?_⟩
    intro l1 n1 H1 M1 h1 f1
    have hd1 := Dq.step (M.step f1) d v hd
    have retO : ∀ (l1 : Addr) (n1 : Nat) (H1 : Hp), Mch H1 m l1 n1 → n1 ≤ n + 3 → Fr m l l1 H H1 → spOdd K [.ref m] H1 Q E0 := fun l1 n1 H1 M1 h1 f1 =>
      ⟨m, l1, n1, rfl, M1, by omega, fun v2 d2 l2 H3 dq2 gd2 M3 f3 => q v2 d2 l2 H3 dq2 (gd2.mono (by omega) (by omega) (by omega)) (M3.mono (by omega)) (f1.trans f3)⟩
    refine ⟨_, rfl, v, .ty "tuple", _, _, _, rfl, .ty _, hd1.ty, isi_tup K d, _, rfl, ?_⟩
    cases d with
    | tuple ds =>
      cases hd1 with
      | tup hp hx =>
        rename_i p xs
        refine ifF rfl ⟨_, rfl, Nat.zero_le _, fun p0 h0 => ?_⟩
        have s2 : Same H1 (upd H1 p0 (.tup [])) := Same.upd h0
        have M2 := M1.same s2
        have f2 := f1.trail s2
        refine ⟨_, _, xs, rfl, rfl, Same.seqT s2 hp, .inl (.inl upd_same), _, rfl, ite_b (fun e => ifT rfl ⟨_, rfl, retO l1 n1 _ M2 (by omega) f2⟩) (fun e => ?_)⟩
        have hne : xs.length ≠ 0 := fun z => by rw [z] at e; cases e
        refine ⟨_, rfl, m, l1, n1, 6, rfl, M2, by omega, by decide, by decide, fun r l2 H3 r0 r1 M3 f3 => ⟨rfl, _, rfl, ite_b (fun _ => ⟨_, rfl, retO l2 (n1 + 1) _ M3 (by omega) (f2.trans f3)⟩) (fun _ => ?_)⟩⟩
        have k3 := M1.step (Fr.lead s2 f3)
        exact za _ xs ds l2 (n1 + 1) H3 rfl (k3.tup hp) (DqAll.step k3 ds xs hx) (by omega) M3 (by omega) (f2.trans f3)
    | _ => exact ifT rfl (ifT rfl ⟨_, rfl, retO l1 n1 _ M1 (by omega) f1⟩)
  obtain ⟨tb, db, zb⟩ := sb
  have sc : ∃ t, PSs (cxOf CX0 P w K mg base NB "_law_bent" (defScope sBent) fB cdv A outer s H E).nox ((defBody sBent).drop 1) t ∧ ∀ (l1 : Addr) (n1 : Nat) (H1 : Hp), Mch H1 m l1 n1 → n1 ≤ n + 1 → Fr m l l1 H H1 → t ({ nx := fun _ H' => Q .non H', rt := Q } : Ends) [some (.ref m), some v, none, none] H1 := by
    refine ⟨_, pss_cons (ps_if (PW.pt (pw_and (pt_val (pe_callB call_isi (by rfl) T.isi PyProof.Rows.boot_isinstance (pa_cons (pv 1) (pa_cons (pe_bltn (v := .ty "int") (u := .type "int") (by rfl) T.int (by decide +kernel) rfl) pa_nil)))) (pw_and (pt_not (pt_val (pe_callB call_isi (by rfl) T.isi PyProof.Rows.boot_isinstance (pa_cons (pv 1) (pa_cons (pe_bltn (v := .ty "bool") (u := .type "bool") (by rfl) T.bool (by decide +kernel) rfl) pa_nil))))) (pw_and1 (pt_cmpR op_eq (pe_call GN hr rfl T.next FN.kp bN .nil pass0 (pa_cons (pv 0) (pa_cons pe_int pa_nil))) pe_int (nomark _)))))) (pss_one (ps_ret (pe_op op_add (pv 1) (pe_ix ix_list (pe_lst (pa_cons pe_int (pa_cons (pe_un un_neg pe_int) (pa_cons pe_int (pa_cons (pe_un un_neg pe_int) (pa_cons pe_int (pa_cons (pe_un un_neg pe_int) pa_nil))))))) (pe_call GN hr rfl T.next FN.kp bN .nil pass0 (pa_cons (pv 0) (pa_cons pe_int pa_nil))) (fun _ _ => rfl))))) pss_nil) db, ?_⟩
    intro l1 n1 H1 M1 h1 f1
    have hd1 := Dq.step (M.step f1) d v hd
    refine ⟨_, rfl, v, .ty "int", _, _, _, rfl, .ty _, hd1.ty, isi_int K d, _, rfl, ?_⟩
    cases d with
    | int j =>
      cases hd1
      refine ifT rfl ⟨_, rfl, .int j, .ty "bool", _, _, _, rfl, .ty _, .base (.int j), isi_bool K (.int j), _, rfl, ifT rfl ?_⟩
      refine ⟨_, rfl, m, l1, n1, 2, rfl, M1, by omega, by decide, by decide, fun r l2 H2 r0 r1 M2 f2 => ⟨rfl, _, rfl, ite_b (fun _ => ?_) (fun _ => zb l2 (n1 + 1) H2 M2 (by omega) (f1.trans f2))⟩⟩
      refine ⟨_, rfl, _, rfl, _, rfl, _, rfl, (by show 6 ≤ sizeLine; decide), fun pL hL => ?_⟩
      have sL : Same H2 (upd H2 pL (.lst [.int 1, .int (-1), .int 3, .int (-3), .int 100, .int (-100)])) := Same.upd hL
      have nL := M2.ne hL
      refine ⟨_, rfl, m, l2, n1 + 1, 6, rfl, M2.same sL, by omega, by decide, by decide, fun r2 l3 H3 a3 b3 M3 f3 => ?_⟩
      obtain ⟨c, hc, c1, c2⟩ : ∃ c : Int, atI ([.int 1, .int (-1), .int 3, .int (-3), .int 100, .int (-100)] : List V) r2 = some (.int c) ∧ -100 ≤ c ∧ c ≤ 100 := by
        obtain ⟨i, rfl⟩ : ∃ i : Nat, r2 = (i : Int) := ⟨r2.toNat, by omega⟩
        have hi : i < 6 := by omega
        match i, hi with
        | 0, _ => exact ⟨1, rfl, by decide, by decide⟩
        | 1, _ => exact ⟨-1, rfl, by decide, by decide⟩
        | 2, _ => exact ⟨3, rfl, by decide, by decide⟩
        | 3, _ => exact ⟨-3, rfl, by decide, by decide⟩
        | 4, _ => exact ⟨100, rfl, by decide, by decide⟩
        | 5, _ => exact ⟨-100, rfl, by decide, by decide⟩
      refine ⟨pL, _, r2, .int c, rfl, rfl, SqL.of (f3.keep pL _ upd_same nL.1 nL.2), hc, _, _, rfl, rfl, ?_⟩
      have gj := gd.unint
      exact q _ (.int (j + c)) l3 H3 (.int _) ((Gd.int (B := B + 100) (by omega) hB2).mono (Nat.le_refl _) (by omega) (by omega)) (M3.mono (by omega)) ((f1.trans f2).trans (Fr.lead sL f3))
    | bool j =>
      cases hd1
      refine ifT rfl ⟨_, rfl, .bl j, .ty "bool", _, _, _, rfl, .ty _, .base (.bl j), isi_bool K (.bool j), _, rfl, ifF rfl (ifF rfl (zb l1 n1 H1 M1 (by omega) f1))⟩
    | _ => exact ifF rfl (ifF rfl (zb l1 n1 H1 M1 (by omega) f1))
  obtain ⟨tc, dc, zc⟩ := sc
  refine ⟨_, pss_cons (ps_if (PW.pt (pw_and (pt_val (pe_callB call_isi (by rfl) T.isi PyProof.Rows.boot_isinstance (pa_cons (pv 1) (pa_cons (pe_bltn (v := .ty "str") (u := .type "str") (by rfl) T.str (by decide +kernel) rfl) pa_nil)))) (pw_and1 (pt_cmpR op_eq (pe_call GN hr rfl T.next FN.kp bN .nil pass0 (pa_cons (pv 0) (pa_cons pe_int pa_nil))) pe_int (nomark _))))) (pss_one (ps_ret (pe_ix ix_list (pe_lst (pa_cons (pe_op op_add_str (pv 1) pe_str) (pa_cons (pe_slice sl_str (pv 1) (po_some pe_int) po_none) (pa_cons (pe_op op_add_str (pv 1) pe_str) (pa_cons (pe_op op_add_str (pv 1) pe_str) (pa_cons (pe_op op_mul_si (pv 1) pe_int) (pa_cons (pe_op op_add_str (pv 1) pe_str) pa_nil))))))) (pe_call GN hr rfl T.next FN.kp bN .nil pass0 (pa_cons (pv 0) (pa_cons pe_int pa_nil))) (fun _ _ => rfl)))) pss_nil) dc, ?_⟩
  refine ⟨_, rfl, v, .ty "str", _, _, _, rfl, .ty _, hd.ty, isi_str K d, _, rfl, ?_⟩
  cases d with
  | str z =>
    cases hd
    have gz := gd.unstr
    have zl : z.length ≤ 50000 := Nat.le_trans gz.1 ha
    have zs : z.length ≤ sizeLine := lenOk _ (by omega)
    refine ifT rfl ⟨_, rfl, m, l, n, 2, rfl, M, by omega, by decide, by decide, fun r l2 H2 r0 r1 M2 f2 => ⟨rfl, _, rfl, ite_b (fun _ => ?_) (fun _ => zc l2 (n + 1) H2 M2 (by omega) f2)⟩⟩
    refine ⟨_, rfl, z, "b", rfl, rfl, lenOk _ (show z.length + 1 ≤ _ by omega), _, rfl, _, rfl, z, rfl, zs, _, rfl, z, "A", rfl, rfl, lenOk _ (show z.length + 1 ≤ _ by omega), _, rfl, z, " ", rfl, rfl, lenOk _ (show z.length + 1 ≤ _ by omega),
      _, rfl, z, 2, rfl, rfl, mul_small zl, _, rfl, z, "1", rfl, rfl, lenOk _ (show z.length + 1 ≤ _ by omega), (by show 6 ≤ sizeLine; decide), fun pL hL => ?_⟩
    obtain ⟨ws, hws⟩ : ∃ ws : List Str, ws = [z ++ "b", cutS z (some 1) none, z ++ "A", z ++ " ", Txt.mul z 2, z ++ "1"] := ⟨_, rfl⟩
    have one : ∀ c : Nat, c < 0x110000 → sOk (2 * a + 200) (z ++ ⟨#[c]⟩) := fun c hc => (gz.app (sOk.sign hc)).mono (by omega)
    have wok : ∀ y ∈ ws, sOk (2 * a + 200) y := by
      rw [hws]
      intro y hy
      simp only [List.mem_cons, List.mem_nil_iff, or_false] at hy
      rcases hy with rfl | rfl | rfl | rfl | rfl | rfl
      · exact one 98 (by decide)
      · exact (gz.cut _ _).mono (by omega)
      · exact one 65 (by decide)
      · exact one 32 (by decide)
      · exact (mul2_ok gz).mono (by omega)
      · exact one 49 (by decide)
    have wl : ws.length = 6 := by rw [hws]; rfl
    have sL : Same H2 (upd H2 pL (.lst (ws.map V.str))) := Same.upd hL
    have nL := M2.ne hL
    have eL : upd H2 pL (.lst (ws.map V.str)) = upd H2 pL (.lst [.str (z ++ "b"), .str (cutS z (some 1) none), .str (z ++ "A"), .str (z ++ " "), .str (Txt.mul z 2), .str (z ++ "1")]) := by rw [hws]; rfl
    rw [← eL]
    refine ⟨_, rfl, m, l2, n + 1, 6, rfl, M2.same sL, by omega, by decide, by decide, fun r2 l3 H3 a3 b3 M3 f3 => ?_⟩
    obtain ⟨i, rfl⟩ : ∃ i : Nat, r2 = (i : Int) := ⟨r2.toNat, by omega⟩
    obtain ⟨y, hy⟩ : ∃ y, ws[i]? = some y := ⟨_, List.getElem?_eq_getElem (by omega)⟩
    have hv : (ws.map V.str)[i]? = some (.str y) := by rw [List.getElem?_map, hy]; rfl
    refine ⟨pL, _, (i : Int), .str y, rfl, rfl, SqL.of (f3.keep pL _ upd_same nL.1 nL.2), atI_nat hv, ?_⟩
    exact q _ (.str y) l3 H3 (.str _) ((Gd.str (wok y (List.mem_of_getElem? hy))).mono (Nat.le_refl _) (Nat.le_refl _) (by omega)) (M3.mono (by omega)) (f2.trans (Fr.lead sL f3))
  | _ => exact ifF rfl (ifF rfl (zc l n H M (by omega) (Fr.refl M)))
theorem ok_bent {fd fdN fdO : FuncData} (F : Fun K "_law_bent" "_law_bent" sBent fB fd) (bB : Binds K fd ["m", "thing"] []) (T : TxtB mg fN fM fO fB) (FN : Fun K "_law_next" "_law_next" sNext fN fdN) (bN : Binds K fdN ["m", "many"] [])
    (FO : Fun K "_law_odd" "_law_odd" sOdd fO fdO) (bO : Binds K fdO ["m"] []) (k : Nat) : FnOk P w K mg base CX0 (k + 2) fB fd ["m", "thing"] (spBent K k) := by
  induction k with
  | zero => exact ⟨fun vs H Q E h => h.elim, fun A outer s H args us vs Q E hr e bd rel h => h.elim⟩
  | succ k ih => exact bent_step F bB T FN bN FO bO ih
end
end Ms
namespace Ms
open PySem PySem.Spec PyProof.Rows L2
/-! ### data without dicts, compared with itself -/
mutual
def noDi : PyData → Bool
  | .dict _ => false
  | .list xs | .tuple xs => noDiAll xs
  | _ => true
def noDiAll : List PyData → Bool
  | [] => true
  | x :: xs => noDi x && noDiAll xs
end
theorem noDi_all {xs : List PyData} (h : ∀ x ∈ xs, noDi x = true) : noDiAll xs = true := by
  induction xs with
  | nil => rfl
  | cons x xs ih => simp only [noDiAll, h x (List.mem_cons_self ..), ih fun y hy => h y (List.mem_cons_of_mem _ hy), Bool.and_self]
mutual
theorem lay_of {B : Nat} : ∀ d : PyData, okD B d = true → noDi d = true → d.canLay0 = true
  | .none, _, _ => rfl
  | .bool _, _, _ => rfl
  | .int _, _, _ => rfl
  | .str x, e, _ => by
    simp only [okD, List.all_eq_true, decide_eq_true_eq] at e
    show x.cps.all (· < 0x110000) = true
    rw [← Array.all_toList, List.all_eq_true]
    exact fun c hc => decide_eq_true (e c hc)
  | .list xs, e, n => by
    simp only [okD] at e
    simp only [noDi] at n
    exact layAll_of xs e n
  | .tuple xs, e, n => by
    simp only [okD] at e
    simp only [noDi] at n
    exact layAll_of xs e n
  | .dict _, _, n => by simp [noDi] at n
theorem layAll_of {B : Nat} : ∀ xs : List PyData, okAll B xs = true → noDiAll xs = true → PyData.canLayAll0 xs = true
  | [], _, _ => rfl
  | x :: xs, e, n => by
    simp only [okAll, Bool.and_eq_true] at e
    simp only [noDiAll, Bool.and_eq_true] at n
    show (x.canLay0 && PyData.canLayAll0 xs) = true
    rw [lay_of x e.1 n.1, layAll_of xs e.2 n.2]; rfl
end
theorem shaped_of {B a b : Nat} {d : PyData} (g : Gd B a b d) (n : noDi d = true) (hb : b ≤ 60) : SeqAt.shaped d = true := by
  unfold SeqAt.shaped
  rw [lay_of d g.ok n, decide_eq_true (by have := g.dp; omega)]; rfl
mutual
theorem Dq.dp {K : PySem.W.Frag} {H : Hp} {m l : Addr} : ∀ (d : PyData) (v : V), Dq K H m l v d → noDi d = true → Dp K H v d
  | .none, _, h, _ => by cases h; exact .non
  | .bool b, _, h, _ => by cases h; exact .bl b
  | .int i, _, h, _ => by cases h; exact .int i
  | .str x, _, h, _ => by cases h; exact .str x
  | .list ds, _, h, n => by
    simp only [noDi] at n
    cases h with
    | lst e _ _ t => exact .lst (SqL.of e) (DqAll.dp ds _ t n)
  | .tuple ds, _, h, n => by
    simp only [noDi] at n
    cases h with
    | tup e t => exact .tup e (DqAll.dp ds _ t n)
  | .dict _, _, h, n => by simp [noDi] at n
theorem DqAll.dp {K : PySem.W.Frag} {H : Hp} {m l : Addr} : ∀ (ds : List PyData) (vs : List V), DqAll K H m l vs ds → noDiAll ds = true → DpAll K H vs ds
  | [], _, h, _ => by cases h; exact .nil
  | d :: ds, _, h, n => by
    simp only [noDiAll, Bool.and_eq_true] at n
    cases h with
    | cons h1 h2 => exact .cons (Dq.dp d _ h1 n.1) (DqAll.dp ds _ h2 n.2)
end
theorem ne_self {K : PySem.W.Frag} {H : Hp} {m l : Addr} {v u : V} {d : PyData} {B a b : Nat} {Q : VK} (h1 : Dq K H m l v d) (h2 : Dq K H m l u d) (g : Gd B a b d) (n : noDi d = true) (hb : b ≤ 60) (q : Q (.bl false) H) : rNeD K v u H Q :=
  ⟨d, d, h1.dp d v n, h2.dp d u n, shaped_of g n hb, shaped_of g n hb, by rw [SeqAt.eqv_refl d (lay_of d g.ok n)]; exact q⟩
end Ms
namespace Ms
open PySem PySem.Spec PyProof.Rows L2 RZ
/-! ### standings, and the law's names -/
abbrev forBody (s : Stmt) : List Stmt := match s with
  | .For _ _ b _ _ => b
  | _ => []
abbrev bTurn : List Stmt := forBody ((defBody sLaw).getD 1 (.Pass ⟨0, 0, 0, 0⟩))
abbrev NL : List Str := ["script", "m", "turn", "spots", "rows", "row", "some", "thing", "again", "one", "value"]
theorem scL : FnScope NL ["script"] (defScope sLaw) := ⟨rfl, rfl, rfl, by decide +kernel, rfl, by decide +kernel, by decide +kernel⟩
section
variable {P : Program} {w : World} {K : PySem.W.Frag} {mg : Str → Option Value} {base : Heap} {fI fG fSt fNs C fE : Addr}
def spGen (K : PySem.W.Frag) : SpZ := fun vs H Q => ∃ (a : Addr) (xs : List V) (qs : List (Str × Int)), vs = [.ref a] ∧ SqT K H a xs ∧ PrTs K H xs qs ∧ qs.length ≤ 3 ∧ (∀ q ∈ qs, 1 ≤ q.2 ∧ q.2 ≤ 3) ∧
  ∀ as H', Same H H' → Rws H' as (grid qs) → Q (as.map V.ref) H'
theorem scGe : GScope ["settings"] ["settings"] (defScope sGenSt) := ⟨rfl, rfl, rfl, by decide +kernel, rfl, by decide +kernel, by decide +kernel⟩
theorem ok_gen {f : Addr} {fd fdG : FuncData} (F : Fun K "standings" "standings" sGenSt f fd) (T : TxtI mg fI) (gG : mg "grid_of" = some (.ref fG)) (FG : Fun K "grid_of" "grid_of" sPGrid fG fdG) (bG : Binds K fdG ["settings"] []) : GFnZ P w K mg base 2 f fd ["settings"] (spGen K) := by
  have GG : FnOk P w K mg base CX0 1 fG fdG ["settings"] (spPGrid K) := ok_pgrid FG T
  refine gfnZ F rfl scGe (fun vs H Q h => ?_) fun cdv A outer s H vs Q pn hr h => ?_
  · obtain ⟨a, xs, qs, rfl, _⟩ := h
    rfl
  obtain ⟨a, xs, qs, rfl, hs, hp, hl, hb, q⟩ := h
  refine ⟨_, yf_lst (pe_call GG hr (by rfl) gG FG.kp bG .nil pass0 (pa_cons (pv 0) pa_nil)), ?_⟩
  refine ⟨_, rfl, a, xs, qs, rfl, hs, hp, hl, hb, fun D as H' hD s gD rw_ _ => ⟨D, as.map V.ref, rfl, gD, ?_, q as H' s rw_⟩⟩
  have e := rw_.length
  have g := grid_small qs hl hb
  rw [List.length_map, sizeLine_eq]
  omega
end
/-- the scopes of statement two's comprehensions -/
abbrev compSc (e : Expr) : Scope := match e with | .ListComp _ _ sc _ => sc | _ => defScope sLaw
abbrev eltOf (e : Expr) : Expr := match e with | .ListComp e _ _ _ => e | e => e
abbrev argOf (e : Expr) : Expr := match e with | .Call _ (a :: _) _ _ => a | e => e
abbrev leftOf (s : Stmt) : Expr := match s with | .If (.Compare l _ _ _) _ _ _ => l | _ => .Name "" ⟨0, 0, 0, 0⟩
abbrev scQa : Scope := compSc (leftOf (bTurn.getD 2 (.Pass ⟨0, 0, 0, 0⟩)))
abbrev scQb : Scope := compSc (argOf (eltOf (leftOf (bTurn.getD 2 (.Pass ⟨0, 0, 0, 0⟩)))))
def rReprD (K : PySem.W.Frag) : List V → Hp → VK → Prop := fun xs H Q => ∃ x d m l, xs = [x] ∧ Dq K H m l x d ∧ d.showable = true ∧ d.depth ≤ 60 ∧ d.shown.length ≤ sizeLine ∧ Q (.str d.shown) H
/-! ### the rows as data -/
def rowsD (rs : List (List Int)) : List PyData := rs.map fun r => .tuple (r.map .int)
theorem rws_dq {K : PySem.W.Frag} {H : Hp} {m l : Addr} {as : List Addr} {rs : List (List Int)} (p : Rws H as rs) : DqAll K H m l (as.map V.ref) (rowsD rs) := by
  induction p with
  | nil => exact .nil
  | cons h _ ih => exact .cons (.tup (.inl (.inl h)) (ints_dq _)) ih
theorem rwq_dq {K : PySem.W.Frag} {H : Hp} {m l : Addr} {vs : List V} {rs : List (List Int)} (p : Rwq K H vs rs) : DqAll K H m l vs (rowsD rs) := by
  induction p with
  | nil => exact .nil
  | cons h _ ih => exact .cons (.tup h (ints_dq _)) ih
theorem most_b {ys : List (Str × Int)} (so : SetOk ys) : ∀ q ∈ ys, 0 ≤ q.2 ∧ q.2 ≤ 9 := fun q hq => by
  have := so.most q hq
  omega
theorem row_b {ys : List (Str × Int)} (so : SetOk ys) {r : List Int} (h : r ∈ grid ys) : r.length ≤ 3 ∧ r.length = ys.length ∧ ∀ z ∈ r, 0 ≤ z ∧ z ≤ 3 := by
  have st := (mem_grid fun q hq => (most_b so q hq).1).mp h
  have l3 := so.len3
  refine ⟨by rw [st.1]; exact l3, st.1, fun z hz => ?_⟩
  obtain ⟨j, hj⟩ := List.mem_iff_getElem?.mp hz
  obtain ⟨b, _⟩ := List.getElem?_eq_some_iff.mp hj
  have hq : ys[j]? = some (ys[j]'(by rw [← st.1]; exact b)) := List.getElem?_eq_getElem _
  have h1 := st.2 j _ z hq hj
  have h2 := so.most _ (List.mem_of_getElem? hq)
  omega
theorem row_good {ys : List (Str × Int)} (so : SetOk ys) {r : List Int} (h : r ∈ grid ys) : Gd big 400 1 (.tuple (r.map .int)) := by
  obtain ⟨h1, _, h3⟩ := row_b so h
  exact (Gd.tup (ints_good r fun z hz => by have := h3 z hz; omega)).mono (Nat.le_refl _) (by omega) (Nat.le_refl _)
theorem rows_good {ys : List (Str × Int)} (so : SetOk ys) : ∀ rs : List (List Int), (∀ r ∈ rs, r ∈ grid ys) → Gl' big (401 * rs.length) 1 (rowsD rs)
  | [], _ => ⟨(fun d h => nomatch h), Nat.le_refl _, (fun d h => nomatch h)⟩
  | r :: rs, h => ((Gl'.one (row_good so (h r (List.mem_cons_self ..)))).app (rows_good so rs fun x hx => h x (List.mem_cons_of_mem _ hx))).mono (Nat.le_refl _) (by simp only [List.length_cons]; omega) (Nat.le_refl _)
theorem grid12 {ys : List (Str × Int)} (so : SetOk ys) : 1 ≤ (grid ys).length ∧ (grid ys).length ≤ 12 := by
  have e := grid_many ys so.most
  have f := so.few
  refine ⟨?_, by omega⟩
  have key : ∀ (qs : List (Str × Int)) (k : Int), 1 ≤ k → (∀ q ∈ qs, 1 ≤ q.2 ∧ q.2 ≤ 3) → 1 ≤ qs.foldl (fun m q => m * (q.2 + 1)) k := by
    intro qs
    induction qs with
    | nil => exact fun k h _ => h
    | cons q qs ih =>
      intro k hk h
      have hq := h q (List.mem_cons_self ..)
      refine ih _ ?_ fun y hy => h y (List.mem_cons_of_mem _ hy)
      have := Int.mul_le_mul hk (show (1 : Int) ≤ q.2 + 1 by omega) (by decide) (by omega)
      simpa using this
  have := key ys 1 (by decide) so.most
  unfold many at e
  omega
theorem list_good {ys : List (Str × Int)} (so : SetOk ys) : Gd big 4812 2 (.list (rowsD (grid ys))) := by
  have g := (grid12 so).2
  exact (Gd.lst (rows_good so (grid ys) fun r h => h)).mono (Nat.le_refl _) (by omega) (Nat.le_refl _)
/-- what stands behind the second statement of a turn -/
structure TK (K : PySem.W.Frag) (H : Hp) (m l : Addr) (n : Nat) (pS : Addr) (xs : List V) (ys : List (Str × Int)) (pR : Addr) (rv : List V) : Prop where
  M : Mch H m l n
  so : SetOk ys
  s : SqT K H pS xs
  xs_ : PrTs K H xs ys
  rows : H pR = some (.lst rv)
  rq : Rwq K H rv (grid ys)
  nm : pR ≠ m
  nl : pR ≠ l
theorem TK.same {K : PySem.W.Frag} {H H' : Hp} {m l : Addr} {n : Nat} {pS : Addr} {xs : List V} {ys : List (Str × Int)} {pR : Addr} {rv : List V} (s : Same H H') (T : TK K H m l n pS xs ys pR rv) : TK K H' m l n pS xs ys pR rv :=
  ⟨T.M.same s, T.so, Same.seqT s T.s, PrTs.same s T.xs_, s _ _ T.rows, T.rq.same s, T.nm, T.nl⟩
end Ms
namespace Ms
open PySem PySem.Spec PyProof.Rows L2
/-! ### the repr of data, as a text that is shown itself -/
def cpsOk (z : Str) : Prop := ∀ c ∈ z.cps.toList, c < 0x110000
theorem cpsOk.app {z y : Str} (h : cpsOk z) (h2 : cpsOk y) : cpsOk (z ++ y) := fun c hc => by
  rw [app_cps] at hc
  rcases List.mem_append.mp hc with hc | hc
  · exact h c hc
  · exact h2 c hc
theorem char_lt (c : Char) : c.toNat < 0x110000 := by
  rcases c.valid with h | ⟨_, h⟩
  · have : c.toNat < 0xd800 := h
    omega
  · exact h
theorem reprChar_ok {q c : Nat} (hq : q < 0x110000) (hc : c < 0x110000) : ∀ x ∈ Builtin.Str.reprChar q c, x < 0x110000 := by
  have hex : ∀ w : Nat, ∀ x ∈ List.replicate (w - ((Nat.toDigits 16 c).map Char.toNat).length) 48 ++ (Nat.toDigits 16 c).map Char.toNat, x < 0x110000 := fun w x hx => by
    rcases List.mem_append.mp hx with hx | hx
    · rw [(List.mem_replicate.mp hx).2]; decide
    · obtain ⟨d, _, rfl⟩ := List.mem_map.mp hx
      exact char_lt d
  intro x hx
  unfold Builtin.Str.reprChar at hx
  dsimp only at hx
  repeat' split at hx
  all_goals first
    | (simp only [List.mem_cons, List.mem_nil_iff, or_false] at hx
       rcases hx with rfl | rfl <;> first | assumption | decide)
    | (simp only [List.mem_cons, List.mem_nil_iff, or_false] at hx
       rw [hx]; assumption)
    | (rcases List.mem_append.mp hx with hx | hx
       · simp only [List.mem_cons, List.mem_nil_iff, or_false] at hx
         rcases hx with rfl | rfl <;> decide
       · exact hex _ x hx)
theorem repr_ok {z : Str} (h : cpsOk z) : cpsOk (reprText z) := fun c hc => by
  have hq : reprQuote z < 0x110000 := by unfold reprQuote; split <;> decide
  rw [repr_list] at hc
  rcases List.mem_cons.mp hc with rfl | hc
  · exact hq
  · rcases List.mem_append.mp hc with hc | hc
    · obtain ⟨y, hy, hc⟩ := List.mem_flatMap.mp hc
      exact reprChar_ok hq (h y hy) c hc
    · rw [List.mem_singleton.mp hc]; exact hq
theorem cps_lit {z : Str} (h : (z.cps.toList.all fun c => decide (c < 0x110000)) = true) : cpsOk z := fun c hc => by
  rw [List.all_eq_true] at h
  exact of_decide_eq_true (h c hc)
theorem text_ok : ∀ (ts : List Str) (k : Nat) (acc : Str), cpsOk acc → (∀ t ∈ ts, cpsOk t) → cpsOk (textFrom k acc ts)
  | [], _, _, h, _ => h
  | t :: r, k, acc, h, ht => by
    refine text_ok r _ _ (cpsOk.app (cpsOk.app h ?_) (ht t (List.mem_cons_self ..))) fun x hx => ht x (List.mem_cons_of_mem _ hx)
    split
    · exact cps_lit (by decide +kernel)
    · exact cps_lit (by decide +kernel)
theorem join_ok : ∀ (ts : List Str), (∀ t ∈ ts, cpsOk t) → cpsOk (Str.join ", " ts)
  | [], _ => cps_lit (by decide +kernel)
  | [t], h => h t (List.mem_cons_self ..)
  | t :: y :: r, h => by
    have e : Str.join ", " (t :: y :: r) = t ++ ", " ++ Str.join ", " (y :: r) := rfl
    rw [e]
    exact cpsOk.app (cpsOk.app (h t (List.mem_cons_self ..)) (cps_lit (by decide +kernel))) (join_ok (y :: r) fun x hx => h x (List.mem_cons_of_mem _ hx))
mutual
theorem shown_cps {B : Nat} : ∀ d : PyData, okD B d = true → cpsOk d.shown
  | .none, _ => cps_lit (by decide +kernel)
  | .bool true, _ => cps_lit (by decide +kernel)
  | .bool false, _ => cps_lit (by decide +kernel)
  | .int i, _ => fun c hc => by
    rcases int_signs i c hc with h | h <;> omega
  | .str z, e => by
    simp only [okD, List.all_eq_true, decide_eq_true_eq] at e
    exact repr_ok e
  | .list xs, e => by
    simp only [okD] at e
    simp only [PyData.shown]
    unfold listText
    exact cpsOk.app (text_ok _ _ _ (cps_lit (by decide +kernel)) (shownAll_cps xs e)) (cps_lit (by decide +kernel))
  | .tuple xs, e => by
    simp only [okD] at e
    simp only [PyData.shown]
    unfold tupleText
    refine cpsOk.app (cpsOk.app (cps_lit (by decide +kernel)) (join_ok _ (shownAll_cps xs e))) ?_
    split <;> exact cps_lit (by decide +kernel)
  | .dict [], _ => cps_lit (by decide +kernel)
  | .dict (a :: b), e => by simp [okD] at e
theorem shownAll_cps {B : Nat} : ∀ xs : List PyData, okAll B xs = true → ∀ t ∈ PyData.shownAll xs, cpsOk t
  | [], _ => fun t h => nomatch h
  | x :: xs, e => fun t h => by
    simp only [okAll, Bool.and_eq_true] at e
    rcases List.mem_cons.mp (show t ∈ x.shown :: PyData.shownAll xs from h) with rfl | h
    · exact shown_cps x e.1
    · exact shownAll_cps xs e.2 t h
end
theorem shown_sOk {a b : Nat} {d : PyData} (g : Gd (10 ^ 31) a b d) : sOk (66 * a + 64) d.shown := by
  obtain ⟨h1, h2⟩ := ok_shows d g.ok
  have h := PyData.shown_le 64 (by decide) d h2
  have w := g.wt
  refine ⟨by omega, fun c hc => shown_cps d g.ok c hc⟩
end Ms
namespace Ms
open PySem PySem.Spec PyProof.Rows L2 RZ
section
variable {P : Program} {w : World} {K : PySem.W.Frag} {mg : Str → Option Value} {base : Heap} {fN fM fO fB fI fG fGe fSt f : Addr} {cdv : Value} {fdGe : FuncData} {s : Shared} {H0 : Hp} {Eb : XK}
/-! ### the second statement: standings yields the law's rows, twice -/
theorem law_two {tT : TS} (T0 : TxtB mg fN fM fO fB) (hrep : mg "repr" = none) (gGe : mg "standings" = some (.ref fGe)) (FGe : Fun K "standings" "standings" sGenSt fGe fdGe) (bGe : Binds K fdGe ["settings"] []) (GGe : GFnZ P w K mg base 2 fGe fdGe ["settings"] (spGen K))
    (hr : Room 8 (callerA.deeper (envOfC "law" (defScope sLaw) s.heap.objs.size f cdv)))
    (dT : PSs (cxOf CX0 P w K mg base NL "law" (defScope sLaw) f cdv callerA [] s H0 Eb).nox (bTurn.drop 3) tT) :
    ∃ t, PSs (cxOf CX0 P w K mg base NL "law" (defScope sLaw) f cdv callerA [] s H0 Eb).nox (bTurn.drop 2) t ∧ ∀ (D : Ends) (H1 : Hp) (a m l : Addr) (n : Nat) (pS : Addr) (xs : List V) (ys : List (Str × Int)) (pR : Addr) (rv : List V) (v2 v5 v6 v7 v8 v9 v10 : Option V),
      TK K H1 m l n pS xs ys pR rv →
      (∀ H2, TK K H2 m l n pS xs ys pR rv → tT D [some (.ref a), some (.ref m), v2, some (.ref pS), some (.ref pR), v5, v6, v7, v8, v9, v10] H2) →
      t D [some (.ref a), some (.ref m), v2, some (.ref pS), some (.ref pR), v5, v6, v7, v8, v9, v10] H1 := by
  have gA : (callerA.deeper (envOfC "law" (defScope sLaw) s.heap.objs.size f cdv)).guards = some [] := rfl
  have hr2 : Room 2 (callerA.deeper (envOfC "law" (defScope sLaw) s.heap.objs.size f cdv)) := hr.mono (by decide)
  have hr5 : Room 5 (callerA.deeper (envOfC "law" (defScope sLaw) s.heap.objs.size f cdv)) := hr.mono (by decide)
  refine ⟨_, pss_cons (ps_if (pt_cmpR (show OpR _ (compareOp .NotEq) (rNeD K) from op_neD (by exact hr.units))
      (pe_lc (own := [("again", 8)]) (g := gName 8) (by rfl) scL.nd (pi_range1 (by rfl) T0.range (pa_cons pe_int pa_nil)) (blkOk_by (own := [("again", 8)]) (N := NL) (sc := defScope sLaw) (by decide +kernel))
        (fun _ _ _ _ _ => pg_name (i := 8) scL.nd rfl (by first | exact Or.inl rfl | exact Or.inr rfl)) (fun _ _ _ _ _ => pts_nil)
        (fun _ _ _ _ _ => pe_callB (show CallR _ (.builtin "repr") (rReprD K) from call_reprD (by exact gA) (by exact hr.units)) (by rfl) hrep (id (by decide +kernel : PySem.bootBuiltins "repr" = some (Value.builtin "repr")))
          (pa_cons (pe_lcGen (k := 2) (own := [("row", 5)]) (by rfl) (pgenZ_call (by exact GGe) (by exact hr2) (by rfl) gGe FGe.kp bGe (pa_cons (pv 3) pa_nil)) (by exact hr5) (blkOk_by (own := [("row", 5)]) (N := NL) (sc := relS scQa (defScope sLaw)) (scope := scQb) (by decide +kernel)) (by rfl)) pa_nil)))
      (pe_op op_rep (pe_lst (pa_cons (pe_callB (show CallR _ (.builtin "repr") (rReprD K) from call_reprD (by exact gA) (by exact hr.units)) (by rfl) hrep (id (by decide +kernel : PySem.bootBuiltins "repr" = some (Value.builtin "repr"))) (pa_cons (pv 4) pa_nil)) pa_nil)) pe_int) (nomark _)) (pss_one (ps_ret pe_bl)) pss_nil) dT, ?_⟩
  intro D H1 a m l n pS xs ys pR rv v2 v5 v6 v7 v8 v9 v10 T nx
  have gd := list_good T.so
  have sh := (gd.mono (B' := 10 ^ 31) (by decide) (Nat.le_refl _) (Nat.le_refl _)).shown (by decide)
  have dp : (PyData.list (rowsD (grid ys))).depth ≤ 60 := Nat.le_trans gd.dp (by decide)
  generalize eS : (PyData.list (rowsD (grid ys))).shown = S at sh
  refine ⟨2, rfl, by decide, by decide, fun Dl hDl => ?_⟩
  have hs := shown_sOk (gd.mono (B' := 10 ^ 31) (by decide) (Nat.le_refl _) (Nat.le_refl _))
  rw [eS] at hs
  refine lc_it (walk_range (lo := 0) (n := 2)) (fun i H3 => Same H1 H3 ∧ H3 Dl = some (.lst (List.replicate i (V.str S)))) ⟨Same.upd hDl, upd_same⟩ (fun _ _ _ _ => True.intro) ?_ ?_
  · rintro i y H3 H4 hi ⟨s3, g3⟩ ⟨rfl, ex⟩
    have T3 := T.same s3
    refine ⟨rfl, tyes ⟨_, rfl, pS, xs, ys, rfl, T3.s, T3.xs_, T3.so.len3, T3.so.most, fun as H5 s5 rw5 p hp => ?_⟩⟩
    have sp : Same H5 (upd H5 p (.lst (as.map V.ref))) := Same.upd hp
    have np := (T3.M.same s5).ne hp
    have dq : Dq K (upd H5 p (.lst (as.map V.ref))) m l (.ref p) (.list (rowsD (grid ys))) := .lst upd_same np.1 np.2 (DqAll.same sp _ _ (rws_dq rw5))
    refine ⟨.ref p, _, m, l, rfl, dq, sh.1, dp, by rw [eS]; exact sh.2, ?_⟩
    rw [eS]
    refine ⟨_, sp _ _ (s5 _ _ g3), small1000 (by rw [List.length_replicate]; omega), fun b o e => ?_, ?_⟩
    · rw [upd_ne (ne_of_none e hDl)]
      exact sp _ _ (s5 _ _ (s3 _ _ e))
    · rw [upd_same, List.replicate_succ']
  · rintro H3 ⟨s3, g3⟩
    have T3 := T.same s3
    have nD := T.M.ne hDl
    refine ⟨_, rfl, .ref pR, _, m, l, rfl, .lst T3.rows T3.nm T3.nl (rwq_dq T3.rq), sh.1, dp, by rw [eS]; exact sh.2, (by show 1 ≤ sizeLine; decide), fun p1 hp1 => ?_⟩
    rw [eS]
    have sp1 : Same H3 (upd H3 p1 (.lst [.str S])) := Same.upd hp1
    refine ⟨p1, 2, [.str S], rfl, rfl, upd_same, by decide, by decide, (by show 1 * 2 ≤ sizeLine; decide), fun p2 hp2 => ?_⟩
    have sp2 : Same (upd H3 p1 (.lst [.str S])) (upd (upd H3 p1 (.lst [.str S])) p2 (.lst [.str S, .str S])) := Same.upd hp2
    have np2 := (T3.M.same sp1).ne hp2
    show rNeD K (.ref Dl) (.ref p2) (upd (upd H3 p1 (.lst [.str S])) p2 (.lst [.str S, .str S])) _
    have gS : Gd big (66 * 4812 + 64) 0 (.str S) := Gd.str hs
    refine ne_self (m := m) (l := l) (d := .list [.str S, .str S]) (.lst (sp2 _ _ (sp1 _ _ g3)) nD.1 nD.2 (.cons (.str _) (.cons (.str _) .nil))) (.lst upd_same np2.1 np2.2 (.cons (.str _) (.cons (.str _) .nil))) (Gd.lst ((Gl'.one gS).app (Gl'.one gS))) rfl (by decide) ⟨_, rfl, ifF rfl ?_⟩
    exact nx _ (T3.same (sp1.trans sp2))
end
end Ms
namespace Ms
open PySem PySem.Spec PyProof.Rows L2 RZ
section
variable {P : Program} {w : World} {K : PySem.W.Frag} {mg : Str → Option Value} {base : Heap} {fN fM fO fB fI fG fGe fSt f : Addr} {cdv : Value} {fdSt : FuncData} {s : Shared} {H0 : Hp} {Eb : XK}
abbrev bEach : List Stmt := forBody (bTurn.getD 8 (.Pass ⟨0, 0, 0, 0⟩))
/-! ### one thing: is_standing tells what the law's rows tell -/
theorem law_each (hrep : mg "repr" = none) (gSt : mg "is_standing" = some (.ref fSt)) (FSt : Fun K "is_standing" "is_standing" sPStand fSt fdSt) (bSt : Binds K fdSt ["settings", "thing"] []) (GSt : FnOk P w K mg base CX0 2 fSt fdSt ["settings", "thing"] (spPStand K))
    (hr : Room 8 (callerA.deeper (envOfC "law" (defScope sLaw) s.heap.objs.size f cdv))) :
    ∃ t, PSs (cxOf CX0 P w K mg base NL "law" (defScope sLaw) f cdv callerA [] s H0 Eb).nox bEach t ∧ ∀ (D : Ends) (H1 : Hp) (a m l : Addr) (n : Nat) (pS : Addr) (xs : List V) (ys : List (Str × Int)) (pR : Addr) (rv : List V) (v : V) (d : PyData) (v2 v5 v6 v8 v9 v10 : Option V),
      TK K H1 m l n pS xs ys pR rv → Dq K H1 m l v d → Gd (10 ^ 31) 1000 8 d →
      (∀ H2, Same H1 H2 → D.nx [some (.ref a), some (.ref m), v2, some (.ref pS), some (.ref pR), v5, v6, some v, v8, v9, v10] H2) →
      t D [some (.ref a), some (.ref m), v2, some (.ref pS), some (.ref pR), v5, v6, some v, v8, v9, v10] H1 := by
  have gA : (callerA.deeper (envOfC "law" (defScope sLaw) s.heap.objs.size f cdv)).guards = some [] := rfl
  have hr2 : Room 2 (callerA.deeper (envOfC "law" (defScope sLaw) s.heap.objs.size f cdv)) := hr.mono (by decide)
  refine ⟨_, pss_one (ps_if (pt_cmpR op_ne (pe_callB (show CallR _ (.builtin "repr") (rReprD K) from call_reprD (by exact gA) (by exact hr.units)) (by rfl) hrep (id (by decide +kernel : PySem.bootBuiltins "repr" = some (Value.builtin "repr"))) (pa_cons (pe_call GSt hr2 (by rfl) gSt FSt.kp bSt .nil pass0 (pa_cons (pv 3) (pa_cons (pv 7) pa_nil))) pa_nil))
      (pe_callB (show CallR _ (.builtin "repr") (rReprD K) from call_reprD (by exact gA) (by exact hr.units)) (by rfl) hrep (id (by decide +kernel : PySem.bootBuiltins "repr" = some (Value.builtin "repr"))) (pa_cons (pe_cmpR op_in_seq
        (pe_callB (show CallR _ (.builtin "repr") (rReprD K) from call_reprD (by exact gA) (by exact hr.units)) (by rfl) hrep (id (by decide +kernel : PySem.bootBuiltins "repr" = some (Value.builtin "repr"))) (pa_cons (pv 7) pa_nil))
        (pe_lc (own := [("one", 9)]) (g := gName 9) (by rfl) scL.nd (pi_list (pv 4)) (blkOk_by (own := [("one", 9)]) (N := NL) (sc := defScope sLaw) (by decide +kernel))
          (fun _ _ _ _ _ => pg_name (i := 9) scL.nd rfl (by first | exact Or.inl rfl | exact Or.inr rfl)) (fun _ _ _ _ _ => pts_nil) (fun _ _ _ _ _ => pe_callB (show CallR _ (.builtin "repr") (rReprD K) from call_reprD (by exact gA) (by exact hr.units)) (by rfl) hrep (id (by decide +kernel : PySem.bootBuiltins "repr" = some (Value.builtin "repr"))) (pa_cons (pv 9) pa_nil))) (by rfl)) pa_nil)) (nomark _))
      (pss_one (ps_ret pe_bl)) pss_nil), ?_⟩
  intro D H1 a m l n pS xs ys pR rv v d v2 v5 v6 v8 v9 v10 T dv gv nx
  have sh := gv.shown (by decide)
  have dp : d.depth ≤ 60 := Nat.le_trans gv.dp (by decide)
  have l1 := T.so.len1
  have l3 := T.so.len3
  have g12 := (grid12 T.so).2
  have lr := T.rq.len
  refine ⟨_, rfl, _, rfl, m, l, pS, xs, ys, v, d, rfl, T.s, T.xs_, by omega, dv, fun H2 s2 => ?_⟩
  have shb : (PyData.bool (standD ys d)).showable = true ∧ (PyData.bool (standD ys d)).depth ≤ 60 ∧ (PyData.bool (standD ys d)).shown.length ≤ sizeLine := by cases standD ys d <;> exact ⟨rfl, by decide, by decide⟩
  refine ⟨.bl (standD ys d), .bool (standD ys d), m, l, rfl, .bl _, shb.1, shb.2.1, shb.2.2, ?_⟩
  refine ⟨_, rfl, v, d, m, l, rfl, Dq.same s2 _ _ dv, sh.1, dp, sh.2, ?_⟩
  have T2 := T.same s2
  refine ⟨_, rfl, pR, rfl, ⟨_, SqL.of T2.rows⟩, fun Dl hDl => ?_⟩
  have nD : pR ≠ Dl := ne_of_none T2.rows hDl
  refine lc_it (walk_list (xs := rv)) (fun i H3 => H3 = upd H2 Dl (.lst ((((grid ys).take i).map rowS).map V.str))) rfl (fun i H3 _ e3 => SqL.of (by rw [e3, upd_ne nD]; exact T2.rows)) ?_ ?_
  · rintro i y H3 H4 hi e3 ⟨rfl, hy⟩
    obtain ⟨ar, r, rfl, hrr, hpr⟩ := T2.rq.get hy
    have s3 : Same H2 H4 := e3 ▸ Same.upd hDl
    have ti : (grid ys).take (i + 1) = (grid ys).take i ++ [r] := by rw [List.take_succ, hrr]; rfl
    have gr := row_good T.so (List.mem_of_getElem? hrr)
    have shr := (gr.mono (B' := 10 ^ 31) (by decide) (Nat.le_refl _) (Nat.le_refl _)).shown (by decide)
    refine ⟨rfl, tyes ⟨_, rfl, .ref ar, .tuple (r.map .int), m, l, rfl, .tup (Same.seqT s3 hpr) (ints_dq r), shr.1, Nat.le_trans gr.dp (by decide), shr.2, _, by rw [e3]; exact upd_same, small1000 (by rw [List.length_map, List.length_map, List.length_take]; omega), ?_⟩⟩
    rw [e3, upd_upd, ti, List.map_append, List.map_append]
    rfl
  · rintro H3 e3
    rw [List.take_of_length_le (by omega)] at e3
    have s3 : Same H2 H3 := e3 ▸ Same.upd hDl
    have gD : H3 Dl = some (.lst (((grid ys).map rowS).map V.str)) := by rw [e3, upd_same]
    refine ⟨Dl, _, rfl, .inl (SqL.of gD), rfl, ?_, ?_⟩
    · rw [List.all_eq_true]
      intro z hz
      obtain ⟨y, _, rfl⟩ := List.mem_map.mp hz
      rfl
    rw [inV_str, in_rows (most_b T.so) l1]
    refine ⟨.bl (standD ys d), .bool (standD ys d), m, l, rfl, .bl _, shb.1, shb.2.1, shb.2.2, rfl, _, rfl, iteNS rfl (nx H3 (s2.trans s3))⟩
/-! ### the loop over all things -/
theorem law_loop {tE : TS} (dE : PSs (cxOf CX0 P w K mg base NL "law" (defScope sLaw) f cdv callerA [] s H0 Eb).nox bEach tE)
    (zE : ∀ (D : Ends) (H1 : Hp) (a m l : Addr) (n : Nat) (pS : Addr) (xs : List V) (ys : List (Str × Int)) (pR : Addr) (rv : List V) (v : V) (d : PyData) (v2 v5 v6 v8 v9 v10 : Option V),
      TK K H1 m l n pS xs ys pR rv → Dq K H1 m l v d → Gd (10 ^ 31) 1000 8 d →
      (∀ H2, Same H1 H2 → D.nx [some (.ref a), some (.ref m), v2, some (.ref pS), some (.ref pR), v5, v6, some v, v8, v9, v10] H2) →
      tE D [some (.ref a), some (.ref m), v2, some (.ref pS), some (.ref pR), v5, v6, some v, v8, v9, v10] H1) :
    ∃ t, PSs (cxOf CX0 P w K mg base NL "law" (defScope sLaw) f cdv callerA [] s H0 Eb).nox (bTurn.drop 8) t ∧ ∀ (D : Ends) (H1 : Hp) (a m l : Addr) (n : Nat) (pS : Addr) (xs : List V) (ys : List (Str × Int)) (pR : Addr) (rv : List V) (L : Addr) (vs : List V) (v2 v5 v7 v8 v9 v10 : Option V),
      TK K H1 m l n pS xs ys pR rv → H1 L = some (.lst vs) → (∀ v ∈ vs, ∃ d, Dq K H1 m l v d ∧ Gd (10 ^ 31) 1000 8 d) →
      (∀ (v7 : Option V) H2, Mch H2 m l n → D.nx [some (.ref a), some (.ref m), v2, some (.ref pS), some (.ref pR), v5, some (.ref L), v7, v8, v9, v10] H2) →
      t D [some (.ref a), some (.ref m), v2, some (.ref pS), some (.ref pR), v5, some (.ref L), v7, v8, v9, v10] H1 := by
  refine ⟨_, pss_one (ps_for PassesOwn.never rfl (pi_list (pv 6)) (pg_name (i := 7) scL.nd rfl (Or.inl rfl)) dE), ?_⟩
  intro D H1 a m l n pS xs ys pR rv L vs v2 v5 v7 v8 v9 v10 T gL it nx
  refine ⟨_, rfl, L, rfl, ⟨_, SqL.of gL⟩, for_list (K := K) (a := L) (xs := vs) (fun i σ H7 => ∃ v7 : Option V, σ = [some (.ref a), some (.ref m), v2, some (.ref pS), some (.ref pR), v5, some (.ref L), v7, v8, v9, v10] ∧ Same H1 H7)
    ⟨_, rfl, Same.refl H1⟩ (fun i σ H7 _ ⟨_, _, s7⟩ => SqL.of (s7 _ _ gL)) ?_ ?_⟩
  · rintro i y σ H7 hi ⟨v7, rfl, s7⟩
    obtain ⟨d, h1, h2⟩ := it y (List.mem_of_getElem? hi)
    exact zE _ H7 a m l n pS xs ys pR rv y d v2 _ _ _ _ _ (T.same s7) (Dq.same s7 _ _ h1) h2 fun H8 s8 => ⟨_, rfl, s7.trans s8⟩
  · rintro σ H7 ⟨v7, rfl, s7⟩
    exact nx _ _ (T.M.same s7)
end
end Ms
namespace Ms
open PySem PySem.Spec PyProof.Rows L2 RZ
/-! ### a tuple is appended to the list of things -/
/-- the list at L, all else in Hb -/
structure Th (K : PySem.W.Frag) (Hb : Hp) (m l : Addr) (n : Nat) (pS : Addr) (xs : List V) (ys : List (Str × Int)) (pR : Addr) (rv : List V) (ar : Addr) (rr : List Int) (L : Addr) (vs : List V) : Prop where
  t : TK K Hb m l n pS xs ys pR rv
  r : SqT K Hb ar (rr.map V.int)
  rm : rr ∈ grid ys
  no : Hb L = none
  it : ∀ v ∈ vs, ∃ d, Dq K Hb m l v d ∧ Gd (10 ^ 31) 1000 8 d
  lv : vs.length ≤ 20
/-- a comprehension's list at D, a tuple of it at p, and p behind the list at L -/
theorem Th.push {K : PySem.W.Frag} {Hb : Hp} {m l : Addr} {n : Nat} {pS : Addr} {xs : List V} {ys : List (Str × Int)} {pR : Addr} {rv : List V} {ar : Addr} {rr : List Int} {L Dl p : Addr} {vs ws : List V} {ds : List PyData}
    (T : Th K Hb m l n pS xs ys pR rv ar rr L vs) (hD : (upd Hb L (.lst vs)) Dl = none) (hp : (upd (upd Hb L (.lst vs)) Dl (.lst ws)) p = none) (hd : ∀ H m l, DqAll K H m l ws ds) (g : Gd (10 ^ 31) 1000 8 (.tuple ds)) (hl : vs.length + 1 ≤ 20) :
    ∃ Hc, Th K Hc m l n pS xs ys pR rv ar rr L (vs ++ [.ref p]) ∧ upd (upd (upd (upd Hb L (.lst vs)) Dl (.lst ws)) p (.tup ws)) L (.lst (vs ++ [.ref p])) = upd Hc L (.lst (vs ++ [.ref p])) ∧ (upd (upd (upd Hb L (.lst vs)) Dl (.lst ws)) p (.tup ws)) L = some (.lst vs) := by
  have nDL : Dl ≠ L := fun e => by rw [e, upd_same] at hD; cases hD
  have npD : p ≠ Dl := fun e => by rw [e, upd_same] at hp; cases hp
  have npL : p ≠ L := fun e => by rw [e, upd_ne nDL.symm, upd_same] at hp; cases hp
  have hDb : Hb Dl = none := by rw [upd_ne nDL] at hD; exact hD
  have hpb : Hb p = none := by rw [upd_ne npD, upd_ne npL] at hp; exact hp
  have s1 : Same Hb (upd Hb Dl (.lst ws)) := Same.upd hDb
  have s2 : Same (upd Hb Dl (.lst ws)) (upd (upd Hb Dl (.lst ws)) p (.tup ws)) := Same.upd (by rw [upd_ne npD]; exact hpb)
  have s := s1.trans s2
  refine ⟨upd (upd Hb Dl (.lst ws)) p (.tup ws), ⟨T.t.same s, Same.seqT s T.r, T.rm, by rw [upd_ne npL.symm, upd_ne nDL.symm]; exact T.no, fun v hv => ?_, by rw [List.length_append, List.length_singleton]; exact hl⟩, ?_, by rw [upd_ne npL.symm, upd_ne nDL.symm, upd_same]⟩
  · rcases List.mem_append.mp hv with hv | hv
    · obtain ⟨d, h1, h2⟩ := T.it v hv
      exact ⟨d, Dq.same s _ _ h1, h2⟩
    · rw [List.mem_singleton.mp hv]
      exact ⟨.tuple ds, .tup (.inl (.inl upd_same)) (hd _ _ _), g⟩
  · funext b
    by_cases h1 : b = L
    · rw [h1, upd_same, upd_same]
    rw [upd_ne h1, upd_ne h1]
    by_cases h2 : b = p
    · rw [h2, upd_same, upd_same]
    rw [upd_ne h2, upd_ne h2]
    by_cases h3 : b = Dl
    · rw [h3, upd_same, upd_same]
    · rw [upd_ne h3, upd_ne h3, upd_ne h1]
theorem bools_good : ∀ ns : List Bool, Gl' big (105 * ns.length) 0 (ns.map PyData.bool)
  | [] => ⟨(fun d h => nomatch h), Nat.le_refl _, (fun d h => nomatch h)⟩
  | x :: ns => ((Gl'.one (w := 104) (B := big) (d := .bool x) ⟨rfl, by cases x <;> decide, Nat.le_refl _⟩).app (bools_good ns)).mono (Nat.le_refl _) (by simp only [List.length_cons]; omega) (Nat.le_refl _)
theorem bools_dq {K : PySem.W.Frag} {H : Hp} {m l : Addr} : ∀ ns : List Bool, DqAll K H m l (ns.map V.bl) (ns.map PyData.bool)
  | [] => .nil
  | _ :: ns => .cons (.bl _) (bools_dq ns)
section
variable {P : Program} {w : World} {K : PySem.W.Frag} {mg : Str → Option Value} {base : Heap} {fN fM fO fB fI fG fGe fSt f : Addr} {cdv : Value} {s : Shared} {H0 : Hp} {Eb : XK}
/-- what a statement with the list of things promises -/
def ZTh (K : PySem.W.Frag) (t : TS) : Prop := ∀ (D : Ends) (Hb : Hp) (a m l : Addr) (n : Nat) (pS : Addr) (xs : List V) (ys : List (Str × Int)) (pR : Addr) (rv : List V) (ar : Addr) (rr : List Int) (L : Addr) (vs : List V) (v2 v7 v8 v9 v10 : Option V),
  Th K Hb m l n pS xs ys pR rv ar rr L vs → vs.length ≤ 12 →
  (∀ (v7 : Option V) H2, Mch H2 m l n → D.nx [some (.ref a), some (.ref m), v2, some (.ref pS), some (.ref pR), some (.ref ar), some (.ref L), v7, v8, v9, v10] H2) →
  t D [some (.ref a), some (.ref m), v2, some (.ref pS), some (.ref pR), some (.ref ar), some (.ref L), v7, v8, v9, v10] (upd Hb L (.lst vs))
def ZTh' (K : PySem.W.Frag) (k : Nat) (t : TS) : Prop := ∀ (D : Ends) (Hb : Hp) (a m l : Addr) (n : Nat) (pS : Addr) (xs : List V) (ys : List (Str × Int)) (pR : Addr) (rv : List V) (ar : Addr) (rr : List Int) (L : Addr) (vs : List V) (v2 v7 v8 v9 v10 : Option V),
  Th K Hb m l n pS xs ys pR rv ar rr L vs → vs.length = k →
  (∀ (v7 : Option V) H2, Mch H2 m l n → D.nx [some (.ref a), some (.ref m), v2, some (.ref pS), some (.ref pR), some (.ref ar), some (.ref L), v7, v8, v9, v10] H2) →
  t D [some (.ref a), some (.ref m), v2, some (.ref pS), some (.ref pR), some (.ref ar), some (.ref L), v7, v8, v9, v10] (upd Hb L (.lst vs))
/-! ### the last append: the row as truth values -/
theorem law_seven {tT : TS} (T0 : TxtB mg fN fM fO fB) (hr : Room 8 (callerA.deeper (envOfC "law" (defScope sLaw) s.heap.objs.size f cdv)))
    (dT : PSs (cxOf CX0 P w K mg base NL "law" (defScope sLaw) f cdv callerA [] s H0 Eb).nox (bTurn.drop 8) tT) (zT : ZTh' K 10 tT) :
    ∃ t, PSs (cxOf CX0 P w K mg base NL "law" (defScope sLaw) f cdv callerA [] s H0 Eb).nox (bTurn.drop 7) t ∧ ZTh' K 9 t := by
  refine ⟨_, pss_cons (ps_expr (pe_bm PySem.F.plainAttrs_list PySem.F.slot_list_append PySem.F.type_list_append mt_append (pv 6) (pa_cons (pe_callTy call_tuple_of (by rfl) T0.tuple (by decide +kernel) (pa_cons (pe_lc (own := [("value", 10)]) (g := gName 10) (by rfl) scL.nd (pi_tup (pv 5)) (blkOk_by (own := [("value", 10)]) (N := NL) (sc := defScope sLaw) (by decide +kernel))
      (fun _ _ _ _ _ => pg_name (i := 10) scL.nd rfl (by first | exact Or.inl rfl | exact Or.inr rfl)) (fun _ _ _ _ _ => pts_nil) (fun _ _ _ _ _ => pe_callTy call_bool1 (by rfl) T0.bool (by decide +kernel) (pa_cons (pv 10) pa_nil))) pa_nil)) pa_nil))) dT, ?_⟩
  intro D Hb a m l n pS xs ys pR rv ar rr L vs v2 v7 v8 v9 v10 T hl nx
  have r3 := (row_b T.t.so T.rm).1
  have sL : Same Hb (upd Hb L (.lst vs)) := Same.upd T.no
  refine ⟨_, rfl, .inl ⟨rfl, _, SqL.of upd_same⟩, _, rfl, ar, rfl, ⟨_, Same.seqT sL T.r⟩, fun Dl hDl => ?_⟩
  refine lc_it (walk_tup (xs := rr.map V.int)) (fun i H3 => H3 = upd (upd Hb L (.lst vs)) Dl (.lst (((rr.take i).map (· != 0)).map V.bl))) rfl (fun i H3 _ e3 => by rw [e3]; exact Same.seqT (Same.upd hDl) (Same.seqT sL T.r)) ?_ ?_
  · rintro i y H3 H4 hi e3 ⟨rfl, hy⟩
    rw [List.getElem?_map] at hy
    obtain ⟨z, hz, rfl⟩ := Option.map_eq_some_iff.mp hy
    have ti : rr.take (i + 1) = rr.take i ++ [z] := by rw [List.take_succ, hz]; rfl
    refine ⟨rfl, tyes ⟨_, rfl, .inl ⟨z, rfl, _, by rw [e3]; exact upd_same, small1000 (by rw [List.length_map, List.length_map, List.length_take]; omega), ?_⟩⟩⟩
    rw [e3, upd_upd, ti, List.map_append, List.map_append]
    rfl
  · rintro H3 e3
    rw [List.length_map, List.take_of_length_le (Nat.le_refl _)] at e3
    subst e3
    refine ⟨Dl, _, rfl, .inl ⟨SqL.of upd_same, fun p hp => ?_⟩⟩
    obtain ⟨Hc, Tc, ec, eL⟩ := T.push (ds := (rr.map (· != 0)).map PyData.bool) hDl hp (fun _ _ _ => bools_dq _) ((Gd.tup (bools_good (rr.map (· != 0)))).mono (by decide) (by rw [List.length_map]; omega) (by decide)) (by omega)
    refine ⟨L, vs, .ref p, rfl, rfl, eL, small1000 (by omega), ?_⟩
    rw [ec]
    exact zT D Hc a m l n pS xs ys pR rv ar rr L (vs ++ [.ref p]) v2 v7 v8 v9 v10 Tc (by rw [List.length_append, hl]; rfl) nx
end
end Ms
namespace Ms
open PySem PySem.Spec PyProof.Rows L2 RZ
section
variable {P : Program} {w : World} {K : PySem.W.Frag} {mg : Str → Option Value} {base : Heap} {fN fM fO fB fI fG fGe fSt f : Addr} {cdv : Value} {fdB fdN fdO : FuncData} {s : Shared} {H0 : Hp} {Eb : XK}
/-! ### the append before: the greatest value of each setting -/
theorem law_six {tT : TS} (T0 : TxtB mg fN fM fO fB) (hr : Room 8 (callerA.deeper (envOfC "law" (defScope sLaw) s.heap.objs.size f cdv)))
    (dT : PSs (cxOf CX0 P w K mg base NL "law" (defScope sLaw) f cdv callerA [] s H0 Eb).nox (bTurn.drop 7) tT) (zT : ZTh' K 9 tT) :
    ∃ t, PSs (cxOf CX0 P w K mg base NL "law" (defScope sLaw) f cdv callerA [] s H0 Eb).nox (bTurn.drop 6) t ∧ ZTh' K 8 t := by
  refine ⟨_, pss_cons (ps_expr (pe_bm PySem.F.plainAttrs_list PySem.F.slot_list_append PySem.F.type_list_append mt_append (pv 6) (pa_cons (pe_callTy call_tuple_of (by rfl) T0.tuple (by decide +kernel) (pa_cons (pe_lc (own := [("one", 9)]) (g := gName 9) (by rfl) scL.nd (pi_tup (pv 3)) (blkOk_by (own := [("one", 9)]) (N := NL) (sc := defScope sLaw) (by decide +kernel))
      (fun _ _ _ _ _ => pg_name (i := 9) scL.nd rfl (by first | exact Or.inl rfl | exact Or.inr rfl)) (fun _ _ _ _ _ => pts_nil) (fun _ _ _ _ _ => pe_ix (show IxR _ (rIxT K) from ix_tup) (pv 9) pe_int (fun _ _ => rfl))) pa_nil)) pa_nil))) dT, ?_⟩
  intro D Hb a m l n pS xs ys pR rv ar rr L vs v2 v7 v8 v9 v10 T hl nx
  have l3 := T.t.so.len3
  have lx := T.t.xs_.len
  have sL : Same Hb (upd Hb L (.lst vs)) := Same.upd T.no
  refine ⟨_, rfl, .inl ⟨rfl, _, SqL.of upd_same⟩, _, rfl, pS, rfl, ⟨_, Same.seqT sL T.t.s⟩, fun Dl hDl => ?_⟩
  have sD : Same (upd Hb L (.lst vs)) (upd (upd Hb L (.lst vs)) Dl (.lst [])) := Same.upd hDl
  refine lc_it (walk_tup (xs := xs)) (fun i H3 => H3 = upd (upd Hb L (.lst vs)) Dl (.lst (((ys.take i).map (·.2)).map V.int))) rfl (fun i H3 _ e3 => by rw [e3]; exact Same.seqT (Same.upd hDl) (Same.seqT sL T.t.s)) ?_ ?_
  · rintro i y H3 H4 hi e3 ⟨rfl, hy⟩
    have s3 : Same Hb H4 := sL.trans (e3 ▸ Same.upd hDl)
    obtain ⟨q, hq, b, rfl, hb⟩ := T.t.xs_.get hy
    have ti : ys.take (i + 1) = ys.take i ++ [q] := by rw [List.take_succ, hq]; rfl
    refine ⟨rfl, tyes ⟨_, rfl, b, _, 1, .int q.2, rfl, rfl, Same.seqT s3 hb, rfl, _, by rw [e3]; exact upd_same, small1000 (by rw [List.length_map, List.length_map, List.length_take]; omega), ?_⟩⟩
    rw [e3, upd_upd, ti, List.map_append, List.map_append]
    rfl
  · rintro H3 e3
    rw [lx, List.take_of_length_le (Nat.le_refl _)] at e3
    subst e3
    refine ⟨Dl, _, rfl, .inl ⟨SqL.of upd_same, fun p hp => ?_⟩⟩
    have good : Gd (10 ^ 31) 1000 8 (.tuple ((ys.map (·.2)).map PyData.int)) := (Gd.tup (ints_good (ys.map (·.2)) fun z hz => by
      obtain ⟨q, hq, rfl⟩ := List.mem_map.mp hz
      have := T.t.so.most q hq
      omega)).mono (by decide) (by rw [List.length_map]; omega) (by decide)
    obtain ⟨Hc, Tc, ec, eL⟩ := T.push (ds := (ys.map (·.2)).map PyData.int) hDl hp (fun _ _ _ => ints_dq _) good (by omega)
    refine ⟨L, vs, .ref p, rfl, rfl, eL, small1000 (by omega), ?_⟩
    rw [ec]
    exact zT D Hc a m l n pS xs ys pR rv ar rr L (vs ++ [.ref p]) v2 v7 v8 v9 v10 Tc (by rw [List.length_append, hl]; rfl) nx
/-! ### the first append: each value one more -/
theorem law_five {tT : TS} (T0 : TxtB mg fN fM fO fB) (hr : Room 8 (callerA.deeper (envOfC "law" (defScope sLaw) s.heap.objs.size f cdv)))
    (dT : PSs (cxOf CX0 P w K mg base NL "law" (defScope sLaw) f cdv callerA [] s H0 Eb).nox (bTurn.drop 6) tT) (zT : ZTh' K 8 tT) :
    ∃ t, PSs (cxOf CX0 P w K mg base NL "law" (defScope sLaw) f cdv callerA [] s H0 Eb).nox (bTurn.drop 5) t ∧ ZTh' K 7 t := by
  refine ⟨_, pss_cons (ps_expr (pe_bm PySem.F.plainAttrs_list PySem.F.slot_list_append PySem.F.type_list_append mt_append (pv 6) (pa_cons (pe_callTy call_tuple_of (by rfl) T0.tuple (by decide +kernel) (pa_cons (pe_lc (own := [("value", 10)]) (g := gName 10) (by rfl) scL.nd (pi_tup (pv 5)) (blkOk_by (own := [("value", 10)]) (N := NL) (sc := defScope sLaw) (by decide +kernel))
      (fun _ _ _ _ _ => pg_name (i := 10) scL.nd rfl (by first | exact Or.inl rfl | exact Or.inr rfl)) (fun _ _ _ _ _ => pts_nil) (fun _ _ _ _ _ => pe_op op_add (pv 10) pe_int)) pa_nil)) pa_nil))) dT, ?_⟩
  intro D Hb a m l n pS xs ys pR rv ar rr L vs v2 v7 v8 v9 v10 T hl nx
  obtain ⟨r3, _, rb⟩ := row_b T.t.so T.rm
  have sL : Same Hb (upd Hb L (.lst vs)) := Same.upd T.no
  refine ⟨_, rfl, .inl ⟨rfl, _, SqL.of upd_same⟩, _, rfl, ar, rfl, ⟨_, Same.seqT sL T.r⟩, fun Dl hDl => ?_⟩
  refine lc_it (walk_tup (xs := rr.map V.int)) (fun i H3 => H3 = upd (upd Hb L (.lst vs)) Dl (.lst (((rr.take i).map (· + 1)).map V.int))) rfl (fun i H3 _ e3 => by rw [e3]; exact Same.seqT (Same.upd hDl) (Same.seqT sL T.r)) ?_ ?_
  · rintro i y H3 H4 hi e3 ⟨rfl, hy⟩
    rw [List.getElem?_map] at hy
    obtain ⟨z, hz, rfl⟩ := Option.map_eq_some_iff.mp hy
    have ti : rr.take (i + 1) = rr.take i ++ [z] := by rw [List.take_succ, hz]; rfl
    refine ⟨rfl, tyes ⟨_, rfl, z, 1, rfl, rfl, _, by rw [e3]; exact upd_same, small1000 (by rw [List.length_map, List.length_map, List.length_take]; omega), ?_⟩⟩
    rw [e3, upd_upd, ti, List.map_append, List.map_append]
    rfl
  · rintro H3 e3
    rw [List.length_map, List.take_of_length_le (Nat.le_refl _)] at e3
    subst e3
    refine ⟨Dl, _, rfl, .inl ⟨SqL.of upd_same, fun p hp => ?_⟩⟩
    have good : Gd (10 ^ 31) 1000 8 (.tuple ((rr.map (· + 1)).map PyData.int)) := (Gd.tup (ints_good (rr.map (· + 1)) fun z hz => by
      obtain ⟨q, hq, rfl⟩ := List.mem_map.mp hz
      have := rb q hq
      omega)).mono (by decide) (by rw [List.length_map]; omega) (by decide)
    obtain ⟨Hc, Tc, ec, eL⟩ := T.push (ds := (rr.map (· + 1)).map PyData.int) hDl hp (fun _ _ _ => ints_dq _) good (by omega)
    refine ⟨L, vs, .ref p, rfl, rfl, eL, small1000 (by omega), ?_⟩
    rw [ec]
    exact zT D Hc a m l n pS xs ys pR rv ar rr L (vs ++ [.ref p]) v2 v7 v8 v9 v10 Tc (by rw [List.length_append, hl]; rfl) nx
/-! ### the list of things -/
theorem TK.step {H H' : Hp} {m l l' : Addr} {n n' : Nat} {pS : Addr} {xs : List V} {ys : List (Str × Int)} {pR : Addr} {rv : List V} (f : Fr m l l' H H') (M' : Mch H' m l' n') (T : TK K H m l n pS xs ys pR rv) : TK K H' m l' n' pS xs ys pR rv := by
  have k := T.M.step f
  obtain ⟨z1, e1⟩ := k.am
  obtain ⟨z2, e2⟩ := k.al
  have prs : ∀ {xs : List V} {ys : List (Str × Int)}, PrTs K H xs ys → PrTs K H' xs ys := fun {xs ys} p => by
    induction p with
    | nil => exact .nil
    | cons h _ ih =>
      obtain ⟨b, rfl, hb⟩ := h
      exact .cons ⟨b, rfl, k.tup hb⟩ ih
  exact ⟨M', T.so, k.tup T.s, prs T.xs_, k.keep _ _ T.rows T.nm T.nl, T.rq.gen fun a xs h => k.tup h, T.nm, k.ne _ _ T.rows T.nl⟩
theorem law_four {tT : TS} (T0 : TxtB mg fN fM fO fB) (FB : Fun K "_law_bent" "_law_bent" sBent fB fdB) (bB : Binds K fdB ["m", "thing"] []) (GB : FnOk P w K mg base CX0 7 fB fdB ["m", "thing"] (spBent K 5))
    (FO : Fun K "_law_odd" "_law_odd" sOdd fO fdO) (bO : Binds K fdO ["m"] []) (GO : FnOk P w K mg base CX0 2 fO fdO ["m"] (spOdd K))
    (hr : Room 8 (callerA.deeper (envOfC "law" (defScope sLaw) s.heap.objs.size f cdv)))
    (dT : PSs (cxOf CX0 P w K mg base NL "law" (defScope sLaw) f cdv callerA [] s H0 Eb).nox (bTurn.drop 5) tT) (zT : ZTh' K 7 tT) :
    ∃ t, PSs (cxOf CX0 P w K mg base NL "law" (defScope sLaw) f cdv callerA [] s H0 Eb).nox (bTurn.drop 4) t ∧ ∀ (D : Ends) (H1 : Hp) (a m l : Addr) (n : Nat) (pS : Addr) (xs : List V) (ys : List (Str × Int)) (pR : Addr) (rv : List V) (ar : Addr) (rr : List Int) (v2 v6 v7 v8 v9 v10 : Option V),
      TK K H1 m l n pS xs ys pR rv → SqT K H1 ar (rr.map V.int) → rr ∈ grid ys → n < 400000 →
      (∀ (v6 v7 : Option V) (l' : Addr) H2, Mch H2 m l' (n + 81) → D.nx [some (.ref a), some (.ref m), v2, some (.ref pS), some (.ref pR), some (.ref ar), v6, v7, v8, v9, v10] H2) →
      t D [some (.ref a), some (.ref m), v2, some (.ref pS), some (.ref pR), some (.ref ar), v6, v7, v8, v9, v10] H1 := by
  have hr7 : Room 7 (callerA.deeper (envOfC "law" (defScope sLaw) s.heap.objs.size f cdv)) := hr.mono (by decide)
  have hr2 : Room 2 (callerA.deeper (envOfC "law" (defScope sLaw) s.heap.objs.size f cdv)) := hr.mono (by decide)
  refine ⟨_, pss_cons (ps_set (i := 6) scL.nd rfl (Or.inl rfl) (pe_lst (pa_cons (pv 5) (pa_cons (pe_call GB hr7 (by rfl) T0.bent FB.kp bB .nil pass0 (pa_cons (pv 1) (pa_cons (pv 5) pa_nil))) (pa_cons (pe_call GB hr7 (by rfl) T0.bent FB.kp bB .nil pass0 (pa_cons (pv 1) (pa_cons (pv 5) pa_nil)))
    (pa_cons (pe_op op_catA (pv 5) (pe_tup (pa_cons pe_int pa_nil))) (pa_cons (pe_slice sl_tupA (pv 5) (po_some pe_int) po_none) (pa_cons (pe_callTy call_list_of (by rfl) T0.list (by decide +kernel) (pa_cons (pv 5) pa_nil)) (pa_cons (pe_call GO hr2 (by rfl) T0.odd FO.kp bO .nil pass0 (pa_cons (pv 1) pa_nil)) pa_nil))))))))) dT, ?_⟩
  intro D H1 a m l n pS xs ys pR rv ar rr v2 v6 v7 v8 v9 v10 T hR rm hn nx
  obtain ⟨r3, rlen, rb⟩ := row_b T.so rm
  have gr := row_good T.so rm
  have dr : ∀ {H : Hp} {l : Addr}, SqT K H ar (rr.map V.int) → Dq K H m l (.ref ar) (.tuple (rr.map .int)) := fun h => .tup h (ints_dq rr)
  have lm : (rr.map V.int).length = rr.length := List.length_map ..
  refine ⟨_, rfl, _, rfl, _, rfl, m, l, n, .ref ar, .tuple (rr.map .int), big, 400, 1, rfl, T.M, (by show n + 8 * 5 < 700000; omega), dr hR, gr, Nat.le_refl _, by decide, by decide, Nat.le_trans gr.dp (by decide), fun y1 e1 l1 H2 p1 k1 M1 f1 => ?_⟩
  have K1 := T.M.step f1
  have hR2 := K1.tup hR
  refine ⟨_, rfl, _, rfl, m, l1, n + 40, .ref ar, .tuple (rr.map .int), big, 400, 1, rfl, M1, (by show n + 40 + 8 * 5 < 700000; omega), dr hR2, gr, Nat.le_refl _, by decide, by decide, Nat.le_trans gr.dp (by decide), fun y2 e2 l2 H3 p2 k2 M2 f2 => ?_⟩
  have K2 := M1.step f2
  have hR3 := K2.tup hR2
  have T3 := (T.step f1 M1).step f2 M2
  refine ⟨_, rfl, (by show 1 ≤ sizeLine; decide), fun p3 h3 => ?_⟩
  have s3 : Same H3 (upd H3 p3 (.tup [.int 0])) := Same.upd h3
  refine catA_any (Same.seqT s3 hR3) (.inl (.inl upd_same)) (Nat.le_of_lt (small1000 (by rw [lm]; show rr.length + 1 ≤ 1000; omega))) fun p4 H5 s5 c5 => ?_
  have s35 := s3.trans s5
  refine ⟨_, rfl, _, rfl, ?_⟩
  refine noPart (slA_any (Same.seqT s35 hR3) fun p6 H6 s6 c6 => ?_)
  have c6' : SqT K H6 p6 ((rr.drop 1).map V.int) := by
    have e := cut_from (xs := rr.map V.int) (i := 1) (by rw [lm, rlen]; exact T.so.len1)
    rw [List.map_drop]
    rw [← e]
    exact c6
  have s36 := s35.trans s6
  refine ⟨_, rfl, ar, _, rfl, .inr (Same.seqT s36 hR3), fun l7 h7 => ?_⟩
  have s7 : Same H6 (upd H6 l7 (.lst (rr.map V.int))) := Same.upd h7
  have s37 := s36.trans s7
  have n7 := (M2.same s36).ne h7
  have g7 : (upd H6 l7 (.lst (rr.map V.int))) l7 = some (.lst (rr.map V.int)) := upd_same
  generalize upd H6 l7 (.lst (rr.map V.int)) = H7 at s7 s37 g7 ⊢
  refine ⟨_, rfl, m, l2, n + 80, rfl, M2.same s37, by omega, fun y8 e8 l8 H8 p8 k8 M8 f8 => ?_⟩
  have K8 := (M2.same s37).step f8
  refine ⟨(by show 7 ≤ sizeLine; decide), fun L hL => ?_⟩
  have up : ∀ {v : V} {d : PyData}, Dq K H3 m l2 v d → Dq K H8 m l8 v d := fun {v d} h => Dq.step K8 d v (Dq.same s37 d v h)
  have T8 := (T3.same s37).step f8 M8
  refine zT D H8 a m l8 (n + 81) pS xs ys pR rv ar rr L [.ref ar, y1, y2, .ref p4, .ref p6, .ref l7, y8] _ _ _ _ _ ⟨T8, K8.tup (Same.seqT s37 hR3), rm, hL, fun v hv => ?_, (by show 7 ≤ 20; decide)⟩ rfl fun v7 H2 M' => nx _ v7 l8 H2 M'
  have goodI : ∀ ns : List Int, (∀ z ∈ ns, 0 ≤ z ∧ z < 16) → ns.length ≤ 4 → Gd (10 ^ 31) 1000 8 (.tuple (ns.map .int)) := fun ns h hl => (Gd.tup (ints_good ns h)).mono (by decide) (by omega) (by decide)
  simp only [List.mem_cons, List.mem_nil_iff, or_false] at hv
  rcases hv with rfl | rfl | rfl | rfl | rfl | rfl | rfl
  · exact ⟨_, up (dr hR3), gr.mono (by decide) (by decide) (by decide)⟩
  · exact ⟨e1, up (Dq.step K2 _ _ p1), k1.mono (by decide) (by decide) (by decide)⟩
  · exact ⟨e2, up p2, k2.mono (by decide) (by decide) (by decide)⟩
  · refine ⟨.tuple ((rr ++ [0]).map .int), .tup (xs := (rr ++ [0]).map V.int) (K8.tup (Same.seqT s7 (Same.seqT s6 ?_))) (ints_dq _), goodI _ (fun z hz => ?_) (by rw [List.length_append]; show rr.length + 1 ≤ 4; omega)⟩
    · rw [List.map_append]; exact c5
    · rcases List.mem_append.mp hz with hz | hz
      · have := rb z hz; omega
      · rw [List.mem_singleton.mp hz]; decide
  · exact ⟨.tuple ((rr.drop 1).map .int), .tup (K8.tup (Same.seqT s7 c6')) (ints_dq _), goodI _ (fun z hz => by have := rb z (List.mem_of_mem_drop hz); omega) (by rw [List.length_drop]; omega)⟩
  · exact ⟨.list (rr.map .int), .lst (K8.keep _ _ g7 n7.1 n7.2) n7.1 (K8.ne _ _ g7 n7.2) (ints_dq _), (Gd.lst (ints_good rr fun z hz => by have := rb z hz; omega)).mono (by decide) (by omega) (by decide)⟩
  · exact ⟨e8, p8, k8.mono (by decide) (by decide) (by decide)⟩
end
end Ms
namespace Ms
open PySem PySem.Spec PyProof.Rows L2 RZ
theorem prs_trs {K : PySem.W.Frag} {H : Hp} {as : List Addr} {ys : List (Str × Int)} (p : Prs H as ys) : PrTs K H (as.map V.ref) ys := by
  induction p with
  | nil => exact .nil
  | cons h _ ih => exact .cons ⟨_, rfl, .inl (.inl h)⟩ ih
section
variable {P : Program} {w : World} {K : PySem.W.Frag} {mg : Str → Option Value} {base : Heap} {fN fM fO fB fSe fLs f : Addr} {cdv : Value} {fdN fdS fdLs : FuncData} {s : Shared} {H0 : Hp} {Eb : XK}
theorem law_three {tT : TS} (T0 : TxtB mg fN fM fO fB) (FN : Fun K "_law_next" "_law_next" sNext fN fdN) (bN : Binds K fdN ["m", "many"] [])
    (hr : Room 8 (callerA.deeper (envOfC "law" (defScope sLaw) s.heap.objs.size f cdv)))
    (dT : PSs (cxOf CX0 P w K mg base NL "law" (defScope sLaw) f cdv callerA [] s H0 Eb).nox (bTurn.drop 4) tT)
    (zT : ∀ (D : Ends) (H1 : Hp) (a m l : Addr) (n : Nat) (pS : Addr) (xs : List V) (ys : List (Str × Int)) (pR : Addr) (rv : List V) (ar : Addr) (rr : List Int) (v2 v6 v7 v8 v9 v10 : Option V),
      TK K H1 m l n pS xs ys pR rv → SqT K H1 ar (rr.map V.int) → rr ∈ grid ys → n < 400000 →
      (∀ (v6 v7 : Option V) (l' : Addr) H2, Mch H2 m l' (n + 81) → D.nx [some (.ref a), some (.ref m), v2, some (.ref pS), some (.ref pR), some (.ref ar), v6, v7, v8, v9, v10] H2) →
      tT D [some (.ref a), some (.ref m), v2, some (.ref pS), some (.ref pR), some (.ref ar), v6, v7, v8, v9, v10] H1) :
    ∃ t, PSs (cxOf CX0 P w K mg base NL "law" (defScope sLaw) f cdv callerA [] s H0 Eb).nox (bTurn.drop 3) t ∧ ∀ (D : Ends) (H1 : Hp) (a m l : Addr) (n : Nat) (pS : Addr) (xs : List V) (ys : List (Str × Int)) (pR : Addr) (rv : List V) (v2 v5 v6 v7 v8 v9 v10 : Option V),
      TK K H1 m l n pS xs ys pR rv → n < 300000 →
      (∀ (v5 v6 v7 : Option V) (l' : Addr) H2, Mch H2 m l' (n + 82) → D.nx [some (.ref a), some (.ref m), v2, some (.ref pS), some (.ref pR), v5, v6, v7, v8, v9, v10] H2) →
      t D [some (.ref a), some (.ref m), v2, some (.ref pS), some (.ref pR), v5, v6, v7, v8, v9, v10] H1 := by
  have hr1 : Room 1 (callerA.deeper (envOfC "law" (defScope sLaw) s.heap.objs.size f cdv)) := hr.mono (by decide)
  have GN : FnOk P w K mg base CX0 1 fN fdN ["m", "many"] spNext := ok_next FN T0.toTxt
  refine ⟨_, pss_cons (ps_set (i := 5) scL.nd rfl (Or.inl rfl) (pe_ix (show IxR _ (rIxL K) from ix_list) (pv 4) (pe_call GN hr1 (by rfl) T0.next FN.kp bN .nil pass0 (pa_cons (pv 1) (pa_cons (pe_callB call_len_seq (by rfl) T0.len PySem.boot_len (pa_cons (pv 4) pa_nil)) pa_nil))) (fun _ _ => rfl))) dT, ?_⟩
  intro D H1 a m l n pS xs ys pR rv v2 v5 v6 v7 v8 v9 v10 T hn nx
  have lr := T.rq.len
  obtain ⟨g1, g12⟩ := grid12 T.so
  refine ⟨_, rfl, _, rfl, _, rfl, pR, _, rfl, .inl (SqL.of T.rows), ?_⟩
  refine ⟨m, l, n, (rv.length : Int), rfl, T.M, by omega, by omega, by omega, fun r l2 H2 r0 r1 M2 f2 => ?_⟩
  obtain ⟨j, rfl⟩ : ∃ j : Nat, r = (j : Int) := ⟨r.toNat, by omega⟩
  have T2 := T.step f2 M2
  obtain ⟨y, hy⟩ : ∃ y, rv[j]? = some y := ⟨_, List.getElem?_eq_getElem (by omega)⟩
  obtain ⟨ar, rr, rfl, hrr, hpr⟩ := T2.rq.get hy
  refine ⟨pR, rv, (j : Int), .ref ar, rfl, rfl, SqL.of T2.rows, atI_nat hy, ?_⟩
  exact zT D H2 a m l2 (n + 1) pS xs ys pR rv ar rr _ _ _ _ _ _ T2 hpr (List.mem_of_getElem? hrr) (by omega) fun v6 v7 l' H3 M' => nx _ v6 v7 l' H3 (M'.mono (by omega))
theorem law_head {tT : TS} (T0 : TxtB mg fN fM fO fB) (gSe : mg "_law_settings" = some (.ref fSe)) (gLs : mg "_law_standings" = some (.ref fLs))
    (FS : Fun K "_law_settings" "_law_settings" sSettings fSe fdS) (bS : Binds K fdS ["m"] []) (GS : FnOk P w K mg base CX0 3 fSe fdS ["m"] spSettingsV)
    (FLs : Fun K "_law_standings" "_law_standings" sStandings fLs fdLs) (bLs : Binds K fdLs ["spots"] []) (GLs : FnOk P w K mg base CX0 1 fLs fdLs ["spots"] (spLStand K))
    (hr : Room 8 (callerA.deeper (envOfC "law" (defScope sLaw) s.heap.objs.size f cdv)))
    (dT : PSs (cxOf CX0 P w K mg base NL "law" (defScope sLaw) f cdv callerA [] s H0 Eb).nox (bTurn.drop 2) tT)
    (zT : ∀ (D : Ends) (H1 : Hp) (a m l : Addr) (n : Nat) (pS : Addr) (xs : List V) (ys : List (Str × Int)) (pR : Addr) (rv : List V) (v2 v5 v6 v7 v8 v9 v10 : Option V),
      TK K H1 m l n pS xs ys pR rv → n < 300000 →
      (∀ (v5 v6 v7 : Option V) (l' : Addr) H2, Mch H2 m l' (n + 82) → D.nx [some (.ref a), some (.ref m), v2, some (.ref pS), some (.ref pR), v5, v6, v7, v8, v9, v10] H2) →
      tT D [some (.ref a), some (.ref m), v2, some (.ref pS), some (.ref pR), v5, v6, v7, v8, v9, v10] H1) :
    ∃ t, PSs (cxOf CX0 P w K mg base NL "law" (defScope sLaw) f cdv callerA [] s H0 Eb).nox bTurn t ∧ ∀ (D : Ends) (H1 : Hp) (a m l : Addr) (n : Nat) (v2 v3 v4 v5 v6 v7 v8 v9 v10 : Option V),
      Mch H1 m l n → n < 200000 →
      (∀ (v3 v4 v5 v6 v7 : Option V) (l' : Addr) H2, Mch H2 m l' (n + 100) → D.nx [some (.ref a), some (.ref m), v2, v3, v4, v5, v6, v7, v8, v9, v10] H2) →
      t D [some (.ref a), some (.ref m), v2, v3, v4, v5, v6, v7, v8, v9, v10] H1 := by
  have hr1 : Room 1 (callerA.deeper (envOfC "law" (defScope sLaw) s.heap.objs.size f cdv)) := hr.mono (by decide)
  have hr3 : Room 3 (callerA.deeper (envOfC "law" (defScope sLaw) s.heap.objs.size f cdv)) := hr.mono (by decide)
  refine ⟨_, pss_cons (ps_set (i := 3) scL.nd rfl (by first | exact Or.inl rfl | exact Or.inr rfl) (pe_call GS hr3 (by rfl) gSe FS.kp bS .nil pass0 (pa_cons (pv 1) pa_nil)))
    (pss_cons (ps_set (i := 4) scL.nd rfl (by first | exact Or.inl rfl | exact Or.inr rfl) (pe_call GLs hr1 (by rfl) gLs FLs.kp bLs .nil pass0 (pa_cons (pv 3) pa_nil))) dT), ?_⟩
  intro D H1 a m l n v2 v3 v4 v5 v6 v7 v8 v9 v10 M hn nx
  refine ⟨_, rfl, m, l, n, rfl, M, by omega, fun pS as ys l1 H2 gp pr so M1 f1 => ?_⟩
  refine ⟨_, rfl, pS, as.map V.ref, ys, rfl, .inl (.inl gp), prs_trs pr, so.len3, so.most, fun pR rv H3 hR s3 gR rw3 => ?_⟩
  have nR := M1.ne hR
  exact zT D H3 a m l1 (n + 12) pS (as.map V.ref) ys pR rv _ _ _ _ _ _ _ ⟨M1.same s3, so, .inl (.inl (s3 _ _ gp)), PrTs.same s3 (prs_trs pr), gR, rw3, nR.1, nR.2⟩ (by omega) fun v5 v6 v7 l' H4 M' => nx _ _ v5 v6 v7 l' H4 (M'.mono (by omega))
end
section
variable {P : Program} {w : World} {K : PySem.W.Frag} {mg : Str → Option Value} {fN fM fO fB fBg fSe fLs fI fG fGe fSt f : Addr}
theorem ok_law {fd fdBg fdN fdM fdS fdO fdB fdLs fdI fdG fdGe fdSt : FuncData} (T0 : TxtB mg fN fM fO fB) (TI : TxtI mg fI) (hmin : mg "min" = none) (hrep : mg "repr" = none)
    (gBg : mg "_law_begun" = some (.ref fBg)) (gSe : mg "_law_settings" = some (.ref fSe)) (gLs : mg "_law_standings" = some (.ref fLs)) (gG : mg "grid_of" = some (.ref fG)) (gGe : mg "standings" = some (.ref fGe)) (gSt : mg "is_standing" = some (.ref fSt))
    (F : Fun K "law" "law" sLaw f fd) (bL : ∀ (s : Shared) (u : Value), BindsTo s fd ⟨[u], []⟩ [("script", u)])
    (FBg : Fun K "_law_begun" "_law_begun" sBegun fBg fdBg) (bBg : Binds K fdBg ["script"] []) (FN : Fun K "_law_next" "_law_next" sNext fN fdN) (bN : Binds K fdN ["m", "many"] []) (FM : Fun K "_law_names" "_law_names" sNames fM fdM) (bM : Binds K fdM ["m", "many"] [])
    (FS : Fun K "_law_settings" "_law_settings" sSettings fSe fdS) (bS : Binds K fdS ["m"] []) (FO : Fun K "_law_odd" "_law_odd" sOdd fO fdO) (bO : Binds K fdO ["m"] []) (FB : Fun K "_law_bent" "_law_bent" sBent fB fdB) (bB : Binds K fdB ["m", "thing"] [])
    (FLs : Fun K "_law_standings" "_law_standings" sStandings fLs fdLs) (bLs : Binds K fdLs ["spots"] []) (FI : Fun K "is_int" "is_int" sPInt fI fdI) (bI : Binds K fdI ["thing"] []) (FG : Fun K "grid_of" "grid_of" sPGrid fG fdG) (bG : Binds K fdG ["settings"] [])
    (FGe : Fun K "standings" "standings" sGenSt fGe fdGe) (bGe : Binds K fdGe ["settings"] []) (FSt : Fun K "is_standing" "is_standing" sPStand fSt fdSt) (bSt : Binds K fdSt ["settings", "thing"] []) : LawRun P w K mg f := by
  intro base H s a ns kin glob hS hlen st0
  have GBg : FnOk P w K mg base CX0 1 fBg fdBg ["script"] (spBegun K) := ok_begun FBg T0.toTxt
  have GS : FnOk P w K mg base CX0 3 fSe fdS ["m"] spSettingsV := ok_settingsV FS T0.toTxtS FN bN FM bM
  have GO : FnOk P w K mg base CX0 2 fO fdO ["m"] (spOdd K) := ok_odd FO T0.toTxtS FN bN
  have GB : FnOk P w K mg base CX0 7 fB fdB ["m", "thing"] (spBent K 5) := ok_bent FB bB T0 FN bN FO bO 5
  have GLs : FnOk P w K mg base CX0 1 fLs fdLs ["spots"] (spLStand K) := ok_lstand FLs T0.toTxtN
  have GGe : GFnZ P w K mg base 2 fGe fdGe ["settings"] (spGen K) := ok_gen FGe TI gG FG bG
  have GSt : FnOk P w K mg base CX0 2 fSt fdSt ["settings", "thing"] (spPStand K) := ok_pstand FSt TI T0.zip FI bI
  refine run_known (k := 8) (N := NL) (ps := ["script"]) (us := [.ref a]) (vs := [.ref a]) F scL rfl ⟨rfl, by decide, by decide⟩ st0 (bL s _) (.cons rfl .nil) rfl fun cdv hr => ?_
  obtain ⟨t0, d0, z0⟩ := law_each (H0 := H) (s := s) (f := f) (cdv := cdv) (Eb := fun _ _ _ => False) hrep gSt FSt bSt GSt hr
  obtain ⟨t1, d1, z1⟩ := law_loop d0 z0
  have z1' : ZTh' K 10 t1 := fun D Hb a m l n pS xs ys pR rv ar rr L vs v2 v7 v8 v9 v10 T hl nx => by
    have sL : Same Hb (upd Hb L (.lst vs)) := Same.upd T.no
    refine z1 D _ a m l n pS xs ys pR rv L vs v2 _ v7 v8 v9 v10 (T.t.same sL) upd_same (fun v hv => ?_) nx
    obtain ⟨d, h1, h2⟩ := T.it v hv
    exact ⟨d, Dq.same sL _ _ h1, h2⟩
  obtain ⟨t2, d2, z2⟩ := law_seven T0 hr d1 z1'
  obtain ⟨t3, d3, z3⟩ := law_six T0 hr d2 z2
  obtain ⟨t4, d4, z4⟩ := law_five T0 hr d3 z3
  obtain ⟨t5, d5, z5⟩ := law_four T0 FB bB GB FO bO GO hr d4 z4
  obtain ⟨t6, d6, z6⟩ := law_three T0 FN bN hr d5 z5
  obtain ⟨t7, d7, z7⟩ := law_two T0 hrep gGe FGe bGe GGe hr d6
  obtain ⟨t8, d8, z8⟩ := law_head T0 gSe gLs FS bS GS FLs bLs GLs hr d7 fun D H1 a m l n pS xs ys pR rv v2 v5 v6 v7 v8 v9 v10 T hn nx => z7 D H1 a m l n pS xs ys pR rv v2 v5 v6 v7 v8 v9 v10 T fun H2 T2 => z6 D H2 a m l n pS xs ys pR rv v2 v5 v6 v7 v8 v9 v10 T2 hn nx
  clear z0 z1 z1' z2 z3 z4 z5 z6 z7 d0 d1 d2 d3 d4 d5 d6 d7
  have hr1 : Room 1 (callerA.deeper (envOfC "law" (defScope sLaw) s.heap.objs.size f cdv)) := hr.mono (by decide)
  refine ⟨_, pss_cons (ps_set (i := 1) scL.nd rfl (Or.inl rfl) (pe_call GBg hr1 (by rfl) gBg FBg.kp bBg .nil pass0 (pa_cons (pv 0) pa_nil)))
    (pss_cons (ps_for PassesOwn.never rfl (pi_range1 (by rfl) T0.range (pa_cons (pe_op op_add pe_int (pe_callB (call_min2 rfl) (by rfl) hmin (by decide +kernel) (pa_cons (pe_callB call_len_seq (by rfl) T0.len PySem.boot_len (pa_cons (pv 0) pa_nil)) (pa_cons pe_int pa_nil)))) pa_nil)) (pg_name (i := 2) scL.nd rfl (Or.inl rfl)) d8)
    (pss_one (ps_ret pe_bl))), ?_⟩
  refine ⟨_, rfl, a, ns, rfl, hS, hlen, fun m l H1 hm hl s1 M1 => ?_⟩
  have lenM : (ns.map V.int).length = ns.length := List.length_map ..
  refine ⟨_, rfl, a, _, rfl, .inl (s1.seq hS), _, _, rfl, _, _, rfl, rfl, _, rfl, (by rw [lenM]; split <;> omega), (by rw [lenM]; split <;> omega), ?_⟩
  generalize hj : (3 + if (9 : Int) < ((ns.map V.int).length : Nat) then (9 : Int) else ((ns.map V.int).length : Nat)) = j
  have hj16 : j ≤ 12 := by rw [← hj]; split <;> omega
  refine for_range (lo := 0) (n := j.toNat) (fun i σ H2 => ∃ (v2 v3 v4 v5 v6 v7 v8 v9 v10 : Option V) (l n : Nat), σ = [some (.ref a), some (.ref m), v2, v3, v4, v5, v6, v7, v8, v9, v10] ∧ Mch H2 m l n ∧ n ≤ 100 * i)
    ⟨_, _, _, _, _, _, _, _, _, l, 0, rfl, M1, Nat.le_refl _⟩ ?_ ?_
  · rintro i σ H2 hi ⟨v2, v3, v4, v5, v6, v7, v8, v9, v10, l2, n, rfl, M2, hn⟩
    exact z8 _ H2 a m l2 n _ _ _ _ _ _ _ _ _ M2 (by omega) fun v3 v4 v5 v6 v7 l' H3 M3 => ⟨_, v3, v4, v5, v6, v7, _, _, _, l', n + 100, rfl, M3, by omega⟩
  · rintro σ H2 _
    rfl
end
end Ms
namespace Ms
open PySem PySem.Spec PyProof.Rows L2 RZ
/-! ### the end: what the top has written -/
set_option maxHeartbeats 16000000 in
theorem all_mk {P : Program} {w : World} {K : PySem.W.Frag} {h : Heap} {mg : Str → Option Value} {fa fI fG fGe fSt fBg fN fM fSe fO fB fLs fL : Addr} (X : K.In h) (G : h.Ns mainGlobals mg) (hfa : mg "law" = some (.ref fa))
    {odI anI : Option Addr} {slI : Array (Option Value)} {ocI kVI dcI pmI cdI ctI : Value}
    {odG anG : Option Addr} {slG : Array (Option Value)} {ocG kVG dcG pmG cdG ctG : Value}
    {odGe anGe : Option Addr} {slGe : Array (Option Value)} {ocGe kVGe dcGe pmGe cdGe ctGe : Value}
    {odSt anSt : Option Addr} {slSt : Array (Option Value)} {ocSt kVSt dcSt pmSt cdSt ctSt : Value}
    {odBg anBg : Option Addr} {slBg : Array (Option Value)} {ocBg kVBg dcBg pmBg cdBg ctBg : Value}
    {odN anN : Option Addr} {slN : Array (Option Value)} {ocN kVN dcN pmN cdN ctN : Value}
    {odM anM : Option Addr} {slM : Array (Option Value)} {ocM kVM dcM pmM cdM ctM : Value}
    {odSe anSe : Option Addr} {slSe : Array (Option Value)} {ocSe kVSe dcSe pmSe cdSe ctSe : Value}
    {odO anO : Option Addr} {slO : Array (Option Value)} {ocO kVO dcO pmO cdO ctO : Value}
    {odB anB : Option Addr} {slB : Array (Option Value)} {ocB kVB dcB pmB cdB ctB : Value}
    {odLs anLs : Option Addr} {slLs : Array (Option Value)} {ocLs kVLs dcLs pmLs cdLs ctLs : Value}
    {odL anL : Option Addr} {slL : Array (Option Value)} {ocL kVL dcL pmL cdL ctL : Value}
    (aI : PySem.W.nsIn K mainGlobals "is_int" = some (some (.ref fI)))
    (lI : K.lookup fI = some ⟨ocI, odI, .func (PySem.W.fnOf "is_int" "is_int" (defArgs sPInt) (defBody sPInt) (defScope sPInt) .none kVI dcI pmI anI cdI ctI), slI⟩)
    (dI : PySem.W.codeIn K cdI "is_int" = true)
    (eI : PySem.W.keepIn K (.ref fI) = true)
    (aG : PySem.W.nsIn K mainGlobals "grid_of" = some (some (.ref fG)))
    (lG : K.lookup fG = some ⟨ocG, odG, .func (PySem.W.fnOf "grid_of" "grid_of" (defArgs sPGrid) (defBody sPGrid) (defScope sPGrid) .none kVG dcG pmG anG cdG ctG), slG⟩)
    (dG : PySem.W.codeIn K cdG "grid_of" = true)
    (eG : PySem.W.keepIn K (.ref fG) = true)
    (aGe : PySem.W.nsIn K mainGlobals "standings" = some (some (.ref fGe)))
    (lGe : K.lookup fGe = some ⟨ocGe, odGe, .func (PySem.W.fnOf "standings" "standings" (defArgs sGenSt) (defBody sGenSt) (defScope sGenSt) .none kVGe dcGe pmGe anGe cdGe ctGe), slGe⟩)
    (dGe : PySem.W.codeIn K cdGe "standings" = true)
    (eGe : PySem.W.keepIn K (.ref fGe) = true)
    (aSt : PySem.W.nsIn K mainGlobals "is_standing" = some (some (.ref fSt)))
    (lSt : K.lookup fSt = some ⟨ocSt, odSt, .func (PySem.W.fnOf "is_standing" "is_standing" (defArgs sPStand) (defBody sPStand) (defScope sPStand) .none kVSt dcSt pmSt anSt cdSt ctSt), slSt⟩)
    (dSt : PySem.W.codeIn K cdSt "is_standing" = true)
    (eSt : PySem.W.keepIn K (.ref fSt) = true)
    (aBg : PySem.W.nsIn K mainGlobals "_law_begun" = some (some (.ref fBg)))
    (lBg : K.lookup fBg = some ⟨ocBg, odBg, .func (PySem.W.fnOf "_law_begun" "_law_begun" (defArgs sBegun) (defBody sBegun) (defScope sBegun) .none kVBg dcBg pmBg anBg cdBg ctBg), slBg⟩)
    (dBg : PySem.W.codeIn K cdBg "_law_begun" = true)
    (eBg : PySem.W.keepIn K (.ref fBg) = true)
    (aN : PySem.W.nsIn K mainGlobals "_law_next" = some (some (.ref fN)))
    (lN : K.lookup fN = some ⟨ocN, odN, .func (PySem.W.fnOf "_law_next" "_law_next" (defArgs sNext) (defBody sNext) (defScope sNext) .none kVN dcN pmN anN cdN ctN), slN⟩)
    (dN : PySem.W.codeIn K cdN "_law_next" = true)
    (eN : PySem.W.keepIn K (.ref fN) = true)
    (aM : PySem.W.nsIn K mainGlobals "_law_names" = some (some (.ref fM)))
    (lM : K.lookup fM = some ⟨ocM, odM, .func (PySem.W.fnOf "_law_names" "_law_names" (defArgs sNames) (defBody sNames) (defScope sNames) .none kVM dcM pmM anM cdM ctM), slM⟩)
    (dM : PySem.W.codeIn K cdM "_law_names" = true)
    (eM : PySem.W.keepIn K (.ref fM) = true)
    (aSe : PySem.W.nsIn K mainGlobals "_law_settings" = some (some (.ref fSe)))
    (lSe : K.lookup fSe = some ⟨ocSe, odSe, .func (PySem.W.fnOf "_law_settings" "_law_settings" (defArgs sSettings) (defBody sSettings) (defScope sSettings) .none kVSe dcSe pmSe anSe cdSe ctSe), slSe⟩)
    (dSe : PySem.W.codeIn K cdSe "_law_settings" = true)
    (eSe : PySem.W.keepIn K (.ref fSe) = true)
    (aO : PySem.W.nsIn K mainGlobals "_law_odd" = some (some (.ref fO)))
    (lO : K.lookup fO = some ⟨ocO, odO, .func (PySem.W.fnOf "_law_odd" "_law_odd" (defArgs sOdd) (defBody sOdd) (defScope sOdd) .none kVO dcO pmO anO cdO ctO), slO⟩)
    (dO : PySem.W.codeIn K cdO "_law_odd" = true)
    (eO : PySem.W.keepIn K (.ref fO) = true)
    (aB : PySem.W.nsIn K mainGlobals "_law_bent" = some (some (.ref fB)))
    (lB : K.lookup fB = some ⟨ocB, odB, .func (PySem.W.fnOf "_law_bent" "_law_bent" (defArgs sBent) (defBody sBent) (defScope sBent) .none kVB dcB pmB anB cdB ctB), slB⟩)
    (dB : PySem.W.codeIn K cdB "_law_bent" = true)
    (eB : PySem.W.keepIn K (.ref fB) = true)
    (aLs : PySem.W.nsIn K mainGlobals "_law_standings" = some (some (.ref fLs)))
    (lLs : K.lookup fLs = some ⟨ocLs, odLs, .func (PySem.W.fnOf "_law_standings" "_law_standings" (defArgs sStandings) (defBody sStandings) (defScope sStandings) .none kVLs dcLs pmLs anLs cdLs ctLs), slLs⟩)
    (dLs : PySem.W.codeIn K cdLs "_law_standings" = true)
    (eLs : PySem.W.keepIn K (.ref fLs) = true)
    (aL : PySem.W.nsIn K mainGlobals "law" = some (some (.ref fL)))
    (lL : K.lookup fL = some ⟨ocL, odL, .func (PySem.W.fnOf "law" "law" (defArgs sLaw) (defBody sLaw) (defScope sLaw) .none kVL dcL pmL anL cdL ctL), slL⟩)
    (dL : PySem.W.codeIn K cdL "law" = true)
    (eL : PySem.W.keepIn K (.ref fL) = true)
    (z_list : PySem.W.nsIn K mainGlobals "list" = some none)
    (z_len : PySem.W.nsIn K mainGlobals "len" = some none)
    (z_int : PySem.W.nsIn K mainGlobals "int" = some none)
    (z_range : PySem.W.nsIn K mainGlobals "range" = some none)
    (z_tuple : PySem.W.nsIn K mainGlobals "tuple" = some none)
    (z_zip : PySem.W.nsIn K mainGlobals "zip" = some none)
    (z_isinstance : PySem.W.nsIn K mainGlobals "isinstance" = some none)
    (z_str : PySem.W.nsIn K mainGlobals "str" = some none)
    (z_bool : PySem.W.nsIn K mainGlobals "bool" = some none)
    (z_repr : PySem.W.nsIn K mainGlobals "repr" = some none)
    (z_min : PySem.W.nsIn K mainGlobals "min" = some none)
     : LawRun P w K mg fa := by
  have e := hfa.symm.trans (PySem.W.mg_of X G aL)
  cases e
  have FI := fun_mk (st := sPInt) lI dI eI
  have bI := FI.binds (ps := ["thing"]) fun _ _ _ _ _ _ us hl => match us, hl with | [_], _ => rfl
  have FG := fun_mk (st := sPGrid) lG dG eG
  have bG := FG.binds (ps := ["settings"]) fun _ _ _ _ _ _ us hl => match us, hl with | [_], _ => rfl
  have FGe := fun_mk (st := sGenSt) lGe dGe eGe
  have bGe := FGe.binds (ps := ["settings"]) fun _ _ _ _ _ _ us hl => match us, hl with | [_], _ => rfl
  have FSt := fun_mk (st := sPStand) lSt dSt eSt
  have bSt := FSt.binds (ps := ["settings", "thing"]) fun _ _ _ _ _ _ us hl => match us, hl with | [_, _], _ => rfl
  have FBg := fun_mk (st := sBegun) lBg dBg eBg
  have bBg := FBg.binds (ps := ["script"]) fun _ _ _ _ _ _ us hl => match us, hl with | [_], _ => rfl
  have FN := fun_mk (st := sNext) lN dN eN
  have bN := FN.binds (ps := ["m", "many"]) fun _ _ _ _ _ _ us hl => match us, hl with | [_, _], _ => rfl
  have FM := fun_mk (st := sNames) lM dM eM
  have bM := FM.binds (ps := ["m", "many"]) fun _ _ _ _ _ _ us hl => match us, hl with | [_, _], _ => rfl
  have FSe := fun_mk (st := sSettings) lSe dSe eSe
  have bSe := FSe.binds (ps := ["m"]) fun _ _ _ _ _ _ us hl => match us, hl with | [_], _ => rfl
  have FO := fun_mk (st := sOdd) lO dO eO
  have bO := FO.binds (ps := ["m"]) fun _ _ _ _ _ _ us hl => match us, hl with | [_], _ => rfl
  have FB := fun_mk (st := sBent) lB dB eB
  have bB := FB.binds (ps := ["m", "thing"]) fun _ _ _ _ _ _ us hl => match us, hl with | [_, _], _ => rfl
  have FLs := fun_mk (st := sStandings) lLs dLs eLs
  have bLs := FLs.binds (ps := ["spots"]) fun _ _ _ _ _ _ us hl => match us, hl with | [_], _ => rfl
  have FL := fun_mk (st := sLaw) lL dL eL
  have T0 : TxtB mg fN fM fO fB := ⟨⟨⟨⟨PySem.W.mg_none_of X G z_list, PySem.W.mg_none_of X G z_len, PySem.W.mg_none_of X G z_int⟩, PySem.W.mg_of X G aN, PySem.W.mg_none_of X G z_range, PySem.W.mg_none_of X G z_tuple, PySem.W.mg_none_of X G z_zip⟩, PySem.W.mg_of X G aM⟩, PySem.W.mg_of X G aO, PySem.W.mg_of X G aB, PySem.W.mg_none_of X G z_isinstance, PySem.W.mg_none_of X G z_str, PySem.W.mg_none_of X G z_bool⟩
  have TI : TxtI mg fI := ⟨PySem.W.mg_none_of X G z_isinstance, PySem.W.mg_none_of X G z_int, PySem.W.mg_none_of X G z_bool, PySem.W.mg_none_of X G z_tuple, PySem.W.mg_none_of X G z_len, PySem.W.mg_none_of X G z_range, PySem.W.mg_of X G aI⟩
  exact ok_law T0 TI (PySem.W.mg_none_of X G z_min) (PySem.W.mg_none_of X G z_repr) (PySem.W.mg_of X G aBg) (PySem.W.mg_of X G aSe) (PySem.W.mg_of X G aLs) (PySem.W.mg_of X G aG) (PySem.W.mg_of X G aGe) (PySem.W.mg_of X G aSt) FL (fun s v => .of_eq rfl) FBg bBg FN bN FM bM FSe bSe FO bO FB bB FLs bLs FI bI FG bG FGe bGe FSt bSt
end Ms
open PySem PySem.W PyProof.Rows
set_option maxRecDepth 100000 in
set_option maxHeartbeats 0 in
theorem PySem.Challenge.cw_midswitch_k02_standings_listed_holds : PySem.Challenge.rw_midswitch_k02_standings_listed.Holds := by
  w_on; o_law; k_head; (case hw => w_witness2)
  k_fill
  refine Ms.walk_known (l := PySem.Challenge.rw_midswitch_k02_standings_listed) rfl rfl (fun w h Y => PySem.W.kIn_of Y) ?R
  case R =>
    intro w mg fa h KX G hmg
    refine' Ms.all_mk KX G hmg ?aI ?lI ?dI ?eI ?aG ?lG ?dG ?eG ?aGe ?lGe ?dGe ?eGe ?aSt ?lSt ?dSt ?eSt ?aBg ?lBg ?dBg ?eBg ?aN ?lN ?dN ?eN ?aM ?lM ?dM ?eM ?aSe ?lSe ?dSe ?eSe ?aO ?lO ?dO ?eO ?aB ?lB ?dB ?eB ?aLs ?lLs ?dLs ?eLs ?aL ?lL ?dL ?eL ?z_list ?z_len ?z_int ?z_range ?z_tuple ?z_zip ?z_isinstance ?z_str ?z_bool ?z_repr ?z_min
    (case aI => k_is)
    (case lI => k_is)
    (case dI => k_is)
    (case eI => k_is)
    (case aG => k_is)
    (case lG => k_is)
    (case dG => k_is)
    (case eG => k_is)
    (case aGe => k_is)
    (case lGe => k_is)
    (case dGe => k_is)
    (case eGe => k_is)
    (case aSt => k_is)
    (case lSt => k_is)
    (case dSt => k_is)
    (case eSt => k_is)
    (case aBg => k_is)
    (case lBg => k_is)
    (case dBg => k_is)
    (case eBg => k_is)
    (case aN => k_is)
    (case lN => k_is)
    (case dN => k_is)
    (case eN => k_is)
    (case aM => k_is)
    (case lM => k_is)
    (case dM => k_is)
    (case eM => k_is)
    (case aSe => k_is)
    (case lSe => k_is)
    (case dSe => k_is)
    (case eSe => k_is)
    (case aO => k_is)
    (case lO => k_is)
    (case dO => k_is)
    (case eO => k_is)
    (case aB => k_is)
    (case lB => k_is)
    (case dB => k_is)
    (case eB => k_is)
    (case aLs => k_is)
    (case lLs => k_is)
    (case dLs => k_is)
    (case eLs => k_is)
    (case aL => k_is)
    (case lL => k_is)
    (case dL => k_is)
    (case eL => k_is)
    (case z_list => k_is)
    (case z_len => k_is)
    (case z_int => k_is)
    (case z_range => k_is)
    (case z_tuple => k_is)
    (case z_zip => k_is)
    (case z_isinstance => k_is)
    (case z_str => k_is)
    (case z_bool => k_is)
    (case z_repr => k_is)
    (case z_min => k_is)
