import PyProof.Rows.All
import Wide.All
import OpenK.AllK
import Wide.FinOn
import PyProof.EqAt
import PyProof.EqKinds
import PyProof.TupleCall
import HandS.ForExc
import HandS.ForMost
import HandS.Dict
import HandS.Comp
import HandS.IsInst
import PyProof.StrBlock2
import HandS.Zip
import HandS.Walk
import KE.GoesNew
import KE.GoesMore
import HandS.TupAny
import HandS.Iter
import KE.GoesEnumKw
import KE.DataMinMax
import PyProof.Rows.CallKwBuiltin
import PyProof.Rows.CallKw2
import HandS.ExcInit
import HandS.ExcField
import HandS.Star
import HandS.StrMore
import HandS.Lambda
import HandS.EndTab
import KE.KNest
import KE.KNestM
import HandS.TupMul
import HandS.MakeKw
import HandS.Text
import HandS.DictComp
import PyProof.P3Eq
import PyProof.InstEq
import HandS.Codes
import KE.KOpsOwn
import KE.KExcLine
import KE.KExcIs
import KE.RegKIsAll
import HandS.MakeKwOnly
import HandS.Deep
import KE.DataFind
import HandS.OwnEq
import KE.KDictPairs
import PySem.Challenge.RW_midswitch_k56_whole_any_request_text
set_option Elab.async false
set_option linter.all false
set_option maxRecDepth 100000
set_option maxHeartbeats 4000000
namespace Ms
open PySem PySem.Spec PyProof.Rows L2
section
variable {P : Program} {w : World} {K : PySem.W.Frag} {mg : Str → Option Value} {base : Heap}
theorem deeper_guards {A : Around} {env : Env} (h : A.guards = some []) : (A.deeper env).guards = some [] := h
/-- a def is run where it is known that no guard stands (repr asks for that) -/
theorem run_known {x qual : Str} {st : Stmt} {f : Addr} {fd : FuncData} {N ps : List Str} {k : Nat} (F : Fun K x qual st f fd) (S : FnScope N ps (defScope st))
    {A : Around} {outer : List Env} {s : Shared} {H : Hp} {args : Args} {us : List Value} {vs : List V} {Q : VK} {E : XK}
    (gA : A.guards = some []) (rm : Room (k + 1) A) (st0 : Env0 P w K mg base A outer s H) (bd : BindsTo s fd args (ps.zip us)) (rel : Vals vs us) (ln : vs.length = ps.length)
    (walk : ∀ cdv : Value, Room k (A.deeper (envOfC qual (defScope st) s.heap.objs.size f cdv)) →
      ∃ t, PSs (cxOf CX0 P w K mg base N qual (defScope st) f cdv A outer s H E).nox (defBody st) t ∧ t { nx := fun _ H' => Q .non H', rt := Q } (start N vs) H) :
    codeAny (model P w) A (.call (.ref f) args) (CR CX0 outer P w H s Q E) s := by
  obtain ⟨oc, od, kV, doc, pm, an, cdv, ct, osl, rfl, atK, code⟩ := F.ex
  have inH : K.In s.heap := st0.mod.kin.keeps fun b o q => (st0.bs b o q).1
  have noLim : s.heap.NoLimit := st0.mod.nolimit.keeps fun b o q => (st0.bs b o q).1
  have kinds : ∀ y ∈ ps.zip us, (defScope st).names.lookup y.1 = some .local ∨ ((defScope st).names.lookup y.1 = some .cell ∧ ((cellsFrom (s.heap.objs.size + 1) (defScope st).names []).lookup y.1).isSome = true) := by
    rintro ⟨n, v⟩ hy
    rcases S.par n (List.of_mem_zip hy).1 with z | z
    · exact Or.inl z
    · exact Or.inr ⟨z, PySem.W.cellsFrom_some _ _ _ (.inl z)⟩
  refine codeAny_call_function rm.depth (inH _ _ atK) rfl S.co S.gen rfl (PySem.W.codeRec_of inH code) (bd _ _ _ _ ?_)
  refine wpAny_newFunctionEnv_cells S.kind kinds fun env eq s1 inC => ?_
  subst eq
  refine And.intro (noLim.keeps inC.toInCall.keep) (codeAny_func ?_)
  obtain ⟨t, derives, reads⟩ := walk cdv (rm.deeper _)
  have I := inv_start (CX := CX0) (P := P) (mg := mg) (base := base) (E := E) S rm.hd st0 ln rel inC
  refine wpAny_mono (derives.nox.run [] s1 (start N vs) H _ I reads) (fun fl s' hs => ?_) fun e s' hs => hs
  cases fl with
  | ret u =>
    obtain ⟨v, σ', H', J, rv, q⟩ := hs
    exact ⟨v, H', J.os, J.bare, J.base, J.hok, rv, q⟩
  | next =>
    obtain ⟨σ', H', J, q⟩ := hs
    exact ⟨V.non, H', J.os, J.bare, J.base, J.hok, rfl, q⟩
  | brk => obtain ⟨_, _, _, q⟩ := hs; exact q.elim
  | cont => obtain ⟨_, _, _, q⟩ := hs; exact q.elim

/-- what a law's own def has to show: at a list of at most 63 ints it hands back True, where no guard stands -/
def LawRun (P : Program) (w : World) (K : PySem.W.Frag) (mg : Str → Option Value) (fa : Addr) : Prop :=
  ∀ (base : Heap) (H : Hp) (s : Shared) (a : Addr) (ns : List Int), K.In base → base.Ns mainGlobals mg → SqL K H a (ns.map V.int) → ns.length ≤ 63 → Env0 P w K mg base callerA [] s H →
    codeAny (model P w) callerA (.call (.ref fa) ⟨[.ref a], []⟩) (CR CX0 [] P w H s (fun v _ => v = .bl true) fun _ _ _ => False) s
/-- the script stands alone in the heap that is told: in H only at a, if at all -/
structure Alone (H : Hp) (h : Heap) (K : PySem.W.Frag) (a : Addr) : Prop where
  only : Only H
  here : ∀ b, H b ≠ none → b = a
  off : H a ≠ none → K.lookup a = none
theorem Alone.none {H : Hp} {h : Heap} {K : PySem.W.Frag} {a b : Addr} {o p : Obj} (x : Alone H h K a) (e : h.get? b = some o) (ea : h.get? a = some p) (d : o.data ≠ p.data) : H b = none := by
  cases q : H b with
  | none => rfl
  | some u =>
    have z := x.here b (by rw [q]; exact fun z => nomatch z)
    subst z
    rw [ea] at e
    cases e
    exact absurd rfl d
theorem Alone.ns {H : Hp} {h : Heap} {K : PySem.W.Frag} {a b : Addr} {vs : Array Value} {m : Str → Option Value} (x : Alone H h K a) (ea : h.get? a = some { cls := .type "list", data := .seq vs }) (n : h.Ns b m) : (hidT h H).Ns b m := by
  obtain ⟨o, es, ep, e, d, r⟩ := n
  refine ⟨o, es, ep, hidT_get e (x.none e ea ?_), d, r⟩
  rw [d]
  intro z
  cases z
theorem Alone.kin {H : Hp} {h : Heap} {K : PySem.W.Frag} {a : Addr} (x : Alone H h K a) (X : K.In h) : K.In (hidT h H) := by
  intro b o e
  refine hidT_get (X b o e) ?_
  cases q : H b with
  | none => rfl
  | some u =>
    have z := x.here b (by rw [q]; exact fun z => nomatch z)
    subst z
    rw [x.off (by rw [q]; exact fun z => nomatch z)] at e
    cases e
theorem law_ends {fa a : Addr} {s : Shared} {vs : List Value} {ns : List Int} {mb : Str → Option Value} {H : Hp} (R : LawRun P w K mg fa) (al : Alone H s.heap K a)
    (X : K.In s.heap) (g : s.heap.Ns mainGlobals mg) (b : s.heap.Ns builtinsNs mb) (bb : ∀ x : Str, x ≠ "__name__" → mb x = bootBuiltins x) (lim : s.heap.NoLimit) (gs : s.gens = #[])
    (ea : s.heap.get? a = some { cls := .type "list", data := .seq vs.toArray }) (hS : SqL K H a (ns.map V.int)) (hl : ns.length ≤ 63) (ok : HOk P w H s.heap) :
    codeAny (model P w) callerA (.call (.ref fa) ⟨[.ref a], []⟩) (fun r s' => r = .ok (.ret (.bool true)) ∧ OldK s.heap s'.heap ∧ s'.os = s.os ∧ AllBare s'.gens) s := by
  have M : Mod K mg (hidT s.heap H) := by
    refine ⟨al.kin X, al.ns ea g, ⟨mb, al.ns ea b, bb⟩, ?_⟩
    obtain ⟨mc, l1, l2⟩ := lim
    exact ⟨mc, al.ns ea l1, l2⟩
  have st0 : Env0 P w K mg (hidT s.heap H) callerA [] s H := by
    refine ⟨rfl, M, fun b o e => of_hidT e, Nat.le_of_eq (hidT_size _ _), trivial, fun b hb => ?_, ok, AllBare.of_eq gs⟩
    cases (show b ∈ ([] : List Addr) from hb)
  refine codeAny_mono (R _ H s a ns M.kin M.glob hS hl st0) fun r s' q => ?_
  match r, q with
  | .error e, q => exact False.elim q
  | .ok (.next), q => exact False.elim q
  | .ok (.brk), q => exact False.elim q
  | .ok (.cont), q => exact False.elim q
  | .ok (.ret u), q =>
    obtain ⟨v, H', eos, bare, un, ok', rv, qv⟩ := q
    have qv' : v = .bl true := qv
    subst qv'
    obtain rfl : u = Value.bool true := rv
    refine And.intro rfl (And.intro (OldK.of_keep fun c o e => ?_) (And.intro eos bare))
    rcases al.only c with z | ⟨ob, xs, z⟩
    · exact un.keep c o e z (fun y => by cases (show c ∈ ([] : List Addr) from y)) (by simp)
    · have h1 := (ok c _ z).1
      have h2 := (ok' c _ (un.frzs c ob _ z)).1
      rw [e] at h1
      cases h1
      exact h2
theorem law_known {fa a : Addr} {s : Shared} {vs : List Value} {ns : List Int} {mb : Str → Option Value} (R : LawRun P w K mg fa)
    (X : K.In s.heap) (g : s.heap.Ns mainGlobals mg) (b : s.heap.Ns builtinsNs mb) (bb : ∀ x : Str, x ≠ "__name__" → mb x = bootBuiltins x) (lim : s.heap.NoLimit) (gs : s.gens = #[])
    (ea : s.heap.get? a = some { cls := .type "list", data := .seq vs.toArray }) (hi : IntsAre vs ns) (hl : ns.length ≤ 63) :
    codeAny (model P w) callerA (.call (.ref fa) ⟨[.ref a], []⟩) (fun r s' => r = .ok (.ret (.bool true)) ∧ OldK s.heap s'.heap ∧ s'.os = s.os ∧ AllBare s'.gens) s := by
  have rel := vals_ints hi
  have ll := hi.length
  have hl2 : ns.length ≤ sizeLine := Nat.le_trans hl (by decide)
  cases lk : K.lookup a with
  | some o =>
    have e := X a o lk
    rw [ea] at e
    cases e
    refine law_ends (H := fun _ => Option.none) R ⟨fun _ => .inl rfl, fun _ z => absurd rfl z, fun z => absurd rfl z⟩ X g b bb lim gs ea ?_ hl (fun _ _ z => by cases (show (Option.none : Option HO) = some _ from z))
    refine .inr ⟨_, vs.toArray, _, lk, rfl, rfl, rfl, ?_, by simpa using rel⟩
    rw [List.size_toArray, ll]
    exact hl2
  | none =>
    let o0 : HO := .frz { cls := .type "list", data := .seq vs.toArray } (.lst (ns.map V.int))
    have at0 : ∀ c u, (fun c => if c = a then some o0 else Option.none) c = some u → c = a ∧ u = o0 := fun c u z => by
      by_cases hc : c = a
      · have z' := (if_pos hc).symm.trans z
        exact ⟨hc, (Option.some.inj z').symm⟩
      · have z' := (if_neg hc).symm.trans z
        cases z'
    refine law_ends (H := fun c => if c = a then some o0 else Option.none) R ⟨fun c => ?_, fun c z => ?_, fun _ => lk⟩ X g b bb lim gs ea (.inl (.inr ⟨_, if_pos rfl⟩)) hl (fun c u z => ?_)
    · by_cases hc : c = a
      · exact .inr ⟨_, _, if_pos hc⟩
      · exact .inl (if_neg hc)
    · by_cases hc : c = a
      · exact hc
      · exact absurd (if_neg hc) z
    · obtain ⟨hc, hu⟩ := at0 c u z
      subst hc
      subst hu
      exact ⟨ea, by rw [List.length_map]; exact hl2, vs, _, rel, ea⟩
/-- the end of a law's row -/
theorem walk_known {l : PySem.W.OpenLaw} {q : Program} {loose : List Str} {XP : (Str → Option Value) → Heap → Prop} {YP : World → Heap → Prop} {d : DefRec} {K : Params → PySem.W.Frag} (hn : l.most = some 63) (hdf : d.params.defaults = [])
    (hY : ∀ (w : World) (h : Heap), YP w h → (K w.params).In h)
    (R : ∀ (w : World) (mg : Str → Option Value) (fa : Addr) (h : Heap), (K w.params).In h → h.Ns mainGlobals mg → mg d.name = some (.ref fa) → LawRun l.prog w (K w.params) mg fa) :
    PySem.W.WalkO q loose XP YP l.row.toRowW d [] (fun f vs => PySem.call f vs) := by
  refine Att.attach_call hn hdf fun w s₀ s₁ mg mb fa o pm cd doc a vs ns G Y ho hd hcd hmg hobj hints hlen hg => ?_
  have KX := hY w _ Y
  exact law_known (R w mg fa _ KX G.T.g hmg) KX G.T.g G.T.b G.T.builtins G.T.nolimit hg hobj hints hlen
end

/-! ### data, and its repr -/
mutual
/-- v is the data d; its lists and dicts are none of the machine's two -/
inductive Dq (K : PySem.W.Frag) (H : Hp) (m l : Addr) : V → PyData → Prop
  | non : Dq K H m l .non .none
  | bl (b : Bool) : Dq K H m l (.bl b) (.bool b)
  | int (i : Int) : Dq K H m l (.int i) (.int i)
  | str (x : Str) : Dq K H m l (.str x) (.str x)
  | lst {a : Addr} {xs : List V} {ds : List PyData} : H a = some (.lst xs) → a ≠ m → a ≠ l → DqAll K H m l xs ds → Dq K H m l (.ref a) (.list ds)
  | tup {a : Addr} {xs : List V} {ds : List PyData} : SqT K H a xs → DqAll K H m l xs ds → Dq K H m l (.ref a) (.tuple ds)
  | dct {a : Addr} : H a = some (.dK []) → a ≠ m → a ≠ l → Dq K H m l (.ref a) (.dict [])
inductive DqAll (K : PySem.W.Frag) (H : Hp) (m l : Addr) : List V → List PyData → Prop
  | nil : DqAll K H m l [] []
  | cons {v : V} {vs : List V} {d : PyData} {ds : List PyData} : Dq K H m l v d → DqAll K H m l vs ds → DqAll K H m l (v :: vs) (d :: ds)
end
/-- from one heap to another one: what is not the machine's stands, and is not the machine's then -/
structure Kept (m l l' : Addr) (H H' : Hp) : Prop where
  keep : ∀ b o, H b = some o → b ≠ m → b ≠ l → H' b = some o
  ne : ∀ b o, H b = some o → b ≠ l → b ≠ l'
  am : ∃ z, H m = some (.dK z)
  al : ∃ z, H l = some (.lst z)
theorem Kept.tup {K : PySem.W.Frag} {m l l' a : Addr} {H H' : Hp} {xs : List V} (k : Kept m l l' H H') (h : SqT K H a xs) : SqT K H' a xs := by
  obtain ⟨z1, e1⟩ := k.am
  obtain ⟨z2, e2⟩ := k.al
  rcases h with (h | ⟨o, h⟩) | h
  · exact .inl (.inl (k.keep a _ h (ne_of h e1 (by intro z; cases z)) (ne_of h e2 (by intro z; cases z))))
  · exact .inl (.inr ⟨o, k.keep a _ h (ne_of h e1 (by intro z; cases z)) (ne_of h e2 (by intro z; cases z))⟩)
  · exact .inr h
mutual
theorem Dq.step {K : PySem.W.Frag} {m l l' : Addr} {H H' : Hp} (k : Kept m l l' H H') : ∀ (d : PyData) (v : V), Dq K H m l v d → Dq K H' m l' v d
  | .none, _, h => by cases h; exact .non
  | .bool b, _, h => by cases h; exact .bl b
  | .int i, _, h => by cases h; exact .int i
  | .str x, _, h => by cases h; exact .str x
  | .list ds, _, h => by
    cases h with
    | lst e n1 n2 t => exact .lst (k.keep _ _ e n1 n2) n1 (k.ne _ _ e n2) (DqAll.step k ds _ t)
  | .tuple ds, _, h => by
    cases h with
    | tup e t => exact .tup (k.tup e) (DqAll.step k ds _ t)
  | .dict _, _, h => by
    cases h with
    | dct e n1 n2 => exact .dct (k.keep _ _ e n1 n2) n1 (k.ne _ _ e n2)
theorem DqAll.step {K : PySem.W.Frag} {m l l' : Addr} {H H' : Hp} (k : Kept m l l' H H') : ∀ (ds : List PyData) (vs : List V), DqAll K H m l vs ds → DqAll K H' m l' vs ds
  | [], _, h => by cases h; exact .nil
  | d :: ds, _, h => by
    cases h with
    | cons h1 h2 => exact .cons (Dq.step k d _ h1) (DqAll.step k ds _ h2)
end
section
variable {X : Cx} {pins : List (Addr × Obj)} {σ : L2.St} {H : Hp} {s : Shared} {m l : Addr}
mutual
theorem Dq.reads (I : Inv X pins σ H s) (hs : H sysModules = none) : ∀ (d : PyData) (v : V) (u : Value), Dq X.K H m l v d → RelV v u → ∃ as, Reads s.heap u d as ∧ sysModules ∉ as
  | .none, _, _, h, r => by cases h; cases r; exact ⟨_, .none, by simp⟩
  | .bool b, _, _, h, r => by cases h; cases r; exact ⟨_, .bool b, by simp⟩
  | .int i, _, _, h, r => by cases h; obtain ⟨t, rfl⟩ := r; exact ⟨_, .int i t, by simp⟩
  | .str x, _, _, h, r => by cases h; obtain ⟨t, rfl⟩ := r; exact ⟨_, .str x t, by simp⟩
  | .list ds, _, _, h, r => by
    cases h with
    | lst e n1 n2 t =>
      cases r
      obtain ⟨its, rv, ⟨o, n, ho, hc, _, hd⟩, _⟩ := I.list (SqL.of e)
      obtain ⟨as, q1, q2⟩ := DqAll.reads I hs ds _ its t rv
      refine ⟨_, Reads.list ho hc hd q1, fun z => ?_⟩
      rcases List.mem_cons.mp z with z | z
      · rw [← z, hs] at e; cases e
      · exact q2 z
  | .tuple ds, _, _, h, r => by
    cases h with
    | tup e t =>
      cases r
      obtain ⟨its, rv, ⟨o, ho, hc, n, hd⟩, _⟩ := I.tuple e
      obtain ⟨as, q1, q2⟩ := DqAll.reads I hs ds _ its t rv
      exact ⟨_, Reads.tuple ho hc hd q1, q2⟩
  | .dict _, _, _, h, r => by
    cases h with
    | dct e n1 n2 =>
      cases r
      obtain ⟨z, hd, vs, rel, dd⟩ := dk_of I.hok e
      cases rel
      obtain ⟨o, es, ep, ho, hc, hdat, hlay⟩ := id dd
      have e0 : es.toList = [] := by
        have p := hlay.2.1
        cases q : es.toList with
        | nil => rfl
        | cons z zs => rw [q] at p; cases p
      refine ⟨_, Reads.dict (as := []) (bs := []) ho hc.1 hdat ?_ ?_, ?_⟩
      · rw [e0]; exact .nil
      · rw [e0]; exact .nil
      · intro z
        have z2 := List.mem_singleton.mp (show sysModules ∈ [_] from z)
        rw [← z2, hs] at e
        cases e
theorem DqAll.reads (I : Inv X pins σ H s) (hs : H sysModules = none) : ∀ (ds : List PyData) (vs : List V) (us : List Value), DqAll X.K H m l vs ds → Vals vs us → ∃ as, ReadsAll s.heap us ds as ∧ sysModules ∉ as
  | [], _, _, h, r => by cases h; cases r; exact ⟨_, .nil, by simp⟩
  | d :: ds, _, _, h, r => by
    cases h with
    | cons h1 h2 =>
      cases r with
      | cons r1 r2 =>
        obtain ⟨as, q1, p1⟩ := Dq.reads I hs d _ _ h1 r1
        obtain ⟨bs, q2, p2⟩ := DqAll.reads I hs ds _ _ h2 r2
        exact ⟨_, .cons q1 q2, fun z => (List.mem_append.mp z).elim p1 p2⟩
end
theorem no_sys {o : Obj} (hk : X.K.lookup sysModules = some o) (I : Inv X pins σ H s) : H sysModules = none := (I.bs _ _ (I.ok.mod.kin _ _ hk)).2
end
/-- repr(x) -/
theorem call_repr {X : Cx} {o : Obj} (hg : X.A.guards = some []) (hu : X.A.units + 64 < cLine) (hk : X.K.lookup sysModules = some o) :
    CallR X (.builtin "repr") (fun xs H Q => ∃ x d m l, xs = [x] ∧ Dq X.K H m l x d ∧ d.showable = true ∧ d.depth ≤ 60 ∧ d.shown.length ≤ sizeLine ∧ Q (.str d.shown) H) := by
  intro pins s σ H xs us Q I r h
  obtain ⟨x, d, m, l, rfl, hd, hs, hdep, hlen, q⟩ := h
  obtain ⟨u, rfl, rx⟩ := vals1 r
  obtain ⟨as, rd, na⟩ := Dq.reads I (no_sys hk I) d x u hd rx
  cases rd with
  | none => exact PySem.P.repr_of_none ⟨V.str _, H, I.tok _, ⟨_, rfl⟩, by simpa only [PyData.shown] using q⟩
  | bool b => exact PySem.P.repr_of_bool ⟨V.str _, H, I.tok _, ⟨_, rfl⟩, by simpa only [PyData.shown] using q⟩
  | int i t => exact PySem.P.repr_of_int (by simpa [PyData.showable] using hs) ⟨V.str _, H, I.tok _, ⟨_, rfl⟩, by simpa only [PyData.shown] using q⟩
  | str y t => exact PySem.P.repr_of_str ⟨V.str _, H, I.tok _, ⟨_, rfl⟩, by simpa only [PyData.shown] using q⟩ (by simpa only [PyData.shown] using hlen)
  | list h1 h2 h3 h4 => exact repr_of_reads' (.list h1 h2 h3 h4) hs (fun _ => na) hg (by omega) (fun _ _ e => e) (fun h' u' tk k => ⟨V.str _, H, I.kept k, ⟨_, rfl⟩, q⟩) hlen
  | tuple h1 h2 h3 h4 => exact repr_of_reads' (.tuple h1 h2 h3 h4) hs (fun _ => na) hg (by omega) (fun _ _ e => e) (fun h' u' tk k => ⟨V.str _, H, I.kept k, ⟨_, rfl⟩, q⟩) hlen
  | dict h1 h2 h3 h4 h5 => exact repr_of_reads' (.dict h1 h2 h3 h4 h5) hs (fun _ => na) hg (by omega) (fun _ _ e => e) (fun h' u' tk k => ⟨V.str _, H, I.kept k, ⟨_, rfl⟩, q⟩) hlen

/-! ### the same, of data that is a dict or bears none -/
def plainD : PyData → Bool
  | .dict [] => true
  | d => !d.hasDict
section
variable {X : Cx} {pins : List (Addr × Obj)} {σ : L2.St} {H : Hp} {s : Shared} {m l : Addr}
mutual
theorem Dq.reads0 (I : Inv X pins σ H s) : ∀ (d : PyData) (v : V) (u : Value), Dq X.K H m l v d → RelV v u → ∃ as, Reads s.heap u d as ∧ (d = .dict [] → sysModules ∉ as)
  | .none, _, _, h, r => by cases h; cases r; exact ⟨_, .none, by simp⟩
  | .bool b, _, _, h, r => by cases h; cases r; exact ⟨_, .bool b, by simp⟩
  | .int i, _, _, h, r => by cases h; obtain ⟨t, rfl⟩ := r; exact ⟨_, .int i t, by simp⟩
  | .str x, _, _, h, r => by cases h; obtain ⟨t, rfl⟩ := r; exact ⟨_, .str x t, by simp⟩
  | .list ds, _, _, h, r => by
    cases h with
    | lst e n1 n2 t =>
      cases r
      obtain ⟨its, rv, ⟨o, n, ho, hc, _, hd⟩, _⟩ := I.list (SqL.of e)
      obtain ⟨as, q1⟩ := DqAll.reads0 I ds _ its t rv
      exact ⟨_, Reads.list ho hc hd q1, fun z => nomatch z⟩
  | .tuple ds, _, _, h, r => by
    cases h with
    | tup e t =>
      cases r
      obtain ⟨its, rv, ⟨o, ho, hc, n, hd⟩, _⟩ := I.tuple e
      obtain ⟨as, q1⟩ := DqAll.reads0 I ds _ its t rv
      exact ⟨_, Reads.tuple ho hc hd q1, fun z => nomatch z⟩
  | .dict _, _, _, h, r => by
    cases h with
    | dct e n1 n2 =>
      cases r
      obtain ⟨z, hd, vs, rel, dd⟩ := dk_of I.hok e
      cases rel
      obtain ⟨o, es, ep, ho, hc, hdat, hlay⟩ := id dd
      have e0 : es.toList = [] := by
        have p := hlay.2.1
        cases q : es.toList with
        | nil => rfl
        | cons z zs => rw [q] at p; cases p
      refine ⟨_, Reads.dict (as := []) (bs := []) ho hc.1 hdat ?_ ?_, fun _ z => ?_⟩
      · rw [e0]; exact .nil
      · rw [e0]; exact .nil
      · have z2 := List.mem_singleton.mp (show sysModules ∈ [_] from z)
        rw [← z2] at hd
        exact absurd hd (by decide)
theorem DqAll.reads0 (I : Inv X pins σ H s) : ∀ (ds : List PyData) (vs : List V) (us : List Value), DqAll X.K H m l vs ds → Vals vs us → ∃ as, ReadsAll s.heap us ds as
  | [], _, _, h, r => by cases h; cases r; exact ⟨_, .nil⟩
  | d :: ds, _, _, h, r => by
    cases h with
    | cons h1 h2 =>
      cases r with
      | cons r1 r2 =>
        obtain ⟨as, q1, p1⟩ := Dq.reads0 I d _ _ h1 r1
        obtain ⟨bs, q2⟩ := DqAll.reads0 I ds _ _ h2 r2
        exact ⟨_, .cons q1 q2⟩
end
end
theorem plain_off {d : PyData} {as : List Addr} (p : plainD d = true) (h : d = .dict [] → sysModules ∉ as) : d.hasDict = true → sysModules ∉ as := fun z => by
  cases d with
  | dict kvs =>
    cases kvs with
    | nil => exact h rfl
    | cons a b =>
      have p' : (!(PyData.dict (a :: b)).hasDict) = true := p
      rw [z] at p'
      cases p'
  | _ =>
    have p' := p
    simp only [plainD, Bool.not_eq_true'] at p'
    rw [z] at p'
    cases p'
theorem call_repr0 {X : Cx} (hg : X.A.guards = some []) (hu : X.A.units + 64 < cLine) :
    CallR X (.builtin "repr") (fun xs H Q => ∃ x d m l, xs = [x] ∧ Dq X.K H m l x d ∧ plainD d = true ∧ d.showable = true ∧ d.depth ≤ 60 ∧ d.shown.length ≤ sizeLine ∧ Q (.str d.shown) H) := by
  intro pins s σ H xs us Q I r h
  obtain ⟨x, d, m, l, rfl, hd, hp, hs, hdep, hlen, q⟩ := h
  obtain ⟨u, rfl, rx⟩ := vals1 r
  obtain ⟨as, rd, na0⟩ := Dq.reads0 I d x u hd rx
  have na := plain_off hp na0
  cases rd with
  | none => exact PySem.P.repr_of_none ⟨V.str _, H, I.tok _, ⟨_, rfl⟩, by simpa only [PyData.shown] using q⟩
  | bool b => exact PySem.P.repr_of_bool ⟨V.str _, H, I.tok _, ⟨_, rfl⟩, by simpa only [PyData.shown] using q⟩
  | int i t => exact PySem.P.repr_of_int (by simpa [PyData.showable] using hs) ⟨V.str _, H, I.tok _, ⟨_, rfl⟩, by simpa only [PyData.shown] using q⟩
  | str y t => exact PySem.P.repr_of_str ⟨V.str _, H, I.tok _, ⟨_, rfl⟩, by simpa only [PyData.shown] using q⟩ (by simpa only [PyData.shown] using hlen)
  | list h1 h2 h3 h4 => exact repr_of_reads' (.list h1 h2 h3 h4) hs na hg (by omega) (fun _ _ e => e) (fun h' u' tk k => ⟨V.str _, H, I.kept k, ⟨_, rfl⟩, q⟩) hlen
  | tuple h1 h2 h3 h4 => exact repr_of_reads' (.tuple h1 h2 h3 h4) hs na hg (by omega) (fun _ _ e => e) (fun h' u' tk k => ⟨V.str _, H, I.kept k, ⟨_, rfl⟩, q⟩) hlen
  | dict h1 h2 h3 h4 h5 => exact repr_of_reads' (.dict h1 h2 h3 h4 h5) hs na hg (by omega) (fun _ _ e => e) (fun h' u' tk k => ⟨V.str _, H, I.kept k, ⟨_, rfl⟩, q⟩) hlen
end Ms
namespace Ms
open PySem PySem.Spec PyProof.Rows L2
/-! ### repr of any such data: no dict of it is the interpreter's own, and that is all that is asked -/
section
variable {X : Cx} {pins : List (Addr × Obj)} {σ : L2.St} {H : Hp} {s : Shared} {m l : Addr}
mutual
theorem Dq.shows (I : Inv X pins σ H s) : ∀ (d : PyData) (v : V) (u : Value), Dq X.K H m l v d → RelV v u → d.showable = true → d.shown.length ≤ sizeLine →
    ∃ as bs, Reads s.heap u d as ∧ ReadAtMost s.heap d.depth bs ∧ ReprK X.prog X.w bs s.heap d.depth u d.shown
  | .none, _, _, h, r, hs, hz => by
    cases h; cases r
    obtain ⟨bs, p, q⟩ := ReprK.of_reads (prog := X.prog) (w := X.w) (h₀ := s.heap) .none hs (fun z => by simp [PyData.hasDict] at z) hz
    exact ⟨_, bs, .none, p, q⟩
  | .bool b, _, _, h, r, hs, hz => by
    cases h; cases r
    obtain ⟨bs, p, q⟩ := ReprK.of_reads (prog := X.prog) (w := X.w) (h₀ := s.heap) (.bool b) hs (fun z => by simp [PyData.hasDict] at z) hz
    exact ⟨_, bs, .bool b, p, q⟩
  | .int i, _, _, h, r, hs, hz => by
    cases h; obtain ⟨t, rfl⟩ := r
    obtain ⟨bs, p, q⟩ := ReprK.of_reads (prog := X.prog) (w := X.w) (h₀ := s.heap) (.int i t) hs (fun z => by simp [PyData.hasDict] at z) hz
    exact ⟨_, bs, .int i t, p, q⟩
  | .str x, _, _, h, r, hs, hz => by
    cases h; obtain ⟨t, rfl⟩ := r
    obtain ⟨bs, p, q⟩ := ReprK.of_reads (prog := X.prog) (w := X.w) (h₀ := s.heap) (.str x t) hs (fun z => by simp [PyData.hasDict] at z) hz
    exact ⟨_, bs, .str x t, p, q⟩
  | .list ds, _, _, h, r, hs, hz => by
    cases h with
    | lst e n1 n2 t =>
      cases r
      obtain ⟨its, rv, ⟨o, n, ho, hc, _, hd⟩, _⟩ := I.list (SqL.of e)
      have fits : (listText (PyData.shownAll ds)).length ≤ sizeLine := by simpa only [PyData.shown] using hz
      obtain ⟨as, bs, r1, p, q⟩ := DqAll.shows I ds _ its t rv (by simpa [PyData.showable] using hs) fun x hx => Nat.le_trans (listText_mem_le hx) fits
      have rd := Reads.list ho hc hd r1
      have off := not_mem_of_deeper rd (by simp only [PyData.depth]; omega) p
      refine ⟨_, _, rd, ReadAtMost.cons rd (by simp only [PyData.depth]; omega) p, ?_⟩
      simp only [PyData.depth, PyData.shown]
      cases its with
      | nil =>
        cases r1
        simp only [PyData.shownAll, listText_nil]
        exact ReprK.listEmpty ho hc hd
      | cons y ys => exact ReprK.list ho hc hd off (by simpa using q.length_eq) fun i z e => q.item i z (by simpa using e)
  | .tuple ds, _, _, h, r, hs, hz => by
    cases h with
    | tup e t =>
      cases r
      obtain ⟨its, rv, ⟨o, ho, hc, n, hd⟩, _⟩ := I.tuple e
      have fits : (tupleText (PyData.shownAll ds)).length ≤ sizeLine := by simpa only [PyData.shown] using hz
      obtain ⟨as, bs, r1, p, q⟩ := DqAll.shows I ds _ its t rv (by simpa [PyData.showable] using hs) fun x hx => Nat.le_trans (tupleText_mem_le hx) fits
      have rd := Reads.tuple ho hc hd r1
      have off := not_mem_of_deeper rd (by simp only [PyData.depth]; omega) p
      refine ⟨_, _, rd, ReadAtMost.cons rd (by simp only [PyData.depth]; omega) p, ?_⟩
      simp only [PyData.depth, PyData.shown]
      exact ReprK.tuple ho hc hd off q
  | .dict kvs, v, u, h, r, hs, hz => by
    obtain ⟨as, rd, na⟩ := Dq.reads0 I (.dict kvs) v u h r
    cases h with
    | dct e n1 n2 =>
      obtain ⟨bs, p, q⟩ := ReprK.of_reads (prog := X.prog) (w := X.w) rd hs (fun _ => na rfl) hz
      exact ⟨as, bs, rd, p, q⟩
theorem DqAll.shows (I : Inv X pins σ H s) : ∀ (ds : List PyData) (vs : List V) (us : List Value), DqAll X.K H m l vs ds → Vals vs us → PyData.showableAll ds = true → (∀ t ∈ PyData.shownAll ds, t.length ≤ sizeLine) →
    ∃ as bs, ReadsAll s.heap us ds as ∧ ReadAtMost s.heap (PyData.depthAll ds) bs ∧ ReprAllK X.prog X.w bs s.heap (PyData.depthAll ds) us (PyData.shownAll ds)
  | [], _, _, h, r, _, _ => by
    cases h; cases r
    exact ⟨_, [], .nil, (fun _ z => nomatch z), by simp only [PyData.shownAll]; exact .nil⟩
  | d :: ds, _, _, h, r, hs, hz => by
    cases h with
    | cons h1 h2 =>
      cases r with
      | cons r1 r2 =>
        have both : d.showable = true ∧ PyData.showableAll ds = true := by simpa [PyData.showableAll] using hs
        obtain ⟨as1, bs1, rd1, p1, q1⟩ := Dq.shows I d _ _ h1 r1 both.1 (hz _ (by simp only [PyData.shownAll]; exact List.mem_cons_self ..))
        obtain ⟨as2, bs2, rd2, p2, q2⟩ := DqAll.shows I ds _ _ h2 r2 both.2 (fun x hx => hz x (by simp only [PyData.shownAll]; exact List.mem_cons_of_mem _ hx))
        refine ⟨_, bs1 ++ bs2, .cons rd1 rd2, ?_, ?_⟩
        · simp only [PyData.depthAll]
          exact (p1.mono (Nat.le_max_left _ _)).append (p2.mono (Nat.le_max_right _ _))
        · simp only [PyData.depthAll, PyData.shownAll]
          exact .cons ((q1.more fun b hb => List.mem_append_left _ hb).level_le (Nat.le_max_left _ _)) (q2.more_le (fun b hb => List.mem_append_right _ hb) (Nat.le_max_right _ _))
end
end
/-- repr(x) -/
theorem call_reprD {X : Cx} (hg : X.A.guards = some []) (hu : X.A.units + 64 < cLine) :
    CallR X (.builtin "repr") (fun xs H Q => ∃ x d m l, xs = [x] ∧ Dq X.K H m l x d ∧ d.showable = true ∧ d.depth ≤ 60 ∧ d.shown.length ≤ sizeLine ∧ Q (.str d.shown) H) := by
  intro pins s σ H xs us Q I r h
  obtain ⟨x, d, m, l, rfl, hd, hs, hdep, hlen, q⟩ := h
  cases d with
  | list ds =>
    obtain ⟨u, rfl, rx⟩ := vals1 r
    cases hd with
    | lst e n1 n2 t =>
      cases rx
      obtain ⟨its, rv, ⟨o, n, ho, hc, _, hdt⟩, _⟩ := I.list (SqL.of e)
      have fits : (listText (PyData.shownAll ds)).length ≤ sizeLine := by simpa only [PyData.shown] using hlen
      obtain ⟨as, bs, r1, p, k⟩ := DqAll.shows I ds _ its t rv (by simpa [PyData.showable] using hs) fun y hy => Nat.le_trans (listText_mem_le hy) fits
      have rd := Reads.list ho hc hdt r1
      have off := not_mem_of_deeper rd (by simp only [PyData.depth]; omega) p
      simp only [PyData.depth] at hdep
      refine call_repr_slot (by omega) ⟨o, ho, hc⟩ F.slot_list_repr.toG ?_
      have fin : ∀ (h' : Heap) (u : Tok) (tk : Nat), (∀ b o, s.heap.get? b = some o → h'.get? b = some o) → ∃ x t, Value.str (PyData.list ds).shown u = Value.str x t ∧ EP X pins σ Q (Value.str (PyData.list ds).shown u) { s with heap := h', toks := tk } := fun h' u tk k => ⟨_, _, rfl, V.str _, H, I.kept k, ⟨_, rfl⟩, q⟩
      simp only [PyData.shown] at fin
      cases its with
      | nil =>
        cases r1
        simp only [PyData.shownAll, listText_nil] at fin
        exact call_list_repr_empty ⟨o, ho, hc⟩ ho hdt (fin s.heap _ _ fun _ _ e => e)
      | cons y ys =>
        exact call_list_reprK ho hc hdt off (by simpa using k.length_eq) (fun i z e => k.item i z (by simpa using e)) hg (fun b _ => Clear.nil b) (by show X.A.units + 1 + _ < cLine; omega) (fun _ _ e => e) (fun h' u tk k => fin h' u tk k) fits
  | tuple ds =>
    obtain ⟨u, rfl, rx⟩ := vals1 r
    cases hd with
    | tup e t =>
      cases rx
      obtain ⟨its, rv, ⟨o, ho, hc, n, hdt⟩, _⟩ := I.tuple e
      have fits : (tupleText (PyData.shownAll ds)).length ≤ sizeLine := by simpa only [PyData.shown] using hlen
      obtain ⟨as, bs, r1, p, k⟩ := DqAll.shows I ds _ its t rv (by simpa [PyData.showable] using hs) fun y hy => Nat.le_trans (tupleText_mem_le hy) fits
      have rd := Reads.tuple ho hc hdt r1
      have off := not_mem_of_deeper rd (by simp only [PyData.depth]; omega) p
      simp only [PyData.depth] at hdep
      refine call_repr_slot (by omega) ⟨o, ho, hc⟩ F.slot_tuple_repr ?_
      have fin : ∀ (h' : Heap) (u : Tok) (tk : Nat), (∀ b o, s.heap.get? b = some o → h'.get? b = some o) → ∃ x t, Value.str (PyData.tuple ds).shown u = Value.str x t ∧ EP X pins σ Q (Value.str (PyData.tuple ds).shown u) { s with heap := h', toks := tk } := fun h' u tk k => ⟨_, _, rfl, V.str _, H, I.kept k, ⟨_, rfl⟩, q⟩
      simp only [PyData.shown] at fin
      exact call_tuple_reprK ho hc hdt off k hg (fun b _ => Clear.nil b) (by show X.A.units + 1 + _ < cLine; omega) (fun _ _ e => e) (fun h' u tk k => fin h' u tk k) fits
  | dict kvs =>
    cases hd with
    | dct e n1 n2 => exact call_repr0 hg hu pins s σ H [.ref _] us Q I r ⟨_, _, m, l, rfl, .dct e n1 n2, rfl, hs, hdep, hlen, q⟩
  | none => exact call_repr0 hg hu pins s σ H [x] us Q I r ⟨x, _, m, l, rfl, hd, by simp [plainD, PyData.hasDict], hs, hdep, hlen, q⟩
  | bool b => exact call_repr0 hg hu pins s σ H [x] us Q I r ⟨x, _, m, l, rfl, hd, by simp [plainD, PyData.hasDict], hs, hdep, hlen, q⟩
  | int i => exact call_repr0 hg hu pins s σ H [x] us Q I r ⟨x, _, m, l, rfl, hd, by simp [plainD, PyData.hasDict], hs, hdep, hlen, q⟩
  | str y => exact call_repr0 hg hu pins s σ H [x] us Q I r ⟨x, _, m, l, rfl, hd, by simp [plainD, PyData.hasDict], hs, hdep, hlen, q⟩
end Ms
namespace Ms
open PySem PySem.Spec PyProof.Rows L2
/-! ### data of bounded size -/
mutual
/-- ints within B, signs that are code points, dicts that are empty -/
def okD (B : Nat) : PyData → Bool
  | .none | .bool _ => true
  | .int i => decide (i.natAbs ≤ B)
  | .str x => x.cps.toList.all fun c => decide (c < 0x110000)
  | .list xs | .tuple xs => okAll B xs
  | .dict kvs => kvs.isEmpty
def okAll (B : Nat) : List PyData → Bool
  | [] => true
  | x :: xs => okD B x && okAll B xs
end
theorem okAll_iff {B : Nat} : ∀ {xs : List PyData}, okAll B xs = true ↔ ∀ x ∈ xs, okD B x = true
  | [] => by simp [okAll]
  | x :: xs => by simp [okAll, okAll_iff (xs := xs)]
mutual
theorem okD_mono {B C : Nat} (h : B ≤ C) : ∀ d : PyData, okD B d = true → okD C d = true
  | .none, _ => rfl
  | .bool _, _ => rfl
  | .int i, e => by simp only [okD, decide_eq_true_eq] at e ⊢; omega
  | .str x, e => by simpa only [okD] using e
  | .list xs, e => by simp only [okD] at e ⊢; exact okAll_mono h xs e
  | .tuple xs, e => by simp only [okD] at e ⊢; exact okAll_mono h xs e
  | .dict kvs, e => by simpa only [okD] using e
theorem okAll_mono {B C : Nat} (h : B ≤ C) : ∀ xs : List PyData, okAll B xs = true → okAll C xs = true
  | [], _ => rfl
  | x :: xs, e => by
    simp only [okAll, Bool.and_eq_true] at e ⊢
    exact ⟨okD_mono h x e.1, okAll_mono h xs e.2⟩
end
theorem log_small {i : Int} (h : i.natAbs ≤ 10 ^ 31) : i.natAbs.log2 < 1920 := by
  by_cases z : i.natAbs = 0
  · rw [z]; decide
  · have h1 : i.natAbs < 2 ^ 103 := by
      have e : (10 : Nat) ^ 31 < 2 ^ 103 := by decide
      omega
    have := (Nat.log2_lt z).mpr h1
    omega
theorem int_short {i : Int} (h : i.natAbs ≤ 10 ^ 31) : (PyData.shown (.int i)).length ≤ 64 := by
  have e := int_text_length_le10 (k := 32) (by decide) (show i.natAbs < 10 ^ 32 by
    have z : (10 : Nat) ^ 31 < 10 ^ 32 := by decide
    omega)
  show (Str.ofString (toString i)).length ≤ 64
  rw [PySem.ofString_length]
  omega
mutual
theorem ok_shows : ∀ d : PyData, okD (10 ^ 31) d = true → d.showable = true ∧ d.leavesShort 64 = true
  | .none, _ => ⟨rfl, rfl⟩
  | .bool _, _ => ⟨rfl, rfl⟩
  | .int i, e => by
    simp only [okD, decide_eq_true_eq] at e
    simp only [PyData.showable, PyData.leavesShort, decide_eq_true_eq]
    exact ⟨log_small e, int_short e⟩
  | .str x, e => by
    simp only [okD, List.all_eq_true, decide_eq_true_eq] at e
    refine ⟨rfl, ?_⟩
    simp only [PyData.leavesShort, List.all_eq_true, decide_eq_true_eq]
    intro c hc
    have := e c hc
    have z : (0x110000 : Nat) < 16 ^ 8 := by decide
    omega
  | .list xs, e => by
    simp only [okD] at e
    simp only [PyData.showable, PyData.leavesShort]
    exact okAll_shows xs e
  | .tuple xs, e => by
    simp only [okD] at e
    simp only [PyData.showable, PyData.leavesShort]
    exact okAll_shows xs e
  | .dict [], _ => ⟨rfl, rfl⟩
  | .dict (a :: b), e => by simp [okD] at e
theorem okAll_shows : ∀ xs : List PyData, okAll (10 ^ 31) xs = true → PyData.showableAll xs = true ∧ PyData.leavesShortAll 64 xs = true
  | [], _ => ⟨rfl, rfl⟩
  | x :: xs, e => by
    simp only [okAll, Bool.and_eq_true] at e
    obtain ⟨h1, h2⟩ := ok_shows x e.1
    obtain ⟨h3, h4⟩ := okAll_shows xs e.2
    simp only [PyData.showableAll, PyData.leavesShortAll, h1, h2, h3, h4, Bool.and_self, and_self]
end
/-- data within B, of weight at most a, of depth at most b -/
structure Gd (B a b : Nat) (d : PyData) : Prop where
  ok : okD B d = true
  wt : d.weight ≤ a
  dp : d.depth ≤ b
theorem Gd.mono {B a b B' a' b' : Nat} {d : PyData} (g : Gd B a b d) (h1 : B ≤ B') (h2 : a ≤ a') (h3 : b ≤ b') : Gd B' a' b' d := ⟨okD_mono h1 d g.ok, Nat.le_trans g.wt h2, Nat.le_trans g.dp h3⟩
theorem Gd.shown {a b : Nat} {d : PyData} (g : Gd (10 ^ 31) a b d) (ha : a ≤ 200000) : d.showable = true ∧ d.shown.length ≤ sizeLine := by
  obtain ⟨h1, h2⟩ := ok_shows d g.ok
  refine ⟨h1, ?_⟩
  have h := PyData.shown_le 64 (by decide) d h2
  have w := g.wt
  rw [sizeLine_eq]
  omega
end Ms
namespace Ms
open PySem PySem.Spec PyProof.Rows L2
/-! ### the machine of draws: a dict with the cells, what is left of the great ones, and a count -/
def kvM (c l : Addr) (n : Int) : List (Key × V) := [(.inr "cells", .ref c), (.inr "left", .ref l), (.inr "at", .int n)]
structure Mch (H : Hp) (m l : Addr) (n : Nat) : Prop where
  ex : ∃ (c : Addr) (cs ls : List Int) (z : Int), H m = some (.dK (kvM c l z)) ∧ H c = some (.lst (cs.map V.int)) ∧ H l = some (.lst (ls.map V.int)) ∧ c ≠ l ∧ 0 ≤ z ∧ z ≤ (n : Int) ∧ cs.length ≤ 63 ∧ ls.length ≤ 63
/-- behind a step: all but the machine's own dict and list stand as before -/
structure Fr (m l l' : Addr) (H H' : Hp) : Prop where
  keep : ∀ b o, H b = some o → b ≠ m → b ≠ l → H' b = some o
  new : l' = l ∨ H l' = none
  dom : ∀ b, H b ≠ none → H' b ≠ none
theorem Mch.mm {H : Hp} {m l : Addr} {n : Nat} (M : Mch H m l n) : H m ≠ none := by
  obtain ⟨c, cs, ls, z, h, _⟩ := M.ex
  rw [h]; exact fun z => nomatch z
theorem Fr.refl {m l : Addr} {H : Hp} {n : Nat} (M : Mch H m l n) : Fr m l l H H := ⟨fun _ _ e _ _ => e, .inl rfl, fun _ h => h⟩
theorem upd_dom {H : Hp} {p b : Addr} {o : HO} (h : H b ≠ none) : (upd H p o) b ≠ none := by
  by_cases e : b = p
  · rw [e, upd_same]; exact fun z => nomatch z
  · rw [upd_ne e]; exact h
theorem Fr.free {m l l' p : Addr} {H H' : Hp} (f : Fr m l l' H H') (hp : H' p = none) : H p = none := by
  cases q : H p with
  | none => rfl
  | some o => exact absurd hp (f.dom p (by rw [q]; exact fun z => nomatch z))
theorem Fr.trans {m l l' l'' : Addr} {H H' H'' : Hp} (f : Fr m l l' H H') (g : Fr m l' l'' H' H'') : Fr m l l'' H H'' := by
  have hl : ∀ b o, H b = some o → b ≠ m → b ≠ l → b ≠ l' := fun b o e hm hl => by
    rcases f.new with z | z
    · rw [z]; exact hl
    · exact ne_of_none e z
  refine ⟨fun b o e hm hb => g.keep b o (f.keep b o e hm hb) hm (hl b o e hm hb), ?_, fun b h => g.dom b (f.dom b h)⟩
  rcases g.new with z | z
  · rw [z]; exact f.new
  · exact .inr (f.free z)
theorem Mch.mono {H : Hp} {m l : Addr} {n k : Nat} (M : Mch H m l n) (h : n ≤ k) : Mch H m l k := by
  obtain ⟨c, cs, ls, z, h1, h2, h3, h4, h5, h6, h7⟩ := M.ex
  exact ⟨c, cs, ls, z, h1, h2, h3, h4, h5, by omega, h7⟩
def spBegun (K : PySem.W.Frag) : Sp := fun vs H Q _ => ∃ (a : Addr) (ns : List Int), vs = [.ref a] ∧ SqL K H a (ns.map V.int) ∧ ns.length ≤ 63 ∧
  ∀ (m l : Addr) (H' : Hp), H m = none → H l = none → Same H H' → Mch H' m l 0 → Q (.ref m) H'
structure Txt (mg : Str → Option Value) : Prop where
  list : mg "list" = none
  len : mg "len" = none
  int : mg "int" = none
section
variable {P : Program} {w : World} {K : PySem.W.Frag} {mg : Str → Option Value} {base : Heap}
/-! ### _law_next -/
structure MS (H : Hp) (m c l : Addr) (cs ls : List Int) (z : Int) : Prop where
  dm : H m = some (.dK (kvM c l z))
  dc : H c = some (.lst (cs.map V.int))
  dl : H l = some (.lst (ls.map V.int))
  ne : c ≠ l
theorem MS.junk {H : Hp} {m c l p : Addr} {cs ls : List Int} {z : Int} {o : HO} (S : MS H m c l cs ls z) (hp : H p = none) : MS (upd H p o) m c l cs ls z :=
  ⟨by rw [upd_ne (ne_of_none S.dm hp)]; exact S.dm, by rw [upd_ne (ne_of_none S.dc hp)]; exact S.dc, by rw [upd_ne (ne_of_none S.dl hp)]; exact S.dl, S.ne⟩
theorem Fr.junk {m l l' p : Addr} {H H' : Hp} {o : HO} (f : Fr m l l' H H') (hp : H' p = none) : Fr m l l' H (upd H' p o) := by
  refine ⟨fun b o e h1 h2 => ?_, f.new, fun b h => upd_dom (f.dom b h)⟩
  have q := f.keep b o e h1 h2
  rw [upd_ne (ne_of_none q hp)]; exact q
theorem MS.left {H : Hp} {m c l : Addr} {cs ls : List Int} {z : Int} (S : MS H m c l cs ls z) : DGet H m (.str "left") (some (.ref l)) := by
  have e : valV (kvM c l z) (.inr "left" : Key) = some (.ref l) := by unfold valV kvM; rfl
  rw [← e]; exact DGet.k (k := Sum.inr "left") S.dm
theorem MS.cells {H : Hp} {m c l : Addr} {cs ls : List Int} {z : Int} (S : MS H m c l cs ls z) : DGet H m (.str "cells") (some (.ref c)) := by
  have e : valV (kvM c l z) (.inr "cells" : Key) = some (.ref c) := by unfold valV kvM; rfl
  rw [← e]; exact DGet.k (k := Sum.inr "cells") S.dm
theorem MS.at {H : Hp} {m c l : Addr} {cs ls : List Int} {z : Int} (S : MS H m c l cs ls z) : DGet H m (.str "at") (some (.int z)) := by
  have e : valV (kvM c l z) (.inr "at" : Key) = some (.int z) := by unfold valV kvM; rfl
  rw [← e]; exact DGet.k (k := Sum.inr "at") S.dm
theorem put_left (c l l' : Addr) (z : Int) : putK (kvM c l z) (.inr "left" : Key) (.ref l') = kvM c l' z := by unfold putK kvM; rfl
theorem put_at (c l : Addr) (z z' : Int) : putK (kvM c l z) (.inr "at" : Key) (.int z') = kvM c l z' := by unfold putK kvM; rfl
theorem dpAll_ints {K : PySem.W.Frag} {H : Hp} : ∀ ns : List Int, DpAll K H (ns.map V.int) (ns.map PyData.int)
  | [] => .nil
  | n :: ns => .cons (.int n) (dpAll_ints ns)
theorem lay_ints : ∀ ns : List Int, PyData.canLayAll0 (ns.map PyData.int) = true
  | [] => rfl
  | n :: ns => by
    show (PyData.canLay0 (.int n) && PyData.canLayAll0 (ns.map PyData.int)) = true
    rw [lay_ints ns]; rfl
theorem depth_ints : ∀ ns : List Int, PyData.depthAll (ns.map PyData.int) = 0
  | [] => rfl
  | n :: ns => by
    show max (PyData.depth (.int n)) (PyData.depthAll (ns.map PyData.int)) = 0
    rw [depth_ints ns]; rfl
theorem shaped_ints (ns : List Int) : SeqAt.shaped (.list (ns.map PyData.int)) = true := by
  show (PyData.canLayAll0 (ns.map PyData.int) && decide (PyData.depthAll (ns.map PyData.int) + 1 ≤ 64)) = true
  rw [lay_ints, depth_ints]; rfl
theorem ifF {c : Bool} {A B : Prop} (hc : c = false) (h : B) : if c = true then A else B := by rw [hc, if_neg Bool.false_ne_true]; exact h
theorem ifT {c : Bool} {A B : Prop} (hc : c = true) (h : A) : if c = true then A else B := by rw [if_pos hc]; exact h
theorem cut1 (y : Int) (ys : List Int) : cutV ((y :: ys).map V.int) (some 1) none = ys.map V.int := by
  unfold cutV
  have e1 : HT.sIx ((y :: ys).map V.int).length 0 (some (1 : Int)) = 1 := by
    show HT.sIx _ 0 (some ((1 : Nat) : Int)) = 1
    rw [HT.sIx_nat]
    simp
  have e2 : HT.sIx ((y :: ys).map V.int).length ((y :: ys).map V.int).length none = (y :: ys).length := by
    show ((y :: ys).map V.int).length = _
    rw [List.length_map]
  rw [e1, e2]
  simp only [List.map_cons, List.drop_succ_cons, List.drop_zero, List.length_cons, Nat.add_sub_cancel]
  exact List.take_of_length_le (by simp)
theorem MS.fresh {H : Hp} {m c l p : Addr} {cs ls : List Int} {z : Int} (S : MS H m c l cs ls z) (hp : H p = none) : p ≠ m ∧ p ≠ c ∧ p ≠ l :=
  ⟨(fun e => by rw [e, S.dm] at hp; cases hp), (fun e => by rw [e, S.dc] at hp; cases hp), (fun e => by rw [e, S.dl] at hp; cases hp)⟩
theorem MS.mc {H : Hp} {m c l : Addr} {cs ls : List Int} {z : Int} (S : MS H m c l cs ls z) : m ≠ c := ne_of S.dm S.dc (by intro q; cases q)
theorem MS.ml {H : Hp} {m c l : Addr} {cs ls : List Int} {z : Int} (S : MS H m c l cs ls z) : m ≠ l := ne_of S.dm S.dl (by intro q; cases q)
/-- a new list is put as what is left -/
theorem MS.putL {H : Hp} {m c l p : Addr} {cs ls ls' : List Int} {z : Int} (S : MS H m c l cs ls z) (hp : H p = none) :
    MS (upd (upd H p (.lst (ls'.map V.int))) m (.dK (putK (kvM c l z) (.inr "left" : Key) (.ref p)))) m c p cs ls' z := by
  obtain ⟨n1, n2, n3⟩ := S.fresh hp
  refine ⟨by rw [upd_same, put_left], ?_, ?_, n2.symm⟩
  · rw [upd_ne S.mc.symm, upd_ne n2.symm]; exact S.dc
  · rw [upd_ne n1, upd_same]
theorem Fr.putM {m l l' p : Addr} {H H' : Hp} {o o' : HO} (f : Fr m l l' H H') (hp : H' p = none) : Fr m l p H (upd (upd H' p o) m o') := by
  refine ⟨fun b o e h1 h2 => ?_, .inr (f.free hp), fun b h => upd_dom (upd_dom (f.dom b h))⟩
  have q := f.keep b o e h1 h2
  rw [upd_ne h1, upd_ne (ne_of_none q hp)]; exact q
theorem MS.putA {H : Hp} {m c l : Addr} {cs ls : List Int} {z z' : Int} (S : MS H m c l cs ls z) :
    MS (upd H m (.dK (putK (kvM c l z) (.inr "at" : Key) (.int z')))) m c l cs ls z' :=
  ⟨by rw [upd_same, put_at], by rw [upd_ne S.mc.symm]; exact S.dc, by rw [upd_ne S.ml.symm]; exact S.dl, S.ne⟩
theorem Fr.putA {m l l' : Addr} {H H' : Hp} {o : HO} (f : Fr m l l' H H') : Fr m l l' H (upd H' m o) :=
  ⟨fun b o e h1 h2 => by rw [upd_ne h1]; exact f.keep b o e h1 h2, f.new, fun b h => upd_dom (f.dom b h)⟩
theorem MS.setL {H : Hp} {m c l : Addr} {cs ls ls' : List Int} {z : Int} (S : MS H m c l cs ls z) : MS (upd H l (.lst (ls'.map V.int))) m c l cs ls' z :=
  ⟨by rw [upd_ne S.ml]; exact S.dm, by rw [upd_ne S.ne]; exact S.dc, upd_same, S.ne⟩
theorem Fr.setL {m l l' : Addr} {H H' : Hp} {o : HO} (f : Fr m l l' H H') : Fr m l l' H (upd H' l' o) := by
  refine ⟨fun b o e h1 h2 => ?_, f.new, fun b h => upd_dom (f.dom b h)⟩
  have nb : b ≠ l' := by
    rcases f.new with q | q
    · rw [q]; exact h2
    · exact ne_of_none e q
  rw [upd_ne nb]; exact f.keep b o e h1 h2
theorem MS.mch {H : Hp} {m c l : Addr} {cs ls : List Int} {z : Int} {n : Nat} (S : MS H m c l cs ls z) (h1 : 0 ≤ z) (h2 : z ≤ (n : Int)) (h3 : cs.length ≤ 63) (h4 : ls.length ≤ 63) : Mch H m l n :=
  ⟨c, cs, ls, z, S.dm, S.dc, S.dl, S.ne, h1, h2, h3, h4⟩
def spNext : Sp := fun vs H Q _ => ∃ (m l : Addr) (n : Nat) (k : Int), vs = [.ref m, .int k] ∧ Mch H m l n ∧ n < 1000000 ∧ 0 < k ∧ k < 1000000 ∧
  ∀ (r : Int) (l' : Addr) (H' : Hp), 0 ≤ r → r < k → Mch H' m l' (n + 1) → Fr m l l' H H' → Q (.int r) H'
end
/-! ### growth of the heap -/
theorem Same.upd {H : Hp} {p : Addr} {o : HO} (h : H p = none) : Same H (upd H p o) := fun b q e => by rw [upd_ne (ne_of_none e h)]; exact e
theorem Mch.same {H H' : Hp} {m l : Addr} {n : Nat} (s : Same H H') (M : Mch H m l n) : Mch H' m l n := by
  obtain ⟨c, cs, ls, z, h1, h2, h3, h⟩ := M.ex
  exact ⟨c, cs, ls, z, s _ _ h1, s _ _ h2, s _ _ h3, h⟩
theorem Mch.kept {H H' : Hp} {m l : Addr} {n : Nat} (M : Mch H m l n) (s : Same H H') : Kept m l l H H' := by
  obtain ⟨c, cs, ls, z, h1, h2, h3, h⟩ := M.ex
  exact ⟨fun b o e _ _ => s b o e, fun _ _ _ h => h, ⟨_, h1⟩, ⟨_, h3⟩⟩
theorem Mch.step {H H' : Hp} {m l l' : Addr} {n : Nat} (M : Mch H m l n) (f : Fr m l l' H H') : Kept m l l' H H' := by
  obtain ⟨c, cs, ls, z, h1, h2, h3, h⟩ := M.ex
  refine ⟨f.keep, fun b o e hb => ?_, ⟨_, h1⟩, ⟨_, h3⟩⟩
  rcases f.new with q | q
  · rw [q]; exact hb
  · exact ne_of_none e q
theorem Mch.ne {H : Hp} {m l p : Addr} {n : Nat} (M : Mch H m l n) (h : H p = none) : p ≠ m ∧ p ≠ l := by
  obtain ⟨c, cs, ls, z, h1, h2, h3, _⟩ := M.ex
  exact ⟨(fun e => by rw [e, h1] at h; cases h), (fun e => by rw [e, h3] at h; cases h)⟩
/-- a fresh list, and one behind it -/
theorem Fr.lead {H0 H H' : Hp} {m l l' : Addr} (s : Same H0 H) (f : Fr m l l' H H') : Fr m l l' H0 H' := by
  have d : ∀ b, H0 b ≠ none → H b ≠ none := fun b h => by
    cases q : H0 b with
    | none => exact absurd q h
    | some o => rw [s b o q]; exact fun z => nomatch z
  refine ⟨fun b o e h1 h2 => f.keep b o (s b o e) h1 h2, ?_, fun b h => f.dom b (d b h)⟩
  rcases f.new with q | q
  · exact .inl q
  · exact .inr (Same.free s q)
theorem DqAll.get {K : PySem.W.Frag} {H : Hp} {m l : Addr} : ∀ {ds : List PyData} {vs : List V} {i : Nat} {v : V}, DqAll K H m l vs ds → vs[i]? = some v → ∃ d, ds[i]? = some d ∧ Dq K H m l v d
  | [], _, i, v, h, e => by cases h; simp at e
  | d :: ds, _, 0, v, h, e => by
    cases h with
    | cons h1 h2 => simp at e; subst e; exact ⟨d, rfl, h1⟩
  | d :: ds, _, i + 1, v, h, e => by
    cases h with
    | cons h1 h2 => exact DqAll.get (i := i) h2 (by simpa using e)
end Ms
namespace Ms
open PySem PySem.Spec PyProof.Rows L2
def top (i : Nat) : Stmt := PySem.Challenge.pw_midswitch_k56_whole_any_request_text.main.body.getD i (.Pass ⟨0, 0, 0, 0⟩)
abbrev sIni : Stmt := inClass (top 3) 0
abbrev sIniP : Stmt := inClass (top 4) 0
abbrev sIniM : Stmt := inClass (top 5) 0
abbrev sIniX : Stmt := inClass (top 6) 0
abbrev sIniT : Stmt := inClass (top 7) 0
abbrev sPInt : Stmt := top 13
abbrev sPName : Stmt := top 14
abbrev sPSet : Stmt := top 15
abbrev sNeed : Stmt := top 16
abbrev sPNames : Stmt := top 17
abbrev sPOrder : Stmt := top 18
abbrev sPGrid : Stmt := top 19
abbrev sReqIni : Stmt := inClass (top 24) 0
abbrev sNPlaces : Stmt := top 25
abbrev sPPlace : Stmt := top 26
abbrev sPAsk : Stmt := top 27
abbrev sPNum : Stmt := top 28
abbrev sNModes : Stmt := top 29
abbrev sPMode : Stmt := top 30
abbrev sPJoined : Stmt := top 31
abbrev sPNwe : Stmt := top 32
abbrev sPRen : Stmt := top 33
abbrev sRead : Stmt := top 36
abbrev sLines : Stmt := top 37
abbrev sFig : Stmt := top 38
abbrev sMLine : Stmt := top 39
abbrev sNums : Stmt := top 40
abbrev sPIn : Stmt := top 41
abbrev sNWord : Stmt := top 42
abbrev sBegun : Stmt := top 44
abbrev sNext : Stmt := top 45
abbrev sNames : Stmt := top 46
abbrev sIsWhole : Stmt := top 47
abbrev sIsName : Stmt := top 48
abbrev sSettings : Stmt := top 49
abbrev sPlaces : Stmt := top 50
abbrev sModes : Stmt := top 51
abbrev sRLines : Stmt := top 54
abbrev sPlaceIn : Stmt := top 55
abbrev sRequestIn : Stmt := top 56
abbrev sCaught : Stmt := top 57
abbrev sBentT : Stmt := top 58
abbrev sShown : Stmt := top 59
abbrev sLaw : Stmt := top 60
abbrev sReqLen : Stmt := inClass (top 24) 1
abbrev sReqEq : Stmt := inClass (top 24) 2
abbrev sReqAdd : Stmt := inClass (top 24) 3
abbrev sReqKeep : Stmt := inClass (top 24) 4
abbrev sReqWith : Stmt := inClass (top 24) 5
abbrev sReqStr : Stmt := inClass (top 24) 6
abbrev sReqPlain : Stmt := inClass (top 24) 7
end Ms
namespace Ms
open PySem PySem.Spec PyProof.Rows L2
section
variable {P : Program} {w : World} {K : PySem.W.Frag} {mg : Str → Option Value} {base : Heap}
theorem scB : FnScope ["script", "cell"] ["script"] (defScope sBegun) := ⟨rfl, rfl, rfl, by decide +kernel, rfl, by decide +kernel, by decide +kernel⟩
theorem ok_begun {f : Addr} {fd : FuncData} (F : Fun K "_law_begun" "_law_begun" sBegun f fd) (T : Txt mg) : FnOk P w K mg base CX0 1 f fd ["script"] (spBegun K) := by
  refine F.ok scB (fun vs H Q E h => ?_) (fun cdv A outer s H vs Q E hr h => ?_)
  · obtain ⟨a, ns, rfl, _⟩ := h
    rfl
  · obtain ⟨a, ns, rfl, hS, hlen, k⟩ := h
    have hu := hu_of hr
    refine ⟨_, pss_one (ps_ret (pe_disp (pps_cons pe_str (pe_callTy call_list_of (by rfl) T.list (by decide +kernel) (pa_cons (pv 0) pa_nil))
      (pps_cons pe_str (pe_lc (own := [("cell", 1)]) (g := gName 1) (by rfl) scB.nd (pi_list (pv 0)) (blkOk_by (own := [("cell", 1)]) (N := ["script", "cell"]) (sc := defScope sBegun) (by decide +kernel))
        (fun _ _ _ _ _ => pg_name (i := 1) scB.nd rfl (Or.inl rfl)) (fun _ _ _ _ _ => pts_one (pt_cmpR op_ge (pv 1) (pe_op op_pow pe_int pe_int) (nomark _))) (fun _ _ _ _ _ => pv 1))
      (pps_cons pe_str pe_int pps_nil))) (by rfl) (by rfl) (fun z => by cases z) (by decide))), ?_⟩
    intro m hm
    have s0 : Same H (upd H m (.dK [])) := fun b o e => by rw [upd_ne (ne_of_none e hm)]; exact e
    refine ⟨_, rfl, a, _, rfl, .inl (s0.seq hS), fun c hc => ?_⟩
    have ncm : c ≠ m := fun z => by rw [z, upd_same] at hc; cases hc
    have hc0 : H c = none := by rw [upd_ne ncm] at hc; exact hc
    have s1 : Same H (upd (upd H m (.dK [])) c (.lst (ns.map V.int))) := fun b o e => by rw [upd_ne (ne_of_none e hc0)]; exact s0 b o e
    refine ⟨_, rfl, a, rfl, ⟨_, s1.seq hS⟩, fun l hl => ?_⟩
    have nlc : l ≠ c := fun z => by rw [z, upd_same] at hl; cases hl
    have hl1 : (upd H m (.dK [])) l = none := by rw [upd_ne nlc] at hl; exact hl
    have nlm : l ≠ m := fun z => by rw [z, upd_same] at hl1; cases hl1
    have hl0 : H l = none := by rw [upd_ne nlm] at hl1; exact hl1
    refine lc_list (K := K) (a := a) (xs := ns.map V.int) (fun i H2 => ∃ ls : List Int, ls.length ≤ i ∧ H2 = upd (upd (upd H m (.dK [])) c (.lst (ns.map V.int))) l (.lst (ls.map V.int))) ⟨[], Nat.le_refl _, rfl⟩ (fun i H2 _ ⟨ls, _, e⟩ => ?_) ?_ ?_
    · have s2 : Same H H2 := fun b o q => by rw [e, upd_ne (ne_of_none q hl0)]; exact s1 b o q
      exact s2.seq hS
    · rintro i x H2 hi ⟨ls, hls, e⟩
      obtain ⟨z, rfl⟩ : ∃ z, x = V.int z := by
        rw [List.getElem?_map] at hi
        cases q : ns[i]? with
        | none => rw [q] at hi; cases hi
        | some z => rw [q] at hi; exact ⟨z, (Option.some.inj hi).symm⟩
      have hil : i < ns.length := by
        have q := (List.getElem?_eq_some_iff.mp hi).1
        rw [List.length_map] at q
        exact q
      refine ⟨rfl, _, rfl, _, _, rfl, rfl, ⟨by decide, by decide, by decide⟩, _, _, rfl, rfl, _, rfl, ?_⟩
      refine ite2 (fun _ => ?_) (fun _ => ?_)
      · refine ⟨_, rfl, ls.map V.int, by rw [e]; exact upd_same, small1000 (by rw [List.length_map]; omega), ls ++ [z], ?_, ?_⟩
        · rw [List.length_append, List.length_singleton]; omega
        · rw [e, upd_upd, List.map_append]; rfl
      · exact ⟨ls, by omega, e⟩
    · rintro H2 ⟨ls, hls, e⟩
      rw [List.length_map] at hls
      refine ⟨?_, [(.inr "cells", .ref c), (.inr "left", .ref l), (.inr "at", .int 0)], rfl, (by show 3 ≤ 15; decide), ?_⟩
      · rw [e, upd_ne nlm.symm, upd_ne ncm.symm, upd_same]
      · refine k m l _ hm hl0 (fun b o q => ?_) ⟨c, ns, ls, 0, ?_, ?_, ?_, nlc.symm, Int.le_refl _, Int.le_refl _, hlen, by omega⟩
        · rw [upd_ne (ne_of_none q hm), e, upd_ne (ne_of_none q hl0)]; exact s1 b o q
        · rw [upd_same]; rfl
        · rw [upd_ne ncm, e, upd_ne nlc.symm, upd_same]
        · rw [upd_ne nlm, e, upd_same]

theorem scN : FnScope ["m", "many", "rest", "at", "lot", "cell", "blend"] ["m", "many"] (defScope sNext) := ⟨rfl, rfl, rfl, by decide +kernel, rfl, by decide +kernel, by decide +kernel⟩
set_option maxHeartbeats 4000000 in
theorem ok_next {f : Addr} {fd : FuncData} (F : Fun K "_law_next" "_law_next" sNext f fd) (T : Txt mg) : FnOk P w K mg base CX0 1 f fd ["m", "many"] spNext := by
  refine F.ok scN (fun vs H Q E h => ?_) (fun cdv A outer s H vs Q E hr h => ?_)
  · obtain ⟨m, l, n, k, rfl, _⟩ := h
    rfl
  · obtain ⟨m, l, n, k, rfl, M, hn, hk, hk2, q⟩ := h
    have hu := hu_of hr
    refine ⟨_, pss_cons (ps_while PassesOwn.never (PW.pt (pw_and (pt_cmpR (op_neD hr.units) (pe_dget hu (pv 0) pe_str (fun _ _ => rfl)) (pe_lst pa_nil) (nomark _))
          (pw_and1 (pt_cmpR op_eq (pe_ix ix_list (pe_dget hu (pv 0) pe_str (fun _ _ => rfl)) pe_int (fun _ _ => rfl)) pe_int (nomark _)))))
        (pss_one (ps_dput hu (pv 0) pe_str (pe_slice sl_list (pe_dget hu (pv 0) pe_str (fun _ _ => rfl)) (po_some pe_int) po_none) rfl)))
      (pss_cons (ps_if (pt_cmpR (op_neD hr.units) (pe_dget hu (pv 0) pe_str (fun _ _ => rfl)) (pe_lst pa_nil) (nomark _))
        (pss_cons (ps_set (i := 2) scN.nd rfl (Or.inl rfl) (pe_ix ix_list (pe_dget hu (pv 0) pe_str (fun _ _ => rfl)) pe_int (fun _ _ => rfl)))
          (pss_cons (ps_asg (pe_op op_fdiv (pv 2) (pv 1)) (pg_sub (pe_dget hu (pv 0) pe_str (fun _ _ => rfl)) pe_int set_list))
          (pss_one (ps_ret (pe_op op_mod (pe_callTy call_int1 (by rfl) T.int (by decide +kernel) (pa_cons (pv 2) pa_nil)) (pv 1))))))
        pss_nil)
      (pss_cons (ps_par (i := 3) (j := 4) (by rfl) scN.nd rfl rfl (by decide) rfl rfl (pa_cons (pe_op op_add (pe_dget hu (pv 0) pe_str (fun _ _ => rfl)) pe_int) (pa_cons (pe_dget hu (pv 0) pe_str (fun _ _ => rfl)) pa_nil)) (by rfl))
      (pss_cons (ps_dput hu (pv 0) pe_str (pv 3) rfl)
      (pss_cons (ps_set (i := 5) scN.nd rfl (Or.inl rfl) (pe_ifExp (pt_cmpR (op_neD hr.units) (pv 4) (pe_lst pa_nil) (nomark _))
        (pe_callTy call_int1 (by rfl) T.int (by decide +kernel) (pa_cons (pe_ix ix_list (pv 4) (pe_op op_mod (pe_callTy call_int1 (by rfl) T.int (by decide +kernel) (pa_cons (pe_op op_add (pe_op op_mul (pv 3) (pv 3)) (pe_op op_fdiv (pv 3) pe_int)) pa_nil))
          (pe_callB call_len_seq (by rfl) T.len PySem.boot_len (pa_cons (pv 4) pa_nil))) (fun _ _ => rfl)) pa_nil)) pe_int))
      (pss_cons (ps_set (i := 6) scN.nd rfl (Or.inl rfl) (pe_op op_mod (pe_callTy call_int1 (by rfl) T.int (by decide +kernel) (pa_cons (pe_op op_add (pe_op op_add (pe_op op_mul (pv 5) pe_int) (pe_op op_mul (pv 3) pe_int)) (pe_op op_mul (pe_op op_mul pe_int (pv 3)) (pv 3))) pa_nil)) pe_int))
      (pss_one (ps_ret (pe_op op_mod (pe_callTy call_int1 (by rfl) T.int (by decide +kernel) (pa_cons (pe_op op_fdiv (pe_op op_mod (pe_callTy call_int1 (by rfl) T.int (by decide +kernel) (pa_cons (pe_op op_add (pe_op op_mul (pv 6) pe_int) (pe_op op_mul pe_int (pv 3))) pa_nil)) pe_int) pe_int) pa_nil)) (pv 1))))))))), ?_⟩
    obtain ⟨c, cs, ls, z, h1, h2, h3, h4, h5, h6, h7, h8⟩ := M.ex
    refine (show ∀ D : Ends, (∀ l2 ls2 H3, H3 l ≠ none → ls2.length ≤ 63 → MS H3 m c l2 cs ls2 z → Fr m l l2 H H3 → D.nx [some (.ref m), some (.int k), none, none, none, none, none] H3) → tWhile _ _ D _ _ from ?_) _ ?_
    · intro D rest
      refine ⟨fun N σ H2 => σ = [some (.ref m), some (.int k), none, none, none, none, none] ∧ ∃ l2 ls, ls.length = N ∧ ls.length ≤ 63 ∧ H2 l ≠ none ∧ MS H2 m c l2 cs ls z ∧ Fr m l l2 H H2, ⟨_, rfl, l, ls, rfl, h8, (by rw [h3]; exact fun z => nomatch z), ⟨h1, h2, h3, h4⟩, Fr.refl M⟩, ?_⟩
      rintro N σ H2 ⟨rfl, l2, ls2, rfl, hz, hl2, S, f⟩
      refine ⟨_, rfl, m, .ref l2, rfl, S.left, Nat.zero_le _, fun p hp => ?_⟩
      have S' := S.junk (o := .lst []) hp
      have f' := f.junk (o := .lst []) hp
      have nz : ∀ {H2 : Hp} {p : Addr}, H2 l ≠ none → ∀ o, (upd H2 p o) l ≠ none := fun {H2 p} hl2 o => by
        by_cases e : l = p
        · rw [e, upd_same]; exact fun z => nomatch z
        · rw [upd_ne e]; exact hl2
      refine ⟨.list (ls2.map PyData.int), .list [], .lst (SqL.of S'.dl) (dpAll_ints _), .lst (SqL.of upd_same) .nil, shaped_ints _, rfl, _, rfl, ?_⟩
      cases ls2 with
      | nil =>
        refine ifF rfl ?_
        refine ifF rfl ?_
        exact rest l2 [] _ (nz hl2 _) hz S' f'
      | cons y ys =>
        refine ifT rfl ?_
        refine ⟨_, rfl, m, .ref l2, rfl, S'.left, l2, _, 0, .int y, rfl, rfl, SqL.of S'.dl, atI_nat (j := 0) rfl, rfl, _, rfl, ?_⟩
        refine ite2 (fun _ => ?_) (fun _ => rest l2 (y :: ys) _ (nz hl2 _) hz S' f')
        refine ⟨fun σ' H' => σ' = [some (.ref m), some (.int k), none, none, none, none, none] ∧ ∃ l2, H' l ≠ none ∧ MS H' m c l2 cs ys z ∧ Fr m l l2 H H', (fun σ' H' ⟨e, l3, g1, g2, g3⟩ => ⟨ys.length, by simp, e, l3, ys, rfl, by simp at hz; omega, g1, g2, g3⟩), ?_⟩
        refine ⟨_, rfl, m, .ref l2, rfl, S'.left, ⟨1, rfl, l2, _, rfl, SqL.of S'.dl, fun p2 hp2 => ?_⟩⟩
        rw [cut1]
        refine ⟨_, rfl, m, _, rfl, DPut.k (k := Sum.inr "left") (S'.junk hp2).dm (by show 3 < sizeLine; exact small1000 (by decide)), rfl, p2, nz (nz (nz hl2 _) _) _, S'.putL hp2, f'.putM hp2⟩
    · intro l2 ls2 H3 hl3 hz S f
      refine ⟨_, rfl, m, .ref l2, rfl, S.left, Nat.zero_le _, fun p hp => ?_⟩
      have S' := S.junk (o := .lst []) hp
      have f' := f.junk (o := .lst []) hp
      refine ⟨.list (ls2.map PyData.int), .list [], .lst (SqL.of S'.dl) (dpAll_ints _), .lst (SqL.of upd_same) .nil, shaped_ints _, rfl, _, rfl, ?_⟩
      cases ls2 with
      | cons y ys =>
        refine ifT rfl ?_
        refine ⟨_, rfl, m, .ref l2, rfl, S'.left, l2, _, 0, .int y, rfl, rfl, SqL.of S'.dl, atI_nat (j := 0) rfl, ?_⟩
        refine ⟨_, rfl, _, rfl, _, _, rfl, rfl, ⟨hk, by omega⟩, _, rfl, m, .ref l2, rfl, S'.left, l2, _, 0, 0, rfl, rfl, S'.dl, (by unfold ixN; rw [if_pos (by decide), if_pos (by simp only [List.map_cons, List.length_cons]; omega)]; rfl), ?_⟩
        refine ⟨_, rfl, .inl ⟨_, rfl, _, rfl, _, _, rfl, rfl, hk, ?_⟩⟩
        have S2 := S'.setL (ls' := (y / k) :: ys)
        exact q _ l2 _ (Int.emod_nonneg _ (by omega)) (Int.emod_lt_of_pos _ hk) (S2.mch h5 (by omega) h7 (by simpa using hz)) f'.setL
      | nil =>
        refine ifF rfl ?_
        refine ⟨_, rfl, m, .int z, rfl, S'.at, _, _, rfl, rfl, _, rfl, m, .ref c, rfl, S'.cells, _, _, rfl, ?_⟩
        refine ⟨_, rfl, _, rfl, m, _, rfl, DPut.k (k := Sum.inr "at") S'.dm (by show 3 < sizeLine; exact small1000 (by decide)), ?_⟩
        have S2 := S'.putA (z' := z + 1)
        have f2 := f'.putA (o := (.dK (putK (kvM c l2 z) (.inr "at" : Key) (.int (z + 1)))))
        refine ⟨_, rfl, Nat.zero_le _, fun p2 hp2 => ?_⟩
        have S3 := S2.junk (o := .lst []) hp2
        have f3 := f2.junk (o := .lst []) hp2
        refine ⟨.list (cs.map PyData.int), .list [], .lst (SqL.of S3.dc) (dpAll_ints _), .lst (SqL.of upd_same) .nil, shaped_ints _, rfl, _, rfl, ?_⟩
        cases cs with
        | nil =>
          refine ifF rfl ?_
          refine ⟨_, rfl, _, _, rfl, rfl, .inr ⟨by decide, by decide⟩, _, rfl, _, _, rfl, rfl, .inr ⟨by decide, by decide⟩, _, _, rfl, rfl, _, rfl, _, _, rfl, rfl, .inl ⟨by decide, by decide⟩, _, rfl, _, _, rfl, rfl, .inr ⟨by omega, by omega⟩, _, _, rfl, rfl, .inl ⟨_, rfl, _, _, rfl, rfl, (by show (0 : Int) < 2147483399; decide), ?_⟩⟩
          refine ⟨_, rfl, _, _, rfl, rfl, .inr ⟨by decide, by decide⟩, _, rfl, _, _, rfl, rfl, .inl ⟨by decide, by decide⟩, _, _, rfl, rfl, .inl ⟨_, rfl, _, _, rfl, rfl, (by show (0 : Int) < 2147483647; decide), _, _, rfl, rfl, ⟨by decide, by decide⟩, .inl ⟨_, rfl, _, rfl, _, _, rfl, rfl, hk, ?_⟩⟩⟩
          exact q _ l2 _ (Int.emod_nonneg _ (by omega)) (Int.emod_lt_of_pos _ hk) (S3.mch (by omega) (by omega) h7 (by simp)) f3
        | cons y ys =>
          refine ifT rfl ?_
          refine ⟨_, rfl, _, rfl, _, rfl, _, _, rfl, rfl, .inl ⟨by omega, by omega⟩, _, rfl, _, _, rfl, rfl, ⟨by decide, by decide⟩, _, _, rfl, rfl, .inl ⟨_, rfl, ?_⟩⟩
          have hlen : ((y :: ys).map V.int).length = ys.length + 1 := by rw [List.length_map, List.length_cons]
          refine ⟨_, rfl, c, _, rfl, .inl (SqL.of S3.dc), _, _, rfl, rfl, (by rw [hlen]; omega), ?_⟩
          generalize hg : ((z + 1) * (z + 1) + (z + 1) / 2) % ((((y :: ys).map V.int).length : Nat) : Int) = g
          have g0 : 0 ≤ g := by rw [← hg, hlen]; exact Int.emod_nonneg _ (by omega)
          have g1 : g < ((y :: ys).length : Nat) := by rw [← hg, hlen]; exact Int.emod_lt_of_pos _ (by omega)
          obtain ⟨gn, rfl⟩ : ∃ gn : Nat, g = (gn : Int) := ⟨g.toNat, by omega⟩
          obtain ⟨u, hu2⟩ : ∃ u, (y :: ys)[gn]? = some u := ⟨_, List.getElem?_eq_getElem (by omega)⟩
          refine ⟨c, _, (gn : Int), .int u, rfl, congrArg V.int hg, SqL.of S3.dc, atI_nat (by rw [List.getElem?_map, hu2]; rfl), .inl ⟨_, rfl, ?_⟩⟩
          refine ⟨_, rfl, _, _, rfl, rfl, .inr ⟨by decide, by decide⟩, _, rfl, _, _, rfl, rfl, .inr ⟨by decide, by decide⟩, _, _, rfl, rfl, _, rfl, _, _, rfl, rfl, .inl ⟨by decide, by decide⟩, _, rfl, _, _, rfl, rfl, .inr ⟨by omega, by omega⟩, _, _, rfl, rfl, .inl ⟨_, rfl, _, _, rfl, rfl, (by show (0 : Int) < 2147483399; decide), ?_⟩⟩
          refine ⟨_, rfl, _, _, rfl, rfl, .inr ⟨by decide, by decide⟩, _, rfl, _, _, rfl, rfl, .inl ⟨by decide, by decide⟩, _, _, rfl, rfl, .inl ⟨_, rfl, _, _, rfl, rfl, (by show (0 : Int) < 2147483647; decide), _, _, rfl, rfl, ⟨by decide, by decide⟩, .inl ⟨_, rfl, _, rfl, _, _, rfl, rfl, hk, ?_⟩⟩⟩
          exact q _ l2 _ (Int.emod_nonneg _ (by omega)) (Int.emod_lt_of_pos _ hk) (S3.mch (by omega) (by omega) h7 (by simp)) f3
end
end Ms
namespace Ms
open PySem PySem.Spec PyProof.Rows L2
structure TxtN (mg : Str → Option Value) (fN : Addr) : Prop extends Txt mg where
  next : mg "_law_next" = some (.ref fN)
  range : mg "range" = none
  tuple : mg "tuple" = none
  zip : mg "zip" = none
/-- s * n -/
theorem op_mul_si {X : Cx} : OpR X (binaryOp .Mult) (fun x y H Q => ∃ z i, x = .str z ∧ y = .int i ∧ PySem.MulOk z i ∧ Q (.str (Txt.mul z i)) H) := by
  intro pins s σ H x y v u Q I rx ry h
  obtain ⟨z, i, rfl, rfl, ok, q⟩ := h
  obtain ⟨t, rfl⟩ := rx
  obtain ⟨t', rfl⟩ := ry
  exact PySem.SB.mul ok fun t2 k => ⟨.str _, H, I.tok _, ⟨_, rfl⟩, q⟩
theorem tyes {σ : L2.St} {H : Hp} {R S : Hp → Prop} (h : R H) : tYes σ H (fun b H3 => if b = true then R H3 else S H3) := by
  show if true = true then R H else S H
  rw [if_pos rfl]
  exact h
/-- a list of texts grows by one -/
theorem str_grow {H8 H9 : Hp} {D : Addr} {ys : List Str} {y : Str} (e : H9 = upd H8 D (.lst (ys.map V.str))) : upd H9 D (.lst (ys.map V.str ++ [.str y])) = upd H8 D (.lst ((ys ++ [y]).map V.str)) := by
  rw [e, upd_upd, List.map_append]
  rfl
/-! ### short texts -/
def sOk (a : Nat) (z : Str) : Prop := z.length ≤ a ∧ ∀ c ∈ z.cps.toList, c < 0x110000
theorem sOk.mono {a b : Nat} {z : Str} (h : sOk a z) (k : a ≤ b) : sOk b z := ⟨Nat.le_trans h.1 k, h.2⟩
theorem sOk.app {a b : Nat} {z y : Str} (h : sOk a z) (k : sOk b y) : sOk (a + b) (z ++ y) := by
  refine ⟨by rw [Str.length_append]; exact Nat.add_le_add h.1 k.1, fun c hc => ?_⟩
  have e : (z ++ y).cps.toList = z.cps.toList ++ y.cps.toList := Array.toList_append
  rw [e] at hc
  exact (List.mem_append.mp hc).elim (h.2 c) (k.2 c)
theorem sOk.cut {a : Nat} {z : Str} (h : sOk a z) (lo hi : Option Int) : sOk a (cutS z lo hi) := by
  refine ⟨?_, fun c hc => h.2 c ?_⟩
  · show ((z.cps.toList.drop (HT.sIx z.length 0 lo)).take (HT.sIx z.length z.length hi - HT.sIx z.length 0 lo)).toArray.size ≤ a
    have e : z.cps.toList.length ≤ a := by rw [Array.length_toList]; exact h.1
    rw [List.size_toArray, List.length_take, List.length_drop]
    omega
  · have hc' : c ∈ ((z.cps.toList.drop (HT.sIx z.length 0 lo)).take (HT.sIx z.length z.length hi - HT.sIx z.length 0 lo)) := by simpa [cutS] using hc
    exact List.mem_of_mem_drop (List.mem_of_mem_take hc')
theorem sOk.sign {c : Nat} (h : c < 0x110000) : sOk 1 ⟨#[c]⟩ := ⟨Nat.le_refl _, fun d hd => by simp at hd; rw [hd]; exact h⟩
theorem sOk.okd {a B : Nat} {z : Str} (h : sOk a z) : okD B (.str z) = true := by
  simp only [okD, List.all_eq_true, decide_eq_true_eq]
  exact h.2
abbrev alpha : Str := "abcdefghijklmnopqrstuvwxyz"
theorem alpha_list : alpha.cps.toList = [97, 98, 99, 100, 101, 102, 103, 104, 105, 106, 107, 108, 109, 110, 111, 112, 113, 114, 115, 116, 117, 118, 119, 120, 121, 122] := by decide +kernel
theorem alpha_at {i : Int} (h0 : 0 ≤ i) (h1 : i < 26) : ∃ c, atI alpha.cps.toList i = some c ∧ c < 0x110000 := by
  obtain ⟨j, rfl⟩ : ∃ j : Nat, i = (j : Int) := ⟨i.toNat, by omega⟩
  have hl : alpha.cps.toList.length = 26 := by rw [alpha_list]; rfl
  obtain ⟨c, hc⟩ : ∃ c, alpha.cps.toList[j]? = some c := ⟨_, List.getElem?_eq_getElem (by rw [hl]; omega)⟩
  refine ⟨c, atI_nat hc, ?_⟩
  have z : ∀ d ∈ alpha.cps.toList, d < 0x110000 := by rw [alpha_list]; decide
  exact z c (List.mem_of_getElem? hc)
theorem alpha_len : alpha.length ≤ sizeLine := by decide +kernel
theorem mul8 (c : Nat) : Txt.mul ⟨#[c]⟩ 8 = ⟨#[c, c, c, c, c, c, c, c]⟩ := by rfl
theorem mul8_ok (c : Nat) : PySem.MulOk ⟨#[c]⟩ 8 := ⟨by decide, fun _ _ => by show ¬ ((1 : Nat) : Int) > (2 ^ 63 - 1) / 8; decide, fun _ _ => rfl⟩
section
variable {P : Program} {w : World} {K : PySem.W.Frag} {mg : Str → Option Value} {base : Heap} {fN : Addr}
abbrev NN : List Str := ["m", "many", "letters", "stem", "k", "at", "first", "by", "word"]
theorem scNm : FnScope NN ["m", "many"] (defScope sNames) := ⟨rfl, rfl, rfl, by decide +kernel, rfl, by decide +kernel, by decide +kernel⟩
def spNames : Sp := fun vs H Q _ => ∃ (m l : Addr) (n : Nat) (k : Nat), vs = [.ref m, .int (k : Int)] ∧ Mch H m l n ∧ n < 900000 ∧ 1 ≤ k ∧ k ≤ 8 ∧
  ∀ (p : Addr) (ys : List Str) (l' : Addr) (H' : Hp), H p = none → H' p = some (.lst (ys.map V.str)) → ys.length = k → (∀ y ∈ ys, sOk 16 y) → p ≠ m → p ≠ l' → Mch H' m l' (n + 11) → Fr m l l' H H' → Q (.ref p) H'
theorem ok_names {f : Addr} {fd fdN : FuncData} (F : Fun K "_law_names" "_law_names" sNames f fd) (T : TxtN mg fN) (FN : Fun K "_law_next" "_law_next" sNext fN fdN) (bN : Binds K fdN ["m", "many"] []) : FnOk P w K mg base CX0 2 f fd ["m", "many"] spNames := by
  have GN : FnOk P w K mg base CX0 1 fN fdN ["m", "many"] spNext := ok_next FN T.toTxt
  refine F.ok scNm (fun vs H Q E h => ?_) (fun cdv A outer s H vs Q E hr h => ?_)
  · obtain ⟨m, l, n, k, rfl, _⟩ := h
    rfl
  · obtain ⟨m, l, n, k, rfl, M, hn, hk, hk2, q⟩ := h
    refine ⟨_, pss_cons (ps_asg (pe_tup (pa_cons pe_str (pa_cons pe_str pa_nil))) (pg_tup rfl (pgs_cons (pg_name (i := 2) scNm.nd rfl (Or.inr rfl)) (pgs_cons (pg_name (i := 3) scNm.nd rfl (Or.inr rfl)) pgs_nil))))
      (pss_cons (ps_for PassesOwn.never rfl (pi_range1 (by rfl) T.range (pa_cons (pe_call GN hr rfl T.next FN.kp bN .nil pass0 (pa_cons (pv 0) (pa_cons pe_int pa_nil))) pa_nil)) (pg_name (i := 4) scNm.nd rfl (Or.inl rfl))
        (pss_one (ps_set (i := 3) scNm.nd rfl (Or.inr rfl) (pe_op op_add_str (pv 3) (pe_ix ix_str (pv 2) (pe_call GN hr rfl T.next FN.kp bN .nil pass0 (pa_cons (pv 0) (pa_cons pe_int pa_nil))) (fun _ _ => rfl))))))
      (pss_cons (ps_asg (pe_tup (pa_cons (pe_call GN hr rfl T.next FN.kp bN .nil pass0 (pa_cons (pv 0) (pa_cons (pe_op op_add (pe_callB call_len_str (by rfl) T.len PySem.boot_len (pa_cons (pv 3) pa_nil)) pe_int) pa_nil)))
          (pa_cons (pe_call GN hr rfl T.next FN.kp bN .nil pass0 (pa_cons (pv 0) (pa_cons pe_int pa_nil)))
          (pa_cons (pe_ix ix_list (pe_lst (pa_cons pe_int (pa_cons pe_int (pa_cons pe_int (pa_cons pe_int (pa_cons pe_int (pa_cons pe_int pa_nil))))))) (pe_call GN hr rfl T.next FN.kp bN .nil pass0 (pa_cons (pv 0) (pa_cons pe_int pa_nil))) (fun _ _ => rfl)) pa_nil))))
        (pg_tup rfl (pgs_cons (pg_name (i := 5) scNm.nd rfl (Or.inr rfl)) (pgs_cons (pg_name (i := 6) scNm.nd rfl (Or.inr rfl)) (pgs_cons (pg_name (i := 7) scNm.nd rfl (Or.inr rfl)) pgs_nil)))))
      (pss_cons (ps_set (i := 8) scNm.nd rfl (Or.inr rfl) (pe_slice sl_str (pe_op op_add_str (pv 3) (pe_op op_mul_si (pe_ix ix_str (pv 2) (pv 6) (fun _ _ => rfl)) pe_int)) po_none (po_some pe_int)))
      (pss_cons (ps_if (pt_cmpR op_gt (pv 7) pe_int (nomark _)) (pss_one (ps_ret (pe_lc (own := [("k", 4)]) (g := gName 4) (by rfl) scNm.nd (pi_range1 (by rfl) T.range (pa_cons (pv 1) pa_nil)) (blkOk_by (own := [("k", 4)]) (N := NN) (sc := defScope sNames) (by decide +kernel))
          (fun _ _ _ _ _ => pg_name (i := 4) scNm.nd rfl (Or.inl rfl)) (fun _ _ _ _ _ => pts_nil) (fun _ _ _ _ _ => pe_ifExp (pt_cmpR op_gt (pv 7) pe_int (nomark _)) (pe_slice sl_str (pv 8) (po_some (pv 4)) po_none) (pe_slice sl_str (pv 8) po_none (po_some (pe_op op_sub (pe_op op_add (pv 4) pe_int) (pv 1)))))))) pss_nil)
      (pss_one (ps_ret (pe_lc (own := [("k", 4)]) (g := gName 4) (by rfl) scNm.nd (pi_range1 (by rfl) T.range (pa_cons (pv 1) pa_nil)) (blkOk_by (own := [("k", 4)]) (N := NN) (sc := defScope sNames) (by decide +kernel))
          (fun _ _ _ _ _ => pg_name (i := 4) scNm.nd rfl (Or.inl rfl)) (fun _ _ _ _ _ => pts_nil) (fun _ _ _ _ _ => pe_op op_add_str (pe_op op_add_str (pe_slice sl_str (pv 3) po_none (po_some (pv 5)))
            (pe_ix ix_str (pv 2) (pe_op op_mod (pe_callTy call_int1 (by rfl) T.int (by decide +kernel) (pa_cons (pe_op op_add (pv 6) (pe_op op_mul (pv 7) (pv 4))) pa_nil)) pe_int) (fun _ _ => rfl))) (pe_slice sl_str (pv 3) (po_some (pv 5)) po_none))))))))), ?_⟩
    refine ⟨(by show 2 ≤ sizeLine; decide), fun p1 h1 => ⟨p1, _, rfl, .inl (.inl upd_same), rfl, _, _, rfl, _, _, rfl, rfl, ?_⟩⟩
    have s1 : Same H _ := Same.upd (o := .tup [.str alpha, .str ""]) h1
    refine ⟨_, rfl, m, l, n, 8, rfl, M.same s1, by omega, by decide, by decide, fun r0 l1 H1 r0p r0l M1 f1 => ?_⟩
    refine ⟨r0, rfl, by omega, by omega, ?_⟩
    refine for_range (lo := 0) (n := r0.toNat) (fun i σ H2 => ∃ (z : Str) (v4 : Option V) (l2 : Addr), σ = [some (.ref m), some (.int (k : Int)), some (.str alpha), some (.str z), v4, none, none, none, none] ∧ sOk i z ∧ Mch H2 m l2 (n + 1 + i) ∧ Fr m l l2 H H2)
      ⟨"", _, l1, rfl, ⟨Nat.le_refl _, fun c hc => by cases hc⟩, M1, Fr.lead s1 f1⟩ ?_ ?_
    · rintro i σ H2 hi ⟨z, v4, l2, rfl, hz, M2, f2⟩
      refine ⟨_, rfl, _, rfl, _, rfl, m, l2, _, 26, rfl, M2, by omega, by decide, by decide, fun r l3 H3 rp rl M3 f3 => ?_⟩
      obtain ⟨c, hc, hc2⟩ := alpha_at rp rl
      refine ⟨alpha, r, c, rfl, rfl, alpha_len, hc, z, _, rfl, rfl, ?_, ?_⟩
      · have := hz.1
        show z.length + 1 ≤ sizeLine
        exact small1000 (by omega)
      · exact ⟨_, _, l3, rfl, hz.app (sOk.sign hc2), M3, f2.trans f3⟩
    · rintro σ H2 ⟨z, v4, l2, rfl, hz, M2, f2⟩
      have z7 := hz.1
      have zs : z.length ≤ sizeLine := Nat.le_of_lt (small1000 (by omega))
      refine ⟨_, rfl, _, rfl, z, rfl, zs, _, _, rfl, rfl, m, l2, _, (z.length : Int) + 1, rfl, M2, by omega, by omega, by omega, fun r5 l3 H3 a5 b5 M3 f3 => ?_⟩
      refine ⟨_, rfl, m, l3, _, 26, rfl, M3, by omega, by decide, by decide, fun r6 l4 H4 a6 b6 M4 f4 => ?_⟩
      refine ⟨(by show 6 ≤ sizeLine; decide), fun pL hL => ?_⟩
      have sL := Same.upd (o := .lst [.int 1, .int 3, .int 5, .int 7, .int 9, .int 11]) hL
      have nL := M4.ne hL
      refine ⟨_, rfl, m, l4, _, 6, rfl, M4.same sL, by omega, by decide, by decide, fun r7 l5 H5 a7 b7 M5 f5 => ?_⟩
      obtain ⟨b, hb, b1, b11⟩ : ∃ b : Int, atI ([.int 1, .int 3, .int 5, .int 7, .int 9, .int 11] : List V) r7 = some (.int b) ∧ 1 ≤ b ∧ b ≤ 11 := by
        obtain ⟨j, rfl⟩ : ∃ j : Nat, r7 = (j : Int) := ⟨r7.toNat, by omega⟩
        have hj : j < 6 := by omega
        match j, hj with
        | 0, _ => exact ⟨1, rfl, by decide, by decide⟩
        | 1, _ => exact ⟨3, rfl, by decide, by decide⟩
        | 2, _ => exact ⟨5, rfl, by decide, by decide⟩
        | 3, _ => exact ⟨7, rfl, by decide, by decide⟩
        | 4, _ => exact ⟨9, rfl, by decide, by decide⟩
        | 5, _ => exact ⟨11, rfl, by decide, by decide⟩
      refine ⟨pL, _, r7, .int b, rfl, rfl, SqL.of (f5.keep pL _ upd_same nL.1 nL.2), hb, (by show 3 ≤ sizeLine; decide), fun p3 h3 => ?_⟩
      have F5 : Fr m l l5 H H5 := f2.trans (f3.trans (f4.trans (Fr.lead sL f5)))
      refine ⟨p3, _, rfl, .inl (.inl upd_same), rfl, _, _, rfl, _, _, rfl, _, _, rfl, rfl, ?_⟩
      have s3 := Same.upd (o := .tup [.int r5, .int r6, .int b]) h3
      have M6 := M5.same s3
      have F6 := F5.junk (o := .tup [.int r5, .int r6, .int b]) h3
      obtain ⟨c6, hc6, cc6⟩ := alpha_at a6 b6
      refine ⟨_, rfl, _, rfl, _, rfl, alpha, r6, c6, rfl, rfl, alpha_len, hc6, _, 8, rfl, rfl, mul8_ok c6, z, _, rfl, rfl, ?_, 8, rfl, _, rfl, ?_, ?_⟩
      · rw [mul8]
        show z.length + 8 ≤ sizeLine
        exact Nat.le_of_lt (small1000 (by omega))
      · rw [mul8, Str.length_append]
        show z.length + 8 ≤ sizeLine
        exact Nat.le_of_lt (small1000 (by omega))
      obtain ⟨W, hW, eW⟩ : ∃ W, sOk 16 W ∧ W = cutS (z ++ Txt.mul { cps := #[c6] } 8) none (some 8) := ⟨_, by
        rw [mul8]
        exact (((hz.mono (show r0.toNat ≤ 7 by omega)).app (b := 8) ⟨by show 8 ≤ 8; decide, fun d hd => by simp at hd; rw [hd]; exact cc6⟩).mono (by decide)).cut _ _, rfl⟩
      rw [← eW]
      have Wl : W.length ≤ sizeLine := Nat.le_trans hW.1 (by decide)
      have ek : ((k : Int)).toNat = k := by omega
      refine ⟨_, rfl, _, _, rfl, rfl, _, rfl, ite2 (fun _ => ?_) (fun _ => ?_)⟩
      · refine ⟨_, rfl, (k : Int), rfl, by omega, by omega, fun D hD => ?_⟩
        have nD := M6.ne hD
        refine lc_range (lo := 0) (n := ((k : Int)).toNat) (fun i H9 => ∃ ys : List Str, ys.length = i ∧ (∀ y ∈ ys, sOk 16 y) ∧ H9 = upd _ D (.lst (ys.map V.str))) ⟨[], rfl, (fun y hy => nomatch hy), rfl⟩ ?_ ?_
        · rintro i H9 hi ⟨ys, yl, yo, e9⟩
          refine ⟨rfl, tyes ?_⟩
          refine ⟨_, rfl, _, _, rfl, rfl, _, rfl, ite2 (fun _ => ?_) (fun _ => ?_)⟩
          · refine ⟨_, rfl, _, rfl, _, rfl, _, rfl, Wl, _, by rw [e9]; exact upd_same, small1000 (by rw [List.length_map]; omega), _, (by rw [List.length_append, yl]; rfl), ?_, str_grow e9⟩
            intro y hy
            rcases List.mem_append.mp hy with hy | hy
            · exact yo y hy
            · rw [List.mem_singleton.mp hy]; exact hW.cut _ _
          · refine ⟨_, rfl, _, rfl, _, _, rfl, rfl, _, rfl, _, _, rfl, rfl, _, rfl, _, rfl, Wl, _, by rw [e9]; exact upd_same, small1000 (by rw [List.length_map]; omega), _, (by rw [List.length_append, yl]; rfl), ?_, str_grow e9⟩
            intro y hy
            rcases List.mem_append.mp hy with hy | hy
            · exact yo y hy
            · rw [List.mem_singleton.mp hy]; exact hW.cut _ _
        · rintro H9 ⟨ys, yl, yo, e9⟩
          have sD := Same.upd (o := .lst (ys.map V.str)) hD
          rw [e9]
          exact q D ys l5 _ (F6.free hD) upd_same (by omega) yo nD.1 nD.2 ((M6.same sD).mono (by omega)) (F6.junk hD)
      · refine ⟨_, rfl, (k : Int), rfl, by omega, by omega, fun D hD => ?_⟩
        have nD := M6.ne hD
        refine lc_range (lo := 0) (n := ((k : Int)).toNat) (fun i H9 => ∃ ys : List Str, ys.length = i ∧ (∀ y ∈ ys, sOk 16 y) ∧ H9 = upd _ D (.lst (ys.map V.str))) ⟨[], rfl, (fun y hy => nomatch hy), rfl⟩ ?_ ?_
        · rintro i H9 hi ⟨ys, yl, yo, e9⟩
          have hz7 : sOk 7 z := hz.mono (by omega)
          obtain ⟨c9, hc9, cc9⟩ := alpha_at (i := (r6 + b * (0 + (i : Int))) % 26) (Int.emod_nonneg _ (by decide)) (Int.emod_lt_of_pos _ (by decide))
          have p1 := (hz7.cut none (some r5))
          have p2 := (p1.app (sOk.sign cc9))
          have p3' := p2.app (hz7.cut (some r5) none)
          refine ⟨rfl, tyes ?_⟩
          refine ⟨_, rfl, _, rfl, _, rfl, _, rfl, zs, _, rfl, _, rfl, _, rfl, _, rfl, _, _, rfl, rfl, .inr ⟨by omega, by omega⟩, _, _, rfl, rfl, .inl ⟨_, rfl, _, _, rfl, rfl, (by show (0 : Int) < 26; decide), ?_⟩⟩
          refine ⟨alpha, _, c9, rfl, rfl, alpha_len, hc9, _, _, rfl, rfl, ?_, _, rfl, _, rfl, _, rfl, _, rfl, zs, _, _, rfl, rfl, ?_, _, by rw [e9]; exact upd_same, small1000 (by rw [List.length_map]; omega), _, (by rw [List.length_append, yl]; rfl), ?_, str_grow e9⟩
          · have := p1.1
            show _ + 1 ≤ sizeLine
            exact Nat.le_of_lt (small1000 (by omega))
          · have := p2.1
            have := (hz7.cut (some r5) none).1
            exact Nat.le_of_lt (small1000 (by omega))
          · intro y hy
            rcases List.mem_append.mp hy with hy | hy
            · exact yo y hy
            · rw [List.mem_singleton.mp hy]; exact p3'.mono (by decide)
        · rintro H9 ⟨ys, yl, yo, e9⟩
          have sD := Same.upd (o := .lst (ys.map V.str)) hD
          rw [e9]
          exact q D ys l5 _ (F6.free hD) upd_same (by omega) yo nD.1 nD.2 ((M6.same sD).mono (by omega)) (F6.junk hD)
end
end Ms
namespace Ms
open PySem PySem.Spec PyProof.Rows L2
/-! ### zip(list, tuple) over KE's draws -/
/-- the list at a, the tuple at b, the items in new pairs -/
def ItZM (K : PySem.W.Frag) (a b : Addr) : It :=
  ⟨fun i H => ∃ (xs ys : List V), SqL K H a xs ∧ SqT K H b ys ∧ i < xs.length ∧ i < ys.length,
    fun i H v H' => ∃ T x y, v = .ref T ∧ H T = none ∧ H' = upd H T (.tup [x, y]) ∧ (∀ xs, SqL K H a xs → xs[i]? = some x) ∧ ∀ ys, SqT K H b ys → ys[i]? = some y,
    fun i H => ∃ xs ys : List V, SqL K H a xs ∧ SqT K H b ys ∧ i ≤ xs.length ∧ i ≤ ys.length ∧ (i = xs.length ∨ i = ys.length)⟩
theorem walk_zm {K : PySem.W.Frag} {a b : Addr} {xs ys : List V} {n : Nat} (hn : n = min xs.length ys.length) : Walk (ItZM K a b) n (fun H => SqL K H a xs ∧ SqT K H b ys) (YPair (fun i => xs[i]?) (fun i => ys[i]?)) := by
  subst hn
  refine ⟨fun i _ hi q => ⟨xs, ys, q.1, q.2, by omega, by omega⟩, fun _ q => ⟨xs, ys, q.1, q.2, by omega, by omega, by omega⟩, fun i H v H' _ q y => ?_⟩
  obtain ⟨T, x, z, h1, h2, h3, h4, h5⟩ := y
  exact ⟨T, x, z, h1, h2, h3, h4 xs q.1, h5 ys q.2⟩
section
variable {a b z TI TO i1 i2 : Addr}
abbrev zmCells (z TI TO i1 i2 : Addr) : List Addr := [z, TI, TO, i1, i2]
abbrev ZmSt (a b z TI TO i1 i2 : Addr) : Nat → Heap → Prop := fun i h => IsZip h z TI TO .none ∧ IsTupOf2 h TI (.ref i1) (.ref i2) ∧ (∃ x y, IsTupOf2 h TO x y) ∧ h.IsListIter i1 a i ∧ h.IsTupleIter i2 b i
theorem zm_mem {c z TI TO i1 i2 : Addr} (h : c ∈ zmCells z TI TO i1 i2) : c = z ∨ c = TI ∨ c = TO ∨ c = i1 ∨ c = i2 := by simpa using h
theorem zm_there {i : Nat} {h : Heap} (st : ZmSt a b z TI TO i1 i2 i h) : ∀ c ∈ zmCells z TI TO i1 i2, ∃ o, h.get? c = some o ∧ ∀ v, o.data ≠ .cell v := fun c hc => by
  obtain ⟨hz, hTI, ⟨x, y, hTO⟩, ⟨o1, e1, _, d1⟩, ⟨o2, e2, _, d2⟩⟩ := st
  rcases zm_mem hc with rfl | rfl | rfl | rfl | rfl
  · exact ⟨_, hz, fun v q => nomatch q⟩
  · exact ⟨_, hTI, fun v q => nomatch q⟩
  · exact ⟨_, hTO, fun v q => nomatch q⟩
  · exact ⟨o1, e1, fun v q => by rw [d1] at q; cases q⟩
  · exact ⟨o2, e2, fun v q => by rw [d2] at q; cases q⟩
theorem turn_zm {P : Program} {w : World} {K : PySem.W.Frag} {elts : List Expr} {kk : Nat} {tpos : Pos} (S : ZipSep2 z TI TO i1 i2 [i1, a] [i2, b]) (na : a ≠ i1) (nb : b ≠ i2) :
    Turn P w K (.Tuple elts kk tpos) (ItZM K a b) (zmCells z TI TO i1 i2) z (ZmSt a b z TI TO i1 i2) where
  mem := by simp
  obj := fun i h st => zm_there st
  keep := fun i h h' st k => by
    obtain ⟨hz, hTI, ⟨x, y, hTO⟩, h1, h2⟩ := st
    exact ⟨k z (by simp) _ hz, k TI (by simp) _ hTI, ⟨x, y, k TO (by simp) _ hTO⟩, h1.at fun o q => k i1 (by simp) o q, h2.at fun o q => k i2 (by simp) o q⟩
  item := by
    intro X hP hw hK hc i pins s σ H E I hf st hg
    subst hP hw hK
    have live := zm_there st
    obtain ⟨hz, hTI, ⟨x0, y0, hTO⟩, h1, h2⟩ := st
    obtain ⟨xs, ys, hqx, hqy, hi1, hi2⟩ := hg
    obtain ⟨its, rv, p, _⟩ := I.list hqx
    obtain ⟨its2, rv2, p2, _⟩ := I.tuple hqy
    have l1 := rv.length
    have l2 := rv2.length
    have hh : X.A.in1.handled = none := I.ok.hd hc
    have fresh : ∀ c ∈ zmCells z TI TO i1 i2, c ≠ s.heap.objs.size := fun c hc => by
      obtain ⟨o, e, _⟩ := live c hc
      exact Nat.ne_of_lt (Heap.lt_size e)
    refine wpAny_pyNext_zipD2_item S (Draws.list hh i1 a na its.toArray) (Draws.tuple hh i2 b nb its2.toArray) hz hTI hTO ⟨h1, p.isList⟩ ⟨h2, p2⟩ (by simp; omega) (by simp; omega) fun u u2 h' tk hu hu2 z' TO' st1' st2' hT hsz hk => ?_
    refine ⟨_, rfl, wpAny_letOwnedTupleGo_zip (s := { s with heap := h', toks := tk }) z' fun h'' z'' sb => ?_⟩
    have hx : xs[i]? = some xs[i] := List.getElem?_eq_getElem hi1
    have hy : ys[i]? = some ys[i] := List.getElem?_eq_getElem hi2
    obtain ⟨v, hv, ru⟩ := rv.get hx
    obtain ⟨v2, hv2, ru2⟩ := rv2.get hy
    have e1 : u = v := by simp [hv] at hu; exact hu.symm
    have e2 : u2 = v2 := by simp [hv2] at hu2; exact hu2.symm
    subst e1 e2
    have zN := fresh z (by simp)
    have hT2 : h''.get? s.heap.objs.size = some { cls := .type "tuple", data := .seq #[u, u2] } := (sb.2 _ zN.symm).trans hT
    have new : ObjOk X.prog X.w (upd H s.heap.objs.size (.tup [xs[i], ys[i]])) h'' s.heap.objs.size (.tup [xs[i], ys[i]]) :=
      ⟨(by show 2 ≤ sizeLine; decide), [u, u2], .cons ru (.cons ru2 .nil), ⟨_, hT2, rfl, _, rfl⟩⟩
    have I1 : L2.Inv X pins σ (upd H s.heap.objs.size (.tup [xs[i], ys[i]])) { s with heap := h'', toks := tk } :=
      I.turnedNew (t' := tk) (ch := zmCells z TI TO i1 i2) (fun c o hb q => (sb.2 c fun e => hb (by simp [e])).trans (hk c o (fun e => hb (by simp [e])) (fun e => hb (by simp [e])) (fun e => hb (by simp [e])) (fun e => hb (by simp [e])) q)) hf (Nat.le_refl _) new
    refine ⟨.ref s.heap.objs.size, _, I1, rfl, ⟨_, xs[i], ys[i], rfl, I.hok.fresh (Nat.le_refl _), rfl, fun l hl => ?_, fun l hl => ?_⟩, ⟨z'', (sb.2 _ S.TIz).trans (hk _ _ S.TIz S.TITO S.TIi1 S.TIi2 hTI), ⟨_, _, (sb.2 _ S.TOz).trans TO'⟩, st1'.1.at fun o q => (sb.2 _ S.zi1.symm).trans q, st2'.1.at fun o q => (sb.2 _ S.zi2.symm).trans q⟩, fun c hcm => ?_⟩
    · rw [I.list_inj hl hqx]; exact hx
    · rw [I.tuple_inj hl hqy]; exact hy
    · rw [upd_ne (fresh c hcm)]
      exact (hf c hcm).1
  done := by
    intro X hP hw hK hc i pins s σ H E I hf st hg
    subst hP hw hK
    obtain ⟨hz, hTI, ⟨x0, y0, hTO⟩, h1, h2⟩ := st
    obtain ⟨xs, ys, hqx, hqy, hi1, hi2, hend⟩ := hg
    obtain ⟨its, rv, p, _⟩ := I.list hqx
    obtain ⟨its2, rv2, p2, _⟩ := I.tuple hqy
    have l1 := rv.length
    have l2 := rv2.length
    have hh : X.A.in1.handled = none := I.ok.hd hc
    exact wpAny_pyNext_zipD2_end S (Draws.list hh i1 a na its.toArray) (Draws.tuple hh i2 b nb its2.toArray) hz hTI hTO ⟨h1, p.isList⟩ ⟨h2, p2⟩ (by simp; omega) (by simp; omega) (by simp; omega) fun h' tk hk =>
      ⟨rfl, I.turnedL (t' := tk) (ch := zmCells z TI TO i1 i2) (fun c o hb q => hk c o (fun e => hb (by simp [e])) (fun e => hb (by simp [e])) (fun e => hb (by simp [e])) (fun e => hb (by simp [e])) q) hf⟩
  self := fun A i s Q E st h => wpAny_pyIter_zip st.1 h
end
/-- zip(list, tuple) -/
def iZM (K : PySem.W.Frag) (ta : TA) : TI := fun σ H R => ta σ H fun vs H1 => ∃ a b xs ys, vs = [.ref a, .ref b] ∧ SqL K H1 a xs ∧ SqT K H1 b ys ∧ R (ItZM K a b) H1
theorem pi_zm {X : Cx} {e e2 : Expr} {ta : TA} {p pos tpos : Pos} {elts : List Expr} {kk : Nat} (hg : Gl X "zip") (hm : X.mg "zip" = none) (ha : PA X [e, e2] ta)
    (hs : starEach [e, e2] X.env = (false, eval e X.env) :: starEach [e2] X.env := by rfl) (hpl : (backTo pos (starEach [e2] X.env)).any (·.1) = false := by rfl) :
    PI X (.Tuple elts kk tpos) (.Call (.Name "zip" p) [e, e2] [] pos) (iZM X.K ta) := by
  refine ⟨fun pins s σ H R I h => Call_ (ld_blt I hg hm PyProof.Rows.boot_zip (PyProof.Rows.callWith_type1 (thn (ha.run pos pins s σ H _ I h) fun us s1 ⟨vs, H1, I1, r1, q1⟩ => ?_) hs hpl))⟩
  obtain ⟨a, b, xs, ys, ex, hqx, hqy, q⟩ := q1
  subst ex
  cases r1 with
  | cons r rr =>
    cases rr with
    | cons r' rr =>
      cases rr
      cases r
      cases r'
      obtain ⟨its, rv, p1, _⟩ := I1.list hqx
      obtain ⟨its2, rv2, p2, _⟩ := I1.tuple hqy
      obtain ⟨o2, ho2, _⟩ := id p2
      have la := p1.lt
      have lb : b < s1.heap.objs.size := Heap.lt_size ho2
      have fp : ∀ c ∈ zmCells (s1.heap.objs.size + 4) (s1.heap.objs.size + 2) (s1.heap.objs.size + 3) s1.heap.objs.size (s1.heap.objs.size + 1), FpOk X pins H1 c := fun c hcm => by
        have hle : s1.heap.objs.size ≤ c := by
          rcases zm_mem hcm with q | q | q | q | q
          · rw [q]; exact Nat.le_add_right _ _
          · rw [q]; exact Nat.le_add_right _ _
          · rw [q]; exact Nat.le_add_right _ _
          · rw [q]; exact Nat.le_refl _
          · rw [q]; exact Nat.le_add_right _ _
        exact I1.fpOk hle (I1.hok.fresh hle)
      have S : ZipSep2 (s1.heap.objs.size + 4) (s1.heap.objs.size + 2) (s1.heap.objs.size + 3) s1.heap.objs.size (s1.heap.objs.size + 1) [s1.heap.objs.size, a] [s1.heap.objs.size + 1, b] :=
        zip_sep2 (fun c h => by rw [List.mem_singleton.mp h]; exact la) (fun c h => by rw [List.mem_singleton.mp h]; exact lb)
      have nb : b ≠ s1.heap.objs.size + 1 := Nat.ne_of_lt (Nat.lt_succ_of_lt lb)
      have T := turn_zm (P := X.prog) (w := X.w) (K := X.K) (elts := elts) (kk := kk) (tpos := tpos) S (Nat.ne_of_lt la) nb
      refine zip_begins2 (begins_list a its.toArray) (begins_tuple b its2.toArray) p1.isList p2 fun h' hz hTI hTO h1 h2 hsz hk => wpAny_pyIter_zip hz ?_
      have I2 : L2.Inv X pins σ H1 { s1 with heap := h' } := I1.kept (t' := s1.toks) hk
      exact ⟨s1.heap.objs.size + 4, zmCells (s1.heap.objs.size + 4) (s1.heap.objs.size + 2) (s1.heap.objs.size + 3) s1.heap.objs.size (s1.heap.objs.size + 1), _, ItZM X.K a b, H1, rfl, I2, T,
        ⟨hz, hTI, ⟨_, _, hTO⟩, ⟨_, h1, rfl, rfl⟩, ⟨_, h2, rfl, rfl⟩⟩, fp, q⟩
end Ms
namespace Ms
open PySem PySem.Spec PyProof.Rows L2
/-! ### _law_settings -/
/-- pairs of a text and an int, each a tuple of its own -/
inductive Prs (H : Hp) : List Addr → List (Str × Int) → Prop
  | nil : Prs H [] []
  | cons {a : Addr} {as : List Addr} {y : Str} {k : Int} {ys : List (Str × Int)} : H a = some (.tup [.str y, .int k]) → Prs H as ys → Prs H (a :: as) ((y, k) :: ys)
theorem Prs.same {H H' : Hp} {as : List Addr} {ys : List (Str × Int)} (s : ∀ b o, b ∈ as → H b = some o → H' b = some o) (p : Prs H as ys) : Prs H' as ys := by
  induction p with
  | nil => exact .nil
  | cons h _ ih => exact .cons (s _ _ (List.mem_cons_self ..) h) (ih fun b o hb => s b o (List.mem_cons_of_mem _ hb))
theorem Prs.snoc {H : Hp} {as : List Addr} {ys : List (Str × Int)} {a : Addr} {y : Str} {k : Int} (p : Prs H as ys) (h : H a = some (.tup [.str y, .int k])) : Prs H (as ++ [a]) (ys ++ [(y, k)]) := by
  induction p with
  | nil => exact .cons h .nil
  | cons h' _ ih => exact .cons h' ih
theorem Prs.length {H : Hp} {as : List Addr} {ys : List (Str × Int)} (p : Prs H as ys) : as.length = ys.length := by
  induction p with
  | nil => rfl
  | cons _ _ ih => simp [ih]
theorem Prs.live {H : Hp} {as : List Addr} {ys : List (Str × Int)} (p : Prs H as ys) : ∀ a ∈ as, ∃ y k, H a = some (.tup [.str y, .int k]) := by
  induction p with
  | nil => intro a h; cases h
  | cons h' _ ih =>
    intro b hb
    rcases List.mem_cons.mp hb with rfl | hb
    · exact ⟨_, _, h'⟩
    · exact ih b hb
theorem Prs.get {H : Hp} {as : List Addr} {ys : List (Str × Int)} (p : Prs H as ys) : ∀ {i : Nat} {a : Addr}, as[i]? = some a → ∃ y k, ys[i]? = some (y, k) ∧ H a = some (.tup [.str y, .int k]) := by
  induction p with
  | nil => intro i a h; simp at h
  | cons h' _ ih =>
    intro i b hb
    cases i with
    | zero => simp at hb; subst hb; exact ⟨_, _, rfl, h'⟩
    | succ i => exact ih (by simpa using hb)
/-- the data of such pairs -/
def prD (ys : List (Str × Int)) : List PyData := ys.map fun q => .tuple [.str q.1, .int q.2]
theorem Prs.dq {K : PySem.W.Frag} {H : Hp} {m l : Addr} {as : List Addr} {ys : List (Str × Int)} (p : Prs H as ys) : DqAll K H m l (as.map V.ref) (prD ys) := by
  induction p with
  | nil => exact .nil
  | cons h _ ih => exact .cons (.tup (.inl (.inl h)) (.cons (.str _) (.cons (.int _) .nil))) ih
theorem Fr.trail {m l l' : Addr} {H H1 H2 : Hp} (f : Fr m l l' H H1) (s : Same H1 H2) : Fr m l l' H H2 :=
  ⟨fun b o e h1 h2 => s _ _ (f.keep b o e h1 h2), f.new, fun b h => by
    cases q : H1 b with
    | none => exact absurd q (f.dom b h)
    | some o => rw [s _ _ q]; exact fun z => nomatch z⟩
/-- how often each may stand: one to three small ints -/
def Mo (H : Hp) (a : Addr) : Prop := ∃ ms : List Int, H a = some (.tup (ms.map V.int)) ∧ 1 ≤ ms.length ∧ ms.length ≤ 3 ∧ ∀ x ∈ ms, 1 ≤ x ∧ x ≤ 3
theorem Mo.same {H H' : Hp} {a : Addr} (s : Same H H') (h : Mo H a) : Mo H' a := by
  obtain ⟨ms, e, r⟩ := h
  exact ⟨ms, s _ _ e, r⟩
section
variable {P : Program} {w : World} {K : PySem.W.Frag} {mg : Str → Option Value} {base : Heap} {fN fM : Addr}
structure TxtS (mg : Str → Option Value) (fN fM : Addr) : Prop extends TxtN mg fN where
  names : mg "_law_names" = some (.ref fM)
abbrev NS : List Str := ["m", "mosts", "some", "name", "most"]
theorem scSt : FnScope NS ["m"] (defScope sSettings) := ⟨rfl, rfl, rfl, by decide +kernel, rfl, by decide +kernel, by decide +kernel⟩
/-- good pairs: names of at most 16 signs, small numbers -/
def okP (ys : List (Str × Int)) : Prop := ∀ q ∈ ys, sOk 16 q.1 ∧ 1 ≤ q.2 ∧ q.2 ≤ 3
def spSettings : Sp := fun vs H Q _ => ∃ (m l : Addr) (n : Nat), vs = [.ref m] ∧ Mch H m l n ∧ n < 800000 ∧
  ∀ (p : Addr) (as : List Addr) (ys : List (Str × Int)) (l' : Addr) (H' : Hp), H' p = some (.tup (as.map V.ref)) → Prs H' as ys → 1 ≤ ys.length → ys.length ≤ 3 → okP ys → Mch H' m l' (n + 12) → Fr m l l' H H' → Q (.ref p) H'
theorem ok_settings {f : Addr} {fd fdN fdM : FuncData} (F : Fun K "_law_settings" "_law_settings" sSettings f fd) (T : TxtS mg fN fM) (FN : Fun K "_law_next" "_law_next" sNext fN fdN) (bN : Binds K fdN ["m", "many"] [])
    (FM : Fun K "_law_names" "_law_names" sNames fM fdM) (bM : Binds K fdM ["m", "many"] []) : FnOk P w K mg base CX0 3 f fd ["m"] spSettings := by
  have GN : FnOk P w K mg base CX0 2 fN fdN ["m", "many"] spNext := (ok_next FN T.toTxt).mono (by decide)
  have GM : FnOk P w K mg base CX0 2 fM fdM ["m", "many"] spNames := ok_names FM T.toTxtN FN bN
  refine F.ok scSt (fun vs H Q E h => ?_) (fun cdv A outer s H vs Q E hr h => ?_)
  · obtain ⟨m, l, n, rfl, _⟩ := h
    rfl
  · obtain ⟨m, l, n, rfl, M, hn, q⟩ := h
    refine ⟨_, pss_cons (ps_set (i := 1) scSt.nd rfl (by first | exact Or.inl rfl | exact Or.inr rfl) (pe_lst (pa_cons (pe_tup (pa_cons pe_int pa_nil)) (pa_cons (pe_tup (pa_cons pe_int pa_nil)) (pa_cons (pe_tup (pa_cons pe_int pa_nil)) (pa_cons (pe_tup (pa_cons pe_int (pa_cons pe_int pa_nil))) (pa_cons (pe_tup (pa_cons pe_int (pa_cons pe_int pa_nil))) (pa_cons (pe_tup (pa_cons pe_int (pa_cons pe_int pa_nil))) (pa_cons (pe_tup (pa_cons pe_int (pa_cons pe_int pa_nil))) (pa_cons (pe_tup (pa_cons pe_int (pa_cons pe_int pa_nil))) (pa_cons (pe_tup (pa_cons pe_int (pa_cons pe_int pa_nil))) (pa_cons (pe_tup (pa_cons pe_int (pa_cons pe_int (pa_cons pe_int pa_nil)))) (pa_cons (pe_tup (pa_cons pe_int (pa_cons pe_int (pa_cons pe_int pa_nil)))) (pa_cons (pe_tup (pa_cons pe_int (pa_cons pe_int (pa_cons pe_int pa_nil)))) pa_nil))))))))))))))
      (pss_cons (ps_set (i := 2) scSt.nd rfl (by first | exact Or.inl rfl | exact Or.inr rfl) (pe_ix ix_list (pv 1) (pe_call GN hr rfl T.next FN.kp bN .nil pass0 (pa_cons (pv 0) (pa_cons pe_int pa_nil))) (fun _ _ => rfl)))
      (pss_one (ps_ret (pe_callTy call_tuple_of (by rfl) T.tuple (by decide +kernel) (pa_cons (pe_lc (own := [("name", 3), ("most", 4)]) (g := gTup K 2 (gCons (gName 3) (gCons (gName 4) gNil))) (by rfl) scSt.nd
        (pi_zm (by rfl) T.zip (pa_cons (pe_call GM hr rfl T.names FM.kp bM .nil pass0 (pa_cons (pv 0) (pa_cons (pe_callB call_len (by rfl) T.len PySem.boot_len (pa_cons (pv 2) pa_nil)) pa_nil))) (pa_cons (pv 2) pa_nil)))
        (blkOk_by (own := [("name", 3), ("most", 4)]) (N := NS) (sc := defScope sSettings) (by decide +kernel))
        (fun _ _ _ _ _ => pg_tup rfl (pgs_cons (pg_name (i := 3) scSt.nd rfl (Or.inl rfl)) (pgs_cons (pg_name (i := 4) scSt.nd rfl (Or.inl rfl)) pgs_nil))) (fun _ _ _ _ _ => pts_nil)
        (fun _ _ _ _ _ => pe_tup (pa_cons (pv 3) (pa_cons (pv 4) pa_nil)))) pa_nil))))), ?_⟩
    refine ⟨(by show 1 ≤ sizeLine; decide), fun p1 h1 => ?_⟩
    obtain ⟨G1, e1⟩ : ∃ G, G = upd H p1 (.tup [.int 1]) := ⟨_, rfl⟩
    rw [← e1]
    have s1 : Same H G1 := e1 ▸ Same.upd h1
    have M1 := M.same s1
    have f1 : Fr m l l H G1 := e1 ▸ (Fr.refl M).junk h1
    have a1_1 : Mo G1 p1 := ⟨[1], by rw [e1, upd_same]; rfl, by decide, by decide, by decide⟩
    refine ⟨(by show 1 ≤ sizeLine; decide), fun p2 h2 => ?_⟩
    obtain ⟨G2, e2⟩ : ∃ G, G = upd G1 p2 (.tup [.int 2]) := ⟨_, rfl⟩
    rw [← e2]
    have s2 : Same G1 G2 := e2 ▸ Same.upd h2
    have M2 := M1.same s2
    have f2 : Fr m l l H G2 := e2 ▸ f1.junk h2
    have a2_2 : Mo G2 p2 := ⟨[2], by rw [e2, upd_same]; rfl, by decide, by decide, by decide⟩
    have a1_2 := a1_1.same s2
    refine ⟨(by show 1 ≤ sizeLine; decide), fun p3 h3 => ?_⟩
    obtain ⟨G3, e3⟩ : ∃ G, G = upd G2 p3 (.tup [.int 3]) := ⟨_, rfl⟩
    rw [← e3]
    have s3 : Same G2 G3 := e3 ▸ Same.upd h3
    have M3 := M2.same s3
    have f3 : Fr m l l H G3 := e3 ▸ f2.junk h3
    have a3_3 : Mo G3 p3 := ⟨[3], by rw [e3, upd_same]; rfl, by decide, by decide, by decide⟩
    have a1_3 := a1_2.same s3
    have a2_3 := a2_2.same s3
    refine ⟨(by show 2 ≤ sizeLine; decide), fun p4 h4 => ?_⟩
    obtain ⟨G4, e4⟩ : ∃ G, G = upd G3 p4 (.tup [.int 1, .int 1]) := ⟨_, rfl⟩
    rw [← e4]
    have s4 : Same G3 G4 := e4 ▸ Same.upd h4
    have M4 := M3.same s4
    have f4 : Fr m l l H G4 := e4 ▸ f3.junk h4
    have a4_4 : Mo G4 p4 := ⟨[1, 1], by rw [e4, upd_same]; rfl, by decide, by decide, by decide⟩
    have a1_4 := a1_3.same s4
    have a2_4 := a2_3.same s4
    have a3_4 := a3_3.same s4
    refine ⟨(by show 2 ≤ sizeLine; decide), fun p5 h5 => ?_⟩
    obtain ⟨G5, e5⟩ : ∃ G, G = upd G4 p5 (.tup [.int 1, .int 2]) := ⟨_, rfl⟩
    rw [← e5]
    have s5 : Same G4 G5 := e5 ▸ Same.upd h5
    have M5 := M4.same s5
    have f5 : Fr m l l H G5 := e5 ▸ f4.junk h5
    have a5_5 : Mo G5 p5 := ⟨[1, 2], by rw [e5, upd_same]; rfl, by decide, by decide, by decide⟩
    have a1_5 := a1_4.same s5
    have a2_5 := a2_4.same s5
    have a3_5 := a3_4.same s5
    have a4_5 := a4_4.same s5
    refine ⟨(by show 2 ≤ sizeLine; decide), fun p6 h6 => ?_⟩
    obtain ⟨G6, e6⟩ : ∃ G, G = upd G5 p6 (.tup [.int 2, .int 1]) := ⟨_, rfl⟩
    rw [← e6]
    have s6 : Same G5 G6 := e6 ▸ Same.upd h6
    have M6 := M5.same s6
    have f6 : Fr m l l H G6 := e6 ▸ f5.junk h6
    have a6_6 : Mo G6 p6 := ⟨[2, 1], by rw [e6, upd_same]; rfl, by decide, by decide, by decide⟩
    have a1_6 := a1_5.same s6
    have a2_6 := a2_5.same s6
    have a3_6 := a3_5.same s6
    have a4_6 := a4_5.same s6
    have a5_6 := a5_5.same s6
    refine ⟨(by show 2 ≤ sizeLine; decide), fun p7 h7 => ?_⟩
    obtain ⟨G7, e7⟩ : ∃ G, G = upd G6 p7 (.tup [.int 2, .int 2]) := ⟨_, rfl⟩
    rw [← e7]
    have s7 : Same G6 G7 := e7 ▸ Same.upd h7
    have M7 := M6.same s7
    have f7 : Fr m l l H G7 := e7 ▸ f6.junk h7
    have a7_7 : Mo G7 p7 := ⟨[2, 2], by rw [e7, upd_same]; rfl, by decide, by decide, by decide⟩
    have a1_7 := a1_6.same s7
    have a2_7 := a2_6.same s7
    have a3_7 := a3_6.same s7
    have a4_7 := a4_6.same s7
    have a5_7 := a5_6.same s7
    have a6_7 := a6_6.same s7
    refine ⟨(by show 2 ≤ sizeLine; decide), fun p8 h8 => ?_⟩
    obtain ⟨G8, e8⟩ : ∃ G, G = upd G7 p8 (.tup [.int 1, .int 3]) := ⟨_, rfl⟩
    rw [← e8]
    have s8 : Same G7 G8 := e8 ▸ Same.upd h8
    have M8 := M7.same s8
    have f8 : Fr m l l H G8 := e8 ▸ f7.junk h8
    have a8_8 : Mo G8 p8 := ⟨[1, 3], by rw [e8, upd_same]; rfl, by decide, by decide, by decide⟩
    have a1_8 := a1_7.same s8
    have a2_8 := a2_7.same s8
    have a3_8 := a3_7.same s8
    have a4_8 := a4_7.same s8
    have a5_8 := a5_7.same s8
    have a6_8 := a6_7.same s8
    have a7_8 := a7_7.same s8
    refine ⟨(by show 2 ≤ sizeLine; decide), fun p9 h9 => ?_⟩
    obtain ⟨G9, e9⟩ : ∃ G, G = upd G8 p9 (.tup [.int 3, .int 2]) := ⟨_, rfl⟩
    rw [← e9]
    have s9 : Same G8 G9 := e9 ▸ Same.upd h9
    have M9 := M8.same s9
    have f9 : Fr m l l H G9 := e9 ▸ f8.junk h9
    have a9_9 : Mo G9 p9 := ⟨[3, 2], by rw [e9, upd_same]; rfl, by decide, by decide, by decide⟩
    have a1_9 := a1_8.same s9
    have a2_9 := a2_8.same s9
    have a3_9 := a3_8.same s9
    have a4_9 := a4_8.same s9
    have a5_9 := a5_8.same s9
    have a6_9 := a6_8.same s9
    have a7_9 := a7_8.same s9
    have a8_9 := a8_8.same s9
    refine ⟨(by show 3 ≤ sizeLine; decide), fun p10 h10 => ?_⟩
    obtain ⟨G10, e10⟩ : ∃ G, G = upd G9 p10 (.tup [.int 1, .int 1, .int 1]) := ⟨_, rfl⟩
    rw [← e10]
    have s10 : Same G9 G10 := e10 ▸ Same.upd h10
    have M10 := M9.same s10
    have f10 : Fr m l l H G10 := e10 ▸ f9.junk h10
    have a10_10 : Mo G10 p10 := ⟨[1, 1, 1], by rw [e10, upd_same]; rfl, by decide, by decide, by decide⟩
    have a1_10 := a1_9.same s10
    have a2_10 := a2_9.same s10
    have a3_10 := a3_9.same s10
    have a4_10 := a4_9.same s10
    have a5_10 := a5_9.same s10
    have a6_10 := a6_9.same s10
    have a7_10 := a7_9.same s10
    have a8_10 := a8_9.same s10
    have a9_10 := a9_9.same s10
    refine ⟨(by show 3 ≤ sizeLine; decide), fun p11 h11 => ?_⟩
    obtain ⟨G11, e11⟩ : ∃ G, G = upd G10 p11 (.tup [.int 1, .int 2, .int 1]) := ⟨_, rfl⟩
    rw [← e11]
    have s11 : Same G10 G11 := e11 ▸ Same.upd h11
    have M11 := M10.same s11
    have f11 : Fr m l l H G11 := e11 ▸ f10.junk h11
    have a11_11 : Mo G11 p11 := ⟨[1, 2, 1], by rw [e11, upd_same]; rfl, by decide, by decide, by decide⟩
    have a1_11 := a1_10.same s11
    have a2_11 := a2_10.same s11
    have a3_11 := a3_10.same s11
    have a4_11 := a4_10.same s11
    have a5_11 := a5_10.same s11
    have a6_11 := a6_10.same s11
    have a7_11 := a7_10.same s11
    have a8_11 := a8_10.same s11
    have a9_11 := a9_10.same s11
    have a10_11 := a10_10.same s11
    refine ⟨(by show 3 ≤ sizeLine; decide), fun p12 h12 => ?_⟩
    obtain ⟨G12, e12⟩ : ∃ G, G = upd G11 p12 (.tup [.int 1, .int 1, .int 2]) := ⟨_, rfl⟩
    rw [← e12]
    have s12 : Same G11 G12 := e12 ▸ Same.upd h12
    have M12 := M11.same s12
    have f12 : Fr m l l H G12 := e12 ▸ f11.junk h12
    have a12_12 : Mo G12 p12 := ⟨[1, 1, 2], by rw [e12, upd_same]; rfl, by decide, by decide, by decide⟩
    have a1_12 := a1_11.same s12
    have a2_12 := a2_11.same s12
    have a3_12 := a3_11.same s12
    have a4_12 := a4_11.same s12
    have a5_12 := a5_11.same s12
    have a6_12 := a6_11.same s12
    have a7_12 := a7_11.same s12
    have a8_12 := a8_11.same s12
    have a9_12 := a9_11.same s12
    have a10_12 := a10_11.same s12
    have a11_12 := a11_11.same s12
    refine ⟨(by show 12 ≤ sizeLine; decide), fun D hD => ?_⟩
    obtain ⟨G, eG⟩ : ∃ G, G = upd G12 D (.lst [.ref p1, .ref p2, .ref p3, .ref p4, .ref p5, .ref p6, .ref p7, .ref p8, .ref p9, .ref p10, .ref p11, .ref p12]) := ⟨_, rfl⟩
    rw [← eG]
    have sG : Same G12 G := eG ▸ Same.upd hD
    have nD := M12.ne hD
    have MG := M12.same sG
    have fG : Fr m l l H G := eG ▸ f12.junk hD
    have gD : G D = some (.lst [.ref p1, .ref p2, .ref p3, .ref p4, .ref p5, .ref p6, .ref p7, .ref p8, .ref p9, .ref p10, .ref p11, .ref p12]) := by rw [eG, upd_same]
    have pick : ∀ r : Int, 0 ≤ r → r < 12 → ∃ a, atI ([.ref p1, .ref p2, .ref p3, .ref p4, .ref p5, .ref p6, .ref p7, .ref p8, .ref p9, .ref p10, .ref p11, .ref p12] : List V) r = some (.ref a) ∧ Mo G a := by
      intro r h0 h1
      obtain ⟨j, rfl⟩ : ∃ j : Nat, r = (j : Int) := ⟨r.toNat, by omega⟩
      have hj : j < 12 := by omega
      match j, hj with
      | 0, _ => exact ⟨p1, rfl, a1_12.same sG⟩
      | 1, _ => exact ⟨p2, rfl, a2_12.same sG⟩
      | 2, _ => exact ⟨p3, rfl, a3_12.same sG⟩
      | 3, _ => exact ⟨p4, rfl, a4_12.same sG⟩
      | 4, _ => exact ⟨p5, rfl, a5_12.same sG⟩
      | 5, _ => exact ⟨p6, rfl, a6_12.same sG⟩
      | 6, _ => exact ⟨p7, rfl, a7_12.same sG⟩
      | 7, _ => exact ⟨p8, rfl, a8_12.same sG⟩
      | 8, _ => exact ⟨p9, rfl, a9_12.same sG⟩
      | 9, _ => exact ⟨p10, rfl, a10_12.same sG⟩
      | 10, _ => exact ⟨p11, rfl, a11_12.same sG⟩
      | 11, _ => exact ⟨p12, rfl, a12_12.same sG⟩
    clear e1 s1 M1 f1 e2 s2 M2 f2 e3 s3 M3 f3 e4 s4 M4 f4 e5 s5 M5 f5 e6 s6 M6 f6 e7 s7 M7 f7 e8 s8 M8 f8 e9 s9 M9 f9 e10 s10 M10 f10 e11 s11 M11 f11 a1_1 a1_2 a2_2 a1_3 a2_3 a3_3 a1_4 a2_4 a3_4 a4_4 a1_5 a2_5 a3_5 a4_5 a5_5 a1_6 a2_6 a3_6 a4_6 a5_6 a6_6 a1_7 a2_7 a3_7 a4_7 a5_7 a6_7 a7_7 a1_8 a2_8 a3_8 a4_8 a5_8 a6_8 a7_8 a8_8 a1_9 a2_9 a3_9 a4_9 a5_9 a6_9 a7_9 a8_9 a9_9 a1_10 a2_10 a3_10 a4_10 a5_10 a6_10 a7_10 a8_10 a9_10 a10_10 a1_11 a2_11 a3_11 a4_11 a5_11 a6_11 a7_11 a8_11 a9_11 a10_11 a11_11 a1_12 a2_12 a3_12 a4_12 a5_12 a6_12 a7_12 a8_12 a9_12 a10_12 a11_12 a12_12
    refine ⟨_, rfl, _, rfl, m, l, n, 12, rfl, MG, by omega, by decide, by decide, fun r l1 H1 r0 r1 M1 f1' => ?_⟩
    obtain ⟨a, ha, mo⟩ := pick r r0 r1
    refine ⟨D, _, r, .ref a, rfl, rfl, SqL.of (f1'.keep D _ gD nD.1 nD.2), ha, ?_⟩
    obtain ⟨ms, hms, ml1, ml3, msok⟩ := mo
    have am : a ≠ m ∧ a ≠ l := by
      obtain ⟨c, cs, ls, z, dm, dc, dl, _⟩ := MG.ex
      exact ⟨ne_of hms dm (by intro q; cases q), ne_of hms dl (by intro q; cases q)⟩
    have ka : H1 a = some (.tup (ms.map V.int)) := f1'.keep a _ hms am.1 am.2
    have F1 : Fr m l l1 H H1 := fG.trans f1'
    clear pick gD eG sG MG fG hD e12 s12 M12 f12 h12 h11 h10 h9 h8 h7 h6 h5 h4 h3 h2 h1 ha f1' hms
    have lenA : ((ms.map V.int).length : Nat) = ms.length := List.length_map ..
    refine ⟨_, rfl, _, rfl, _, _, rfl, .inr ⟨_, SqT.of ka, rfl⟩, ?_⟩
    refine ⟨m, l1, n + 1, (ms.map V.int).length, rfl, M1, by omega, by omega, by omega, fun N ys l2 H2 hN gN yl yo nm nl M2 f2 => ?_⟩
    have F2 := F1.trans f2
    have ka2 : H2 a = some (.tup (ms.map V.int)) := f2.keep a _ ka am.1 (by
      obtain ⟨c, cs, ls, z, dm, dc, dl, _⟩ := M1.ex
      exact ne_of ka dl (by intro q; cases q))
    refine ⟨_, rfl, N, a, _, _, rfl, SqL.of gN, .inl (.inl ka2), fun D2 hD2 => ?_⟩
    have yl' : ys.length = ms.length := yl.trans lenA
    refine lc_it (walk_zm (xs := ys.map V.str) (ys := ms.map V.int) (n := ms.length) (by simp [yl'])) (fun i H3 => ∃ as : List Addr, as.length = i ∧ Prs H3 as ((ys.zip ms).take i) ∧ (∀ b ∈ as, b ≠ D2) ∧ H3 D2 = some (.lst (as.map V.ref)) ∧ Same H2 H3)
      ⟨[], rfl, .nil, (fun _ hb => nomatch hb), upd_same, Same.upd hD2⟩ (fun i H3 _ ⟨as, _, _, _, _, s3⟩ => ⟨SqL.of (s3 _ _ gN), SqT.of (s3 _ _ ka2)⟩) ?_ ?_
    · rintro i x H3 H4 hi ⟨as, al, pr, nd, gd, s3⟩ ⟨T, x1, x2, rfl, hT, rfl, e1, e2⟩
      have hy : i < ys.length := by omega
      have e1' : x1 = .str ys[i] := by simp [hy] at e1; exact e1.symm
      have e2' : x2 = .int ms[i] := by simp [hi] at e2; exact e2.symm
      subst e1' e2'
      refine ⟨T, _, rfl, .inl (.inl upd_same), rfl, _, _, rfl, _, _, rfl, rfl, rfl, tyes ?_⟩
      refine ⟨_, rfl, _, rfl, (by show 2 ≤ sizeLine; decide), fun p hp => ?_⟩
      have sT : Same H3 (upd H3 T (.tup [.str ys[i], .int ms[i]])) := Same.upd hT
      have sp : Same (upd H3 T (.tup [.str ys[i], .int ms[i]])) (upd (upd H3 T (.tup [.str ys[i], .int ms[i]])) p (.tup [.str ys[i], .int ms[i]])) := Same.upd hp
      have nDp : p ≠ D2 := fun e => by rw [e, sT _ _ gd] at hp; cases hp
      refine ⟨_, sp _ _ (sT _ _ gd), small1000 (by rw [List.length_map]; omega), as ++ [p], by simp [al], ?_, ?_, ?_, ?_⟩
      · rw [List.take_succ]
        have ez : (ys.zip ms)[i]? = some (ys[i], ms[i]) := by rw [List.getElem?_zip_eq_some]; exact ⟨List.getElem?_eq_getElem hy, List.getElem?_eq_getElem hi⟩
        rw [ez]
        refine Prs.snoc (Prs.same (fun b o hb e => ?_) pr) ?_
        · rw [upd_ne (nd b hb)]; exact sp _ _ (sT _ _ e)
        · rw [upd_ne nDp, upd_same]
      · intro b hb
        rcases List.mem_append.mp hb with hb | hb
        · exact nd b hb
        · rw [List.mem_singleton.mp hb]; exact nDp
      · rw [upd_same, List.map_append]; rfl
      · intro b o e
        have nb : b ≠ D2 := ne_of_none e hD2
        rw [upd_ne nb]; exact sp _ _ (sT _ _ (s3 _ _ e))
    · rintro H3 ⟨as, al, pr, nd, gd, s3⟩
      have lz : (ys.zip ms).length = ms.length := by simp [yl']
      rw [List.take_of_length_le (by omega)] at pr
      refine ⟨D2, _, rfl, .inl ⟨SqL.of gd, fun p hp => ?_⟩⟩
      have sp : Same H3 (upd H3 p (.tup (as.map V.ref))) := Same.upd hp
      refine q p as (ys.zip ms) l2 _ upd_same (pr.same fun b o _ e => sp b o e) (by omega) (by omega) (fun y hy => ?_) ((((M2.same s3).same sp)).mono (by omega)) ((F2.trail s3).trail sp)
      have := List.of_mem_zip hy
      exact ⟨yo _ this.1, msok _ this.2⟩
end
end Ms
namespace Ms
open PySem PySem.Spec PyProof.Rows L2
abbrev big : Nat := 10 ^ 30
def gdB (B a b : Nat) (d : PyData) : Bool := okD B d && (decide (d.weight ≤ a) && decide (d.depth ≤ b))
theorem gd_of {B a b : Nat} {d : PyData} (h : gdB B a b d = true) : Gd B a b d := by
  unfold gdB at h
  simp only [Bool.and_eq_true, decide_eq_true_eq] at h
  exact ⟨h.1, h.2.1, h.2.2⟩
end Ms
namespace Ms
open PySem PySem.Spec PyProof.Rows L2
/-! ### two rules over tuples -/
/-- t == (), whatever the items are -/
theorem op_eq_nil {X : Cx} (hu : X.A.units + 64 < cLine) : OpR X (compareOp .Eq) (fun x y H Q => ∃ a b xs, x = .ref a ∧ y = .ref b ∧ SqT X.K H a xs ∧ SqT X.K H b [] ∧ Q (.bl (xs.length == 0)) H) := by
  intro pins s σ H x y v u Q I rx ry h
  obtain ⟨a, b, xs, rfl, rfl, ha, hb, q⟩ := h
  cases rx
  cases ry
  obtain ⟨its, r1, p1, _⟩ := I.tuple ha
  obtain ⟨its2, r2, p2, _⟩ := I.tuple hb
  cases r2
  have hl := r1.length
  refine SeqAt.eq_tupleAt (e := fun _ => true) p1 p2 (by omega) (fun j h1 h2 => by simp at h2) ?_
  refine ⟨.bl _, H, I, rfl, ?_⟩
  have e : ((List.range (min its.toArray.size ([] : List Value).toArray.size)).all (fun _ => true) && its.toArray.size == ([] : List Value).toArray.size) = (xs.length == 0) := by
    rw [hl]; simp
  rw [e]; exact q
section
variable {prog : Program} {w : World} {A : Around} {E : Value → Shared → Prop} {s : Shared}
theorem places_rev (n : Nat) : Builtin.Slice.slicePlaces ((n : Int) - 1) (-1) (-1) = n := by
  unfold Builtin.Slice.slicePlaces
  have h1 : ¬ ((-1 : Int) > 0) := by decide
  have h2 : (- -1 : Int) = 1 := by decide
  simp only [h1, if_false, h2, Int.ediv_one]
  split <;> omega
theorem applied_rev {sl : Addr} {vs : Value} {n : Nat} {Q : Int × Int × Nat → Shared → Prop} (hs : s.heap.IsSliceOf sl .none .none vs) (ps : IsPart vs (some (-1)))
    (h : Q ((n : Int) - 1, -1, n) s) : wpAny (model prog w) A (Builtin.Slice.sliceApplied (.ref sl) (pure (n : Int))) Q E s := by
  obtain ⟨os, hos, hcs, hds⟩ := id hs
  unfold Builtin.Slice.sliceApplied Builtin.Slice.sliceFields
  refine wpAny_bind (wpAny_bind (wpAny_field hos hds (x := .none) rfl (wpAny_bind (wpAny_field hos hds (x := .none) rfl (wpAny_bind (wpAny_field hos hds (x := vs) rfl (wpAny_pure ?_)))))))
  refine wpAny_bind (HT.slicePart_ ps ?_)
  show wpAny _ _ (if ((-1 : Int) == 0) = true then _ else _) _ _ s
  rw [if_neg (by decide)]
  refine wpAny_bind (HT.slicePart_ .none (wpAny_bind (HT.slicePart_ .none (wpAny_bind (wpAny_pure ?_)))))
  show wpAny _ _ (pure ((n : Int) - 1, (-1 : Int), Builtin.Slice.slicePlaces ((n : Int) - 1) (-1) (-1))) _ _ s
  rw [places_rev]
  exact wpAny_pure h
theorem pick_rev (xs : Array Value) : ((List.range xs.size).filterMap fun (m : Nat) => xs[((xs.size : Int) - 1 + (m : Int) * (-1)).toNat]?).toArray = xs.toList.reverse.toArray := by
  have e : (List.range xs.size).filterMap (fun (m : Nat) => xs[((xs.size : Int) - 1 + (m : Int) * (-1)).toNat]?) = ((List.range xs.size).map fun k => xs.size - 1 - k).filterMap (xs[·]?) := by
    have g : ∀ (f : Nat → Option Value), (List.range xs.size).filterMap f = ((List.range xs.size).map f).filterMap id := fun f => by rw [List.filterMap_map]; rfl
    rw [List.filterMap_map, g, g]
    refine congrArg (List.filterMap id) (List.map_congr_left fun m hm => ?_)
    have := List.mem_range.mp hm
    have q : ((xs.size : Int) - 1 + (m : Int) * (-1)).toNat = xs.size - 1 - m := by omega
    show _ = xs[xs.size - 1 - m]?
    rw [q]
  rw [e, PySem.W.krv_range, List.filterMap_reverse, PySem.W.krv_all]
theorem getItem_tuple_rev {t sl : Addr} {items : Array Value} {vs : Value} {Q : Value → Shared → Prop} (ht : IsTup s.heap t items) (hs : s.heap.IsSliceOf sl .none .none vs) (ps : IsPart vs (some (-1)))
    (h : Q (.ref s.heap.objs.size) { s with heap := s.heap.push { cls := .type "tuple", data := .seq items.toList.reverse.toArray } })
    (hsz : items.size ≤ sizeLine) : wpAny (model prog w) A (getItem (.ref t) (.ref sl)) Q E s := by
  have hrev : sizeOk (.seq items.toList.reverse.toArray) := by
    show items.toList.reverse.toArray.size ≤ sizeLine
    simpa using hsz
  obtain ⟨os, hos, hcs, hds⟩ := id hs
  have hTs : s.TypeIs (.ref sl) "slice" := ⟨os, hos, hcs⟩
  have seq : ∀ {Q : Value → Shared → Prop}, wpAny (model prog w) A.in1 (Builtin.«tuple.__getitem__» ⟨[.ref t, .ref sl], []⟩) (fun fin s' => ∃ v, fin = .done (.ret v) ∧ Q v s') E s → wpAny (model prog w) A (getItem (.ref t) (.ref sl)) Q E s := fun {Q} run => by
    unfold getItem
    first | with_reducible apply wpAny_holding | skip
    first | refine wpAny_bind (wpAny_pure (wpAny_bind (wpAny_sequenceKey ht.typeIs (by decide) ?_))) | refine wpAny_bind (wpAny_sequenceKey ht.typeIs (by decide) ?_)
    exact wpAny_bind (wpAny_callSpecial?_slot (name := Str.ofString "__getitem__") ht.typeIs PyProof.Rows.slot_tuple_getitem (wpAny_call_entry PyProof.Rows.slot_tuple_getitem ht.typeIs PyProof.Rows.entry_tuple_getitem (wpAny_mono run (fun fin s1 ⟨v, e, q⟩ => ⟨v, e, wpAny_pure q⟩) (fun _ _ x => x)) (PyProof.Rows.args_tuple_getitem _ _)))
  refine seq ?_
  show wpAny _ _ (Builtin.Tuple.tupleItemsOf (.ref t) >>= _) _ _ s
  refine wpAny_bind (PyProof.Rows.tupleItemsOf_ ht ?_)
  refine wpAny_bind (wpAny_typeOf hTs ?_)
  rw [if_pos (by decide)]
  refine wpAny_bind (applied_rev hs ps ?_)
  have hno : ¬ ((((items.size : Int) - 1) == 0 && (-1 : Int) == 1 && items.size == items.size) = true) := by simp
  show wpAny _ _ (if (((items.size : Int) - 1) == 0 && (-1 : Int) == 1 && items.size == items.size) = true then _ else _) _ _ s
  rw [if_neg hno, pick_rev]
  first
    | exact wpAny_bind (m := Builtin.Tuple.tupleExact _) (wpAny_newObj_type (wpAny_pure ⟨_, rfl, h⟩) hrev)
    | exact wpAny_bind (m := Builtin.Tuple.tupleExact _) (wpAny_newObj_type (wpAny_bind (wpAny_pure (wpAny_pure ⟨_, rfl, h⟩))) hrev)
    | exact wpAny_bind (wpAny_bind (m := Builtin.Tuple.tupleExact _) (wpAny_newObj_type (wpAny_pure (wpAny_pure ⟨_, rfl, h⟩)) hrev))
    | exact wpAny_bind (wpAny_bind (m := Builtin.Tuple.tupleExact _) (wpAny_newObj_type (wpAny_pure ⟨_, rfl, h⟩) hrev))
end
/-- t[::-1] -/
def tRevT (K : PySem.W.Frag) (te : TE) : TE := fun σ H Q => te σ H fun x H1 => ∃ a xs, x = .ref a ∧ SqT K H1 a xs ∧ ∀ p, H1 p = none → Q (.ref p) (upd H1 p (.tup xs.reverse))
theorem pe_revT {X : Cx} {e : Expr} {te : TE} {k : Nat} {p1 p2 p3 pos : Pos} (he : PE X e te) : PE X (.Subscript e (.Slice none none (some (.UnaryOp .USub (.Constant (.int 1) k p1) p2)) p3) pos) (tRevT X.K te) := by
  refine ⟨fun pins s σ H Q I h => Subscript_ (thn (he.run pins s σ H _ I h) fun v s1 ⟨x, H1, I1, r1, q1⟩ => ?_)⟩
  obtain ⟨a, xs, ex, hx, q⟩ := q1
  subst ex
  cases r1
  have hst : PO X (some (.UnaryOp .USub (.Constant (.int 1) k p1) p2)) (tPart (tUn (rU fun i => .int (-i)) (tC (.int 1)))) := po_some (pe_un un_neg pe_int)
  refine wpAny_Slice ?_
  rw [evalPart_none]
  refine wpAny_pure ?_
  refine wpAny_pure ?_
  refine thn (hst.run pins s1 σ H1 (fun o H4 => o = some (-1) ∧ H4 = H1) I1 ⟨1, rfl, -1, rfl, rfl, rfl⟩) fun vs s4 ⟨o, H4, I4, ps, eo, e4⟩ => ?_
  subst eo e4
  have I5 : L2.Inv X pins σ H4 { s4 with heap := s4.heap.push { cls := .type "slice", data := .fields #[.none, .none, vs] } } := I4.kept (t' := s4.toks) fun b ob q => Heap.get?_push_of_some _ q
  obtain ⟨its, r, ht, hz⟩ := I5.tuple hx
  have hlen := r.length
  show wpAny (model X.prog X.w) X.A (subscriptTail e (.Slice none none (some (.UnaryOp .USub (.Constant (.int 1) k p1) p2)) p3) (.ref a) (.ref s4.heap.objs.size)) (EP X pins σ Q) X.xe { s4 with heap := s4.heap.push { cls := .type "slice", data := .fields #[.none, .none, vs] } }
  refine tail_any (ops := [.ref a, .ref s4.heap.objs.size]) ht.typeIs PyProof.Rows.slot_tuple_getitem.lookup ?_ (by with_unfolding_all rfl)
  refine getItem_tuple_rev ht (Heap.IsSliceOf.new _ .none .none vs) ps ?_ (by rw [List.size_toArray]; omega)
  refine ⟨.ref _, _, I5.laid (t' := s4.toks) (o := .tup xs.reverse) (fun b ob q => Heap.get?_push_of_some _ q) (Nat.le_refl _) ?_, rfl, q _ (I5.hok.fresh (Nat.le_refl _))⟩
  exact ⟨by rw [List.length_reverse]; exact hz, _, r.reverse, ⟨_, Heap.get?_push_size _ rfl, rfl, _, rfl⟩⟩
/-! ### the kinds of data -/
def tyD : PyData → String
  | .none => "NoneType"
  | .bool _ => "bool"
  | .int _ => "int"
  | .str _ => "str"
  | .list _ => "list"
  | .tuple _ => "tuple"
  | .dict _ => "dict"
theorem Dq.ty {K : PySem.W.Frag} {H : Hp} {m l : Addr} {v : V} {d : PyData} (h : Dq K H m l v d) : TyX K H v (.type (tyD d)) := by
  cases h with
  | non => exact .base .non
  | bl b => exact .base (.bl b)
  | int i => exact .base (.int i)
  | str x => exact .base (.str x)
  | lst e _ _ _ => exact .base (.lst e)
  | dct e _ _ => exact .base (.dK e)
  | tup e _ =>
    rcases e with (e | ⟨o, e⟩) | ⟨o, its, n, e, c, _⟩
    · exact .base (.tup e)
    · exact .fTuple e
    · exact .kTuple e c
theorem isi_str (K : PySem.W.Frag) (d : PyData) : PySem.W.kitOne K (.type (tyD d)) (.type "str") = some (match d with | .str _ => true | _ => false) := by cases d <;> rfl
theorem isi_int (K : PySem.W.Frag) (d : PyData) : PySem.W.kitOne K (.type (tyD d)) (.type "int") = some (match d with | .int _ | .bool _ => true | _ => false) := by cases d <;> rfl
theorem isi_bool (K : PySem.W.Frag) (d : PyData) : PySem.W.kitOne K (.type (tyD d)) (.type "bool") = some (match d with | .bool _ => true | _ => false) := by cases d <;> rfl
theorem isi_tup (K : PySem.W.Frag) (d : PyData) : PySem.W.kitOne K (.type (tyD d)) (.type "tuple") = some (match d with | .tuple _ => true | _ => false) := by cases d <;> rfl
end Ms
namespace Ms
open PySem PySem.Spec PyProof.Rows L2
/-! ### slices and joins of tuples, whole or not -/
theorem Same.seqT {K : PySem.W.Frag} {H H' : Hp} {a : Addr} {xs : List V} (e : Same H H') (h : SqT K H a xs) : SqT K H' a xs := by
  rcases h with (h | ⟨o, h⟩) | h
  · exact .inl (.inl (e _ _ h))
  · exact .inl (.inr ⟨o, e _ _ h⟩)
  · exact .inr h
theorem cutV_whole {xs : List V} {lo hi : Option Int} (h : HT.sIx xs.length 0 lo = 0 ∧ HT.sIx xs.length xs.length hi = xs.length) : cutV xs lo hi = xs := by
  unfold cutV
  rw [h.1, h.2, List.drop_zero, Nat.sub_zero, List.take_length]
theorem slA_any {K : PySem.W.Frag} {H : Hp} {a : Addr} {xs : List V} {lo hi : Option Int} {Q : VK} (h : SqT K H a xs) (q : ∀ (p : Addr) (H' : Hp), Same H H' → SqT K H' p (cutV xs lo hi) → Q (.ref p) H') : rSlA K (.ref a) lo hi H Q :=
  ⟨a, xs, rfl, h, fun w => q a H (fun _ _ e => e) (by rw [cutV_whole w]; exact h), fun _ p hp => q p _ (Same.upd hp) (.inl (.inl upd_same))⟩
theorem catA_any {K : PySem.W.Frag} {H : Hp} {a b : Addr} {xs ys : List V} {Q : VK} (h : SqT K H a xs) (h2 : SqT K H b ys) (hl : xs.length + ys.length ≤ sizeLine) (q : ∀ (p : Addr) (H' : Hp), Same H H' → SqT K H' p (xs ++ ys) → Q (.ref p) H') : rCatA K (.ref a) (.ref b) H Q :=
  ⟨a, b, xs, ys, rfl, rfl, h, h2, hl, fun e => q b H (fun _ _ e => e) (by rw [e]; exact h2), fun _ e => q a H (fun _ _ e => e) (by rw [e, List.append_nil]; exact h), fun _ _ p hp => q p _ (Same.upd hp) (.inl (.inl upd_same))⟩
theorem cut_to {xs : List V} {i : Nat} (h : i ≤ xs.length) : cutV xs none (some (i : Int)) = xs.take i := by
  unfold cutV
  rw [HT.sIx_nat, HT.sIx_none, List.drop_zero, Nat.sub_zero, Nat.min_eq_left h]
theorem cut_from {xs : List V} {i : Nat} (h : i ≤ xs.length) : cutV xs (some (i : Int)) none = xs.drop i := by
  unfold cutV
  rw [HT.sIx_nat, HT.sIx_none, Nat.min_eq_left h]
  exact List.take_of_length_le (by simp)
theorem cut_one {xs : List V} {i : Nat} (h : i < xs.length) : cutV xs (some (i : Int)) (some ((i : Int) + 1)) = (xs.drop i).take 1 := by
  have e : ((i : Int) + 1) = ((i + 1 : Nat) : Int) := by omega
  unfold cutV
  rw [e, HT.sIx_nat, HT.sIx_nat, Nat.min_eq_left (by omega), Nat.min_eq_left (by omega)]
  have : i + 1 - i = 1 := by omega
  rw [this]
theorem cut_from1 {xs : List V} {i : Nat} (h : i < xs.length) : cutV xs (some ((i : Int) + 1)) none = xs.drop (i + 1) := by
  have e : ((i : Int) + 1) = ((i + 1 : Nat) : Int) := by omega
  rw [e]; exact cut_from h
/-! ### lists of data -/
section
variable {K : PySem.W.Frag} {H : Hp} {m l : Addr}
theorem DqAll.app {vs ws : List V} : ∀ {ds es : List PyData}, DqAll K H m l vs ds → DqAll K H m l ws es → DqAll K H m l (vs ++ ws) (ds ++ es) := by
  intro ds
  induction ds generalizing vs with
  | nil => intro es h1 h2; cases h1; exact h2
  | cons d ds ih => intro es h1 h2; cases h1 with | cons a b => exact .cons a (ih b h2)
theorem DqAll.len {vs : List V} : ∀ {ds : List PyData}, DqAll K H m l vs ds → vs.length = ds.length := by
  intro ds
  induction ds generalizing vs with
  | nil => intro h; cases h; rfl
  | cons d ds ih => intro h; cases h with | cons a b => simp [ih b]
theorem DqAll.drop {vs : List V} : ∀ {ds : List PyData} (i : Nat), DqAll K H m l vs ds → DqAll K H m l (vs.drop i) (ds.drop i) := by
  intro ds
  induction ds generalizing vs with
  | nil => intro i h; cases h; simp; exact .nil
  | cons d ds ih =>
    intro i h
    cases h with
    | cons a b =>
      cases i with
      | zero => exact .cons a b
      | succ i => simpa using ih i b
theorem DqAll.take {vs : List V} : ∀ {ds : List PyData} (i : Nat), DqAll K H m l vs ds → DqAll K H m l (vs.take i) (ds.take i) := by
  intro ds
  induction ds generalizing vs with
  | nil => intro i h; cases h; simp; exact .nil
  | cons d ds ih =>
    intro i h
    cases h with
    | cons a b =>
      cases i with
      | zero => simp; exact .nil
      | succ i => simpa using DqAll.cons a (ih i b)
theorem DqAll.rev {vs : List V} : ∀ {ds : List PyData}, DqAll K H m l vs ds → DqAll K H m l vs.reverse ds.reverse := by
  intro ds
  induction ds generalizing vs with
  | nil => intro h; cases h; exact .nil
  | cons d ds ih => intro h; cases h with | cons a b => rw [List.reverse_cons, List.reverse_cons]; exact (ih b).app (.cons a .nil)
end
theorem wA_app : ∀ (xs ys : List PyData), PyData.weightAll (xs ++ ys) = PyData.weightAll xs + PyData.weightAll ys
  | [], ys => by simp [PyData.weightAll]
  | x :: xs, ys => by simp only [List.cons_append, PyData.weightAll, wA_app xs ys]; omega
theorem wA_rev : ∀ (xs : List PyData), PyData.weightAll xs.reverse = PyData.weightAll xs
  | [] => rfl
  | x :: xs => by rw [List.reverse_cons, wA_app, wA_rev xs]; simp only [PyData.weightAll]; omega
theorem wA_split (xs : List PyData) (i : Nat) : PyData.weightAll (xs.take i) + PyData.weightAll (xs.drop i) = PyData.weightAll xs := by
  rw [← wA_app, List.take_append_drop]
theorem wA_len : ∀ (xs : List PyData), xs.length ≤ PyData.weightAll xs
  | [] => Nat.le_refl _
  | x :: xs => by simp only [List.length_cons, PyData.weightAll]; have := wA_len xs; omega
theorem dA_iff {c : Nat} : ∀ {xs : List PyData}, PyData.depthAll xs ≤ c ↔ ∀ x ∈ xs, x.depth ≤ c
  | [] => by simp [PyData.depthAll]
  | x :: xs => by simp only [PyData.depthAll, List.mem_cons, forall_eq_or_imp]; rw [Nat.max_le, dA_iff (xs := xs)]
/-- a list of good data -/
structure Gl' (B w c : Nat) (ds : List PyData) : Prop where
  ok : ∀ d ∈ ds, okD B d = true
  wt : PyData.weightAll ds ≤ w
  dp : ∀ d ∈ ds, d.depth ≤ c
theorem Gd.tup {B a b : Nat} {ds : List PyData} (g : Gl' B a b ds) : Gd B a (b + 1) (.tuple ds) :=
  ⟨by simp only [okD]; exact okAll_iff.mpr g.ok, by simp only [PyData.weight]; exact g.wt, by simp only [PyData.depth]; exact Nat.succ_le_succ (dA_iff.mpr g.dp)⟩
theorem Gd.lst {B a b : Nat} {ds : List PyData} (g : Gl' B a b ds) : Gd B a (b + 1) (.list ds) :=
  ⟨by simp only [okD]; exact okAll_iff.mpr g.ok, by simp only [PyData.weight]; exact g.wt, by simp only [PyData.depth]; exact Nat.succ_le_succ (dA_iff.mpr g.dp)⟩
theorem Gd.untup {B a b : Nat} {ds : List PyData} (g : Gd B a b (.tuple ds)) : ∃ c, b = c + 1 ∧ Gl' B a c ds := by
  obtain ⟨h1, h2, h3⟩ := g
  simp only [okD] at h1
  simp only [PyData.weight] at h2
  simp only [PyData.depth] at h3
  obtain ⟨c, rfl⟩ : ∃ c, b = c + 1 := ⟨b - 1, by omega⟩
  exact ⟨c, rfl, okAll_iff.mp h1, h2, dA_iff.mp (by omega)⟩
section
variable {B a c : Nat} {ds es : List PyData}
theorem Gl'.mono {B' a' c' : Nat} (g : Gl' B a c ds) (h1 : B ≤ B') (h2 : a ≤ a') (h3 : c ≤ c') : Gl' B' a' c' ds :=
  ⟨fun d h => okD_mono h1 d (g.ok d h), Nat.le_trans g.wt h2, fun d h => Nat.le_trans (g.dp d h) h3⟩
theorem Gl'.app {a2 : Nat} (g : Gl' B a c ds) (h : Gl' B a2 c es) : Gl' B (a + a2) c (ds ++ es) :=
  ⟨fun d q => (List.mem_append.mp q).elim (g.ok d) (h.ok d), by rw [wA_app]; have := g.wt; have := h.wt; omega, fun d q => (List.mem_append.mp q).elim (g.dp d) (h.dp d)⟩
theorem Gl'.tk (g : Gl' B a c ds) (i : Nat) : Gl' B (PyData.weightAll (ds.take i)) c (ds.take i) := ⟨fun d q => g.ok d (List.mem_of_mem_take q), Nat.le_refl _, fun d q => g.dp d (List.mem_of_mem_take q)⟩
theorem Gl'.dr (g : Gl' B a c ds) (i : Nat) : Gl' B (PyData.weightAll (ds.drop i)) c (ds.drop i) := ⟨fun d q => g.ok d (List.mem_of_mem_drop q), Nat.le_refl _, fun d q => g.dp d (List.mem_of_mem_drop q)⟩
theorem Gl'.rv (g : Gl' B a c ds) : Gl' B a c ds.reverse := ⟨fun d q => g.ok d (List.mem_reverse.mp q), by rw [wA_rev]; exact g.wt, fun d q => g.dp d (List.mem_reverse.mp q)⟩
theorem Gl'.one {d : PyData} {w : Nat} (g : Gd B w c d) : Gl' B (w + 1) c [d] :=
  ⟨fun x h => by rw [List.mem_singleton.mp h]; exact g.ok, by simp only [PyData.weightAll]; have := g.wt; omega, fun x h => by rw [List.mem_singleton.mp h]; exact g.dp⟩
theorem Gl'.at (g : Gl' B a c ds) {i : Nat} {d : PyData} (h : ds[i]? = some d) : Gd B d.weight c d := ⟨g.ok d (List.mem_of_getElem? h), Nat.le_refl _, g.dp d (List.mem_of_getElem? h)⟩
theorem wA_at {i : Nat} {d : PyData} (h : ds[i]? = some d) : PyData.weightAll (ds.take i) + (d.weight + 1) + PyData.weightAll (ds.drop (i + 1)) = PyData.weightAll ds := by
  have hi : i < ds.length := (List.getElem?_eq_some_iff.mp h).1
  have e : ds[i] = d := (List.getElem?_eq_some_iff.mp h).2
  rw [← wA_split ds i, List.drop_eq_getElem_cons hi, e]
  simp only [PyData.weightAll]
  omega
end
/-! ### texts and numbers -/
theorem Gd.str {B a : Nat} {z : Str} (h : sOk a z) : Gd B a 0 (.str z) := ⟨h.okd, by simp only [PyData.weight]; exact h.1, Nat.le_refl _⟩
theorem Gd.unstr {B a b : Nat} {z : Str} (g : Gd B a b (.str z)) : sOk a z := by
  obtain ⟨h1, h2, _⟩ := g
  simp only [okD, List.all_eq_true, decide_eq_true_eq] at h1
  simp only [PyData.weight] at h2
  exact ⟨h2, h1⟩
theorem mul2 (z : Str) : sOk (2 * z.length) (Txt.mul z 2) ∨ ¬ sOk z.length z := by
  by_cases h : sOk z.length z
  · refine .inl ?_
    unfold Txt.mul
    rw [if_neg (by decide)]
    by_cases e : ((2 : Int) == 1 || z.length == 0) = true
    · rw [if_pos e]; exact h.mono (by omega)
    · rw [if_neg e]
      have q : ((List.replicate (2 : Int).toNat z.cps).foldl (· ++ ·) #[] : Array Nat) = z.cps ++ z.cps := by
        show (#[] ++ z.cps) ++ z.cps = _
        rw [Array.empty_append]
      rw [q]
      have := h.app h
      refine this.mono (by omega)
  · exact .inr h
theorem mul2_ok {a : Nat} {z : Str} (h : sOk a z) : sOk (2 * a) (Txt.mul z 2) := by
  rcases mul2 z with q | q
  · exact q.mono (by have := h.1; omega)
  · exact absurd ⟨Nat.le_refl _, h.2⟩ q
theorem wt_int {i : Int} (h : i.natAbs ≤ 10 ^ 31) : PyData.weight (.int i) ≤ 104 := by
  simp only [PyData.weight]
  split
  · decide
  · rename_i z
    have h1 : i.natAbs < 2 ^ 103 := by
      have e : (10 : Nat) ^ 31 < 2 ^ 103 := by decide
      omega
    have nz : i.natAbs ≠ 0 := by
      intro e
      exact z (by simp; omega)
    have := (Nat.log2_lt nz).mpr h1
    omega
theorem Gd.int {B : Nat} {i : Int} (h : i.natAbs ≤ B) (hB : B ≤ 10 ^ 31) : Gd B 104 0 (.int i) :=
  ⟨by simp only [okD, decide_eq_true_eq]; exact h, wt_int (by omega), Nat.le_refl _⟩
theorem Gd.unint {B a b : Nat} {i : Int} (g : Gd B a b (.int i)) : i.natAbs ≤ B := by
  have := g.ok
  simpa only [okD, decide_eq_true_eq] using this
theorem ite_b {c : Bool} {A B : Prop} (h1 : c = true → A) (h2 : c = false → B) : if c = true then A else B := by
  cases c
  · rw [if_neg Bool.false_ne_true]; exact h2 rfl
  · rw [if_pos rfl]; exact h1 rfl
theorem noPart {σ : L2.St} {H : Hp} {Q : Option Int → Hp → Prop} (h : Q none H) : tNoPart σ H Q := h
end Ms
namespace Ms
open PySem PySem.Spec PyProof.Rows L2
def isWhole (d : PyData) (lo hi : Int) : Bool := match d with | .int i => decide (lo ≤ i) && decide (i ≤ hi) | _ => false
def isName (d : PyData) : Bool := match d with | .str z => (decide (1 ≤ z.length) && decide (z.length ≤ 8)) && z.cps.toList.all fun c => decide (c ∈ alpha.cps.toList) | _ => false
theorem lay_strs : ∀ ys : List Str, (∀ y ∈ ys, PyData.canLay0 (.str y) = true) → PyData.canLayAll0 (ys.map PyData.str) = true
  | [], _ => rfl
  | y :: ys, h => by
    show (PyData.canLay0 (.str y) && PyData.canLayAll0 (ys.map PyData.str)) = true
    rw [lay_strs ys (fun x hx => h x (List.mem_cons_of_mem _ hx)), h y (List.mem_cons_self ..)]; rfl
theorem depth_strs : ∀ ys : List Str, PyData.depthAll (ys.map PyData.str) = 0
  | [] => rfl
  | y :: ys => by
    show max (PyData.depth (.str y)) (PyData.depthAll (ys.map PyData.str)) = 0
    rw [depth_strs ys]; rfl
theorem shaped_strs (ys : List Str) (h : ∀ y ∈ ys, PyData.canLay0 (.str y) = true) : SeqAt.shaped (.list (ys.map PyData.str)) = true := by
  show (PyData.canLayAll0 (ys.map PyData.str) && decide (PyData.depthAll (ys.map PyData.str) + 1 ≤ 64)) = true
  rw [lay_strs ys h, depth_strs]; rfl
theorem dpAll_strs {K : PySem.W.Frag} {H : Hp} : ∀ ys : List Str, DpAll K H (ys.map V.str) (ys.map PyData.str)
  | [] => .nil
  | y :: ys => .cons (.str y) (dpAll_strs ys)
structure TxtQ (mg : Str → Option Value) : Prop where
  isi : mg "isinstance" = none
  int : mg "int" = none
  bool : mg "bool" = none
  str : mg "str" = none
  len : mg "len" = none
def spWhole (K : PySem.W.Frag) : Sp := fun vs H Q _ => ∃ (m l : Addr) (v : V) (d : PyData) (lo hi : Int), vs = [v, .int lo, .int hi] ∧ Dq K H m l v d ∧ Q (.bl (isWhole d lo hi)) H
def spName (K : PySem.W.Frag) : Sp := fun vs H Q _ => ∃ (m l : Addr) (v : V) (d : PyData), vs = [v] ∧ Dq K H m l v d ∧ (∀ z, d = .str z → sOk 100000 z) ∧ ∀ H', Same H H' → Q (.bl (isName d)) H'
end Ms
namespace Ms
open PySem PySem.Spec PyProof.Rows L2
/-! ### enumerate(tuple) over KE's draws -/
def ItET (K : PySem.W.Frag) (a : Addr) : It :=
  ⟨fun i H => ∃ xs : List V, SqT K H a xs ∧ i < xs.length,
    fun i H v H' => ∃ T x, v = .ref T ∧ H T = none ∧ H' = upd H T (.tup [.int (i : Nat), x]) ∧ ∀ xs, SqT K H a xs → xs[i]? = some x,
    fun i H => ∃ xs : List V, SqT K H a xs ∧ i = xs.length⟩
theorem walk_et {K : PySem.W.Frag} {a : Addr} {xs : List V} : Walk (ItET K a) xs.length (fun H => SqT K H a xs) (YPair (fun i => some (.int (i : Nat))) (fun i => xs[i]?)) := by
  refine ⟨fun i _ hi q => ⟨xs, q, hi⟩, fun _ q => ⟨xs, q, rfl⟩, fun i H v H' _ q y => ?_⟩
  obtain ⟨T, x, h1, h2, h3, h4⟩ := y
  exact ⟨T, .int (i : Nat), x, h1, h2, h3, rfl, h4 xs q⟩
abbrev EtSt (a e it : Addr) : Nat → Heap → Prop := fun i h => (∃ old, IsEnum h e it ((0 : Int) + (i : Int)) old) ∧ h.IsTupleIter it a i
theorem turn_et {P : Program} {w : World} {K : PySem.W.Frag} {elts : List Expr} {kk : Nat} {tpos : Pos} {a e it : Addr} (na : a ≠ it) (ne : e ≠ it) (nea : e ≠ a) :
    Turn P w K (.Tuple elts kk tpos) (ItET K a) [e, it] e (EtSt a e it) where
  mem := by simp
  obj := fun i h st b hb => by
    obtain ⟨⟨old, he⟩, ⟨o, ho, hc, hd⟩⟩ := st
    have e' : b = e ∨ b = it := by simpa using hb
    rcases e' with rfl | rfl
    · exact ⟨_, he, fun v q => nomatch q⟩
    · exact ⟨o, ho, fun v q => by rw [hd] at q; cases q⟩
  keep := fun i h h' st k => by
    obtain ⟨⟨old, he⟩, hi⟩ := st
    exact ⟨⟨old, k e (by simp) _ he⟩, hi.at fun o q => k it (by simp) o q⟩
  item := by
    intro X hP hw hK hc i pins s σ H E I hf st hg
    subst hP hw hK
    obtain ⟨xs, hq, hi⟩ := hg
    obtain ⟨its, rv, p, _⟩ := I.tuple hq
    have l1 := rv.length
    have hh : X.A.in1.handled = none := I.ok.hd hc
    have W := GoesN.enumFrom (elts := elts) (x1 := kk) (pos := tpos) 0 (Draws.tuple (prog := X.prog) (w := X.w) hh it a na its.toArray) e ne (by simp [ne, nea]) (by simp)
    have lv : ∀ c ∈ [e, it], c < s.heap.objs.size := fun c hc => by
      obtain ⟨⟨old, he⟩, ⟨o, ho, _⟩⟩ := st
      have e' : c = e ∨ c = it := by simpa using hc
      rcases e' with rfl | rfl
      · exact Heap.lt_size he
      · exact Heap.lt_size ho
    refine W.goes i s (fun u s2 => ∃ x H', L2.Inv X pins σ H' s2 ∧ RelV x u ∧ (ItET X.K a).yld i H x H' ∧ EtSt a e it (i + 1) s2.heap ∧ ∀ b ∈ [e, it], H' b = none) E (by simp; omega) ⟨st.1, st.2, p⟩ fun v h' tk Y st' hk htk => ?_
    obtain ⟨T, t, x, rfl, hT, hx, hI⟩ := Y
    have hxx : xs[i]? = some xs[i] := List.getElem?_eq_getElem hi
    obtain ⟨u, hu, ru⟩ := rv.get hxx
    have ex : x = u := by simp [hu] at hx; exact hx.symm
    subst ex
    have new : ObjOk X.prog X.w (upd H T (.tup [.int (i : Nat), xs[i]])) h' T (.tup [.int (i : Nat), xs[i]]) :=
      ⟨(by show 2 ≤ sizeLine; decide), [.int (0 + (i : Int)) t, x], .cons ⟨t, by rw [Int.zero_add]⟩ (.cons ru .nil), hI⟩
    have I1 : L2.Inv X pins σ (upd H T (.tup [.int (i : Nat), xs[i]])) { s with heap := h', toks := tk } := I.turnedNew (t' := tk) (ch := [e, it]) hk hf hT new
    refine ⟨.ref T, _, I1, rfl, ⟨T, xs[i], rfl, I.hok.fresh hT, rfl, fun ys hy => by rw [I.tuple_inj hy hq]; exact hxx⟩, ⟨st'.1, st'.2.1⟩, fun b hb => ?_⟩
    rw [upd_ne (Nat.ne_of_lt (Nat.lt_of_lt_of_le (lv b hb) hT))]
    exact (hf b hb).1
  done := by
    intro X hP hw hK hc i pins s σ H E I hf st hg
    subst hP hw hK
    obtain ⟨xs, hq, hi⟩ := hg
    obtain ⟨its, rv, p, _⟩ := I.tuple hq
    have l1 := rv.length
    have hh : X.A.in1.handled = none := I.ok.hd hc
    have W := GoesN.enumFrom (elts := elts) (x1 := kk) (pos := tpos) 0 (Draws.tuple (prog := X.prog) (w := X.w) hh it a na its.toArray) e ne (by simp [ne, nea]) (by simp)
    have ei : i = its.toArray.size := by simp; omega
    rw [ei] at st
    exact W.stops s (fun s1 => L2.Inv X pins σ H s1) E ⟨st.1, st.2, p⟩ fun h' tk hk htk => I.turnedL (t' := tk) (ch := [e, it]) hk hf
  self := fun A i s Q E st h => let ⟨⟨_, he⟩, _⟩ := st; wpAny_pyIter_enum he h
def iET (K : PySem.W.Frag) (ta : TA) : TI := fun σ H R => ta σ H fun vs H1 => ∃ a xs, vs = [.ref a] ∧ SqT K H1 a xs ∧ R (ItET K a) H1
set_option maxHeartbeats 1000000 in
/-- enumerate(v), v told by how its iterator begins -/
theorem meets_en1 {v : Value} {o : Obj} {HP : Heap → Prop} (B : Begins v o HP) :
    Meets (Builtin.«enumerate.__new__» ⟨[.type "enumerate", v], []⟩) (fun _ R s => HP s.heap ∧
      R (.ok (.ret (.ref (s.heap.push o).objs.size))) { s with heap := (s.heap.push o).push { cls := .type "enumerate", data := .fields #[.none, .bool false, .ref s.heap.objs.size, rawInt 0, .none, .none] } }) :=
  .of_wp fun prog w A R s h => by
    obtain ⟨hp, g, d, tk, os⟩ := s
    obtain ⟨h1, h⟩ := h
    have hsub := sub_enumerate
    have begins : ∀ {A' : Around} {E : Value → Shared → Prop} {Q : Value → Shared → Prop}, Q (.ref hp.objs.size) ⟨hp.push o, g, d, tk, os⟩ → wpAny (model prog w) A' (pyIter v) Q E ⟨hp, g, d, tk, os⟩ :=
      fun q => B.iter prog w _ _ ⟨hp, g, d, tk, os⟩ _ h1 q
    wp_walk using begins
    refine wpAny_stack_any fun st => wpAny_pure ?_
    split
    · rename_i c _ _ _ _ _
      cases (c == Value.type "enumerate") <;> (wp_walk using begins; exact ⟨_, rfl, h⟩)
    · wp_walk using begins
      exact ⟨_, rfl, h⟩
theorem pi_et {X : Cx} {e : Expr} {ta : TA} {p pos tpos : Pos} {elts : List Expr} {kk : Nat} (hg : Gl X "enumerate") (hm : X.mg "enumerate" = none) (ha : PA X [e] ta) (hs : starEach [e] X.env = [(false, eval e X.env)] := by rfl) :
    PI X (.Tuple elts kk tpos) (.Call (.Name "enumerate" p) [e] [] pos) (iET X.K ta) := by
  refine ⟨fun pins s σ H R I h => Call_ (ld_blt I hg hm boot_enumerate (PyProof.Rows.callWith_type1 (thn (ha.run pos pins s σ H _ I h) fun us s1 ⟨vs, H1, I1, r1, q1⟩ => ?_) hs rfl))⟩
  obtain ⟨a, xs, ex, hq, q⟩ := q1
  subst ex
  obtain ⟨u, rfl, ru⟩ := vals1 r1
  cases ru
  obtain ⟨its, rv, p1, _⟩ := I1.tuple hq
  obtain ⟨oa, hoa, _⟩ := id p1
  have la : a < s1.heap.objs.size := Heap.lt_size hoa
  refine callType_new F.called_enumerate (by decide) (F.typeCall_enumerate_1 _) (F.newCall_enumerate_1 _) (fun obj => F.args_object_init_2 obj _) F.entry_enumerate_new (meets_en1 (begins_tuple a its.toArray)) ⟨p1, ?_⟩
  obtain ⟨oi, hoi⟩ : ∃ oi : Obj, oi = { cls := .type "tuple_iterator", data := .fields #[.ref a, .int 0 0] } := ⟨_, rfl⟩
  obtain ⟨oe, hoe⟩ : ∃ oe : Obj, oe = { cls := .type "enumerate", data := .fields #[.none, .bool false, .ref s1.heap.objs.size, rawInt 0, .none, .none] } := ⟨_, rfl⟩
  rw [← hoi, ← hoe]
  have hz : (s1.heap.push oi).objs.size = s1.heap.objs.size + 1 := Heap.size_push ..
  have ge : ((s1.heap.push oi).push oe).get? (s1.heap.objs.size + 1) = some oe := by
    have := Heap.get?_push_size (s1.heap.push oi) (o := oe) (by rw [hoe]; rfl)
    rw [hz] at this; exact this
  have gi : ((s1.heap.push oi).push oe).get? s1.heap.objs.size = some oi := Heap.get?_push_of_some _ (Heap.get?_push_size _ (by rw [hoi]; rfl))
  have hk : ∀ b o, s1.heap.get? b = some o → ((s1.heap.push oi).push oe).get? b = some o := fun b o x => Heap.get?_push_of_some _ (Heap.get?_push_of_some _ x)
  show _ ∧ _
  rw [hz]
  have he : IsEnum ((s1.heap.push oi).push oe) (s1.heap.objs.size + 1) s1.heap.objs.size 0 .none := ge.trans (by rw [hoe])
  refine ⟨⟨_, ge, by rw [hoe]⟩, wpAny_pyIter_enum he ?_⟩
  have I2 : L2.Inv X pins σ H1 { s1 with heap := (s1.heap.push oi).push oe } := I1.kept (t' := s1.toks) hk
  have n1 : s1.heap.objs.size + 1 ≠ s1.heap.objs.size := Nat.succ_ne_self _
  have n2 : s1.heap.objs.size + 1 ≠ a := Nat.ne_of_gt (Nat.lt_succ_of_lt la)
  refine ⟨s1.heap.objs.size + 1, [s1.heap.objs.size + 1, s1.heap.objs.size], EtSt a (s1.heap.objs.size + 1) s1.heap.objs.size, ItET X.K a, H1, rfl, I2, turn_et (Nat.ne_of_lt la) n1 n2, ⟨⟨.none, he⟩, ⟨oi, gi, by rw [hoi], by rw [hoi]; rfl⟩⟩, fun c hc => ?_, q⟩
  have e' : c = s1.heap.objs.size + 1 ∨ c = s1.heap.objs.size := by simpa using hc
  have hle : s1.heap.objs.size ≤ c := by
    rcases e' with e | e
    · rw [e]; exact Nat.le_succ _
    · rw [e]; exact Nat.le_refl _
  exact I1.fpOk hle (I1.hok.fresh hle)
end Ms
namespace Ms
open PySem PySem.Spec PyProof.Rows L2
/-! ### enumerate(list, start=k) -/
def ItEL (K : PySem.W.Frag) (k : Int) (a : Addr) : It :=
  ⟨fun i H => ∃ xs : List V, SqL K H a xs ∧ i < xs.length,
    fun i H v H' => ∃ T x, v = .ref T ∧ H T = none ∧ H' = upd H T (.tup [.int (k + (i : Int)), x]) ∧ ∀ xs, SqL K H a xs → xs[i]? = some x,
    fun i H => ∃ xs : List V, SqL K H a xs ∧ i = xs.length⟩
theorem walk_el {K : PySem.W.Frag} {k : Int} {a : Addr} {xs : List V} : Walk (ItEL K k a) xs.length (fun H => SqL K H a xs) (YPair (fun i => some (.int (k + (i : Int)))) (fun i => xs[i]?)) := by
  refine ⟨fun i _ hi q => ⟨xs, q, hi⟩, fun _ q => ⟨xs, q, rfl⟩, fun i H v H' _ q y => ?_⟩
  obtain ⟨T, x, h1, h2, h3, h4⟩ := y
  exact ⟨T, .int (k + (i : Int)), x, h1, h2, h3, rfl, h4 xs q⟩
abbrev ElSt (k : Int) (a e it : Addr) : Nat → Heap → Prop := fun i h => (∃ old, IsEnum h e it (k + (i : Int)) old) ∧ h.IsListIter it a i
theorem turn_el {P : Program} {w : World} {K : PySem.W.Frag} {elts : List Expr} {kk : Nat} {tpos : Pos} {k : Int} {a e it : Addr} (na : a ≠ it) (ne : e ≠ it) (nea : e ≠ a) :
    Turn P w K (.Tuple elts kk tpos) (ItEL K k a) [e, it] e (ElSt k a e it) where
  mem := by simp
  obj := fun i h st b hb => by
    obtain ⟨⟨old, he⟩, ⟨o, ho, hc, hd⟩⟩ := st
    have e' : b = e ∨ b = it := by simpa using hb
    rcases e' with rfl | rfl
    · exact ⟨_, he, fun v q => nomatch q⟩
    · exact ⟨o, ho, fun v q => by rw [hd] at q; cases q⟩
  keep := fun i h h' st k => by
    obtain ⟨⟨old, he⟩, hi⟩ := st
    exact ⟨⟨old, k e (by simp) _ he⟩, hi.at fun o q => k it (by simp) o q⟩
  item := by
    intro X hP hw hK hc i pins s σ H E I hf st hg
    subst hP hw hK
    obtain ⟨xs, hq, hi⟩ := hg
    obtain ⟨its, rv, p, _⟩ := I.list hq
    have l1 := rv.length
    have hh : X.A.in1.handled = none := I.ok.hd hc
    have W := GoesN.enumFrom (elts := elts) (x1 := kk) (pos := tpos) k (Draws.list (prog := X.prog) (w := X.w) hh it a na its.toArray) e ne (by simp [ne, nea]) (by simp)
    have lv : ∀ c ∈ [e, it], c < s.heap.objs.size := fun c hc => by
      obtain ⟨⟨old, he⟩, ⟨o, ho, _⟩⟩ := st
      have e' : c = e ∨ c = it := by simpa using hc
      rcases e' with rfl | rfl
      · exact Heap.lt_size he
      · exact Heap.lt_size ho
    refine W.goes i s (fun u s2 => ∃ x H', L2.Inv X pins σ H' s2 ∧ RelV x u ∧ (ItEL X.K k a).yld i H x H' ∧ ElSt k a e it (i + 1) s2.heap ∧ ∀ b ∈ [e, it], H' b = none) E (by simp; omega) ⟨st.1, st.2, p.isList⟩ fun v h' tk Y st' hk htk => ?_
    obtain ⟨T, t, x, rfl, hT, hx, hI⟩ := Y
    have hxx : xs[i]? = some xs[i] := List.getElem?_eq_getElem hi
    obtain ⟨u, hu, ru⟩ := rv.get hxx
    have ex : x = u := by simp [hu] at hx; exact hx.symm
    subst ex
    have new : ObjOk X.prog X.w (upd H T (.tup [.int (k + (i : Int)), xs[i]])) h' T (.tup [.int (k + (i : Int)), xs[i]]) :=
      ⟨(by show 2 ≤ sizeLine; decide), [.int (k + (i : Int)) t, x], .cons ⟨t, rfl⟩ (.cons ru .nil), hI⟩
    have I1 : L2.Inv X pins σ (upd H T (.tup [.int (k + (i : Int)), xs[i]])) { s with heap := h', toks := tk } := I.turnedNew (t' := tk) (ch := [e, it]) hk hf hT new
    refine ⟨.ref T, _, I1, rfl, ⟨T, xs[i], rfl, I.hok.fresh hT, rfl, fun ys hy => by rw [I.list_inj hy hq]; exact hxx⟩, ⟨st'.1, st'.2.1⟩, fun b hb => ?_⟩
    rw [upd_ne (Nat.ne_of_lt (Nat.lt_of_lt_of_le (lv b hb) hT))]
    exact (hf b hb).1
  done := by
    intro X hP hw hK hc i pins s σ H E I hf st hg
    subst hP hw hK
    obtain ⟨xs, hq, hi⟩ := hg
    obtain ⟨its, rv, p, _⟩ := I.list hq
    have l1 := rv.length
    have hh : X.A.in1.handled = none := I.ok.hd hc
    have W := GoesN.enumFrom (elts := elts) (x1 := kk) (pos := tpos) k (Draws.list (prog := X.prog) (w := X.w) hh it a na its.toArray) e ne (by simp [ne, nea]) (by simp)
    have ei : i = its.toArray.size := by simp; omega
    rw [ei] at st
    exact W.stops s (fun s1 => L2.Inv X pins σ H s1) E ⟨st.1, st.2, p.isList⟩ fun h' tk hk htk => I.turnedL (t' := tk) (ch := [e, it]) hk hf
  self := fun A i s Q E st h => let ⟨⟨_, he⟩, _⟩ := st; wpAny_pyIter_enum he h
def iEL (K : PySem.W.Frag) (k : Int) (ta : TA) : TI := fun σ H R => ta σ H fun vs H1 => ∃ a xs, vs = [.ref a] ∧ SqL K H1 a xs ∧ R (ItEL K k a) H1
/-- a class of the built-in ones called with keywords -/
theorem callWith_typeKw {M : Model} {A : Around} {E : Value → Shared → Prop} {s : Shared} {env : Env} {pos : Pos} {T : String} {e : Expr} {rest : List Expr} {kws : List Keyword} {Q : Value → Shared → Prop}
    (h : wpAny M A (spliced (backTo pos (starEach (e :: rest) env))) (fun vs s₁ => wpAny M A (evalAll ((backToKw pos (keywordEach kws env)).map (·.2)))
      (fun ks s₂ => wpAny M A (call (.type T) vs (((backToKw pos (keywordEach kws env)).filterMap (·.1)).zip ks)) Q E s₂) E s₁) E s)
    (he : starEach (e :: rest) env = (false, eval e env) :: starEach rest env := by rfl) (hp : (backTo pos (starEach (e :: rest) env)).any (·.1) = false := by rfl)
    (ha : (backToKw pos (keywordEach kws env)).all (·.1.isSome) = true := by rfl) (hk : (backToKw pos (keywordEach kws env)).any (·.1.isNone) = false := by rfl) :
    wpAny M A (callWith pos (.type T) [] (backTo pos (starEach (e :: rest) env)) (backToKw pos (keywordEach kws env))) Q E s := by
  unfold callWith
  refine wpAny_bind (wpAny_holding (wpAny_mono (evalArgs_kw2 (Q := fun a s₁ => wpAny M A (call (.type T) ([] ++ a.pos) a.kw) Q E s₁) ha h he) (fun a s₁ h₁ => wpAny_bind (wpAny_standAt ?_)) fun _ _ x => x))
  simp only [hp, hk, Bool.or_false]; refine wpAny_bind (wpAny_pure ?_)
  exact wpAny_bind (wpAny_mono h₁ (fun r s₂ hr => wpAny_bind (wpAny_holding (wpAny_point (wpAny_pure hr)))) fun _ _ x => x)
theorem pi_es {X : Cx} {e : Expr} {ta : TA} {p pos tpos cp kp : Pos} {elts : List Expr} {kk j : Nat} {k : Int} (hk0 : -(2 ^ 63) ≤ k) (hk1 : k < 2 ^ 63) (hg : Gl X "enumerate") (hm : X.mg "enumerate" = none) (ha : PA X [e] ta) (hs : starEach [e] X.env = (false, eval e X.env) :: starEach [] X.env := by rfl) :
    PI X (.Tuple elts kk tpos) (.Call (.Name "enumerate" p) [e] [⟨some "start", .Constant (.int k) j cp, kp⟩] pos) (iEL X.K k ta) := by
  refine ⟨fun pins s σ H R I h => wpAny_Call_Name_kw (ld_blt I hg hm boot_enumerate (callWith_typeKw (thn (ha.run pos pins s σ H _ I h) fun us s1 ⟨vs, H1, I1, r1, q1⟩ => ?_) hs (by rw [hs]; rfl)))⟩
  obtain ⟨a, xs, ex, hq, q⟩ := q1
  subst ex
  obtain ⟨u, rfl, ru⟩ := vals1 r1
  cases ru
  obtain ⟨its, rv, p1, _⟩ := I1.list hq
  obtain ⟨oa, hoa, _⟩ := p1.isList
  have la : a < s1.heap.objs.size := Heap.lt_size hoa
  refine PyProof.Rows.kws_cons (wpAny_Constant_int (PyProof.Rows.kws_nil ?_))
  have It := I1.tok (s1.toks + 1)
  refine enum_begins_start (s := { s1 with toks := s1.toks + 1 }) (begins_list a its.toArray) p1.isList hk0 hk1 fun h' he hi hz hk => wpAny_pyIter_enum he ?_
  have I2 : L2.Inv X pins σ H1 { s1 with heap := h', toks := s1.toks + 1 } := It.kept (t' := s1.toks + 1) hk
  have n1 : s1.heap.objs.size + 1 ≠ s1.heap.objs.size := Nat.succ_ne_self _
  have n2 : s1.heap.objs.size + 1 ≠ a := Nat.ne_of_gt (Nat.lt_succ_of_lt la)
  refine ⟨s1.heap.objs.size + 1, [s1.heap.objs.size + 1, s1.heap.objs.size], ElSt k a (s1.heap.objs.size + 1) s1.heap.objs.size, ItEL X.K k a, H1, rfl, I2, turn_el (Nat.ne_of_lt la) n1 n2, ⟨⟨.none, by rw [show k + ((0 : Nat) : Int) = k from Int.add_zero k]; exact he⟩, ⟨_, hi, rfl, rfl⟩⟩, fun c hc => ?_, q⟩
  have e' : c = s1.heap.objs.size + 1 ∨ c = s1.heap.objs.size := by simpa using hc
  have hle : s1.heap.objs.size ≤ c := by
    rcases e' with e | e
    · rw [e]; exact Nat.le_succ _
    · rw [e]; exact Nat.le_refl _
  exact I1.fpOk hle (I1.hok.fresh hle)
/-! ### max(list of ints, default=0) -/
def maxL : List Int → Int
  | [] => 0
  | n :: ns => ns.foldl max n
def tMaxD (K : PySem.W.Frag) (ta : TA) : TE := fun σ H Q => ta σ H fun vs H1 => ∃ a ns, vs = [.ref a] ∧ SqL K H1 a (ns.map V.int) ∧ Q (.int (maxL ns)) H1
theorem alike_ints (ns : List Int) : PySem.W.AlikeAll (ns.map PyData.int) := by
  refine ⟨fun x hx y hy => ?_, fun x hx => ?_⟩
  · obtain ⟨i, _, rfl⟩ := List.mem_map.mp hx
    obtain ⟨j, _, rfl⟩ := List.mem_map.mp hy
    rfl
  · obtain ⟨i, _, rfl⟩ := List.mem_map.mp hx
    exact fun e => nomatch e
theorem depth_isT : ∀ ns : List Int, PyData.depthAll (ns.map PyData.int) = 0
  | [] => rfl
  | _ :: ns => by
    have := depth_isT ns
    simp only [List.map_cons, PyData.depthAll, PyData.depth, this, Nat.max_self]
theorem reads_ints {h : Heap} : ∀ {ns : List Int} {us : List Value}, Vals (ns.map V.int) us → ∃ as, ReadsAll h us (ns.map PyData.int) as
  | [], _, .nil => ⟨_, .nil⟩
  | n :: ns, _, .cons r t => by
    obtain ⟨k, rfl⟩ := r
    obtain ⟨as, ra⟩ := reads_ints (h := h) t
    exact ⟨_, .cons (.int n k) ra⟩
theorem pe_maxD {X : Cx} {e : Expr} {ta : TA} {p pos cp kp : Pos} {j : Nat} (hc : X.calm = true) (hu : X.A.units + 64 < cLine) (hg : Gl X "max") (hm : X.mg "max" = none) (ha : PA X [e] ta) (hs : starEach [e] X.env = (false, eval e X.env) :: starEach [] X.env := by rfl) :
    PE X (.Call (.Name "max" p) [e] [⟨some "default", .Constant (.int 0) j cp, kp⟩] pos) (tMaxD X.K ta) := by
  refine ⟨fun pins s σ H Q I h => wpAny_Call_Name_kw (ld_blt I hg hm (by decide +kernel : bootBuiltins "max" = some (.builtin "max")) (PyProof.Rows.callWith_kw (thn (ha.run pos pins s σ H _ I h) fun us s1 ⟨vs, H1, I1, r1, q1⟩ => ?_) (by rw [hs]; rfl) (by rw [hs]; rfl)))⟩
  obtain ⟨a, ns, ex, hq, q⟩ := q1
  subst ex
  obtain ⟨u, rfl, ru⟩ := vals1 r1
  cases ru
  obtain ⟨its, rv, p1, _⟩ := I1.list hq
  obtain ⟨as, ra⟩ := reads_ints (h := s1.heap) rv
  refine PyProof.Rows.kws_cons (wpAny_Constant_int (PyProof.Rows.kws_nil ?_))
  refine PySem.W.max_list_default (s := { s1 with toks := s1.toks + 1 }) (I1.ok.hd hc) p1.isList ra (alike_ints ns) (by rw [depth_isT]; omega) (fun e h' tk hk => ?_) fun y ys i v h' tk bs e hv hr hk => ?_
  · have : ns = [] := by simpa using e
    subst this
    exact ⟨.int 0, H1, I1.kept (t' := tk) hk, ⟨_, rfl⟩, q⟩
  · match ns, e with
    | n :: ns, e =>
      simp only [List.map_cons, List.cons.injEq] at e
      obtain ⟨rfl, rfl⟩ := e
      rw [PySem.W.maxD_ints] at hr
      cases hr with
      | int _ _ => exact ⟨.int (maxL (n :: ns)), H1, I1.kept (t' := tk) hk, ⟨_, rfl⟩, q⟩
end Ms
namespace Ms
open PySem PySem.Spec PyProof.Rows L2
/-! ### _law_due -/
/-- a good pair -/
def oneD : PyData → Option (Str × Int)
  | .tuple [.str z, .int c] => if (isName (.str z) && isWhole (.int c) 1 3) = true then some (z, c) else none
  | _ => none
def dueGo : Nat → List Str → Int → List PyData → Sum Nat Int
  | _, _, many, [] => .inr many
  | p, seen, many, d :: ds => match oneD d with
    | none => .inl p
    | some (z, c) => if z ∈ seen then .inl p else dueGo (p + 1) (seen ++ [z]) (many * (c + 1)) ds
def bad (d : PyData) : PyData := .tuple [.str "settings", d]
def dueD (d : PyData) : PyData := match d with
  | .tuple ds => if 1 ≤ ds.length ∧ ds.length ≤ 3 then (match dueGo 0 [] 1 ds with | .inl p => bad (.int p) | .inr many => if many ≤ 12 then .list [d] else bad (.str "many")) else bad .none
  | _ => bad .none
theorem oneD_name {d0 d1 : PyData} (h : isName d0 = false) : oneD (.tuple [d0, d1]) = none := by
  cases d0 <;> cases d1 <;> first | rfl | (simp only [oneD]; rw [h]; rfl)
theorem oneD_whole {d0 d1 : PyData} (h : isWhole d1 1 3 = false) : oneD (.tuple [d0, d1]) = none := by
  cases d0 <;> cases d1 <;> first | rfl | (simp only [oneD]; rw [h, Bool.and_false]; rfl)
theorem oneD_len {es : List PyData} (h : es.length ≠ 2) : oneD (.tuple es) = none := by
  match es, h with
  | [], _ => rfl
  | [x], _ => cases x <;> rfl
  | [_, _], h => exact absurd rfl h
  | x :: y :: z :: r, _ => cases x <;> cases y <;> rfl
theorem oneD_ok {d0 d1 : PyData} (h : isName d0 = true) (h1 : isWhole d1 1 3 = true) : ∃ z c, d0 = .str z ∧ d1 = .int c ∧ 1 ≤ c ∧ c ≤ 3 ∧ oneD (.tuple [d0, d1]) = some (z, c) := by
  cases d0 with
  | str z =>
    cases d1 with
    | int c =>
      refine ⟨z, c, rfl, rfl, ?_, ?_, by simp only [oneD]; rw [h, h1]; rfl⟩
      · have := (Bool.and_eq_true _ _ ▸ h1 : _ ∧ _).1
        exact of_decide_eq_true this
      · have := (Bool.and_eq_true _ _ ▸ h1 : _ ∧ _).2
        exact of_decide_eq_true this
    | _ => exact absurd h1 (by simp [isWhole])
  | _ => exact absurd h (by simp [isName])
theorem inV_str (z : Str) (ys : List Str) : inV (.str z) (ys.map V.str) = decide (z ∈ ys) := by
  unfold inV
  rw [List.any_map]
  rw [Bool.eq_iff_iff]
  simp only [List.any_eq_true, Function.comp, eqV, beq_iff_eq, decide_eq_true_eq]
  constructor
  · rintro ⟨y, hy, rfl⟩; exact hy
  · intro h; exact ⟨z, h, rfl⟩
end Ms
namespace Ms
open PySem PySem.Spec PyProof.Rows L2
/-! ### data keeps while the heap grows -/
mutual
theorem Dq.same {K : PySem.W.Frag} {m l : Addr} {H H' : Hp} (k : Same H H') : ∀ (d : PyData) (v : V), Dq K H m l v d → Dq K H' m l v d
  | .none, _, h => by cases h; exact .non
  | .bool b, _, h => by cases h; exact .bl b
  | .int i, _, h => by cases h; exact .int i
  | .str x, _, h => by cases h; exact .str x
  | .list ds, _, h => by
    cases h with
    | lst e n1 n2 t => exact .lst (k _ _ e) n1 n2 (DqAll.same k ds _ t)
  | .tuple ds, _, h => by
    cases h with
    | tup e t => exact .tup (Same.seqT k e) (DqAll.same k ds _ t)
  | .dict _, _, h => by
    cases h with
    | dct e n1 n2 => exact .dct (k _ _ e) n1 n2
theorem DqAll.same {K : PySem.W.Frag} {m l : Addr} {H H' : Hp} (k : Same H H') : ∀ (ds : List PyData) (vs : List V), DqAll K H m l vs ds → DqAll K H' m l vs ds
  | [], _, h => by cases h; exact .nil
  | d :: ds, _, h => by
    cases h with
    | cons h1 h2 => exact .cons (Dq.same k d _ h1) (DqAll.same k ds _ h2)
end
/-! ### comprehensions of two clauses -/
theorem lc2_it {J : It} {n : Nat} {G : Hp → Prop} {Y : Nat → Hp → V → Hp → Prop} (w : Walk J n G Y) {g : TG} {tt : TT} {wi1 : TI} {g1 : TG} {tt1 : TT} {te : TE} {vs vs1 : List Nat} {σ : L2.St} {H1 : Hp} {D : Addr} {Qd : Hp → Prop} (Pv : Nat → Hp → Prop)
    (h0 : Pv 0 (upd H1 D (.lst []))) (hG : ∀ i H, i ≤ n → Pv i H → G H)
    (hs : ∀ i x H H', i < n → Pv i H → Y i H x H' → g x (wipe σ vs) H' fun σ2 H2 => wipe σ2 vs = wipe σ vs ∧ tt σ2 H2 fun b H3 =>
      if b = true then wi1 σ2 H3 fun J1 H4 => ∃ W1 : Nat → Nat → Hp → Prop, (∃ m, W1 0 m H4) ∧ ∀ j k H, W1 j k H →
        (J1.stop j H ∧ Pv (i + 1) H) ∨ (J1.go j H ∧ ∃ Nx1 : Hp → Prop, (∀ H', Nx1 H' → ∃ k', k' < k ∧ W1 (j + 1) k' H') ∧ ∀ x H', J1.yld j H x H' → g1 x (wipe σ2 vs1) H' fun σ3 H5 => wipe σ3 vs1 = wipe σ2 vs1 ∧ tt1 σ3 H5 fun b H6 =>
          if b = true then te σ3 H6 fun y H7 => ∃ acc, H7 D = some (.lst acc) ∧ acc.length < sizeLine ∧ Nx1 (upd H7 D (.lst (acc ++ [y]))) else Nx1 H6)
      else Pv (i + 1) H3) (hd : ∀ H, Pv n H → Qd H) :
    ∃ W : Nat → Nat → Hp → Prop, (∃ m, W 0 m (upd H1 D (.lst []))) ∧ ∀ i m H, W i m H →
      (J.stop i H ∧ Qd H) ∨ (J.go i H ∧ ∃ Nx : Hp → Prop, (∀ H', Nx H' → ∃ m', m' < m ∧ W (i + 1) m' H') ∧ ∀ x H', J.yld i H x H' → g x (wipe σ vs) H' fun σ2 H2 => wipe σ2 vs = wipe σ vs ∧ tt σ2 H2 fun b H3 =>
        if b = true then wi1 σ2 H3 fun J1 H4 => ∃ W1 : Nat → Nat → Hp → Prop, (∃ m, W1 0 m H4) ∧ ∀ j k H, W1 j k H →
          (J1.stop j H ∧ Nx H) ∨ (J1.go j H ∧ ∃ Nx1 : Hp → Prop, (∀ H', Nx1 H' → ∃ k', k' < k ∧ W1 (j + 1) k' H') ∧ ∀ x H', J1.yld j H x H' → g1 x (wipe σ2 vs1) H' fun σ3 H5 => wipe σ3 vs1 = wipe σ2 vs1 ∧ tt1 σ3 H5 fun b H6 =>
            if b = true then te σ3 H6 fun y H7 => ∃ acc, H7 D = some (.lst acc) ∧ acc.length < sizeLine ∧ Nx1 (upd H7 D (.lst (acc ++ [y]))) else Nx1 H6)
        else Nx H3) := by
  refine ⟨fun i m H => i + m = n ∧ Pv i H, ⟨n, by omega, h0⟩, ?_⟩
  rintro i m H ⟨e, p⟩
  have q := hG i H (by omega) p
  by_cases hi : i < n
  · exact .inr ⟨w.goes i H hi q, Pv (i + 1), fun H' p' => ⟨n - (i + 1), by omega, by omega, p'⟩, fun x H' y => hs i x H H' hi p (w.yields i H x H' hi q y)⟩
  · have z : i = n := by omega
    subst z
    exact .inl ⟨w.stops H q, hd H p⟩
/-- the inner clause's walk -/
theorem lc_in {J : It} {n : Nat} {G : Hp → Prop} {Y : Nat → Hp → V → Hp → Prop} (w : Walk J n G Y) {g : TG} {tt : TT} {te : TE} {vs : List Nat} {σ : L2.St} {H4 : Hp} {D : Addr} {Qd : Hp → Prop} (Pv : Nat → Hp → Prop)
    (h0 : Pv 0 H4) (hG : ∀ i H, i ≤ n → Pv i H → G H)
    (hs : ∀ i x H H', i < n → Pv i H → Y i H x H' → g x (wipe σ vs) H' fun σ2 H2 => wipe σ2 vs = wipe σ vs ∧ tt σ2 H2 fun b H3 =>
      if b = true then te σ2 H3 fun y H4 => ∃ acc, H4 D = some (.lst acc) ∧ acc.length < sizeLine ∧ Pv (i + 1) (upd H4 D (.lst (acc ++ [y]))) else Pv (i + 1) H3) (hd : ∀ H, Pv n H → Qd H) :
    ∃ W : Nat → Nat → Hp → Prop, (∃ m, W 0 m H4) ∧ ∀ i m H, W i m H →
      (J.stop i H ∧ Qd H) ∨ (J.go i H ∧ ∃ Nx : Hp → Prop, (∀ H', Nx H' → ∃ m', m' < m ∧ W (i + 1) m' H') ∧ ∀ x H', J.yld i H x H' → g x (wipe σ vs) H' fun σ2 H2 => wipe σ2 vs = wipe σ vs ∧ tt σ2 H2 fun b H3 =>
        if b = true then te σ2 H3 fun y H4 => ∃ acc, H4 D = some (.lst acc) ∧ acc.length < sizeLine ∧ Nx (upd H4 D (.lst (acc ++ [y]))) else Nx H3) := by
  refine ⟨fun i m H => i + m = n ∧ Pv i H, ⟨n, by omega, h0⟩, ?_⟩
  rintro i m H ⟨e, p⟩
  have q := hG i H (by omega) p
  by_cases hi : i < n
  · exact .inr ⟨w.goes i H hi q, Pv (i + 1), fun H' p' => ⟨n - (i + 1), by omega, by omega, p'⟩, fun x H' y => hs i x H H' hi p (w.yields i H x H' hi q y)⟩
  · have z : i = n := by omega
    subst z
    exact .inl ⟨w.stops H q, hd H p⟩
/-! ### pairs of a text and an int, wherever they stand -/
def PrT (K : PySem.W.Frag) (H : Hp) (v : V) (q : Str × Int) : Prop := ∃ a, v = .ref a ∧ SqT K H a [.str q.1, .int q.2]
inductive PrTs (K : PySem.W.Frag) (H : Hp) : List V → List (Str × Int) → Prop
  | nil : PrTs K H [] []
  | cons {v : V} {vs : List V} {q : Str × Int} {qs : List (Str × Int)} : PrT K H v q → PrTs K H vs qs → PrTs K H (v :: vs) (q :: qs)
section
variable {K : PySem.W.Frag} {H H' : Hp}
theorem PrTs.same (s : Same H H') {vs : List V} {qs : List (Str × Int)} (p : PrTs K H vs qs) : PrTs K H' vs qs := by
  induction p with
  | nil => exact .nil
  | cons h _ ih =>
    obtain ⟨a, e, h⟩ := h
    exact .cons ⟨a, e, Same.seqT s h⟩ ih
theorem PrTs.len {vs : List V} {qs : List (Str × Int)} (p : PrTs K H vs qs) : vs.length = qs.length := by
  induction p with
  | nil => rfl
  | cons _ _ ih => simp [ih]
theorem PrTs.get {vs : List V} {qs : List (Str × Int)} (p : PrTs K H vs qs) : ∀ {i : Nat} {v : V}, vs[i]? = some v → ∃ q, qs[i]? = some q ∧ PrT K H v q := by
  induction p with
  | nil => intro i v h; simp at h
  | cons h' _ ih =>
    intro i b hb
    cases i with
    | zero => simp at hb; subst hb; exact ⟨_, rfl, h'⟩
    | succ i => exact ih (by simpa using hb)
theorem PrTs.snoc {vs : List V} {qs : List (Str × Int)} {v : V} {q : Str × Int} (p : PrTs K H vs qs) (h : PrT K H v q) : PrTs K H (vs ++ [v]) (qs ++ [q]) := by
  induction p with
  | nil => exact .cons h .nil
  | cons h' _ ih => exact .cons h' ih
end
/-! ### rows: tuples of ints, each with its own address -/
inductive Rws (H : Hp) : List Addr → List (List Int) → Prop
  | nil : Rws H [] []
  | cons {a : Addr} {as : List Addr} {r : List Int} {rs : List (List Int)} : H a = some (.tup (r.map V.int)) → Rws H as rs → Rws H (a :: as) (r :: rs)
section
variable {H H' : Hp}
theorem Rws.same {as : List Addr} {rs : List (List Int)} (s : ∀ b o, b ∈ as → H b = some o → H' b = some o) (p : Rws H as rs) : Rws H' as rs := by
  induction p with
  | nil => exact .nil
  | cons h _ ih => exact .cons (s _ _ (List.mem_cons_self ..) h) (ih fun b o hb => s b o (List.mem_cons_of_mem _ hb))
theorem Rws.snoc {as : List Addr} {rs : List (List Int)} {a : Addr} {r : List Int} (p : Rws H as rs) (h : H a = some (.tup (r.map V.int))) : Rws H (as ++ [a]) (rs ++ [r]) := by
  induction p with
  | nil => exact .cons h .nil
  | cons h' _ ih => exact .cons h' ih
theorem Rws.length {as : List Addr} {rs : List (List Int)} (p : Rws H as rs) : as.length = rs.length := by
  induction p with
  | nil => rfl
  | cons _ _ ih => simp [ih]
theorem Rws.get {as : List Addr} {rs : List (List Int)} (p : Rws H as rs) : ∀ {i : Nat} {a : Addr}, as[i]? = some a → ∃ r, rs[i]? = some r ∧ H a = some (.tup (r.map V.int)) := by
  induction p with
  | nil => intro i a h; simp at h
  | cons h' _ ih =>
    intro i b hb
    cases i with
    | zero => simp at hb; subst hb; exact ⟨_, rfl, h'⟩
    | succ i => exact ih (by simpa using hb)
end
/-! ### all standings, by the settings -/
/-- each row with each value behind it -/
def widen (rs : List (List Int)) (n : Nat) : List (List Int) := rs.flatMap fun r => (List.range n).map fun (v : Nat) => r ++ [(v : Int)]
def grid (qs : List (Str × Int)) : List (List Int) := qs.foldl (fun rs q => widen rs (q.2 + 1).toNat) [[]]
theorem widen_len (rs : List (List Int)) (n : Nat) : (widen rs n).length = rs.length * n := by
  unfold widen
  induction rs with
  | nil => simp
  | cons r rs ih => rw [List.flatMap_cons, List.length_append, ih, List.length_map, List.length_range, List.length_cons, Nat.succ_mul, Nat.add_comm]
end Ms
namespace Ms
open PySem PySem.Spec PyProof.Rows L2
/-! ### the package's settings: is_int, is_name, is_setting, names_of, grid_of -/
structure TxtP (mg : Str → Option Value) (fI fN fS fA fG : Addr) : Prop where
  isi : mg "isinstance" = none
  int : mg "int" = none
  bool : mg "bool" = none
  str : mg "str" = none
  tuple : mg "tuple" = none
  len : mg "len" = none
  all : mg "all" = none
  range : mg "range" = none
  enumerate : mg "enumerate" = none
  mS : ∃ t, mg "MOST_SETTINGS" = some (.int 3 t)
  mV : ∃ t, mg "MOST_VALUE" = some (.int 3 t)
  mT : ∃ t, mg "MOST_STANDINGS" = some (.int 12 t)
  lN : ∃ t, mg "LONGEST_NAME" = some (.int 8 t)
  gI : mg "is_int" = some (.ref fI)
  gN : mg "is_name" = some (.ref fN)
  gS : mg "is_setting" = some (.ref fS)
  gA : mg "names_of" = some (.ref fA)
  gG : mg "grid_of" = some (.ref fG)
def isInt (d : PyData) : Bool := match d with | .int _ => true | _ => false
section
variable {P : Program} {w : World} {K : PySem.W.Frag} {mg : Str → Option Value} {base : Heap} {fI fN fS fA fG : Addr}
theorem scPi : FnScope ["thing"] ["thing"] (defScope sPInt) := ⟨rfl, rfl, rfl, by decide +kernel, rfl, by decide +kernel, by decide +kernel⟩
def spPInt (K : PySem.W.Frag) : Sp := fun vs H Q _ => ∃ (m l : Addr) (v : V) (d : PyData), vs = [v] ∧ Dq K H m l v d ∧ Q (.bl (isInt d)) H
theorem ok_pint {f : Addr} {fd : FuncData} (F : Fun K "is_int" "is_int" sPInt f fd) (T : TxtP mg fI fN fS fA fG) : FnOk P w K mg base CX0 1 f fd ["thing"] (spPInt K) := by
  refine F.ok scPi (fun vs H Q E h => ?_) (fun cdv A outer s H vs Q E hr h => ?_)
  · obtain ⟨m, l, v, d, rfl, _⟩ := h
    rfl
  · obtain ⟨m, l, v, d, rfl, hd, q⟩ := h
    refine ⟨_, pss_one (ps_ret (pe_and (pe_callB call_isi (by rfl) T.isi PyProof.Rows.boot_isinstance (pa_cons (pv 0) (pa_cons (pe_bltn (v := .ty "int") (u := .type "int") (by rfl) T.int (by decide +kernel) rfl) pa_nil)))
      (pe_one (pe_not (pe_callB call_isi (by rfl) T.isi PyProof.Rows.boot_isinstance (pa_cons (pv 0) (pa_cons (pe_bltn (v := .ty "bool") (u := .type "bool") (by rfl) T.bool (by decide +kernel) rfl) pa_nil))))))), ?_⟩
    refine ⟨_, rfl, v, .ty "int", _, _, _, rfl, .ty _, hd.ty, isi_int K d, _, rfl, ?_⟩
    cases d with
    | int j =>
      cases hd
      exact ifT rfl ⟨_, rfl, .int j, .ty "bool", _, _, _, rfl, .ty _, .base (.int j), isi_bool K (.int j), _, rfl, q⟩
    | bool j =>
      cases hd
      exact ifT rfl ⟨_, rfl, .bl j, .ty "bool", _, _, _, rfl, .ty _, .base (.bl j), isi_bool K (.bool j), _, rfl, q⟩
    | _ => exact ifF rfl q
def lowB (c : Nat) : Bool := decide (97 ≤ c) && decide (c ≤ 122)
theorem lowB_alpha (c : Nat) : decide (c ∈ alpha.cps.toList) = lowB c := by
  rw [alpha_list, Bool.eq_iff_iff]
  simp only [decide_eq_true_eq, lowB, Bool.and_eq_true, List.mem_cons, List.mem_nil_iff, or_false]
  omega
theorem low_alpha : ∀ c, c < 128 → lowB c = true → Unicode.isAlpha c = true := by decide +kernel
theorem low_lower : ∀ c, c < 128 → lowB c = true → Unicode.isLower c = true := by decide +kernel
theorem low_upper : ∀ c, c < 128 → lowB c = true → (Unicode.isUpper c || Unicode.isTitle c) = false := by decide +kernel
theorem alpha_low : ∀ c, c < 128 → Unicode.isAlpha c = true → (Unicode.isUpper c || Unicode.isTitle c) = false → lowB c = true := by decide +kernel
theorem low_all (z : Str) : (Txt.isascii z && (Txt.isalpha z && Txt.islower z)) = (decide (1 ≤ z.length) && z.cps.toList.all lowB) := by
  have e1 : Txt.isascii z = z.cps.toList.all (fun c => decide (c < 128)) := by unfold Txt.isascii; rw [← Array.all_toList]
  have e2 : Txt.isalpha z = (decide (1 ≤ z.length) && z.cps.toList.all Unicode.isAlpha) := by unfold Txt.isalpha; rw [← Array.all_toList]; rfl
  have e3 : Txt.islower z = (z.cps.toList.any Unicode.isLower && !z.cps.toList.any fun c => Unicode.isUpper c || Unicode.isTitle c) := by unfold Txt.islower; rw [← Array.any_toList, ← Array.any_toList]
  have ln : z.length = z.cps.toList.length := by rw [Array.length_toList]; rfl
  rw [e1, e2, e3, ln]
  generalize z.cps.toList = l
  rw [Bool.eq_iff_iff]
  constructor
  · intro h
    simp only [Bool.and_eq_true, List.all_eq_true, Bool.not_eq_true', decide_eq_true_eq] at h ⊢
    obtain ⟨ha, ⟨h1, hb⟩, _, hu⟩ := h
    refine ⟨h1, fun c hc => alpha_low c (ha c hc) (hb c hc) ?_⟩
    cases hx : (Unicode.isUpper c || Unicode.isTitle c) with
    | false => rfl
    | true =>
      have : (l.any fun c => Unicode.isUpper c || Unicode.isTitle c) = true := List.any_eq_true.mpr ⟨c, hc, hx⟩
      rw [this] at hu
      cases hu
  · intro h
    simp only [Bool.and_eq_true, List.all_eq_true, Bool.not_eq_true', decide_eq_true_eq] at h ⊢
    obtain ⟨h1, hl⟩ := h
    have lt : ∀ c ∈ l, c < 128 := fun c hc => by
      have := hl c hc
      simp only [lowB, Bool.and_eq_true, decide_eq_true_eq] at this
      omega
    refine ⟨lt, ⟨h1, fun c hc => low_alpha c (lt c hc) (hl c hc)⟩, ?_, ?_⟩
    · match l, h1 with
      | c :: r, _ => exact List.any_eq_true.mpr ⟨c, List.mem_cons_self, low_lower c (lt c List.mem_cons_self) (hl c List.mem_cons_self)⟩
    · rw [List.any_eq_false]
      intro c hc
      rw [low_upper c (lt c hc) (hl c hc)]
      decide
abbrev NPn : List Str := ["thing"]
theorem scPn : FnScope NPn ["thing"] (defScope sPName) := ⟨rfl, rfl, rfl, by decide +kernel, rfl, by decide +kernel, by decide +kernel⟩
theorem ok_pname {f : Addr} {fd : FuncData} (F : Fun K "is_name" "is_name" sPName f fd) (T : TxtP mg fI fN fS fA fG) : FnOk P w K mg base CX0 1 f fd ["thing"] (spName K) := by
  refine F.ok scPn (fun vs H Q E h => ?_) (fun cdv A outer s H vs Q E hr h => ?_)
  · obtain ⟨m, l, v, d, rfl, _⟩ := h
    rfl
  · obtain ⟨m, l, v, d, rfl, hd, hz, q⟩ := h
    obtain ⟨tl, gl⟩ := T.lN
    refine ⟨_, pss_cons (ps_if (PW.pt (pw_or (pt_not (pt_val (pe_callB call_isi (by rfl) T.isi PyProof.Rows.boot_isinstance (pa_cons (pv 0) (pa_cons (pe_bltn (v := .ty "str") (u := .type "str") (by rfl) T.str (by decide +kernel) rfl) pa_nil)))))
        (pw_or1 (pt_cmpR op_gt (pe_callB call_len (by rfl) T.len PySem.boot_len (pa_cons (pv 0) pa_nil)) (pe_glob (v := .int 8) rfl gl ⟨_, rfl⟩) (nomark _))))) (pss_one (ps_ret pe_bl)) pss_nil)
      (pss_one (ps_ret (pe_and (pe_m0 PySem.F.slot_str_isascii PySem.F.type_str_isascii mt_isascii (pv 0)) (pe_and (pe_m0 PySem.F.slot_str_isalpha PySem.F.type_str_isalpha mt_isalpha (pv 0)) (pe_one (pe_m0 PySem.F.slot_str_islower PySem.F.type_str_islower mt_islower (pv 0))))))), ?_⟩
    refine ⟨_, rfl, v, .ty "str", _, _, _, rfl, .ty _, hd.ty, isi_str K d, _, rfl, ?_⟩
    cases d with
    | str z =>
      cases hd
      have zk := hz z rfl
      have zs : z.length ≤ sizeLine := by rw [sizeLine_eq]; have := zk.1; omega
      have en : isName (.str z) = (decide (z.length ≤ 8) && (Txt.isascii z && (Txt.isalpha z && Txt.islower z))) := by
        rw [low_all]
        show ((decide (1 ≤ z.length) && decide (z.length ≤ 8)) && z.cps.toList.all fun c => decide (c ∈ alpha.cps.toList)) = _
        have ef : (fun c => decide (c ∈ alpha.cps.toList)) = lowB := funext lowB_alpha
        rw [ef]
        cases decide (1 ≤ z.length) <;> cases decide (z.length ≤ 8) <;> rfl
      refine ifF rfl ?_
      refine ⟨_, rfl, .str z, z.length, rfl, ⟨zs, rfl⟩, (z.length : Int), 8, rfl, rfl, _, rfl, ite_b (fun e8 => ?_) (fun e8 => ?_)⟩
      · have : decide (z.length ≤ 8) = false := by
          have := of_decide_eq_true e8
          exact decide_eq_false (by omega)
        rw [en, this] at q
        exact q H (fun _ _ e => e)
      · have : decide (z.length ≤ 8) = true := by
          have := of_decide_eq_false e8
          exact decide_eq_true (by omega)
        rw [en, this, Bool.true_and] at q
        refine ⟨_, rfl, ⟨_, rfl⟩, z, rfl, rfl, trivial, _, rfl, ite_b (fun ea => ?_) (fun ea => ?_)⟩
        · rw [ea, Bool.true_and] at q
          refine ⟨_, rfl, ⟨_, rfl⟩, z, rfl, rfl, trivial, _, rfl, ite_b (fun eb => ?_) (fun eb => ?_)⟩
          · rw [eb, Bool.true_and] at q
            exact ⟨_, rfl, ⟨_, rfl⟩, z, rfl, rfl, trivial, q H (fun _ _ e => e)⟩
          · rw [eb] at q
            exact q H (fun _ _ e => e)
        · rw [ea] at q
          exact q H (fun _ _ e => e)
    | _ => exact ifT rfl (ifT rfl (q H (fun _ _ e => e)))
/-! is_setting -/
abbrev NPs : List Str := ["thing", "name", "most"]
theorem scPs : FnScope NPs ["thing"] (defScope sPSet) := ⟨rfl, rfl, rfl, by decide +kernel, rfl, by decide +kernel, by decide +kernel⟩
theorem isWhole_int (d : PyData) (lo hi : Int) (h : isInt d = false) : isWhole d lo hi = false := by cases d <;> first | rfl | cases h
def spPSet (K : PySem.W.Frag) : Sp := fun vs H Q _ => ∃ (m l : Addr) (v : V) (d : PyData) (B b : Nat), vs = [v] ∧ Dq K H m l v d ∧ Gd B 100000 b d ∧ ∀ H', Same H H' → Q (.bl (oneD d).isSome) H'
theorem ok_pset {f : Addr} {fd fdI fdN : FuncData} (F : Fun K "is_setting" "is_setting" sPSet f fd) (T : TxtP mg fI fN fS fA fG) (FI : Fun K "is_int" "is_int" sPInt fI fdI) (bI : Binds K fdI ["thing"] [])
    (FN : Fun K "is_name" "is_name" sPName fN fdN) (bN : Binds K fdN ["thing"] []) : FnOk P w K mg base CX0 2 f fd ["thing"] (spPSet K) := by
  have GI : FnOk P w K mg base CX0 1 fI fdI ["thing"] (spPInt K) := ok_pint FI T
  have GN : FnOk P w K mg base CX0 1 fN fdN ["thing"] (spName K) := ok_pname FN T
  refine F.ok scPs (fun vs H Q E h => ?_) (fun cdv A outer s H vs Q E hr h => ?_)
  · obtain ⟨m, l, v, d, B, b, rfl, _⟩ := h
    rfl
  · obtain ⟨m, l, v, d, B, b, rfl, hd, gd, q⟩ := h
    obtain ⟨tv, gv⟩ := T.mV
    refine ⟨_, pss_cons (ps_if (PW.pt (pw_or (pt_not (pt_val (pe_callB call_isi (by rfl) T.isi PyProof.Rows.boot_isinstance (pa_cons (pv 0) (pa_cons (pe_bltn (v := .ty "tuple") (u := .type "tuple") (by rfl) T.tuple (by decide +kernel) rfl) pa_nil)))))
        (pw_or1 (pt_cmpR op_ne (pe_callB call_len (by rfl) T.len PySem.boot_len (pa_cons (pv 0) pa_nil)) pe_int (nomark _))))) (pss_one (ps_ret pe_bl)) pss_nil)
      (pss_cons (ps_asg (pv 0) (pg_tup rfl (pgs_cons (pg_name (i := 1) scPs.nd rfl (Or.inl rfl)) (pgs_cons (pg_name (i := 2) scPs.nd rfl (Or.inl rfl)) pgs_nil))))
      (pss_one (ps_ret (pe_and (pe_call GN hr rfl T.gN FN.kp bN .nil pass0 (pa_cons (pv 1) pa_nil)) (pe_and (pe_call GI hr rfl T.gI FI.kp bI .nil pass0 (pa_cons (pv 2) pa_nil)) (pe_one (pe_chain op_le op_le pe_int (pv 2) (pe_glob (v := .int 3) rfl gv ⟨_, rfl⟩)))))))), ?_⟩
    refine ⟨_, rfl, v, .ty "tuple", _, _, _, rfl, .ty _, hd.ty, isi_tup K d, _, rfl, ?_⟩
    cases d with
    | tuple es =>
      cases hd with
      | tup hq hy =>
        rename_i a ys
        have ly := hy.len
        refine ifF rfl ⟨_, rfl, .ref a, ys.length, rfl, .inr ⟨ys, hq, rfl⟩, rfl, _, rfl, ite_b (fun e => ?_) (fun e => ?_)⟩
        · have : oneD (.tuple es) = none := oneD_len (fun z => by
            rw [ly, z] at e
            exact absurd e (by decide))
          rw [this] at q
          exact q H (Same.refl H)
        have l2 : ys.length = 2 := by
          have q1 : decide (V.int ((ys.length : Nat) : Int) = V.int 2) = true := by simpa using e
          have q2 := of_decide_eq_true q1
          have q3 : ((ys.length : Nat) : Int) = 2 := by injection q2
          omega
        obtain ⟨y0, y1, rfl⟩ : ∃ y0 y1, ys = [y0, y1] := by
          match ys, l2 with
          | [y0, y1], _ => exact ⟨y0, y1, rfl⟩
        obtain ⟨d0, d1, rfl⟩ : ∃ d0 d1, es = [d0, d1] := by
          match es, ly with
          | [d0, d1], _ => exact ⟨d0, d1, rfl⟩
        obtain ⟨q0, q1⟩ : Dq K H m l y0 d0 ∧ Dq K H m l y1 d1 := by
          cases hy with
          | cons h0 h1 => cases h1 with | cons h1 _ => exact ⟨h0, h1⟩
        obtain ⟨c2, eb2, g2⟩ := Gd.untup gd
        have w0 : ∀ z, d0 = .str z → sOk 100000 z := fun z ez => by
          have gz := g2.at (i := 0) (d := d0) rfl
          rw [ez] at gz
          have ww := g2.wt
          refine gz.unstr.mono ?_
          rw [ez] at ww
          simp only [PyData.weightAll, PyData.weight] at ww ⊢
          omega
        refine ⟨_, rfl, a, _, rfl, hq, rfl, _, _, rfl, _, _, rfl, rfl, ?_⟩
        refine ⟨_, rfl, m, l, y0, d0, rfl, q0, w0, fun H3 s3 => ⟨_, rfl, ite_b (fun e => ?_) (fun e => ?_)⟩⟩
        · have hn : isName d0 = true := e
          refine ⟨_, rfl, m, l, y1, d1, rfl, Dq.same s3 d1 y1 q1, _, rfl, ite_b (fun e => ?_) (fun e => ?_)⟩
          · obtain ⟨j, rfl⟩ : ∃ j, d1 = .int j := by
              cases d1 <;> first | exact ⟨_, rfl⟩ | cases e
            cases q1
            refine ⟨_, rfl, 1, j, rfl, rfl, _, rfl, ite_b (fun e => ⟨j, 3, rfl, rfl, ?_⟩) (fun e => ?_)⟩
            · have ew : (oneD (.tuple [d0, .int j])).isSome = decide (j ≤ 3) := by
                cases hw : isWhole (.int j) 1 3 with
                | true =>
                  obtain ⟨z, c, _, ec, c1, c3, eo⟩ := oneD_ok hn hw
                  cases ec
                  rw [eo]; simp [c3]
                | false =>
                  rw [oneD_whole hw]
                  have z : (decide (1 ≤ j) && decide (j ≤ 3)) = false := hw
                  rw [e, Bool.true_and] at z
                  rw [z]; rfl
              rw [ew] at q
              exact q _ s3
            · have hw : isWhole (.int j) 1 3 = false := by show (decide (1 ≤ j) && decide (j ≤ 3)) = false; rw [e]; rfl
              rw [oneD_whole hw] at q
              exact q _ s3
          · rw [oneD_whole (isWhole_int d1 1 3 e)] at q
            exact q _ s3
        · rw [oneD_name e] at q
          exact q _ s3
    | _ => exact ifT rfl (q H (Same.refl H))
/-! names_of -/
abbrev NPa : List Str := ["settings", "name", "most"]
theorem scPa : FnScope NPa ["settings"] (defScope sPNames) := ⟨rfl, rfl, rfl, by decide +kernel, rfl, by decide +kernel, by decide +kernel⟩
def spPNames (K : PySem.W.Frag) : Sp := fun vs H Q _ => ∃ (a : Addr) (xs : List V) (qs : List (Str × Int)), vs = [.ref a] ∧ SqT K H a xs ∧ PrTs K H xs qs ∧ qs.length ≤ 900 ∧
  ∀ D, H D = none → ∀ H', Same H H' → H' D = some (.lst ((qs.map (·.1)).map V.str)) → Q (.ref D) H'
theorem ok_pnames {f : Addr} {fd : FuncData} (F : Fun K "names_of" "names_of" sPNames f fd) : FnOk P w K mg base CX0 1 f fd ["settings"] (spPNames K) := by
  refine F.ok scPa (fun vs H Q E h => ?_) (fun cdv A outer s H vs Q E hr h => ?_)
  · obtain ⟨a, xs, qs, rfl, _⟩ := h
    rfl
  · obtain ⟨a, xs, qs, rfl, hs, hp, hl, q⟩ := h
    refine ⟨_, pss_one (ps_ret (pe_lc (own := [("name", 1), ("most", 2)]) (g := gTup K 2 (gCons (gName 1) (gCons (gName 2) gNil))) (by rfl) scPa.nd (pi_tup (pv 0)) (blkOk_by (own := [("name", 1), ("most", 2)]) (N := NPa) (sc := defScope sPNames) (by decide +kernel))
        (fun _ _ _ _ _ => pg_tup rfl (pgs_cons (pg_name (i := 1) scPa.nd rfl (Or.inl rfl)) (pgs_cons (pg_name (i := 2) scPa.nd rfl (Or.inl rfl)) pgs_nil))) (fun _ _ _ _ _ => pts_nil) (fun _ _ _ _ _ => pv 1))), ?_⟩
    have ll := hp.len
    refine ⟨_, rfl, a, rfl, ⟨_, hs⟩, fun D hD => ?_⟩
    refine lc_it (walk_tup (xs := xs)) (fun i H3 => H3 = upd H D (.lst (((qs.take i).map (·.1)).map V.str))) rfl (fun i H3 _ e3 => by rw [e3]; exact Same.seqT (Same.upd hD) hs) ?_ ?_
    · rintro i x H3 H4 hi e3 ⟨rfl, hx⟩
      obtain ⟨qq, hq, b, rfl, hb⟩ := hp.get hx
      have hb3 : SqT K H4 b [.str qq.1, .int qq.2] := by rw [e3]; exact Same.seqT (Same.upd hD) hb
      have ti : qs.take (i + 1) = qs.take i ++ [qq] := by rw [List.take_succ, hq]; rfl
      refine ⟨b, _, rfl, hb3, rfl, _, _, rfl, _, _, rfl, rfl, rfl, tyes ⟨_, rfl, _, by rw [e3]; exact upd_same, small1000 (by rw [List.length_map, List.length_map, List.length_take]; omega), ?_⟩⟩
      show upd H4 D _ = _
      rw [e3, upd_upd, ti, List.map_append, List.map_append]
      rfl
    · rintro H3 e3
      rw [List.take_of_length_le (by omega)] at e3
      exact q D hD H3 (e3 ▸ Same.upd hD) (by rw [e3, upd_same])
/-! grid_of -/
abbrev NPg : List Str := ["settings", "rows", "name", "most", "row", "value"]
theorem scPg : FnScope NPg ["settings"] (defScope sPGrid) := ⟨rfl, rfl, rfl, by decide +kernel, rfl, by decide +kernel, by decide +kernel⟩
def spPGrid (K : PySem.W.Frag) : Sp := fun vs H Q _ => ∃ (a : Addr) (xs : List V) (qs : List (Str × Int)), vs = [.ref a] ∧ SqT K H a xs ∧ PrTs K H xs qs ∧ qs.length ≤ 3 ∧ (∀ q ∈ qs, 1 ≤ q.2 ∧ q.2 ≤ 3) ∧
  ∀ D as H', H D = none → Same H H' → H' D = some (.lst (as.map V.ref)) → Rws H' as (grid qs) → (∀ b ∈ as, H b = none) → Q (.ref D) H'
theorem fold_row {k : Nat} : ∀ (qs : List (Str × Int)) (rs : List (List Int)) (k : Nat), (∀ r ∈ rs, r.length = k) → ∀ r ∈ qs.foldl (fun rs q => widen rs (q.2 + 1).toNat) rs, r.length = k + qs.length
  | [], rs, k, h => fun r hr => h r hr
  | q :: qs, rs, k, h => fun r hr => by
    have z := fold_row (k := k) qs (widen rs (q.2 + 1).toNat) (k + 1) (fun r hr => by
      unfold widen at hr
      obtain ⟨y, hy, hr⟩ := List.mem_flatMap.mp hr
      obtain ⟨v, _, rfl⟩ := List.mem_map.mp hr
      rw [List.length_append, h y hy]; rfl) r hr
    rw [z, List.length_cons]; omega
theorem grid_row (qs : List (Str × Int)) : ∀ r ∈ grid qs, r.length = qs.length := fun r hr => by
  have z := fold_row (k := 0) qs [[]] 0 (fun r hr => by rw [List.mem_singleton.mp hr]; rfl) r hr
  rw [z]; omega
structure Acc (H0 H1 H : Hp) (D : Addr) (as : List Addr) (rs : List (List Int)) : Prop where
  rws : Rws H as rs
  far : ∀ b ∈ as, b ≠ D ∧ H0 b = none
  at_ : H D = some (.lst (as.map V.ref))
  same : Same H1 H
theorem Acc.more {H0 H1 H : Hp} {D p : Addr} {as : List Addr} {rs : List (List Int)} {r : List Int} (A : Acc H0 H1 H D as rs) (s : Same H0 H1) (hD : H1 D = none) (hp : H p = none) :
    Acc H0 H1 (upd (upd H p (.tup (r.map V.int))) D (.lst (as.map V.ref ++ [.ref p]))) D (as ++ [p]) (rs ++ [r]) := by
  have nD : p ≠ D := fun e => by rw [e, A.at_] at hp; cases hp
  have sp : Same H (upd H p (.tup (r.map V.int))) := Same.upd hp
  refine ⟨Rws.snoc (Rws.same (fun b o hb e => ?_) A.rws) ?_, fun b hb => ?_, ?_, fun b o e => ?_⟩
  · rw [upd_ne (A.far b hb).1]; exact sp _ _ e
  · rw [upd_ne nD, upd_same]
  · rcases List.mem_append.mp hb with hb | hb
    · exact A.far b hb
    · rw [List.mem_singleton.mp hb]
      exact ⟨nD, Same.free s (Same.free A.same hp)⟩
  · rw [upd_same, List.map_append]; rfl
  · have nb : b ≠ D := ne_of_none e hD
    rw [upd_ne nb]; exact sp _ _ (A.same _ _ e)
theorem widen_take {rs : List (List Int)} {n i : Nat} {r : List Int} (h : rs[i]? = some r) : widen (rs.take (i + 1)) n = widen (rs.take i) n ++ (List.range n).map fun (v : Nat) => r ++ [(v : Int)] := by
  unfold widen
  rw [List.take_succ, h, List.flatMap_append]
  simp
theorem range_more {n : Nat} {r : List Int} : ((List.range (n + 1)).map fun (v : Nat) => r ++ [(v : Int)]) = ((List.range n).map fun (v : Nat) => r ++ [(v : Int)]) ++ [r ++ [(n : Int)]] := by
  rw [List.range_succ, List.map_append]; rfl
theorem ok_pgrid {f : Addr} {fd : FuncData} (F : Fun K "grid_of" "grid_of" sPGrid f fd) (T : TxtP mg fI fN fS fA fG) : FnOk P w K mg base CX0 1 f fd ["settings"] (spPGrid K) := by
  refine F.ok scPg (fun vs H Q E h => ?_) (fun cdv A outer s H vs Q E hr h => ?_)
  · obtain ⟨a, xs, qs, rfl, _⟩ := h
    rfl
  · obtain ⟨a, xs, qs, rfl, hs, hp, hl, hb, q⟩ := h
    refine ⟨_, pss_cons (ps_set (i := 1) scPg.nd rfl (by first | exact Or.inl rfl | exact Or.inr rfl) (pe_lst (pa_cons (pe_tup pa_nil) pa_nil)))
      (pss_cons (ps_for PassesOwn.never rfl (pi_tup (pv 0)) (pg_tup rfl (pgs_cons (pg_name (i := 2) scPg.nd rfl (by first | exact Or.inl rfl | exact Or.inr rfl)) (pgs_cons (pg_name (i := 3) scPg.nd rfl (by first | exact Or.inl rfl | exact Or.inr rfl)) pgs_nil)))
        (pss_one (ps_setLc2 (i := 1) (own := [("row", 4), ("value", 5)]) (vs1 := [5]) (g := gName 4) (g1 := gName 5) (tt := tYes) (tt1 := tYes) (te := tTup (StX.tStar K (tVar 4) (tCons (tVar 5) tNil))) (by rfl) scPg.nd rfl rfl (sw_true rfl rfl rfl (by decide +kernel)) (pi_list (pv 1)) (blkOk_by (own := [("row", 4), ("value", 5)]) (N := NPg) (sc := defScope sPGrid) (by decide +kernel)) (by decide)
          (fun _ _ _ _ _ => pg_name (i := 4) scPg.nd rfl (by first | exact Or.inl rfl | exact Or.inr rfl)) (fun _ _ _ _ _ => pts_nil) (fun _ _ _ _ _ => pi_range1 (by rfl) T.range (pa_cons (pe_op op_add (pv 3) pe_int) pa_nil))
          (fun _ _ _ _ _ => pg_name (i := 5) scPg.nd rfl (by first | exact Or.inl rfl | exact Or.inr rfl)) (fun _ _ _ _ _ => pts_nil) (fun _ _ _ _ _ => pe_tup (StX.pa_star (pv 4) (pa_cons (pv 5) pa_nil))))))
      (pss_one (ps_ret (pv 1)))), ?_⟩
    have ll := hp.len
    refine ⟨Nat.zero_le _, fun p0 h0 => ⟨(by show 1 ≤ sizeLine; decide), fun R0 hR0 => ?_⟩⟩
    have s0 : Same H (upd H p0 (.tup [])) := Same.upd h0
    have s1 : Same H (upd (upd H p0 (.tup [])) R0 (.lst [.ref p0])) := s0.trans (Same.upd hR0)
    have nR0 : p0 ≠ R0 := fun e => by rw [← e, upd_same] at hR0; cases hR0
    refine ⟨_, rfl, a, rfl, ⟨_, Same.seqT s1 hs⟩, ?_⟩
    have tk1 : ∀ {i : Nat} {qq : Str × Int}, qs[i]? = some qq → grid (qs.take (i + 1)) = widen (grid (qs.take i)) (qq.2 + 1).toNat := fun {i qq} hq => by
      unfold grid
      rw [List.take_succ, hq, List.foldl_append]
      rfl
    refine for_it (walk_tup (xs := xs)) (fun i σ H2 => ∃ (R : Addr) (as : List Addr) (v2 v3 : Option V), σ = [some (.ref a), some (.ref R), v2, v3, none, none] ∧ Same H H2 ∧ H R = none ∧ H2 R = some (.lst (as.map V.ref)) ∧ Rws H2 as (grid (qs.take i)) ∧ (∀ b ∈ as, H b = none) ∧ as.length ≤ 4 ^ i)
      ⟨R0, [p0], none, none, rfl, s1, Same.free s0 hR0, upd_same, ?_, ?_, Nat.le_refl _⟩ (fun i σ H2 _ ⟨R, as, v2, v3, _, s2, _⟩ => Same.seqT s2 hs) ?_ ?_
    · rw [List.take_zero]
      refine .cons ?_ .nil
      rw [upd_ne nR0, upd_same]; rfl
    · intro b hb
      rw [List.mem_singleton.mp hb]; exact h0
    · rintro i x σ H2 H3 hi ⟨R, as, v2, v3, rfl, s2, hR, gR, rw2, far, al⟩ ⟨rfl, hx⟩
      obtain ⟨qq, hq, b, rfl, hb2⟩ := hp.get hx
      have hqb := hb qq (List.mem_of_getElem? hq)
      have i3 : i < 3 := by omega
      have a16 : as.length ≤ 16 := Nat.le_trans al (by
        match i, i3 with
        | 0, _ => decide
        | 1, _ => decide
        | 2, _ => decide)
      have rl := rw2.length
      obtain ⟨rs, ers⟩ : ∃ rs, rs = grid (qs.take i) := ⟨_, rfl⟩
      rw [← ers] at rw2 rl
      obtain ⟨n, en⟩ : ∃ n : Nat, n = (qq.2 + 1).toNat := ⟨_, rfl⟩
      have n4 : n ≤ 4 := by omega
      refine ⟨b, _, rfl, Same.seqT s2 hb2, rfl, _, _, rfl, _, _, rfl, rfl, ?_⟩
      refine ⟨_, rfl, R, rfl, ⟨_, SqL.of gR⟩, fun D hD => ?_⟩
      have sD : Same H3 (upd H3 D (.lst [])) := Same.upd hD
      refine lc2_it (walk_list (xs := as.map V.ref)) (fun k H4 => ∃ as', Acc H H3 H4 D as' (widen (rs.take k) n)) ⟨[], .nil, (fun b hb => nomatch hb), upd_same, sD⟩ (fun k H4 _ ⟨as', A⟩ => SqL.of (A.same _ _ gR)) ?_ ?_
      · rintro k x H4 H5 hk ⟨as', A⟩ ⟨rfl, hxk⟩
        have hk' : k < as.length := by rw [List.length_map] at hk; exact hk
        obtain ⟨bk, hbk⟩ : ∃ bk, as[k]? = some bk := ⟨_, List.getElem?_eq_getElem hk'⟩
        have ex : x = .ref bk := by
          rw [List.getElem?_map, hbk] at hxk
          exact (Option.some.inj hxk).symm
        subst ex
        obtain ⟨r, hr2, gk⟩ := rw2.get hbk
        refine ⟨rfl, tyes ⟨_, rfl, _, _, rfl, rfl, qq.2 + 1, rfl, by omega, by omega, ?_⟩⟩
        rw [← en]
        refine lc_in walk_range (fun j H6 => ∃ as2, Acc H H3 H6 D as2 (widen (rs.take k) n ++ (List.range j).map fun (v : Nat) => r ++ [(v : Int)])) ⟨as', by simpa using A⟩ (fun _ _ _ _ => True.intro) ?_ ?_
        · rintro j y H6 H7 hj ⟨as2, A2⟩ ⟨rfl, ey⟩
          have ey' : y = .int (j : Int) := ey.trans (congrArg V.int (by omega))
          subst ey'
          have rlen : r.length ≤ 900 := by
            have z := grid_row (qs.take i) r (ers ▸ List.mem_of_getElem? hr2)
            rw [z, List.length_take]; omega
          have al2 : as2.length ≤ 100 := by
            rw [A2.rws.length, List.length_append, List.length_map, List.length_range, widen_len]
            have h1 : (rs.take k).length ≤ 16 := by rw [List.length_take]; omega
            have h2 := Nat.mul_le_mul h1 n4
            omega
          refine ⟨rfl, tyes ⟨_, rfl, bk, _, rfl, .inl (.inl (.inl (A2.same _ _ gk))), _, rfl, ?_, fun p hp7 => ?_⟩⟩
          · rw [List.length_append, List.length_map, List.length_singleton]
            exact Nat.le_of_lt (small1000 (by omega))
          have nD : D ≠ p := ne_of_none A2.at_ hp7
          have er : (r.map V.int ++ [.int (j : Int)] : List V) = (r ++ [(j : Int)]).map V.int := by rw [List.map_append]; rfl
          rw [er]
          refine ⟨_, by rw [upd_ne nD]; exact A2.at_, small1000 (by rw [List.length_map]; omega), as2 ++ [p], ?_⟩
          rw [range_more, ← List.append_assoc]
          exact A2.more s2 hD hp7
        · rintro H6 ⟨as2, A2⟩
          rw [← widen_take hr2] at A2
          exact ⟨as2, A2⟩
      · rintro H4 ⟨as', A⟩
        rw [List.length_map, List.take_of_length_le (by omega)] at A
        have l1 := A.rws.length
        refine ⟨D, as', _, _, rfl, s2.trans A.same, Same.free s2 hD, A.at_, ?_, fun b hb => (A.far b hb).2, ?_⟩
        · rw [tk1 hq, ← ers, ← en]; exact A.rws
        · rw [l1, widen_len, Nat.pow_succ, ← rl]
          exact Nat.mul_le_mul al n4
    · rintro σ H2 ⟨R, as, v2, v3, rfl, s2, hR, gR, rw2, far, al⟩
      rw [List.take_of_length_le (by omega)] at rw2
      exact ⟨_, rfl, q R as H2 hR s2 gR rw2 far⟩
end
end Ms
namespace Ms
open PySem PySem.Spec PyProof.Rows L2 LamX
/-! ### a law's own def that makes lambdas: its table of code objects is told -/
section
variable {P : Program} {w : World} {K : PySem.W.Frag} {mg : Str → Option Value} {base : Heap}
/-- as run_known, and the code object is told -/
theorem run_code {x qual : Str} {st : Stmt} {f : Addr} {fd : FuncData} {N ps : List Str} {k : Nat} (F : Fun K x qual st f fd) (S : FnScope N ps (defScope st))
    {A : Around} {outer : List Env} {s : Shared} {H : Hp} {args : Args} {us : List Value} {vs : List V} {Q : VK} {E : XK}
    (gA : A.guards = some []) (rm : Room (k + 1) A) (st0 : Env0 P w K mg base A outer s H) (bd : BindsTo s fd args (ps.zip us)) (rel : Vals vs us) (ln : vs.length = ps.length)
    (walk : ∀ cdv : Value, fd.code = cdv → Room k (A.deeper (envOfC qual (defScope st) s.heap.objs.size f cdv)) →
      ∃ t, PSs (cxOf CX0 P w K mg base N qual (defScope st) f cdv A outer s H E).nox (defBody st) t ∧ t { nx := fun _ H' => Q .non H', rt := Q } (start N vs) H) :
    codeAny (model P w) A (.call (.ref f) args) (CR CX0 outer P w H s Q E) s := by
  obtain ⟨oc, od, kV, doc, pm, an, cdv0, ct, osl, efd, atK, code⟩ := F.ex
  have ec : fd.code = cdv0 := by rw [efd]
  subst efd
  have inH : K.In s.heap := st0.mod.kin.keeps fun b o q => (st0.bs b o q).1
  have noLim : s.heap.NoLimit := st0.mod.nolimit.keeps fun b o q => (st0.bs b o q).1
  have kinds : ∀ y ∈ ps.zip us, (defScope st).names.lookup y.1 = some .local ∨ ((defScope st).names.lookup y.1 = some .cell ∧ ((cellsFrom (s.heap.objs.size + 1) (defScope st).names []).lookup y.1).isSome = true) := by
    rintro ⟨n, v⟩ hy
    rcases S.par n (List.of_mem_zip hy).1 with z | z
    · exact Or.inl z
    · exact Or.inr ⟨z, PySem.W.cellsFrom_some _ _ _ (.inl z)⟩
  refine codeAny_call_function rm.depth (inH _ _ atK) rfl S.co S.gen rfl (PySem.W.codeRec_of inH code) (bd _ _ _ _ ?_)
  refine wpAny_newFunctionEnv_cells S.kind kinds fun env eq s1 inC => ?_
  subst eq
  refine And.intro (noLim.keeps inC.toInCall.keep) (codeAny_func ?_)
  obtain ⟨t, derives, reads⟩ := walk cdv0 ec (rm.deeper _)
  have I := inv_start (CX := CX0) (P := P) (mg := mg) (base := base) (E := E) S rm.hd st0 ln rel inC
  refine wpAny_mono (derives.nox.run [] s1 (start N vs) H _ I reads) (fun fl s' hs => ?_) fun e s' hs => hs
  cases fl with
  | ret u =>
    obtain ⟨v, σ', H', J, rv, q⟩ := hs
    exact ⟨v, H', J.os, J.bare, J.base, J.hok, rv, q⟩
  | next =>
    obtain ⟨σ', H', J, q⟩ := hs
    exact ⟨V.non, H', J.os, J.bare, J.base, J.hok, rfl, q⟩
  | brk => obtain ⟨_, _, _, q⟩ := hs; exact q.elim
  | cont => obtain ⟨_, _, _, q⟩ := hs; exact q.elim

/-- as LawRun; c the law's code object, T its table, empty as yet -/
def LawRunT (P : Program) (w : World) (K : PySem.W.Frag) (mg : Str → Option Value) (fa c T : Addr) : Prop :=
  ∀ (base : Heap) (H : Hp) (s : Shared) (a : Addr) (ns : List Int), K.In base → base.Ns mainGlobals mg → TabB base mg c T → H T = some (.tbl #[]) → SqL K H a (ns.map V.int) → ns.length ≤ 63 → Env0 P w K mg base callerA [] s H →
    codeAny (model P w) callerA (.call (.ref fa) ⟨[.ref a], []⟩) (CR CX0 [] P w H s (fun v _ => v = .bl true) fun _ _ _ => False) s
/-- the script and the table stand alone in the heap that is told -/
structure AloneT (H : Hp) (h : Heap) (K : PySem.W.Frag) (a T : Addr) : Prop where
  only : ∀ b, H b = none ∨ b = T ∨ ∃ ob xs, H b = some (.frz ob (.lst xs))
  here : ∀ b, H b ≠ none → b = a ∨ b = T
  off : H a ≠ none → K.lookup a = none
  offT : K.lookup T = none
  tab : h.get? T = some { cls := .none, data := .fields #[] }
  told : H T = some (.tbl #[])
section
variable {H : Hp} {h : Heap} {a c T : Addr} {vs : Array Value}
theorem AloneT.hidden (x : AloneT H h K a T) (ea : h.get? a = some { cls := .type "list", data := .seq vs }) {b : Addr} {o : Obj} (e : h.get? b = some o) (d1 : o.data ≠ .seq vs) (d2 : o.data ≠ .fields #[]) : H b = none := by
  cases q : H b with
  | none => rfl
  | some u =>
    rcases x.here b (by rw [q]; exact fun z => nomatch z) with z | z
    · subst z
      rw [ea] at e
      cases e
      exact absurd rfl d1
    · subst z
      rw [x.tab] at e
      cases e
      exact absurd rfl d2
theorem AloneT.get (x : AloneT H h K a T) (ea : h.get? a = some { cls := .type "list", data := .seq vs }) {b : Addr} {o : Obj} (e : h.get? b = some o) (d1 : o.data ≠ .seq vs) (d2 : o.data ≠ .fields #[]) : (hidT h H).get? b = some o := hidT_get e (x.hidden ea e d1 d2)
theorem AloneT.ns (x : AloneT H h K a T) (ea : h.get? a = some { cls := .type "list", data := .seq vs }) {b : Addr} {m : Str → Option Value} (n : h.Ns b m) : (hidT h H).Ns b m := by
  obtain ⟨o, es, ep, e, d, r⟩ := n
  refine ⟨o, es, ep, x.get ea e ?_ ?_, d, r⟩ <;> (rw [d]; intro z; cases z)
theorem AloneT.kin (x : AloneT H h K a T) (X : K.In h) : K.In (hidT h H) := fun b o e => by
  refine hidT_get (X b o e) ?_
  cases q : H b with
  | none => rfl
  | some u =>
    rcases x.here b (by rw [q]; exact fun z => nomatch z) with z | z
    · subst z
      rw [x.off (by rw [q]; exact fun z => nomatch z)] at e
      cases e
    · subst z
      rw [x.offT] at e
      cases e
theorem AloneT.hd (x : AloneT H h K a T) (ea : h.get? a = some { cls := .type "list", data := .seq vs }) (C : PySem.W.CodeHd h c T) : PySem.W.CodeHd (hidT h H) c T := by
  obtain ⟨o, us, f, tf, g, tg, inF, n, tt, e, r1, r2, r3, r⟩ := C
  refine ⟨o, us, f, tf, g, tg, inF, n, tt, x.get ea e ?_ ?_, r1, r2, r3, r⟩
  · rw [r2]; intro z; cases z
  · intro z
    rw [r2] at z
    cases z
    simp at r3
end
theorem law_told {fa a c T : Addr} {s : Shared} {vs : List Value} {ns : List Int} {mb : Str → Option Value} {H : Hp} (R : LawRunT P w K mg fa c T) (al : AloneT H s.heap K a T)
    (X : K.In s.heap) (g : s.heap.Ns mainGlobals mg) (b : s.heap.Ns builtinsNs mb) (bb : ∀ x : Str, x ≠ "__name__" → mb x = bootBuiltins x) (lim : s.heap.NoLimit) (gs : s.gens = #[]) (C : PySem.W.CodeHd s.heap c T)
    (bm : ∃ (bm : Addr) (ob : Obj), mg "__builtins__" = some (.ref bm) ∧ bm ≠ builtinsNs ∧ s.heap.get? bm = some ob ∧ ob.cls = .type "module" ∧ ob.dict = some builtinsNs ∧ ob.data = .plain)
    (ea : s.heap.get? a = some { cls := .type "list", data := .seq vs.toArray }) (hS : SqL K H a (ns.map V.int)) (hl : ns.length ≤ 63) (ok : HOk P w H s.heap) :
    codeAny (model P w) callerA (.call (.ref fa) ⟨[.ref a], []⟩) (fun r s' => r = .ok (.ret (.bool true)) ∧ OldK s.heap s'.heap ∧ s'.os = s.os ∧ AllBare s'.gens) s := by
  have gT : mainGlobals ≠ T := fun z => by
    obtain ⟨o, es, ep, e, d, _⟩ := g
    rw [z, al.tab] at e
    cases e
    cases d
  have M : L2.Mod K mg (hidT s.heap H) := by
    refine ⟨al.kin X, al.ns ea g, ⟨mb, al.ns ea b, bb⟩, ?_⟩
    obtain ⟨mc, l1, l2⟩ := lim
    exact ⟨mc, al.ns ea l1, l2⟩
  have TB : TabB (hidT s.heap H) mg c T := by
    refine ⟨al.hd ea C, ?_, gT⟩
    obtain ⟨q, ob, b1, b2, b3, b4, b5, b6⟩ := bm
    have nG : q ≠ mainGlobals := fun z => by
      obtain ⟨o, es, ep, e, d, _⟩ := g
      rw [z, e] at b3
      cases b3
      rw [d] at b6
      cases b6
    have nT : q ≠ T := fun z => by
      rw [z, al.tab] at b3
      cases b3
      cases b6
    refine ⟨q, ob, b1, b2, nG, nT, al.get ea b3 ?_ ?_, b4, b5, b6⟩ <;> (rw [b6]; intro z; cases z)
  have st0 : Env0 P w K mg (hidT s.heap H) callerA [] s H := by
    refine ⟨rfl, M, fun b o e => of_hidT e, Nat.le_of_eq (hidT_size _ _), trivial, fun b hb => ?_, ok, AllBare.of_eq gs⟩
    cases (show b ∈ ([] : List Addr) from hb)
  refine codeAny_mono (R _ H s a ns M.kin M.glob TB al.told hS hl st0) fun r s' q => ?_
  match r, q with
  | .error e, q => exact False.elim q
  | .ok (.next), q => exact False.elim q
  | .ok (.brk), q => exact False.elim q
  | .ok (.cont), q => exact False.elim q
  | .ok (.ret u), q =>
    obtain ⟨v, H', eos, bare, un, ok', rv, qv⟩ := q
    have qv' : v = .bl true := qv
    subst qv'
    obtain rfl : u = Value.bool true := rv
    obtain ⟨more, hm⟩ := un.tbls T #[] al.told
    have eT : s'.heap.get? T = some { cls := .none, data := .fields (#[] ++ more) } := ok' T _ hm
    have other : ∀ b o, b ≠ T → s.heap.get? b = some o → s'.heap.get? b = some o := fun b o nb e => by
      rcases al.only b with z | z | ⟨ob, xs, z⟩
      · exact un.keep b o e z (fun y => by cases (show b ∈ ([] : List Addr) from y)) (by simp)
      · exact absurd z nb
      · have h1 := (ok b _ z).1
        have h2 := (ok' b _ (un.frzs b ob _ z)).1
        rw [e] at h1
        cases h1
        exact h2
    refine And.intro rfl (And.intro ⟨fun b o e => ?_, fun b o e => ?_⟩ (And.intro eos bare))
    · by_cases hb : b = T
      · subst hb
        rw [al.tab] at e
        cases e
        exact .inr (.inl ⟨(C.tab al.tab).isCodeTable, rfl, #[], more, rfl, eT⟩)
      · exact .inl (other b o hb e)
    · by_cases hb : b = T
      · subst hb
        exact ⟨_, eT⟩
      · exact ⟨o, other b o hb e⟩
theorem law_tabled {fa a c T : Addr} {s : Shared} {vs : List Value} {ns : List Int} {mb : Str → Option Value} (R : LawRunT P w K mg fa c T)
    (X : K.In s.heap) (g : s.heap.Ns mainGlobals mg) (b : s.heap.Ns builtinsNs mb) (bb : ∀ x : Str, x ≠ "__name__" → mb x = bootBuiltins x) (lim : s.heap.NoLimit) (gs : s.gens = #[]) (C : PySem.W.CodeHd s.heap c T)
    (bm : ∃ (bm : Addr) (ob : Obj), mg "__builtins__" = some (.ref bm) ∧ bm ≠ builtinsNs ∧ s.heap.get? bm = some ob ∧ ob.cls = .type "module" ∧ ob.dict = some builtinsNs ∧ ob.data = .plain)
    (et : s.heap.get? T = some { cls := .none, data := .fields #[] }) (nt : K.lookup T = none)
    (ea : s.heap.get? a = some { cls := .type "list", data := .seq vs.toArray }) (hi : IntsAre vs ns) (hl : ns.length ≤ 63) :
    codeAny (model P w) callerA (.call (.ref fa) ⟨[.ref a], []⟩) (fun r s' => r = .ok (.ret (.bool true)) ∧ OldK s.heap s'.heap ∧ s'.os = s.os ∧ AllBare s'.gens) s := by
  have rel := vals_ints hi
  have ll := hi.length
  have hl2 : ns.length ≤ sizeLine := Nat.le_trans hl (by decide)
  have naT : a ≠ T := fun z => by
    rw [z, et] at ea
    cases ea
  cases lk : K.lookup a with
  | some o =>
    have e := X a o lk
    rw [ea] at e
    cases e
    let H0 : Hp := fun b => if b = T then some (.tbl #[]) else Option.none
    have hT : H0 T = some (.tbl #[]) := if_pos rfl
    have hN : ∀ b, b ≠ T → H0 b = none := fun b hb => if_neg hb
    refine law_told (H := H0) R ⟨fun b => ?_, fun b z => ?_, fun z => absurd (hN a naT) z, nt, et, hT⟩ X g b bb lim gs C bm ea ?_ hl (fun b u z => ?_)
    · by_cases hb : b = T
      · exact .inr (.inl hb)
      · exact .inl (hN b hb)
    · by_cases hb : b = T
      · exact .inr hb
      · exact absurd (hN b hb) z
    · refine .inr ⟨_, vs.toArray, _, lk, rfl, rfl, rfl, ?_, by simpa using rel⟩
      rw [List.size_toArray, ll]
      exact hl2
    · by_cases hb : b = T
      · subst hb
        rw [hT] at z
        cases z
        exact et
      · rw [hN b hb] at z
        cases z
  | none =>
    let o0 : HO := .frz { cls := .type "list", data := .seq vs.toArray } (.lst (ns.map V.int))
    let H0 : Hp := fun b => if b = a then some o0 else if b = T then some (.tbl #[]) else Option.none
    have hA : H0 a = some o0 := if_pos rfl
    have hT : H0 T = some (.tbl #[]) := (if_neg (Ne.symm naT)).trans (if_pos rfl)
    have hN : ∀ b, b ≠ a → b ≠ T → H0 b = none := fun b h1 h2 => (if_neg h1).trans (if_neg h2)
    refine law_told (H := H0) R ⟨fun b => ?_, fun b z => ?_, fun _ => lk, nt, et, hT⟩ X g b bb lim gs C bm ea (.inl (.inr ⟨_, hA⟩)) hl (fun b u z => ?_)
    · by_cases h1 : b = a
      · subst h1; exact .inr (.inr ⟨_, _, hA⟩)
      · by_cases hb : b = T
        · exact .inr (.inl hb)
        · exact .inl (hN b h1 hb)
    · by_cases h1 : b = a
      · exact .inl h1
      · by_cases hb : b = T
        · exact .inr hb
        · exact absurd (hN b h1 hb) z
    · by_cases h1 : b = a
      · subst h1
        rw [hA] at z
        cases z
        exact ⟨ea, by rw [List.length_map]; exact hl2, vs, _, rel, ea⟩
      · by_cases hb : b = T
        · subst hb
          rw [hT] at z
          cases z
          exact et
        · rw [hN b h1 hb] at z
          cases z
/-- the end of such a law's row -/
theorem walk_tabled {l : PySem.W.OpenLaw} {q : Program} {loose : List Str} {XP : (Str → Option Value) → Heap → Prop} {YP : World → Heap → Prop} {d : DefRec} {K : Params → PySem.W.Frag} {c T : Addr} (hn : l.most = some 63) (hdf : d.params.defaults = [])
    (hY : ∀ (w : World) (h : Heap), YP w h → (K w.params).In h) (ht : ∀ (w : World) (h : Heap), YP w h → h.get? T = some { cls := .none, data := .fields #[] }) (hc : ∀ w : World, PySem.W.codeHdIn (K w.params) c T = true) (nt : ∀ w : World, (K w.params).lookup T = none)
    (R : ∀ (w : World) (mg : Str → Option Value) (fa : Addr) (h : Heap), (K w.params).In h → h.Ns mainGlobals mg → mg d.name = some (.ref fa) → LawRunT l.prog w (K w.params) mg fa c T) :
    PySem.W.WalkO q loose XP YP l.row.toRowW d [] (fun f vs => PySem.call f vs) := by
  refine Att.attach_call hn hdf fun w s₀ s₁ mg mb fa o pm cd doc a vs ns G Y ho hd hcd hmg hobj hints hlen hg => ?_
  have KX := hY w _ Y
  exact law_tabled (R w mg fa _ KX G.T.g hmg) KX G.T.g G.T.b G.T.builtins G.T.nolimit hg (PySem.W.codeHd_of_K KX (hc w)) G.T.bmain (ht w _ Y) (nt w) hobj hints hlen
end
end Ms
namespace Ms
open PySem PySem.Spec PyProof.Rows L2
/-! ### BadSettings(e) and need_settings -/
structure ErrC (K : PySem.W.Frag) (C fE : Addr) : Prop where
  ox : OexC K C
  ini : PySem.W.findIn K (.ref C) "__init__" = some (some (.ref fE))
  ty : PySem.W.typeIn K (.ref fE) = some (.type "function")
  no : PySem.W.findIn K (.ref C) "place" = some none
def spIni (C : Addr) : Sp := fun vs H Q _ => ∃ (a : Addr) (y : V), vs = [.ref a, y] ∧ H a = some (exo a C none) ∧ ∀ dx, H dx = none → dx ≠ a → Q .non (upd (upd H dx (exd dx [("place", y)])) a (exo a C (some dx)))
def needV (d : PyData) : Option V := match d with
  | .tuple ds => if 1 ≤ ds.length ∧ ds.length ≤ 3 then (match dueGo 0 [] 1 ds with | .inl p => some (.int (p : Nat)) | .inr many => if many ≤ 12 then none else some (.str "many")) else some .non
  | _ => some .non
def spNeed (K : PySem.W.Frag) (C : Addr) : Sp := fun vs H Q E => ∃ (m l : Addr) (v : V) (d : PyData) (B b : Nat), vs = [v] ∧ Dq K H m l v d ∧ Gd B 100000 b d ∧ (needV d = none → ∀ H', Same H H' → Q v H') ∧
  ∀ u, needV d = some u → ∀ dx H', H dx = none → Same H H' → H' dx = some (.xd [("place", u)]) → E (.ref C) (some dx) H'
theorem mk_one {C : Addr} {H1 : Hp} {y : V} {Q : XK} (h : ∀ d H', H1 d = none → Same H1 H' → H' d = some (.xd [("place", y)]) → Q (.ref C) (some d) H') :
    [y].length ≤ 1000 ∧ ∀ a, H1 a = none → spIni C (.ref a :: ([y] ++ [])) (upd H1 a (exo a C none))
      (fun v H2 => v = .non ∧ ∃ (d : Addr) (fs : List (Str × V)), H2 a = some (exo a C (some d)) ∧ H2 d = some (exd d fs) ∧ H1 d = none ∧ Q (.ref C) (some d) (upd (del H2 a) d (.xd fs))) (fun _ _ _ => False) := by
  refine ⟨(by show 1 ≤ 1000; decide), fun a ha => ⟨a, y, rfl, upd_same, fun dx h1 h2 => ?_⟩⟩
  have hd : H1 dx = none := by rw [upd_ne h2] at h1; exact h1
  refine ⟨rfl, dx, [("place", y)], upd_same, by rw [upd_ne h2, upd_same], hd, h dx _ hd (fun b o e => ?_) upd_same⟩
  rw [upd_ne (ne_of_none e hd), del_ne (ne_of_none e ha), upd_ne (ne_of_none e ha), upd_ne (ne_of_none e hd), upd_ne (ne_of_none e ha)]
  exact e
section
variable {P : Program} {w : World} {K : PySem.W.Frag} {mg : Str → Option Value} {base : Heap} {fI fN fS fA fG C fE : Addr}
theorem scIn : FnScope ["self", "place"] ["self", "place"] (defScope sIni) := ⟨rfl, rfl, rfl, by decide +kernel, rfl, by decide +kernel, by decide +kernel⟩
theorem ok_ini {fd : FuncData} {qual : Str} (F : Fun K "__init__" qual sIni fE fd) (TE : ErrC K C fE) : FnOk P w K mg base CX0 1 fE fd ["self", "place"] (spIni C) := by
  refine F.ok scIn (fun vs H Q E h => ?_) (fun cdv A outer s H vs Q E hr h => ?_)
  · obtain ⟨a, y, rfl, _⟩ := h
    rfl
  · obtain ⟨a, y, rfl, e, q⟩ := h
    exact ⟨_, pss_one (ps_ost (pv 0) (pv 1)), ⟨_, rfl, _, rfl, a, C, rfl, TE.ox, TE.no, .inl ⟨e, fun dx h1 h2 => q dx h1 h2⟩⟩⟩
abbrev NPd : List Str := ["thing", "at", "setting"]
theorem scPd : FnScope NPd ["thing"] (defScope sNeed) := ⟨rfl, rfl, rfl, by decide +kernel, rfl, by decide +kernel, by decide +kernel⟩
def many (qs : List (Str × Int)) : Int := qs.foldl (fun m q => m * (q.2 + 1)) 1
theorem fold_many : ∀ (qs : List (Str × Int)) (rs : List (List Int)) (m : Int), (∀ q ∈ qs, 1 ≤ q.2 ∧ q.2 ≤ 3) → (rs.length : Int) = m → ((qs.foldl (fun rs q => widen rs (q.2 + 1).toNat) rs).length : Int) = qs.foldl (fun m q => m * (q.2 + 1)) m
  | [], rs, m, _, h => h
  | q :: qs, rs, m, hq, h => by
    refine fold_many qs (widen rs (q.2 + 1).toNat) (m * (q.2 + 1)) (fun x hx => hq x (List.mem_cons_of_mem _ hx)) ?_
    have := hq q (List.mem_cons_self ..)
    rw [widen_len, Int.natCast_mul, h]
    congr 1
    omega
theorem grid_many (qs : List (Str × Int)) (h : ∀ q ∈ qs, 1 ≤ q.2 ∧ q.2 ≤ 3) : ((grid qs).length : Int) = many qs := fold_many qs [[]] 1 h rfl
theorem ok_need {f : Addr} {fd fdI fdN fdS fdA fdG fdE : FuncData} {qual : Str} (F : Fun K "need_settings" "need_settings" sNeed f fd) (T : TxtP mg fI fN fS fA fG) (gC : mg "BadSettings" = some (.ref C)) (TE : ErrC K C fE)
    (FI : Fun K "is_int" "is_int" sPInt fI fdI) (bI : Binds K fdI ["thing"] []) (FN : Fun K "is_name" "is_name" sPName fN fdN) (bN : Binds K fdN ["thing"] []) (FS : Fun K "is_setting" "is_setting" sPSet fS fdS) (bS : Binds K fdS ["thing"] [])
    (FA : Fun K "names_of" "names_of" sPNames fA fdA) (bA : Binds K fdA ["settings"] []) (FG : Fun K "grid_of" "grid_of" sPGrid fG fdG) (bG : Binds K fdG ["settings"] []) (FE : Fun K "__init__" qual sIni fE fdE) (bE : Binds K fdE ["self", "place"] []) :
    FnOk P w K mg base (L2.CX P w) 3 f fd ["thing"] (spNeed K C) := by
  have GS : FnOk P w K mg base CX0 2 fS fdS ["thing"] (spPSet K) := ok_pset FS T FI bI FN bN
  have GA : FnOk P w K mg base CX0 1 fA fdA ["settings"] (spPNames K) := ok_pnames FA
  have GG : FnOk P w K mg base CX0 1 fG fdG ["settings"] (spPGrid K) := ok_pgrid FG T
  have GE : FnOk P w K mg base CX0 1 fE fdE ["self", "place"] (spIni C) := ok_ini FE TE
  refine F.okX scPd (fun vs H Q E h => ?_) (fun cdv A outer s H vs Q E hr h => ?_)
  · obtain ⟨m, l, v, d, B, b, rfl, _⟩ := h
    rfl
  obtain ⟨m, l, v, d, B, b, rfl, hd, gd, q, qe⟩ := h
  obtain ⟨ts, gs⟩ := T.mS
  obtain ⟨tt, gt⟩ := T.mT
  have hr1 : Room 1 _ := hr.mono (by decide)
  refine ⟨_, pss_cons (ps_if (PW.pt (pw_or (pt_not (pt_val (pe_callB call_isi (by rfl) T.isi PyProof.Rows.boot_isinstance (pa_cons (pv 0) (pa_cons (pe_bltn (v := .ty "tuple") (u := .type "tuple") (by rfl) T.tuple (by decide +kernel) rfl) pa_nil)))))
      (pw_or1 (pt_not (pt_chain op_le op_le pe_int (pe_callB call_len (by rfl) T.len PySem.boot_len (pa_cons (pv 0) pa_nil)) (pe_glob (v := .int 3) rfl gs ⟨_, rfl⟩)))))) (pss_one (ps_raise rfl (takes_of rfl rfl rfl rfl) (pmk_oex TE.ox TE.ini TE.ty GE hr bE .nil pass0 (by rfl) gC (pa_cons pe_non pa_nil)))) pss_nil)
    (pss_cons (ps_for (passes_of rfl) rfl (pi_et (by rfl) T.enumerate (pa_cons (pv 0) pa_nil)) (pg_tup rfl (pgs_cons (pg_name (i := 1) scPd.nd rfl (by first | exact Or.inl rfl | exact Or.inr rfl)) (pgs_cons (pg_name (i := 2) scPd.nd rfl (by first | exact Or.inl rfl | exact Or.inr rfl)) pgs_nil)))
      (pss_one (ps_if (PW.pt (pw_or (pt_not (pt_val (pe_call GS hr rfl T.gS FS.kp bS .nil pass0 (pa_cons (pv 2) pa_nil)))) (pw_or1 (pt_cmpR op_in_seq (pe_ix ix_tup (pv 2) pe_int (fun _ _ => rfl)) (pe_call GA hr1 rfl T.gA FA.kp bA .nil pass0 (pa_cons (pe_slice sl_tupA (pv 0) po_none (po_some (pv 1))) pa_nil)) (by rfl)))))
        (pss_one (ps_raise rfl (takes_of rfl rfl rfl rfl) (pmk_oex TE.ox TE.ini TE.ty GE hr bE .nil pass0 (by rfl) gC (pa_cons (pv 1) pa_nil)))) pss_nil)))
    (pss_cons (ps_if (pt_cmpR op_gt (pe_callB call_len_seq (by rfl) T.len PySem.boot_len (pa_cons (pe_call GG hr1 rfl T.gG FG.kp bG .nil pass0 (pa_cons (pv 0) pa_nil)) pa_nil)) (pe_glob (v := .int 12) rfl gt ⟨_, rfl⟩) (nomark _))
        (pss_one (ps_raise rfl (takes_of rfl rfl rfl rfl) (pmk_oex TE.ox TE.ini TE.ty GE hr bE .nil pass0 (by rfl) gC (pa_cons pe_str pa_nil)))) pss_nil)
    (pss_one (ps_ret (pv 0))))), ?_⟩
  refine ⟨_, rfl, v, .ty "tuple", _, _, _, rfl, .ty _, hd.ty, isi_tup K d, _, rfl, ?_⟩
  cases d with
  | tuple ds =>
    cases hd with
    | tup hp hx =>
      rename_i p xs
      refine ifF rfl ?_
      have lx := hx.len
      have none0 : ¬ (1 ≤ ds.length ∧ ds.length ≤ 3) → needV (.tuple ds) = some .non := fun h => by
        show (if 1 ≤ ds.length ∧ ds.length ≤ 3 then _ else some V.non) = some .non
        rw [if_neg h]
      refine ⟨_, rfl, .ref p, xs.length, rfl, .inr ⟨xs, hp, rfl⟩, 1, (xs.length : Int), rfl, rfl, _, rfl, ite_b (fun e1 => ⟨(xs.length : Int), 3, rfl, rfl, _, rfl, ite_b (fun e8 => mk_one (qe _ (none0 ?_))) (fun e8 => ?_)⟩) (fun e1 => ⟨_, rfl, ifT rfl (mk_one (qe _ (none0 ?_)))⟩)⟩
      · have : ¬ ((xs.length : Int) ≤ 3) := by simpa using e8
        omega
      · have l3 : (xs.length : Int) ≤ 3 := by simpa using e8
        have l1 : (1 : Int) ≤ (xs.length : Int) := of_decide_eq_true e1
        have ed : needV (.tuple ds) = (match dueGo 0 [] 1 ds with | .inl p => some (V.int (p : Nat)) | .inr many => if many ≤ 12 then none else some (.str "many")) := by
          show (if 1 ≤ ds.length ∧ ds.length ≤ 3 then _ else some V.non) = _
          rw [if_pos ⟨by omega, by omega⟩]
        refine ⟨_, rfl, p, xs, rfl, hp, ?_⟩
        refine for_it walk_et (fun i σ H1 => ∃ (qs : List (Str × Int)) (v1 v2 : Option V), σ = [some (.ref p), v1, v2] ∧ Same H H1 ∧ PrTs K H1 (xs.take i) qs ∧ (∀ q ∈ qs, 1 ≤ q.2 ∧ q.2 ≤ 3) ∧ dueGo 0 [] 1 ds = dueGo i (qs.map (·.1)) (many qs) (ds.drop i))
          ⟨[], none, none, rfl, Same.refl H, by rw [List.take_zero]; exact .nil, (fun q hq => nomatch hq), rfl⟩ (fun i σ H1 _ ⟨qs, v1, v2, _, s1, _⟩ => Same.seqT s1 hp) ?_ ?_
        · rintro i x σ H1 H2 hi ⟨qs, v1, v2, rfl, s1, pq, bq, dg⟩ ⟨TT, x1, x2, rfl, hT, rfl, e1', e2'⟩
          have ex1 : x1 = .int (i : Nat) := (Option.some.inj e1').symm
          subst ex1
          obtain ⟨e, he, dqe⟩ := hx.get e2'
          have sT : Same H1 (upd H1 TT (.tup [.int (i : Nat), x2])) := Same.upd hT
          have sA : Same H (upd H1 TT (.tup [.int (i : Nat), x2])) := s1.trans sT
          have dqA := Dq.same sA e x2 dqe
          have hid : i < ds.length := by omega
          have edr : ds.drop i = e :: ds.drop (i + 1) := by rw [List.drop_eq_getElem_cons hid]; rw [(List.getElem?_eq_some_iff.mp he).2]
          have refuse : ∀ {H3 : Hp}, Same H H3 → needV (.tuple ds) = some (.int (i : Nat)) → ∀ d H', H3 d = none → Same H3 H' → H' d = some (.xd [("place", V.int (i : Nat))]) → E (.ref C) (some d) H' := fun {H3} s3 hn d H' h1 h2 h3 =>
            qe _ hn d H' (Same.free s3 h1) (s3.trans h2) h3
          obtain ⟨cc, eb, g⟩ := Gd.untup gd
          have ge := g.at he
          have we : e.weight ≤ 100000 := by
            have := wA_at he
            have := g.wt
            omega
          refine ⟨TT, _, rfl, .inl (.inl upd_same), rfl, _, _, rfl, _, _, rfl, rfl, ?_⟩
          refine ⟨_, rfl, m, l, x2, e, _, _, rfl, dqA, ge.mono (Nat.le_refl _) we (Nat.le_refl _), fun H3 s3 => ⟨_, rfl, ?_⟩⟩
          have s03 := sA.trans s3
          cases eo : oneD e with
          | none =>
            refine ifT rfl ⟨_, rfl, mk_one (refuse s03 ?_)⟩
            rw [ed, dg, edr]
            simp only [dueGo, eo]
          | some zc =>
            obtain ⟨z, c⟩ := zc
            have le := pq.len
            obtain ⟨a, rfl, hq, cb⟩ : ∃ a, x2 = .ref a ∧ SqT K H a [.str z, .int c] ∧ 1 ≤ c ∧ c ≤ 3 := by
              have key : e = .tuple [.str z, .int c] ∧ 1 ≤ c ∧ c ≤ 3 := by
                have eo' := eo
                unfold oneD at eo'
                split at eo'
                · split at eo'
                  · rename_i hh
                    cases eo'
                    have hw := (Bool.and_eq_true _ _ ▸ hh : _ ∧ _).2
                    exact ⟨rfl, of_decide_eq_true (Bool.and_eq_true _ _ ▸ hw : _ ∧ _).1, of_decide_eq_true (Bool.and_eq_true _ _ ▸ hw : _ ∧ _).2⟩
                  · cases eo'
                · cases eo'
              obtain ⟨rfl, kb⟩ := key
              cases dqe with
              | tup h0 hy0 =>
                cases hy0 with
                | cons g0 hy1 =>
                  cases hy1 with
                  | cons g1 hy2 =>
                    cases g0
                    cases g1
                    cases hy2
                    exact ⟨_, rfl, h0, kb⟩
            refine ifF rfl ?_
            refine ⟨_, rfl, a, _, 0, .str z, rfl, rfl, Same.seqT s03 hq, rfl, ?_⟩
            refine ⟨_, rfl, _, rfl, _, rfl, slA_any (Same.seqT s03 hp) fun p4 H4 s4 c4 => ?_⟩
            rw [cut_to (by omega)] at c4
            refine ⟨p4, xs.take i, qs, rfl, c4, (pq.same (sT.trans (s3.trans s4))), (by rw [← le, List.length_take]; omega), fun D hD H5 s5 g5 => ?_⟩
            have sF := (s03.trans s4).trans s5
            refine ⟨D, _, rfl, .inl (SqL.of g5), rfl, (by simp [flatV]), _, rfl, ite_b (fun e => ⟨_, rfl, mk_one (refuse sF ?_)⟩) (fun e => ?_)⟩
            · have e' : inV (.str z) ((qs.map (·.1)).map V.str) = true := e
              rw [inV_str] at e'
              have hz := of_decide_eq_true e'
              rw [ed, dg, edr]
              simp only [dueGo, eo, if_pos hz]
            · have e' : inV (.str z) ((qs.map (·.1)).map V.str) = false := e
              rw [inV_str] at e'
              have nz := of_decide_eq_false e'
              refine ⟨qs ++ [(z, c)], _, _, rfl, sF, ?_, fun q hq' => ?_, ?_⟩
              · have e3 : xs[i]? = some (V.ref a) := e2'
                rw [List.take_succ, e3]
                exact (pq.same (sT.trans ((s3.trans s4).trans s5))).snoc ⟨a, rfl, Same.seqT sF hq⟩
              · rcases List.mem_append.mp hq' with hq' | hq'
                · exact bq q hq'
                · rw [List.mem_singleton.mp hq']; exact cb
              · rw [dg, edr]
                simp only [dueGo, eo, if_neg nz]
                unfold many
                rw [List.map_append, List.foldl_append]
                rfl
        · rintro σ H1 ⟨qs, v1, v2, rfl, s1, pq, bq, dg⟩
          rw [List.take_of_length_le (by omega)] at pq
          rw [List.drop_of_length_le (by omega)] at dg
          have le := pq.len
          have ed2 : needV (.tuple ds) = if many qs ≤ 12 then none else some (.str "many") := by
            rw [ed, dg]; rfl
          refine ⟨_, rfl, p, xs, qs, rfl, Same.seqT s1 hp, pq, by omega, bq, fun D as H2 hD s2 gD rw2 _ => ?_⟩
          have lg := rw2.length
          refine ⟨D, _, rfl, .inl (SqL.of gD), _, _, rfl, rfl, _, rfl, ite_b (fun e => mk_one fun d H' h1 h2 h3 => ?_) (fun e => ?_)⟩
          · have hm : ¬ many qs ≤ 12 := by
              have := of_decide_eq_true e
              rw [← grid_many qs bq]
              rw [List.length_map, lg] at this
              omega
            exact qe _ (by rw [ed2, if_neg hm]) d H' (Same.free (s1.trans s2) h1) ((s1.trans s2).trans h2) h3
          · have hm : many qs ≤ 12 := by
              have := of_decide_eq_false e
              rw [← grid_many qs bq]
              rw [List.length_map, lg] at this
              omega
            exact ⟨_, rfl, q (by rw [ed2, if_pos hm]) _ (s1.trans s2)⟩
      · have : ¬ ((1 : Int) ≤ (xs.length : Int)) := of_decide_eq_false e1
        omega
  | _ => exact ifT rfl (ifT rfl (mk_one (qe _ rfl)))
end
end Ms
namespace Ms
open PySem PySem.Spec PyProof.Rows L2
/-! ### == of data of any kind and a text -/
section
open PySem.SeqAt AutoSeq1 MeetsSeq
theorem dict_no_str (l : Addr) (es : Array DictEntry) (ep : Nat) (dd : Option Addr) (sl : Array (Option Value)) (b : Str) (u : Tok) :
    Meets (Builtin.«dict.__eq__» ⟨[.ref l, .str b u], []⟩) (fun _ R s => s.heap.get? l = some { cls := .type "dict", dict := dd, data := .dict es ep, slots := sl } ∧ R (.ok (.ret .notImplemented)) s) :=
  .of_wp fun prog w A R s h => by obtain ⟨hp, g, d, tk, os⟩ := s; obtain ⟨hl, h⟩ := h; have f1 := F.sub_str_dict; wp_walk using wpAny_loadPart' hl; exact ⟨_, rfl, h⟩
theorem str_no_dict (b : Str) (u : Tok) (l : Addr) (c : Value) (es : Array DictEntry) (ep : Nat) (dd : Option Addr) (sl : Array (Option Value)) :
    Meets (Builtin.«str.__eq__» ⟨[.str b u, .ref l], []⟩) (fun _ R s => s.heap.get? l = some { cls := c, dict := dd, data := .dict es ep, slots := sl } ∧ R (.ok (.ret .notImplemented)) s) :=
  .of_wp fun prog w A R s h => by obtain ⟨hp, g, d, tk, os⟩ := s; obtain ⟨hl, h⟩ := h; wp_walk using wpAny_loadPart' hl, wpAny_load hl; exact ⟨_, rfl, h⟩
variable {A : Around} {s : Shared}
theorem rc_dict_str {l : Addr} {o : Obj} {es : Array DictEntry} {ep : Nat} (b : Str) (u : Tok) (ho : s.heap.get? l = some o) (hc : o.cls = .type "dict") (hd : o.data = .dict es ep) (hu : A.units < cLine) : RcAt A s (.ref l) (.str b u) false := fun prog w E Q h => by
  obtain ⟨cls, dd, data, sl⟩ := o
  simp only at hc hd
  subst hc hd
  exact rc_eq_decline_or (k := false) ⟨_, ho, rfl⟩ rfl (by decide) F.sub_str_dict F.slot_dict_eq F.slot_str_eq_refl
    (fun _ hq => call_meets F.slot_dict_eq ⟨_, ho, rfl⟩ F.entry_dict_eq (F.args_dict_eq_2 _ _) (dict_no_str l es ep dd sl b u) ⟨ho, hq⟩)
    (fun _ hq => call_meets F.slot_str_eq_refl rfl F.entry_str_eq (F.args_str_eq_2 _ _) (str_no_dict b u l _ es ep dd sl) ⟨ho, hq⟩)
    (fun _ hq => wpAny_of_eq (rfl : isSame (.ref l) (.str b u) = pure false) hq) (.inr hu) h
theorem rc_str_dict {l : Addr} {o : Obj} {es : Array DictEntry} {ep : Nat} (b : Str) (u : Tok) (ho : s.heap.get? l = some o) (hc : o.cls = .type "dict") (hd : o.data = .dict es ep) (hu : A.units < cLine) : RcAt A s (.str b u) (.ref l) false := fun prog w E Q h => by
  obtain ⟨cls, dd, data, sl⟩ := o
  simp only at hc hd
  subst hc hd
  exact rc_eq_decline_or (k := false) rfl ⟨_, ho, rfl⟩ (by decide) F.sub_dict_str F.slot_str_eq F.slot_dict_eq_refl
    (fun _ hq => call_meets F.slot_str_eq rfl F.entry_str_eq (F.args_str_eq_2 _ _) (str_no_dict b u l _ es ep dd sl) ⟨ho, hq⟩)
    (fun _ hq => call_meets F.slot_dict_eq_refl ⟨_, ho, rfl⟩ F.entry_dict_eq (F.args_dict_eq_2 _ _) (dict_no_str l es ep dd sl b u) ⟨ho, hq⟩)
    (fun _ hq => wpAny_of_eq (rfl : isSame (.str b u) (.ref l) = pure false) hq) (.inr hu) h
end
/-- whether data is this text -/
def isTxt (d : PyData) (w : Str) : Bool := match d with | .str z => z == w | _ => false
section
open PySem.SeqAt
variable {X : Cx} {pins : List (Addr × Obj)} {σ : L2.St} {H : Hp} {s : Shared} {m l : Addr}
theorem Dq.rcTxt (I : Inv X pins σ H s) {A : Around} (hu : A.units < cLine) {v : V} {d : PyData} {u : Value} (h : Dq X.K H m l v d) (r : RelV v u) (w : Str) (t : Tok) : RcAt A s u (.str w t) (isTxt d w) ∧ RcAt A s (.str w t) u (isTxt d w) := by
  cases h with
  | non => cases r; exact ⟨RcAt.none_str w t, RcAt.str_none w t⟩
  | bl b => cases r; exact ⟨RcAt.bool_str b w t, RcAt.str_bool w t b⟩
  | int i => obtain ⟨t', rfl⟩ := r; exact ⟨RcAt.int_str i t' w t, RcAt.str_int w t i t'⟩
  | str z =>
    obtain ⟨t', rfl⟩ := r
    have e : (w == z) = (z == w) := by rw [Bool.eq_iff_iff, beq_iff_eq, beq_iff_eq]; exact eq_comm
    exact ⟨RcAt.str_str z t' w t, by show RcAt A s (.str w t) (.str z t') (z == w); rw [← e]; exact RcAt.str_str w t z t'⟩
  | lst e n1 n2 g =>
    cases r
    obtain ⟨its, rv, p, _⟩ := I.list (SqL.of e)
    exact ⟨RcAt.list_str w t p.isList hu, RcAt.str_list w t p.isList hu⟩
  | tup e g =>
    cases r
    obtain ⟨its, rv, p, _⟩ := I.tuple e
    exact ⟨RcAt.tuple_str w t p hu, RcAt.str_tuple w t p hu⟩
  | dct e n1 n2 =>
    cases r
    obtain ⟨z, hd, vs, rel, dd⟩ := dk_of I.hok e
    obtain ⟨o, es, ep, ho, hc, hdat, hlay⟩ := id dd
    exact ⟨rc_dict_str w t ho hc.1 hdat hu, rc_str_dict w t ho hc.1 hdat hu⟩
theorem Dq.eqTxt (I : Inv X pins σ H s) {A : Around} (hu : A.units < cLine) {v : V} {d : PyData} {u : Value} (h : Dq X.K H m l v d) (r : RelV v u) (w : Str) (t : Tok) : EqAt A s u (.str w t) (isTxt d w) := by
  cases h with
  | non => cases r; exact EqAt.none_str w t
  | bl b => cases r; exact EqAt.bool_str b w t
  | int i => obtain ⟨t', rfl⟩ := r; exact EqAt.int_str i t' w t
  | str z => obtain ⟨t', rfl⟩ := r; exact EqAt.str_str z t' w t
  | lst e n1 n2 g =>
    cases r
    obtain ⟨its, rv, p, _⟩ := I.list (SqL.of e)
    exact EqAt.list_str w t p.isList hu
  | tup e g =>
    cases r
    obtain ⟨its, rv, p, _⟩ := I.tuple e
    exact EqAt.tuple_str w t p hu
  | dct e n1 n2 =>
    cases r
    obtain ⟨z, hd, vs, rel, dd⟩ := dk_of I.hok e
    obtain ⟨o, es, ep, ho, hc, hdat, hlay⟩ := id dd
    intro prog w' E Q' hq
    unfold eqBool
    refine wpAny_holding ?_
    refine wpAny_ite_split (fun hab => absurd (eq_of_beq hab) nofun) (fun _ => ?_)
    exact wpAny_bind (rc_dict_str w t ho hc.1 hdat hu prog w' E _ (wpAny_truthy_bool hq))
end
section
variable {X : Cx}
/-- data == a text -/
def rEqT (K : PySem.W.Frag) : R2 := fun x y H Q => ∃ d m l w, Dq K H m l x d ∧ y = .str w ∧ Q (.bl (isTxt d w)) H
/-- a text == data -/
def rTEq (K : PySem.W.Frag) : R2 := fun x y H Q => ∃ d m l w, x = .str w ∧ Dq K H m l y d ∧ Q (.bl (isTxt d w)) H
theorem op_eqT (hu : X.A.units + 64 < cLine) : OpR X (compareOp .Eq) (rEqT X.K) := by
  intro pins s σ H x y v u Q I rx ry h
  obtain ⟨d, m, l, w, hd, rfl, q⟩ := h
  obtain ⟨t, rfl⟩ := ry
  exact (hd.rcTxt I (A := X.A) (by omega) rx w t).1 X.prog X.w _ _ ⟨.bl _, H, I, rfl, q⟩
theorem op_Teq (hu : X.A.units + 64 < cLine) : OpR X (compareOp .Eq) (rTEq X.K) := by
  intro pins s σ H x y v u Q I rx ry h
  obtain ⟨d, m, l, w, rfl, hd, q⟩ := h
  obtain ⟨t, rfl⟩ := rx
  exact (hd.rcTxt I (A := X.A) (by omega) ry w t).2 X.prog X.w _ _ ⟨.bl _, H, I, rfl, q⟩
/-- a tuple of data == a tuple of one text -/
def isEnd (d : PyData) (w : Str) : Bool := match d with | .tuple [x] => isTxt x w | _ => false
def rEqE (K : PySem.W.Frag) : R2 := fun x y H Q => ∃ a b m l xs ds w, x = .ref a ∧ y = .ref b ∧ SqT K H a xs ∧ DqAll K H m l xs ds ∧ SqT K H b [.str w] ∧ Q (.bl (isEnd (.tuple ds) w)) H
theorem op_eqE (hu : X.A.units + 64 < cLine) : OpR X (compareOp .Eq) (rEqE X.K) := by
  intro pins s σ H x y v u Q I rx ry h
  obtain ⟨a, b, m, l, xs, ds, w, rfl, rfl, ha, hx, hb, q⟩ := h
  cases rx
  cases ry
  obtain ⟨its, r1, p1, _⟩ := I.tuple ha
  obtain ⟨its2, r2, p2, _⟩ := I.tuple hb
  obtain ⟨t, e2⟩ : ∃ t, its2 = [Value.str w t] := by
    cases r2 with
    | cons r r' =>
      cases r'
      obtain ⟨t, rfl⟩ := r
      exact ⟨t, rfl⟩
  subst e2
  have hl := r1.length
  have ln := hx.len
  cases xs with
  | nil =>
    cases r1
    have ed : ds = [] := by cases ds with | nil => rfl | cons _ _ => simp at ln
    subst ed
    exact PySem.SeqAt.eq_tupleAt (e := fun _ => true) p1 p2 (by omega) (fun j h1 _ => by simp at h1) ⟨.bl _, H, I, rfl, q⟩
  | cons x0 xr =>
    cases r1 with
    | @cons _ u0 _ ur ra rr =>
    cases hx with
    | @cons _ _ d0 dr g0 gr =>
    have at0 : PySem.SeqAt.EqAt X.A.in1 s u0 (.str w t) (isTxt d0 w) := g0.eqTxt I (A := X.A.in1) (by show X.A.units + 1 < cLine; omega) ra w t
    refine PySem.SeqAt.eq_tupleAt (e := fun _ => isTxt d0 w) p1 p2 (by omega) (fun j h1 h2 => ?_) ?_
    · have ej : j = 0 := by simp at h2; omega
      subst ej
      simpa using at0
    · have ev : ((List.range (min (u0 :: ur).toArray.size [Value.str w t].toArray.size)).all (fun _ => isTxt d0 w) && (u0 :: ur).toArray.size == [Value.str w t].toArray.size) = isEnd (.tuple (d0 :: dr)) w := by
        have l2 : ur.length = dr.length := by
          have := rr.length
          have := gr.len
          omega
        have e1 : (u0 :: ur).toArray.size = ur.length + 1 := by simp
        have e2 : [Value.str w t].toArray.size = 1 := by simp
        have e3 : min (ur.length + 1) 1 = 1 := by omega
        rw [e1, e2, e3, l2]
        cases dr with
        | nil => simp [isEnd, List.range, List.range.loop]
        | cons d1 d2 => simp [isEnd]
      rw [ev]
      exact ⟨.bl _, H, I, rfl, q⟩
end
end Ms
namespace Ms
open PySem PySem.Spec PyProof.Rows L2
/-! ### tuple * n, n from 1 on -/
section
open AutoSeq1 MeetsSeq
theorem tuple_mul1 (l : Addr) (items : Array Value) (n : Nat) (dd : Option Addr) (sl : Array (Option Value)) (u : Tok) :
    Meets (Builtin.«tuple.__mul__» ⟨[.ref l, .int 1 u], []⟩) (fun _ R s => s.heap.get? l = some { cls := .type "tuple", dict := dd, data := .seq items n, slots := sl } ∧ R (.ok (.ret (Value.ref l))) s) :=
  .of_wp fun prog w A R s h => by
    obtain ⟨hp, g, d, tk, os⟩ := s
    obtain ⟨hl, h⟩ := h
    have f1 := AutoSeq1.idx_int
    have c1 : (items.isEmpty || ((1 : Int) == 1)) = true := by simp
    wp_walk using wpAny_loadPart' hl
    repeat (first
      | (refine wpAny_ite_true (decide_eq_true c1) ?_; wp_walk using wpAny_loadPart' hl)
      | (refine wpAny_ite_false (by decide) ?_; wp_walk using wpAny_loadPart' hl))
    exact ⟨_, rfl, h⟩
end
def rRep1 (K : PySem.W.Frag) : R2 := fun x y H Q => ∃ l k xs, x = .ref l ∧ y = .int k ∧ SqT K H l xs ∧ xs ≠ [] ∧ 1 ≤ k ∧ k ≤ 1000 ∧ xs.length ≤ 1000 ∧ (k = 1 → Q (.ref l) H) ∧ (2 ≤ k → ∀ p, H p = none → Q (.ref p) (upd H p (.tup (List.replicate k.toNat xs).flatten)))
section
variable {X : Cx}
theorem op_rep1 : OpR X (binaryOp .Mult) (rRep1 X.K) := by
  intro pins s σ H x y v u Q I rx ry h
  obtain ⟨l, k, xs, rfl, rfl, hT, hne, h1, h2, hz, q1, q2⟩ := h
  by_cases hk : 2 ≤ k
  · exact op_repT pins s σ H _ _ v u Q I rx ry ⟨l, k, xs, rfl, rfl, hT, hne, hk, h2, hz, q2 hk⟩
  · obtain rfl : k = 1 := by omega
    cases rx
    obtain ⟨t, rfl⟩ := ry
    obtain ⟨its, r, ⟨⟨cls, dd, data, sl⟩, ho, hc, n, hd⟩, hs⟩ := I.tuple hT
    simp only at hc hd
    subst hc hd
    exact wpAny_binaryOp_repeat_ref (T := "tuple") (U := "int") (by decide) ⟨_, ho, rfl⟩ (fun s' => typeIs_int s' 1 t) noFill_tuple_mul F.fills_int_mul F.slot_int_rmul repeat_tuple F.slot_int_index.lookup
      (call_meets F.slot_int_rmul (typeIs_int s 1 t) F.entry_int_rmul (F.args_int_rmul_2 _ _) (int_rmul_tuple 1 t l its.toArray n dd sl)
        ⟨ho, rfl, ⟨_, ho, rfl⟩, call_meets F.slot_tuple_mul ⟨_, ho, rfl⟩ F.entry_tuple_mul (F.args_tuple_mul_2 _ _) (tuple_mul1 l its.toArray n dd sl t) ⟨ho, ⟨.ref l, H, I, rfl, q1 rfl⟩⟩⟩)
end
end Ms
namespace Ms
open PySem PySem.Spec PyProof.Rows L2
/-! ### the package's requests: is_number, is_ask, is_place, is_mode -/
structure TxtR (mg : Str → Option Value) (fI fN fS fA fG fNu fAs fPl fMo fNP fNM fNd aE aM : Addr) : Prop extends TxtP mg fI fN fS fA fG where
  gNu : mg "is_number" = some (.ref fNu)
  gAs : mg "is_ask" = some (.ref fAs)
  gPl : mg "is_place" = some (.ref fPl)
  gMo : mg "is_mode" = some (.ref fMo)
  gNP : mg "need_places" = some (.ref fNP)
  gNM : mg "need_modes" = some (.ref fNM)
  gNd : mg "need_settings" = some (.ref fNd)
  gE : mg "END" = some (.ref aE)
  gM : mg "MODES" = some (.ref aM)
  mP : ∃ t, mg "MOST_PLACES" = some (.int 16 t)
def nextsD (n k : Int) (d : PyData) : Bool := match d with
  | .tuple es => decide ((es.length : Int) = k + 1) && es.all fun e => isWhole e 0 (n - 1)
  | _ => false
def askD (n : Int) (d1 d2 : PyData) : List (Str × Int) → Bool
  | [] => false
  | q :: qs => if isTxt d1 q.1 = true then nextsD n q.2 d2 else askD n d1 d2 qs
def placeD (qs : List (Str × Int)) (n : Int) (d : PyData) : Bool := match d with
  | .tuple ds => if ds.length = 3 ∧ isTxt (ds.getD 0 .none) "do" = true then isName (ds.getD 1 .none) && isWhole (ds.getD 2 .none) 0 (n - 1)
      else if ds.length = 3 ∧ isTxt (ds.getD 0 .none) "ask" = true then askD n (ds.getD 1 .none) (ds.getD 2 .none) qs
      else isEnd (.tuple ds) "end"
  | _ => false
def isMode (d : PyData) : Bool := match d with | .str z => decide (z ∈ (["live", "met", "begin"] : List Str)) | _ => false
section
variable {P : Program} {w : World} {K : PySem.W.Frag} {mg : Str → Option Value} {base : Heap} {fI fN fS fA fG fNu fAs fPl fMo fNP fNM fNd aE aM : Addr}
theorem scNu : FnScope ["many", "thing"] ["many", "thing"] (defScope sPNum) := ⟨rfl, rfl, rfl, by decide +kernel, rfl, by decide +kernel, by decide +kernel⟩
def spNum (K : PySem.W.Frag) : Sp := fun vs H Q _ => ∃ (m l : Addr) (v : V) (d : PyData) (n : Int), vs = [.int n, v] ∧ Dq K H m l v d ∧ Q (.bl (isWhole d 0 (n - 1))) H
theorem ok_num {f : Addr} {fd fdI : FuncData} (F : Fun K "is_number" "is_number" sPNum f fd) (T : TxtP mg fI fN fS fA fG) (FI : Fun K "is_int" "is_int" sPInt fI fdI) (bI : Binds K fdI ["thing"] []) : FnOk P w K mg base CX0 2 f fd ["many", "thing"] (spNum K) := by
  have GI : FnOk P w K mg base CX0 1 fI fdI ["thing"] (spPInt K) := ok_pint FI T
  refine F.ok scNu (fun vs H Q E h => ?_) (fun cdv A outer s H vs Q E hr h => ?_)
  · obtain ⟨m, l, v, d, n, rfl, _⟩ := h
    rfl
  · obtain ⟨m, l, v, d, n, rfl, hd, q⟩ := h
    refine ⟨_, pss_one (ps_ret (pe_and (pe_call GI hr rfl T.gI FI.kp bI .nil pass0 (pa_cons (pv 1) pa_nil)) (pe_one (pe_chain op_le op_lt pe_int (pv 1) (pv 0))))), ?_⟩
    refine ⟨_, rfl, m, l, v, d, rfl, hd, _, rfl, ite_b (fun e => ?_) (fun e => ?_)⟩
    · obtain ⟨j, rfl⟩ : ∃ j, d = .int j := by
        cases d <;> first | exact ⟨_, rfl⟩ | cases e
      cases hd
      refine ⟨_, rfl, 0, j, rfl, rfl, _, rfl, ite_b (fun e1 => ⟨_, rfl, j, n, rfl, rfl, ?_⟩) (fun e1 => ?_)⟩
      · have z : isWhole (.int j) 0 (n - 1) = decide (j < n) := by
          show (decide (0 ≤ j) && decide (j ≤ n - 1)) = _
          rw [e1, Bool.true_and, Bool.eq_iff_iff, decide_eq_true_eq, decide_eq_true_eq]; omega
        rw [z] at q; exact q
      · have z : isWhole (.int j) 0 (n - 1) = false := by show (decide (0 ≤ j) && decide (j ≤ n - 1)) = _; rw [e1]; rfl
        rw [z] at q; exact q
    · rw [isWhole_int d 0 (n - 1) e] at q
      exact q
/-! is_ask -/
abbrev NAs : List Str := ["settings", "many", "setting", "nexts", "name", "most", "right", "number"]
theorem scAs : FnScope NAs ["settings", "many", "setting", "nexts"] (defScope sPAsk) := ⟨rfl, rfl, rfl, by decide +kernel, rfl, by decide +kernel, by decide +kernel⟩
def spAsk (K : PySem.W.Frag) : Sp := fun vs H Q _ => ∃ (m l a : Addr) (xs : List V) (qs : List (Str × Int)) (n : Int) (v1 v2 : V) (d1 d2 : PyData), vs = [.ref a, .int n, v1, v2] ∧ SqT K H a xs ∧ PrTs K H xs qs ∧ Dq K H m l v1 d1 ∧ Dq K H m l v2 d2 ∧
  (∀ es, d2 = .tuple es → es.length ≤ 100000) ∧ ∀ H', Same H H' → Q (.bl (askD n d1 d2 qs)) H'
theorem ok_ask {f : Addr} {fd fdI fdNu : FuncData} (F : Fun K "is_ask" "is_ask" sPAsk f fd) (T : TxtR mg fI fN fS fA fG fNu fAs fPl fMo fNP fNM fNd aE aM) (FI : Fun K "is_int" "is_int" sPInt fI fdI) (bI : Binds K fdI ["thing"] [])
    (FNu : Fun K "is_number" "is_number" sPNum fNu fdNu) (bNu : Binds K fdNu ["many", "thing"] []) : FnOk P w K mg base CX0 3 f fd ["settings", "many", "setting", "nexts"] (spAsk K) := by
  have GNu : FnOk P w K mg base CX0 2 fNu fdNu ["many", "thing"] (spNum K) := ok_num FNu T.toTxtP FI bI
  refine F.ok scAs (fun vs H Q E h => ?_) (fun cdv A outer s H vs Q E hr h => ?_)
  · obtain ⟨m, l, a, xs, qs, n, v1, v2, d1, d2, rfl, _⟩ := h
    rfl
  · obtain ⟨m, l, a, xs, qs, n, v1, v2, d1, d2, rfl, hs, hp, h1, h2, hz, q⟩ := h
    refine ⟨_, pss_cons (ps_for PassesOwn.never rfl (pi_tup (pv 0)) (pg_tup rfl (pgs_cons (pg_name (i := 4) scAs.nd rfl (by first | exact Or.inl rfl | exact Or.inr rfl)) (pgs_cons (pg_name (i := 5) scAs.nd rfl (by first | exact Or.inl rfl | exact Or.inr rfl)) pgs_nil)))
        (pss_one (ps_if (pt_cmpR (op_Teq hr.units) (pv 4) (pv 2) (nomark _))
          (pss_cons (ps_set (i := 6) scAs.nd rfl (by first | exact Or.inl rfl | exact Or.inr rfl) (pe_and (pe_callB call_isi (by rfl) T.isi PyProof.Rows.boot_isinstance (pa_cons (pv 3) (pa_cons (pe_bltn (v := .ty "tuple") (u := .type "tuple") (by rfl) T.tuple (by decide +kernel) rfl) pa_nil))) (pe_one (pe_cmpR op_eq (pe_callB call_len (by rfl) T.len PySem.boot_len (pa_cons (pv 3) pa_nil)) (pe_op op_add (pv 5) pe_int) (nomark _)))))
          (pss_one (ps_ret (pe_and (pv 6) (pe_one (pe_callB (cr_all rfl) (by rfl) T.all (by decide +kernel) (pa_cons (pe_lc (own := [("number", 7)]) (g := gName 7) (by rfl) scAs.nd (pi_tup (pv 3)) (blkOk_by (own := [("number", 7)]) (N := NAs) (sc := defScope sPAsk) (by decide +kernel))
            (fun _ _ _ _ _ => pg_name (i := 7) scAs.nd rfl (Or.inl rfl)) (fun _ _ _ _ _ => pts_nil) (fun _ _ _ _ _ => pe_call GNu hr (by rfl) T.gNu FNu.kp bNu .nil pass0 (pa_cons (pv 1) (pa_cons (pv 7) pa_nil)))) pa_nil)))))))
          pss_nil)))
      (pss_one (ps_ret pe_bl)), ?_⟩
    have ll := hp.len
    refine ⟨_, rfl, a, rfl, ⟨_, hs⟩, ?_⟩
    refine for_it (walk_tup (xs := xs)) (fun i σ H2 => ∃ v4 v5 : Option V, σ = [some (.ref a), some (.int n), some v1, some v2, v4, v5, none, none] ∧ Same H H2 ∧ askD n d1 d2 qs = askD n d1 d2 (qs.drop i)) ⟨none, none, rfl, Same.refl H, rfl⟩ (fun i σ H2 _ ⟨_, _, _, s2, _⟩ => Same.seqT s2 hs) ?_ ?_
    · rintro i x σ H2 H3 hi ⟨v4, v5, rfl, s2, ed⟩ ⟨rfl, hx⟩
      obtain ⟨qq, hq, b, rfl, hb⟩ := hp.get hx
      have hiq : i < qs.length := by omega
      have edr : qs.drop i = qq :: qs.drop (i + 1) := by rw [List.drop_eq_getElem_cons hiq]; rw [(List.getElem?_eq_some_iff.mp hq).2]
      have e1 := Dq.same s2 d1 v1 h1
      have e2 := Dq.same s2 d2 v2 h2
      refine ⟨b, _, rfl, Same.seqT s2 hb, rfl, _, _, rfl, _, _, rfl, rfl, ?_⟩
      refine ⟨_, rfl, _, rfl, d1, m, l, qq.1, rfl, e1, _, rfl, ite_b (fun e => ?_) (fun e => ?_)⟩
      · have ea : askD n d1 d2 qs = nextsD n qq.2 d2 := by
          rw [ed, edr]; simp only [askD, if_pos e]
        refine ⟨_, rfl, v2, .ty "tuple", _, _, _, rfl, .ty _, e2.ty, isi_tup K d2, _, rfl, ?_⟩
        cases d2 with
        | tuple es =>
          cases e2 with
          | tup g2 gx =>
            rename_i p ys
            have ly := gx.len
            have lz := hz es rfl
            refine ifT rfl ⟨_, rfl, .ref p, ys.length, rfl, .inr ⟨ys, g2, rfl⟩, _, rfl, qq.2, 1, rfl, rfl, rfl, ?_⟩
            have ek : decide (V.int ((ys.length : Nat) : Int) = V.int (qq.2 + 1)) = decide ((es.length : Int) = qq.2 + 1) := by
              rw [Bool.eq_iff_iff, decide_eq_true_eq, decide_eq_true_eq, V.int.injEq, ly]
            refine ⟨_, rfl, _, rfl, ite_b (fun ee => ?_) (fun ee => ?_)⟩
            · rw [ek] at ee
              refine ⟨_, rfl, p, rfl, ⟨_, g2⟩, fun D hD => ?_⟩
              have sD : ∀ o, Same H3 (upd H3 D o) := fun o => Same.upd hD
              refine lc_it (walk_tup (xs := ys)) (fun j H4 => H4 = upd H3 D (.lst (((es.take j).map fun e => isWhole e 0 (n - 1)).map V.bl))) rfl (fun j H4 _ e4 => by rw [e4]; exact Same.seqT (sD _) g2) ?_ ?_
              · rintro j y H4 H5 hj e4 ⟨rfl, hy⟩
                obtain ⟨e, he, dqe⟩ := gx.get hy
                have ti : es.take (j + 1) = es.take j ++ [e] := by rw [List.take_succ, he]; rfl
                refine ⟨rfl, tyes ⟨_, rfl, _, rfl, m, l, y, e, n, rfl, by rw [e4]; exact Dq.same (sD _) e y dqe, _, by rw [e4]; exact upd_same, ?_, ?_⟩⟩
                · rw [List.length_map, List.length_map, List.length_take, sizeLine_eq]; omega
                · show upd H5 D _ = _
                  rw [e4, upd_upd, ti, List.map_append, List.map_append]; rfl
              · rintro H4 e4
                rw [List.take_of_length_le (by omega)] at e4
                refine ⟨D, _, rfl, SqL.of (by rw [e4, upd_same]), ?_⟩
                have ev : askD n d1 (.tuple es) qs = (es.map fun e => isWhole e 0 (n - 1)).all id := by
                  rw [ea, List.all_map]; simp only [nextsD, ee, Bool.true_and]; rfl
                rw [ev] at q
                exact q _ (s2.trans (e4 ▸ sD _))
            · rw [ek] at ee
              have ev : askD n d1 (.tuple es) qs = false := by rw [ea]; simp only [nextsD, ee, Bool.false_and]
              rw [ev] at q
              exact q _ s2
        | _ =>
          refine ifF rfl ⟨_, rfl, _, rfl, ifF rfl ?_⟩
          rw [ea] at q
          exact q _ s2
      · refine ⟨_, _, rfl, s2, ?_⟩
        rw [ed, edr]
        have e' : isTxt d1 qq.1 = false := e
        simp only [askD, e', if_neg Bool.false_ne_true]
    · rintro σ H2 ⟨v4, v5, rfl, s2, ed⟩
      rw [List.drop_of_length_le (by omega)] at ed
      rw [ed] at q
      exact q _ s2
end
end Ms
namespace Ms
open PySem PySem.Spec PyProof.Rows L2
section
variable {P : Program} {w : World} {K : PySem.W.Frag} {mg : Str → Option Value} {base : Heap} {fI fN fS fA fG fNu fAs fPl fMo fNP fNM fNd aE aM : Addr}
/-- the written tuples END and MODES -/
structure WrT (K : PySem.W.Frag) (aE aM : Addr) : Prop where
  e : ∀ H, SqT K H aE [.str "end"]
  m : ∀ H, SqT K H aM [.str "live", .str "met", .str "begin"]
theorem len3 {n : Nat} : decide (V.int ((n : Nat) : Int) = V.int 3) = decide (n = 3) := by
  rw [Bool.eq_iff_iff, decide_eq_true_eq, decide_eq_true_eq, V.int.injEq]; omega
theorem scPl : FnScope ["settings", "many", "thing"] ["settings", "many", "thing"] (defScope sPPlace) := ⟨rfl, rfl, rfl, by decide +kernel, rfl, by decide +kernel, by decide +kernel⟩
def spPlace (K : PySem.W.Frag) : Sp := fun vs H Q _ => ∃ (m l a : Addr) (xs : List V) (qs : List (Str × Int)) (n : Int) (v : V) (d : PyData) (B b : Nat), vs = [.ref a, .int n, v] ∧ SqT K H a xs ∧ PrTs K H xs qs ∧ Dq K H m l v d ∧ Gd B 100000 b d ∧
  ∀ H', Same H H' → Q (.bl (placeD qs n d)) H'
theorem ok_place {f : Addr} {fd fdI fdN fdNu fdAs : FuncData} (F : Fun K "is_place" "is_place" sPPlace f fd) (T : TxtR mg fI fN fS fA fG fNu fAs fPl fMo fNP fNM fNd aE aM) (W : WrT K aE aM) (FI : Fun K "is_int" "is_int" sPInt fI fdI) (bI : Binds K fdI ["thing"] [])
    (FN : Fun K "is_name" "is_name" sPName fN fdN) (bN : Binds K fdN ["thing"] []) (FNu : Fun K "is_number" "is_number" sPNum fNu fdNu) (bNu : Binds K fdNu ["many", "thing"] []) (FAs : Fun K "is_ask" "is_ask" sPAsk fAs fdAs) (bAs : Binds K fdAs ["settings", "many", "setting", "nexts"] []) :
    FnOk P w K mg base CX0 4 f fd ["settings", "many", "thing"] (spPlace K) := by
  have GN : FnOk P w K mg base CX0 1 fN fdN ["thing"] (spName K) := ok_pname FN T.toTxtP
  have GNu : FnOk P w K mg base CX0 2 fNu fdNu ["many", "thing"] (spNum K) := ok_num FNu T.toTxtP FI bI
  have GAs : FnOk P w K mg base CX0 3 fAs fdAs ["settings", "many", "setting", "nexts"] (spAsk K) := ok_ask FAs T FI bI FNu bNu
  refine F.ok scPl (fun vs H Q E h => ?_) (fun cdv A outer s H vs Q E hr h => ?_)
  · obtain ⟨m, l, a, xs, qs, n, v, d, B, b, rfl, _⟩ := h
    rfl
  · obtain ⟨m, l, a, xs, qs, n, v, d, B, b, rfl, hs, hp, hd, gd, q⟩ := h
    have hr1 : Room 1 _ := hr.mono (by decide)
    have hr2 : Room 2 _ := hr.mono (by decide)
    refine ⟨_, pss_cons (ps_if (pt_not (pt_val (pe_callB call_isi (by rfl) T.isi PyProof.Rows.boot_isinstance (pa_cons (pv 2) (pa_cons (pe_bltn (v := .ty "tuple") (u := .type "tuple") (by rfl) T.tuple (by decide +kernel) rfl) pa_nil))))) (pss_one (ps_ret pe_bl)) pss_nil)
      (pss_cons (ps_if (PW.pt (pw_and (pt_cmpR op_eq (pe_callB call_len (by rfl) T.len PySem.boot_len (pa_cons (pv 2) pa_nil)) pe_int (nomark _)) (pw_and1 (pt_cmpR (op_eqT hr.units) (pe_ix ix_tup (pv 2) pe_int (fun _ _ => rfl)) pe_str (nomark _)))))
        (pss_one (ps_ret (pe_and (pe_call GN hr1 rfl T.gN FN.kp bN .nil pass0 (pa_cons (pe_ix ix_tup (pv 2) pe_int (fun _ _ => rfl)) pa_nil)) (pe_one (pe_call GNu hr2 rfl T.gNu FNu.kp bNu .nil pass0 (pa_cons (pv 1) (pa_cons (pe_ix ix_tup (pv 2) pe_int (fun _ _ => rfl)) pa_nil))))))) pss_nil)
      (pss_cons (ps_if (PW.pt (pw_and (pt_cmpR op_eq (pe_callB call_len (by rfl) T.len PySem.boot_len (pa_cons (pv 2) pa_nil)) pe_int (nomark _)) (pw_and1 (pt_cmpR (op_eqT hr.units) (pe_ix ix_tup (pv 2) pe_int (fun _ _ => rfl)) pe_str (nomark _)))))
        (pss_one (ps_ret (pe_call GAs hr rfl T.gAs FAs.kp bAs .nil pass0 (pa_cons (pv 0) (pa_cons (pv 1) (pa_cons (pe_ix ix_tup (pv 2) pe_int (fun _ _ => rfl)) (pa_cons (pe_ix ix_tup (pv 2) pe_int (fun _ _ => rfl)) pa_nil))))))) pss_nil)
      (pss_one (ps_ret (pe_cmpR (op_eqE hr.units) (pv 2) (pe_glob (v := .ref aE) rfl T.gE rfl) (nomark _)))))), ?_⟩
    refine ⟨_, rfl, v, .ty "tuple", _, _, _, rfl, .ty _, hd.ty, isi_tup K d, _, rfl, ?_⟩
    cases d with
    | tuple ds =>
      cases hd with
      | tup h0 hx =>
        rename_i p ys
        have ly := hx.len
        obtain ⟨cc, eb, g⟩ := Gd.untup gd
        refine ifF rfl ?_
        have notend : ∀ H', Same H H' → Q (.bl (isEnd (.tuple ds) "end")) H' → SqT K H' p ys ∧ DqAll K H' m l ys ds := fun H' s' _ => ⟨Same.seqT s' h0, DqAll.same s' ds ys hx⟩
        refine ⟨_, rfl, .ref p, ys.length, rfl, .inr ⟨ys, h0, rfl⟩, rfl, _, rfl, ?_⟩
        rw [len3]
        by_cases l3 : ys.length = 3
        · obtain ⟨y0, y1, y2, rfl⟩ : ∃ y0 y1 y2, ys = [y0, y1, y2] := by
            match ys, l3 with
            | [y0, y1, y2], _ => exact ⟨y0, y1, y2, rfl⟩
          obtain ⟨e0, e1, e2, rfl⟩ : ∃ e0 e1 e2, ds = [e0, e1, e2] := by
            match ds, ly with
            | [e0, e1, e2], _ => exact ⟨e0, e1, e2, rfl⟩
          have p0 : placeD qs n (.tuple [e0, e1, e2]) = if isTxt e0 "do" = true then isName e1 && isWhole e2 0 (n - 1) else if isTxt e0 "ask" = true then askD n e1 e2 qs else false := by
            simp only [placeD, isEnd, List.length_cons, List.length_nil, List.getD_cons_zero, List.getD_cons_succ, true_and]
          rw [p0] at q
          obtain ⟨d0, d1, d2⟩ : Dq K H m l y0 e0 ∧ Dq K H m l y1 e1 ∧ Dq K H m l y2 e2 := by
            cases hx with
            | cons a0 h1 => cases h1 with | cons a1 h2 => cases h2 with | cons a2 _ => exact ⟨a0, a1, a2⟩
          have w1 : ∀ z, e1 = .str z → sOk 100000 z := fun z ez => by
            have gz := g.at (i := 1) (d := e1) rfl
            rw [ez] at gz
            have ww := g.wt
            refine gz.unstr.mono ?_
            rw [ez] at ww
            simp only [PyData.weightAll, PyData.weight] at ww ⊢
            omega
          have w2 : ∀ es, e2 = .tuple es → es.length ≤ 100000 := fun es ez => by
            have ww := g.wt
            rw [ez] at ww
            simp only [PyData.weightAll, PyData.weight] at ww
            have := wA_len es
            omega
          refine ifT (by simp) ?_
          refine ⟨_, rfl, p, _, 0, y0, rfl, rfl, h0, rfl, e0, m, l, "do", d0, rfl, _, rfl, ite_b (fun e => ?_) (fun e => ?_)⟩
          · rw [if_pos e] at q
            refine ⟨_, rfl, p, _, 1, y1, rfl, rfl, h0, rfl, m, l, y1, e1, rfl, d1, w1, fun H3 s3 => ⟨_, rfl, ite_b (fun e => ?_) (fun e => ?_)⟩⟩
            · refine ⟨_, rfl, _, rfl, p, _, 2, y2, rfl, rfl, Same.seqT s3 h0, rfl, m, l, y2, e2, n, rfl, Dq.same s3 e2 y2 d2, ?_⟩
              rw [e, Bool.true_and] at q
              exact q _ s3
            · rw [e, Bool.false_and] at q
              exact q _ s3
          · rw [if_neg (by rw [e]; exact Bool.false_ne_true)] at q
            refine ⟨_, rfl, .ref p, 3, rfl, .inr ⟨_, h0, rfl⟩, rfl, _, rfl, ifT (by decide) ?_⟩
            refine ⟨_, rfl, p, _, 0, y0, rfl, rfl, h0, rfl, e0, m, l, "ask", d0, rfl, _, rfl, ite_b (fun e' => ?_) (fun e' => ?_)⟩
            · rw [if_pos e'] at q
              exact ⟨_, rfl, _, rfl, _, rfl, p, _, 1, y1, rfl, rfl, h0, rfl, _, rfl, p, _, 2, y2, rfl, rfl, h0, rfl, m, l, a, xs, qs, n, y1, y2, e1, e2, rfl, hs, hp, d1, d2, w2, q⟩
            · rw [if_neg (by rw [e']; exact Bool.false_ne_true)] at q
              exact ⟨_, rfl, p, aE, m, l, _, [e0, e1, e2], "end", rfl, rfl, h0, hx, W.e H, q H (Same.refl H)⟩
        · have l3' : ¬ ds.length = 3 := by omega
          have p0 : placeD qs n (.tuple ds) = isEnd (.tuple ds) "end" := by
            unfold placeD
            simp only [l3', false_and, if_false]
          rw [p0] at q
          have nl : decide (ys.length = 3) = false := decide_eq_false l3
          refine ifF nl ?_
          refine ifF rfl ?_
          refine ⟨_, rfl, .ref p, ys.length, rfl, .inr ⟨ys, h0, rfl⟩, rfl, _, rfl, ?_⟩
          rw [len3]
          refine ifF nl ?_
          refine ifF rfl ?_
          exact ⟨_, rfl, p, aE, m, l, ys, ds, "end", rfl, rfl, h0, hx, W.e H, q H (Same.refl H)⟩
    | _ => exact ifT rfl (q H (Same.refl H))
/-! is_mode -/
theorem scMo : FnScope ["thing"] ["thing"] (defScope sPMode) := ⟨rfl, rfl, rfl, by decide +kernel, rfl, by decide +kernel, by decide +kernel⟩
def spMode (K : PySem.W.Frag) : Sp := fun vs H Q _ => ∃ (m l : Addr) (v : V) (d : PyData), vs = [v] ∧ Dq K H m l v d ∧ Q (.bl (isMode d)) H
theorem ok_mode {f : Addr} {fd : FuncData} (F : Fun K "is_mode" "is_mode" sPMode f fd) (T : TxtR mg fI fN fS fA fG fNu fAs fPl fMo fNP fNM fNd aE aM) (W : WrT K aE aM) : FnOk P w K mg base CX0 1 f fd ["thing"] (spMode K) := by
  refine F.ok scMo (fun vs H Q E h => ?_) (fun cdv A outer s H vs Q E hr h => ?_)
  · obtain ⟨m, l, v, d, rfl, _⟩ := h
    rfl
  · obtain ⟨m, l, v, d, rfl, hd, q⟩ := h
    refine ⟨_, pss_one (ps_ret (pe_and (pe_callB call_isi (by rfl) T.isi PyProof.Rows.boot_isinstance (pa_cons (pv 0) (pa_cons (pe_bltn (v := .ty "str") (u := .type "str") (by rfl) T.str (by decide +kernel) rfl) pa_nil)))
      (pe_one (pe_cmpR op_in_seq (pv 0) (pe_glob (v := .ref aM) rfl T.gM rfl) (by rfl))))), ?_⟩
    refine ⟨_, rfl, v, .ty "str", _, _, _, rfl, .ty _, hd.ty, isi_str K d, _, rfl, ?_⟩
    cases d with
    | str z =>
      cases hd
      refine ifT rfl ⟨_, rfl, aM, _, rfl, .inr (W.m H), rfl, rfl, ?_⟩
      have e : inV (.str z) [.str "live", .str "met", .str "begin"] = isMode (.str z) := inV_str z ["live", "met", "begin"]
      rw [e]
      exact q
    | _ => exact ifF rfl q
end
end Ms
namespace Ms
open PySem PySem.Spec PyProof.Rows L2
/-! ### drawn names are names, and no two are the same -/
def lowC (c : Nat) : Prop := 97 ≤ c ∧ c ≤ 122
def Lw (a : Nat) (z : Str) : Prop := z.length ≤ a ∧ ∀ c ∈ z.cps.toList, lowC c
theorem Lw.ok {a : Nat} {z : Str} (h : Lw a z) : sOk a z := ⟨h.1, fun c hc => by have := (h.2 c hc).2; omega⟩
theorem Lw.mono {a b : Nat} {z : Str} (h : Lw a z) (k : a ≤ b) : Lw b z := ⟨Nat.le_trans h.1 k, h.2⟩
theorem app_list (z y : Str) : (z ++ y).cps.toList = z.cps.toList ++ y.cps.toList := Array.toList_append
theorem Lw.app {a b : Nat} {z y : Str} (h : Lw a z) (k : Lw b y) : Lw (a + b) (z ++ y) := by
  refine ⟨by rw [Str.length_append]; exact Nat.add_le_add h.1 k.1, fun c hc => ?_⟩
  rw [app_list] at hc
  exact (List.mem_append.mp hc).elim (h.2 c) (k.2 c)
theorem cut_list (z : Str) (lo hi : Option Int) : (cutS z lo hi).cps.toList = (z.cps.toList.drop (HT.sIx z.length 0 lo)).take (HT.sIx z.length z.length hi - HT.sIx z.length 0 lo) := by simp [cutS]
theorem len_list (z : Str) : z.cps.toList.length = z.length := Array.length_toList
theorem Lw.cut {a : Nat} {z : Str} (h : Lw a z) (lo hi : Option Int) : Lw a (cutS z lo hi) := by
  refine ⟨?_, fun c hc => h.2 c ?_⟩
  · rw [← len_list, cut_list, List.length_take, List.length_drop, len_list]
    have := h.1
    omega
  · rw [cut_list] at hc
    exact List.mem_of_mem_drop (List.mem_of_mem_take hc)
theorem Lw.sign {c : Nat} (h : lowC c) : Lw 1 ⟨#[c]⟩ := ⟨Nat.le_refl _, fun d hd => by simp at hd; rw [hd]; exact h⟩
theorem alpha_nat : ∀ j : Nat, j < 26 → alpha.cps.toList[j]? = some (97 + j) := by
  intro j h
  rw [alpha_list]
  have : ∀ j : Fin 26, ([97, 98, 99, 100, 101, 102, 103, 104, 105, 106, 107, 108, 109, 110, 111, 112, 113, 114, 115, 116, 117, 118, 119, 120, 121, 122] : List Nat)[j.1]? = some (97 + j.1) := by decide
  exact this ⟨j, h⟩
theorem alpha_at2 {i : Int} (h0 : 0 ≤ i) (h1 : i < 26) : atI alpha.cps.toList i = some (97 + i.toNat) ∧ lowC (97 + i.toNat) := by
  obtain ⟨j, rfl⟩ : ∃ j : Nat, i = (j : Int) := ⟨i.toNat, by omega⟩
  refine ⟨atI_nat (alpha_nat j (by omega)), ?_⟩
  unfold lowC
  omega
def nmOk (z : Str) : Prop := 1 ≤ z.length ∧ z.length ≤ 8 ∧ ∀ c ∈ z.cps.toList, lowC c
theorem nmOk.ok {z : Str} (h : nmOk z) : sOk 16 z := ⟨by have := h.2.1; omega, fun c hc => by have := (h.2.2 c hc).2; omega⟩
theorem map_nodup {k : Nat} {f : Nat → Str} (h : ∀ i j, i < k → j < k → f i = f j → i = j) : ((List.range k).map f).Nodup := by
  unfold List.Nodup
  rw [List.pairwise_map]
  refine List.Pairwise.imp_of_mem ?_ (List.pairwise_lt_range (n := k))
  intro i j hi hj hlt e
  have := h i j (List.mem_range.mp hi) (List.mem_range.mp hj) e
  omega
/-- beginnings or ends of one word -/
def fA (W : Str) (b : Int) (k : Nat) (i : Nat) : Str := if b > 7 then cutS W (some (0 + (i : Int))) none else cutS W none (some (0 + (i : Int) + 9 - (k : Int)))
theorem fA_len {W : Str} {b : Int} {k i : Nat} (hW : W.length = 8) (hk : k ≤ 8) (hi : i < k) : (fA W b k i).length = if b > 7 then 8 - i else i + 9 - k := by
  unfold fA
  by_cases h : b > 7
  · rw [if_pos h, if_pos h, ← len_list, cut_list, List.length_take, List.length_drop, len_list, hW]
    have e : (0 + (i : Int)) = ((i : Nat) : Int) := by omega
    rw [e, HT.sIx_nat]
    show min (8 - min i 8) (8 - min i 8) = 8 - i
    omega
  · rw [if_neg h, if_neg h, ← len_list, cut_list, List.length_take, List.length_drop, len_list, hW]
    have e : (0 + (i : Int) + 9 - (k : Int)) = ((i + 9 - k : Nat) : Int) := by omega
    rw [e, HT.sIx_nat, HT.sIx_none]
    omega
theorem fA_good {W : Str} {b : Int} {k : Nat} (hW : Lw 16 W) (h8 : W.length = 8) (hk : k ≤ 8) : ((List.range k).map (fA W b k)).Nodup ∧ ∀ y ∈ (List.range k).map (fA W b k), nmOk y := by
  refine ⟨map_nodup fun i j hi hj e => ?_, fun y hy => ?_⟩
  · have l1 := fA_len (b := b) h8 hk hi
    have l2 := fA_len (b := b) h8 hk hj
    rw [e, l2] at l1
    split at l1 <;> omega
  · obtain ⟨i, hi, rfl⟩ := List.mem_map.mp hy
    have hi' := List.mem_range.mp hi
    have l := fA_len (b := b) h8 hk hi'
    refine ⟨by rw [l]; split <;> omega, by rw [l]; split <;> omega, ?_⟩
    unfold fA
    split
    · exact (hW.cut _ _).2
    · exact (hW.cut _ _).2
/-- one letter exchanged -/
def fB (z : Str) (r5 r6 b : Int) (i : Nat) : Str := cutS z none (some r5) ++ ⟨#[97 + ((r6 + b * (0 + (i : Int))) % 26).toNat]⟩ ++ cutS z (some r5) none
theorem fB_list (z : Str) (r5 r6 b : Int) (i : Nat) : (fB z r5 r6 b i).cps.toList = (cutS z none (some r5)).cps.toList ++ [97 + ((r6 + b * (0 + (i : Int))) % 26).toNat] ++ (cutS z (some r5) none).cps.toList := by
  unfold fB
  rw [app_list, app_list]
theorem fB_good {z : Str} {r5 r6 b : Int} {k : Nat} (hz : Lw 7 z) (h0 : 0 ≤ r5) (h1 : r5 ≤ z.length) (hb : b = 1 ∨ b = 3 ∨ b = 5) (hk : k ≤ 8) : ((List.range k).map (fB z r5 r6 b)).Nodup ∧ ∀ y ∈ (List.range k).map (fB z r5 r6 b), nmOk y := by
  refine ⟨map_nodup fun i j hi hj e => ?_, fun y hy => ?_⟩
  · have e' : (fB z r5 r6 b i).cps.toList = (fB z r5 r6 b j).cps.toList := by rw [e]
    rw [fB_list, fB_list, List.append_assoc, List.append_assoc] at e'
    have e2 := List.append_cancel_left e'
    have e3 : 97 + ((r6 + b * (0 + (i : Int))) % 26).toNat = 97 + ((r6 + b * (0 + (j : Int))) % 26).toNat := by
      simp only [List.cons_append, List.nil_append, List.cons.injEq] at e2
      exact e2.1
    have p1 := Int.emod_nonneg (r6 + b * (0 + (i : Int))) (b := 26) (by decide)
    have p2 := Int.emod_nonneg (r6 + b * (0 + (j : Int))) (b := 26) (by decide)
    rcases hb with rfl | rfl | rfl <;> omega
  · obtain ⟨i, hi, rfl⟩ := List.mem_map.mp hy
    have l := hz.1
    obtain ⟨n5, rfl⟩ : ∃ n : Nat, r5 = (n : Int) := ⟨r5.toNat, by omega⟩
    have len : (fB z (n5 : Int) r6 b i).length = z.length + 1 := by
      rw [← len_list, fB_list, List.length_append, List.length_append, cut_list, cut_list, List.length_take, List.length_drop, List.length_take, List.length_drop, len_list, HT.sIx_nat, HT.sIx_none, HT.sIx_nat, HT.sIx_none]
      simp only [List.length_cons, List.length_nil]
      omega
    refine ⟨by rw [len]; omega, by rw [len]; omega, fun c hc => ?_⟩
    rw [fB_list] at hc
    have q1 := Int.emod_nonneg (r6 + b * (0 + (i : Int))) (b := 26) (by decide)
    have q2 := Int.emod_lt_of_pos (r6 + b * (0 + (i : Int))) (b := 26) (by decide)
    rcases List.mem_append.mp hc with hc | hc
    · rcases List.mem_append.mp hc with hc | hc
      · exact (hz.cut _ _).2 c hc
      · rw [List.mem_singleton.mp hc]
        unfold lowC
        omega
    · exact (hz.cut _ _).2 c hc
theorem mul8_len (z : Str) (c : Nat) : (cutS (z ++ Txt.mul ⟨#[c]⟩ 8) none (some 8)).length = 8 := by
  rw [mul8, ← len_list, cut_list, List.length_take, List.length_drop, len_list, Str.length_append, HT.sIx_none]
  have e : (8 : Int) = ((8 : Nat) : Int) := rfl
  rw [e, HT.sIx_nat]
  show min (min 8 (z.length + 8) - 0) (z.length + 8 - 0) = 8
  omega
section
variable {P : Program} {w : World} {K : PySem.W.Frag} {mg : Str → Option Value} {base : Heap} {fN : Addr}
def spNamesV : Sp := fun vs H Q _ => ∃ (m l : Addr) (n : Nat) (k : Nat), vs = [.ref m, .int (k : Int)] ∧ Mch H m l n ∧ n < 900000 ∧ 1 ≤ k ∧ k ≤ 8 ∧
  ∀ (p : Addr) (ys : List Str) (l' : Addr) (H' : Hp), H p = none → H' p = some (.lst (ys.map V.str)) → ys.length = k → ys.Nodup → (∀ y ∈ ys, nmOk y) → p ≠ m → p ≠ l' → Mch H' m l' (n + 11) → Fr m l l' H H' → Q (.ref p) H'
theorem ok_namesV {f : Addr} {fd fdN : FuncData} (F : Fun K "_law_names" "_law_names" sNames f fd) (T : TxtN mg fN) (FN : Fun K "_law_next" "_law_next" sNext fN fdN) (bN : Binds K fdN ["m", "many"] []) : FnOk P w K mg base CX0 2 f fd ["m", "many"] spNamesV := by
  have GN : FnOk P w K mg base CX0 1 fN fdN ["m", "many"] spNext := ok_next FN T.toTxt
  refine F.ok scNm (fun vs H Q E h => ?_) (fun cdv A outer s H vs Q E hr h => ?_)
  · obtain ⟨m, l, n, k, rfl, _⟩ := h
    rfl
  · obtain ⟨m, l, n, k, rfl, M, hn, hk, hk2, q⟩ := h
    refine ⟨_, pss_cons (ps_asg (pe_tup (pa_cons pe_str (pa_cons pe_str pa_nil))) (pg_tup rfl (pgs_cons (pg_name (i := 2) scNm.nd rfl (Or.inr rfl)) (pgs_cons (pg_name (i := 3) scNm.nd rfl (Or.inr rfl)) pgs_nil))))
      (pss_cons (ps_for PassesOwn.never rfl (pi_range1 (by rfl) T.range (pa_cons (pe_call GN hr rfl T.next FN.kp bN .nil pass0 (pa_cons (pv 0) (pa_cons pe_int pa_nil))) pa_nil)) (pg_name (i := 4) scNm.nd rfl (Or.inl rfl))
        (pss_one (ps_set (i := 3) scNm.nd rfl (Or.inr rfl) (pe_op op_add_str (pv 3) (pe_ix ix_str (pv 2) (pe_call GN hr rfl T.next FN.kp bN .nil pass0 (pa_cons (pv 0) (pa_cons pe_int pa_nil))) (fun _ _ => rfl))))))
      (pss_cons (ps_asg (pe_tup (pa_cons (pe_call GN hr rfl T.next FN.kp bN .nil pass0 (pa_cons (pv 0) (pa_cons (pe_op op_add (pe_callB call_len_str (by rfl) T.len PySem.boot_len (pa_cons (pv 3) pa_nil)) pe_int) pa_nil)))
          (pa_cons (pe_call GN hr rfl T.next FN.kp bN .nil pass0 (pa_cons (pv 0) (pa_cons pe_int pa_nil)))
          (pa_cons (pe_ix ix_list (pe_lst (pa_cons pe_int (pa_cons pe_int (pa_cons pe_int (pa_cons pe_int (pa_cons pe_int (pa_cons pe_int pa_nil))))))) (pe_call GN hr rfl T.next FN.kp bN .nil pass0 (pa_cons (pv 0) (pa_cons pe_int pa_nil))) (fun _ _ => rfl)) pa_nil))))
        (pg_tup rfl (pgs_cons (pg_name (i := 5) scNm.nd rfl (Or.inr rfl)) (pgs_cons (pg_name (i := 6) scNm.nd rfl (Or.inr rfl)) (pgs_cons (pg_name (i := 7) scNm.nd rfl (Or.inr rfl)) pgs_nil)))))
      (pss_cons (ps_set (i := 8) scNm.nd rfl (Or.inr rfl) (pe_slice sl_str (pe_op op_add_str (pv 3) (pe_op op_mul_si (pe_ix ix_str (pv 2) (pv 6) (fun _ _ => rfl)) pe_int)) po_none (po_some pe_int)))
      (pss_cons (ps_if (pt_cmpR op_gt (pv 7) pe_int (nomark _)) (pss_one (ps_ret (pe_lc (own := [("k", 4)]) (g := gName 4) (by rfl) scNm.nd (pi_range1 (by rfl) T.range (pa_cons (pv 1) pa_nil)) (blkOk_by (own := [("k", 4)]) (N := NN) (sc := defScope sNames) (by decide +kernel))
          (fun _ _ _ _ _ => pg_name (i := 4) scNm.nd rfl (Or.inl rfl)) (fun _ _ _ _ _ => pts_nil) (fun _ _ _ _ _ => pe_ifExp (pt_cmpR op_gt (pv 7) pe_int (nomark _)) (pe_slice sl_str (pv 8) (po_some (pv 4)) po_none) (pe_slice sl_str (pv 8) po_none (po_some (pe_op op_sub (pe_op op_add (pv 4) pe_int) (pv 1)))))))) pss_nil)
      (pss_one (ps_ret (pe_lc (own := [("k", 4)]) (g := gName 4) (by rfl) scNm.nd (pi_range1 (by rfl) T.range (pa_cons (pv 1) pa_nil)) (blkOk_by (own := [("k", 4)]) (N := NN) (sc := defScope sNames) (by decide +kernel))
          (fun _ _ _ _ _ => pg_name (i := 4) scNm.nd rfl (Or.inl rfl)) (fun _ _ _ _ _ => pts_nil) (fun _ _ _ _ _ => pe_op op_add_str (pe_op op_add_str (pe_slice sl_str (pv 3) po_none (po_some (pv 5)))
            (pe_ix ix_str (pv 2) (pe_op op_mod (pe_callTy call_int1 (by rfl) T.int (by decide +kernel) (pa_cons (pe_op op_add (pv 6) (pe_op op_mul (pv 7) (pv 4))) pa_nil)) pe_int) (fun _ _ => rfl))) (pe_slice sl_str (pv 3) (po_some (pv 5)) po_none))))))))), ?_⟩
    refine ⟨(by show 2 ≤ sizeLine; decide), fun p1 h1 => ⟨p1, _, rfl, .inl (.inl upd_same), rfl, _, _, rfl, _, _, rfl, rfl, ?_⟩⟩
    have s1 : Same H _ := Same.upd (o := .tup [.str alpha, .str ""]) h1
    refine ⟨_, rfl, m, l, n, 8, rfl, M.same s1, by omega, by decide, by decide, fun r0 l1 H1 r0p r0l M1 f1 => ?_⟩
    refine ⟨r0, rfl, by omega, by omega, ?_⟩
    refine for_range (lo := 0) (n := r0.toNat) (fun i σ H2 => ∃ (z : Str) (v4 : Option V) (l2 : Addr), σ = [some (.ref m), some (.int (k : Int)), some (.str alpha), some (.str z), v4, none, none, none, none] ∧ Lw i z ∧ Mch H2 m l2 (n + 1 + i) ∧ Fr m l l2 H H2)
      ⟨"", _, l1, rfl, ⟨Nat.le_refl _, fun c hc => by cases hc⟩, M1, Fr.lead s1 f1⟩ ?_ ?_
    · rintro i σ H2 hi ⟨z, v4, l2, rfl, hz, M2, f2⟩
      refine ⟨_, rfl, _, rfl, _, rfl, m, l2, _, 26, rfl, M2, by omega, by decide, by decide, fun r l3 H3 rp rl M3 f3 => ?_⟩
      obtain ⟨hc, hc2⟩ := alpha_at2 rp rl
      refine ⟨alpha, r, _, rfl, rfl, alpha_len, hc, z, _, rfl, rfl, ?_, ?_⟩
      · have := hz.1
        show z.length + 1 ≤ sizeLine
        exact small1000 (by omega)
      · exact ⟨_, _, l3, rfl, hz.app (Lw.sign hc2), M3, f2.trans f3⟩
    · rintro σ H2 ⟨z, v4, l2, rfl, hz, M2, f2⟩
      have z7 := hz.1
      have zs : z.length ≤ sizeLine := Nat.le_of_lt (small1000 (by omega))
      refine ⟨_, rfl, _, rfl, z, rfl, zs, _, _, rfl, rfl, m, l2, _, (z.length : Int) + 1, rfl, M2, by omega, by omega, by omega, fun r5 l3 H3 a5 b5 M3 f3 => ?_⟩
      refine ⟨_, rfl, m, l3, _, 26, rfl, M3, by omega, by decide, by decide, fun r6 l4 H4 a6 b6 M4 f4 => ?_⟩
      refine ⟨(by show 6 ≤ sizeLine; decide), fun pL hL => ?_⟩
      have sL := Same.upd (o := .lst [.int 1, .int 3, .int 5, .int 7, .int 9, .int 11]) hL
      have nL := M4.ne hL
      refine ⟨_, rfl, m, l4, _, 6, rfl, M4.same sL, by omega, by decide, by decide, fun r7 l5 H5 a7 b7 M5 f5 => ?_⟩
      obtain ⟨b, hb, bs, b11⟩ : ∃ b : Int, atI ([.int 1, .int 3, .int 5, .int 7, .int 9, .int 11] : List V) r7 = some (.int b) ∧ (b = 1 ∨ b = 3 ∨ b = 5 ∨ 5 < b) ∧ b ≤ 11 := by
        obtain ⟨j, rfl⟩ : ∃ j : Nat, r7 = (j : Int) := ⟨r7.toNat, by omega⟩
        have hj : j < 6 := by omega
        match j, hj with
        | 0, _ => exact ⟨1, rfl, by omega, by omega⟩
        | 1, _ => exact ⟨3, rfl, by omega, by omega⟩
        | 2, _ => exact ⟨5, rfl, by omega, by omega⟩
        | 3, _ => exact ⟨7, rfl, by omega, by omega⟩
        | 4, _ => exact ⟨9, rfl, by omega, by omega⟩
        | 5, _ => exact ⟨11, rfl, by omega, by omega⟩
      refine ⟨pL, _, r7, .int b, rfl, rfl, SqL.of (f5.keep pL _ upd_same nL.1 nL.2), hb, (by show 3 ≤ sizeLine; decide), fun p3 h3 => ?_⟩
      have F5 : Fr m l l5 H H5 := f2.trans (f3.trans (f4.trans (Fr.lead sL f5)))
      refine ⟨p3, _, rfl, .inl (.inl upd_same), rfl, _, _, rfl, _, _, rfl, _, _, rfl, rfl, ?_⟩
      have s3 := Same.upd (o := .tup [.int r5, .int r6, .int b]) h3
      have M6 := M5.same s3
      have F6 := F5.junk (o := .tup [.int r5, .int r6, .int b]) h3
      obtain ⟨hc6, cc6⟩ := alpha_at2 a6 b6
      obtain ⟨c6, ec6⟩ : ∃ c6, c6 = 97 + r6.toNat := ⟨_, rfl⟩
      rw [← ec6] at hc6 cc6
      refine ⟨_, rfl, _, rfl, _, rfl, alpha, r6, c6, rfl, rfl, alpha_len, hc6, _, 8, rfl, rfl, mul8_ok c6, z, _, rfl, rfl, ?_, 8, rfl, _, rfl, ?_, ?_⟩
      · rw [mul8]
        show z.length + 8 ≤ sizeLine
        exact Nat.le_of_lt (small1000 (by omega))
      · rw [mul8, Str.length_append]
        show z.length + 8 ≤ sizeLine
        exact Nat.le_of_lt (small1000 (by omega))
      obtain ⟨W, hW, eW⟩ : ∃ W, Lw 16 W ∧ W = cutS (z ++ Txt.mul { cps := #[c6] } 8) none (some 8) := ⟨_, by
        rw [mul8]
        exact (((hz.mono (show r0.toNat ≤ 7 by omega)).app (b := 8) ⟨by show 8 ≤ 8; decide, fun d hd => by simp at hd; rw [hd]; exact cc6⟩).mono (by decide)).cut _ _, rfl⟩
      rw [← eW]
      have W8 : W.length = 8 := by rw [eW]; exact mul8_len z c6
      have Wl : W.length ≤ sizeLine := Nat.le_trans hW.1 (by decide)
      have ek : ((k : Int)).toNat = k := by omega
      refine ⟨_, rfl, _, _, rfl, rfl, _, rfl, ite2 (fun hb5 => ?_) (fun hb5 => ?_)⟩
      · refine ⟨_, rfl, (k : Int), rfl, by omega, by omega, fun D hD => ?_⟩
        have nD := M6.ne hD
        refine lc_range (lo := 0) (n := ((k : Int)).toNat) (fun i H9 => H9 = upd _ D (.lst (((List.range i).map (fA W b k)).map V.str))) rfl ?_ ?_
        · rintro i H9 hi e9
          have li : ((List.range i).map (fA W b k)).length = i := by rw [List.length_map, List.length_range]
          have gr : ∀ y, y = fA W b k i → upd H9 D (.lst (((List.range i).map (fA W b k)).map V.str ++ [.str y])) = upd (upd H5 p3 (.tup [.int r5, .int r6, .int b])) D (.lst (((List.range (i + 1)).map (fA W b k)).map V.str)) := fun y ey => by
            rw [str_grow e9, ey]; simp only [List.range_succ, List.map_append]; rfl
          refine ⟨rfl, tyes ?_⟩
          refine ⟨_, rfl, _, _, rfl, rfl, _, rfl, ite2 (fun h7 => ?_) (fun h7 => ?_)⟩
          · exact ⟨_, rfl, _, rfl, _, rfl, _, rfl, Wl, _, by rw [e9]; exact upd_same, small1000 (by rw [List.length_map, li]; omega), gr _ (by unfold fA; rw [if_pos (show b > 7 from of_decide_eq_true h7)])⟩
          · exact ⟨_, rfl, _, rfl, _, _, rfl, rfl, _, rfl, _, _, rfl, rfl, _, rfl, _, rfl, Wl, _, by rw [e9]; exact upd_same, small1000 (by rw [List.length_map, li]; omega), gr _ (by unfold fA; rw [if_neg (show ¬ b > 7 from fun z => h7 (decide_eq_true z))])⟩
        · rintro H9 e9
          rw [ek] at e9
          obtain ⟨g1, g2⟩ := fA_good (b := b) hW W8 hk2
          have sD := Same.upd (o := .lst (((List.range k).map (fA W b k)).map V.str)) hD
          rw [e9]
          exact q D _ l5 _ (F6.free hD) upd_same (by rw [List.length_map, List.length_range]) g1 g2 nD.1 nD.2 ((M6.same sD).mono (by omega)) (F6.junk hD)
      · refine ⟨_, rfl, (k : Int), rfl, by omega, by omega, fun D hD => ?_⟩
        have nD := M6.ne hD
        have hz7 : Lw 7 z := hz.mono (by omega)
        have z7o := hz7.ok
        refine lc_range (lo := 0) (n := ((k : Int)).toNat) (fun i H9 => H9 = upd _ D (.lst (((List.range i).map (fB z r5 r6 b)).map V.str))) rfl ?_ ?_
        · rintro i H9 hi e9
          have li : ((List.range i).map (fB z r5 r6 b)).length = i := by rw [List.length_map, List.length_range]
          have nb5 : ¬ (5 < b) := fun z => hb5 (decide_eq_true z)
          have b15 : 1 ≤ b ∧ b ≤ 11 := by omega
          obtain ⟨hc9, cc9⟩ := alpha_at2 (i := (r6 + b * (0 + (i : Int))) % 26) (Int.emod_nonneg _ (by decide)) (Int.emod_lt_of_pos _ (by decide))
          have p1 := (hz7.cut none (some r5))
          have p2 := (p1.app (Lw.sign cc9))
          have p3' := (hz7.cut (some r5) none)
          refine ⟨rfl, tyes ?_⟩
          refine ⟨_, rfl, _, rfl, _, rfl, _, rfl, zs, _, rfl, _, rfl, _, rfl, _, rfl, _, _, rfl, rfl, .inr ⟨by omega, by omega⟩, _, _, rfl, rfl, .inl ⟨_, rfl, _, _, rfl, rfl, (by show (0 : Int) < 26; decide), ?_⟩⟩
          refine ⟨alpha, _, _, rfl, rfl, alpha_len, hc9, _, _, rfl, rfl, ?_, _, rfl, _, rfl, _, rfl, _, rfl, zs, _, _, rfl, rfl, ?_, _, by rw [e9]; exact upd_same, small1000 (by rw [List.length_map, li]; omega), ?_⟩
          · have := p1.1
            show _ + 1 ≤ sizeLine
            exact Nat.le_of_lt (small1000 (by omega))
          · have := p2.1
            have := p3'.1
            exact Nat.le_of_lt (small1000 (by omega))
          · rw [str_grow e9]; simp only [List.range_succ, List.map_append]; rfl
        · rintro H9 e9
          rw [ek] at e9
          obtain ⟨g1, g2⟩ := fB_good (r5 := r5) (r6 := r6) (b := b) hz7 a5 (by omega) (by have nb5 : ¬ (5 < b) := fun z => hb5 (decide_eq_true z); omega) hk2
          have sD := Same.upd (o := .lst (((List.range k).map (fB z r5 r6 b)).map V.str)) hD
          rw [e9]
          exact q D _ l5 _ (F6.free hD) upd_same (by rw [List.length_map, List.length_range]) g1 g2 nD.1 nD.2 ((M6.same sD).mono (by omega)) (F6.junk hD)
end
end Ms
namespace Ms
open PySem PySem.Spec PyProof.Rows L2
/-! ### drawn settings are settings -/
theorem nm_name {z : Str} (h : nmOk z) : isName (.str z) = true := by
  obtain ⟨h1, h2, h3⟩ := h
  show ((decide (1 ≤ z.length) && decide (z.length ≤ 8)) && z.cps.toList.all fun c => decide (c ∈ alpha.cps.toList)) = true
  have ef : (fun c => decide (c ∈ alpha.cps.toList)) = lowB := funext lowB_alpha
  rw [decide_eq_true h1, decide_eq_true h2, ef, Bool.and_true, Bool.true_and, List.all_eq_true]
  intro c hc
  obtain ⟨a, b⟩ := h3 c hc
  unfold lowB
  rw [decide_eq_true a, decide_eq_true b]; rfl
theorem due_all : ∀ (qs : List (Str × Int)) (p : Nat) (seen : List Str) (mn : Int), (∀ q ∈ qs, isName (.str q.1) = true ∧ 1 ≤ q.2 ∧ q.2 ≤ 3) → (∀ q ∈ qs, q.1 ∉ seen) → (qs.map (·.1)).Nodup → dueGo p seen mn (prD qs) = .inr (qs.foldl (fun m q => m * (q.2 + 1)) mn)
  | [], p, seen, mn, _, _, _ => rfl
  | q :: qs, p, seen, mn, h, hs, hn => by
    obtain ⟨h1, h2, h3⟩ := h q (List.mem_cons_self ..)
    have hw : isWhole (.int q.2) 1 3 = true := by show (decide (1 ≤ q.2) && decide (q.2 ≤ 3)) = true; rw [decide_eq_true h2, decide_eq_true h3]; rfl
    have eo : oneD (.tuple [.str q.1, .int q.2]) = some (q.1, q.2) := by simp only [oneD]; rw [h1, hw]; rfl
    have nq := hs q (List.mem_cons_self ..)
    rw [List.map_cons, List.nodup_cons] at hn
    show dueGo p seen mn (.tuple [.str q.1, .int q.2] :: prD qs) = _
    simp only [dueGo, eo, if_neg nq]
    rw [due_all qs (p + 1) (seen ++ [q.1]) (mn * (q.2 + 1)) (fun x hx => h x (List.mem_cons_of_mem _ hx)) (fun x hx z => ?_) hn.2]
    · rfl
    · rcases List.mem_append.mp z with z | z
      · exact hs x (List.mem_cons_of_mem _ hx) z
      · have e : x.1 = q.1 := List.mem_singleton.mp z
        exact hn.1 (by rw [← e]; exact List.mem_map_of_mem hx)
/-- settings, as pairs -/
structure SetOk (ys : List (Str × Int)) : Prop where
  len1 : 1 ≤ ys.length
  len3 : ys.length ≤ 3
  nm : ∀ q ∈ ys, nmOk q.1
  most : ∀ q ∈ ys, 1 ≤ q.2 ∧ q.2 ≤ 3
  nodup : (ys.map (·.1)).Nodup
  few : many ys ≤ 12
theorem prD_len (ys : List (Str × Int)) : (prD ys).length = ys.length := by unfold prD; exact List.length_map ..
theorem SetOk.need {ys : List (Str × Int)} (s : SetOk ys) : needV (.tuple (prD ys)) = none := by
  have e := due_all ys 0 [] 1 (fun q hq => ⟨nm_name (s.nm q hq), s.most q hq⟩) (fun q _ z => nomatch z) s.nodup
  unfold needV
  simp only [prD_len, if_pos (And.intro s.len1 s.len3), e]
  have f := s.few
  unfold many at f
  rw [if_pos f]
theorem SetOk.okP {ys : List (Str × Int)} (s : SetOk ys) : okP ys := fun q hq => ⟨(s.nm q hq).ok, s.most q hq⟩
theorem zip_many : ∀ (ys : List Str) (ms : List Int) (i : Int), ys.length = ms.length → (ys.zip ms).foldl (fun m q => m * (q.2 + 1)) i = ms.foldl (fun m x => m * (x + 1)) i
  | [], [], _, _ => rfl
  | y :: ys, x :: ms, i, h => zip_many ys ms (i * (x + 1)) (by simpa using h)
  | [], _ :: _, _, h => by simp at h
  | _ :: _, [], _, h => by simp at h
theorem zip_fst : ∀ (ys : List Str) (ms : List Int), ys.length = ms.length → (ys.zip ms).map (·.1) = ys
  | [], [], _ => rfl
  | y :: ys, x :: ms, h => by
    show y :: (ys.zip ms).map (·.1) = y :: ys
    rw [zip_fst ys ms (by simpa using h)]
  | [], _ :: _, h => by simp at h
  | _ :: _, [], h => by simp at h
/-- how often each may stand: one to three small ints -/
def MoV (H : Hp) (a : Addr) : Prop := ∃ ms : List Int, H a = some (.tup (ms.map V.int)) ∧ 1 ≤ ms.length ∧ ms.length ≤ 3 ∧ (∀ x ∈ ms, 1 ≤ x ∧ x ≤ 3) ∧ ms.foldl (fun m x => m * (x + 1)) 1 ≤ 12
theorem MoV.same {H H' : Hp} {a : Addr} (s : Same H H') (h : MoV H a) : MoV H' a := by
  obtain ⟨ms, e, r⟩ := h
  exact ⟨ms, s _ _ e, r⟩
section
variable {P : Program} {w : World} {K : PySem.W.Frag} {mg : Str → Option Value} {base : Heap} {fN fM : Addr}
def spSettingsV : Sp := fun vs H Q _ => ∃ (m l : Addr) (n : Nat), vs = [.ref m] ∧ Mch H m l n ∧ n < 800000 ∧
  ∀ (p : Addr) (as : List Addr) (ys : List (Str × Int)) (l' : Addr) (H' : Hp), H' p = some (.tup (as.map V.ref)) → Prs H' as ys → SetOk ys → Mch H' m l' (n + 12) → Fr m l l' H H' → Q (.ref p) H'
theorem ok_settingsV {f : Addr} {fd fdN fdM : FuncData} (F : Fun K "_law_settings" "_law_settings" sSettings f fd) (T : TxtS mg fN fM) (FN : Fun K "_law_next" "_law_next" sNext fN fdN) (bN : Binds K fdN ["m", "many"] [])
    (FM : Fun K "_law_names" "_law_names" sNames fM fdM) (bM : Binds K fdM ["m", "many"] []) : FnOk P w K mg base CX0 3 f fd ["m"] spSettingsV := by
  have GN : FnOk P w K mg base CX0 2 fN fdN ["m", "many"] spNext := (ok_next FN T.toTxt).mono (by decide)
  have GM : FnOk P w K mg base CX0 2 fM fdM ["m", "many"] spNamesV := ok_namesV FM T.toTxtN FN bN
  refine F.ok scSt (fun vs H Q E h => ?_) (fun cdv A outer s H vs Q E hr h => ?_)
  · obtain ⟨m, l, n, rfl, _⟩ := h
    rfl
  · obtain ⟨m, l, n, rfl, M, hn, q⟩ := h
    refine ⟨_, pss_cons (ps_set (i := 1) scSt.nd rfl (by first | exact Or.inl rfl | exact Or.inr rfl) (pe_lst (pa_cons (pe_tup (pa_cons pe_int pa_nil)) (pa_cons (pe_tup (pa_cons pe_int pa_nil)) (pa_cons (pe_tup (pa_cons pe_int pa_nil)) (pa_cons (pe_tup (pa_cons pe_int (pa_cons pe_int pa_nil))) (pa_cons (pe_tup (pa_cons pe_int (pa_cons pe_int pa_nil))) (pa_cons (pe_tup (pa_cons pe_int (pa_cons pe_int pa_nil))) (pa_cons (pe_tup (pa_cons pe_int (pa_cons pe_int pa_nil))) (pa_cons (pe_tup (pa_cons pe_int (pa_cons pe_int pa_nil))) (pa_cons (pe_tup (pa_cons pe_int (pa_cons pe_int pa_nil))) (pa_cons (pe_tup (pa_cons pe_int (pa_cons pe_int (pa_cons pe_int pa_nil)))) (pa_cons (pe_tup (pa_cons pe_int (pa_cons pe_int (pa_cons pe_int pa_nil)))) (pa_cons (pe_tup (pa_cons pe_int (pa_cons pe_int (pa_cons pe_int pa_nil)))) pa_nil))))))))))))))
      (pss_cons (ps_set (i := 2) scSt.nd rfl (by first | exact Or.inl rfl | exact Or.inr rfl) (pe_ix ix_list (pv 1) (pe_call GN hr rfl T.next FN.kp bN .nil pass0 (pa_cons (pv 0) (pa_cons pe_int pa_nil))) (fun _ _ => rfl)))
      (pss_one (ps_ret (pe_callTy call_tuple_of (by rfl) T.tuple (by decide +kernel) (pa_cons (pe_lc (own := [("name", 3), ("most", 4)]) (g := gTup K 2 (gCons (gName 3) (gCons (gName 4) gNil))) (by rfl) scSt.nd
        (pi_zm (by rfl) T.zip (pa_cons (pe_call GM hr rfl T.names FM.kp bM .nil pass0 (pa_cons (pv 0) (pa_cons (pe_callB call_len (by rfl) T.len PySem.boot_len (pa_cons (pv 2) pa_nil)) pa_nil))) (pa_cons (pv 2) pa_nil)))
        (blkOk_by (own := [("name", 3), ("most", 4)]) (N := NS) (sc := defScope sSettings) (by decide +kernel))
        (fun _ _ _ _ _ => pg_tup rfl (pgs_cons (pg_name (i := 3) scSt.nd rfl (Or.inl rfl)) (pgs_cons (pg_name (i := 4) scSt.nd rfl (Or.inl rfl)) pgs_nil))) (fun _ _ _ _ _ => pts_nil)
        (fun _ _ _ _ _ => pe_tup (pa_cons (pv 3) (pa_cons (pv 4) pa_nil)))) pa_nil))))), ?_⟩
    refine ⟨(by show 1 ≤ sizeLine; decide), fun p1 h1 => ?_⟩
    obtain ⟨G1, e1⟩ : ∃ G, G = upd H p1 (.tup [.int 1]) := ⟨_, rfl⟩
    rw [← e1]
    have s1 : Same H G1 := e1 ▸ Same.upd h1
    have M1 := M.same s1
    have f1 : Fr m l l H G1 := e1 ▸ (Fr.refl M).junk h1
    have a1_1 : MoV G1 p1 := ⟨[1], by rw [e1, upd_same]; rfl, by decide, by decide, by decide, by decide⟩
    refine ⟨(by show 1 ≤ sizeLine; decide), fun p2 h2 => ?_⟩
    obtain ⟨G2, e2⟩ : ∃ G, G = upd G1 p2 (.tup [.int 2]) := ⟨_, rfl⟩
    rw [← e2]
    have s2 : Same G1 G2 := e2 ▸ Same.upd h2
    have M2 := M1.same s2
    have f2 : Fr m l l H G2 := e2 ▸ f1.junk h2
    have a2_2 : MoV G2 p2 := ⟨[2], by rw [e2, upd_same]; rfl, by decide, by decide, by decide, by decide⟩
    have a1_2 := a1_1.same s2
    refine ⟨(by show 1 ≤ sizeLine; decide), fun p3 h3 => ?_⟩
    obtain ⟨G3, e3⟩ : ∃ G, G = upd G2 p3 (.tup [.int 3]) := ⟨_, rfl⟩
    rw [← e3]
    have s3 : Same G2 G3 := e3 ▸ Same.upd h3
    have M3 := M2.same s3
    have f3 : Fr m l l H G3 := e3 ▸ f2.junk h3
    have a3_3 : MoV G3 p3 := ⟨[3], by rw [e3, upd_same]; rfl, by decide, by decide, by decide, by decide⟩
    have a1_3 := a1_2.same s3
    have a2_3 := a2_2.same s3
    refine ⟨(by show 2 ≤ sizeLine; decide), fun p4 h4 => ?_⟩
    obtain ⟨G4, e4⟩ : ∃ G, G = upd G3 p4 (.tup [.int 1, .int 1]) := ⟨_, rfl⟩
    rw [← e4]
    have s4 : Same G3 G4 := e4 ▸ Same.upd h4
    have M4 := M3.same s4
    have f4 : Fr m l l H G4 := e4 ▸ f3.junk h4
    have a4_4 : MoV G4 p4 := ⟨[1, 1], by rw [e4, upd_same]; rfl, by decide, by decide, by decide, by decide⟩
    have a1_4 := a1_3.same s4
    have a2_4 := a2_3.same s4
    have a3_4 := a3_3.same s4
    refine ⟨(by show 2 ≤ sizeLine; decide), fun p5 h5 => ?_⟩
    obtain ⟨G5, e5⟩ : ∃ G, G = upd G4 p5 (.tup [.int 1, .int 2]) := ⟨_, rfl⟩
    rw [← e5]
    have s5 : Same G4 G5 := e5 ▸ Same.upd h5
    have M5 := M4.same s5
    have f5 : Fr m l l H G5 := e5 ▸ f4.junk h5
    have a5_5 : MoV G5 p5 := ⟨[1, 2], by rw [e5, upd_same]; rfl, by decide, by decide, by decide, by decide⟩
    have a1_5 := a1_4.same s5
    have a2_5 := a2_4.same s5
    have a3_5 := a3_4.same s5
    have a4_5 := a4_4.same s5
    refine ⟨(by show 2 ≤ sizeLine; decide), fun p6 h6 => ?_⟩
    obtain ⟨G6, e6⟩ : ∃ G, G = upd G5 p6 (.tup [.int 2, .int 1]) := ⟨_, rfl⟩
    rw [← e6]
    have s6 : Same G5 G6 := e6 ▸ Same.upd h6
    have M6 := M5.same s6
    have f6 : Fr m l l H G6 := e6 ▸ f5.junk h6
    have a6_6 : MoV G6 p6 := ⟨[2, 1], by rw [e6, upd_same]; rfl, by decide, by decide, by decide, by decide⟩
    have a1_6 := a1_5.same s6
    have a2_6 := a2_5.same s6
    have a3_6 := a3_5.same s6
    have a4_6 := a4_5.same s6
    have a5_6 := a5_5.same s6
    refine ⟨(by show 2 ≤ sizeLine; decide), fun p7 h7 => ?_⟩
    obtain ⟨G7, e7⟩ : ∃ G, G = upd G6 p7 (.tup [.int 2, .int 2]) := ⟨_, rfl⟩
    rw [← e7]
    have s7 : Same G6 G7 := e7 ▸ Same.upd h7
    have M7 := M6.same s7
    have f7 : Fr m l l H G7 := e7 ▸ f6.junk h7
    have a7_7 : MoV G7 p7 := ⟨[2, 2], by rw [e7, upd_same]; rfl, by decide, by decide, by decide, by decide⟩
    have a1_7 := a1_6.same s7
    have a2_7 := a2_6.same s7
    have a3_7 := a3_6.same s7
    have a4_7 := a4_6.same s7
    have a5_7 := a5_6.same s7
    have a6_7 := a6_6.same s7
    refine ⟨(by show 2 ≤ sizeLine; decide), fun p8 h8 => ?_⟩
    obtain ⟨G8, e8⟩ : ∃ G, G = upd G7 p8 (.tup [.int 1, .int 3]) := ⟨_, rfl⟩
    rw [← e8]
    have s8 : Same G7 G8 := e8 ▸ Same.upd h8
    have M8 := M7.same s8
    have f8 : Fr m l l H G8 := e8 ▸ f7.junk h8
    have a8_8 : MoV G8 p8 := ⟨[1, 3], by rw [e8, upd_same]; rfl, by decide, by decide, by decide, by decide⟩
    have a1_8 := a1_7.same s8
    have a2_8 := a2_7.same s8
    have a3_8 := a3_7.same s8
    have a4_8 := a4_7.same s8
    have a5_8 := a5_7.same s8
    have a6_8 := a6_7.same s8
    have a7_8 := a7_7.same s8
    refine ⟨(by show 2 ≤ sizeLine; decide), fun p9 h9 => ?_⟩
    obtain ⟨G9, e9⟩ : ∃ G, G = upd G8 p9 (.tup [.int 3, .int 2]) := ⟨_, rfl⟩
    rw [← e9]
    have s9 : Same G8 G9 := e9 ▸ Same.upd h9
    have M9 := M8.same s9
    have f9 : Fr m l l H G9 := e9 ▸ f8.junk h9
    have a9_9 : MoV G9 p9 := ⟨[3, 2], by rw [e9, upd_same]; rfl, by decide, by decide, by decide, by decide⟩
    have a1_9 := a1_8.same s9
    have a2_9 := a2_8.same s9
    have a3_9 := a3_8.same s9
    have a4_9 := a4_8.same s9
    have a5_9 := a5_8.same s9
    have a6_9 := a6_8.same s9
    have a7_9 := a7_8.same s9
    have a8_9 := a8_8.same s9
    refine ⟨(by show 3 ≤ sizeLine; decide), fun p10 h10 => ?_⟩
    obtain ⟨G10, e10⟩ : ∃ G, G = upd G9 p10 (.tup [.int 1, .int 1, .int 1]) := ⟨_, rfl⟩
    rw [← e10]
    have s10 : Same G9 G10 := e10 ▸ Same.upd h10
    have M10 := M9.same s10
    have f10 : Fr m l l H G10 := e10 ▸ f9.junk h10
    have a10_10 : MoV G10 p10 := ⟨[1, 1, 1], by rw [e10, upd_same]; rfl, by decide, by decide, by decide, by decide⟩
    have a1_10 := a1_9.same s10
    have a2_10 := a2_9.same s10
    have a3_10 := a3_9.same s10
    have a4_10 := a4_9.same s10
    have a5_10 := a5_9.same s10
    have a6_10 := a6_9.same s10
    have a7_10 := a7_9.same s10
    have a8_10 := a8_9.same s10
    have a9_10 := a9_9.same s10
    refine ⟨(by show 3 ≤ sizeLine; decide), fun p11 h11 => ?_⟩
    obtain ⟨G11, e11⟩ : ∃ G, G = upd G10 p11 (.tup [.int 1, .int 2, .int 1]) := ⟨_, rfl⟩
    rw [← e11]
    have s11 : Same G10 G11 := e11 ▸ Same.upd h11
    have M11 := M10.same s11
    have f11 : Fr m l l H G11 := e11 ▸ f10.junk h11
    have a11_11 : MoV G11 p11 := ⟨[1, 2, 1], by rw [e11, upd_same]; rfl, by decide, by decide, by decide, by decide⟩
    have a1_11 := a1_10.same s11
    have a2_11 := a2_10.same s11
    have a3_11 := a3_10.same s11
    have a4_11 := a4_10.same s11
    have a5_11 := a5_10.same s11
    have a6_11 := a6_10.same s11
    have a7_11 := a7_10.same s11
    have a8_11 := a8_10.same s11
    have a9_11 := a9_10.same s11
    have a10_11 := a10_10.same s11
    refine ⟨(by show 3 ≤ sizeLine; decide), fun p12 h12 => ?_⟩
    obtain ⟨G12, e12⟩ : ∃ G, G = upd G11 p12 (.tup [.int 1, .int 1, .int 2]) := ⟨_, rfl⟩
    rw [← e12]
    have s12 : Same G11 G12 := e12 ▸ Same.upd h12
    have M12 := M11.same s12
    have f12 : Fr m l l H G12 := e12 ▸ f11.junk h12
    have a12_12 : MoV G12 p12 := ⟨[1, 1, 2], by rw [e12, upd_same]; rfl, by decide, by decide, by decide, by decide⟩
    have a1_12 := a1_11.same s12
    have a2_12 := a2_11.same s12
    have a3_12 := a3_11.same s12
    have a4_12 := a4_11.same s12
    have a5_12 := a5_11.same s12
    have a6_12 := a6_11.same s12
    have a7_12 := a7_11.same s12
    have a8_12 := a8_11.same s12
    have a9_12 := a9_11.same s12
    have a10_12 := a10_11.same s12
    have a11_12 := a11_11.same s12
    refine ⟨(by show 12 ≤ sizeLine; decide), fun D hD => ?_⟩
    obtain ⟨G, eG⟩ : ∃ G, G = upd G12 D (.lst [.ref p1, .ref p2, .ref p3, .ref p4, .ref p5, .ref p6, .ref p7, .ref p8, .ref p9, .ref p10, .ref p11, .ref p12]) := ⟨_, rfl⟩
    rw [← eG]
    have sG : Same G12 G := eG ▸ Same.upd hD
    have nD := M12.ne hD
    have MG := M12.same sG
    have fG : Fr m l l H G := eG ▸ f12.junk hD
    have gD : G D = some (.lst [.ref p1, .ref p2, .ref p3, .ref p4, .ref p5, .ref p6, .ref p7, .ref p8, .ref p9, .ref p10, .ref p11, .ref p12]) := by rw [eG, upd_same]
    have pick : ∀ r : Int, 0 ≤ r → r < 12 → ∃ a, atI ([.ref p1, .ref p2, .ref p3, .ref p4, .ref p5, .ref p6, .ref p7, .ref p8, .ref p9, .ref p10, .ref p11, .ref p12] : List V) r = some (.ref a) ∧ MoV G a := by
      intro r h0 h1
      obtain ⟨j, rfl⟩ : ∃ j : Nat, r = (j : Int) := ⟨r.toNat, by omega⟩
      have hj : j < 12 := by omega
      match j, hj with
      | 0, _ => exact ⟨p1, rfl, a1_12.same sG⟩
      | 1, _ => exact ⟨p2, rfl, a2_12.same sG⟩
      | 2, _ => exact ⟨p3, rfl, a3_12.same sG⟩
      | 3, _ => exact ⟨p4, rfl, a4_12.same sG⟩
      | 4, _ => exact ⟨p5, rfl, a5_12.same sG⟩
      | 5, _ => exact ⟨p6, rfl, a6_12.same sG⟩
      | 6, _ => exact ⟨p7, rfl, a7_12.same sG⟩
      | 7, _ => exact ⟨p8, rfl, a8_12.same sG⟩
      | 8, _ => exact ⟨p9, rfl, a9_12.same sG⟩
      | 9, _ => exact ⟨p10, rfl, a10_12.same sG⟩
      | 10, _ => exact ⟨p11, rfl, a11_12.same sG⟩
      | 11, _ => exact ⟨p12, rfl, a12_12.same sG⟩
    clear e1 s1 M1 f1 e2 s2 M2 f2 e3 s3 M3 f3 e4 s4 M4 f4 e5 s5 M5 f5 e6 s6 M6 f6 e7 s7 M7 f7 e8 s8 M8 f8 e9 s9 M9 f9 e10 s10 M10 f10 e11 s11 M11 f11 a1_1 a1_2 a2_2 a1_3 a2_3 a3_3 a1_4 a2_4 a3_4 a4_4 a1_5 a2_5 a3_5 a4_5 a5_5 a1_6 a2_6 a3_6 a4_6 a5_6 a6_6 a1_7 a2_7 a3_7 a4_7 a5_7 a6_7 a7_7 a1_8 a2_8 a3_8 a4_8 a5_8 a6_8 a7_8 a8_8 a1_9 a2_9 a3_9 a4_9 a5_9 a6_9 a7_9 a8_9 a9_9 a1_10 a2_10 a3_10 a4_10 a5_10 a6_10 a7_10 a8_10 a9_10 a10_10 a1_11 a2_11 a3_11 a4_11 a5_11 a6_11 a7_11 a8_11 a9_11 a10_11 a11_11 a1_12 a2_12 a3_12 a4_12 a5_12 a6_12 a7_12 a8_12 a9_12 a10_12 a11_12 a12_12
    refine ⟨_, rfl, _, rfl, m, l, n, 12, rfl, MG, by omega, by decide, by decide, fun r l1 H1 r0 r1 M1 f1' => ?_⟩
    obtain ⟨a, ha, mo⟩ := pick r r0 r1
    refine ⟨D, _, r, .ref a, rfl, rfl, SqL.of (f1'.keep D _ gD nD.1 nD.2), ha, ?_⟩
    obtain ⟨ms, hms, ml1, ml3, msok, mfew⟩ := mo
    have am : a ≠ m ∧ a ≠ l := by
      obtain ⟨c, cs, ls, z, dm, dc, dl, _⟩ := MG.ex
      exact ⟨ne_of hms dm (by intro q; cases q), ne_of hms dl (by intro q; cases q)⟩
    have ka : H1 a = some (.tup (ms.map V.int)) := f1'.keep a _ hms am.1 am.2
    have F1 : Fr m l l1 H H1 := fG.trans f1'
    clear pick gD eG sG MG fG hD e12 s12 M12 f12 h12 h11 h10 h9 h8 h7 h6 h5 h4 h3 h2 h1 ha f1' hms
    have lenA : ((ms.map V.int).length : Nat) = ms.length := List.length_map ..
    refine ⟨_, rfl, _, rfl, _, _, rfl, .inr ⟨_, SqT.of ka, rfl⟩, ?_⟩
    refine ⟨m, l1, n + 1, (ms.map V.int).length, rfl, M1, by omega, by omega, by omega, fun N ys l2 H2 hN gN yl yn yo nm nl M2 f2 => ?_⟩
    have F2 := F1.trans f2
    have ka2 : H2 a = some (.tup (ms.map V.int)) := f2.keep a _ ka am.1 (by
      obtain ⟨c, cs, ls, z, dm, dc, dl, _⟩ := M1.ex
      exact ne_of ka dl (by intro q; cases q))
    refine ⟨_, rfl, N, a, _, _, rfl, SqL.of gN, .inl (.inl ka2), fun D2 hD2 => ?_⟩
    have yl' : ys.length = ms.length := yl.trans lenA
    refine lc_it (walk_zm (xs := ys.map V.str) (ys := ms.map V.int) (n := ms.length) (by simp [yl'])) (fun i H3 => ∃ as : List Addr, as.length = i ∧ Prs H3 as ((ys.zip ms).take i) ∧ (∀ b ∈ as, b ≠ D2) ∧ H3 D2 = some (.lst (as.map V.ref)) ∧ Same H2 H3)
      ⟨[], rfl, .nil, (fun _ hb => nomatch hb), upd_same, Same.upd hD2⟩ (fun i H3 _ ⟨as, _, _, _, _, s3⟩ => ⟨SqL.of (s3 _ _ gN), SqT.of (s3 _ _ ka2)⟩) ?_ ?_
    · rintro i x H3 H4 hi ⟨as, al, pr, nd, gd, s3⟩ ⟨T, x1, x2, rfl, hT, rfl, e1, e2⟩
      have hy : i < ys.length := by omega
      have e1' : x1 = .str ys[i] := by simp [hy] at e1; exact e1.symm
      have e2' : x2 = .int ms[i] := by simp [hi] at e2; exact e2.symm
      subst e1' e2'
      refine ⟨T, _, rfl, .inl (.inl upd_same), rfl, _, _, rfl, _, _, rfl, rfl, rfl, tyes ?_⟩
      refine ⟨_, rfl, _, rfl, (by show 2 ≤ sizeLine; decide), fun p hp => ?_⟩
      have sT : Same H3 (upd H3 T (.tup [.str ys[i], .int ms[i]])) := Same.upd hT
      have sp : Same (upd H3 T (.tup [.str ys[i], .int ms[i]])) (upd (upd H3 T (.tup [.str ys[i], .int ms[i]])) p (.tup [.str ys[i], .int ms[i]])) := Same.upd hp
      have nDp : p ≠ D2 := fun e => by rw [e, sT _ _ gd] at hp; cases hp
      refine ⟨_, sp _ _ (sT _ _ gd), small1000 (by rw [List.length_map]; omega), as ++ [p], by simp [al], ?_, ?_, ?_, ?_⟩
      · rw [List.take_succ]
        have ez : (ys.zip ms)[i]? = some (ys[i], ms[i]) := by rw [List.getElem?_zip_eq_some]; exact ⟨List.getElem?_eq_getElem hy, List.getElem?_eq_getElem hi⟩
        rw [ez]
        refine Prs.snoc (Prs.same (fun b o hb e => ?_) pr) ?_
        · rw [upd_ne (nd b hb)]; exact sp _ _ (sT _ _ e)
        · rw [upd_ne nDp, upd_same]
      · intro b hb
        rcases List.mem_append.mp hb with hb | hb
        · exact nd b hb
        · rw [List.mem_singleton.mp hb]; exact nDp
      · rw [upd_same, List.map_append]; rfl
      · intro b o e
        have nb : b ≠ D2 := ne_of_none e hD2
        rw [upd_ne nb]; exact sp _ _ (sT _ _ (s3 _ _ e))
    · rintro H3 ⟨as, al, pr, nd, gd, s3⟩
      have lz : (ys.zip ms).length = ms.length := by simp [yl']
      rw [List.take_of_length_le (by omega)] at pr
      refine ⟨D2, _, rfl, .inl ⟨SqL.of gd, fun p hp => ?_⟩⟩
      have sp : Same H3 (upd H3 p (.tup (as.map V.ref))) := Same.upd hp
      have so : SetOk (ys.zip ms) := by
        refine ⟨by omega, by omega, fun y hy => yo _ (List.of_mem_zip hy).1, fun y hy => msok _ (List.of_mem_zip hy).2, by rw [zip_fst ys ms yl']; exact yn, ?_⟩
        unfold many
        rw [zip_many ys ms 1 yl']; exact mfew
      exact q p as (ys.zip ms) l2 _ upd_same (pr.same fun b o _ e => sp b o e) so ((((M2.same s3).same sp)).mono (by omega)) ((F2.trail s3).trail sp)
end
end Ms
namespace Ms
open PySem PySem.Spec PyProof.Rows L2
/-! ### need_places, need_modes -/
def firstBad (f : PyData → Bool) : Nat → List PyData → Option Nat
  | _, [] => none
  | p, d :: ds => if f d = true then firstBad f (p + 1) ds else some p
def placesV (qs : List (Str × Int)) (d : PyData) : Option V := match d with
  | .tuple ds => if 1 ≤ ds.length ∧ ds.length ≤ 16 then (firstBad (placeD qs ds.length) 0 ds).map fun p => V.int (p : Nat) else some .non
  | _ => some .non
def modesV (k : Nat) (d : PyData) : Option V := match d with
  | .tuple ds => if ds.length = k then (firstBad isMode 0 ds).map fun p => V.int (p : Nat) else some .non
  | _ => some .non
section
variable {P : Program} {w : World} {K : PySem.W.Frag} {mg : Str → Option Value} {base : Heap} {fI fN fS fA fG fNu fAs fPl fMo fNP fNM fNd aE aM C fE : Addr}
theorem scInP : FnScope ["self", "place"] ["self", "place"] (defScope sIniP) := ⟨rfl, rfl, rfl, by decide +kernel, rfl, by decide +kernel, by decide +kernel⟩
theorem ok_iniP {fd : FuncData} {qual : Str} (F : Fun K "__init__" qual sIniP fE fd) (TE : ErrC K C fE) : FnOk P w K mg base CX0 1 fE fd ["self", "place"] (spIni C) := by
  refine F.ok scInP (fun vs H Q E h => ?_) (fun cdv A outer s H vs Q E hr h => ?_)
  · obtain ⟨a, y, rfl, _⟩ := h
    rfl
  · obtain ⟨a, y, rfl, e, q⟩ := h
    exact ⟨_, pss_one (ps_ost (pv 0) (pv 1)), ⟨_, rfl, _, rfl, a, C, rfl, TE.ox, TE.no, .inl ⟨e, fun dx h1 h2 => q dx h1 h2⟩⟩⟩
theorem scInM : FnScope ["self", "place"] ["self", "place"] (defScope sIniM) := ⟨rfl, rfl, rfl, by decide +kernel, rfl, by decide +kernel, by decide +kernel⟩
theorem ok_iniM {fd : FuncData} {qual : Str} (F : Fun K "__init__" qual sIniM fE fd) (TE : ErrC K C fE) : FnOk P w K mg base CX0 1 fE fd ["self", "place"] (spIni C) := by
  refine F.ok scInM (fun vs H Q E h => ?_) (fun cdv A outer s H vs Q E hr h => ?_)
  · obtain ⟨a, y, rfl, _⟩ := h
    rfl
  · obtain ⟨a, y, rfl, e, q⟩ := h
    exact ⟨_, pss_one (ps_ost (pv 0) (pv 1)), ⟨_, rfl, _, rfl, a, C, rfl, TE.ox, TE.no, .inl ⟨e, fun dx h1 h2 => q dx h1 h2⟩⟩⟩
def spNPl (K : PySem.W.Frag) (C : Addr) : Sp := fun vs H Q E => ∃ (m l a : Addr) (xs : List V) (qs : List (Str × Int)) (v : V) (d : PyData) (B b : Nat), vs = [.ref a, v] ∧ SqT K H a xs ∧ PrTs K H xs qs ∧ Dq K H m l v d ∧ Gd B 100000 b d ∧
  (placesV qs d = none → ∀ H', Same H H' → Q v H') ∧ ∀ u, placesV qs d = some u → ∀ dx H', H dx = none → Same H H' → H' dx = some (.xd [("place", u)]) → E (.ref C) (some dx) H'
abbrev NNp : List Str := ["settings", "places", "at", "place"]
theorem scNp : FnScope NNp ["settings", "places"] (defScope sNPlaces) := ⟨rfl, rfl, rfl, by decide +kernel, rfl, by decide +kernel, by decide +kernel⟩
theorem ok_nplaces {f : Addr} {fd fdI fdN fdNu fdAs fdPl fdE : FuncData} {qual : Str} (F : Fun K "need_places" "need_places" sNPlaces f fd) (T : TxtR mg fI fN fS fA fG fNu fAs fPl fMo fNP fNM fNd aE aM) (W : WrT K aE aM) (gC : mg "BadPlaces" = some (.ref C)) (TE : ErrC K C fE) (FI : Fun K "is_int" "is_int" sPInt fI fdI) (bI : Binds K fdI ["thing"] [])
    (FN : Fun K "is_name" "is_name" sPName fN fdN) (bN : Binds K fdN ["thing"] []) (FNu : Fun K "is_number" "is_number" sPNum fNu fdNu) (bNu : Binds K fdNu ["many", "thing"] []) (FAs : Fun K "is_ask" "is_ask" sPAsk fAs fdAs) (bAs : Binds K fdAs ["settings", "many", "setting", "nexts"] [])
    (FPl : Fun K "is_place" "is_place" sPPlace fPl fdPl) (bPl : Binds K fdPl ["settings", "many", "thing"] []) (FE : Fun K "__init__" qual sIniP fE fdE) (bE : Binds K fdE ["self", "place"] []) : FnOk P w K mg base (L2.CX P w) 5 f fd ["settings", "places"] (spNPl K C) := by
  have GPl : FnOk P w K mg base CX0 4 fPl fdPl ["settings", "many", "thing"] (spPlace K) := ok_place FPl T W FI bI FN bN FNu bNu FAs bAs
  have GE : FnOk P w K mg base CX0 1 fE fdE ["self", "place"] (spIni C) := ok_iniP FE TE
  refine F.okX scNp (fun vs H Q E h => ?_) (fun cdv A outer s H vs Q E hr h => ?_)
  · obtain ⟨m, l, a, xs, qs, v, d, B, b, rfl, _⟩ := h
    rfl
  obtain ⟨m, l, a, xs, qs, v, d, B, b, rfl, hs, hp, hd, gd, q, qe⟩ := h
  obtain ⟨tp, gp⟩ := T.mP
  have hr2 : Room 2 _ := hr.mono (by decide)
  refine ⟨_, pss_cons (ps_if (PW.pt (pw_or (pt_not (pt_val (pe_callB call_isi (by rfl) T.isi PyProof.Rows.boot_isinstance (pa_cons (pv 1) (pa_cons (pe_bltn (v := .ty "tuple") (u := .type "tuple") (by rfl) T.tuple (by decide +kernel) rfl) pa_nil)))))
      (pw_or1 (pt_not (pt_chain op_le op_le pe_int (pe_callB call_len (by rfl) T.len PySem.boot_len (pa_cons (pv 1) pa_nil)) (pe_glob (v := .int 16) rfl gp ⟨_, rfl⟩)))))) (pss_one (ps_raise rfl (takes_of rfl rfl rfl rfl) (pmk_oex TE.ox TE.ini TE.ty GE hr2 bE .nil pass0 (by rfl) gC (pa_cons pe_non pa_nil)))) pss_nil)
    (pss_cons (ps_for (passes_of rfl) rfl (pi_et (by rfl) T.enumerate (pa_cons (pv 1) pa_nil)) (pg_tup rfl (pgs_cons (pg_name (i := 2) scNp.nd rfl (by first | exact Or.inl rfl | exact Or.inr rfl)) (pgs_cons (pg_name (i := 3) scNp.nd rfl (by first | exact Or.inl rfl | exact Or.inr rfl)) pgs_nil)))
      (pss_one (ps_if (pt_not (pt_val (pe_call GPl hr rfl T.gPl FPl.kp bPl .nil pass0 (pa_cons (pv 0) (pa_cons (pe_callB call_len (by rfl) T.len PySem.boot_len (pa_cons (pv 1) pa_nil)) (pa_cons (pv 3) pa_nil))))))
        (pss_one (ps_raise rfl (takes_of rfl rfl rfl rfl) (pmk_oex TE.ox TE.ini TE.ty GE hr2 bE .nil pass0 (by rfl) gC (pa_cons (pv 2) pa_nil)))) pss_nil)))
    (pss_one (ps_ret (pv 1)))), ?_⟩
  refine ⟨_, rfl, v, .ty "tuple", _, _, _, rfl, .ty _, hd.ty, isi_tup K d, _, rfl, ?_⟩
  cases d with
  | tuple ds =>
    cases hd with
    | tup h0 hx =>
      rename_i p ys
      refine ifF rfl ?_
      have ly := hx.len
      have none0 : ¬ (1 ≤ ds.length ∧ ds.length ≤ 16) → placesV qs (.tuple ds) = some .non := fun h => if_neg h
      refine ⟨_, rfl, .ref p, ys.length, rfl, .inr ⟨ys, h0, rfl⟩, 1, (ys.length : Int), rfl, rfl, _, rfl, ite_b (fun e1 => ⟨(ys.length : Int), 16, rfl, rfl, _, rfl, ite_b (fun e8 => mk_one (qe _ (none0 ?_))) (fun e8 => ?_)⟩) (fun e1 => ⟨_, rfl, ifT rfl (mk_one (qe _ (none0 ?_)))⟩)⟩
      · have : ¬ ((ys.length : Int) ≤ 16) := by simpa using e8
        omega
      · have l3 : (ys.length : Int) ≤ 16 := by simpa using e8
        have l1 : (1 : Int) ≤ (ys.length : Int) := of_decide_eq_true e1
        have ed : placesV qs (.tuple ds) = (firstBad (placeD qs ds.length) 0 ds).map fun p => V.int (p : Nat) := if_pos ⟨by omega, by omega⟩
        rw [ed] at q qe
        refine ⟨_, rfl, p, ys, rfl, h0, ?_⟩
        refine for_it walk_et (fun i σ H1 => ∃ (v2 v3 : Option V), σ = [some (.ref a), some (.ref p), v2, v3] ∧ Same H H1 ∧ firstBad (placeD qs ds.length) 0 ds = firstBad (placeD qs ds.length) i (ds.drop i))
          ⟨none, none, rfl, Same.refl H, rfl⟩ (fun i σ H1 _ ⟨v2, v3, _, s1, _⟩ => Same.seqT s1 h0) ?_ ?_
        · rintro i x σ H1 H2 hi ⟨v2, v3, rfl, s1, dg⟩ ⟨TT, x1, x2, rfl, hT, rfl, e1', e2'⟩
          have ex1 : x1 = .int (i : Nat) := (Option.some.inj e1').symm
          subst ex1
          obtain ⟨e, he, dqe⟩ := hx.get e2'
          have sA : Same H (upd H1 TT (.tup [.int (i : Nat), x2])) := s1.trans (Same.upd hT)
          have hid : i < ds.length := by omega
          have edr : ds.drop i = e :: ds.drop (i + 1) := by rw [List.drop_eq_getElem_cons hid]; rw [(List.getElem?_eq_some_iff.mp he).2]
          obtain ⟨cc, eb, g⟩ := Gd.untup gd
          have ge := g.at he
          have we : e.weight ≤ 100000 := by
            have := wA_at he
            have := g.wt
            omega
          refine ⟨TT, _, rfl, .inl (.inl upd_same), rfl, _, _, rfl, _, _, rfl, rfl, ?_⟩
          refine ⟨_, rfl, _, rfl, .ref p, ys.length, rfl, .inr ⟨ys, Same.seqT sA h0, rfl⟩, _, rfl, m, l, a, xs, qs, (ys.length : Int), x2, e, _, _, rfl, Same.seqT sA hs, hp.same sA, Dq.same sA e x2 dqe, ge.mono (Nat.le_refl _) we (Nat.le_refl _), fun H3 s3 => ⟨_, rfl, ?_⟩⟩
          rw [ly]
          rw [edr] at dg
          simp only [firstBad] at dg
          cases hb : placeD qs ds.length e with
          | true =>
            rw [if_pos hb] at dg
            exact ifF rfl ⟨_, _, rfl, sA.trans s3, dg⟩
          | false =>
            rw [if_neg (by rw [hb]; exact Bool.false_ne_true)] at dg
            refine ifT rfl ⟨_, rfl, mk_one fun d H' h1 h2 h3 => qe (.int (i : Nat)) ?_ d H' (Same.free (sA.trans s3) h1) ((sA.trans s3).trans h2) h3⟩
            rw [dg]; rfl
        · rintro σ H1 ⟨v2, v3, rfl, s1, dg⟩
          rw [List.drop_of_length_le (by omega)] at dg
          exact ⟨_, rfl, q (by rw [dg]; rfl) _ s1⟩
      · have : ¬ ((1 : Int) ≤ (ys.length : Int)) := of_decide_eq_false e1
        omega
  | _ => exact ifT rfl (ifT rfl (mk_one (qe _ rfl)))
/-! need_modes -/
def spNMo (K : PySem.W.Frag) (C : Addr) : Sp := fun vs H Q E => ∃ (m l a : Addr) (xs : List V) (v : V) (d : PyData), vs = [.ref a, v] ∧ SqT K H a xs ∧ Dq K H m l v d ∧
  (modesV xs.length d = none → ∀ H', Same H H' → Q v H') ∧ ∀ u, modesV xs.length d = some u → ∀ dx H', H dx = none → Same H H' → H' dx = some (.xd [("place", u)]) → E (.ref C) (some dx) H'
abbrev NNm : List Str := ["settings", "modes", "at", "mode"]
theorem scNmo : FnScope NNm ["settings", "modes"] (defScope sNModes) := ⟨rfl, rfl, rfl, by decide +kernel, rfl, by decide +kernel, by decide +kernel⟩
theorem ok_nmodes {f : Addr} {fd fdMo fdE : FuncData} {qual : Str} (F : Fun K "need_modes" "need_modes" sNModes f fd) (T : TxtR mg fI fN fS fA fG fNu fAs fPl fMo fNP fNM fNd aE aM) (W : WrT K aE aM) (gC : mg "BadModes" = some (.ref C)) (TE : ErrC K C fE)
    (FMo : Fun K "is_mode" "is_mode" sPMode fMo fdMo) (bMo : Binds K fdMo ["thing"] []) (FE : Fun K "__init__" qual sIniM fE fdE) (bE : Binds K fdE ["self", "place"] []) : FnOk P w K mg base (L2.CX P w) 3 f fd ["settings", "modes"] (spNMo K C) := by
  have GMo : FnOk P w K mg base CX0 1 fMo fdMo ["thing"] (spMode K) := ok_mode FMo T W
  have GE : FnOk P w K mg base CX0 1 fE fdE ["self", "place"] (spIni C) := ok_iniM FE TE
  refine F.okX scNmo (fun vs H Q E h => ?_) (fun cdv A outer s H vs Q E hr h => ?_)
  · obtain ⟨m, l, a, xs, v, d, rfl, _⟩ := h
    rfl
  obtain ⟨m, l, a, xs, v, d, rfl, hs, hd, q, qe⟩ := h
  have hr1 : Room 1 _ := hr.mono (by decide)
  refine ⟨_, pss_cons (ps_if (PW.pt (pw_or (pt_not (pt_val (pe_callB call_isi (by rfl) T.isi PyProof.Rows.boot_isinstance (pa_cons (pv 1) (pa_cons (pe_bltn (v := .ty "tuple") (u := .type "tuple") (by rfl) T.tuple (by decide +kernel) rfl) pa_nil)))))
      (pw_or1 (pt_cmpR op_ne (pe_callB call_len (by rfl) T.len PySem.boot_len (pa_cons (pv 1) pa_nil)) (pe_callB call_len (by rfl) T.len PySem.boot_len (pa_cons (pv 0) pa_nil)) (nomark _))))) (pss_one (ps_raise rfl (takes_of rfl rfl rfl rfl) (pmk_oex TE.ox TE.ini TE.ty GE hr bE .nil pass0 (by rfl) gC (pa_cons pe_non pa_nil)))) pss_nil)
    (pss_cons (ps_for (passes_of rfl) rfl (pi_et (by rfl) T.enumerate (pa_cons (pv 1) pa_nil)) (pg_tup rfl (pgs_cons (pg_name (i := 2) scNmo.nd rfl (by first | exact Or.inl rfl | exact Or.inr rfl)) (pgs_cons (pg_name (i := 3) scNmo.nd rfl (by first | exact Or.inl rfl | exact Or.inr rfl)) pgs_nil)))
      (pss_one (ps_if (pt_not (pt_val (pe_call GMo hr1 rfl T.gMo FMo.kp bMo .nil pass0 (pa_cons (pv 3) pa_nil))))
        (pss_one (ps_raise rfl (takes_of rfl rfl rfl rfl) (pmk_oex TE.ox TE.ini TE.ty GE hr bE .nil pass0 (by rfl) gC (pa_cons (pv 2) pa_nil)))) pss_nil)))
    (pss_one (ps_ret (pv 1)))), ?_⟩
  refine ⟨_, rfl, v, .ty "tuple", _, _, _, rfl, .ty _, hd.ty, isi_tup K d, _, rfl, ?_⟩
  cases d with
  | tuple ds =>
    cases hd with
    | tup h0 hx =>
      rename_i p ys
      refine ifF rfl ?_
      have ly := hx.len
      refine ⟨_, rfl, .ref p, ys.length, rfl, .inr ⟨ys, h0, rfl⟩, _, rfl, .ref a, xs.length, rfl, .inr ⟨xs, hs, rfl⟩, rfl, _, rfl, ?_⟩
      have ee : decide (V.int ((ys.length : Nat) : Int) = V.int ((xs.length : Nat) : Int)) = decide (ys.length = xs.length) := by
        rw [Bool.eq_iff_iff, decide_eq_true_eq, decide_eq_true_eq, V.int.injEq]; omega
      rw [ee]
      by_cases hl : ys.length = xs.length
      · have ed : modesV xs.length (.tuple ds) = (firstBad isMode 0 ds).map fun p => V.int (p : Nat) := if_pos (by omega)
        rw [ed] at q qe
        refine ifF (by rw [decide_eq_true hl]; rfl) ?_
        refine ⟨_, rfl, p, ys, rfl, h0, ?_⟩
        refine for_it walk_et (fun i σ H1 => ∃ (v2 v3 : Option V), σ = [some (.ref a), some (.ref p), v2, v3] ∧ Same H H1 ∧ firstBad isMode 0 ds = firstBad isMode i (ds.drop i))
          ⟨none, none, rfl, Same.refl H, rfl⟩ (fun i σ H1 _ ⟨v2, v3, _, s1, _⟩ => Same.seqT s1 h0) ?_ ?_
        · rintro i x σ H1 H2 hi ⟨v2, v3, rfl, s1, dg⟩ ⟨TT, x1, x2, rfl, hT, rfl, e1', e2'⟩
          have ex1 : x1 = .int (i : Nat) := (Option.some.inj e1').symm
          subst ex1
          obtain ⟨e, he, dqe⟩ := hx.get e2'
          have sA : Same H (upd H1 TT (.tup [.int (i : Nat), x2])) := s1.trans (Same.upd hT)
          have hid : i < ds.length := by omega
          have edr : ds.drop i = e :: ds.drop (i + 1) := by rw [List.drop_eq_getElem_cons hid]; rw [(List.getElem?_eq_some_iff.mp he).2]
          refine ⟨TT, _, rfl, .inl (.inl upd_same), rfl, _, _, rfl, _, _, rfl, rfl, ?_⟩
          refine ⟨_, rfl, m, l, x2, e, rfl, Dq.same sA e x2 dqe, _, rfl, ?_⟩
          rw [edr] at dg
          simp only [firstBad] at dg
          cases hb : isMode e with
          | true =>
            rw [if_pos hb] at dg
            exact ifF rfl ⟨_, _, rfl, sA, dg⟩
          | false =>
            rw [if_neg (by rw [hb]; exact Bool.false_ne_true)] at dg
            refine ifT rfl ⟨_, rfl, mk_one fun d H' h1 h2 h3 => qe (.int (i : Nat)) ?_ d H' (Same.free sA h1) (sA.trans h2) h3⟩
            rw [dg]; rfl
        · rintro σ H1 ⟨v2, v3, rfl, s1, dg⟩
          rw [List.drop_of_length_le (by omega)] at dg
          exact ⟨_, rfl, q (by rw [dg]; rfl) _ s1⟩
      · have ed : modesV xs.length (.tuple ds) = some .non := if_neg (by omega)
        exact ifT (by rw [decide_eq_false hl]; rfl) (mk_one (qe _ ed))
  | _ => exact ifT rfl (ifT rfl (mk_one (qe _ rfl)))
end
end Ms
namespace Ms
open PySem PySem.Spec PyProof.Rows L2 LamX
/-! ### data, where the heap is changed elsewhere -/
mutual
theorem Dq.gen {K : PySem.W.Frag} {m l m' l' : Addr} {H H' : Hp} (k1 : ∀ a xs, H a = some (.lst xs) → a ≠ m → a ≠ l → H' a = some (.lst xs) ∧ a ≠ m' ∧ a ≠ l') (k2 : ∀ a xs, SqT K H a xs → SqT K H' a xs)
    (k3 : ∀ a, H a = some (.dK []) → a ≠ m → a ≠ l → H' a = some (.dK []) ∧ a ≠ m' ∧ a ≠ l') : ∀ (d : PyData) (v : V), Dq K H m l v d → Dq K H' m' l' v d
  | .none, _, h => by cases h; exact .non
  | .bool b, _, h => by cases h; exact .bl b
  | .int i, _, h => by cases h; exact .int i
  | .str x, _, h => by cases h; exact .str x
  | .list ds, _, h => by
    cases h with
    | lst e n1 n2 t =>
      obtain ⟨e', n1', n2'⟩ := k1 _ _ e n1 n2
      exact .lst e' n1' n2' (DqAll.gen k1 k2 k3 ds _ t)
  | .tuple ds, _, h => by
    cases h with
    | tup e t => exact .tup (k2 _ _ e) (DqAll.gen k1 k2 k3 ds _ t)
  | .dict _, _, h => by
    cases h with
    | dct e n1 n2 =>
      obtain ⟨e', n1', n2'⟩ := k3 _ e n1 n2
      exact .dct e' n1' n2'
theorem DqAll.gen {K : PySem.W.Frag} {m l m' l' : Addr} {H H' : Hp} (k1 : ∀ a xs, H a = some (.lst xs) → a ≠ m → a ≠ l → H' a = some (.lst xs) ∧ a ≠ m' ∧ a ≠ l') (k2 : ∀ a xs, SqT K H a xs → SqT K H' a xs)
    (k3 : ∀ a, H a = some (.dK []) → a ≠ m → a ≠ l → H' a = some (.dK []) ∧ a ≠ m' ∧ a ≠ l') : ∀ (ds : List PyData) (vs : List V), DqAll K H m l vs ds → DqAll K H' m' l' vs ds
  | [], _, h => by cases h; exact .nil
  | d :: ds, _, h => by
    cases h with
    | cons h1 h2 => exact .cons (Dq.gen k1 k2 k3 d _ h1) (DqAll.gen k1 k2 k3 ds _ h2)
end
section
variable {K : PySem.W.Frag} {H H' : Hp} {m l : Addr}
theorem ExtN.seqT (e : ExtN H H') {a : Addr} {xs : List V} (h : SqT K H a xs) : SqT K H' a xs := by
  rcases h with (h | ⟨o, h⟩) | h
  · exact .inl (.inl (e _ _ h fun _ z => nomatch z))
  · exact .inl (.inr ⟨o, e _ _ h fun _ z => nomatch z⟩)
  · exact .inr h
theorem Dq.ext (e : ExtN H H') {v : V} {d : PyData} (h : Dq K H m l v d) : Dq K H' m l v d :=
  Dq.gen (fun a xs q n1 n2 => ⟨e _ _ q (fun _ z => nomatch z), n1, n2⟩) (fun a xs q => ExtN.seqT e q) (fun a q n1 n2 => ⟨e _ _ q (fun _ z => nomatch z), n1, n2⟩) d v h
theorem Mch.ext {n : Nat} (s : ExtN H H') (M : Mch H m l n) : Mch H' m l n := by
  obtain ⟨c, cs, ls, z, h1, h2, h3, h⟩ := M.ex
  exact ⟨c, cs, ls, z, s _ _ h1 (fun _ z => nomatch z), s _ _ h2 (fun _ z => nomatch z), s _ _ h3 (fun _ z => nomatch z), h⟩
theorem Same.toN (s : Same H H') : ExtN H H' := ExtN.of s
theorem Tabs.same {T : List (Addr × Str)} (t : Tabs T H) (s : Same H H') : Tabs T H' := t.ext s
end
/-! ### a list that is locked while its next item is made -/
section
variable {K : PySem.W.Frag} {H H' : Hp} {m l L : Addr} {n : Nat} {od : Obj} {u o : HO}
theorem upd_frz (h : H L = some (.frz od u)) {b : Addr} {w : HO} (k : ∀ od u, w ≠ .frz od u) (e : H b = some w) : upd H L o b = some w := by
  have nb : b ≠ L := fun z => by
    rw [z, h] at e
    exact k _ _ (Option.some.inj e).symm
  rw [upd_ne nb]; exact e
theorem Mch.unlock (h : H L = some (.frz od u)) (M : Mch H m l n) : Mch (upd H L o) m l n := by
  obtain ⟨c, cs, ls, z, h1, h2, h3, r⟩ := M.ex
  exact ⟨c, cs, ls, z, upd_frz h (fun _ _ z => nomatch z) h1, upd_frz h (fun _ _ z => nomatch z) h2, upd_frz h (fun _ _ z => nomatch z) h3, r⟩
theorem Tabs.unlock {T : List (Addr × Str)} (h : H L = some (.frz od u)) (t : Tabs T H) : Tabs T (upd H L o) := fun p hp => by
  obtain ⟨ps, h1, h2, h3⟩ := t p hp
  refine ⟨ps, upd_frz h (fun _ _ z => nomatch z) h1, h2, fun pos cv hc => ?_⟩
  obtain ⟨c, e1, e2⟩ := h3 pos cv hc
  refine ⟨c, e1, upd_frz h (fun _ _ z => ?_) e2⟩
  unfold CodeO at z
  cases z
theorem Dq.unlock (h : H L = some (.frz od (.lst u'))) {v : V} {d : PyData} (hd : Dq K H m l v d) : Dq K (upd H L o) m l v d := by
  refine Dq.gen (fun a xs q n1 n2 => ⟨upd_frz h (fun _ _ z => nomatch z) q, n1, n2⟩) (fun a xs q => ?_) (fun a q n1 n2 => ⟨upd_frz h (fun _ _ z => nomatch z) q, n1, n2⟩) d v hd
  rcases q with (q | ⟨o', q⟩) | q
  · exact .inl (.inl (upd_frz h (fun _ _ z => nomatch z) q))
  · have q' : H a = some (.frz o' (.tup xs)) := q
    have nb : a ≠ L := fun z => by
      rw [z, h] at q'
      cases q'
    have q2 : upd H L o a = some (.frz o' (.tup xs)) := by rw [upd_ne nb]; exact q'
    exact .inl (.inr ⟨o', q2⟩)
  · exact .inr q
theorem Tabs.fr {T : List (Addr × Str)} {l' : Addr} (M : Mch H m l n) (f : Fr m l l' H H') (t : Tabs T H) : Tabs T H' := fun p hp => by
  obtain ⟨ps, h1, h2, h3⟩ := t p hp
  obtain ⟨c0, cs, ls, z, e1, e2, e3, _⟩ := M.ex
  refine ⟨ps, f.keep _ _ h1 (ne_of h1 e1 (by intro z; cases z)) (ne_of h1 e3 (by intro z; cases z)), h2, fun pos cv hc => ?_⟩
  obtain ⟨c, q1, q2⟩ := h3 pos cv hc
  exact ⟨c, q1, f.keep _ _ q2 (ne_of q2 e1 (by intro z; unfold CodeO at z; cases z)) (ne_of q2 e3 (by intro z; unfold CodeO at z; cases z))⟩
end
end Ms
namespace Ms
open PySem PySem.Spec PyProof.Rows L2
/-! ### what an __init__ leaves as it was; settings that are let by -/
/-- all that was there stays, but at one place -/
def SameX (x : Addr) (H H' : Hp) : Prop := ∀ b o, b ≠ x → H b = some o → H' b = some o
theorem SameX.refl (x : Addr) (H : Hp) : SameX x H H := fun _ _ _ e => e
theorem SameX.thenS {x : Addr} {H H' H'' : Hp} (k : SameX x H H') (s : Same H' H'') : SameX x H H'' := fun b o n e => s b o (k b o n e)
theorem SameX.thenU {x : Addr} {H H' : Hp} {o : HO} (k : SameX x H H') : SameX x H (upd H' x o) := fun b o n e => by rw [upd_ne n]; exact k b o n e
theorem SameX.seqT {K : PySem.W.Frag} {x C dx : Addr} {fs : List (Str × V)} {H H' : Hp} (k : SameX x H H') (hx : H x = some (.ins C dx fs)) {a : Addr} {xs : List V} (h : SqT K H a xs) : SqT K H' a xs := by
  rcases h with (h | ⟨o, h⟩) | h
  · exact .inl (.inl (k _ _ (fun e => by subst e; rw [hx] at h; cases h) h))
  · exact .inl (.inr ⟨o, k _ _ (fun e => by subst e; rw [hx] at h; cases h) h⟩)
  · exact .inr h
theorem SameX.dq {K : PySem.W.Frag} {x C dx m l : Addr} {fs : List (Str × V)} {H H' : Hp} (k : SameX x H H') (hx : H x = some (.ins C dx fs)) (d : PyData) (v : V) (h : Dq K H m l v d) : Dq K H' m l v d :=
  Dq.gen (fun a xs e n1 n2 => ⟨k _ _ (fun z => by subst z; rw [hx] at e; cases e) e, n1, n2⟩) (fun a xs e => k.seqT hx e) (fun a e n1 n2 => ⟨k _ _ (fun z => by subst z; rw [hx] at e; cases e) e, n1, n2⟩) d v h
theorem SameX.free {x : Addr} {H H' : Hp} (k : SameX x H H') {e : Addr} (hx : H' x ≠ none) (h : H' e = none) : H e = none := by
  cases hh : H e with
  | none => rfl
  | some o =>
    by_cases z : e = x
    · subst z; exact absurd h hx
    · rw [k e o z hh] at h; cases h
theorem SameX.same {x : Addr} {H H' : Hp} (k : SameX x H H') (h : H x = none) : Same H H' := fun b o e => k b o (ne_of_none e h) e
/-- settings that are let by are pairs -/
theorem dueGo_pr : ∀ (ds : List PyData) (p : Nat) (seen : List Str) (many r : Int), dueGo p seen many ds = .inr r → ∃ qs, ds = prD qs ∧ ∀ q ∈ qs, 1 ≤ q.2 ∧ q.2 ≤ 3
  | [], _, _, _, _, _ => ⟨[], rfl, fun q h => nomatch h⟩
  | d :: ds, p, seen, many, r, h => by
    simp only [dueGo] at h
    cases eo : oneD d with
    | none => rw [eo] at h; cases h
    | some zc =>
      obtain ⟨z, c⟩ := zc
      rw [eo] at h
      simp only at h
      by_cases hz : z ∈ seen
      · rw [if_pos hz] at h; cases h
      · rw [if_neg hz] at h
        obtain ⟨qs, e, bq⟩ := dueGo_pr ds _ _ _ _ h
        have key : d = .tuple [.str z, .int c] ∧ 1 ≤ c ∧ c ≤ 3 := by
          unfold oneD at eo
          split at eo
          · rename_i z' c'
            by_cases hh : (isName (.str z') && isWhole (.int c') 1 3) = true
            · rw [if_pos hh] at eo
              cases eo
              refine ⟨rfl, ?_⟩
              have h2 := (Bool.and_eq_true _ _ ▸ hh : _ ∧ _).2
              have h3 := (Bool.and_eq_true _ _ ▸ h2 : _ ∧ _)
              exact ⟨of_decide_eq_true h3.1, of_decide_eq_true h3.2⟩
            · rw [if_neg hh] at eo; cases eo
          · cases eo
        refine ⟨(z, c) :: qs, by rw [key.1, e]; rfl, fun q hq => ?_⟩
        rcases List.mem_cons.mp hq with rfl | hq
        · exact key.2
        · exact bq q hq
theorem needV_pr {d : PyData} (h : needV d = none) : ∃ qs, d = .tuple (prD qs) ∧ 1 ≤ qs.length ∧ qs.length ≤ 3 := by
  cases d with
  | tuple ds =>
    have h' : (if 1 ≤ ds.length ∧ ds.length ≤ 3 then (match dueGo 0 [] 1 ds with | .inl p => some (V.int (p : Nat)) | .inr many => if many ≤ 12 then none else some (.str "many")) else some V.non) = none := h
    by_cases hl : 1 ≤ ds.length ∧ ds.length ≤ 3
    · rw [if_pos hl] at h'
      cases eg : dueGo 0 [] 1 ds with
      | inl p => rw [eg] at h'; cases h'
      | inr many =>
        obtain ⟨qs, e, _⟩ := dueGo_pr ds _ _ _ _ eg
        have : ds.length = qs.length := by rw [e]; exact List.length_map ..
        exact ⟨qs, by rw [e], by omega, by omega⟩
    · rw [if_neg hl] at h'; cases h'
  | _ => cases h
theorem prD_trs {K : PySem.W.Frag} {H : Hp} {m l : Addr} : ∀ (qs : List (Str × Int)) (vs : List V), DqAll K H m l vs (prD qs) → PrTs K H vs qs
  | [], _, h => by cases h; exact .nil
  | q :: qs, _, h => by
    cases h with
    | cons h1 h2 =>
      refine .cons ?_ (prD_trs qs _ h2)
      cases h1 with
      | tup e t =>
        cases t with
        | cons t1 t2 =>
          cases t1
          cases t2 with
          | cons t3 t4 =>
            cases t3
            cases t4
            exact ⟨_, rfl, e⟩
end Ms
namespace Ms
open PySem PySem.Spec PyProof.Rows L2
/-! ### Request.__init__ -/
/-- the words, "live" of all where none are given -/
def wordsD (k : Nat) (d : PyData) : PyData := match d with | .none => .tuple (List.replicate k (.str "live")) | d => d
theorem live_dq {K : PySem.W.Frag} {H : Hp} {m l : Addr} : ∀ (k : Nat), DqAll K H m l (List.replicate k (V.str "live")) (List.replicate k (.str "live"))
  | 0 => .nil
  | k + 1 => .cons (.str _) (live_dq k)
theorem live_flat (k : Nat) : (List.replicate k [V.str "live"]).flatten = List.replicate k (V.str "live") := by
  induction k with
  | zero => rfl
  | succ k ih => rw [List.replicate_succ, List.flatten_cons, ih]; rfl
section
variable {P : Program} {w : World} {K : PySem.W.Frag} {mg : Str → Option Value} {base : Heap} {fI fN fS fA fG fNu fAs fPl fMo fNP fNM fNd aE aM C CS CP CM fES fEP fEM : Addr}
structure ReqC (K : PySem.W.Frag) (C : Addr) : Prop where
  cl : Cls K C
  nS : NoAttr K C "settings"
  nP : NoAttr K C "places"
  nM : NoAttr K C "modes"
def reqF (v1 v2 v3 : V) : List (Str × V) := [("settings", v1), ("places", v2), ("modes", v3)]
def spReq (K : PySem.W.Frag) (C CS CP CM : Addr) : Sp := fun vs H Q E => ∃ (m l x dx : Addr) (v1 v2 v3 : V) (d1 d2 d3 : PyData) (B1 b1 B2 b2 : Nat), vs = [.ref x, v1, v2, v3] ∧ H x = some (.ins C dx []) ∧ Dq K H m l v1 d1 ∧ Gd B1 100000 b1 d1 ∧ Dq K H m l v2 d2 ∧ Gd B2 100000 b2 d2 ∧ Dq K H m l v3 d3 ∧
  (∀ u, needV d1 = some u → ∀ e H', H e = none → SameX x H H' → H' e = some (.xd [("place", u)]) → E (.ref CS) (some e) H') ∧
  (needV d1 = none → ∀ qs, d1 = .tuple (prD qs) → (∀ u, placesV qs d2 = some u → ∀ e H', H e = none → SameX x H H' → H' e = some (.xd [("place", u)]) → E (.ref CP) (some e) H') ∧
    (placesV qs d2 = none → (∀ u, modesV qs.length (wordsD qs.length d3) = some u → ∀ e H', H e = none → SameX x H H' → H' e = some (.xd [("place", u)]) → E (.ref CM) (some e) H') ∧
      (modesV qs.length (wordsD qs.length d3) = none → ∀ H' v3', SameX x H H' → H' x = some (.ins C dx (reqF v1 v2 v3')) → Dq K H' m l v3' (wordsD qs.length d3) → Q .non H')))
abbrev NNr : List Str := ["self", "settings", "places", "modes"]
theorem scRi : FnScope NNr ["self", "settings", "places", "modes"] (defScope sReqIni) := ⟨rfl, rfl, rfl, by decide +kernel, rfl, by decide +kernel, by decide +kernel⟩
theorem ok_reqini {f : Addr} {fd fdI fdN fdS fdA fdG fdNu fdAs fdPl fdMo fdNP fdNM fdNd fdES fdEP fdEM : FuncData} {q1 q2 q3 qual : Str} (F : FunD K "__init__" qual (defArgs sReqIni) (defBody sReqIni) (defScope sReqIni) [.non] [] f fd) (T : TxtR mg fI fN fS fA fG fNu fAs fPl fMo fNP fNM fNd aE aM) (W : WrT K aE aM) (RC : ReqC K C)
    (gS : mg "BadSettings" = some (.ref CS)) (TS : ErrC K CS fES) (gP : mg "BadPlaces" = some (.ref CP)) (TP : ErrC K CP fEP) (gM : mg "BadModes" = some (.ref CM)) (TM : ErrC K CM fEM)
    (FES : Fun K "__init__" q1 sIni fES fdES) (bES : Binds K fdES ["self", "place"] []) (FEP : Fun K "__init__" q2 sIniP fEP fdEP) (bEP : Binds K fdEP ["self", "place"] []) (FEM : Fun K "__init__" q3 sIniM fEM fdEM) (bEM : Binds K fdEM ["self", "place"] [])
    (FI : Fun K "is_int" "is_int" sPInt fI fdI) (bI : Binds K fdI ["thing"] []) (FN : Fun K "is_name" "is_name" sPName fN fdN) (bN : Binds K fdN ["thing"] []) (FS : Fun K "is_setting" "is_setting" sPSet fS fdS) (bS : Binds K fdS ["thing"] [])
    (FA : Fun K "names_of" "names_of" sPNames fA fdA) (bA : Binds K fdA ["settings"] []) (FG : Fun K "grid_of" "grid_of" sPGrid fG fdG) (bG : Binds K fdG ["settings"] [])
    (FNd : Fun K "need_settings" "need_settings" sNeed fNd fdNd) (bNd : Binds K fdNd ["thing"] [])
    (FNu : Fun K "is_number" "is_number" sPNum fNu fdNu) (bNu : Binds K fdNu ["many", "thing"] []) (FAs : Fun K "is_ask" "is_ask" sPAsk fAs fdAs) (bAs : Binds K fdAs ["settings", "many", "setting", "nexts"] [])
    (FPl : Fun K "is_place" "is_place" sPPlace fPl fdPl) (bPl : Binds K fdPl ["settings", "many", "thing"] []) (FMo : Fun K "is_mode" "is_mode" sPMode fMo fdMo) (bMo : Binds K fdMo ["thing"] [])
    (FNP : Fun K "need_places" "need_places" sNPlaces fNP fdNP) (bNP : Binds K fdNP ["settings", "places"] []) (FNM : Fun K "need_modes" "need_modes" sNModes fNM fdNM) (bNM : Binds K fdNM ["settings", "modes"] []) :
    FnOk P w K mg base (L2.CX P w) 6 f fd ["self", "settings", "places", "modes"] (spReq K C CS CP CM) := by
  have GNd : FnOk P w K mg base (L2.CX P w) 3 fNd fdNd ["thing"] (spNeed K CS) := ok_need FNd T.toTxtP gS TS FI bI FN bN FS bS FA bA FG bG FES bES
  have GNP : FnOk P w K mg base (L2.CX P w) 5 fNP fdNP ["settings", "places"] (spNPl K CP) := ok_nplaces FNP T W gP TP FI bI FN bN FNu bNu FAs bAs FPl bPl FEP bEP
  have GNM : FnOk P w K mg base (L2.CX P w) 3 fNM fdNM ["settings", "modes"] (spNMo K CM) := ok_nmodes FNM T W gM TM FMo bMo FEM bEM
  refine FunD.ok F scRi (fun vs H Q E h => ?_) (fun cdv A outer s H vs Q E hr h => ?_)
  · obtain ⟨m, l, x, dx, v1, v2, v3, d1, d2, d3, B1, b1, B2, b2, rfl, _⟩ := h
    rfl
  obtain ⟨m, l, x, dx, v1, v2, v3, d1, d2, d3, B1, b1, B2, b2, rfl, hx, hd1, gd1, hd2, gd2, hd3, qe, qr⟩ := h
  have hr3 : Room 3 _ := hr.mono (by decide)
  refine ⟨_, pss_cons (ps_fld (pv 0) (pe_call GNd hr3 rfl T.gNd FNd.kp bNd .nil (passes_call (takes_of rfl rfl rfl rfl) fun _ _ _ _ h => h) (pa_cons (pv 1) pa_nil)) rfl)
    (pss_cons (ps_fld (pv 0) (pe_call GNP hr rfl T.gNP FNP.kp bNP .nil (passes_call (takes_of rfl rfl rfl rfl) fun _ _ _ _ h => h) (pa_cons (pv 1) (pa_cons (pv 2) pa_nil))) rfl)
    (pss_cons (ps_if (pt_cmpR op_isN (pv 3) pe_non (nomark _)) (pss_one (ps_set (i := 3) scRi.nd rfl (by first | exact Or.inl rfl | exact Or.inr rfl) (pe_op op_rep1 (pe_tup (pa_cons pe_str pa_nil)) (pe_callB call_len (by rfl) T.len PySem.boot_len (pa_cons (pv 1) pa_nil))))) pss_nil)
    (pss_one (ps_fld (pv 0) (pe_call GNM hr3 rfl T.gNM FNM.kp bNM .nil (passes_call (takes_of rfl rfl rfl rfl) fun _ _ _ _ h => h) (pa_cons (pv 1) (pa_cons (pv 3) pa_nil))) rfl)))), ?_⟩
  refine ⟨_, rfl, m, l, v1, d1, B1, b1, rfl, hd1, gd1, fun hn H1 s1 => ?_, fun u hu e H' h1 h2 h3 => qe u hu e H' h1 (fun b o _ e => h2 b o e) h3⟩
  obtain ⟨qs, rfl, l1, l3⟩ := needV_pr hn
  obtain ⟨qp, q⟩ := qr hn qs rfl
  have x1 : H1 x = some (.ins C dx []) := s1 _ _ hx
  refine ⟨_, rfl, x, C, dx, [], rfl, x1, RC.cl, RC.nS, (by show 0 < 1000; decide), ?_⟩
  have k1 : SameX x H (upd H1 x (.ins C dx (putF "settings" v1 []))) := SameX.thenU (fun b o _ e => s1 b o e)
  obtain ⟨a, xs, rfl, hs, hxs⟩ : ∃ a xs, v1 = .ref a ∧ SqT K H a xs ∧ DqAll K H m l xs (prD qs) := by
    cases hd1 with
    | tup e t => exact ⟨_, _, rfl, e, t⟩
  have lx : xs.length = qs.length := by have := hxs.len; rw [this]; exact List.length_map ..
  generalize eH1 : upd H1 x (.ins C dx (putF "settings" (V.ref a) [])) = G1 at k1 ⊢
  have xg : G1 x = some (.ins C dx (putF "settings" (V.ref a) [])) := by rw [← eH1]; exact upd_same
  have hxs1 : DqAll K G1 m l xs (prD qs) := by
    have := k1.dq hx (.tuple (prD qs)) (.ref a) (.tup hs hxs)
    exact DqAll.gen (fun a xs e n1 n2 => ⟨k1 _ _ (fun z => by subst z; rw [hx] at e; cases e) e, n1, n2⟩) (fun a xs e => k1.seqT hx e) (fun a e n1 n2 => ⟨k1 _ _ (fun z => by subst z; rw [hx] at e; cases e) e, n1, n2⟩) _ _ hxs
  have free1 : ∀ {G : Hp}, SameX x H G → G x ≠ none → ∀ {e}, G e = none → H e = none := fun k n _ h => k.free n h
  refine ⟨_, rfl, _, rfl, m, l, a, xs, qs, v2, d2, B2, b2, rfl, k1.seqT hx hs, prD_trs qs xs hxs1, k1.dq hx d2 v2 hd2, gd2, fun hp H2 s2 => ?_, fun u hu e H' h1 h2 h3 => qp u hu e H' (free1 k1 (by rw [xg]; exact fun z => nomatch z) h1) (k1.thenS h2) h3⟩
  obtain ⟨qm, q⟩ := q hp
  have x2 : H2 x = _ := s2 _ _ xg
  refine ⟨_, rfl, x, C, dx, _, rfl, x2, RC.cl, RC.nP, (by show 1 < 1000; decide), ?_⟩
  have k2 : SameX x H (upd H2 x (.ins C dx (putF "places" v2 (putF "settings" (V.ref a) [])))) := SameX.thenU (k1.thenS s2)
  generalize eH2 : upd H2 x (.ins C dx (putF "places" v2 (putF "settings" (V.ref a) []))) = G2 at k2 ⊢
  have xg2 : G2 x = some (.ins C dx (putF "places" v2 (putF "settings" (V.ref a) []))) := by rw [← eH2]; exact upd_same
  have fin : ∀ (v3' : V) (G3 : Hp), Same G2 G3 → Dq K G3 m l v3' (wordsD qs.length d3) → ∃ (m l a' : Addr) (xs : List V) (v : V) (d : PyData), [V.ref a, v3'] = [.ref a', v] ∧ SqT K G3 a' xs ∧ Dq K G3 m l v d ∧
      (modesV xs.length d = none → ∀ H', Same G3 H' → ∃ z, [some (V.ref x), some (V.ref a), some v2, some v3'][0]? = some (some z) ∧ ∃ p C dx fs, z = V.ref p ∧ H' p = some (.ins C dx fs) ∧ Cls K C ∧ NoAttr K C "modes" ∧ fs.length < 1000 ∧ Q .non (upd H' p (.ins C dx (putF "modes" v fs)))) ∧ ∀ u, modesV xs.length d = some u → ∀ dx H', G3 dx = none → Same G3 H' → H' dx = some (.xd [("place", u)]) → E (.ref CM) (some dx) H' := by
    intro v3' G3 s3 h3
    have k3 := k2.thenS s3
    have x3 : G3 x = _ := s3 _ _ xg2
    refine ⟨m, l, a, xs, v3', wordsD qs.length d3, rfl, k3.seqT hx hs, h3, fun hm H' s' => ?_, fun u hu e H' h1 h2 h3 => ?_⟩
    · rw [lx] at hm
      have x4 := s' _ _ x3
      refine ⟨_, rfl, x, C, dx, _, rfl, x4, RC.cl, RC.nM, (by show 2 < 1000; decide), q hm _ v3' ((k3.thenS s').thenU) upd_same ?_⟩
      exact Dq.gen (fun a xs e n1 n2 => ⟨by rw [upd_ne (fun z => by subst z; rw [x4] at e; cases e)]; exact e, n1, n2⟩) (fun a xs e => SameX.seqT (fun b o n e => by rw [upd_ne n]; exact e) x4 e) (fun a e n1 n2 => ⟨by rw [upd_ne (fun z => by subst z; rw [x4] at e; cases e)]; exact e, n1, n2⟩) _ _ (Dq.same s' _ _ h3)
    · rw [lx] at hu
      exact qm u hu e H' (free1 k3 (by rw [x3]; exact fun z => nomatch z) h1) (k3.thenS h2) h3
  refine ⟨_, rfl, rfl, ?_⟩
  cases d3 with
  | none =>
    cases hd3
    refine ⟨_, rfl, ifT rfl ?_⟩
    refine ⟨(by decide), fun p hp' => ?_⟩
    refine ⟨_, rfl, .ref a, xs.length, rfl, .inr ⟨xs, SameX.seqT (SameX.thenS k2 (Same.upd hp')) hx hs, rfl⟩, p, (xs.length : Int), [V.str "live"], rfl, rfl, .inl (.inl upd_same), (fun z => nomatch z), by omega, by omega, (by show 1 ≤ 1000; decide), fun e1 => ?_, fun e2 p2 hp2 => ?_⟩
    · refine ⟨_, rfl, _, rfl, fin _ _ (Same.upd hp') ?_⟩
      have : qs.length = 1 := by omega
      simp only [wordsD, this]
      exact .tup (.inl (.inl upd_same)) (.cons (.str _) .nil)
    · refine ⟨_, rfl, _, rfl, fin _ _ ((Same.upd hp').trans (Same.upd hp2)) ?_⟩
      have e3 : (xs.length : Int).toNat = qs.length := by omega
      rw [e3, live_flat]
      exact .tup (.inl (.inl upd_same)) (live_dq _)
  | _ =>
    cases hd3 <;> refine ⟨_, rfl, ifF rfl ⟨_, rfl, _, rfl, ?_⟩⟩ <;> refine fin _ _ (Same.refl _) (k2.dq hx _ _ ?_) <;> first | exact .bl _ | exact .int _ | exact .str _ | exact .lst (by assumption) (by assumption) (by assumption) (by assumption) | exact .tup (by assumption) (by assumption) | exact .dct (by assumption) (by assumption) (by assumption)
end
end Ms
namespace Ms
open PySem PySem.Spec PyProof.Rows L2
/-- what a drawn place is -/
theorem do_good {z : Str} {r : Int} (hz : sOk 16 z) (h0 : 0 ≤ r) (h1 : r < 16) : Gd big 460 2 (.tuple [.str "do", .str z, .int r]) := by
  have g1 : Gd big 16 0 (.str "do") := Gd.str ⟨by decide, by decide⟩
  have g2 : Gd big 16 0 (.str z) := Gd.str hz
  have g3 : Gd big 104 0 (.int r) := Gd.int (by show r.natAbs ≤ 10 ^ 30; omega) (by decide)
  exact (Gd.tup ((Gl'.one g1).app ((Gl'.one g2).app (Gl'.one g3)))).mono (Nat.le_refl _) (by omega) (by omega)
theorem end_good : Gd big 460 2 (.tuple [.str "end"]) := (Gd.tup (Gl'.one (Gd.str (a := 16) ⟨by decide, by decide⟩))).mono (Nat.le_refl _) (by omega) (by omega)
theorem ints_good : ∀ ns : List Int, (∀ x ∈ ns, 0 ≤ x ∧ x < 16) → Gl' big (105 * ns.length) 0 (ns.map PyData.int)
  | [], _ => ⟨(fun d h => nomatch h), Nat.le_refl _, (fun d h => nomatch h)⟩
  | x :: ns, h => by
    obtain ⟨h0, h1⟩ := h x (List.mem_cons_self ..)
    have g := (Gl'.one (Gd.int (B := big) (i := x) (by show x.natAbs ≤ 10 ^ 30; omega) (by decide))).app (ints_good ns fun y hy => h y (List.mem_cons_of_mem _ hy))
    exact g.mono (Nat.le_refl _) (by simp only [List.length_cons]; omega) (Nat.le_refl _)
theorem ask_good {z : Str} {ns : List Int} (hz : sOk 16 z) (hn : ∀ x ∈ ns, 0 ≤ x ∧ x < 16) (hl : ns.length ≤ 4) : Gd big 460 2 (.tuple [.str "ask", .str z, .tuple (ns.map .int)]) := by
  have g1 : Gd big 16 1 (.str "ask") := (Gd.str (a := 16) ⟨by decide, by decide⟩).mono (Nat.le_refl _) (Nat.le_refl _) (by omega)
  have g2 : Gd big 16 1 (.str z) := (Gd.str hz).mono (Nat.le_refl _) (Nat.le_refl _) (by omega)
  have g3 := Gd.tup (ints_good ns hn)
  exact (Gd.tup ((Gl'.one g1).app ((Gl'.one g2).app (Gl'.one g3)))).mono (Nat.le_refl _) (by omega) (by omega)
theorem ints_dq {K : PySem.W.Frag} {H : Hp} {m l : Addr} : ∀ ns : List Int, DqAll K H m l (ns.map V.int) (ns.map PyData.int)
  | [] => .nil
  | _ :: ns => .cons (.int _) (ints_dq ns)
/-- what a drawn place is: an end, a deed, an ask -/
def plD (qs : List (Str × Int)) (many : Int) (d : PyData) : Prop := d = .tuple [.str "end"] ∨ (∃ (z : Str) (r : Int), d = .tuple [.str "do", .str z, .int r] ∧ nmOk z ∧ 0 ≤ r ∧ r < many) ∨
  ∃ q ∈ qs, ∃ ns : List Int, d = .tuple [.str "ask", .str q.1, .tuple (ns.map .int)] ∧ (ns.length : Int) = q.2 + 1 ∧ ∀ x ∈ ns, 0 ≤ x ∧ x < many
def PlG (qs : List (Str × Int)) (many : Int) (d : PyData) : Prop := Gd big 460 2 d ∧ plD qs many d
end Ms
namespace Ms
open PySem PySem.Spec PyProof.Rows L2
/-! ### a request of drawn things is made -/
theorem nextsD_ok {n k : Int} {ns : List Int} (hl : (ns.length : Int) = k + 1) (hx : ∀ x ∈ ns, 0 ≤ x ∧ x < n) : nextsD n k (.tuple (ns.map .int)) = true := by
  show (decide (((ns.map PyData.int).length : Int) = k + 1) && (ns.map PyData.int).all fun e => isWhole e 0 (n - 1)) = true
  rw [List.length_map, decide_eq_true hl, Bool.true_and, List.all_eq_true]
  intro e he
  obtain ⟨x, h, rfl⟩ := List.mem_map.mp he
  have := hx x h
  show (decide (0 ≤ x) && decide (x ≤ n - 1)) = true
  rw [decide_eq_true this.1, decide_eq_true (show x ≤ n - 1 by omega)]; rfl
theorem askD_ok {n : Int} {q : Str × Int} {d2 : PyData} : ∀ {qs : List (Str × Int)}, q ∈ qs → (qs.map (·.1)).Nodup → nextsD n q.2 d2 = true → askD n (.str q.1) d2 qs = true
  | [], h, _, _ => nomatch h
  | q' :: qs, h, hn, hx => by
    unfold askD
    by_cases e : q.1 = q'.1
    · rw [if_pos (by show (q.1 == q'.1) = true; rw [e]; exact beq_self_eq_true _)]
      rcases List.mem_cons.mp h with rfl | h
      · exact hx
      · rw [List.map_cons, List.nodup_cons] at hn
        exact absurd (by rw [← e]; exact List.mem_map_of_mem h) hn.1
    · rw [if_neg (by show ¬ (q.1 == q'.1) = true; simpa using e)]
      rcases List.mem_cons.mp h with rfl | h
      · exact absurd rfl e
      · rw [List.map_cons, List.nodup_cons] at hn
        exact askD_ok h hn.2 hx
theorem placeD_ok {qs : List (Str × Int)} {many : Int} {d : PyData} (hn : (qs.map (·.1)).Nodup) (p : plD qs many d) : placeD qs many d = true := by
  rcases p with rfl | ⟨z, r, rfl, hz, h0, h1⟩ | ⟨q, hq, ns, rfl, hl, hx⟩
  · rfl
  · have e : placeD qs many (.tuple [.str "do", .str z, .int r]) = (isName (.str z) && isWhole (.int r) 0 (many - 1)) := by
      unfold placeD
      exact if_pos ⟨rfl, (by decide : isTxt (.str "do") "do" = true)⟩
    rw [e, nm_name hz]
    show (true && (decide (0 ≤ r) && decide (r ≤ many - 1))) = true
    rw [decide_eq_true h0, decide_eq_true (show r ≤ many - 1 by omega)]; rfl
  · have e : placeD qs many (.tuple [.str "ask", .str q.1, .tuple (ns.map .int)]) = askD many (.str q.1) (.tuple (ns.map .int)) qs := by
      unfold placeD
      exact (if_neg (fun h => absurd (show isTxt (.str "ask") "do" = true from h.2) (by decide))).trans (if_pos ⟨rfl, (by decide : isTxt (.str "ask") "ask" = true)⟩)
    rw [e]
    exact askD_ok hq hn (nextsD_ok hl hx)
theorem firstBad_no {f : PyData → Bool} : ∀ (ds : List PyData) (p : Nat), (∀ d ∈ ds, f d = true) → firstBad f p ds = none
  | [], _, _ => rfl
  | d :: ds, p, h => by
    unfold firstBad
    rw [if_pos (h d (List.mem_cons_self ..))]
    exact firstBad_no ds _ fun x hx => h x (List.mem_cons_of_mem _ hx)
theorem places_no {qs : List (Str × Int)} {ds : List PyData} (hn : (qs.map (·.1)).Nodup) (h1 : 1 ≤ ds.length) (h16 : ds.length ≤ 16) (hp : ∀ d ∈ ds, plD qs (ds.length : Int) d) : placesV qs (.tuple ds) = none := by
  show (if 1 ≤ ds.length ∧ ds.length ≤ 16 then (firstBad (placeD qs ds.length) 0 ds).map fun p => V.int (p : Nat) else some .non) = none
  rw [if_pos ⟨h1, h16⟩, firstBad_no ds 0 fun d hd => placeD_ok hn (hp d hd)]; rfl
theorem modes_no {k : Nat} {zs : List Str} (hl : zs.length = k) (hz : ∀ z ∈ zs, z ∈ (["live", "met", "begin"] : List Str)) : modesV k (.tuple (zs.map .str)) = none := by
  show (if (zs.map PyData.str).length = k then (firstBad isMode 0 (zs.map PyData.str)).map fun p => V.int (p : Nat) else some .non) = none
  rw [List.length_map, if_pos hl, firstBad_no _ 0 fun d hd => ?_]
  · rfl
  · obtain ⟨z, h, rfl⟩ := List.mem_map.mp hd
    exact decide_eq_true (hz z h)
theorem prD_inj' : ∀ {qs ys : List (Str × Int)}, prD qs = prD ys → qs = ys
  | [], [], _ => rfl
  | [], _ :: _, h => by cases h
  | _ :: _, [], h => by cases h
  | (a, b) :: qs, (c, e) :: ys, h => by
    have h' : PyData.tuple [.str a, .int b] :: prD qs = .tuple [.str c, .int e] :: prD ys := h
    injection h' with h1 h2
    injection h1 with h3
    injection h3 with h4 h5
    injection h5 with h6 h7
    injection h4 with h8
    injection h6 with h9
    rw [h8, h9, prD_inj' h2]
theorem req_okQ {K : PySem.W.Frag} {C CS CP CM x dx : Addr} {H3 : Hp} {Q : VK} {E : XK} {m l : Addr} {v1 v2 v3 : V} {ys : List (Str × Int)} {d2 d3 : PyData} {B1 b1 B2 b2 : Nat} (so : SetOk ys) (h1 : Dq K H3 m l v1 (.tuple (prD ys))) (g1 : Gd B1 100000 b1 (.tuple (prD ys)))
    (h2 : Dq K H3 m l v2 d2) (g2 : Gd B2 100000 b2 d2) (h3 : Dq K H3 m l v3 d3) (hp : placesV ys d2 = none) (hm : modesV ys.length (wordsD ys.length d3) = none) (hx : H3 x = none) (hdx : H3 dx = none) (ne : dx ≠ x)
    (hQ : ∀ (v3' : V) (H' : Hp), Same H3 H' → H' x = some (.ins C dx (reqF v1 v2 v3')) → Dq K H' m l v3' (wordsD ys.length d3) → Q .non H') : spReq K C CS CP CM [.ref x, v1, v2, v3] (upd (upd H3 dx (.own x)) x (.ins C dx [])) Q E := by
  have s0 : Same H3 (upd (upd H3 dx (.own x)) x (.ins C dx [])) := (Same.upd hdx).trans (Same.upd (by rw [upd_ne ne.symm]; exact hx))
  have xs : ∀ {H'}, SameX x (upd (upd H3 dx (.own x)) x (.ins C dx [])) H' → Same H3 H' := fun k b o e => k b o (ne_of_none e hx) (s0 b o e)
  refine ⟨m, l, x, dx, v1, v2, v3, .tuple (prD ys), d2, d3, B1, b1, B2, b2, rfl, upd_same, Dq.same s0 _ _ h1, g1, Dq.same s0 _ _ h2, g2, Dq.same s0 _ _ h3, (fun u hu => by rw [so.need] at hu; cases hu), fun _ qs eq => ?_⟩
  have eq' : qs = ys := (prD_inj' (PyData.tuple.inj eq)).symm
  subst eq'
  exact ⟨fun u hu => (by rw [hp] at hu; cases hu), fun _ => ⟨fun u hu => (by rw [hm] at hu; cases hu), fun _ H' v3' k hd dq3 => hQ v3' H' (xs k) hd dq3⟩⟩
end Ms
namespace Ms
open PySem PySem.Spec PyProof.Rows L2
/-! ### places, as they are written -/
theorem ints_of' {K : PySem.W.Frag} {H : Hp} {m l : Addr} : ∀ {ns : List Int} {xs : List V}, DqAll K H m l xs (ns.map PyData.int) → xs = ns.map V.int
  | [], _, h => by cases h; rfl
  | _ :: ns, _, h => by
    cases h with
    | cons h1 h2 =>
      cases h1
      rw [ints_of' h2]; rfl
inductive Plc
  | fin
  | go (z : Str) (n : Nat)
  | ask (z : Str) (ns : List Nat)
def intsN (ns : List Nat) : List Int := ns.map fun (n : Nat) => (n : Int)
def Plc.d : Plc → PyData
  | .fin => .tuple [.str "end"]
  | .go z n => .tuple [.str "do", .str z, .int (n : Int)]
  | .ask z ns => .tuple [.str "ask", .str z, .tuple ((intsN ns).map .int)]
def Plc.nums : Plc → List Nat
  | .fin => []
  | .go _ n => [n]
  | .ask _ ns => ns
def num (n : Nat) : Str := ((toString ((n : Nat) : Int) : String) : Str)
def Plc.head : Plc → List Str
  | .fin => ["end"]
  | .go z _ => ["do", z]
  | .ask z _ => ["ask", z]
def Plc.words (p : Plc) : List Str := p.head ++ p.nums.map num
def blank : Str := " "
def newl : Str := "\n"
def Plc.line (p : Plc) : Str := Txt.join blank p.words
def sizeW (ws : List Str) : Nat := (ws.map (·.length)).sum + ws.length
/-- short: names of at most eight letters, numbers below 100, at most four of them -/
structure Plc.Ok (p : Plc) : Prop where
  few : p.nums.length ≤ 4
  small : ∀ n ∈ p.nums, n < 100
  size : sizeW p.words ≤ 100
theorem num_log (n : Nat) (h : n < 100) : ((n : Int)).natAbs.log2 < 1920 := log_small (i := (n : Int)) (by
  have : (100 : Nat) ≤ 10 ^ 31 := by decide
  omega)
section
variable {P : Program} {w : World} {K : PySem.W.Frag} {mg : Str → Option Value} {base : Heap} {fNu fPl C : Addr}
structure TxtX (mg : Str → Option Value) : Prop where
  isi : mg "isinstance" = none
  str : mg "str" = none
  len : mg "len" = none
  list : mg "list" = none
  tuple : mg "tuple" = none
  int : mg "int" = none
  max : mg "max" = none
  all : mg "all" = none
  enumerate : mg "enumerate" = none
abbrev NNx : List Str := ["place"]
theorem scNx : FnScope NNx ["place"] (defScope sNums) := ⟨rfl, rfl, rfl, by decide +kernel, rfl, by decide +kernel, by decide +kernel⟩
def spNums (K : PySem.W.Frag) : Sp := fun vs H Q _ => ∃ (m l : Addr) (v : V) (p : Plc), vs = [v] ∧ Dq K H m l v p.d ∧ ∀ D H', H D = none → Same H H' → H' D = some (.lst ((intsN p.nums).map V.int)) → Q (.ref D) H'
theorem ok_nums {f : Addr} {fd : FuncData} (F : Fun K "numbers_in" "numbers_in" sNums f fd) (T : TxtX mg) : FnOk P w K mg base CX0 1 f fd ["place"] (spNums K) := by
  refine F.ok scNx (fun vs H Q E h => ?_) (fun cdv A outer s H vs Q E hr h => ?_)
  · obtain ⟨m, l, v, p, rfl, _⟩ := h
    rfl
  obtain ⟨m, l, v, p, rfl, hd, q⟩ := h
  refine ⟨_, pss_cons (ps_if (pt_cmpR op_eq (pe_ix ix_tup (pv 0) pe_int (fun _ _ => rfl)) pe_str (nomark _)) (pss_one (ps_ret (pe_lst (pa_cons (pe_ix ix_tup (pv 0) pe_int (fun _ _ => rfl)) pa_nil)))) pss_nil)
    (pss_one (ps_ret (pe_ifExp (pt_cmpR op_eq (pe_ix ix_tup (pv 0) pe_int (fun _ _ => rfl)) pe_str (nomark _)) (pe_callTy call_list_of (by rfl) T.list (by decide +kernel) (pa_cons (pe_ix ix_tup (pv 0) pe_int (fun _ _ => rfl)) pa_nil)) (pe_lst pa_nil)))), ?_⟩
  cases p with
  | fin =>
    cases hd with
    | tup h0 hx =>
      rename_i a ys
      cases hx with
      | cons x1 x2 => cases x2; cases x1; exact ⟨_, rfl, a, _, 0, .str "end", rfl, rfl, h0, rfl, rfl, _, rfl, ifF rfl ⟨_, rfl, a, _, 0, .str "end", rfl, rfl, h0, rfl, rfl, _, rfl, ifF rfl ⟨Nat.zero_le _, fun D hD => q D _ hD (Same.upd hD) upd_same⟩⟩⟩
  | go z n =>
    cases hd with
    | tup h0 hx =>
      rename_i a ys
      cases hx with
      | cons x1 x2 => cases x2 with | cons x2 x3 => cases x3 with | cons x3 x4 => cases x4; cases x1; cases x2; cases x3; exact ⟨_, rfl, a, _, 0, .str "do", rfl, rfl, h0, rfl, rfl, _, rfl, ifT rfl ⟨_, rfl, a, _, 2, .int (n : Int), rfl, rfl, h0, rfl, (by show 1 ≤ sizeLine; decide), fun D hD => q D _ hD (Same.upd hD) upd_same⟩⟩
  | ask z ns =>
    cases hd with
    | tup h0 hx =>
      rename_i a ys
      cases hx with
      | cons x1 x2 => cases x2 with | cons x2 x3 => cases x3 with | cons x3 x4 =>
        cases x4; cases x1; cases x2
        cases x3 with
        | tup h3 hy =>
          rename_i b zs
          have e := ints_of' hy
          subst e
          exact ⟨_, rfl, a, _, 0, .str "ask", rfl, rfl, h0, rfl, rfl, _, rfl, ifF rfl ⟨_, rfl, a, _, 0, .str "ask", rfl, rfl, h0, rfl, rfl, _, rfl, ifT rfl ⟨_, rfl, a, _, 2, .ref b, rfl, rfl, h0, rfl, b, _, rfl, .inr h3, fun D hD => q D _ hD (Same.upd hD) upd_same⟩⟩⟩
end
end Ms
namespace Ms
open PySem PySem.Spec PyProof.Rows L2
/-! ### request_text -/
theorem joinL_len (S : List Nat) : ∀ ps : List (List Nat), (TL.joinL S ps).length ≤ (ps.map (·.length)).sum + ps.length * S.length
  | [] => Nat.zero_le _
  | [p] => by show p.length ≤ _; simp only [List.map_cons, List.map_nil, List.sum_cons, List.sum_nil]; omega
  | p :: q :: r => by
    have h := joinL_len S (q :: r)
    show (p ++ (S ++ TL.joinL S (q :: r))).length ≤ _
    simp only [List.length_append, List.map_cons, List.sum_cons, List.length_cons, Nat.add_mul, Nat.one_mul] at h ⊢
    omega
theorem join_len {y : Str} (hy : y.length = 1) (ws : List Str) : (Txt.join y ws).length ≤ sizeW ws := by
  have e : (Txt.join y ws).length = (TL.joinL (TL.tl y) (ws.map TL.tl)).length := by rw [TL.join_eq, TL.len_tl, TL.tl_join]
  have h := joinL_len (TL.tl y) (ws.map TL.tl)
  have e1 : (ws.map TL.tl).map (·.length) = ws.map (·.length) := by
    rw [List.map_map]
    exact List.map_congr_left fun z _ => (TL.len_tl z).symm
  rw [e1, List.length_map, ← TL.len_tl, hy, Nat.mul_one] at h
  rw [e]
  exact h
def textP (zs : List Str) (ps : List Plc) : Str := Txt.join newl (Txt.join blank (("modes" : Str) :: zs) :: ps.map Plc.line)
structure ModesOk (zs : List Str) : Prop where
  len : zs.length ≤ 3
  mem : ∀ z ∈ zs, z ∈ (["live", "met", "begin"] : List Str)
theorem mode_len {z : Str} (h : z ∈ (["live", "met", "begin"] : List Str)) : z.length ≤ 5 := by
  simp only [List.mem_cons, List.mem_nil_iff, or_false] at h
  rcases h with rfl | rfl | rfl <;> decide
theorem modes_size {zs : List Str} (h : ModesOk zs) : sizeW (("modes" : Str) :: zs) ≤ 30 := by
  have key : ∀ zs : List Str, (∀ z ∈ zs, z ∈ (["live", "met", "begin"] : List Str)) → (zs.map (·.length)).sum ≤ 5 * zs.length := by
    intro zs
    induction zs with
    | nil => intro _; exact Nat.le_refl _
    | cons z zs ih =>
      intro h
      have h1 := mode_len (h z (List.mem_cons_self ..))
      have h2 := ih fun y hy => h y (List.mem_cons_of_mem _ hy)
      simp only [List.map_cons, List.sum_cons, List.length_cons]
      omega
  have k := key zs h.mem
  have l := h.len
  have m5 : ("modes" : Str).length = 5 := by decide
  unfold sizeW
  simp only [List.map_cons, List.sum_cons, List.length_cons, m5]
  omega
theorem line_len {p : Plc} (h : p.Ok) : p.line.length ≤ 100 := Nat.le_trans (join_len (by decide) _) h.size
theorem lines_size {zs : List Str} {ps : List Plc} (hz : ModesOk zs) (hp : ∀ p ∈ ps, p.Ok) (hl : ps.length ≤ 16) : sizeW (Txt.join blank (("modes" : Str) :: zs) :: ps.map Plc.line) ≤ 2000 := by
  have key : ∀ ps : List Plc, (∀ p ∈ ps, p.Ok) → ((ps.map Plc.line).map (·.length)).sum ≤ 100 * ps.length := by
    intro ps
    induction ps with
    | nil => intro _; exact Nat.le_refl _
    | cons p ps ih =>
      intro h
      have h1 := line_len (h p (List.mem_cons_self ..))
      have h2 := ih fun y hy => h y (List.mem_cons_of_mem _ hy)
      simp only [List.map_cons, List.sum_cons, List.length_cons]
      omega
  have k := key ps hp
  have h0 : (Txt.join blank (("modes" : Str) :: zs)).length ≤ 30 := Nat.le_trans (join_len (by decide) _) (modes_size hz)
  unfold sizeW
  simp only [List.map_cons, List.sum_cons, List.length_cons, List.length_map] at k ⊢
  omega
section
variable {P : Program} {w : World} {K : PySem.W.Frag} {mg : Str → Option Value} {base : Heap} {fNu fPl C : Addr}
/-- a request in the heap -/
structure RqH (K : PySem.W.Frag) (H : Hp) (m l : Addr) (C x : Addr) (vS : V) (ps : List Plc) (zs : List Str) : Prop where
  one : ∃ dx pP pM, H x = some (.ins C dx (reqF vS (.ref pP) (.ref pM))) ∧ Dq K H m l (.ref pP) (.tuple (ps.map Plc.d)) ∧ Dq K H m l (.ref pM) (.tuple (zs.map .str))
  ok : ∀ p ∈ ps, p.Ok
  few : ps.length ≤ 16
  ms : ModesOk zs
theorem RqH.same {H H' : Hp} {m l C x : Addr} {vS : V} {ps : List Plc} {zs : List Str} (s : Same H H') (R : RqH K H m l C x vS ps zs) : RqH K H' m l C x vS ps zs := by
  obtain ⟨dx, pP, pM, h1, h2, h3⟩ := R.one
  exact ⟨⟨dx, pP, pM, s _ _ h1, Dq.same s _ _ h2, Dq.same s _ _ h3⟩, R.ok, R.few, R.ms⟩
theorem strs_of {H : Hp} {m l : Addr} : ∀ {zs : List Str} {xs : List V}, DqAll K H m l xs (zs.map PyData.str) → xs = zs.map V.str
  | [], _, h => by cases h; rfl
  | _ :: zs, _, h => by
    cases h with
    | cons h1 h2 =>
      cases h1
      rw [strs_of h2]; rfl
end
end Ms
namespace Ms
open PySem PySem.Spec PyProof.Rows L2 RZ
/-! ### order_of -/
def idxN (z : Str) : List (Str × Int) → Nat
  | [] => 0
  | q :: qs => if q.1 = z then 0 else idxN z qs + 1
theorem idxN_at {z : Str} : ∀ {qs : List (Str × Int)}, z ∈ qs.map (·.1) → ∃ q, qs[idxN z qs]? = some q ∧ q.1 = z ∧ ∀ (j : Nat) (q' : Str × Int), j < idxN z qs → qs[j]? = some q' → q'.1 ≠ z
  | [], h => nomatch h
  | q :: qs, h => by
    unfold idxN
    by_cases e : q.1 = z
    · rw [if_pos e]
      exact ⟨q, rfl, e, fun j q' hj _ => absurd hj (Nat.not_lt_zero _)⟩
    · rw [if_neg e]
      have h' : z ∈ qs.map (·.1) := by
        rcases List.mem_cons.mp h with h | h
        · exact absurd h.symm e
        · exact h
      obtain ⟨q2, h1, h2, h3⟩ := idxN_at h'
      refine ⟨q2, h1, h2, fun j q' hj hq => ?_⟩
      cases j with
      | zero =>
        have : q' = q := (Option.some.inj hq).symm
        rw [this]; exact e
      | succ j => exact h3 j q' (by omega) hq
theorem dc_it {J : It} {n : Nat} {G : Hp → Prop} {Y : Nat → Hp → V → Hp → Prop} (w : Walk J n G Y) {g : TG} {tt : TT} {tk tv : TE} {vs : List Nat} {σ : L2.St} {H1 : Hp} {D : Addr} {Qd : Hp → Prop} (Pv : Nat → Hp → Prop) (h0 : Pv 0 (upd H1 D (.dK []))) (hG : ∀ i H, i ≤ n → Pv i H → G H)
    (hs : ∀ i x H H', i < n → Pv i H → Y i H x H' → g x (wipe σ vs) H' fun σ2 H2 => wipe σ2 vs = wipe σ vs ∧ tt σ2 H2 fun b H3 =>
      if b = true then tk σ2 H3 fun y H4 => tv σ2 H4 fun z H5 => ∃ kvs k, y = kV k ∧ H5 D = some (.dK kvs) ∧ kvs.length < sizeLine ∧ Pv (i + 1) (upd H5 D (.dK (putK kvs k z))) else Pv (i + 1) H3) (hd : ∀ H, Pv n H → Qd H) :
    ∃ W : Nat → Nat → Hp → Prop, (∃ m, W 0 m (upd H1 D (.dK []))) ∧ ∀ i m H, W i m H →
      (J.stop i H ∧ Qd H) ∨ (J.go i H ∧ ∃ Nx : Hp → Prop, (∀ H', Nx H' → ∃ m', m' < m ∧ W (i + 1) m' H') ∧ ∀ x H', J.yld i H x H' → g x (wipe σ vs) H' fun σ2 H2 => wipe σ2 vs = wipe σ vs ∧ tt σ2 H2 fun b H3 =>
        if b = true then tk σ2 H3 fun y H4 => tv σ2 H4 fun z H5 => ∃ kvs k, y = kV k ∧ H5 D = some (.dK kvs) ∧ kvs.length < sizeLine ∧ Nx (upd H5 D (.dK (putK kvs k z))) else Nx H3) := by
  refine ⟨fun i m H => m = n - i ∧ i ≤ n ∧ Pv i H, ⟨n, by simp, Nat.zero_le _, h0⟩, ?_⟩
  rintro i m H ⟨rfl, hi, p⟩
  have q := hG i H hi p
  by_cases hlt : i < n
  · refine .inr ⟨w.goes i H hlt q, Pv (i + 1), fun H' p' => ⟨n - (i + 1), by omega, rfl, hlt, p'⟩, fun x H' y => hs i x H H' hlt p (w.yields i H x H' hlt q y)⟩
  · have e : i = n := by omega
    subst e
    exact .inl ⟨w.stops H q, hd H p⟩
def ordF : Nat → List (Str × Int) → List (Key × V)
  | _, [] => []
  | n, q :: qs => (.inr q.1, .int (n : Nat)) :: ordF (n + 1) qs
def ordK (qs : List (Str × Int)) : List (Key × V) := ordF 0 qs
theorem ordF_len : ∀ (n : Nat) (qs : List (Str × Int)), (ordF n qs).length = qs.length
  | _, [] => rfl
  | n, q :: qs => by show (ordF (n + 1) qs).length + 1 = _; rw [ordF_len]; rfl
theorem ordF_snoc : ∀ (n : Nat) (qs : List (Str × Int)) (q : Str × Int), ordF n (qs ++ [q]) = ordF n qs ++ [(.inr q.1, .int ((n + qs.length : Nat) : Int))]
  | n, [], q => rfl
  | n, p :: qs, q => by
    show (_ :: ordF (n + 1) (qs ++ [q])) = _ :: (ordF (n + 1) qs ++ _)
    rw [ordF_snoc (n + 1) qs q]
    have : n + 1 + qs.length = n + (p :: qs).length := by simp; omega
    rw [this]
theorem ordF_none {z : Str} : ∀ (n : Nat) (qs : List (Str × Int)), z ∉ qs.map (·.1) → valV (ordF n qs) (.inr z) = none
  | _, [], _ => rfl
  | n, q :: qs, h => by
    have h' : ¬ z = q.1 ∧ z ∉ qs.map (·.1) := by simpa using h
    show valV (((.inr q.1 : Key), V.int (n : Nat)) :: ordF (n + 1) qs) (.inr z) = none
    rw [valV_neg (fun e => h'.1 (by have e' : (Sum.inr q.1 : Key) = Sum.inr z := e; injection e' with e'; exact e'.symm))]
    exact ordF_none (n + 1) qs h'.2
theorem ordF_at {z : Str} : ∀ (n : Nat) (qs : List (Str × Int)), z ∈ qs.map (·.1) → valV (ordF n qs) (.inr z) = some (.int ((n + idxN z qs : Nat) : Int))
  | _, [], h => nomatch h
  | n, q :: qs, h => by
    show valV (((.inr q.1 : Key), V.int (n : Nat)) :: ordF (n + 1) qs) (.inr z) = _
    by_cases e : q.1 = z
    · rw [valV_pos (show (Sum.inr q.1 : Key) = Sum.inr z by rw [e])]
      unfold idxN
      rw [if_pos e]; rfl
    · rw [valV_neg (fun e' => e (by have e2 : (Sum.inr q.1 : Key) = Sum.inr z := e'; injection e2))]
      have h' : z ∈ qs.map (·.1) := by
        rcases List.mem_cons.mp h with h | h
        · exact absurd h.symm e
        · exact h
      rw [ordF_at (n + 1) qs h']
      conv => rhs; unfold idxN
      rw [if_neg e]
      have : n + 1 + idxN z qs = n + (idxN z qs + 1) := by omega
      rw [this]
section
variable {P : Program} {w : World} {K : PySem.W.Frag} {mg : Str → Option Value} {base : Heap} {fI fN fS fA fG aE : Addr}
abbrev NOr : List Str := ["settings", "at", "name", "most"]
theorem scOr : FnScope NOr ["settings"] (defScope sPOrder) := ⟨rfl, rfl, rfl, by decide +kernel, rfl, by decide +kernel, by decide +kernel⟩
def spPOrder (K : PySem.W.Frag) : Sp := fun vs H Q _ => ∃ (a : Addr) (xs : List V) (qs : List (Str × Int)), vs = [.ref a] ∧ SqT K H a xs ∧ PrTs K H xs qs ∧ qs.length ≤ 900 ∧ (qs.map (·.1)).Nodup ∧
  ∀ D, H D = none → ∀ H', Same H H' → H' D = some (.dK (ordK qs)) → Q (.ref D) H'
theorem ok_porder {f : Addr} {fd : FuncData} (F : Fun K "order_of" "order_of" sPOrder f fd) (T : TxtP mg fI fN fS fA fG) : FnOk P w K mg base CX0 1 f fd ["settings"] (spPOrder K) := by
  refine F.ok scOr (fun vs H Q E h => ?_) (fun cdv A outer s H vs Q E hr h => ?_)
  · obtain ⟨a, xs, qs, rfl, _⟩ := h
    rfl
  obtain ⟨a, xs, qs, rfl, hs, hp, hl, hn, q⟩ := h
  have lx := hp.len
  refine ⟨_, pss_one (ps_ret (pe_dc (own := [("at", 1), ("name", 2), ("most", 3)]) (g := gTup K 2 (gCons (gName 1) (gCons (gTup K 2 (gCons (gName 2) (gCons (gName 3) gNil))) gNil))) (by rfl) scOr.nd (pi_et (by rfl) T.enumerate (pa_cons (pv 0) pa_nil)) (blkOk_by (own := [("at", 1), ("name", 2), ("most", 3)]) (N := NOr) (sc := defScope sPOrder) (by decide +kernel))
      (fun _ _ _ _ _ => pg_tup rfl (pgs_cons (pg_name (i := 1) scOr.nd rfl (Or.inl rfl)) (pgs_cons (pg_tup rfl (pgs_cons (pg_name (i := 2) scOr.nd rfl (Or.inl rfl)) (pgs_cons (pg_name (i := 3) scOr.nd rfl (Or.inl rfl)) pgs_nil))) pgs_nil))) (fun _ _ _ _ _ => pts_nil)
      (fun _ _ _ _ _ => pv 2) (fun _ _ _ _ _ => pv 1))), ?_⟩
  refine ⟨_, rfl, a, xs, rfl, hs, fun D hD => ?_⟩
  refine dc_it (walk_et (xs := xs)) (fun i H3 => Same H H3 ∧ H3 D = some (.dK (ordK (qs.take i)))) ⟨Same.upd hD, by rw [upd_same]; rfl⟩ (fun i H3 _ ⟨s3, _⟩ => Same.seqT s3 hs) ?_ ?_
  · rintro i x H3 H4 hi ⟨s3, g3⟩ ⟨TT, x1, x2, rfl, hT, rfl, e1, e2⟩
    have ex1 : x1 = .int (i : Nat) := (Option.some.inj e1).symm
    subst ex1
    obtain ⟨qq, hqq, b, rfl, hb⟩ := hp.get e2
    have sT : Same H3 (upd H3 TT (.tup [.int (i : Nat), .ref b])) := Same.upd hT
    have s4 := s3.trans sT
    have gD := sT _ _ g3
    have ti : qs.take (i + 1) = qs.take i ++ [qq] := by rw [List.take_succ, hqq]; rfl
    have li : (qs.take i).length = i := by rw [List.length_take]; omega
    refine ⟨TT, _, rfl, .inl (.inl upd_same), rfl, _, _, rfl, _, _, rfl, b, _, rfl, Same.seqT s4 hb, rfl, _, _, rfl, _, _, rfl, rfl, rfl, rfl, tyes ?_⟩
    refine ⟨_, rfl, _, rfl, _, .inr qq.1, rfl, gD, ?_, ?_, ?_⟩
    · show (ordF 0 (qs.take i)).length < sizeLine
      rw [ordF_len]
      exact small1000 (by omega)
    · intro c o hc
      rw [upd_ne (ne_of_none hc hD)]; exact s4 c o hc
    · rw [upd_same, ti]
      have hno : qq.1 ∉ (qs.take i).map (·.1) := by
        intro hm
        have e3 : (qs.map (·.1)).take i = (qs.take i).map (·.1) := (List.map_take ..).symm
        rw [← e3] at hm
        obtain ⟨j, hj⟩ := List.mem_iff_getElem?.mp hm
        rw [List.getElem?_take] at hj
        split at hj
        · rename_i hji
          obtain ⟨b1, c1⟩ := List.getElem?_eq_some_iff.mp hj
          have a2 : (qs.map (·.1))[i]? = some qq.1 := by rw [List.getElem?_map, hqq]; rfl
          obtain ⟨b2, c2⟩ := List.getElem?_eq_some_iff.mp a2
          have : j = i := (List.getElem_inj hn).mp (c1.trans c2.symm)
          omega
        · cases hj
      show some (HO.dK (putK (ordF 0 (qs.take i)) (.inr qq.1) (.int (i : Nat)))) = some (HO.dK (ordF 0 (qs.take i ++ [qq])))
      rw [putK_new _ (ordF_none 0 _ hno), ordF_snoc, Nat.zero_add, li]
  · rintro H3 ⟨s3, g3⟩
    rw [List.take_of_length_le (by omega)] at g3
    exact q D hD _ s3 g3
end
end Ms
namespace Ms
open PySem PySem.Spec PyProof.Rows L2
/-! ### figures and numbers, as words -/
def digits : Str := "0123456789"
def digB (c : Nat) : Bool := decide (48 ≤ c) && decide (c ≤ 57)
theorem dig_in (c : Nat) : decide (c ∈ digits.cps.toList) = digB c := by
  have e : digits.cps.toList = [48, 49, 50, 51, 52, 53, 54, 55, 56, 57] := by decide +kernel
  rw [e, Bool.eq_iff_iff]
  simp only [decide_eq_true_eq, digB, Bool.and_eq_true, List.mem_cons, List.mem_nil_iff, or_false]
  omega
def figB (z : Str) : Bool := match z.cps.toList with
  | [c] => digB c
  | _ => false
def numW (z : Str) : Option Nat := match z.cps.toList with
  | [c] => if digB c = true then some (c - 48) else none
  | [c, d] => if (digB c && (digB d && !decide (c = 48))) = true then some ((c - 48) * 10 + (d - 48)) else none
  | _ => none
theorem one_sign {z : Str} (h : z.length = 1) : ∃ c, z = ⟨#[c]⟩ := by
  have : z.cps.toList.length = 1 := by rw [Array.length_toList]; exact h
  match e : z.cps.toList, this with
  | [c], _ => exact ⟨c, Str.ext' (Array.toList_inj.mp (by rw [e]))⟩
theorem two_signs {z : Str} (h : z.length = 2) : ∃ c d, z = ⟨#[c, d]⟩ := by
  have : z.cps.toList.length = 2 := by rw [Array.length_toList]; exact h
  match e : z.cps.toList, this with
  | [c, d], _ => exact ⟨c, d, Str.ext' (Array.toList_inj.mp (by rw [e]))⟩
theorem fig_not {z : Str} (h : z.length ≠ 1) : figB z = false := by
  have : z.cps.toList.length ≠ 1 := by rw [Array.length_toList]; exact h
  unfold figB
  split
  · rename_i c e
    rw [e] at this
    exact absurd rfl this
  · rfl
theorem numW_not {z : Str} (h1 : z.length ≠ 1) (h2 : z.length ≠ 2) : numW z = none := by
  have k1 : z.cps.toList.length ≠ 1 := by rw [Array.length_toList]; exact h1
  have k2 : z.cps.toList.length ≠ 2 := by rw [Array.length_toList]; exact h2
  unfold numW
  split
  · rename_i c e
    rw [e] at k1
    exact absurd rfl k1
  · rename_i c d e
    rw [e] at k2
    exact absurd rfl k2
  · rfl
theorem len_dec1 {n : Nat} : decide (V.int ((n : Nat) : Int) = V.int 1) = decide (n = 1) := by
  rw [Bool.eq_iff_iff, decide_eq_true_eq, decide_eq_true_eq, V.int.injEq]; omega
theorem len_dec2 {n : Nat} : decide (V.int ((n : Nat) : Int) = V.int 2) = decide (n = 2) := by
  rw [Bool.eq_iff_iff, decide_eq_true_eq, decide_eq_true_eq, V.int.injEq]; omega
theorem int1 : ∀ c, c < 58 → 48 ≤ c → intText? ⟨#[c]⟩ = some (((c - 48 : Nat)) : Int) := by decide +kernel
theorem int2 : ∀ c, c < 58 → ∀ d, d < 58 → 48 ≤ c → 48 ≤ d → intText? ⟨#[c, d]⟩ = some (((c - 48) * 10 + (d - 48) : Nat) : Int) := by decide +kernel
theorem numW_int {z : Str} {n : Nat} (h : numW z = some n) : intText? z = some (n : Int) ∧ z.length ≤ 640 ∧ n < 100 := by
  by_cases h1 : z.length = 1
  · obtain ⟨c, rfl⟩ := one_sign h1
    have h' : (if digB c = true then some (c - 48) else none) = some n := h
    split at h'
    · rename_i hc
      simp only [digB, Bool.and_eq_true, decide_eq_true_eq] at hc
      have := Option.some.inj h'
      subst this
      exact ⟨int1 c (by omega) hc.1, by rw [h1]; decide, by omega⟩
    · cases h'
  by_cases h2 : z.length = 2
  · obtain ⟨c, d, rfl⟩ := two_signs h2
    have h' : (if (digB c && (digB d && !decide (c = 48))) = true then some ((c - 48) * 10 + (d - 48)) else none) = some n := h
    split at h'
    · rename_i hc
      simp only [digB, Bool.and_eq_true, decide_eq_true_eq, Bool.not_eq_true', decide_eq_false_iff_not] at hc
      have := Option.some.inj h'
      subst this
      exact ⟨int2 c (by omega) d (by omega) hc.1.1 hc.2.1.1, by rw [h2]; decide, by omega⟩
    · cases h'
  · rw [numW_not h1 h2] at h
    cases h
section
variable {P : Program} {w : World} {K : PySem.W.Frag} {mg : Str → Option Value} {base : Heap} {fF fMo fI fN fS fA fG fNu fAs fPl fNP fNM fNd aE aM : Addr}
abbrev NFx : List Str := ["word"]
theorem scFx : FnScope NFx ["word"] (defScope sFig) := ⟨rfl, rfl, rfl, by decide +kernel, rfl, by decide +kernel, by decide +kernel⟩
def spFig : Sp := fun vs H Q _ => ∃ z : Str, vs = [.str z] ∧ z.length ≤ sizeLine ∧ Q (.bl (figB z)) H
theorem ok_fig {f : Addr} {fd : FuncData} (F : Fun K "is_figure" "is_figure" sFig f fd) (T : TxtX mg) (gD : ∃ t, mg "DIGITS" = some (.str digits t)) : FnOk P w K mg base CX0 1 f fd ["word"] spFig := by
  obtain ⟨t, gD⟩ := gD
  refine F.ok scFx (fun vs H Q E h => ?_) (fun cdv A outer s H vs Q E hr h => ?_)
  · obtain ⟨z, rfl, _⟩ := h
    rfl
  obtain ⟨z, rfl, hz, q⟩ := h
  refine ⟨_, pss_one (ps_ret (pe_and (pe_cmpR op_eq (pe_callB call_len_str (by rfl) T.len PySem.boot_len (pa_cons (pv 0) pa_nil)) pe_int (nomark _)) (pe_one (pe_cmpR op_in_sign (pv 0) (pe_glob (v := .str digits) rfl gD ⟨_, rfl⟩) (by rfl))))), ?_⟩
  refine ⟨_, rfl, _, rfl, hz, rfl, _, rfl, ?_⟩
  rw [len_dec1]
  by_cases h1 : z.length = 1
  · obtain ⟨c, rfl⟩ := one_sign h1
    refine ifT (decide_eq_true h1) ⟨_, rfl, c, digits, rfl, rfl, ?_⟩
    rw [dig_in]
    exact q
  · refine ifF (decide_eq_false h1) ?_
    rw [fig_not h1] at q
    exact q
abbrev NWx : List Str := ["word"]
theorem scWx : FnScope NWx ["word"] (defScope sNWord) := ⟨rfl, rfl, rfl, by decide +kernel, rfl, by decide +kernel, by decide +kernel⟩
def spNWord : Sp := fun vs H Q _ => ∃ z : Str, vs = [.str z] ∧ z.length ≤ sizeLine ∧ Q (.bl (numW z).isSome) H
theorem ok_nword {f : Addr} {fd fdF : FuncData} (F : Fun K "is_number_word" "is_number_word" sNWord f fd) (T : TxtX mg) (gD : ∃ t, mg "DIGITS" = some (.str digits t)) (gF : mg "is_figure" = some (.ref fF)) (FF : Fun K "is_figure" "is_figure" sFig fF fdF) (bF : Binds K fdF ["word"] []) : FnOk P w K mg base CX0 2 f fd ["word"] spNWord := by
  have GF : FnOk P w K mg base CX0 1 fF fdF ["word"] spFig := ok_fig FF T gD
  refine F.ok scWx (fun vs H Q E h => ?_) (fun cdv A outer s H vs Q E hr h => ?_)
  · obtain ⟨z, rfl, _⟩ := h
    rfl
  obtain ⟨z, rfl, hz, q⟩ := h
  refine ⟨_, pss_one (ps_ret (pe_or (pe_call GF hr (by rfl) gF FF.kp bF .nil pass0 (pa_cons (pv 0) pa_nil)) (pe_one (pe_and (pe_cmpR op_eq (pe_callB call_len_str (by rfl) T.len PySem.boot_len (pa_cons (pv 0) pa_nil)) pe_int (nomark _))
    (pe_and (pe_call GF hr (by rfl) gF FF.kp bF .nil pass0 (pa_cons (pe_ix ix_str (pv 0) pe_int (fun _ _ => rfl)) pa_nil)) (pe_and (pe_call GF hr (by rfl) gF FF.kp bF .nil pass0 (pa_cons (pe_ix ix_str (pv 0) pe_int (fun _ _ => rfl)) pa_nil))
      (pe_one (pe_cmpR op_ne (pe_ix ix_str (pv 0) pe_int (fun _ _ => rfl)) pe_str (nomark _))))))))), ?_⟩
  refine ⟨_, rfl, z, rfl, hz, _, rfl, ?_⟩
  by_cases h1 : z.length = 1
  · obtain ⟨c, rfl⟩ := one_sign h1
    have ef : figB ⟨#[c]⟩ = digB c := rfl
    have en : numW ⟨#[c]⟩ = if digB c = true then some (c - 48) else none := rfl
    cases hc : digB c with
    | true =>
      rw [en, hc] at q
      exact ifT (ef.trans hc) q
    | false =>
      rw [en, hc] at q
      exact ifF (ef.trans hc) ⟨_, rfl, _, rfl, hz, rfl, _, rfl, ifF (by rw [len_dec2, h1]; rfl) q⟩
  refine ifF (fig_not h1) ⟨_, rfl, _, rfl, hz, rfl, _, rfl, ?_⟩
  rw [len_dec2]
  by_cases h2 : z.length = 2
  · obtain ⟨c, d, rfl⟩ := two_signs h2
    have en : numW ⟨#[c, d]⟩ = if (digB c && (digB d && !decide (c = 48))) = true then some ((c - 48) * 10 + (d - 48)) else none := rfl
    have l1 : (⟨#[c]⟩ : Str).length ≤ sizeLine := by show 1 ≤ sizeLine; decide
    have l2 : (⟨#[d]⟩ : Str).length ≤ sizeLine := by show 1 ≤ sizeLine; decide
    refine ifT (decide_eq_true h2) ⟨_, rfl, ⟨#[c, d]⟩, 0, c, rfl, rfl, hz, rfl, ⟨#[c]⟩, rfl, l1, _, rfl, ?_⟩
    cases hc : digB c with
    | false =>
      rw [en, hc] at q
      exact ifF (show figB ⟨#[c]⟩ = false from hc) q
    | true =>
      refine ifT (show figB ⟨#[c]⟩ = true from hc) ⟨_, rfl, ⟨#[c, d]⟩, 1, d, rfl, rfl, hz, rfl, ⟨#[d]⟩, rfl, l2, _, rfl, ?_⟩
      cases hd : digB d with
      | false =>
        rw [en, hc, hd] at q
        exact ifF (show figB ⟨#[d]⟩ = false from hd) q
      | true =>
        refine ifT (show figB ⟨#[d]⟩ = true from hd) ⟨_, rfl, ⟨#[c, d]⟩, 0, c, rfl, rfl, hz, rfl, rfl, ?_⟩
        rw [en, hc, hd] at q
        by_cases h48 : c = 48
        · subst h48
          exact q
        · have e1 : decide (V.str ⟨#[c]⟩ = V.str "0") = false := decide_eq_false fun e => h48 (by
            have e' : (⟨#[c]⟩ : Str) = "0" := V.str.inj e
            have e2 : (⟨#[c]⟩ : Str).cps.toList = ("0" : Str).cps.toList := by rw [e']
            have e3 : ("0" : Str).cps.toList = [48] := by decide +kernel
            rw [e3] at e2
            exact (List.cons.inj e2).1)
          have e4 : decide (c = 48) = false := decide_eq_false h48
          rw [e4] at q
          rw [e1]
          exact q
  · refine ifF (decide_eq_false h2) ?_
    rw [numW_not h1 h2] at q
    exact q
end
end Ms
namespace Ms
open PySem PySem.Spec PyProof.Rows L2
/-! ### data without dicts, compared with itself -/
mutual
def noDi : PyData → Bool
  | .dict _ => false
  | .list xs | .tuple xs => noDiAll xs
  | _ => true
def noDiAll : List PyData → Bool
  | [] => true
  | x :: xs => noDi x && noDiAll xs
end
theorem noDi_all {xs : List PyData} (h : ∀ x ∈ xs, noDi x = true) : noDiAll xs = true := by
  induction xs with
  | nil => rfl
  | cons x xs ih => simp only [noDiAll, h x (List.mem_cons_self ..), ih fun y hy => h y (List.mem_cons_of_mem _ hy), Bool.and_self]
mutual
theorem lay_of {B : Nat} : ∀ d : PyData, okD B d = true → noDi d = true → d.canLay0 = true
  | .none, _, _ => rfl
  | .bool _, _, _ => rfl
  | .int _, _, _ => rfl
  | .str x, e, _ => by
    simp only [okD, List.all_eq_true, decide_eq_true_eq] at e
    show x.cps.all (· < 0x110000) = true
    rw [← Array.all_toList, List.all_eq_true]
    exact fun c hc => decide_eq_true (e c hc)
  | .list xs, e, n => by
    simp only [okD] at e
    simp only [noDi] at n
    exact layAll_of xs e n
  | .tuple xs, e, n => by
    simp only [okD] at e
    simp only [noDi] at n
    exact layAll_of xs e n
  | .dict _, _, n => by simp [noDi] at n
theorem layAll_of {B : Nat} : ∀ xs : List PyData, okAll B xs = true → noDiAll xs = true → PyData.canLayAll0 xs = true
  | [], _, _ => rfl
  | x :: xs, e, n => by
    simp only [okAll, Bool.and_eq_true] at e
    simp only [noDiAll, Bool.and_eq_true] at n
    show (x.canLay0 && PyData.canLayAll0 xs) = true
    rw [lay_of x e.1 n.1, layAll_of xs e.2 n.2]; rfl
end
theorem shaped_of {B a b : Nat} {d : PyData} (g : Gd B a b d) (n : noDi d = true) (hb : b ≤ 60) : SeqAt.shaped d = true := by
  unfold SeqAt.shaped
  rw [lay_of d g.ok n, decide_eq_true (by have := g.dp; omega)]; rfl
mutual
theorem Dq.dp {K : PySem.W.Frag} {H : Hp} {m l : Addr} : ∀ (d : PyData) (v : V), Dq K H m l v d → noDi d = true → Dp K H v d
  | .none, _, h, _ => by cases h; exact .non
  | .bool b, _, h, _ => by cases h; exact .bl b
  | .int i, _, h, _ => by cases h; exact .int i
  | .str x, _, h, _ => by cases h; exact .str x
  | .list ds, _, h, n => by
    simp only [noDi] at n
    cases h with
    | lst e _ _ t => exact .lst (SqL.of e) (DqAll.dp ds _ t n)
  | .tuple ds, _, h, n => by
    simp only [noDi] at n
    cases h with
    | tup e t => exact .tup e (DqAll.dp ds _ t n)
  | .dict _, _, h, n => by simp [noDi] at n
theorem DqAll.dp {K : PySem.W.Frag} {H : Hp} {m l : Addr} : ∀ (ds : List PyData) (vs : List V), DqAll K H m l vs ds → noDiAll ds = true → DpAll K H vs ds
  | [], _, h, _ => by cases h; exact .nil
  | d :: ds, _, h, n => by
    simp only [noDiAll, Bool.and_eq_true] at n
    cases h with
    | cons h1 h2 => exact .cons (Dq.dp d _ h1 n.1) (DqAll.dp ds _ h2 n.2)
end
theorem ne_self {K : PySem.W.Frag} {H : Hp} {m l : Addr} {v u : V} {d : PyData} {B a b : Nat} {Q : VK} (h1 : Dq K H m l v d) (h2 : Dq K H m l u d) (g : Gd B a b d) (n : noDi d = true) (hb : b ≤ 60) (q : Q (.bl false) H) : rNeD K v u H Q :=
  ⟨d, d, h1.dp d v n, h2.dp d u n, shaped_of g n hb, shaped_of g n hb, by rw [SeqAt.eqv_refl d (lay_of d g.ok n)]; exact q⟩
end Ms
namespace Ms
open PySem PySem.Spec PyProof.Rows L2
/-! ### the line of the modes -/
def isM (z : Str) : Bool := decide (z ∈ (["live", "met", "begin"] : List Str))
def mlineB (k : Nat) (ws : List Str) : Bool := decide (ws.head? = some ("modes" : Str)) && (decide (ws.length = k + 1) && (ws.drop 1).all isM)
theorem str_dec {z y : Str} : decide (V.str z = V.str y) = decide (z = y) := by
  rw [Bool.eq_iff_iff, decide_eq_true_eq, decide_eq_true_eq, V.str.injEq]
section
variable {P : Program} {w : World} {K : PySem.W.Frag} {mg : Str → Option Value} {base : Heap} {fF fMo fI fN fS fA fG fNu fAs fPl fNP fNM fNd aE aM : Addr}
abbrev NMx : List Str := ["settings", "words", "word"]
theorem scMx : FnScope NMx ["settings", "words"] (defScope sMLine) := ⟨rfl, rfl, rfl, by decide +kernel, rfl, by decide +kernel, by decide +kernel⟩
def spMLine (K : PySem.W.Frag) : Sp := fun vs H Q _ => ∃ (aS aW : Addr) (xs : List V) (ws : List Str), vs = [.ref aS, .ref aW] ∧ SqT K H aS xs ∧ H aW = some (.lst (ws.map V.str)) ∧ ws ≠ [] ∧ xs.length ≤ 900 ∧ ∀ H', Same H H' → Q (.bl (mlineB xs.length ws)) H'
theorem ok_mline {f : Addr} {fd fdMo : FuncData} (F : Fun K "is_modes_line" "is_modes_line" sMLine f fd) (T : TxtX mg) (TR : TxtR mg fI fN fS fA fG fNu fAs fPl fMo fNP fNM fNd aE aM) (W : WrT K aE aM)
    (FMo : Fun K "is_mode" "is_mode" sPMode fMo fdMo) (bMo : Binds K fdMo ["thing"] []) : FnOk P w K mg base CX0 2 f fd ["settings", "words"] (spMLine K) := by
  have GMo : FnOk P w K mg base CX0 1 fMo fdMo ["thing"] (spMode K) := ok_mode FMo TR W
  refine F.ok scMx (fun vs H Q E h => ?_) (fun cdv A outer s H vs Q E hr h => ?_)
  · obtain ⟨aS, aW, xs, ws, rfl, _⟩ := h
    rfl
  obtain ⟨aS, aW, xs, ws, rfl, hS, hW, ne, hl, q⟩ := h
  refine ⟨_, pss_one (ps_ret (pe_and (pe_cmpR op_eq (pe_ix (show IxR _ (rIxL K) from ix_list) (pv 1) pe_int (fun _ _ => rfl)) pe_str (nomark _)) (pe_and (pe_cmpR op_eq (pe_callB call_len_seq (by rfl) T.len PySem.boot_len (pa_cons (pv 1) pa_nil)) (pe_op op_add (pe_callB call_len_seq (by rfl) T.len PySem.boot_len (pa_cons (pv 0) pa_nil)) pe_int) (nomark _))
    (pe_one (pe_callB (cr_all rfl) (by rfl) T.all (by decide +kernel) (pa_cons (pe_lc (own := [("word", 2)]) (g := gName 2) (by rfl) scMx.nd (pi_list (pe_slice sl_list (pv 1) (po_some pe_int) po_none)) (blkOk_by (own := [("word", 2)]) (N := NMx) (sc := defScope sMLine) (by decide +kernel))
      (fun _ _ _ _ _ => pg_name (i := 2) scMx.nd rfl (by first | exact Or.inl rfl | exact Or.inr rfl)) (fun _ _ _ _ _ => pts_nil) (fun _ _ _ _ _ => pe_call GMo hr (by rfl) TR.gMo FMo.kp bMo .nil pass0 (pa_cons (pv 2) pa_nil))) pa_nil)))))), ?_⟩
  obtain ⟨w0, wt, rfl⟩ : ∃ w0 wt, ws = w0 :: wt := by
    cases ws with
    | nil => exact absurd rfl ne
    | cons w0 wt => exact ⟨w0, wt, rfl⟩
  refine ⟨_, rfl, aW, _, 0, .str w0, rfl, rfl, SqL.of hW, (show atI _ ((0 : Nat) : Int) = _ from atI_nat rfl), rfl, _, rfl, ?_⟩
  rw [str_dec]
  have em : mlineB xs.length (w0 :: wt) = (decide (w0 = ("modes" : Str)) && (decide (wt.length + 1 = xs.length + 1) && wt.all isM)) := by
    unfold mlineB
    have : decide (some w0 = some ("modes" : Str)) = decide (w0 = ("modes" : Str)) := by
      rw [Bool.eq_iff_iff, decide_eq_true_eq, decide_eq_true_eq, Option.some.injEq]
    rw [← this]; rfl
  rw [em] at q
  cases h0 : decide (w0 = ("modes" : Str)) with
  | false =>
    rw [h0] at q
    exact iteF (q H (Same.refl H))
  | true =>
    rw [h0, Bool.true_and] at q
    have ll : (((w0 :: wt).map V.str).length : Int) = ((wt.length : Int) + 1) := by rw [List.length_map, List.length_cons, Int.natCast_add]; rfl
    refine iteT ⟨_, rfl, aW, _, rfl, .inl (SqL.of hW), _, rfl, aS, _, rfl, .inr hS, _, _, rfl, rfl, rfl, _, rfl, ?_⟩
    have e1 : decide (V.int ((((w0 :: wt).map V.str).length : Nat) : Int) = V.int ((xs.length : Nat) + 1)) = decide (wt.length + 1 = xs.length + 1) := by
      rw [Bool.eq_iff_iff, decide_eq_true_eq, decide_eq_true_eq, V.int.injEq, ll]; omega
    rw [e1]
    cases h1 : decide (wt.length + 1 = xs.length + 1) with
    | false =>
      rw [h1] at q
      exact iteF (q H (Same.refl H))
    | true =>
      rw [h1, Bool.true_and] at q
      have lw : wt.length = xs.length := by have := of_decide_eq_true h1; omega
      refine iteT ⟨_, rfl, _, rfl, noPart ⟨aW, _, rfl, SqL.of hW, fun p hp => ?_⟩⟩
      have ec : cutV ((w0 :: wt).map V.str) (some 1) none = wt.map V.str := by
        have e := cut_from (xs := (w0 :: wt).map V.str) (i := 1) (by simp)
        exact e
      rw [ec]
      have sp : Same H (upd H p (.lst (wt.map V.str))) := Same.upd hp
      refine ⟨p, rfl, ⟨_, SqL.of upd_same⟩, fun D hD => ?_⟩
      have nD : p ≠ D := fun e => by rw [← e, upd_same] at hD; cases hD
      refine lc_it (walk_list (xs := wt.map V.str)) (fun i H3 => H3 = upd (upd H p (.lst (wt.map V.str))) D (.lst (((wt.take i).map isM).map V.bl))) rfl (fun i H3 _ e3 => SqL.of (by rw [e3, upd_ne nD, upd_same])) ?_ ?_
      · rintro i y H3 H4 hi e3 ⟨rfl, hy⟩
        rw [List.getElem?_map] at hy
        obtain ⟨z, hz, rfl⟩ := Option.map_eq_some_iff.mp hy
        have ti : wt.take (i + 1) = wt.take i ++ [z] := by rw [List.take_succ, hz]; rfl
        refine ⟨rfl, tyes ⟨_, rfl, 0, 0, .str z, .str z, rfl, .str z, _, by rw [e3]; exact upd_same, small1000 (by rw [List.length_map, List.length_map, List.length_take]; omega), ?_⟩⟩
        rw [e3, upd_upd, ti, List.map_append, List.map_append]
        rfl
      · rintro H3 e3
        rw [List.length_map, List.take_of_length_le (Nat.le_refl _)] at e3
        have s3 : Same (upd H p (.lst (wt.map V.str))) H3 := e3 ▸ Same.upd hD
        refine ⟨D, wt.map isM, rfl, SqL.of (by rw [e3, upd_same]), ?_⟩
        have ea : (wt.map isM).all id = wt.all isM := by rw [List.all_map]; rfl
        rw [ea]
        exact q _ (sp.trans s3)
end
end Ms
namespace Ms
open PySem PySem.Spec PyProof.Rows L2
/-! ### a line of a place -/
def nsOf (rest : List Str) : List Nat := rest.map fun z => (numW z).getD 0
def mostOf (z : Str) (qs : List (Str × Int)) : Int := ((qs[idxN z qs]?).map (·.2)).getD 0
def placeIn (qs : List (Str × Int)) (ws : List Str) : Option Plc :=
  if ws = [("end" : Str)] then some .fin else match ws with
  | w0 :: w1 :: w2 :: rest =>
    if ((w2 :: rest).all fun z => (numW z).isSome) = true then
      (if (decide (w0 = ("do" : Str)) && (isName (.str w1) && decide ((w2 :: rest).length = 1))) = true then some (.go w1 ((numW w2).getD 0))
      else if (decide (w0 = ("ask" : Str)) && (decide (w1 ∈ qs.map (·.1)) && decide ((((w2 :: rest).length : Nat) : Int) = mostOf w1 qs + 1))) = true then some (.ask w1 (nsOf (w2 :: rest))) else none)
    else none
  | _ => none
theorem dp_strs {K : PySem.W.Frag} {H : Hp} : ∀ ws : List Str, DpAll K H (ws.map V.str) (ws.map PyData.str)
  | [] => .nil
  | _ :: ws => .cons (.str _) (dp_strs ws)
theorem eqv_strs : ∀ xs ys : List Str, PyData.eqvAll (xs.map PyData.str) (ys.map PyData.str) = decide (xs = ys)
  | [], [] => rfl
  | [], _ :: _ => rfl
  | _ :: _, [] => rfl
  | x :: xs, y :: ys => by
    have h := eqv_strs xs ys
    show (PyData.eqv (.str x) (.str y) && PyData.eqvAll (xs.map PyData.str) (ys.map PyData.str)) = _
    rw [h]
    show ((x == y) && decide (xs = ys)) = _
    rw [Bool.eq_iff_iff]
    simp
theorem strs_shaped {a : Nat} {ws : List Str} (h : ∀ z ∈ ws, sOk a z) : SeqAt.shaped (.list (ws.map .str)) = true := by
  have g : Gd big (PyData.list (ws.map .str)).weight 1 (.list (ws.map .str)) := by
    refine ⟨?_, Nat.le_refl _, ?_⟩
    · show okAll big (ws.map .str) = true
      rw [okAll_iff]
      intro d hd
      obtain ⟨z, hz, rfl⟩ := List.mem_map.mp hd
      exact (Gd.str (B := big) (h z hz)).ok
    · have key : ∀ ws : List Str, PyData.depthAll (ws.map PyData.str) = 0 := by
        intro ws
        induction ws with
        | nil => rfl
        | cons z ws ih => simp only [List.map_cons, PyData.depthAll, PyData.depth, ih, Nat.max_self]
      show PyData.depthAll (ws.map PyData.str) + 1 ≤ 1
      rw [key]
      exact Nat.le_refl _
  exact shaped_of g (noDi_all fun d hd => by obtain ⟨z, _, rfl⟩ := List.mem_map.mp hd; rfl) (by decide)
section
variable {P : Program} {w : World} {K : PySem.W.Frag} {mg : Str → Option Value} {base : Heap} {fF fNW fOr fMo fI fN fS fA fG fNu fAs fPl fNP fNM fNd aE aM : Addr}
abbrev NIx : List Str := ["settings", "words", "word", "numbers", "order"]
theorem scIx : FnScope NIx ["settings", "words"] (defScope sPIn) := ⟨rfl, rfl, rfl, by decide +kernel, rfl, by decide +kernel, by decide +kernel⟩
def spPIn (K : PySem.W.Frag) : Sp := fun vs H Q _ => ∃ (aS aW : Addr) (xs : List V) (qs : List (Str × Int)) (ws : List Str), vs = [.ref aS, .ref aW] ∧ SqT K H aS xs ∧ PrTs K H xs qs ∧ qs.length ≤ 3 ∧ (qs.map (·.1)).Nodup ∧
  H aW = some (.lst (ws.map V.str)) ∧ (∀ z ∈ ws, sOk 100000 z) ∧ ws.length ≤ 200000 ∧
  (placeIn qs ws = none → ∀ H', Same H H' → Q .non H') ∧ ∀ p, placeIn qs ws = some p → ∀ v H', Same H H' → (∀ m l, Dq K H' m l v p.d) → Q v H'
theorem ok_pin {f : Addr} {fd fdF fdNW fdOr fdN : FuncData} (F : Fun K "place_in" "place_in" sPIn f fd) (T : TxtX mg) (TR : TxtR mg fI fN fS fA fG fNu fAs fPl fMo fNP fNM fNd aE aM) (W : WrT K aE aM) (gD : ∃ t, mg "DIGITS" = some (.str digits t))
    (gF : mg "is_figure" = some (.ref fF)) (FF : Fun K "is_figure" "is_figure" sFig fF fdF) (bF : Binds K fdF ["word"] []) (gNW : mg "is_number_word" = some (.ref fNW)) (FNW : Fun K "is_number_word" "is_number_word" sNWord fNW fdNW) (bNW : Binds K fdNW ["word"] [])
    (gOr : mg "order_of" = some (.ref fOr)) (FOr : Fun K "order_of" "order_of" sPOrder fOr fdOr) (bOr : Binds K fdOr ["settings"] []) (FN : Fun K "is_name" "is_name" sPName fN fdN) (bN : Binds K fdN ["thing"] []) : FnOk P w K mg base CX0 3 f fd ["settings", "words"] (spPIn K) := by
  have GNW : FnOk P w K mg base CX0 2 fNW fdNW ["word"] spNWord := ok_nword FNW T gD gF FF bF
  have GOr : FnOk P w K mg base CX0 1 fOr fdOr ["settings"] (spPOrder K) := ok_porder FOr TR.toTxtP
  have GN : FnOk P w K mg base CX0 1 fN fdN ["thing"] (spName K) := ok_pname FN TR.toTxtP
  refine F.ok scIx (fun vs H Q E h => ?_) (fun cdv A outer s H vs Q E hr h => ?_)
  · obtain ⟨aS, aW, xs, qs, ws, rfl, _⟩ := h
    rfl
  obtain ⟨aS, aW, xs, qs, ws, rfl, hS, hq, l3, nd, hW, hz, lw, q0, q1⟩ := h
  have hr1 : Room 1 _ := hr.mono (by decide)
  have hu := hu_of hr
  have sz : ∀ z ∈ ws, z.length ≤ sizeLine := fun z h => by have := (hz z h).1; rw [sizeLine_eq]; omega
  have st5 : ∃ t, PSs (cxOf CX0 P w K mg base NIx "place_in" (defScope sPIn) f cdv A outer s H E).nox ((defBody sPIn).drop 4) t ∧ ∀ (H5 : Hp) (w0 w1 w2 : Str) (rest : List Str) (pT : Addr) (v2 v4 : Option V), Same H H5 → ws = w0 :: w1 :: w2 :: rest → SqT K H5 pT ((intsN (nsOf (w2 :: rest))).map V.int) →
      placeIn qs ws = (if (decide (w0 = ("ask" : Str)) && (decide (w1 ∈ qs.map (·.1)) && decide ((((w2 :: rest).length : Nat) : Int) = mostOf w1 qs + 1))) = true then some (.ask w1 (nsOf (w2 :: rest))) else none) →
      t ({ nx := fun _ H' => Q .non H', rt := Q } : Ends) [some (.ref aS), some (.ref aW), v2, some (.ref pT), v4] H5 := by
    refine ⟨_, pss_cons (ps_set (i := 4) scIx.nd rfl (by first | exact Or.inl rfl | exact Or.inr rfl) (pe_call GOr hr1 (by rfl) gOr FOr.kp bOr .nil pass0 (pa_cons (pv 0) pa_nil)))
      (pss_cons (ps_if (PW.pt (pw_and (pt_cmpR op_eq (pe_ix (show IxR _ (rIxL K) from ix_list) (pv 1) pe_int (fun _ _ => rfl)) pe_str (nomark _)) (pw_and (pt_cmp (pc_din hu (pe_ix (show IxR _ (rIxL K) from ix_list) (pv 1) pe_int (fun _ _ => rfl)) (pv 4)))
          (pw_and1 (pt_cmpR op_eq (pe_callB call_len_seq (by rfl) T.len PySem.boot_len (pa_cons (pv 3) pa_nil)) (pe_op op_add (pe_ix ix_tup (pe_ix ix_tup (pv 0) (pe_dget hu (pv 4) (pe_ix (show IxR _ (rIxL K) from ix_list) (pv 1) pe_int (fun _ _ => rfl)) (fun _ _ => rfl)) (fun _ _ => rfl)) pe_int (fun _ _ => rfl)) pe_int) (nomark _))))))
        (pss_one (ps_ret (pe_tup (pa_cons pe_str (pa_cons (pe_ix (show IxR _ (rIxL K) from ix_list) (pv 1) pe_int (fun _ _ => rfl)) (pa_cons (pv 3) pa_nil)))))) pss_nil)
      (pss_one (ps_ret pe_non))), ?_⟩
    intro H5 w0 w1 w2 rest pT v2 v4 s5 ew hT ep
    subst ew
    have g0 : ∀ G, Same H G → atI (((w0 :: w1 :: w2 :: rest).map V.str)) ((0 : Nat) : Int) = some (.str w0) := fun _ _ => atI_nat rfl
    have g1 : ∀ G, Same H G → atI (((w0 :: w1 :: w2 :: rest).map V.str)) ((1 : Nat) : Int) = some (.str w1) := fun _ _ => atI_nat rfl
    refine ⟨_, rfl, aS, xs, qs, rfl, Same.seqT s5 hS, PrTs.same s5 hq, by omega, nd, fun Dd hDd H6 s6 gD => ?_⟩
    have s06 := s5.trans s6
    refine ⟨_, rfl, aW, _, 0, .str w0, rfl, rfl, SqL.of (s06 _ _ hW), g0 _ s06, rfl, _, rfl, ?_⟩
    rw [str_dec]
    cases c0 : decide (w0 = ("ask" : Str)) with
    | false =>
      rw [c0] at ep
      exact iteF (q0 ep _ s06)
    | true =>
      refine iteT ⟨_, rfl, aW, _, 1, .str w1, rfl, rfl, SqL.of (s06 _ _ hW), g1 _ s06, _, rfl, Dd, _, rfl, DGet.k (k := Sum.inr w1) gD, _, rfl, ?_⟩
      cases c1 : decide (w1 ∈ qs.map (·.1)) with
      | false =>
        rw [c0, c1] at ep
        have en : valV (ordK qs) (Sum.inr w1) = none := ordF_none 0 qs (of_decide_eq_false c1)
        rw [en]
        exact iteF (q0 ep _ s06)
      | true =>
        have hin := of_decide_eq_true c1
        have en : valV (ordK qs) (Sum.inr w1) = some (.int ((0 + idxN w1 qs : Nat) : Int)) := ordF_at 0 qs hin
        rw [Nat.zero_add] at en
        rw [en]
        obtain ⟨qq, hqq, _, _⟩ := idxN_at (z := w1) (qs := qs) hin
        have lx := hq.len
        obtain ⟨bI, _⟩ := List.getElem?_eq_some_iff.mp hqq
        obtain ⟨xv, hxv⟩ : ∃ xv, xs[idxN w1 qs]? = some xv := ⟨_, List.getElem?_eq_getElem (by omega)⟩
        obtain ⟨q', hq', b, rfl, hb⟩ := hq.get hxv
        have eq' : q' = qq := Option.some.inj (hq'.symm.trans hqq)
        subst eq'
        have em : mostOf w1 qs = q'.2 := by unfold mostOf; rw [hqq]; rfl
        have ll : ((intsN (nsOf (w2 :: rest))).map V.int).length = (w2 :: rest).length := by
          rw [List.length_map]
          show ((nsOf (w2 :: rest)).map fun (n : Nat) => (n : Int)).length = _
          rw [List.length_map]
          exact List.length_map ..
        have dg : DGet H6 Dd (.str w1) (some (.int ((idxN w1 qs : Nat) : Int))) := by
          rw [← en]
          exact DGet.k (k := Sum.inr w1) gD
        refine iteT ⟨_, rfl, pT, _, rfl, .inr (Same.seqT s6 hT), _, rfl, _, rfl, _, rfl, aW, _, 1, .str w1, rfl, rfl, SqL.of (s06 _ _ hW), g1 _ s06, Dd, _, rfl, dg, aS, _, ((idxN w1 qs : Nat) : Int), .ref b, rfl, rfl, Same.seqT s06 hS, atI_nat hxv, b, _, 1, .int q'.2, rfl, rfl, Same.seqT s06 hb, rfl, _, _, rfl, rfl, rfl, _, rfl, ?_⟩
        rw [em] at ep
        have e2 : decide (V.int ((((intsN (nsOf (w2 :: rest))).map V.int).length : Nat) : Int) = V.int (q'.2 + 1)) = decide ((((w2 :: rest).length : Nat) : Int) = q'.2 + 1) := by
          rw [ll, Bool.eq_iff_iff, decide_eq_true_eq, decide_eq_true_eq, V.int.injEq]
        rw [e2]
        cases c2 : decide ((((w2 :: rest).length : Nat) : Int) = q'.2 + 1) with
        | false =>
          rw [c0, c1, c2] at ep
          exact iteF (q0 ep _ s06)
        | true =>
          rw [c0, c1, c2] at ep
          refine iteT ⟨_, rfl, aW, _, 1, .str w1, rfl, rfl, SqL.of (s06 _ _ hW), g1 _ s06, _, rfl, (by show 3 ≤ sizeLine; decide), fun t ht => ?_⟩
          have st : Same H6 (upd H6 t (.tup [.str "ask", .str w1, .ref pT])) := Same.upd ht
          exact q1 _ ep (.ref t) _ (s06.trans st) fun m l => .tup (.inl (.inl upd_same)) (.cons (.str _) (.cons (.str _) (.cons (.tup (Same.seqT st (Same.seqT s6 hT)) (ints_dq _)) .nil)))
  obtain ⟨t5, d5, z5⟩ := st5
  refine ⟨_, pss_cons (ps_if (pt_cmpR (show OpR _ (compareOp .Eq) (rEqD K) from op_eqD (by exact hr.units)) (pv 1) (pe_lst (pa_cons pe_str pa_nil)) (nomark _)) (pss_one (ps_ret (pe_glob (v := .ref aE) rfl TR.gE rfl))) pss_nil)
    (pss_cons (ps_if (PW.pt (pw_or (pt_cmpR op_lt (pe_callB call_len_seq (by rfl) T.len PySem.boot_len (pa_cons (pv 1) pa_nil)) pe_int (nomark _)) (pw_or1 (pt_not (pt_val (pe_callB (cr_all rfl) (by rfl) T.all (by decide +kernel) (pa_cons (pe_lc (own := [("word", 2)]) (g := gName 2) (by rfl) scIx.nd (pi_list (pe_slice sl_list (pv 1) (po_some pe_int) po_none)) (blkOk_by (own := [("word", 2)]) (N := NIx) (sc := defScope sPIn) (by decide +kernel))
        (fun _ _ _ _ _ => pg_name (i := 2) scIx.nd rfl (by first | exact Or.inl rfl | exact Or.inr rfl)) (fun _ _ _ _ _ => pts_nil) (fun _ _ _ _ _ => pe_call GNW hr (by rfl) gNW FNW.kp bNW .nil pass0 (pa_cons (pv 2) pa_nil))) pa_nil))))))) (pss_one (ps_ret pe_non)) pss_nil)
    (pss_cons (ps_set (i := 3) scIx.nd rfl (by first | exact Or.inl rfl | exact Or.inr rfl) (pe_callTy call_tuple_of (by rfl) T.tuple (by decide +kernel) (pa_cons (pe_lc (own := [("word", 2)]) (g := gName 2) (by rfl) scIx.nd (pi_list (pe_slice sl_list (pv 1) (po_some pe_int) po_none)) (blkOk_by (own := [("word", 2)]) (N := NIx) (sc := defScope sPIn) (by decide +kernel))
        (fun _ _ _ _ _ => pg_name (i := 2) scIx.nd rfl (by first | exact Or.inl rfl | exact Or.inr rfl)) (fun _ _ _ _ _ => pts_nil) (fun _ _ _ _ _ => pe_callTy call_int_str (by rfl) T.int (by decide +kernel) (pa_cons (pv 2) pa_nil))) pa_nil)))
    (pss_cons (ps_if (PW.pt (pw_and (pt_cmpR op_eq (pe_ix (show IxR _ (rIxL K) from ix_list) (pv 1) pe_int (fun _ _ => rfl)) pe_str (nomark _)) (pw_and (pt_val (pe_call GN hr1 (by rfl) TR.gN FN.kp bN .nil pass0 (pa_cons (pe_ix (show IxR _ (rIxL K) from ix_list) (pv 1) pe_int (fun _ _ => rfl)) pa_nil)))
        (pw_and1 (pt_cmpR op_eq (pe_callB call_len_seq (by rfl) T.len PySem.boot_len (pa_cons (pv 3) pa_nil)) pe_int (nomark _)))))) (pss_one (ps_ret (pe_tup (pa_cons pe_str (pa_cons (pe_ix (show IxR _ (rIxL K) from ix_list) (pv 1) pe_int (fun _ _ => rfl)) (pa_cons (pe_ix ix_tup (pv 3) pe_int (fun _ _ => rfl)) pa_nil)))))) pss_nil) d5))), ?_⟩
  refine ⟨_, rfl, (by show 1 ≤ sizeLine; decide), fun p hp => ?_⟩
  have sp : Same H (upd H p (.lst [.str "end"])) := Same.upd hp
  refine ⟨.list (ws.map .str), .list [.str "end"], .lst (SqL.of (sp _ _ hW)) (dp_strs ws), .lst (SqL.of upd_same) (.cons (.str _) .nil), strs_shaped hz, strs_shaped (a := 16) (ws := [("end" : Str)]) (fun z h => by rw [List.mem_singleton] at h; subst h; exact ⟨by decide, by decide⟩), _, rfl, ?_⟩
  have eq0 : PyData.eqv (.list (ws.map .str)) (.list [.str "end"]) = decide (ws = [("end" : Str)]) := eqv_strs ws [("end" : Str)]
  rw [eq0]
  by_cases he : ws = [("end" : Str)]
  · refine ifT (decide_eq_true he) ?_
    exact q1 .fin (by unfold placeIn; rw [if_pos he]) (.ref aE) _ sp fun m l => .tup (W.e _) (.cons (.str _) .nil)
  refine ifF (decide_eq_false he) ?_
  generalize upd H p (.lst [.str "end"]) = H1 at sp ⊢
  refine ⟨_, rfl, aW, _, rfl, .inl (SqL.of (sp _ _ hW)), _, _, rfl, rfl, _, rfl, ?_⟩
  by_cases h3 : ws.length < 3
  · refine ifT (decide_eq_true (by rw [List.length_map]; omega)) ?_
    refine q0 ?_ _ sp
    unfold placeIn
    rw [if_neg he]
    match ws, h3 with
    | [], _ => rfl
    | [_], _ => rfl
    | [_, _], _ => rfl
  refine ifF (decide_eq_false (by rw [List.length_map]; omega)) ?_
  obtain ⟨w0, w1, w2, rest, rfl⟩ : ∃ w0 w1 w2 rest, ws = w0 :: w1 :: w2 :: rest := by
    match ws, h3 with
    | w0 :: w1 :: w2 :: rest, _ => exact ⟨w0, w1, w2, rest, rfl⟩
    | [], h => exact absurd (by decide) h
    | [_], h => exact absurd (by show 1 < 3; decide) h
    | [_, _], h => exact absurd (by show 2 < 3; decide) h
  have ec : cutV ((w0 :: w1 :: w2 :: rest).map V.str) (some 2) none = (w2 :: rest).map V.str := by
    have e := cut_from (xs := (w0 :: w1 :: w2 :: rest).map V.str) (i := 2) (by simp)
    exact e
  have lw2 : (w2 :: rest).length ≤ 200000 := by simp only [List.length_cons] at lw ⊢; omega
  have big1 : ∀ n, n ≤ 200000 → n < sizeLine := fun n h => by rw [sizeLine_eq]; omega
  refine ⟨_, rfl, _, rfl, noPart ⟨aW, _, rfl, SqL.of (sp _ _ hW), fun p2 hp2 => ?_⟩⟩
  rw [ec]
  have sp2 : Same H1 (upd H1 p2 (.lst ((w2 :: rest).map V.str))) := Same.upd hp2
  refine ⟨p2, rfl, ⟨_, SqL.of upd_same⟩, fun D2 hD2 => ?_⟩
  have nD2 : p2 ≠ D2 := fun e => by rw [← e, upd_same] at hD2; cases hD2
  refine lc_it (walk_list (xs := (w2 :: rest).map V.str)) (fun i H3 => H3 = upd (upd H1 p2 (.lst ((w2 :: rest).map V.str))) D2 (.lst ((((w2 :: rest).take i).map fun z => (numW z).isSome).map V.bl))) rfl (fun i H3 _ e3 => SqL.of (by rw [e3, upd_ne nD2, upd_same])) ?_ ?_
  · rintro i y H3 H4 hi e3 ⟨rfl, hy⟩
    rw [List.getElem?_map] at hy
    obtain ⟨z, hz', rfl⟩ := Option.map_eq_some_iff.mp hy
    have ti : (w2 :: rest).take (i + 1) = (w2 :: rest).take i ++ [z] := by rw [List.take_succ, hz']; rfl
    refine ⟨rfl, tyes ⟨_, rfl, z, rfl, sz z (List.mem_cons_of_mem _ (List.mem_cons_of_mem _ (List.mem_of_getElem? hz'))), _, by rw [e3]; exact upd_same, big1 _ (by rw [List.length_map, List.length_map, List.length_take]; omega), ?_⟩⟩
    rw [e3, upd_upd, ti, List.map_append, List.map_append]
    rfl
  rintro H3 e3
  rw [List.length_map, List.take_of_length_le (Nat.le_refl _)] at e3
  have s3 : Same (upd H1 p2 (.lst ((w2 :: rest).map V.str))) H3 := e3 ▸ Same.upd hD2
  have s13 := (sp.trans sp2).trans s3
  refine ⟨D2, (w2 :: rest).map fun z => (numW z).isSome, rfl, SqL.of (by rw [e3, upd_same]), _, rfl, ?_⟩
  have ea : ((w2 :: rest).map fun z => (numW z).isSome).all id = (w2 :: rest).all fun z => (numW z).isSome := by rw [List.all_map]; rfl
  rw [ea]
  have ep0 : placeIn qs (w0 :: w1 :: w2 :: rest) = (if ((w2 :: rest).all fun z => (numW z).isSome) = true then
      (if (decide (w0 = ("do" : Str)) && (isName (.str w1) && decide ((w2 :: rest).length = 1))) = true then some (.go w1 ((numW w2).getD 0))
      else if (decide (w0 = ("ask" : Str)) && (decide (w1 ∈ qs.map (·.1)) && decide ((((w2 :: rest).length : Nat) : Int) = mostOf w1 qs + 1))) = true then some (.ask w1 (nsOf (w2 :: rest))) else none) else none) := by
    unfold placeIn
    rw [if_neg he]
  cases hall : (w2 :: rest).all fun z => (numW z).isSome with
  | false =>
    rw [hall] at ep0
    exact iteT (q0 ep0 _ s13)
  | true =>
    rw [hall, if_pos rfl] at ep0
    refine iteF ?_
    refine ⟨_, rfl, _, rfl, noPart ⟨aW, _, rfl, SqL.of (s13 _ _ hW), fun p3 hp3 => ?_⟩⟩
    rw [ec]
    have sp3 : Same H3 (upd H3 p3 (.lst ((w2 :: rest).map V.str))) := Same.upd hp3
    refine ⟨p3, rfl, ⟨_, SqL.of upd_same⟩, fun D3 hD3 => ?_⟩
    have nD3 : p3 ≠ D3 := fun e => by rw [← e, upd_same] at hD3; cases hD3
    refine lc_it (walk_list (xs := (w2 :: rest).map V.str)) (fun i H4 => H4 = upd (upd H3 p3 (.lst ((w2 :: rest).map V.str))) D3 (.lst ((intsN (nsOf ((w2 :: rest).take i))).map V.int))) rfl (fun i H4 _ e4 => SqL.of (by rw [e4, upd_ne nD3, upd_same])) ?_ ?_
    · rintro i y H4 H5 hi e4 ⟨rfl, hy⟩
      rw [List.getElem?_map] at hy
      obtain ⟨z, hz', rfl⟩ := Option.map_eq_some_iff.mp hy
      have ti : (w2 :: rest).take (i + 1) = (w2 :: rest).take i ++ [z] := by rw [List.take_succ, hz']; rfl
      have hn := (List.all_eq_true.mp hall) z (List.mem_of_getElem? hz')
      obtain ⟨n, en⟩ := Option.isSome_iff_exists.mp hn
      obtain ⟨i1, i2, _⟩ := numW_int en
      refine ⟨rfl, tyes ⟨_, rfl, z, (n : Int), rfl, i1, i2, _, by rw [e4]; exact upd_same, big1 _ ?_, ?_⟩⟩
      · rw [List.length_map]
        show ((nsOf ((w2 :: rest).take i)).map fun (n : Nat) => (n : Int)).length ≤ _
        rw [List.length_map]
        show (((w2 :: rest).take i).map fun z => (numW z).getD 0).length ≤ _
        rw [List.length_map, List.length_take]
        omega
      · rw [e4, upd_upd, ti]
        have : (intsN (nsOf ((w2 :: rest).take i ++ [z]))).map V.int = (intsN (nsOf ((w2 :: rest).take i))).map V.int ++ [.int (n : Int)] := by
          unfold intsN nsOf
          rw [List.map_append, List.map_append, List.map_append]
          show _ ++ [V.int (((numW z).getD 0 : Nat) : Int)] = _
          rw [en]; rfl
        rw [this]
    rintro H4 e4
    rw [List.length_map, List.take_of_length_le (Nat.le_refl _)] at e4
    have s4 : Same (upd H3 p3 (.lst ((w2 :: rest).map V.str))) H4 := e4 ▸ Same.upd hD3
    refine ⟨D3, _, rfl, .inl ⟨SqL.of (by rw [e4, upd_same]), fun pT hpT => ?_⟩⟩
    have sT : Same H4 (upd H4 pT (.tup ((intsN (nsOf (w2 :: rest))).map V.int))) := Same.upd hpT
    have gT : (upd H4 pT (.tup ((intsN (nsOf (w2 :: rest))).map V.int))) pT = some (.tup ((intsN (nsOf (w2 :: rest))).map V.int)) := upd_same
    generalize upd H4 pT (.tup ((intsN (nsOf (w2 :: rest))).map V.int)) = H5 at sT gT ⊢
    have s5 := ((s13.trans sp3).trans s4).trans sT
    have hT : SqT K H5 pT ((intsN (nsOf (w2 :: rest))).map V.int) := .inl (.inl gT)
    have g0 : atI (((w0 :: w1 :: w2 :: rest).map V.str)) ((0 : Nat) : Int) = some (.str w0) := atI_nat rfl
    have g1 : atI (((w0 :: w1 :: w2 :: rest).map V.str)) ((1 : Nat) : Int) = some (.str w1) := atI_nat rfl
    refine ⟨_, rfl, aW, _, 0, .str w0, rfl, rfl, SqL.of (s5 _ _ hW), g0, rfl, _, rfl, ?_⟩
    rw [str_dec]
    cases c0 : decide (w0 = ("do" : Str)) with
    | false =>
      rw [c0] at ep0
      exact iteF (z5 H5 w0 w1 w2 rest pT _ _ s5 rfl hT ep0)
    | true =>
      refine iteT ⟨_, rfl, aW, _, 1, .str w1, rfl, rfl, SqL.of (s5 _ _ hW), g1, 0, 0, .str w1, .str w1, rfl, .str _, fun z ez => (by cases ez; exact hz _ (List.mem_cons_of_mem _ (List.mem_cons_self ..))), fun H6 s6 => ⟨_, rfl, ?_⟩⟩
      have s56 := s5.trans s6
      cases c1 : isName (.str w1) with
      | false =>
        rw [c0, c1] at ep0
        exact iteF (z5 H6 w0 w1 w2 rest pT _ _ s56 rfl (Same.seqT s6 hT) ep0)
      | true =>
        refine iteT ⟨_, rfl, pT, _, rfl, .inr (Same.seqT s6 hT), rfl, _, rfl, ?_⟩
        have ll : ((intsN (nsOf (w2 :: rest))).map V.int).length = (w2 :: rest).length := by
          rw [List.length_map]
          show ((nsOf (w2 :: rest)).map fun (n : Nat) => (n : Int)).length = _
          rw [List.length_map]
          exact List.length_map ..
        rw [ll, len_dec1]
        cases c2 : decide ((w2 :: rest).length = 1) with
        | false =>
          rw [c0, c1, c2] at ep0
          exact iteF (z5 H6 w0 w1 w2 rest pT _ _ s56 rfl (Same.seqT s6 hT) ep0)
        | true =>
          rw [c0, c1, c2] at ep0
          refine iteT ⟨_, rfl, aW, _, 1, .str w1, rfl, rfl, SqL.of (s56 _ _ hW), g1, _, rfl, pT, _, 0, .int (((numW w2).getD 0 : Nat) : Int), rfl, rfl, Same.seqT s6 hT, (show atI _ ((0 : Nat) : Int) = _ from atI_nat rfl), (by show 3 ≤ sizeLine; decide), fun t ht => ?_⟩
          have st : Same H6 (upd H6 t (.tup [.str "do", .str w1, .int (((numW w2).getD 0 : Nat) : Int)])) := Same.upd ht
          exact q1 _ ep0 (.ref t) _ (s56.trans st) fun m l => .tup (.inl (.inl upd_same)) (.cons (.str _) (.cons (.str _) (.cons (.int _) .nil)))
end
end Ms
namespace Ms
open PySem PySem.Spec PyProof.Rows L2
/-! ### lines_of -/
structure ErrF (K : PySem.W.Frag) (C fE : Addr) (n : Str) : Prop where
  ox : OexC K C
  ini : PySem.W.findIn K (.ref C) "__init__" = some (some (.ref fE))
  ty : PySem.W.typeIn K (.ref fE) = some (.type "function")
  no : PySem.W.findIn K (.ref C) n = some none
def spIniF (C : Addr) (n : Str) : Sp := fun vs H Q _ => ∃ (a : Addr) (y : V), vs = [.ref a, y] ∧ H a = some (exo a C none) ∧ ∀ dx, H dx = none → dx ≠ a → Q .non (upd (upd H dx (exd dx [(n, y)])) a (exo a C (some dx)))
theorem mk_oneF {C : Addr} {n : Str} {H1 : Hp} {y : V} {Q : XK} (h : ∀ d H', H1 d = none → Same H1 H' → H' d = some (.xd [(n, y)]) → Q (.ref C) (some d) H') :
    [y].length ≤ 1000 ∧ ∀ a, H1 a = none → spIniF C n (.ref a :: ([y] ++ [])) (upd H1 a (exo a C none))
      (fun v H2 => v = .non ∧ ∃ (d : Addr) (fs : List (Str × V)), H2 a = some (exo a C (some d)) ∧ H2 d = some (exd d fs) ∧ H1 d = none ∧ Q (.ref C) (some d) (upd (del H2 a) d (.xd fs))) (fun _ _ _ => False) := by
  refine ⟨(by show 1 ≤ 1000; decide), fun a ha => ⟨a, y, rfl, upd_same, fun dx h1 h2 => ?_⟩⟩
  have hd : H1 dx = none := by rw [upd_ne h2] at h1; exact h1
  refine ⟨rfl, dx, [(n, y)], upd_same, by rw [upd_ne h2, upd_same], hd, h dx _ hd (fun b o e => ?_) upd_same⟩
  rw [upd_ne (ne_of_none e hd), del_ne (ne_of_none e ha), upd_ne (ne_of_none e ha), upd_ne (ne_of_none e hd), upd_ne (ne_of_none e ha)]
  exact e
theorem spl_ok (S : List Nat) : ∀ (l : List Nat) (k : Nat) (acc : List Nat), (TL.spl S k acc l).length ≤ l.length + 1 ∧ TL.spl S k acc l ≠ [] ∧ ∀ p ∈ TL.spl S k acc l, p.length ≤ acc.length + l.length ∧ ∀ c ∈ p, c ∈ acc ∨ c ∈ l
  | [], k, acc => by
    rw [TL.spl_nil]
    exact ⟨Nat.le_refl _, (by simp), fun p hp => by rw [List.mem_singleton.mp hp]; exact ⟨Nat.le_refl _, fun c h => .inl h⟩⟩
  | c :: r, k + 1, acc => by
    obtain ⟨h1, h2, h3⟩ := spl_ok S r k acc
    refine ⟨Nat.le_trans h1 (by simp), h2, fun p hp => ?_⟩
    obtain ⟨h4, h5⟩ := h3 p hp
    exact ⟨by simp only [List.length_cons]; omega, fun c h => (h5 c h).imp id (List.mem_cons_of_mem _)⟩
  | c :: r, 0, acc => by
    cases e : TL.pre S (c :: r) with
    | true =>
      rw [TL.spl_hit e]
      obtain ⟨h1, h2, h3⟩ := spl_ok S r (S.length - 1) []
      refine ⟨by simp only [List.length_cons]; omega, by simp, fun p hp => ?_⟩
      rcases List.mem_cons.mp hp with rfl | hp
      · exact ⟨by simp only [List.length_cons]; omega, fun c h => .inl h⟩
      · obtain ⟨h4, h5⟩ := h3 p hp
        exact ⟨by simp only [List.length_cons, List.length_nil] at h4 ⊢; omega, fun c h => .inr (List.mem_cons_of_mem _ ((h5 c h).resolve_left (fun z => nomatch z)))⟩
    | false =>
      rw [TL.spl_miss e]
      obtain ⟨h1, h2, h3⟩ := spl_ok S r 0 (acc ++ [c])
      refine ⟨Nat.le_trans h1 (by simp), h2, fun p hp => ?_⟩
      obtain ⟨h4, h5⟩ := h3 p hp
      refine ⟨by simp only [List.length_cons, List.length_append, List.length_nil] at h4 ⊢; omega, fun x h => ?_⟩
      rcases h5 x h with h | h
      · rcases List.mem_append.mp h with h | h
        · exact .inl h
        · rw [List.mem_singleton.mp h]; exact .inr (List.mem_cons_self ..)
      · exact .inr (List.mem_cons_of_mem _ h)
theorem split_ok {z y : Str} {a : Nat} (hy : TL.tl y ≠ []) (hk : y.cps.all (· < 256) = true) (h : sOk a z) : (Txt.split z y).length ≤ a + 1 ∧ Txt.split z y ≠ [] ∧ ∀ p ∈ Txt.split z y, sOk a p := by
  have e := TL.split_spl z y hy (TL.kind_ok hk)
  obtain ⟨h1, h2, h3⟩ := spl_ok (TL.tl y) (TL.tl z) 0 []
  rw [← e] at h1 h2 h3
  have l := h.1
  rw [TL.len_tl] at l
  rw [List.length_map] at h1
  refine ⟨by omega, fun z => h2 (by rw [z]; rfl), fun p hp => ?_⟩
  obtain ⟨h4, h5⟩ := h3 (TL.tl p) (List.mem_map_of_mem hp)
  exact ⟨by rw [TL.len_tl]; simp only [List.length_nil] at h4; omega, fun c hc => h.2 c ((h5 c hc).resolve_left (fun z => nomatch z))⟩
def linesOf (z : Str) : List (List Str) := (Txt.split z newl).map fun y => Txt.split y blank
theorem nl_tl : TL.tl newl = [10] := by decide +kernel
theorem bl_tl : TL.tl blank = [32] := by decide +kernel
theorem lines_ok {a : Nat} {z : Str} (h : sOk a z) : (linesOf z).length ≤ a + 1 ∧ linesOf z ≠ [] ∧ ∀ ws ∈ linesOf z, ws ≠ [] ∧ ws.length ≤ a + 1 ∧ ∀ w ∈ ws, sOk a w := by
  obtain ⟨h1, h2, h3⟩ := split_ok (y := newl) (by rw [nl_tl]; simp) (by decide +kernel) h
  refine ⟨by unfold linesOf; rw [List.length_map]; exact h1, fun e => h2 (List.map_eq_nil_iff.mp e), fun ws hw => ?_⟩
  obtain ⟨y, hy, rfl⟩ := List.mem_map.mp hw
  obtain ⟨g1, g2, g3⟩ := split_ok (y := blank) (by rw [bl_tl]; simp) (by decide +kernel) (h3 y hy)
  exact ⟨g2, g1, g3⟩
/-- the lines in the heap -/
def Lns (H : Hp) (as : List Addr) (lss : List (List Str)) : Prop := as.length = lss.length ∧ ∀ (i : Nat) (a : Addr), as[i]? = some a → ∃ ws : List Str, lss[i]? = some ws ∧ H a = some (.lst (ws.map V.str))
theorem Lns.same {H H' : Hp} {as : List Addr} {lss : List (List Str)} (s : Same H H') (h : Lns H as lss) : Lns H' as lss := ⟨h.1, fun i a e => let ⟨ws, h1, h2⟩ := h.2 i a e; ⟨ws, h1, s _ _ h2⟩⟩
theorem Lns.snoc {H : Hp} {as : List Addr} {lss : List (List Str)} {a : Addr} {ws : List Str} (h : Lns H as lss) (e : H a = some (.lst (ws.map V.str))) : Lns H (as ++ [a]) (lss ++ [ws]) := by
  refine ⟨by rw [List.length_append, List.length_append, h.1]; rfl, fun i b hb => ?_⟩
  by_cases hi : i < as.length
  · rw [List.getElem?_append_left hi] at hb
    obtain ⟨vs, h1, h2⟩ := h.2 i b hb
    exact ⟨vs, by rw [List.getElem?_append_left (by rw [← h.1]; exact hi)]; exact h1, h2⟩
  · rw [List.getElem?_append_right (by omega)] at hb
    have e0 : i - as.length = 0 := by
      obtain ⟨hl, _⟩ := List.getElem?_eq_some_iff.mp hb
      simp only [List.length_cons, List.length_nil] at hl
      omega
    rw [e0] at hb
    have eb : a = b := Option.some.inj hb
    subst eb
    exact ⟨ws, by rw [List.getElem?_append_right (by rw [← h.1]; omega), ← h.1, e0]; rfl, e⟩
section
variable {P : Program} {w : World} {K : PySem.W.Frag} {mg : Str → Option Value} {base : Heap} {C fE : Addr}
theorem scIx2 : FnScope ["self", "line"] ["self", "line"] (defScope sIniX) := ⟨rfl, rfl, rfl, by decide +kernel, rfl, by decide +kernel, by decide +kernel⟩
theorem ok_iniX {fd : FuncData} {qual : Str} (F : Fun K "__init__" qual sIniX fE fd) (TE : ErrF K C fE "line") : FnOk P w K mg base CX0 1 fE fd ["self", "line"] (spIniF C "line") := by
  refine F.ok scIx2 (fun vs H Q E h => ?_) (fun cdv A outer s H vs Q E hr h => ?_)
  · obtain ⟨a, y, rfl, _⟩ := h
    rfl
  · obtain ⟨a, y, rfl, e, q⟩ := h
    exact ⟨_, pss_one (ps_ost (pv 0) (pv 1)), ⟨_, rfl, _, rfl, a, C, rfl, TE.ox, TE.no, .inl ⟨e, fun dx h1 h2 => q dx h1 h2⟩⟩⟩
abbrev NLi : List Str := ["text", "line"]
theorem scLi : FnScope NLi ["text"] (defScope sLines) := ⟨rfl, rfl, rfl, by decide +kernel, rfl, by decide +kernel, by decide +kernel⟩
def spLines (K : PySem.W.Frag) (C : Addr) : Sp := fun vs H Q E => ∃ (m l : Addr) (v : V) (d : PyData), vs = [v] ∧ Dq K H m l v d ∧ (∀ z, d = .str z → sOk 100000 z) ∧
  ((∀ z, d ≠ .str z) → ∀ dx H', H dx = none → Same H H' → H' dx = some (.xd [("line", .non)]) → E (.ref C) (some dx) H') ∧
  ∀ z, d = .str z → ∀ D as H', H D = none → Same H H' → H' D = some (.lst (as.map V.ref)) → Lns H' as (linesOf z) → Q (.ref D) H'
theorem ok_lines {f : Addr} {fd fdE : FuncData} {qual : Str} (F : Fun K "lines_of" "lines_of" sLines f fd) (T : TxtX mg) (gC : mg "BadText" = some (.ref C)) (TE : ErrF K C fE "line")
    (FE : Fun K "__init__" qual sIniX fE fdE) (bE : Binds K fdE ["self", "line"] []) : FnOk P w K mg base (L2.CX P w) 3 f fd ["text"] (spLines K C) := by
  have GE : FnOk P w K mg base CX0 1 fE fdE ["self", "line"] (spIniF C "line") := ok_iniX FE TE
  refine F.okX scLi (fun vs H Q E h => ?_) (fun cdv A outer s H vs Q E hr h => ?_)
  · obtain ⟨m, l, v, d, rfl, _⟩ := h
    rfl
  obtain ⟨m, l, v, d, rfl, hd, hz, qe, q⟩ := h
  refine ⟨_, pss_cons (ps_if (pt_not (pt_val (pe_callB call_isi (by rfl) T.isi PyProof.Rows.boot_isinstance (pa_cons (pv 0) (pa_cons (pe_bltn (v := .ty "str") (u := .type "str") (by rfl) T.str (by decide +kernel) rfl) pa_nil)))))
      (pss_one (ps_raise rfl (takes_of rfl rfl rfl rfl) (pmk_oex TE.ox TE.ini TE.ty GE hr bE .nil pass0 (by rfl) gC (pa_cons pe_non pa_nil)))) pss_nil)
    (pss_one (ps_ret (pe_lc (own := [("line", 1)]) (g := gName 1) (by rfl) scLi.nd (pi_list (pe_split (pv 0) pe_str)) (blkOk_by (own := [("line", 1)]) (N := NLi) (sc := defScope sLines) (by decide +kernel))
      (fun _ _ _ _ _ => pg_name (i := 1) scLi.nd rfl (by first | exact Or.inl rfl | exact Or.inr rfl)) (fun _ _ _ _ _ => pts_nil) (fun _ _ _ _ _ => pe_split (pv 1) pe_str)))), ?_⟩
  refine ⟨_, rfl, v, .ty "str", _, _, _, rfl, .ty _, hd.ty, isi_str K d, _, rfl, ?_⟩
  cases d with
  | str z =>
    cases hd
    refine ifF rfl ?_
    have hs := hz z rfl
    have l1 := hs.1
    obtain ⟨s1, s2, s3⟩ := split_ok (y := newl) (by rw [nl_tl]; simp) (by decide +kernel) hs
    refine ⟨_, rfl, ⟨z, rfl⟩, z, newl, rfl, rfl, (by decide), by rw [sizeLine_eq]; omega, fun p hp => ?_⟩
    have sp : Same H (upd H p (.lst ((Txt.split z newl).map V.str))) := Same.upd hp
    refine ⟨p, rfl, ⟨_, SqL.of upd_same⟩, fun D hD => ?_⟩
    have nD : p ≠ D := fun e => by rw [← e, upd_same] at hD; cases hD
    have hDH : H D = none := Same.free sp hD
    have gp : (upd H p (.lst ((Txt.split z newl).map V.str))) p = some (.lst ((Txt.split z newl).map V.str)) := upd_same
    generalize upd H p (.lst ((Txt.split z newl).map V.str)) = H1 at sp hD gp ⊢
    refine lc_it (walk_list (xs := (Txt.split z newl).map V.str)) (fun i H3 => Same H1 H3 ∧ ∃ as : List Addr, H3 D = some (.lst (as.map V.ref)) ∧ Lns H3 as (((Txt.split z newl).take i).map fun y => Txt.split y blank)) ⟨Same.upd hD, [], upd_same, rfl, fun i a h => nomatch h⟩ (fun i H3 _ ⟨s3, _⟩ => SqL.of (s3 _ _ gp)) ?_ ?_
    · rintro i y H3 H4 hi ⟨s4, as, g3, L3⟩ ⟨rfl, hy⟩
      rw [List.getElem?_map] at hy
      obtain ⟨y, hy', rfl⟩ := Option.map_eq_some_iff.mp hy
      have ti : (Txt.split z newl).take (i + 1) = (Txt.split z newl).take i ++ [y] := by rw [List.take_succ, hy']; rfl
      have oy := s3 y (List.mem_of_getElem? hy')
      have ly := oy.1
      rw [List.length_map] at hi
      refine ⟨rfl, tyes ⟨_, rfl, ⟨y, rfl⟩, y, blank, rfl, rfl, (by decide), by rw [sizeLine_eq]; omega, fun p2 hp2 => ?_⟩⟩
      have sp2 : Same H4 (upd H4 p2 (.lst ((Txt.split y blank).map V.str))) := Same.upd hp2
      have la : as.length ≤ 100001 := by rw [L3.1, List.length_map, List.length_take]; omega
      refine ⟨as.map V.ref, sp2 _ _ g3, by rw [List.length_map, sizeLine_eq]; omega, fun b o e => ?_, as ++ [p2], by rw [upd_same, List.map_append]; rfl, ?_⟩
      · rw [upd_ne (ne_of_none e hD)]; exact sp2 _ _ (s4 _ _ e)
      · rw [ti, List.map_append]
        have L4 := Lns.snoc (Lns.same sp2 L3) (a := p2) (ws := Txt.split y blank) upd_same
        refine ⟨L4.1, fun j b hb => ?_⟩
        obtain ⟨ws, h1, h2⟩ := L4.2 j b hb
        refine ⟨ws, h1, ?_⟩
        have nb : b ≠ D := fun e => by
          rw [e] at h2
          have := (sp2 _ _ g3).symm.trans h2
          injection this with this
          injection this with this
          cases as with
          | cons a0 as' =>
            cases ws with
            | nil => cases this
            | cons w0 ws' => cases (List.cons.inj this).1
          | nil =>
            have : j = 0 := by
              obtain ⟨hl, _⟩ := List.getElem?_eq_some_iff.mp hb
              simp only [List.nil_append, List.length_cons, List.length_nil] at hl
              omega
            subst this
            have e2 : p2 = b := Option.some.inj hb
            rw [e2, e, g3] at hp2
            cases hp2
        rw [upd_ne nb]; exact h2
    · rintro H3 ⟨s4, as, g3, L3⟩
      rw [List.length_map, List.take_of_length_le (Nat.le_refl _)] at L3
      exact q z rfl D as H3 hDH (sp.trans s4) g3 L3
  | _ => exact ifT rfl (mk_oneF fun dx H2 h1 h2 h3 => qe (fun z h => nomatch h) dx H2 h1 h2 h3)
end
end Ms
namespace Ms
open PySem PySem.Spec PyProof.Rows L2
/-! ### what read_request tells -/
def farB (many : Nat) (p : Plc) : Bool := decide ((many : Int) ≤ maxL (intsN p.nums))
def readP (qs : List (Str × Int)) : Nat → List Plc → List (List Str) → Sum Nat (List Plc)
  | _, acc, [] => .inr acc
  | n, acc, ws :: r => match placeIn qs ws with
    | none => .inl n
    | some p => if acc.length = 16 then .inl n else readP qs (n + 1) (acc ++ [p]) r
def firstFar (many : Nat) : Nat → List Plc → Option Nat
  | _, [] => none
  | n, p :: ps => if farB many p = true then some n else firstFar many (n + 1) ps
def readR (qs : List (Str × Int)) (lss : List (List Str)) : Sum Nat (List Plc × List Str) :=
  if mlineB qs.length (lss.headD []) = true then
    match readP qs 2 [] (lss.drop 1) with
    | .inl n => .inl n
    | .inr ps => if ps.length = 0 then .inl 2 else match firstFar ps.length 2 ps with
      | some n => .inl n
      | none => .inr (ps, (lss.headD []).drop 1)
  else .inl 1
/-- what a place read is -/
def PlcIn (qs : List (Str × Int)) : Plc → Prop
  | .fin => True
  | .go z n => nmOk z ∧ n < 100
  | .ask z ns => ∃ q ∈ qs, q.1 = z ∧ (ns.length : Int) = q.2 + 1 ∧ ∀ n ∈ ns, n < 100
theorem name_nm {z : Str} (h : isName (.str z) = true) : nmOk z := by
  have h' : ((decide (1 ≤ z.length) && decide (z.length ≤ 8)) && z.cps.toList.all fun c => decide (c ∈ alpha.cps.toList)) = true := h
  simp only [Bool.and_eq_true, decide_eq_true_eq, List.all_eq_true] at h'
  refine ⟨h'.1.1, h'.1.2, fun c hc => ?_⟩
  have := h'.2 c hc
  rw [alpha_list] at this
  unfold lowC
  simp only [List.mem_cons, List.mem_nil_iff, or_false] at this
  omega
theorem placeIn_in {qs : List (Str × Int)} {ws : List Str} {p : Plc} (h : placeIn qs ws = some p) : PlcIn qs p := by
  unfold placeIn at h
  split at h
  · cases h; exact True.intro
  split at h
  · rename_i w0 w1 w2 rest _hne
    split at h
    · rename_i hall
      have num100 : ∀ z ∈ w2 :: rest, (numW z).getD 0 < 100 := fun z hz => by
        obtain ⟨n, en⟩ := Option.isSome_iff_exists.mp ((List.all_eq_true.mp hall) z hz)
        rw [en]
        exact (numW_int en).2.2
      split at h
      · rename_i hc
        simp only [Bool.and_eq_true, decide_eq_true_eq] at hc
        cases h
        exact ⟨name_nm hc.2.1, num100 _ (List.mem_cons_self ..)⟩
      · split at h
        · rename_i hc
          simp only [Bool.and_eq_true, decide_eq_true_eq] at hc
          cases h
          obtain ⟨q, h1, h2, _⟩ := idxN_at hc.2.1
          have em : mostOf w1 qs = q.2 := by unfold mostOf; rw [h1]; rfl
          refine ⟨q, List.mem_of_getElem? h1, h2, ?_, fun n hn => ?_⟩
          · rw [← em, ← hc.2.2]
            unfold nsOf
            rw [List.length_map]
          · unfold nsOf at hn
            obtain ⟨z, hz, rfl⟩ := List.mem_map.mp hn
            exact num100 z hz
        · cases h
    · cases h
  · cases h
theorem readP_in {qs : List (Str × Int)} : ∀ (lss : List (List Str)) (n : Nat) (acc ps : List Plc), readP qs n acc lss = .inr ps → (∀ p ∈ acc, PlcIn qs p) → acc.length ≤ 16 → (∀ p ∈ ps, PlcIn qs p) ∧ ps.length ≤ 16
  | [], n, acc, ps, h, h1, h2 => by cases h; exact ⟨h1, h2⟩
  | ws :: r, n, acc, ps, h, h1, h2 => by
    unfold readP at h
    split at h
    · cases h
    · rename_i p ep
      split at h
      · cases h
      · rename_i hl
        refine readP_in r (n + 1) (acc ++ [p]) ps h (fun x hx => ?_) (by rw [List.length_append]; show acc.length + 1 ≤ 16; omega)
        rcases List.mem_append.mp hx with hx | hx
        · exact h1 x hx
        · rw [List.mem_singleton.mp hx]; exact placeIn_in ep
theorem foldl_max_ge : ∀ (ns : List Int) (a : Int), a ≤ ns.foldl max a ∧ ∀ n ∈ ns, n ≤ ns.foldl max a
  | [], a => ⟨Int.le_refl _, fun n h => nomatch h⟩
  | m :: ns, a => by
    obtain ⟨h1, h2⟩ := foldl_max_ge ns (max a m)
    refine ⟨?_, fun n hn => ?_⟩
    · show a ≤ ns.foldl max (max a m); omega
    · show n ≤ ns.foldl max (max a m)
      rcases List.mem_cons.mp hn with rfl | hn
      · omega
      · exact h2 n hn
theorem maxL_ge {ns : List Int} {n : Int} (h : n ∈ ns) : n ≤ maxL ns := by
  cases ns with
  | nil => cases h
  | cons m ns =>
    obtain ⟨h1, h2⟩ := foldl_max_ge ns m
    show n ≤ ns.foldl max m
    rcases List.mem_cons.mp h with rfl | h
    · exact h1
    · exact h2 n h
theorem firstFar_no {many : Nat} : ∀ (ps : List Plc) (n : Nat), firstFar many n ps = none → ∀ p ∈ ps, ∀ k ∈ p.nums, k < many
  | [], _, _, p, h => nomatch h
  | p0 :: ps, n, h, p, hp => by
    unfold firstFar at h
    split at h
    · cases h
    · rename_i hf
      rcases List.mem_cons.mp hp with rfl | hp
      · intro k hk
        have : ¬ ((many : Int) ≤ maxL (intsN p.nums)) := fun e => hf (decide_eq_true e)
        have h2 := maxL_ge (ns := intsN p.nums) (n := (k : Int)) (List.mem_map_of_mem hk)
        omega
      · exact firstFar_no ps (n + 1) h p hp
theorem plc_plD {qs : List (Str × Int)} {many : Nat} {p : Plc} (h : PlcIn qs p) (hn : ∀ k ∈ p.nums, k < many) : plD qs (many : Int) p.d := by
  cases p with
  | fin => exact .inl rfl
  | go z n =>
    have := hn n (List.mem_singleton.mpr rfl)
    exact .inr (.inl ⟨z, (n : Int), rfl, h.1, by omega, by omega⟩)
  | ask z ns =>
    obtain ⟨q, hq, rfl, hl, _⟩ := h
    refine .inr (.inr ⟨q, hq, intsN ns, rfl, ?_, fun x hx => ?_⟩)
    · show (((ns.map fun (n : Nat) => (n : Int)).length : Nat) : Int) = _
      rw [List.length_map]; exact hl
    · obtain ⟨k, hk, rfl⟩ := List.mem_map.mp hx
      have := hn k hk
      exact ⟨by omega, by omega⟩
theorem pl_goodT {qs : List (Str × Int)} {n : Int} {d : PyData} (so : SetOk qs) (hn : n ≤ 16) (p : plD qs n d) : Gd big 460 2 d := by
  rcases p with rfl | ⟨z, r, rfl, hz, h0, h1⟩ | ⟨q, hq, ns, rfl, hl, hx⟩
  · exact end_good
  · exact do_good (nmOk.ok hz) h0 (by omega)
  · exact ask_good (nmOk.ok (so.nm q hq)) (fun x h => ⟨(hx x h).1, by have := (hx x h).2; omega⟩) (by have := (so.most q hq).2; omega)
theorem all_goodT : ∀ {l : List PyData}, (∀ d ∈ l, Gd big 460 2 d) → Gl' big (461 * l.length) 2 l
  | [], _ => ⟨(fun d h => nomatch h), Nat.le_refl _, (fun d h => nomatch h)⟩
  | d :: l, h => by
    have g := (Gl'.one (h d (List.mem_cons_self ..))).app (all_goodT fun x hx => h x (List.mem_cons_of_mem _ hx))
    exact g.mono (Nat.le_refl _) (by simp only [List.length_cons]; omega) (Nat.le_refl _)
theorem pls_goodT {qs : List (Str × Int)} {l : List PyData} (so : SetOk qs) (hl : l.length ≤ 16) (h : ∀ d ∈ l, plD qs (l.length : Int) d) : Gd big 10000 3 (.tuple l) :=
  (Gd.tup (all_goodT fun d hd => pl_goodT so (by omega) (h d hd))).mono (Nat.le_refl _) (by omega) (by omega)
theorem plc_ml {K : PySem.W.Frag} {H : Hp} {m l m' l' : Addr} {v : V} {p : Plc} (h : Dq K H m l v p.d) : Dq K H m' l' v p.d := by
  cases p with
  | fin => cases h with | tup h0 hx => cases hx with | cons x1 x2 => cases x2; cases x1; exact .tup h0 (.cons (.str _) .nil)
  | go z n => cases h with | tup h0 hx => cases hx with | cons x1 x2 => cases x2 with | cons x2 x3 => cases x3 with | cons x3 x4 => cases x4; cases x1; cases x2; cases x3; exact .tup h0 (.cons (.str _) (.cons (.str _) (.cons (.int _) .nil)))
  | ask z ns =>
    cases h with | tup h0 hx => cases hx with | cons x1 x2 => cases x2 with | cons x2 x3 => cases x3 with | cons x3 x4 =>
      cases x4; cases x1; cases x2
      cases x3 with
      | tup h3 hy =>
        have e := ints_of' hy
        subst e
        exact .tup h0 (.cons (.str _) (.cons (.str _) (.cons (.tup h3 (ints_dq _)) .nil)))
theorem plcs_ml {K : PySem.W.Frag} {H : Hp} {m l m' l' : Addr} : ∀ {ps : List Plc} {vs : List V}, DqAll K H m l vs (ps.map Plc.d) → DqAll K H m' l' vs (ps.map Plc.d)
  | [], _, h => by cases h; exact .nil
  | p :: ps, _, h => by cases h with | cons h1 h2 => exact .cons (plc_ml h1) (plcs_ml h2)
/-- places stand, whatever is done to a list -/
theorem plcs_upd {K : PySem.W.Frag} {H : Hp} {m l L : Addr} {xs ys : List V} {ps : List Plc} {vs : List V} (hL : H L = some (.lst xs)) (h : DqAll K H m l vs (ps.map Plc.d)) : DqAll K (upd H L (.lst ys)) m l vs (ps.map Plc.d) :=
  plcs_ml (DqAll.gen (m' := L) (l' := L) (fun a xs e n1 n2 => ⟨by rw [upd_ne n1]; exact e, n1, n2⟩) (fun a xs q => by
    rcases q with (q | ⟨o', q⟩) | q
    · exact .inl (.inl (by rw [upd_ne (ne_of q hL (fun z => nomatch z))]; exact q))
    · exact .inl (.inr ⟨o', by
        have q' : H a = some (.frz o' (.tup xs)) := q
        show upd H L (.lst ys) a = some (.frz o' (.tup xs))
        rw [upd_ne (ne_of q' hL (fun z => nomatch z))]; exact q'⟩)
    · exact .inr q) (fun a q n1 n2 => ⟨by rw [upd_ne n1]; exact q, n1, n2⟩) _ _ (plcs_ml (m' := L) (l' := L) h))
end Ms
namespace Ms
open PySem PySem.Spec PyProof.Rows L2
/-! ### read_request -/
theorem plc_ref {K : PySem.W.Frag} {H : Hp} {m l : Addr} {v : V} {p : Plc} (h : Dq K H m l v p.d) : ∃ a, v = .ref a := by
  cases p <;> cases h <;> exact ⟨_, rfl⟩
theorem readP_one {qs : List (Str × Int)} {n : Nat} {acc : List Plc} {ws : List Str} {r : List (List Str)} : readP qs n acc (ws :: r) = match placeIn qs ws with
    | none => .inl n
    | some p => if acc.length = 16 then .inl n else readP qs (n + 1) (acc ++ [p]) r := by
  cases e : placeIn qs ws <;> simp only [readP, e]
theorem two_add {i : Nat} : (2 : Int) + (i : Int) = ((2 + i : Nat) : Int) := by omega
theorem strs_dqT {K : PySem.W.Frag} {H : Hp} {m l : Addr} : ∀ ws : List Str, DqAll K H m l (ws.map V.str) (ws.map PyData.str)
  | [] => .nil
  | _ :: ws => .cons (.str _) (strs_dqT ws)
theorem prD_goodT {qs : List (Str × Int)} (hn : ∀ q ∈ qs, nmOk q.1) (hm : ∀ q ∈ qs, 1 ≤ q.2 ∧ q.2 ≤ 3) : Gl' big (200 * qs.length) 1 (prD qs) := by
  induction qs with
  | nil => exact ⟨(fun d h => nomatch h), Nat.le_refl _, (fun d h => nomatch h)⟩
  | cons q qs ih =>
    have g1 : Gd big 16 0 (.str q.1) := Gd.str (nmOk.ok (hn q (List.mem_cons_self ..)))
    have hq := hm q (List.mem_cons_self ..)
    have g2 : Gd big 104 0 (.int q.2) := Gd.int (by show q.2.natAbs ≤ 10 ^ 30; omega) (by decide)
    have g := (Gl'.one (Gd.tup ((Gl'.one g1).app (Gl'.one g2)))).app (ih (fun x h => hn x (List.mem_cons_of_mem _ h)) (fun x h => hm x (List.mem_cons_of_mem _ h)))
    exact g.mono (Nat.le_refl _) (by simp only [List.length_cons]; omega) (by decide)
theorem set_goodT {qs : List (Str × Int)} (so : SetOk qs) : Gd big 100000 10 (.tuple (prD qs)) := by
  have l3 := so.len3
  exact (Gd.tup (prD_goodT so.nm so.most)).mono (Nat.le_refl _) (by omega) (by decide)
section
variable {P : Program} {w : World} {K : PySem.W.Frag} {mg : Str → Option Value} {base : Heap} {fR fLn fML fPI fF fNW fOr fI fN fS fA fG fNu fAs fPl fMo fNP fNM fNd aE aM C CS CP CM CT fES fEP fEM fET fNs : Addr}
abbrev NRd : List Str := ["settings", "text", "lines", "places", "at", "words", "place"]
theorem scRd : FnScope NRd ["settings", "text"] (defScope sRead) := ⟨rfl, rfl, rfl, by decide +kernel, rfl, by decide +kernel, by decide +kernel⟩
def spRead (K : PySem.W.Frag) (C CT : Addr) : Sp := fun vs H Q E => ∃ (m l aS : Addr) (qs : List (Str × Int)) (v : V) (d : PyData), vs = [.ref aS, v] ∧ Dq K H m l (.ref aS) (.tuple (prD qs)) ∧ SetOk qs ∧ Dq K H m l v d ∧ (∀ z, d = .str z → sOk 100000 z) ∧
  ((∀ z, d ≠ .str z) → ∀ dx H', H dx = none → Same H H' → H' dx = some (.xd [("line", .non)]) → E (.ref CT) (some dx) H') ∧
  (∀ (z : Str) (n : Nat), d = .str z → readR qs (linesOf z) = .inl n → ∀ dx H', H dx = none → Same H H' → H' dx = some (.xd [("line", .int (n : Int))]) → E (.ref CT) (some dx) H') ∧
  ∀ (z : Str) (ps : List Plc) (zs : List Str), d = .str z → readR qs (linesOf z) = .inr (ps, zs) → ∀ (x dx : Addr) (H' : Hp) (v2 v3 : V), H x = none → Same H H' → H' x = some (.ins C dx (reqF (.ref aS) v2 v3)) →
    Dq K H' m l v2 (.tuple (ps.map Plc.d)) → Dq K H' m l v3 (.tuple (zs.map .str)) → Q (.ref x) H'
theorem ok_read {f : Addr} {fd fdR fdLn fdML fdPI fdNs fdET : FuncData} {qT : Str} (F : Fun K "read_request" "read_request" sRead f fd) (T : TxtX mg) (TR : TxtR mg fI fN fS fA fG fNu fAs fPl fMo fNP fNM fNd aE aM) (W : WrT K aE aM)
    (gT : mg "BadText" = some (.ref CT)) (TE : ErrF K CT fET "line") (FE : Fun K "__init__" qT sIniX fET fdET) (bE : Binds K fdET ["self", "line"] [])
    (gLn : mg "lines_of" = some (.ref fLn)) (kLn : PySem.W.keepIn K (.ref fLn) = true) (GLn : FnOk P w K mg base (L2.CX P w) 3 fLn fdLn ["text"] (spLines K CT)) (bLn : Binds K fdLn ["text"] [])
    (gML : mg "is_modes_line" = some (.ref fML)) (kML : PySem.W.keepIn K (.ref fML) = true) (GML : FnOk P w K mg base CX0 2 fML fdML ["settings", "words"] (spMLine K)) (bML : Binds K fdML ["settings", "words"] [])
    (gPI : mg "place_in" = some (.ref fPI)) (kPI : PySem.W.keepIn K (.ref fPI) = true) (GPI : FnOk P w K mg base CX0 3 fPI fdPI ["settings", "words"] (spPIn K)) (bPI : Binds K fdPI ["settings", "words"] [])
    (gNu : mg "numbers_in" = some (.ref fNs)) (kNu : PySem.W.keepIn K (.ref fNs) = true) (GNu : FnOk P w K mg base CX0 1 fNs fdNs ["place"] (spNums K)) (bNu : Binds K fdNs ["place"] [])
    (MkC : Mk K C fR) (GR : FnOk P w K mg base (L2.CX P w) 6 fR fdR ["self", "settings", "places", "modes"] (spReq K C CS CP CM)) (gR : mg "Request" = some (.ref C)) (b4 : Binds K fdR ["self", "settings", "places", "modes"] []) :
    FnOk P w K mg base (L2.CX P w) 8 f fd ["settings", "text"] (spRead K C CT) := by
  have GE : FnOk P w K mg base CX0 1 fET fdET ["self", "line"] (spIniF CT "line") := ok_iniX FE TE
  refine F.okX scRd (fun vs H Q E h => ?_) (fun cdv A outer s H vs Q E hr h => ?_)
  · obtain ⟨m, l, aS, qs, v, d, rfl, _⟩ := h
    rfl
  obtain ⟨m, l, aS, qs, v, d, rfl, hd, so, hv, hz, qn, qe, qr⟩ := h
  obtain ⟨tp, gp⟩ := TR.mP
  have hr1 : Room 1 _ := hr.mono (by decide)
  have hr2 : Room 2 _ := hr.mono (by decide)
  have hr3 : Room 3 _ := hr.mono (by decide)
  have hu : _ := hr.units
  obtain ⟨xs, hS, hxs⟩ : ∃ xs, SqT K H aS xs ∧ DqAll K H m l xs (prD qs) := by
    cases hd with
    | tup e t => exact ⟨_, e, t⟩
  have hq := prD_trs qs xs hxs
  have lq := hq.len
  have so3 := so.len3
  refine ⟨_, pss_cons (ps_set (i := 2) scRd.nd rfl (by first | exact Or.inl rfl | exact Or.inr rfl) (pe_call GLn hr3 (by rfl) gLn kLn bLn .nil (passes_call (takes_of rfl rfl rfl rfl) fun _ _ _ _ h => h) (pa_cons (pv 1) pa_nil)))
    (pss_cons (ps_if (pt_not (pt_val (pe_call GML hr2 (by rfl) gML kML bML .nil pass0 (pa_cons (pv 0) (pa_cons (pe_ix (show IxR _ (rIxL K) from ix_list) (pv 2) pe_int (fun _ _ => rfl)) pa_nil)))))
      (pss_one (ps_raise rfl (takes_of rfl rfl rfl rfl) (pmk_oex TE.ox TE.ini TE.ty GE hr2 bE .nil pass0 (by rfl) gT (pa_cons pe_int pa_nil)))) pss_nil)
    (pss_cons (ps_set (i := 3) scRd.nd rfl (by first | exact Or.inl rfl | exact Or.inr rfl) (pe_lst pa_nil))
    (pss_cons (ps_for (passes_of rfl) rfl (pi_es (by decide) (by decide) (by rfl) T.enumerate (pa_cons (pe_slice sl_list (pv 2) (po_some pe_int) po_none) pa_nil)) (pg_tup rfl (pgs_cons (pg_name (i := 4) scRd.nd rfl (by first | exact Or.inl rfl | exact Or.inr rfl)) (pgs_cons (pg_name (i := 5) scRd.nd rfl (by first | exact Or.inl rfl | exact Or.inr rfl)) pgs_nil)))
      (pss_cons (ps_set (i := 6) scRd.nd rfl (by first | exact Or.inl rfl | exact Or.inr rfl) (pe_call GPI hr3 (by rfl) gPI kPI bPI .nil pass0 (pa_cons (pv 0) (pa_cons (pv 5) pa_nil))))
      (pss_cons (ps_if (PW.pt (pw_or (pt_cmpR op_isN (pv 6) pe_non (nomark _)) (pw_or1 (pt_cmpR op_eq (pe_callB call_len_seq (by rfl) T.len PySem.boot_len (pa_cons (pv 3) pa_nil)) (pe_glob (v := .int 16) rfl gp ⟨_, rfl⟩) (nomark _)))))
        (pss_one (ps_raise rfl (takes_of rfl rfl rfl rfl) (pmk_oex TE.ox TE.ini TE.ty GE hr2 bE .nil pass0 (by rfl) gT (pa_cons (pv 4) pa_nil)))) pss_nil)
      (pss_one (ps_expr (pe_bm PySem.F.plainAttrs_list PySem.F.slot_list_append PySem.F.type_list_append mt_append (pv 3) (pa_cons (pv 6) pa_nil)))))))
    (pss_cons (ps_if (pt_cmpR op_eq (pe_callB call_len_seq (by rfl) T.len PySem.boot_len (pa_cons (pv 3) pa_nil)) pe_int (nomark _))
      (pss_one (ps_raise rfl (takes_of rfl rfl rfl rfl) (pmk_oex TE.ox TE.ini TE.ty GE hr2 bE .nil pass0 (by rfl) gT (pa_cons pe_int pa_nil)))) pss_nil)
    (pss_cons (ps_for (passes_of rfl) rfl (pi_es (by decide) (by decide) (by rfl) T.enumerate (pa_cons (pv 3) pa_nil)) (pg_tup rfl (pgs_cons (pg_name (i := 4) scRd.nd rfl (by first | exact Or.inl rfl | exact Or.inr rfl)) (pgs_cons (pg_name (i := 6) scRd.nd rfl (by first | exact Or.inl rfl | exact Or.inr rfl)) pgs_nil)))
      (pss_one (ps_if (pt_cmpR op_ge (pe_maxD (by rfl) hu (by rfl) T.max (pa_cons (pe_call GNu hr1 (by rfl) gNu kNu bNu .nil pass0 (pa_cons (pv 6) pa_nil)) pa_nil)) (pe_callB call_len_seq (by rfl) T.len PySem.boot_len (pa_cons (pv 3) pa_nil)) (nomark _))
        (pss_one (ps_raise rfl (takes_of rfl rfl rfl rfl) (pmk_oex TE.ox TE.ini TE.ty GE hr2 bE .nil pass0 (by rfl) gT (pa_cons (pv 4) pa_nil)))) pss_nil)))
    (pss_one (ps_ret (pe_make MkC GR hr (by rfl) gR b4 .nil (passes_call (takes_of rfl rfl rfl rfl) fun _ _ _ _ h => h) (pa_cons (pv 0) (pa_cons (pe_callTy call_tuple_of (by rfl) T.tuple (by decide +kernel) (pa_cons (pv 3) pa_nil))
      (pa_cons (pe_callTy call_tuple_of (by rfl) T.tuple (by decide +kernel) (pa_cons (pe_slice sl_list (pe_ix (show IxR _ (rIxL K) from ix_list) (pv 2) pe_int (fun _ _ => rfl)) (po_some pe_int) po_none) pa_nil)) pa_nil))))))))))), ?_⟩
  refine ⟨_, rfl, m, l, v, d, rfl, hv, hz, qn, fun z ez L as H1 hL s1 gL Ln => ?_⟩
  subst ez
  have qe := fun n => qe z n rfl
  have qr := fun ps zs => qr z ps zs rfl
  obtain ⟨k1, k2, k3⟩ := lines_ok (hz z rfl)
  obtain ⟨ws0, rest, el⟩ : ∃ ws0 rest, linesOf z = ws0 :: rest := by
    cases e : linesOf z with
    | nil => exact absurd e k2
    | cons a b => exact ⟨a, b, rfl⟩
  rw [el] at k1 k3 Ln qe qr
  obtain ⟨a0, as', rfl⟩ : ∃ a0 as', as = a0 :: as' := by
    cases as with
    | nil => exact absurd Ln.1 (by simp)
    | cons a b => exact ⟨a, b, rfl⟩
  obtain ⟨w0, hw0, g0⟩ := Ln.2 0 a0 rfl
  have : w0 = ws0 := (Option.some.inj hw0).symm
  subst this
  obtain ⟨ne0, lw0, ow0⟩ := k3 w0 (List.mem_cons_self ..)
  have mF : ∀ {H' H'' : Hp} {n : Nat} {dx : Addr}, readR qs (w0 :: rest) = .inl n → Same H1 H' → H' dx = none → Same H' H'' → H'' dx = some (.xd [("line", .int (n : Int))]) → E (.ref CT) (some dx) H'' :=
    fun e s h1 h2 h3 => qe _ e _ _ (Same.free (s1.trans s) h1) ((s1.trans s).trans h2) h3
  refine ⟨_, rfl, _, rfl, L, _, 0, .ref a0, rfl, rfl, SqL.of gL, (show atI _ ((0 : Nat) : Int) = _ from atI_nat rfl), aS, a0, xs, w0, rfl, Same.seqT s1 hS, g0, ne0, by omega, fun H2 s2 => ⟨_, rfl, ?_⟩⟩
  have er : readR qs (w0 :: rest) = if mlineB qs.length w0 = true then match readP qs 2 [] rest with
      | .inl n => .inl n
      | .inr ps => if ps.length = 0 then .inl 2 else match firstFar ps.length 2 ps with
        | some n => .inl n
        | none => .inr (ps, w0.drop 1)
      else .inl 1 := rfl
  rw [lq]
  cases hm : mlineB qs.length w0 with
  | false =>
    rw [hm] at er
    exact ifT rfl (mk_oneF fun dx H' h1 h2 h3 => mF er s2 h1 h2 h3)
  | true =>
    rw [hm, if_pos rfl] at er
    refine ifF rfl ?_
    refine ⟨Nat.zero_le _, fun Pl hPl => ?_⟩
    have hPH : H2 Pl = none := hPl
    have sP : Same H2 (upd H2 Pl (.lst [])) := Same.upd hPl
    have gPl : (upd H2 Pl (.lst [])) Pl = some (.lst []) := upd_same
    generalize upd H2 Pl (.lst []) = H3 at sP gPl ⊢
    have s13 := s2.trans sP
    have gL3 := s13 _ _ gL
    refine ⟨_, rfl, _, rfl, noPart ⟨L, _, rfl, SqL.of gL3, fun p hp => ?_⟩⟩
    have ec : cutV ((a0 :: as').map V.ref) (some 1) none = as'.map V.ref := cut_from (xs := (a0 :: as').map V.ref) (i := 1) (by simp)
    rw [ec]
    have sp : Same H3 (upd H3 p (.lst (as'.map V.ref))) := Same.upd hp
    have gp' : (upd H3 p (.lst (as'.map V.ref))) p = some (.lst (as'.map V.ref)) := upd_same
    have nPp : p ≠ Pl := fun e => by rw [e, gPl] at hp; cases hp
    generalize upd H3 p (.lst (as'.map V.ref)) = H4 at sp gp' ⊢
    have gPl4 := sp _ _ gPl
    have s14 := s13.trans sp
    have s24 : Same H2 H4 := sP.trans sp
    refine ⟨p, _, rfl, SqL.of gp', ?_⟩
    have lr : as'.length = rest.length := by have := Ln.1; simpa using this
    refine for_it walk_el (fun i σ H5 => ∃ (v4 v5 v6 : Option V) (acc : List Plc) (vs : List V), σ = [some (.ref aS), some v, some (.ref L), some (.ref Pl), v4, v5, v6] ∧ Same H2 H5 ∧ H5 Pl = some (.lst vs) ∧ H5 p = some (.lst (as'.map V.ref)) ∧ DqAll K H5 m l vs (acc.map Plc.d) ∧ acc.length ≤ 16 ∧ readP qs 2 [] rest = readP qs (2 + i) acc (rest.drop i))
      ⟨none, none, none, [], [], rfl, s24, gPl4, gp', .nil, Nat.zero_le _, rfl⟩ (fun i σ H5 _ ⟨v4, v5, v6, acc, vs, _, _, _, g, _⟩ => SqL.of g) ?_ ?_
    · rintro i x σ H5 H6 hi ⟨v4, v5, v6, acc, vs, rfl, s5, g5, gp5, dq5, la, dg⟩ ⟨TT, x1, x2, rfl, hT, rfl, e1', e2'⟩
      have ex1 : x1 = .int (2 + (i : Int)) := (Option.some.inj e1').symm
      subst ex1
      have e2' : (as'.map V.ref)[i]? = some x2 := e2'
      rw [List.getElem?_map] at e2'
      obtain ⟨ai, hai, rfl⟩ := Option.map_eq_some_iff.mp e2'
      obtain ⟨wi, hwi, gi⟩ := Ln.2 (i + 1) ai hai
      have hwi' : rest[i]? = some wi := hwi
      have edr : rest.drop i = wi :: rest.drop (i + 1) := by
        obtain ⟨b1, b2⟩ := List.getElem?_eq_some_iff.mp hwi'
        rw [List.drop_eq_getElem_cons b1, b2]
      obtain ⟨nei, lwi, owi⟩ := k3 wi (List.mem_cons_of_mem _ (List.mem_of_getElem? hwi'))
      have sT : Same H5 (upd H5 TT (.tup [.int (2 + (i : Int)), .ref ai])) := Same.upd hT
      have gT5 : (upd H5 TT (.tup [.int (2 + (i : Int)), .ref ai])) TT = some (.tup [.int (2 + (i : Int)), .ref ai]) := upd_same
      generalize upd H5 TT (.tup [.int (2 + (i : Int)), .ref ai]) = H6 at sT gT5 ⊢
      have s16 := s2.trans (s5.trans sT)
      have sH6 := s1.trans s16
      have lacc : vs.length = acc.length := by rw [dq5.len, List.length_map]
      refine ⟨TT, _, rfl, .inl (.inl gT5), rfl, _, _, rfl, _, _, rfl, rfl, ?_⟩
      rw [edr, readP_one] at dg
      refine ⟨_, rfl, _, rfl, aS, ai, xs, qs, wi, rfl, Same.seqT sH6 hS, PrTs.same sH6 hq, so3, so.nodup, s16 _ _ gi, owi, by omega, fun e0 H7 s7 => ?_, fun pl ep v' H7 s7 dq7 => ?_⟩
      · rw [e0] at dg
        rw [dg] at er
        refine ⟨_, rfl, rfl, _, rfl, ifT rfl (ifT rfl ⟨_, rfl, mk_oneF fun dx H' h1 h2 h3 => ?_⟩)⟩
        rw [two_add] at h3
        exact mF er ((s5.trans sT).trans s7 |> s2.trans) h1 h2 h3
      · rw [ep] at dg
        obtain ⟨av, rfl⟩ := plc_ref (dq7 m l)
        refine ⟨_, rfl, rfl, _, rfl, ifF rfl ?_⟩
        have g7 := s7 _ _ (sT _ _ g5)
        refine ⟨_, rfl, Pl, _, rfl, .inl (SqL.of g7), rfl, _, rfl, ?_⟩
        have e16 : decide (V.int ((vs.length : Nat) : Int) = V.int 16) = decide (acc.length = 16) := by
          rw [lacc, Bool.eq_iff_iff, decide_eq_true_eq, decide_eq_true_eq, V.int.injEq]; omega
        rw [e16]
        have dg : readP qs 2 [] rest = if acc.length = 16 then .inl (2 + i) else readP qs (2 + i + 1) (acc ++ [pl]) (rest.drop (i + 1)) := dg
        by_cases h16 : acc.length = 16
        · rw [if_pos h16] at dg
          rw [dg] at er
          refine ifT (decide_eq_true h16) ⟨_, rfl, mk_oneF fun dx H' h1 h2 h3 => ?_⟩
          rw [two_add] at h3
          exact mF er ((s5.trans sT).trans s7 |> s2.trans) h1 h2 h3
        · rw [if_neg h16] at dg
          refine ifF (decide_eq_false h16) ?_
          refine ⟨_, rfl, .inl ⟨rfl, _, SqL.of g7⟩, _, rfl, Pl, vs, .ref av, rfl, rfl, g7, small1000 (by omega), ?_⟩
          refine ⟨_, _, _, acc ++ [pl], vs ++ [.ref av], rfl, ?_, upd_same, ?_, ?_, by rw [List.length_append]; show acc.length + 1 ≤ 16; omega, dg⟩
          · exact fun b o e => by rw [upd_ne (ne_of_none e hPH)]; exact s7 _ _ (sT _ _ (s5 _ _ e))
          · rw [upd_ne nPp]; exact s7 _ _ (sT _ _ gp5)
          · rw [List.map_append]
            have hall : DqAll K H7 m l (vs ++ [.ref av]) ((acc ++ [pl]).map Plc.d) := by
              rw [List.map_append]
              exact DqAll.app (DqAll.same (sT.trans s7) _ _ dq5) (.cons (dq7 m l) .nil)
            have := plcs_upd g7 hall (ys := vs ++ [.ref av])
            rwa [List.map_append] at this
    rintro σ H5 ⟨v4, v5, v6, acc, vs, rfl, s5, g5, gp5, dq5, la, dg⟩
    rw [List.length_map, List.drop_of_length_le (by omega)] at dg
    have dg : readP qs 2 [] rest = .inr acc := dg
    rw [dg] at er
    obtain ⟨pin, _⟩ := readP_in rest 2 [] acc dg (fun p h => nomatch h) (by decide)
    have lacc : vs.length = acc.length := by rw [dq5.len, List.length_map]
    have sH5 := s1.trans (s2.trans s5)
    refine ⟨_, rfl, Pl, _, rfl, .inl (SqL.of g5), rfl, _, rfl, ?_⟩
    have er : readR qs (w0 :: rest) = if acc.length = 0 then .inl 2 else match firstFar acc.length 2 acc with
        | some n => .inl n
        | none => .inr (acc, w0.drop 1) := er
    have e00 : decide (V.int ((vs.length : Nat) : Int) = V.int 0) = decide (acc.length = 0) := by
      rw [lacc, Bool.eq_iff_iff, decide_eq_true_eq, decide_eq_true_eq, V.int.injEq]; omega
    rw [e00]
    by_cases h0 : acc.length = 0
    · rw [if_pos h0] at er
      exact ifT (decide_eq_true h0) (mk_oneF fun dx H' h1 h2 h3 => mF er (s2.trans s5) h1 h2 h3)
    rw [if_neg h0] at er
    refine ifF (decide_eq_false h0) ?_
    refine ⟨_, rfl, Pl, _, rfl, SqL.of g5, ?_⟩
    refine for_it walk_el (fun i σ H6 => ∃ (v4 v5 v6 : Option V), σ = [some (.ref aS), some v, some (.ref L), some (.ref Pl), v4, v5, v6] ∧ Same H5 H6 ∧ firstFar acc.length 2 acc = firstFar acc.length (2 + i) (acc.drop i))
      ⟨v4, v5, v6, rfl, Same.refl _, rfl⟩ (fun i σ H6 _ ⟨v4, v5, v6, _, s6, _⟩ => SqL.of (s6 _ _ g5)) ?_ ?_
    · rintro i x σ H6 H7 hi ⟨v4, v5, v6, rfl, s6, df⟩ ⟨TT, x1, x2, rfl, hT, rfl, e1', e2'⟩
      have ex1 : x1 = .int (2 + (i : Int)) := (Option.some.inj e1').symm
      subst ex1
      obtain ⟨dd, hdd, dqi⟩ := dq5.get e2'
      rw [List.getElem?_map] at hdd
      obtain ⟨pl, hpl, rfl⟩ := Option.map_eq_some_iff.mp hdd
      have edr : acc.drop i = pl :: acc.drop (i + 1) := by
        obtain ⟨b1, b2⟩ := List.getElem?_eq_some_iff.mp hpl
        rw [List.drop_eq_getElem_cons b1, b2]
      have sT : Same H6 (upd H6 TT (.tup [.int (2 + (i : Int)), x2])) := Same.upd hT
      have gT6 : (upd H6 TT (.tup [.int (2 + (i : Int)), x2])) TT = some (.tup [.int (2 + (i : Int)), x2]) := upd_same
      generalize upd H6 TT (.tup [.int (2 + (i : Int)), x2]) = H7 at sT gT6 ⊢
      have s57 := s6.trans sT
      refine ⟨TT, _, rfl, .inl (.inl gT6), rfl, _, _, rfl, _, _, rfl, rfl, ?_⟩
      refine ⟨_, rfl, m, l, x2, pl, rfl, Dq.same s57 _ _ dqi, fun D H8 hD s8 gD => ?_⟩
      have s58 := s57.trans s8
      refine ⟨D, _, rfl, SqL.of gD, _, rfl, Pl, _, rfl, .inl (SqL.of (s58 _ _ g5)), _, _, rfl, rfl, _, rfl, ?_⟩
      rw [edr] at df
      have df : firstFar acc.length 2 acc = if farB acc.length pl = true then some (2 + i) else firstFar acc.length (2 + i + 1) (acc.drop (i + 1)) := df
      have ef : decide (((vs.length : Nat) : Int) ≤ maxL (intsN pl.nums)) = farB acc.length pl := by rw [lacc]; rfl
      rw [ef]
      cases hf : farB acc.length pl with
      | true =>
        rw [if_pos hf] at df
        rw [df] at er
        refine ifT rfl ⟨_, rfl, mk_oneF fun dx H' h1 h2 h3 => ?_⟩
        rw [two_add] at h3
        exact mF er (s2.trans (s5.trans s58)) h1 h2 h3
      | false =>
        rw [if_neg (by rw [hf]; exact Bool.false_ne_true)] at df
        exact ifF rfl ⟨_, _, _, rfl, s58, df⟩
    rintro σ H6 ⟨v4, v5, v6, rfl, s6, df⟩
    rw [lacc, List.drop_of_length_le (Nat.le_refl _)] at df
    have df : firstFar acc.length 2 acc = none := df
    rw [df] at er
    have far := firstFar_no acc 2 df
    have s16 := s2.trans (s5.trans s6)
    refine ⟨_, rfl, _, rfl, Pl, vs, rfl, .inl ⟨SqL.of (s6 _ _ g5), fun p2 hp2 => ?_⟩⟩
    have sp2 : Same H6 (upd H6 p2 (.tup vs)) := Same.upd hp2
    have gp2 : (upd H6 p2 (.tup vs)) p2 = some (.tup vs) := upd_same
    generalize upd H6 p2 (.tup vs) = H7 at sp2 gp2 ⊢
    have s17 := s16.trans sp2
    refine ⟨_, rfl, L, _, 0, .ref a0, rfl, rfl, SqL.of (s17 _ _ gL), (show atI _ ((0 : Nat) : Int) = _ from atI_nat rfl), _, rfl, noPart ⟨a0, _, rfl, SqL.of (s17 _ _ g0), fun p3 hp3 => ?_⟩⟩
    obtain ⟨w0h, w0t, rfl⟩ : ∃ w0h w0t, w0 = w0h :: w0t := by
      cases w0 with
      | nil => exact absurd rfl ne0
      | cons a b => exact ⟨a, b, rfl⟩
    have ec2 : cutV ((w0h :: w0t).map V.str) (some 1) none = w0t.map V.str := cut_from (xs := (w0h :: w0t).map V.str) (i := 1) (by simp)
    rw [ec2]
    have sp3 : Same H7 (upd H7 p3 (.lst (w0t.map V.str))) := Same.upd hp3
    have gp3 : (upd H7 p3 (.lst (w0t.map V.str))) p3 = some (.lst (w0t.map V.str)) := upd_same
    generalize upd H7 p3 (.lst (w0t.map V.str)) = H8 at sp3 gp3 ⊢
    refine ⟨p3, _, rfl, .inl ⟨SqL.of gp3, fun p4 hp4 => ?_⟩⟩
    have sp4 : Same H8 (upd H8 p4 (.tup (w0t.map V.str))) := Same.upd hp4
    have gp4 : (upd H8 p4 (.tup (w0t.map V.str))) p4 = some (.tup (w0t.map V.str)) := upd_same
    generalize upd H8 p4 (.tup (w0t.map V.str)) = H9 at sp4 gp4 ⊢
    have s69 := (sp2.trans sp3).trans sp4
    have s19 := s16.trans s69
    have sH9 := s1.trans s19
    intro x dx hx hdx ne
    have er : readR qs ((w0h :: w0t) :: rest) = .inr (acc, w0t) := er
    have hm' : mlineB qs.length (w0h :: w0t) = true := hm
    simp only [mlineB, Bool.and_eq_true, decide_eq_true_eq] at hm'
    obtain ⟨_, hml, hma⟩ := hm'
    have lz : w0t.length = qs.length := by simpa using hml
    have hzz : ∀ y ∈ w0t, y ∈ (["live", "met", "begin"] : List Str) := fun y hy => of_decide_eq_true ((List.all_eq_true.mp hma) y hy)
    have dP : Dq K H9 m l (.ref p2) (.tuple (acc.map Plc.d)) := .tup (Same.seqT (sp3.trans sp4) (.inl (.inl gp2))) (DqAll.same (s6.trans s69) _ _ dq5)
    have dM : Dq K H9 m l (.ref p4) (.tuple (w0t.map .str)) := .tup (.inl (.inl gp4)) (strs_dqT w0t)
    have lm : (acc.map Plc.d).length = acc.length := List.length_map ..
    have hpl : ∀ d ∈ acc.map Plc.d, plD qs ((acc.map Plc.d).length : Int) d := fun d hd => by
      obtain ⟨p, hp, rfl⟩ := List.mem_map.mp hd
      rw [lm]
      exact plc_plD (pin p hp) (far p hp)
    have gset : Gd big 100000 10 (.tuple (prD qs)) := set_goodT so
    refine req_okQ so (Dq.same sH9 _ _ hd) gset dP (pls_goodT so (by rw [lm]; exact la) hpl |>.mono (Nat.le_refl _) (by decide) (Nat.le_refl _)) dM (places_no so.nodup (by rw [lm]; omega) (by rw [lm]; exact la) hpl) (modes_no lz hzz) hx hdx ne (fun v3' H' s2 g3 hd3 => ⟨rfl, ?_⟩)
    exact qr acc w0t er x dx H' _ _ (Same.free sH9 hx) (sH9.trans s2) g3 (Dq.same s2 _ _ dP) hd3
end
end Ms
namespace Ms
open PySem PySem.Spec PyProof.Rows L2
/-! ### what is written is read back -/
structure PlcGood (qs : List (Str × Int)) (many : Nat) (p : Plc) : Prop where
  inn : PlcIn qs p
  near : ∀ k ∈ p.nums, k < many
theorem joinL_mem {S : List Nat} {c : Nat} : ∀ {ps : List (List Nat)}, c ∈ TL.joinL S ps → c ∈ S ∨ ∃ p ∈ ps, c ∈ p
  | [], h => nomatch h
  | [p], h => .inr ⟨p, List.mem_cons_self .., h⟩
  | p :: q :: r, h => by
    have h' : c ∈ p ++ (S ++ TL.joinL S (q :: r)) := h
    rcases List.mem_append.mp h' with h | h
    · exact .inr ⟨p, List.mem_cons_self .., h⟩
    rcases List.mem_append.mp h with h | h
    · exact .inl h
    · rcases joinL_mem h with h | ⟨x, hx, hc⟩
      · exact .inl h
      · exact .inr ⟨x, List.mem_cons_of_mem _ hx, hc⟩
def clean (z : Str) : Prop := 10 ∉ TL.tl z ∧ 32 ∉ TL.tl z
theorem num_back : ∀ n, n < 100 → numW (num n) = some n := by decide +kernel
theorem num_clean : ∀ n, n < 100 → 10 ∉ TL.tl (num n) ∧ 32 ∉ TL.tl (num n) := by decide +kernel
theorem name_clean {z : Str} (h : nmOk z) : clean z := by
  refine ⟨fun hc => ?_, fun hc => ?_⟩ <;> have := h.2.2 _ hc <;> unfold lowC at this <;> omega
theorem mode_clean {z : Str} (h : z ∈ (["live", "met", "begin"] : List Str)) : clean z := by
  simp only [List.mem_cons, List.mem_nil_iff, or_false] at h
  rcases h with rfl | rfl | rfl <;> exact ⟨by decide +kernel, by decide +kernel⟩
theorem join_free {ws : List Str} (h : ∀ z ∈ ws, clean z) : 10 ∉ TL.tl (Txt.join blank ws) := by
  rw [TL.join_eq, TL.tl_join, bl_tl]
  intro hc
  rcases joinL_mem hc with hc | ⟨p, hp, hc⟩
  · revert hc; decide
  · obtain ⟨z, hz, rfl⟩ := List.mem_map.mp hp
    exact (h z hz).1 hc
theorem split_words {ws : List Str} (ne : ws ≠ []) (h : ∀ z ∈ ws, clean z) : Txt.split (Txt.join blank ws) blank = ws :=
  TL.split_join bl_tl (by decide +kernel) ne fun z hz => (h z hz).2
theorem split_lines {ps : List Str} (ne : ps ≠ []) (h : ∀ z ∈ ps, 10 ∉ TL.tl z) : Txt.split (Txt.join newl ps) newl = ps :=
  TL.split_join nl_tl (by decide +kernel) ne h
theorem words_clean {qs : List (Str × Int)} {many : Nat} {p : Plc} (so : SetOk qs) (h : PlcGood qs many p) : (∀ z ∈ p.words, clean z) ∧ p.words ≠ [] := by
  have w1 : clean "do" := ⟨by decide +kernel, by decide +kernel⟩
  have w2 : clean "ask" := ⟨by decide +kernel, by decide +kernel⟩
  have w3 : clean "end" := ⟨by decide +kernel, by decide +kernel⟩
  cases p with
  | fin => exact ⟨fun z hz => by rw [List.mem_singleton.mp hz]; exact w3, by simp [Plc.words, Plc.head]⟩
  | go z n =>
    obtain ⟨hz, hn⟩ := h.inn
    refine ⟨fun y hy => ?_, by simp [Plc.words, Plc.head]⟩
    have hy : y ∈ ([("do" : Str), z, num n] : List Str) := hy
    simp only [List.mem_cons, List.mem_nil_iff, or_false] at hy
    rcases hy with rfl | rfl | rfl
    · exact w1
    · exact name_clean hz
    · exact num_clean n hn
  | ask z ns =>
    obtain ⟨q, hq, rfl, _, hn⟩ := h.inn
    refine ⟨fun y hy => ?_, by simp [Plc.words, Plc.head]⟩
    have hy : y ∈ ("ask" : Str) :: q.1 :: ns.map num := hy
    rcases List.mem_cons.mp hy with rfl | hy
    · exact w2
    rcases List.mem_cons.mp hy with rfl | hy
    · exact name_clean (so.nm q hq)
    · obtain ⟨n, h1, rfl⟩ := List.mem_map.mp hy
      exact num_clean n (hn n h1)
theorem idxN_of {qs : List (Str × Int)} (nd : (qs.map (·.1)).Nodup) {q : Str × Int} (hq : q ∈ qs) : mostOf q.1 qs = q.2 := by
  obtain ⟨q', h1, h2, _⟩ := idxN_at (z := q.1) (qs := qs) (List.mem_map_of_mem hq)
  unfold mostOf
  rw [h1]
  show q'.2 = q.2
  have : q' = q := by
    have hq' := List.mem_of_getElem? h1
    obtain ⟨i, hi⟩ := List.mem_iff_getElem?.mp hq
    have e1 : (qs.map (·.1))[idxN q.1 qs]? = some q.1 := by rw [List.getElem?_map, h1]; show some q'.1 = _; rw [h2]
    have e2 : (qs.map (·.1))[i]? = some q.1 := by rw [List.getElem?_map, hi]; rfl
    obtain ⟨b1, c1⟩ := List.getElem?_eq_some_iff.mp e1
    obtain ⟨b2, c2⟩ := List.getElem?_eq_some_iff.mp e2
    have ei : idxN q.1 qs = i := (List.getElem_inj nd).mp (c1.trans c2.symm)
    rw [ei, hi] at h1
    exact (Option.some.inj h1).symm
  rw [this]
theorem nums_back : ∀ {ns : List Nat}, (∀ n ∈ ns, n < 100) → nsOf (ns.map num) = ns ∧ ((ns.map num).all fun z => (numW z).isSome) = true
  | [], _ => ⟨rfl, rfl⟩
  | n :: ns, h => by
    obtain ⟨h1, h2⟩ := nums_back (ns := ns) fun x hx => h x (List.mem_cons_of_mem _ hx)
    have e := num_back n (h n (List.mem_cons_self ..))
    refine ⟨?_, ?_⟩
    · show (numW (num n)).getD 0 :: nsOf (ns.map num) = n :: ns
      rw [e, h1]; rfl
    · show ((numW (num n)).isSome && (ns.map num).all fun z => (numW z).isSome) = true
      rw [e, h2]; rfl
theorem place_back {qs : List (Str × Int)} {many : Nat} {p : Plc} (so : SetOk qs) (h : PlcGood qs many p) : placeIn qs p.words = some p := by
  cases p with
  | fin => rfl
  | go z n =>
    obtain ⟨hz, hn⟩ := h.inn
    have e := num_back n hn
    have ne : ¬ ([("do" : Str), z, num n] : List Str) = [("end" : Str)] := fun x => by injection x with _ x; cases x
    show (if ([("do" : Str), z, num n] : List Str) = [("end" : Str)] then some Plc.fin else if ([num n].all fun z => (numW z).isSome) = true then
      (if (decide (("do" : Str) = ("do" : Str)) && (isName (.str z) && decide (([num n] : List Str).length = 1))) = true then some (.go z ((numW (num n)).getD 0)) else _) else none) = some (.go z n)
    rw [if_neg ne, if_pos (by show ((numW (num n)).isSome && true) = true; rw [e]; rfl), if_pos (by rw [nm_name hz]; rfl), e]; rfl
  | ask z ns =>
    obtain ⟨q, hq, rfl, hl, hn⟩ := h.inn
    obtain ⟨b1, b2⟩ := nums_back hn
    have hm := so.most q hq
    cases ns with
    | nil => simp at hl; omega
    | cons n ns =>
      have ne : ¬ (("ask" : Str) :: q.1 :: (n :: ns).map num : List Str) = [("end" : Str)] := fun x => by injection x with _ x; cases x
      have nd : decide (("ask" : Str) = ("do" : Str)) = false := by decide +kernel
      show (if (("ask" : Str) :: q.1 :: (n :: ns).map num : List Str) = [("end" : Str)] then some Plc.fin else if (((n :: ns).map num).all fun z => (numW z).isSome) = true then
        (if (decide (("ask" : Str) = ("do" : Str)) && (isName (.str q.1) && decide (((n :: ns).map num).length = 1))) = true then some (.go q.1 ((numW (num n)).getD 0))
        else if (decide (("ask" : Str) = ("ask" : Str)) && (decide (q.1 ∈ qs.map (·.1)) && decide (((((n :: ns).map num).length : Nat) : Int) = mostOf q.1 qs + 1))) = true then some (.ask q.1 (nsOf ((n :: ns).map num))) else none) else none) = some (.ask q.1 (n :: ns))
      rw [if_neg ne, if_pos b2, if_neg (by rw [nd]; exact Bool.false_ne_true), if_pos ?_, b1]
      rw [decide_eq_true (List.mem_map_of_mem hq), idxN_of so.nodup hq, List.length_map, decide_eq_true hl]
      rfl
theorem readP_back {qs : List (Str × Int)} {many : Nat} (so : SetOk qs) : ∀ (ps : List Plc) (n : Nat) (acc : List Plc), (∀ p ∈ ps, PlcGood qs many p) → acc.length + ps.length ≤ 16 → readP qs n acc (ps.map Plc.words) = .inr (acc ++ ps)
  | [], n, acc, _, _ => by rw [List.append_nil]; rfl
  | p :: ps, n, acc, h, hl => by
    rw [List.map_cons, readP_one, place_back so (h p (List.mem_cons_self ..))]
    have : ¬ acc.length = 16 := by simp only [List.length_cons] at hl; omega
    show (if acc.length = 16 then Sum.inl n else readP qs (n + 1) (acc ++ [p]) (ps.map Plc.words)) = _
    rw [if_neg this, readP_back so ps (n + 1) (acc ++ [p]) (fun x hx => h x (List.mem_cons_of_mem _ hx)) (by rw [List.length_append]; simp only [List.length_cons, List.length_nil] at hl ⊢; omega), List.append_assoc]
    rfl
theorem foldl_max_lt {b : Int} : ∀ (ns : List Int) (a : Int), a < b → (∀ n ∈ ns, n < b) → ns.foldl max a < b
  | [], a, h, _ => h
  | m :: ns, a, h, hn => foldl_max_lt ns (max a m) (by have := hn m (List.mem_cons_self ..); omega) fun n h => hn n (List.mem_cons_of_mem _ h)
theorem far_not {many : Nat} {p : Plc} (h0 : 0 < many) (h : ∀ k ∈ p.nums, k < many) : farB many p = false := by
  refine decide_eq_false fun e => ?_
  have hb : ∀ x ∈ intsN p.nums, x < (many : Int) := fun x hx => by
    obtain ⟨k, hk, rfl⟩ := List.mem_map.mp hx
    have := h k hk
    omega
  have : maxL (intsN p.nums) < (many : Int) := by
    cases e2 : intsN p.nums with
    | nil => show (0 : Int) < _; omega
    | cons m ns =>
      rw [e2] at hb
      exact foldl_max_lt ns m (hb m (List.mem_cons_self ..)) fun n hn => hb n (List.mem_cons_of_mem _ hn)
  omega
theorem firstFar_back {many : Nat} (h0 : 0 < many) : ∀ (ps : List Plc) (n : Nat), (∀ p ∈ ps, ∀ k ∈ p.nums, k < many) → firstFar many n ps = none
  | [], _, _ => rfl
  | p :: ps, n, h => by
    unfold firstFar
    rw [if_neg (by rw [far_not h0 (h p (List.mem_cons_self ..))]; exact Bool.false_ne_true)]
    exact firstFar_back h0 ps _ fun x hx => h x (List.mem_cons_of_mem _ hx)
theorem lines_back {qs : List (Str × Int)} {many : Nat} {zs : List Str} {ps : List Plc} (so : SetOk qs) (hz : ∀ z ∈ zs, z ∈ (["live", "met", "begin"] : List Str)) (hp : ∀ p ∈ ps, PlcGood qs many p) : linesOf (textP zs ps) = (("modes" : Str) :: zs) :: ps.map Plc.words := by
  have hm : ∀ z ∈ ("modes" : Str) :: zs, clean z := fun z h => by
    rcases List.mem_cons.mp h with rfl | h
    · exact ⟨by decide +kernel, by decide +kernel⟩
    · exact mode_clean (hz z h)
  have e1 : Txt.split (textP zs ps) newl = Txt.join blank (("modes" : Str) :: zs) :: ps.map Plc.line := split_lines (by simp) fun z h => by
    rcases List.mem_cons.mp h with rfl | h
    · exact join_free hm
    · obtain ⟨p, h1, rfl⟩ := List.mem_map.mp h
      exact join_free (words_clean so (hp p h1)).1
  unfold linesOf
  rw [e1, List.map_cons, split_words (by simp) hm, List.map_map]
  congr 1
  refine List.map_congr_left fun p h => ?_
  exact split_words (words_clean so (hp p h)).2 (words_clean so (hp p h)).1
theorem read_back {qs : List (Str × Int)} {zs : List Str} {ps : List Plc} (so : SetOk qs) (lz : zs.length = qs.length) (hz : ∀ z ∈ zs, z ∈ (["live", "met", "begin"] : List Str)) (h1 : 1 ≤ ps.length) (h16 : ps.length ≤ 16) (hp : ∀ p ∈ ps, PlcGood qs ps.length p) :
    readR qs (linesOf (textP zs ps)) = .inr (ps, zs) := by
  rw [lines_back so hz hp]
  have hm : mlineB qs.length (("modes" : Str) :: zs) = true := by
    simp only [mlineB, List.head?_cons, List.length_cons, lz, decide_true, Bool.true_and, List.drop_succ_cons, List.drop_zero, List.all_eq_true]
    exact fun z h => decide_eq_true (hz z h)
  show (if mlineB qs.length (("modes" : Str) :: zs) = true then match readP qs 2 [] (ps.map Plc.words) with
      | .inl n => Sum.inl n
      | .inr ps => if ps.length = 0 then .inl 2 else match firstFar ps.length 2 ps with
        | some n => .inl n
        | none => .inr (ps, zs)
      else .inl 1) = _
  rw [if_pos hm, readP_back so ps 2 [] hp (by show 0 + ps.length ≤ 16; omega)]
  show (if ps.length = 0 then Sum.inl 2 else match firstFar ps.length 2 ps with
        | some n => .inl n
        | none => .inr (ps, zs)) = _
  rw [if_neg (by omega), firstFar_back (by omega) ps 2 fun p h => (hp p h).near]
/-- written alike, equal -/
theorem text_inj {qs : List (Str × Int)} {zs zs' : List Str} {ps ps' : List Plc} (so : SetOk qs) (lz : zs.length = qs.length) (hz : ∀ z ∈ zs, z ∈ (["live", "met", "begin"] : List Str)) (h1 : 1 ≤ ps.length) (h16 : ps.length ≤ 16) (hp : ∀ p ∈ ps, PlcGood qs ps.length p)
    (lz' : zs'.length = qs.length) (hz' : ∀ z ∈ zs', z ∈ (["live", "met", "begin"] : List Str)) (h1' : 1 ≤ ps'.length) (h16' : ps'.length ≤ 16) (hp' : ∀ p ∈ ps', PlcGood qs ps'.length p) (e : textP zs ps = textP zs' ps') : ps = ps' ∧ zs = zs' := by
  have a := read_back so lz hz h1 h16 hp
  have b := read_back so lz' hz' h1' h16' hp'
  rw [e, b] at a
  have := Sum.inr.inj a
  exact ⟨(Prod.mk.inj this).1.symm, (Prod.mk.inj this).2.symm⟩
end Ms
namespace Ms
open PySem PySem.Spec PyProof.Rows L2
/-! ### own ==, !=, len -/
theorem looks_ref {M : Model} {h : Heap} {a : Addr} {o : Obj} {t : Value} (e : h.get? a = some o) (c : o.cls = t) : PySem.W.Looks M h (typeOf (.ref a)) t := c ▸ (PySem.W.Looks.ld e).andThen .now
section
variable {X : Cx} {pins : List (Addr × Obj)} {σ : L2.St} {H : Hp} {s : Shared}
theorem dq_looks {M : Model} {m l : Addr} {v : V} {u : Value} {d : PyData} (I : Inv X pins σ H s) (h : Dq X.K H m l v d) (r : RelV v u) : PySem.W.Looks M s.heap (typeOf u) (.type (tyD d)) := by
  cases h with
  | non => cases r; exact .of_pure rfl
  | bl b => cases r; exact .of_pure rfl
  | int i => obtain ⟨t, rfl⟩ := r; exact .of_pure rfl
  | str x => obtain ⟨t, rfl⟩ := r; exact .of_pure rfl
  | @lst a xs ds e _ _ _ =>
    cases r
    obtain ⟨_, its, n, _, h1⟩ := (show ObjOk X.prog X.w H s.heap a (.lst xs) from I.hok a _ e)
    exact looks_ref h1 rfl
  | @dct a e _ _ =>
    cases r
    obtain ⟨_, _, vs, _, o, es, ep, h1, h2, _⟩ := (show ObjOk X.prog X.w H s.heap a (.dK []) from I.hok a _ e)
    exact looks_ref h1 h2.1
  | tup e _ =>
    cases r
    obtain ⟨its, _, ht, _⟩ := I.tuple e
    obtain ⟨o, ho, hc, _⟩ := ht
    exact looks_ref ho hc
end
/-- what the class says of its own == and len, and that it has no own != -/
structure OwnC (K : PySem.W.Frag) (C fE fL : Addr) : Prop where
  eq : PySem.W.findIn K (.ref C) "__eq__" = some (some (.ref fE))
  eqf : PySem.W.isFn K (.ref fE) = true
  ne : PySem.W.findIn K (.ref C) "__ne__" = some (some (.builtin "object.__ne__"))
  ob : PySem.W.subIn K (.ref C) (.type "object") = some true
  ln : PySem.W.findIn K (.ref C) "__len__" = some (some (.ref fL))
  lnf : PySem.W.isFn K (.ref fL) = true
  nt : ∀ T ∈ (["NoneType", "bool", "int", "str", "list", "tuple", "dict"] : List String), PySem.W.subIn K (.type T) (.ref C) = some false
theorem tyD_mem (d : PyData) : tyD d ∈ (["NoneType", "bool", "int", "str", "list", "tuple", "dict"] : List String) := by cases d <;> simp [tyD]
section
variable {X : Cx} {CX : CXT} {C fE fL : Addr} {k : Nat} {fd : FuncData} {ps : List Str} {sp : Sp} {E : XK}
theorem run_in {A : Around} {pins : List (Addr × Obj)} {σ : L2.St} {H : Hp} {s : Shared} {Q : VK} {us : List Value} {vs : List V} {f : Addr} (F : FnOk X.prog X.w X.K X.mg X.base CX k f fd ps sp) (hr : Room k A) (hA : A.frames = X.A.frames) (hb : Binds X.K fd ps []) (hx : Passes CX X E)
    (I : Inv X pins σ H s) (r : Vals vs us) (h : sp vs H Q E) : wpAny (model X.prog X.w) A (call (.ref f) us) (EP X pins σ Q) X.xe s := by
  have e0 : Env0 X.prog X.w X.K X.mg X.base A X.stack s H := by
    have e := I.env0
    exact ⟨by rw [hA]; exact e.frames, e.mod, e.bs, e.bsz, e.funs, e.frf, e.hok, e.bare⟩
  have hl := F.len _ _ _ _ h
  have l2 := r.length
  refine wpAny_call (codeAny_mono (F.run A X.stack s H ⟨us, []⟩ us vs Q E hr e0 (by
    have := hb s us I.kIn (by simp; omega)
    simpa using this) r h) fun r s' hq => ?_)
  cases r with
  | error e => exact hx pins σ H s e s' I hq
  | ok fl =>
    cases fl with
    | ret w => exact I.after hq
    | next => exact False.elim hq
    | brk => exact False.elim hq
    | cont => exact False.elim hq
/-- x == y, x an instance; y another one, or data -/
def OthV (X : Cx) (C : Addr) (H : Hp) (y : V) : Prop := (∃ b dy gs, y = .ref b ∧ H b = some (.ins C dy gs)) ∨ ∃ m l d, Dq X.K H m l y d
def rOwnQ (X : Cx) (C : Addr) (sp : Sp) (neg : Bool) (E : XK) : R2 := fun x y H Q => ∃ a dx fs, x = .ref a ∧ H a = some (.ins C dx fs) ∧ OthV X C H y ∧ sp [.ref a, y] H (fun v H' => ∃ b, v = .bl b ∧ Q (.bl (if neg then !b else b)) H') E
theorem oth_looks {M : Model} {pins : List (Addr × Obj)} {σ : L2.St} {H : Hp} {s : Shared} {y : V} {u : Value} (O : OwnC X.K C fE fL) (I : Inv X pins σ H s) (h : OthV X C H y) (r : RelV y u) : ∃ t, PySem.W.Looks M s.heap (typeOf u) t ∧ PySem.W.notFirst X.K C t = true := by
  rcases h with ⟨b, dy, gs, rfl, hb⟩ | ⟨m, l, d, hd⟩
  · cases r
    obtain ⟨mB, J', _⟩ := ins_get I.hok hb
    obtain ⟨od', J', _⟩ := J'.look
    exact ⟨.ref C, J'.type, by simp [PySem.W.notFirst]⟩
  · refine ⟨_, dq_looks I hd r, ?_⟩
    unfold PySem.W.notFirst
    rw [O.nt _ (tyD_mem d)]
    simp
theorem op_eqOwn (O : OwnC X.K C fE fL) (F : FnOk X.prog X.w X.K X.mg X.base CX k fE fd ps sp) (hr : Room k X.A) (hb : Binds X.K fd ps []) (hx : Passes CX X E) : OpR X (compareOp .Eq) (rOwnQ X C sp false E) := by
  intro pins s σ H x y v u Q I rx ry h
  obtain ⟨a, dx, fs, rfl, ha, ho, h⟩ := h
  cases rx
  obtain ⟨mA, J, _⟩ := ins_get I.hok ha
  obtain ⟨od, J, _⟩ := J.look
  obtain ⟨m, hF⟩ := I.fr
  obtain ⟨t, lt, nt⟩ := oth_looks (M := model X.prog X.w) O I ho ry
  show wpAny (model X.prog X.w) X.A (richCompare .Eq (.ref a) u) (EP X pins σ Q) X.xe s
  refine PySem.W.cmp_K (op := .Eq) hr.units0 hF I.ok.mod.kin J lt nt O.eq O.eqf ?_
  refine wpAny_mono (run_in (vs := [.ref a, y]) F hr rfl hb hx I (.cons rfl (.cons ry .nil)) h) (fun w s' hw => ?_) fun _ _ z => z
  obtain ⟨z, H', I', rz, b, ez, q⟩ := hw
  subst ez
  cases rz
  exact ⟨.bl b, H', I', rfl, q⟩
theorem ifBound_blt {M : Model} {A : Around} {E : Value → Shared → Prop} {s : Shared} {K : PySem.W.Frag} {x C : Addr} {ox : Obj} {od : Option Obj} {name : Str} {id B : String} {args : List Value} {Q : Option Value → Shared → Prop} (X : K.In s.heap) (I : PySem.W.InstAt s.heap x ox C od)
    (hs : PySem.W.findIn K (.ref C) name = some (some (.builtin id))) (S : Slot B name id)
    (h : wpAny M A (call (.builtin id) (.ref x :: args)) (fun v => Q (some v)) E s) : wpAny M A (callSpecialIfBound? (.ref x) name args) Q E s := by
  simp only [callSpecialIfBound?, bindSpecialIfBound?]
  refine wpAny_holding (wpAny_bind (wpAny_bind (wpAny_bind (I.type.here ((PySem.W.looks_findIn X hs).here ?_)))))
  simp only [S.bind]
  refine wpAny_bind (wpAny_askSetting (wpAny_ite ?_))
  have fin : wpAny M A (call (.builtin id) ([.ref x] ++ args) >>= fun v => pure (some v)) Q E s := wpAny_bind (wpAny_mono h (fun v s' h' => wpAny_pure h') fun _ _ h' => h')
  split
  · exact wpAny_bind (wpAny_pure (wpAny_pure fin))
  · exact wpAny_tryCatch (wpAny_bind (wpAny_pure (wpAny_pure fin)))
theorem op_neOwn (O : OwnC X.K C fE fL) (F : FnOk X.prog X.w X.K X.mg X.base CX k fE fd ps sp) (hr : Room (k + 1) X.A) (hb : Binds X.K fd ps []) (hx : Passes CX X E) : OpR X (compareOp .NotEq) (rOwnQ X C sp true E) := by
  intro pins s σ H x y v u Q I rx ry h
  obtain ⟨a, dx, fs, rfl, ha, ho, h⟩ := h
  cases rx
  obtain ⟨mA, J, _⟩ := ins_get I.hok ha
  obtain ⟨od, J, _⟩ := J.look
  obtain ⟨t, lt, nt⟩ := oth_looks (M := model X.prog X.w) O I ho ry
  have hi : PySem.W.Looks (model X.prog X.w) s.heap (isInstance (.ref a) (.type "object")) true := J.type.andThen (PySem.W.looks_subIn I.kIn O.ob)
  have one : wpAny (model X.prog X.w) X.A (tryCompare (.ref a) "__ne__" u) (fun r s' => ∃ v, r = some v ∧ EP X pins σ Q v s') X.xe s := by
    simp only [tryCompare]
    refine wpAny_bind (ifBound_blt I.kIn J O.ne PySem.F.cmp_object.ne (wpAny_call (codeAny_call_builtin PySem.F.cmp_object.ne.plain PySem.F.cmpEntry_ne (PySem.W.check_slot PySem.F.cmpKind_ne PySem.F.cmpSplit_ne hi (PySem.F.cmpArgs_ne _ _) ?_))))
    unfold Builtin.«object.__ne__»
    repeat (first
      | with_reducible refine wpAny_cRoomFor hr.in1.units0 ?_
      | (refine wpAny_bind (m := callSpecialIfBound? (.ref a) "__eq__" [u]) (PySem.W.ifBound_K I.kIn J O.eq O.eqf (wpAny_mono (run_in (vs := [.ref a, y]) F hr.in1 rfl hb hx I (.cons rfl (.cons ry .nil)) h) (fun w s' hw => by
          obtain ⟨z, H', I', rz, b, ez, q⟩ := hw
          subst ez
          cases rz
          have fin : ∃ v, some (Value.bool (!b)) = some v ∧ EP X pins σ Q v s' := ⟨_, rfl, .bl (!b), H', I', rfl, q⟩
          repeat (first | exact fin | exact wpAny_pure fin | exact wpAny_pure (wpAny_pure fin) | exact wpAny_truthy_bool fin | (refine wpAny_bind (m := truthy (.bool _)) (wpAny_truthy_bool ?_)) | wp_step)) fun _ _ e => e)))
      | wp_step)
  show wpAny (model X.prog X.w) X.A (richCompare .NotEq (.ref a) u) (EP X pins σ Q) X.xe s
  unfold richCompare
  simp only [oneThing_ref]
  refine wpAny_holding (wpAny_bind (wpAny_cRoomFor hr.units0 ?_))
  refine wpAny_bind (J.type.here (wpAny_bind (lt.here ?_)))
  split
  · rename_i q
    have e : PySem.W.subIn X.K t (.ref C) = some false := by
      rcases Bool.or_eq_true_iff.mp nt with e | e
      · rw [beq_iff_eq.mp e] at q; simp at q
      · exact beq_iff_eq.mp e
    refine wpAny_bind ((PySem.W.looks_subIn I.kIn e).here ?_)
    simp only [Bool.false_eq_true, if_false]
    refine wpAny_bind (wpAny_mono one (fun r s' z => ?_) fun _ _ e => e)
    obtain ⟨v, rfl, hq⟩ := z
    exact wpAny_pure hq
  · refine wpAny_bind (wpAny_pure ?_)
    simp only [Bool.false_eq_true, if_false]
    refine wpAny_bind (wpAny_mono one (fun r s' z => ?_) fun _ _ e => e)
    obtain ⟨v, rfl, hq⟩ := z
    exact wpAny_pure hq
/-- len(x), x an instance -/
def rOwnL (C : Addr) (sp : Sp) (E : XK) : List V → Hp → VK → Prop := fun xs H Q => ∃ a dx fs, xs = [.ref a] ∧ H a = some (.ins C dx fs) ∧ sp [.ref a] H (fun v H' => ∃ n : Int, v = .int n ∧ 0 ≤ n ∧ n < 2 ^ 63 ∧ Q (.int n) H') E
theorem call_lenOwn (O : OwnC X.K C fE fL) (F : FnOk X.prog X.w X.K X.mg X.base CX k fL fd ps sp) (hr : Room (k + 1) X.A) (hb : Binds X.K fd ps []) (hx : Passes CX X E) : CallR X (.builtin "len") (rOwnL C sp E) := by
  intro pins s σ H xs us Q I r h
  obtain ⟨a, dx, fs, rfl, ha, h⟩ := h
  obtain ⟨u, rfl, rx⟩ := vals1 r
  cases rx
  obtain ⟨mA, J, _⟩ := ins_get I.hok ha
  obtain ⟨od, J, _⟩ := J.look
  obtain ⟨m, hF⟩ := I.fr
  refine PySem.W.len_K hF I.ok.mod.kin J O.ln O.lnf ?_
  refine wpAny_mono (run_in (vs := [.ref a]) F hr.in1 rfl hb hx I (.cons rfl .nil) h) (fun w s' hw => ?_) fun _ _ z => z
  obtain ⟨z, H', I', rz, n, ez, n0, n1, q⟩ := hw
  subst ez
  obtain ⟨t, rfl⟩ := rz
  exact ⟨⟨n0, n1⟩, .int n, H', I'.tok _, ⟨_, rfl⟩, q⟩
end
end Ms
namespace Ms
open PySem PySem.Spec PyProof.Rows L2
/-! ### data held against an instance -/
/-- isinstance of data: no instance -/
def NotKit (K : PySem.W.Frag) (C : Addr) : Prop := ∀ T ∈ (["NoneType", "bool", "int", "str", "list", "tuple", "dict"] : List String), PySem.W.kitOne K (.type T) (.ref C) = some false
/-- v is the data d, plain -/
structure Pl (K : PySem.W.Frag) (H : Hp) (m l : Addr) (v : V) (d : PyData) : Prop where
  dq : Dq K H m l v d
  nd : noDi d = true
  sh : SeqAt.shaped d = true
theorem Pl.same {K : PySem.W.Frag} {m l : Addr} {H H' : Hp} {v : V} {d : PyData} (s : Same H H') (p : Pl K H m l v d) : Pl K H' m l v d := ⟨Dq.same s _ _ p.dq, p.nd, p.sh⟩
end Ms
namespace Ms
open PySem PySem.Spec PyProof.Rows
section
open Builtin Builtin.ObjectAttr
variable {prog : Program} {w : World} {A : Around} {E : Value → Shared → Prop} {R : Result → Shared → Prop} {hp : Heap} {g : Array GenState} {d : Drawn} {t : Nat} {os : OsState} {B newId initId : String} {bmB : List Value}
/-- the first field of an exception, whatever its built-in base -/
theorem exc_put {K : PySem.W.Frag} {name : Str} {tk : Tok} {v : Value} {x C : Addr} {fv : Array Value} (SF : StoreFacts B bmB "object.__setattr__" "object") (X : K.In hp)
    (hx : hp.get? x = some { cls := .ref C, data := .fields fv }) (ov : PySem.W.excOver K C bmB = true) (hd : PySem.W.hasDictIn K C = true) (ht : PySem.W.takerIn K C name = some none)
    (hq : ∀ h' tk' dx, (∀ b o, b ≠ x → hp.get? b = some o → h'.get? b = some o) → hp.objs.size ≤ dx → dx ≠ x → h'.get? x = some { cls := .ref C, dict := some dx, data := .fields fv } →
      h'.Ns1 dx (fun y => if y = name then some v else none) → R (.ok (.ret .none)) ⟨h', g, d, tk', os⟩) :
    codeAny (model prog w) A (.call (.builtin "object.__setattr__") ⟨[.ref x, .str name tk, v], []⟩) R ⟨hp, g, d, t, os⟩ := by
  have far : x ≠ hp.objs.size := Nat.ne_of_lt (Heap.lt_size hx)
  refine PySem.W.osa_openX (s := ⟨hp, g, d, t, os⟩) (ox := { cls := .ref C, data := .fields fv }) (od := none) SF X ⟨hx, rfl, rfl, trivial⟩ ov ht fun b => ?_
  show wpAny _ _ (storeInOwnDict (.ref x) (.ref C) (.str name tk) name v b) _ _ _
  obtain ⟨cd, hc, hhd⟩ := PySem.W.any_some hd
  have look : PySem.W.Looks (model prog w) hp (classData C) cd := PySem.W.looks_clsIn X hc
  obtain ⟨nm, bs, mro, ns, qn, has, sn, sb, ab, col, del⟩ := cd
  dsimp only at hhd
  subst hhd
  unfold storeInOwnDict ownDictForStores
  repeat (first | with_reducible refine PySem.HandSPX.store_in_new ?_ ?_ | with_reducible refine wpAny_loadPart_at hx ?_ | with_reducible refine look.at ?_ | wp_step)
  · exact ⟨_, #[], _, (Heap.get?_update_ne _ _ _ _ far.symm).trans (Heap.get?_push_at rfl rfl), rfl, fun e he => absurd he (by simp), fun _ => rfl⟩
  · intro h' tk' hn' hs
    have old : (hp.push { cls := .type "dict", data := .dict #[] }).get? x = some { cls := .ref C, data := .fields fv } := Heap.get?_push_of_some _ hx
    refine hq h' tk' hp.objs.size (fun b o hb ho => ?_) (Nat.le_refl _) far.symm ?_ hn'
    · rw [hs.2 b (Nat.ne_of_lt (Heap.lt_size ho)), Heap.get?_update_ne _ _ _ _ hb]
      exact Heap.get?_push_of_some _ ho
    · rw [hs.2 x far]
      exact Heap.get?_update_self _ old rfl

/-! ### C(f = u): an own exception class called by its field's name -/
section
variable {nm q : Str} {C N : Addr} {bs bm : List Value} {hdct : Bool} {sn : List Str} {sub : List Value} {ab : Bool} {col : Option Bool} {dd : Option Addr} {k0 k1 k2 k3 k5 : Option Value} {f : Str} {u : Value}
theorem kw_checked (F : ExcBaseFacts B newId initId bmB) (same : ∀ Y : String, bm.contains (.type Y) = bmB.contains (.type Y)) {Q : Unit → Shared → Prop}
    (hC : hp.get? C = some (excClassObj nm q C N bs bm hdct sn sub ab col dd k0 k1 k2 k3 k5 newId)) (hq : Q () ⟨hp, g, d, t, os⟩) : wpAny (model prog w) A (checkBuiltinCall newId ⟨[.ref C], [(f, u)]⟩) Q E ⟨hp, g, d, t, os⟩ := by
  have hasB : (Value.ref C :: bm).contains (.type B) = true := by rw [List.contains_cons, same, F.hasB, Bool.or_true]
  have star := F.noStar
  simp only [checkBuiltinCall, F.newKind, F.newSplit, F.newRow]
  repeat (first | refine wpAny_loadPart_at hC ?_ | (refine wpAny_isSubtype_exc hC ?_; rw [hasB]) | refine wpAny_staticBase_exc hC ?_ | refine wpAny_madeBy_exc hC ?_ | simp only [bne_self_eq_false, Bool.false_eq_true, if_false] | wp_step)
  exact hq
theorem kw_new (F : ExcBaseFacts B newId initId bmB) (same : ∀ Y : String, bm.contains (.type Y) = bmB.contains (.type Y))
    (hC : hp.get? C = some (excClassObj nm q C N bs bm hdct sn sub ab col dd k0 k1 k2 k3 k5 newId))
    (hq : R (.ok (.ret (.ref (hp.objs.size + 1)))) ⟨(hp.push { cls := .type "tuple", data := .seq #[] }).push { cls := .ref C, data := .fields #[.ref hp.objs.size, .none, .none, .none, .bool false, .none] }, g, d, t, os⟩) :
    codeAny (model prog w) A (.builtin newId ⟨[.ref C], [(f, u)]⟩) R ⟨hp, g, d, t, os⟩ := by
  have ends := F.ends
  have cB : (Value.ref C :: bm).contains (.type B) = true := by rw [List.contains_cons, same, F.hasB, Bool.or_true]
  have cA : (Value.ref C :: bm).contains (.type "AttributeError") = false := by rw [List.contains_cons, same, F.noAttr]; rfl
  have cN : (Value.ref C :: bm).contains (.type "NameError") = false := by rw [List.contains_cons, same, F.noName]; rfl
  refine codeAny_builtinAt F.entry ?_
  unfold Builtin.«BaseException.__new__»
  refine PySem.wpAt_bind ?_
  show PySem.wpAt _ _ _ (stack >>= _) _ _ _
  refine PySem.wpAt_bind (PySem.wpAt_stack fun p below => PySem.wpAt_of_wpAny ?_)
  wp_walk
  refine PySem.wpAt_of_wpAny ?_
  rw [F.owner]
  repeat (first | with_reducible refine wpAny_madeHere_exc F.canon hC ?_ | with_reducible refine wpAny_loadPart_at hC ?_ | (with_reducible refine wpAny_isSubtype_exc hC ?_; first | rw [cB] | rw [cA] | rw [cN]) | wp_step)
  show R _ _
  rw [Heap.size_push]
  exact hq
theorem kw_made (F : ExcBaseFacts B newId initId bmB) (same : ∀ Y : String, bm.contains (.type Y) = bmB.contains (.type Y)) {fI : Addr} {Q : Fin → Shared → Prop}
    (hC : hp.get? C = some (excClassObj nm q C N bs bm hdct sn sub ab col dd k0 k1 k2 k3 k5 newId))
    (ini : PySem.W.Looks (model prog w) hp (typeLookup (.ref C) "__init__") (some (.ref fI))) (bnd : ∀ self, PySem.W.Looks (model prog w) hp (bindSpecial (.ref fI) self) (.ref fI, [self]))
    (hq : codeAny (model prog w) A (.call (.ref fI) ⟨[.ref (hp.objs.size + 1)], [(f, u)]⟩)
      (fun r s' => match r with | .ok (.ret v) => v = .none ∧ Q (.done (.ret (.ref (hp.objs.size + 1)))) s' | .ok _ => False | .error e => E e s')
      ⟨(hp.push (PySem.W.kdv_tup [])).push (PySem.HandSPX.excO C hp.objs.size), g, d, t, os⟩) :
    wpAny (model prog w) A (Builtin.«type.__call__» ⟨[.ref C], [(f, u)]⟩) Q E ⟨hp, g, d, t, os⟩ := by
  repeat (first | with_reducible refine wpAny_loadPart_at hC ?_ | with_reducible refine wpAny_madeBy_exc hC ?_ | wp_step)
  refine codeAny_call_builtin_code (Code.quiet_builtin _ F.quiet) (kw_checked F same hC ?_)
  refine kw_new F same hC ?_
  show wpAny _ _ _ _ _ _
  have old : ∀ b o, hp.get? b = some o → ((hp.push (PySem.W.kdv_tup [])).push (PySem.HandSPX.excO C hp.objs.size)).get? b = some o := fun b o e => Heap.get?_push_of_some _ (Heap.get?_push_of_some _ e)
  have atC := old _ _ hC
  have atE : ((hp.push (PySem.W.kdv_tup [])).push (PySem.HandSPX.excO C hp.objs.size)).get? (hp.objs.size + 1) = some (PySem.HandSPX.excO C hp.objs.size) := by heap_get
  have isC : (Value.ref C :: bm).contains (.ref C) = true := by simp
  have look1 := ini.keeps old
  have look2 := (bnd (.ref (hp.objs.size + 1))).keeps old
  unfold isInstance
  repeat (first | with_reducible refine wpAny_loadPart_at atE ?_ | (with_reducible refine wpAny_isSubtype_exc atC ?_; rw [isC]) | wp_step)
  show wpAny _ _ (typeLookup (.ref C) _) _ _ _
  refine look1.at ?_
  refine wpAny_holding (wpAny_bind (look2.at (wpAny_bind (wpAny_call (codeAny_mono hq fun r s' z => ?_)))))
  rcases r with e | (v | _ | _ | _) <;> first | exact z | exact z.elim | skip
  obtain ⟨rfl, z⟩ := z
  first
    | exact wpAny_pure (wpAny_pure z)
    | (wp_walk; exact z)
theorem kw_type_checked {M : Model} {Q : Unit → Shared → Prop} (hC : hp.get? C = some (excClassObj nm q C N bs bm hdct sn sub ab col dd k0 k1 k2 k3 k5 newId)) (hq : Q () ⟨hp, g, d, t, os⟩) :
    wpAny M A (checkBuiltinCall "type.__call__" ⟨[.ref C], [(f, u)]⟩) Q E ⟨hp, g, d, t, os⟩ := by
  have below := tc_sub
  have isT : (⟨hp, g, d, t, os⟩ : Shared).TypeIs (.ref C) "type" := ⟨_, hC, rfl⟩
  simp only [checkBuiltinCall, tc_kind, tc_split]
  repeat (any_goals (first | assumption | with_reducible refine wpAny_loadPart_at hC ?_ | with_reducible refine wpAny_onRaise ?_ | with_reducible refine wpAny_map ?_ | wp_step))
theorem kw_called (F : ExcBaseFacts B newId initId bmB) (same : ∀ Y : String, bm.contains (.type Y) = bmB.contains (.type Y)) {fI : Addr}
    (hC : hp.get? C = some (excClassObj nm q C N bs bm hdct sn sub ab col dd k0 k1 k2 k3 k5 newId))
    (ini : PySem.W.Looks (model prog w) hp (typeLookup (.ref C) "__init__") (some (.ref fI))) (bnd : ∀ self, PySem.W.Looks (model prog w) hp (bindSpecial (.ref fI) self) (.ref fI, [self]))
    (hq : codeAny (model prog w) (A.under (.builtin "type.__call__" ⟨[.ref C], [(f, u)]⟩)) (.call (.ref fI) ⟨[.ref (hp.objs.size + 1)], [(f, u)]⟩) (PySem.W.InitBack (hp.objs.size + 1) R)
      ⟨(hp.push (PySem.W.kdv_tup [])).push (PySem.HandSPX.excO C hp.objs.size), g, d, t, os⟩) :
    codeAny (model prog w) A (.call (.ref C) ⟨[], [(f, u)]⟩) R ⟨hp, g, d, t, os⟩ := by
  have f1 := tc_lookup
  have f2 := tc_bind (.ref C)
  have isT : (⟨hp, g, d, t, os⟩ : Shared).TypeIs (.ref C) "type" := ⟨_, hC, rfl⟩
  refine codeAny_of_tree ?_
  show wpAny _ _ (callAny (.ref C) _) _ _ _
  repeat (any_goals (first | assumption | with_reducible refine wpAny_loadPart_at hC ?_ | wp_step))
  refine ⟨rfl, ?_⟩
  refine codeAny_call_builtin_at (Code.quiet_builtin _ (by decide +kernel)) entry_typeCall (kw_type_checked hC (kw_made F same hC ini bnd ?_))
  refine codeAny_mono hq fun r s' z => ?_
  rcases r with e | (v | _ | _ | _) <;> exact z
end
end
end Ms
namespace Ms
open PySem PySem.Spec PyProof.Rows L2
/-- what the written part says of an own exception class x, at C, that keeps one field f -/
structure XC (K : PySem.W.Frag) (C fI : Addr) (f : Str) (newId : String) (bmB : List Value) : Prop where
  ini : PySem.W.excInitIn K C bmB newId = true
  ovr : PySem.W.excOver K C bmB = true
  sa : PySem.W.findIn K (.ref C) "__setattr__" = some (some (.builtin "object.__setattr__"))
  tk : PySem.W.takerIn K C f = some none
  hd : PySem.W.hasDictIn K C = true
  iC : PySem.W.findIn K (.ref C) "__init__" = some (some (.ref fI))
  fn : PySem.W.isFn K (.ref fI) = true
  kC : PySem.W.keepIn K (.ref C) = true
/-- at a: an exception of the class at C whose field f is y -/
def XE (H : Hp) (a C : Addr) (f : Str) (y : V) : Prop := ∃ dx, H a = some (exo a C (some dx)) ∧ H dx = some (exd dx [(f, y)])
def laidX (H : Hp) (a dx C : Addr) (f : Str) (y : V) : Hp := upd (upd H dx (exd dx [(f, y)])) a (exo a C (some dx))
def spInit (C : Addr) (f : Str) : Sp := fun vs H Q _ => ∃ (a : Addr) (y : V), vs = [.ref a, y] ∧ H a = some (exo a C none) ∧ ∀ dx, H dx = none → dx ≠ a → Q .non (laidX H a dx C f y)
section
variable {X : Cx} {pins : List (Addr × Obj)} {σ : L2.St} {H : Hp} {C fI a : Addr} {f : Str} {B newId initId : String} {bmB : List Value}
theorem inv_laid {hp h' : Heap} {g : Array GenState} {d : Drawn} {t tk : Nat} {os : OsState} {dx t1 : Addr} {y : V} {u : Value} (I : Inv X pins σ H ⟨hp, g, d, t, os⟩) (e : H a = some (exo a C none))
    (k : ∀ b o, b ≠ a → hp.get? b = some o → h'.get? b = some o) (dn : hp.objs.size ≤ dx) (hx : h'.get? a = some ({ cls := .ref C, dict := some dx, data := .fields #[.ref t1, .none, .none, .none, .bool false, .none] } : Obj))
    (hn : h'.Ns1 dx (fun z => if z = f then some u else none)) (ry : RelV y u) : Inv X pins σ (laidX H a dx C f y) ⟨h', g, d, tk, os⟩ := by
  have hnd : H dx = none := I.hok.fresh dn
  have nd : ∀ {b : Addr} {o : Obj}, hp.get? b = some o → b ≠ dx := fun {b o} q => Nat.ne_of_lt (Nat.lt_of_lt_of_le (Heap.lt_size q) dn)
  have na : ∀ {b : Addr}, H b = none → b ≠ a := fun {b} n z => by rw [z, e] at n; cases n
  have un : Un X.fs [] H (laidX H a dx C f y) hp h' := by
    constructor
    · exact fun b o q n _ _ => k b o (na n) q
    · exact fun b o q n _ _ => ⟨o.slots, k b o (na n) q⟩
    · intro b o q n _
      unfold laidX
      rw [upd_ne (na n), upd_ne (nd q)]
      exact n
    · intro b o q _
      by_cases hb : b = a
      · exact ⟨_, by rw [hb]; exact hx⟩
      · exact ⟨o, k b o hb q⟩
    · intro b xs q
      unfold laidX
      rw [upd_ne (at_ne e q exo_tup), upd_ne (ne_of_none q hnd)]
      exact q
    · intro b o v q
      unfold laidX
      rw [upd_ne (at_ne e q exo_frz), upd_ne (ne_of_none q hnd)]
      exact q
    · intro b ps q
      refine ⟨#[], ?_⟩
      unfold laidX
      rw [upd_ne (at_ne e q exo_tbl), upd_ne (ne_of_none q hnd), q]
      simp
  refine I.un (t' := tk) un fun b o q => ?_
  unfold laidX at q ⊢
  by_cases hb : b = a
  · subst hb
    rw [upd_same] at q
    cases q
    exact exo_ok hx
  · rw [upd_ne hb] at q
    by_cases hd : b = dx
    · subst hd
      rw [upd_same] at q
      cases q
      exact exd_ok hn (relO_put (fs := []) ry fun g => True.intro)
    · rw [upd_ne hd] at q
      refine (I.hok b o q).stay (fun c v hc z => k c v ?_ z) (fun c hc => ?_) fun c xs hc => ?_
      · rcases hc with hc | hc
        · rw [hc]; exact hb
        · exact at_ne e hc exo_own
      · rw [upd_ne (at_ne e hc exo_own), upd_ne (ne_of_none hc hnd)]; exact hc
      · rw [upd_ne (at_ne e hc exo_tup), upd_ne (ne_of_none hc hnd)]; exact hc
/-- self.f = y -/
theorem xc_store {s : Shared} {y : V} {u : Value} {Q : Unit → Shared → Prop} {E : Value → Shared → Prop} {A : Around} (SF : StoreFacts B bmB "object.__setattr__" "object") (T : XC X.K C fI f newId bmB) (I : Inv X pins σ H s) (e : H a = some (exo a C none)) (ry : RelV y u)
    (h : ∀ dx s', H dx = none → dx ≠ a → Inv X pins σ (laidX H a dx C f y) s' → Q () s') : wpAny (model X.prog X.w) A (setAttr (.ref a) f u) Q E s := by
  obtain ⟨t1, ho⟩ := exo_at I.hok e
  obtain ⟨hp, g, d, t, os⟩ := s
  refine PySem.W.set_plain I.kIn (ox := { cls := .ref C, dict := none, data := .fields #[.ref t1, .none, .none, .none, .bool false, .none] }) (od := none) ⟨ho, rfl, rfl, trivial⟩ T.sa ?_
  refine exc_put SF I.kIn ho T.ovr T.hd T.tk fun h' tk' dx k dn dne hx hn => ?_
  exact h dx _ (I.hok.fresh dn) dne (inv_laid I e k dn hx hn ry)
def tXst (C : Addr) (f : Str) (to te : TE) : TS := fun D σ H => te σ H fun y H1 => to σ H1 fun x H2 => ∃ a : Addr, x = .ref a ∧ H2 a = some (exo a C none) ∧ ∀ dx, H2 dx = none → dx ≠ a → D.nx σ (laidX H2 a dx C f y)
theorem ps_xst {o e : Expr} {to te : TE} {p' pos : Pos} (SF : StoreFacts B bmB "object.__setattr__" "object") (T : XC X.K C fI f newId bmB) (ho : PE X o to) (he : PE X e te) (hs : swapsWith e (some (.Attribute o f p')) pos.line X.env = pure false := by rfl) :
    PS X (.Assign [.Attribute o f p'] e pos) (tXst C f to te) := by
  refine ⟨fun pins s σ H D I h => ?_⟩
  refine plainObj_wpAny_Assign_Attribute (thn (he.run pins s σ H _ I h) fun v s1 ⟨y, H1, I1, r1, q1⟩ => thn (ho.run pins s1 σ H1 _ I1 q1) fun u s2 ⟨x, H2, I2, r2, a, ex, ea, q⟩ => ?_) hs
  subst ex
  obtain rfl : u = Value.ref a := r2
  exact xc_store SF T I2 ea r1 fun dx s' n ne J => ⟨σ, _, J, q dx n ne⟩
end
section
variable {P : Program} {w : World} {K : PySem.W.Frag} {mg : Str → Option Value} {base : Heap} {C fI : Addr} {f : Str} {B newId initId : String} {bmB : List Value}
/-- __init__ of such a class -/
theorem ok_xinit {qual : Str} {st : Stmt} {fd : FuncData} {p1 p2 p3 p4 : Pos} (F : Fun K "__init__" qual st fI fd) (SF : StoreFacts B bmB "object.__setattr__" "object") (T : XC K C fI f newId bmB) (sc : FnScope ["self", f] ["self", f] (defScope st))
    (hb : defBody st = [.Assign [.Attribute (.Name "self" p1) f p2] (.Name f p3) p4]) (ls : (defScope st).names.lookup ("self" : Str) = some .local) (lf : (defScope st).names.lookup f = some .local) (gf : (f == ("__debug__" : Str)) = false) (gc : (f == ("__classdict__" : Str)) = false) : FnOk P w K mg base CX0 1 fI fd ["self", f] (spInit C f) := by
  refine F.ok sc (fun vs H Q E h => ?_) (fun cdv A outer s H vs Q E hr h => ?_)
  · obtain ⟨a, y, rfl, _⟩ := h
    rfl
  · obtain ⟨a, y, rfl, e, q⟩ := h
    rw [hb]
    refine ⟨_, pss_one (ps_xst SF T (pe_var (i := 0) rfl (.inl ls) (by decide) (by decide)) (pe_var (i := 1) rfl (.inl lf) gf gc) rfl), ?_⟩
    exact ⟨_, rfl, _, rfl, a, rfl, e, fun dx n ne => q dx n ne⟩
end

/-! ### C(e), C(f = e) -/
section
variable {X : Cx} {C fI : Addr} {f x : Str} {B newId initId : String} {bmB : List Value} {fd : FuncData} {te : TE} {e : Expr} {p pos : Pos}
def tXmk (C : Addr) (f : Str) (te : TE) : TE := fun σ H Q => te σ H fun y H1 => ∀ a dx, H1 a = none → H1 dx = none → dx ≠ a → Q (.ref a) (laidX H1 a dx C f y)
theorem laidX_over {H : Hp} {a dx C : Addr} {f : Str} {y : V} {o : HO} : laidX (upd H a o) a dx C f y = laidX H a dx C f y := by
  funext b
  unfold laidX upd
  by_cases h : b = a
  · rw [if_pos h, if_pos h]
  · rw [if_neg h, if_neg h]
    by_cases h2 : b = dx
    · simp only [if_pos h2]
      rw [if_neg h]
    · simp only [if_neg h2]
      rw [if_neg h]
/-- the making, from the call's arguments on: pos and kw are the two ways to hand the one value in -/
theorem xc_made {pins : List (Addr × Obj)} {σ : L2.St} {H1 : Hp} {hp : Heap} {g : Array GenState} {d : Drawn} {t : Nat} {os : OsState} {Q : VK} {y : V} {u : Value} {args : Args} (T : XC X.K C fI f newId bmB)
    (F1 : FnOk X.prog X.w X.K X.mg X.base CX0 1 fI fd ["self", f] (spInit C f)) (hr : Room 2 X.A) (I1 : Inv X pins σ H1 ⟨hp, g, d, t, os⟩) (ry : RelV y u) {A' : Around} (hA : Room 1 A') {tup : Obj}
    (env : ∀ s H, Env0 X.prog X.w X.K X.mg X.base X.A X.stack s H → Env0 X.prog X.w X.K X.mg X.base A' X.stack s H)
    (bd : ∀ s : Shared, X.K.In s.heap → BindsTo s fd args [("self", .ref (hp.objs.size + 1)), (f, u)])
    (q : ∀ a dx, H1 a = none → H1 dx = none → dx ≠ a → Q (.ref a) (laidX H1 a dx C f y)) :
    codeAny (model X.prog X.w) A' (.call (.ref fI) args) (PySem.W.InitBack (hp.objs.size + 1) fun r s' => match r with | .ok (.ret v) => EP X pins σ Q v s' | .ok _ => False | .error x => X.xe x s')
      ⟨(hp.push tup).push (PySem.HandSPX.excO C hp.objs.size), g, d, t, os⟩ := by
  have big : hp.objs.size ≤ hp.objs.size + 1 := Nat.le_succ _
  have new : H1 (hp.objs.size + 1) = none := I1.hok.fresh big
  have old : ∀ b o, hp.get? b = some o → ((hp.push tup).push (PySem.HandSPX.excO C hp.objs.size)).get? b = some o := fun b o z => Heap.get?_push_of_some _ (Heap.get?_push_of_some _ z)
  have atE : ((hp.push tup).push (PySem.HandSPX.excO C hp.objs.size)).get? (hp.objs.size + 1) = some (PySem.HandSPX.excO C hp.objs.size) := by
    have z := Heap.get?_push_size (h := hp.push tup) (o := PySem.HandSPX.excO C hp.objs.size) (ho := rfl)
    rw [Heap.size_push] at z
    exact z
  have I2 : Inv X pins σ (upd H1 (hp.objs.size + 1) (exo (hp.objs.size + 1) C none)) ⟨(hp.push tup).push (PySem.HandSPX.excO C hp.objs.size), g, d, t, os⟩ :=
    I1.laid (t' := t) (a := hp.objs.size + 1) (o := exo (hp.objs.size + 1) C none) old big (exo_ok atE)
  refine codeAny_mono (F1.run A' X.stack _ _ args [.ref (hp.objs.size + 1), u] [.ref (hp.objs.size + 1), y] (fun v H' => v = .non ∧ Q (.ref (hp.objs.size + 1)) H') (fun _ _ _ => False) hA (env _ _ I2.env0) (bd _ I2.kIn) (.cons rfl (.cons ry .nil)) ?_) fun r s' hq => ?_
  · refine ⟨_, y, rfl, upd_same, fun dx n ne => ⟨rfl, ?_⟩⟩
    rw [laidX_over]
    rw [upd_ne ne] at n
    exact q _ dx new n ne
  · match r, hq with
    | .error er, hq => exact False.elim hq
    | .ok (.next), hq => exact False.elim hq
    | .ok (.brk), hq => exact False.elim hq
    | .ok (.cont), hq => exact False.elim hq
    | .ok (.ret v), hq =>
      obtain ⟨z, H', J, rv, ez, qz⟩ := I2.after hq
      subst ez
      obtain rfl : v = Value.none := rv
      exact ⟨rfl, .ref (hp.objs.size + 1), H', J, rfl, qz⟩
theorem xc_looks {h : Heap} {M : Model} (T : XC X.K C fI f newId bmB) (hK : X.K.In h) : PySem.W.Looks M h (typeLookup (.ref C) "__init__") (some (.ref fI)) ∧ ∀ self, PySem.W.Looks M h (bindSpecial (.ref fI) self) (.ref fI, [self]) :=
  ⟨PySem.W.looks_findIn hK T.iC, fun self => PySem.W.bind_fn hK self (beq_iff_eq.mp T.fn)⟩
theorem pe_xc (FB : ExcBaseFacts B newId initId bmB) (T : XC X.K C fI f newId bmB) (F1 : FnOk X.prog X.w X.K X.mg X.base CX0 1 fI fd ["self", f] (spInit C f)) (hr : Room 2 X.A) (gC : X.mg x = some (.ref C)) (hg : Gl X x)
    (bd : ∀ (s : Shared) (v u : Value), BindsTo s fd ⟨[v, u], []⟩ [("self", v), (f, u)]) (he : PE X e te) (hdb : (x == ("__debug__" : Str)) = false := by decide)
    (hs : starEach [e] X.env = (false, eval e X.env) :: starEach [] X.env := by rfl) : PE X (.Call (.Name x p) [e] [] pos) (tXmk C f te) := by
  refine ⟨fun pins s σ H Q I h => ?_⟩
  refine wpAny_Call_Name_kw (ld_glob I hg gC ?_ hdb)
  refine PySem.W.callWith_K (h₀ := X.base) I.ok.mod.kin T.kC ?_ hs (by rfl)
  rw [hs]
  show wpAny _ _ (spliced ((false, eval e X.env) :: backTo pos (starEach [] X.env))) _ _ s
  refine Calls.spliced_cons (thn (he.run pins s σ H _ I h) fun u s1 ⟨y, H1, I1, r1, q1⟩ => ?_)
  refine Calls.spliced_nil ⟨I1.kIn, ?_⟩
  show wpAny _ _ (call (.ref C) [u]) _ _ _
  obtain ⟨nm, N, qn, bs, bm, hdct, sn, sub, ab, col, dd, k0, k1, k2, k3, k5, hC, same⟩ := PySem.W.excInit_of I1.kIn T.ini
  obtain ⟨hp, g, d, t, os⟩ := s1
  obtain ⟨lk, bn⟩ := xc_looks (M := model X.prog X.w) T I1.kIn
  exact wpAny_call (PySem.HandSPX.call_own FB same hC lk bn (by show 1 ≤ sizeLine; rw [sizeLine_eq]; omega) (xc_made (args := ⟨[.ref (hp.objs.size + 1), u], []⟩) T F1 hr I1 r1 (hr.make C [u] []) (fun s H z => z.make C [u] []) (fun s _ => bd s _ _) q1))
theorem pe_xcK {kws : List Keyword} {tk : TA} (FB : ExcBaseFacts B newId initId bmB) (T : XC X.K C fI f newId bmB) (F1 : FnOk X.prog X.w X.K X.mg X.base CX0 1 fI fd ["self", f] (spInit C f)) (hr : Room 2 X.A) (gC : X.mg x = some (.ref C)) (hg : Gl X x)
    (bd : ∀ (s : Shared) (v u : Value), BindsTo s fd ⟨[v], [(f, u)]⟩ [("self", v), (f, u)]) (hkw : PK X kws tk)
    (hall : (backToKw pos (keywordEach kws X.env)).all (·.1.isSome) = true := by rfl) (hks : (backToKw pos (keywordEach kws X.env)).filterMap (·.1) = [f] := by rfl) (hdb : (x == ("__debug__" : Str)) = false := by decide)
    (hpl : ((backTo pos (starEach [] X.env)).any (·.1) || (backToKw pos (keywordEach kws X.env)).any (·.1.isNone)) = false := by rfl) :
    PE X (.Call (.Name x p) [] kws pos) (fun σ H Q => tk σ H fun ys H1 => ∃ y, ys = [y] ∧ ∀ a dx, H1 a = none → H1 dx = none → dx ≠ a → Q (.ref a) (laidX H1 a dx C f y)) := by
  refine ⟨fun pins s σ H Q I h => ?_⟩
  refine wpAny_Call_Name_kw (ld_glob I hg gC ?_ hdb)
  refine PySem.W.callWith_KW0 (h₀ := X.base) I.ok.mod.kin T.kC hall ?_ hpl
  refine thn (hkw.run pos pins s σ H _ I h) fun ws s1 ⟨ys, H1, I1, rz, y, ey, q1⟩ => ⟨I1.kIn, ?_⟩
  rw [hks]
  subst ey
  cases rz with
  | @cons _ u _ _ r1 rn =>
    cases rn
    show wpAny _ _ (call (.ref C) [] [(f, u)]) _ _ _
    obtain ⟨nm, N, qn, bs, bm, hdct, sn, sub, ab, col, dd, k0, k1, k2, k3, k5, hC, same⟩ := PySem.W.excInit_of I1.kIn T.ini
    obtain ⟨hp, g, d, t, os⟩ := s1
    obtain ⟨lk, bn⟩ := xc_looks (M := model X.prog X.w) T I1.kIn
    exact wpAny_call (kw_called FB same hC lk bn (xc_made (args := ⟨[.ref (hp.objs.size + 1)], [(f, u)]⟩) T F1 hr I1 r1 (hr.make C [] [(f, u)]) (fun s H z => z.make C [] [(f, u)]) (fun s _ => bd s _ _) q1))
end

/-! ### e.f, isinstance(e, ..) of such an exception -/
structure FldC (K : PySem.W.Frag) (C : Addr) (f : Str) : Prop where
  ga : PySem.W.findIn K (.ref C) "__getattribute__" = some (some (.builtin "BaseException.__getattribute__"))
  gg : PySem.W.findIn K (.ref C) "__getattr__" = some none
  exB : PySem.W.subIn K (.ref C) (.type "BaseException") = some true
  hd : PySem.W.hasDictIn K C = true
  noF : PySem.W.findIn K (.ref C) f = some none
structure IsC (K : PySem.W.Frag) (C : Addr) : Prop where
  cl : (PySem.W.clsIn K C).isSome = true
  ga : PySem.W.findIn K (.ref C) "__getattribute__" = some (some (.builtin "BaseException.__getattribute__"))
  gg : PySem.W.findIn K (.ref C) "__getattr__" = some none
  exB : PySem.W.subIn K (.ref C) (.type "BaseException") = some true
  ha : PySem.W.findIn K (.ref C) "__class__" = some (some (.builtin "object.__class__"))
  hn : PySem.W.specialIn K (.builtin "object.__class__") "__get__" = some (some (.builtin "getset_descriptor.__get__"))
  ht : PySem.W.takesIn K (.builtin "object.__class__") = some true
  hm : PySem.W.mroIn K C (.type "object") = some true
section
variable {X : Cx} {pins : List (Addr × Obj)} {σ : L2.St} {H : Hp} {s : Shared} {C a : Addr} {f : Str} {y : V} {te : TE} {e : Expr} {pos : Pos}
theorem xe_inst (I : Inv X pins σ H s) (x : XE H a C f y) : ∃ oe od u, PySem.W.InstAt s.heap a oe C (some od) ∧ PySem.W.lookIn f od = some (some u) ∧ RelV y u := by
  obtain ⟨dx, e1, e2⟩ := x
  obtain ⟨t1, ho⟩ := exo_at I.hok e1
  obtain ⟨mA, hns, rel⟩ := exd_at I.hok e2
  obtain ⟨od, hod, hl⟩ := lookIn_ns hns
  have z : List.lookup f [(f, y)] = some y := by simp [List.lookup]
  obtain ⟨u, hu, ru⟩ := RelO.some_of (v := y) (o := mA f) (by rw [← z]; exact rel f)
  exact ⟨_, od, u, ⟨ho, rfl, rfl, hod⟩, by rw [hl, hu], ru⟩
def tXget (K : PySem.W.Frag) (f : Str) (te : TE) : TE := fun σ H Q => te σ H fun x H1 => ∃ (a C : Addr) (y : V), x = .ref a ∧ FldC K C f ∧ XE H1 a C f y ∧ Q y H1
theorem pe_xget (he : PE X e te) (hb : attributeBase e f X.env (eval e X.env) = eval e X.env := by rfl) : PE X (.Attribute e f pos) (tXget X.K f te) := by
  refine ⟨fun pins s σ H Q I h => ?_⟩
  refine attr_of hb (thn (he.run pins s σ H _ I h) fun u s1 ⟨x, H1, I1, rx, a, C, y, ex, T, xe, q⟩ => ?_)
  subst ex
  obtain rfl : u = Value.ref a := rx
  obtain ⟨oe, od, w, J, l, rw'⟩ := xe_inst I1 xe
  exact HandSPX.exc_get I1.kIn J T.ga T.gg T.exB (PySem.W.findObj_own T.hd T.noF rfl l) (handed_of rw') ⟨y, H1, I1.tok _, rw', q⟩
def rXis (K : PySem.W.Frag) : List V → Hp → VK → Prop := fun xs H Q => ∃ (a C : Addr) (f : Str) (y c : V) (u : Value) (b : Bool), xs = [.ref a, c] ∧ ClsV c u ∧ IsC K C ∧ XE H a C f y ∧ PySem.W.kitOne K (.ref C) u = some b ∧ Q (.bl b) H
def rXisT (K : PySem.W.Frag) : List V → Hp → VK → Prop := fun xs H Q => ∃ (a C tp : Addr) (f : Str) (y : V) (cs : List V) (us : List Value) (b : Bool), xs = [.ref a, .ref tp] ∧ H tp = some (.tup cs) ∧ Paired ClsV cs us ∧ IsC K C ∧ XE H a C f y ∧ PySem.W.kitAny K (.ref C) us = some b ∧ Q (.bl b) H
theorem call_xis : CallR X (.builtin "isinstance") (rXis X.K) := by
  intro pins s σ H xs us Q I r h
  obtain ⟨a, C, f, y, c, u, b, rfl, k, T, xe, e, q⟩ := h
  obtain ⟨u1, u2, rfl, r1, r2⟩ := vals2 r
  obtain rfl : u1 = Value.ref a := r1
  have e2 := k.eq r2
  subst e2
  obtain ⟨oe, od, w, J, l, rw'⟩ := xe_inst I xe
  exact PySem.W.kia_one (PySem.W.kitx_exc T.cl T.ga T.gg T.exB T.ha T.hn T.ht T.hm) I.kIn J e (fun z => nomatch z) fun tk => ⟨.bl b, H, I.tok tk, rfl, q⟩
theorem call_xisT : CallR X (.builtin "isinstance") (rXisT X.K) := by
  intro pins s σ H xs us Q I r h
  obtain ⟨a, C, tp, f, y, cs, ws, b, rfl, hT, k, T, xe, e, q⟩ := h
  obtain ⟨u1, u2, rfl, r1, r2⟩ := vals2 r
  obtain rfl : u1 = Value.ref a := r1
  cases (show u2 = Value.ref tp from r2)
  obtain ⟨oe, od, w, J, l, rw'⟩ := xe_inst I xe
  obtain ⟨_, its, rv, o, h1, h2, n, h3⟩ := (show ObjOk X.prog X.w H s.heap tp (.tup cs) from I.hok tp _ hT)
  have e3 := ClsV.all k rv
  subst e3
  obtain ⟨oc, od', dt, sl⟩ := o
  simp only at h2 h3
  subst h2 h3
  exact PySem.W.kia_tup (PySem.W.kitx_exc T.cl T.ga T.gg T.exB T.ha T.hn T.ht T.hm) I.kIn J h1 e (fun z => nomatch z) fun tk => ⟨.bl b, H, I.tok tk, rfl, q⟩
end
end Ms
namespace Ms
open PySem PySem.Spec PyProof.Rows L2
/-! ### raise C(e), C over LookupError or OverflowError, with one field -/
theorem laid_one {C : Addr} {f : Str} {H1 : Hp} {y : V} {a dx : Addr} (ha : H1 a = none) (h1 : (upd H1 a (exo a C none)) dx = none) (h2 : dx ≠ a) :
    H1 dx = none ∧ laidX (upd H1 a (exo a C none)) a dx C f y a = some (exo a C (some dx)) ∧ laidX (upd H1 a (exo a C none)) a dx C f y dx = some (exd dx [(f, y)]) ∧
    Same H1 (upd (del (laidX (upd H1 a (exo a C none)) a dx C f y) a) dx (.xd [(f, y)])) := by
  have hd : H1 dx = none := by rw [upd_ne h2] at h1; exact h1
  refine ⟨hd, upd_same, by unfold laidX; rw [upd_ne h2, upd_same], fun b o e => ?_⟩
  unfold laidX
  rw [upd_ne (ne_of_none e hd), del_ne (ne_of_none e ha), upd_ne (ne_of_none e ha), upd_ne (ne_of_none e hd), upd_ne (ne_of_none e ha)]
  exact e
section
variable {X : Cx} {C fI : Addr} {f x : Str} {B newId initId : String} {bmB : List Value} {fd : FuncData} {te : TE} {e : Expr} {p pos : Pos}
theorem pmk_xc (FB : ExcBaseFacts B newId initId bmB) (T : XC X.K C fI f newId bmB) (hex : PySem.W.subIn X.K (.ref C) (.type "BaseException") = some true) (hty : PySem.W.typeIn X.K (.ref C) = some (.type "type"))
    (F1 : FnOk X.prog X.w X.K X.mg X.base CX0 1 fI fd ["self", f] (spInit C f)) (hr : Room 2 X.A) (gC : X.mg x = some (.ref C)) (hg : Gl X x)
    (bd : ∀ (s : Shared) (v u : Value), BindsTo s fd ⟨[v, u], []⟩ [("self", v), (f, u)]) (he : PE X e te) (hdb : (x == ("__debug__" : Str)) = false := by decide)
    (hs : starEach [e] X.env = (false, eval e X.env) :: starEach [] X.env := by rfl) :
    PMk X (.Call (.Name x p) [e] [] pos) (fun σ H Q => te σ H fun y H1 => ∀ d H', H1 d = none → Same H1 H' → H' d = some (.xd [(f, y)]) → Q (.ref C) (some d) H') := by
  intro pins s σ H Q I h
  refine wpAny_Call_Name_kw (ld_glob I hg gC ?_ hdb)
  refine PySem.W.callWith_K (h₀ := X.base) I.ok.mod.kin T.kC ?_ hs (by rfl)
  rw [hs]
  show wpAny _ _ (spliced ((false, eval e X.env) :: backTo pos (starEach [] X.env))) _ _ s
  refine Calls.spliced_cons (thn (he.run pins s σ H _ I h) fun u s1 ⟨y, H1, I1, r1, q1⟩ => ?_)
  refine Calls.spliced_nil ⟨I1.kIn, ?_⟩
  show wpAny _ _ (call (.ref C) [u]) _ _ _
  obtain ⟨nm, N, qn, bs, bm, hdct, sn, sub, ab, col, dd, k0, k1, k2, k3, k5, hC, same⟩ := PySem.W.excInit_of I1.kIn T.ini
  obtain ⟨hp, g, dr, tk, os⟩ := s1
  obtain ⟨lk, bn⟩ := xc_looks (M := model X.prog X.w) T I1.kIn
  have hsz : hp.objs.size ≤ hp.objs.size + 1 := Nat.le_succ _
  have hn : H1 (hp.objs.size + 1) = none := I1.hok.fresh hsz
  have kk : ∀ b o, hp.get? b = some o → ((hp.push (PySem.W.kdv_tup [u])).push (PySem.HandSPX.excO C hp.objs.size)).get? b = some o := fun b o e => Heap.get?_push_of_some _ (Heap.get?_push_of_some _ e)
  have hget : ((hp.push (PySem.W.kdv_tup [u])).push (PySem.HandSPX.excO C hp.objs.size)).get? (hp.objs.size + 1) = some (PySem.HandSPX.excO C hp.objs.size) := by heap_get
  have I2 : Inv X pins σ (upd H1 (hp.objs.size + 1) (exo (hp.objs.size + 1) C none)) ⟨(hp.push (PySem.W.kdv_tup [u])).push (PySem.HandSPX.excO C hp.objs.size), g, dr, tk, os⟩ :=
    I1.laid (t' := tk) (a := hp.objs.size + 1) (o := exo (hp.objs.size + 1) C none) (h' := (hp.push (PySem.W.kdv_tup [u])).push (PySem.HandSPX.excO C hp.objs.size)) kk hsz (exo_ok hget)
  refine wpAny_call (PySem.HandSPX.call_own FB same hC lk bn (by show 1 ≤ sizeLine; rw [sizeLine_eq]; omega)
    (codeAny_mono (F1.run _ X.stack _ _ ⟨[.ref (hp.objs.size + 1), u], []⟩ [.ref (hp.objs.size + 1), u] [.ref (hp.objs.size + 1), y]
      (fun v H2 => v = .non ∧ ∃ dx, H1 dx = none ∧ H2 (hp.objs.size + 1) = some (exo (hp.objs.size + 1) C (some dx)) ∧ H2 dx = some (exd dx [(f, y)]) ∧ Q (.ref C) (some dx) (upd (del H2 (hp.objs.size + 1)) dx (.xd [(f, y)]))) (fun _ _ _ => False) (hr.make C [u] []) (I2.env0.make C [u] []) (bd _ _ _) (.cons rfl (.cons r1 .nil)) ?_) fun r s' hq' => ?_))
  · refine ⟨_, y, rfl, upd_same, fun dx n ne => ⟨rfl, ?_⟩⟩
    obtain ⟨h1, h2, h3, h4⟩ := laid_one (f := f) (y := y) hn n ne
    exact ⟨dx, h1, h2, h3, q1 dx _ h1 h4 upd_same⟩
  · cases r with
    | error er => exact False.elim hq'
    | ok fl =>
      cases fl with
      | ret u =>
        obtain ⟨v, H2, os2, bare2, un2, hok2, rv, ev, d, hd1, ea, ed, q2⟩ := hq'
        subst ev
        obtain ⟨h2, g2, d2, t2, os'⟩ := s'
        exact ⟨rv, mk_end (raises_own hex hty) I1 hsz kk un2 hok2 os2 bare2 ea ed hd1 q2⟩
      | next => exact False.elim hq'
      | brk => exact False.elim hq'
      | cont => exact False.elim hq'
end
end Ms
namespace Ms
open PySem PySem.Spec PyProof.Rows L2 StX
/-! ### Request.__eq__ -/
section
variable {P : Program} {w : World} {K : PySem.W.Frag} {mg : Str → Option Value} {base : Heap} {fI fN fS fA fG fNu fAs fPl fMo fNP fNM fNd aE aM C CS CP CM fR : Addr}
abbrev NEq : List Str := ["self", "other"]
theorem scEq : FnScope NEq ["self", "other"] (defScope sReqEq) := ⟨rfl, rfl, rfl, by decide +kernel, rfl, by decide +kernel, by decide +kernel⟩
def spREq (K : PySem.W.Frag) (C : Addr) : Sp := fun vs H Q _ => ∃ (x dx : Addr) (v1 v2 v3 y : V), vs = [.ref x, y] ∧ H x = some (.ins C dx (reqF v1 v2 v3)) ∧
  ((∃ m l d, Dq K H m l y d ∧ Q (.bl false) H) ∨ ∃ (z dz m l : Addr) (u1 u2 u3 : V) (d1 d2 d3 e1 e2 e3 : PyData), y = .ref z ∧ H z = some (.ins C dz (reqF u1 u2 u3)) ∧
    Pl K H m l v1 d1 ∧ Pl K H m l v2 d2 ∧ Pl K H m l v3 d3 ∧ Pl K H m l u1 e1 ∧ Pl K H m l u2 e2 ∧ Pl K H m l u3 e3 ∧ Q (.bl (PyData.eqv d1 e1 && (PyData.eqv d2 e2 && PyData.eqv d3 e3))) H)
theorem ok_req_eq {f : Addr} {fd : FuncData} {qual : Str} (F : Fun K "__eq__" qual sReqEq f fd) (hisi : mg "isinstance" = none) (gC : mg "Request" = some (.ref C)) (RC : ReqC K C) (IC : C8.InsC K C) (NK : NotKit K C) :
    FnOk P w K mg base CX0 1 f fd ["self", "other"] (spREq K C) := by
  refine F.ok scEq (fun vs H Q E h => ?_) (fun cdv A outer s H vs Q E hr h => ?_)
  · obtain ⟨x, dx, v1, v2, v3, y, rfl, _⟩ := h
    rfl
  obtain ⟨x, dx, v1, v2, v3, y, rfl, hx, h⟩ := h
  refine ⟨_, pss_one (ps_ret (pe_and (pe_callB call_isi (by rfl) hisi PyProof.Rows.boot_isinstance (pa_cons (pv 1) (pa_cons (pe_glob (v := .ref C) rfl gC rfl) pa_nil)))
    (pe_and (pe_cmpR (show OpR _ (compareOp .Eq) (rEqD K) from op_eqD (by exact hr.units)) (pe_fld (pv 0) rfl) (pe_fld (pv 1) rfl) (by rfl))
    (pe_and (pe_cmpR (show OpR _ (compareOp .Eq) (rEqD K) from op_eqD (by exact hr.units)) (pe_fld (pv 0) rfl) (pe_fld (pv 1) rfl) (by rfl))
    (pe_one (pe_cmpR (show OpR _ (compareOp .Eq) (rEqD K) from op_eqD (by exact hr.units)) (pe_fld (pv 0) rfl) (pe_fld (pv 1) rfl) (by rfl))))))), ?_⟩
  rcases h with ⟨m, l, d, hd, q⟩ | ⟨z, dz, m, l, u1, u2, u3, d1, d2, d3, e1, e2, e3, rfl, hz, p1, p2, p3, r1, r2, r3, q⟩
  · exact ⟨_, rfl, y, .ref C, _, _, _, rfl, .own C, hd.ty, NK _ (tyD_mem d), _, rfl, ifF rfl q⟩
  · refine ⟨_, rfl, .ref z, .ref C, _, _, _, rfl, .own C, .base (TyOf.ins hz IC.cl IC.ha IC.hn IC.htk IC.hm), IC.me, _, rfl, ifT rfl ?_⟩
    refine ⟨_, rfl, x, C, dx, _, _, rfl, hx, RC.cl, RC.nS, rfl, _, rfl, z, C, dz, _, _, rfl, hz, RC.cl, RC.nS, rfl, ?_⟩
    refine ⟨_, _, Dq.dp _ _ p1.dq p1.nd, Dq.dp _ _ r1.dq r1.nd, p1.sh, r1.sh, _, rfl, ?_⟩
    cases c1 : PyData.eqv d1 e1 with
    | false =>
      rw [c1] at q
      exact ifF rfl q
    | true =>
      rw [c1, Bool.true_and] at q
      refine ifT rfl ?_
      refine ⟨_, rfl, x, C, dx, _, _, rfl, hx, RC.cl, RC.nP, rfl, _, rfl, z, C, dz, _, _, rfl, hz, RC.cl, RC.nP, rfl, ?_⟩
      refine ⟨_, _, Dq.dp _ _ p2.dq p2.nd, Dq.dp _ _ r2.dq r2.nd, p2.sh, r2.sh, _, rfl, ?_⟩
      cases c2 : PyData.eqv d2 e2 with
      | false =>
        rw [c2] at q
        exact ifF rfl q
      | true =>
        rw [c2, Bool.true_and] at q
        refine ifT rfl ?_
        refine ⟨_, rfl, x, C, dx, _, _, rfl, hx, RC.cl, RC.nM, rfl, _, rfl, z, C, dz, _, _, rfl, hz, RC.cl, RC.nM, rfl, ?_⟩
        exact ⟨_, _, Dq.dp _ _ p3.dq p3.nd, Dq.dp _ _ r3.dq r3.nd, p3.sh, r3.sh, q⟩
end
end Ms
namespace Ms
open PySem PySem.Spec PyProof.Rows L2
/-! ### the law's own lines -/
theorem num_len : ∀ n, n < 100 → (num n).length ≤ 2 := by decide +kernel
theorem joinL_cons (S a b : List Nat) (r : List (List Nat)) : TL.joinL S (a :: b :: r) = a ++ (S ++ TL.joinL S (b :: r)) := rfl
theorem join_cons {y a b : Str} {r : List Str} : Txt.join y (a :: b :: r) = a ++ y ++ Txt.join y (b :: r) := by
  refine TL.ext_tl ?_
  rw [TL.tl_append, TL.tl_append, TL.join_eq, TL.join_eq, TL.tl_join, TL.tl_join, List.append_assoc]
  rfl
theorem join_one {y a : Str} : Txt.join y [a] = a := by
  refine TL.ext_tl ?_
  rw [TL.join_eq, TL.tl_join]; rfl
theorem str_assoc (a b c : Str) : a ++ b ++ c = a ++ (b ++ c) := TL.ext_tl (by rw [TL.tl_append, TL.tl_append, TL.tl_append, TL.tl_append, List.append_assoc])
theorem m_line {zs : List Str} (h : zs ≠ []) : ("modes " : Str) ++ Txt.join (" " : Str) zs = Txt.join blank (("modes" : Str) :: zs) := by
  cases zs with
  | nil => exact absurd rfl h
  | cons z zs =>
    rw [join_cons]
    have e : ("modes" : Str) ++ blank = ("modes " : Str) := by decide +kernel
    rw [e]; rfl
theorem go_line {z : Str} {n : Nat} : ("do " : Str) ++ z ++ (" " : Str) ++ num n = (Plc.go z n).line := by
  show _ = Txt.join blank [("do" : Str), z, num n]
  rw [join_cons, join_cons, join_one, str_assoc, str_assoc, str_assoc, str_assoc]
  have e : ("do " : Str) = ("do" : Str) ++ blank := by decide +kernel
  rw [e, str_assoc]; rfl
theorem ask_line {z : Str} {ns : List Nat} (h : ns ≠ []) : ("ask " : Str) ++ z ++ (" " : Str) ++ Txt.join (" " : Str) (ns.map num) = (Plc.ask z ns).line := by
  cases ns with
  | nil => exact absurd rfl h
  | cons n ns =>
    show _ = Txt.join blank (("ask" : Str) :: z :: num n :: ns.map num)
    rw [join_cons, join_cons, str_assoc, str_assoc, str_assoc, str_assoc]
    have e : ("ask " : Str) = ("ask" : Str) ++ blank := by decide +kernel
    rw [e, str_assoc]; rfl
theorem good_ok {qs : List (Str × Int)} {many : Nat} {p : Plc} (so : SetOk qs) (h : PlcGood qs many p) : p.Ok ∧ (∀ z ns, p = .ask z ns → ns ≠ []) := by
  cases p with
  | fin => exact ⟨⟨by decide, (fun n h => nomatch h), by decide⟩, fun _ _ e => nomatch e⟩
  | go z n =>
    obtain ⟨hz, hn⟩ := h.inn
    have h8 := hz.2.1
    have h2 := num_len n hn
    refine ⟨⟨by show 1 ≤ 4; decide, fun k hk => by rw [List.mem_singleton.mp hk]; exact hn, ?_⟩, fun _ _ e => nomatch e⟩
    show sizeW [("do" : Str), z, num n] ≤ 100
    have l2 : ("do" : Str).length = 2 := by decide
    simp only [sizeW, List.map_cons, List.map_nil, List.sum_cons, List.sum_nil, List.length_cons, List.length_nil, l2]
    omega
  | ask z ns =>
    obtain ⟨q, hq, rfl, hl, hn⟩ := h.inn
    have h8 := (so.nm q hq).2.1
    have hm := so.most q hq
    refine ⟨⟨by show ns.length ≤ 4; omega, hn, ?_⟩, fun z' ns' e => by injection e with _ e; subst e; intro e; subst e; simp at hl; omega⟩
    show sizeW (("ask" : Str) :: q.1 :: ns.map num) ≤ 100
    have l3 : ("ask" : Str).length = 3 := by decide
    have key : ∀ ns : List Nat, (∀ n ∈ ns, n < 100) → ((ns.map num).map (·.length)).sum ≤ 2 * ns.length := by
      intro ns
      induction ns with
      | nil => intro _; exact Nat.le_refl _
      | cons n ns ih =>
        intro h
        have h1 := num_len n (h n (List.mem_cons_self ..))
        have h2 := ih fun x hx => h x (List.mem_cons_of_mem _ hx)
        simp only [List.map_cons, List.sum_cons, List.length_cons]
        omega
    have k := key ns hn
    simp only [sizeW, List.map_cons, List.sum_cons, List.length_cons, List.length_map, l3] at k ⊢
    omega
theorem plc_tup {K : PySem.W.Frag} {H H' : Hp} {m l m' l' : Addr} (k : ∀ a xs, SqT K H a xs → SqT K H' a xs) {v : V} {p : Plc} (h : Dq K H m l v p.d) : Dq K H' m' l' v p.d := by
  cases p with
  | fin => cases h with | tup h0 hx => cases hx with | cons x1 x2 => cases x2; cases x1; exact .tup (k _ _ h0) (.cons (.str _) .nil)
  | go z n => cases h with | tup h0 hx => cases hx with | cons x1 x2 => cases x2 with | cons x2 x3 => cases x3 with | cons x3 x4 => cases x4; cases x1; cases x2; cases x3; exact .tup (k _ _ h0) (.cons (.str _) (.cons (.str _) (.cons (.int _) .nil)))
  | ask z ns =>
    cases h with | tup h0 hx => cases hx with | cons x1 x2 => cases x2 with | cons x2 x3 => cases x3 with | cons x3 x4 =>
      cases x4; cases x1; cases x2
      cases x3 with
      | tup h3 hy =>
        have e := ints_of' hy
        subst e
        exact .tup (k _ _ h0) (.cons (.str _) (.cons (.str _) (.cons (.tup (k _ _ h3) (ints_dq _)) .nil)))
theorem plcs_tup {K : PySem.W.Frag} {H H' : Hp} {m l m' l' : Addr} (k : ∀ a xs, SqT K H a xs → SqT K H' a xs) : ∀ {ps : List Plc} {vs : List V}, DqAll K H m l vs (ps.map Plc.d) → DqAll K H' m' l' vs (ps.map Plc.d)
  | [], _, h => by cases h; exact .nil
  | p :: ps, _, h => by cases h with | cons h1 h2 => exact .cons (plc_tup k h1) (plcs_tup k h2)
/-! ### equal places -/
theorem eqv_ints : ∀ xs ys : List Int, PyData.eqvAll (xs.map PyData.int) (ys.map PyData.int) = decide (xs = ys)
  | [], [] => rfl
  | [], _ :: _ => rfl
  | _ :: _, [] => rfl
  | x :: xs, y :: ys => by
    have h := eqv_ints xs ys
    show (PyData.eqv (.int x) (.int y) && PyData.eqvAll (xs.map PyData.int) (ys.map PyData.int)) = _
    rw [h]
    show ((x == y) && decide (xs = ys)) = _
    rw [Bool.eq_iff_iff]
    simp
theorem intsN_inj {xs ys : List Nat} (h : intsN xs = intsN ys) : xs = ys := by
  induction xs generalizing ys with
  | nil => cases ys with
    | nil => rfl
    | cons y ys => cases h
  | cons x xs ih => cases ys with
    | nil => cases h
    | cons y ys =>
      have h' : ((x : Int) :: intsN xs) = ((y : Int) :: intsN ys) := h
      injection h' with h1 h2
      rw [ih h2, Int.ofNat.inj h1]
theorem eqv_str1 {x y : Str} : PyData.eqv (.str x) (.str y) = decide (x = y) := by
  show (x == y) = _
  rw [Bool.eq_iff_iff]; simp
theorem eqv_int1 {x y : Int} : PyData.eqv (.int x) (.int y) = decide (x = y) := by
  show (x == y) = _
  rw [Bool.eq_iff_iff]; simp
theorem plc_eqv {p q : Plc} : PyData.eqv p.d q.d = true ↔ p = q := by
  have d1 : (("end" : Str) == ("do" : Str)) = false := by decide +kernel
  cases p with
  | fin =>
    cases q with
    | fin => exact ⟨fun _ => rfl, fun _ => by decide +kernel⟩
    | go z n => exact ⟨fun h => by simp [Plc.d, PyData.eqv, PyData.eqvAll] at h, fun h => nomatch h⟩
    | ask z ns => exact ⟨fun h => by simp [Plc.d, PyData.eqv, PyData.eqvAll] at h, fun h => nomatch h⟩
  | go z n =>
    cases q with
    | fin => exact ⟨fun h => by simp [Plc.d, PyData.eqv, PyData.eqvAll] at h, fun h => nomatch h⟩
    | go y k =>
      have e : PyData.eqv (Plc.go z n).d (Plc.go y k).d = (PyData.eqv (.str "do") (.str "do") && (PyData.eqv (.str z) (.str y) && (PyData.eqv (.int (n : Int)) (.int (k : Int)) && true))) := rfl
      rw [e, eqv_str1, eqv_str1, eqv_int1]
      simp only [Bool.and_eq_true, decide_eq_true_eq, true_and, and_true]
      exact ⟨fun ⟨h1, h2⟩ => by rw [h1, Int.ofNat.inj h2], fun h => by cases h; exact ⟨rfl, rfl⟩⟩
    | ask y ns =>
      have e : PyData.eqv (Plc.go z n).d (Plc.ask y ns).d = (PyData.eqv (.str "do") (.str "ask") && (PyData.eqv (.str z) (.str y) && (PyData.eqv (.int (n : Int)) (.tuple ((intsN ns).map .int)) && true))) := rfl
      have e2 : PyData.eqv (.str "do") (.str "ask") = false := by decide +kernel
      rw [e, e2]
      exact ⟨(fun h => nomatch h), (fun h => nomatch h)⟩
  | ask z ns =>
    cases q with
    | fin => exact ⟨fun h => by simp [Plc.d, PyData.eqv, PyData.eqvAll] at h, fun h => nomatch h⟩
    | go y k =>
      have e : PyData.eqv (Plc.ask z ns).d (Plc.go y k).d = (PyData.eqv (.str "ask") (.str "do") && (PyData.eqv (.str z) (.str y) && (PyData.eqv (.tuple ((intsN ns).map .int)) (.int (k : Int)) && true))) := rfl
      have e2 : PyData.eqv (.str "ask") (.str "do") = false := by decide +kernel
      rw [e, e2]
      exact ⟨(fun h => nomatch h), (fun h => nomatch h)⟩
    | ask y ms =>
      have e : PyData.eqv (Plc.ask z ns).d (Plc.ask y ms).d = (PyData.eqv (.str "ask") (.str "ask") && (PyData.eqv (.str z) (.str y) && (PyData.eqvAll ((intsN ns).map .int) ((intsN ms).map .int) && true))) := rfl
      rw [e, eqv_str1, eqv_str1, eqv_ints]
      simp only [Bool.and_eq_true, decide_eq_true_eq, true_and, and_true]
      exact ⟨fun ⟨h1, h2⟩ => by rw [h1, intsN_inj h2], fun h => by cases h; exact ⟨rfl, rfl⟩⟩
theorem plcs_eqv : ∀ {ps qs : List Plc}, PyData.eqvAll (ps.map Plc.d) (qs.map Plc.d) = true ↔ ps = qs
  | [], [] => ⟨fun _ => rfl, fun _ => rfl⟩
  | [], _ :: _ => ⟨fun h => (by cases h), fun h => nomatch h⟩
  | _ :: _, [] => ⟨fun h => (by cases h), fun h => nomatch h⟩
  | p :: ps, q :: qs => by
    have e : PyData.eqvAll ((p :: ps).map Plc.d) ((q :: qs).map Plc.d) = (PyData.eqv p.d q.d && PyData.eqvAll (ps.map Plc.d) (qs.map Plc.d)) := rfl
    rw [e, Bool.and_eq_true, plc_eqv, plcs_eqv]
    exact ⟨fun ⟨h1, h2⟩ => by rw [h1, h2], fun h => by cases h; exact ⟨rfl, rfl⟩⟩
section
variable {P : Program} {w : World} {K : PySem.W.Frag} {mg : Str → Option Value} {base : Heap}
abbrev NRL : List Str := ["places", "modes", "lines", "place", "number"]
theorem scRL : FnScope NRL ["places", "modes"] (defScope sRLines) := ⟨rfl, rfl, rfl, by decide +kernel, rfl, by decide +kernel, by decide +kernel⟩
def spRLines (K : PySem.W.Frag) : Sp := fun vs H Q _ => ∃ (m l pP pM : Addr) (ps : List Plc) (zs : List Str), vs = [.ref pP, .ref pM] ∧ Dq K H m l (.ref pP) (.tuple (ps.map Plc.d)) ∧ SqT K H pM (zs.map V.str) ∧ ModesOk zs ∧ zs ≠ [] ∧
  (∀ p ∈ ps, p.Ok ∧ ∀ z ns, p = .ask z ns → ns ≠ []) ∧ ps.length ≤ 16 ∧ ∀ D H', H D = none → Same H H' → H' D = some (.lst ((Txt.join blank (("modes" : Str) :: zs) :: ps.map Plc.line).map V.str)) → Q (.ref D) H'
theorem ok_rlines {f : Addr} {fd : FuncData} (F : Fun K "_law_request_lines" "_law_request_lines" sRLines f fd) (hlist : mg "list" = none) (hstr : mg "str" = none) : FnOk P w K mg base CX0 1 f fd ["places", "modes"] (spRLines K) := by
  refine F.ok scRL (fun vs H Q E h => ?_) (fun cdv A outer s H vs Q E hr h => ?_)
  · obtain ⟨m, l, pP, pM, ps, zs, rfl, _⟩ := h
    rfl
  obtain ⟨m, l, pP, pM, ps, zs, rfl, hP, hM, mo, zne, pok, l16, q⟩ := h
  refine ⟨_, pss_cons (ps_set (i := 2) scRL.nd rfl (by first | exact Or.inl rfl | exact Or.inr rfl) (pe_lst (pa_cons (pe_op op_add_str pe_str (pe_join pe_str (pe_callTy call_list_of (by rfl) hlist (by decide +kernel) (pa_cons (pv 1) pa_nil)))) pa_nil)))
    (pss_cons (ps_for PassesOwn.never rfl (pi_tup (pv 0)) (pg_name (i := 3) scRL.nd rfl (by first | exact Or.inl rfl | exact Or.inr rfl))
      (pss_one (ps_if (pt_cmpR op_eq (pe_ix ix_tup (pv 3) pe_int (fun _ _ => rfl)) pe_str (nomark _))
        (pss_one (ps_expr (pe_bm PySem.F.plainAttrs_list PySem.F.slot_list_append PySem.F.type_list_append mt_append (pv 2) (pa_cons (pe_op op_add_str (pe_op op_add_str (pe_op op_add_str pe_str (pe_ix ix_tup (pv 3) pe_int (fun _ _ => rfl))) pe_str) (pe_callTy call_str_int (by rfl) hstr (by decide +kernel) (pa_cons (pe_ix ix_tup (pv 3) pe_int (fun _ _ => rfl)) pa_nil))) pa_nil))))
        (pss_one (ps_if (pt_cmpR op_eq (pe_ix ix_tup (pv 3) pe_int (fun _ _ => rfl)) pe_str (nomark _))
          (pss_one (ps_expr (pe_bm PySem.F.plainAttrs_list PySem.F.slot_list_append PySem.F.type_list_append mt_append (pv 2) (pa_cons (pe_op op_add_str (pe_op op_add_str (pe_op op_add_str pe_str (pe_ix ix_tup (pv 3) pe_int (fun _ _ => rfl))) pe_str) (pe_join pe_str (pe_lc (own := [("number", 4)]) (g := gName 4) (by rfl) scRL.nd (pi_tup (pe_ix ix_tup (pv 3) pe_int (fun _ _ => rfl))) (blkOk_by (own := [("number", 4)]) (N := NRL) (sc := defScope sRLines) (by decide +kernel))
            (fun _ _ _ _ _ => pg_name (i := 4) scRL.nd rfl (by first | exact Or.inl rfl | exact Or.inr rfl)) (fun _ _ _ _ _ => pts_nil) (fun _ _ _ _ _ => pe_callTy call_str_int (by rfl) hstr (by decide +kernel) (pa_cons (pv 4) pa_nil))))) pa_nil))))
          (pss_one (ps_expr (pe_bm PySem.F.plainAttrs_list PySem.F.slot_list_append PySem.F.type_list_append mt_append (pv 2) (pa_cons pe_str pa_nil)))))))))
    (pss_one (ps_ret (pv 2)))), ?_⟩
  obtain ⟨vs, hP1, hP2⟩ : ∃ vs, SqT K H pP vs ∧ DqAll K H m l vs (ps.map Plc.d) := by
    cases hP with
    | tup e t => exact ⟨_, e, t⟩
  have lz := mo.len
  have ms := modes_size mo
  have lvs : vs.length = ps.length := by rw [hP2.len, List.length_map]
  have m6 : ("modes " : Str).length = 6 := by decide
  have jl : (Txt.join (" " : Str) zs).length ≤ 30 := by
    have := join_len (y := (" " : Str)) (by decide) zs
    unfold sizeW at ms this
    simp only [List.map_cons, List.sum_cons, List.length_cons] at ms
    omega
  refine ⟨⟨(" " : Str), rfl⟩, _, rfl, pM, _, rfl, .inr hM, fun p hp => ?_⟩
  have sp : Same H (upd H p (.lst (zs.map V.str))) := Same.upd hp
  have big : ∀ n, n ≤ 10000 → n ≤ sizeLine := fun n h => by rw [sizeLine_eq]; omega
  have bigj : ∀ (ws : List Str) (y : Str), y.length = 1 → sizeW ws ≤ 1000 → (ws.map (·.length)).sum + ws.length * y.length ≤ 16777216 := fun ws y hy h => by
    unfold sizeW at h
    rw [hy, Nat.mul_one]; omega
  refine ⟨(" " : Str), p, zs, rfl, rfl, .inl (SqL.of upd_same), bigj zs _ (by decide) (by unfold sizeW at ms ⊢; simp only [List.map_cons, List.sum_cons, List.length_cons] at ms; omega), ("modes " : Str), _, rfl, rfl, big _ (by omega), ?_⟩
  rw [m_line zne]
  generalize upd H p (.lst (zs.map V.str)) = H1 at sp ⊢
  refine ⟨(by show 1 ≤ sizeLine; decide), fun L hL => ?_⟩
  have hLH : H L = none := Same.free sp hL
  have sL : Same H (upd H1 L (.lst [.str (Txt.join blank (("modes" : Str) :: zs))])) := sp.trans (Same.upd hL)
  refine ⟨_, rfl, pP, rfl, ⟨vs, Same.seqT sL hP1⟩, for_tup (K := K) (a := pP) (xs := vs) (fun i σ H3 => ∃ (v3 v4 : Option V), σ = [some (.ref pP), some (.ref pM), some (.ref L), v3, v4] ∧ Same H H3 ∧ H3 L = some (.lst ((Txt.join blank (("modes" : Str) :: zs) :: (ps.take i).map Plc.line).map V.str)))
    ⟨none, none, rfl, sL, upd_same⟩ (fun i σ H3 _ ⟨v3, v4, _, s3, _⟩ => Same.seqT s3 hP1) ?_ ?_⟩
  · rintro i x σ H3 hi ⟨v3, v4, rfl, s3, g3⟩
    obtain ⟨dd, hdd, dq⟩ := hP2.get hi
    rw [List.getElem?_map] at hdd
    obtain ⟨pl, hpl, rfl⟩ := Option.map_eq_some_iff.mp hdd
    obtain ⟨ok, okn⟩ := pok pl (List.mem_of_getElem? hpl)
    have dq3 := Dq.same s3 _ _ dq
    have ti : ps.take (i + 1) = ps.take i ++ [pl] := by rw [List.take_succ, hpl]; rfl
    have lt : (ps.take i).length ≤ 16 := by rw [List.length_take]; omega
    have fin : ∀ {H4 : Hp} {w3 w4 : Option V}, Same H3 H4 → ∃ (v3 v4 : Option V), [some (V.ref pP), some (.ref pM), some (.ref L), w3, w4] = [some (.ref pP), some (.ref pM), some (.ref L), v3, v4] ∧
        Same H (upd H4 L (.lst ((Txt.join blank (("modes" : Str) :: zs) :: (ps.take i).map Plc.line).map V.str ++ [.str pl.line]))) ∧ (upd H4 L (.lst ((Txt.join blank (("modes" : Str) :: zs) :: (ps.take i).map Plc.line).map V.str ++ [.str pl.line]))) L = some (.lst ((Txt.join blank (("modes" : Str) :: zs) :: (ps.take (i + 1)).map Plc.line).map V.str)) := by
      intro H4 w3 w4 s4
      refine ⟨_, _, rfl, fun b o e => by rw [upd_ne (ne_of_none e hLH)]; exact s4 _ _ (s3 _ _ e), ?_⟩
      rw [upd_same, ti]
      simp only [List.map_cons, List.map_append, List.map_nil, List.cons_append]
    have lnum : ∀ n ∈ pl.nums, (num n).length ≤ 2 := fun n h => num_len n (ok.small n h)
    have gL3 : ∀ {H4 : Hp}, Same H3 H4 → H4 L = some (.lst ((Txt.join blank (("modes" : Str) :: zs) :: (ps.take i).map Plc.line).map V.str)) := fun s4 => s4 _ _ g3
    have lacc : ((Txt.join blank (("modes" : Str) :: zs) :: (ps.take i).map Plc.line).map V.str).length < sizeLine := small1000 (by rw [List.length_map, List.length_cons, List.length_map]; omega)
    cases pl with
    | fin =>
      cases dq3 with
      | tup h0 hx =>
        rename_i a ys
        cases hx with
        | cons x1 x2 =>
          cases x2; cases x1
          refine ⟨_, rfl, a, _, 0, .str "end", rfl, rfl, h0, rfl, rfl, _, rfl, ifF rfl ⟨_, rfl, a, _, 0, .str "end", rfl, rfl, h0, rfl, rfl, _, rfl, ifF rfl ?_⟩⟩
          refine ⟨_, rfl, .inl ⟨rfl, _, SqL.of g3⟩, L, _, .str "end", rfl, rfl, g3, lacc, ?_⟩
          exact fin (Same.refl _)
    | go z n =>
      have hn2 := lnum n (List.mem_singleton.mpr rfl)
      have sz := ok.size
      have hsz : sizeW [("do" : Str), z, num n] ≤ 100 := sz
      unfold sizeW at hsz
      simp only [List.map_cons, List.sum_cons, List.length_cons] at hsz
      have d3 : ("do " : Str).length = 3 := by decide
      have d1 : (" " : Str).length = 1 := by decide
      cases dq3 with
      | tup h0 hx =>
        rename_i a ys
        cases hx with
        | cons x1 x2 => cases x2 with | cons x2 x3 => cases x3 with | cons x3 x4 =>
          cases x4; cases x1; cases x2; cases x3
          refine ⟨_, rfl, a, _, 0, .str "do", rfl, rfl, h0, rfl, rfl, _, rfl, ifT rfl ?_⟩
          refine ⟨_, rfl, .inl ⟨rfl, _, SqL.of g3⟩, _, rfl, a, _, 1, .str z, rfl, rfl, h0, rfl, ("do " : Str), z, rfl, rfl, big _ (by omega), _, _, rfl, rfl, big _ (by rw [Str.length_append]; omega), ?_⟩
          refine ⟨_, rfl, a, _, 2, .int (n : Int), rfl, rfl, h0, rfl, (n : Int), rfl, num_log n (ok.small n (List.mem_singleton.mpr rfl)), _, _, rfl, rfl, big _ (by rw [Str.length_append, Str.length_append]; show _ + (num n).length ≤ _; omega), ?_⟩
          have e : ("do " : Str) ++ z ++ (" " : Str) ++ ((toString (n : Int) : String) : Str) = (Plc.go z n).line := go_line
          rw [e]
          refine ⟨L, _, _, rfl, rfl, g3, lacc, ?_⟩
          exact fin (Same.refl _)
    | ask z ns =>
      have few : ns.length ≤ 4 := ok.few
      have sz := ok.size
      have hsz : sizeW (("ask" : Str) :: z :: ns.map num) ≤ 100 := sz
      unfold sizeW at hsz
      simp only [List.map_cons, List.sum_cons, List.length_cons] at hsz
      have d4 : ("ask " : Str).length = 4 := by decide
      have d1 : (" " : Str).length = 1 := by decide
      cases dq3 with
      | tup h0 hx =>
        rename_i a ys
        cases hx with
        | cons x1 x2 => cases x2 with | cons x2 x3 => cases x3 with | cons x3 x4 =>
          cases x4; cases x1; cases x2
          cases x3 with
          | tup h3 hy =>
            rename_i b us
            have e := ints_of' hy
            subst e
            refine ⟨_, rfl, a, _, 0, .str "ask", rfl, rfl, h0, rfl, rfl, _, rfl, ifF rfl ⟨_, rfl, a, _, 0, .str "ask", rfl, rfl, h0, rfl, rfl, _, rfl, ifT rfl ?_⟩⟩
            refine ⟨_, rfl, .inl ⟨rfl, _, SqL.of g3⟩, _, rfl, a, _, 1, .str z, rfl, rfl, h0, rfl, ("ask " : Str), z, rfl, rfl, big _ (by omega), _, _, rfl, rfl, big _ (by rw [Str.length_append]; omega), ?_⟩
            refine ⟨⟨(" " : Str), rfl⟩, _, rfl, a, _, 2, .ref b, rfl, rfl, h0, rfl, b, rfl, ⟨_, h3⟩, fun D hD => ?_⟩
            refine lc_it (walk_tup (xs := (intsN ns).map V.int)) (fun j H4 => H4 = upd H3 D (.lst (((ns.take j).map num).map V.str))) rfl (fun j H4 _ e4 => Same.seqT (e4 ▸ Same.upd hD) h3) ?_ ?_
            · rintro j y H4 H5 hj e4 ⟨rfl, hy'⟩
              have hy2 : ((ns.map fun (n : Nat) => (n : Int)).map V.int)[j]? = some y := hy'
              rw [List.getElem?_map, List.getElem?_map] at hy2
              obtain ⟨i1, hi1, rfl⟩ := Option.map_eq_some_iff.mp hy2
              obtain ⟨n, hn, rfl⟩ := Option.map_eq_some_iff.mp hi1
              have tj : ns.take (j + 1) = ns.take j ++ [n] := by rw [List.take_succ, hn]; rfl
              refine ⟨rfl, tyes ⟨_, rfl, (n : Int), rfl, num_log n (ok.small n (List.mem_of_getElem? hn)), _, by rw [e4]; exact upd_same, small1000 (by rw [List.length_map, List.length_map, List.length_take]; omega), ?_⟩⟩
              rw [e4, upd_upd, tj, List.map_append, List.map_append]
              rfl
            · rintro H4 e4
              have ll : ((intsN ns).map V.int).length = ns.length := by rw [List.length_map]; exact List.length_map ..
              rw [ll, List.take_of_length_le (Nat.le_refl _)] at e4
              have s4 : Same H3 H4 := e4 ▸ Same.upd hD
              have szj : sizeW (ns.map num) ≤ 100 := by unfold sizeW; rw [List.length_map] at hsz ⊢; omega
              have jl2 := join_len (y := (" " : Str)) (by decide) (ns.map num)
              refine ⟨(" " : Str), D, ns.map num, rfl, rfl, .inl (SqL.of (by rw [e4, upd_same])), bigj _ _ (by decide) (by omega), _, _, rfl, rfl, big _ (by rw [Str.length_append, Str.length_append]; omega), ?_⟩
              have e : ("ask " : Str) ++ z ++ (" " : Str) ++ Txt.join (" " : Str) (ns.map num) = (Plc.ask z ns).line := ask_line (okn z ns rfl)
              rw [e]
              refine ⟨L, _, _, rfl, rfl, s4 _ _ g3, lacc, ?_⟩
              exact fin s4
  · rintro σ H3 ⟨v3, v4, rfl, s3, g3⟩
    rw [lvs, List.take_of_length_le (Nat.le_refl _)] at g3
    exact ⟨_, rfl, q L H3 hLH s3 g3⟩
end
end Ms
namespace Ms
open PySem PySem.Spec PyProof.Rows L2
/-! ### t.count(x) of data -/
def rCountD (K : PySem.W.Frag) : V → List V → Hp → VK → Prop := fun x xs H Q => ∃ (a : Addr) (y : V) (ys : List V) (d : PyData) (ds : List PyData), x = V.ref a ∧ xs = [y] ∧ SqT K H a ys ∧ DpAll K H ys ds ∧ Dp K H y d ∧ PyData.plainAll ds = true ∧ d.plain = true ∧ d.depth ≤ 60 ∧ Q (.int ((ds.countP fun z => PyData.eqv z d : Nat) : Int)) H
theorem mt_countD {X : Cx} (hu : X.A.units + 64 < cLine) : MtR X "tuple.count" (rCountD X.K) := by
  intro pins s σ H x xs v us Q I rx rxs h
  obtain ⟨a, y, ys, d, ds, rfl, rfl, hs, hl, hy, sl, sd, hd, q⟩ := h
  cases rx
  cases rxs with
  | cons ry rt =>
    rename_i uy ut
    cases rt
    obtain ⟨bs, r1⟩ := Dp.reads I d y uy hy ry
    obtain ⟨its, rv, p1, _⟩ := I.tuple hs
    obtain ⟨as, h4⟩ := Dp.readsAll I ds _ its hl rv
    refine PySem.SeqAt.count_tuple_data (vs := its.toArray) (xs := ds) (d := d) p1 (by simpa using h4) r1 sl sd (by omega) ⟨.int _, H, I.tok _, ⟨_, rfl⟩, q⟩
/-! ### tuples of which the very object is told: it has no dict of its own -/
def FrT (H : Hp) (p : Addr) (xs : List V) : Prop := ∃ ob, H p = some (.frz ob (.tup xs)) ∧ ob.dict = none
theorem FrT.seqT {K : PySem.W.Frag} {H : Hp} {p : Addr} {xs : List V} (h : FrT H p xs) : SqT K H p xs := by
  obtain ⟨ob, e, _⟩ := h
  exact .inl (.inr ⟨ob, e⟩)
theorem FrT.same {H H' : Hp} {p : Addr} {xs : List V} (s : Same H H') (h : FrT H p xs) : FrT H' p xs := by
  obtain ⟨ob, e, d⟩ := h
  exact ⟨ob, s _ _ e, d⟩
/-- tuple(list) -/
def rTupF (K : PySem.W.Frag) : List V → Hp → VK → Prop := fun xs H Q => ∃ p ys, xs = [.ref p] ∧ SqL K H p ys ∧ ∀ l ob, H l = none → ob.dict = none → Q (.ref l) (upd H l (.frz ob (.tup ys)))
theorem call_tuple_ofF {X : Cx} : CallR X (.type "tuple") (rTupF X.K) := by
  intro pins s σ H xs us Q I r h
  obtain ⟨p, ys, rfl, hq, q⟩ := h
  obtain ⟨u, rfl, rx⟩ := vals1 r
  cases rx
  obtain ⟨its, r', pl, hz⟩ := I.list hq
  have hlen := r'.length
  refine call_tuple_list pl.isList (fun h' kp => ?_) (by simp only [List.size_toArray] <;> omega)
  have I1 : Inv X pins σ H { s with heap := h' } := I.kept (t' := s.toks) kp
  obtain ⟨ob, eob⟩ : ∃ ob : Obj, ob = { cls := .type "tuple", data := .seq its.toArray } := ⟨_, rfl⟩
  have I2 : Inv X pins σ (upd H h'.objs.size (.frz ob (.tup ys))) { s with heap := h'.push { cls := .type "tuple", data := .seq its.toArray } } :=
    I1.laid (t' := s.toks) (fun b o e => Heap.get?_push_of_some _ e) (Nat.le_refl _) (show ObjOk X.prog X.w _ _ _ (.frz ob (.tup ys)) from ⟨by rw [eob]; exact Heap.get?_push_size _ rfl, hz, its, r', IsTup.new _ _⟩)
  exact ⟨.ref h'.objs.size, _, I2, rfl, q _ ob (I1.hok.fresh (Nat.le_refl _)) (by rw [eob])⟩
/-- t[lo:hi], not the whole of it -/
def rSlF (K : PySem.W.Frag) : V → Option Int → Option Int → Hp → VK → Prop := fun x lo hi H Q => ∃ a xs, x = .ref a ∧ SqT K H a xs ∧ ¬ (HT.sIx xs.length 0 lo = 0 ∧ HT.sIx xs.length xs.length hi = xs.length) ∧ ∀ p ob, H p = none → ob.dict = none → Q (.ref p) (upd H p (.frz ob (.tup (cutV xs lo hi))))
theorem sl_tupF {X : Cx} : SlR X (rSlF X.K) := by
  intro pins s σ H x v vl vu lo hi sl Q I rx hs pl pu h
  obtain ⟨a, xs, rfl, hx, hw, q⟩ := h
  cases rx
  obtain ⟨its, r, ht, hz⟩ := I.tuple hx
  have hlen : its.toArray.size = xs.length := by rw [List.size_toArray]; exact r.length.symm
  refine ⟨"tuple", _, PyProof.Rows.slot_tuple_getitem.lookup, ht.typeIs, ?_⟩
  refine HT.getItem_tuple_cut ht hs pl pu (by rw [hlen]; exact hw) ?_ (by rw [hlen]; exact hz)
  rw [hlen]
  obtain ⟨ob, eob⟩ : ∃ ob : Obj, ob = { cls := .type "tuple", data := .seq (List.take (HT.sIx xs.length xs.length hi - HT.sIx xs.length 0 lo) (List.drop (HT.sIx xs.length 0 lo) its.toArray.toList)).toArray } := ⟨_, rfl⟩
  refine ⟨.ref s.heap.objs.size, _, I.laid (t' := s.toks) (o := .frz ob (.tup (cutV xs lo hi))) (fun b ob q => Heap.get?_push_of_some _ q) (Nat.le_refl _) ?_, rfl, q _ ob (I.hok.fresh (Nat.le_refl _)) (by rw [eob])⟩
  exact ⟨by rw [eob]; exact Heap.get?_push_size _ rfl, Nat.le_trans (cutV_length xs lo hi) hz, _, (r.drop (HT.sIx xs.length 0 lo)).take (HT.sIx xs.length xs.length hi - HT.sIx xs.length 0 lo), IsTup.new _ _⟩
/-- o.m(..), o such a tuple -/
def tBMF (r : V → List V → Hp → VK → Prop) (to : TE) (t : TA) : TE := fun σ H Q => to σ H fun x H1 => (∃ p xs, x = .ref p ∧ FrT H1 p xs) ∧ t σ H1 fun xs H2 => r x xs H2 Q
theorem pe_bmF {X : Cx} {o e : Expr} {es : List Expr} {to : TE} {t : TA} {name : Str} {apos cpos : Pos} {id : String} {r : V → List V → Hp → VK → Prop} (slot : Slot "tuple" name id) (hty : typeOf (.builtin id) = pure (.type "method_descriptor")) (hm : MtR X id r) (ho : PE X o to) (ha : PA X (e :: es) t)
    (hbase : attributeBase o name X.env (eval o X.env) = eval o X.env := by rfl)
    (hfew : ((backTo cpos (starEach (e :: es) X.env)).all (fun x => !x.1) && (backToKw cpos (keywordEach [] X.env)).all (fun x => x.1.isSome)
      && decide ((e :: es).length + ([] : List Keyword).length + (if ([] : List Keyword).isEmpty then 0 else 1) < 30)) = true := by rfl)
    (hline : (apos.endLine == cpos.line) = true := by rfl) (hs : starEach (e :: es) X.env = (false, eval e X.env) :: starEach es X.env := by rfl) (hplain : (backTo cpos (starEach es X.env)).any (·.1) = false := by rfl) :
    PE X (.Call (.Attribute o name apos) (e :: es) [] cpos) (tBMF r to t) := by
  refine ⟨fun pins s σ H Q I h => ?_⟩
  refine wpAny_Call_method_late hbase hfew hline rfl (thn (ho.run pins s σ H _ I h) fun v s1 ⟨x, H1, I1, r1, ty, q1⟩ => ?_)
  obtain ⟨p, xs, rfl, ob, eob, hdn⟩ := ty
  obtain rfl : v = Value.ref p := r1
  obtain ⟨hget, _, its, _, ht⟩ := (show ObjOk X.prog X.w H1 s1.heap p (.frz ob (.tup xs)) from I1.hok p _ eob)
  refine ⟨"tuple", id, PySem.F.plainAttrs_tuple, slot, hty, ht.typeIs, fun a ea => by cases ea; exact ⟨ob, hget, hdn⟩, ?_⟩
  have hA := ha.run cpos pins s1 σ H1 _ I1 q1
  rw [hs] at hA ⊢
  refine Calls.callWith_builtin (by show (false || (backTo cpos (starEach es X.env)).any (·.1)) = false; rw [hplain] <;> rfl) (Calls.evalArgs_plain ?_)
  exact thn hA fun us s2 ⟨vs, H2, I2, r2, q2⟩ => hm pins s2 σ H2 (.ref p) vs (.ref p) us Q I2 rfl r2 q2
/-- pe_bm, the part that is written told by its name -/
theorem pe_bmK {X : Cx} {K : PySem.W.Frag} {o e : Expr} {es : List Expr} {to : TE} {t : TA} {name : Str} {apos cpos : Pos} {T id : String} {r : V → List V → Hp → VK → Prop} (hK : X.K = K) (pa : PlainAttrs T) (slot : Slot T name id) (hty : typeOf (.builtin id) = pure (.type "method_descriptor")) (hm : MtR X id r) (ho : PE X o to) (ha : PA X (e :: es) t)
    (hbase : attributeBase o name X.env (eval o X.env) = eval o X.env := by rfl)
    (hfew : ((backTo cpos (starEach (e :: es) X.env)).all (fun x => !x.1) && (backToKw cpos (keywordEach [] X.env)).all (fun x => x.1.isSome)
      && decide ((e :: es).length + ([] : List Keyword).length + (if ([] : List Keyword).isEmpty then 0 else 1) < 30)) = true := by rfl)
    (hline : (apos.endLine == cpos.line) = true := by rfl) (hs : starEach (e :: es) X.env = (false, eval e X.env) :: starEach es X.env := by rfl) (hplain : (backTo cpos (starEach es X.env)).any (·.1) = false := by rfl) :
    PE X (.Call (.Attribute o name apos) (e :: es) [] cpos) (tBM K T r to t) := by
  subst hK
  exact pe_bm pa slot hty hm ho ha hbase hfew hline hs hplain
/-! ### a + b, both of one own class -/
section
variable {X : Cx} {CX : CXT} {C f : Addr} {k : Nat} {fd : FuncData} {ps : List Str} {sp : Sp} {E : XK}
/-- what the own + is asked and hands back -/
def rOwnB (C : Addr) (sp : Sp) (E : XK) : R2 := fun x y H Q => ∃ a b dx dy fs gs, x = .ref a ∧ y = .ref b ∧ H a = some (.ins C dx fs) ∧ H b = some (.ins C dy gs) ∧ sp [.ref a, .ref b] H (fun v H' => (∃ p, v = .ref p) ∧ Q v H') E
theorem op_own {op : Operator} (F : FnOk X.prog X.w X.K X.mg X.base CX k f fd ps sp) (hr : Room k X.A) (hs : PySem.W.findIn X.K (.ref C) (PySem.dunder op.info.2) = some (some (.ref f))) (hf : PySem.W.isFn X.K (.ref f) = true) (hc : PySem.W.selfFirst X.K C = true)
    (hb : Binds X.K fd ps []) (hx : Passes CX X E) : OpR X (binaryOp op) (rOwnB C sp E) := by
  intro pins s σ H x y v u Q I rx ry h
  obtain ⟨a, b, dx, dy, fs, gs, rfl, rfl, ha, hb', h⟩ := h
  cases rx
  cases ry
  obtain ⟨mA, J, _⟩ := ins_get I.hok ha
  obtain ⟨mB, J', _⟩ := ins_get I.hok hb'
  obtain ⟨od, J, _⟩ := J.look
  obtain ⟨od', J', _⟩ := J'.look
  obtain ⟨m, hF⟩ := I.fr
  refine PySem.W.binop_K hF I.ok.mod.kin J J'.type hc hs hf ?_
  refine thn (run_fn (us := [.ref a, .ref b]) (vs := [.ref a, .ref b]) (dvs := []) (ds := []) F hr hb .nil hx I (.cons rfl (.cons rfl .nil)) h) fun w s' hw => ?_
  obtain ⟨z, H', I', rz, ⟨p, ez⟩, q⟩ := hw
  subst ez
  cases rz
  exact ⟨.ref p, H', I', rfl, q⟩
end
/-! ### an end -/
def isE (d : PyData) : Bool := isEnd d "end"
end Ms
namespace Ms
open PySem PySem.Spec PyProof.Rows L2
/-! ### dict(t), t a tuple of pairs of which the very object is told -/
theorem pairs_of2 {X : Cx} {pins : List (Addr × Obj)} {σ : L2.St} {H : Hp} {s : Shared} (I : Inv X pins σ H s) : ∀ {ps : List Addr} {kvs : List (Key × V)}, Paired (fun p kv => SqT X.K H p [kV kv.1, kv.2]) ps kvs →
    ∃ (prs : List (Key × Value)) (ws : List (Value × Value)), KV kvs prs ∧ prs.length = ps.length ∧ ws.length = ps.length ∧ ∀ (j : Nat) (k v : Value), ws[j]? = some (k, v) → (∃ b, ps[j]? = some b ∧ IsTup s.heap b #[k, v]) ∧ ∃ q, prs[j]? = some (q, v) ∧ keyIs q k = true
  | _, _, .nil => ⟨[], [], .nil, rfl, rfl, fun j k v e => by simp at e⟩
  | _, _, .cons (a := p) (b := kv) h t => by
    obtain ⟨prs, ws, r, hl, hw, hp⟩ := pairs_of2 I t
    obtain ⟨its, rv, ht, _⟩ := I.tuple h
    obtain ⟨u, y, ei, ru, ry⟩ := vals2 rv
    subst ei
    refine ⟨(kv.1, y) :: prs, (u, y) :: ws, .cons ⟨rfl, ry⟩ r, by rw [List.length_cons, List.length_cons, hl], by rw [List.length_cons, List.length_cons, hw], fun j k v e => ?_⟩
    cases j with
    | zero =>
      have e' : (u, y) = (k, v) := Option.some.inj e
      cases e'
      exact ⟨⟨p, rfl, ht⟩, kv.1, rfl, kV_is (P := X.prog) (w := X.w) ru⟩
    | succ j =>
      obtain ⟨⟨b, e1, e2⟩, q, e3, e4⟩ := hp j k v (by simpa using e)
      exact ⟨⟨b, by simpa using e1, e2⟩, q, by simpa using e3, e4⟩
theorem call_dictPT {X : Cx} (hcalm : X.calm = true) : CallR X (.type "dict") (fun xs H Q => ∃ (a : Addr) (ps : List Addr) (kvs : List (Key × V)), xs = [.ref a] ∧ FrT H a (ps.map V.ref) ∧ Paired (fun p kv => SqT X.K H p [kV kv.1, kv.2]) ps kvs ∧
    ∀ p, H p = none → Q (.ref p) (upd H p (.dK (mergeK [] kvs)))) := by
  intro pins s σ H xs us Q I r q
  obtain ⟨a, ps, kvs, ex, ⟨ob, eob, hdn⟩, hp, q⟩ := q
  subst ex
  obtain ⟨u, eu, rx⟩ := vals1 r
  subst eu
  cases rx
  obtain ⟨hget, hz, its, rv, ht⟩ := (show ObjOk X.prog X.w H s.heap a (.frz ob (.tup (ps.map V.ref))) from I.hok a _ eob)
  have ei := refs_at rv
  subst ei
  rw [List.length_map] at hz
  obtain ⟨prs, ws, rel, hl, hlw, hpr⟩ := pairs_of2 I hp
  obtain ⟨o', ho', hc, n, hd⟩ := ht
  have eo : o' = ob := Option.some.inj (ho'.symm.trans hget)
  subst eo
  have PA := PySem.PairArg.tuple (prog := X.prog) (w := X.w) a (ps.map Value.ref).toArray (fun j => ps.getD j 0) ws
  refine PySem.call_dict_pairs (knd := mixKind X.prog X.w) (kvs := prs) PA (I.ok.hd hcalm) ⟨⟨o', n, hget, hc, hdn, hd⟩, by simp [hlw], fun j k v e => ?_⟩ ⟨by rw [hl, hlw], fun i key v e => ?_⟩ (by rw [hlw]; exact hz) fun h' tk hd' k => ?_
  · obtain ⟨⟨b, e1, e2⟩, _⟩ := hpr j k v e
    have eb : ps.getD j 0 = b := by rw [List.getD_eq_getElem?_getD, e1]; rfl
    show (ps.map Value.ref).toArray[j]? = some (.ref (ps.getD j 0)) ∧ PySem.PairAt s.heap (ps.getD j 0) k v
    rw [eb]
    exact ⟨by simp [e1], .inl e2⟩
  · obtain ⟨_, q', e3, e4⟩ := hpr i key v e
    exact ⟨q', e3, e4⟩
  · have hm : (s.heap.objs.size == sysModules) = false := beq_eq_false_iff_ne.mpr (Nat.ne_of_gt I.big)
    have hlen : (mergeK [] kvs).length ≤ sizeLine := by
      refine Nat.le_trans (length_mergeK kvs []) ?_
      rw [List.length_nil, Nat.zero_add, rel.length, hl]
      exact hz
    exact ⟨.ref s.heap.objs.size, upd H s.heap.objs.size (.dK (mergeK [] kvs)), I.laid (t' := tk) (fun b o e => k b o (fun z => nomatch z) e) (Nat.le_refl _) (show ObjOk X.prog X.w _ _ _ (.dK (mergeK [] kvs)) from ⟨hlen, hm, merged [] prs, KV.merge rel .nil, hd'⟩), rfl, q _ (I.hok.fresh (Nat.le_refl _))⟩
/-! ### a hundred numbers by their words -/
def numsK (ks : List Nat) : List (Key × V) := ks.map fun k => (.inr (num k), .int (k : Int))
theorem num_digs : ∀ c, c < 58 → 48 ≤ c → num (c - 48) = ⟨#[c]⟩ := by decide +kernel
theorem num_digs2 : ∀ c, c < 58 → ∀ d, d < 58 → 49 ≤ c → 48 ≤ d → num ((c - 48) * 10 + (d - 48)) = ⟨#[c, d]⟩ := by decide +kernel
theorem numW_num {z : Str} {n : Nat} (h : numW z = some n) : z = num n := by
  by_cases h1 : z.length = 1
  · obtain ⟨c, rfl⟩ := one_sign h1
    have h' : (if digB c = true then some (c - 48) else none) = some n := h
    split at h'
    · rename_i hc
      simp only [digB, Bool.and_eq_true, decide_eq_true_eq] at hc
      have := Option.some.inj h'
      subst this
      exact (num_digs c (by omega) hc.1).symm
    · cases h'
  by_cases h2 : z.length = 2
  · obtain ⟨c, d, rfl⟩ := two_signs h2
    have h' : (if (digB c && (digB d && !decide (c = 48))) = true then some ((c - 48) * 10 + (d - 48)) else none) = some n := h
    split at h'
    · rename_i hc
      simp only [digB, Bool.and_eq_true, decide_eq_true_eq, Bool.not_eq_true', decide_eq_false_iff_not] at hc
      have := Option.some.inj h'
      subst this
      exact (num_digs2 c (by omega) d (by omega) (by omega) hc.2.1.1).symm
    · cases h'
  · rw [numW_not h1 h2] at h
    cases h
theorem val_nums {z : Str} : ∀ ks : List Nat, (∀ k ∈ ks, k < 100) → valV (numsK ks) (.inr z) = match numW z with | some n => if n ∈ ks then some (.int (n : Int)) else none | none => none
  | [], _ => by cases numW z <;> rfl
  | k :: ks, h => by
    have ih := val_nums (z := z) ks fun x hx => h x (List.mem_cons_of_mem _ hx)
    have hk := num_back k (h k (List.mem_cons_self ..))
    show valV (((.inr (num k) : Key), V.int (k : Int)) :: numsK ks) (.inr z) = _
    by_cases e : num k = z
    · rw [valV_pos (show (Sum.inr (num k) : Key) = Sum.inr z by rw [e])]
      rw [e] at hk
      rw [hk]
      show some (V.int (k : Int)) = if k ∈ k :: ks then some (V.int (k : Int)) else none
      rw [if_pos (List.mem_cons_self ..)]
    · rw [valV_neg (fun e' => e (by have e2 : (Sum.inr (num k) : Key) = Sum.inr z := e'; injection e2)), ih]
      cases hz : numW z with
      | none => rfl
      | some n =>
        have : n ≠ k := fun e2 => e (by rw [← e2]; exact (numW_num hz).symm)
        show (if n ∈ ks then some (V.int (n : Int)) else none) = if n ∈ k :: ks then some (V.int (n : Int)) else none
        by_cases hm : n ∈ ks
        · rw [if_pos hm, if_pos (List.mem_cons_of_mem _ hm)]
        · rw [if_neg hm, if_neg (fun x => (List.mem_cons.mp x).elim this hm)]
theorem val_hundred {z : Str} : valV (numsK (List.range 100)) (.inr z) = (numW z).map fun n => V.int (n : Int) := by
  rw [val_nums _ fun k hk => List.mem_range.mp hk]
  cases hz : numW z with
  | none => rfl
  | some n =>
    show (if n ∈ List.range 100 then some (V.int (n : Int)) else none) = some (.int (n : Int))
    rw [if_pos (List.mem_range.mpr (numW_int hz).2.2)]
end Ms
namespace Ms
open PySem PySem.Spec PyProof.Rows L2
/-! ### _law_is_whole, _law_is_name -/
section
variable {P : Program} {w : World} {K : PySem.W.Frag} {mg : Str → Option Value} {base : Heap} {fN fM fO fB : Addr}
theorem scWh : FnScope ["thing", "least", "most"] ["thing", "least", "most"] (defScope sIsWhole) := ⟨rfl, rfl, rfl, by decide +kernel, rfl, by decide +kernel, by decide +kernel⟩
theorem ok_wholeQ {f : Addr} {fd : FuncData} (F : Fun K "_law_is_whole" "_law_is_whole" sIsWhole f fd) (T : TxtQ mg) : FnOk P w K mg base CX0 1 f fd ["thing", "least", "most"] (spWhole K) := by
  refine F.ok scWh (fun vs H Q E h => ?_) (fun cdv A outer s H vs Q E hr h => ?_)
  · obtain ⟨m, l, v, d, lo, hi, rfl, _⟩ := h
    rfl
  · obtain ⟨m, l, v, d, lo, hi, rfl, hd, q⟩ := h
    refine ⟨_, pss_one (ps_ret (pe_and (pe_callB call_isi (by rfl) T.isi PyProof.Rows.boot_isinstance (pa_cons (pv 0) (pa_cons (pe_bltn (v := .ty "int") (u := .type "int") (by rfl) T.int (by decide +kernel) rfl) pa_nil)))
      (pe_and (pe_not (pe_callB call_isi (by rfl) T.isi PyProof.Rows.boot_isinstance (pa_cons (pv 0) (pa_cons (pe_bltn (v := .ty "bool") (u := .type "bool") (by rfl) T.bool (by decide +kernel) rfl) pa_nil))))
        (pe_one (pe_chain op_le op_le (pv 1) (pv 0) (pv 2)))))), ?_⟩
    refine ⟨_, rfl, v, .ty "int", _, _, _, rfl, .ty _, hd.ty, isi_int K d, _, rfl, ?_⟩
    cases d with
    | int j =>
      cases hd
      refine ifT rfl ⟨_, rfl, .int j, .ty "bool", _, _, _, rfl, .ty _, .base (.int j), isi_bool K (.int j), _, rfl, _, rfl, ifT rfl ?_⟩
      refine ⟨_, rfl, _, rfl, lo, j, rfl, rfl, _, rfl, ite_b (fun e => ⟨_, rfl, j, hi, rfl, rfl, ?_⟩) (fun e => ?_)⟩
      · have z : isWhole (.int j) lo hi = decide (j ≤ hi) := by show (decide (lo ≤ j) && decide (j ≤ hi)) = _; rw [e]; rfl
        rw [z] at q; exact q
      · have z : isWhole (.int j) lo hi = false := by show (decide (lo ≤ j) && decide (j ≤ hi)) = _; rw [e]; rfl
        rw [z] at q; exact q
    | bool j =>
      cases hd
      exact ifT rfl ⟨_, rfl, .bl j, .ty "bool", _, _, _, rfl, .ty _, .base (.bl j), isi_bool K (.bool j), _, rfl, _, rfl, ifF rfl q⟩
    | _ => exact ifF rfl q
abbrev NNa : List Str := ["thing", "sign"]
theorem scNa : FnScope NNa ["thing"] (defScope sIsName) := ⟨rfl, rfl, rfl, by decide +kernel, rfl, by decide +kernel, by decide +kernel⟩
theorem ok_nameQ {f : Addr} {fd : FuncData} (F : Fun K "_law_is_name" "_law_is_name" sIsName f fd) (T : TxtQ mg) : FnOk P w K mg base CX0 1 f fd ["thing"] (spName K) := by
  refine F.ok scNa (fun vs H Q E h => ?_) (fun cdv A outer s H vs Q E hr h => ?_)
  · obtain ⟨m, l, v, d, rfl, _⟩ := h
    rfl
  · obtain ⟨m, l, v, d, rfl, hd, hz, q⟩ := h
    refine ⟨_, pss_cons (ps_if (PW.pt (pw_or (pt_not (pt_val (pe_callB call_isi (by rfl) T.isi PyProof.Rows.boot_isinstance (pa_cons (pv 0) (pa_cons (pe_bltn (v := .ty "str") (u := .type "str") (by rfl) T.str (by decide +kernel) rfl) pa_nil)))))
        (pw_or1 (pt_not (pt_chain op_le op_le pe_int (pe_callB call_len (by rfl) T.len PySem.boot_len (pa_cons (pv 0) pa_nil)) pe_int))))) (pss_one (ps_ret pe_bl)) pss_nil)
      (pss_one (ps_ret (pe_cmpR (op_eqD hr.units) (pe_lc (own := [("sign", 1)]) (g := gName 1) (by rfl) scNa.nd (pi_str (pv 0)) (blkOk_by (own := [("sign", 1)]) (N := NNa) (sc := defScope sIsName) (by decide +kernel))
        (fun _ _ _ _ _ => pg_name (i := 1) scNa.nd rfl (Or.inl rfl)) (fun _ _ _ _ _ => pts_one (pt_cmpR op_notIn_sign (pv 1) pe_str (by rfl))) (fun _ _ _ _ _ => pv 1)) (pe_lst pa_nil) (nomark _)))), ?_⟩
    refine ⟨_, rfl, v, .ty "str", _, _, _, rfl, .ty _, hd.ty, isi_str K d, _, rfl, ?_⟩
    cases d with
    | str z =>
      cases hd
      have zk := hz z rfl
      have zs : z.length ≤ sizeLine := by rw [sizeLine_eq]; have := zk.1; omega
      refine ifF rfl ?_
      refine ⟨_, rfl, .str z, z.length, rfl, ⟨zs, rfl⟩, 1, (z.length : Int), rfl, rfl, _, rfl, ite_b (fun e1 => ⟨(z.length : Int), 8, rfl, rfl, _, rfl, ite_b (fun e8 => ?_) (fun e8 => ?_)⟩) (fun e1 => ⟨_, rfl, ifT rfl ?_⟩)⟩
      · have ef : isName (.str z) = false := by
          show ((decide (1 ≤ z.length) && decide (z.length ≤ 8)) && _) = false
          have : decide (z.length ≤ 8) = false := by
            simp only [Bool.not_eq_true', decide_eq_false_iff_not] at e8 ⊢
            omega
          rw [this]; simp
        rw [ef] at q
        exact q H (fun _ _ e => e)
      · have z1 : 1 ≤ z.length := by
          have := of_decide_eq_true e1
          omega
        have z8 : z.length ≤ 8 := by
          have e : decide ((z.length : Int) ≤ 8) = true := by simpa using e8
          have := of_decide_eq_true e
          omega
        have en : isName (.str z) = z.cps.toList.all fun c => decide (c ∈ alpha.cps.toList) := by
          show ((decide (1 ≤ z.length) && decide (z.length ≤ 8)) && _) = _
          rw [decide_eq_true z1, decide_eq_true z8]; rfl
        refine ⟨_, rfl, z, rfl, fun D hD => ?_⟩
        refine lc_it walk_str (fun i H3 => ∃ ys : List Str, ys.length ≤ i ∧ (∀ y ∈ ys, PyData.canLay0 (.str y) = true) ∧ (ys.isEmpty = (z.cps.toList.take i).all fun c => decide (c ∈ alpha.cps.toList)) ∧ H3 = upd H D (.lst (ys.map V.str))) ⟨[], Nat.le_refl _, (fun y hy => nomatch hy), rfl, rfl⟩ (fun _ _ _ _ => True.intro) ?_ ?_
        · rintro i x H3 H4 hi ⟨ys, yl, yo, ye, e3⟩ ⟨rfl, c, hc, rfl⟩
          have hc' : z.cps.toList[i]? = some c := by simpa using hc
          have ti : z.cps.toList.take (i + 1) = z.cps.toList.take i ++ [c] := by rw [List.take_succ, hc']; rfl
          refine ⟨rfl, _, rfl, c, alpha, rfl, rfl, _, rfl, ite_b (fun e => ?_) (fun e => ?_)⟩
          · refine ⟨_, rfl, _, by rw [e3]; exact upd_same, small1000 (by rw [List.length_map]; have : z.cps.size ≤ 8 := z8; omega), ys ++ [⟨#[c]⟩], by simp; omega, ?_, ?_, str_grow e3⟩
            · intro y hy
              rcases List.mem_append.mp hy with hy | hy
              · exact yo y hy
              · rw [List.mem_singleton.mp hy]
                have cc : c < 0x110000 := zk.2 c (List.mem_of_getElem? hc')
                simp [PyData.canLay0, PyData.strOk, cc]
            rw [ti, List.all_append]
            have e' : decide (c ∈ alpha.cps.toList) = false := by simpa using e
            simp only [List.all_cons, e', List.all_nil]
            simp
          · refine ⟨ys, by omega, yo, ?_, e3⟩
            have e' : decide (c ∈ alpha.cps.toList) = true := by simpa using e
            rw [ti, List.all_append, ye]
            simp only [List.all_cons, e', List.all_nil]
            simp
        · rintro H3 ⟨ys, yl, yo, ye, e3⟩
          have tz : z.cps.toList.take z.cps.size = z.cps.toList := List.take_of_length_le (by simp)
          rw [tz] at ye
          have s1 : Same H H3 := e3 ▸ Same.upd hD
          refine ⟨Nat.zero_le _, fun p0 h0 => ?_⟩
          have s2 : Same H3 (upd H3 p0 (.lst [])) := Same.upd h0
          have gD : H3 D = some (.lst (ys.map V.str)) := by rw [e3, upd_same]
          refine ⟨.list (ys.map PyData.str), .list [], .lst (SqL.of (s2 _ _ gD)) (dpAll_strs ys), .lst (SqL.of upd_same) .nil, shaped_strs ys yo, rfl, ?_⟩
          have ev : PyData.eqv (.list (ys.map PyData.str)) (.list []) = isName (.str z) := by
            rw [en, ← ye]
            cases ys <;> rfl
          rw [ev]
          exact q _ (s1.trans s2)
      · have ef : isName (.str z) = false := by
          show ((decide (1 ≤ z.length) && decide (z.length ≤ 8)) && _) = false
          have : decide (1 ≤ z.length) = false := by
            have := of_decide_eq_false e1
            exact decide_eq_false (by omega)
          rw [this]; simp
        rw [ef] at q
        exact q H (fun _ _ e => e)
    | _ => exact ifT rfl (ifT rfl (q H (fun _ _ e => e)))
end
end Ms
namespace Ms
open PySem PySem.Spec PyProof.Rows L2
/-! ### the law's own reader of a line of a place -/
theorem valV_no {k : Key} : ∀ {kvs : List (Key × V)}, k ∉ kvs.map (·.1) → valV kvs k = none
  | [], _ => rfl
  | kv :: kvs, h => by
    have h' : ¬ k = kv.1 ∧ k ∉ kvs.map (·.1) := by simpa using h
    show valV ((kv.1, kv.2) :: kvs) k = none
    rw [valV_neg (fun e => h'.1 e.symm)]
    exact valV_no h'.2
theorem mergeK_nd : ∀ (kvs acc : List (Key × V)), (kvs.map (·.1)).Nodup → (∀ kv ∈ kvs, kv.1 ∉ acc.map (·.1)) → mergeK acc kvs = acc ++ kvs
  | [], acc, _, _ => (List.append_nil _).symm
  | kv :: kvs, acc, hn, ha => by
    rw [List.map_cons, List.nodup_cons] at hn
    have e : mergeK acc (kv :: kvs) = mergeK (putK acc kv.1 kv.2) kvs := rfl
    rw [e, putK_new _ (valV_no (ha kv (List.mem_cons_self ..))), mergeK_nd kvs (acc ++ [(kv.1, kv.2)]) hn.2 fun x hx => ?_, List.append_assoc]
    · rfl
    · rw [List.map_append]
      intro hm
      rcases List.mem_append.mp hm with hm | hm
      · exact ha x (List.mem_cons_of_mem _ hx) hm
      · have : x.1 = kv.1 := List.mem_singleton.mp hm
        exact hn.1 (by rw [← this]; exact List.mem_map_of_mem hx)
def knK (ys : List (Str × Int)) : List (Key × V) := ys.map fun q => (.inr q.1, .int q.2)
theorem knK_merge {ys : List (Str × Int)} (hn : (ys.map (·.1)).Nodup) : mergeK [] (knK ys) = knK ys := by
  refine (mergeK_nd (knK ys) [] ?_ fun kv _ h => nomatch h).trans (List.nil_append _)
  have e : (knK ys).map (·.1) = (ys.map (·.1)).map (fun z => (Sum.inr z : Key)) := by unfold knK; rw [List.map_map, List.map_map]; rfl
  rw [e]
  exact List.Pairwise.map _ (fun a b h e => h (by injection e)) hn
theorem numsK_merge : mergeK [] (numsK (List.range 100)) = numsK (List.range 100) := by
  refine (mergeK_nd (numsK (List.range 100)) [] ?_ fun kv _ h => nomatch h).trans (List.nil_append _)
  have e : (numsK (List.range 100)).map (·.1) = (List.range 100).map (fun k => (Sum.inr (num k) : Key)) := by unfold numsK; rw [List.map_map]; rfl
  rw [e]
  have hp : List.Pairwise (fun a b => a < 100 ∧ b < 100 ∧ a ≠ b) (List.range 100) := by decide +kernel
  refine List.Pairwise.map _ (fun a b h e => h.2.2 ?_) hp
  have e' : num a = num b := by injection e
  have ha := num_back a h.1
  rw [e', num_back b h.2.1] at ha
  exact (Option.some.inj ha).symm
theorem val_kn {ys : List (Str × Int)} {z : Str} : valV (knK ys) (.inr z) = (ys[idxN z ys]?).map fun q => V.int q.2 := by
  induction ys with
  | nil => rfl
  | cons q ys ih =>
    show valV (((.inr q.1 : Key), V.int q.2) :: knK ys) (.inr z) = _
    unfold idxN
    by_cases e : q.1 = z
    · rw [valV_pos (show (Sum.inr q.1 : Key) = Sum.inr z by rw [e]), if_pos e]; rfl
    · rw [valV_neg (fun e' => e (by have e2 : (Sum.inr q.1 : Key) = Sum.inr z := e'; injection e2)), if_neg e, ih]; rfl
theorem idxN_no {z : Str} : ∀ {ys : List (Str × Int)}, z ∉ ys.map (·.1) → ys[idxN z ys]? = none
  | [], _ => rfl
  | q :: ys, h => by
    have h' : ¬ z = q.1 ∧ z ∉ ys.map (·.1) := by simpa using h
    unfold idxN
    rw [if_neg fun e => h'.1 e.symm]
    show ys[idxN z ys]? = none
    exact idxN_no h'.2
theorem prs_paired {K : PySem.W.Frag} {H : Hp} {as : List Addr} {ys : List (Str × Int)} (p : Prs H as ys) : Paired (fun p kv => SqT K H p [kV kv.1, kv.2]) as (knK ys) := by
  induction p with
  | nil => exact .nil
  | cons h t ih => exact .cons (.inl (.inl h)) ih
theorem cut_all {xs : List V} {i : Nat} : cutV xs (some (i : Int)) none = xs.drop i := by
  by_cases h : i ≤ xs.length
  · exact cut_from h
  · unfold cutV
    rw [HT.sIx_nat, HT.sIx_none, Nat.min_eq_right (by omega), List.drop_of_length_le (Nat.le_refl _), List.drop_of_length_le (by omega), List.take_nil]
theorem sq_updL {K : PySem.W.Frag} {H : Hp} {L a : Addr} {us xs : List V} {o : HO} (e : H L = some (.lst us)) (q : SqT K H a xs) : SqT K (upd H L o) a xs := by
  rcases q with (q | ⟨o', q⟩) | q
  · exact .inl (.inl (by rw [upd_ne (ne_of q e (fun z => nomatch z))]; exact q))
  · refine .inl (.inr ⟨o', ?_⟩)
    have q' : H a = some (.frz o' (.tup xs)) := q
    show upd H L o a = some (.frz o' (.tup xs))
    rw [upd_ne (ne_of q' e (fun z => nomatch z))]; exact q'
  · exact .inr q
def numV (z : Str) : V := ((numW z).map fun n => V.int (n : Int)).getD .non
theorem numV_flat (z : Str) : flatV (numV z) = true := by unfold numV; cases numW z <;> rfl
theorem no_none : ∀ ws : List Str, inV .non (ws.map numV) = !(ws.all fun z => (numW z).isSome)
  | [] => rfl
  | z :: ws => by
    have ih := no_none ws
    unfold inV at ih ⊢
    rw [List.map_cons, List.any_cons, List.all_cons, ih, Bool.not_and]
    congr 1
    unfold numV
    cases numW z <;> rfl
theorem all_nums : ∀ {ws : List Str}, (ws.all fun z => (numW z).isSome) = true → ws.map numV = (intsN (nsOf ws)).map V.int
  | [], _ => rfl
  | z :: ws, h => by
    rw [List.all_cons, Bool.and_eq_true] at h
    obtain ⟨n, en⟩ := Option.isSome_iff_exists.mp h.1
    have e1 : numV z = .int (n : Int) := by unfold numV; rw [en]; rfl
    have e2 : intsN (nsOf (z :: ws)) = (n : Int) :: intsN (nsOf ws) := by unfold intsN nsOf; rw [List.map_cons, List.map_cons, en]; rfl
    rw [List.map_cons, e1, e2, List.map_cons, all_nums h.2]
section
variable {P : Program} {w : World} {K : PySem.W.Frag} {mg : Str → Option Value} {base : Heap} {fA : Addr}
abbrev NPq : List Str := ["spots", "line", "words", "known", "numbers", "k", "some", "word"]
theorem scPq2 : FnScope NPq ["spots", "line"] (defScope sPlaceIn) := ⟨rfl, rfl, rfl, by decide +kernel, rfl, by decide +kernel, by decide +kernel⟩
def spLPIn (K : PySem.W.Frag) : Sp := fun vs H Q _ => ∃ (aS : Addr) (as : List Addr) (ys : List (Str × Int)) (z : Str), vs = [.ref aS, .str z] ∧ FrT H aS (as.map V.ref) ∧ Prs H as ys ∧ SetOk ys ∧ sOk 100000 z ∧
  (placeIn ys (Txt.split z blank) = none → ∀ H', Same H H' → Q .non H') ∧ ∀ p, placeIn ys (Txt.split z blank) = some p → ∀ v H', Same H H' → (∀ m l, Dq K H' m l v p.d) → Q v H'
theorem ok_lpin {f : Addr} {fd fdA : FuncData} (F : Fun K "_law_place_in" "_law_place_in" sPlaceIn f fd) (T : TxtQ mg) (hdict : mg "dict" = none) (hstr : mg "str" = none) (hlen : mg "len" = none) (htup : mg "tuple" = none) (hrange : mg "range" = none) (gA : mg "_law_is_name" = some (.ref fA)) (FA : Fun K "_law_is_name" "_law_is_name" sIsName fA fdA) (bA : Binds K fdA ["thing"] []) :
    FnOk P w K mg base CX0 2 f fd ["spots", "line"] (spLPIn K) := by
  have GA : FnOk P w K mg base CX0 1 fA fdA ["thing"] (spName K) := ok_nameQ FA T
  refine F.ok scPq2 (fun vs H Q E h => ?_) (fun cdv A outer s H vs Q E hr h => ?_)
  · obtain ⟨aS, as, ys, z, rfl, _⟩ := h
    rfl
  obtain ⟨aS, as, ys, z, rfl, hS, hp, so, hz, q0, q1⟩ := h
  have hu := hu_of hr
  refine ⟨_, pss_cons (ps_par (i := 2) (j := 3) (by rfl) scPq2.nd rfl rfl (by decide) rfl rfl (pa_cons (pe_split (pv 1) pe_str) (pa_cons (pe_callTy (call_dictPT (by rfl)) (by rfl) hdict (by decide +kernel) (pa_cons (pv 0) pa_nil)) pa_nil)) (by rfl))
    (pss_cons (ps_set (i := 4) scPq2.nd rfl (by first | exact Or.inl rfl | exact Or.inr rfl) (pe_callTy (call_dictP (by rfl)) (by rfl) hdict (by decide +kernel) (pa_cons (pe_lc (own := [("k", 5)]) (g := gName 5) (by rfl) scPq2.nd (pi_range1 (by rfl) hrange (pa_cons pe_int pa_nil)) (blkOk_by (own := [("k", 5)]) (N := NPq) (sc := defScope sPlaceIn) (by decide +kernel))
      (fun _ _ _ _ _ => pg_name (i := 5) scPq2.nd rfl (by first | exact Or.inl rfl | exact Or.inr rfl)) (fun _ _ _ _ _ => pts_nil) (fun _ _ _ _ _ => pe_tup (pa_cons (pe_callTy call_str_int (by rfl) hstr (by decide +kernel) (pa_cons (pv 5) pa_nil)) (pa_cons (pv 5) pa_nil)))) pa_nil)))
    (pss_cons (ps_set (i := 6) scPq2.nd rfl (by first | exact Or.inl rfl | exact Or.inr rfl) (pe_callTy call_tuple_of (by rfl) htup (by decide +kernel) (pa_cons (pe_lc (own := [("word", 7)]) (g := gName 7) (by rfl) scPq2.nd (pi_list (pe_slice sl_list (pv 2) (po_some pe_int) po_none)) (blkOk_by (own := [("word", 7)]) (N := NPq) (sc := defScope sPlaceIn) (by decide +kernel))
      (fun _ _ _ _ _ => pg_name (i := 7) scPq2.nd rfl (by first | exact Or.inl rfl | exact Or.inr rfl)) (fun _ _ _ _ _ => pts_nil) (fun _ _ _ _ _ => pe_dget1 hu (pv 4) (pv 7) ⟨rfl, rfl, rfl, rfl⟩)) pa_nil)))
    (pss_cons (ps_if (pt_cmpR (show OpR _ (compareOp .Eq) (rEqD K) from op_eqD (by exact hr.units)) (pv 2) (pe_lst (pa_cons pe_str pa_nil)) (nomark _)) (pss_one (ps_ret (pe_tup (pa_cons pe_str pa_nil)))) pss_nil)
    (pss_cons (ps_if (PW.pt (pw_or (pt_cmpR op_lt (pe_callB call_len_seq (by rfl) hlen PySem.boot_len (pa_cons (pv 2) pa_nil)) pe_int (nomark _)) (pw_or1 (pt_cmpR op_in_seq pe_non (pv 6) (by rfl))))) (pss_one (ps_ret pe_non)) pss_nil)
    (pss_cons (ps_if (pt_cmpR op_eq (pe_ix (show IxR _ (rIxL K) from ix_list) (pv 2) pe_int (fun _ _ => rfl)) pe_str (nomark _))
      (pss_one (ps_ret (pe_ifExp (PW.pt (pw_and (pt_cmpR op_eq (pe_callB call_len_seq (by rfl) hlen PySem.boot_len (pa_cons (pv 6) pa_nil)) pe_int (nomark _)) (pw_and1 (pt_val (pe_call GA hr (by rfl) gA FA.kp bA .nil pass0 (pa_cons (pe_ix (show IxR _ (rIxL K) from ix_list) (pv 2) pe_int (fun _ _ => rfl)) pa_nil))))))
        (pe_tup (pa_cons pe_str (pa_cons (pe_ix (show IxR _ (rIxL K) from ix_list) (pv 2) pe_int (fun _ _ => rfl)) (pa_cons (pe_ix ix_tup (pv 6) pe_int (fun _ _ => rfl)) pa_nil)))) pe_non))) pss_nil)
    (pss_cons (ps_if (PW.pt (pw_or (pt_cmpR op_ne (pe_ix (show IxR _ (rIxL K) from ix_list) (pv 2) pe_int (fun _ _ => rfl)) pe_str (nomark _)) (pw_or (pt_cmp (pc_dnotin hu (pe_ix (show IxR _ (rIxL K) from ix_list) (pv 2) pe_int (fun _ _ => rfl)) (pv 3)))
        (pw_or1 (pt_cmpR op_ne (pe_callB call_len_seq (by rfl) hlen PySem.boot_len (pa_cons (pv 6) pa_nil)) (pe_op op_add (pe_dget hu (pv 3) (pe_ix (show IxR _ (rIxL K) from ix_list) (pv 2) pe_int (fun _ _ => rfl)) (fun _ _ => rfl)) pe_int) (nomark _)))))) (pss_one (ps_ret pe_non)) pss_nil)
    (pss_one (ps_ret (pe_tup (pa_cons pe_str (pa_cons (pe_ix (show IxR _ (rIxL K) from ix_list) (pv 2) pe_int (fun _ _ => rfl)) (pa_cons (pv 6) pa_nil)))))))))))), ?_⟩
  obtain ⟨s1, s2, s3'⟩ := split_ok (y := blank) (by rw [bl_tl]; simp) (by decide +kernel) hz
  obtain ⟨ws, ew⟩ : ∃ ws, ws = Txt.split z blank := ⟨_, rfl⟩
  rw [← ew] at s1 s2 s3' q0 q1
  have lz := hz.1
  refine ⟨_, rfl, ⟨z, rfl⟩, z, blank, rfl, rfl, (by decide), by rw [sizeLine_eq]; omega, fun pW hpW => ?_⟩
  rw [← ew]
  have sW : Same H (upd H pW (.lst (ws.map V.str))) := Same.upd hpW
  have gW : (upd H pW (.lst (ws.map V.str))) pW = some (.lst (ws.map V.str)) := upd_same
  generalize upd H pW (.lst (ws.map V.str)) = H1 at sW gW ⊢
  refine ⟨_, rfl, aS, as, knK ys, rfl, FrT.same sW hS, prs_paired (Prs.same (fun b o _ e => sW b o e) hp), fun pK hpK => ?_⟩
  rw [knK_merge so.nodup]
  have sK : Same H1 (upd H1 pK (.dK (knK ys))) := Same.upd hpK
  have gK : (upd H1 pK (.dK (knK ys))) pK = some (.dK (knK ys)) := upd_same
  generalize upd H1 pK (.dK (knK ys)) = H2 at sK gK ⊢
  refine ⟨_, _, rfl, ?_⟩
  have sH2 := sW.trans sK
  have gW2 := sK _ _ gW
  have lws : (ws.map V.str).length = ws.length := List.length_map ..
  have bigA : ∀ n, n ≤ 200000 → n < sizeLine := fun n h => by rw [sizeLine_eq]; omega
  -- the numbers
  refine ⟨_, rfl, by decide, by decide, fun D hD => ?_⟩
  refine lc_it (walk_range (lo := 0) (n := 100)) (fun i H3 => ∃ bs : List Addr, Same H2 H3 ∧ H3 D = some (.lst (bs.map V.ref)) ∧ Paired (fun p kv => SqT K H3 p [kV kv.1, kv.2]) bs (numsK (List.range i)) ∧ bs.length = i) ⟨[], Same.upd hD, upd_same, .nil, rfl⟩ (fun i H3 _ _ => True.intro) ?_ ?_
  · rintro i x H3 H4 hi ⟨bs, s3, g3, p3, l3⟩ ⟨rfl, rfl⟩
    have hi' : i < 100 := hi
    refine ⟨rfl, tyes ⟨_, rfl, 0 + (i : Int), rfl, (by rw [Int.zero_add]; exact num_log i hi'), _, rfl, (by show 2 ≤ sizeLine; decide), fun TT hT => ?_⟩⟩
    simp only [Int.zero_add]
    have sT := Same.upd (o := .tup [V.str (num i), .int (i : Int)]) hT
    refine ⟨bs.map V.ref, sT _ _ g3, (by rw [List.length_map, l3, sizeLine_eq]; omega), bs ++ [TT], (fun b o e => by rw [upd_ne (ne_of_none e hD)]; exact sT _ _ (s3 _ _ e)), (by rw [upd_same, List.map_append]; rfl), ?_, (by rw [List.length_append, l3]; rfl)⟩
    have gD := sT _ _ g3
    have er : numsK (List.range (i + 1)) = numsK (List.range i) ++ [(.inr (num i), .int (i : Int))] := by unfold numsK; rw [List.range_succ, List.map_append]; rfl
    rw [er]
    exact Paired.snoc (L2.Paired.mapP p3 fun p kv h => sq_updL gD (Same.seqT sT h)) (sq_updL gD (.inl (.inl upd_same)))
  rintro H3 ⟨bs, s3, g3, p3, l3⟩
  refine ⟨D, bs, _, rfl, SqL.of g3, p3, fun pN hpN => ?_⟩
  rw [numsK_merge]
  have sN : Same H3 (upd H3 pN (.dK (numsK (List.range 100)))) := Same.upd hpN
  have gN : (upd H3 pN (.dK (numsK (List.range 100)))) pN = some (.dK (numsK (List.range 100))) := upd_same
  generalize upd H3 pN (.dK (numsK (List.range 100))) = H4 at sN gN ⊢
  have s24 := s3.trans sN
  have gW4 := s24 _ _ gW2
  have gK4 := s24 _ _ gK
  have ec : cutV (ws.map V.str) (some 2) none = (ws.drop 2).map V.str := by
    rw [List.map_drop]
    exact cut_all (xs := ws.map V.str) (i := 2)
  refine ⟨_, rfl, _, rfl, noPart ⟨pW, _, rfl, SqL.of gW4, fun p2 hp2 => ?_⟩⟩
  rw [ec]
  have sp2 : Same H4 (upd H4 p2 (.lst ((ws.drop 2).map V.str))) := Same.upd hp2
  have gp2 : (upd H4 p2 (.lst ((ws.drop 2).map V.str))) p2 = some (.lst ((ws.drop 2).map V.str)) := upd_same
  generalize upd H4 p2 (.lst ((ws.drop 2).map V.str)) = H5 at sp2 gp2 ⊢
  have gN5 := sp2 _ _ gN
  refine ⟨p2, rfl, ⟨_, SqL.of gp2⟩, fun D2 hD2 => ?_⟩
  refine lc_it (walk_list (xs := (ws.drop 2).map V.str)) (fun i H6 => Same H5 H6 ∧ H6 D2 = some (.lst (((ws.drop 2).take i).map numV))) ⟨Same.upd hD2, upd_same⟩ (fun i H6 _ ⟨s6, _⟩ => SqL.of (s6 _ _ gp2)) ?_ ?_
  · rintro i y H6 H7 hi ⟨s6, g6⟩ ⟨rfl, hy⟩
    rw [List.getElem?_map] at hy
    obtain ⟨x, hx, rfl⟩ := Option.map_eq_some_iff.mp hy
    have ti : (ws.drop 2).take (i + 1) = (ws.drop 2).take i ++ [x] := by rw [List.take_succ, hx]; rfl
    have gN6 := s6 _ _ gN5
    have lt : ((ws.drop 2).take i).length ≤ 100001 := by rw [List.length_take, List.length_drop]; omega
    refine ⟨rfl, tyes ⟨_, rfl, pN, rfl, .inl ⟨_, .inl gN6⟩, _, rfl, _, DGet.k (k := Sum.inr x) gN6, _, g6, bigA _ (by rw [List.length_map]; omega), (fun b o e => by rw [upd_ne (ne_of_none e hD2)]; exact s6 _ _ e), ?_⟩⟩
    rw [upd_same, ti, List.map_append, val_hundred]
    rfl
  rintro H6 ⟨s6, g6⟩
  rw [List.length_map, List.take_of_length_le (Nat.le_refl _)] at g6
  refine ⟨D2, _, rfl, .inl ⟨SqL.of g6, fun pT hpT => ?_⟩⟩
  have sT : Same H6 (upd H6 pT (.tup ((ws.drop 2).map numV))) := Same.upd hpT
  have gT : (upd H6 pT (.tup ((ws.drop 2).map numV))) pT = some (.tup ((ws.drop 2).map numV)) := upd_same
  generalize upd H6 pT (.tup ((ws.drop 2).map numV)) = H7 at sT gT ⊢
  have s47 := (sp2.trans s6).trans sT
  have gW7 := s47 _ _ gW4
  have gK7 := s47 _ _ gK4
  have sH7 := (sH2.trans s24).trans s47
  clear gW gK gW2 gN gW4 gK4 gp2 gN5 g6 g3 p3
  refine ⟨_, rfl, (by show 1 ≤ sizeLine; decide), fun p hp => ?_⟩
  have sp : Same H7 (upd H7 p (.lst [.str "end"])) := Same.upd hp
  refine ⟨.list (ws.map .str), .list [.str "end"], .lst (SqL.of (sp _ _ gW7)) (dp_strs ws), .lst (SqL.of upd_same) (.cons (.str _) .nil), strs_shaped s3', strs_shaped (a := 16) (ws := [("end" : Str)]) (fun z h => by rw [List.mem_singleton] at h; subst h; exact ⟨by decide, by decide⟩), _, rfl, ?_⟩
  have eq0 : PyData.eqv (.list (ws.map .str)) (.list [.str "end"]) = decide (ws = [("end" : Str)]) := eqv_strs ws [("end" : Str)]
  rw [eq0]
  have gW8 := sp _ _ gW7
  have gK8 := sp _ _ gK7
  have gT8 := sp _ _ gT
  have sH8 := sH7.trans sp
  generalize upd H7 p (.lst [.str "end"]) = H8 at sp gW8 gK8 gT8 sH8 ⊢
  by_cases he : ws = [("end" : Str)]
  · refine ifT (decide_eq_true he) ⟨(by show 1 ≤ sizeLine; decide), fun t ht => ?_⟩
    exact q1 .fin (by unfold placeIn; rw [if_pos he]) (.ref t) _ (sH8.trans (Same.upd ht)) fun m l => .tup (.inl (.inl upd_same)) (.cons (.str _) .nil)
  refine ifF (decide_eq_false he) ?_
  refine ⟨_, rfl, pW, _, rfl, .inl (SqL.of gW8), _, _, rfl, rfl, _, rfl, ?_⟩
  by_cases h3 : ws.length < 3
  · refine ifT (decide_eq_true (by rw [List.length_map]; omega)) ?_
    refine q0 ?_ _ sH8
    unfold placeIn
    rw [if_neg he]
    match ws, h3 with
    | [], _ => rfl
    | [_], _ => rfl
    | [_, _], _ => rfl
  refine ifF (decide_eq_false (by rw [List.length_map]; omega)) ?_
  obtain ⟨w0, w1, w2, rest, rfl⟩ : ∃ w0 w1 w2 rest, ws = w0 :: w1 :: w2 :: rest := by
    match ws, h3 with
    | w0 :: w1 :: w2 :: rest, _ => exact ⟨w0, w1, w2, rest, rfl⟩
    | [], h => exact absurd (by decide) h
    | [_], h => exact absurd (by show 1 < 3; decide) h
    | [_, _], h => exact absurd (by show 2 < 3; decide) h
  have ed : (w0 :: w1 :: w2 :: rest).drop 2 = w2 :: rest := rfl
  rw [ed] at gT8
  have ep0 : placeIn ys (w0 :: w1 :: w2 :: rest) = (if ((w2 :: rest).all fun z => (numW z).isSome) = true then
      (if (decide (w0 = ("do" : Str)) && (isName (.str w1) && decide ((w2 :: rest).length = 1))) = true then some (.go w1 ((numW w2).getD 0))
      else if (decide (w0 = ("ask" : Str)) && (decide (w1 ∈ ys.map (·.1)) && decide ((((w2 :: rest).length : Nat) : Int) = mostOf w1 ys + 1))) = true then some (.ask w1 (nsOf (w2 :: rest))) else none) else none) := by
    unfold placeIn
    rw [if_neg he]
  refine ⟨_, rfl, pT, _, rfl, .inr (.inl (.inl gT8)), rfl, ?_, _, rfl, ?_⟩
  · rw [List.all_eq_true]
    intro v hv
    obtain ⟨x, _, rfl⟩ := List.mem_map.mp hv
    exact numV_flat x
  have e2 : (if false = true then !inV V.non ((w2 :: rest).map numV) else inV V.non ((w2 :: rest).map numV)) = !((w2 :: rest).all fun z => (numW z).isSome) := no_none (w2 :: rest)
  rw [e2]
  cases hall : (w2 :: rest).all fun z => (numW z).isSome with
  | false =>
    rw [hall] at ep0
    exact ifT rfl (q0 ep0 _ sH8)
  | true =>
    rw [hall, if_pos rfl] at ep0
    refine ifF rfl ?_
    rw [all_nums hall] at gT8
    have hT8 : SqT K H8 pT ((intsN (nsOf (w2 :: rest))).map V.int) := .inl (.inl gT8)
    have g0 : atI (((w0 :: w1 :: w2 :: rest).map V.str)) ((0 : Nat) : Int) = some (.str w0) := atI_nat rfl
    have g1 : atI (((w0 :: w1 :: w2 :: rest).map V.str)) ((1 : Nat) : Int) = some (.str w1) := atI_nat rfl
    have ll : ((intsN (nsOf (w2 :: rest))).map V.int).length = (w2 :: rest).length := by
      rw [List.length_map]
      show ((nsOf (w2 :: rest)).map fun (n : Nat) => (n : Int)).length = _
      rw [List.length_map]
      exact List.length_map ..
    refine ⟨_, rfl, pW, _, 0, .str w0, rfl, rfl, SqL.of gW8, g0, rfl, _, rfl, ?_⟩
    rw [str_dec]
    by_cases c0 : w0 = ("do" : Str)
    · subst c0
      refine ifT (decide_eq_true rfl) ?_
      have nd : decide (("do" : Str) = ("ask" : Str)) = false := by decide +kernel
      have yd : decide (("do" : Str) = ("do" : Str)) = true := decide_eq_true rfl
      rw [yd, nd, Bool.true_and, Bool.false_and] at ep0
      refine ⟨_, rfl, pT, _, rfl, .inr hT8, rfl, _, rfl, ?_⟩
      rw [ll, len_dec1]
      by_cases c2 : (w2 :: rest).length = 1
      · rw [decide_eq_true c2, Bool.and_true] at ep0
        refine ifT (decide_eq_true c2) ⟨_, rfl, pW, _, 1, .str w1, rfl, rfl, SqL.of gW8, g1, 0, 0, .str w1, .str w1, rfl, .str _, fun z ez => (by cases ez; exact s3' _ (List.mem_cons_of_mem _ (List.mem_cons_self ..))), fun H9 s9 => ⟨_, rfl, ?_⟩⟩
        have sH9 := sH8.trans s9
        cases c1 : isName (.str w1) with
        | false =>
          rw [c1] at ep0
          exact ifF rfl (q0 ep0 _ sH9)
        | true =>
          rw [c1] at ep0
          refine ifT rfl ⟨_, rfl, pW, _, 1, .str w1, rfl, rfl, SqL.of (s9 _ _ gW8), g1, _, rfl, pT, _, 0, .int (((numW w2).getD 0 : Nat) : Int), rfl, rfl, Same.seqT s9 hT8, (show atI _ ((0 : Nat) : Int) = _ from atI_nat rfl), (by show 3 ≤ sizeLine; decide), fun t ht => ?_⟩
          exact q1 _ ep0 (.ref t) _ (sH9.trans (Same.upd ht)) fun m l => .tup (.inl (.inl upd_same)) (.cons (.str _) (.cons (.str _) (.cons (.int _) .nil)))
      · rw [decide_eq_false c2, Bool.and_false] at ep0
        exact ifF (decide_eq_false c2) (q0 ep0 _ sH8)
    · refine ifF (decide_eq_false c0) ?_
      rw [decide_eq_false c0, Bool.false_and] at ep0
      have ep0 : placeIn ys (w0 :: w1 :: w2 :: rest) = if (decide (w0 = ("ask" : Str)) && (decide (w1 ∈ ys.map (·.1)) && decide ((((w2 :: rest).length : Nat) : Int) = mostOf w1 ys + 1))) = true then some (.ask w1 (nsOf (w2 :: rest))) else none := ep0
      refine ⟨_, rfl, pW, _, 0, .str w0, rfl, rfl, SqL.of gW8, g0, rfl, _, rfl, ?_⟩
      rw [str_dec]
      by_cases ca : w0 = ("ask" : Str)
      · rw [decide_eq_true ca, Bool.true_and] at ep0
        refine ifF (by rw [decide_eq_true ca]; rfl) ⟨_, rfl, pW, _, 1, .str w1, rfl, rfl, SqL.of gW8, g1, _, rfl, pK, _, rfl, DGet.k (k := Sum.inr w1) gK8, _, rfl, ?_⟩
        by_cases hin : w1 ∈ ys.map (·.1)
        · obtain ⟨qq, hqq, _, _⟩ := idxN_at hin
          have ev : valV (knK ys) (.inr w1) = some (.int qq.2) := by rw [val_kn, hqq]; rfl
          have em : mostOf w1 ys = qq.2 := by unfold mostOf; rw [hqq]; rfl
          have dg : DGet H8 pK (.str w1) (some (.int qq.2)) := by rw [← ev]; exact DGet.k (k := Sum.inr w1) gK8
          rw [ev]
          rw [decide_eq_true hin, Bool.true_and, em] at ep0
          refine ifF rfl ⟨_, rfl, pT, _, rfl, .inr hT8, _, rfl, _, rfl, pW, _, 1, .str w1, rfl, rfl, SqL.of gW8, g1, pK, _, rfl, dg, _, _, rfl, rfl, rfl, _, rfl, ?_⟩
          have e3 : decide (V.int ((((intsN (nsOf (w2 :: rest))).map V.int).length : Nat) : Int) = V.int (qq.2 + 1)) = decide ((((w2 :: rest).length : Nat) : Int) = qq.2 + 1) := by
            rw [ll, Bool.eq_iff_iff, decide_eq_true_eq, decide_eq_true_eq, V.int.injEq]
          rw [e3]
          by_cases c2 : (((w2 :: rest).length : Nat) : Int) = qq.2 + 1
          · rw [decide_eq_true c2] at ep0 ⊢
            refine ifF rfl ⟨_, rfl, pW, _, 1, .str w1, rfl, rfl, SqL.of gW8, g1, _, rfl, (by show 3 ≤ sizeLine; decide), fun t ht => ?_⟩
            have st : Same H8 (upd H8 t (.tup [.str "ask", .str w1, .ref pT])) := Same.upd ht
            exact q1 _ ep0 (.ref t) _ (sH8.trans st) fun m l => .tup (.inl (.inl upd_same)) (.cons (.str _) (.cons (.str _) (.cons (.tup (Same.seqT st hT8) (ints_dq _)) .nil)))
          · rw [decide_eq_false c2] at ep0 ⊢
            exact ifT rfl (q0 ep0 _ sH8)
        · have ev : valV (knK ys) (.inr w1) = none := by rw [val_kn, idxN_no hin]; rfl
          rw [ev]
          rw [decide_eq_false hin, Bool.false_and] at ep0
          exact ifT rfl (q0 ep0 _ sH8)
      · rw [decide_eq_false ca, Bool.false_and] at ep0
        exact ifT (by rw [decide_eq_false ca]; rfl) (q0 ep0 _ sH8)
end
end Ms
namespace Ms
open PySem PySem.Spec PyProof.Rows L2
/-! ### the law's own reader of a request -/
def dueT (r : Sum Nat (List Plc × List Str)) : PyData := match r with
  | .inl n => .tuple [.str "text", .str (num n)]
  | .inr (ps, zs) => .list [.list [.tuple (ps.map Plc.d), .tuple (zs.map .str)]]
theorem ints_good100 : ∀ ns : List Int, (∀ x ∈ ns, 0 ≤ x ∧ x < 100) → Gl' big (105 * ns.length) 0 (ns.map PyData.int)
  | [], _ => ⟨(fun d h => nomatch h), Nat.le_refl _, (fun d h => nomatch h)⟩
  | x :: ns, h => by
    obtain ⟨h0, h1⟩ := h x (List.mem_cons_self ..)
    have g := (Gl'.one (Gd.int (B := big) (i := x) (by show x.natAbs ≤ 10 ^ 30; omega) (by decide))).app (ints_good100 ns fun y hy => h y (List.mem_cons_of_mem _ hy))
    exact g.mono (Nat.le_refl _) (by simp only [List.length_cons]; omega) (Nat.le_refl _)
theorem intsN_good {ns : List Nat} (h : ∀ n ∈ ns, n < 100) : Gl' big (105 * ns.length) 0 ((intsN ns).map PyData.int) := by
  have g := ints_good100 (intsN ns) fun x hx => by
    obtain ⟨n, hn, rfl⟩ := List.mem_map.mp hx
    have := h n hn
    exact ⟨by omega, by omega⟩
  have e : (intsN ns).length = ns.length := List.length_map ..
  rw [e] at g
  exact g
theorem plcin_good {qs : List (Str × Int)} {p : Plc} (so : SetOk qs) (h : PlcIn qs p) : Gd big 600 2 p.d := by
  have w1 : Gd big 16 1 (.str "do") := (Gd.str (a := 16) ⟨by decide, by decide⟩).mono (Nat.le_refl _) (Nat.le_refl _) (by decide)
  have w2 : Gd big 16 1 (.str "ask") := (Gd.str (a := 16) ⟨by decide, by decide⟩).mono (Nat.le_refl _) (Nat.le_refl _) (by decide)
  cases p with
  | fin => exact end_good.mono (Nat.le_refl _) (by decide) (Nat.le_refl _)
  | go z n =>
    have hn := h.2
    have g2 : Gd big 16 1 (.str z) := (Gd.str (nmOk.ok h.1)).mono (Nat.le_refl _) (Nat.le_refl _) (by decide)
    have g3 : Gd big 104 1 (.int (n : Int)) := (Gd.int (by show ((n : Int)).natAbs ≤ 10 ^ 30; omega) (by decide)).mono (Nat.le_refl _) (Nat.le_refl _) (by decide)
    exact (Gd.tup ((Gl'.one w1).app ((Gl'.one g2).app (Gl'.one g3)))).mono (Nat.le_refl _) (by omega) (by omega)
  | ask z ns =>
    obtain ⟨q, hq, rfl, hl, hn⟩ := h
    have hm := so.most q hq
    have g2 : Gd big 16 1 (.str q.1) := (Gd.str (nmOk.ok (so.nm q hq))).mono (Nat.le_refl _) (Nat.le_refl _) (by decide)
    have g3 := Gd.tup (intsN_good hn)
    exact (Gd.tup ((Gl'.one w2).app ((Gl'.one g2).app (Gl'.one g3)))).mono (Nat.le_refl _) (by omega) (by omega)
theorem plcsin_good {qs : List (Str × Int)} (so : SetOk qs) : ∀ {ps : List Plc}, (∀ p ∈ ps, PlcIn qs p) → Gl' big (601 * ps.length) 2 (ps.map Plc.d)
  | [], _ => ⟨(fun d h => nomatch h), Nat.le_refl _, (fun d h => nomatch h)⟩
  | p :: ps, h => by
    have g := (Gl'.one (plcin_good so (h p (List.mem_cons_self ..)))).app (plcsin_good so fun x hx => h x (List.mem_cons_of_mem _ hx))
    exact g.mono (Nat.le_refl _) (by simp only [List.length_cons]; omega) (Nat.le_refl _)
theorem plcs_noDiL (ps : List Plc) : noDi (.list (ps.map Plc.d)) = true := by
  have h : ∀ p : Plc, noDi p.d = true := fun p => by
    cases p with
    | fin => rfl
    | go z n => rfl
    | ask z ns =>
      have : noDi (.tuple ((intsN ns).map PyData.int)) = true := noDi_all fun x hx => by
        obtain ⟨y, _, rfl⟩ := List.mem_map.mp hx
        rfl
      show (noDi (.str "ask") && (noDi (.str z) && (noDi (.tuple ((intsN ns).map PyData.int)) && true))) = true
      rw [this]; rfl
  exact noDi_all fun x hx => by
    obtain ⟨p, _, rfl⟩ := List.mem_map.mp hx
    exact h p
theorem strs_noDiL (zs : List Str) : noDi (.list (zs.map PyData.str)) = true := noDi_all fun x hx => by
  obtain ⟨y, _, rfl⟩ := List.mem_map.mp hx
  rfl
theorem ints_noDiL (ns : List Int) : noDi (.list (ns.map PyData.int)) = true := noDi_all fun x hx => by
  obtain ⟨y, _, rfl⟩ := List.mem_map.mp hx
  rfl
theorem far_filter {many : Nat} (h0 : 0 < many) {p : Plc} : farB many p = !decide (p.nums.filter (fun n => decide (many ≤ n)) = []) := by
  rw [Bool.eq_iff_iff]
  simp only [farB, Bool.not_eq_true', decide_eq_true_eq, decide_eq_false_iff_not]
  constructor
  · intro h e
    have hlt : ∀ x ∈ intsN p.nums, x < (many : Int) := fun x hx => by
      obtain ⟨n, hn, rfl⟩ := List.mem_map.mp hx
      have := List.filter_eq_nil_iff.mp e n hn
      simp only [decide_eq_true_eq] at this
      omega
    have : maxL (intsN p.nums) < (many : Int) := by
      cases e2 : intsN p.nums with
      | nil => show (0 : Int) < _; omega
      | cons m ns =>
        rw [e2] at hlt
        exact foldl_max_lt ns m (hlt m (List.mem_cons_self ..)) fun n hn => hlt n (List.mem_cons_of_mem _ hn)
    omega
  · intro h
    obtain ⟨n, hn⟩ := List.exists_mem_of_ne_nil _ h
    obtain ⟨h1, h2⟩ := List.mem_filter.mp hn
    have h2 : many ≤ n := of_decide_eq_true h2
    have := maxL_ge (ns := intsN p.nums) (n := (n : Int)) (List.mem_map_of_mem h1)
    omega
theorem num_str {i : Nat} : ((toString ((i : Int) + 2) : String) : Str) = num (2 + i) := by
  unfold num
  rw [show ((i : Int) + 2) = ((2 + i : Nat) : Int) by omega]
theorem eqv_nilS (zs : List Str) : PyData.eqv (.list (zs.map .str)) (.list []) = decide (zs = []) := by cases zs <;> rfl
theorem eqv_nilI (ns : List Int) : PyData.eqv (.list (ns.map .int)) (.list []) = decide (ns = []) := by cases ns <;> rfl
theorem eqv_nilP (ps : List Plc) : PyData.eqv (.list (ps.map Plc.d)) (.list []) = decide (ps.length = 0) := by cases ps <;> rfl
theorem noM_all (wt : List Str) : decide (wt.filter (fun x => !isM x) = []) = wt.all isM := by
  rw [Bool.eq_iff_iff, decide_eq_true_eq, List.filter_eq_nil_iff, List.all_eq_true]
  exact ⟨fun h x hx => by have := h x hx; simpa using this, fun h x hx => by simp [h x hx]⟩
theorem isM_in {z : Str} : inV (.str z) ([.str "live", .str "met", .str "begin"] : List V) = isM z := by
  unfold isM inV
  rw [Bool.eq_iff_iff]
  simp only [List.any_cons, List.any_nil, Bool.or_false, Bool.or_eq_true, decide_eq_true_eq, List.mem_cons, List.mem_nil_iff, or_false]
  have k : ∀ y : Str, eqV (.str y) (.str z) = true ↔ z = y := fun y => by
    show (y == z) = true ↔ _
    rw [beq_iff_eq]
    exact ⟨fun h => h.symm, fun h => h.symm⟩
  rw [k, k, k]
section
variable {P : Program} {w : World} {K : PySem.W.Frag} {mg : Str → Option Value} {base : Heap} {fLP : Addr}
def rLenK (K : PySem.W.Frag) : List V → Hp → VK → Prop := fun xs H Q => ∃ p ys, xs = [.ref p] ∧ (SqL K H p ys ∨ SqT K H p ys) ∧ Q (.int ((ys.length : Nat) : Int)) H
abbrev bGoal : List Stmt := (match (defBody sRequestIn).getD 7 (.Pass ⟨0, 0, 0, 0⟩) with
  | .For _ _ b _ _ => b
  | _ => []).drop 1
abbrev NRi : List Str := ["spots", "text_so", "lines", "places", "words", "word", "at", "line", "place", "goals", "goal"]
theorem scRi9 : FnScope NRi ["spots", "text_so"] (defScope sRequestIn) := ⟨rfl, rfl, rfl, by decide +kernel, rfl, by decide +kernel, by decide +kernel⟩
def spRIn (K : PySem.W.Frag) : Sp := fun vs H Q _ => ∃ (aS : Addr) (as : List Addr) (ys : List (Str × Int)) (z : Str), vs = [.ref aS, .str z] ∧ FrT H aS (as.map V.ref) ∧ Prs H as ys ∧ SetOk ys ∧ sOk 100000 z ∧
  ∀ v H', Same H H' → Dq K H' aS aS v (dueT (readR ys (linesOf z))) → Q v H'
theorem ok_rin {f : Addr} {fd fdLP : FuncData} (F : Fun K "_law_request_in" "_law_request_in" sRequestIn f fd) (T : TxtX mg) (gLP : mg "_law_place_in" = some (.ref fLP)) (kLP : PySem.W.keepIn K (.ref fLP) = true) (GLP : FnOk P w K mg base CX0 2 fLP fdLP ["spots", "line"] (spLPIn K)) (bLP : Binds K fdLP ["spots", "line"] []) :
    FnOk P w K mg base CX0 3 f fd ["spots", "text_so"] (spRIn K) := by
  refine F.ok scRi9 (fun vs H Q E h => ?_) (fun cdv A outer s H vs Q E hr h => ?_)
  · obtain ⟨aS, as, ys, z, rfl, _⟩ := h
    rfl
  obtain ⟨aS, as, ys, z, rfl, hS, hp', so, hz, q⟩ := h
  have lg : ∀ k : Nat, k ≤ 50 → ((k : Int) + 2).natAbs.log2 < 1920 := fun k hk => by
    rw [show ((k : Int) + 2) = ((k + 2 : Nat) : Int) by omega]
    exact num_log (k + 2) (by omega)
  have stB : ∃ t, PSs (cxOf CX0 P w K mg base NRi "_law_request_in" (defScope sRequestIn) f cdv A outer s H E).nox bGoal t ∧ ∀ (Dn : Ends) (G5 : Hp) (g pL Pl pW : Addr) (i many : Nat) (vs : List V) (pl : Plc) (v5 v7 v8 v10 : Option V),
      SqT K G5 g ((intsN pl.nums).map V.int) → G5 Pl = some (.lst vs) → vs.length = many → 0 < many → i ≤ 50 → (∀ n ∈ pl.nums, n < 100) → pl.nums.length ≤ 4 →
      (farB many pl = true → ∀ t G6, Same G5 G6 → G6 t = none → Dn.rt (.ref t) (upd G6 t (.tup [.str "text", .str (num (2 + i))]))) →
      (farB many pl = false → ∀ v10 G6, Same G5 G6 → Dn.nx [some (.ref aS), some (.str z), some (.ref pL), some (.ref Pl), some (.ref pW), v5, some (.int (i : Int)), v7, v8, some (.ref g), v10] G6) →
      t Dn [some (.ref aS), some (.str z), some (.ref pL), some (.ref Pl), some (.ref pW), v5, some (.int (i : Int)), v7, v8, some (.ref g), v10] G5 := by
    refine ⟨_, pss_one (ps_if (pt_cmpR (show OpR _ (compareOp .NotEq) (rNeD K) from op_neD (by exact hr.units)) (pe_lc (own := [("goal", 10)]) (g := gName 10) (by rfl) scRi9.nd (pi_tup (pv 9)) (blkOk_by (own := [("goal", 10)]) (N := NRi) (sc := defScope sRequestIn) (by decide +kernel))
        (fun _ _ _ _ _ => pg_name (i := 10) scRi9.nd rfl (by first | exact Or.inl rfl | exact Or.inr rfl)) (fun _ _ _ _ _ => pts_one (pt_cmpR op_ge (pv 10) (pe_callB (show CallR _ (.builtin "len") (rLenK K) from call_len_seq) (by rfl) T.len PySem.boot_len (pa_cons (pv 3) pa_nil)) (nomark _))) (fun _ _ _ _ _ => pv 10)) (pe_lst pa_nil) (nomark _))
        (pss_one (ps_ret (pe_tup (pa_cons pe_str (pa_cons (pe_callTy call_str_int (by rfl) T.str (by decide +kernel) (pa_cons (pe_op op_add (pv 6) pe_int) pa_nil)) pa_nil))))) pss_nil), ?_⟩
    intro Dn G5 g pL Pl pW i many vs pl v5 v7 v8 v10 hg gP lv h0 hi hn h4 r1 r2
    refine ⟨_, rfl, g, rfl, ⟨_, hg⟩, fun D hD => ?_⟩
    refine lc_it (walk_tup (xs := (intsN pl.nums).map V.int)) (fun j G6 => Same G5 G6 ∧ G6 D = some (.lst ((intsN ((pl.nums.take j).filter fun n => decide (many ≤ n))).map V.int))) ⟨Same.upd hD, upd_same⟩ (fun j G6 _ ⟨s6, _⟩ => Same.seqT s6 hg) ?_ ?_
    · rintro j y G6 G7 hj ⟨s6, g6⟩ ⟨rfl, hy⟩
      have hy2 : ((pl.nums.map fun (n : Nat) => (n : Int)).map V.int)[j]? = some y := hy
      rw [List.getElem?_map, List.getElem?_map] at hy2
      obtain ⟨i1, hi1, rfl⟩ := Option.map_eq_some_iff.mp hy2
      obtain ⟨n, hn', rfl⟩ := Option.map_eq_some_iff.mp hi1
      have ti : (pl.nums.take (j + 1)).filter (fun n => decide (many ≤ n)) = (pl.nums.take j).filter (fun n => decide (many ≤ n)) ++ (if many ≤ n then [n] else []) := by
        rw [List.take_succ, hn', List.filter_append]
        congr 1
        show List.filter _ [n] = _
        by_cases hm : many ≤ n <;> simp [List.filter_cons, hm]
      have lt : ((pl.nums.take j).filter fun n => decide (many ≤ n)).length ≤ 900 := Nat.le_trans (List.length_filter_le ..) (by rw [List.length_take]; omega)
      refine ⟨rfl, _, rfl, _, rfl, Pl, _, rfl, .inl (SqL.of (s6 _ _ gP)), (n : Int), (vs.length : Int), rfl, rfl, _, rfl, ?_⟩
      have e1 : decide (((vs.length : Nat) : Int) ≤ (n : Int)) = decide (many ≤ n) := by
        rw [lv, Bool.eq_iff_iff, decide_eq_true_eq, decide_eq_true_eq]; omega
      rw [e1]
      by_cases hm : many ≤ n
      · rw [if_pos hm] at ti
        refine ifT (decide_eq_true hm) ⟨_, rfl, _, g6, small1000 (by rw [List.length_map]; show (((pl.nums.take j).filter fun n => decide (many ≤ n)).map fun (n : Nat) => (n : Int)).length ≤ 1000; rw [List.length_map]; omega), (fun b o e => by rw [upd_ne (ne_of_none e hD)]; exact s6 _ _ e), ?_⟩
        rw [upd_same, ti]
        unfold intsN
        rw [List.map_append, List.map_append]; rfl
      · rw [if_neg hm, List.append_nil] at ti
        refine ifF (decide_eq_false hm) ⟨s6, ?_⟩
        rw [ti]; exact g6
    rintro G6 ⟨s6, g6⟩
    have ll : ((intsN pl.nums).map V.int).length = pl.nums.length := by rw [List.length_map]; exact List.length_map ..
    rw [ll, List.take_of_length_le (Nat.le_refl _)] at g6
    refine ⟨(by show 0 ≤ sizeLine; decide), fun E0 hE0 => ?_⟩
    have s7 := Same.upd (o := .lst ([] : List V)) hE0
    have nDS : ∀ {a}, G5 a ≠ none → D ≠ a := fun h e => by rw [e] at hD; exact h hD
    have gPn : G5 Pl ≠ none := by rw [gP]; exact fun z => nomatch z
    have g100 : ∀ n ∈ pl.nums.filter (fun n => decide (many ≤ n)), n < 100 := fun n h => hn n (List.mem_filter.mp h).1
    have gd := (Gd.lst (intsN_good g100)).mono (Nat.le_refl big) (Nat.le_refl _) (by decide : 0 + 1 ≤ 60)
    refine ⟨.list ((intsN (pl.nums.filter fun n => decide (many ≤ n))).map .int), .list [], Dq.dp (m := Pl) (l := Pl) (.list ((intsN (pl.nums.filter fun n => decide (many ≤ n))).map .int)) _ (.lst (s7 _ _ g6) (nDS gPn) (nDS gPn) (ints_dq _)) (ints_noDiL _), .lst (SqL.of upd_same) .nil, shaped_of gd (ints_noDiL _) (by decide), strs_shaped (a := 16) (ws := []) (fun z h => nomatch h), _, rfl, ?_⟩
    have ee : (!PyData.eqv (.list ((intsN (pl.nums.filter fun n => decide (many ≤ n))).map .int)) (.list [])) = farB many pl := by
      rw [eqv_nilI, far_filter h0]
      congr 1
      rw [Bool.eq_iff_iff, decide_eq_true_eq, decide_eq_true_eq]
      unfold intsN
      rw [List.map_eq_nil_iff]
    rw [ee]
    have s57 := s6.trans s7
    cases hf : farB many pl with
    | true =>
      refine ifT rfl ⟨_, rfl, _, _, rfl, rfl, _, rfl, lg i hi, (by show 2 ≤ sizeLine; decide), fun t ht => ?_⟩
      rw [num_str]
      exact r1 hf t _ s57 ht
    | false => exact ifF rfl (r2 hf _ _ s57)
  obtain ⟨tB, dB, zB⟩ := stB
  refine ⟨_, pss_cons (ps_if (pt_not (pt_val (pe_callB call_isi (by rfl) T.isi PyProof.Rows.boot_isinstance (pa_cons (pv 1) (pa_cons (pe_bltn (v := .ty "str") (u := .type "str") (by rfl) T.str (by decide +kernel) rfl) pa_nil))))) (pss_one (ps_ret (pe_tup (pa_cons pe_str (pa_cons pe_str pa_nil))))) pss_nil)
    (pss_cons (ps_asg (pe_tup (pa_cons (pe_split (pv 1) pe_str) (pa_cons (pe_lst pa_nil) pa_nil))) (pg_tup rfl (pgs_cons (pg_name (i := 2) scRi9.nd rfl (by first | exact Or.inl rfl | exact Or.inr rfl)) (pgs_cons (pg_name (i := 3) scRi9.nd rfl (by first | exact Or.inl rfl | exact Or.inr rfl)) pgs_nil))))
    (pss_cons (ps_set (i := 4) scRi9.nd rfl (by first | exact Or.inl rfl | exact Or.inr rfl) (pe_split (pe_ix (show IxR _ (rIxL K) from ix_list) (pv 2) pe_int (fun _ _ => rfl)) pe_str))
    (pss_cons (ps_if (PW.pt (pw_or (pt_cmpR op_ne (pe_ix (show IxR _ (rIxL K) from ix_list) (pv 4) pe_int (fun _ _ => rfl)) pe_str (nomark _)) (pw_or1 (pt_cmpR op_ne (pe_callB call_len_seq (by rfl) T.len PySem.boot_len (pa_cons (pv 4) pa_nil)) (pe_op op_add (pe_callB call_len_seq (by rfl) T.len PySem.boot_len (pa_cons (pv 0) pa_nil)) pe_int) (nomark _)))))
      (pss_one (ps_ret (pe_tup (pa_cons pe_str (pa_cons pe_str pa_nil))))) pss_nil)
    (pss_cons (ps_if (pt_cmpR (show OpR _ (compareOp .NotEq) (rNeD K) from op_neD (by exact hr.units)) (pe_lc (own := [("word", 5)]) (g := gName 5) (by rfl) scRi9.nd (pi_list (pe_slice sl_list (pv 4) (po_some pe_int) po_none)) (blkOk_by (own := [("word", 5)]) (N := NRi) (sc := defScope sRequestIn) (by decide +kernel))
        (fun _ _ _ _ _ => pg_name (i := 5) scRi9.nd rfl (by first | exact Or.inl rfl | exact Or.inr rfl)) (fun _ _ _ _ _ => pts_one (pt_cmpR (show OpR _ (compareOp .NotIn) (rIn K true) from op_notIn_seq) (pv 5) (pe_lst (pa_cons pe_str (pa_cons pe_str (pa_cons pe_str pa_nil)))) (by rfl))) (fun _ _ _ _ _ => pv 5)) (pe_lst pa_nil) (nomark _))
      (pss_one (ps_ret (pe_tup (pa_cons pe_str (pa_cons pe_str pa_nil))))) pss_nil)
    (pss_cons (ps_for PassesOwn.never rfl (pi_enum (by rfl) T.enumerate (pa_cons (pe_slice sl_list (pv 2) (po_some pe_int) po_none) pa_nil)) (pg_tup rfl (pgs_cons (pg_name (i := 6) scRi9.nd rfl (by first | exact Or.inl rfl | exact Or.inr rfl)) (pgs_cons (pg_name (i := 7) scRi9.nd rfl (by first | exact Or.inl rfl | exact Or.inr rfl)) pgs_nil)))
      (pss_cons (ps_set (i := 8) scRi9.nd rfl (by first | exact Or.inl rfl | exact Or.inr rfl) (pe_call GLP hr (by rfl) gLP kLP bLP .nil pass0 (pa_cons (pv 0) (pa_cons (pv 7) pa_nil))))
      (pss_cons (ps_if (PW.pt (pw_or (pt_cmpR op_isN (pv 8) pe_non (nomark _)) (pw_or1 (pt_cmpR op_eq (pv 6) pe_int (nomark _))))) (pss_one (ps_ret (pe_tup (pa_cons pe_str (pa_cons (pe_callTy call_str_int (by rfl) T.str (by decide +kernel) (pa_cons (pe_op op_add (pv 6) pe_int) pa_nil)) pa_nil))))) pss_nil)
      (pss_one (ps_expr (pe_bm PySem.F.plainAttrs_list PySem.F.slot_list_append PySem.F.type_list_append mt_append (pv 3) (pa_cons (pv 8) pa_nil)))))))
    (pss_cons (ps_if (pt_cmpR (show OpR _ (compareOp .Eq) (rEqD K) from op_eqD (by exact hr.units)) (pv 3) (pe_lst pa_nil) (nomark _)) (pss_one (ps_ret (pe_tup (pa_cons pe_str (pa_cons pe_str pa_nil))))) pss_nil)
    (pss_cons (ps_for PassesOwn.never rfl (pi_enum (by rfl) T.enumerate (pa_cons (pv 3) pa_nil)) (pg_tup rfl (pgs_cons (pg_name (i := 6) scRi9.nd rfl (by first | exact Or.inl rfl | exact Or.inr rfl)) (pgs_cons (pg_name (i := 8) scRi9.nd rfl (by first | exact Or.inl rfl | exact Or.inr rfl)) pgs_nil)))
      (pss_cons (ps_set (i := 9) scRi9.nd rfl (by first | exact Or.inl rfl | exact Or.inr rfl) (pe_ifExp (pt_cmpR op_eq (pe_ix ix_tup (pv 8) pe_int (fun _ _ => rfl)) pe_str (nomark _)) (pe_ix ix_tup (pv 8) pe_int (fun _ _ => rfl)) (pe_slice sl_tupA (pv 8) (po_some pe_int) po_none)))
      dB))
    (pss_one (ps_ret (pe_lst (pa_cons (pe_lst (pa_cons (pe_callTy call_tuple_of (by rfl) T.tuple (by decide +kernel) (pa_cons (pv 3) pa_nil)) (pa_cons (pe_callTy call_tuple_of (by rfl) T.tuple (by decide +kernel) (pa_cons (pe_slice sl_list (pv 4) (po_some pe_int) po_none) pa_nil)) pa_nil))) pa_nil))))))))))), ?_⟩
  have lz0 := hz.1
  obtain ⟨s1, s2, s3⟩ := split_ok (y := newl) (by rw [nl_tl]; simp) (by decide +kernel) hz
  have hL : linesOf z = (Txt.split z newl).map fun y => Txt.split y blank := rfl
  obtain ⟨L, eL⟩ : ∃ L, L = Txt.split z newl := ⟨_, rfl⟩
  rw [hL, ← eL] at q
  rw [← eL] at s1 s2 s3
  obtain ⟨l0, lr, rfl⟩ : ∃ l0 lr, L = l0 :: lr := by
    cases L with
    | nil => exact absurd rfl s2
    | cons a b => exact ⟨a, b, rfl⟩
  have hl0 := s3 l0 (List.mem_cons_self ..)
  obtain ⟨w1, w2, w3⟩ := split_ok (y := blank) (by rw [bl_tl]; simp) (by decide +kernel) hl0
  obtain ⟨ws, ews⟩ : ∃ ws, ws = Txt.split l0 blank := ⟨_, rfl⟩
  rw [← ews] at w1 w2 w3
  obtain ⟨w0, wt, rfl⟩ : ∃ w0 wt, ws = w0 :: wt := by
    cases ws with
    | nil => exact absurd rfl w2
    | cons a b => exact ⟨a, b, rfl⟩
  have er : readR ys ((l0 :: lr).map fun y => Txt.split y blank) = if mlineB ys.length (w0 :: wt) = true then match readP ys 2 [] (lr.map fun y => Txt.split y blank) with
      | .inl n => .inl n
      | .inr ps => if ps.length = 0 then .inl 2 else match firstFar ps.length 2 ps with
        | some n => .inl n
        | none => .inr (ps, wt)
      else .inl 1 := by
    rw [List.map_cons, ← ews]; rfl
  generalize hR : readR ys ((l0 :: lr).map fun y => Txt.split y blank) = R at er q
  have lys : as.length = ys.length := hp'.length
  have so3 := so.len3
  have bigA : ∀ n, n ≤ 200000 → n < sizeLine := fun n h => by rw [sizeLine_eq]; omega
  have em : mlineB ys.length (w0 :: wt) = (decide (w0 = ("modes" : Str)) && (decide (wt.length + 1 = ys.length + 1) && wt.all isM)) := by
    unfold mlineB
    have : decide (some w0 = some ("modes" : Str)) = decide (w0 = ("modes" : Str)) := by
      rw [Bool.eq_iff_iff, decide_eq_true_eq, decide_eq_true_eq, Option.some.injEq]
    rw [← this]; rfl
  have ret1 : ∀ {H' : Hp} {n : Nat} {u : Str}, Same H H' → R = .inl n → u = num n → ∀ t, H' t = none → Q (.ref t) (upd H' t (.tup [.str "text", .str u])) := fun s e eu t ht => by
    subst eu
    refine q (.ref t) _ (s.trans (Same.upd ht)) ?_
    rw [e]
    exact .tup (.inl (.inl upd_same)) (.cons (.str _) (.cons (.str _) .nil))
  have n1 : ("1" : Str) = num 1 := by decide +kernel
  have n2 : ("2" : Str) = num 2 := by decide +kernel
  refine ⟨_, rfl, .str z, .ty "str", _, _, _, rfl, .ty _, .base (.str z), isi_str K (.str z), _, rfl, ifF rfl ?_⟩
  refine ⟨_, rfl, ⟨z, rfl⟩, z, newl, rfl, rfl, (by decide), (by rw [sizeLine_eq]; omega), fun pL hpL => ⟨(by show 0 ≤ sizeLine; decide), fun Pl hPl => ⟨(by show 2 ≤ sizeLine; decide), fun TT hTT => ?_⟩⟩⟩
  refine ⟨TT, _, rfl, .inl (.inl upd_same), rfl, _, _, rfl, _, _, rfl, rfl, ?_⟩
  have sL := Same.upd (o := .lst ((l0 :: lr).map V.str)) hpL
  have sP := Same.upd (o := .lst ([] : List V)) hPl
  have sT := Same.upd (o := .tup [V.ref pL, .ref Pl]) hTT
  rw [← eL] at *
  have hPH : H Pl = none := Same.free sL hPl
  have sH3 := (sL.trans sP).trans sT
  have gL := sT _ _ (sP _ _ (upd_same (H := H) (a := pL) (o := .lst ((l0 :: lr).map V.str))))
  have gP := sT _ _ (upd_same (H := upd H pL (.lst ((l0 :: lr).map V.str))) (a := Pl) (o := .lst []))
  generalize upd (upd (upd H pL (.lst ((l0 :: lr).map V.str))) Pl (.lst [])) TT (.tup [V.ref pL, .ref Pl]) = H3 at sH3 gL gP ⊢
  have lr0 := hl0.1
  refine ⟨_, rfl, pL, _, 0, .str l0, rfl, rfl, SqL.of gL, (show atI _ ((0 : Nat) : Int) = _ from atI_nat rfl), ⟨l0, rfl⟩, l0, blank, rfl, rfl, (by decide), (by rw [sizeLine_eq]; omega), fun pW hpW => ?_⟩
  rw [← ews]
  have sW := Same.upd (o := .lst ((w0 :: wt).map V.str)) hpW
  have nPW : Pl ≠ pW := fun e => by rw [← e, gP] at hpW; cases hpW
  have gW := upd_same (H := H3) (a := pW) (o := .lst ((w0 :: wt).map V.str))
  have gL4 := sW _ _ gL
  have gP4 := sW _ _ gP
  have sH4 := sH3.trans sW
  generalize upd H3 pW (.lst ((w0 :: wt).map V.str)) = H4 at gW gL4 gP4 sH4 ⊢
  clear sL sP sT gL gP sW sH3
  refine ⟨_, rfl, pW, _, 0, .str w0, rfl, rfl, SqL.of gW, (show atI _ ((0 : Nat) : Int) = _ from atI_nat rfl), rfl, _, rfl, ?_⟩
  rw [str_dec]
  by_cases c0 : w0 = ("modes" : Str)
  case neg =>
    rw [decide_eq_false c0, Bool.false_and] at em
    rw [em] at er
    exact ifT (by rw [decide_eq_false c0]; rfl) (ifT rfl ⟨(by show 2 ≤ sizeLine; decide), ret1 sH4 er n1⟩)
  rw [decide_eq_true c0, Bool.true_and] at em
  refine ifF (by rw [decide_eq_true c0]; rfl) ?_
  refine ⟨_, rfl, pW, _, rfl, .inl (SqL.of gW), _, rfl, aS, _, rfl, .inr (Same.seqT sH4 hS.seqT), _, _, rfl, rfl, rfl, _, rfl, ?_⟩
  have e1 : decide (V.int ((((w0 :: wt).map V.str).length : Nat) : Int) = V.int (((as.map V.ref).length : Nat) + 1)) = decide (wt.length + 1 = ys.length + 1) := by
    rw [Bool.eq_iff_iff, decide_eq_true_eq, decide_eq_true_eq, V.int.injEq, List.length_map, List.length_map, List.length_cons, lys]
    omega
  rw [e1]
  by_cases c1 : wt.length + 1 = ys.length + 1
  case neg =>
    rw [decide_eq_false c1, Bool.false_and] at em
    rw [em] at er
    exact ifT (by rw [decide_eq_false c1]; rfl) ⟨(by show 2 ≤ sizeLine; decide), ret1 sH4 er n1⟩
  rw [decide_eq_true c1, Bool.true_and] at em
  refine ifF (by rw [decide_eq_true c1]; rfl) ?_
  have ecW : cutV ((w0 :: wt).map V.str) (some 1) none = wt.map V.str := cut_from (xs := (w0 :: wt).map V.str) (i := 1) (by simp)
  refine ⟨_, rfl, _, rfl, noPart ⟨pW, _, rfl, SqL.of gW, fun p2 hp2 => ?_⟩⟩
  rw [ecW]
  have s2' : Same H4 (upd H4 p2 (.lst (wt.map V.str))) := Same.upd hp2
  have gp2 : (upd H4 p2 (.lst (wt.map V.str))) p2 = some (.lst (wt.map V.str)) := upd_same
  generalize upd H4 p2 (.lst (wt.map V.str)) = H5 at s2' gp2 ⊢
  refine ⟨p2, rfl, ⟨_, SqL.of gp2⟩, fun D hD => ?_⟩
  refine lc_it (walk_list (xs := wt.map V.str)) (fun i H6 => Same H5 H6 ∧ H6 D = some (.lst (((wt.take i).filter fun x => !isM x).map V.str))) ⟨Same.upd hD, upd_same⟩ (fun i H6 _ ⟨s6, _⟩ => SqL.of (s6 _ _ gp2)) ?_ ?_
  · rintro i y H6 H7 hi ⟨s6, g6⟩ ⟨rfl, hy⟩
    rw [List.getElem?_map] at hy
    obtain ⟨x, hx, rfl⟩ := Option.map_eq_some_iff.mp hy
    have ti : (wt.take (i + 1)).filter (fun x => !isM x) = (wt.take i).filter (fun x => !isM x) ++ (if isM x = true then [] else [x]) := by
      rw [List.take_succ, hx, List.filter_append]
      congr 1
      show List.filter _ [x] = _
      cases hm : isM x <;> simp [List.filter_cons, hm]
    have lt : ((wt.take i).filter fun x => !isM x).length ≤ 900 := Nat.le_trans (List.length_filter_le ..) (by rw [List.length_take]; omega)
    refine ⟨rfl, _, rfl, (by show 3 ≤ sizeLine; decide), fun E1 hE1 => ⟨E1, _, rfl, .inl (SqL.of upd_same), rfl, rfl, _, rfl, ?_⟩⟩
    have sE := Same.upd (o := .lst [V.str "live", .str "met", .str "begin"]) hE1
    have ei : (if true = true then !inV (V.str x) ([.str "live", .str "met", .str "begin"] : List V) else inV (V.str x) ([.str "live", .str "met", .str "begin"] : List V)) = !isM x := by rw [if_pos rfl, isM_in]
    rw [ei]
    cases hm : isM x with
    | true =>
      rw [hm, if_pos rfl, List.append_nil] at ti
      refine ifF rfl ⟨s6.trans sE, ?_⟩
      rw [ti]; exact sE _ _ g6
    | false =>
      rw [hm, if_neg Bool.false_ne_true] at ti
      refine ifT rfl ⟨_, rfl, _, sE _ _ g6, small1000 (by rw [List.length_map]; omega), (fun b o e => by rw [upd_ne (ne_of_none e hD)]; exact sE _ _ (s6 _ _ e)), ?_⟩
      rw [upd_same, ti, List.map_append]; rfl
  rintro H6 ⟨s6, g6⟩
  rw [List.length_map, List.take_of_length_le (Nat.le_refl _)] at g6
  refine ⟨(by show 0 ≤ sizeLine; decide), fun E0 hE0 => ?_⟩
  have s7 := Same.upd (o := .lst ([] : List V)) hE0
  have wtS : ∀ z ∈ wt.filter (fun x => !isM x), sOk 100000 z := fun z hz => w3 z (List.mem_cons_of_mem _ (List.mem_filter.mp hz).1)
  refine ⟨.list ((wt.filter fun x => !isM x).map .str), .list [], .lst (SqL.of (s7 _ _ g6)) (dp_strs _), .lst (SqL.of upd_same) .nil, strs_shaped wtS, strs_shaped (a := 16) (ws := []) (fun z h => nomatch h), _, rfl, ?_⟩
  rw [eqv_nilS, noM_all]
  have s47 := (s2'.trans s6).trans s7
  have gW7 := s47 _ _ gW
  have gL7 := s47 _ _ gL4
  have gP7 := s47 _ _ gP4
  have sH7 := sH4.trans s47
  generalize upd H6 E0 (.lst []) = H7 at s47 gW7 gL7 gP7 sH7 ⊢
  cases hma : wt.all isM with
  | false =>
    rw [hma] at em
    rw [em] at er
    exact ifT rfl ⟨(by show 2 ≤ sizeLine; decide), ret1 sH7 er n1⟩
  | true =>
  rw [hma] at em
  rw [em, if_pos rfl] at er
  refine ifF rfl ?_
  clear g6 gp2 s2' s6 s7 gW gL4 gP4 s47
  have ecL : cutV ((l0 :: lr).map V.str) (some 1) none = lr.map V.str := cut_from (xs := (l0 :: lr).map V.str) (i := 1) (by simp)
  refine ⟨_, rfl, _, rfl, noPart ⟨pL, _, rfl, SqL.of gL7, fun p hp => ?_⟩⟩
  rw [ecL]
  have sp := Same.upd (o := .lst (lr.map V.str)) hp
  have gp := upd_same (H := H7) (a := p) (o := .lst (lr.map V.str))
  have nPp : p ≠ Pl := fun e => by rw [e, gP7] at hp; cases hp
  have gW8 := sp _ _ gW7
  have gP8 := sp _ _ gP7
  have sH8 := sH7.trans sp
  generalize upd H7 p (.lst (lr.map V.str)) = H8 at gp gW8 gP8 sH8 ⊢
  obtain ⟨rest, erest⟩ : ∃ rest, rest = lr.map fun y => Txt.split y blank := ⟨_, rfl⟩
  rw [← erest] at er
  have lrest : rest.length = lr.length := by rw [erest, List.length_map]
  refine ⟨p, _, rfl, SqL.of gp, ?_⟩
  refine for_it (walk_enum (xs := lr.map V.str)) (fun i σ G => ∃ (v5 v6 v7 v8 v9 v10 : Option V) (acc : List Plc) (vs : List V), σ = [some (.ref aS), some (.str z), some (.ref pL), some (.ref Pl), some (.ref pW), v5, v6, v7, v8, v9, v10] ∧ Same H G ∧ G Pl = some (.lst vs) ∧ G p = some (.lst (lr.map V.str)) ∧ G pW = some (.lst ((w0 :: wt).map V.str)) ∧
      DqAll K G aS aS vs (acc.map Plc.d) ∧ acc.length = i ∧ i ≤ 16 ∧ readP ys 2 [] rest = readP ys (2 + i) acc (rest.drop i) ∧ ∀ p ∈ acc, PlcIn ys p)
    ⟨none, none, none, none, none, none, [], [], rfl, sH8, gP8, gp, gW8, .nil, rfl, Nat.zero_le _, rfl, fun p h => nomatch h⟩ (fun i σ G _ ⟨v5, v6, v7, v8, v9, v10, acc, vs, _, _, _, g, _⟩ => SqL.of g) ?_ ?_
  · rintro i x σ G G' hi ⟨v5, v6, v7, v8, v9, v10, acc, vs, rfl, sG, gP, gpG, gWG, dq, la, l16, dg, pin⟩ ⟨TT2, x1, x2, rfl, hT, rfl, e1', e2'⟩
    have ex1 : x1 = .int (i : Nat) := (Option.some.inj e1').symm
    subst ex1
    have e2' : (lr.map V.str)[i]? = some x2 := e2'
    rw [List.getElem?_map] at e2'
    obtain ⟨y, hy, rfl⟩ := Option.map_eq_some_iff.mp e2'
    have hyr : rest[i]? = some (Txt.split y blank) := by rw [erest, List.getElem?_map, hy]; rfl
    have edr : rest.drop i = Txt.split y blank :: rest.drop (i + 1) := by
      obtain ⟨b1, b2⟩ := List.getElem?_eq_some_iff.mp hyr
      rw [List.drop_eq_getElem_cons b1, b2]
    rw [edr, readP_one] at dg
    have sT := Same.upd (o := .tup [V.int (i : Nat), .str y]) hT
    have lvs : vs.length = acc.length := by rw [dq.len, List.length_map]
    refine ⟨TT2, _, rfl, .inl (.inl upd_same), rfl, _, _, rfl, _, _, rfl, rfl, ?_⟩
    have sGT := sG.trans sT
    refine ⟨_, rfl, _, rfl, aS, as, ys, y, rfl, FrT.same sGT hS, Prs.same (fun b o _ e => sGT b o e) hp', so, s3 y (List.mem_cons_of_mem _ (List.mem_of_getElem? hy)), fun e0 G2 s2 => ?_, fun pl ep v' G2 s2 dq2 => ?_⟩
    · rw [e0] at dg
      rw [dg] at er
      refine ⟨_, rfl, rfl, _, rfl, ifT rfl (ifT rfl ⟨_, rfl, _, _, rfl, rfl, _, rfl, lg i (by omega), (by show 2 ≤ sizeLine; decide), ret1 (sGT.trans s2) er num_str⟩)⟩
    · rw [ep] at dg
      obtain ⟨av, rfl⟩ := plc_ref (dq2 aS aS)
      have dg : readP ys 2 [] rest = if acc.length = 16 then .inl (2 + i) else readP ys (2 + i + 1) (acc ++ [pl]) (rest.drop (i + 1)) := dg
      refine ⟨_, rfl, rfl, _, rfl, ifF rfl ?_⟩
      refine ⟨_, rfl, rfl, _, rfl, ?_⟩
      have e16 : decide (V.int ((i : Nat) : Int) = V.int 16) = decide (acc.length = 16) := by
        rw [la, Bool.eq_iff_iff, decide_eq_true_eq, decide_eq_true_eq, V.int.injEq]; omega
      rw [e16]
      have gP2 := s2 _ _ (sT _ _ gP)
      by_cases h16 : acc.length = 16
      · rw [if_pos h16] at dg
        rw [dg] at er
        exact ifT (decide_eq_true h16) ⟨_, rfl, _, _, rfl, rfl, _, rfl, lg i (by omega), (by show 2 ≤ sizeLine; decide), ret1 (sGT.trans s2) er num_str⟩
      · rw [if_neg h16] at dg
        refine ifF (decide_eq_false h16) ?_
        refine ⟨_, rfl, .inl ⟨rfl, _, SqL.of gP2⟩, _, rfl, Pl, vs, .ref av, rfl, rfl, gP2, small1000 (by omega), ?_⟩
        refine ⟨_, _, _, _, _, _, acc ++ [pl], vs ++ [.ref av], rfl, (fun b o e => by rw [upd_ne (ne_of_none e hPH)]; exact s2 _ _ (sGT _ _ e)), upd_same, (by rw [upd_ne nPp]; exact s2 _ _ (sT _ _ gpG)), (by rw [upd_ne nPW.symm]; exact s2 _ _ (sT _ _ gWG)), ?_, (by rw [List.length_append, la]; rfl), (by omega), dg, fun x hx => ?_⟩
        · have hall : DqAll K G2 aS aS (vs ++ [.ref av]) ((acc ++ [pl]).map Plc.d) := by
            rw [List.map_append]
            exact DqAll.app (DqAll.same (sT.trans s2) _ _ dq) (.cons (dq2 aS aS) .nil)
          exact plcs_upd gP2 hall (ys := vs ++ [.ref av])
        · rcases List.mem_append.mp hx with hx | hx
          · exact pin x hx
          · rw [List.mem_singleton.mp hx]; exact placeIn_in ep
  rintro σ G ⟨v5, v6, v7, v8, v9, v10, acc, vs, rfl, sG, gP, gpG, gWG, dq, la, l16, dg, pin⟩
  rw [List.length_map] at la l16 dg
  rw [List.drop_of_length_le (by omega)] at dg
  have dg : readP ys 2 [] rest = .inr acc := dg
  rw [dg] at er
  have er : R = if acc.length = 0 then .inl 2 else match firstFar acc.length 2 acc with
      | some n => .inl n
      | none => .inr (acc, wt) := er
  have lvs : vs.length = acc.length := by rw [dq.len, List.length_map]
  have nPS : Pl ≠ aS := fun e => by
    obtain ⟨ob, e2, _⟩ := hS
    rw [← e, hPH] at e2; cases e2
  refine ⟨_, rfl, (by show 0 ≤ sizeLine; decide), fun E2 hE2 => ?_⟩
  have s2 := Same.upd (o := .lst ([] : List V)) hE2
  have gl : Gd big 100000 10 (.list (acc.map Plc.d)) := (Gd.lst (plcsin_good so pin)).mono (Nat.le_refl _) (by omega) (by decide)
  refine ⟨.list (acc.map Plc.d), .list [], Dq.dp (m := aS) (l := aS) (.list (acc.map Plc.d)) _ (.lst (s2 _ _ gP) nPS nPS (DqAll.same s2 _ _ dq)) (plcs_noDiL acc), .lst (SqL.of upd_same) .nil, shaped_of gl (plcs_noDiL acc) (by decide), strs_shaped (a := 16) (ws := []) (fun z h => nomatch h), _, rfl, ?_⟩
  rw [eqv_nilP]
  have gP2 := s2 _ _ gP
  have gW2 := s2 _ _ gWG
  have dq2 := DqAll.same s2 _ _ dq
  have sG2 := sG.trans s2
  generalize upd G E2 (.lst []) = G2 at gP2 gW2 dq2 sG2 ⊢
  by_cases h0 : acc.length = 0
  · rw [if_pos h0] at er
    exact ifT (decide_eq_true h0) ⟨(by show 2 ≤ sizeLine; decide), ret1 sG2 er n2⟩
  rw [if_neg h0] at er
  refine ifF (decide_eq_false h0) ?_
  have gW3 := gW2
  refine ⟨_, rfl, Pl, _, rfl, SqL.of gP2, ?_⟩
  refine for_it (walk_enum (xs := vs)) (fun i σ G3 => ∃ (v5 v6 v7 v8 v9 v10 : Option V), σ = [some (.ref aS), some (.str z), some (.ref pL), some (.ref Pl), some (.ref pW), v5, v6, v7, v8, v9, v10] ∧ Same G2 G3 ∧ firstFar acc.length 2 acc = firstFar acc.length (2 + i) (acc.drop i))
    ⟨v5, v6, v7, v8, v9, v10, rfl, Same.refl _, rfl⟩ (fun i σ G3 _ ⟨v5, v6, v7, v8, v9, v10, _, s3, _⟩ => SqL.of (s3 _ _ gP2)) ?_ ?_
  · rintro i x σ G3 G3' hi ⟨v5, v6, v7, v8, v9, v10, rfl, s3', df⟩ ⟨TT2, x1, x2, rfl, hT, rfl, e1', e2'⟩
    have ex1 : x1 = .int (i : Nat) := (Option.some.inj e1').symm
    subst ex1
    obtain ⟨dd, hdd, dqi⟩ := dq2.get e2'
    rw [List.getElem?_map] at hdd
    obtain ⟨pl, hpl, rfl⟩ := Option.map_eq_some_iff.mp hdd
    have plin := pin pl (List.mem_of_getElem? hpl)
    have edr : acc.drop i = pl :: acc.drop (i + 1) := by
      obtain ⟨b1, b2⟩ := List.getElem?_eq_some_iff.mp hpl
      rw [List.drop_eq_getElem_cons b1, b2]
    rw [edr] at df
    have df : firstFar acc.length 2 acc = if farB acc.length pl = true then some (2 + i) else firstFar acc.length (2 + i + 1) (acc.drop (i + 1)) := df
    have sT := Same.upd (o := .tup [V.int (i : Nat), x2]) hT
    have s24 := s3'.trans sT
    have dq4 := Dq.same s24 _ _ dqi
    refine ⟨TT2, _, rfl, .inl (.inl upd_same), rfl, _, _, rfl, _, _, rfl, rfl, ?_⟩
    generalize upd G3 TT2 (.tup [V.int (i : Nat), x2]) = G4 at sT s24 dq4 ⊢
    have n100 : (∀ n ∈ pl.nums, n < 100) ∧ pl.nums.length ≤ 4 := by
      cases pl with
      | fin => exact ⟨(fun n h => nomatch h), by decide⟩
      | go y n => exact ⟨fun k hk => by rw [List.mem_singleton.mp hk]; exact plin.2, by show 1 ≤ 4; decide⟩
      | ask y ns =>
        obtain ⟨qq, hqq, _, hl, hn⟩ := plin
        have := so.most qq hqq
        exact ⟨hn, by show ns.length ≤ 4; omega⟩
    have fin : ∀ (Dn : Ends) (g : Addr) (G5 : Hp) (v7 v8 : Option V), Same G4 G5 → SqT K G5 g ((intsN pl.nums).map V.int) → (∀ t G6, Q t G6 → Dn.rt t G6) →
        (∀ v10 G6, Same G2 G6 → firstFar acc.length 2 acc = firstFar acc.length (2 + (i + 1)) (acc.drop (i + 1)) → Dn.nx [some (.ref aS), some (.str z), some (.ref pL), some (.ref Pl), some (.ref pW), v5, some (.int (i : Int)), v7, v8, some (.ref g), v10] G6) →
        tB Dn [some (.ref aS), some (.str z), some (.ref pL), some (.ref Pl), some (.ref pW), v5, some (.int (i : Int)), v7, v8, some (.ref g), v10] G5 := by
      intro Dn g G5 v7 v8 s5 hg rt nx
      refine zB Dn G5 g pL Pl pW i acc.length vs pl v5 v7 v8 v10 hg (s5 _ _ (s24 _ _ gP2)) lvs (by omega) (by omega) n100.1 n100.2 (fun hf t G6 s6 ht => ?_) (fun hf v10 G6 s6 => ?_)
      · rw [if_pos hf] at df
        rw [df] at er
        exact rt _ _ (ret1 (sG2.trans ((s24.trans s5).trans s6)) er rfl t ht)
      · rw [if_neg (by rw [hf]; exact Bool.false_ne_true)] at df
        exact nx v10 G6 ((s24.trans s5).trans s6) df
    cases pl with
    | fin =>
      cases dq4 with
      | tup h0 hx =>
        rename_i a us
        cases hx with
        | cons x1 x2 =>
          cases x2; cases x1
          refine ⟨_, rfl, a, _, 0, .str "end", rfl, rfl, h0, rfl, rfl, _, rfl, ifF rfl ⟨_, rfl, _, rfl, noPart (slA_any h0 fun g G5 s5 c5 => ?_)⟩⟩
          exact fin _ g G5 _ _ s5 c5 (fun _ _ h => h) fun v10 G6 s6 d6 => ⟨_, _, _, _, _, _, rfl, s6, d6⟩
    | go zz n =>
      cases dq4 with
      | tup h0 hx =>
        rename_i a us
        cases hx with
        | cons x1 x2 => cases x2 with | cons x2 x3 => cases x3 with | cons x3 x4 =>
          cases x4; cases x1; cases x2; cases x3
          refine ⟨_, rfl, a, _, 0, .str "do", rfl, rfl, h0, rfl, rfl, _, rfl, ifF rfl ⟨_, rfl, _, rfl, noPart (slA_any h0 fun g G5 s5 c5 => ?_)⟩⟩
          exact fin _ g G5 _ _ s5 c5 (fun _ _ h => h) fun v10 G6 s6 d6 => ⟨_, _, _, _, _, _, rfl, s6, d6⟩
    | ask zz ns =>
      cases dq4 with
      | tup h0 hx =>
        rename_i a us
        cases hx with
        | cons x1 x2 => cases x2 with | cons x2 x3 => cases x3 with | cons x3 x4 =>
          cases x4; cases x1; cases x2
          cases x3 with
          | tup h3 hy =>
            rename_i b us2
            have e := ints_of' hy
            subst e
            refine ⟨_, rfl, a, _, 0, .str "ask", rfl, rfl, h0, rfl, rfl, _, rfl, ifT rfl ⟨_, rfl, a, _, 2, .ref b, rfl, rfl, h0, rfl, ?_⟩⟩
            exact fin _ b G4 _ _ (Same.refl _) h3 (fun _ _ h => h) fun v10 G6 s6 d6 => ⟨_, _, _, _, _, _, rfl, s6, d6⟩
  rintro σ G3 ⟨v5, v6, v7, v8, v9, v10, rfl, s3', df⟩
  rw [lvs, List.drop_of_length_le (Nat.le_refl _)] at df
  have df : firstFar acc.length 2 acc = none := df
  rw [df] at er
  have er : R = .inr (acc, wt) := er
  have gP3 := s3' _ _ gP2
  have gW3' := s3' _ _ gW3
  refine ⟨_, rfl, Pl, vs, rfl, .inl ⟨SqL.of gP3, fun pA hpA => ?_⟩⟩
  have sA := Same.upd (o := .tup vs) hpA
  have gA := upd_same (H := G3) (a := pA) (o := .tup vs)
  have gW4 := sA _ _ gW3'
  generalize upd G3 pA (.tup vs) = G4 at sA gA gW4 ⊢
  refine ⟨_, rfl, _, rfl, noPart ⟨pW, _, rfl, SqL.of gW4, fun p3 hp3 => ?_⟩⟩
  rw [ecW]
  have sB := Same.upd (o := .lst (wt.map V.str)) hp3
  have gB := upd_same (H := G4) (a := p3) (o := .lst (wt.map V.str))
  generalize upd G4 p3 (.lst (wt.map V.str)) = G5 at sB gB ⊢
  refine ⟨p3, _, rfl, .inl ⟨SqL.of gB, fun pB hpB => ?_⟩⟩
  have sC := Same.upd (o := .tup (wt.map V.str)) hpB
  have gC := upd_same (H := G5) (a := pB) (o := .tup (wt.map V.str))
  generalize upd G5 pB (.tup (wt.map V.str)) = G6 at sC gC ⊢
  refine ⟨(by show 2 ≤ sizeLine; decide), fun q1 hq1 => ⟨(by show 1 ≤ sizeLine; decide), fun q2 hq2 => ?_⟩⟩
  have sD := Same.upd (o := .lst [V.ref pA, .ref pB]) hq1
  have sE := Same.upd (o := .lst [V.ref q1]) hq2
  have sAll := (((((sG2.trans s3').trans sA).trans sB).trans sC).trans sD).trans sE
  have hSn : H aS ≠ none := by
    obtain ⟨ob, e2, _⟩ := hS
    rw [e2]; exact fun z => nomatch z
  have fr : ∀ {H' : Hp} {a : Addr}, Same H H' → H' a = none → a ≠ aS := fun s h e => by
    subst e
    exact hSn (Same.free s h)
  have nq1 := fr (((((sG2.trans s3').trans sA).trans sB).trans sC)) hq1
  have nq2 := fr ((((((sG2.trans s3').trans sA).trans sB).trans sC).trans sD)) hq2
  refine q (.ref q2) _ sAll ?_
  rw [er]
  refine .lst upd_same nq2 nq2 (.cons (.lst (sE _ _ upd_same) nq1 nq1 (.cons (.tup (Same.seqT (((sB.trans sC).trans sD).trans sE) (.inl (.inl gA))) ?_) (.cons (.tup (Same.seqT (sD.trans sE) (.inl (.inl gC))) (strs_dqT wt)) .nil))) .nil)
  exact DqAll.same (((((s3'.trans sA).trans sB).trans sC).trans sD).trans sE) _ _ dq2
end
end Ms
namespace Ms
open PySem PySem.Spec PyProof.Rows L2
/-! ### a text with something otherwise -/
theorem spl_size {c0 : Nat} : ∀ (l acc : List Nat), ((TL.spl [c0] 0 acc l).map (·.length)).sum + (TL.spl [c0] 0 acc l).length = acc.length + l.length + 1
  | [], acc => by rw [TL.spl_nil]; simp
  | c :: r, acc => by
    cases e : TL.pre [c0] (c :: r) with
    | true =>
      rw [TL.spl_hit e]
      have h := spl_size (c0 := c0) r []
      show ((acc :: TL.spl [c0] 0 [] r).map (·.length)).sum + (acc :: TL.spl [c0] 0 [] r).length = _
      simp only [List.map_cons, List.sum_cons, List.length_cons, List.length_nil] at h ⊢
      omega
    | false =>
      rw [TL.spl_miss e]
      have h := spl_size (c0 := c0) r (acc ++ [c])
      simp only [List.length_append, List.length_cons, List.length_nil] at h ⊢
      omega
theorem sizeW_app (a b : List Str) : sizeW (a ++ b) = sizeW a + sizeW b := by
  unfold sizeW
  rw [List.map_append, List.sum_append, List.length_append]; omega
theorem split_size {z y : Str} {c0 : Nat} (hy : TL.tl y = [c0]) (hk : y.cps.all (· < 256) = true) : sizeW (Txt.split z y) = z.length + 1 := by
  have e := TL.split_spl z y (by rw [hy]; simp) (TL.kind_ok hk)
  rw [hy] at e
  have h := spl_size (c0 := c0) (TL.tl z) []
  rw [← e] at h
  unfold sizeW
  have e1 : ((Txt.split z y).map TL.tl).map (·.length) = (Txt.split z y).map (·.length) := by
    rw [List.map_map]
    exact List.map_congr_left fun x _ => (TL.len_tl x).symm
  rw [e1, List.length_map, ← TL.len_tl] at h
  simpa using h
theorem sizeW_td (ws : List Str) (i j : Nat) (h : i ≤ j) : sizeW (ws.take i) + sizeW (ws.drop j) ≤ sizeW ws := by
  have e1 : sizeW ws = sizeW (ws.take i) + sizeW (ws.drop i) := by rw [← sizeW_app, List.take_append_drop]
  have e2 : sizeW (ws.drop i) = sizeW ((ws.drop i).take (j - i)) + sizeW (ws.drop j) := by
    rw [← sizeW_app]
    have : ws.drop j = (ws.drop i).drop (j - i) := by rw [List.drop_drop]; congr 1; omega
    rw [this, List.take_append_drop]
  omega
theorem sizeW_at {ws : List Str} {i : Nat} {w : Str} (h : ws[i]? = some w) : sizeW (ws.take i) + (w.length + 1) + sizeW (ws.drop (i + 1)) = sizeW ws := by
  obtain ⟨b1, b2⟩ := List.getElem?_eq_some_iff.mp h
  have e : ws = ws.take i ++ ([w] ++ ws.drop (i + 1)) := by
    conv => lhs; rw [← List.take_append_drop i ws, List.drop_eq_getElem_cons b1, b2]
    rfl
  have e2 : sizeW [w] = w.length + 1 := by simp [sizeW]
  conv => rhs; rw [e, sizeW_app, sizeW_app, e2]
  omega
theorem joinL_ltY {S : List Nat} {b : Nat} (hS : ∀ c ∈ S, c < b) {ps : List (List Nat)} (h : ∀ p ∈ ps, ∀ c ∈ p, c < b) : ∀ c ∈ TL.joinL S ps, c < b := fun c hc => by
  rcases joinL_mem hc with hc | ⟨p, hp, hc⟩
  · exact hS c hc
  · exact h p hp c hc
theorem join_sOk {y : Str} {c0 : Nat} (hy : TL.tl y = [c0]) (hc : c0 < 0x110000) {ws : List Str} {k : Nat} (hw : ∀ w ∈ ws, ∀ c ∈ TL.tl w, c < 0x110000) (hs : sizeW ws ≤ k) : sOk k (Txt.join y ws) := by
  refine ⟨Nat.le_trans (join_len (by rw [TL.len_tl, hy]; rfl) ws) hs, ?_⟩
  show ∀ c ∈ TL.tl (Txt.join y ws), c < 0x110000
  rw [TL.join_eq, TL.tl_join]
  refine joinL_ltY (by rw [hy]; intro c h; rw [List.mem_singleton.mp h]; exact hc) fun p hp => ?_
  obtain ⟨w, h, rfl⟩ := List.mem_map.mp hp
  exact hw w h
section
variable {P : Program} {w : World} {K : PySem.W.Frag} {mg : Str → Option Value} {base : Heap} {fN : Addr}
abbrev NBT : List Str := ["m", "text_so", "more", "at", "way", "sign", "lines", "spot", "there", "words", "place"]
theorem scBT : FnScope NBT ["m", "text_so", "more"] (defScope sBentT) := ⟨rfl, rfl, rfl, by decide +kernel, rfl, by decide +kernel, by decide +kernel⟩
theorem keepL {H H' : Hp} {m l l' p : Addr} {n : Nat} {xs : List V} (M : Mch H m l n) (f : Fr m l l' H H') (h : H p = some (.lst xs)) (nl : p ≠ l) : H' p = some (.lst xs) ∧ p ≠ l' := by
  have nm : p ≠ m := by
    obtain ⟨c, cs, ls, z, h1, _⟩ := M.ex
    exact ne_of h h1 (fun e => nomatch e)
  exact ⟨f.keep _ _ h nm nl, (M.step f).ne _ _ h nl⟩
def spBT : Sp := fun vs H Q _ => ∃ (m l aM : Addr) (n : Nat) (z : Str) (ms : List Str) (b : Nat), vs = [.ref m, .str z, .ref aM] ∧ Mch H m l n ∧ n < 600000 ∧ H aM = some (.lst (ms.map V.str)) ∧ aM ≠ l ∧ ms ≠ [] ∧ ms.length ≤ 100 ∧ (∀ y ∈ ms, sOk 16 y) ∧ sOk b z ∧ b ≤ 90000 ∧
  ∀ (z' : Str) (l' : Addr) (H' : Hp), sOk (2 * b + 40) z' → Mch H' m l' (n + 9) → Fr m l l' H H' → Q (.str z') H'
def signs15 : Str := " \n0123916,-+abz"
theorem signs_ok : signs15.cps.toList.length = 15 ∧ ∀ c ∈ signs15.cps.toList, c < 0x110000 := by decide +kernel
theorem ok_bt {f : Addr} {fd fdN : FuncData} (F : Fun K "_law_bent_text" "_law_bent_text" sBentT f fd) (T : Txt mg) (gN : mg "_law_next" = some (.ref fN)) (FN : Fun K "_law_next" "_law_next" sNext fN fdN) (bN : Binds K fdN ["m", "many"] []) : FnOk P w K mg base CX0 2 f fd ["m", "text_so", "more"] spBT := by
  have GN : FnOk P w K mg base CX0 1 fN fdN ["m", "many"] spNext := ok_next FN T
  refine F.ok scBT (fun vs H Q E h => ?_) (fun cdv A outer s H vs Q E hr h => ?_)
  · obtain ⟨m, l, aM, n, z, ms, b, rfl, _⟩ := h
    rfl
  obtain ⟨m, l, aM, n, z, ms, b, rfl, M, hn, hM, nM, mne, ml, mok, hz, hb, q⟩ := h
  refine ⟨_, pss_cons (ps_par (i := 3) (j := 4) (by rfl) scBT.nd rfl rfl (by decide) rfl rfl (pa_cons (pe_call GN hr (by rfl) gN FN.kp bN .nil pass0 (pa_cons (pv 0) (pa_cons (pe_op op_add (pe_callB call_len_str (by rfl) T.len PySem.boot_len (pa_cons (pv 1) pa_nil)) pe_int) pa_nil))) (pa_cons (pe_call GN hr (by rfl) gN FN.kp bN .nil pass0 (pa_cons (pv 0) (pa_cons pe_int pa_nil))) pa_nil)) (by rfl))
    (pss_cons (ps_set (i := 5) scBT.nd rfl (by first | exact Or.inl rfl | exact Or.inr rfl) (pe_ix ix_str pe_str (pe_call GN hr (by rfl) gN FN.kp bN .nil pass0 (pa_cons (pv 0) (pa_cons pe_int pa_nil))) (fun _ _ => rfl)))
    (pss_cons (ps_if (pt_cmpR op_lt (pv 4) pe_int (nomark _)) (pss_one (ps_ret (pe_op op_add_str (pe_op op_add_str (pe_slice sl_str (pv 1) po_none (po_some (pv 3))) (pe_ix (show IxR _ (rIxL K) from ix_list) (pe_lst (pa_cons (pv 5) (pa_cons (pv 5) (pa_cons pe_str pa_nil)))) (pv 4) (fun _ _ => rfl)))
      (pe_slice sl_str (pv 1) (po_some (pe_op op_add (pv 3) (pe_callTy call_int1 (by rfl) T.int (by decide +kernel) (pa_cons (pe_cmpR op_gt (pv 4) pe_int (nomark _)) pa_nil)))) po_none)))) pss_nil)
    (pss_cons (ps_set (i := 6) scBT.nd rfl (by first | exact Or.inl rfl | exact Or.inr rfl) (pe_split (pv 1) pe_str))
    (pss_cons (ps_par (i := 7) (j := 8) (by rfl) scBT.nd rfl rfl (by decide) rfl rfl (pa_cons (pe_call GN hr (by rfl) gN FN.kp bN .nil pass0 (pa_cons (pv 0) (pa_cons (pe_callB call_len_seq (by rfl) T.len PySem.boot_len (pa_cons (pv 6) pa_nil)) pa_nil))) (pa_cons (pe_call GN hr (by rfl) gN FN.kp bN .nil pass0 (pa_cons (pv 0) (pa_cons (pe_callB call_len_seq (by rfl) T.len PySem.boot_len (pa_cons (pv 6) pa_nil)) pa_nil))) pa_nil)) (by rfl))
    (pss_cons (ps_if (pt_cmpR op_eq (pv 4) pe_int (nomark _)) (pss_one (ps_ret (pe_join pe_str (pe_op op_cat (pe_slice sl_list (pv 6) po_none (po_some (pv 7))) (pe_slice sl_list (pv 6) (po_some (pe_op op_add (pv 7) pe_int)) po_none))))) pss_nil)
    (pss_cons (ps_if (pt_cmpR op_eq (pv 4) pe_int (nomark _)) (pss_one (ps_ret (pe_join pe_str (pe_slice sl_list (pv 6) po_none (po_some (pv 7)))))) pss_nil)
    (pss_cons (ps_if (pt_cmpR op_lt (pv 4) pe_int (nomark _)) (pss_one (ps_ret (pe_join pe_str (pe_op op_cat (pe_op op_cat (pe_slice sl_list (pv 6) po_none (po_some (pv 7))) (pe_lst (pa_cons (pe_ix (show IxR _ (rIxL K) from ix_list) (pv 6) (pv 8) (fun _ _ => rfl)) pa_nil))) (pe_slice sl_list (pv 6) (po_some (pe_op op_add (pv 7) (pe_call GN hr (by rfl) gN FN.kp bN .nil pass0 (pa_cons (pv 0) (pa_cons pe_int pa_nil))))) po_none))))) pss_nil)
    (pss_cons (ps_set (i := 9) scBT.nd rfl (by first | exact Or.inl rfl | exact Or.inr rfl) (pe_split (pe_ix (show IxR _ (rIxL K) from ix_list) (pv 6) (pv 7) (fun _ _ => rfl)) pe_str))
    (pss_cons (ps_set (i := 10) scBT.nd rfl (by first | exact Or.inl rfl | exact Or.inr rfl) (pe_call GN hr (by rfl) gN FN.kp bN .nil pass0 (pa_cons (pv 0) (pa_cons (pe_callB call_len_seq (by rfl) T.len PySem.boot_len (pa_cons (pv 9) pa_nil)) pa_nil))))
    (pss_cons (ps_set (i := 9) scBT.nd rfl (by first | exact Or.inl rfl | exact Or.inr rfl) (pe_op op_cat (pe_op op_cat (pe_slice sl_list (pv 9) po_none (po_some (pv 10))) (pe_lst (pa_cons (pe_ix (show IxR _ (rIxL K) from ix_list) (pv 2) (pe_call GN hr (by rfl) gN FN.kp bN .nil pass0 (pa_cons (pv 0) (pa_cons (pe_callB call_len_seq (by rfl) T.len PySem.boot_len (pa_cons (pv 2) pa_nil)) pa_nil))) (fun _ _ => rfl)) pa_nil)))
        (pe_slice sl_list (pv 9) (po_some (pe_op op_add (pv 10) (pe_call GN hr (by rfl) gN FN.kp bN .nil pass0 (pa_cons (pv 0) (pa_cons pe_int pa_nil))))) po_none)))
    (pss_one (ps_ret (pe_join pe_str (pe_op op_cat (pe_op op_cat (pe_slice sl_list (pv 6) po_none (po_some (pv 7))) (pe_lst (pa_cons (pe_join pe_str (pv 9)) pa_nil))) (pe_slice sl_list (pv 6) (po_some (pe_op op_add (pv 7) pe_int)) po_none))))))))))))))), ?_⟩
  have lz := hz.1
  have big1 : ∀ n, n ≤ 200000 → n < sizeLine := fun n h => by rw [sizeLine_eq]; omega
  obtain ⟨s1, s2, s3⟩ := split_ok (y := newl) (by rw [nl_tl]; simp) (by decide +kernel) hz
  have sz := split_size (z := z) (y := newl) nl_tl (by decide +kernel)
  obtain ⟨L, eL⟩ : ∃ L, L = Txt.split z newl := ⟨_, rfl⟩
  rw [← eL] at s1 s2 s3 sz
  have lL : L.length ≠ 0 := fun e => s2 (List.length_eq_zero_iff.mp e)
  have low : ∀ w ∈ L, ∀ c ∈ TL.tl w, c < 0x110000 := fun w h => (s3 w h).2
  refine ⟨_, rfl, _, rfl, z, rfl, (by have := big1 z.length (by omega); omega), _, _, rfl, rfl, m, l, n, _, rfl, M, by omega, by omega, by omega, fun r3 l1 H1 a0 a1 M1 f1 => ?_⟩
  have F1 := f1
  obtain ⟨hM1, nM1⟩ := keepL M f1 hM nM
  refine ⟨_, rfl, m, l1, n + 1, 10, rfl, M1, by omega, by decide, by decide, fun r4 l2 H2 b0 b1 M2 f2 => ⟨_, _, rfl, ?_⟩⟩
  obtain ⟨hM2, nM2⟩ := keepL M1 f2 hM1 nM1
  have F2 := F1.trans f2
  refine ⟨_, rfl, m, l2, n + 1 + 1, 15, rfl, M2, by omega, by decide, by decide, fun r5 l3 H3 c0 c1 M3 f3 => ?_⟩
  obtain ⟨hM3, nM3⟩ := keepL M2 f3 hM2 nM2
  have F3 := F2.trans f3
  obtain ⟨cc, hcc, occ⟩ : ∃ cc, atI signs15.cps.toList r5 = some cc ∧ cc < 0x110000 := by
    obtain ⟨j, rfl⟩ : ∃ j : Nat, r5 = (j : Int) := ⟨r5.toNat, by omega⟩
    have hj : j < signs15.cps.toList.length := by rw [signs_ok.1]; omega
    exact ⟨_, atI_nat (List.getElem?_eq_getElem hj), signs_ok.2 _ (List.getElem_mem hj)⟩
  refine ⟨signs15, r5, cc, rfl, rfl, (by decide), hcc, ?_⟩
  refine ⟨_, rfl, _, _, rfl, rfl, _, rfl, ?_⟩
  by_cases hw3 : r4 < 3
  · refine ifT (decide_eq_true hw3) ?_
    refine ⟨_, rfl, noPart ⟨_, rfl, _, rfl, z, rfl, (by have := big1 z.length (by omega); omega), ?_⟩⟩
    refine ⟨_, rfl, _, rfl, (by show 3 ≤ sizeLine; decide), fun p hp => ?_⟩
    obtain ⟨y, hy, oy⟩ : ∃ y : Str, atI ([V.str ⟨#[cc]⟩, .str ⟨#[cc]⟩, .str ""] : List V) r4 = some (.str y) ∧ sOk 1 y := by
      obtain ⟨jj, rfl⟩ : ∃ j : Nat, r4 = (j : Int) := ⟨r4.toNat, by omega⟩
      match jj, (show jj < 3 by omega) with
      | 0, _ => exact ⟨_, atI_nat rfl, sOk.sign occ⟩
      | 1, _ => exact ⟨_, atI_nat rfl, sOk.sign occ⟩
      | 2, _ => exact ⟨_, atI_nat rfl, by decide, by decide⟩
    have ok1 := hz.cut none (some r3)
    have ly := oy.1
    have l1 := ok1.1
    refine ⟨_, rfl, p, _, r4, .str y, rfl, rfl, SqL.of upd_same, hy, _, y, rfl, rfl, (by have := big1 (b + 1) (by omega); omega), ?_⟩
    refine ⟨_, rfl, _, rfl, _, rfl, _, _, rfl, rfl, .inr ⟨_, rfl, ?_⟩⟩
    refine ⟨_, _, rfl, rfl, _, rfl, noPart ⟨z, rfl, (by have := big1 z.length (by omega); omega), _, _, rfl, rfl, (by have h2 := (hz.cut (some (r3 + if decide (0 < r4) = true then 1 else 0)) none).1; rw [Str.length_append]; have := big1 (b + 1 + b) (by omega); omega), ?_⟩⟩
    exact q _ l3 _ (((ok1.app oy).app (hz.cut _ none)).mono (by omega)) ((M3.same (Same.upd hp)).mono (by omega)) (F3.junk hp)
  refine ifF (decide_eq_false hw3) ?_
  refine ⟨_, rfl, ⟨z, rfl⟩, z, newl, rfl, rfl, (by decide), (by have := big1 (z.length + 2) (by omega); omega), fun pL hpL => ?_⟩
  rw [← eL]
  have M4 := M3.same (Same.upd (o := .lst (L.map V.str)) hpL)
  have F4 := F3.junk (o := .lst (L.map V.str)) hpL
  have gL4 := upd_same (H := H3) (a := pL) (o := .lst (L.map V.str))
  have hM4 := (Same.upd (o := .lst (L.map V.str)) hpL) _ _ hM3
  have nL4 := (M3.ne hpL).2
  generalize upd H3 pL (.lst (L.map V.str)) = H4 at M4 F4 gL4 hM4 ⊢
  have lLs : (L.map V.str).length = L.length := List.length_map ..
  refine ⟨_, rfl, _, rfl, pL, _, rfl, .inl (SqL.of gL4), m, l3, n + 1 + 1 + 1, _, rfl, M4, by omega, by omega, by omega, fun r7 l5 H5 d0 d1 M5 f5 => ?_⟩
  obtain ⟨gL5, nL5⟩ := keepL M4 f5 gL4 nL4
  obtain ⟨hM5, nM5⟩ := keepL M4 f5 hM4 nM3
  have F5 := F4.trans f5
  refine ⟨_, rfl, _, rfl, pL, _, rfl, .inl (SqL.of gL5), m, l5, n + 1 + 1 + 1 + 1, _, rfl, M5, by omega, by omega, by omega, fun r8 l6 H6 e0 e1 M6 f6 => ⟨_, _, rfl, ?_⟩⟩
  obtain ⟨gL6, nL6⟩ := keepL M5 f6 gL5 nL5
  obtain ⟨hM6, nM6⟩ := keepL M5 f6 hM5 nM5
  have F6 := F5.trans f6
  rw [lLs] at d1 e1
  obtain ⟨i7, rfl⟩ : ∃ j : Nat, r7 = (j : Int) := ⟨r7.toNat, by omega⟩
  obtain ⟨i8, rfl⟩ : ∃ j : Nat, r8 = (j : Int) := ⟨r8.toNat, by omega⟩
  have hi7 : i7 < L.length := by omega
  have hi8 : i8 < L.length := by omega
  obtain ⟨w7, hw7⟩ : ∃ w, L[i7]? = some w := ⟨_, List.getElem?_eq_getElem hi7⟩
  obtain ⟨w8, hw8⟩ : ∃ w, L[i8]? = some w := ⟨_, List.getElem?_eq_getElem hi8⟩
  have z7 := sizeW_at hw7
  have z8 := sizeW_at hw8
  have cT : cutV (L.map V.str) none (some (i7 : Int)) = (L.take i7).map V.str := by
    rw [List.map_take]
    exact cut_to (xs := L.map V.str) (i := i7) (by rw [lLs]; omega)
  have cD : ∀ k : Nat, cutV (L.map V.str) (some (k : Int)) none = (L.drop k).map V.str := fun k => by
    rw [List.map_drop]
    exact cut_all (xs := L.map V.str) (i := k)
  have lowT : ∀ i, ∀ w ∈ L.take i, ∀ c ∈ TL.tl w, c < 0x110000 := fun i w h => low w (List.mem_of_mem_take h)
  have lowD : ∀ i, ∀ w ∈ L.drop i, ∀ c ∈ TL.tl w, c < 0x110000 := fun i w h => low w (List.mem_of_mem_drop h)
  have nlt : (10 : Nat) < 0x110000 := by decide
  have szb : ∀ ws : List Str, sizeW ws ≤ 200000 → (ws.map (·.length)).sum + ws.length * newl.length ≤ 16777216 := fun ws h => by
    have e1 : newl.length = 1 := by decide
    unfold sizeW at h
    rw [e1, Nat.mul_one]; omega
  have fin : ∀ (ws : List Str) (l' : Addr) (H' : Hp) (k : Nat), (∀ w ∈ ws, ∀ c ∈ TL.tl w, c < 0x110000) → sizeW ws ≤ 2 * b + 40 → Mch H' m l' k → k ≤ n + 9 → Fr m l l' H H' → Q (.str (Txt.join newl ws)) H' := fun ws l' H' k h1 h2 h3 h4 h5 =>
    q _ l' H' (join_sOk nl_tl nlt h1 h2) (h3.mono h4) h5
  -- a line out
  refine ⟨_, rfl, rfl, _, rfl, ?_⟩
  by_cases w3 : r4 = 3
  · refine ifT (decide_eq_true (by rw [w3])) ?_
    refine ⟨⟨newl, rfl⟩, _, rfl, noPart ⟨_, rfl, _, rfl, pL, _, rfl, SqL.of gL6, fun p hp => ?_⟩⟩
    rw [cT]
    have sA := Same.upd (o := .lst ((L.take i7).map V.str)) hp
    refine ⟨_, rfl, _, rfl, _, _, rfl, rfl, _, rfl, noPart ⟨pL, _, rfl, SqL.of (sA _ _ gL6), fun p2 hp2 => ?_⟩⟩
    rw [show cutV (L.map V.str) (some ((i7 : Int) + 1)) none = (L.drop (i7 + 1)).map V.str from cD (i7 + 1)]
    have sB := Same.upd (o := .lst ((L.drop (i7 + 1)).map V.str)) hp2
    have td := sizeW_td L i7 (i7 + 1) (Nat.le_succ _)
    refine ⟨p, p2, _, _, rfl, rfl, sB _ _ upd_same, upd_same, (by rw [List.length_map, List.length_map, List.length_take, List.length_drop]; have := big1 (b + 1) (by omega); omega), fun p3 hp3 => ?_⟩
    have sC := Same.upd (o := .lst ((L.take i7).map V.str ++ (L.drop (i7 + 1)).map V.str)) hp3
    refine ⟨newl, p3, L.take i7 ++ L.drop (i7 + 1), rfl, rfl, .inl (SqL.of (by rw [upd_same, List.map_append])), szb _ (by rw [sizeW_app]; omega), ?_⟩
    refine fin _ l6 _ _ (fun w h => (List.mem_append.mp h).elim (lowT _ w) (lowD _ w)) (by rw [sizeW_app]; omega) (((M6.same sA).same sB).same sC) (by omega) (((F6.junk hp).junk hp2).junk hp3)
  refine ifF (decide_eq_false (fun e => w3 (V.int.inj e))) ?_
  refine ⟨_, rfl, rfl, _, rfl, ?_⟩
  by_cases w4 : r4 = 4
  · refine ifT (decide_eq_true (by rw [w4])) ?_
    refine ⟨⟨newl, rfl⟩, _, rfl, noPart ⟨_, rfl, _, rfl, pL, _, rfl, SqL.of gL6, fun p hp => ?_⟩⟩
    rw [cT]
    have sA := Same.upd (o := .lst ((L.take i7).map V.str)) hp
    refine ⟨newl, p, L.take i7, rfl, rfl, .inl (SqL.of upd_same), szb _ (by omega), ?_⟩
    exact fin _ l6 _ _ (lowT _) (by omega) (M6.same sA) (by omega) (F6.junk hp)
  refine ifF (decide_eq_false (fun e => w4 (V.int.inj e))) ?_
  refine ⟨_, rfl, _, _, rfl, rfl, _, rfl, ?_⟩
  by_cases w7' : r4 < 7
  · refine ifT (decide_eq_true w7') ?_
    refine ⟨⟨newl, rfl⟩, _, rfl, noPart ⟨_, rfl, _, rfl, pL, _, rfl, SqL.of gL6, fun p hp => ?_⟩⟩
    rw [cT]
    have sA := Same.upd (o := .lst ((L.take i7).map V.str)) hp
    have gA := upd_same (H := H6) (a := p) (o := .lst ((L.take i7).map V.str))
    have gLA := sA _ _ gL6
    have MA := M6.same sA
    have FA := F6.junk (o := .lst ((L.take i7).map V.str)) hp
    generalize upd H6 p (.lst ((L.take i7).map V.str)) = HA at gA gLA MA FA ⊢
    refine ⟨_, rfl, _, rfl, pL, _, (i8 : Int), .str w8, rfl, rfl, SqL.of gLA, atI_nat (by rw [List.getElem?_map, hw8]; rfl), (by show 1 ≤ sizeLine; decide), fun p2 hp2 => ?_⟩
    have sB := Same.upd (o := .lst [V.str w8]) hp2
    refine ⟨p, p2, _, _, rfl, rfl, sB _ _ gA, upd_same, (by rw [List.length_map, List.length_take]; show _ + 1 ≤ _; have := big1 (b + 2) (by omega); omega), fun p3 hp3 => ?_⟩
    have gLB := sB _ _ gLA
    have MB := MA.same sB
    have FB := FA.junk (o := .lst [V.str w8]) hp2
    generalize upd HA p2 (.lst [V.str w8]) = HB at hp3 gLB MB FB ⊢
    have sC := Same.upd (o := .lst ((L.take i7).map V.str ++ [V.str w8])) hp3
    have gC := upd_same (H := HB) (a := p3) (o := .lst ((L.take i7).map V.str ++ [V.str w8]))
    have gLC := sC _ _ gLB
    have MC := MB.same sC
    have FC := FB.junk (o := .lst ((L.take i7).map V.str ++ [V.str w8])) hp3
    have n3 := (MB.ne hp3).2
    generalize upd HB p3 (.lst ((L.take i7).map V.str ++ [V.str w8])) = HC at gC gLC MC FC ⊢
    refine ⟨_, rfl, _, rfl, _, rfl, m, l6, _, 2, rfl, MC, by omega, by decide, by decide, fun r l7 HD r0 r1 MD fD => ?_⟩
    obtain ⟨gCD, nCD⟩ := keepL MC fD gC n3
    obtain ⟨gLD, _⟩ := keepL MC fD gLC nL6
    have FD := FC.trans fD
    obtain ⟨jr, rfl⟩ : ∃ j : Nat, r = (j : Int) := ⟨r.toNat, by omega⟩
    refine ⟨_, _, rfl, rfl, _, rfl, noPart ⟨pL, _, rfl, SqL.of gLD, fun p4 hp4 => ?_⟩⟩
    rw [show cutV (L.map V.str) (some ((i7 : Int) + (jr : Int))) none = (L.drop (i7 + jr)).map V.str from cD (i7 + jr)]
    have sE := Same.upd (o := .lst ((L.drop (i7 + jr)).map V.str)) hp4
    have td := sizeW_td L i7 (i7 + jr) (Nat.le_add_right ..)
    refine ⟨p3, p4, _, _, rfl, rfl, sE _ _ gCD, upd_same, (by rw [List.length_append, List.length_map, List.length_map, List.length_take, List.length_drop]; show _ + 1 + _ ≤ _; have := big1 (b + b + 3) (by omega); omega), fun p5 hp5 => ?_⟩
    have sG := Same.upd (o := .lst (((L.take i7).map V.str ++ [V.str w8]) ++ (L.drop (i7 + jr)).map V.str)) hp5
    have e8 : sizeW [w8] = w8.length + 1 := by simp [sizeW]
    refine ⟨newl, p5, (L.take i7 ++ [w8]) ++ L.drop (i7 + jr), rfl, rfl, .inl (SqL.of (by rw [upd_same, List.map_append, List.map_append]; rfl)), szb _ (by rw [sizeW_app, sizeW_app, e8]; omega), ?_⟩
    refine fin _ l7 _ _ (fun w h => ?_) (by rw [sizeW_app, sizeW_app, e8]; omega) ((MD.same sE).same sG) (by omega) ((FD.junk hp4).junk hp5)
    rcases List.mem_append.mp h with h | h
    · rcases List.mem_append.mp h with h | h
      · exact lowT _ w h
      · rw [List.mem_singleton.mp h]; exact low w8 (List.mem_of_getElem? hw8)
    · exact lowD _ w h
  refine ifF (decide_eq_false w7') ?_
  -- a word
  have o7 := s3 w7 (List.mem_of_getElem? hw7)
  have l7 := o7.1
  obtain ⟨u1, u2, u3⟩ := split_ok (y := blank) (by rw [bl_tl]; simp) (by decide +kernel) o7
  have uz := split_size (z := w7) (y := blank) bl_tl (by decide +kernel)
  refine ⟨_, rfl, _, rfl, pL, _, (i7 : Int), .str w7, rfl, rfl, SqL.of gL6, atI_nat (by rw [List.getElem?_map, hw7]; rfl), ⟨w7, rfl⟩, w7, blank, rfl, rfl, (by decide), (by have := big1 (w7.length + 2) (by omega); omega), fun pW hpW => ?_⟩
  obtain ⟨W, eW⟩ : ∃ W, W = Txt.split w7 blank := ⟨_, rfl⟩
  rw [← eW] at u1 u2 u3 uz ⊢
  have lW0 : W.length ≠ 0 := fun e => u2 (List.length_eq_zero_iff.mp e)
  have lowW : ∀ w ∈ W, ∀ c ∈ TL.tl w, c < 0x110000 := fun w h => (u3 w h).2
  have sW := Same.upd (o := .lst (W.map V.str)) hpW
  have gW7 := upd_same (H := H6) (a := pW) (o := .lst (W.map V.str))
  have gL7 := sW _ _ gL6
  have hM7 := sW _ _ hM6
  have M7 := M6.same sW
  have F7 := F6.junk (o := .lst (W.map V.str)) hpW
  have nW7 := (M6.ne hpW).2
  generalize upd H6 pW (.lst (W.map V.str)) = H7 at gW7 gL7 hM7 M7 F7 ⊢
  have lWs : (W.map V.str).length = W.length := List.length_map ..
  refine ⟨_, rfl, _, rfl, pW, _, rfl, .inl (SqL.of gW7), m, l6, _, _, rfl, M7, by omega, by omega, by omega, fun r10 l8 H8 h0 h1 M8 f8 => ?_⟩
  obtain ⟨gW8, nW8⟩ := keepL M7 f8 gW7 nW7
  obtain ⟨gL8, nL8⟩ := keepL M7 f8 gL7 nL6
  obtain ⟨hM8, nM8⟩ := keepL M7 f8 hM7 nM6
  have F8 := F7.trans f8
  rw [lWs] at h1
  obtain ⟨i10, rfl⟩ : ∃ j : Nat, r10 = (j : Int) := ⟨r10.toNat, by omega⟩
  have cW : cutV (W.map V.str) none (some (i10 : Int)) = (W.take i10).map V.str := by
    rw [List.map_take]
    exact cut_to (xs := W.map V.str) (i := i10) (by rw [lWs]; omega)
  have dW : ∀ k : Nat, cutV (W.map V.str) (some (k : Int)) none = (W.drop k).map V.str := fun k => by
    rw [List.map_drop]
    exact cut_all (xs := W.map V.str) (i := k)
  refine ⟨_, rfl, noPart ⟨_, rfl, _, rfl, pW, _, rfl, SqL.of gW8, fun p hp => ?_⟩⟩
  rw [cW]
  have sA := Same.upd (o := .lst ((W.take i10).map V.str)) hp
  have gA := upd_same (H := H8) (a := p) (o := .lst ((W.take i10).map V.str))
  have gWA := sA _ _ gW8
  have gLA := sA _ _ gL8
  have hMA := sA _ _ hM8
  have MA := M8.same sA
  have FA := F8.junk (o := .lst ((W.take i10).map V.str)) hp
  have nA := (M8.ne hp).2
  generalize upd H8 p (.lst ((W.take i10).map V.str)) = HA at gA gWA gLA hMA MA FA ⊢
  have lMs : (ms.map V.str).length = ms.length := List.length_map ..
  have lms0 : ms.length ≠ 0 := fun e => mne (List.length_eq_zero_iff.mp e)
  refine ⟨_, rfl, _, rfl, _, rfl, aM, _, rfl, .inl (SqL.of hMA), m, l8, _, _, rfl, MA, by omega, by omega, by omega, fun r l9 HB a0' a1' MB fB => ?_⟩
  obtain ⟨gAB, nAB⟩ := keepL MA fB gA nA
  obtain ⟨gWB, nWB⟩ := keepL MA fB gWA nW8
  obtain ⟨gLB, nLB⟩ := keepL MA fB gLA nL8
  obtain ⟨hMB, nMB⟩ := keepL MA fB hMA nM8
  have FB := FA.trans fB
  rw [lMs] at a1'
  obtain ⟨ir, rfl⟩ : ∃ j : Nat, r = (j : Int) := ⟨r.toNat, by omega⟩
  obtain ⟨y, hy⟩ : ∃ y, ms[ir]? = some y := ⟨_, List.getElem?_eq_getElem (by omega)⟩
  have oy := mok y (List.mem_of_getElem? hy)
  have ly := oy.1
  refine ⟨aM, _, (ir : Int), .str y, rfl, rfl, SqL.of hMB, atI_nat (by rw [List.getElem?_map, hy]; rfl), (by show 1 ≤ sizeLine; decide), fun p2 hp2 => ?_⟩
  have sB := Same.upd (o := .lst [V.str y]) hp2
  have tdW := sizeW_td W i10 i10 (Nat.le_refl _)
  have lWt : (W.take i10).length ≤ W.length := by rw [List.length_take]; omega
  refine ⟨p, p2, _, _, rfl, rfl, sB _ _ gAB, upd_same, (by rw [List.length_map]; show _ + 1 ≤ _; have := big1 (b + 2) (by omega); omega), fun p3 hp3 => ?_⟩
  have gWB2 := sB _ _ gWB
  have gLB2 := sB _ _ gLB
  have MB2 := MB.same sB
  have FB2 := FB.junk (o := .lst [V.str y]) hp2
  generalize upd HB p2 (.lst [V.str y]) = HC at hp3 gWB2 gLB2 MB2 FB2 ⊢
  have sC := Same.upd (o := .lst ((W.take i10).map V.str ++ [V.str y])) hp3
  have gC := upd_same (H := HC) (a := p3) (o := .lst ((W.take i10).map V.str ++ [V.str y]))
  have gWC := sC _ _ gWB2
  have gLC := sC _ _ gLB2
  have MC := MB2.same sC
  have FC := FB2.junk (o := .lst ((W.take i10).map V.str ++ [V.str y])) hp3
  have n3 := (MB2.ne hp3).2
  generalize upd HC p3 (.lst ((W.take i10).map V.str ++ [V.str y])) = HD at gC gWC gLC MC FC ⊢
  refine ⟨_, rfl, _, rfl, _, rfl, m, l9, _, 2, rfl, MC, by omega, by decide, by decide, fun rj l10 HE j0 j1 ME fE => ?_⟩
  obtain ⟨gCE, nCE⟩ := keepL MC fE gC n3
  obtain ⟨gWE, _⟩ := keepL MC fE gWC nWB
  obtain ⟨gLE, nLE⟩ := keepL MC fE gLC nLB
  have FE := FC.trans fE
  obtain ⟨jr, rfl⟩ : ∃ j : Nat, rj = (j : Int) := ⟨rj.toNat, by omega⟩
  refine ⟨_, _, rfl, rfl, _, rfl, noPart ⟨pW, _, rfl, SqL.of gWE, fun p4 hp4 => ?_⟩⟩
  rw [show cutV (W.map V.str) (some ((i10 : Int) + (jr : Int))) none = (W.drop (i10 + jr)).map V.str from dW (i10 + jr)]
  have sF := Same.upd (o := .lst ((W.drop (i10 + jr)).map V.str)) hp4
  have tdJ := sizeW_td W i10 (i10 + jr) (Nat.le_add_right ..)
  refine ⟨p3, p4, _, _, rfl, rfl, sF _ _ gCE, upd_same, (by rw [List.length_append, List.length_map, List.length_map, List.length_take, List.length_drop]; show _ + 1 + _ ≤ _; have := big1 (b + b + 3) (by omega); omega), fun p5 hp5 => ?_⟩
  have sG := Same.upd (o := .lst (((W.take i10).map V.str ++ [V.str y]) ++ (W.drop (i10 + jr)).map V.str)) hp5
  obtain ⟨V2, eV2⟩ : ∃ V2 : List Str, V2 = (W.take i10 ++ [y]) ++ W.drop (i10 + jr) := ⟨_, rfl⟩
  have eC : ((W.take i10).map V.str ++ [V.str y]) ++ (W.drop (i10 + jr)).map V.str = V2.map V.str := by rw [eV2, List.map_append, List.map_append]; rfl
  have ey : sizeW [y] = y.length + 1 := by simp [sizeW]
  have zV : sizeW V2 ≤ w7.length + 1 + 17 := by rw [eV2, sizeW_app, sizeW_app, ey]; omega
  have lowV : ∀ w ∈ V2, ∀ c ∈ TL.tl w, c < 0x110000 := fun w h => by
    rw [eV2] at h
    rcases List.mem_append.mp h with h | h
    · rcases List.mem_append.mp h with h | h
      · exact lowW w (List.mem_of_mem_take h)
      · rw [List.mem_singleton.mp h]; exact oy.2
    · exact lowW w (List.mem_of_mem_drop h)
  rw [eC] at sG ⊢
  have gV := upd_same (H := upd HE p4 (.lst ((W.drop (i10 + jr)).map V.str))) (a := p5) (o := .lst (V2.map V.str))
  have gLG := sG _ _ (sF _ _ gLE)
  have MG := (ME.same sF).same sG
  have FG := (FE.junk (o := .lst ((W.drop (i10 + jr)).map V.str)) hp4).junk (o := .lst (V2.map V.str)) hp5
  generalize upd (upd HE p4 (.lst ((W.drop (i10 + jr)).map V.str))) p5 (.lst (V2.map V.str)) = HG at gV gLG MG FG ⊢
  -- the text
  refine ⟨⟨newl, rfl⟩, _, rfl, noPart ⟨_, rfl, _, rfl, pL, _, rfl, SqL.of gLG, fun q1 hq1 => ?_⟩⟩
  rw [cT]
  have t1 := Same.upd (o := .lst ((L.take i7).map V.str)) hq1
  have k1 := upd_same (H := HG) (a := q1) (o := .lst ((L.take i7).map V.str))
  have gV1 := t1 _ _ gV
  have gL1 := t1 _ _ gLG
  have MH := MG.same t1
  have FH := FG.junk (o := .lst ((L.take i7).map V.str)) hq1
  generalize upd HG q1 (.lst ((L.take i7).map V.str)) = HH at k1 gV1 gL1 MH FH ⊢
  have bl1 : (32 : Nat) < 0x110000 := by decide
  have jw := join_sOk (y := blank) bl_tl bl1 lowV zV
  refine ⟨⟨blank, rfl⟩, _, rfl, blank, p5, V2, rfl, rfl, .inl (SqL.of gV1), ?_, (by show 1 ≤ sizeLine; decide), fun q2 hq2 => ?_⟩
  · have e1 : blank.length = 1 := by decide
    unfold sizeW at zV
    rw [e1, Nat.mul_one]; omega
  have t2 := Same.upd (o := .lst [V.str (Txt.join blank V2)]) hq2
  refine ⟨q1, q2, _, _, rfl, rfl, t2 _ _ k1, upd_same, (by rw [List.length_map, List.length_take]; show _ + 1 ≤ _; have := big1 (b + 2) (by omega); omega), fun q3 hq3 => ?_⟩
  have t3 := Same.upd (o := .lst ((L.take i7).map V.str ++ [V.str (Txt.join blank V2)])) hq3
  refine ⟨_, rfl, _, rfl, _, _, rfl, rfl, _, rfl, noPart ⟨pL, _, rfl, SqL.of (t3 _ _ (t2 _ _ gL1)), fun q4 hq4 => ?_⟩⟩
  rw [show cutV (L.map V.str) (some ((i7 : Int) + 1)) none = (L.drop (i7 + 1)).map V.str from cD (i7 + 1)]
  have t4 := Same.upd (o := .lst ((L.drop (i7 + 1)).map V.str)) hq4
  refine ⟨q3, q4, _, _, rfl, rfl, t4 _ _ upd_same, upd_same, (by rw [List.length_append, List.length_map, List.length_map, List.length_take, List.length_drop]; show _ + 1 + _ ≤ _; have := big1 (b + b + 3) (by omega); omega), fun q5 hq5 => ?_⟩
  have t5 := Same.upd (o := .lst (((L.take i7).map V.str ++ [V.str (Txt.join blank V2)]) ++ (L.drop (i7 + 1)).map V.str)) hq5
  have ej : sizeW [Txt.join blank V2] = (Txt.join blank V2).length + 1 := by simp [sizeW]
  have jl := jw.1
  refine ⟨newl, q5, (L.take i7 ++ [Txt.join blank V2]) ++ L.drop (i7 + 1), rfl, rfl, .inl (SqL.of (by rw [upd_same, List.map_append, List.map_append]; rfl)), szb _ (by rw [sizeW_app, sizeW_app, ej]; omega), ?_⟩
  refine fin _ l10 _ _ (fun w h => ?_) (by rw [sizeW_app, sizeW_app, ej]; omega) ((((MH.same t2).same t3).same t4).same t5) (by omega) ((((FH.junk hq2).junk hq3).junk hq4).junk hq5)
  rcases List.mem_append.mp h with h | h
  · rcases List.mem_append.mp h with h | h
    · exact lowT _ w h
    · rw [List.mem_singleton.mp h]; exact jw.2
  · exact lowD _ w h
end
end Ms
namespace Ms
open PySem PySem.Spec PyProof.Rows L2
/-! ### try: several clauses, each with a name, one of which catches -/
abbrev Clause : Type := Value × (Addr → Value → Option Addr → TS)
/-- the ends of a suite: behind it the clause's name is gone -/
def unnamed (i : Nat) (D : Ends) : Ends := { nx := fun σ' H' => D.nx (σ'.set i none) H', rt := D.rt, bk := fun σ' H' => D.bk (σ'.set i none) H', ct := fun σ' H' => D.ct (σ'.set i none) H' }
def wishes (K : PySem.W.Frag) (i : Nat) (D : Ends) : List Clause → WX
  | [] => fun _ _ _ _ => False
  | p :: r => fun cls d σ H => ∃ hit, PySem.W.exmOne K cls p.1 = some hit ∧ (hit = true → ∀ a, H a = none → p.2 a cls d (unnamed i D) (σ.set i (some (.ref a))) H) ∧ (hit = false → wishes K i D r cls d σ H)
inductive Clauses (X : Cx) (n : Str) : List ExceptHandler → List Clause → Prop
  | last : Clauses X n [] []
  | more {x : Str} {c : Value} {ts : Addr → Value → Option Addr → TS} {st : Stmt} {rest : List Stmt} {q q' : Pos} {hds : List ExceptHandler} {l : List Clause} (hc : Names X x c)
      (suite : ∀ (a : Addr) (oe : Obj) (cls : Value) (d : Option Addr) (pn : List (Addr × Obj)), Zc cls d oe → (∃ vs, oe.data = .fields vs) → PSs (X.suite a ((a, oe) :: pn)) (st :: rest) (ts a cls d)) (r : Clauses X n hds l) :
      Clauses X n (.ExceptHandler (some (.Name x q)) (some n) (st :: rest) q' :: hds) ((c, ts) :: l)
section
variable {X : Cx} {n : Str} {i : Nat} {body : List Stmt} {h₀ : ExceptHandler} {hds : List ExceptHandler} {l : List Clause} {pos : Pos} {tb : WX → TS}
theorem ps_try_list (hs : X.stack = X.env :: X.outer) (hf : X.env.frame = some X.env.locals) (hN : X.N.Nodup) (hi : X.N[i]? = some n) (hln : X.env.kindOf n = some .local)
    (hb : ∀ (W : WX) (pn : List (Addr × Obj)) (xe : Value → Shared → Prop), Takes (X.tr pn xe) W → PassesOwn (model X.prog X.w) X.A X.env xe → PSs (X.tr pn xe) body (tb W))
    (cl : Clauses X n (h₀ :: hds) l) : PS X (.Try body (h₀ :: hds) [] [] pos) (fun D σ H => tb (wishes X.K i D l) D σ H) := by
  constructor
  intro pins s σ H D I reads
  have good := I.ok
  have frames : X.A.frames = some (X.env :: X.outer) := good.frames.trans (by rw [hs])
  have caught : Takes (X.tr (X.pn ++ pins) (fun e s₁ => wpAny (model X.prog X.w) X.A (noteFrame e X.env) (fun _ s₂ => wpAny (model X.prog X.w) X.A (setFlight e none) (fun _ s₃ =>
      wpAny (model X.prog X.w) X.A (handleBy e X.env (h₀ :: hds)) (SP X pins D) X.xe s₃) X.xe s₂) X.xe s₁)) (wishes X.K i D l) := by
    intro u s' air
    obtain ⟨a, B, sI, pins', σ', H', cls, d, rfl, It, nb, up, sky, free, os, bare, wish⟩ := air
    have I' : Inv X pins σ' H' sI := It.ofTry good
    show wpAny (model X.prog X.w) X.A (noteFrame (.ref a) X.env) _ _ _
    refine Sky.land Zc.steady frames hf (by rw [← hs]; exact sky) fun g fl upg => ?_
    have Ig : Inv X pins σ' H' { s' with heap := g } := I'.landed nb fl.1 (up.trans upg) os bare
    obtain ⟨oe, vs, at_, zc, fields⟩ := fl.there
    have apart : a ∉ frs (X.env :: X.outer) := fun hm => by
      obtain ⟨_, o', e', nd⟩ := fl.2.2.1.mem hm
      cases at_.symm.trans e'
      exact nd _ fields
    have noLocals : a ≠ X.env.locals := fun z => apart (List.mem_filterMap.mpr ⟨X.env, List.mem_cons_self, by rw [hf, z]⟩)
    have noFrame : a ∉ X.fs := fun hm => by
      obtain ⟨env, he, q⟩ := List.mem_filterMap.mp hm
      exact apart (List.mem_filterMap.mpr ⟨env, List.mem_cons_of_mem _ he, q⟩)
    have Sg := Ig.suite at_ fields free noLocals noFrame
    have looks : PySem.W.Looks (model X.prog X.w) g (typeOf (.ref a)) cls := fun A Q E t k q => wpAny_typeOf_ref (k _ _ at_) (by rw [zc.1]; exact q)
    have all : ∀ {hds' : List ExceptHandler} {l' : List Clause}, Clauses X n hds' l' → wishes X.K i D l' cls d σ' H' → wpAny (model X.prog X.w) X.A (handleBy (.ref a) X.env hds') (SP X pins D) X.xe { s' with heap := g } := by
      intro hds' l' cs
      induction cs with
      | last => exact fun w => w.elim
      | @more x c ts st rest q q' hds2 l2 hc suite r ih =>
        rintro ⟨hit, eq, yes, no⟩
        refine wpAny_handleBy_cons (codeAny_handlers_test ?_) (fun z => nomatch z)
        have isIt := PySem.W.exm_one (M := model X.prog X.w) Ig.kIn looks eq
        have named : ∀ {Q : Value → Shared → Prop} {E : Value → Shared → Prop}, Q c { s' with heap := g } → wpAny (model X.prog X.w) (X.A.mark (some (.ref a))) (eval (.Name x q) X.env) Q E { s' with heap := g } := fun {Q E} k => by
          obtain ⟨h1, h2, h3⟩ := hc
          cases h3 with
          | inl h3 => exact ld_glob (X := X.suite a ((a, oe) :: (X.pn ++ pins))) Sg h1 h3 k h2
          | inr h3 => exact ld_blt (X := X.suite a ((a, oe) :: (X.pn ++ pins))) Sg h1 h3.1 h3.2.1 k h3.2.2 h2
        refine named (isIt.here ?_)
        cases hit with
        | false =>
          show wpAny _ X.A (handleBy (.ref a) X.env hds2) _ _ _
          exact ih (no rfl)
        | true =>
          refine codeAny_handlers_suite_as (HandSPX.lands_againZ fl fun g2 fl2 up2 => ?_)
          have I2 : Inv X pins σ' H' { s' with heap := g2 } := I'.landed nb fl2.1 ((up.trans upg).trans up2) os bare
          obtain ⟨oe2, vs2, at2, zc2, fields2⟩ := fl2.there
          have S2 := I2.suite at2 fields2 free noLocals noFrame
          refine store_ok (X := X.suite a ((a, oe2) :: (X.pn ++ pins))) (v := .ref a) S2 hN hi (.inl hln) rfl (fun s5 S5 => ?_) (.inr hln)
          refine wpAny_mono ((suite a oe2 cls d (X.pn ++ pins) zc2 ⟨_, fields2⟩).run [] s5 _ H' _ S5 (yes rfl a free)) (fun f s6 hsp => ?_) (fun _ _ z => z.elim)
          match f, hsp with
          | .ret u, ⟨v, _, _, S6, rv, k⟩ => exact gone_ok (S6.unsuite good) hN hi hln fun s7 I7 => ⟨v, _, _, I7, rv, k⟩
          | .next, ⟨_, _, S6, k⟩ => exact gone_ok (S6.unsuite good) hN hi hln fun s7 I7 => ⟨_, _, I7, k⟩
          | .brk, ⟨_, _, S6, k⟩ => exact gone_ok (S6.unsuite good) hN hi hln fun s7 I7 => ⟨_, _, I7, k⟩
          | .cont, ⟨_, _, S6, k⟩ => exact gone_ok (S6.unsuite good) hN hi hln fun s7 I7 => ⟨_, _, I7, k⟩
    exact all cl wish
  refine wpAny_Try_except (wpAny_mono ((hb _ _ _ caught PassesOwn.looking).run [] s σ H D (I.toTry _) reads) (fun f s1 hsp => ?_) fun _ _ z => z)
  match f, hsp with
  | .ret u, ⟨v, _, _, J, rv, k⟩ => exact ⟨v, _, _, J.ofTry good, rv, k⟩
  | .next, ⟨_, _, J, k⟩ => exact wpAny_execs_nil ⟨_, _, J.ofTry good, k⟩
  | .brk, ⟨_, _, J, k⟩ => exact ⟨_, _, J.ofTry good, k⟩
  | .cont, ⟨_, _, J, k⟩ => exact ⟨_, _, J.ofTry good, k⟩
end
end Ms
namespace Ms
open PySem PySem.Spec PyProof.Rows L2 LamX
/-! ### _law_caught(lambda: ..) -/
def rRepr1 : List V → Hp → VK → Prop := fun xs H Q => (xs = [.non] ∧ Q (.str "None") H) ∨ ∃ n : Nat, xs = [.int (n : Int)] ∧ n < 100 ∧ Q (.str (num n)) H
theorem call_repr1 {X : Cx} : CallR X (.builtin "repr") rRepr1 := by
  intro pins s σ H xs us Q I r h
  rcases h with ⟨rfl, q⟩ | ⟨n, rfl, hn, q⟩
  · obtain ⟨u, rfl, rx⟩ := vals1 r
    cases rx
    exact PySem.P.repr_of_none ⟨.str "None", H, I.tok _, ⟨_, rfl⟩, q⟩
  · obtain ⟨u, rfl, t, rfl⟩ := vals1 r
    exact PySem.P.repr_of_int (num_log n hn) ⟨.str (num n), H, I.tok _, ⟨_, rfl⟩, q⟩
def TT56 (CT : Addr) : (XK → Hp → VK → Prop) → Hp → VK → Prop := fun tl H Q => ∀ (H0 : Hp) (Ec : XK) (Qc : VK), Same H H0 →
  (∀ (dd : Addr) (H' : Hp), H' dd = some (.xd [("line", .non)]) → (∀ p, H' p = none → Q (.ref p) (upd H' p (.tup [.str "text", .str "None"]))) → Ec (.ref CT) (some dd) H') →
  (∀ (dd : Addr) (n : Nat) (H' : Hp), n < 100 → H' dd = some (.xd [("line", .int (n : Int))]) → (∀ p, H' p = none → Q (.ref p) (upd H' p (.tup [.str "text", .str (num n)]))) → Ec (.ref CT) (some dd) H') →
  (∀ (v : V) (H1 : Hp), (∀ p, H1 p = none → Q (.ref p) (upd H1 p (.lst [v]))) → Qc v H1) → tl Ec H0 Qc
abbrev NCa : List Str := ["call", "caught", "found", "e"]
theorem scCa : FnScope NCa ["call"] (defScope sCaught) := ⟨rfl, rfl, rfl, by decide +kernel, rfl, by decide +kernel, by decide +kernel⟩
structure RefT (K : PySem.W.Frag) (C : Addr) : Prop where
  low : XfC K C
  no : PySem.W.findIn K (.ref C) "line" = some none
section
variable {X : Cx} {CT g : Addr} {cdg : Value} {q : Str}
theorem caught_req (hrep : X.mg "repr" = none) (mT : X.mg "BadText" = some (.ref CT)) (xTT : PySem.W.exmOne X.K (.ref CT) (.ref CT) = some true) (RT : RefT X.K CT) :
    GivesTo X NCa "_law_caught" (defScope sCaught) g cdg (defBody sCaught) "call" q (TT56 CT) := by
  intro f c' s H Q tl act hc h
  refine ⟨_, pss_cons (ps_asg (pe_tup (pa_cons pe_non (pa_cons pe_non pa_nil))) (pg_tup rfl (pgs_cons (pg_name (i := 1) scCa.nd rfl (by first | exact Or.inl rfl | exact Or.inr rfl)) (pgs_cons (pg_name (i := 2) scCa.nd rfl (by first | exact Or.inl rfl | exact Or.inr rfl)) pgs_nil))))
    (pss_cons (ps_try_list (X := (cxOf C8.CX0 X.prog X.w X.K X.mg X.base NCa "_law_caught" (defScope sCaught) g cdg X.A X.stack s H C8.E0).nox) (i := 3) (n := "e")
      (tb := fun W D σ H1 => σ[0]? = some (some (.ref f)) ∧ H1 c' = some (CodeO c' q) ∧ tl (fun cls d H' => ∀ σ' : L2.St, σ'.length = 4 → W cls d σ' H') H1 (fun y H2 => gName 2 y σ H2 D.nx))
      rfl rfl scCa.nd rfl rfl (fun W pn xe tk _ => ?_)
      (.more (c := .ref CT) ⟨by rfl, by decide, .inl mT⟩ (fun a oe cls d pn hz hf => pss_one (ps_set (i := 1) scCa.nd rfl (by first | exact Or.inl rfl | exact Or.inr rfl) (pe_tup (pa_cons pe_str (pa_cons (pe_callB call_repr1 (by rfl) hrep (by decide +kernel) (pa_cons (pe_xf RT.low RT.no hz hf (pv 3)) pa_nil)) pa_nil)))))
      .last))
    (pss_one (ps_ret (pe_ifExp (pt_cmpR op_isN (pv 1) pe_non (nomark _)) (pe_lst (pa_cons (pv 2) pa_nil)) (pv 1))))), ?_⟩
  · refine ⟨fun pins s' σ H' D I h' => ?_⟩
    obtain ⟨h1, h2, h3⟩ := h'
    have tk' : Takes ((cxOf C8.CX0 X.prog X.w X.K X.mg X.base NCa "_law_caught" (defScope sCaught) g cdg X.A X.stack s H C8.E0).nox.tr pn xe) (fun cls d σ' H' => σ'.length = 4 → W cls d σ' H') := fun u s' ⟨a, B, sI, pins, σ, H, cls, d, e, I, nb, up, sky, na, os, ag, w⟩ =>
      tk u s' ⟨a, B, sI, pins, σ, H, cls, d, e, I, nb, up, sky, na, os, ag, w I.len⟩
    have hp := fun p1 p2 => act _ pn xe (fun cls d H' => ∀ σ' : L2.St, σ'.length = 4 → W cls d σ' H') p1 p2 tk' (fun cls d σ' H' e hl => e σ' hl)
    exact (pss_one (ps_set (i := 2) scCa.nd rfl (by first | exact Or.inl rfl | exact Or.inr rfl) (hp _ _))).run pins s' σ H' D I ⟨h1, h2, h3⟩
  · refine ⟨(by show 2 ≤ sizeLine; decide), fun TT hTT => ?_⟩
    have sT := Same.upd (o := .tup [V.non, .non]) hTT
    refine ⟨TT, _, rfl, .inl (.inl upd_same), rfl, _, _, rfl, _, _, rfl, rfl, ?_⟩
    refine ⟨rfl, sT _ _ hc, h _ _ _ sT (fun dd H' hdd k σ' hl => ?_) (fun dd n H' hn hdd k σ' hl => ?_) (fun v H1 k => ?_)⟩
    · match σ', hl with
      | [x0, x1, x2, x3], _ =>
        exact ⟨true, xTT, fun _ a na => ⟨_, rfl, rfl, rfl, dd, _, _, rfl, hdd, rfl, .inl ⟨rfl, (by show 2 ≤ sizeLine; decide), fun p hp => ⟨_, rfl, rfl, _, rfl, ifF rfl ⟨_, rfl, k p hp⟩⟩⟩⟩, fun z => nomatch z⟩
    · match σ', hl with
      | [x0, x1, x2, x3], _ =>
        exact ⟨true, xTT, fun _ a na => ⟨_, rfl, rfl, rfl, dd, _, _, rfl, hdd, rfl, .inr ⟨n, rfl, hn, (by show 2 ≤ sizeLine; decide), fun p hp => ⟨_, rfl, rfl, _, rfl, ifF rfl ⟨_, rfl, k p hp⟩⟩⟩⟩, fun z => nomatch z⟩
    · exact ⟨_, rfl, rfl, _, rfl, ifT rfl ⟨_, rfl, (by show 1 ≤ sizeLine; decide), fun p hp => k p hp⟩⟩
end
end Ms
namespace Ms
open PySem PySem.Spec PyProof.Rows L2 LamX StX
/-! ### _law_shown -/
abbrev lamQ : Str := "_law_shown.<locals>.<lambda>"
theorem FrT.extY {H H' : Hp} {p : Addr} {xs : List V} (e : ExtN H H') (h : FrT H p xs) : FrT H' p xs := by
  obtain ⟨ob, h, hd⟩ := h
  exact ⟨ob, e _ _ h (fun _ z => nomatch z), hd⟩
theorem Prs.extY {H H' : Hp} {as : List Addr} {ys : List (Str × Int)} (e : ExtN H H') (p : Prs H as ys) : Prs H' as ys :=
  Prs.same (fun b o hb h => by
    obtain ⟨y, i, h2⟩ := p.live b hb
    rw [h2] at h
    cases h
    exact e _ _ h2 (fun _ z => nomatch z)) p
theorem prs_noDiY (qs : List (Str × Int)) : noDi (.tuple (prD qs)) = true := by
  show noDiAll (prD qs) = true
  refine noDi_all fun x hx => ?_
  induction qs with
  | nil => cases hx
  | cons q qs ih =>
    have hx' : x ∈ PyData.tuple [.str q.1, .int q.2] :: prD qs := hx
    rcases List.mem_cons.mp hx' with rfl | h
    · rfl
    · exact ih h
def dueS (ys : List (Str × Int)) (d : PyData) : PyData := match d with
  | .str z => dueT (readR ys (linesOf z))
  | _ => .tuple [.str "text", .str "None"]
theorem readR_small {ys : List (Str × Int)} : ∀ {lss : List (List Str)} {n : Nat}, readR ys lss = .inl n → n < 100 := by
  have far : ∀ (many : Nat) (ps : List Plc) (k n : Nat), firstFar many k ps = some n → n < k + ps.length := by
    intro many ps
    induction ps with
    | nil => intro k n h; cases h
    | cons p ps ih =>
      intro k n h
      unfold firstFar at h
      split at h
      · cases h; simp only [List.length_cons]; omega
      · have := ih _ _ h; simp only [List.length_cons]; omega
  have rd : ∀ (lss : List (List Str)) (k : Nat) (acc : List Plc) (n : Nat), readP ys k acc lss = .inl n → acc.length ≤ 16 → n + acc.length ≤ k + 16 := by
    intro lss
    induction lss with
    | nil => intro k acc n h; cases h
    | cons ws r ih =>
      intro k acc n h ha
      rw [readP_one] at h
      split at h
      · cases h; omega
      · split at h
        · cases h; omega
        · have := ih _ _ _ h (by rw [List.length_append]; show acc.length + 1 ≤ 16; omega)
          rw [List.length_append] at this
          have e : ([] : List Plc).length = 0 := rfl
          simp only [List.length_cons, List.length_nil] at this
          omega
  intro lss n h
  unfold readR at h
  split at h
  · split at h
    · rename_i k hk
      have := rd _ _ _ _ hk (Nat.zero_le _)
      cases h
      simp only [List.length_nil] at this
      omega
    · rename_i ps hps
      have l16 := (readP_in _ _ _ _ hps (fun p h => nomatch h) (Nat.zero_le _)).2
      split at h
      · cases h; decide
      · split at h
        · rename_i k hk
          have := far _ _ _ _ hk
          cases h
          omega
        · cases h
  · cases h; decide
section
variable {P : Program} {w : World} {K : PySem.W.Frag} {mg : Str → Option Value} {base : Heap} {fCa fRd C CT f c Pt : Addr} {fdCa fdRd : FuncData}
abbrev NSh : List Str := ["spots", "text_so", "found"]
theorem scSh9 : FnScope NSh ["spots", "text_so"] (defScope sShown) := ⟨rfl, rfl, rfl, by decide +kernel, rfl, by decide +kernel, by decide +kernel⟩
def spSh (K : PySem.W.Frag) (Pt : Addr) : Sp := fun vs H Q _ => ∃ (m l aS : Addr) (as : List Addr) (ys : List (Str × Int)) (v : V) (d : PyData), vs = [.ref aS, v] ∧ FrT H aS (as.map V.ref) ∧ Prs H as ys ∧ SetOk ys ∧ Dq K H m l v d ∧ (∀ z, d = .str z → sOk 100000 z) ∧ Tabs [(Pt, lamQ)] H ∧
  ∀ v' H', ExtN H H' → Tabs [(Pt, lamQ)] H' → Dq K H' aS aS v' (dueS ys d) → Q v' H'
theorem ok_shown {fd : FuncData} (F : Fun K "_law_shown" "_law_shown" sShown f fd) (hc : fd.code = .ref c) (T : TxtX mg) (hrep : mg "repr" = none) (gT : mg "BadText" = some (.ref CT)) (xTT : PySem.W.exmOne K (.ref CT) (.ref CT) = some true) (RT : RefT K CT) (RC : ReqC K C)
    (gCa : mg "_law_caught" = some (.ref fCa)) (FCa : Fun K "_law_caught" "_law_caught" sCaught fCa fdCa) (bCa : Binds K fdCa ["call"] [])
    (gRd : mg "read_request" = some (.ref fRd)) (kRd : PySem.W.keepIn K (.ref fRd) = true) (bRd : Binds K fdRd ["settings", "text"] []) (GRd : FnOk P w K mg base (L2.CX P w) 8 fRd fdRd ["settings", "text"] (spRead K C CT))
    (TB : TabB base mg c Pt) : FnOk P w K mg base CX0 11 f fd ["spots", "text_so"] (spSh K Pt) := by
  obtain ⟨oc0, od0, kV0, doc0, pm0, an0, cdv0, ct0, osl0, efd0, lk0, hcd0⟩ := F.ex
  subst efd0
  obtain rfl : cdv0 = .ref c := hc
  obtain ⟨oc, od, kV, doc, pm, an, cdv, ct, osl, efd, lk, hcd⟩ := FCa.ex
  subst efd
  refine fn_of lk0 hcd0 scSh9 (fun vs H Q E h => ?_) (fun A outer s H vs Q E hr h => ?_)
  · obtain ⟨m, l, aS, as, ys, v, d, rfl, _⟩ := h
    rfl
  obtain ⟨m, l, aS, as, ys, v, d, rfl, hS, hp, so, hd, hz, tb, q⟩ := h
  refine ⟨_, pss_cons (ps_set (i := 2) scSh9.nd rfl (by first | exact Or.inl rfl | exact Or.inr rfl) (pe_lamcall (T := [(Pt, lamQ)]) (TT := TT56 CT) (c := c) (P := Pt) (k := 8) (t := fun E => tCall (spRead K C CT) [] E (tCons (tVar 0) (tCons (tVar 1) tNil))) (by rfl) gCa FCa.kp lk hcd bCa scCa rfl (Or.inl rfl)
          (caught_req hrep gT xTT RT) TB rfl (List.mem_singleton.mpr rfl) (fun p hp _ => by rw [List.mem_singleton.mp hp]; rfl) hr (lamS_by (sc := defScope sShown) (by decide +kernel)) rfl (fun _ _ _ _ _ => rfl)
          (fun A outer s H E f c' hr3 => pe_call GRd hr3 (by rfl) gRd kRd bRd .nil (passes_call (takes_of rfl rfl rfl rfl) fun _ _ _ _ h => h) (pa_cons (pv 0) (pa_cons (pv 1) pa_nil)))))
    (pss_cons (ps_if (pt_val (pe_callB call_isi (by rfl) T.isi PyProof.Rows.boot_isinstance (pa_cons (pv 2) (pa_cons (pe_bltn (v := .ty "tuple") (u := .type "tuple") (by rfl) T.tuple (by decide +kernel) rfl) pa_nil)))) (pss_one (ps_ret (pv 2))) pss_nil)
    (pss_one (ps_ret (pe_ifExp (pt_cmpR (show OpR _ (compareOp .Eq) (rEqD K) from op_eqD (by exact hr.units)) (pe_fld (pe_ix (show IxR _ (rIxL K) from ix_list) (pv 2) pe_int (fun _ _ => rfl)) rfl) (pv 0) (nomark _))
      (pe_lst (pa_cons (pe_lst (pa_cons (pe_fld (pe_ix (show IxR _ (rIxL K) from ix_list) (pv 2) pe_int (fun _ _ => rfl)) rfl) (pa_cons (pe_fld (pe_ix (show IxR _ (rIxL K) from ix_list) (pv 2) pe_int (fun _ _ => rfl)) rfl) pa_nil))) pa_nil)) pe_non)))), ?_⟩
  have hSn : H aS ≠ none := by
    obtain ⟨ob, e2, _⟩ := hS
    rw [e2]; exact fun z => nomatch z
  have live : ∀ {H' : Hp}, ExtN H H' → H' aS ≠ none := fun e => by
    obtain ⟨ob, e2, _⟩ := FrT.extY e hS
    rw [e2]; exact fun z => nomatch z
  refine ⟨tb, fun H2 e2 t2 H3 Ec Qc s3 hN hE hQ => ?_⟩
  have e3 : ExtN H H3 := e2.trans (Same.toN s3)
  have t3 : Tabs [(Pt, lamQ)] H3 := Tabs.same t2 s3
  have dS : ∀ {H' : Hp} {m l : Addr}, ExtN H H' → Dq K H' m l (.ref aS) (.tuple (prD ys)) := fun e => .tup (FrT.extY e hS).seqT (Prs.extY e hp).dq
  refine ⟨_, rfl, _, rfl, m, l, aS, ys, v, d, rfl, dS e3, so, Dq.ext e3 hd, hz, fun no dx H4 h1 s4 h3 => hN dx H4 h3 fun p hp => ?_, fun z n ez er dx H4 h1 s4 h3 => hE dx n H4 (readR_small er) h3 fun p hp => ?_, fun z ps zs ez er x dx H4 v2 v3 hx s4 gx d2 d3 => hQ (.ref x) H4 fun p hp => ?_⟩
  · have s5 := Same.upd (o := .tup [V.str "text", .str "None"]) hp
    refine ⟨_, rfl, .ref p, .ty "tuple", _, _, _, rfl, .ty _, .base (.tup upd_same), isi_tup K (.tuple []), _, rfl, ifT rfl ⟨_, rfl, ?_⟩⟩
    refine q (.ref p) _ (e3.trans (Same.toN (s4.trans s5))) (Tabs.same t3 (s4.trans s5)) ?_
    have ed : dueS ys d = .tuple [.str "text", .str "None"] := by
      cases d with
      | str z => exact absurd rfl (no z)
      | _ => rfl
    rw [ed]
    exact .tup (.inl (.inl upd_same)) (.cons (.str _) (.cons (.str _) .nil))
  · subst ez
    have s5 := Same.upd (o := .tup [V.str "text", .str (num n)]) hp
    refine ⟨_, rfl, .ref p, .ty "tuple", _, _, _, rfl, .ty _, .base (.tup upd_same), isi_tup K (.tuple []), _, rfl, ifT rfl ⟨_, rfl, ?_⟩⟩
    refine q (.ref p) _ (e3.trans (Same.toN (s4.trans s5))) (Tabs.same t3 (s4.trans s5)) ?_
    show Dq K _ aS aS _ (dueT (readR ys (linesOf z)))
    rw [er]
    exact .tup (.inl (.inl upd_same)) (.cons (.str _) (.cons (.str _) .nil))
  · subst ez
    have s5 := Same.upd (o := .lst [V.ref x]) hp
    have gp := upd_same (H := H4) (a := p) (o := .lst [V.ref x])
    have gx5 := s5 _ _ gx
    have s35 := s4.trans s5
    have d2' := Dq.same s5 _ _ d2
    have d3' := Dq.same s5 _ _ d3
    generalize upd H4 p (.lst [V.ref x]) = H5 at s5 gp gx5 s35 d2' d3' ⊢
    have e5 := e3.trans (Same.toN s35)
    refine ⟨_, rfl, .ref p, .ty "tuple", _, _, _, rfl, .ty _, .base (.lst gp), isi_tup K (.list []), _, rfl, ifF rfl ?_⟩
    have a0 : atI ([V.ref x] : List V) ((0 : Nat) : Int) = some (.ref x) := atI_nat rfl
    refine ⟨_, rfl, p, _, 0, .ref x, rfl, rfl, SqL.of gp, a0, x, C, dx, _, _, rfl, gx5, RC.cl, RC.nS, rfl, _, rfl, ?_⟩
    refine ⟨_, _, Dq.dp (m := aS) (l := aS) (.tuple (prD ys)) _ (dS e5) (prs_noDiY ys), Dq.dp (m := aS) (l := aS) (.tuple (prD ys)) _ (dS e5) (prs_noDiY ys), shaped_of (set_goodT so) (prs_noDiY ys) (by decide), shaped_of (set_goodT so) (prs_noDiY ys) (by decide), _, rfl, ?_⟩
    have er1 : PyData.eqv (.tuple (prD ys)) (.tuple (prD ys)) = true := SeqAt.eqv_refl _ (lay_of _ (set_goodT so).ok (prs_noDiY ys))
    refine ifT er1 ?_
    refine ⟨_, rfl, p, _, 0, .ref x, rfl, rfl, SqL.of gp, a0, x, C, dx, _, _, rfl, gx5, RC.cl, RC.nP, rfl, _, rfl, p, _, 0, .ref x, rfl, rfl, SqL.of gp, a0, x, C, dx, _, _, rfl, gx5, RC.cl, RC.nM, rfl, (by show 2 ≤ sizeLine; decide), fun q1 hq1 => ⟨(by show 1 ≤ sizeLine; decide), fun q2 hq2 => ?_⟩⟩
    have s6 := Same.upd (o := .lst [v2, v3]) hq1
    have s7 := Same.upd (o := .lst [V.ref q1]) hq2
    have n1 : q1 ≠ aS := fun e => by rw [e] at hq1; exact live e5 hq1
    have n2 : q2 ≠ aS := fun e => by rw [e] at hq2; exact live (e5.trans (Same.toN s6)) hq2
    refine q (.ref q2) _ (e5.trans (Same.toN (s6.trans s7))) (Tabs.same t3 (s35.trans (s6.trans s7))) ?_
    show Dq K _ aS aS _ (dueT (readR ys (linesOf z)))
    rw [er]
    have dz : zs.map PyData.str = zs.map PyData.str := rfl
    obtain ⟨pA, vsA, rfl, hA, hA2⟩ : ∃ pA vsA, v2 = .ref pA ∧ SqT K H5 pA vsA ∧ DqAll K H5 m l vsA (ps.map Plc.d) := by
      cases d2' with
      | tup e t => exact ⟨_, _, rfl, e, t⟩
    obtain ⟨pB, rfl, hB⟩ : ∃ pB, v3 = .ref pB ∧ SqT K H5 pB (zs.map V.str) := by
      cases d3' with
      | tup e t => rw [strs_of t] at e; exact ⟨_, rfl, e⟩
    exact .lst upd_same n2 n2 (.cons (.lst (s7 _ _ upd_same) n1 n1 (.cons (.tup (Same.seqT (s6.trans s7) hA) (plcs_ml (DqAll.same (s6.trans s7) _ _ hA2))) (.cons (.tup (Same.seqT (s6.trans s7) hB) (strs_dqT zs)) .nil))) .nil)
end
end Ms
namespace Ms
open PySem PySem.Spec PyProof.Rows L2
/-! ### what the draws leave as it was, told apart -/
theorem Fr.relock {m l l' D : Addr} {H H' : Hp} {o : HO} (f : Fr m l l' H H') (h : H D = none) : Fr m l l' H (upd H' D o) :=
  ⟨fun b o e h1 h2 => by rw [upd_ne (ne_of_none e h)]; exact f.keep b o e h1 h2, f.new, fun b h => upd_dom (f.dom b h)⟩
theorem Mch.nm {m l : Addr} {n : Nat} {H : Hp} {p : Addr} {o : HO} (M : Mch H m l n) (h : H p = some o) (ho : ∀ kv, o ≠ .dK kv) : p ≠ m := by
  obtain ⟨c, cs, ls, z, h1, _⟩ := M.ex
  exact ne_of h h1 (fun e => ho _ e)
theorem Mch.nl {m l : Addr} {n : Nat} {H : Hp} {p : Addr} {o : HO} (M : Mch H m l n) (h : H p = some o) (ho : ∀ xs, o ≠ .lst xs) : p ≠ l := by
  obtain ⟨c, cs, ls, z, _, _, h1, _⟩ := M.ex
  exact ne_of h h1 (fun e => ho _ e)
end Ms
namespace Ms
open PySem PySem.Spec PyProof.Rows L2
/-! ### _law_places: a list that grows while numbers are drawn -/
/-- the state, with the growing list locked -/
structure Stt (K : PySem.W.Frag) (H0 : Hp) (m l0 D W : Addr) (ws : List Str) (od : Obj) (u : List V) (l : Addr) (n : Nat) (acc : List V) (ds : List PyData) (Hb : Hp) : Prop where
  frz : Hb D = some (.frz od (.lst u))
  M : Mch Hb m l n
  F : Fr m l0 l H0 Hb
  w : Hb W = some (.lst (ws.map V.str))
  wl : W ≠ l
  it : DqAll K Hb m l acc ds
section
variable {K : PySem.W.Frag} {H0 Hb : Hp} {m l0 D W l : Addr} {ws : List Str} {od : Obj} {u acc : List V} {n : Nat} {ds : List PyData}
theorem Stt.relock (s : Stt K H0 m l0 D W ws od u l n acc ds Hb) (hD : H0 D = none) (od' : Obj) (u' : List V) : Stt K H0 m l0 D W ws od' u' l n acc ds (upd Hb D (.frz od' (.lst u'))) := by
  refine ⟨upd_same, Mch.unlock s.frz s.M, s.F.relock hD, upd_frz s.frz (fun _ _ z => nomatch z) s.w, s.wl, ?_⟩
  exact DqAll.gen (fun a xs q n1 n2 => ⟨upd_frz s.frz (fun _ _ z => nomatch z) q, n1, n2⟩) (fun a xs q => by
    have := Dq.unlock (K := K) (m := m) (l := l) (o := .frz od' (.lst u')) (d := .tuple []) (v := .ref a) s.frz
    rcases q with (q | ⟨o', q⟩) | q
    · exact .inl (.inl (upd_frz s.frz (fun _ _ z => nomatch z) q))
    · have q' : Hb a = some (.frz o' (.tup xs)) := q
      have nb : a ≠ D := fun z => by rw [z, s.frz] at q'; cases q'
      have q2 : upd Hb D (.frz od' (.lst u')) a = some (.frz o' (.tup xs)) := by rw [upd_ne nb]; exact q'
      exact .inl (.inr ⟨o', q2⟩)
    · exact .inr q) (fun a q n1 n2 => ⟨upd_frz s.frz (fun _ _ z => nomatch z) q, n1, n2⟩) _ _ s.it
/-- a step of the machine, the list locked -/
theorem Stt.step (s : Stt K H0 m l0 D W ws od u l n acc ds Hb) {l' : Addr} {n' : Nat} {H' : Hp} (M' : Mch H' m l' n') (f : Fr m l l' Hb H') : Stt K H0 m l0 D W ws od u l' n' acc ds H' := by
  have nD : D ≠ m ∧ D ≠ l := ⟨s.M.nm s.frz (fun _ z => nomatch z), s.M.nl s.frz (fun _ z => nomatch z)⟩
  have nW : W ≠ m := s.M.nm s.w (fun _ z => nomatch z)
  refine ⟨f.keep _ _ s.frz nD.1 nD.2, M', s.F.trans f, f.keep _ _ s.w nW s.wl, ?_, DqAll.step (s.M.step f) _ _ s.it⟩
  rcases f.new with z | z
  · rw [z]; exact s.wl
  · exact ne_of_none s.w z
theorem Stt.grow (s : Stt K H0 m l0 D W ws od u l n acc ds Hb) {H' : Hp} (k : Same Hb H') : Stt K H0 m l0 D W ws od u l n acc ds H' :=
  ⟨k _ _ s.frz, s.M.same k, ⟨fun b o e h1 h2 => k _ _ (s.F.keep b o e h1 h2), s.F.new, fun b h => by
    have h2 := s.F.dom b h
    cases q : Hb b with
    | none => exact absurd q h2
    | some o => rw [k b o q]; exact fun z => nomatch z⟩, k _ _ s.w, s.wl, DqAll.same k _ _ s.it⟩
theorem Stt.mono {n' : Nat} (s : Stt K H0 m l0 D W ws od u l n acc ds Hb) (h : n ≤ n') : Stt K H0 m l0 D W ws od u l n' acc ds Hb := ⟨s.frz, s.M.mono h, s.F, s.w, s.wl, s.it⟩
theorem Stt.more (s : Stt K H0 m l0 D W ws od u l n acc ds Hb) {v : V} {d : PyData} (h : Dq K Hb m l v d) : Stt K H0 m l0 D W ws od u l n (acc ++ [v]) (ds ++ [d]) Hb :=
  ⟨s.frz, s.M, s.F, s.w, s.wl, DqAll.app s.it (.cons h .nil)⟩
/-- a drawn number, the list locked while it is drawn -/
theorem lk_next {E : XK} {σ : L2.St} {Q : VK} {tk : TE} {k : Int} (hD : H0 D = none) (s : Stt K H0 m l0 D W ws od u l n acc ds Hb) (hn : n < 1000000) (hm : σ[0]? = some (some (.ref m))) (h0 : 0 < k) (h1 : k < 1000000)
    (ht : ∀ od' Q', Q' (.int k) (upd Hb D (.frz od' (.lst acc))) → tk σ (upd Hb D (.frz od' (.lst acc))) Q')
    (q : ∀ (r : Int) (l' : Addr) (G : Hp), 0 ≤ r → r < k → Stt K H0 m l0 D W ws od acc l' (n + 1) acc ds G → Q (.int r) (upd G D (.lst acc))) :
    tLockE (tCall spNext [] E (tCons (tVar 0) (tCons tk tNil))) σ (upd Hb D (.lst acc)) Q := by
  refine ⟨D, .lst acc, upd_same, trivial, fun od' => ?_⟩
  rw [upd_upd]
  have s' := s.relock hD od' acc
  refine ⟨_, hm, ht od' _ ⟨m, l, n, k, rfl, s'.M, hn, h0, h1, fun r l' H' r0 r1 M' f => ?_⟩⟩
  have s2 := s'.step M' f
  refine ⟨s2.frz, ?_⟩
  have s3 := s2.relock hD od acc
  have e : upd (upd H' D (.frz od (.lst acc))) D (.lst acc) = upd H' D (.lst acc) := upd_upd ..
  rw [← e]
  exact q r l' _ r0 r1 s3
theorem DqAll.unlock {H : Hp} {L : Addr} {o : HO} {u' : List V} (h : H L = some (.frz od (.lst u'))) {vs : List V} {ds : List PyData} (hd : DqAll K H m l vs ds) : DqAll K (upd H L o) m l vs ds :=
  DqAll.gen (fun a xs q n1 n2 => ⟨upd_frz h (fun _ _ z => nomatch z) q, n1, n2⟩) (fun a xs q => by
    rcases q with (q | ⟨o', q⟩) | q
    · exact .inl (.inl (upd_frz h (fun _ _ z => nomatch z) q))
    · have q' : H a = some (.frz o' (.tup xs)) := q
      have nb : a ≠ L := fun z => by rw [z, h] at q'; cases q'
      have q2 : upd H L o a = some (.frz o' (.tup xs)) := by rw [upd_ne nb]; exact q'
      exact .inl (.inr ⟨o', q2⟩)
    · exact .inr q) (fun a q n1 n2 => ⟨upd_frz h (fun _ _ z => nomatch z) q, n1, n2⟩) _ _ hd
/-- another locked list changes -/
theorem Stt.other (s : Stt K H0 m l0 D W ws od u l n acc ds Hb) {D2 : Addr} {od2 : Obj} {u2 : List V} (g : Hb D2 = some (.frz od2 (.lst u2))) (nD : D2 ≠ D) (h2 : H0 D2 = none) (o : HO) : Stt K H0 m l0 D W ws od u l n acc ds (upd Hb D2 o) :=
  ⟨by rw [upd_ne nD.symm]; exact s.frz, Mch.unlock g s.M, s.F.relock h2, upd_frz g (fun _ _ z => nomatch z) s.w, s.wl, DqAll.unlock g s.it⟩
theorem upd_two {H : Hp} {a b : Addr} {o o' : HO} (h : a ≠ b) : upd (upd H a o) b o' = upd (upd H b o') a o := by
  funext x
  by_cases e1 : x = a
  · rw [e1, upd_ne h, upd_same, upd_same]
  · by_cases e2 : x = b
    · rw [e2, upd_same, upd_ne (fun z => e1 (e2.trans z)), upd_same]
    · rw [upd_ne e2, upd_ne e1, upd_ne e1, upd_ne e2]
/-- the same with two lists that are locked -/
theorem lk2_next {E : XK} {σ : L2.St} {Q : VK} {tk : TE} {k : Int} {D2 : Addr} {od2 : Obj} {u2 ns : List V} (hD : H0 D = none) (hD2 : H0 D2 = none) (nD : D2 ≠ D) (s : Stt K H0 m l0 D W ws od u l n acc ds Hb) (g2 : Hb D2 = some (.frz od2 (.lst u2))) (hn : n < 1000000) (hm : σ[0]? = some (some (.ref m))) (h0 : 0 < k) (h1 : k < 1000000)
    (ht : ∀ G Q', Q' (.int k) G → tk σ G Q')
    (q : ∀ (r : Int) (l' : Addr) (od od2 : Obj) (G : Hp), 0 ≤ r → r < k → Stt K H0 m l0 D W ws od acc l' (n + 1) acc ds G → G D2 = some (.frz od2 (.lst ns)) → Q (.int r) (upd (upd G D2 (.lst ns)) D (.lst acc))) :
    tLockE (tLockE (tCall spNext [] E (tCons (tVar 0) (tCons tk tNil)))) σ (upd (upd Hb D2 (.lst ns)) D (.lst acc)) Q := by
  refine ⟨D, .lst acc, upd_same, trivial, fun od' => ?_⟩
  rw [upd_upd]
  refine ⟨D2, .lst ns, by rw [upd_ne nD, upd_same], trivial, fun od2' => ?_⟩
  rw [← upd_two nD, upd_upd, upd_two nD]
  have s1 := (s.relock hD od' acc).other (od2 := od2) (u2 := u2) (by rw [upd_ne nD]; exact g2) nD hD2 (.frz od2' (.lst ns))
  refine ⟨_, hm, ht _ _ ⟨m, l, n, k, rfl, s1.M, hn, h0, h1, fun r l' H' r0 r1 M' f => ?_⟩⟩
  have s2 := s1.step M' f
  have e2 : H' D2 = some (.frz od2' (.lst ns)) := f.keep _ _ upd_same (s1.M.nm upd_same (fun _ z => nomatch z)) (s1.M.nl upd_same (fun _ z => nomatch z))
  exact ⟨e2, by rw [upd_ne nD.symm]; exact s2.frz, q r l' _ _ _ r0 r1 s2 e2⟩
end
end Ms
namespace Ms
open PySem PySem.Spec PyProof.Rows L2
/-! ### drawn places are places; their text (out of TXC) -/
structure RqGood (ys : List (Str × Int)) (ps : List Plc) (zs : List Str) : Prop where
  good : ∀ p ∈ ps, PlcGood ys ps.length p
  d1 : 1 ≤ ps.length
  d16 : ps.length ≤ 16
  lz : zs.length = ys.length
  hz : ∀ z ∈ zs, z ∈ (["live", "met", "begin"] : List Str)
/-- a drawn place is a place -/
theorem plD_plc {ys : List (Str × Int)} {many : Nat} {d : PyData} (h16 : many ≤ 16) (h : plD ys (many : Int) d) : ∃ p : Plc, d = p.d ∧ PlcGood ys many p := by
  rcases h with rfl | ⟨z, r, rfl, hz, h0, h1⟩ | ⟨q, hq, ns, rfl, hl, hx⟩
  · exact ⟨.fin, rfl, True.intro, fun k hk => nomatch hk⟩
  · obtain ⟨k, rfl⟩ : ∃ k : Nat, r = (k : Int) := ⟨r.toNat, by omega⟩
    exact ⟨.go z k, rfl, ⟨hz, by omega⟩, fun j hj => by rw [List.mem_singleton.mp hj]; omega⟩
  · have key : ∀ ns : List Int, (∀ x ∈ ns, 0 ≤ x ∧ x < (many : Int)) → ∃ ks : List Nat, ns = intsN ks ∧ ∀ k ∈ ks, k < many := by
      intro ns
      induction ns with
      | nil => exact fun _ => ⟨[], rfl, fun k h => nomatch h⟩
      | cons x ns ih =>
        intro h
        obtain ⟨ks, e, hk⟩ := ih fun y hy => h y (List.mem_cons_of_mem _ hy)
        have hx := h x (List.mem_cons_self ..)
        refine ⟨x.toNat :: ks, ?_, fun k hk' => ?_⟩
        · show x :: ns = ((x.toNat : Nat) : Int) :: intsN ks
          rw [← e]
          congr 1
          omega
        · rcases List.mem_cons.mp hk' with rfl | h'
          · omega
          · exact hk k h'
    obtain ⟨ks, rfl, hk⟩ := key ns hx
    refine ⟨.ask q.1 ks, rfl, ⟨q, hq, rfl, ?_, fun k h => by have := hk k h; omega⟩, hk⟩
    rw [← hl]
    show ((ks.length : Nat) : Int) = (((ks.map fun (n : Nat) => (n : Int)).length : Nat) : Int)
    rw [List.length_map]
theorem pls_plc {ys : List (Str × Int)} {many : Nat} (h16 : many ≤ 16) : ∀ ds : List PyData, (∀ d ∈ ds, plD ys (many : Int) d) → ∃ ps : List Plc, ds = ps.map Plc.d ∧ ∀ p ∈ ps, PlcGood ys many p
  | [], _ => ⟨[], rfl, fun p h => nomatch h⟩
  | d :: ds, h => by
    obtain ⟨p, e, g⟩ := plD_plc h16 (h d (List.mem_cons_self ..))
    obtain ⟨ps, e2, g2⟩ := pls_plc h16 ds fun x hx => h x (List.mem_cons_of_mem _ hx)
    refine ⟨p :: ps, by rw [e, e2]; rfl, fun x hx => ?_⟩
    rcases List.mem_cons.mp hx with rfl | hx
    · exact g
    · exact g2 x hx
theorem RqGood.modes {ys : List (Str × Int)} {ps : List Plc} {zs : List Str} (so : SetOk ys) (g : RqGood ys ps zs) : ModesOk zs ∧ zs ≠ [] := by
  have l1 := so.len1
  have l3 := so.len3
  have lz := g.lz
  exact ⟨⟨by omega, g.hz⟩, fun e => by subst e; simp at lz; omega⟩
theorem RqGood.oks {ys : List (Str × Int)} {ps : List Plc} {zs : List Str} (so : SetOk ys) (g : RqGood ys ps zs) : ∀ p ∈ ps, p.Ok ∧ ∀ z ns, p = .ask z ns → ns ≠ [] := fun p hp => good_ok so (g.good p hp)
/-- the text of a request -/
theorem text_len {ys : List (Str × Int)} {ps : List Plc} {zs : List Str} (so : SetOk ys) (g : RqGood ys ps zs) : (textP zs ps).length ≤ 2000 :=
  Nat.le_trans (join_len (by decide) _) (lines_size (g.modes so).1 (fun p hp => (g.oks so p hp).1) g.d16)
theorem joinL_lt {S : List Nat} {b : Nat} (hS : ∀ c ∈ S, c < b) {ps : List (List Nat)} (h : ∀ p ∈ ps, ∀ c ∈ p, c < b) : ∀ c ∈ TL.joinL S ps, c < b := fun c hc => by
  rcases joinL_mem hc with hc | ⟨p, hp, hc⟩
  · exact hS c hc
  · exact h p hp c hc
theorem num_low : ∀ n, n < 100 → ∀ c ∈ TL.tl (num n), c < 0x110000 := by decide +kernel
theorem words_low {ys : List (Str × Int)} {many : Nat} {p : Plc} (so : SetOk ys) (h : PlcGood ys many p) : ∀ z ∈ p.words, ∀ c ∈ TL.tl z, c < 0x110000 := by
  have w1 : ∀ c ∈ TL.tl ("do" : Str), c < 0x110000 := by decide +kernel
  have w2 : ∀ c ∈ TL.tl ("ask" : Str), c < 0x110000 := by decide +kernel
  have w3 : ∀ c ∈ TL.tl ("end" : Str), c < 0x110000 := by decide +kernel
  cases p with
  | fin => exact fun z hz => by rw [List.mem_singleton.mp hz]; exact w3
  | go z n =>
    obtain ⟨hz, hn⟩ := h.inn
    intro y hy
    have hy : y ∈ ([("do" : Str), z, num n] : List Str) := hy
    simp only [List.mem_cons, List.mem_nil_iff, or_false] at hy
    rcases hy with rfl | rfl | rfl
    · exact w1
    · exact (nmOk.ok hz).2
    · exact num_low n hn
  | ask z ns =>
    obtain ⟨q, hq, rfl, _, hn⟩ := h.inn
    intro y hy
    have hy : y ∈ ("ask" : Str) :: q.1 :: ns.map num := hy
    rcases List.mem_cons.mp hy with rfl | hy
    · exact w2
    rcases List.mem_cons.mp hy with rfl | hy
    · exact (nmOk.ok (so.nm q hq)).2
    · obtain ⟨n, h1, rfl⟩ := List.mem_map.mp hy
      exact num_low n (hn n h1)
theorem text_ok {ys : List (Str × Int)} {ps : List Plc} {zs : List Str} (so : SetOk ys) (g : RqGood ys ps zs) : sOk 2000 (textP zs ps) := by
  refine ⟨text_len so g, ?_⟩
  have hb : ∀ c ∈ TL.tl blank, c < 0x110000 := by rw [bl_tl]; decide
  have hn : ∀ c ∈ TL.tl newl, c < 0x110000 := by rw [nl_tl]; decide
  have hm : ∀ z ∈ ("modes" : Str) :: zs, ∀ c ∈ TL.tl z, c < 0x110000 := fun z hz => by
    rcases List.mem_cons.mp hz with rfl | hz
    · decide +kernel
    · have := g.hz z hz
      simp only [List.mem_cons, List.mem_nil_iff, or_false] at this
      rcases this with rfl | rfl | rfl <;> decide +kernel
  show ∀ c ∈ TL.tl (textP zs ps), c < 0x110000
  unfold textP
  rw [TL.join_eq, TL.tl_join]
  refine joinL_lt hn fun p hp => ?_
  obtain ⟨y, hy, rfl⟩ := List.mem_map.mp hp
  rcases List.mem_cons.mp hy with rfl | hy
  · rw [TL.join_eq, TL.tl_join]
    refine joinL_lt hb fun p hp => ?_
    obtain ⟨z, hz, rfl⟩ := List.mem_map.mp hp
    exact hm z hz
  · obtain ⟨x, hx, rfl⟩ := List.mem_map.mp hy
    unfold Plc.line
    rw [TL.join_eq, TL.tl_join]
    refine joinL_lt hb fun q hq => ?_
    obtain ⟨z, hz, rfl⟩ := List.mem_map.mp hq
    exact words_low so (g.good x hx) z hz

/-- what is due is shown -/
theorem dueT_shown {ys : List (Str × Int)} {lss : List (List Str)} (so : SetOk ys) : (dueT (readR ys lss)).showable = true ∧ (dueT (readR ys lss)).depth ≤ 60 ∧ (dueT (readR ys lss)).shown.length ≤ sizeLine := by
  have l3 := so.len3
  have any : ∀ {e : PyData} {b : Nat}, Gd (10 ^ 31) 200000 b e → b ≤ 60 → e.showable = true ∧ e.depth ≤ 60 ∧ e.shown.length ≤ sizeLine := fun {e b} g hb => ⟨(g.shown (Nat.le_refl _)).1, Nat.le_trans g.dp hb, (g.shown (Nat.le_refl _)).2⟩
  cases hr : readR ys lss with
  | inl n =>
    have hn := readR_small hr
    have g1 : Gd (10 ^ 31) 16 0 (.str "text") := Gd.str ⟨by decide, by decide⟩
    have g2 : Gd (10 ^ 31) 16 0 (.str (num n)) := Gd.str ⟨by have := num_len n hn; omega, num_low n hn⟩
    exact any ((Gd.tup ((Gl'.one g1).app (Gl'.one g2))).mono (Nat.le_refl _) (by decide) (Nat.le_refl _)) (by decide)
  | inr pz =>
    obtain ⟨ps, zs⟩ := pz
    have key : (∀ p ∈ ps, PlcIn ys p) ∧ ps.length ≤ 16 ∧ (∀ z ∈ zs, z ∈ (["live", "met", "begin"] : List Str)) ∧ zs.length ≤ 3 := by
      unfold readR at hr
      split at hr
      · rename_i hm
        simp only [mlineB, Bool.and_eq_true, decide_eq_true_eq] at hm
        obtain ⟨_, hl, ha⟩ := hm
        split at hr
        · cases hr
        · rename_i qs hq
          have hin := readP_in _ _ _ _ hq (fun p h => nomatch h) (Nat.zero_le _)
          split at hr
          · cases hr
          · split at hr
            · cases hr
            · cases hr
              refine ⟨hin.1, hin.2, fun z hz => of_decide_eq_true ((List.all_eq_true.mp ha) z hz), ?_⟩
              rw [List.length_drop]; omega
      · cases hr
    obtain ⟨k1, k2, k3, k4⟩ := key
    have g1 : Gd (10 ^ 31) 10000 3 (.tuple (ps.map Plc.d)) := (Gd.tup (plcsin_good so k1)).mono (by decide) (by omega) (Nat.le_refl _)
    have wkey : ∀ zs : List Str, (∀ z ∈ zs, z ∈ (["live", "met", "begin"] : List Str)) → Gl' big (20 * zs.length) 0 (zs.map .str) := by
      intro zs
      induction zs with
      | nil => exact fun _ => ⟨(fun d h => nomatch h), Nat.le_refl _, (fun d h => nomatch h)⟩
      | cons z zs ih =>
        intro h
        have hz : sOk 16 z := by
          have := h z (List.mem_cons_self ..)
          simp only [List.mem_cons, List.mem_nil_iff, or_false] at this
          rcases this with rfl | rfl | rfl <;> exact ⟨by decide, by decide⟩
        exact ((Gl'.one (Gd.str (B := big) hz)).app (ih fun x hx => h x (List.mem_cons_of_mem _ hx))).mono (Nat.le_refl _) (by simp only [List.length_cons]; omega) (Nat.le_refl _)
    have g2 : Gd (10 ^ 31) 100 3 (.tuple (zs.map .str)) := (Gd.tup (wkey zs k3)).mono (by decide) (by omega) (by decide)
    exact any ((Gd.lst (Gl'.one (Gd.lst ((Gl'.one g1).app (Gl'.one g2))))).mono (Nat.le_refl _) (by decide) (Nat.le_refl _)) (by decide)
end Ms
namespace Ms
open PySem PySem.Spec PyProof.Rows L2
/-! ### _law_settings, the very tuple told -/
section
variable {P : Program} {w : World} {K : PySem.W.Frag} {mg : Str → Option Value} {base : Heap} {fN fM : Addr}
def spSettingsF : Sp := fun vs H Q _ => ∃ (m l : Addr) (n : Nat), vs = [.ref m] ∧ Mch H m l n ∧ n < 800000 ∧
  ∀ (p : Addr) (as : List Addr) (ys : List (Str × Int)) (l' : Addr) (H' : Hp), FrT H' p (as.map V.ref) → Prs H' as ys → SetOk ys → Mch H' m l' (n + 12) → Fr m l l' H H' → Q (.ref p) H'
theorem ok_settingsF {f : Addr} {fd fdN fdM : FuncData} (F : Fun K "_law_settings" "_law_settings" sSettings f fd) (T : TxtS mg fN fM) (FN : Fun K "_law_next" "_law_next" sNext fN fdN) (bN : Binds K fdN ["m", "many"] [])
    (FM : Fun K "_law_names" "_law_names" sNames fM fdM) (bM : Binds K fdM ["m", "many"] []) : FnOk P w K mg base CX0 3 f fd ["m"] spSettingsF := by
  have GN : FnOk P w K mg base CX0 2 fN fdN ["m", "many"] spNext := (ok_next FN T.toTxt).mono (by decide)
  have GM : FnOk P w K mg base CX0 2 fM fdM ["m", "many"] spNamesV := ok_namesV FM T.toTxtN FN bN
  refine F.ok scSt (fun vs H Q E h => ?_) (fun cdv A outer s H vs Q E hr h => ?_)
  · obtain ⟨m, l, n, rfl, _⟩ := h
    rfl
  · obtain ⟨m, l, n, rfl, M, hn, q⟩ := h
    refine ⟨_, pss_cons (ps_set (i := 1) scSt.nd rfl (by first | exact Or.inl rfl | exact Or.inr rfl) (pe_lst (pa_cons (pe_tup (pa_cons pe_int pa_nil)) (pa_cons (pe_tup (pa_cons pe_int pa_nil)) (pa_cons (pe_tup (pa_cons pe_int pa_nil)) (pa_cons (pe_tup (pa_cons pe_int (pa_cons pe_int pa_nil))) (pa_cons (pe_tup (pa_cons pe_int (pa_cons pe_int pa_nil))) (pa_cons (pe_tup (pa_cons pe_int (pa_cons pe_int pa_nil))) (pa_cons (pe_tup (pa_cons pe_int (pa_cons pe_int pa_nil))) (pa_cons (pe_tup (pa_cons pe_int (pa_cons pe_int pa_nil))) (pa_cons (pe_tup (pa_cons pe_int (pa_cons pe_int pa_nil))) (pa_cons (pe_tup (pa_cons pe_int (pa_cons pe_int (pa_cons pe_int pa_nil)))) (pa_cons (pe_tup (pa_cons pe_int (pa_cons pe_int (pa_cons pe_int pa_nil)))) (pa_cons (pe_tup (pa_cons pe_int (pa_cons pe_int (pa_cons pe_int pa_nil)))) pa_nil))))))))))))))
      (pss_cons (ps_set (i := 2) scSt.nd rfl (by first | exact Or.inl rfl | exact Or.inr rfl) (pe_ix ix_list (pv 1) (pe_call GN hr rfl T.next FN.kp bN .nil pass0 (pa_cons (pv 0) (pa_cons pe_int pa_nil))) (fun _ _ => rfl)))
      (pss_one (ps_ret (pe_callTy call_tuple_ofF (by rfl) T.tuple (by decide +kernel) (pa_cons (pe_lc (own := [("name", 3), ("most", 4)]) (g := gTup K 2 (gCons (gName 3) (gCons (gName 4) gNil))) (by rfl) scSt.nd
        (pi_zm (by rfl) T.zip (pa_cons (pe_call GM hr rfl T.names FM.kp bM .nil pass0 (pa_cons (pv 0) (pa_cons (pe_callB call_len (by rfl) T.len PySem.boot_len (pa_cons (pv 2) pa_nil)) pa_nil))) (pa_cons (pv 2) pa_nil)))
        (blkOk_by (own := [("name", 3), ("most", 4)]) (N := NS) (sc := defScope sSettings) (by decide +kernel))
        (fun _ _ _ _ _ => pg_tup rfl (pgs_cons (pg_name (i := 3) scSt.nd rfl (Or.inl rfl)) (pgs_cons (pg_name (i := 4) scSt.nd rfl (Or.inl rfl)) pgs_nil))) (fun _ _ _ _ _ => pts_nil)
        (fun _ _ _ _ _ => pe_tup (pa_cons (pv 3) (pa_cons (pv 4) pa_nil)))) pa_nil))))), ?_⟩
    refine ⟨(by show 1 ≤ sizeLine; decide), fun p1 h1 => ?_⟩
    obtain ⟨G1, e1⟩ : ∃ G, G = upd H p1 (.tup [.int 1]) := ⟨_, rfl⟩
    rw [← e1]
    have s1 : Same H G1 := e1 ▸ Same.upd h1
    have M1 := M.same s1
    have f1 : Fr m l l H G1 := e1 ▸ (Fr.refl M).junk h1
    have a1_1 : MoV G1 p1 := ⟨[1], by rw [e1, upd_same]; rfl, by decide, by decide, by decide, by decide⟩
    refine ⟨(by show 1 ≤ sizeLine; decide), fun p2 h2 => ?_⟩
    obtain ⟨G2, e2⟩ : ∃ G, G = upd G1 p2 (.tup [.int 2]) := ⟨_, rfl⟩
    rw [← e2]
    have s2 : Same G1 G2 := e2 ▸ Same.upd h2
    have M2 := M1.same s2
    have f2 : Fr m l l H G2 := e2 ▸ f1.junk h2
    have a2_2 : MoV G2 p2 := ⟨[2], by rw [e2, upd_same]; rfl, by decide, by decide, by decide, by decide⟩
    have a1_2 := a1_1.same s2
    refine ⟨(by show 1 ≤ sizeLine; decide), fun p3 h3 => ?_⟩
    obtain ⟨G3, e3⟩ : ∃ G, G = upd G2 p3 (.tup [.int 3]) := ⟨_, rfl⟩
    rw [← e3]
    have s3 : Same G2 G3 := e3 ▸ Same.upd h3
    have M3 := M2.same s3
    have f3 : Fr m l l H G3 := e3 ▸ f2.junk h3
    have a3_3 : MoV G3 p3 := ⟨[3], by rw [e3, upd_same]; rfl, by decide, by decide, by decide, by decide⟩
    have a1_3 := a1_2.same s3
    have a2_3 := a2_2.same s3
    refine ⟨(by show 2 ≤ sizeLine; decide), fun p4 h4 => ?_⟩
    obtain ⟨G4, e4⟩ : ∃ G, G = upd G3 p4 (.tup [.int 1, .int 1]) := ⟨_, rfl⟩
    rw [← e4]
    have s4 : Same G3 G4 := e4 ▸ Same.upd h4
    have M4 := M3.same s4
    have f4 : Fr m l l H G4 := e4 ▸ f3.junk h4
    have a4_4 : MoV G4 p4 := ⟨[1, 1], by rw [e4, upd_same]; rfl, by decide, by decide, by decide, by decide⟩
    have a1_4 := a1_3.same s4
    have a2_4 := a2_3.same s4
    have a3_4 := a3_3.same s4
    refine ⟨(by show 2 ≤ sizeLine; decide), fun p5 h5 => ?_⟩
    obtain ⟨G5, e5⟩ : ∃ G, G = upd G4 p5 (.tup [.int 1, .int 2]) := ⟨_, rfl⟩
    rw [← e5]
    have s5 : Same G4 G5 := e5 ▸ Same.upd h5
    have M5 := M4.same s5
    have f5 : Fr m l l H G5 := e5 ▸ f4.junk h5
    have a5_5 : MoV G5 p5 := ⟨[1, 2], by rw [e5, upd_same]; rfl, by decide, by decide, by decide, by decide⟩
    have a1_5 := a1_4.same s5
    have a2_5 := a2_4.same s5
    have a3_5 := a3_4.same s5
    have a4_5 := a4_4.same s5
    refine ⟨(by show 2 ≤ sizeLine; decide), fun p6 h6 => ?_⟩
    obtain ⟨G6, e6⟩ : ∃ G, G = upd G5 p6 (.tup [.int 2, .int 1]) := ⟨_, rfl⟩
    rw [← e6]
    have s6 : Same G5 G6 := e6 ▸ Same.upd h6
    have M6 := M5.same s6
    have f6 : Fr m l l H G6 := e6 ▸ f5.junk h6
    have a6_6 : MoV G6 p6 := ⟨[2, 1], by rw [e6, upd_same]; rfl, by decide, by decide, by decide, by decide⟩
    have a1_6 := a1_5.same s6
    have a2_6 := a2_5.same s6
    have a3_6 := a3_5.same s6
    have a4_6 := a4_5.same s6
    have a5_6 := a5_5.same s6
    refine ⟨(by show 2 ≤ sizeLine; decide), fun p7 h7 => ?_⟩
    obtain ⟨G7, e7⟩ : ∃ G, G = upd G6 p7 (.tup [.int 2, .int 2]) := ⟨_, rfl⟩
    rw [← e7]
    have s7 : Same G6 G7 := e7 ▸ Same.upd h7
    have M7 := M6.same s7
    have f7 : Fr m l l H G7 := e7 ▸ f6.junk h7
    have a7_7 : MoV G7 p7 := ⟨[2, 2], by rw [e7, upd_same]; rfl, by decide, by decide, by decide, by decide⟩
    have a1_7 := a1_6.same s7
    have a2_7 := a2_6.same s7
    have a3_7 := a3_6.same s7
    have a4_7 := a4_6.same s7
    have a5_7 := a5_6.same s7
    have a6_7 := a6_6.same s7
    refine ⟨(by show 2 ≤ sizeLine; decide), fun p8 h8 => ?_⟩
    obtain ⟨G8, e8⟩ : ∃ G, G = upd G7 p8 (.tup [.int 1, .int 3]) := ⟨_, rfl⟩
    rw [← e8]
    have s8 : Same G7 G8 := e8 ▸ Same.upd h8
    have M8 := M7.same s8
    have f8 : Fr m l l H G8 := e8 ▸ f7.junk h8
    have a8_8 : MoV G8 p8 := ⟨[1, 3], by rw [e8, upd_same]; rfl, by decide, by decide, by decide, by decide⟩
    have a1_8 := a1_7.same s8
    have a2_8 := a2_7.same s8
    have a3_8 := a3_7.same s8
    have a4_8 := a4_7.same s8
    have a5_8 := a5_7.same s8
    have a6_8 := a6_7.same s8
    have a7_8 := a7_7.same s8
    refine ⟨(by show 2 ≤ sizeLine; decide), fun p9 h9 => ?_⟩
    obtain ⟨G9, e9⟩ : ∃ G, G = upd G8 p9 (.tup [.int 3, .int 2]) := ⟨_, rfl⟩
    rw [← e9]
    have s9 : Same G8 G9 := e9 ▸ Same.upd h9
    have M9 := M8.same s9
    have f9 : Fr m l l H G9 := e9 ▸ f8.junk h9
    have a9_9 : MoV G9 p9 := ⟨[3, 2], by rw [e9, upd_same]; rfl, by decide, by decide, by decide, by decide⟩
    have a1_9 := a1_8.same s9
    have a2_9 := a2_8.same s9
    have a3_9 := a3_8.same s9
    have a4_9 := a4_8.same s9
    have a5_9 := a5_8.same s9
    have a6_9 := a6_8.same s9
    have a7_9 := a7_8.same s9
    have a8_9 := a8_8.same s9
    refine ⟨(by show 3 ≤ sizeLine; decide), fun p10 h10 => ?_⟩
    obtain ⟨G10, e10⟩ : ∃ G, G = upd G9 p10 (.tup [.int 1, .int 1, .int 1]) := ⟨_, rfl⟩
    rw [← e10]
    have s10 : Same G9 G10 := e10 ▸ Same.upd h10
    have M10 := M9.same s10
    have f10 : Fr m l l H G10 := e10 ▸ f9.junk h10
    have a10_10 : MoV G10 p10 := ⟨[1, 1, 1], by rw [e10, upd_same]; rfl, by decide, by decide, by decide, by decide⟩
    have a1_10 := a1_9.same s10
    have a2_10 := a2_9.same s10
    have a3_10 := a3_9.same s10
    have a4_10 := a4_9.same s10
    have a5_10 := a5_9.same s10
    have a6_10 := a6_9.same s10
    have a7_10 := a7_9.same s10
    have a8_10 := a8_9.same s10
    have a9_10 := a9_9.same s10
    refine ⟨(by show 3 ≤ sizeLine; decide), fun p11 h11 => ?_⟩
    obtain ⟨G11, e11⟩ : ∃ G, G = upd G10 p11 (.tup [.int 1, .int 2, .int 1]) := ⟨_, rfl⟩
    rw [← e11]
    have s11 : Same G10 G11 := e11 ▸ Same.upd h11
    have M11 := M10.same s11
    have f11 : Fr m l l H G11 := e11 ▸ f10.junk h11
    have a11_11 : MoV G11 p11 := ⟨[1, 2, 1], by rw [e11, upd_same]; rfl, by decide, by decide, by decide, by decide⟩
    have a1_11 := a1_10.same s11
    have a2_11 := a2_10.same s11
    have a3_11 := a3_10.same s11
    have a4_11 := a4_10.same s11
    have a5_11 := a5_10.same s11
    have a6_11 := a6_10.same s11
    have a7_11 := a7_10.same s11
    have a8_11 := a8_10.same s11
    have a9_11 := a9_10.same s11
    have a10_11 := a10_10.same s11
    refine ⟨(by show 3 ≤ sizeLine; decide), fun p12 h12 => ?_⟩
    obtain ⟨G12, e12⟩ : ∃ G, G = upd G11 p12 (.tup [.int 1, .int 1, .int 2]) := ⟨_, rfl⟩
    rw [← e12]
    have s12 : Same G11 G12 := e12 ▸ Same.upd h12
    have M12 := M11.same s12
    have f12 : Fr m l l H G12 := e12 ▸ f11.junk h12
    have a12_12 : MoV G12 p12 := ⟨[1, 1, 2], by rw [e12, upd_same]; rfl, by decide, by decide, by decide, by decide⟩
    have a1_12 := a1_11.same s12
    have a2_12 := a2_11.same s12
    have a3_12 := a3_11.same s12
    have a4_12 := a4_11.same s12
    have a5_12 := a5_11.same s12
    have a6_12 := a6_11.same s12
    have a7_12 := a7_11.same s12
    have a8_12 := a8_11.same s12
    have a9_12 := a9_11.same s12
    have a10_12 := a10_11.same s12
    have a11_12 := a11_11.same s12
    refine ⟨(by show 12 ≤ sizeLine; decide), fun D hD => ?_⟩
    obtain ⟨G, eG⟩ : ∃ G, G = upd G12 D (.lst [.ref p1, .ref p2, .ref p3, .ref p4, .ref p5, .ref p6, .ref p7, .ref p8, .ref p9, .ref p10, .ref p11, .ref p12]) := ⟨_, rfl⟩
    rw [← eG]
    have sG : Same G12 G := eG ▸ Same.upd hD
    have nD := M12.ne hD
    have MG := M12.same sG
    have fG : Fr m l l H G := eG ▸ f12.junk hD
    have gD : G D = some (.lst [.ref p1, .ref p2, .ref p3, .ref p4, .ref p5, .ref p6, .ref p7, .ref p8, .ref p9, .ref p10, .ref p11, .ref p12]) := by rw [eG, upd_same]
    have pick : ∀ r : Int, 0 ≤ r → r < 12 → ∃ a, atI ([.ref p1, .ref p2, .ref p3, .ref p4, .ref p5, .ref p6, .ref p7, .ref p8, .ref p9, .ref p10, .ref p11, .ref p12] : List V) r = some (.ref a) ∧ MoV G a := by
      intro r h0 h1
      obtain ⟨j, rfl⟩ : ∃ j : Nat, r = (j : Int) := ⟨r.toNat, by omega⟩
      have hj : j < 12 := by omega
      match j, hj with
      | 0, _ => exact ⟨p1, rfl, a1_12.same sG⟩
      | 1, _ => exact ⟨p2, rfl, a2_12.same sG⟩
      | 2, _ => exact ⟨p3, rfl, a3_12.same sG⟩
      | 3, _ => exact ⟨p4, rfl, a4_12.same sG⟩
      | 4, _ => exact ⟨p5, rfl, a5_12.same sG⟩
      | 5, _ => exact ⟨p6, rfl, a6_12.same sG⟩
      | 6, _ => exact ⟨p7, rfl, a7_12.same sG⟩
      | 7, _ => exact ⟨p8, rfl, a8_12.same sG⟩
      | 8, _ => exact ⟨p9, rfl, a9_12.same sG⟩
      | 9, _ => exact ⟨p10, rfl, a10_12.same sG⟩
      | 10, _ => exact ⟨p11, rfl, a11_12.same sG⟩
      | 11, _ => exact ⟨p12, rfl, a12_12.same sG⟩
    clear e1 s1 M1 f1 e2 s2 M2 f2 e3 s3 M3 f3 e4 s4 M4 f4 e5 s5 M5 f5 e6 s6 M6 f6 e7 s7 M7 f7 e8 s8 M8 f8 e9 s9 M9 f9 e10 s10 M10 f10 e11 s11 M11 f11 a1_1 a1_2 a2_2 a1_3 a2_3 a3_3 a1_4 a2_4 a3_4 a4_4 a1_5 a2_5 a3_5 a4_5 a5_5 a1_6 a2_6 a3_6 a4_6 a5_6 a6_6 a1_7 a2_7 a3_7 a4_7 a5_7 a6_7 a7_7 a1_8 a2_8 a3_8 a4_8 a5_8 a6_8 a7_8 a8_8 a1_9 a2_9 a3_9 a4_9 a5_9 a6_9 a7_9 a8_9 a9_9 a1_10 a2_10 a3_10 a4_10 a5_10 a6_10 a7_10 a8_10 a9_10 a10_10 a1_11 a2_11 a3_11 a4_11 a5_11 a6_11 a7_11 a8_11 a9_11 a10_11 a11_11 a1_12 a2_12 a3_12 a4_12 a5_12 a6_12 a7_12 a8_12 a9_12 a10_12 a11_12 a12_12
    refine ⟨_, rfl, _, rfl, m, l, n, 12, rfl, MG, by omega, by decide, by decide, fun r l1 H1 r0 r1 M1 f1' => ?_⟩
    obtain ⟨a, ha, mo⟩ := pick r r0 r1
    refine ⟨D, _, r, .ref a, rfl, rfl, SqL.of (f1'.keep D _ gD nD.1 nD.2), ha, ?_⟩
    obtain ⟨ms, hms, ml1, ml3, msok, mfew⟩ := mo
    have am : a ≠ m ∧ a ≠ l := by
      obtain ⟨c, cs, ls, z, dm, dc, dl, _⟩ := MG.ex
      exact ⟨ne_of hms dm (by intro q; cases q), ne_of hms dl (by intro q; cases q)⟩
    have ka : H1 a = some (.tup (ms.map V.int)) := f1'.keep a _ hms am.1 am.2
    have F1 : Fr m l l1 H H1 := fG.trans f1'
    clear pick gD eG sG MG fG hD e12 s12 M12 f12 h12 h11 h10 h9 h8 h7 h6 h5 h4 h3 h2 h1 ha f1' hms
    have lenA : ((ms.map V.int).length : Nat) = ms.length := List.length_map ..
    refine ⟨_, rfl, _, rfl, _, _, rfl, .inr ⟨_, SqT.of ka, rfl⟩, ?_⟩
    refine ⟨m, l1, n + 1, (ms.map V.int).length, rfl, M1, by omega, by omega, by omega, fun N ys l2 H2 hN gN yl yn yo nm nl M2 f2 => ?_⟩
    have F2 := F1.trans f2
    have ka2 : H2 a = some (.tup (ms.map V.int)) := f2.keep a _ ka am.1 (by
      obtain ⟨c, cs, ls, z, dm, dc, dl, _⟩ := M1.ex
      exact ne_of ka dl (by intro q; cases q))
    refine ⟨_, rfl, N, a, _, _, rfl, SqL.of gN, .inl (.inl ka2), fun D2 hD2 => ?_⟩
    have yl' : ys.length = ms.length := yl.trans lenA
    refine lc_it (walk_zm (xs := ys.map V.str) (ys := ms.map V.int) (n := ms.length) (by simp [yl'])) (fun i H3 => ∃ as : List Addr, as.length = i ∧ Prs H3 as ((ys.zip ms).take i) ∧ (∀ b ∈ as, b ≠ D2) ∧ H3 D2 = some (.lst (as.map V.ref)) ∧ Same H2 H3)
      ⟨[], rfl, .nil, (fun _ hb => nomatch hb), upd_same, Same.upd hD2⟩ (fun i H3 _ ⟨as, _, _, _, _, s3⟩ => ⟨SqL.of (s3 _ _ gN), SqT.of (s3 _ _ ka2)⟩) ?_ ?_
    · rintro i x H3 H4 hi ⟨as, al, pr, nd, gd, s3⟩ ⟨T, x1, x2, rfl, hT, rfl, e1, e2⟩
      have hy : i < ys.length := by omega
      have e1' : x1 = .str ys[i] := by simp [hy] at e1; exact e1.symm
      have e2' : x2 = .int ms[i] := by simp [hi] at e2; exact e2.symm
      subst e1' e2'
      refine ⟨T, _, rfl, .inl (.inl upd_same), rfl, _, _, rfl, _, _, rfl, rfl, rfl, tyes ?_⟩
      refine ⟨_, rfl, _, rfl, (by show 2 ≤ sizeLine; decide), fun p hp => ?_⟩
      have sT : Same H3 (upd H3 T (.tup [.str ys[i], .int ms[i]])) := Same.upd hT
      have sp : Same (upd H3 T (.tup [.str ys[i], .int ms[i]])) (upd (upd H3 T (.tup [.str ys[i], .int ms[i]])) p (.tup [.str ys[i], .int ms[i]])) := Same.upd hp
      have nDp : p ≠ D2 := fun e => by rw [e, sT _ _ gd] at hp; cases hp
      refine ⟨_, sp _ _ (sT _ _ gd), small1000 (by rw [List.length_map]; omega), as ++ [p], by simp [al], ?_, ?_, ?_, ?_⟩
      · rw [List.take_succ]
        have ez : (ys.zip ms)[i]? = some (ys[i], ms[i]) := by rw [List.getElem?_zip_eq_some]; exact ⟨List.getElem?_eq_getElem hy, List.getElem?_eq_getElem hi⟩
        rw [ez]
        refine Prs.snoc (Prs.same (fun b o hb e => ?_) pr) ?_
        · rw [upd_ne (nd b hb)]; exact sp _ _ (sT _ _ e)
        · rw [upd_ne nDp, upd_same]
      · intro b hb
        rcases List.mem_append.mp hb with hb | hb
        · exact nd b hb
        · rw [List.mem_singleton.mp hb]; exact nDp
      · rw [upd_same, List.map_append]; rfl
      · intro b o e
        have nb : b ≠ D2 := ne_of_none e hD2
        rw [upd_ne nb]; exact sp _ _ (sT _ _ (s3 _ _ e))
    · rintro H3 ⟨as, al, pr, nd, gd, s3⟩
      have lz : (ys.zip ms).length = ms.length := by simp [yl']
      rw [List.take_of_length_le (by omega)] at pr
      refine ⟨D2, _, rfl, SqL.of gd, fun p ob hp hob => ?_⟩
      have sp : Same H3 (upd H3 p (.frz ob (.tup (as.map V.ref)))) := Same.upd hp
      have so : SetOk (ys.zip ms) := by
        refine ⟨by omega, by omega, fun y hy => yo _ (List.of_mem_zip hy).1, fun y hy => msok _ (List.of_mem_zip hy).2, by rw [zip_fst ys ms yl']; exact yn, ?_⟩
        unfold many
        rw [zip_many ys ms 1 yl']; exact mfew
      exact q p as (ys.zip ms) l2 _ ⟨ob, upd_same, hob⟩ (pr.same fun b o _ e => sp b o e) so ((((M2.same s3).same sp)).mono (by omega)) ((F2.trail s3).trail sp)
end
end Ms
namespace Ms
open PySem PySem.Spec PyProof.Rows L2
/-- a tuple, its very object told or not -/
def TupO (O : HO) (xs : List V) : Prop := O = .tup xs ∨ ∃ ob, O = .frz ob (.tup xs)
theorem TupO.sq {K : PySem.W.Frag} {H : Hp} {a : Addr} {O : HO} {xs : List V} (t : TupO O xs) (h : H a = some O) : SqT K H a xs := by
  rcases t with rfl | ⟨ob, rfl⟩
  · exact .inl (.inl h)
  · exact .inl (.inr ⟨ob, h⟩)
theorem TupO.nd {O : HO} {xs : List V} (t : TupO O xs) : ∀ kv, O ≠ .dK kv := fun kv e => by
  rcases t with rfl | ⟨ob, rfl⟩ <;> cases e
theorem TupO.nl {O : HO} {xs : List V} (t : TupO O xs) : ∀ ys, O ≠ .lst ys := fun ys e => by
  rcases t with rfl | ⟨ob, rfl⟩ <;> cases e
structure TxtL (mg : Str → Option Value) (fN fM : Addr) : Prop extends TxtS mg fN fM where
  min : mg "min" = none
abbrev NPl : List Str := ["m", "spots", "most", "many", "words", "found", "back", "at", "way", "near", "low", "word", "name", "bound", "row", "k"]
theorem scPc : FnScope NPl ["m", "spots", "most"] (defScope sPlaces) := ⟨rfl, rfl, rfl, by decide +kernel, rfl, by decide +kernel, by decide +kernel⟩
def spPlacesT (K : PySem.W.Frag) : Sp := fun vs H Q _ => ∃ (m l a : Addr) (n : Nat) (as : List Addr) (qs : List (Str × Int)) (k : Nat) (O : HO), vs = [.ref m, .ref a, .int (k : Int)] ∧ Mch H m l n ∧ n < 600000 ∧ H a = some O ∧ TupO O (as.map V.ref) ∧ Prs H as qs ∧ okP qs ∧ 1 ≤ qs.length ∧ qs.length ≤ 3 ∧ 1 ≤ k ∧ k ≤ 16 ∧
  ∀ (p : Addr) (xs : List V) (ds : List PyData) (l' : Addr) (H' : Hp), H' p = some (.tup xs) → DqAll K H' m l' xs ds → Gd big 7500 3 (.tuple ds) → 1 ≤ ds.length → ds.length ≤ 16 → (∀ d ∈ ds, plD qs (ds.length : Int) d) → Mch H' m l' (n + 220) → Fr m l l' H H' → Q (.ref p) H'
section
variable {P : Program} {w : World} {K : PySem.W.Frag} {mg : Str → Option Value} {base : Heap} {fN fM : Addr}
abbrev thenOf (s : Stmt) : List Stmt := match s with
  | .If _ b _ _ => b
  | _ => []
abbrev elseOf (s : Stmt) : List Stmt := match s with
  | .If _ _ b _ => b
  | _ => []
abbrev bPlaces : List Stmt := match (defBody sPlaces).getD 2 (.Pass ⟨0, 0, 0, 0⟩) with
  | .For _ _ b _ _ => b
  | _ => []
theorem Stt.wD {K : PySem.W.Frag} {H0 Hb : Hp} {m l0 D W l : Addr} {ws : List Str} {od : Obj} {u acc : List V} {n : Nat} {ds : List PyData} (s : Stt K H0 m l0 D W ws od u l n acc ds Hb) {o : HO} : (upd Hb D o) W = some (.lst (ws.map V.str)) := by
  rw [upd_ne (ne_of s.w s.frz (fun z => nomatch z))]; exact s.w
theorem ok_placesT {f : Addr} {fd fdN fdM : FuncData} (F : Fun K "_law_places" "_law_places" sPlaces f fd) (T : TxtL mg fN fM) (FN : Fun K "_law_next" "_law_next" sNext fN fdN) (bN : Binds K fdN ["m", "many"] [])
    (FM : Fun K "_law_names" "_law_names" sNames fM fdM) (bM : Binds K fdM ["m", "many"] []) : FnOk P w K mg base CX0 3 f fd ["m", "spots", "most"] (spPlacesT K) := by
  have GN : FnOk P w K mg base CX0 2 fN fdN ["m", "many"] spNext := (ok_next FN T.toTxt).mono (by decide)
  have GM : FnOk P w K mg base CX0 2 fM fdM ["m", "many"] spNamesV := ok_namesV FM T.toTxtN FN bN
  refine F.ok scPc (fun vs H Q E h => ?_) (fun cdv A outer s H vs Q E hr h => ?_)
  · obtain ⟨m, l, a, n, as, qs, k, O, rfl, _⟩ := h
    rfl
  obtain ⟨m, l, a, n, as, qs, k, O, rfl, M, hn, ha, hO, hp, op, q1, q3, k1, k16, q⟩ := h
  have aM := M.nm ha hO.nd
  have aL := M.nl ha hO.nl
  have lq := hp.length
  have spot : ∀ {L W : Addr} {ws : List Str} {od : Obj} {u acc : List V} {l1 : Addr} {n1 : Nat} {ds : List PyData} {G : Hp} {o : HO}, H L = none → Stt K H m l L W ws od u l1 n1 acc ds G → (upd G L o) a = some O := fun hL s => by
    rw [upd_ne (ne_of_none ha hL)]; exact s.F.keep _ _ ha aM aL
  have stE : ∃ t, PSs (cxOf CX0 P w K mg base NPl "_law_places" (defScope sPlaces) f cdv A outer s H E).nox (thenOf (bPlaces.getD 2 (.Pass ⟨0, 0, 0, 0⟩))) t ∧ ∀ (Dn : Ends) (Hb : Hp) (L W : Addr) (ws : List Str) (od : Obj) (u acc : List V) (l1 : Addr) (n1 : Nat) (ds : List PyData) (many back ix way near low : Int) (v2 v11 v12 v13 v14 v15 : Option V),
      H L = none → Stt K H m l L W ws od u l1 n1 acc ds Hb → n1 < 900000 → ws.length = 3 → (∀ y ∈ ws, nmOk y) → acc.length ≤ 20 → 0 ≤ near → 0 ≤ low → low ≤ near → near < many → many ≤ 16 →
      (∀ (v11 v12 v13 v14 v15 : Option V) (od : Obj) (u : List V) (l2 : Addr) (n2 : Nat) (v : V) (d : PyData) (G : Hp), Stt K H m l L W ws od u l2 n2 (acc ++ [v]) (ds ++ [d]) G → PlG qs many d → n2 ≤ n1 + 0 →
        Dn.nx [some (.ref m), some (.ref a), v2, some (.int many), some (.ref W), some (.ref L), some (.int back), some (.int ix), some (.int way), some (.int near), some (.int low), v11, v12, v13, v14, v15] (upd G L (.lst (acc ++ [v])))) →
      t Dn [some (.ref m), some (.ref a), v2, some (.int many), some (.ref W), some (.ref L), some (.int back), some (.int ix), some (.int way), some (.int near), some (.int low), v11, v12, v13, v14, v15] (upd Hb L (.lst acc)) := by
    refine ⟨_, pss_one (ps_expr (pe_bm PySem.F.plainAttrs_list PySem.F.slot_list_append PySem.F.type_list_append mt_append (pv 5) (pa_cons (pe_lock (pe_tup (pa_cons pe_str pa_nil))) pa_nil))), ?_⟩
    intro Dn Hb L W ws od u acc l1 n1 ds many back ix way near low v2 v11 v12 v13 v14 v15 hL S hn1 wl wok al n0 lo0 lon nm m16 nx
    refine ⟨_, rfl, .inl ⟨rfl, _, SqL.of upd_same⟩, L, .lst acc, upd_same, trivial, fun od' => ?_⟩
    rw [upd_upd]
    have s1 := S.relock hL od' acc
    refine ⟨(by show 1 ≤ sizeLine; decide), fun p hp => ?_⟩
    have s2 := s1.grow (Same.upd (o := .tup [.str "end"]) hp)
    refine ⟨s2.frz, L, acc, _, rfl, rfl, upd_same, small1000 (by omega), ?_⟩
    rw [upd_upd]
    exact nx _ _ _ _ _ _ _ _ _ _ _ _ (s2.more (d := .tuple [.str "end"]) (.tup (.inl (.inl upd_same)) (.cons (.str _) .nil))) ⟨end_good, .inl rfl⟩ (Nat.le_refl _)
  have stD : ∃ t, PSs (cxOf CX0 P w K mg base NPl "_law_places" (defScope sPlaces) f cdv A outer s H E).nox (thenOf ((elseOf (bPlaces.getD 2 (.Pass ⟨0, 0, 0, 0⟩))).getD 0 (.Pass ⟨0, 0, 0, 0⟩))) t ∧ ∀ (Dn : Ends) (Hb : Hp) (L W : Addr) (ws : List Str) (od : Obj) (u acc : List V) (l1 : Addr) (n1 : Nat) (ds : List PyData) (many back ix way near low : Int) (v2 v11 v12 v13 v14 v15 : Option V),
      H L = none → Stt K H m l L W ws od u l1 n1 acc ds Hb → n1 < 900000 → ws.length = 3 → (∀ y ∈ ws, nmOk y) → acc.length ≤ 20 → 0 ≤ near → 0 ≤ low → low ≤ near → near < many → many ≤ 16 →
      (∀ (v11 v12 v13 v14 v15 : Option V) (od : Obj) (u : List V) (l2 : Addr) (n2 : Nat) (v : V) (d : PyData) (G : Hp), Stt K H m l L W ws od u l2 n2 (acc ++ [v]) (ds ++ [d]) G → PlG qs many d → n2 ≤ n1 + 3 →
        Dn.nx [some (.ref m), some (.ref a), v2, some (.int many), some (.ref W), some (.ref L), some (.int back), some (.int ix), some (.int way), some (.int near), some (.int low), v11, v12, v13, v14, v15] (upd G L (.lst (acc ++ [v])))) →
      t Dn [some (.ref m), some (.ref a), v2, some (.int many), some (.ref W), some (.ref L), some (.int back), some (.int ix), some (.int way), some (.int near), some (.int low), v11, v12, v13, v14, v15] (upd Hb L (.lst acc)) := by
    refine ⟨_, pss_cons (ps_set (i := 11) scPc.nd rfl (by first | exact Or.inl rfl | exact Or.inr rfl) (pe_ix ix_list (pv 4) (pe_lock (pe_call GN hr (by rfl) T.next FN.kp bN .nil pass0 (pa_cons (pv 0) (pa_cons pe_int pa_nil)))) (fun _ _ => rfl)))
      (pss_one (ps_expr (pe_bm PySem.F.plainAttrs_list PySem.F.slot_list_append PySem.F.type_list_append mt_append (pv 5) (pa_cons (pe_lock (pe_tup (pa_cons pe_str (pa_cons (pv 11) (pa_cons (pe_ifExp (pt_cmpR op_gt (pe_call GN hr (by rfl) T.next FN.kp bN .nil pass0 (pa_cons (pv 0) (pa_cons pe_int pa_nil))) pe_int (nomark _)) (pv 9) (pe_op op_add (pv 10) (pe_call GN hr (by rfl) T.next FN.kp bN .nil pass0 (pa_cons (pv 0) (pa_cons (pe_op op_sub (pv 3) (pv 10)) pa_nil))))) pa_nil))))) pa_nil)))), ?_⟩
    intro Dn Hb L W ws od u acc l1 n1 ds many back ix way near low v2 v11 v12 v13 v14 v15 hL S hn1 wl wok al n0 lo0 lon nm m16 nx
    refine ⟨_, rfl, lk_next hL S (by omega) rfl (by decide) (by decide) (fun _ _ h => h) fun r l2 G r0 r3 s1 => ?_⟩
    obtain ⟨j, rfl⟩ : ∃ j : Nat, r = (j : Int) := ⟨r.toNat, by omega⟩
    obtain ⟨y, hy⟩ : ∃ y, ws[j]? = some y := ⟨_, List.getElem?_eq_getElem (by omega)⟩
    have yo := wok y (List.mem_of_getElem? hy)
    refine ⟨W, _, (j : Int), .str y, rfl, rfl, SqL.of s1.wD, atI_nat (by rw [List.getElem?_map, hy]; rfl), ?_⟩
    refine ⟨_, rfl, .inl ⟨rfl, _, SqL.of upd_same⟩, L, .lst acc, upd_same, trivial, fun od' => ?_⟩
    rw [upd_upd]
    have s2 := s1.relock hL od' acc
    have fin : ∀ (r : Int) (l3 : Addr) (n3 : Nat) (G3 : Hp), 0 ≤ r → r < many → n3 ≤ n1 + 3 → Stt K H m l L W ws od' acc l3 n3 acc ds G3 → ∀ p, G3 p = none → (upd G3 p (.tup [.str "do", .str y, .int r])) L = some (.frz od' (.lst acc)) ∧ ∃ (p1 : Addr) (acc' : List V) (z : V), V.ref L = .ref p1 ∧ [V.ref p] = [z] ∧ (upd (upd G3 p (.tup [.str "do", .str y, .int r])) L (.lst acc)) p1 = some (.lst acc') ∧ acc'.length < sizeLine ∧
        Dn.nx [some (.ref m), some (.ref a), v2, some (.int many), some (.ref W), some (.ref L), some (.int back), some (.int ix), some (.int way), some (.int near), some (.int low), some (.str y), v12, v13, v14, v15] (upd (upd (upd G3 p (.tup [.str "do", .str y, .int r])) L (.lst acc)) p1 (.lst (acc' ++ [z]))) := by
      intro r l3 n3 G3 q0 q1 qn s3 p hp
      have s4 := s3.grow (Same.upd (o := .tup [.str "do", .str y, .int r]) hp)
      refine ⟨s4.frz, L, acc, _, rfl, rfl, upd_same, small1000 (by omega), ?_⟩
      rw [upd_upd]
      exact nx _ _ _ _ _ _ _ _ _ _ _ _ (s4.more (d := .tuple [.str "do", .str y, .int r]) (.tup (.inl (.inl upd_same)) (.cons (.str _) (.cons (.str _) (.cons (.int _) .nil))))) ⟨do_good yo.ok q0 (by omega), .inr (.inl ⟨y, r, rfl, yo, q0, q1⟩)⟩ qn
    refine ⟨_, rfl, _, rfl, m, l2, n1 + 1, 3, rfl, s2.M, by omega, by decide, by decide, fun r5 l3 G3 a5 b5 M3 f3 => ⟨_, _, rfl, rfl, _, rfl, ite_b (fun _ => ?_) (fun _ => ?_)⟩⟩
    · exact ⟨_, rfl, (by show 3 ≤ sizeLine; decide), fin near l3 (n1 + 1 + 1) G3 n0 (by omega) (by omega) (s2.step M3 f3)⟩
    · refine ⟨_, rfl, _, rfl, _, rfl, _, rfl, _, _, rfl, rfl, m, l3, n1 + 1 + 1, many - low, rfl, M3, by omega, by omega, by omega, fun r6 l4 G4 a6 b6 M4 f4 => ⟨low, r6, rfl, rfl, (by show 3 ≤ sizeLine; decide), ?_⟩⟩
      exact fin (low + r6) l4 (n1 + 1 + 1 + 1) G4 (by omega) (by omega) (by omega) ((s2.step M3 f3).step M4 f4)
  have stA : ∃ t, PSs (cxOf CX0 P w K mg base NPl "_law_places" (defScope sPlaces) f cdv A outer s H E).nox (elseOf ((elseOf (bPlaces.getD 2 (.Pass ⟨0, 0, 0, 0⟩))).getD 0 (.Pass ⟨0, 0, 0, 0⟩))) t ∧ ∀ (Dn : Ends) (Hb : Hp) (L W : Addr) (ws : List Str) (od : Obj) (u acc : List V) (l1 : Addr) (n1 : Nat) (ds : List PyData) (many back ix way near low : Int) (v2 v11 v12 v13 v14 v15 : Option V),
      H L = none → Stt K H m l L W ws od u l1 n1 acc ds Hb → n1 < 900000 → ws.length = 3 → (∀ y ∈ ws, nmOk y) → acc.length ≤ 20 → 0 ≤ near → 0 ≤ low → low ≤ near → near < many → many ≤ 16 →
      (∀ (v11 v12 v13 v14 v15 : Option V) (od : Obj) (u : List V) (l2 : Addr) (n2 : Nat) (v : V) (d : PyData) (G : Hp), Stt K H m l L W ws od u l2 n2 (acc ++ [v]) (ds ++ [d]) G → PlG qs many d → n2 ≤ n1 + 9 →
        Dn.nx [some (.ref m), some (.ref a), v2, some (.int many), some (.ref W), some (.ref L), some (.int back), some (.int ix), some (.int way), some (.int near), some (.int low), v11, v12, v13, v14, v15] (upd G L (.lst (acc ++ [v])))) →
      t Dn [some (.ref m), some (.ref a), v2, some (.int many), some (.ref W), some (.ref L), some (.int back), some (.int ix), some (.int way), some (.int near), some (.int low), v11, v12, v13, v14, v15] (upd Hb L (.lst acc)) := by
    refine ⟨_, pss_cons (ps_asg (pe_ix ix_tup (pv 1) (pe_lock (pe_call GN hr (by rfl) T.next FN.kp bN .nil pass0 (pa_cons (pv 0) (pa_cons (pe_callB call_len (by rfl) T.len PySem.boot_len (pa_cons (pv 1) pa_nil)) pa_nil)))) (fun _ _ => rfl)) (pg_tup rfl (pgs_cons (pg_name (i := 12) scPc.nd rfl (by first | exact Or.inl rfl | exact Or.inr rfl)) (pgs_cons (pg_name (i := 13) scPc.nd rfl (by first | exact Or.inl rfl | exact Or.inr rfl)) pgs_nil))))
        (pss_cons (ps_setLc (i := 14) (own := [("k", 15)]) (g := gName 15) (by rfl) scPc.nd rfl (by first | exact Or.inl rfl | exact Or.inr rfl | rfl) (by rfl) (pi_range1 (by rfl) T.range (pa_cons (pe_op op_add (pv 13) pe_int) pa_nil)) (blkOk_by (own := [("k", 15)]) (N := NPl) (sc := defScope sPlaces) (by decide +kernel))
          (fun _ _ _ _ _ => pg_name (i := 15) scPc.nd rfl (by first | exact Or.inl rfl | exact Or.inr rfl)) (fun _ _ _ _ _ => pts_nil) (fun _ _ _ _ _ => pe_ifExp (pt_cmpR op_eq (pe_lock (pe_lock (pe_call GN hr (by rfl) T.next FN.kp bN .nil pass0 (pa_cons (pv 0) (pa_cons pe_int pa_nil))))) pe_int (nomark _)) (pv 9) (pe_op op_add (pv 10) (pe_lock (pe_lock (pe_call GN hr (by rfl) T.next FN.kp bN .nil pass0 (pa_cons (pv 0) (pa_cons (pe_op op_sub (pv 3) (pv 10)) pa_nil))))))))
        (pss_one (ps_expr (pe_bm PySem.F.plainAttrs_list PySem.F.slot_list_append PySem.F.type_list_append mt_append (pv 5) (pa_cons (pe_lock (pe_tup (pa_cons pe_str (pa_cons (pv 12) (pa_cons (pe_callTy call_tuple_of (by rfl) T.tuple (by decide +kernel) (pa_cons (pv 14) pa_nil)) pa_nil))))) pa_nil))))), ?_⟩
    intro Dn Hb L W ws od u acc l1 n1 ds many back ix way near low v2 v11 v12 v13 v14 v15 hL S hn1 wl wok al n0 lo0 lon nm m16 nx
    refine ⟨_, rfl, lk_next (k := as.length) hL S (by omega) rfl (by omega) (by omega) (fun od' Q' h => ⟨_, rfl, .ref a, (as.map V.ref).length, rfl, .inr ⟨_, hO.sq (spot hL S), rfl⟩, by rw [List.length_map]; exact h⟩) fun r l2 G r0 r3 s1 => ?_⟩
    obtain ⟨j, rfl⟩ : ∃ j : Nat, r = (j : Int) := ⟨r.toNat, by omega⟩
    obtain ⟨x, hx⟩ : ∃ x, as[j]? = some x := ⟨_, List.getElem?_eq_getElem (by omega)⟩
    obtain ⟨y, c, hq, hxt⟩ := hp.get hx
    obtain ⟨yo, c1, c3⟩ := op _ (List.mem_of_getElem? hq)
    have hxG : ∀ {o : HO}, (upd G L o) x = some (.tup [.str y, .int c]) := fun {o} => by
      rw [upd_ne (ne_of_none hxt hL)]; exact s1.F.keep _ _ hxt (M.nm hxt (fun _ z => nomatch z)) (M.nl hxt (fun _ z => nomatch z))
    refine ⟨a, _, (j : Int), .ref x, rfl, rfl, hO.sq (spot hL s1), atI_nat (by rw [List.getElem?_map, hx]; rfl), ?_⟩
    refine ⟨x, _, rfl, .inl (.inl hxG), rfl, _, _, rfl, _, _, rfl, rfl, ?_⟩
    refine ⟨_, rfl, _, _, rfl, rfl, c + 1, rfl, by omega, by omega, fun D2 hD2 => ?_⟩
    have nD2 : D2 ≠ L := fun e => by rw [e, upd_same] at hD2; cases hD2
    have gD2 : G D2 = none := by rw [upd_ne nD2] at hD2; exact hD2
    have hD2H : H D2 = none := s1.F.free gD2
    obtain ⟨od0, e0⟩ : ∃ od0 : Obj, od0 = { cls := .none, data := .plain } := ⟨_, rfl⟩
    have sB := s1.grow (Same.upd (o := .frz od0 (.lst [])) gD2)
    refine lc_range (lo := 0) (n := (c + 1).toNat) (fun i H9 => ∃ (G1 : Hp) (l3 : Addr) (od od2 : Obj) (u u2 : List V) (ns : List Int), H9 = upd (upd G1 D2 (.lst (ns.map V.int))) L (.lst acc) ∧ Stt K H m l L W ws od u l3 (n1 + 1 + 2 * i) acc ds G1 ∧ G1 D2 = some (.frz od2 (.lst u2)) ∧ ns.length = i ∧ ∀ x ∈ ns, 0 ≤ x ∧ x < many)
      ⟨upd G D2 (.frz od0 (.lst [])), l2, od, od0, acc, [], [], by rw [upd_upd, upd_two nD2]; rfl, sB, upd_same, rfl, (fun x h => nomatch h)⟩ ?_ ?_
    · rintro i H9 hi ⟨G1, l3, od1, od2, u1, u2, ns, rfl, s3, g3, ln, hns⟩
      have pnt : ∀ (r : Int) (l4 : Addr) (od od2 : Obj) (G4 : Hp) (n4 : Nat), 0 ≤ r → r < many → n4 ≤ n1 + 1 + 2 * (i + 1) → Stt K H m l L W ws od acc l4 n4 acc ds G4 → G4 D2 = some (.frz od2 (.lst (ns.map V.int))) → ∃ acc', (upd (upd G4 D2 (.lst (ns.map V.int))) L (.lst acc)) D2 = some (.lst acc') ∧ acc'.length < sizeLine ∧
          ∃ (G1 : Hp) (l3 : Addr) (od od2 : Obj) (u u2 : List V) (ms : List Int), upd (upd (upd G4 D2 (.lst (ns.map V.int))) L (.lst acc)) D2 (.lst (acc' ++ [V.int r])) = upd (upd G1 D2 (.lst (ms.map V.int))) L (.lst acc) ∧ Stt K H m l L W ws od u l3 (n1 + 1 + 2 * (i + 1)) acc ds G1 ∧ G1 D2 = some (.frz od2 (.lst u2)) ∧ ms.length = i + 1 ∧ ∀ x ∈ ms, 0 ≤ x ∧ x < many := by
        intro r l4 od od2 G4 n4 q0 q1 qn s4 g4
        refine ⟨ns.map V.int, by rw [upd_ne nD2, upd_same], small1000 (by rw [List.length_map]; omega), G4, l4, od, od2, acc, _, ns ++ [r], ?_, s4.mono qn, g4, by simp [ln], fun x hx => ?_⟩
        · rw [← upd_two nD2, upd_upd, List.map_append]; rfl
        · rcases List.mem_append.mp hx with hx | hx
          · exact hns x hx
          · rw [List.mem_singleton.mp hx]; exact ⟨q0, q1⟩
      refine ⟨rfl, tyes ?_⟩
      delta tIf tTest tOp
      refine lk2_next hL hD2H nD2 s3 g3 (k := 3) (by omega) rfl (by decide) (by decide) (fun _ _ h => h) fun r l4 od4 od5 G4 a4 b4 s4 g4 => ⟨rfl, _, rfl, ite_b (fun _ => ?_) (fun _ => ?_)⟩
      · obtain ⟨acc', e1, e2, G1, l3, odx, ody, ux, uy, nsx, e3, e4, e5, e6, e7⟩ := pnt near l4 od4 od5 G4 _ n0 (by omega) (by omega) s4 g4
        exact ⟨_, rfl, acc', e1, e2, G1, l3, odx, ody, ux, uy, nsx, e3, e4, e5, e6, e7⟩
      · refine ⟨_, rfl, lk2_next hL hD2H nD2 s4 g4 (k := many - low) (by omega) rfl (by omega) (by omega) (fun _ _ h => ⟨_, rfl, _, rfl, _, _, rfl, rfl, h⟩) fun r6 l5 od6 od7 G5 a6 b6 s5 g5 => ⟨low, r6, rfl, rfl, ?_⟩⟩
        obtain ⟨acc', e1, e2, G1, l3, odx, ody, ux, uy, nsx, e3, e4, e5, e6, e7⟩ := pnt (low + r6) l5 od6 od7 G5 _ (by omega) (by omega) (by omega) s5 g5
        exact ⟨acc', e1, e2, G1, l3, odx, ody, ux, uy, nsx, e3, e4, e5, e6, e7⟩
    · rintro H9 ⟨G1, l3, od1, od2, u1, u2, ns, rfl, s3, g3, ln, hns⟩
      refine ⟨_, rfl, .inl ⟨rfl, _, SqL.of upd_same⟩, L, .lst acc, upd_same, trivial, fun od' => ?_⟩
      rw [upd_upd]
      have s4 := (s3.other g3 nD2 hD2H (.lst (ns.map V.int))).relock hL od' acc
      have gd : (upd (upd G1 D2 (.lst (ns.map V.int))) L (.frz od' (.lst acc))) D2 = some (.lst (ns.map V.int)) := by rw [upd_ne nD2, upd_same]
      refine ⟨_, rfl, _, rfl, D2, _, rfl, .inl ⟨SqL.of gd, fun p hp => ?_⟩⟩
      have s5 := s4.grow (Same.upd (o := .tup (ns.map V.int)) hp)
      refine ⟨(by show 3 ≤ sizeLine; decide), fun p2 hp2 => ?_⟩
      have s6 := s5.grow (Same.upd (o := .tup [.str "ask", .str y, .ref p]) hp2)
      have np : p ≠ p2 := fun e => by rw [← e, upd_same] at hp2; cases hp2
      refine ⟨s6.frz, L, acc, _, rfl, rfl, upd_same, small1000 (by omega), ?_⟩
      rw [upd_upd]
      refine nx _ _ _ _ _ _ _ _ _ _ _ _ (s6.more (d := .tuple [.str "ask", .str y, .tuple (ns.map .int)]) ?_) ⟨ask_good yo (fun x hx => ⟨(hns x hx).1, by have := (hns x hx).2; omega⟩) (by omega), .inr (.inr ⟨(y, c), List.mem_of_getElem? hq, ns, rfl, by show (ns.length : Int) = c + 1; omega, hns⟩)⟩ (by omega)
      exact .tup (.inl (.inl upd_same)) (.cons (.str _) (.cons (.str _) (.cons (.tup (.inl (.inl (by rw [upd_ne np, upd_same]))) (ints_dq ns)) .nil)))
  have stIf : ∃ t, PSs (cxOf CX0 P w K mg base NPl "_law_places" (defScope sPlaces) f cdv A outer s H E).nox (bPlaces.drop 2) t ∧ ∀ (Dn : Ends) (Hb : Hp) (L W : Addr) (ws : List Str) (od : Obj) (u acc : List V) (l1 : Addr) (n1 : Nat) (ds : List PyData) (many back ix way near low : Int) (v2 v11 v12 v13 v14 v15 : Option V),
      H L = none → Stt K H m l L W ws od u l1 n1 acc ds Hb → n1 < 800000 → ws.length = 3 → (∀ y ∈ ws, nmOk y) → acc.length ≤ 20 → 0 ≤ near → 0 ≤ low → low ≤ near → near < many → many ≤ 16 →
      (∀ (v11 v12 v13 v14 v15 : Option V) (od : Obj) (u : List V) (l2 : Addr) (n2 : Nat) (v : V) (d : PyData) (G : Hp), Stt K H m l L W ws od u l2 n2 (acc ++ [v]) (ds ++ [d]) G → PlG qs many d → n2 ≤ n1 + 10 →
        Dn.nx [some (.ref m), some (.ref a), v2, some (.int many), some (.ref W), some (.ref L), some (.int back), some (.int ix), some (.int way), some (.int near), some (.int low), v11, v12, v13, v14, v15] (upd G L (.lst (acc ++ [v])))) →
      t Dn [some (.ref m), some (.ref a), v2, some (.int many), some (.ref W), some (.ref L), some (.int back), some (.int ix), some (.int way), some (.int near), some (.int low), v11, v12, v13, v14, v15] (upd Hb L (.lst acc)) := by
    obtain ⟨tE, dE, zE⟩ := stE
    obtain ⟨tD, dD, zD⟩ := stD
    obtain ⟨tA, dA, zA⟩ := stA
    refine ⟨_, pss_one (ps_if (PW.pt (pw_or (pt_cmpR op_eq (pv 8) pe_int (nomark _)) (pw_or1 (PW.pt (pw_and (pt_cmpR op_eq (pv 7) (pe_op op_sub (pv 3) pe_int) (nomark _)) (pw_and1 (PW.pt (pw_or (pt_cmpR op_eq (pv 6) pe_int (nomark _)) (pw_or1 (pt_cmpR op_gt (pe_lock (pe_call GN hr (by rfl) T.next FN.kp bN .nil pass0 (pa_cons (pv 0) (pa_cons pe_int pa_nil)))) pe_int (nomark _))))))))))) dE (pss_one (ps_if (pt_cmpR op_lt (pv 8) pe_int (nomark _)) dD dA))), ?_⟩
    intro Dn Hb L W ws od u acc l1 n1 ds many back ix way near low v2 v11 v12 v13 v14 v15 hL S hn1 wl wok al n0 lo0 lon nm m16 nx
    have rest : ∀ (od : Obj) (u : List V) (l2 : Addr) (n2 : Nat) (G : Hp), Stt K H m l L W ws od u l2 n2 acc ds G → n2 ≤ n1 + 1 → tIfS (tTest (tOp (rI0 fun i j => V.bl (decide (i < j))) (tVar 8) (tC (V.int 4)))) tD tA Dn [some (.ref m), some (.ref a), v2, some (.int many), some (.ref W), some (.ref L), some (.int back), some (.int ix), some (.int way), some (.int near), some (.int low), v11, v12, v13, v14, v15] (upd G L (.lst acc)) := by
      intro od u l2 n2 G S2 h2
      refine ⟨_, rfl, _, _, rfl, rfl, _, rfl, ite_b (fun _ => ?_) (fun _ => ?_)⟩
      · exact zD Dn G L W ws od u acc l2 n2 ds many back ix way near low v2 v11 v12 v13 v14 v15 hL S2 (by omega) wl wok al n0 lo0 lon nm m16 fun v11 v12 v13 v14 v15 od u l3 n3 v d G s g h => nx v11 v12 v13 v14 v15 od u l3 n3 v d G s g (by omega)
      · exact zA Dn G L W ws od u acc l2 n2 ds many back ix way near low v2 v11 v12 v13 v14 v15 hL S2 (by omega) wl wok al n0 lo0 lon nm m16 fun v11 v12 v13 v14 v15 od u l3 n3 v d G s g h => nx v11 v12 v13 v14 v15 od u l3 n3 v d G s g (by omega)
    have endd : ∀ (od : Obj) (u : List V) (l2 : Addr) (n2 : Nat) (G : Hp), Stt K H m l L W ws od u l2 n2 acc ds G → n2 ≤ n1 + 1 → tE Dn [some (.ref m), some (.ref a), v2, some (.int many), some (.ref W), some (.ref L), some (.int back), some (.int ix), some (.int way), some (.int near), some (.int low), v11, v12, v13, v14, v15] (upd G L (.lst acc)) := fun od u l2 n2 G S2 h2 =>
      zE Dn G L W ws od u acc l2 n2 ds many back ix way near low v2 v11 v12 v13 v14 v15 hL S2 (by omega) wl wok al n0 lo0 lon nm m16 fun v11 v12 v13 v14 v15 od u l3 n3 v d G s g h => nx v11 v12 v13 v14 v15 od u l3 n3 v d G s g (by omega)
    refine ⟨_, rfl, rfl, _, rfl, ite_b (fun _ => ifT rfl (endd _ _ _ _ _ S (by omega))) (fun _ => ?_)⟩
    refine ⟨_, rfl, _, rfl, _, _, rfl, rfl, rfl, _, rfl, ite_b (fun _ => ?_) (fun _ => ifF rfl (rest _ _ _ _ _ S (by omega)))⟩
    refine ⟨_, rfl, rfl, _, rfl, ite_b (fun _ => ifT rfl (endd _ _ _ _ _ S (by omega))) (fun _ => ?_)⟩
    delta tTest tOp
    refine lk_next (k := 4) hL S (by omega) rfl (by decide) (by decide) (fun _ _ h => h) fun r l2 G r0 r3 s1 => ⟨_, _, rfl, rfl, _, rfl, ?_⟩
    by_cases e : (0 : Int) < r
    · exact ifT (decide_eq_true e) (endd _ _ _ _ _ s1 (Nat.le_refl _))
    · exact ifF (decide_eq_false e) (rest _ _ _ _ _ s1 (Nat.le_refl _))
  have stB : ∃ t, PSs (cxOf CX0 P w K mg base NPl "_law_places" (defScope sPlaces) f cdv A outer s H E).nox bPlaces t ∧ ∀ (Dn : Ends) (Hb : Hp) (L W : Addr) (ws : List Str) (od : Obj) (u acc : List V) (l1 : Addr) (n1 : Nat) (ds : List PyData) (many back ix : Int) (v2 v8 v9 v10 v11 v12 v13 v14 v15 : Option V),
      H L = none → Stt K H m l L W ws od u l1 n1 acc ds Hb → n1 < 700000 → ws.length = 3 → (∀ y ∈ ws, nmOk y) → acc.length ≤ 20 → 0 ≤ ix → ix < many → many ≤ 16 → (back = 0 ∨ back = 1) →
      (∀ (v8b v9b v10b v11b v12b v13b v14b v15b : Option V) (od : Obj) (u : List V) (l2 : Addr) (n2 : Nat) (v : V) (d : PyData) (G : Hp), Stt K H m l L W ws od u l2 n2 (acc ++ [v]) (ds ++ [d]) G → PlG qs many d → n2 ≤ n1 + 11 →
        Dn.nx [some (.ref m), some (.ref a), v2, some (.int many), some (.ref W), some (.ref L), some (.int back), some (.int ix), v8b, v9b, v10b, v11b, v12b, v13b, v14b, v15b] (upd G L (.lst (acc ++ [v])))) →
      t Dn [some (.ref m), some (.ref a), v2, some (.int many), some (.ref W), some (.ref L), some (.int back), some (.int ix), v8, v9, v10, v11, v12, v13, v14, v15] (upd Hb L (.lst acc)) := by
    obtain ⟨tI, dI, zI⟩ := stIf
    refine ⟨_, pss_cons (ps_asg (pe_lock (pe_tup (pa_cons (pe_call GN hr (by rfl) T.next FN.kp bN .nil pass0 (pa_cons (pv 0) (pa_cons pe_int pa_nil))) (pa_cons (pe_callB (call_min2 rfl) (by rfl) T.min (by decide +kernel) (pa_cons (pe_op op_add (pv 7) pe_int) (pa_cons (pe_op op_sub (pv 3) pe_int) pa_nil))) pa_nil)))) (pg_tup rfl (pgs_cons (pg_name (i := 8) scPc.nd rfl (by first | exact Or.inl rfl | exact Or.inr rfl)) (pgs_cons (pg_name (i := 9) scPc.nd rfl (by first | exact Or.inl rfl | exact Or.inr rfl)) pgs_nil))))
      (pss_cons (ps_set (i := 10) scPc.nd rfl (by first | exact Or.inl rfl | exact Or.inr rfl) (pe_op op_mul (pv 9) (pe_op op_sub pe_int (pv 6)))) dI), ?_⟩
    intro Dn Hb L W ws od u acc l1 n1 ds many back ix v2 v8 v9 v10 v11 v12 v13 v14 v15 hL S hn1 wl wok al i0 im m16 hb nx
    refine ⟨L, .lst acc, upd_same, trivial, fun od' => ?_⟩
    rw [upd_upd]
    have s1 := S.relock hL od' acc
    refine ⟨_, rfl, m, l1, n1, 7, rfl, s1.M, by omega, by decide, by decide, fun r l2 G r0 r7 M2 f2 => ?_⟩
    have s2 := s1.step M2 f2
    refine ⟨_, rfl, _, _, rfl, rfl, _, rfl, _, _, rfl, rfl, ix + 1, many - 1, rfl, (by show 2 ≤ sizeLine; decide), fun p hp => ?_⟩
    obtain ⟨near, hne⟩ : ∃ near : Int, near = if many - 1 < ix + 1 then many - 1 else ix + 1 := ⟨_, rfl⟩
    rw [← hne]
    have nb : 0 ≤ near ∧ near < many := by rw [hne]; split <;> omega
    have s3 := s2.grow (Same.upd (o := .tup [.int r, .int near]) hp)
    have gp : (upd (upd G p (.tup [.int r, .int near])) L (.lst acc)) p = some (.tup [.int r, .int near]) := by
      rw [upd_ne (fun e => by rw [e] at hp; exact absurd (s2.frz.symm.trans hp) (fun z => nomatch z)), upd_same]
    refine ⟨s3.frz, p, _, rfl, .inl (.inl gp), rfl, _, _, rfl, _, _, rfl, rfl, ?_⟩
    refine ⟨_, rfl, _, rfl, _, _, rfl, rfl, _, _, rfl, rfl, .inl ⟨by omega, by omega⟩, ?_⟩
    have lb : 0 ≤ near * (1 - back) ∧ near * (1 - back) ≤ near := by
      rcases hb with rfl | rfl
      · rw [show near * (1 - 0) = near by omega]; omega
      · rw [show near * (1 - 1) = 0 by omega]; omega
    refine zI Dn _ L W ws od' acc acc l2 (n1 + 1) ds many back ix r near (near * (1 - back)) v2 _ _ _ _ _ hL s3 (by omega) wl wok al nb.1 lb.1 lb.2 nb.2 m16 fun _ _ _ _ _ od u l3 n3 v d G s g h => nx _ _ _ _ _ _ _ _ _ _ _ _ _ _ _ s g (by omega)
  obtain ⟨tB, dB, zB⟩ := stB
  refine ⟨_, pss_cons (ps_asg (pe_tup (pa_cons (pe_op op_add pe_int (pe_call GN hr (by rfl) T.next FN.kp bN .nil pass0 (pa_cons (pv 0) (pa_cons (pv 2) pa_nil)))) (pa_cons (pe_call GM hr (by rfl) T.names FM.kp bM .nil pass0 (pa_cons (pv 0) (pa_cons pe_int pa_nil))) pa_nil))) (pg_tup rfl (pgs_cons (pg_name (i := 3) scPc.nd rfl (by first | exact Or.inl rfl | exact Or.inr rfl)) (pgs_cons (pg_name (i := 4) scPc.nd rfl (by first | exact Or.inl rfl | exact Or.inr rfl)) pgs_nil))))
    (pss_cons (ps_par (i := 5) (j := 6) (by rfl) scPc.nd rfl rfl (by decide) rfl rfl (pa_cons (pe_lst pa_nil) (pa_cons (pe_lock (pe_call GN hr (by rfl) T.next FN.kp bN .nil pass0 (pa_cons (pv 0) (pa_cons pe_int pa_nil)))) pa_nil)) (by rfl))
    (pss_cons (ps_for PassesOwn.never rfl (pi_range1 (by rfl) T.range (pa_cons (pv 3) pa_nil)) (pg_name (i := 7) scPc.nd rfl (by first | exact Or.inl rfl | exact Or.inr rfl)) dB)
    (pss_one (ps_ret (pe_callTy call_tuple_of (by rfl) T.tuple (by decide +kernel) (pa_cons (pv 5) pa_nil)))))), ?_⟩
  refine ⟨_, rfl, _, rfl, m, l, n, (k : Int), rfl, M, by omega, by omega, by omega, fun r l1 H1 r0 r1 M1 f1 => ⟨1, r, rfl, rfl, ?_⟩⟩
  refine ⟨_, rfl, m, l1, n + 1, 3, rfl, M1, by omega, by decide, by decide, fun W ws l2 H2 hW gW wl wn wok nm nl M2 f2 => ?_⟩
  refine ⟨(by show 2 ≤ sizeLine; decide), fun p3 h3 => ⟨p3, _, rfl, .inl (.inl upd_same), rfl, _, _, rfl, _, _, rfl, rfl, ?_⟩⟩
  obtain ⟨G3, e3⟩ : ∃ G3, G3 = upd H2 p3 (.tup [.int (1 + r), .ref W]) := ⟨_, rfl⟩
  have s3 : Same H2 G3 := e3 ▸ Same.upd h3
  have F3 : Fr m l l2 H G3 := e3 ▸ (f1.trans f2).junk h3
  rw [← e3]
  refine ⟨(by show 0 ≤ sizeLine; decide), fun L hL => ?_⟩
  have hLH : H L = none := F3.free hL
  obtain ⟨od0, e0⟩ : ∃ od0 : Obj, od0 = { cls := .none, data := .plain } := ⟨_, rfl⟩
  have s0 : Stt K H m l L W ws od0 [] l2 (n + 1 + 11) [] [] (upd G3 L (.frz od0 (.lst []))) :=
    ⟨upd_same, (M2.same s3).same (Same.upd hL), F3.junk hL, (Same.upd hL) _ _ (s3 _ _ gW), nl, .nil⟩
  have e4 : upd G3 L (.lst []) = upd (upd G3 L (.frz od0 (.lst []))) L (.lst []) := (upd_upd ..).symm
  rw [e4]
  refine lk_next (k := 2) hLH s0 (by omega) rfl (by decide) (by decide) (fun _ _ h => h) fun r2 l3 G4 a2 b2 s4 => ?_
  refine ⟨_, _, rfl, ?_⟩
  refine ⟨_, rfl, _, rfl, by omega, by omega, ?_⟩
  refine for_range (lo := 0) (n := (1 + r).toNat) (fun i σ H2 => ∃ (G : Hp) (l2 : Addr) (od : Obj) (u acc : List V) (n2 : Nat) (ds : List PyData) (v7 v8 v9 v10 v11 v12 v13 v14 v15 : Option V), σ = [some (.ref m), some (.ref a), some (.int (k : Int)), some (.int (1 + r)), some (.ref W), some (.ref L), some (.int r2), v7, v8, v9, v10, v11, v12, v13, v14, v15] ∧ H2 = upd G L (.lst acc) ∧
      Stt K H m l L W ws od u l2 n2 acc ds G ∧ n2 ≤ n + 13 + 11 * i ∧ acc.length = i ∧ Gl' big (461 * i) 2 ds ∧ ∀ d ∈ ds, plD qs (1 + r) d)
    ⟨_, l3, _, _, [], _, [], _, _, _, _, _, _, _, _, _, rfl, rfl, s4, by omega, rfl, ⟨(fun d h => nomatch h), Nat.le_refl _, (fun d h => nomatch h)⟩, (fun d h => nomatch h)⟩ ?_ ?_
  · rintro i σ H2 hi ⟨G, l4, od, u, acc, n2, ds, v7, v8, v9, v10, v11, v12, v13, v14, v15, rfl, rfl, s6, h6, al, gl, pd⟩
    refine zB _ G L W ws od u acc l4 n2 ds (1 + r) r2 (0 + (i : Int)) _ v8 v9 v10 v11 v12 v13 v14 v15 hLH s6 (by omega) wl (fun y hy => wok y hy) (by omega) (by omega) (by omega) (by omega) (by omega) ?_
    intro v8 v9 v10 v11 v12 v13 v14 v15 od u l5 n5 v d G5 s7 gd h7
    exact ⟨G5, l5, od, u, _, n5, _, _, v8, v9, v10, v11, v12, v13, v14, v15, rfl, rfl, s7, by omega, by simp [al], (gl.app (Gl'.one gd.1)).mono (Nat.le_refl _) (by omega) (Nat.le_refl _), fun d' hd' => (List.mem_append.mp hd').elim (pd d') (fun h => by rw [List.mem_singleton.mp h]; exact gd.2)⟩
  · rintro σ H2 ⟨G, l4, od, u, acc, n2, ds, v7, v8, v9, v10, v11, v12, v13, v14, v15, rfl, rfl, s6, h6, al, gl, pd⟩
    refine ⟨_, rfl, L, acc, rfl, .inl ⟨SqL.of upd_same, fun p hp => ?_⟩⟩
    have sp : Same (upd G L (.lst acc)) (upd (upd G L (.lst acc)) p (.tup acc)) := Same.upd hp
    have ld := s6.it.len
    have ed : (1 + r : Int) = (ds.length : Int) := by omega
    have pd' : ∀ d ∈ ds, plD qs (ds.length : Int) d := fun d hd => by rw [← ed]; exact pd d hd
    exact q p acc ds l4 _ upd_same (DqAll.same sp _ _ (DqAll.unlock s6.frz s6.it)) ((Gd.tup gl).mono (Nat.le_refl _) (by omega) (Nat.le_refl _)) (by omega) (by omega) pd' (((Mch.unlock s6.frz s6.M).same sp).mono (by omega)) ((s6.F.relock hLH).junk hp)
end
end Ms
namespace Ms
open PySem PySem.Spec PyProof.Rows L2
/-! ### _law_modes -/
abbrev NMd : List Str := ["m", "spots", "spot"]
theorem scMd : FnScope NMd ["m", "spots"] (defScope sModes) := ⟨rfl, rfl, rfl, by decide +kernel, rfl, by decide +kernel, by decide +kernel⟩
def spModesT (K : PySem.W.Frag) : Sp := fun vs H Q _ => ∃ (m l a : Addr) (n : Nat) (as : List Addr) (O : HO), vs = [.ref m, .ref a] ∧ Mch H m l n ∧ n < 600000 ∧ H a = some O ∧ TupO O (as.map V.ref) ∧ as.length ≤ 3 ∧
  ∀ (p : Addr) (zs : List Str) (l' : Addr) (H' : Hp), H' p = some (.tup (zs.map V.str)) → zs.length = as.length → (∀ z ∈ zs, z ∈ (["live", "met", "begin"] : List Str)) → Mch H' m l' (n + 3) → Fr m l l' H H' → Q (.ref p) H'
theorem md_at {r : Int} (h0 : 0 ≤ r) (h1 : r < 4) : ∃ z : Str, atI ([.str "live", .str "live", .str "met", .str "begin"] : List V) r = some (.str z) ∧ z ∈ (["live", "met", "begin"] : List Str) := by
  obtain ⟨j, rfl⟩ : ∃ j : Nat, r = (j : Int) := ⟨r.toNat, by omega⟩
  have hj : j < 4 := by omega
  match j, hj with
  | 0, _ => exact ⟨"live", rfl, by decide⟩
  | 1, _ => exact ⟨"live", rfl, by decide⟩
  | 2, _ => exact ⟨"met", rfl, by decide⟩
  | 3, _ => exact ⟨"begin", rfl, by decide⟩
section
variable {P : Program} {w : World} {K : PySem.W.Frag} {mg : Str → Option Value} {base : Heap} {fN fM : Addr}
theorem ok_modesT {f : Addr} {fd fdN : FuncData} (F : Fun K "_law_modes" "_law_modes" sModes f fd) (T : TxtS mg fN fM) (FN : Fun K "_law_next" "_law_next" sNext fN fdN) (bN : Binds K fdN ["m", "many"] []) : FnOk P w K mg base CX0 2 f fd ["m", "spots"] (spModesT K) := by
  have GN : FnOk P w K mg base CX0 1 fN fdN ["m", "many"] spNext := ok_next FN T.toTxt
  refine F.ok scMd (fun vs H Q E h => ?_) (fun cdv A outer s H vs Q E hr h => ?_)
  · obtain ⟨m, l, a, n, as, O, rfl, _⟩ := h
    rfl
  obtain ⟨m, l, a, n, as, O, rfl, M, hn, ha, hO, h3, q⟩ := h
  refine ⟨_, pss_one (ps_ret (pe_callTy call_tuple_of (by rfl) T.tuple (by decide +kernel) (pa_cons (pe_lc (own := [("spot", 2)]) (g := gName 2) (by rfl) scMd.nd (pi_tup (pv 1)) (blkOk_by (own := [("spot", 2)]) (N := NMd) (sc := defScope sModes) (by decide +kernel))
    (fun _ _ _ _ _ => pg_name (i := 2) scMd.nd rfl (by first | exact Or.inl rfl | exact Or.inr rfl)) (fun _ _ _ _ _ => pts_nil) (fun _ _ _ _ _ => pe_lock (pe_ix (show IxR _ (rIxL K) from ix_list) (pe_lst (pa_cons pe_str (pa_cons pe_str (pa_cons pe_str (pa_cons pe_str pa_nil))))) (pe_call GN hr (by rfl) T.next FN.kp bN .nil pass0 (pa_cons (pv 0) (pa_cons pe_int pa_nil))) (fun _ _ => rfl)))) pa_nil))), ?_⟩
  refine ⟨_, rfl, a, rfl, ⟨_, hO.sq ha⟩, fun D hD => ?_⟩
  have aM := M.nm ha hO.nd
  have aL := M.nl ha hO.nl
  have nD := M.ne hD
  obtain ⟨od0, e0⟩ : ∃ od0 : Obj, od0 = { cls := .none, data := .plain } := ⟨_, rfl⟩
  refine lc_it (walk_tup (xs := as.map V.ref)) (fun i H3 => ∃ (Hb : Hp) (od : Obj) (u : List V) (zs : List Str) (l2 : Addr), H3 = upd Hb D (.lst (zs.map V.str)) ∧ Hb D = some (.frz od (.lst u)) ∧ Mch Hb m l2 (n + i) ∧ Fr m l l2 H Hb ∧ zs.length = i ∧ ∀ z ∈ zs, z ∈ (["live", "met", "begin"] : List Str))
    ⟨upd H D (.frz od0 (.lst [])), od0, [], [], l, by rw [upd_upd]; rfl, upd_same, M.same (Same.upd hD), (Fr.refl M).junk hD, rfl, (fun z h => nomatch h)⟩ (fun i H3 _ ⟨Hb, od, u, zs, l2, e3, g, M3, f3, _⟩ => hO.sq (by rw [e3, upd_ne (ne_of_none ha hD)]; exact f3.keep _ _ ha aM aL)) ?_ ?_
  · rintro i x H3 H4 hi ⟨Hb, od, u, zs, l2, rfl, g, M3, f3, zl, zo⟩ ⟨rfl, hx⟩
    rw [List.length_map] at hi
    refine ⟨rfl, tyes ⟨D, .lst (zs.map V.str), upd_same, trivial, fun od' => ?_⟩⟩
    rw [upd_upd]
    have M4 : Mch (upd Hb D (.frz od' (.lst (zs.map V.str)))) m l2 (n + i) := Mch.unlock g M3
    have f4 := f3.relock (o := .frz od' (.lst (zs.map V.str))) hD
    refine ⟨(by show 4 ≤ sizeLine; decide), fun p hp => ?_⟩
    have sp : Same (upd Hb D (.frz od' (.lst (zs.map V.str)))) (upd (upd Hb D (.frz od' (.lst (zs.map V.str)))) p (.lst [.str "live", .str "live", .str "met", .str "begin"])) := Same.upd hp
    have np := M4.ne hp
    refine ⟨_, rfl, m, l2, n + i, 4, rfl, M4.same sp, by omega, by decide, by decide, fun r l5 H5 r0 r4 M5 f5 => ?_⟩
    obtain ⟨z, hz, zk⟩ := md_at r0 r4
    have g5 : H5 D = some (.frz od' (.lst (zs.map V.str))) := f5.keep _ _ (sp _ _ upd_same) (M4.nm upd_same (fun _ z => nomatch z)) (M4.nl upd_same (fun _ z => nomatch z))
    refine ⟨p, _, r, .str z, rfl, rfl, SqL.of (f5.keep _ _ upd_same np.1 np.2), hz, g5, zs.map V.str, upd_same, small1000 (by rw [List.length_map]; omega), H5, od', _, zs ++ [z], l5, ?_, g5, M5, f4.trans (Fr.lead sp f5), by simp [zl], fun y hy => ?_⟩
    · rw [upd_upd, List.map_append]; rfl
    · rcases List.mem_append.mp hy with hy | hy
      · exact zo y hy
      · rw [List.mem_singleton.mp hy]; exact zk
  · rintro H3 ⟨Hb, od, u, zs, l2, rfl, g, M3, f3, zl, zo⟩
    rw [List.length_map] at zl M3
    refine ⟨D, _, rfl, .inl ⟨SqL.of upd_same, fun p hp => ?_⟩⟩
    have sp : Same (upd Hb D (.lst (zs.map V.str))) (upd (upd Hb D (.lst (zs.map V.str))) p (.tup (zs.map V.str))) := Same.upd hp
    exact q p zs l2 _ upd_same zl zo (((Mch.unlock g M3).same sp).mono (by omega)) ((f3.relock hD).junk hp)
end
end Ms
namespace Ms
open PySem PySem.Spec PyProof.Rows L2 LamX StX
/-! ### law k56: a turn -/
abbrev forBody (s : Stmt) : List Stmt := match s with
  | .For _ _ b _ _ => b
  | _ => []
abbrev bTurn : List Stmt := forBody ((defBody sLaw).getD 1 (.Pass ⟨0, 0, 0, 0⟩))
abbrev bAgain : List Stmt := forBody (bTurn.getD 5 (.Pass ⟨0, 0, 0, 0⟩))
abbrev NL : List Str := ["script", "m", "turn", "spots", "places", "modes", "text_so", "more", "again"]
theorem scL : FnScope NL ["script"] (defScope sLaw) := ⟨rfl, rfl, rfl, by decide +kernel, rfl, by decide +kernel, by decide +kernel⟩
theorem FrT.fr {H H' : Hp} {m l l' p : Addr} {n : Nat} {xs : List V} (M : Mch H m l n) (f : Fr m l l' H H') (h : FrT H p xs) : FrT H' p xs := by
  obtain ⟨ob, e, d⟩ := h
  exact ⟨ob, f.keep _ _ e (M.nm e (fun _ z => nomatch z)) (M.nl e (fun _ z => nomatch z)), d⟩
theorem Prs.fr {H H' : Hp} {m l l' : Addr} {n : Nat} {as : List Addr} {ys : List (Str × Int)} (M : Mch H m l n) (f : Fr m l l' H H') (p : Prs H as ys) : Prs H' as ys :=
  Prs.same (fun b o hb h => by
    obtain ⟨y, i, h2⟩ := p.live b hb
    rw [h2] at h
    cases h
    exact f.keep _ _ h2 (M.nm h2 (fun _ z => nomatch z)) (M.nl h2 (fun _ z => nomatch z))) p
/-- what stands in a turn -/
structure T56 (K : PySem.W.Frag) (Pt : Addr) (H : Hp) (m l : Addr) (n : Nat) (pS : Addr) (as : List Addr) (ys : List (Str × Int)) (pM : Addr) (ms : List Str) : Prop where
  M : Mch H m l n
  t : Tabs [(Pt, lamQ)] H
  s : FrT H pS (as.map V.ref)
  p : Prs H as ys
  so : SetOk ys
  hM : H pM = some (.lst (ms.map V.str))
  nM : pM ≠ l
theorem T56.ext {K : PySem.W.Frag} {Pt : Addr} {H H' : Hp} {m l : Addr} {n : Nat} {pS : Addr} {as : List Addr} {ys : List (Str × Int)} {pM : Addr} {ms : List Str} (T : T56 K Pt H m l n pS as ys pM ms) (e : ExtN H H') (t : Tabs [(Pt, lamQ)] H') : T56 K Pt H' m l n pS as ys pM ms :=
  ⟨Mch.ext e T.M, t, FrT.extY e T.s, Prs.extY e T.p, T.so, e _ _ T.hM (fun _ z => nomatch z), T.nM⟩
theorem T56.step {K : PySem.W.Frag} {Pt : Addr} {H H' : Hp} {m l l' : Addr} {n n' : Nat} {pS : Addr} {as : List Addr} {ys : List (Str × Int)} {pM : Addr} {ms : List Str} (T : T56 K Pt H m l n pS as ys pM ms) (M' : Mch H' m l' n') (f : Fr m l l' H H') : T56 K Pt H' m l' n' pS as ys pM ms :=
  ⟨M', Tabs.fr T.M f T.t, FrT.fr T.M f T.s, Prs.fr T.M f T.p, T.so, (keepL T.M f T.hM T.nM).1, (keepL T.M f T.hM T.nM).2⟩
section
variable {P : Program} {w : World} {K : PySem.W.Frag} {mg : Str → Option Value} {base : Heap} {fN fSe fPc fMd fRl fSh fRI fBt C f Pt : Addr} {cdv : Value} {fdN fdS fdPc fdMd fdRl fdSh fdRI fdBt : FuncData} {s : Shared} {H0 : Hp} {Eb : XK}
theorem law_again (hrep : mg "repr" = none)
    (gSh : mg "_law_shown" = some (.ref fSh)) (kSh : PySem.W.keepIn K (.ref fSh) = true) (bSh : Binds K fdSh ["spots", "text_so"] []) (GSh : FnOk P w K mg base CX0 11 fSh fdSh ["spots", "text_so"] (spSh K Pt))
    (gRI : mg "_law_request_in" = some (.ref fRI)) (kRI : PySem.W.keepIn K (.ref fRI) = true) (bRI : Binds K fdRI ["spots", "text_so"] []) (GRI : FnOk P w K mg base CX0 3 fRI fdRI ["spots", "text_so"] (spRIn K))
    (gBt : mg "_law_bent_text" = some (.ref fBt)) (kBt : PySem.W.keepIn K (.ref fBt) = true) (bBt : Binds K fdBt ["m", "text_so", "more"] []) (GBt : FnOk P w K mg base CX0 2 fBt fdBt ["m", "text_so", "more"] spBT)
    (hr : Room 11 (callerA.deeper (envOfC "law" (defScope sLaw) s.heap.objs.size f cdv))) :
    ∃ t, PSs (cxOf CX0 P w K mg base NL "law" (defScope sLaw) f cdv callerA [] s H0 Eb).nox bAgain t ∧ ∀ (D : Ends) (H1 : Hp) (a m l : Addr) (n : Nat) (pS : Addr) (as : List Addr) (ys : List (Str × Int)) (pM : Addr) (ms : List Str) (z : Str) (b : Nat) (v2 v4 v5 v8 : Option V),
      T56 K Pt H1 m l n pS as ys pM ms → n < 500000 → ms ≠ [] → ms.length ≤ 100 → (∀ y ∈ ms, sOk 16 y) → sOk b z → b ≤ 90000 →
      (∀ (z' : Str) (l' : Addr) (H2 : Hp), T56 K Pt H2 m l' (n + 9) pS as ys pM ms → sOk (2 * b + 40) z' → D.nx [some (.ref a), some (.ref m), v2, some (.ref pS), v4, v5, some (.str z'), some (.ref pM), v8] H2) →
      t D [some (.ref a), some (.ref m), v2, some (.ref pS), v4, v5, some (.str z), some (.ref pM), v8] H1 := by
  have gA : (callerA.deeper (envOfC "law" (defScope sLaw) s.heap.objs.size f cdv)).guards = some [] := rfl
  have hr2 : Room 2 (callerA.deeper (envOfC "law" (defScope sLaw) s.heap.objs.size f cdv)) := hr.mono (by decide)
  have hr3 : Room 3 (callerA.deeper (envOfC "law" (defScope sLaw) s.heap.objs.size f cdv)) := hr.mono (by decide)
  refine ⟨_, pss_cons (ps_if (pt_cmpR op_ne (pe_callB (call_reprD gA hr.units) (by rfl) hrep (by decide +kernel) (pa_cons (pe_call GSh hr (by rfl) gSh kSh bSh .nil pass0 (pa_cons (pv 3) (pa_cons (pv 6) pa_nil))) pa_nil)) (pe_callB (call_reprD gA hr.units) (by rfl) hrep (by decide +kernel) (pa_cons (pe_call GRI hr3 (by rfl) gRI kRI bRI .nil pass0 (pa_cons (pv 3) (pa_cons (pv 6) pa_nil))) pa_nil)) (nomark _)) (pss_one (ps_ret pe_bl)) pss_nil)
    (pss_one (ps_set (i := 6) scL.nd rfl (by first | exact Or.inl rfl | exact Or.inr rfl) (pe_call GBt hr2 (by rfl) gBt kBt bBt .nil pass0 (pa_cons (pv 1) (pa_cons (pv 6) (pa_cons (pv 7) pa_nil)))))), ?_⟩
  intro D H1 a m l n pS as ys pM ms z b v2 v4 v5 v8 T hn mne ml mok oz hb nx
  have sh := dueT_shown (lss := linesOf z) T.so
  refine ⟨_, rfl, _, rfl, pS, pS, pS, as, ys, .str z, .str z, rfl, T.s, T.p, T.so, .str _, (fun y ey => by cases ey; exact oz.mono (by omega)), T.t, fun v' H2 e2 t2 dq2 => ⟨v', dueT (readR ys (linesOf z)), pS, pS, rfl, dq2, sh.1, sh.2.1, sh.2.2, ?_⟩⟩
  have T2 := T.ext e2 t2
  refine ⟨_, rfl, _, rfl, pS, as, ys, z, rfl, T2.s, T2.p, T.so, oz.mono (by omega), fun v3 H3 s3 dq3 => ⟨v3, dueT (readR ys (linesOf z)), pS, pS, rfl, dq3, sh.1, sh.2.1, sh.2.2, rfl, _, rfl, ifF (by simp) ?_⟩⟩
  have T3 := T2.ext (Same.toN s3) (Tabs.same t2 s3)
  exact ⟨_, rfl, _, rfl, _, rfl, m, l, pM, n, z, ms, b, rfl, T3.M, by omega, T3.hM, T3.nM, mne, ml, mok, oz, hb, fun z' l' H4 oz' M4 f4 => nx z' l' H4 (T3.step M4 f4) oz'⟩
end
end Ms
namespace Ms
open PySem PySem.Spec PyProof.Rows L2 LamX StX
/-! ### law k56: a turn, the law -/
theorem at_last {as : List Addr} (h1 : 1 ≤ as.length) (h3 : as.length ≤ 3) : ∃ (i : Nat) (a : Addr), as[i]? = some a ∧ atI (as.map V.ref) (-1) = some (.ref a) := by
  match as, h1, h3 with
  | [x], _, _ => exact ⟨0, x, rfl, rfl⟩
  | [x, y], _, _ => exact ⟨1, y, rfl, rfl⟩
  | [x, y, z], _, _ => exact ⟨2, z, rfl, rfl⟩
theorem prs_at {H : Hp} : ∀ {as : List Addr} {ys : List (Str × Int)}, Prs H as ys → ∀ {i : Nat} {a : Addr}, as[i]? = some a → ∃ q ∈ ys, H a = some (.tup [.str q.1, .int q.2])
  | _, _, .nil, i, a, h => by cases i <;> cases h
  | _, _, .cons h t, 0, a, hi => by
    cases hi
    exact ⟨_, List.mem_cons_self .., h⟩
  | _, _, .cons h t, i + 1, a, hi => by
    obtain ⟨q', h1, h2⟩ := prs_at t (i := i) (a := a) hi
    exact ⟨q', List.mem_cons_of_mem _ h1, h2⟩
def more16 : List Str := ["", "0", "1", "9", "00", "01", "15", "16", "100", "-1", "end", "do", "ask", "modes", "live", "met"]
theorem more16_ok : ∀ y ∈ more16, y.length ≤ 16 ∧ ∀ c ∈ y.cps.toList, c < 0x110000 := by decide +kernel
theorem more4_ok : ∀ y ∈ (["begin", "last", "a1", "abcdefghi", "A", "aa"] : List Str), y.length ≤ 16 ∧ ∀ c ∈ y.cps.toList, c < 0x110000 := by decide +kernel
section
variable {P : Program} {w : World} {K : PySem.W.Frag} {mg : Str → Option Value} {base : Heap} {fN fM fSe fPc fMd fRl fSh C f Pt : Addr} {cdv : Value} {fdN fdS fdPc fdMd fdRl fdSh : FuncData} {s : Shared} {H0 : Hp} {Eb : XK}
theorem law_turn {tA : TS} (hrange : mg "range" = none)
    (gN : mg "_law_next" = some (.ref fN)) (kN : PySem.W.keepIn K (.ref fN) = true) (bN : Binds K fdN ["m", "many"] []) (GN : FnOk P w K mg base CX0 1 fN fdN ["m", "many"] spNext)
    (gSe : mg "_law_settings" = some (.ref fSe)) (kSe : PySem.W.keepIn K (.ref fSe) = true) (bS : Binds K fdS ["m"] []) (GS : FnOk P w K mg base CX0 3 fSe fdS ["m"] spSettingsF)
    (gPc : mg "_law_places" = some (.ref fPc)) (kPc : PySem.W.keepIn K (.ref fPc) = true) (bPc : Binds K fdPc ["m", "spots", "most"] []) (GPc : FnOk P w K mg base CX0 3 fPc fdPc ["m", "spots", "most"] (spPlacesT K))
    (gMd : mg "_law_modes" = some (.ref fMd)) (kMd : PySem.W.keepIn K (.ref fMd) = true) (bMd : Binds K fdMd ["m", "spots"] []) (GMd : FnOk P w K mg base CX0 2 fMd fdMd ["m", "spots"] (spModesT K))
    (gRl : mg "_law_request_lines" = some (.ref fRl)) (kRl : PySem.W.keepIn K (.ref fRl) = true) (bRl : Binds K fdRl ["places", "modes"] []) (GRl : FnOk P w K mg base CX0 1 fRl fdRl ["places", "modes"] (spRLines K))
    (gSh : mg "_law_shown" = some (.ref fSh)) (kSh : PySem.W.keepIn K (.ref fSh) = true) (bSh : Binds K fdSh ["spots", "text_so"] []) (GSh : FnOk P w K mg base CX0 11 fSh fdSh ["spots", "text_so"] (spSh K Pt))
    (hr : Room 11 (callerA.deeper (envOfC "law" (defScope sLaw) s.heap.objs.size f cdv)))
    (dA : PSs (cxOf CX0 P w K mg base NL "law" (defScope sLaw) f cdv callerA [] s H0 Eb).nox bAgain tA)
    (zA : ∀ (D : Ends) (H1 : Hp) (a m l : Addr) (n : Nat) (pS : Addr) (as : List Addr) (ys : List (Str × Int)) (pM : Addr) (ms : List Str) (z : Str) (b : Nat) (v2 v4 v5 v8 : Option V),
      T56 K Pt H1 m l n pS as ys pM ms → n < 500000 → ms ≠ [] → ms.length ≤ 100 → (∀ y ∈ ms, sOk 16 y) → sOk b z → b ≤ 90000 →
      (∀ (z' : Str) (l' : Addr) (H2 : Hp), T56 K Pt H2 m l' (n + 9) pS as ys pM ms → sOk (2 * b + 40) z' → D.nx [some (.ref a), some (.ref m), v2, some (.ref pS), v4, v5, some (.str z'), some (.ref pM), v8] H2) →
      tA D [some (.ref a), some (.ref m), v2, some (.ref pS), v4, v5, some (.str z), some (.ref pM), v8] H1) :
    ∃ t, PSs (cxOf CX0 P w K mg base NL "law" (defScope sLaw) f cdv callerA [] s H0 Eb).nox bTurn t ∧ ∀ (D : Ends) (H1 : Hp) (a m l : Addr) (n : Nat) (v2 v3 v4 v5 v6 v7 v8 : Option V),
      Mch H1 m l n → n < 200000 → Tabs [(Pt, lamQ)] H1 →
      (∀ (v3 v4 v5 v6 v7 v8 : Option V) (l' : Addr) (H2 : Hp), Mch H2 m l' (n + 500) → Tabs [(Pt, lamQ)] H2 → D.nx [some (.ref a), some (.ref m), v2, v3, v4, v5, v6, v7, v8] H2) →
      t D [some (.ref a), some (.ref m), v2, v3, v4, v5, v6, v7, v8] H1 := by
  have hr1 : Room 1 (callerA.deeper (envOfC "law" (defScope sLaw) s.heap.objs.size f cdv)) := hr.mono (by decide)
  have hr2 : Room 2 (callerA.deeper (envOfC "law" (defScope sLaw) s.heap.objs.size f cdv)) := hr.mono (by decide)
  have hr3 : Room 3 (callerA.deeper (envOfC "law" (defScope sLaw) s.heap.objs.size f cdv)) := hr.mono (by decide)
  refine ⟨_, pss_cons (ps_set (i := 3) scL.nd rfl (by first | exact Or.inl rfl | exact Or.inr rfl) (pe_call GS hr3 (by rfl) gSe kSe bS .nil pass0 (pa_cons (pv 1) pa_nil)))
    (pss_cons (ps_par (i := 4) (j := 5) (by rfl) scL.nd rfl rfl (by decide) rfl rfl (pa_cons (pe_call GPc hr3 (by rfl) gPc kPc bPc .nil pass0 (pa_cons (pv 1) (pa_cons (pv 3) (pa_cons (pe_ix (show IxR _ (rIxL K) from ix_list) (pe_lst (pa_cons pe_int (pa_cons pe_int (pa_cons pe_int pa_nil)))) (pe_call GN hr1 (by rfl) gN kN bN .nil pass0 (pa_cons (pv 1) (pa_cons pe_int pa_nil))) (fun _ _ => rfl)) pa_nil)))) (pa_cons (pe_call GMd hr2 (by rfl) gMd kMd bMd .nil pass0 (pa_cons (pv 1) (pa_cons (pv 3) pa_nil))) pa_nil)) (by rfl))
    (pss_cons (ps_set (i := 6) scL.nd rfl (by first | exact Or.inl rfl | exact Or.inr rfl) (pe_join pe_str (pe_call GRl hr1 (by rfl) gRl kRl bRl .nil pass0 (pa_cons (pv 4) (pa_cons (pv 5) pa_nil)))))
    (pss_cons (ps_set (i := 7) scL.nd rfl (by first | exact Or.inl rfl | exact Or.inr rfl) (pe_lst (pa_cons pe_str (pa_cons pe_str (pa_cons pe_str (pa_cons pe_str (pa_cons pe_str (pa_cons pe_str (pa_cons pe_str (pa_cons pe_str (pa_cons pe_str (pa_cons pe_str (pa_cons pe_str (pa_cons pe_str (pa_cons pe_str (pa_cons pe_str (pa_cons pe_str (pa_cons pe_str pa_nil))))))))))))))))))
    (pss_cons (ps_set (i := 7) scL.nd rfl (by first | exact Or.inl rfl | exact Or.inr rfl) (pe_op op_cat (pv 7) (pe_lst (pa_cons pe_str (pa_cons pe_str (pa_cons (pe_ix ix_tup (pe_ix ix_tup (pv 3) pe_int (fun _ _ => rfl)) pe_int (fun _ _ => rfl)) (pa_cons (pe_ix ix_tup (pe_ix ix_tup (pv 3) (pe_un un_neg pe_int) (fun _ _ => rfl)) pe_int (fun _ _ => rfl)) (pa_cons pe_str (pa_cons pe_str (pa_cons pe_str (pa_cons pe_str pa_nil)))))))))))
    (pss_cons (ps_for PassesOwn.never rfl (pi_range1 (by rfl) hrange (pa_cons pe_int pa_nil)) (pg_name (i := 8) scL.nd rfl (by first | exact Or.inl rfl | exact Or.inr rfl)) dA)
    (pss_one (ps_if (pt_cmpR (show OpR _ (compareOp .NotEq) (rNeD K) from op_neD (by exact hr.units)) (pe_call GSh hr (by rfl) gSh kSh bSh .nil pass0 (pa_cons (pv 3) (pa_cons (pe_ix (show IxR _ (rIxL K) from ix_list) (pe_lst (pa_cons pe_non (pa_cons pe_int (pa_cons pe_bl (pa_cons (pe_tup pa_nil) (pa_cons (pe_lst (pa_cons (pv 6) pa_nil)) (pa_cons pe_dnewK (pa_cons (pe_tup (pa_cons pe_str pa_nil)) pa_nil))))))))
      (pe_call GN hr1 (by rfl) gN kN bN .nil pass0 (pa_cons (pv 1) (pa_cons pe_int pa_nil))) (fun _ _ => rfl)) pa_nil))) (pe_tup (pa_cons pe_str (pa_cons pe_str pa_nil))) (nomark _)) (pss_one (ps_ret pe_bl)) pss_nil))))))), ?_⟩
  intro D H1 a m l n v2 v3 v4 v5 v6 v7 v8 M hn tb nx
  refine ⟨_, rfl, m, l, n, rfl, M, by omega, fun pS as ys l1 H2 fS pr so M1 f1 => ?_⟩
  have t1 := Tabs.fr M f1 tb
  have la := pr.length
  have l1' := so.len1
  have l3' := so.len3
  obtain ⟨ob, eS, hob⟩ := fS
  refine ⟨_, rfl, _, rfl, (by show 3 ≤ sizeLine; decide), fun p3 h3 => ?_⟩
  have s3 : Same H2 (upd H2 p3 (.lst [.int 6, .int 6, .int 16])) := Same.upd h3
  have n3 := M1.ne h3
  refine ⟨_, rfl, m, l1, n + 12, 3, rfl, M1.same s3, by omega, by decide, by decide, fun r l4 H4 r0 r3 M4 f4 => ?_⟩
  have M1s := M1.same s3
  obtain ⟨k, hk, k1, k16⟩ : ∃ k : Nat, atI ([.int 6, .int 6, .int 16] : List V) r = some (.int (k : Int)) ∧ 1 ≤ k ∧ k ≤ 16 := by
    obtain ⟨j, rfl⟩ : ∃ j : Nat, r = (j : Int) := ⟨r.toNat, by omega⟩
    have hj : j < 3 := by omega
    match j, hj with
    | 0, _ => exact ⟨6, rfl, by decide, by decide⟩
    | 1, _ => exact ⟨6, rfl, by decide, by decide⟩
    | 2, _ => exact ⟨16, rfl, by decide, by decide⟩
  have eS2 := s3 _ _ eS
  have eS4 := f4.keep _ _ eS2 (M1s.nm eS2 (fun _ z => nomatch z)) (M1s.nl eS2 (fun _ z => nomatch z))
  have pr4 : Prs H4 as ys := Prs.fr M1s f4 (Prs.same (fun b o _ e => s3 b o e) pr)
  have t4 := Tabs.fr M1s f4 (Tabs.same t1 s3)
  refine ⟨p3, _, r, _, rfl, rfl, SqL.of (f4.keep _ _ upd_same n3.1 n3.2), hk, ?_⟩
  refine ⟨m, l4, pS, n + 12 + 1, as, ys, k, _, rfl, M4, by omega, eS4, .inr ⟨ob, rfl⟩, pr4, so.okP, so.len1, so.len3, k1, k16, fun pP ps ds l5 H5 gP dP gdP lP1 lP2 plP M5 f5 => ?_⟩
  have eS5 := f5.keep _ _ eS4 (M4.nm eS4 (fun _ z => nomatch z)) (M4.nl eS4 (fun _ z => nomatch z))
  have pr5 : Prs H5 as ys := Prs.fr M4 f5 pr4
  have t5 := Tabs.fr M4 f5 t4
  refine ⟨_, rfl, _, rfl, m, l5, pS, n + 12 + 1 + 220, as, _, rfl, M5, by omega, eS5, .inr ⟨ob, rfl⟩, by omega, fun pW zs l6 H6 gW lz hz M6 f6 => ⟨_, _, rfl, ?_⟩⟩
  have eS6 := f6.keep _ _ eS5 (M5.nm eS5 (fun _ z => nomatch z)) (M5.nl eS5 (fun _ z => nomatch z))
  have pr6 : Prs H6 as ys := Prs.fr M5 f6 pr5
  have t6 := Tabs.fr M5 f6 t5
  have k6 := M5.step f6
  obtain ⟨ps', rfl, gps⟩ := pls_plc lP2 ds plP
  rw [List.length_map] at lP1 lP2 gps
  have g : RqGood ys ps' zs := ⟨gps, lP1, lP2, by omega, hz⟩
  obtain ⟨mo, zne⟩ := g.modes so
  have ls := lines_size mo (fun p hp => (g.oks so p hp).1) g.d16
  have hP6 : SqT K H6 pP ps := k6.tup (.inl (.inl gP))
  have dP6 : DqAll K H6 pS pS ps (ps'.map Plc.d) := plcs_tup (fun a xs h => k6.tup h) dP
  refine ⟨⟨newl, rfl⟩, _, rfl, _, rfl, pS, pS, pP, pW, ps', zs, rfl, .tup hP6 dP6, .inl (.inl gW), mo, zne, g.oks so, g.d16, fun W H7 hW s7 gW7 => ?_⟩
  refine ⟨newl, W, _, rfl, rfl, .inl (SqL.of gW7), ?_, ?_⟩
  · unfold sizeW at ls
    have e1 : newl.length = 1 := by decide
    rw [e1, Nat.mul_one]; omega
  have o0 := text_ok so g
  refine ⟨(by show 16 ≤ sizeLine; decide), fun pA hpA => ?_⟩
  have sA := Same.upd (o := .lst (more16.map V.str)) hpA
  have gA := upd_same (H := H7) (a := pA) (o := .lst (more16.map V.str))
  have s67 := s7.trans sA
  obtain ⟨a0, ha0⟩ : ∃ a, as[0]? = some a := ⟨_, List.getElem?_eq_getElem (by omega)⟩
  obtain ⟨iL, aL, haL, hL⟩ := at_last (as := as) (by omega) (by omega)
  have pr8 : Prs (upd H7 pA (.lst (more16.map V.str))) as ys := Prs.same (fun b o _ e => s67 b o e) pr6
  obtain ⟨q0, hq0, e0⟩ := prs_at pr8 ha0
  obtain ⟨qL, hqL, eL⟩ := prs_at pr8 haL
  have eS8 := s67 _ _ eS6
  have sqS : SqT K (upd H7 pA (.lst (more16.map V.str))) pS (as.map V.ref) := .inl (.inr ⟨ob, eS8⟩)
  refine ⟨_, rfl, ?_⟩
  refine ⟨_, rfl, pS, _, 0, .ref a0, rfl, rfl, sqS, (show atI _ ((0 : Nat) : Int) = _ from atI_nat (by rw [List.getElem?_map, ha0]; rfl)), a0, _, 0, .str q0.1, rfl, rfl, .inl (.inl e0), rfl, ?_⟩
  refine ⟨_, rfl, _, rfl, pS, _, -1, .ref aL, rfl, rfl, sqS, hL, aL, _, 0, .str qL.1, rfl, rfl, .inl (.inl eL), rfl, (by show 8 ≤ sizeLine; decide), fun pB hpB => ?_⟩
  have sB := Same.upd (o := .lst [V.str "begin", .str "last", .str q0.1, .str qL.1, .str "a1", .str "abcdefghi", .str "A", .str "aa"]) hpB
  refine ⟨pA, pB, _, _, rfl, rfl, sB _ _ gA, upd_same, (by show 16 + 8 ≤ sizeLine; decide), fun pM hpM => ?_⟩
  obtain ⟨ms, ems⟩ : ∃ ms, ms = more16 ++ (["begin", "last", q0.1, qL.1, "a1", "abcdefghi", "A", "aa"] : List Str) := ⟨_, rfl⟩
  have eM : more16.map V.str ++ [V.str "begin", .str "last", .str q0.1, .str qL.1, .str "a1", .str "abcdefghi", .str "A", .str "aa"] = ms.map V.str := by rw [ems, List.map_append]; rfl
  have mok : ∀ y ∈ ms, sOk 16 y := fun y hy => by
    rw [ems] at hy
    rcases List.mem_append.mp hy with hy | hy
    · exact more16_ok y hy
    · simp only [List.mem_cons, List.mem_nil_iff, or_false] at hy
      have m4 := more4_ok
      rcases hy with rfl | rfl | rfl | rfl | rfl | rfl | rfl | rfl
      · exact m4 _ (by decide)
      · exact m4 _ (by decide)
      · exact nmOk.ok (so.nm q0 hq0)
      · exact nmOk.ok (so.nm qL hqL)
      · exact m4 _ (by decide)
      · exact m4 _ (by decide)
      · exact m4 _ (by decide)
      · exact m4 _ (by decide)
  have lms : ms.length = 24 := by rw [ems]; rfl
  have mne : ms ≠ [] := fun e => by rw [e] at lms; cases lms
  have eM' : (List.map V.str more16 ++ [V.str "begin", .str "last", .str q0.1, .str qL.1, .str "a1", .str "abcdefghi", .str "A", .str "aa"]) = ms.map V.str := eM
  have sM := Same.upd (o := .lst (ms.map V.str)) hpM
  have s6M := (s67.trans sB).trans sM
  show tSeq _ _ _ _ (upd _ pM (.lst (List.map V.str more16 ++ [V.str "begin", .str "last", .str q0.1, .str qL.1, .str "a1", .str "abcdefghi", .str "A", .str "aa"])))
  rw [eM']
  have nM := ((M6.same (s67.trans sB)).ne hpM).2
  have T9 := (⟨M6.same s6M, Tabs.same t6 s6M, ⟨ob, s6M _ _ eS6, hob⟩, Prs.same (fun b o _ e => s6M b o e) pr6, so, upd_same, nM⟩ : T56 K Pt (upd (upd (upd H7 pA (.lst (more16.map V.str))) pB (.lst [V.str "begin", .str "last", .str q0.1, .str qL.1, .str "a1", .str "abcdefghi", .str "A", .str "aa"])) pM (.lst (ms.map V.str))) m l6 (n + 12 + 1 + 220 + 3) pS as ys pM ms)
  have o0' : sOk 2000 (Txt.join newl (Txt.join blank (("modes" : Str) :: zs) :: ps'.map Plc.line)) := o0
  refine ⟨_, rfl, by decide, by decide, ?_⟩
  refine for_range (lo := 0) (n := 5) (fun i σ G => ∃ (v8 : Option V) (l' : Addr) (z : Str) (b : Nat), σ = [some (.ref a), some (.ref m), v2, some (.ref pS), some (.ref pP), some (.ref pW), some (.str z), some (.ref pM), v8] ∧ T56 K Pt G m l' (n + 236 + 9 * i) pS as ys pM ms ∧ sOk b z ∧ b + 40 ≤ 2040 * 2 ^ i)
    ⟨v8, l6, _, 2000, rfl, T9, o0', by decide⟩ ?_ ?_
  · rintro i σ G hi ⟨v8, l', z, b, rfl, T, oz, hb⟩
    have p4 : 2 ^ i ≤ 2 ^ 4 := Nat.pow_le_pow_right (by decide) (by omega)
    have p5 : (2 : Nat) ^ 4 = 16 := by decide
    exact zA _ G a m l' _ pS as ys pM ms z b v2 _ _ _ T (by omega) mne (by omega) mok oz (by omega) fun z' l2 G2 T2 oz' => ⟨_, l2, z', 2 * b + 40, rfl, ⟨T2.M.mono (by omega), T2.t, T2.s, T2.p, T2.so, T2.hM, T2.nM⟩, oz', by rw [Nat.pow_succ]; omega⟩
  · rintro σ G ⟨v8, l', z, b, rfl, T, oz, hb⟩
    have p5 : (2 : Nat) ^ 5 = 32 := by decide
    rw [p5] at hb
    have lz := oz.1
    refine ⟨_, rfl, ?_⟩
    refine ⟨(by show 0 ≤ sizeLine; decide), fun u0 hu0 => ?_⟩
    refine ⟨_, rfl, (by show 1 ≤ sizeLine; decide), fun u1 hu1 => ?_⟩
    refine fun u2 hu2 => ⟨(by show 1 ≤ sizeLine; decide), fun u3 hu3 => ⟨(by show 7 ≤ sizeLine; decide), fun u4 hu4 => ?_⟩⟩
    have a0s := Same.upd (o := .tup ([] : List V)) hu0
    have a1s := Same.upd (o := .lst [V.str z]) hu1
    have a2s := Same.upd (o := .dK []) hu2
    have a3s := Same.upd (o := .tup [V.str "end"]) hu3
    have a4s := Same.upd (o := .lst [V.non, .int 5, .bl true, .ref u0, .ref u1, .ref u2, .ref u3]) hu4
    have g0 := a4s _ _ (a3s _ _ (a2s _ _ (a1s _ _ (upd_same (H := G) (a := u0) (o := .tup [])))))
    have g1 := a4s _ _ (a3s _ _ (a2s _ _ (upd_same (H := upd G u0 (.tup [])) (a := u1) (o := .lst [V.str z]))))
    have g2 := a4s _ _ (a3s _ _ (upd_same (H := upd (upd G u0 (.tup [])) u1 (.lst [V.str z])) (a := u2) (o := .dK [])))
    have g3 := a4s _ _ (upd_same (H := upd (upd (upd G u0 (.tup [])) u1 (.lst [V.str z])) u2 (.dK [])) (a := u3) (o := .tup [V.str "end"]))
    have g4 := upd_same (H := upd (upd (upd (upd G u0 (.tup [])) u1 (.lst [V.str z])) u2 (.dK [])) u3 (.tup [V.str "end"])) (a := u4) (o := .lst [V.non, .int 5, .bl true, .ref u0, .ref u1, .ref u2, .ref u3])
    have s5 := (((a0s.trans a1s).trans a2s).trans a3s).trans a4s
    have m1 := ((T.M.same a0s).ne hu1).2
    have m2 := (((T.M.same a0s).same a1s).ne hu2).1
    have m4 := (((((T.M.same a0s).same a1s).same a2s).same a3s).ne hu4).2
    have T5 := T.ext (Same.toN s5) (Tabs.same T.t s5)
    generalize upd (upd (upd (upd (upd G u0 (.tup [])) u1 (.lst [V.str z])) u2 (.dK [])) u3 (.tup [V.str "end"])) u4 (.lst [V.non, .int 5, .bl true, .ref u0, .ref u1, .ref u2, .ref u3]) = G5 at g0 g1 g2 g3 g4 T5 ⊢
    refine ⟨_, rfl, m, l', _, 7, rfl, T5.M, by omega, by decide, by decide, fun r l2 G6 r0 r7 M6' f6' => ?_⟩
    have T6 := T5.step M6' f6'
    have k0 := f6'.keep _ _ g0 (T5.M.nm g0 (fun _ z => nomatch z)) (T5.M.nl g0 (fun _ z => nomatch z))
    have k1' := (keepL T5.M f6' g1 m1).1
    have k2 := f6'.keep _ _ g2 m2 (T5.M.nl g2 (fun _ z => nomatch z))
    have k3 := f6'.keep _ _ g3 (T5.M.nm g3 (fun _ z => nomatch z)) (T5.M.nl g3 (fun _ z => nomatch z))
    have k4 := (keepL T5.M f6' g4 m4).1
    obtain ⟨obS, eSS, _⟩ := T6.s
    have n1 : u1 ≠ pS := fun e => by rw [e, eSS] at k1'; cases k1'
    have n2 : u2 ≠ pS := fun e => by rw [e, eSS] at k2; cases k2
    obtain ⟨v, d, hv, dq, no⟩ : ∃ v d, atI ([V.non, .int 5, .bl true, .ref u0, .ref u1, .ref u2, .ref u3] : List V) r = some v ∧ Dq K G6 pS pS v d ∧ ∀ z, d ≠ .str z := by
      obtain ⟨j, rfl⟩ : ∃ j : Nat, r = (j : Int) := ⟨r.toNat, by omega⟩
      match j, (show j < 7 by omega) with
      | 0, _ => exact ⟨_, .none, rfl, .non, fun z e => nomatch e⟩
      | 1, _ => exact ⟨_, .int 5, rfl, .int 5, fun z e => nomatch e⟩
      | 2, _ => exact ⟨_, .bool true, rfl, .bl true, fun z e => nomatch e⟩
      | 3, _ => exact ⟨_, .tuple [], rfl, .tup (.inl (.inl k0)) .nil, fun z e => nomatch e⟩
      | 4, _ => exact ⟨_, .list [.str z], rfl, .lst k1' n1 n1 (.cons (.str _) .nil), fun z e => nomatch e⟩
      | 5, _ => exact ⟨_, .dict [], rfl, .dct k2 n2 n2, fun z e => nomatch e⟩
      | 6, _ => exact ⟨_, .tuple [.str "end"], rfl, .tup (.inl (.inl k3)) (.cons (.str _) .nil), fun z e => nomatch e⟩
    have ed : dueS ys d = .tuple [.str "text", .str "None"] := by
      cases d with
      | str z => exact absurd rfl (no z)
      | _ => rfl
    refine ⟨u4, _, r, v, rfl, rfl, SqL.of k4, hv, pS, pS, pS, as, ys, v, d, rfl, T6.s, T6.p, T6.so, dq, (fun z e => absurd e (no z)), T6.t, fun v' G7 e7 t7 dq7 => ?_⟩
    rw [ed] at dq7
    refine ⟨(by show 2 ≤ sizeLine; decide), fun u6 hu6 => ?_⟩
    have s8 := Same.upd (o := .tup [V.str "text", .str "None"]) hu6
    have T7 := T6.ext e7 t7
    have T8 := T7.ext (Same.toN s8) (Tabs.same t7 s8)
    have dd : Dq K (upd G7 u6 (.tup [V.str "text", .str "None"])) pS pS (.ref u6) (.tuple [.str "text", .str "None"]) := .tup (.inl (.inl upd_same)) (.cons (.str _) (.cons (.str _) .nil))
    refine ⟨_, _, Dq.dp (m := pS) (l := pS) (.tuple [.str "text", .str "None"]) _ (Dq.same s8 _ _ dq7) rfl, Dq.dp (m := pS) (l := pS) (.tuple [.str "text", .str "None"]) _ dd rfl, by decide +kernel, by decide +kernel, _, rfl, ifF (by decide +kernel) ?_⟩
    exact nx _ _ _ _ _ _ l2 _ (T8.M.mono (by omega)) T8.t
end
end Ms
namespace Ms
open PySem PySem.Spec PyProof.Rows L2 LamX StX
/-! ### law k56, the whole -/
section
variable {P : Program} {w : World} {K : PySem.W.Frag} {mg : Str → Option Value} {fN fM fBg fSe fPc fMd fRl fSh fRI fBt fCa fLP fLA fRd fLn fML fPI fNs fF fNW fOr C CS CP CM CT fR fET f c Pt pI pN pS pA pG fNu fAs fPl fMo fNP fNM fNd aE aM fES fEP fEM : Addr}
theorem ok_law {fd fdBg fdN fdM fdS fdPc fdMd fdRl fdSh fdRI fdBt fdCa fdLP fdLA fdRd fdLn fdML fdPI fdNs fdF fdNW fdOr fdR fdI fdPn fdPs fdNd fdPa fdPg fdNu fdAs fdPl fdMo fdNP fdNM fdES fdEP fdEM fdET : FuncData} {q1 q2 q3 q4 qual : Str}
    (T0 : TxtS mg fN fM) (hmin : mg "min" = none) (hrep : mg "repr" = none) (T : TxtX mg) (gD : ∃ t, mg "DIGITS" = some (.str digits t)) (TR : TxtR mg pI pN pS pA pG fNu fAs fPl fMo fNP fNM fNd aE aM) (W : WrT K aE aM)
    (gBg : mg "_law_begun" = some (.ref fBg)) (gSe : mg "_law_settings" = some (.ref fSe)) (gPc : mg "_law_places" = some (.ref fPc)) (gMd : mg "_law_modes" = some (.ref fMd)) (gRl : mg "_law_request_lines" = some (.ref fRl)) (gSh : mg "_law_shown" = some (.ref fSh)) (gRI : mg "_law_request_in" = some (.ref fRI)) (gBt : mg "_law_bent_text" = some (.ref fBt)) (gCa : mg "_law_caught" = some (.ref fCa)) (gLP : mg "_law_place_in" = some (.ref fLP)) (gLA : mg "_law_is_name" = some (.ref fLA)) (gRd : mg "read_request" = some (.ref fRd))
    (gLn : mg "lines_of" = some (.ref fLn)) (gML : mg "is_modes_line" = some (.ref fML)) (gPI : mg "place_in" = some (.ref fPI)) (gNs : mg "numbers_in" = some (.ref fNs)) (gF : mg "is_figure" = some (.ref fF)) (gNW : mg "is_number_word" = some (.ref fNW)) (gOr : mg "order_of" = some (.ref fOr))
    (gR : mg "Request" = some (.ref C)) (gS : mg "BadSettings" = some (.ref CS)) (gP : mg "BadPlaces" = some (.ref CP)) (gM : mg "BadModes" = some (.ref CM)) (gT : mg "BadText" = some (.ref CT))
    (RC : ReqC K C) (MkC : Mk K C fR) (TS : ErrC K CS fES) (TP : ErrC K CP fEP) (TM : ErrC K CM fEM) (TT : ErrF K CT fET "line") (xTT : PySem.W.exmOne K (.ref CT) (.ref CT) = some true) (TX : XfC K CT) (TQ : TxtQ mg) (hdict : mg "dict" = none)
    (F : Fun K "law" "law" sLaw f fd) (bL : ∀ (s : Shared) (u : Value), BindsTo s fd ⟨[u], []⟩ [("script", u)])
    (FBg : Fun K "_law_begun" "_law_begun" sBegun fBg fdBg) (bBg : Binds K fdBg ["script"] []) (FN : Fun K "_law_next" "_law_next" sNext fN fdN) (bN : Binds K fdN ["m", "many"] []) (FM : Fun K "_law_names" "_law_names" sNames fM fdM) (bM : Binds K fdM ["m", "many"] [])
    (FS : Fun K "_law_settings" "_law_settings" sSettings fSe fdS) (bS : Binds K fdS ["m"] []) (FPc : Fun K "_law_places" "_law_places" sPlaces fPc fdPc) (bPc : Binds K fdPc ["m", "spots", "most"] []) (FMd : Fun K "_law_modes" "_law_modes" sModes fMd fdMd) (bMd : Binds K fdMd ["m", "spots"] [])
    (FRl : Fun K "_law_request_lines" "_law_request_lines" sRLines fRl fdRl) (bRl : Binds K fdRl ["places", "modes"] []) (FSh : Fun K "_law_shown" "_law_shown" sShown fSh fdSh) (hc : fdSh.code = .ref c) (bSh : Binds K fdSh ["spots", "text_so"] []) (FRI : Fun K "_law_request_in" "_law_request_in" sRequestIn fRI fdRI) (bRI : Binds K fdRI ["spots", "text_so"] []) (FBt : Fun K "_law_bent_text" "_law_bent_text" sBentT fBt fdBt) (bBt : Binds K fdBt ["m", "text_so", "more"] [])
    (FCa : Fun K "_law_caught" "_law_caught" sCaught fCa fdCa) (bCa : Binds K fdCa ["call"] []) (FLP : Fun K "_law_place_in" "_law_place_in" sPlaceIn fLP fdLP) (bLP : Binds K fdLP ["spots", "line"] []) (FLA : Fun K "_law_is_name" "_law_is_name" sIsName fLA fdLA) (bLA : Binds K fdLA ["thing"] []) (FRd : Fun K "read_request" "read_request" sRead fRd fdRd) (bRd : Binds K fdRd ["settings", "text"] [])
    (FLn : Fun K "lines_of" "lines_of" sLines fLn fdLn) (bLn : Binds K fdLn ["text"] []) (FML : Fun K "is_modes_line" "is_modes_line" sMLine fML fdML) (bML : Binds K fdML ["settings", "words"] []) (FPI : Fun K "place_in" "place_in" sPIn fPI fdPI) (bPI : Binds K fdPI ["settings", "words"] [])
    (FNs : Fun K "numbers_in" "numbers_in" sNums fNs fdNs) (bNs : Binds K fdNs ["place"] []) (FF : Fun K "is_figure" "is_figure" sFig fF fdF) (bF : Binds K fdF ["word"] []) (FNW : Fun K "is_number_word" "is_number_word" sNWord fNW fdNW) (bNW : Binds K fdNW ["word"] [])
    (FOr : Fun K "order_of" "order_of" sPOrder fOr fdOr) (bOr : Binds K fdOr ["settings"] []) 
    (FR : FunD K "__init__" qual (defArgs sReqIni) (defBody sReqIni) (defScope sReqIni) [.non] [] fR fdR) (b4 : Binds K fdR ["self", "settings", "places", "modes"] [])
    (FES : Fun K "__init__" q1 sIni fES fdES) (bES : Binds K fdES ["self", "place"] []) (FEP : Fun K "__init__" q2 sIniP fEP fdEP) (bEP : Binds K fdEP ["self", "place"] []) (FEM : Fun K "__init__" q3 sIniM fEM fdEM) (bEM : Binds K fdEM ["self", "place"] []) (FET : Fun K "__init__" q4 sIniX fET fdET) (bET : Binds K fdET ["self", "line"] [])
    (FI : Fun K "is_int" "is_int" sPInt pI fdI) (bI : Binds K fdI ["thing"] []) (FPn : Fun K "is_name" "is_name" sPName pN fdPn) (bPn : Binds K fdPn ["thing"] []) (FPs : Fun K "is_setting" "is_setting" sPSet pS fdPs) (bPs : Binds K fdPs ["thing"] [])
    (FPa : Fun K "names_of" "names_of" sPNames pA fdPa) (bPa : Binds K fdPa ["settings"] []) (FPg : Fun K "grid_of" "grid_of" sPGrid pG fdPg) (bPg : Binds K fdPg ["settings"] []) (FNd : Fun K "need_settings" "need_settings" sNeed fNd fdNd) (bNd : Binds K fdNd ["thing"] [])
    (FNu : Fun K "is_number" "is_number" sPNum fNu fdNu) (bNu : Binds K fdNu ["many", "thing"] []) (FAs : Fun K "is_ask" "is_ask" sPAsk fAs fdAs) (bAs : Binds K fdAs ["settings", "many", "setting", "nexts"] [])
    (FPl : Fun K "is_place" "is_place" sPPlace fPl fdPl) (bPl : Binds K fdPl ["settings", "many", "thing"] []) (FMo : Fun K "is_mode" "is_mode" sPMode fMo fdMo) (bMo : Binds K fdMo ["thing"] [])
    (FNP : Fun K "need_places" "need_places" sNPlaces fNP fdNP) (bNP : Binds K fdNP ["settings", "places"] []) (FNM : Fun K "need_modes" "need_modes" sNModes fNM fdNM) (bNM : Binds K fdNM ["settings", "modes"] []) : LawRunT P w K mg f c Pt := by
  intro base H s a ns kin glob TBl hT hS hlen st0
  have GBg : FnOk P w K mg base CX0 1 fBg fdBg ["script"] (spBegun K) := ok_begun FBg T0.toTxt
  have GS : FnOk P w K mg base CX0 3 fSe fdS ["m"] spSettingsF := ok_settingsF FS T0 FN bN FM bM
  have GPc : FnOk P w K mg base CX0 3 fPc fdPc ["m", "spots", "most"] (spPlacesT K) := ok_placesT FPc ⟨T0, hmin⟩ FN bN FM bM
  have GMd : FnOk P w K mg base CX0 2 fMd fdMd ["m", "spots"] (spModesT K) := ok_modesT FMd T0 FN bN
  have GR : FnOk P w K mg base (L2.CX P w) 6 fR fdR ["self", "settings", "places", "modes"] (spReq K C CS CP CM) := ok_reqini FR TR W RC gS TS gP TP gM TM FES bES FEP bEP FEM bEM FI bI FPn bPn FPs bPs FPa bPa FPg bPg FNd bNd FNu bNu FAs bAs FPl bPl FMo bMo FNP bNP FNM bNM
  have GRl : FnOk P w K mg base CX0 1 fRl fdRl ["places", "modes"] (spRLines K) := ok_rlines FRl T.list T.str
  have GN : FnOk P w K mg base CX0 1 fN fdN ["m", "many"] spNext := ok_next FN T0.toTxt
  have GBt : FnOk P w K mg base CX0 2 fBt fdBt ["m", "text_so", "more"] spBT := ok_bt FBt T0.toTxt T0.next FN bN
  have GLP : FnOk P w K mg base CX0 2 fLP fdLP ["spots", "line"] (spLPIn K) := ok_lpin FLP TQ hdict T.str T.len T.tuple T0.range gLA FLA bLA
  have GRI : FnOk P w K mg base CX0 3 fRI fdRI ["spots", "text_so"] (spRIn K) := ok_rin FRI T gLP FLP.kp GLP bLP
  have GLn : FnOk P w K mg base (L2.CX P w) 3 fLn fdLn ["text"] (spLines K CT) := ok_lines FLn T gT TT FET bET
  have GML : FnOk P w K mg base CX0 2 fML fdML ["settings", "words"] (spMLine K) := ok_mline FML T TR W FMo bMo
  have GPI : FnOk P w K mg base CX0 3 fPI fdPI ["settings", "words"] (spPIn K) := ok_pin FPI T TR W gD gF FF bF gNW FNW bNW gOr FOr bOr FPn bPn
  have GNs : FnOk P w K mg base CX0 1 fNs fdNs ["place"] (spNums K) := ok_nums FNs T
  have GRd : FnOk P w K mg base (L2.CX P w) 8 fRd fdRd ["settings", "text"] (spRead K C CT) := ok_read FRd T TR W gT TT FET bET gLn FLn.kp GLn bLn gML FML.kp GML bML gPI FPI.kp GPI bPI gNs FNs.kp GNs bNs MkC GR gR b4
  have GSh : FnOk P w K mg base CX0 11 fSh fdSh ["spots", "text_so"] (spSh K Pt) := ok_shown FSh hc T hrep gT xTT ⟨TX, TT.no⟩ RC gCa FCa bCa gRd FRd.kp bRd GRd TBl
  refine run_known (k := 11) (N := NL) (ps := ["script"]) (us := [.ref a]) (vs := [.ref a]) F scL rfl ⟨rfl, by decide, by decide⟩ st0 (bL s _) (.cons rfl .nil) rfl fun cdv hr => ?_
  obtain ⟨t1, d1, z1⟩ := law_again (H0 := H) (s := s) (f := f) (cdv := cdv) (Pt := Pt) (Eb := fun _ _ _ => False) hrep gSh FSh.kp bSh GSh gRI FRI.kp bRI GRI gBt FBt.kp bBt GBt hr
  obtain ⟨t3, d3, z3⟩ := law_turn (Pt := Pt) T0.range T0.next FN.kp bN GN gSe FS.kp bS GS gPc FPc.kp bPc GPc gMd FMd.kp bMd GMd gRl FRl.kp bRl GRl gSh FSh.kp bSh GSh hr d1 z1
  clear z1 d1
  have hr1 : Room 1 (callerA.deeper (envOfC "law" (defScope sLaw) s.heap.objs.size f cdv)) := hr.mono (by decide)
  refine ⟨_, pss_cons (ps_set (i := 1) scL.nd rfl (Or.inl rfl) (pe_call GBg hr1 (by rfl) gBg FBg.kp bBg .nil pass0 (pa_cons (pv 0) pa_nil)))
    (pss_cons (ps_for PassesOwn.never rfl (pi_range1 (by rfl) T0.range (pa_cons (pe_op op_add pe_int (pe_callB (call_min2 rfl) (by rfl) hmin (by decide +kernel) (pa_cons (pe_callB call_len_seq (by rfl) T0.len PySem.boot_len (pa_cons (pv 0) pa_nil)) (pa_cons pe_int pa_nil)))) pa_nil)) (pg_name (i := 2) scL.nd rfl (Or.inl rfl)) d3)
    (pss_one (ps_ret pe_bl))), ?_⟩
  refine ⟨_, rfl, a, ns, rfl, hS, hlen, fun m l H1 hm hl s1 M1 => ?_⟩
  have lenM : (ns.map V.int).length = ns.length := List.length_map ..
  refine ⟨_, rfl, a, _, rfl, .inl (s1.seq hS), _, _, rfl, _, _, rfl, rfl, _, rfl, (by rw [lenM]; split <;> omega), (by rw [lenM]; split <;> omega), ?_⟩
  generalize hj : (4 + if (8 : Int) < ((ns.map V.int).length : Nat) then (8 : Int) else ((ns.map V.int).length : Nat)) = j
  have hj16 : j ≤ 13 := by rw [← hj]; split <;> omega
  have tb1 : Tabs [(Pt, lamQ)] H1 := fun p hp => by
    rw [List.mem_singleton.mp hp]
    exact TabS.nil (s1 _ _ hT)
  refine for_range (lo := 0) (n := j.toNat) (fun i σ H2 => ∃ (v2 v3 v4 v5 v6 v7 v8 : Option V) (l n : Nat), σ = [some (.ref a), some (.ref m), v2, v3, v4, v5, v6, v7, v8] ∧ Mch H2 m l n ∧ n ≤ 500 * i ∧ Tabs [(Pt, lamQ)] H2)
    ⟨_, _, _, _, _, _, _, l, 0, rfl, M1, Nat.le_refl _, tb1⟩ ?_ ?_
  · rintro i σ H2 hi ⟨v2, v3, v4, v5, v6, v7, v8, l2, n, rfl, M2, hn, tb2⟩
    exact z3 _ H2 a m l2 n _ _ _ _ _ _ _ M2 (by omega) tb2 fun v3 v4 v5 v6 v7 v8 l' H3 M3 t3 => ⟨_, v3, v4, v5, v6, v7, v8, l', n + 500, rfl, M3, by omega, t3⟩
  · rintro σ H2 _
    rfl
end
end Ms
namespace Ms
open PySem PySem.Spec PyProof.Rows L2 LamX StX
/-! ### the end: what the top has written -/
set_option maxHeartbeats 16000000 in
theorem all_mk {P : Program} {w : World} {K : PySem.W.Frag} {h : Heap} {mg : Str → Option Value} {fa CS fES CP fEP CM fEM CT fET C fR Td aE aM pI pN pS pD pA pG fNu fAs fPl fMo fNP fNM fBg fN fM fSe fPc fMd fRl fSh fRI fBt fCa fLP fLA fRd fLn fML fPI fNs fF fNW fOr fL9 c Pt : Addr} (X : K.In h) (G : h.Ns mainGlobals mg) (hfa : mg "law" = some (.ref fa))
    {nmeS qeS : Str} {NeS : Addr} {bseS bmeS : List Value} {sneS : List Str} {subeS : List Value} {abeS : Bool} {coleS : Option Bool} {ddeS : Option Addr} {m0eS m1eS m2eS m3eS m5eS : Option Value}
    {odieS anieS : Option Addr} {slieS : Array (Option Value)} {ocieS kVieS dcieS pmieS cdieS ctieS : Value}
    {nmeP qeP : Str} {NeP : Addr} {bseP bmeP : List Value} {sneP : List Str} {subeP : List Value} {abeP : Bool} {coleP : Option Bool} {ddeP : Option Addr} {m0eP m1eP m2eP m3eP m5eP : Option Value}
    {odieP anieP : Option Addr} {slieP : Array (Option Value)} {ocieP kVieP dcieP pmieP cdieP ctieP : Value}
    {nmeM qeM : Str} {NeM : Addr} {bseM bmeM : List Value} {sneM : List Str} {subeM : List Value} {abeM : Bool} {coleM : Option Bool} {ddeM : Option Addr} {m0eM m1eM m2eM m3eM m5eM : Option Value}
    {odieM anieM : Option Addr} {slieM : Array (Option Value)} {ocieM kVieM dcieM pmieM cdieM ctieM : Value}
    {nmeT qeT : Str} {NeT : Addr} {bseT bmeT : List Value} {sneT : List Str} {subeT : List Value} {abeT : Bool} {coleT : Option Bool} {ddeT : Option Addr} {m0eT m1eT m2eT m3eT m5eT : Option Value}
    {odieT anieT : Option Addr} {slieT : Array (Option Value)} {ocieT kVieT dcieT pmieT cdieT ctieT : Value}
    {odR anR : Option Addr} {slR : Array (Option Value)} {ocR kVR dcR pmR cdR ctR : Value} {ocT : Value} {odT : Option Addr} {nT : Nat} {slT : Array (Option Value)}
    {dE dM : Option Addr} {kE kM : Nat} {sE sM : Array (Option Value)} {tE tM1 tM2 tM3 : Tok}
    {odpI anpI : Option Addr} {slpI : Array (Option Value)} {ocpI kVpI dcpI pmpI cdpI ctpI : Value}
    {odpN anpN : Option Addr} {slpN : Array (Option Value)} {ocpN kVpN dcpN pmpN cdpN ctpN : Value}
    {odpS anpS : Option Addr} {slpS : Array (Option Value)} {ocpS kVpS dcpS pmpS cdpS ctpS : Value}
    {odpD anpD : Option Addr} {slpD : Array (Option Value)} {ocpD kVpD dcpD pmpD cdpD ctpD : Value}
    {odpA anpA : Option Addr} {slpA : Array (Option Value)} {ocpA kVpA dcpA pmpA cdpA ctpA : Value}
    {odpG anpG : Option Addr} {slpG : Array (Option Value)} {ocpG kVpG dcpG pmpG cdpG ctpG : Value}
    {odNu anNu : Option Addr} {slNu : Array (Option Value)} {ocNu kVNu dcNu pmNu cdNu ctNu : Value}
    {odAs anAs : Option Addr} {slAs : Array (Option Value)} {ocAs kVAs dcAs pmAs cdAs ctAs : Value}
    {odPl anPl : Option Addr} {slPl : Array (Option Value)} {ocPl kVPl dcPl pmPl cdPl ctPl : Value}
    {odMo anMo : Option Addr} {slMo : Array (Option Value)} {ocMo kVMo dcMo pmMo cdMo ctMo : Value}
    {odNP anNP : Option Addr} {slNP : Array (Option Value)} {ocNP kVNP dcNP pmNP cdNP ctNP : Value}
    {odNM anNM : Option Addr} {slNM : Array (Option Value)} {ocNM kVNM dcNM pmNM cdNM ctNM : Value}
    {odBg anBg : Option Addr} {slBg : Array (Option Value)} {ocBg kVBg dcBg pmBg cdBg ctBg : Value}
    {odN anN : Option Addr} {slN : Array (Option Value)} {ocN kVN dcN pmN cdN ctN : Value}
    {odNa anNa : Option Addr} {slNa : Array (Option Value)} {ocNa kVNa dcNa pmNa cdNa ctNa : Value}
    {odSe anSe : Option Addr} {slSe : Array (Option Value)} {ocSe kVSe dcSe pmSe cdSe ctSe : Value}
    {odPc anPc : Option Addr} {slPc : Array (Option Value)} {ocPc kVPc dcPc pmPc cdPc ctPc : Value}
    {odMd anMd : Option Addr} {slMd : Array (Option Value)} {ocMd kVMd dcMd pmMd cdMd ctMd : Value}
    {odRl anRl : Option Addr} {slRl : Array (Option Value)} {ocRl kVRl dcRl pmRl cdRl ctRl : Value}
    {odSh anSh : Option Addr} {slSh : Array (Option Value)} {ocSh kVSh dcSh pmSh cdSh ctSh : Value}
    {odRI anRI : Option Addr} {slRI : Array (Option Value)} {ocRI kVRI dcRI pmRI cdRI ctRI : Value}
    {odBt anBt : Option Addr} {slBt : Array (Option Value)} {ocBt kVBt dcBt pmBt cdBt ctBt : Value}
    {odCa anCa : Option Addr} {slCa : Array (Option Value)} {ocCa kVCa dcCa pmCa cdCa ctCa : Value}
    {odLP anLP : Option Addr} {slLP : Array (Option Value)} {ocLP kVLP dcLP pmLP cdLP ctLP : Value}
    {odLA anLA : Option Addr} {slLA : Array (Option Value)} {ocLA kVLA dcLA pmLA cdLA ctLA : Value}
    {odRd anRd : Option Addr} {slRd : Array (Option Value)} {ocRd kVRd dcRd pmRd cdRd ctRd : Value}
    {odLn anLn : Option Addr} {slLn : Array (Option Value)} {ocLn kVLn dcLn pmLn cdLn ctLn : Value}
    {odML anML : Option Addr} {slML : Array (Option Value)} {ocML kVML dcML pmML cdML ctML : Value}
    {odPI anPI : Option Addr} {slPI : Array (Option Value)} {ocPI kVPI dcPI pmPI cdPI ctPI : Value}
    {odNs anNs : Option Addr} {slNs : Array (Option Value)} {ocNs kVNs dcNs pmNs cdNs ctNs : Value}
    {odFg anFg : Option Addr} {slFg : Array (Option Value)} {ocFg kVFg dcFg pmFg cdFg ctFg : Value}
    {odNW anNW : Option Addr} {slNW : Array (Option Value)} {ocNW kVNW dcNW pmNW cdNW ctNW : Value}
    {odOr anOr : Option Addr} {slOr : Array (Option Value)} {ocOr kVOr dcOr pmOr cdOr ctOr : Value}
    {odL anL : Option Addr} {slL : Array (Option Value)} {ocL kVL dcL pmL cdL ctL : Value}
    {tMOST_SETTINGS : Tok}
    {tMOST_VALUE : Tok}
    {tMOST_STANDINGS : Tok}
    {tLONGEST_NAME : Tok}
    {tMOST_PLACES : Tok}
    {tDG : Tok}
    (AeS : PySem.W.nsIn K mainGlobals "BadSettings" = some (some (.ref CS)))
    (XeS : K.lookup CS = some (excClassObj nmeS qeS CS NeS bseS bmeS true sneS subeS abeS coleS ddeS m0eS m1eS m2eS m3eS m5eS "ValueError.__new__"))
    (ReS : PySem.HandSPX.refsVE bmeS = true)
    (SeS : PySem.W.findIn K (.ref CS) "__setattr__" = some (some (.builtin "object.__setattr__")))
    (EeS : PySem.W.subIn K (.ref CS) (.type "BaseException") = some true)
    (TeS : PySem.W.typeIn K (.ref CS) = some (.type "type"))
    (KeS : PySem.W.keepIn K (.ref CS) = true)
    (IeS : PySem.W.findIn K (.ref CS) "__init__" = some (some (.ref fES)))
    (YeS : PySem.W.typeIn K (.ref fES) = some (.type "function"))
    (NeS : PySem.W.findIn K (.ref CS) "place" = some none)
    (GeS : PySem.W.findIn K (.ref CS) "__getattribute__" = some (some (.builtin "BaseException.__getattribute__")))
    (HeS : PySem.W.findIn K (.ref CS) "__getattr__" = some none)
    (DeS : PySem.W.hasDictIn K CS = true)
    (MeS : PySem.W.exmOne K (.ref CS) (.ref CS) = some true)
    (lieS : K.lookup fES = some ⟨ocieS, odieS, .func (PySem.W.fnOf "__init__" "BadSettings.__init__" (defArgs sIni) (defBody sIni) (defScope sIni) .none kVieS dcieS pmieS anieS cdieS ctieS), slieS⟩)
    (dieS : PySem.W.codeIn K cdieS "BadSettings.__init__" = true)
    (eieS : PySem.W.keepIn K (.ref fES) = true)
    (AeP : PySem.W.nsIn K mainGlobals "BadPlaces" = some (some (.ref CP)))
    (XeP : K.lookup CP = some (excClassObj nmeP qeP CP NeP bseP bmeP true sneP subeP abeP coleP ddeP m0eP m1eP m2eP m3eP m5eP "ValueError.__new__"))
    (ReP : PySem.HandSPX.refsVE bmeP = true)
    (SeP : PySem.W.findIn K (.ref CP) "__setattr__" = some (some (.builtin "object.__setattr__")))
    (EeP : PySem.W.subIn K (.ref CP) (.type "BaseException") = some true)
    (TeP : PySem.W.typeIn K (.ref CP) = some (.type "type"))
    (KeP : PySem.W.keepIn K (.ref CP) = true)
    (IeP : PySem.W.findIn K (.ref CP) "__init__" = some (some (.ref fEP)))
    (YeP : PySem.W.typeIn K (.ref fEP) = some (.type "function"))
    (NeP : PySem.W.findIn K (.ref CP) "place" = some none)
    (GeP : PySem.W.findIn K (.ref CP) "__getattribute__" = some (some (.builtin "BaseException.__getattribute__")))
    (HeP : PySem.W.findIn K (.ref CP) "__getattr__" = some none)
    (DeP : PySem.W.hasDictIn K CP = true)
    (MeP : PySem.W.exmOne K (.ref CP) (.ref CP) = some true)
    (lieP : K.lookup fEP = some ⟨ocieP, odieP, .func (PySem.W.fnOf "__init__" "BadPlaces.__init__" (defArgs sIniP) (defBody sIniP) (defScope sIniP) .none kVieP dcieP pmieP anieP cdieP ctieP), slieP⟩)
    (dieP : PySem.W.codeIn K cdieP "BadPlaces.__init__" = true)
    (eieP : PySem.W.keepIn K (.ref fEP) = true)
    (AeM : PySem.W.nsIn K mainGlobals "BadModes" = some (some (.ref CM)))
    (XeM : K.lookup CM = some (excClassObj nmeM qeM CM NeM bseM bmeM true sneM subeM abeM coleM ddeM m0eM m1eM m2eM m3eM m5eM "ValueError.__new__"))
    (ReM : PySem.HandSPX.refsVE bmeM = true)
    (SeM : PySem.W.findIn K (.ref CM) "__setattr__" = some (some (.builtin "object.__setattr__")))
    (EeM : PySem.W.subIn K (.ref CM) (.type "BaseException") = some true)
    (TeM : PySem.W.typeIn K (.ref CM) = some (.type "type"))
    (KeM : PySem.W.keepIn K (.ref CM) = true)
    (IeM : PySem.W.findIn K (.ref CM) "__init__" = some (some (.ref fEM)))
    (YeM : PySem.W.typeIn K (.ref fEM) = some (.type "function"))
    (NeM : PySem.W.findIn K (.ref CM) "place" = some none)
    (GeM : PySem.W.findIn K (.ref CM) "__getattribute__" = some (some (.builtin "BaseException.__getattribute__")))
    (HeM : PySem.W.findIn K (.ref CM) "__getattr__" = some none)
    (DeM : PySem.W.hasDictIn K CM = true)
    (MeM : PySem.W.exmOne K (.ref CM) (.ref CM) = some true)
    (lieM : K.lookup fEM = some ⟨ocieM, odieM, .func (PySem.W.fnOf "__init__" "BadModes.__init__" (defArgs sIniM) (defBody sIniM) (defScope sIniM) .none kVieM dcieM pmieM anieM cdieM ctieM), slieM⟩)
    (dieM : PySem.W.codeIn K cdieM "BadModes.__init__" = true)
    (eieM : PySem.W.keepIn K (.ref fEM) = true)
    (AeT : PySem.W.nsIn K mainGlobals "BadText" = some (some (.ref CT)))
    (XeT : K.lookup CT = some (excClassObj nmeT qeT CT NeT bseT bmeT true sneT subeT abeT coleT ddeT m0eT m1eT m2eT m3eT m5eT "ValueError.__new__"))
    (ReT : PySem.HandSPX.refsVE bmeT = true)
    (SeT : PySem.W.findIn K (.ref CT) "__setattr__" = some (some (.builtin "object.__setattr__")))
    (EeT : PySem.W.subIn K (.ref CT) (.type "BaseException") = some true)
    (TeT : PySem.W.typeIn K (.ref CT) = some (.type "type"))
    (KeT : PySem.W.keepIn K (.ref CT) = true)
    (IeT : PySem.W.findIn K (.ref CT) "__init__" = some (some (.ref fET)))
    (YeT : PySem.W.typeIn K (.ref fET) = some (.type "function"))
    (NeT : PySem.W.findIn K (.ref CT) "line" = some none)
    (GeT : PySem.W.findIn K (.ref CT) "__getattribute__" = some (some (.builtin "BaseException.__getattribute__")))
    (HeT : PySem.W.findIn K (.ref CT) "__getattr__" = some none)
    (DeT : PySem.W.hasDictIn K CT = true)
    (MeT : PySem.W.exmOne K (.ref CT) (.ref CT) = some true)
    (lieT : K.lookup fET = some ⟨ocieT, odieT, .func (PySem.W.fnOf "__init__" "BadText.__init__" (defArgs sIniX) (defBody sIniX) (defScope sIniX) .none kVieT dcieT pmieT anieT cdieT ctieT), slieT⟩)
    (dieT : PySem.W.codeIn K cdieT "BadText.__init__" = true)
    (eieT : PySem.W.keepIn K (.ref fET) = true)
    (AR : PySem.W.nsIn K mainGlobals "Request" = some (some (.ref C)))
    (IR : PySem.W.findIn K (.ref C) "__init__" = some (some (.ref fR)))
    (mkR : PySem.W.makesIn K C = true)
    (fnR : PySem.W.isFn K (.ref fR) = true)
    (kpR : PySem.W.keepIn K (.ref C) = true)
    (pgR : PySem.W.plainGet K C Str.empty = true)
    (hdR : PySem.W.hasDictIn K C = true)
    (poR : PySem.W.plainOver K C = true)
    (saR : PySem.W.findIn K (.ref C) "__setattr__" = some (some (.builtin "object.__setattr__")))
    (n0R : PySem.W.findIn K (.ref C) "settings" = some none)
    (n1R : PySem.W.findIn K (.ref C) "places" = some none)
    (n2R : PySem.W.findIn K (.ref C) "modes" = some none)
    (lR : K.lookup fR = some ⟨ocR, odR, .func (PySem.W.fnOf "__init__" "Request.__init__" (defArgs sReqIni) (defBody sReqIni) (defScope sReqIni) (.ref Td) kVR dcR pmR anR cdR ctR), slR⟩)
    (dR : PySem.W.codeIn K cdR "Request.__init__" = true)
    (eR : PySem.W.keepIn K (.ref fR) = true)
    (lT : K.lookup Td = some ⟨ocT, odT, .seq #[.none] nT, slT⟩)
    (AE : PySem.W.nsIn K mainGlobals "END" = some (some (.ref aE)))
    (AM : PySem.W.nsIn K mainGlobals "MODES" = some (some (.ref aM)))
    (lE : K.lookup aE = some ⟨.type "tuple", dE, .seq #[.str "end" tE] kE, sE⟩)
    (lM : K.lookup aM = some ⟨.type "tuple", dM, .seq #[.str "live" tM1, .str "met" tM2, .str "begin" tM3] kM, sM⟩)
    (apI : PySem.W.nsIn K mainGlobals "is_int" = some (some (.ref pI)))
    (lpI : K.lookup pI = some ⟨ocpI, odpI, .func (PySem.W.fnOf "is_int" "is_int" (defArgs sPInt) (defBody sPInt) (defScope sPInt) .none kVpI dcpI pmpI anpI cdpI ctpI), slpI⟩)
    (dpI : PySem.W.codeIn K cdpI "is_int" = true)
    (epI : PySem.W.keepIn K (.ref pI) = true)
    (apN : PySem.W.nsIn K mainGlobals "is_name" = some (some (.ref pN)))
    (lpN : K.lookup pN = some ⟨ocpN, odpN, .func (PySem.W.fnOf "is_name" "is_name" (defArgs sPName) (defBody sPName) (defScope sPName) .none kVpN dcpN pmpN anpN cdpN ctpN), slpN⟩)
    (dpN : PySem.W.codeIn K cdpN "is_name" = true)
    (epN : PySem.W.keepIn K (.ref pN) = true)
    (apS : PySem.W.nsIn K mainGlobals "is_setting" = some (some (.ref pS)))
    (lpS : K.lookup pS = some ⟨ocpS, odpS, .func (PySem.W.fnOf "is_setting" "is_setting" (defArgs sPSet) (defBody sPSet) (defScope sPSet) .none kVpS dcpS pmpS anpS cdpS ctpS), slpS⟩)
    (dpS : PySem.W.codeIn K cdpS "is_setting" = true)
    (epS : PySem.W.keepIn K (.ref pS) = true)
    (apD : PySem.W.nsIn K mainGlobals "need_settings" = some (some (.ref pD)))
    (lpD : K.lookup pD = some ⟨ocpD, odpD, .func (PySem.W.fnOf "need_settings" "need_settings" (defArgs sNeed) (defBody sNeed) (defScope sNeed) .none kVpD dcpD pmpD anpD cdpD ctpD), slpD⟩)
    (dpD : PySem.W.codeIn K cdpD "need_settings" = true)
    (epD : PySem.W.keepIn K (.ref pD) = true)
    (apA : PySem.W.nsIn K mainGlobals "names_of" = some (some (.ref pA)))
    (lpA : K.lookup pA = some ⟨ocpA, odpA, .func (PySem.W.fnOf "names_of" "names_of" (defArgs sPNames) (defBody sPNames) (defScope sPNames) .none kVpA dcpA pmpA anpA cdpA ctpA), slpA⟩)
    (dpA : PySem.W.codeIn K cdpA "names_of" = true)
    (epA : PySem.W.keepIn K (.ref pA) = true)
    (apG : PySem.W.nsIn K mainGlobals "grid_of" = some (some (.ref pG)))
    (lpG : K.lookup pG = some ⟨ocpG, odpG, .func (PySem.W.fnOf "grid_of" "grid_of" (defArgs sPGrid) (defBody sPGrid) (defScope sPGrid) .none kVpG dcpG pmpG anpG cdpG ctpG), slpG⟩)
    (dpG : PySem.W.codeIn K cdpG "grid_of" = true)
    (epG : PySem.W.keepIn K (.ref pG) = true)
    (aNu : PySem.W.nsIn K mainGlobals "is_number" = some (some (.ref fNu)))
    (lNu : K.lookup fNu = some ⟨ocNu, odNu, .func (PySem.W.fnOf "is_number" "is_number" (defArgs sPNum) (defBody sPNum) (defScope sPNum) .none kVNu dcNu pmNu anNu cdNu ctNu), slNu⟩)
    (dNu : PySem.W.codeIn K cdNu "is_number" = true)
    (eNu : PySem.W.keepIn K (.ref fNu) = true)
    (aAs : PySem.W.nsIn K mainGlobals "is_ask" = some (some (.ref fAs)))
    (lAs : K.lookup fAs = some ⟨ocAs, odAs, .func (PySem.W.fnOf "is_ask" "is_ask" (defArgs sPAsk) (defBody sPAsk) (defScope sPAsk) .none kVAs dcAs pmAs anAs cdAs ctAs), slAs⟩)
    (dAs : PySem.W.codeIn K cdAs "is_ask" = true)
    (eAs : PySem.W.keepIn K (.ref fAs) = true)
    (aPl : PySem.W.nsIn K mainGlobals "is_place" = some (some (.ref fPl)))
    (lPl : K.lookup fPl = some ⟨ocPl, odPl, .func (PySem.W.fnOf "is_place" "is_place" (defArgs sPPlace) (defBody sPPlace) (defScope sPPlace) .none kVPl dcPl pmPl anPl cdPl ctPl), slPl⟩)
    (dPl : PySem.W.codeIn K cdPl "is_place" = true)
    (ePl : PySem.W.keepIn K (.ref fPl) = true)
    (aMo : PySem.W.nsIn K mainGlobals "is_mode" = some (some (.ref fMo)))
    (lMo : K.lookup fMo = some ⟨ocMo, odMo, .func (PySem.W.fnOf "is_mode" "is_mode" (defArgs sPMode) (defBody sPMode) (defScope sPMode) .none kVMo dcMo pmMo anMo cdMo ctMo), slMo⟩)
    (dMo : PySem.W.codeIn K cdMo "is_mode" = true)
    (eMo : PySem.W.keepIn K (.ref fMo) = true)
    (aNP : PySem.W.nsIn K mainGlobals "need_places" = some (some (.ref fNP)))
    (lNP : K.lookup fNP = some ⟨ocNP, odNP, .func (PySem.W.fnOf "need_places" "need_places" (defArgs sNPlaces) (defBody sNPlaces) (defScope sNPlaces) .none kVNP dcNP pmNP anNP cdNP ctNP), slNP⟩)
    (dNP : PySem.W.codeIn K cdNP "need_places" = true)
    (eNP : PySem.W.keepIn K (.ref fNP) = true)
    (aNM : PySem.W.nsIn K mainGlobals "need_modes" = some (some (.ref fNM)))
    (lNM : K.lookup fNM = some ⟨ocNM, odNM, .func (PySem.W.fnOf "need_modes" "need_modes" (defArgs sNModes) (defBody sNModes) (defScope sNModes) .none kVNM dcNM pmNM anNM cdNM ctNM), slNM⟩)
    (dNM : PySem.W.codeIn K cdNM "need_modes" = true)
    (eNM : PySem.W.keepIn K (.ref fNM) = true)
    (aBg : PySem.W.nsIn K mainGlobals "_law_begun" = some (some (.ref fBg)))
    (lBg : K.lookup fBg = some ⟨ocBg, odBg, .func (PySem.W.fnOf "_law_begun" "_law_begun" (defArgs sBegun) (defBody sBegun) (defScope sBegun) .none kVBg dcBg pmBg anBg cdBg ctBg), slBg⟩)
    (dBg : PySem.W.codeIn K cdBg "_law_begun" = true)
    (eBg : PySem.W.keepIn K (.ref fBg) = true)
    (aN : PySem.W.nsIn K mainGlobals "_law_next" = some (some (.ref fN)))
    (lN : K.lookup fN = some ⟨ocN, odN, .func (PySem.W.fnOf "_law_next" "_law_next" (defArgs sNext) (defBody sNext) (defScope sNext) .none kVN dcN pmN anN cdN ctN), slN⟩)
    (dN : PySem.W.codeIn K cdN "_law_next" = true)
    (eN : PySem.W.keepIn K (.ref fN) = true)
    (aNa : PySem.W.nsIn K mainGlobals "_law_names" = some (some (.ref fM)))
    (lNa : K.lookup fM = some ⟨ocNa, odNa, .func (PySem.W.fnOf "_law_names" "_law_names" (defArgs sNames) (defBody sNames) (defScope sNames) .none kVNa dcNa pmNa anNa cdNa ctNa), slNa⟩)
    (dNa : PySem.W.codeIn K cdNa "_law_names" = true)
    (eNa : PySem.W.keepIn K (.ref fM) = true)
    (aSe : PySem.W.nsIn K mainGlobals "_law_settings" = some (some (.ref fSe)))
    (lSe : K.lookup fSe = some ⟨ocSe, odSe, .func (PySem.W.fnOf "_law_settings" "_law_settings" (defArgs sSettings) (defBody sSettings) (defScope sSettings) .none kVSe dcSe pmSe anSe cdSe ctSe), slSe⟩)
    (dSe : PySem.W.codeIn K cdSe "_law_settings" = true)
    (eSe : PySem.W.keepIn K (.ref fSe) = true)
    (aPc : PySem.W.nsIn K mainGlobals "_law_places" = some (some (.ref fPc)))
    (lPc : K.lookup fPc = some ⟨ocPc, odPc, .func (PySem.W.fnOf "_law_places" "_law_places" (defArgs sPlaces) (defBody sPlaces) (defScope sPlaces) .none kVPc dcPc pmPc anPc cdPc ctPc), slPc⟩)
    (dPc : PySem.W.codeIn K cdPc "_law_places" = true)
    (ePc : PySem.W.keepIn K (.ref fPc) = true)
    (aMd : PySem.W.nsIn K mainGlobals "_law_modes" = some (some (.ref fMd)))
    (lMd : K.lookup fMd = some ⟨ocMd, odMd, .func (PySem.W.fnOf "_law_modes" "_law_modes" (defArgs sModes) (defBody sModes) (defScope sModes) .none kVMd dcMd pmMd anMd cdMd ctMd), slMd⟩)
    (dMd : PySem.W.codeIn K cdMd "_law_modes" = true)
    (eMd : PySem.W.keepIn K (.ref fMd) = true)
    (aRl : PySem.W.nsIn K mainGlobals "_law_request_lines" = some (some (.ref fRl)))
    (lRl : K.lookup fRl = some ⟨ocRl, odRl, .func (PySem.W.fnOf "_law_request_lines" "_law_request_lines" (defArgs sRLines) (defBody sRLines) (defScope sRLines) .none kVRl dcRl pmRl anRl cdRl ctRl), slRl⟩)
    (dRl : PySem.W.codeIn K cdRl "_law_request_lines" = true)
    (eRl : PySem.W.keepIn K (.ref fRl) = true)
    (aSh : PySem.W.nsIn K mainGlobals "_law_shown" = some (some (.ref fSh)))
    (lSh : K.lookup fSh = some ⟨ocSh, odSh, .func (PySem.W.fnOf "_law_shown" "_law_shown" (defArgs sShown) (defBody sShown) (defScope sShown) .none kVSh dcSh pmSh anSh cdSh ctSh), slSh⟩)
    (dSh : PySem.W.codeIn K cdSh "_law_shown" = true)
    (eSh : PySem.W.keepIn K (.ref fSh) = true)
    (aRI : PySem.W.nsIn K mainGlobals "_law_request_in" = some (some (.ref fRI)))
    (lRI : K.lookup fRI = some ⟨ocRI, odRI, .func (PySem.W.fnOf "_law_request_in" "_law_request_in" (defArgs sRequestIn) (defBody sRequestIn) (defScope sRequestIn) .none kVRI dcRI pmRI anRI cdRI ctRI), slRI⟩)
    (dRI : PySem.W.codeIn K cdRI "_law_request_in" = true)
    (eRI : PySem.W.keepIn K (.ref fRI) = true)
    (aBt : PySem.W.nsIn K mainGlobals "_law_bent_text" = some (some (.ref fBt)))
    (lBt : K.lookup fBt = some ⟨ocBt, odBt, .func (PySem.W.fnOf "_law_bent_text" "_law_bent_text" (defArgs sBentT) (defBody sBentT) (defScope sBentT) .none kVBt dcBt pmBt anBt cdBt ctBt), slBt⟩)
    (dBt : PySem.W.codeIn K cdBt "_law_bent_text" = true)
    (eBt : PySem.W.keepIn K (.ref fBt) = true)
    (aCa : PySem.W.nsIn K mainGlobals "_law_caught" = some (some (.ref fCa)))
    (lCa : K.lookup fCa = some ⟨ocCa, odCa, .func (PySem.W.fnOf "_law_caught" "_law_caught" (defArgs sCaught) (defBody sCaught) (defScope sCaught) .none kVCa dcCa pmCa anCa cdCa ctCa), slCa⟩)
    (dCa : PySem.W.codeIn K cdCa "_law_caught" = true)
    (eCa : PySem.W.keepIn K (.ref fCa) = true)
    (aLP : PySem.W.nsIn K mainGlobals "_law_place_in" = some (some (.ref fLP)))
    (lLP : K.lookup fLP = some ⟨ocLP, odLP, .func (PySem.W.fnOf "_law_place_in" "_law_place_in" (defArgs sPlaceIn) (defBody sPlaceIn) (defScope sPlaceIn) .none kVLP dcLP pmLP anLP cdLP ctLP), slLP⟩)
    (dLP : PySem.W.codeIn K cdLP "_law_place_in" = true)
    (eLP : PySem.W.keepIn K (.ref fLP) = true)
    (aLA : PySem.W.nsIn K mainGlobals "_law_is_name" = some (some (.ref fLA)))
    (lLA : K.lookup fLA = some ⟨ocLA, odLA, .func (PySem.W.fnOf "_law_is_name" "_law_is_name" (defArgs sIsName) (defBody sIsName) (defScope sIsName) .none kVLA dcLA pmLA anLA cdLA ctLA), slLA⟩)
    (dLA : PySem.W.codeIn K cdLA "_law_is_name" = true)
    (eLA : PySem.W.keepIn K (.ref fLA) = true)
    (aRd : PySem.W.nsIn K mainGlobals "read_request" = some (some (.ref fRd)))
    (lRd : K.lookup fRd = some ⟨ocRd, odRd, .func (PySem.W.fnOf "read_request" "read_request" (defArgs sRead) (defBody sRead) (defScope sRead) .none kVRd dcRd pmRd anRd cdRd ctRd), slRd⟩)
    (dRd : PySem.W.codeIn K cdRd "read_request" = true)
    (eRd : PySem.W.keepIn K (.ref fRd) = true)
    (aLn : PySem.W.nsIn K mainGlobals "lines_of" = some (some (.ref fLn)))
    (lLn : K.lookup fLn = some ⟨ocLn, odLn, .func (PySem.W.fnOf "lines_of" "lines_of" (defArgs sLines) (defBody sLines) (defScope sLines) .none kVLn dcLn pmLn anLn cdLn ctLn), slLn⟩)
    (dLn : PySem.W.codeIn K cdLn "lines_of" = true)
    (eLn : PySem.W.keepIn K (.ref fLn) = true)
    (aML : PySem.W.nsIn K mainGlobals "is_modes_line" = some (some (.ref fML)))
    (lML : K.lookup fML = some ⟨ocML, odML, .func (PySem.W.fnOf "is_modes_line" "is_modes_line" (defArgs sMLine) (defBody sMLine) (defScope sMLine) .none kVML dcML pmML anML cdML ctML), slML⟩)
    (dML : PySem.W.codeIn K cdML "is_modes_line" = true)
    (eML : PySem.W.keepIn K (.ref fML) = true)
    (aPI : PySem.W.nsIn K mainGlobals "place_in" = some (some (.ref fPI)))
    (lPI : K.lookup fPI = some ⟨ocPI, odPI, .func (PySem.W.fnOf "place_in" "place_in" (defArgs sPIn) (defBody sPIn) (defScope sPIn) .none kVPI dcPI pmPI anPI cdPI ctPI), slPI⟩)
    (dPI : PySem.W.codeIn K cdPI "place_in" = true)
    (ePI : PySem.W.keepIn K (.ref fPI) = true)
    (aNs : PySem.W.nsIn K mainGlobals "numbers_in" = some (some (.ref fNs)))
    (lNs : K.lookup fNs = some ⟨ocNs, odNs, .func (PySem.W.fnOf "numbers_in" "numbers_in" (defArgs sNums) (defBody sNums) (defScope sNums) .none kVNs dcNs pmNs anNs cdNs ctNs), slNs⟩)
    (dNs : PySem.W.codeIn K cdNs "numbers_in" = true)
    (eNs : PySem.W.keepIn K (.ref fNs) = true)
    (aFg : PySem.W.nsIn K mainGlobals "is_figure" = some (some (.ref fF)))
    (lFg : K.lookup fF = some ⟨ocFg, odFg, .func (PySem.W.fnOf "is_figure" "is_figure" (defArgs sFig) (defBody sFig) (defScope sFig) .none kVFg dcFg pmFg anFg cdFg ctFg), slFg⟩)
    (dFg : PySem.W.codeIn K cdFg "is_figure" = true)
    (eFg : PySem.W.keepIn K (.ref fF) = true)
    (aNW : PySem.W.nsIn K mainGlobals "is_number_word" = some (some (.ref fNW)))
    (lNW : K.lookup fNW = some ⟨ocNW, odNW, .func (PySem.W.fnOf "is_number_word" "is_number_word" (defArgs sNWord) (defBody sNWord) (defScope sNWord) .none kVNW dcNW pmNW anNW cdNW ctNW), slNW⟩)
    (dNW : PySem.W.codeIn K cdNW "is_number_word" = true)
    (eNW : PySem.W.keepIn K (.ref fNW) = true)
    (aOr : PySem.W.nsIn K mainGlobals "order_of" = some (some (.ref fOr)))
    (lOr : K.lookup fOr = some ⟨ocOr, odOr, .func (PySem.W.fnOf "order_of" "order_of" (defArgs sPOrder) (defBody sPOrder) (defScope sPOrder) .none kVOr dcOr pmOr anOr cdOr ctOr), slOr⟩)
    (dOr : PySem.W.codeIn K cdOr "order_of" = true)
    (eOr : PySem.W.keepIn K (.ref fOr) = true)
    (aL : PySem.W.nsIn K mainGlobals "law" = some (some (.ref fL9)))
    (lL : K.lookup fL9 = some ⟨ocL, odL, .func (PySem.W.fnOf "law" "law" (defArgs sLaw) (defBody sLaw) (defScope sLaw) .none kVL dcL pmL anL cdL ctL), slL⟩)
    (dL : PySem.W.codeIn K cdL "law" = true)
    (eL : PySem.W.keepIn K (.ref fL9) = true)
    (cMOST_SETTINGS : PySem.W.nsIn K mainGlobals "MOST_SETTINGS" = some (some (.int 3 tMOST_SETTINGS)))
    (cMOST_VALUE : PySem.W.nsIn K mainGlobals "MOST_VALUE" = some (some (.int 3 tMOST_VALUE)))
    (cMOST_STANDINGS : PySem.W.nsIn K mainGlobals "MOST_STANDINGS" = some (some (.int 12 tMOST_STANDINGS)))
    (cLONGEST_NAME : PySem.W.nsIn K mainGlobals "LONGEST_NAME" = some (some (.int 8 tLONGEST_NAME)))
    (cMOST_PLACES : PySem.W.nsIn K mainGlobals "MOST_PLACES" = some (some (.int 16 tMOST_PLACES)))
    (cDG : PySem.W.nsIn K mainGlobals "DIGITS" = some (some (.str "0123456789" tDG)))
    (z_list : PySem.W.nsIn K mainGlobals "list" = some none)
    (z_len : PySem.W.nsIn K mainGlobals "len" = some none)
    (z_int : PySem.W.nsIn K mainGlobals "int" = some none)
    (z_range : PySem.W.nsIn K mainGlobals "range" = some none)
    (z_tuple : PySem.W.nsIn K mainGlobals "tuple" = some none)
    (z_zip : PySem.W.nsIn K mainGlobals "zip" = some none)
    (z_isinstance : PySem.W.nsIn K mainGlobals "isinstance" = some none)
    (z_str : PySem.W.nsIn K mainGlobals "str" = some none)
    (z_bool : PySem.W.nsIn K mainGlobals "bool" = some none)
    (z_enumerate : PySem.W.nsIn K mainGlobals "enumerate" = some none)
    (z_all : PySem.W.nsIn K mainGlobals "all" = some none)
    (z_repr : PySem.W.nsIn K mainGlobals "repr" = some none)
    (z_min : PySem.W.nsIn K mainGlobals "min" = some none)
    (z_max : PySem.W.nsIn K mainGlobals "max" = some none)
    (z_dict : PySem.W.nsIn K mainGlobals "dict" = some none)
    (hc : cdSh = .ref c) : LawRunT P w K mg fa c Pt := by
  have e := hfa.symm.trans (PySem.W.mg_of X G aL)
  cases e
  have FieS := fun_mk (st := sIni) lieS dieS eieS
  have bieS := FieS.binds (ps := ["self", "place"]) fun _ _ _ _ _ _ us hl => match us, hl with | [_, _], _ => rfl
  have OXeS : OexC K CS := ⟨⟨_, _, _, _, _, _, _, _, _, _, _, _, _, _, _, XeS, ReS⟩, SeS, EeS, TeS, KeS⟩
  have ECeS : ErrC K CS fES := ⟨OXeS, IeS, YeS, NeS⟩
  have XFeS : XfC K CS := ⟨GeS, HeS, EeS, DeS⟩
  have FieP := fun_mk (st := sIniP) lieP dieP eieP
  have bieP := FieP.binds (ps := ["self", "place"]) fun _ _ _ _ _ _ us hl => match us, hl with | [_, _], _ => rfl
  have OXeP : OexC K CP := ⟨⟨_, _, _, _, _, _, _, _, _, _, _, _, _, _, _, XeP, ReP⟩, SeP, EeP, TeP, KeP⟩
  have ECeP : ErrC K CP fEP := ⟨OXeP, IeP, YeP, NeP⟩
  have XFeP : XfC K CP := ⟨GeP, HeP, EeP, DeP⟩
  have FieM := fun_mk (st := sIniM) lieM dieM eieM
  have bieM := FieM.binds (ps := ["self", "place"]) fun _ _ _ _ _ _ us hl => match us, hl with | [_, _], _ => rfl
  have OXeM : OexC K CM := ⟨⟨_, _, _, _, _, _, _, _, _, _, _, _, _, _, _, XeM, ReM⟩, SeM, EeM, TeM, KeM⟩
  have ECeM : ErrC K CM fEM := ⟨OXeM, IeM, YeM, NeM⟩
  have XFeM : XfC K CM := ⟨GeM, HeM, EeM, DeM⟩
  have FieT := fun_mk (st := sIniX) lieT dieT eieT
  have bieT := FieT.binds (ps := ["self", "line"]) fun _ _ _ _ _ _ us hl => match us, hl with | [_, _], _ => rfl
  have OXeT : OexC K CT := ⟨⟨_, _, _, _, _, _, _, _, _, _, _, _, _, _, _, XeT, ReT⟩, SeT, EeT, TeT, KeT⟩
  have ECeT : ErrF K CT fET "line" := ⟨OXeT, IeT, YeT, NeT⟩
  have XFeT : XfC K CT := ⟨GeT, HeT, EeT, DeT⟩
  have FR : FunD K "__init__" "Request.__init__" (defArgs sReqIni) (defBody sReqIni) (defScope sReqIni) [.non] [] fR _ := ⟨⟨ocR, odR, _, kVR, dcR, pmR, anR, cdR, ctR, slR, rfl, lR, dR, .inr ⟨nofun, Td, _, [.none], nT, rfl, lT, rfl, .cons rfl .nil⟩, .inl rfl⟩, eR⟩
  obtain ⟨ds4, vd4, b4⟩ := FR.binds1 (ps := ["self", "settings", "places", "modes"]) 4 1 nofun rfl (fun T kV doc pm an cdv ct us its h1 h2 => match us, its, h1, h2 with | [_, _, _, _], [_], _, _ => ⟨_, rfl, rfl⟩)
  cases (show Vals [] ds4 from vd4)
  obtain ⟨ds3, vd3, b3⟩ := FR.binds1 (ps := ["self", "settings", "places", "modes"]) 3 0 nofun rfl (fun T kV doc pm an cdv ct us its h1 h2 => match us, its, h1, h2 with | [_, _, _], [_], _, _ => ⟨_, rfl, rfl⟩)
  obtain ⟨dn, edn⟩ : ∃ dn, ds3 = [dn] := by
    cases (show Vals [.non] ds3 from vd3) with
    | cons _ r => cases r; exact ⟨_, rfl⟩
  subst edn
  have MkC : Mk K C fR := ⟨mkR, IR, fnR, kpR⟩
  have RC : ReqC K C := ⟨⟨pgR, hdR, poR, saR⟩, n0R, n1R, n2R⟩
  have WT : WrT K aE aM := ⟨fun H => .inr ⟨_, _, _, lE, rfl, rfl, (by show 1 ≤ sizeLine; decide), .cons ⟨_, rfl⟩ .nil⟩, fun H => .inr ⟨_, _, _, lM, rfl, rfl, (by show 3 ≤ sizeLine; decide), .cons ⟨_, rfl⟩ (.cons ⟨_, rfl⟩ (.cons ⟨_, rfl⟩ .nil))⟩⟩
  have FpI := fun_mk (st := sPInt) lpI dpI epI
  have bpI := FpI.binds (ps := ["thing"]) fun _ _ _ _ _ _ us hl => match us, hl with | [_], _ => rfl
  have FpN := fun_mk (st := sPName) lpN dpN epN
  have bpN := FpN.binds (ps := ["thing"]) fun _ _ _ _ _ _ us hl => match us, hl with | [_], _ => rfl
  have FpS := fun_mk (st := sPSet) lpS dpS epS
  have bpS := FpS.binds (ps := ["thing"]) fun _ _ _ _ _ _ us hl => match us, hl with | [_], _ => rfl
  have FpD := fun_mk (st := sNeed) lpD dpD epD
  have bpD := FpD.binds (ps := ["thing"]) fun _ _ _ _ _ _ us hl => match us, hl with | [_], _ => rfl
  have FpA := fun_mk (st := sPNames) lpA dpA epA
  have bpA := FpA.binds (ps := ["settings"]) fun _ _ _ _ _ _ us hl => match us, hl with | [_], _ => rfl
  have FpG := fun_mk (st := sPGrid) lpG dpG epG
  have bpG := FpG.binds (ps := ["settings"]) fun _ _ _ _ _ _ us hl => match us, hl with | [_], _ => rfl
  have FNu := fun_mk (st := sPNum) lNu dNu eNu
  have bNu := FNu.binds (ps := ["many", "thing"]) fun _ _ _ _ _ _ us hl => match us, hl with | [_, _], _ => rfl
  have FAs := fun_mk (st := sPAsk) lAs dAs eAs
  have bAs := FAs.binds (ps := ["settings", "many", "setting", "nexts"]) fun _ _ _ _ _ _ us hl => match us, hl with | [_, _, _, _], _ => rfl
  have FPl := fun_mk (st := sPPlace) lPl dPl ePl
  have bPl := FPl.binds (ps := ["settings", "many", "thing"]) fun _ _ _ _ _ _ us hl => match us, hl with | [_, _, _], _ => rfl
  have FMo := fun_mk (st := sPMode) lMo dMo eMo
  have bMo := FMo.binds (ps := ["thing"]) fun _ _ _ _ _ _ us hl => match us, hl with | [_], _ => rfl
  have FNP := fun_mk (st := sNPlaces) lNP dNP eNP
  have bNP := FNP.binds (ps := ["settings", "places"]) fun _ _ _ _ _ _ us hl => match us, hl with | [_, _], _ => rfl
  have FNM := fun_mk (st := sNModes) lNM dNM eNM
  have bNM := FNM.binds (ps := ["settings", "modes"]) fun _ _ _ _ _ _ us hl => match us, hl with | [_, _], _ => rfl
  have FBg := fun_mk (st := sBegun) lBg dBg eBg
  have bBg := FBg.binds (ps := ["script"]) fun _ _ _ _ _ _ us hl => match us, hl with | [_], _ => rfl
  have FN := fun_mk (st := sNext) lN dN eN
  have bN := FN.binds (ps := ["m", "many"]) fun _ _ _ _ _ _ us hl => match us, hl with | [_, _], _ => rfl
  have FNa := fun_mk (st := sNames) lNa dNa eNa
  have bNa := FNa.binds (ps := ["m", "many"]) fun _ _ _ _ _ _ us hl => match us, hl with | [_, _], _ => rfl
  have FSe := fun_mk (st := sSettings) lSe dSe eSe
  have bSe := FSe.binds (ps := ["m"]) fun _ _ _ _ _ _ us hl => match us, hl with | [_], _ => rfl
  have FPc := fun_mk (st := sPlaces) lPc dPc ePc
  have bPc := FPc.binds (ps := ["m", "spots", "most"]) fun _ _ _ _ _ _ us hl => match us, hl with | [_, _, _], _ => rfl
  have FMd := fun_mk (st := sModes) lMd dMd eMd
  have bMd := FMd.binds (ps := ["m", "spots"]) fun _ _ _ _ _ _ us hl => match us, hl with | [_, _], _ => rfl
  have FRl := fun_mk (st := sRLines) lRl dRl eRl
  have bRl := FRl.binds (ps := ["places", "modes"]) fun _ _ _ _ _ _ us hl => match us, hl with | [_, _], _ => rfl
  have FSh := fun_mk (st := sShown) lSh dSh eSh
  have bSh := FSh.binds (ps := ["spots", "text_so"]) fun _ _ _ _ _ _ us hl => match us, hl with | [_, _], _ => rfl
  have FRI := fun_mk (st := sRequestIn) lRI dRI eRI
  have bRI := FRI.binds (ps := ["spots", "text_so"]) fun _ _ _ _ _ _ us hl => match us, hl with | [_, _], _ => rfl
  have FBt := fun_mk (st := sBentT) lBt dBt eBt
  have bBt := FBt.binds (ps := ["m", "text_so", "more"]) fun _ _ _ _ _ _ us hl => match us, hl with | [_, _, _], _ => rfl
  have FCa := fun_mk (st := sCaught) lCa dCa eCa
  have bCa := FCa.binds (ps := ["call"]) fun _ _ _ _ _ _ us hl => match us, hl with | [_], _ => rfl
  have FLP := fun_mk (st := sPlaceIn) lLP dLP eLP
  have bLP := FLP.binds (ps := ["spots", "line"]) fun _ _ _ _ _ _ us hl => match us, hl with | [_, _], _ => rfl
  have FLA := fun_mk (st := sIsName) lLA dLA eLA
  have bLA := FLA.binds (ps := ["thing"]) fun _ _ _ _ _ _ us hl => match us, hl with | [_], _ => rfl
  have FRd := fun_mk (st := sRead) lRd dRd eRd
  have bRd := FRd.binds (ps := ["settings", "text"]) fun _ _ _ _ _ _ us hl => match us, hl with | [_, _], _ => rfl
  have FLn := fun_mk (st := sLines) lLn dLn eLn
  have bLn := FLn.binds (ps := ["text"]) fun _ _ _ _ _ _ us hl => match us, hl with | [_], _ => rfl
  have FML := fun_mk (st := sMLine) lML dML eML
  have bML := FML.binds (ps := ["settings", "words"]) fun _ _ _ _ _ _ us hl => match us, hl with | [_, _], _ => rfl
  have FPI := fun_mk (st := sPIn) lPI dPI ePI
  have bPI := FPI.binds (ps := ["settings", "words"]) fun _ _ _ _ _ _ us hl => match us, hl with | [_, _], _ => rfl
  have FNs := fun_mk (st := sNums) lNs dNs eNs
  have bNs := FNs.binds (ps := ["place"]) fun _ _ _ _ _ _ us hl => match us, hl with | [_], _ => rfl
  have FFg := fun_mk (st := sFig) lFg dFg eFg
  have bFg := FFg.binds (ps := ["word"]) fun _ _ _ _ _ _ us hl => match us, hl with | [_], _ => rfl
  have FNW := fun_mk (st := sNWord) lNW dNW eNW
  have bNW := FNW.binds (ps := ["word"]) fun _ _ _ _ _ _ us hl => match us, hl with | [_], _ => rfl
  have FOr := fun_mk (st := sPOrder) lOr dOr eOr
  have bOr := FOr.binds (ps := ["settings"]) fun _ _ _ _ _ _ us hl => match us, hl with | [_], _ => rfl
  have FL := fun_mk (st := sLaw) lL dL eL
  have T0 : TxtS mg fN fM := ⟨⟨⟨PySem.W.mg_none_of X G z_list, PySem.W.mg_none_of X G z_len, PySem.W.mg_none_of X G z_int⟩, PySem.W.mg_of X G aN, PySem.W.mg_none_of X G z_range, PySem.W.mg_none_of X G z_tuple, PySem.W.mg_none_of X G z_zip⟩, PySem.W.mg_of X G aNa⟩
  have TX : TxtX mg := ⟨PySem.W.mg_none_of X G z_isinstance, PySem.W.mg_none_of X G z_str, PySem.W.mg_none_of X G z_len, PySem.W.mg_none_of X G z_list, PySem.W.mg_none_of X G z_tuple, PySem.W.mg_none_of X G z_int, PySem.W.mg_none_of X G z_max, PySem.W.mg_none_of X G z_all, PySem.W.mg_none_of X G z_enumerate⟩
  have gDG : ∃ t, mg "DIGITS" = some (.str digits t) := ⟨_, PySem.W.mg_of X G cDG⟩
  have TP : TxtP mg pI pN pS pA pG := ⟨PySem.W.mg_none_of X G z_isinstance, PySem.W.mg_none_of X G z_int, PySem.W.mg_none_of X G z_bool, PySem.W.mg_none_of X G z_str, PySem.W.mg_none_of X G z_tuple, PySem.W.mg_none_of X G z_len, PySem.W.mg_none_of X G z_all, PySem.W.mg_none_of X G z_range, PySem.W.mg_none_of X G z_enumerate, ⟨_, PySem.W.mg_of X G cMOST_SETTINGS⟩, ⟨_, PySem.W.mg_of X G cMOST_VALUE⟩, ⟨_, PySem.W.mg_of X G cMOST_STANDINGS⟩, ⟨_, PySem.W.mg_of X G cLONGEST_NAME⟩, PySem.W.mg_of X G apI, PySem.W.mg_of X G apN, PySem.W.mg_of X G apS, PySem.W.mg_of X G apA, PySem.W.mg_of X G apG⟩
  have TR : TxtR mg pI pN pS pA pG fNu fAs fPl fMo fNP fNM pD aE aM := ⟨TP, PySem.W.mg_of X G aNu, PySem.W.mg_of X G aAs, PySem.W.mg_of X G aPl, PySem.W.mg_of X G aMo, PySem.W.mg_of X G aNP, PySem.W.mg_of X G aNM, PySem.W.mg_of X G apD, PySem.W.mg_of X G AE, PySem.W.mg_of X G AM, ⟨_, PySem.W.mg_of X G cMOST_PLACES⟩⟩
  have TQ : TxtQ mg := ⟨PySem.W.mg_none_of X G z_isinstance, PySem.W.mg_none_of X G z_int, PySem.W.mg_none_of X G z_bool, PySem.W.mg_none_of X G z_str, PySem.W.mg_none_of X G z_len⟩
  exact ok_law T0 (PySem.W.mg_none_of X G z_min) (PySem.W.mg_none_of X G z_repr) TX gDG TR WT (PySem.W.mg_of X G aBg) (PySem.W.mg_of X G aSe) (PySem.W.mg_of X G aPc) (PySem.W.mg_of X G aMd) (PySem.W.mg_of X G aRl) (PySem.W.mg_of X G aSh) (PySem.W.mg_of X G aRI) (PySem.W.mg_of X G aBt) (PySem.W.mg_of X G aCa) (PySem.W.mg_of X G aLP) (PySem.W.mg_of X G aLA) (PySem.W.mg_of X G aRd) (PySem.W.mg_of X G aLn) (PySem.W.mg_of X G aML) (PySem.W.mg_of X G aPI) (PySem.W.mg_of X G aNs) (PySem.W.mg_of X G aFg) (PySem.W.mg_of X G aNW) (PySem.W.mg_of X G aOr) (PySem.W.mg_of X G AR) (PySem.W.mg_of X G AeS) (PySem.W.mg_of X G AeP) (PySem.W.mg_of X G AeM) (PySem.W.mg_of X G AeT) RC MkC ECeS ECeP ECeM ECeT MeT XFeT TQ (PySem.W.mg_none_of X G z_dict) FL (fun s v => .of_eq rfl) FBg bBg FN bN FNa bNa FSe bSe FPc bPc FMd bMd FRl bRl FSh hc bSh FRI bRI FBt bBt FCa bCa FLP bLP FLA bLA FRd bRd FLn bLn FML bML FPI bPI FNs bNs FFg bFg FNW bNW FOr bOr FR b4 FieS bieS FieP bieP FieM bieM FieT bieT FpI bpI FpN bpN FpS bpS FpA bpA FpG bpG FpD bpD FNu bNu FAs bAs FPl bPl FMo bMo FNP bNP FNM bNM
end Ms
open PySem PySem.W PyProof.Rows
set_option maxRecDepth 100000 in
set_option maxHeartbeats 0 in
theorem PySem.Challenge.cw_midswitch_k56_whole_any_request_text_holds : PySem.Challenge.rw_midswitch_k56_whole_any_request_text.Holds := by
  w_on; o_law; k_head; (case hw => w_witness2)
  k_fill
  refine' Ms.walk_tabled (l := PySem.Challenge.rw_midswitch_k56_whole_any_request_text) rfl rfl (fun w h Y => PySem.W.km_in_of Y) (fun w h Y => PySem.W.km_tabs_of Y _ (List.mem_singleton.mpr rfl)) ?tabHd ?tabNo ?R
  case R =>
    intro w mg fa h KX G hmg
    refine' Ms.all_mk KX G hmg ?AeS ?XeS ?ReS ?SeS ?EeS ?TeS ?KeS ?IeS ?YeS ?NeS ?GeS ?HeS ?DeS ?MeS ?lieS ?dieS ?eieS ?AeP ?XeP ?ReP ?SeP ?EeP ?TeP ?KeP ?IeP ?YeP ?NeP ?GeP ?HeP ?DeP ?MeP ?lieP ?dieP ?eieP ?AeM ?XeM ?ReM ?SeM ?EeM ?TeM ?KeM ?IeM ?YeM ?NeM ?GeM ?HeM ?DeM ?MeM ?lieM ?dieM ?eieM ?AeT ?XeT ?ReT ?SeT ?EeT ?TeT ?KeT ?IeT ?YeT ?NeT ?GeT ?HeT ?DeT ?MeT ?lieT ?dieT ?eieT ?AR ?IR ?mkR ?fnR ?kpR ?pgR ?hdR ?poR ?saR ?n0R ?n1R ?n2R ?lR ?dR ?eR ?lT ?AE ?AM ?lE ?lM ?apI ?lpI ?dpI ?epI ?apN ?lpN ?dpN ?epN ?apS ?lpS ?dpS ?epS ?apD ?lpD ?dpD ?epD ?apA ?lpA ?dpA ?epA ?apG ?lpG ?dpG ?epG ?aNu ?lNu ?dNu ?eNu ?aAs ?lAs ?dAs ?eAs ?aPl ?lPl ?dPl ?ePl ?aMo ?lMo ?dMo ?eMo ?aNP ?lNP ?dNP ?eNP ?aNM ?lNM ?dNM ?eNM ?aBg ?lBg ?dBg ?eBg ?aN ?lN ?dN ?eN ?aNa ?lNa ?dNa ?eNa ?aSe ?lSe ?dSe ?eSe ?aPc ?lPc ?dPc ?ePc ?aMd ?lMd ?dMd ?eMd ?aRl ?lRl ?dRl ?eRl ?aSh ?lSh ?dSh ?eSh ?aRI ?lRI ?dRI ?eRI ?aBt ?lBt ?dBt ?eBt ?aCa ?lCa ?dCa ?eCa ?aLP ?lLP ?dLP ?eLP ?aLA ?lLA ?dLA ?eLA ?aRd ?lRd ?dRd ?eRd ?aLn ?lLn ?dLn ?eLn ?aML ?lML ?dML ?eML ?aPI ?lPI ?dPI ?ePI ?aNs ?lNs ?dNs ?eNs ?aFg ?lFg ?dFg ?eFg ?aNW ?lNW ?dNW ?eNW ?aOr ?lOr ?dOr ?eOr ?aL ?lL ?dL ?eL ?cMOST_SETTINGS ?cMOST_VALUE ?cMOST_STANDINGS ?cLONGEST_NAME ?cMOST_PLACES ?cDG ?z_list ?z_len ?z_int ?z_range ?z_tuple ?z_zip ?z_isinstance ?z_str ?z_bool ?z_enumerate ?z_all ?z_repr ?z_min ?z_max ?z_dict ?eCode
    (case AeS => k_is)
    (case XeS => k_is)
    (case ReS => rfl)
    (case SeS => k_is)
    (case EeS => k_is)
    (case TeS => k_is)
    (case KeS => k_is)
    (case IeS => k_is)
    (case YeS => k_is)
    (case NeS => k_is)
    (case GeS => k_is)
    (case HeS => k_is)
    (case DeS => k_is)
    (case MeS => kernel_rfl)
    (case lieS => k_is)
    (case dieS => k_is)
    (case eieS => k_is)
    (case AeP => k_is)
    (case XeP => k_is)
    (case ReP => rfl)
    (case SeP => k_is)
    (case EeP => k_is)
    (case TeP => k_is)
    (case KeP => k_is)
    (case IeP => k_is)
    (case YeP => k_is)
    (case NeP => k_is)
    (case GeP => k_is)
    (case HeP => k_is)
    (case DeP => k_is)
    (case MeP => kernel_rfl)
    (case lieP => k_is)
    (case dieP => k_is)
    (case eieP => k_is)
    (case AeM => k_is)
    (case XeM => k_is)
    (case ReM => rfl)
    (case SeM => k_is)
    (case EeM => k_is)
    (case TeM => k_is)
    (case KeM => k_is)
    (case IeM => k_is)
    (case YeM => k_is)
    (case NeM => k_is)
    (case GeM => k_is)
    (case HeM => k_is)
    (case DeM => k_is)
    (case MeM => kernel_rfl)
    (case lieM => k_is)
    (case dieM => k_is)
    (case eieM => k_is)
    (case AeT => k_is)
    (case XeT => k_is)
    (case ReT => rfl)
    (case SeT => k_is)
    (case EeT => k_is)
    (case TeT => k_is)
    (case KeT => k_is)
    (case IeT => k_is)
    (case YeT => k_is)
    (case NeT => k_is)
    (case GeT => k_is)
    (case HeT => k_is)
    (case DeT => k_is)
    (case MeT => kernel_rfl)
    (case lieT => k_is)
    (case dieT => k_is)
    (case eieT => k_is)
    (case AR => k_is)
    (case IR => k_is)
    (case mkR => k_is)
    (case fnR => k_is)
    (case kpR => k_is)
    (case pgR => k_is)
    (case hdR => k_is)
    (case poR => k_is)
    (case saR => k_is)
    (case n0R => k_is)
    (case n1R => k_is)
    (case n2R => k_is)
    (case lR => k_is)
    (case dR => k_is)
    (case eR => k_is)
    (case lT => k_is)
    (case AE => k_is)
    (case AM => k_is)
    (case lE => k_is)
    (case lM => k_is)
    (case apI => k_is)
    (case lpI => k_is)
    (case dpI => k_is)
    (case epI => k_is)
    (case apN => k_is)
    (case lpN => k_is)
    (case dpN => k_is)
    (case epN => k_is)
    (case apS => k_is)
    (case lpS => k_is)
    (case dpS => k_is)
    (case epS => k_is)
    (case apD => k_is)
    (case lpD => k_is)
    (case dpD => k_is)
    (case epD => k_is)
    (case apA => k_is)
    (case lpA => k_is)
    (case dpA => k_is)
    (case epA => k_is)
    (case apG => k_is)
    (case lpG => k_is)
    (case dpG => k_is)
    (case epG => k_is)
    (case aNu => k_is)
    (case lNu => k_is)
    (case dNu => k_is)
    (case eNu => k_is)
    (case aAs => k_is)
    (case lAs => k_is)
    (case dAs => k_is)
    (case eAs => k_is)
    (case aPl => k_is)
    (case lPl => k_is)
    (case dPl => k_is)
    (case ePl => k_is)
    (case aMo => k_is)
    (case lMo => k_is)
    (case dMo => k_is)
    (case eMo => k_is)
    (case aNP => k_is)
    (case lNP => k_is)
    (case dNP => k_is)
    (case eNP => k_is)
    (case aNM => k_is)
    (case lNM => k_is)
    (case dNM => k_is)
    (case eNM => k_is)
    (case aBg => k_is)
    (case lBg => k_is)
    (case dBg => k_is)
    (case eBg => k_is)
    (case aN => k_is)
    (case lN => k_is)
    (case dN => k_is)
    (case eN => k_is)
    (case aNa => k_is)
    (case lNa => k_is)
    (case dNa => k_is)
    (case eNa => k_is)
    (case aSe => k_is)
    (case lSe => k_is)
    (case dSe => k_is)
    (case eSe => k_is)
    (case aPc => k_is)
    (case lPc => k_is)
    (case dPc => k_is)
    (case ePc => k_is)
    (case aMd => k_is)
    (case lMd => k_is)
    (case dMd => k_is)
    (case eMd => k_is)
    (case aRl => k_is)
    (case lRl => k_is)
    (case dRl => k_is)
    (case eRl => k_is)
    (case aSh => k_is)
    (case lSh => k_is)
    (case dSh => k_is)
    (case eSh => k_is)
    (case aRI => k_is)
    (case lRI => k_is)
    (case dRI => k_is)
    (case eRI => k_is)
    (case aBt => k_is)
    (case lBt => k_is)
    (case dBt => k_is)
    (case eBt => k_is)
    (case aCa => k_is)
    (case lCa => k_is)
    (case dCa => k_is)
    (case eCa => k_is)
    (case aLP => k_is)
    (case lLP => k_is)
    (case dLP => k_is)
    (case eLP => k_is)
    (case aLA => k_is)
    (case lLA => k_is)
    (case dLA => k_is)
    (case eLA => k_is)
    (case aRd => k_is)
    (case lRd => k_is)
    (case dRd => k_is)
    (case eRd => k_is)
    (case aLn => k_is)
    (case lLn => k_is)
    (case dLn => k_is)
    (case eLn => k_is)
    (case aML => k_is)
    (case lML => k_is)
    (case dML => k_is)
    (case eML => k_is)
    (case aPI => k_is)
    (case lPI => k_is)
    (case dPI => k_is)
    (case ePI => k_is)
    (case aNs => k_is)
    (case lNs => k_is)
    (case dNs => k_is)
    (case eNs => k_is)
    (case aFg => k_is)
    (case lFg => k_is)
    (case dFg => k_is)
    (case eFg => k_is)
    (case aNW => k_is)
    (case lNW => k_is)
    (case dNW => k_is)
    (case eNW => k_is)
    (case aOr => k_is)
    (case lOr => k_is)
    (case dOr => k_is)
    (case eOr => k_is)
    (case aL => k_is)
    (case lL => k_is)
    (case dL => k_is)
    (case eL => k_is)
    (case cMOST_SETTINGS => k_is)
    (case cMOST_VALUE => k_is)
    (case cMOST_STANDINGS => k_is)
    (case cLONGEST_NAME => k_is)
    (case cMOST_PLACES => k_is)
    (case cDG => k_is)
    (case z_list => k_is)
    (case z_len => k_is)
    (case z_int => k_is)
    (case z_range => k_is)
    (case z_tuple => k_is)
    (case z_zip => k_is)
    (case z_isinstance => k_is)
    (case z_str => k_is)
    (case z_bool => k_is)
    (case z_enumerate => k_is)
    (case z_all => k_is)
    (case z_repr => k_is)
    (case z_min => k_is)
    (case z_max => k_is)
    (case z_dict => k_is)
    (case eCode => rfl)
  case tabHd => intro w; kernel_rfl
  case tabNo => intro w; kernel_rfl
