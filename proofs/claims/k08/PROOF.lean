import PyProof.Rows.All
import Wide.All
import OpenK.AllK
import Wide.FinOn
import PyProof.EqAt
import PyProof.EqKinds
import PyProof.TupleCall
import HandS.ForExc
import HandS.ForMost
import HandS.Dict
import HandS.Comp
import HandS.IsInst
import HandS.StrMore
import PyProof.StrBlock2
import HandS.Zip
import HandS.Walk
import KE.GoesNew
import KE.GoesMore
import HandS.TupAny
import HandS.ExcInit
import HandS.ExcField
import HandS.Star
import HandS.Lambda
import HandS.EndTab
import KE.KNest
import KE.KNestM
import KE.KExcLine
import KE.KExcIs
import KE.RegKIsAll
import HandS.MakeKwOnly
import HandS.TupMul
import HandS.MakeKw
import HandS.ClsMeth
import KE.KIntText
import HandS.DictComp
import PyProof.P3Eq
import PySem.Challenge.RW_midswitch_k08_straight_requests
set_option Elab.async false
set_option linter.all false
set_option maxRecDepth 100000
set_option maxHeartbeats 4000000
namespace Ms
open PySem PySem.Spec PyProof.Rows L2
section
variable {P : Program} {w : World} {K : PySem.W.Frag} {mg : Str → Option Value} {base : Heap}
theorem deeper_guards {A : Around} {env : Env} (h : A.guards = some []) : (A.deeper env).guards = some [] := h
/-- a def is run where it is known that no guard stands (repr asks for that) -/
theorem run_known {x qual : Str} {st : Stmt} {f : Addr} {fd : FuncData} {N ps : List Str} {k : Nat} (F : Fun K x qual st f fd) (S : FnScope N ps (defScope st))
    {A : Around} {outer : List Env} {s : Shared} {H : Hp} {args : Args} {us : List Value} {vs : List V} {Q : VK} {E : XK}
    (gA : A.guards = some []) (rm : Room (k + 1) A) (st0 : Env0 P w K mg base A outer s H) (bd : BindsTo s fd args (ps.zip us)) (rel : Vals vs us) (ln : vs.length = ps.length)
    (walk : ∀ cdv : Value, Room k (A.deeper (envOfC qual (defScope st) s.heap.objs.size f cdv)) →
      ∃ t, PSs (cxOf CX0 P w K mg base N qual (defScope st) f cdv A outer s H E).nox (defBody st) t ∧ t { nx := fun _ H' => Q .non H', rt := Q } (start N vs) H) :
    codeAny (model P w) A (.call (.ref f) args) (CR CX0 outer P w H s Q E) s := by
  obtain ⟨oc, od, kV, doc, pm, an, cdv, ct, osl, rfl, atK, code⟩ := F.ex
  have inH : K.In s.heap := st0.mod.kin.keeps fun b o q => (st0.bs b o q).1
  have noLim : s.heap.NoLimit := st0.mod.nolimit.keeps fun b o q => (st0.bs b o q).1
  have kinds : ∀ y ∈ ps.zip us, (defScope st).names.lookup y.1 = some .local ∨ ((defScope st).names.lookup y.1 = some .cell ∧ ((cellsFrom (s.heap.objs.size + 1) (defScope st).names []).lookup y.1).isSome = true) := by
    rintro ⟨n, v⟩ hy
    rcases S.par n (List.of_mem_zip hy).1 with z | z
    · exact Or.inl z
    · exact Or.inr ⟨z, PySem.W.cellsFrom_some _ _ _ (.inl z)⟩
  refine codeAny_call_function rm.depth (inH _ _ atK) rfl S.co S.gen rfl (PySem.W.codeRec_of inH code) (bd _ _ _ _ ?_)
  refine wpAny_newFunctionEnv_cells S.kind kinds fun env eq s1 inC => ?_
  subst eq
  refine And.intro (noLim.keeps inC.toInCall.keep) (codeAny_func ?_)
  obtain ⟨t, derives, reads⟩ := walk cdv (rm.deeper _)
  have I := inv_start (CX := CX0) (P := P) (mg := mg) (base := base) (E := E) S rm.hd st0 ln rel inC
  refine wpAny_mono (derives.nox.run [] s1 (start N vs) H _ I reads) (fun fl s' hs => ?_) fun e s' hs => hs
  cases fl with
  | ret u =>
    obtain ⟨v, σ', H', J, rv, q⟩ := hs
    exact ⟨v, H', J.os, J.bare, J.base, J.hok, rv, q⟩
  | next =>
    obtain ⟨σ', H', J, q⟩ := hs
    exact ⟨V.non, H', J.os, J.bare, J.base, J.hok, rfl, q⟩
  | brk => obtain ⟨_, _, _, q⟩ := hs; exact q.elim
  | cont => obtain ⟨_, _, _, q⟩ := hs; exact q.elim

/-- what a law's own def has to show: at a list of at most 63 ints it hands back True, where no guard stands -/
def LawRun (P : Program) (w : World) (K : PySem.W.Frag) (mg : Str → Option Value) (fa : Addr) : Prop :=
  ∀ (base : Heap) (H : Hp) (s : Shared) (a : Addr) (ns : List Int), K.In base → base.Ns mainGlobals mg → SqL K H a (ns.map V.int) → ns.length ≤ 63 → Env0 P w K mg base callerA [] s H →
    codeAny (model P w) callerA (.call (.ref fa) ⟨[.ref a], []⟩) (CR CX0 [] P w H s (fun v _ => v = .bl true) fun _ _ _ => False) s
/-- the script stands alone in the heap that is told: in H only at a, if at all -/
structure Alone (H : Hp) (h : Heap) (K : PySem.W.Frag) (a : Addr) : Prop where
  only : Only H
  here : ∀ b, H b ≠ none → b = a
  off : H a ≠ none → K.lookup a = none
theorem Alone.none {H : Hp} {h : Heap} {K : PySem.W.Frag} {a b : Addr} {o p : Obj} (x : Alone H h K a) (e : h.get? b = some o) (ea : h.get? a = some p) (d : o.data ≠ p.data) : H b = none := by
  cases q : H b with
  | none => rfl
  | some u =>
    have z := x.here b (by rw [q]; exact fun z => nomatch z)
    subst z
    rw [ea] at e
    cases e
    exact absurd rfl d
theorem Alone.ns {H : Hp} {h : Heap} {K : PySem.W.Frag} {a b : Addr} {vs : Array Value} {m : Str → Option Value} (x : Alone H h K a) (ea : h.get? a = some { cls := .type "list", data := .seq vs }) (n : h.Ns b m) : (hidT h H).Ns b m := by
  obtain ⟨o, es, ep, e, d, r⟩ := n
  refine ⟨o, es, ep, hidT_get e (x.none e ea ?_), d, r⟩
  rw [d]
  intro z
  cases z
theorem Alone.kin {H : Hp} {h : Heap} {K : PySem.W.Frag} {a : Addr} (x : Alone H h K a) (X : K.In h) : K.In (hidT h H) := by
  intro b o e
  refine hidT_get (X b o e) ?_
  cases q : H b with
  | none => rfl
  | some u =>
    have z := x.here b (by rw [q]; exact fun z => nomatch z)
    subst z
    rw [x.off (by rw [q]; exact fun z => nomatch z)] at e
    cases e
theorem law_ends {fa a : Addr} {s : Shared} {vs : List Value} {ns : List Int} {mb : Str → Option Value} {H : Hp} (R : LawRun P w K mg fa) (al : Alone H s.heap K a)
    (X : K.In s.heap) (g : s.heap.Ns mainGlobals mg) (b : s.heap.Ns builtinsNs mb) (bb : ∀ x : Str, x ≠ "__name__" → mb x = bootBuiltins x) (lim : s.heap.NoLimit) (gs : s.gens = #[])
    (ea : s.heap.get? a = some { cls := .type "list", data := .seq vs.toArray }) (hS : SqL K H a (ns.map V.int)) (hl : ns.length ≤ 63) (ok : HOk P w H s.heap) :
    codeAny (model P w) callerA (.call (.ref fa) ⟨[.ref a], []⟩) (fun r s' => r = .ok (.ret (.bool true)) ∧ OldK s.heap s'.heap ∧ s'.os = s.os ∧ AllBare s'.gens) s := by
  have M : Mod K mg (hidT s.heap H) := by
    refine ⟨al.kin X, al.ns ea g, ⟨mb, al.ns ea b, bb⟩, ?_⟩
    obtain ⟨mc, l1, l2⟩ := lim
    exact ⟨mc, al.ns ea l1, l2⟩
  have st0 : Env0 P w K mg (hidT s.heap H) callerA [] s H := by
    refine ⟨rfl, M, fun b o e => of_hidT e, Nat.le_of_eq (hidT_size _ _), trivial, fun b hb => ?_, ok, AllBare.of_eq gs⟩
    cases (show b ∈ ([] : List Addr) from hb)
  refine codeAny_mono (R _ H s a ns M.kin M.glob hS hl st0) fun r s' q => ?_
  match r, q with
  | .error e, q => exact False.elim q
  | .ok (.next), q => exact False.elim q
  | .ok (.brk), q => exact False.elim q
  | .ok (.cont), q => exact False.elim q
  | .ok (.ret u), q =>
    obtain ⟨v, H', eos, bare, un, ok', rv, qv⟩ := q
    have qv' : v = .bl true := qv
    subst qv'
    obtain rfl : u = Value.bool true := rv
    refine And.intro rfl (And.intro (OldK.of_keep fun c o e => ?_) (And.intro eos bare))
    rcases al.only c with z | ⟨ob, xs, z⟩
    · exact un.keep c o e z (fun y => by cases (show c ∈ ([] : List Addr) from y)) (by simp)
    · have h1 := (ok c _ z).1
      have h2 := (ok' c _ (un.frzs c ob _ z)).1
      rw [e] at h1
      cases h1
      exact h2
theorem law_known {fa a : Addr} {s : Shared} {vs : List Value} {ns : List Int} {mb : Str → Option Value} (R : LawRun P w K mg fa)
    (X : K.In s.heap) (g : s.heap.Ns mainGlobals mg) (b : s.heap.Ns builtinsNs mb) (bb : ∀ x : Str, x ≠ "__name__" → mb x = bootBuiltins x) (lim : s.heap.NoLimit) (gs : s.gens = #[])
    (ea : s.heap.get? a = some { cls := .type "list", data := .seq vs.toArray }) (hi : IntsAre vs ns) (hl : ns.length ≤ 63) :
    codeAny (model P w) callerA (.call (.ref fa) ⟨[.ref a], []⟩) (fun r s' => r = .ok (.ret (.bool true)) ∧ OldK s.heap s'.heap ∧ s'.os = s.os ∧ AllBare s'.gens) s := by
  have rel := vals_ints hi
  have ll := hi.length
  have hl2 : ns.length ≤ sizeLine := Nat.le_trans hl (by decide)
  cases lk : K.lookup a with
  | some o =>
    have e := X a o lk
    rw [ea] at e
    cases e
    refine law_ends (H := fun _ => Option.none) R ⟨fun _ => .inl rfl, fun _ z => absurd rfl z, fun z => absurd rfl z⟩ X g b bb lim gs ea ?_ hl (fun _ _ z => by cases (show (Option.none : Option HO) = some _ from z))
    refine .inr ⟨_, vs.toArray, _, lk, rfl, rfl, rfl, ?_, by simpa using rel⟩
    rw [List.size_toArray, ll]
    exact hl2
  | none =>
    let o0 : HO := .frz { cls := .type "list", data := .seq vs.toArray } (.lst (ns.map V.int))
    have at0 : ∀ c u, (fun c => if c = a then some o0 else Option.none) c = some u → c = a ∧ u = o0 := fun c u z => by
      by_cases hc : c = a
      · have z' := (if_pos hc).symm.trans z
        exact ⟨hc, (Option.some.inj z').symm⟩
      · have z' := (if_neg hc).symm.trans z
        cases z'
    refine law_ends (H := fun c => if c = a then some o0 else Option.none) R ⟨fun c => ?_, fun c z => ?_, fun _ => lk⟩ X g b bb lim gs ea (.inl (.inr ⟨_, if_pos rfl⟩)) hl (fun c u z => ?_)
    · by_cases hc : c = a
      · exact .inr ⟨_, _, if_pos hc⟩
      · exact .inl (if_neg hc)
    · by_cases hc : c = a
      · exact hc
      · exact absurd (if_neg hc) z
    · obtain ⟨hc, hu⟩ := at0 c u z
      subst hc
      subst hu
      exact ⟨ea, by rw [List.length_map]; exact hl2, vs, _, rel, ea⟩
/-- the end of a law's row -/
theorem walk_known {l : PySem.W.OpenLaw} {q : Program} {loose : List Str} {XP : (Str → Option Value) → Heap → Prop} {YP : World → Heap → Prop} {d : DefRec} {K : Params → PySem.W.Frag} (hn : l.most = some 63) (hdf : d.params.defaults = [])
    (hY : ∀ (w : World) (h : Heap), YP w h → (K w.params).In h)
    (R : ∀ (w : World) (mg : Str → Option Value) (fa : Addr) (h : Heap), (K w.params).In h → h.Ns mainGlobals mg → mg d.name = some (.ref fa) → LawRun l.prog w (K w.params) mg fa) :
    PySem.W.WalkO q loose XP YP l.row.toRowW d [] (fun f vs => PySem.call f vs) := by
  refine Att.attach_call hn hdf fun w s₀ s₁ mg mb fa o pm cd doc a vs ns G Y ho hd hcd hmg hobj hints hlen hg => ?_
  have KX := hY w _ Y
  exact law_known (R w mg fa _ KX G.T.g hmg) KX G.T.g G.T.b G.T.builtins G.T.nolimit hg hobj hints hlen
end

/-! ### data, and its repr -/
mutual
/-- v is the data d; its lists and dicts are none of the machine's two -/
inductive Dq (K : PySem.W.Frag) (H : Hp) (m l : Addr) : V → PyData → Prop
  | non : Dq K H m l .non .none
  | bl (b : Bool) : Dq K H m l (.bl b) (.bool b)
  | int (i : Int) : Dq K H m l (.int i) (.int i)
  | str (x : Str) : Dq K H m l (.str x) (.str x)
  | lst {a : Addr} {xs : List V} {ds : List PyData} : H a = some (.lst xs) → a ≠ m → a ≠ l → DqAll K H m l xs ds → Dq K H m l (.ref a) (.list ds)
  | tup {a : Addr} {xs : List V} {ds : List PyData} : SqT K H a xs → DqAll K H m l xs ds → Dq K H m l (.ref a) (.tuple ds)
  | dct {a : Addr} : H a = some (.dK []) → a ≠ m → a ≠ l → Dq K H m l (.ref a) (.dict [])
inductive DqAll (K : PySem.W.Frag) (H : Hp) (m l : Addr) : List V → List PyData → Prop
  | nil : DqAll K H m l [] []
  | cons {v : V} {vs : List V} {d : PyData} {ds : List PyData} : Dq K H m l v d → DqAll K H m l vs ds → DqAll K H m l (v :: vs) (d :: ds)
end
/-- from one heap to another one: what is not the machine's stands, and is not the machine's then -/
structure Kept (m l l' : Addr) (H H' : Hp) : Prop where
  keep : ∀ b o, H b = some o → b ≠ m → b ≠ l → H' b = some o
  ne : ∀ b o, H b = some o → b ≠ l → b ≠ l'
  am : ∃ z, H m = some (.dK z)
  al : ∃ z, H l = some (.lst z)
theorem Kept.tup {K : PySem.W.Frag} {m l l' a : Addr} {H H' : Hp} {xs : List V} (k : Kept m l l' H H') (h : SqT K H a xs) : SqT K H' a xs := by
  obtain ⟨z1, e1⟩ := k.am
  obtain ⟨z2, e2⟩ := k.al
  rcases h with (h | ⟨o, h⟩) | h
  · exact .inl (.inl (k.keep a _ h (ne_of h e1 (by intro z; cases z)) (ne_of h e2 (by intro z; cases z))))
  · exact .inl (.inr ⟨o, k.keep a _ h (ne_of h e1 (by intro z; cases z)) (ne_of h e2 (by intro z; cases z))⟩)
  · exact .inr h
mutual
theorem Dq.step {K : PySem.W.Frag} {m l l' : Addr} {H H' : Hp} (k : Kept m l l' H H') : ∀ (d : PyData) (v : V), Dq K H m l v d → Dq K H' m l' v d
  | .none, _, h => by cases h; exact .non
  | .bool b, _, h => by cases h; exact .bl b
  | .int i, _, h => by cases h; exact .int i
  | .str x, _, h => by cases h; exact .str x
  | .list ds, _, h => by
    cases h with
    | lst e n1 n2 t => exact .lst (k.keep _ _ e n1 n2) n1 (k.ne _ _ e n2) (DqAll.step k ds _ t)
  | .tuple ds, _, h => by
    cases h with
    | tup e t => exact .tup (k.tup e) (DqAll.step k ds _ t)
  | .dict _, _, h => by
    cases h with
    | dct e n1 n2 => exact .dct (k.keep _ _ e n1 n2) n1 (k.ne _ _ e n2)
theorem DqAll.step {K : PySem.W.Frag} {m l l' : Addr} {H H' : Hp} (k : Kept m l l' H H') : ∀ (ds : List PyData) (vs : List V), DqAll K H m l vs ds → DqAll K H' m l' vs ds
  | [], _, h => by cases h; exact .nil
  | d :: ds, _, h => by
    cases h with
    | cons h1 h2 => exact .cons (Dq.step k d _ h1) (DqAll.step k ds _ h2)
end
section
variable {X : Cx} {pins : List (Addr × Obj)} {σ : L2.St} {H : Hp} {s : Shared} {m l : Addr}
mutual
theorem Dq.reads (I : Inv X pins σ H s) (hs : H sysModules = none) : ∀ (d : PyData) (v : V) (u : Value), Dq X.K H m l v d → RelV v u → ∃ as, Reads s.heap u d as ∧ sysModules ∉ as
  | .none, _, _, h, r => by cases h; cases r; exact ⟨_, .none, by simp⟩
  | .bool b, _, _, h, r => by cases h; cases r; exact ⟨_, .bool b, by simp⟩
  | .int i, _, _, h, r => by cases h; obtain ⟨t, rfl⟩ := r; exact ⟨_, .int i t, by simp⟩
  | .str x, _, _, h, r => by cases h; obtain ⟨t, rfl⟩ := r; exact ⟨_, .str x t, by simp⟩
  | .list ds, _, _, h, r => by
    cases h with
    | lst e n1 n2 t =>
      cases r
      obtain ⟨its, rv, ⟨o, n, ho, hc, _, hd⟩, _⟩ := I.list (SqL.of e)
      obtain ⟨as, q1, q2⟩ := DqAll.reads I hs ds _ its t rv
      refine ⟨_, Reads.list ho hc hd q1, fun z => ?_⟩
      rcases List.mem_cons.mp z with z | z
      · rw [← z, hs] at e; cases e
      · exact q2 z
  | .tuple ds, _, _, h, r => by
    cases h with
    | tup e t =>
      cases r
      obtain ⟨its, rv, ⟨o, ho, hc, n, hd⟩, _⟩ := I.tuple e
      obtain ⟨as, q1, q2⟩ := DqAll.reads I hs ds _ its t rv
      exact ⟨_, Reads.tuple ho hc hd q1, q2⟩
  | .dict _, _, _, h, r => by
    cases h with
    | dct e n1 n2 =>
      cases r
      obtain ⟨z, hd, vs, rel, dd⟩ := dk_of I.hok e
      cases rel
      obtain ⟨o, es, ep, ho, hc, hdat, hlay⟩ := id dd
      have e0 : es.toList = [] := by
        have p := hlay.2.1
        cases q : es.toList with
        | nil => rfl
        | cons z zs => rw [q] at p; cases p
      refine ⟨_, Reads.dict (as := []) (bs := []) ho hc.1 hdat ?_ ?_, ?_⟩
      · rw [e0]; exact .nil
      · rw [e0]; exact .nil
      · intro z
        have z2 := List.mem_singleton.mp (show sysModules ∈ [_] from z)
        rw [← z2, hs] at e
        cases e
theorem DqAll.reads (I : Inv X pins σ H s) (hs : H sysModules = none) : ∀ (ds : List PyData) (vs : List V) (us : List Value), DqAll X.K H m l vs ds → Vals vs us → ∃ as, ReadsAll s.heap us ds as ∧ sysModules ∉ as
  | [], _, _, h, r => by cases h; cases r; exact ⟨_, .nil, by simp⟩
  | d :: ds, _, _, h, r => by
    cases h with
    | cons h1 h2 =>
      cases r with
      | cons r1 r2 =>
        obtain ⟨as, q1, p1⟩ := Dq.reads I hs d _ _ h1 r1
        obtain ⟨bs, q2, p2⟩ := DqAll.reads I hs ds _ _ h2 r2
        exact ⟨_, .cons q1 q2, fun z => (List.mem_append.mp z).elim p1 p2⟩
end
theorem no_sys {o : Obj} (hk : X.K.lookup sysModules = some o) (I : Inv X pins σ H s) : H sysModules = none := (I.bs _ _ (I.ok.mod.kin _ _ hk)).2
end
/-- repr(x) -/
theorem call_repr {X : Cx} {o : Obj} (hg : X.A.guards = some []) (hu : X.A.units + 64 < cLine) (hk : X.K.lookup sysModules = some o) :
    CallR X (.builtin "repr") (fun xs H Q => ∃ x d m l, xs = [x] ∧ Dq X.K H m l x d ∧ d.showable = true ∧ d.depth ≤ 60 ∧ d.shown.length ≤ sizeLine ∧ Q (.str d.shown) H) := by
  intro pins s σ H xs us Q I r h
  obtain ⟨x, d, m, l, rfl, hd, hs, hdep, hlen, q⟩ := h
  obtain ⟨u, rfl, rx⟩ := vals1 r
  obtain ⟨as, rd, na⟩ := Dq.reads I (no_sys hk I) d x u hd rx
  cases rd with
  | none => exact PySem.P.repr_of_none ⟨V.str _, H, I.tok _, ⟨_, rfl⟩, by simpa only [PyData.shown] using q⟩
  | bool b => exact PySem.P.repr_of_bool ⟨V.str _, H, I.tok _, ⟨_, rfl⟩, by simpa only [PyData.shown] using q⟩
  | int i t => exact PySem.P.repr_of_int (by simpa [PyData.showable] using hs) ⟨V.str _, H, I.tok _, ⟨_, rfl⟩, by simpa only [PyData.shown] using q⟩
  | str y t => exact PySem.P.repr_of_str ⟨V.str _, H, I.tok _, ⟨_, rfl⟩, by simpa only [PyData.shown] using q⟩ (by simpa only [PyData.shown] using hlen)
  | list h1 h2 h3 h4 => exact repr_of_reads' (.list h1 h2 h3 h4) hs (fun _ => na) hg (by omega) (fun _ _ e => e) (fun h' u' tk k => ⟨V.str _, H, I.kept k, ⟨_, rfl⟩, q⟩) hlen
  | tuple h1 h2 h3 h4 => exact repr_of_reads' (.tuple h1 h2 h3 h4) hs (fun _ => na) hg (by omega) (fun _ _ e => e) (fun h' u' tk k => ⟨V.str _, H, I.kept k, ⟨_, rfl⟩, q⟩) hlen
  | dict h1 h2 h3 h4 h5 => exact repr_of_reads' (.dict h1 h2 h3 h4 h5) hs (fun _ => na) hg (by omega) (fun _ _ e => e) (fun h' u' tk k => ⟨V.str _, H, I.kept k, ⟨_, rfl⟩, q⟩) hlen

/-! ### the same, of data that is a dict or bears none -/
def plainD : PyData → Bool
  | .dict [] => true
  | d => !d.hasDict
section
variable {X : Cx} {pins : List (Addr × Obj)} {σ : L2.St} {H : Hp} {s : Shared} {m l : Addr}
mutual
theorem Dq.reads0 (I : Inv X pins σ H s) : ∀ (d : PyData) (v : V) (u : Value), Dq X.K H m l v d → RelV v u → ∃ as, Reads s.heap u d as ∧ (d = .dict [] → sysModules ∉ as)
  | .none, _, _, h, r => by cases h; cases r; exact ⟨_, .none, by simp⟩
  | .bool b, _, _, h, r => by cases h; cases r; exact ⟨_, .bool b, by simp⟩
  | .int i, _, _, h, r => by cases h; obtain ⟨t, rfl⟩ := r; exact ⟨_, .int i t, by simp⟩
  | .str x, _, _, h, r => by cases h; obtain ⟨t, rfl⟩ := r; exact ⟨_, .str x t, by simp⟩
  | .list ds, _, _, h, r => by
    cases h with
    | lst e n1 n2 t =>
      cases r
      obtain ⟨its, rv, ⟨o, n, ho, hc, _, hd⟩, _⟩ := I.list (SqL.of e)
      obtain ⟨as, q1⟩ := DqAll.reads0 I ds _ its t rv
      exact ⟨_, Reads.list ho hc hd q1, fun z => nomatch z⟩
  | .tuple ds, _, _, h, r => by
    cases h with
    | tup e t =>
      cases r
      obtain ⟨its, rv, ⟨o, ho, hc, n, hd⟩, _⟩ := I.tuple e
      obtain ⟨as, q1⟩ := DqAll.reads0 I ds _ its t rv
      exact ⟨_, Reads.tuple ho hc hd q1, fun z => nomatch z⟩
  | .dict _, _, _, h, r => by
    cases h with
    | dct e n1 n2 =>
      cases r
      obtain ⟨z, hd, vs, rel, dd⟩ := dk_of I.hok e
      cases rel
      obtain ⟨o, es, ep, ho, hc, hdat, hlay⟩ := id dd
      have e0 : es.toList = [] := by
        have p := hlay.2.1
        cases q : es.toList with
        | nil => rfl
        | cons z zs => rw [q] at p; cases p
      refine ⟨_, Reads.dict (as := []) (bs := []) ho hc.1 hdat ?_ ?_, fun _ z => ?_⟩
      · rw [e0]; exact .nil
      · rw [e0]; exact .nil
      · have z2 := List.mem_singleton.mp (show sysModules ∈ [_] from z)
        rw [← z2] at hd
        exact absurd hd (by decide)
theorem DqAll.reads0 (I : Inv X pins σ H s) : ∀ (ds : List PyData) (vs : List V) (us : List Value), DqAll X.K H m l vs ds → Vals vs us → ∃ as, ReadsAll s.heap us ds as
  | [], _, _, h, r => by cases h; cases r; exact ⟨_, .nil⟩
  | d :: ds, _, _, h, r => by
    cases h with
    | cons h1 h2 =>
      cases r with
      | cons r1 r2 =>
        obtain ⟨as, q1, p1⟩ := Dq.reads0 I d _ _ h1 r1
        obtain ⟨bs, q2⟩ := DqAll.reads0 I ds _ _ h2 r2
        exact ⟨_, .cons q1 q2⟩
end
end
theorem plain_off {d : PyData} {as : List Addr} (p : plainD d = true) (h : d = .dict [] → sysModules ∉ as) : d.hasDict = true → sysModules ∉ as := fun z => by
  cases d with
  | dict kvs =>
    cases kvs with
    | nil => exact h rfl
    | cons a b =>
      have p' : (!(PyData.dict (a :: b)).hasDict) = true := p
      rw [z] at p'
      cases p'
  | _ =>
    have p' := p
    simp only [plainD, Bool.not_eq_true'] at p'
    rw [z] at p'
    cases p'
theorem call_repr0 {X : Cx} (hg : X.A.guards = some []) (hu : X.A.units + 64 < cLine) :
    CallR X (.builtin "repr") (fun xs H Q => ∃ x d m l, xs = [x] ∧ Dq X.K H m l x d ∧ plainD d = true ∧ d.showable = true ∧ d.depth ≤ 60 ∧ d.shown.length ≤ sizeLine ∧ Q (.str d.shown) H) := by
  intro pins s σ H xs us Q I r h
  obtain ⟨x, d, m, l, rfl, hd, hp, hs, hdep, hlen, q⟩ := h
  obtain ⟨u, rfl, rx⟩ := vals1 r
  obtain ⟨as, rd, na0⟩ := Dq.reads0 I d x u hd rx
  have na := plain_off hp na0
  cases rd with
  | none => exact PySem.P.repr_of_none ⟨V.str _, H, I.tok _, ⟨_, rfl⟩, by simpa only [PyData.shown] using q⟩
  | bool b => exact PySem.P.repr_of_bool ⟨V.str _, H, I.tok _, ⟨_, rfl⟩, by simpa only [PyData.shown] using q⟩
  | int i t => exact PySem.P.repr_of_int (by simpa [PyData.showable] using hs) ⟨V.str _, H, I.tok _, ⟨_, rfl⟩, by simpa only [PyData.shown] using q⟩
  | str y t => exact PySem.P.repr_of_str ⟨V.str _, H, I.tok _, ⟨_, rfl⟩, by simpa only [PyData.shown] using q⟩ (by simpa only [PyData.shown] using hlen)
  | list h1 h2 h3 h4 => exact repr_of_reads' (.list h1 h2 h3 h4) hs na hg (by omega) (fun _ _ e => e) (fun h' u' tk k => ⟨V.str _, H, I.kept k, ⟨_, rfl⟩, q⟩) hlen
  | tuple h1 h2 h3 h4 => exact repr_of_reads' (.tuple h1 h2 h3 h4) hs na hg (by omega) (fun _ _ e => e) (fun h' u' tk k => ⟨V.str _, H, I.kept k, ⟨_, rfl⟩, q⟩) hlen
  | dict h1 h2 h3 h4 h5 => exact repr_of_reads' (.dict h1 h2 h3 h4 h5) hs na hg (by omega) (fun _ _ e => e) (fun h' u' tk k => ⟨V.str _, H, I.kept k, ⟨_, rfl⟩, q⟩) hlen
end Ms
namespace Ms
open PySem PySem.Spec PyProof.Rows L2
/-! ### repr of any such data: no dict of it is the interpreter's own, and that is all that is asked -/
section
variable {X : Cx} {pins : List (Addr × Obj)} {σ : L2.St} {H : Hp} {s : Shared} {m l : Addr}
mutual
theorem Dq.shows (I : Inv X pins σ H s) : ∀ (d : PyData) (v : V) (u : Value), Dq X.K H m l v d → RelV v u → d.showable = true → d.shown.length ≤ sizeLine →
    ∃ as bs, Reads s.heap u d as ∧ ReadAtMost s.heap d.depth bs ∧ ReprK X.prog X.w bs s.heap d.depth u d.shown
  | .none, _, _, h, r, hs, hz => by
    cases h; cases r
    obtain ⟨bs, p, q⟩ := ReprK.of_reads (prog := X.prog) (w := X.w) (h₀ := s.heap) .none hs (fun z => by simp [PyData.hasDict] at z) hz
    exact ⟨_, bs, .none, p, q⟩
  | .bool b, _, _, h, r, hs, hz => by
    cases h; cases r
    obtain ⟨bs, p, q⟩ := ReprK.of_reads (prog := X.prog) (w := X.w) (h₀ := s.heap) (.bool b) hs (fun z => by simp [PyData.hasDict] at z) hz
    exact ⟨_, bs, .bool b, p, q⟩
  | .int i, _, _, h, r, hs, hz => by
    cases h; obtain ⟨t, rfl⟩ := r
    obtain ⟨bs, p, q⟩ := ReprK.of_reads (prog := X.prog) (w := X.w) (h₀ := s.heap) (.int i t) hs (fun z => by simp [PyData.hasDict] at z) hz
    exact ⟨_, bs, .int i t, p, q⟩
  | .str x, _, _, h, r, hs, hz => by
    cases h; obtain ⟨t, rfl⟩ := r
    obtain ⟨bs, p, q⟩ := ReprK.of_reads (prog := X.prog) (w := X.w) (h₀ := s.heap) (.str x t) hs (fun z => by simp [PyData.hasDict] at z) hz
    exact ⟨_, bs, .str x t, p, q⟩
  | .list ds, _, _, h, r, hs, hz => by
    cases h with
    | lst e n1 n2 t =>
      cases r
      obtain ⟨its, rv, ⟨o, n, ho, hc, _, hd⟩, _⟩ := I.list (SqL.of e)
      have fits : (listText (PyData.shownAll ds)).length ≤ sizeLine := by simpa only [PyData.shown] using hz
      obtain ⟨as, bs, r1, p, q⟩ := DqAll.shows I ds _ its t rv (by simpa [PyData.showable] using hs) fun x hx => Nat.le_trans (listText_mem_le hx) fits
      have rd := Reads.list ho hc hd r1
      have off := not_mem_of_deeper rd (by simp only [PyData.depth]; omega) p
      refine ⟨_, _, rd, ReadAtMost.cons rd (by simp only [PyData.depth]; omega) p, ?_⟩
      simp only [PyData.depth, PyData.shown]
      cases its with
      | nil =>
        cases r1
        simp only [PyData.shownAll, listText_nil]
        exact ReprK.listEmpty ho hc hd
      | cons y ys => exact ReprK.list ho hc hd off (by simpa using q.length_eq) fun i z e => q.item i z (by simpa using e)
  | .tuple ds, _, _, h, r, hs, hz => by
    cases h with
    | tup e t =>
      cases r
      obtain ⟨its, rv, ⟨o, ho, hc, n, hd⟩, _⟩ := I.tuple e
      have fits : (tupleText (PyData.shownAll ds)).length ≤ sizeLine := by simpa only [PyData.shown] using hz
      obtain ⟨as, bs, r1, p, q⟩ := DqAll.shows I ds _ its t rv (by simpa [PyData.showable] using hs) fun x hx => Nat.le_trans (tupleText_mem_le hx) fits
      have rd := Reads.tuple ho hc hd r1
      have off := not_mem_of_deeper rd (by simp only [PyData.depth]; omega) p
      refine ⟨_, _, rd, ReadAtMost.cons rd (by simp only [PyData.depth]; omega) p, ?_⟩
      simp only [PyData.depth, PyData.shown]
      exact ReprK.tuple ho hc hd off q
  | .dict kvs, v, u, h, r, hs, hz => by
    obtain ⟨as, rd, na⟩ := Dq.reads0 I (.dict kvs) v u h r
    cases h with
    | dct e n1 n2 =>
      obtain ⟨bs, p, q⟩ := ReprK.of_reads (prog := X.prog) (w := X.w) rd hs (fun _ => na rfl) hz
      exact ⟨as, bs, rd, p, q⟩
theorem DqAll.shows (I : Inv X pins σ H s) : ∀ (ds : List PyData) (vs : List V) (us : List Value), DqAll X.K H m l vs ds → Vals vs us → PyData.showableAll ds = true → (∀ t ∈ PyData.shownAll ds, t.length ≤ sizeLine) →
    ∃ as bs, ReadsAll s.heap us ds as ∧ ReadAtMost s.heap (PyData.depthAll ds) bs ∧ ReprAllK X.prog X.w bs s.heap (PyData.depthAll ds) us (PyData.shownAll ds)
  | [], _, _, h, r, _, _ => by
    cases h; cases r
    exact ⟨_, [], .nil, (fun _ z => nomatch z), by simp only [PyData.shownAll]; exact .nil⟩
  | d :: ds, _, _, h, r, hs, hz => by
    cases h with
    | cons h1 h2 =>
      cases r with
      | cons r1 r2 =>
        have both : d.showable = true ∧ PyData.showableAll ds = true := by simpa [PyData.showableAll] using hs
        obtain ⟨as1, bs1, rd1, p1, q1⟩ := Dq.shows I d _ _ h1 r1 both.1 (hz _ (by simp only [PyData.shownAll]; exact List.mem_cons_self ..))
        obtain ⟨as2, bs2, rd2, p2, q2⟩ := DqAll.shows I ds _ _ h2 r2 both.2 (fun x hx => hz x (by simp only [PyData.shownAll]; exact List.mem_cons_of_mem _ hx))
        refine ⟨_, bs1 ++ bs2, .cons rd1 rd2, ?_, ?_⟩
        · simp only [PyData.depthAll]
          exact (p1.mono (Nat.le_max_left _ _)).append (p2.mono (Nat.le_max_right _ _))
        · simp only [PyData.depthAll, PyData.shownAll]
          exact .cons ((q1.more fun b hb => List.mem_append_left _ hb).level_le (Nat.le_max_left _ _)) (q2.more_le (fun b hb => List.mem_append_right _ hb) (Nat.le_max_right _ _))
end
end
/-- repr(x) -/
theorem call_reprD {X : Cx} (hg : X.A.guards = some []) (hu : X.A.units + 64 < cLine) :
    CallR X (.builtin "repr") (fun xs H Q => ∃ x d m l, xs = [x] ∧ Dq X.K H m l x d ∧ d.showable = true ∧ d.depth ≤ 60 ∧ d.shown.length ≤ sizeLine ∧ Q (.str d.shown) H) := by
  intro pins s σ H xs us Q I r h
  obtain ⟨x, d, m, l, rfl, hd, hs, hdep, hlen, q⟩ := h
  cases d with
  | list ds =>
    obtain ⟨u, rfl, rx⟩ := vals1 r
    cases hd with
    | lst e n1 n2 t =>
      cases rx
      obtain ⟨its, rv, ⟨o, n, ho, hc, _, hdt⟩, _⟩ := I.list (SqL.of e)
      have fits : (listText (PyData.shownAll ds)).length ≤ sizeLine := by simpa only [PyData.shown] using hlen
      obtain ⟨as, bs, r1, p, k⟩ := DqAll.shows I ds _ its t rv (by simpa [PyData.showable] using hs) fun y hy => Nat.le_trans (listText_mem_le hy) fits
      have rd := Reads.list ho hc hdt r1
      have off := not_mem_of_deeper rd (by simp only [PyData.depth]; omega) p
      simp only [PyData.depth] at hdep
      refine call_repr_slot (by omega) ⟨o, ho, hc⟩ F.slot_list_repr.toG ?_
      have fin : ∀ (h' : Heap) (u : Tok) (tk : Nat), (∀ b o, s.heap.get? b = some o → h'.get? b = some o) → ∃ x t, Value.str (PyData.list ds).shown u = Value.str x t ∧ EP X pins σ Q (Value.str (PyData.list ds).shown u) { s with heap := h', toks := tk } := fun h' u tk k => ⟨_, _, rfl, V.str _, H, I.kept k, ⟨_, rfl⟩, q⟩
      simp only [PyData.shown] at fin
      cases its with
      | nil =>
        cases r1
        simp only [PyData.shownAll, listText_nil] at fin
        exact call_list_repr_empty ⟨o, ho, hc⟩ ho hdt (fin s.heap _ _ fun _ _ e => e)
      | cons y ys =>
        exact call_list_reprK ho hc hdt off (by simpa using k.length_eq) (fun i z e => k.item i z (by simpa using e)) hg (fun b _ => Clear.nil b) (by show X.A.units + 1 + _ < cLine; omega) (fun _ _ e => e) (fun h' u tk k => fin h' u tk k) fits
  | tuple ds =>
    obtain ⟨u, rfl, rx⟩ := vals1 r
    cases hd with
    | tup e t =>
      cases rx
      obtain ⟨its, rv, ⟨o, ho, hc, n, hdt⟩, _⟩ := I.tuple e
      have fits : (tupleText (PyData.shownAll ds)).length ≤ sizeLine := by simpa only [PyData.shown] using hlen
      obtain ⟨as, bs, r1, p, k⟩ := DqAll.shows I ds _ its t rv (by simpa [PyData.showable] using hs) fun y hy => Nat.le_trans (tupleText_mem_le hy) fits
      have rd := Reads.tuple ho hc hdt r1
      have off := not_mem_of_deeper rd (by simp only [PyData.depth]; omega) p
      simp only [PyData.depth] at hdep
      refine call_repr_slot (by omega) ⟨o, ho, hc⟩ F.slot_tuple_repr ?_
      have fin : ∀ (h' : Heap) (u : Tok) (tk : Nat), (∀ b o, s.heap.get? b = some o → h'.get? b = some o) → ∃ x t, Value.str (PyData.tuple ds).shown u = Value.str x t ∧ EP X pins σ Q (Value.str (PyData.tuple ds).shown u) { s with heap := h', toks := tk } := fun h' u tk k => ⟨_, _, rfl, V.str _, H, I.kept k, ⟨_, rfl⟩, q⟩
      simp only [PyData.shown] at fin
      exact call_tuple_reprK ho hc hdt off k hg (fun b _ => Clear.nil b) (by show X.A.units + 1 + _ < cLine; omega) (fun _ _ e => e) (fun h' u tk k => fin h' u tk k) fits
  | dict kvs =>
    cases hd with
    | dct e n1 n2 => exact call_repr0 hg hu pins s σ H [.ref _] us Q I r ⟨_, _, m, l, rfl, .dct e n1 n2, rfl, hs, hdep, hlen, q⟩
  | none => exact call_repr0 hg hu pins s σ H [x] us Q I r ⟨x, _, m, l, rfl, hd, by simp [plainD, PyData.hasDict], hs, hdep, hlen, q⟩
  | bool b => exact call_repr0 hg hu pins s σ H [x] us Q I r ⟨x, _, m, l, rfl, hd, by simp [plainD, PyData.hasDict], hs, hdep, hlen, q⟩
  | int i => exact call_repr0 hg hu pins s σ H [x] us Q I r ⟨x, _, m, l, rfl, hd, by simp [plainD, PyData.hasDict], hs, hdep, hlen, q⟩
  | str y => exact call_repr0 hg hu pins s σ H [x] us Q I r ⟨x, _, m, l, rfl, hd, by simp [plainD, PyData.hasDict], hs, hdep, hlen, q⟩
end Ms
namespace Ms
open PySem PySem.Spec PyProof.Rows L2
/-! ### data of bounded size -/
mutual
/-- ints within B, signs that are code points, dicts that are empty -/
def okD (B : Nat) : PyData → Bool
  | .none | .bool _ => true
  | .int i => decide (i.natAbs ≤ B)
  | .str x => x.cps.toList.all fun c => decide (c < 0x110000)
  | .list xs | .tuple xs => okAll B xs
  | .dict kvs => kvs.isEmpty
def okAll (B : Nat) : List PyData → Bool
  | [] => true
  | x :: xs => okD B x && okAll B xs
end
theorem okAll_iff {B : Nat} : ∀ {xs : List PyData}, okAll B xs = true ↔ ∀ x ∈ xs, okD B x = true
  | [] => by simp [okAll]
  | x :: xs => by simp [okAll, okAll_iff (xs := xs)]
mutual
theorem okD_mono {B C : Nat} (h : B ≤ C) : ∀ d : PyData, okD B d = true → okD C d = true
  | .none, _ => rfl
  | .bool _, _ => rfl
  | .int i, e => by simp only [okD, decide_eq_true_eq] at e ⊢; omega
  | .str x, e => by simpa only [okD] using e
  | .list xs, e => by simp only [okD] at e ⊢; exact okAll_mono h xs e
  | .tuple xs, e => by simp only [okD] at e ⊢; exact okAll_mono h xs e
  | .dict kvs, e => by simpa only [okD] using e
theorem okAll_mono {B C : Nat} (h : B ≤ C) : ∀ xs : List PyData, okAll B xs = true → okAll C xs = true
  | [], _ => rfl
  | x :: xs, e => by
    simp only [okAll, Bool.and_eq_true] at e ⊢
    exact ⟨okD_mono h x e.1, okAll_mono h xs e.2⟩
end
theorem log_small {i : Int} (h : i.natAbs ≤ 10 ^ 31) : i.natAbs.log2 < 1920 := by
  by_cases z : i.natAbs = 0
  · rw [z]; decide
  · have h1 : i.natAbs < 2 ^ 103 := by
      have e : (10 : Nat) ^ 31 < 2 ^ 103 := by decide
      omega
    have := (Nat.log2_lt z).mpr h1
    omega
theorem int_short {i : Int} (h : i.natAbs ≤ 10 ^ 31) : (PyData.shown (.int i)).length ≤ 64 := by
  have e := int_text_length_le10 (k := 32) (by decide) (show i.natAbs < 10 ^ 32 by
    have z : (10 : Nat) ^ 31 < 10 ^ 32 := by decide
    omega)
  show (Str.ofString (toString i)).length ≤ 64
  rw [PySem.ofString_length]
  omega
mutual
theorem ok_shows : ∀ d : PyData, okD (10 ^ 31) d = true → d.showable = true ∧ d.leavesShort 64 = true
  | .none, _ => ⟨rfl, rfl⟩
  | .bool _, _ => ⟨rfl, rfl⟩
  | .int i, e => by
    simp only [okD, decide_eq_true_eq] at e
    simp only [PyData.showable, PyData.leavesShort, decide_eq_true_eq]
    exact ⟨log_small e, int_short e⟩
  | .str x, e => by
    simp only [okD, List.all_eq_true, decide_eq_true_eq] at e
    refine ⟨rfl, ?_⟩
    simp only [PyData.leavesShort, List.all_eq_true, decide_eq_true_eq]
    intro c hc
    have := e c hc
    have z : (0x110000 : Nat) < 16 ^ 8 := by decide
    omega
  | .list xs, e => by
    simp only [okD] at e
    simp only [PyData.showable, PyData.leavesShort]
    exact okAll_shows xs e
  | .tuple xs, e => by
    simp only [okD] at e
    simp only [PyData.showable, PyData.leavesShort]
    exact okAll_shows xs e
  | .dict [], _ => ⟨rfl, rfl⟩
  | .dict (a :: b), e => by simp [okD] at e
theorem okAll_shows : ∀ xs : List PyData, okAll (10 ^ 31) xs = true → PyData.showableAll xs = true ∧ PyData.leavesShortAll 64 xs = true
  | [], _ => ⟨rfl, rfl⟩
  | x :: xs, e => by
    simp only [okAll, Bool.and_eq_true] at e
    obtain ⟨h1, h2⟩ := ok_shows x e.1
    obtain ⟨h3, h4⟩ := okAll_shows xs e.2
    simp only [PyData.showableAll, PyData.leavesShortAll, h1, h2, h3, h4, Bool.and_self, and_self]
end
/-- data within B, of weight at most a, of depth at most b -/
structure Gd (B a b : Nat) (d : PyData) : Prop where
  ok : okD B d = true
  wt : d.weight ≤ a
  dp : d.depth ≤ b
theorem Gd.mono {B a b B' a' b' : Nat} {d : PyData} (g : Gd B a b d) (h1 : B ≤ B') (h2 : a ≤ a') (h3 : b ≤ b') : Gd B' a' b' d := ⟨okD_mono h1 d g.ok, Nat.le_trans g.wt h2, Nat.le_trans g.dp h3⟩
theorem Gd.shown {a b : Nat} {d : PyData} (g : Gd (10 ^ 31) a b d) (ha : a ≤ 200000) : d.showable = true ∧ d.shown.length ≤ sizeLine := by
  obtain ⟨h1, h2⟩ := ok_shows d g.ok
  refine ⟨h1, ?_⟩
  have h := PyData.shown_le 64 (by decide) d h2
  have w := g.wt
  rw [sizeLine_eq]
  omega
end Ms
namespace Ms
open PySem PySem.Spec PyProof.Rows L2
/-! ### the machine of draws: a dict with the cells, what is left of the great ones, and a count -/
def kvM (c l : Addr) (n : Int) : List (Key × V) := [(.inr "cells", .ref c), (.inr "left", .ref l), (.inr "at", .int n)]
structure Mch (H : Hp) (m l : Addr) (n : Nat) : Prop where
  ex : ∃ (c : Addr) (cs ls : List Int) (z : Int), H m = some (.dK (kvM c l z)) ∧ H c = some (.lst (cs.map V.int)) ∧ H l = some (.lst (ls.map V.int)) ∧ c ≠ l ∧ 0 ≤ z ∧ z ≤ (n : Int) ∧ cs.length ≤ 63 ∧ ls.length ≤ 63
/-- behind a step: all but the machine's own dict and list stand as before -/
structure Fr (m l l' : Addr) (H H' : Hp) : Prop where
  keep : ∀ b o, H b = some o → b ≠ m → b ≠ l → H' b = some o
  new : l' = l ∨ H l' = none
  dom : ∀ b, H b ≠ none → H' b ≠ none
theorem Mch.mm {H : Hp} {m l : Addr} {n : Nat} (M : Mch H m l n) : H m ≠ none := by
  obtain ⟨c, cs, ls, z, h, _⟩ := M.ex
  rw [h]; exact fun z => nomatch z
theorem Fr.refl {m l : Addr} {H : Hp} {n : Nat} (M : Mch H m l n) : Fr m l l H H := ⟨fun _ _ e _ _ => e, .inl rfl, fun _ h => h⟩
theorem upd_dom {H : Hp} {p b : Addr} {o : HO} (h : H b ≠ none) : (upd H p o) b ≠ none := by
  by_cases e : b = p
  · rw [e, upd_same]; exact fun z => nomatch z
  · rw [upd_ne e]; exact h
theorem Fr.free {m l l' p : Addr} {H H' : Hp} (f : Fr m l l' H H') (hp : H' p = none) : H p = none := by
  cases q : H p with
  | none => rfl
  | some o => exact absurd hp (f.dom p (by rw [q]; exact fun z => nomatch z))
theorem Fr.trans {m l l' l'' : Addr} {H H' H'' : Hp} (f : Fr m l l' H H') (g : Fr m l' l'' H' H'') : Fr m l l'' H H'' := by
  have hl : ∀ b o, H b = some o → b ≠ m → b ≠ l → b ≠ l' := fun b o e hm hl => by
    rcases f.new with z | z
    · rw [z]; exact hl
    · exact ne_of_none e z
  refine ⟨fun b o e hm hb => g.keep b o (f.keep b o e hm hb) hm (hl b o e hm hb), ?_, fun b h => g.dom b (f.dom b h)⟩
  rcases g.new with z | z
  · rw [z]; exact f.new
  · exact .inr (f.free z)
theorem Mch.mono {H : Hp} {m l : Addr} {n k : Nat} (M : Mch H m l n) (h : n ≤ k) : Mch H m l k := by
  obtain ⟨c, cs, ls, z, h1, h2, h3, h4, h5, h6, h7⟩ := M.ex
  exact ⟨c, cs, ls, z, h1, h2, h3, h4, h5, by omega, h7⟩
def spBegun (K : PySem.W.Frag) : Sp := fun vs H Q _ => ∃ (a : Addr) (ns : List Int), vs = [.ref a] ∧ SqL K H a (ns.map V.int) ∧ ns.length ≤ 63 ∧
  ∀ (m l : Addr) (H' : Hp), H m = none → H l = none → Same H H' → Mch H' m l 0 → Q (.ref m) H'
structure Txt (mg : Str → Option Value) : Prop where
  list : mg "list" = none
  len : mg "len" = none
  int : mg "int" = none
section
variable {P : Program} {w : World} {K : PySem.W.Frag} {mg : Str → Option Value} {base : Heap}
/-! ### _law_next -/
structure MS (H : Hp) (m c l : Addr) (cs ls : List Int) (z : Int) : Prop where
  dm : H m = some (.dK (kvM c l z))
  dc : H c = some (.lst (cs.map V.int))
  dl : H l = some (.lst (ls.map V.int))
  ne : c ≠ l
theorem MS.junk {H : Hp} {m c l p : Addr} {cs ls : List Int} {z : Int} {o : HO} (S : MS H m c l cs ls z) (hp : H p = none) : MS (upd H p o) m c l cs ls z :=
  ⟨by rw [upd_ne (ne_of_none S.dm hp)]; exact S.dm, by rw [upd_ne (ne_of_none S.dc hp)]; exact S.dc, by rw [upd_ne (ne_of_none S.dl hp)]; exact S.dl, S.ne⟩
theorem Fr.junk {m l l' p : Addr} {H H' : Hp} {o : HO} (f : Fr m l l' H H') (hp : H' p = none) : Fr m l l' H (upd H' p o) := by
  refine ⟨fun b o e h1 h2 => ?_, f.new, fun b h => upd_dom (f.dom b h)⟩
  have q := f.keep b o e h1 h2
  rw [upd_ne (ne_of_none q hp)]; exact q
theorem MS.left {H : Hp} {m c l : Addr} {cs ls : List Int} {z : Int} (S : MS H m c l cs ls z) : DGet H m (.str "left") (some (.ref l)) := by
  have e : valV (kvM c l z) (.inr "left" : Key) = some (.ref l) := by unfold valV kvM; rfl
  rw [← e]; exact DGet.k (k := Sum.inr "left") S.dm
theorem MS.cells {H : Hp} {m c l : Addr} {cs ls : List Int} {z : Int} (S : MS H m c l cs ls z) : DGet H m (.str "cells") (some (.ref c)) := by
  have e : valV (kvM c l z) (.inr "cells" : Key) = some (.ref c) := by unfold valV kvM; rfl
  rw [← e]; exact DGet.k (k := Sum.inr "cells") S.dm
theorem MS.at {H : Hp} {m c l : Addr} {cs ls : List Int} {z : Int} (S : MS H m c l cs ls z) : DGet H m (.str "at") (some (.int z)) := by
  have e : valV (kvM c l z) (.inr "at" : Key) = some (.int z) := by unfold valV kvM; rfl
  rw [← e]; exact DGet.k (k := Sum.inr "at") S.dm
theorem put_left (c l l' : Addr) (z : Int) : putK (kvM c l z) (.inr "left" : Key) (.ref l') = kvM c l' z := by unfold putK kvM; rfl
theorem put_at (c l : Addr) (z z' : Int) : putK (kvM c l z) (.inr "at" : Key) (.int z') = kvM c l z' := by unfold putK kvM; rfl
theorem dpAll_ints {K : PySem.W.Frag} {H : Hp} : ∀ ns : List Int, DpAll K H (ns.map V.int) (ns.map PyData.int)
  | [] => .nil
  | n :: ns => .cons (.int n) (dpAll_ints ns)
theorem lay_ints : ∀ ns : List Int, PyData.canLayAll0 (ns.map PyData.int) = true
  | [] => rfl
  | n :: ns => by
    show (PyData.canLay0 (.int n) && PyData.canLayAll0 (ns.map PyData.int)) = true
    rw [lay_ints ns]; rfl
theorem depth_ints : ∀ ns : List Int, PyData.depthAll (ns.map PyData.int) = 0
  | [] => rfl
  | n :: ns => by
    show max (PyData.depth (.int n)) (PyData.depthAll (ns.map PyData.int)) = 0
    rw [depth_ints ns]; rfl
theorem shaped_ints (ns : List Int) : SeqAt.shaped (.list (ns.map PyData.int)) = true := by
  show (PyData.canLayAll0 (ns.map PyData.int) && decide (PyData.depthAll (ns.map PyData.int) + 1 ≤ 64)) = true
  rw [lay_ints, depth_ints]; rfl
theorem ifF {c : Bool} {A B : Prop} (hc : c = false) (h : B) : if c = true then A else B := by rw [hc, if_neg Bool.false_ne_true]; exact h
theorem ifT {c : Bool} {A B : Prop} (hc : c = true) (h : A) : if c = true then A else B := by rw [if_pos hc]; exact h
theorem cut1 (y : Int) (ys : List Int) : cutV ((y :: ys).map V.int) (some 1) none = ys.map V.int := by
  unfold cutV
  have e1 : HT.sIx ((y :: ys).map V.int).length 0 (some (1 : Int)) = 1 := by
    show HT.sIx _ 0 (some ((1 : Nat) : Int)) = 1
    rw [HT.sIx_nat]
    simp
  have e2 : HT.sIx ((y :: ys).map V.int).length ((y :: ys).map V.int).length none = (y :: ys).length := by
    show ((y :: ys).map V.int).length = _
    rw [List.length_map]
  rw [e1, e2]
  simp only [List.map_cons, List.drop_succ_cons, List.drop_zero, List.length_cons, Nat.add_sub_cancel]
  exact List.take_of_length_le (by simp)
theorem MS.fresh {H : Hp} {m c l p : Addr} {cs ls : List Int} {z : Int} (S : MS H m c l cs ls z) (hp : H p = none) : p ≠ m ∧ p ≠ c ∧ p ≠ l :=
  ⟨(fun e => by rw [e, S.dm] at hp; cases hp), (fun e => by rw [e, S.dc] at hp; cases hp), (fun e => by rw [e, S.dl] at hp; cases hp)⟩
theorem MS.mc {H : Hp} {m c l : Addr} {cs ls : List Int} {z : Int} (S : MS H m c l cs ls z) : m ≠ c := ne_of S.dm S.dc (by intro q; cases q)
theorem MS.ml {H : Hp} {m c l : Addr} {cs ls : List Int} {z : Int} (S : MS H m c l cs ls z) : m ≠ l := ne_of S.dm S.dl (by intro q; cases q)
/-- a new list is put as what is left -/
theorem MS.putL {H : Hp} {m c l p : Addr} {cs ls ls' : List Int} {z : Int} (S : MS H m c l cs ls z) (hp : H p = none) :
    MS (upd (upd H p (.lst (ls'.map V.int))) m (.dK (putK (kvM c l z) (.inr "left" : Key) (.ref p)))) m c p cs ls' z := by
  obtain ⟨n1, n2, n3⟩ := S.fresh hp
  refine ⟨by rw [upd_same, put_left], ?_, ?_, n2.symm⟩
  · rw [upd_ne S.mc.symm, upd_ne n2.symm]; exact S.dc
  · rw [upd_ne n1, upd_same]
theorem Fr.putM {m l l' p : Addr} {H H' : Hp} {o o' : HO} (f : Fr m l l' H H') (hp : H' p = none) : Fr m l p H (upd (upd H' p o) m o') := by
  refine ⟨fun b o e h1 h2 => ?_, .inr (f.free hp), fun b h => upd_dom (upd_dom (f.dom b h))⟩
  have q := f.keep b o e h1 h2
  rw [upd_ne h1, upd_ne (ne_of_none q hp)]; exact q
theorem MS.putA {H : Hp} {m c l : Addr} {cs ls : List Int} {z z' : Int} (S : MS H m c l cs ls z) :
    MS (upd H m (.dK (putK (kvM c l z) (.inr "at" : Key) (.int z')))) m c l cs ls z' :=
  ⟨by rw [upd_same, put_at], by rw [upd_ne S.mc.symm]; exact S.dc, by rw [upd_ne S.ml.symm]; exact S.dl, S.ne⟩
theorem Fr.putA {m l l' : Addr} {H H' : Hp} {o : HO} (f : Fr m l l' H H') : Fr m l l' H (upd H' m o) :=
  ⟨fun b o e h1 h2 => by rw [upd_ne h1]; exact f.keep b o e h1 h2, f.new, fun b h => upd_dom (f.dom b h)⟩
theorem MS.setL {H : Hp} {m c l : Addr} {cs ls ls' : List Int} {z : Int} (S : MS H m c l cs ls z) : MS (upd H l (.lst (ls'.map V.int))) m c l cs ls' z :=
  ⟨by rw [upd_ne S.ml]; exact S.dm, by rw [upd_ne S.ne]; exact S.dc, upd_same, S.ne⟩
theorem Fr.setL {m l l' : Addr} {H H' : Hp} {o : HO} (f : Fr m l l' H H') : Fr m l l' H (upd H' l' o) := by
  refine ⟨fun b o e h1 h2 => ?_, f.new, fun b h => upd_dom (f.dom b h)⟩
  have nb : b ≠ l' := by
    rcases f.new with q | q
    · rw [q]; exact h2
    · exact ne_of_none e q
  rw [upd_ne nb]; exact f.keep b o e h1 h2
theorem MS.mch {H : Hp} {m c l : Addr} {cs ls : List Int} {z : Int} {n : Nat} (S : MS H m c l cs ls z) (h1 : 0 ≤ z) (h2 : z ≤ (n : Int)) (h3 : cs.length ≤ 63) (h4 : ls.length ≤ 63) : Mch H m l n :=
  ⟨c, cs, ls, z, S.dm, S.dc, S.dl, S.ne, h1, h2, h3, h4⟩
def spNext : Sp := fun vs H Q _ => ∃ (m l : Addr) (n : Nat) (k : Int), vs = [.ref m, .int k] ∧ Mch H m l n ∧ n < 1000000 ∧ 0 < k ∧ k < 1000000 ∧
  ∀ (r : Int) (l' : Addr) (H' : Hp), 0 ≤ r → r < k → Mch H' m l' (n + 1) → Fr m l l' H H' → Q (.int r) H'
end
/-! ### growth of the heap -/
theorem Same.upd {H : Hp} {p : Addr} {o : HO} (h : H p = none) : Same H (upd H p o) := fun b q e => by rw [upd_ne (ne_of_none e h)]; exact e
theorem Mch.same {H H' : Hp} {m l : Addr} {n : Nat} (s : Same H H') (M : Mch H m l n) : Mch H' m l n := by
  obtain ⟨c, cs, ls, z, h1, h2, h3, h⟩ := M.ex
  exact ⟨c, cs, ls, z, s _ _ h1, s _ _ h2, s _ _ h3, h⟩
theorem Mch.kept {H H' : Hp} {m l : Addr} {n : Nat} (M : Mch H m l n) (s : Same H H') : Kept m l l H H' := by
  obtain ⟨c, cs, ls, z, h1, h2, h3, h⟩ := M.ex
  exact ⟨fun b o e _ _ => s b o e, fun _ _ _ h => h, ⟨_, h1⟩, ⟨_, h3⟩⟩
theorem Mch.step {H H' : Hp} {m l l' : Addr} {n : Nat} (M : Mch H m l n) (f : Fr m l l' H H') : Kept m l l' H H' := by
  obtain ⟨c, cs, ls, z, h1, h2, h3, h⟩ := M.ex
  refine ⟨f.keep, fun b o e hb => ?_, ⟨_, h1⟩, ⟨_, h3⟩⟩
  rcases f.new with q | q
  · rw [q]; exact hb
  · exact ne_of_none e q
theorem Mch.ne {H : Hp} {m l p : Addr} {n : Nat} (M : Mch H m l n) (h : H p = none) : p ≠ m ∧ p ≠ l := by
  obtain ⟨c, cs, ls, z, h1, h2, h3, _⟩ := M.ex
  exact ⟨(fun e => by rw [e, h1] at h; cases h), (fun e => by rw [e, h3] at h; cases h)⟩
/-- a fresh list, and one behind it -/
theorem Fr.lead {H0 H H' : Hp} {m l l' : Addr} (s : Same H0 H) (f : Fr m l l' H H') : Fr m l l' H0 H' := by
  have d : ∀ b, H0 b ≠ none → H b ≠ none := fun b h => by
    cases q : H0 b with
    | none => exact absurd q h
    | some o => rw [s b o q]; exact fun z => nomatch z
  refine ⟨fun b o e h1 h2 => f.keep b o (s b o e) h1 h2, ?_, fun b h => f.dom b (d b h)⟩
  rcases f.new with q | q
  · exact .inl q
  · exact .inr (Same.free s q)
theorem DqAll.get {K : PySem.W.Frag} {H : Hp} {m l : Addr} : ∀ {ds : List PyData} {vs : List V} {i : Nat} {v : V}, DqAll K H m l vs ds → vs[i]? = some v → ∃ d, ds[i]? = some d ∧ Dq K H m l v d
  | [], _, i, v, h, e => by cases h; simp at e
  | d :: ds, _, 0, v, h, e => by
    cases h with
    | cons h1 h2 => simp at e; subst e; exact ⟨d, rfl, h1⟩
  | d :: ds, _, i + 1, v, h, e => by
    cases h with
    | cons h1 h2 => exact DqAll.get (i := i) h2 (by simpa using e)
end Ms
namespace Ms
open PySem PySem.Spec PyProof.Rows L2
def top (i : Nat) : Stmt := PySem.Challenge.pw_midswitch_k08_straight_requests.main.body.getD i (.Pass ⟨0, 0, 0, 0⟩)
abbrev sIni : Stmt := inClass (top 3) 0
abbrev sIniS : Stmt := inClass (top 4) 0
abbrev sIniP : Stmt := inClass (top 5) 0
abbrev sIniM : Stmt := inClass (top 6) 0
abbrev sIniT : Stmt := inClass (top 7) 0
abbrev sPInt : Stmt := top 13
abbrev sPName : Stmt := top 14
abbrev sPSet : Stmt := top 15
abbrev sNeed : Stmt := top 16
abbrev sPNames : Stmt := top 17
abbrev sPOrder : Stmt := top 18
abbrev sPGrid : Stmt := top 19
abbrev sPStand : Stmt := top 20
abbrev sNStand : Stmt := top 21
abbrev sReqIni : Stmt := inClass (top 26) 0
abbrev sPPRow : Stmt := top 27
abbrev sNPlaces : Stmt := top 28
abbrev sPPlace : Stmt := top 29
abbrev sPAsk : Stmt := top 30
abbrev sPNum : Stmt := top 31
abbrev sNModes : Stmt := top 32
abbrev sPMode : Stmt := top 33
abbrev sPJoined : Stmt := top 34
abbrev sPNwe : Stmt := top 35
abbrev sPRen : Stmt := top 36
abbrev sBegun : Stmt := top 38
abbrev sNext : Stmt := top 39
abbrev sNames : Stmt := top 40
abbrev sSettings : Stmt := top 41
abbrev sIsWhole : Stmt := top 42
abbrev sIsName : Stmt := top 43
abbrev sStandings : Stmt := top 44
abbrev sTold : Stmt := top 45
abbrev sMade : Stmt := top 46
abbrev sLaw : Stmt := top 47
abbrev sReqLen : Stmt := inClass (top 26) 1
abbrev sReqEq : Stmt := inClass (top 26) 2
abbrev sReqAdd : Stmt := inClass (top 26) 3
abbrev sReqKeep : Stmt := inClass (top 26) 4
abbrev sReqWith : Stmt := inClass (top 26) 5
abbrev sReqStr : Stmt := inClass (top 26) 6
abbrev sReqPlain : Stmt := inClass (top 26) 7
end Ms
namespace Ms
open PySem PySem.Spec PyProof.Rows L2
section
variable {P : Program} {w : World} {K : PySem.W.Frag} {mg : Str → Option Value} {base : Heap}
theorem scB : FnScope ["script", "cell"] ["script"] (defScope sBegun) := ⟨rfl, rfl, rfl, by decide +kernel, rfl, by decide +kernel, by decide +kernel⟩
theorem ok_begun {f : Addr} {fd : FuncData} (F : Fun K "_law_begun" "_law_begun" sBegun f fd) (T : Txt mg) : FnOk P w K mg base CX0 1 f fd ["script"] (spBegun K) := by
  refine F.ok scB (fun vs H Q E h => ?_) (fun cdv A outer s H vs Q E hr h => ?_)
  · obtain ⟨a, ns, rfl, _⟩ := h
    rfl
  · obtain ⟨a, ns, rfl, hS, hlen, k⟩ := h
    have hu := hu_of hr
    refine ⟨_, pss_one (ps_ret (pe_disp (pps_cons pe_str (pe_callTy call_list_of (by rfl) T.list (by decide +kernel) (pa_cons (pv 0) pa_nil))
      (pps_cons pe_str (pe_lc (own := [("cell", 1)]) (g := gName 1) (by rfl) scB.nd (pi_list (pv 0)) (blkOk_by (own := [("cell", 1)]) (N := ["script", "cell"]) (sc := defScope sBegun) (by decide +kernel))
        (fun _ _ _ _ _ => pg_name (i := 1) scB.nd rfl (Or.inl rfl)) (fun _ _ _ _ _ => pts_one (pt_cmpR op_ge (pv 1) (pe_op op_pow pe_int pe_int) (nomark _))) (fun _ _ _ _ _ => pv 1))
      (pps_cons pe_str pe_int pps_nil))) (by rfl) (by rfl) (fun z => by cases z) (by decide))), ?_⟩
    intro m hm
    have s0 : Same H (upd H m (.dK [])) := fun b o e => by rw [upd_ne (ne_of_none e hm)]; exact e
    refine ⟨_, rfl, a, _, rfl, .inl (s0.seq hS), fun c hc => ?_⟩
    have ncm : c ≠ m := fun z => by rw [z, upd_same] at hc; cases hc
    have hc0 : H c = none := by rw [upd_ne ncm] at hc; exact hc
    have s1 : Same H (upd (upd H m (.dK [])) c (.lst (ns.map V.int))) := fun b o e => by rw [upd_ne (ne_of_none e hc0)]; exact s0 b o e
    refine ⟨_, rfl, a, rfl, ⟨_, s1.seq hS⟩, fun l hl => ?_⟩
    have nlc : l ≠ c := fun z => by rw [z, upd_same] at hl; cases hl
    have hl1 : (upd H m (.dK [])) l = none := by rw [upd_ne nlc] at hl; exact hl
    have nlm : l ≠ m := fun z => by rw [z, upd_same] at hl1; cases hl1
    have hl0 : H l = none := by rw [upd_ne nlm] at hl1; exact hl1
    refine lc_list (K := K) (a := a) (xs := ns.map V.int) (fun i H2 => ∃ ls : List Int, ls.length ≤ i ∧ H2 = upd (upd (upd H m (.dK [])) c (.lst (ns.map V.int))) l (.lst (ls.map V.int))) ⟨[], Nat.le_refl _, rfl⟩ (fun i H2 _ ⟨ls, _, e⟩ => ?_) ?_ ?_
    · have s2 : Same H H2 := fun b o q => by rw [e, upd_ne (ne_of_none q hl0)]; exact s1 b o q
      exact s2.seq hS
    · rintro i x H2 hi ⟨ls, hls, e⟩
      obtain ⟨z, rfl⟩ : ∃ z, x = V.int z := by
        rw [List.getElem?_map] at hi
        cases q : ns[i]? with
        | none => rw [q] at hi; cases hi
        | some z => rw [q] at hi; exact ⟨z, (Option.some.inj hi).symm⟩
      have hil : i < ns.length := by
        have q := (List.getElem?_eq_some_iff.mp hi).1
        rw [List.length_map] at q
        exact q
      refine ⟨rfl, _, rfl, _, _, rfl, rfl, ⟨by decide, by decide, by decide⟩, _, _, rfl, rfl, _, rfl, ?_⟩
      refine ite2 (fun _ => ?_) (fun _ => ?_)
      · refine ⟨_, rfl, ls.map V.int, by rw [e]; exact upd_same, small1000 (by rw [List.length_map]; omega), ls ++ [z], ?_, ?_⟩
        · rw [List.length_append, List.length_singleton]; omega
        · rw [e, upd_upd, List.map_append]; rfl
      · exact ⟨ls, by omega, e⟩
    · rintro H2 ⟨ls, hls, e⟩
      rw [List.length_map] at hls
      refine ⟨?_, [(.inr "cells", .ref c), (.inr "left", .ref l), (.inr "at", .int 0)], rfl, (by show 3 ≤ 15; decide), ?_⟩
      · rw [e, upd_ne nlm.symm, upd_ne ncm.symm, upd_same]
      · refine k m l _ hm hl0 (fun b o q => ?_) ⟨c, ns, ls, 0, ?_, ?_, ?_, nlc.symm, Int.le_refl _, Int.le_refl _, hlen, by omega⟩
        · rw [upd_ne (ne_of_none q hm), e, upd_ne (ne_of_none q hl0)]; exact s1 b o q
        · rw [upd_same]; rfl
        · rw [upd_ne ncm, e, upd_ne nlc.symm, upd_same]
        · rw [upd_ne nlm, e, upd_same]

theorem scN : FnScope ["m", "many", "rest", "at", "lot", "cell", "blend"] ["m", "many"] (defScope sNext) := ⟨rfl, rfl, rfl, by decide +kernel, rfl, by decide +kernel, by decide +kernel⟩
set_option maxHeartbeats 4000000 in
theorem ok_next {f : Addr} {fd : FuncData} (F : Fun K "_law_next" "_law_next" sNext f fd) (T : Txt mg) : FnOk P w K mg base CX0 1 f fd ["m", "many"] spNext := by
  refine F.ok scN (fun vs H Q E h => ?_) (fun cdv A outer s H vs Q E hr h => ?_)
  · obtain ⟨m, l, n, k, rfl, _⟩ := h
    rfl
  · obtain ⟨m, l, n, k, rfl, M, hn, hk, hk2, q⟩ := h
    have hu := hu_of hr
    refine ⟨_, pss_cons (ps_while PassesOwn.never (PW.pt (pw_and (pt_cmpR (op_neD hr.units) (pe_dget hu (pv 0) pe_str (fun _ _ => rfl)) (pe_lst pa_nil) (nomark _))
          (pw_and1 (pt_cmpR op_eq (pe_ix ix_list (pe_dget hu (pv 0) pe_str (fun _ _ => rfl)) pe_int (fun _ _ => rfl)) pe_int (nomark _)))))
        (pss_one (ps_dput hu (pv 0) pe_str (pe_slice sl_list (pe_dget hu (pv 0) pe_str (fun _ _ => rfl)) (po_some pe_int) po_none) rfl)))
      (pss_cons (ps_if (pt_cmpR (op_neD hr.units) (pe_dget hu (pv 0) pe_str (fun _ _ => rfl)) (pe_lst pa_nil) (nomark _))
        (pss_cons (ps_set (i := 2) scN.nd rfl (Or.inl rfl) (pe_ix ix_list (pe_dget hu (pv 0) pe_str (fun _ _ => rfl)) pe_int (fun _ _ => rfl)))
          (pss_cons (ps_asg (pe_op op_fdiv (pv 2) (pv 1)) (pg_sub (pe_dget hu (pv 0) pe_str (fun _ _ => rfl)) pe_int set_list))
          (pss_one (ps_ret (pe_op op_mod (pe_callTy call_int1 (by rfl) T.int (by decide +kernel) (pa_cons (pv 2) pa_nil)) (pv 1))))))
        pss_nil)
      (pss_cons (ps_par (i := 3) (j := 4) (by rfl) scN.nd rfl rfl (by decide) rfl rfl (pa_cons (pe_op op_add (pe_dget hu (pv 0) pe_str (fun _ _ => rfl)) pe_int) (pa_cons (pe_dget hu (pv 0) pe_str (fun _ _ => rfl)) pa_nil)) (by rfl))
      (pss_cons (ps_dput hu (pv 0) pe_str (pv 3) rfl)
      (pss_cons (ps_set (i := 5) scN.nd rfl (Or.inl rfl) (pe_ifExp (pt_cmpR (op_neD hr.units) (pv 4) (pe_lst pa_nil) (nomark _))
        (pe_callTy call_int1 (by rfl) T.int (by decide +kernel) (pa_cons (pe_ix ix_list (pv 4) (pe_op op_mod (pe_callTy call_int1 (by rfl) T.int (by decide +kernel) (pa_cons (pe_op op_add (pe_op op_mul (pv 3) (pv 3)) (pe_op op_fdiv (pv 3) pe_int)) pa_nil))
          (pe_callB call_len_seq (by rfl) T.len PySem.boot_len (pa_cons (pv 4) pa_nil))) (fun _ _ => rfl)) pa_nil)) pe_int))
      (pss_cons (ps_set (i := 6) scN.nd rfl (Or.inl rfl) (pe_op op_mod (pe_callTy call_int1 (by rfl) T.int (by decide +kernel) (pa_cons (pe_op op_add (pe_op op_add (pe_op op_mul (pv 5) pe_int) (pe_op op_mul (pv 3) pe_int)) (pe_op op_mul (pe_op op_mul pe_int (pv 3)) (pv 3))) pa_nil)) pe_int))
      (pss_one (ps_ret (pe_op op_mod (pe_callTy call_int1 (by rfl) T.int (by decide +kernel) (pa_cons (pe_op op_fdiv (pe_op op_mod (pe_callTy call_int1 (by rfl) T.int (by decide +kernel) (pa_cons (pe_op op_add (pe_op op_mul (pv 6) pe_int) (pe_op op_mul pe_int (pv 3))) pa_nil)) pe_int) pe_int) pa_nil)) (pv 1))))))))), ?_⟩
    obtain ⟨c, cs, ls, z, h1, h2, h3, h4, h5, h6, h7, h8⟩ := M.ex
    refine (show ∀ D : Ends, (∀ l2 ls2 H3, H3 l ≠ none → ls2.length ≤ 63 → MS H3 m c l2 cs ls2 z → Fr m l l2 H H3 → D.nx [some (.ref m), some (.int k), none, none, none, none, none] H3) → tWhile _ _ D _ _ from ?_) _ ?_
    · intro D rest
      refine ⟨fun N σ H2 => σ = [some (.ref m), some (.int k), none, none, none, none, none] ∧ ∃ l2 ls, ls.length = N ∧ ls.length ≤ 63 ∧ H2 l ≠ none ∧ MS H2 m c l2 cs ls z ∧ Fr m l l2 H H2, ⟨_, rfl, l, ls, rfl, h8, (by rw [h3]; exact fun z => nomatch z), ⟨h1, h2, h3, h4⟩, Fr.refl M⟩, ?_⟩
      rintro N σ H2 ⟨rfl, l2, ls2, rfl, hz, hl2, S, f⟩
      refine ⟨_, rfl, m, .ref l2, rfl, S.left, Nat.zero_le _, fun p hp => ?_⟩
      have S' := S.junk (o := .lst []) hp
      have f' := f.junk (o := .lst []) hp
      have nz : ∀ {H2 : Hp} {p : Addr}, H2 l ≠ none → ∀ o, (upd H2 p o) l ≠ none := fun {H2 p} hl2 o => by
        by_cases e : l = p
        · rw [e, upd_same]; exact fun z => nomatch z
        · rw [upd_ne e]; exact hl2
      refine ⟨.list (ls2.map PyData.int), .list [], .lst (SqL.of S'.dl) (dpAll_ints _), .lst (SqL.of upd_same) .nil, shaped_ints _, rfl, _, rfl, ?_⟩
      cases ls2 with
      | nil =>
        refine ifF rfl ?_
        refine ifF rfl ?_
        exact rest l2 [] _ (nz hl2 _) hz S' f'
      | cons y ys =>
        refine ifT rfl ?_
        refine ⟨_, rfl, m, .ref l2, rfl, S'.left, l2, _, 0, .int y, rfl, rfl, SqL.of S'.dl, atI_nat (j := 0) rfl, rfl, _, rfl, ?_⟩
        refine ite2 (fun _ => ?_) (fun _ => rest l2 (y :: ys) _ (nz hl2 _) hz S' f')
        refine ⟨fun σ' H' => σ' = [some (.ref m), some (.int k), none, none, none, none, none] ∧ ∃ l2, H' l ≠ none ∧ MS H' m c l2 cs ys z ∧ Fr m l l2 H H', (fun σ' H' ⟨e, l3, g1, g2, g3⟩ => ⟨ys.length, by simp, e, l3, ys, rfl, by simp at hz; omega, g1, g2, g3⟩), ?_⟩
        refine ⟨_, rfl, m, .ref l2, rfl, S'.left, ⟨1, rfl, l2, _, rfl, SqL.of S'.dl, fun p2 hp2 => ?_⟩⟩
        rw [cut1]
        refine ⟨_, rfl, m, _, rfl, DPut.k (k := Sum.inr "left") (S'.junk hp2).dm (by show 3 < sizeLine; exact small1000 (by decide)), rfl, p2, nz (nz (nz hl2 _) _) _, S'.putL hp2, f'.putM hp2⟩
    · intro l2 ls2 H3 hl3 hz S f
      refine ⟨_, rfl, m, .ref l2, rfl, S.left, Nat.zero_le _, fun p hp => ?_⟩
      have S' := S.junk (o := .lst []) hp
      have f' := f.junk (o := .lst []) hp
      refine ⟨.list (ls2.map PyData.int), .list [], .lst (SqL.of S'.dl) (dpAll_ints _), .lst (SqL.of upd_same) .nil, shaped_ints _, rfl, _, rfl, ?_⟩
      cases ls2 with
      | cons y ys =>
        refine ifT rfl ?_
        refine ⟨_, rfl, m, .ref l2, rfl, S'.left, l2, _, 0, .int y, rfl, rfl, SqL.of S'.dl, atI_nat (j := 0) rfl, ?_⟩
        refine ⟨_, rfl, _, rfl, _, _, rfl, rfl, ⟨hk, by omega⟩, _, rfl, m, .ref l2, rfl, S'.left, l2, _, 0, 0, rfl, rfl, S'.dl, (by unfold ixN; rw [if_pos (by decide), if_pos (by simp only [List.map_cons, List.length_cons]; omega)]; rfl), ?_⟩
        refine ⟨_, rfl, .inl ⟨_, rfl, _, rfl, _, _, rfl, rfl, hk, ?_⟩⟩
        have S2 := S'.setL (ls' := (y / k) :: ys)
        exact q _ l2 _ (Int.emod_nonneg _ (by omega)) (Int.emod_lt_of_pos _ hk) (S2.mch h5 (by omega) h7 (by simpa using hz)) f'.setL
      | nil =>
        refine ifF rfl ?_
        refine ⟨_, rfl, m, .int z, rfl, S'.at, _, _, rfl, rfl, _, rfl, m, .ref c, rfl, S'.cells, _, _, rfl, ?_⟩
        refine ⟨_, rfl, _, rfl, m, _, rfl, DPut.k (k := Sum.inr "at") S'.dm (by show 3 < sizeLine; exact small1000 (by decide)), ?_⟩
        have S2 := S'.putA (z' := z + 1)
        have f2 := f'.putA (o := (.dK (putK (kvM c l2 z) (.inr "at" : Key) (.int (z + 1)))))
        refine ⟨_, rfl, Nat.zero_le _, fun p2 hp2 => ?_⟩
        have S3 := S2.junk (o := .lst []) hp2
        have f3 := f2.junk (o := .lst []) hp2
        refine ⟨.list (cs.map PyData.int), .list [], .lst (SqL.of S3.dc) (dpAll_ints _), .lst (SqL.of upd_same) .nil, shaped_ints _, rfl, _, rfl, ?_⟩
        cases cs with
        | nil =>
          refine ifF rfl ?_
          refine ⟨_, rfl, _, _, rfl, rfl, .inr ⟨by decide, by decide⟩, _, rfl, _, _, rfl, rfl, .inr ⟨by decide, by decide⟩, _, _, rfl, rfl, _, rfl, _, _, rfl, rfl, .inl ⟨by decide, by decide⟩, _, rfl, _, _, rfl, rfl, .inr ⟨by omega, by omega⟩, _, _, rfl, rfl, .inl ⟨_, rfl, _, _, rfl, rfl, (by show (0 : Int) < 2147483399; decide), ?_⟩⟩
          refine ⟨_, rfl, _, _, rfl, rfl, .inr ⟨by decide, by decide⟩, _, rfl, _, _, rfl, rfl, .inl ⟨by decide, by decide⟩, _, _, rfl, rfl, .inl ⟨_, rfl, _, _, rfl, rfl, (by show (0 : Int) < 2147483647; decide), _, _, rfl, rfl, ⟨by decide, by decide⟩, .inl ⟨_, rfl, _, rfl, _, _, rfl, rfl, hk, ?_⟩⟩⟩
          exact q _ l2 _ (Int.emod_nonneg _ (by omega)) (Int.emod_lt_of_pos _ hk) (S3.mch (by omega) (by omega) h7 (by simp)) f3
        | cons y ys =>
          refine ifT rfl ?_
          refine ⟨_, rfl, _, rfl, _, rfl, _, _, rfl, rfl, .inl ⟨by omega, by omega⟩, _, rfl, _, _, rfl, rfl, ⟨by decide, by decide⟩, _, _, rfl, rfl, .inl ⟨_, rfl, ?_⟩⟩
          have hlen : ((y :: ys).map V.int).length = ys.length + 1 := by rw [List.length_map, List.length_cons]
          refine ⟨_, rfl, c, _, rfl, .inl (SqL.of S3.dc), _, _, rfl, rfl, (by rw [hlen]; omega), ?_⟩
          generalize hg : ((z + 1) * (z + 1) + (z + 1) / 2) % ((((y :: ys).map V.int).length : Nat) : Int) = g
          have g0 : 0 ≤ g := by rw [← hg, hlen]; exact Int.emod_nonneg _ (by omega)
          have g1 : g < ((y :: ys).length : Nat) := by rw [← hg, hlen]; exact Int.emod_lt_of_pos _ (by omega)
          obtain ⟨gn, rfl⟩ : ∃ gn : Nat, g = (gn : Int) := ⟨g.toNat, by omega⟩
          obtain ⟨u, hu2⟩ : ∃ u, (y :: ys)[gn]? = some u := ⟨_, List.getElem?_eq_getElem (by omega)⟩
          refine ⟨c, _, (gn : Int), .int u, rfl, congrArg V.int hg, SqL.of S3.dc, atI_nat (by rw [List.getElem?_map, hu2]; rfl), .inl ⟨_, rfl, ?_⟩⟩
          refine ⟨_, rfl, _, _, rfl, rfl, .inr ⟨by decide, by decide⟩, _, rfl, _, _, rfl, rfl, .inr ⟨by decide, by decide⟩, _, _, rfl, rfl, _, rfl, _, _, rfl, rfl, .inl ⟨by decide, by decide⟩, _, rfl, _, _, rfl, rfl, .inr ⟨by omega, by omega⟩, _, _, rfl, rfl, .inl ⟨_, rfl, _, _, rfl, rfl, (by show (0 : Int) < 2147483399; decide), ?_⟩⟩
          refine ⟨_, rfl, _, _, rfl, rfl, .inr ⟨by decide, by decide⟩, _, rfl, _, _, rfl, rfl, .inl ⟨by decide, by decide⟩, _, _, rfl, rfl, .inl ⟨_, rfl, _, _, rfl, rfl, (by show (0 : Int) < 2147483647; decide), _, _, rfl, rfl, ⟨by decide, by decide⟩, .inl ⟨_, rfl, _, rfl, _, _, rfl, rfl, hk, ?_⟩⟩⟩
          exact q _ l2 _ (Int.emod_nonneg _ (by omega)) (Int.emod_lt_of_pos _ hk) (S3.mch (by omega) (by omega) h7 (by simp)) f3
end
end Ms
namespace Ms
open PySem PySem.Spec PyProof.Rows L2
structure TxtN (mg : Str → Option Value) (fN : Addr) : Prop extends Txt mg where
  next : mg "_law_next" = some (.ref fN)
  range : mg "range" = none
  tuple : mg "tuple" = none
  zip : mg "zip" = none
/-- s * n -/
theorem op_mul_si {X : Cx} : OpR X (binaryOp .Mult) (fun x y H Q => ∃ z i, x = .str z ∧ y = .int i ∧ PySem.MulOk z i ∧ Q (.str (Txt.mul z i)) H) := by
  intro pins s σ H x y v u Q I rx ry h
  obtain ⟨z, i, rfl, rfl, ok, q⟩ := h
  obtain ⟨t, rfl⟩ := rx
  obtain ⟨t', rfl⟩ := ry
  exact PySem.SB.mul ok fun t2 k => ⟨.str _, H, I.tok _, ⟨_, rfl⟩, q⟩
theorem tyes {σ : L2.St} {H : Hp} {R S : Hp → Prop} (h : R H) : tYes σ H (fun b H3 => if b = true then R H3 else S H3) := by
  show if true = true then R H else S H
  rw [if_pos rfl]
  exact h
/-- a list of texts grows by one -/
theorem str_grow {H8 H9 : Hp} {D : Addr} {ys : List Str} {y : Str} (e : H9 = upd H8 D (.lst (ys.map V.str))) : upd H9 D (.lst (ys.map V.str ++ [.str y])) = upd H8 D (.lst ((ys ++ [y]).map V.str)) := by
  rw [e, upd_upd, List.map_append]
  rfl
/-! ### short texts -/
def sOk (a : Nat) (z : Str) : Prop := z.length ≤ a ∧ ∀ c ∈ z.cps.toList, c < 0x110000
theorem sOk.mono {a b : Nat} {z : Str} (h : sOk a z) (k : a ≤ b) : sOk b z := ⟨Nat.le_trans h.1 k, h.2⟩
theorem sOk.app {a b : Nat} {z y : Str} (h : sOk a z) (k : sOk b y) : sOk (a + b) (z ++ y) := by
  refine ⟨by rw [Str.length_append]; exact Nat.add_le_add h.1 k.1, fun c hc => ?_⟩
  have e : (z ++ y).cps.toList = z.cps.toList ++ y.cps.toList := Array.toList_append
  rw [e] at hc
  exact (List.mem_append.mp hc).elim (h.2 c) (k.2 c)
theorem sOk.cut {a : Nat} {z : Str} (h : sOk a z) (lo hi : Option Int) : sOk a (cutS z lo hi) := by
  refine ⟨?_, fun c hc => h.2 c ?_⟩
  · show ((z.cps.toList.drop (HT.sIx z.length 0 lo)).take (HT.sIx z.length z.length hi - HT.sIx z.length 0 lo)).toArray.size ≤ a
    have e : z.cps.toList.length ≤ a := by rw [Array.length_toList]; exact h.1
    rw [List.size_toArray, List.length_take, List.length_drop]
    omega
  · have hc' : c ∈ ((z.cps.toList.drop (HT.sIx z.length 0 lo)).take (HT.sIx z.length z.length hi - HT.sIx z.length 0 lo)) := by simpa [cutS] using hc
    exact List.mem_of_mem_drop (List.mem_of_mem_take hc')
theorem sOk.sign {c : Nat} (h : c < 0x110000) : sOk 1 ⟨#[c]⟩ := ⟨Nat.le_refl _, fun d hd => by simp at hd; rw [hd]; exact h⟩
theorem sOk.okd {a B : Nat} {z : Str} (h : sOk a z) : okD B (.str z) = true := by
  simp only [okD, List.all_eq_true, decide_eq_true_eq]
  exact h.2
abbrev alpha : Str := "abcdefghijklmnopqrstuvwxyz"
theorem alpha_list : alpha.cps.toList = [97, 98, 99, 100, 101, 102, 103, 104, 105, 106, 107, 108, 109, 110, 111, 112, 113, 114, 115, 116, 117, 118, 119, 120, 121, 122] := by decide +kernel
theorem alpha_at {i : Int} (h0 : 0 ≤ i) (h1 : i < 26) : ∃ c, atI alpha.cps.toList i = some c ∧ c < 0x110000 := by
  obtain ⟨j, rfl⟩ : ∃ j : Nat, i = (j : Int) := ⟨i.toNat, by omega⟩
  have hl : alpha.cps.toList.length = 26 := by rw [alpha_list]; rfl
  obtain ⟨c, hc⟩ : ∃ c, alpha.cps.toList[j]? = some c := ⟨_, List.getElem?_eq_getElem (by rw [hl]; omega)⟩
  refine ⟨c, atI_nat hc, ?_⟩
  have z : ∀ d ∈ alpha.cps.toList, d < 0x110000 := by rw [alpha_list]; decide
  exact z c (List.mem_of_getElem? hc)
theorem alpha_len : alpha.length ≤ sizeLine := by decide +kernel
theorem mul8 (c : Nat) : Txt.mul ⟨#[c]⟩ 8 = ⟨#[c, c, c, c, c, c, c, c]⟩ := by rfl
theorem mul8_ok (c : Nat) : PySem.MulOk ⟨#[c]⟩ 8 := ⟨by decide, fun _ _ => by show ¬ ((1 : Nat) : Int) > (2 ^ 63 - 1) / 8; decide, fun _ _ => rfl⟩
section
variable {P : Program} {w : World} {K : PySem.W.Frag} {mg : Str → Option Value} {base : Heap} {fN : Addr}
abbrev NN : List Str := ["m", "many", "letters", "stem", "k", "at", "first", "by", "word"]
theorem scNm : FnScope NN ["m", "many"] (defScope sNames) := ⟨rfl, rfl, rfl, by decide +kernel, rfl, by decide +kernel, by decide +kernel⟩
def spNames : Sp := fun vs H Q _ => ∃ (m l : Addr) (n : Nat) (k : Nat), vs = [.ref m, .int (k : Int)] ∧ Mch H m l n ∧ n < 900000 ∧ 1 ≤ k ∧ k ≤ 8 ∧
  ∀ (p : Addr) (ys : List Str) (l' : Addr) (H' : Hp), H p = none → H' p = some (.lst (ys.map V.str)) → ys.length = k → (∀ y ∈ ys, sOk 16 y) → p ≠ m → p ≠ l' → Mch H' m l' (n + 11) → Fr m l l' H H' → Q (.ref p) H'
theorem ok_names {f : Addr} {fd fdN : FuncData} (F : Fun K "_law_names" "_law_names" sNames f fd) (T : TxtN mg fN) (FN : Fun K "_law_next" "_law_next" sNext fN fdN) (bN : Binds K fdN ["m", "many"] []) : FnOk P w K mg base CX0 2 f fd ["m", "many"] spNames := by
  have GN : FnOk P w K mg base CX0 1 fN fdN ["m", "many"] spNext := ok_next FN T.toTxt
  refine F.ok scNm (fun vs H Q E h => ?_) (fun cdv A outer s H vs Q E hr h => ?_)
  · obtain ⟨m, l, n, k, rfl, _⟩ := h
    rfl
  · obtain ⟨m, l, n, k, rfl, M, hn, hk, hk2, q⟩ := h
    refine ⟨_, pss_cons (ps_asg (pe_tup (pa_cons pe_str (pa_cons pe_str pa_nil))) (pg_tup rfl (pgs_cons (pg_name (i := 2) scNm.nd rfl (Or.inr rfl)) (pgs_cons (pg_name (i := 3) scNm.nd rfl (Or.inr rfl)) pgs_nil))))
      (pss_cons (ps_for PassesOwn.never rfl (pi_range1 (by rfl) T.range (pa_cons (pe_call GN hr rfl T.next FN.kp bN .nil pass0 (pa_cons (pv 0) (pa_cons pe_int pa_nil))) pa_nil)) (pg_name (i := 4) scNm.nd rfl (Or.inl rfl))
        (pss_one (ps_set (i := 3) scNm.nd rfl (Or.inr rfl) (pe_op op_add_str (pv 3) (pe_ix ix_str (pv 2) (pe_call GN hr rfl T.next FN.kp bN .nil pass0 (pa_cons (pv 0) (pa_cons pe_int pa_nil))) (fun _ _ => rfl))))))
      (pss_cons (ps_asg (pe_tup (pa_cons (pe_call GN hr rfl T.next FN.kp bN .nil pass0 (pa_cons (pv 0) (pa_cons (pe_op op_add (pe_callB call_len_str (by rfl) T.len PySem.boot_len (pa_cons (pv 3) pa_nil)) pe_int) pa_nil)))
          (pa_cons (pe_call GN hr rfl T.next FN.kp bN .nil pass0 (pa_cons (pv 0) (pa_cons pe_int pa_nil)))
          (pa_cons (pe_ix ix_list (pe_lst (pa_cons pe_int (pa_cons pe_int (pa_cons pe_int (pa_cons pe_int (pa_cons pe_int (pa_cons pe_int pa_nil))))))) (pe_call GN hr rfl T.next FN.kp bN .nil pass0 (pa_cons (pv 0) (pa_cons pe_int pa_nil))) (fun _ _ => rfl)) pa_nil))))
        (pg_tup rfl (pgs_cons (pg_name (i := 5) scNm.nd rfl (Or.inr rfl)) (pgs_cons (pg_name (i := 6) scNm.nd rfl (Or.inr rfl)) (pgs_cons (pg_name (i := 7) scNm.nd rfl (Or.inr rfl)) pgs_nil)))))
      (pss_cons (ps_set (i := 8) scNm.nd rfl (Or.inr rfl) (pe_slice sl_str (pe_op op_add_str (pv 3) (pe_op op_mul_si (pe_ix ix_str (pv 2) (pv 6) (fun _ _ => rfl)) pe_int)) po_none (po_some pe_int)))
      (pss_cons (ps_if (pt_cmpR op_gt (pv 7) pe_int (nomark _)) (pss_one (ps_ret (pe_lc (own := [("k", 4)]) (g := gName 4) (by rfl) scNm.nd (pi_range1 (by rfl) T.range (pa_cons (pv 1) pa_nil)) (blkOk_by (own := [("k", 4)]) (N := NN) (sc := defScope sNames) (by decide +kernel))
          (fun _ _ _ _ _ => pg_name (i := 4) scNm.nd rfl (Or.inl rfl)) (fun _ _ _ _ _ => pts_nil) (fun _ _ _ _ _ => pe_ifExp (pt_cmpR op_gt (pv 7) pe_int (nomark _)) (pe_slice sl_str (pv 8) (po_some (pv 4)) po_none) (pe_slice sl_str (pv 8) po_none (po_some (pe_op op_sub (pe_op op_add (pv 4) pe_int) (pv 1)))))))) pss_nil)
      (pss_one (ps_ret (pe_lc (own := [("k", 4)]) (g := gName 4) (by rfl) scNm.nd (pi_range1 (by rfl) T.range (pa_cons (pv 1) pa_nil)) (blkOk_by (own := [("k", 4)]) (N := NN) (sc := defScope sNames) (by decide +kernel))
          (fun _ _ _ _ _ => pg_name (i := 4) scNm.nd rfl (Or.inl rfl)) (fun _ _ _ _ _ => pts_nil) (fun _ _ _ _ _ => pe_op op_add_str (pe_op op_add_str (pe_slice sl_str (pv 3) po_none (po_some (pv 5)))
            (pe_ix ix_str (pv 2) (pe_op op_mod (pe_callTy call_int1 (by rfl) T.int (by decide +kernel) (pa_cons (pe_op op_add (pv 6) (pe_op op_mul (pv 7) (pv 4))) pa_nil)) pe_int) (fun _ _ => rfl))) (pe_slice sl_str (pv 3) (po_some (pv 5)) po_none))))))))), ?_⟩
    refine ⟨(by show 2 ≤ sizeLine; decide), fun p1 h1 => ⟨p1, _, rfl, .inl (.inl upd_same), rfl, _, _, rfl, _, _, rfl, rfl, ?_⟩⟩
    have s1 : Same H _ := Same.upd (o := .tup [.str alpha, .str ""]) h1
    refine ⟨_, rfl, m, l, n, 8, rfl, M.same s1, by omega, by decide, by decide, fun r0 l1 H1 r0p r0l M1 f1 => ?_⟩
    refine ⟨r0, rfl, by omega, by omega, ?_⟩
    refine for_range (lo := 0) (n := r0.toNat) (fun i σ H2 => ∃ (z : Str) (v4 : Option V) (l2 : Addr), σ = [some (.ref m), some (.int (k : Int)), some (.str alpha), some (.str z), v4, none, none, none, none] ∧ sOk i z ∧ Mch H2 m l2 (n + 1 + i) ∧ Fr m l l2 H H2)
      ⟨"", _, l1, rfl, ⟨Nat.le_refl _, fun c hc => by cases hc⟩, M1, Fr.lead s1 f1⟩ ?_ ?_
    · rintro i σ H2 hi ⟨z, v4, l2, rfl, hz, M2, f2⟩
      refine ⟨_, rfl, _, rfl, _, rfl, m, l2, _, 26, rfl, M2, by omega, by decide, by decide, fun r l3 H3 rp rl M3 f3 => ?_⟩
      obtain ⟨c, hc, hc2⟩ := alpha_at rp rl
      refine ⟨alpha, r, c, rfl, rfl, alpha_len, hc, z, _, rfl, rfl, ?_, ?_⟩
      · have := hz.1
        show z.length + 1 ≤ sizeLine
        exact small1000 (by omega)
      · exact ⟨_, _, l3, rfl, hz.app (sOk.sign hc2), M3, f2.trans f3⟩
    · rintro σ H2 ⟨z, v4, l2, rfl, hz, M2, f2⟩
      have z7 := hz.1
      have zs : z.length ≤ sizeLine := Nat.le_of_lt (small1000 (by omega))
      refine ⟨_, rfl, _, rfl, z, rfl, zs, _, _, rfl, rfl, m, l2, _, (z.length : Int) + 1, rfl, M2, by omega, by omega, by omega, fun r5 l3 H3 a5 b5 M3 f3 => ?_⟩
      refine ⟨_, rfl, m, l3, _, 26, rfl, M3, by omega, by decide, by decide, fun r6 l4 H4 a6 b6 M4 f4 => ?_⟩
      refine ⟨(by show 6 ≤ sizeLine; decide), fun pL hL => ?_⟩
      have sL := Same.upd (o := .lst [.int 1, .int 3, .int 5, .int 7, .int 9, .int 11]) hL
      have nL := M4.ne hL
      refine ⟨_, rfl, m, l4, _, 6, rfl, M4.same sL, by omega, by decide, by decide, fun r7 l5 H5 a7 b7 M5 f5 => ?_⟩
      obtain ⟨b, hb, b1, b11⟩ : ∃ b : Int, atI ([.int 1, .int 3, .int 5, .int 7, .int 9, .int 11] : List V) r7 = some (.int b) ∧ 1 ≤ b ∧ b ≤ 11 := by
        obtain ⟨j, rfl⟩ : ∃ j : Nat, r7 = (j : Int) := ⟨r7.toNat, by omega⟩
        have hj : j < 6 := by omega
        match j, hj with
        | 0, _ => exact ⟨1, rfl, by decide, by decide⟩
        | 1, _ => exact ⟨3, rfl, by decide, by decide⟩
        | 2, _ => exact ⟨5, rfl, by decide, by decide⟩
        | 3, _ => exact ⟨7, rfl, by decide, by decide⟩
        | 4, _ => exact ⟨9, rfl, by decide, by decide⟩
        | 5, _ => exact ⟨11, rfl, by decide, by decide⟩
      refine ⟨pL, _, r7, .int b, rfl, rfl, SqL.of (f5.keep pL _ upd_same nL.1 nL.2), hb, (by show 3 ≤ sizeLine; decide), fun p3 h3 => ?_⟩
      have F5 : Fr m l l5 H H5 := f2.trans (f3.trans (f4.trans (Fr.lead sL f5)))
      refine ⟨p3, _, rfl, .inl (.inl upd_same), rfl, _, _, rfl, _, _, rfl, _, _, rfl, rfl, ?_⟩
      have s3 := Same.upd (o := .tup [.int r5, .int r6, .int b]) h3
      have M6 := M5.same s3
      have F6 := F5.junk (o := .tup [.int r5, .int r6, .int b]) h3
      obtain ⟨c6, hc6, cc6⟩ := alpha_at a6 b6
      refine ⟨_, rfl, _, rfl, _, rfl, alpha, r6, c6, rfl, rfl, alpha_len, hc6, _, 8, rfl, rfl, mul8_ok c6, z, _, rfl, rfl, ?_, 8, rfl, _, rfl, ?_, ?_⟩
      · rw [mul8]
        show z.length + 8 ≤ sizeLine
        exact Nat.le_of_lt (small1000 (by omega))
      · rw [mul8, Str.length_append]
        show z.length + 8 ≤ sizeLine
        exact Nat.le_of_lt (small1000 (by omega))
      obtain ⟨W, hW, eW⟩ : ∃ W, sOk 16 W ∧ W = cutS (z ++ Txt.mul { cps := #[c6] } 8) none (some 8) := ⟨_, by
        rw [mul8]
        exact (((hz.mono (show r0.toNat ≤ 7 by omega)).app (b := 8) ⟨by show 8 ≤ 8; decide, fun d hd => by simp at hd; rw [hd]; exact cc6⟩).mono (by decide)).cut _ _, rfl⟩
      rw [← eW]
      have Wl : W.length ≤ sizeLine := Nat.le_trans hW.1 (by decide)
      have ek : ((k : Int)).toNat = k := by omega
      refine ⟨_, rfl, _, _, rfl, rfl, _, rfl, ite2 (fun _ => ?_) (fun _ => ?_)⟩
      · refine ⟨_, rfl, (k : Int), rfl, by omega, by omega, fun D hD => ?_⟩
        have nD := M6.ne hD
        refine lc_range (lo := 0) (n := ((k : Int)).toNat) (fun i H9 => ∃ ys : List Str, ys.length = i ∧ (∀ y ∈ ys, sOk 16 y) ∧ H9 = upd _ D (.lst (ys.map V.str))) ⟨[], rfl, (fun y hy => nomatch hy), rfl⟩ ?_ ?_
        · rintro i H9 hi ⟨ys, yl, yo, e9⟩
          refine ⟨rfl, tyes ?_⟩
          refine ⟨_, rfl, _, _, rfl, rfl, _, rfl, ite2 (fun _ => ?_) (fun _ => ?_)⟩
          · refine ⟨_, rfl, _, rfl, _, rfl, _, rfl, Wl, _, by rw [e9]; exact upd_same, small1000 (by rw [List.length_map]; omega), _, (by rw [List.length_append, yl]; rfl), ?_, str_grow e9⟩
            intro y hy
            rcases List.mem_append.mp hy with hy | hy
            · exact yo y hy
            · rw [List.mem_singleton.mp hy]; exact hW.cut _ _
          · refine ⟨_, rfl, _, rfl, _, _, rfl, rfl, _, rfl, _, _, rfl, rfl, _, rfl, _, rfl, Wl, _, by rw [e9]; exact upd_same, small1000 (by rw [List.length_map]; omega), _, (by rw [List.length_append, yl]; rfl), ?_, str_grow e9⟩
            intro y hy
            rcases List.mem_append.mp hy with hy | hy
            · exact yo y hy
            · rw [List.mem_singleton.mp hy]; exact hW.cut _ _
        · rintro H9 ⟨ys, yl, yo, e9⟩
          have sD := Same.upd (o := .lst (ys.map V.str)) hD
          rw [e9]
          exact q D ys l5 _ (F6.free hD) upd_same (by omega) yo nD.1 nD.2 ((M6.same sD).mono (by omega)) (F6.junk hD)
      · refine ⟨_, rfl, (k : Int), rfl, by omega, by omega, fun D hD => ?_⟩
        have nD := M6.ne hD
        refine lc_range (lo := 0) (n := ((k : Int)).toNat) (fun i H9 => ∃ ys : List Str, ys.length = i ∧ (∀ y ∈ ys, sOk 16 y) ∧ H9 = upd _ D (.lst (ys.map V.str))) ⟨[], rfl, (fun y hy => nomatch hy), rfl⟩ ?_ ?_
        · rintro i H9 hi ⟨ys, yl, yo, e9⟩
          have hz7 : sOk 7 z := hz.mono (by omega)
          obtain ⟨c9, hc9, cc9⟩ := alpha_at (i := (r6 + b * (0 + (i : Int))) % 26) (Int.emod_nonneg _ (by decide)) (Int.emod_lt_of_pos _ (by decide))
          have p1 := (hz7.cut none (some r5))
          have p2 := (p1.app (sOk.sign cc9))
          have p3' := p2.app (hz7.cut (some r5) none)
          refine ⟨rfl, tyes ?_⟩
          refine ⟨_, rfl, _, rfl, _, rfl, _, rfl, zs, _, rfl, _, rfl, _, rfl, _, rfl, _, _, rfl, rfl, .inr ⟨by omega, by omega⟩, _, _, rfl, rfl, .inl ⟨_, rfl, _, _, rfl, rfl, (by show (0 : Int) < 26; decide), ?_⟩⟩
          refine ⟨alpha, _, c9, rfl, rfl, alpha_len, hc9, _, _, rfl, rfl, ?_, _, rfl, _, rfl, _, rfl, _, rfl, zs, _, _, rfl, rfl, ?_, _, by rw [e9]; exact upd_same, small1000 (by rw [List.length_map]; omega), _, (by rw [List.length_append, yl]; rfl), ?_, str_grow e9⟩
          · have := p1.1
            show _ + 1 ≤ sizeLine
            exact Nat.le_of_lt (small1000 (by omega))
          · have := p2.1
            have := (hz7.cut (some r5) none).1
            exact Nat.le_of_lt (small1000 (by omega))
          · intro y hy
            rcases List.mem_append.mp hy with hy | hy
            · exact yo y hy
            · rw [List.mem_singleton.mp hy]; exact p3'.mono (by decide)
        · rintro H9 ⟨ys, yl, yo, e9⟩
          have sD := Same.upd (o := .lst (ys.map V.str)) hD
          rw [e9]
          exact q D ys l5 _ (F6.free hD) upd_same (by omega) yo nD.1 nD.2 ((M6.same sD).mono (by omega)) (F6.junk hD)
end
end Ms
namespace Ms
open PySem PySem.Spec PyProof.Rows L2
/-! ### zip(list, tuple) over KE's draws -/
/-- the list at a, the tuple at b, the items in new pairs -/
def ItZM (K : PySem.W.Frag) (a b : Addr) : It :=
  ⟨fun i H => ∃ (xs ys : List V), SqL K H a xs ∧ SqT K H b ys ∧ i < xs.length ∧ i < ys.length,
    fun i H v H' => ∃ T x y, v = .ref T ∧ H T = none ∧ H' = upd H T (.tup [x, y]) ∧ (∀ xs, SqL K H a xs → xs[i]? = some x) ∧ ∀ ys, SqT K H b ys → ys[i]? = some y,
    fun i H => ∃ xs ys : List V, SqL K H a xs ∧ SqT K H b ys ∧ i ≤ xs.length ∧ i ≤ ys.length ∧ (i = xs.length ∨ i = ys.length)⟩
theorem walk_zm {K : PySem.W.Frag} {a b : Addr} {xs ys : List V} {n : Nat} (hn : n = min xs.length ys.length) : Walk (ItZM K a b) n (fun H => SqL K H a xs ∧ SqT K H b ys) (YPair (fun i => xs[i]?) (fun i => ys[i]?)) := by
  subst hn
  refine ⟨fun i _ hi q => ⟨xs, ys, q.1, q.2, by omega, by omega⟩, fun _ q => ⟨xs, ys, q.1, q.2, by omega, by omega, by omega⟩, fun i H v H' _ q y => ?_⟩
  obtain ⟨T, x, z, h1, h2, h3, h4, h5⟩ := y
  exact ⟨T, x, z, h1, h2, h3, h4 xs q.1, h5 ys q.2⟩
section
variable {a b z TI TO i1 i2 : Addr}
abbrev zmCells (z TI TO i1 i2 : Addr) : List Addr := [z, TI, TO, i1, i2]
abbrev ZmSt (a b z TI TO i1 i2 : Addr) : Nat → Heap → Prop := fun i h => IsZip h z TI TO .none ∧ IsTupOf2 h TI (.ref i1) (.ref i2) ∧ (∃ x y, IsTupOf2 h TO x y) ∧ h.IsListIter i1 a i ∧ h.IsTupleIter i2 b i
theorem zm_mem {c z TI TO i1 i2 : Addr} (h : c ∈ zmCells z TI TO i1 i2) : c = z ∨ c = TI ∨ c = TO ∨ c = i1 ∨ c = i2 := by simpa using h
theorem zm_there {i : Nat} {h : Heap} (st : ZmSt a b z TI TO i1 i2 i h) : ∀ c ∈ zmCells z TI TO i1 i2, ∃ o, h.get? c = some o ∧ ∀ v, o.data ≠ .cell v := fun c hc => by
  obtain ⟨hz, hTI, ⟨x, y, hTO⟩, ⟨o1, e1, _, d1⟩, ⟨o2, e2, _, d2⟩⟩ := st
  rcases zm_mem hc with rfl | rfl | rfl | rfl | rfl
  · exact ⟨_, hz, fun v q => nomatch q⟩
  · exact ⟨_, hTI, fun v q => nomatch q⟩
  · exact ⟨_, hTO, fun v q => nomatch q⟩
  · exact ⟨o1, e1, fun v q => by rw [d1] at q; cases q⟩
  · exact ⟨o2, e2, fun v q => by rw [d2] at q; cases q⟩
theorem turn_zm {P : Program} {w : World} {K : PySem.W.Frag} {elts : List Expr} {kk : Nat} {tpos : Pos} (S : ZipSep2 z TI TO i1 i2 [i1, a] [i2, b]) (na : a ≠ i1) (nb : b ≠ i2) :
    Turn P w K (.Tuple elts kk tpos) (ItZM K a b) (zmCells z TI TO i1 i2) z (ZmSt a b z TI TO i1 i2) where
  mem := by simp
  obj := fun i h st => zm_there st
  keep := fun i h h' st k => by
    obtain ⟨hz, hTI, ⟨x, y, hTO⟩, h1, h2⟩ := st
    exact ⟨k z (by simp) _ hz, k TI (by simp) _ hTI, ⟨x, y, k TO (by simp) _ hTO⟩, h1.at fun o q => k i1 (by simp) o q, h2.at fun o q => k i2 (by simp) o q⟩
  item := by
    intro X hP hw hK hc i pins s σ H E I hf st hg
    subst hP hw hK
    have live := zm_there st
    obtain ⟨hz, hTI, ⟨x0, y0, hTO⟩, h1, h2⟩ := st
    obtain ⟨xs, ys, hqx, hqy, hi1, hi2⟩ := hg
    obtain ⟨its, rv, p, _⟩ := I.list hqx
    obtain ⟨its2, rv2, p2, _⟩ := I.tuple hqy
    have l1 := rv.length
    have l2 := rv2.length
    have hh : X.A.in1.handled = none := I.ok.hd hc
    have fresh : ∀ c ∈ zmCells z TI TO i1 i2, c ≠ s.heap.objs.size := fun c hc => by
      obtain ⟨o, e, _⟩ := live c hc
      exact Nat.ne_of_lt (Heap.lt_size e)
    refine wpAny_pyNext_zipD2_item S (Draws.list hh i1 a na its.toArray) (Draws.tuple hh i2 b nb its2.toArray) hz hTI hTO ⟨h1, p.isList⟩ ⟨h2, p2⟩ (by simp; omega) (by simp; omega) fun u u2 h' tk hu hu2 z' TO' st1' st2' hT hsz hk => ?_
    refine ⟨_, rfl, wpAny_letOwnedTupleGo_zip (s := { s with heap := h', toks := tk }) z' fun h'' z'' sb => ?_⟩
    have hx : xs[i]? = some xs[i] := List.getElem?_eq_getElem hi1
    have hy : ys[i]? = some ys[i] := List.getElem?_eq_getElem hi2
    obtain ⟨v, hv, ru⟩ := rv.get hx
    obtain ⟨v2, hv2, ru2⟩ := rv2.get hy
    have e1 : u = v := by simp [hv] at hu; exact hu.symm
    have e2 : u2 = v2 := by simp [hv2] at hu2; exact hu2.symm
    subst e1 e2
    have zN := fresh z (by simp)
    have hT2 : h''.get? s.heap.objs.size = some { cls := .type "tuple", data := .seq #[u, u2] } := (sb.2 _ zN.symm).trans hT
    have new : ObjOk X.prog X.w (upd H s.heap.objs.size (.tup [xs[i], ys[i]])) h'' s.heap.objs.size (.tup [xs[i], ys[i]]) :=
      ⟨(by show 2 ≤ sizeLine; decide), [u, u2], .cons ru (.cons ru2 .nil), ⟨_, hT2, rfl, _, rfl⟩⟩
    have I1 : L2.Inv X pins σ (upd H s.heap.objs.size (.tup [xs[i], ys[i]])) { s with heap := h'', toks := tk } :=
      I.turnedNew (t' := tk) (ch := zmCells z TI TO i1 i2) (fun c o hb q => (sb.2 c fun e => hb (by simp [e])).trans (hk c o (fun e => hb (by simp [e])) (fun e => hb (by simp [e])) (fun e => hb (by simp [e])) (fun e => hb (by simp [e])) q)) hf (Nat.le_refl _) new
    refine ⟨.ref s.heap.objs.size, _, I1, rfl, ⟨_, xs[i], ys[i], rfl, I.hok.fresh (Nat.le_refl _), rfl, fun l hl => ?_, fun l hl => ?_⟩, ⟨z'', (sb.2 _ S.TIz).trans (hk _ _ S.TIz S.TITO S.TIi1 S.TIi2 hTI), ⟨_, _, (sb.2 _ S.TOz).trans TO'⟩, st1'.1.at fun o q => (sb.2 _ S.zi1.symm).trans q, st2'.1.at fun o q => (sb.2 _ S.zi2.symm).trans q⟩, fun c hcm => ?_⟩
    · rw [I.list_inj hl hqx]; exact hx
    · rw [I.tuple_inj hl hqy]; exact hy
    · rw [upd_ne (fresh c hcm)]
      exact (hf c hcm).1
  done := by
    intro X hP hw hK hc i pins s σ H E I hf st hg
    subst hP hw hK
    obtain ⟨hz, hTI, ⟨x0, y0, hTO⟩, h1, h2⟩ := st
    obtain ⟨xs, ys, hqx, hqy, hi1, hi2, hend⟩ := hg
    obtain ⟨its, rv, p, _⟩ := I.list hqx
    obtain ⟨its2, rv2, p2, _⟩ := I.tuple hqy
    have l1 := rv.length
    have l2 := rv2.length
    have hh : X.A.in1.handled = none := I.ok.hd hc
    exact wpAny_pyNext_zipD2_end S (Draws.list hh i1 a na its.toArray) (Draws.tuple hh i2 b nb its2.toArray) hz hTI hTO ⟨h1, p.isList⟩ ⟨h2, p2⟩ (by simp; omega) (by simp; omega) (by simp; omega) fun h' tk hk =>
      ⟨rfl, I.turnedL (t' := tk) (ch := zmCells z TI TO i1 i2) (fun c o hb q => hk c o (fun e => hb (by simp [e])) (fun e => hb (by simp [e])) (fun e => hb (by simp [e])) (fun e => hb (by simp [e])) q) hf⟩
  self := fun A i s Q E st h => wpAny_pyIter_zip st.1 h
end
/-- zip(list, tuple) -/
def iZM (K : PySem.W.Frag) (ta : TA) : TI := fun σ H R => ta σ H fun vs H1 => ∃ a b xs ys, vs = [.ref a, .ref b] ∧ SqL K H1 a xs ∧ SqT K H1 b ys ∧ R (ItZM K a b) H1
theorem pi_zm {X : Cx} {e e2 : Expr} {ta : TA} {p pos tpos : Pos} {elts : List Expr} {kk : Nat} (hg : Gl X "zip") (hm : X.mg "zip" = none) (ha : PA X [e, e2] ta)
    (hs : starEach [e, e2] X.env = (false, eval e X.env) :: starEach [e2] X.env := by rfl) (hpl : (backTo pos (starEach [e2] X.env)).any (·.1) = false := by rfl) :
    PI X (.Tuple elts kk tpos) (.Call (.Name "zip" p) [e, e2] [] pos) (iZM X.K ta) := by
  refine ⟨fun pins s σ H R I h => Call_ (ld_blt I hg hm PyProof.Rows.boot_zip (PyProof.Rows.callWith_type1 (thn (ha.run pos pins s σ H _ I h) fun us s1 ⟨vs, H1, I1, r1, q1⟩ => ?_) hs hpl))⟩
  obtain ⟨a, b, xs, ys, ex, hqx, hqy, q⟩ := q1
  subst ex
  cases r1 with
  | cons r rr =>
    cases rr with
    | cons r' rr =>
      cases rr
      cases r
      cases r'
      obtain ⟨its, rv, p1, _⟩ := I1.list hqx
      obtain ⟨its2, rv2, p2, _⟩ := I1.tuple hqy
      obtain ⟨o2, ho2, _⟩ := id p2
      have la := p1.lt
      have lb : b < s1.heap.objs.size := Heap.lt_size ho2
      have fp : ∀ c ∈ zmCells (s1.heap.objs.size + 4) (s1.heap.objs.size + 2) (s1.heap.objs.size + 3) s1.heap.objs.size (s1.heap.objs.size + 1), FpOk X pins H1 c := fun c hcm => by
        have hle : s1.heap.objs.size ≤ c := by
          rcases zm_mem hcm with q | q | q | q | q
          · rw [q]; exact Nat.le_add_right _ _
          · rw [q]; exact Nat.le_add_right _ _
          · rw [q]; exact Nat.le_add_right _ _
          · rw [q]; exact Nat.le_refl _
          · rw [q]; exact Nat.le_add_right _ _
        exact I1.fpOk hle (I1.hok.fresh hle)
      have S : ZipSep2 (s1.heap.objs.size + 4) (s1.heap.objs.size + 2) (s1.heap.objs.size + 3) s1.heap.objs.size (s1.heap.objs.size + 1) [s1.heap.objs.size, a] [s1.heap.objs.size + 1, b] :=
        zip_sep2 (fun c h => by rw [List.mem_singleton.mp h]; exact la) (fun c h => by rw [List.mem_singleton.mp h]; exact lb)
      have nb : b ≠ s1.heap.objs.size + 1 := Nat.ne_of_lt (Nat.lt_succ_of_lt lb)
      have T := turn_zm (P := X.prog) (w := X.w) (K := X.K) (elts := elts) (kk := kk) (tpos := tpos) S (Nat.ne_of_lt la) nb
      refine zip_begins2 (begins_list a its.toArray) (begins_tuple b its2.toArray) p1.isList p2 fun h' hz hTI hTO h1 h2 hsz hk => wpAny_pyIter_zip hz ?_
      have I2 : L2.Inv X pins σ H1 { s1 with heap := h' } := I1.kept (t' := s1.toks) hk
      exact ⟨s1.heap.objs.size + 4, zmCells (s1.heap.objs.size + 4) (s1.heap.objs.size + 2) (s1.heap.objs.size + 3) s1.heap.objs.size (s1.heap.objs.size + 1), _, ItZM X.K a b, H1, rfl, I2, T,
        ⟨hz, hTI, ⟨_, _, hTO⟩, ⟨_, h1, rfl, rfl⟩, ⟨_, h2, rfl, rfl⟩⟩, fp, q⟩
end Ms
namespace Ms
open PySem PySem.Spec PyProof.Rows L2
/-! ### _law_settings -/
/-- pairs of a text and an int, each a tuple of its own -/
inductive Prs (H : Hp) : List Addr → List (Str × Int) → Prop
  | nil : Prs H [] []
  | cons {a : Addr} {as : List Addr} {y : Str} {k : Int} {ys : List (Str × Int)} : H a = some (.tup [.str y, .int k]) → Prs H as ys → Prs H (a :: as) ((y, k) :: ys)
theorem Prs.same {H H' : Hp} {as : List Addr} {ys : List (Str × Int)} (s : ∀ b o, b ∈ as → H b = some o → H' b = some o) (p : Prs H as ys) : Prs H' as ys := by
  induction p with
  | nil => exact .nil
  | cons h _ ih => exact .cons (s _ _ (List.mem_cons_self ..) h) (ih fun b o hb => s b o (List.mem_cons_of_mem _ hb))
theorem Prs.snoc {H : Hp} {as : List Addr} {ys : List (Str × Int)} {a : Addr} {y : Str} {k : Int} (p : Prs H as ys) (h : H a = some (.tup [.str y, .int k])) : Prs H (as ++ [a]) (ys ++ [(y, k)]) := by
  induction p with
  | nil => exact .cons h .nil
  | cons h' _ ih => exact .cons h' ih
theorem Prs.length {H : Hp} {as : List Addr} {ys : List (Str × Int)} (p : Prs H as ys) : as.length = ys.length := by
  induction p with
  | nil => rfl
  | cons _ _ ih => simp [ih]
theorem Prs.live {H : Hp} {as : List Addr} {ys : List (Str × Int)} (p : Prs H as ys) : ∀ a ∈ as, ∃ y k, H a = some (.tup [.str y, .int k]) := by
  induction p with
  | nil => intro a h; cases h
  | cons h' _ ih =>
    intro b hb
    rcases List.mem_cons.mp hb with rfl | hb
    · exact ⟨_, _, h'⟩
    · exact ih b hb
theorem Prs.get {H : Hp} {as : List Addr} {ys : List (Str × Int)} (p : Prs H as ys) : ∀ {i : Nat} {a : Addr}, as[i]? = some a → ∃ y k, ys[i]? = some (y, k) ∧ H a = some (.tup [.str y, .int k]) := by
  induction p with
  | nil => intro i a h; simp at h
  | cons h' _ ih =>
    intro i b hb
    cases i with
    | zero => simp at hb; subst hb; exact ⟨_, _, rfl, h'⟩
    | succ i => exact ih (by simpa using hb)
/-- the data of such pairs -/
def prD (ys : List (Str × Int)) : List PyData := ys.map fun q => .tuple [.str q.1, .int q.2]
theorem Prs.dq {K : PySem.W.Frag} {H : Hp} {m l : Addr} {as : List Addr} {ys : List (Str × Int)} (p : Prs H as ys) : DqAll K H m l (as.map V.ref) (prD ys) := by
  induction p with
  | nil => exact .nil
  | cons h _ ih => exact .cons (.tup (.inl (.inl h)) (.cons (.str _) (.cons (.int _) .nil))) ih
theorem Fr.trail {m l l' : Addr} {H H1 H2 : Hp} (f : Fr m l l' H H1) (s : Same H1 H2) : Fr m l l' H H2 :=
  ⟨fun b o e h1 h2 => s _ _ (f.keep b o e h1 h2), f.new, fun b h => by
    cases q : H1 b with
    | none => exact absurd q (f.dom b h)
    | some o => rw [s _ _ q]; exact fun z => nomatch z⟩
/-- how often each may stand: one to three small ints -/
def Mo (H : Hp) (a : Addr) : Prop := ∃ ms : List Int, H a = some (.tup (ms.map V.int)) ∧ 1 ≤ ms.length ∧ ms.length ≤ 3 ∧ ∀ x ∈ ms, 1 ≤ x ∧ x ≤ 3
theorem Mo.same {H H' : Hp} {a : Addr} (s : Same H H') (h : Mo H a) : Mo H' a := by
  obtain ⟨ms, e, r⟩ := h
  exact ⟨ms, s _ _ e, r⟩
section
variable {P : Program} {w : World} {K : PySem.W.Frag} {mg : Str → Option Value} {base : Heap} {fN fM : Addr}
structure TxtS (mg : Str → Option Value) (fN fM : Addr) : Prop extends TxtN mg fN where
  names : mg "_law_names" = some (.ref fM)
abbrev NS : List Str := ["m", "mosts", "some", "name", "most"]
theorem scSt : FnScope NS ["m"] (defScope sSettings) := ⟨rfl, rfl, rfl, by decide +kernel, rfl, by decide +kernel, by decide +kernel⟩
/-- good pairs: names of at most 16 signs, small numbers -/
def okP (ys : List (Str × Int)) : Prop := ∀ q ∈ ys, sOk 16 q.1 ∧ 1 ≤ q.2 ∧ q.2 ≤ 3
def spSettings : Sp := fun vs H Q _ => ∃ (m l : Addr) (n : Nat), vs = [.ref m] ∧ Mch H m l n ∧ n < 800000 ∧
  ∀ (p : Addr) (as : List Addr) (ys : List (Str × Int)) (l' : Addr) (H' : Hp), H' p = some (.tup (as.map V.ref)) → Prs H' as ys → 1 ≤ ys.length → ys.length ≤ 3 → okP ys → Mch H' m l' (n + 12) → Fr m l l' H H' → Q (.ref p) H'
theorem ok_settings {f : Addr} {fd fdN fdM : FuncData} (F : Fun K "_law_settings" "_law_settings" sSettings f fd) (T : TxtS mg fN fM) (FN : Fun K "_law_next" "_law_next" sNext fN fdN) (bN : Binds K fdN ["m", "many"] [])
    (FM : Fun K "_law_names" "_law_names" sNames fM fdM) (bM : Binds K fdM ["m", "many"] []) : FnOk P w K mg base CX0 3 f fd ["m"] spSettings := by
  have GN : FnOk P w K mg base CX0 2 fN fdN ["m", "many"] spNext := (ok_next FN T.toTxt).mono (by decide)
  have GM : FnOk P w K mg base CX0 2 fM fdM ["m", "many"] spNames := ok_names FM T.toTxtN FN bN
  refine F.ok scSt (fun vs H Q E h => ?_) (fun cdv A outer s H vs Q E hr h => ?_)
  · obtain ⟨m, l, n, rfl, _⟩ := h
    rfl
  · obtain ⟨m, l, n, rfl, M, hn, q⟩ := h
    refine ⟨_, pss_cons (ps_set (i := 1) scSt.nd rfl (by first | exact Or.inl rfl | exact Or.inr rfl) (pe_lst (pa_cons (pe_tup (pa_cons pe_int pa_nil)) (pa_cons (pe_tup (pa_cons pe_int pa_nil)) (pa_cons (pe_tup (pa_cons pe_int pa_nil)) (pa_cons (pe_tup (pa_cons pe_int (pa_cons pe_int pa_nil))) (pa_cons (pe_tup (pa_cons pe_int (pa_cons pe_int pa_nil))) (pa_cons (pe_tup (pa_cons pe_int (pa_cons pe_int pa_nil))) (pa_cons (pe_tup (pa_cons pe_int (pa_cons pe_int pa_nil))) (pa_cons (pe_tup (pa_cons pe_int (pa_cons pe_int pa_nil))) (pa_cons (pe_tup (pa_cons pe_int (pa_cons pe_int pa_nil))) (pa_cons (pe_tup (pa_cons pe_int (pa_cons pe_int (pa_cons pe_int pa_nil)))) (pa_cons (pe_tup (pa_cons pe_int (pa_cons pe_int (pa_cons pe_int pa_nil)))) (pa_cons (pe_tup (pa_cons pe_int (pa_cons pe_int (pa_cons pe_int pa_nil)))) pa_nil))))))))))))))
      (pss_cons (ps_set (i := 2) scSt.nd rfl (by first | exact Or.inl rfl | exact Or.inr rfl) (pe_ix ix_list (pv 1) (pe_call GN hr rfl T.next FN.kp bN .nil pass0 (pa_cons (pv 0) (pa_cons pe_int pa_nil))) (fun _ _ => rfl)))
      (pss_one (ps_ret (pe_callTy call_tuple_of (by rfl) T.tuple (by decide +kernel) (pa_cons (pe_lc (own := [("name", 3), ("most", 4)]) (g := gTup K 2 (gCons (gName 3) (gCons (gName 4) gNil))) (by rfl) scSt.nd
        (pi_zm (by rfl) T.zip (pa_cons (pe_call GM hr rfl T.names FM.kp bM .nil pass0 (pa_cons (pv 0) (pa_cons (pe_callB call_len (by rfl) T.len PySem.boot_len (pa_cons (pv 2) pa_nil)) pa_nil))) (pa_cons (pv 2) pa_nil)))
        (blkOk_by (own := [("name", 3), ("most", 4)]) (N := NS) (sc := defScope sSettings) (by decide +kernel))
        (fun _ _ _ _ _ => pg_tup rfl (pgs_cons (pg_name (i := 3) scSt.nd rfl (Or.inl rfl)) (pgs_cons (pg_name (i := 4) scSt.nd rfl (Or.inl rfl)) pgs_nil))) (fun _ _ _ _ _ => pts_nil)
        (fun _ _ _ _ _ => pe_tup (pa_cons (pv 3) (pa_cons (pv 4) pa_nil)))) pa_nil))))), ?_⟩
    refine ⟨(by show 1 ≤ sizeLine; decide), fun p1 h1 => ?_⟩
    obtain ⟨G1, e1⟩ : ∃ G, G = upd H p1 (.tup [.int 1]) := ⟨_, rfl⟩
    rw [← e1]
    have s1 : Same H G1 := e1 ▸ Same.upd h1
    have M1 := M.same s1
    have f1 : Fr m l l H G1 := e1 ▸ (Fr.refl M).junk h1
    have a1_1 : Mo G1 p1 := ⟨[1], by rw [e1, upd_same]; rfl, by decide, by decide, by decide⟩
    refine ⟨(by show 1 ≤ sizeLine; decide), fun p2 h2 => ?_⟩
    obtain ⟨G2, e2⟩ : ∃ G, G = upd G1 p2 (.tup [.int 2]) := ⟨_, rfl⟩
    rw [← e2]
    have s2 : Same G1 G2 := e2 ▸ Same.upd h2
    have M2 := M1.same s2
    have f2 : Fr m l l H G2 := e2 ▸ f1.junk h2
    have a2_2 : Mo G2 p2 := ⟨[2], by rw [e2, upd_same]; rfl, by decide, by decide, by decide⟩
    have a1_2 := a1_1.same s2
    refine ⟨(by show 1 ≤ sizeLine; decide), fun p3 h3 => ?_⟩
    obtain ⟨G3, e3⟩ : ∃ G, G = upd G2 p3 (.tup [.int 3]) := ⟨_, rfl⟩
    rw [← e3]
    have s3 : Same G2 G3 := e3 ▸ Same.upd h3
    have M3 := M2.same s3
    have f3 : Fr m l l H G3 := e3 ▸ f2.junk h3
    have a3_3 : Mo G3 p3 := ⟨[3], by rw [e3, upd_same]; rfl, by decide, by decide, by decide⟩
    have a1_3 := a1_2.same s3
    have a2_3 := a2_2.same s3
    refine ⟨(by show 2 ≤ sizeLine; decide), fun p4 h4 => ?_⟩
    obtain ⟨G4, e4⟩ : ∃ G, G = upd G3 p4 (.tup [.int 1, .int 1]) := ⟨_, rfl⟩
    rw [← e4]
    have s4 : Same G3 G4 := e4 ▸ Same.upd h4
    have M4 := M3.same s4
    have f4 : Fr m l l H G4 := e4 ▸ f3.junk h4
    have a4_4 : Mo G4 p4 := ⟨[1, 1], by rw [e4, upd_same]; rfl, by decide, by decide, by decide⟩
    have a1_4 := a1_3.same s4
    have a2_4 := a2_3.same s4
    have a3_4 := a3_3.same s4
    refine ⟨(by show 2 ≤ sizeLine; decide), fun p5 h5 => ?_⟩
    obtain ⟨G5, e5⟩ : ∃ G, G = upd G4 p5 (.tup [.int 1, .int 2]) := ⟨_, rfl⟩
    rw [← e5]
    have s5 : Same G4 G5 := e5 ▸ Same.upd h5
    have M5 := M4.same s5
    have f5 : Fr m l l H G5 := e5 ▸ f4.junk h5
    have a5_5 : Mo G5 p5 := ⟨[1, 2], by rw [e5, upd_same]; rfl, by decide, by decide, by decide⟩
    have a1_5 := a1_4.same s5
    have a2_5 := a2_4.same s5
    have a3_5 := a3_4.same s5
    have a4_5 := a4_4.same s5
    refine ⟨(by show 2 ≤ sizeLine; decide), fun p6 h6 => ?_⟩
    obtain ⟨G6, e6⟩ : ∃ G, G = upd G5 p6 (.tup [.int 2, .int 1]) := ⟨_, rfl⟩
    rw [← e6]
    have s6 : Same G5 G6 := e6 ▸ Same.upd h6
    have M6 := M5.same s6
    have f6 : Fr m l l H G6 := e6 ▸ f5.junk h6
    have a6_6 : Mo G6 p6 := ⟨[2, 1], by rw [e6, upd_same]; rfl, by decide, by decide, by decide⟩
    have a1_6 := a1_5.same s6
    have a2_6 := a2_5.same s6
    have a3_6 := a3_5.same s6
    have a4_6 := a4_5.same s6
    have a5_6 := a5_5.same s6
    refine ⟨(by show 2 ≤ sizeLine; decide), fun p7 h7 => ?_⟩
    obtain ⟨G7, e7⟩ : ∃ G, G = upd G6 p7 (.tup [.int 2, .int 2]) := ⟨_, rfl⟩
    rw [← e7]
    have s7 : Same G6 G7 := e7 ▸ Same.upd h7
    have M7 := M6.same s7
    have f7 : Fr m l l H G7 := e7 ▸ f6.junk h7
    have a7_7 : Mo G7 p7 := ⟨[2, 2], by rw [e7, upd_same]; rfl, by decide, by decide, by decide⟩
    have a1_7 := a1_6.same s7
    have a2_7 := a2_6.same s7
    have a3_7 := a3_6.same s7
    have a4_7 := a4_6.same s7
    have a5_7 := a5_6.same s7
    have a6_7 := a6_6.same s7
    refine ⟨(by show 2 ≤ sizeLine; decide), fun p8 h8 => ?_⟩
    obtain ⟨G8, e8⟩ : ∃ G, G = upd G7 p8 (.tup [.int 1, .int 3]) := ⟨_, rfl⟩
    rw [← e8]
    have s8 : Same G7 G8 := e8 ▸ Same.upd h8
    have M8 := M7.same s8
    have f8 : Fr m l l H G8 := e8 ▸ f7.junk h8
    have a8_8 : Mo G8 p8 := ⟨[1, 3], by rw [e8, upd_same]; rfl, by decide, by decide, by decide⟩
    have a1_8 := a1_7.same s8
    have a2_8 := a2_7.same s8
    have a3_8 := a3_7.same s8
    have a4_8 := a4_7.same s8
    have a5_8 := a5_7.same s8
    have a6_8 := a6_7.same s8
    have a7_8 := a7_7.same s8
    refine ⟨(by show 2 ≤ sizeLine; decide), fun p9 h9 => ?_⟩
    obtain ⟨G9, e9⟩ : ∃ G, G = upd G8 p9 (.tup [.int 3, .int 2]) := ⟨_, rfl⟩
    rw [← e9]
    have s9 : Same G8 G9 := e9 ▸ Same.upd h9
    have M9 := M8.same s9
    have f9 : Fr m l l H G9 := e9 ▸ f8.junk h9
    have a9_9 : Mo G9 p9 := ⟨[3, 2], by rw [e9, upd_same]; rfl, by decide, by decide, by decide⟩
    have a1_9 := a1_8.same s9
    have a2_9 := a2_8.same s9
    have a3_9 := a3_8.same s9
    have a4_9 := a4_8.same s9
    have a5_9 := a5_8.same s9
    have a6_9 := a6_8.same s9
    have a7_9 := a7_8.same s9
    have a8_9 := a8_8.same s9
    refine ⟨(by show 3 ≤ sizeLine; decide), fun p10 h10 => ?_⟩
    obtain ⟨G10, e10⟩ : ∃ G, G = upd G9 p10 (.tup [.int 1, .int 1, .int 1]) := ⟨_, rfl⟩
    rw [← e10]
    have s10 : Same G9 G10 := e10 ▸ Same.upd h10
    have M10 := M9.same s10
    have f10 : Fr m l l H G10 := e10 ▸ f9.junk h10
    have a10_10 : Mo G10 p10 := ⟨[1, 1, 1], by rw [e10, upd_same]; rfl, by decide, by decide, by decide⟩
    have a1_10 := a1_9.same s10
    have a2_10 := a2_9.same s10
    have a3_10 := a3_9.same s10
    have a4_10 := a4_9.same s10
    have a5_10 := a5_9.same s10
    have a6_10 := a6_9.same s10
    have a7_10 := a7_9.same s10
    have a8_10 := a8_9.same s10
    have a9_10 := a9_9.same s10
    refine ⟨(by show 3 ≤ sizeLine; decide), fun p11 h11 => ?_⟩
    obtain ⟨G11, e11⟩ : ∃ G, G = upd G10 p11 (.tup [.int 1, .int 2, .int 1]) := ⟨_, rfl⟩
    rw [← e11]
    have s11 : Same G10 G11 := e11 ▸ Same.upd h11
    have M11 := M10.same s11
    have f11 : Fr m l l H G11 := e11 ▸ f10.junk h11
    have a11_11 : Mo G11 p11 := ⟨[1, 2, 1], by rw [e11, upd_same]; rfl, by decide, by decide, by decide⟩
    have a1_11 := a1_10.same s11
    have a2_11 := a2_10.same s11
    have a3_11 := a3_10.same s11
    have a4_11 := a4_10.same s11
    have a5_11 := a5_10.same s11
    have a6_11 := a6_10.same s11
    have a7_11 := a7_10.same s11
    have a8_11 := a8_10.same s11
    have a9_11 := a9_10.same s11
    have a10_11 := a10_10.same s11
    refine ⟨(by show 3 ≤ sizeLine; decide), fun p12 h12 => ?_⟩
    obtain ⟨G12, e12⟩ : ∃ G, G = upd G11 p12 (.tup [.int 1, .int 1, .int 2]) := ⟨_, rfl⟩
    rw [← e12]
    have s12 : Same G11 G12 := e12 ▸ Same.upd h12
    have M12 := M11.same s12
    have f12 : Fr m l l H G12 := e12 ▸ f11.junk h12
    have a12_12 : Mo G12 p12 := ⟨[1, 1, 2], by rw [e12, upd_same]; rfl, by decide, by decide, by decide⟩
    have a1_12 := a1_11.same s12
    have a2_12 := a2_11.same s12
    have a3_12 := a3_11.same s12
    have a4_12 := a4_11.same s12
    have a5_12 := a5_11.same s12
    have a6_12 := a6_11.same s12
    have a7_12 := a7_11.same s12
    have a8_12 := a8_11.same s12
    have a9_12 := a9_11.same s12
    have a10_12 := a10_11.same s12
    have a11_12 := a11_11.same s12
    refine ⟨(by show 12 ≤ sizeLine; decide), fun D hD => ?_⟩
    obtain ⟨G, eG⟩ : ∃ G, G = upd G12 D (.lst [.ref p1, .ref p2, .ref p3, .ref p4, .ref p5, .ref p6, .ref p7, .ref p8, .ref p9, .ref p10, .ref p11, .ref p12]) := ⟨_, rfl⟩
    rw [← eG]
    have sG : Same G12 G := eG ▸ Same.upd hD
    have nD := M12.ne hD
    have MG := M12.same sG
    have fG : Fr m l l H G := eG ▸ f12.junk hD
    have gD : G D = some (.lst [.ref p1, .ref p2, .ref p3, .ref p4, .ref p5, .ref p6, .ref p7, .ref p8, .ref p9, .ref p10, .ref p11, .ref p12]) := by rw [eG, upd_same]
    have pick : ∀ r : Int, 0 ≤ r → r < 12 → ∃ a, atI ([.ref p1, .ref p2, .ref p3, .ref p4, .ref p5, .ref p6, .ref p7, .ref p8, .ref p9, .ref p10, .ref p11, .ref p12] : List V) r = some (.ref a) ∧ Mo G a := by
      intro r h0 h1
      obtain ⟨j, rfl⟩ : ∃ j : Nat, r = (j : Int) := ⟨r.toNat, by omega⟩
      have hj : j < 12 := by omega
      match j, hj with
      | 0, _ => exact ⟨p1, rfl, a1_12.same sG⟩
      | 1, _ => exact ⟨p2, rfl, a2_12.same sG⟩
      | 2, _ => exact ⟨p3, rfl, a3_12.same sG⟩
      | 3, _ => exact ⟨p4, rfl, a4_12.same sG⟩
      | 4, _ => exact ⟨p5, rfl, a5_12.same sG⟩
      | 5, _ => exact ⟨p6, rfl, a6_12.same sG⟩
      | 6, _ => exact ⟨p7, rfl, a7_12.same sG⟩
      | 7, _ => exact ⟨p8, rfl, a8_12.same sG⟩
      | 8, _ => exact ⟨p9, rfl, a9_12.same sG⟩
      | 9, _ => exact ⟨p10, rfl, a10_12.same sG⟩
      | 10, _ => exact ⟨p11, rfl, a11_12.same sG⟩
      | 11, _ => exact ⟨p12, rfl, a12_12.same sG⟩
    clear e1 s1 M1 f1 e2 s2 M2 f2 e3 s3 M3 f3 e4 s4 M4 f4 e5 s5 M5 f5 e6 s6 M6 f6 e7 s7 M7 f7 e8 s8 M8 f8 e9 s9 M9 f9 e10 s10 M10 f10 e11 s11 M11 f11 a1_1 a1_2 a2_2 a1_3 a2_3 a3_3 a1_4 a2_4 a3_4 a4_4 a1_5 a2_5 a3_5 a4_5 a5_5 a1_6 a2_6 a3_6 a4_6 a5_6 a6_6 a1_7 a2_7 a3_7 a4_7 a5_7 a6_7 a7_7 a1_8 a2_8 a3_8 a4_8 a5_8 a6_8 a7_8 a8_8 a1_9 a2_9 a3_9 a4_9 a5_9 a6_9 a7_9 a8_9 a9_9 a1_10 a2_10 a3_10 a4_10 a5_10 a6_10 a7_10 a8_10 a9_10 a10_10 a1_11 a2_11 a3_11 a4_11 a5_11 a6_11 a7_11 a8_11 a9_11 a10_11 a11_11 a1_12 a2_12 a3_12 a4_12 a5_12 a6_12 a7_12 a8_12 a9_12 a10_12 a11_12 a12_12
    refine ⟨_, rfl, _, rfl, m, l, n, 12, rfl, MG, by omega, by decide, by decide, fun r l1 H1 r0 r1 M1 f1' => ?_⟩
    obtain ⟨a, ha, mo⟩ := pick r r0 r1
    refine ⟨D, _, r, .ref a, rfl, rfl, SqL.of (f1'.keep D _ gD nD.1 nD.2), ha, ?_⟩
    obtain ⟨ms, hms, ml1, ml3, msok⟩ := mo
    have am : a ≠ m ∧ a ≠ l := by
      obtain ⟨c, cs, ls, z, dm, dc, dl, _⟩ := MG.ex
      exact ⟨ne_of hms dm (by intro q; cases q), ne_of hms dl (by intro q; cases q)⟩
    have ka : H1 a = some (.tup (ms.map V.int)) := f1'.keep a _ hms am.1 am.2
    have F1 : Fr m l l1 H H1 := fG.trans f1'
    clear pick gD eG sG MG fG hD e12 s12 M12 f12 h12 h11 h10 h9 h8 h7 h6 h5 h4 h3 h2 h1 ha f1' hms
    have lenA : ((ms.map V.int).length : Nat) = ms.length := List.length_map ..
    refine ⟨_, rfl, _, rfl, _, _, rfl, .inr ⟨_, SqT.of ka, rfl⟩, ?_⟩
    refine ⟨m, l1, n + 1, (ms.map V.int).length, rfl, M1, by omega, by omega, by omega, fun N ys l2 H2 hN gN yl yo nm nl M2 f2 => ?_⟩
    have F2 := F1.trans f2
    have ka2 : H2 a = some (.tup (ms.map V.int)) := f2.keep a _ ka am.1 (by
      obtain ⟨c, cs, ls, z, dm, dc, dl, _⟩ := M1.ex
      exact ne_of ka dl (by intro q; cases q))
    refine ⟨_, rfl, N, a, _, _, rfl, SqL.of gN, .inl (.inl ka2), fun D2 hD2 => ?_⟩
    have yl' : ys.length = ms.length := yl.trans lenA
    refine lc_it (walk_zm (xs := ys.map V.str) (ys := ms.map V.int) (n := ms.length) (by simp [yl'])) (fun i H3 => ∃ as : List Addr, as.length = i ∧ Prs H3 as ((ys.zip ms).take i) ∧ (∀ b ∈ as, b ≠ D2) ∧ H3 D2 = some (.lst (as.map V.ref)) ∧ Same H2 H3)
      ⟨[], rfl, .nil, (fun _ hb => nomatch hb), upd_same, Same.upd hD2⟩ (fun i H3 _ ⟨as, _, _, _, _, s3⟩ => ⟨SqL.of (s3 _ _ gN), SqT.of (s3 _ _ ka2)⟩) ?_ ?_
    · rintro i x H3 H4 hi ⟨as, al, pr, nd, gd, s3⟩ ⟨T, x1, x2, rfl, hT, rfl, e1, e2⟩
      have hy : i < ys.length := by omega
      have e1' : x1 = .str ys[i] := by simp [hy] at e1; exact e1.symm
      have e2' : x2 = .int ms[i] := by simp [hi] at e2; exact e2.symm
      subst e1' e2'
      refine ⟨T, _, rfl, .inl (.inl upd_same), rfl, _, _, rfl, _, _, rfl, rfl, rfl, tyes ?_⟩
      refine ⟨_, rfl, _, rfl, (by show 2 ≤ sizeLine; decide), fun p hp => ?_⟩
      have sT : Same H3 (upd H3 T (.tup [.str ys[i], .int ms[i]])) := Same.upd hT
      have sp : Same (upd H3 T (.tup [.str ys[i], .int ms[i]])) (upd (upd H3 T (.tup [.str ys[i], .int ms[i]])) p (.tup [.str ys[i], .int ms[i]])) := Same.upd hp
      have nDp : p ≠ D2 := fun e => by rw [e, sT _ _ gd] at hp; cases hp
      refine ⟨_, sp _ _ (sT _ _ gd), small1000 (by rw [List.length_map]; omega), as ++ [p], by simp [al], ?_, ?_, ?_, ?_⟩
      · rw [List.take_succ]
        have ez : (ys.zip ms)[i]? = some (ys[i], ms[i]) := by rw [List.getElem?_zip_eq_some]; exact ⟨List.getElem?_eq_getElem hy, List.getElem?_eq_getElem hi⟩
        rw [ez]
        refine Prs.snoc (Prs.same (fun b o hb e => ?_) pr) ?_
        · rw [upd_ne (nd b hb)]; exact sp _ _ (sT _ _ e)
        · rw [upd_ne nDp, upd_same]
      · intro b hb
        rcases List.mem_append.mp hb with hb | hb
        · exact nd b hb
        · rw [List.mem_singleton.mp hb]; exact nDp
      · rw [upd_same, List.map_append]; rfl
      · intro b o e
        have nb : b ≠ D2 := ne_of_none e hD2
        rw [upd_ne nb]; exact sp _ _ (sT _ _ (s3 _ _ e))
    · rintro H3 ⟨as, al, pr, nd, gd, s3⟩
      have lz : (ys.zip ms).length = ms.length := by simp [yl']
      rw [List.take_of_length_le (by omega)] at pr
      refine ⟨D2, _, rfl, .inl ⟨SqL.of gd, fun p hp => ?_⟩⟩
      have sp : Same H3 (upd H3 p (.tup (as.map V.ref))) := Same.upd hp
      refine q p as (ys.zip ms) l2 _ upd_same (pr.same fun b o _ e => sp b o e) (by omega) (by omega) (fun y hy => ?_) ((((M2.same s3).same sp)).mono (by omega)) ((F2.trail s3).trail sp)
      have := List.of_mem_zip hy
      exact ⟨yo _ this.1, msok _ this.2⟩
end
end Ms
namespace Ms
open PySem PySem.Spec PyProof.Rows L2
abbrev big : Nat := 10 ^ 30
def gdB (B a b : Nat) (d : PyData) : Bool := okD B d && (decide (d.weight ≤ a) && decide (d.depth ≤ b))
theorem gd_of {B a b : Nat} {d : PyData} (h : gdB B a b d = true) : Gd B a b d := by
  unfold gdB at h
  simp only [Bool.and_eq_true, decide_eq_true_eq] at h
  exact ⟨h.1, h.2.1, h.2.2⟩
end Ms
namespace Ms
open PySem PySem.Spec PyProof.Rows L2
/-! ### two rules over tuples -/
/-- t == (), whatever the items are -/
theorem op_eq_nil {X : Cx} (hu : X.A.units + 64 < cLine) : OpR X (compareOp .Eq) (fun x y H Q => ∃ a b xs, x = .ref a ∧ y = .ref b ∧ SqT X.K H a xs ∧ SqT X.K H b [] ∧ Q (.bl (xs.length == 0)) H) := by
  intro pins s σ H x y v u Q I rx ry h
  obtain ⟨a, b, xs, rfl, rfl, ha, hb, q⟩ := h
  cases rx
  cases ry
  obtain ⟨its, r1, p1, _⟩ := I.tuple ha
  obtain ⟨its2, r2, p2, _⟩ := I.tuple hb
  cases r2
  have hl := r1.length
  refine SeqAt.eq_tupleAt (e := fun _ => true) p1 p2 (by omega) (fun j h1 h2 => by simp at h2) ?_
  refine ⟨.bl _, H, I, rfl, ?_⟩
  have e : ((List.range (min its.toArray.size ([] : List Value).toArray.size)).all (fun _ => true) && its.toArray.size == ([] : List Value).toArray.size) = (xs.length == 0) := by
    rw [hl]; simp
  rw [e]; exact q
section
variable {prog : Program} {w : World} {A : Around} {E : Value → Shared → Prop} {s : Shared}
theorem places_rev (n : Nat) : Builtin.Slice.slicePlaces ((n : Int) - 1) (-1) (-1) = n := by
  unfold Builtin.Slice.slicePlaces
  have h1 : ¬ ((-1 : Int) > 0) := by decide
  have h2 : (- -1 : Int) = 1 := by decide
  simp only [h1, if_false, h2, Int.ediv_one]
  split <;> omega
theorem applied_rev {sl : Addr} {vs : Value} {n : Nat} {Q : Int × Int × Nat → Shared → Prop} (hs : s.heap.IsSliceOf sl .none .none vs) (ps : IsPart vs (some (-1)))
    (h : Q ((n : Int) - 1, -1, n) s) : wpAny (model prog w) A (Builtin.Slice.sliceApplied (.ref sl) (pure (n : Int))) Q E s := by
  obtain ⟨os, hos, hcs, hds⟩ := id hs
  unfold Builtin.Slice.sliceApplied Builtin.Slice.sliceFields
  refine wpAny_bind (wpAny_bind (wpAny_field hos hds (x := .none) rfl (wpAny_bind (wpAny_field hos hds (x := .none) rfl (wpAny_bind (wpAny_field hos hds (x := vs) rfl (wpAny_pure ?_)))))))
  refine wpAny_bind (HT.slicePart_ ps ?_)
  show wpAny _ _ (if ((-1 : Int) == 0) = true then _ else _) _ _ s
  rw [if_neg (by decide)]
  refine wpAny_bind (HT.slicePart_ .none (wpAny_bind (HT.slicePart_ .none (wpAny_bind (wpAny_pure ?_)))))
  show wpAny _ _ (pure ((n : Int) - 1, (-1 : Int), Builtin.Slice.slicePlaces ((n : Int) - 1) (-1) (-1))) _ _ s
  rw [places_rev]
  exact wpAny_pure h
theorem pick_rev (xs : Array Value) : ((List.range xs.size).filterMap fun (m : Nat) => xs[((xs.size : Int) - 1 + (m : Int) * (-1)).toNat]?).toArray = xs.toList.reverse.toArray := by
  have e : (List.range xs.size).filterMap (fun (m : Nat) => xs[((xs.size : Int) - 1 + (m : Int) * (-1)).toNat]?) = ((List.range xs.size).map fun k => xs.size - 1 - k).filterMap (xs[·]?) := by
    have g : ∀ (f : Nat → Option Value), (List.range xs.size).filterMap f = ((List.range xs.size).map f).filterMap id := fun f => by rw [List.filterMap_map]; rfl
    rw [List.filterMap_map, g, g]
    refine congrArg (List.filterMap id) (List.map_congr_left fun m hm => ?_)
    have := List.mem_range.mp hm
    have q : ((xs.size : Int) - 1 + (m : Int) * (-1)).toNat = xs.size - 1 - m := by omega
    show _ = xs[xs.size - 1 - m]?
    rw [q]
  rw [e, PySem.W.krv_range, List.filterMap_reverse, PySem.W.krv_all]
theorem getItem_tuple_rev {t sl : Addr} {items : Array Value} {vs : Value} {Q : Value → Shared → Prop} (ht : IsTup s.heap t items) (hs : s.heap.IsSliceOf sl .none .none vs) (ps : IsPart vs (some (-1)))
    (h : Q (.ref s.heap.objs.size) { s with heap := s.heap.push { cls := .type "tuple", data := .seq items.toList.reverse.toArray } })
    (hsz : items.size ≤ sizeLine) : wpAny (model prog w) A (getItem (.ref t) (.ref sl)) Q E s := by
  have hrev : sizeOk (.seq items.toList.reverse.toArray) := by
    show items.toList.reverse.toArray.size ≤ sizeLine
    simpa using hsz
  obtain ⟨os, hos, hcs, hds⟩ := id hs
  have hTs : s.TypeIs (.ref sl) "slice" := ⟨os, hos, hcs⟩
  have seq : ∀ {Q : Value → Shared → Prop}, wpAny (model prog w) A.in1 (Builtin.«tuple.__getitem__» ⟨[.ref t, .ref sl], []⟩) (fun fin s' => ∃ v, fin = .done (.ret v) ∧ Q v s') E s → wpAny (model prog w) A (getItem (.ref t) (.ref sl)) Q E s := fun {Q} run => by
    unfold getItem
    first | with_reducible apply wpAny_holding | skip
    first | refine wpAny_bind (wpAny_pure (wpAny_bind (wpAny_sequenceKey ht.typeIs (by decide) ?_))) | refine wpAny_bind (wpAny_sequenceKey ht.typeIs (by decide) ?_)
    exact wpAny_bind (wpAny_callSpecial?_slot (name := Str.ofString "__getitem__") ht.typeIs PyProof.Rows.slot_tuple_getitem (wpAny_call_entry PyProof.Rows.slot_tuple_getitem ht.typeIs PyProof.Rows.entry_tuple_getitem (wpAny_mono run (fun fin s1 ⟨v, e, q⟩ => ⟨v, e, wpAny_pure q⟩) (fun _ _ x => x)) (PyProof.Rows.args_tuple_getitem _ _)))
  refine seq ?_
  show wpAny _ _ (Builtin.Tuple.tupleItemsOf (.ref t) >>= _) _ _ s
  refine wpAny_bind (PyProof.Rows.tupleItemsOf_ ht ?_)
  refine wpAny_bind (wpAny_typeOf hTs ?_)
  rw [if_pos (by decide)]
  refine wpAny_bind (applied_rev hs ps ?_)
  have hno : ¬ ((((items.size : Int) - 1) == 0 && (-1 : Int) == 1 && items.size == items.size) = true) := by simp
  show wpAny _ _ (if (((items.size : Int) - 1) == 0 && (-1 : Int) == 1 && items.size == items.size) = true then _ else _) _ _ s
  rw [if_neg hno, pick_rev]
  first
    | exact wpAny_bind (m := Builtin.Tuple.tupleExact _) (wpAny_newObj_type (wpAny_pure ⟨_, rfl, h⟩) hrev)
    | exact wpAny_bind (m := Builtin.Tuple.tupleExact _) (wpAny_newObj_type (wpAny_bind (wpAny_pure (wpAny_pure ⟨_, rfl, h⟩))) hrev)
    | exact wpAny_bind (wpAny_bind (m := Builtin.Tuple.tupleExact _) (wpAny_newObj_type (wpAny_pure (wpAny_pure ⟨_, rfl, h⟩)) hrev))
    | exact wpAny_bind (wpAny_bind (m := Builtin.Tuple.tupleExact _) (wpAny_newObj_type (wpAny_pure ⟨_, rfl, h⟩) hrev))
end
/-- t[::-1] -/
def tRevT (K : PySem.W.Frag) (te : TE) : TE := fun σ H Q => te σ H fun x H1 => ∃ a xs, x = .ref a ∧ SqT K H1 a xs ∧ ∀ p, H1 p = none → Q (.ref p) (upd H1 p (.tup xs.reverse))
theorem pe_revT {X : Cx} {e : Expr} {te : TE} {k : Nat} {p1 p2 p3 pos : Pos} (he : PE X e te) : PE X (.Subscript e (.Slice none none (some (.UnaryOp .USub (.Constant (.int 1) k p1) p2)) p3) pos) (tRevT X.K te) := by
  refine ⟨fun pins s σ H Q I h => Subscript_ (thn (he.run pins s σ H _ I h) fun v s1 ⟨x, H1, I1, r1, q1⟩ => ?_)⟩
  obtain ⟨a, xs, ex, hx, q⟩ := q1
  subst ex
  cases r1
  have hst : PO X (some (.UnaryOp .USub (.Constant (.int 1) k p1) p2)) (tPart (tUn (rU fun i => .int (-i)) (tC (.int 1)))) := po_some (pe_un un_neg pe_int)
  refine wpAny_Slice ?_
  rw [evalPart_none]
  refine wpAny_pure ?_
  refine wpAny_pure ?_
  refine thn (hst.run pins s1 σ H1 (fun o H4 => o = some (-1) ∧ H4 = H1) I1 ⟨1, rfl, -1, rfl, rfl, rfl⟩) fun vs s4 ⟨o, H4, I4, ps, eo, e4⟩ => ?_
  subst eo e4
  have I5 : L2.Inv X pins σ H4 { s4 with heap := s4.heap.push { cls := .type "slice", data := .fields #[.none, .none, vs] } } := I4.kept (t' := s4.toks) fun b ob q => Heap.get?_push_of_some _ q
  obtain ⟨its, r, ht, hz⟩ := I5.tuple hx
  have hlen := r.length
  show wpAny (model X.prog X.w) X.A (subscriptTail e (.Slice none none (some (.UnaryOp .USub (.Constant (.int 1) k p1) p2)) p3) (.ref a) (.ref s4.heap.objs.size)) (EP X pins σ Q) X.xe { s4 with heap := s4.heap.push { cls := .type "slice", data := .fields #[.none, .none, vs] } }
  refine tail_any (ops := [.ref a, .ref s4.heap.objs.size]) ht.typeIs PyProof.Rows.slot_tuple_getitem.lookup ?_ (by with_unfolding_all rfl)
  refine getItem_tuple_rev ht (Heap.IsSliceOf.new _ .none .none vs) ps ?_ (by rw [List.size_toArray]; omega)
  refine ⟨.ref _, _, I5.laid (t' := s4.toks) (o := .tup xs.reverse) (fun b ob q => Heap.get?_push_of_some _ q) (Nat.le_refl _) ?_, rfl, q _ (I5.hok.fresh (Nat.le_refl _))⟩
  exact ⟨by rw [List.length_reverse]; exact hz, _, r.reverse, ⟨_, Heap.get?_push_size _ rfl, rfl, _, rfl⟩⟩
/-! ### the kinds of data -/
def tyD : PyData → String
  | .none => "NoneType"
  | .bool _ => "bool"
  | .int _ => "int"
  | .str _ => "str"
  | .list _ => "list"
  | .tuple _ => "tuple"
  | .dict _ => "dict"
theorem Dq.ty {K : PySem.W.Frag} {H : Hp} {m l : Addr} {v : V} {d : PyData} (h : Dq K H m l v d) : TyX K H v (.type (tyD d)) := by
  cases h with
  | non => exact .base .non
  | bl b => exact .base (.bl b)
  | int i => exact .base (.int i)
  | str x => exact .base (.str x)
  | lst e _ _ _ => exact .base (.lst e)
  | dct e _ _ => exact .base (.dK e)
  | tup e _ =>
    rcases e with (e | ⟨o, e⟩) | ⟨o, its, n, e, c, _⟩
    · exact .base (.tup e)
    · exact .fTuple e
    · exact .kTuple e c
theorem isi_str (K : PySem.W.Frag) (d : PyData) : PySem.W.kitOne K (.type (tyD d)) (.type "str") = some (match d with | .str _ => true | _ => false) := by cases d <;> rfl
theorem isi_int (K : PySem.W.Frag) (d : PyData) : PySem.W.kitOne K (.type (tyD d)) (.type "int") = some (match d with | .int _ | .bool _ => true | _ => false) := by cases d <;> rfl
theorem isi_bool (K : PySem.W.Frag) (d : PyData) : PySem.W.kitOne K (.type (tyD d)) (.type "bool") = some (match d with | .bool _ => true | _ => false) := by cases d <;> rfl
theorem isi_tup (K : PySem.W.Frag) (d : PyData) : PySem.W.kitOne K (.type (tyD d)) (.type "tuple") = some (match d with | .tuple _ => true | _ => false) := by cases d <;> rfl
end Ms
namespace Ms
open PySem PySem.Spec PyProof.Rows L2
/-! ### slices and joins of tuples, whole or not -/
theorem Same.seqT {K : PySem.W.Frag} {H H' : Hp} {a : Addr} {xs : List V} (e : Same H H') (h : SqT K H a xs) : SqT K H' a xs := by
  rcases h with (h | ⟨o, h⟩) | h
  · exact .inl (.inl (e _ _ h))
  · exact .inl (.inr ⟨o, e _ _ h⟩)
  · exact .inr h
theorem cutV_whole {xs : List V} {lo hi : Option Int} (h : HT.sIx xs.length 0 lo = 0 ∧ HT.sIx xs.length xs.length hi = xs.length) : cutV xs lo hi = xs := by
  unfold cutV
  rw [h.1, h.2, List.drop_zero, Nat.sub_zero, List.take_length]
theorem slA_any {K : PySem.W.Frag} {H : Hp} {a : Addr} {xs : List V} {lo hi : Option Int} {Q : VK} (h : SqT K H a xs) (q : ∀ (p : Addr) (H' : Hp), Same H H' → SqT K H' p (cutV xs lo hi) → Q (.ref p) H') : rSlA K (.ref a) lo hi H Q :=
  ⟨a, xs, rfl, h, fun w => q a H (fun _ _ e => e) (by rw [cutV_whole w]; exact h), fun _ p hp => q p _ (Same.upd hp) (.inl (.inl upd_same))⟩
theorem catA_any {K : PySem.W.Frag} {H : Hp} {a b : Addr} {xs ys : List V} {Q : VK} (h : SqT K H a xs) (h2 : SqT K H b ys) (hl : xs.length + ys.length ≤ sizeLine) (q : ∀ (p : Addr) (H' : Hp), Same H H' → SqT K H' p (xs ++ ys) → Q (.ref p) H') : rCatA K (.ref a) (.ref b) H Q :=
  ⟨a, b, xs, ys, rfl, rfl, h, h2, hl, fun e => q b H (fun _ _ e => e) (by rw [e]; exact h2), fun _ e => q a H (fun _ _ e => e) (by rw [e, List.append_nil]; exact h), fun _ _ p hp => q p _ (Same.upd hp) (.inl (.inl upd_same))⟩
theorem cut_to {xs : List V} {i : Nat} (h : i ≤ xs.length) : cutV xs none (some (i : Int)) = xs.take i := by
  unfold cutV
  rw [HT.sIx_nat, HT.sIx_none, List.drop_zero, Nat.sub_zero, Nat.min_eq_left h]
theorem cut_from {xs : List V} {i : Nat} (h : i ≤ xs.length) : cutV xs (some (i : Int)) none = xs.drop i := by
  unfold cutV
  rw [HT.sIx_nat, HT.sIx_none, Nat.min_eq_left h]
  exact List.take_of_length_le (by simp)
theorem cut_one {xs : List V} {i : Nat} (h : i < xs.length) : cutV xs (some (i : Int)) (some ((i : Int) + 1)) = (xs.drop i).take 1 := by
  have e : ((i : Int) + 1) = ((i + 1 : Nat) : Int) := by omega
  unfold cutV
  rw [e, HT.sIx_nat, HT.sIx_nat, Nat.min_eq_left (by omega), Nat.min_eq_left (by omega)]
  have : i + 1 - i = 1 := by omega
  rw [this]
theorem cut_from1 {xs : List V} {i : Nat} (h : i < xs.length) : cutV xs (some ((i : Int) + 1)) none = xs.drop (i + 1) := by
  have e : ((i : Int) + 1) = ((i + 1 : Nat) : Int) := by omega
  rw [e]; exact cut_from h
/-! ### lists of data -/
section
variable {K : PySem.W.Frag} {H : Hp} {m l : Addr}
theorem DqAll.app {vs ws : List V} : ∀ {ds es : List PyData}, DqAll K H m l vs ds → DqAll K H m l ws es → DqAll K H m l (vs ++ ws) (ds ++ es) := by
  intro ds
  induction ds generalizing vs with
  | nil => intro es h1 h2; cases h1; exact h2
  | cons d ds ih => intro es h1 h2; cases h1 with | cons a b => exact .cons a (ih b h2)
theorem DqAll.len {vs : List V} : ∀ {ds : List PyData}, DqAll K H m l vs ds → vs.length = ds.length := by
  intro ds
  induction ds generalizing vs with
  | nil => intro h; cases h; rfl
  | cons d ds ih => intro h; cases h with | cons a b => simp [ih b]
theorem DqAll.drop {vs : List V} : ∀ {ds : List PyData} (i : Nat), DqAll K H m l vs ds → DqAll K H m l (vs.drop i) (ds.drop i) := by
  intro ds
  induction ds generalizing vs with
  | nil => intro i h; cases h; simp; exact .nil
  | cons d ds ih =>
    intro i h
    cases h with
    | cons a b =>
      cases i with
      | zero => exact .cons a b
      | succ i => simpa using ih i b
theorem DqAll.take {vs : List V} : ∀ {ds : List PyData} (i : Nat), DqAll K H m l vs ds → DqAll K H m l (vs.take i) (ds.take i) := by
  intro ds
  induction ds generalizing vs with
  | nil => intro i h; cases h; simp; exact .nil
  | cons d ds ih =>
    intro i h
    cases h with
    | cons a b =>
      cases i with
      | zero => simp; exact .nil
      | succ i => simpa using DqAll.cons a (ih i b)
theorem DqAll.rev {vs : List V} : ∀ {ds : List PyData}, DqAll K H m l vs ds → DqAll K H m l vs.reverse ds.reverse := by
  intro ds
  induction ds generalizing vs with
  | nil => intro h; cases h; exact .nil
  | cons d ds ih => intro h; cases h with | cons a b => rw [List.reverse_cons, List.reverse_cons]; exact (ih b).app (.cons a .nil)
end
theorem wA_app : ∀ (xs ys : List PyData), PyData.weightAll (xs ++ ys) = PyData.weightAll xs + PyData.weightAll ys
  | [], ys => by simp [PyData.weightAll]
  | x :: xs, ys => by simp only [List.cons_append, PyData.weightAll, wA_app xs ys]; omega
theorem wA_rev : ∀ (xs : List PyData), PyData.weightAll xs.reverse = PyData.weightAll xs
  | [] => rfl
  | x :: xs => by rw [List.reverse_cons, wA_app, wA_rev xs]; simp only [PyData.weightAll]; omega
theorem wA_split (xs : List PyData) (i : Nat) : PyData.weightAll (xs.take i) + PyData.weightAll (xs.drop i) = PyData.weightAll xs := by
  rw [← wA_app, List.take_append_drop]
theorem wA_len : ∀ (xs : List PyData), xs.length ≤ PyData.weightAll xs
  | [] => Nat.le_refl _
  | x :: xs => by simp only [List.length_cons, PyData.weightAll]; have := wA_len xs; omega
theorem dA_iff {c : Nat} : ∀ {xs : List PyData}, PyData.depthAll xs ≤ c ↔ ∀ x ∈ xs, x.depth ≤ c
  | [] => by simp [PyData.depthAll]
  | x :: xs => by simp only [PyData.depthAll, List.mem_cons, forall_eq_or_imp]; rw [Nat.max_le, dA_iff (xs := xs)]
/-- a list of good data -/
structure Gl' (B w c : Nat) (ds : List PyData) : Prop where
  ok : ∀ d ∈ ds, okD B d = true
  wt : PyData.weightAll ds ≤ w
  dp : ∀ d ∈ ds, d.depth ≤ c
theorem Gd.tup {B a b : Nat} {ds : List PyData} (g : Gl' B a b ds) : Gd B a (b + 1) (.tuple ds) :=
  ⟨by simp only [okD]; exact okAll_iff.mpr g.ok, by simp only [PyData.weight]; exact g.wt, by simp only [PyData.depth]; exact Nat.succ_le_succ (dA_iff.mpr g.dp)⟩
theorem Gd.lst {B a b : Nat} {ds : List PyData} (g : Gl' B a b ds) : Gd B a (b + 1) (.list ds) :=
  ⟨by simp only [okD]; exact okAll_iff.mpr g.ok, by simp only [PyData.weight]; exact g.wt, by simp only [PyData.depth]; exact Nat.succ_le_succ (dA_iff.mpr g.dp)⟩
theorem Gd.untup {B a b : Nat} {ds : List PyData} (g : Gd B a b (.tuple ds)) : ∃ c, b = c + 1 ∧ Gl' B a c ds := by
  obtain ⟨h1, h2, h3⟩ := g
  simp only [okD] at h1
  simp only [PyData.weight] at h2
  simp only [PyData.depth] at h3
  obtain ⟨c, rfl⟩ : ∃ c, b = c + 1 := ⟨b - 1, by omega⟩
  exact ⟨c, rfl, okAll_iff.mp h1, h2, dA_iff.mp (by omega)⟩
section
variable {B a c : Nat} {ds es : List PyData}
theorem Gl'.mono {B' a' c' : Nat} (g : Gl' B a c ds) (h1 : B ≤ B') (h2 : a ≤ a') (h3 : c ≤ c') : Gl' B' a' c' ds :=
  ⟨fun d h => okD_mono h1 d (g.ok d h), Nat.le_trans g.wt h2, fun d h => Nat.le_trans (g.dp d h) h3⟩
theorem Gl'.app {a2 : Nat} (g : Gl' B a c ds) (h : Gl' B a2 c es) : Gl' B (a + a2) c (ds ++ es) :=
  ⟨fun d q => (List.mem_append.mp q).elim (g.ok d) (h.ok d), by rw [wA_app]; have := g.wt; have := h.wt; omega, fun d q => (List.mem_append.mp q).elim (g.dp d) (h.dp d)⟩
theorem Gl'.tk (g : Gl' B a c ds) (i : Nat) : Gl' B (PyData.weightAll (ds.take i)) c (ds.take i) := ⟨fun d q => g.ok d (List.mem_of_mem_take q), Nat.le_refl _, fun d q => g.dp d (List.mem_of_mem_take q)⟩
theorem Gl'.dr (g : Gl' B a c ds) (i : Nat) : Gl' B (PyData.weightAll (ds.drop i)) c (ds.drop i) := ⟨fun d q => g.ok d (List.mem_of_mem_drop q), Nat.le_refl _, fun d q => g.dp d (List.mem_of_mem_drop q)⟩
theorem Gl'.rv (g : Gl' B a c ds) : Gl' B a c ds.reverse := ⟨fun d q => g.ok d (List.mem_reverse.mp q), by rw [wA_rev]; exact g.wt, fun d q => g.dp d (List.mem_reverse.mp q)⟩
theorem Gl'.one {d : PyData} {w : Nat} (g : Gd B w c d) : Gl' B (w + 1) c [d] :=
  ⟨fun x h => by rw [List.mem_singleton.mp h]; exact g.ok, by simp only [PyData.weightAll]; have := g.wt; omega, fun x h => by rw [List.mem_singleton.mp h]; exact g.dp⟩
theorem Gl'.at (g : Gl' B a c ds) {i : Nat} {d : PyData} (h : ds[i]? = some d) : Gd B d.weight c d := ⟨g.ok d (List.mem_of_getElem? h), Nat.le_refl _, g.dp d (List.mem_of_getElem? h)⟩
theorem wA_at {i : Nat} {d : PyData} (h : ds[i]? = some d) : PyData.weightAll (ds.take i) + (d.weight + 1) + PyData.weightAll (ds.drop (i + 1)) = PyData.weightAll ds := by
  have hi : i < ds.length := (List.getElem?_eq_some_iff.mp h).1
  have e : ds[i] = d := (List.getElem?_eq_some_iff.mp h).2
  rw [← wA_split ds i, List.drop_eq_getElem_cons hi, e]
  simp only [PyData.weightAll]
  omega
end
/-! ### texts and numbers -/
theorem Gd.str {B a : Nat} {z : Str} (h : sOk a z) : Gd B a 0 (.str z) := ⟨h.okd, by simp only [PyData.weight]; exact h.1, Nat.le_refl _⟩
theorem Gd.unstr {B a b : Nat} {z : Str} (g : Gd B a b (.str z)) : sOk a z := by
  obtain ⟨h1, h2, _⟩ := g
  simp only [okD, List.all_eq_true, decide_eq_true_eq] at h1
  simp only [PyData.weight] at h2
  exact ⟨h2, h1⟩
theorem mul2 (z : Str) : sOk (2 * z.length) (Txt.mul z 2) ∨ ¬ sOk z.length z := by
  by_cases h : sOk z.length z
  · refine .inl ?_
    unfold Txt.mul
    rw [if_neg (by decide)]
    by_cases e : ((2 : Int) == 1 || z.length == 0) = true
    · rw [if_pos e]; exact h.mono (by omega)
    · rw [if_neg e]
      have q : ((List.replicate (2 : Int).toNat z.cps).foldl (· ++ ·) #[] : Array Nat) = z.cps ++ z.cps := by
        show (#[] ++ z.cps) ++ z.cps = _
        rw [Array.empty_append]
      rw [q]
      have := h.app h
      refine this.mono (by omega)
  · exact .inr h
theorem mul2_ok {a : Nat} {z : Str} (h : sOk a z) : sOk (2 * a) (Txt.mul z 2) := by
  rcases mul2 z with q | q
  · exact q.mono (by have := h.1; omega)
  · exact absurd ⟨Nat.le_refl _, h.2⟩ q
theorem wt_int {i : Int} (h : i.natAbs ≤ 10 ^ 31) : PyData.weight (.int i) ≤ 104 := by
  simp only [PyData.weight]
  split
  · decide
  · rename_i z
    have h1 : i.natAbs < 2 ^ 103 := by
      have e : (10 : Nat) ^ 31 < 2 ^ 103 := by decide
      omega
    have nz : i.natAbs ≠ 0 := by
      intro e
      exact z (by simp; omega)
    have := (Nat.log2_lt nz).mpr h1
    omega
theorem Gd.int {B : Nat} {i : Int} (h : i.natAbs ≤ B) (hB : B ≤ 10 ^ 31) : Gd B 104 0 (.int i) :=
  ⟨by simp only [okD, decide_eq_true_eq]; exact h, wt_int (by omega), Nat.le_refl _⟩
theorem Gd.unint {B a b : Nat} {i : Int} (g : Gd B a b (.int i)) : i.natAbs ≤ B := by
  have := g.ok
  simpa only [okD, decide_eq_true_eq] using this
theorem ite_b {c : Bool} {A B : Prop} (h1 : c = true → A) (h2 : c = false → B) : if c = true then A else B := by
  cases c
  · rw [if_neg Bool.false_ne_true]; exact h2 rfl
  · rw [if_pos rfl]; exact h1 rfl
theorem noPart {σ : L2.St} {H : Hp} {Q : Option Int → Hp → Prop} (h : Q none H) : tNoPart σ H Q := h
end Ms
namespace Ms
open PySem PySem.Spec PyProof.Rows L2
def isWhole (d : PyData) (lo hi : Int) : Bool := match d with | .int i => decide (lo ≤ i) && decide (i ≤ hi) | _ => false
def isName (d : PyData) : Bool := match d with | .str z => (decide (1 ≤ z.length) && decide (z.length ≤ 8)) && z.cps.toList.all fun c => decide (c ∈ alpha.cps.toList) | _ => false
theorem lay_strs : ∀ ys : List Str, (∀ y ∈ ys, PyData.canLay0 (.str y) = true) → PyData.canLayAll0 (ys.map PyData.str) = true
  | [], _ => rfl
  | y :: ys, h => by
    show (PyData.canLay0 (.str y) && PyData.canLayAll0 (ys.map PyData.str)) = true
    rw [lay_strs ys (fun x hx => h x (List.mem_cons_of_mem _ hx)), h y (List.mem_cons_self ..)]; rfl
theorem depth_strs : ∀ ys : List Str, PyData.depthAll (ys.map PyData.str) = 0
  | [] => rfl
  | y :: ys => by
    show max (PyData.depth (.str y)) (PyData.depthAll (ys.map PyData.str)) = 0
    rw [depth_strs ys]; rfl
theorem shaped_strs (ys : List Str) (h : ∀ y ∈ ys, PyData.canLay0 (.str y) = true) : SeqAt.shaped (.list (ys.map PyData.str)) = true := by
  show (PyData.canLayAll0 (ys.map PyData.str) && decide (PyData.depthAll (ys.map PyData.str) + 1 ≤ 64)) = true
  rw [lay_strs ys h, depth_strs]; rfl
theorem dpAll_strs {K : PySem.W.Frag} {H : Hp} : ∀ ys : List Str, DpAll K H (ys.map V.str) (ys.map PyData.str)
  | [] => .nil
  | y :: ys => .cons (.str y) (dpAll_strs ys)
structure TxtQ (mg : Str → Option Value) : Prop where
  isi : mg "isinstance" = none
  int : mg "int" = none
  bool : mg "bool" = none
  str : mg "str" = none
  len : mg "len" = none
def spWhole (K : PySem.W.Frag) : Sp := fun vs H Q _ => ∃ (m l : Addr) (v : V) (d : PyData) (lo hi : Int), vs = [v, .int lo, .int hi] ∧ Dq K H m l v d ∧ Q (.bl (isWhole d lo hi)) H
def spName (K : PySem.W.Frag) : Sp := fun vs H Q _ => ∃ (m l : Addr) (v : V) (d : PyData), vs = [v] ∧ Dq K H m l v d ∧ (∀ z, d = .str z → sOk 100000 z) ∧ ∀ H', Same H H' → Q (.bl (isName d)) H'
end Ms
namespace Ms
open PySem PySem.Spec PyProof.Rows L2
/-! ### enumerate(tuple) over KE's draws -/
def ItET (K : PySem.W.Frag) (a : Addr) : It :=
  ⟨fun i H => ∃ xs : List V, SqT K H a xs ∧ i < xs.length,
    fun i H v H' => ∃ T x, v = .ref T ∧ H T = none ∧ H' = upd H T (.tup [.int (i : Nat), x]) ∧ ∀ xs, SqT K H a xs → xs[i]? = some x,
    fun i H => ∃ xs : List V, SqT K H a xs ∧ i = xs.length⟩
theorem walk_et {K : PySem.W.Frag} {a : Addr} {xs : List V} : Walk (ItET K a) xs.length (fun H => SqT K H a xs) (YPair (fun i => some (.int (i : Nat))) (fun i => xs[i]?)) := by
  refine ⟨fun i _ hi q => ⟨xs, q, hi⟩, fun _ q => ⟨xs, q, rfl⟩, fun i H v H' _ q y => ?_⟩
  obtain ⟨T, x, h1, h2, h3, h4⟩ := y
  exact ⟨T, .int (i : Nat), x, h1, h2, h3, rfl, h4 xs q⟩
abbrev EtSt (a e it : Addr) : Nat → Heap → Prop := fun i h => (∃ old, IsEnum h e it ((0 : Int) + (i : Int)) old) ∧ h.IsTupleIter it a i
theorem turn_et {P : Program} {w : World} {K : PySem.W.Frag} {elts : List Expr} {kk : Nat} {tpos : Pos} {a e it : Addr} (na : a ≠ it) (ne : e ≠ it) (nea : e ≠ a) :
    Turn P w K (.Tuple elts kk tpos) (ItET K a) [e, it] e (EtSt a e it) where
  mem := by simp
  obj := fun i h st b hb => by
    obtain ⟨⟨old, he⟩, ⟨o, ho, hc, hd⟩⟩ := st
    have e' : b = e ∨ b = it := by simpa using hb
    rcases e' with rfl | rfl
    · exact ⟨_, he, fun v q => nomatch q⟩
    · exact ⟨o, ho, fun v q => by rw [hd] at q; cases q⟩
  keep := fun i h h' st k => by
    obtain ⟨⟨old, he⟩, hi⟩ := st
    exact ⟨⟨old, k e (by simp) _ he⟩, hi.at fun o q => k it (by simp) o q⟩
  item := by
    intro X hP hw hK hc i pins s σ H E I hf st hg
    subst hP hw hK
    obtain ⟨xs, hq, hi⟩ := hg
    obtain ⟨its, rv, p, _⟩ := I.tuple hq
    have l1 := rv.length
    have hh : X.A.in1.handled = none := I.ok.hd hc
    have W := GoesN.enumFrom (elts := elts) (x1 := kk) (pos := tpos) 0 (Draws.tuple (prog := X.prog) (w := X.w) hh it a na its.toArray) e ne (by simp [ne, nea]) (by simp)
    have lv : ∀ c ∈ [e, it], c < s.heap.objs.size := fun c hc => by
      obtain ⟨⟨old, he⟩, ⟨o, ho, _⟩⟩ := st
      have e' : c = e ∨ c = it := by simpa using hc
      rcases e' with rfl | rfl
      · exact Heap.lt_size he
      · exact Heap.lt_size ho
    refine W.goes i s (fun u s2 => ∃ x H', L2.Inv X pins σ H' s2 ∧ RelV x u ∧ (ItET X.K a).yld i H x H' ∧ EtSt a e it (i + 1) s2.heap ∧ ∀ b ∈ [e, it], H' b = none) E (by simp; omega) ⟨st.1, st.2, p⟩ fun v h' tk Y st' hk htk => ?_
    obtain ⟨T, t, x, rfl, hT, hx, hI⟩ := Y
    have hxx : xs[i]? = some xs[i] := List.getElem?_eq_getElem hi
    obtain ⟨u, hu, ru⟩ := rv.get hxx
    have ex : x = u := by simp [hu] at hx; exact hx.symm
    subst ex
    have new : ObjOk X.prog X.w (upd H T (.tup [.int (i : Nat), xs[i]])) h' T (.tup [.int (i : Nat), xs[i]]) :=
      ⟨(by show 2 ≤ sizeLine; decide), [.int (0 + (i : Int)) t, x], .cons ⟨t, by rw [Int.zero_add]⟩ (.cons ru .nil), hI⟩
    have I1 : L2.Inv X pins σ (upd H T (.tup [.int (i : Nat), xs[i]])) { s with heap := h', toks := tk } := I.turnedNew (t' := tk) (ch := [e, it]) hk hf hT new
    refine ⟨.ref T, _, I1, rfl, ⟨T, xs[i], rfl, I.hok.fresh hT, rfl, fun ys hy => by rw [I.tuple_inj hy hq]; exact hxx⟩, ⟨st'.1, st'.2.1⟩, fun b hb => ?_⟩
    rw [upd_ne (Nat.ne_of_lt (Nat.lt_of_lt_of_le (lv b hb) hT))]
    exact (hf b hb).1
  done := by
    intro X hP hw hK hc i pins s σ H E I hf st hg
    subst hP hw hK
    obtain ⟨xs, hq, hi⟩ := hg
    obtain ⟨its, rv, p, _⟩ := I.tuple hq
    have l1 := rv.length
    have hh : X.A.in1.handled = none := I.ok.hd hc
    have W := GoesN.enumFrom (elts := elts) (x1 := kk) (pos := tpos) 0 (Draws.tuple (prog := X.prog) (w := X.w) hh it a na its.toArray) e ne (by simp [ne, nea]) (by simp)
    have ei : i = its.toArray.size := by simp; omega
    rw [ei] at st
    exact W.stops s (fun s1 => L2.Inv X pins σ H s1) E ⟨st.1, st.2, p⟩ fun h' tk hk htk => I.turnedL (t' := tk) (ch := [e, it]) hk hf
  self := fun A i s Q E st h => let ⟨⟨_, he⟩, _⟩ := st; wpAny_pyIter_enum he h
def iET (K : PySem.W.Frag) (ta : TA) : TI := fun σ H R => ta σ H fun vs H1 => ∃ a xs, vs = [.ref a] ∧ SqT K H1 a xs ∧ R (ItET K a) H1
set_option maxHeartbeats 1000000 in
/-- enumerate(v), v told by how its iterator begins -/
theorem meets_en1 {v : Value} {o : Obj} {HP : Heap → Prop} (B : Begins v o HP) :
    Meets (Builtin.«enumerate.__new__» ⟨[.type "enumerate", v], []⟩) (fun _ R s => HP s.heap ∧
      R (.ok (.ret (.ref (s.heap.push o).objs.size))) { s with heap := (s.heap.push o).push { cls := .type "enumerate", data := .fields #[.none, .bool false, .ref s.heap.objs.size, rawInt 0, .none, .none] } }) :=
  .of_wp fun prog w A R s h => by
    obtain ⟨hp, g, d, tk, os⟩ := s
    obtain ⟨h1, h⟩ := h
    have hsub := sub_enumerate
    have begins : ∀ {A' : Around} {E : Value → Shared → Prop} {Q : Value → Shared → Prop}, Q (.ref hp.objs.size) ⟨hp.push o, g, d, tk, os⟩ → wpAny (model prog w) A' (pyIter v) Q E ⟨hp, g, d, tk, os⟩ :=
      fun q => B.iter prog w _ _ ⟨hp, g, d, tk, os⟩ _ h1 q
    wp_walk using begins
    refine wpAny_stack_any fun st => wpAny_pure ?_
    split
    · rename_i c _ _ _ _ _
      cases (c == Value.type "enumerate") <;> (wp_walk using begins; exact ⟨_, rfl, h⟩)
    · wp_walk using begins
      exact ⟨_, rfl, h⟩
theorem pi_et {X : Cx} {e : Expr} {ta : TA} {p pos tpos : Pos} {elts : List Expr} {kk : Nat} (hg : Gl X "enumerate") (hm : X.mg "enumerate" = none) (ha : PA X [e] ta) (hs : starEach [e] X.env = [(false, eval e X.env)] := by rfl) :
    PI X (.Tuple elts kk tpos) (.Call (.Name "enumerate" p) [e] [] pos) (iET X.K ta) := by
  refine ⟨fun pins s σ H R I h => Call_ (ld_blt I hg hm boot_enumerate (PyProof.Rows.callWith_type1 (thn (ha.run pos pins s σ H _ I h) fun us s1 ⟨vs, H1, I1, r1, q1⟩ => ?_) hs rfl))⟩
  obtain ⟨a, xs, ex, hq, q⟩ := q1
  subst ex
  obtain ⟨u, rfl, ru⟩ := vals1 r1
  cases ru
  obtain ⟨its, rv, p1, _⟩ := I1.tuple hq
  obtain ⟨oa, hoa, _⟩ := id p1
  have la : a < s1.heap.objs.size := Heap.lt_size hoa
  refine callType_new F.called_enumerate (by decide) (F.typeCall_enumerate_1 _) (F.newCall_enumerate_1 _) (fun obj => F.args_object_init_2 obj _) F.entry_enumerate_new (meets_en1 (begins_tuple a its.toArray)) ⟨p1, ?_⟩
  obtain ⟨oi, hoi⟩ : ∃ oi : Obj, oi = { cls := .type "tuple_iterator", data := .fields #[.ref a, .int 0 0] } := ⟨_, rfl⟩
  obtain ⟨oe, hoe⟩ : ∃ oe : Obj, oe = { cls := .type "enumerate", data := .fields #[.none, .bool false, .ref s1.heap.objs.size, rawInt 0, .none, .none] } := ⟨_, rfl⟩
  rw [← hoi, ← hoe]
  have hz : (s1.heap.push oi).objs.size = s1.heap.objs.size + 1 := Heap.size_push ..
  have ge : ((s1.heap.push oi).push oe).get? (s1.heap.objs.size + 1) = some oe := by
    have := Heap.get?_push_size (s1.heap.push oi) (o := oe) (by rw [hoe]; rfl)
    rw [hz] at this; exact this
  have gi : ((s1.heap.push oi).push oe).get? s1.heap.objs.size = some oi := Heap.get?_push_of_some _ (Heap.get?_push_size _ (by rw [hoi]; rfl))
  have hk : ∀ b o, s1.heap.get? b = some o → ((s1.heap.push oi).push oe).get? b = some o := fun b o x => Heap.get?_push_of_some _ (Heap.get?_push_of_some _ x)
  show _ ∧ _
  rw [hz]
  have he : IsEnum ((s1.heap.push oi).push oe) (s1.heap.objs.size + 1) s1.heap.objs.size 0 .none := ge.trans (by rw [hoe])
  refine ⟨⟨_, ge, by rw [hoe]⟩, wpAny_pyIter_enum he ?_⟩
  have I2 : L2.Inv X pins σ H1 { s1 with heap := (s1.heap.push oi).push oe } := I1.kept (t' := s1.toks) hk
  have n1 : s1.heap.objs.size + 1 ≠ s1.heap.objs.size := Nat.succ_ne_self _
  have n2 : s1.heap.objs.size + 1 ≠ a := Nat.ne_of_gt (Nat.lt_succ_of_lt la)
  refine ⟨s1.heap.objs.size + 1, [s1.heap.objs.size + 1, s1.heap.objs.size], EtSt a (s1.heap.objs.size + 1) s1.heap.objs.size, ItET X.K a, H1, rfl, I2, turn_et (Nat.ne_of_lt la) n1 n2, ⟨⟨.none, he⟩, ⟨oi, gi, by rw [hoi], by rw [hoi]; rfl⟩⟩, fun c hc => ?_, q⟩
  have e' : c = s1.heap.objs.size + 1 ∨ c = s1.heap.objs.size := by simpa using hc
  have hle : s1.heap.objs.size ≤ c := by
    rcases e' with e | e
    · rw [e]; exact Nat.le_succ _
    · rw [e]; exact Nat.le_refl _
  exact I1.fpOk hle (I1.hok.fresh hle)
end Ms
namespace Ms
open PySem PySem.Spec PyProof.Rows L2
/-! ### _law_due -/
/-- a good pair -/
def oneD : PyData → Option (Str × Int)
  | .tuple [.str z, .int c] => if (isName (.str z) && isWhole (.int c) 1 3) = true then some (z, c) else none
  | _ => none
def dueGo : Nat → List Str → Int → List PyData → Sum Nat Int
  | _, _, many, [] => .inr many
  | p, seen, many, d :: ds => match oneD d with
    | none => .inl p
    | some (z, c) => if z ∈ seen then .inl p else dueGo (p + 1) (seen ++ [z]) (many * (c + 1)) ds
def bad (d : PyData) : PyData := .tuple [.str "settings", d]
def dueD (d : PyData) : PyData := match d with
  | .tuple ds => if 1 ≤ ds.length ∧ ds.length ≤ 3 then (match dueGo 0 [] 1 ds with | .inl p => bad (.int p) | .inr many => if many ≤ 12 then .list [d] else bad (.str "many")) else bad .none
  | _ => bad .none
theorem oneD_name {d0 d1 : PyData} (h : isName d0 = false) : oneD (.tuple [d0, d1]) = none := by
  cases d0 <;> cases d1 <;> first | rfl | (simp only [oneD]; rw [h]; rfl)
theorem oneD_whole {d0 d1 : PyData} (h : isWhole d1 1 3 = false) : oneD (.tuple [d0, d1]) = none := by
  cases d0 <;> cases d1 <;> first | rfl | (simp only [oneD]; rw [h, Bool.and_false]; rfl)
theorem oneD_len {es : List PyData} (h : es.length ≠ 2) : oneD (.tuple es) = none := by
  match es, h with
  | [], _ => rfl
  | [x], _ => cases x <;> rfl
  | [_, _], h => exact absurd rfl h
  | x :: y :: z :: r, _ => cases x <;> cases y <;> rfl
theorem oneD_ok {d0 d1 : PyData} (h : isName d0 = true) (h1 : isWhole d1 1 3 = true) : ∃ z c, d0 = .str z ∧ d1 = .int c ∧ 1 ≤ c ∧ c ≤ 3 ∧ oneD (.tuple [d0, d1]) = some (z, c) := by
  cases d0 with
  | str z =>
    cases d1 with
    | int c =>
      refine ⟨z, c, rfl, rfl, ?_, ?_, by simp only [oneD]; rw [h, h1]; rfl⟩
      · have := (Bool.and_eq_true _ _ ▸ h1 : _ ∧ _).1
        exact of_decide_eq_true this
      · have := (Bool.and_eq_true _ _ ▸ h1 : _ ∧ _).2
        exact of_decide_eq_true this
    | _ => exact absurd h1 (by simp [isWhole])
  | _ => exact absurd h (by simp [isName])
theorem inV_str (z : Str) (ys : List Str) : inV (.str z) (ys.map V.str) = decide (z ∈ ys) := by
  unfold inV
  rw [List.any_map]
  rw [Bool.eq_iff_iff]
  simp only [List.any_eq_true, Function.comp, eqV, beq_iff_eq, decide_eq_true_eq]
  constructor
  · rintro ⟨y, hy, rfl⟩; exact hy
  · intro h; exact ⟨z, h, rfl⟩
end Ms
namespace Ms
open PySem PySem.Spec PyProof.Rows L2
/-! ### data keeps while the heap grows -/
mutual
theorem Dq.same {K : PySem.W.Frag} {m l : Addr} {H H' : Hp} (k : Same H H') : ∀ (d : PyData) (v : V), Dq K H m l v d → Dq K H' m l v d
  | .none, _, h => by cases h; exact .non
  | .bool b, _, h => by cases h; exact .bl b
  | .int i, _, h => by cases h; exact .int i
  | .str x, _, h => by cases h; exact .str x
  | .list ds, _, h => by
    cases h with
    | lst e n1 n2 t => exact .lst (k _ _ e) n1 n2 (DqAll.same k ds _ t)
  | .tuple ds, _, h => by
    cases h with
    | tup e t => exact .tup (Same.seqT k e) (DqAll.same k ds _ t)
  | .dict _, _, h => by
    cases h with
    | dct e n1 n2 => exact .dct (k _ _ e) n1 n2
theorem DqAll.same {K : PySem.W.Frag} {m l : Addr} {H H' : Hp} (k : Same H H') : ∀ (ds : List PyData) (vs : List V), DqAll K H m l vs ds → DqAll K H' m l vs ds
  | [], _, h => by cases h; exact .nil
  | d :: ds, _, h => by
    cases h with
    | cons h1 h2 => exact .cons (Dq.same k d _ h1) (DqAll.same k ds _ h2)
end
/-! ### comprehensions of two clauses -/
theorem lc2_it {J : It} {n : Nat} {G : Hp → Prop} {Y : Nat → Hp → V → Hp → Prop} (w : Walk J n G Y) {g : TG} {tt : TT} {wi1 : TI} {g1 : TG} {tt1 : TT} {te : TE} {vs vs1 : List Nat} {σ : L2.St} {H1 : Hp} {D : Addr} {Qd : Hp → Prop} (Pv : Nat → Hp → Prop)
    (h0 : Pv 0 (upd H1 D (.lst []))) (hG : ∀ i H, i ≤ n → Pv i H → G H)
    (hs : ∀ i x H H', i < n → Pv i H → Y i H x H' → g x (wipe σ vs) H' fun σ2 H2 => wipe σ2 vs = wipe σ vs ∧ tt σ2 H2 fun b H3 =>
      if b = true then wi1 σ2 H3 fun J1 H4 => ∃ W1 : Nat → Nat → Hp → Prop, (∃ m, W1 0 m H4) ∧ ∀ j k H, W1 j k H →
        (J1.stop j H ∧ Pv (i + 1) H) ∨ (J1.go j H ∧ ∃ Nx1 : Hp → Prop, (∀ H', Nx1 H' → ∃ k', k' < k ∧ W1 (j + 1) k' H') ∧ ∀ x H', J1.yld j H x H' → g1 x (wipe σ2 vs1) H' fun σ3 H5 => wipe σ3 vs1 = wipe σ2 vs1 ∧ tt1 σ3 H5 fun b H6 =>
          if b = true then te σ3 H6 fun y H7 => ∃ acc, H7 D = some (.lst acc) ∧ acc.length < sizeLine ∧ Nx1 (upd H7 D (.lst (acc ++ [y]))) else Nx1 H6)
      else Pv (i + 1) H3) (hd : ∀ H, Pv n H → Qd H) :
    ∃ W : Nat → Nat → Hp → Prop, (∃ m, W 0 m (upd H1 D (.lst []))) ∧ ∀ i m H, W i m H →
      (J.stop i H ∧ Qd H) ∨ (J.go i H ∧ ∃ Nx : Hp → Prop, (∀ H', Nx H' → ∃ m', m' < m ∧ W (i + 1) m' H') ∧ ∀ x H', J.yld i H x H' → g x (wipe σ vs) H' fun σ2 H2 => wipe σ2 vs = wipe σ vs ∧ tt σ2 H2 fun b H3 =>
        if b = true then wi1 σ2 H3 fun J1 H4 => ∃ W1 : Nat → Nat → Hp → Prop, (∃ m, W1 0 m H4) ∧ ∀ j k H, W1 j k H →
          (J1.stop j H ∧ Nx H) ∨ (J1.go j H ∧ ∃ Nx1 : Hp → Prop, (∀ H', Nx1 H' → ∃ k', k' < k ∧ W1 (j + 1) k' H') ∧ ∀ x H', J1.yld j H x H' → g1 x (wipe σ2 vs1) H' fun σ3 H5 => wipe σ3 vs1 = wipe σ2 vs1 ∧ tt1 σ3 H5 fun b H6 =>
            if b = true then te σ3 H6 fun y H7 => ∃ acc, H7 D = some (.lst acc) ∧ acc.length < sizeLine ∧ Nx1 (upd H7 D (.lst (acc ++ [y]))) else Nx1 H6)
        else Nx H3) := by
  refine ⟨fun i m H => i + m = n ∧ Pv i H, ⟨n, by omega, h0⟩, ?_⟩
  rintro i m H ⟨e, p⟩
  have q := hG i H (by omega) p
  by_cases hi : i < n
  · exact .inr ⟨w.goes i H hi q, Pv (i + 1), fun H' p' => ⟨n - (i + 1), by omega, by omega, p'⟩, fun x H' y => hs i x H H' hi p (w.yields i H x H' hi q y)⟩
  · have z : i = n := by omega
    subst z
    exact .inl ⟨w.stops H q, hd H p⟩
/-- the inner clause's walk -/
theorem lc_in {J : It} {n : Nat} {G : Hp → Prop} {Y : Nat → Hp → V → Hp → Prop} (w : Walk J n G Y) {g : TG} {tt : TT} {te : TE} {vs : List Nat} {σ : L2.St} {H4 : Hp} {D : Addr} {Qd : Hp → Prop} (Pv : Nat → Hp → Prop)
    (h0 : Pv 0 H4) (hG : ∀ i H, i ≤ n → Pv i H → G H)
    (hs : ∀ i x H H', i < n → Pv i H → Y i H x H' → g x (wipe σ vs) H' fun σ2 H2 => wipe σ2 vs = wipe σ vs ∧ tt σ2 H2 fun b H3 =>
      if b = true then te σ2 H3 fun y H4 => ∃ acc, H4 D = some (.lst acc) ∧ acc.length < sizeLine ∧ Pv (i + 1) (upd H4 D (.lst (acc ++ [y]))) else Pv (i + 1) H3) (hd : ∀ H, Pv n H → Qd H) :
    ∃ W : Nat → Nat → Hp → Prop, (∃ m, W 0 m H4) ∧ ∀ i m H, W i m H →
      (J.stop i H ∧ Qd H) ∨ (J.go i H ∧ ∃ Nx : Hp → Prop, (∀ H', Nx H' → ∃ m', m' < m ∧ W (i + 1) m' H') ∧ ∀ x H', J.yld i H x H' → g x (wipe σ vs) H' fun σ2 H2 => wipe σ2 vs = wipe σ vs ∧ tt σ2 H2 fun b H3 =>
        if b = true then te σ2 H3 fun y H4 => ∃ acc, H4 D = some (.lst acc) ∧ acc.length < sizeLine ∧ Nx (upd H4 D (.lst (acc ++ [y]))) else Nx H3) := by
  refine ⟨fun i m H => i + m = n ∧ Pv i H, ⟨n, by omega, h0⟩, ?_⟩
  rintro i m H ⟨e, p⟩
  have q := hG i H (by omega) p
  by_cases hi : i < n
  · exact .inr ⟨w.goes i H hi q, Pv (i + 1), fun H' p' => ⟨n - (i + 1), by omega, by omega, p'⟩, fun x H' y => hs i x H H' hi p (w.yields i H x H' hi q y)⟩
  · have z : i = n := by omega
    subst z
    exact .inl ⟨w.stops H q, hd H p⟩
/-! ### pairs of a text and an int, wherever they stand -/
def PrT (K : PySem.W.Frag) (H : Hp) (v : V) (q : Str × Int) : Prop := ∃ a, v = .ref a ∧ SqT K H a [.str q.1, .int q.2]
inductive PrTs (K : PySem.W.Frag) (H : Hp) : List V → List (Str × Int) → Prop
  | nil : PrTs K H [] []
  | cons {v : V} {vs : List V} {q : Str × Int} {qs : List (Str × Int)} : PrT K H v q → PrTs K H vs qs → PrTs K H (v :: vs) (q :: qs)
section
variable {K : PySem.W.Frag} {H H' : Hp}
theorem PrTs.same (s : Same H H') {vs : List V} {qs : List (Str × Int)} (p : PrTs K H vs qs) : PrTs K H' vs qs := by
  induction p with
  | nil => exact .nil
  | cons h _ ih =>
    obtain ⟨a, e, h⟩ := h
    exact .cons ⟨a, e, Same.seqT s h⟩ ih
theorem PrTs.len {vs : List V} {qs : List (Str × Int)} (p : PrTs K H vs qs) : vs.length = qs.length := by
  induction p with
  | nil => rfl
  | cons _ _ ih => simp [ih]
theorem PrTs.get {vs : List V} {qs : List (Str × Int)} (p : PrTs K H vs qs) : ∀ {i : Nat} {v : V}, vs[i]? = some v → ∃ q, qs[i]? = some q ∧ PrT K H v q := by
  induction p with
  | nil => intro i v h; simp at h
  | cons h' _ ih =>
    intro i b hb
    cases i with
    | zero => simp at hb; subst hb; exact ⟨_, rfl, h'⟩
    | succ i => exact ih (by simpa using hb)
theorem PrTs.snoc {vs : List V} {qs : List (Str × Int)} {v : V} {q : Str × Int} (p : PrTs K H vs qs) (h : PrT K H v q) : PrTs K H (vs ++ [v]) (qs ++ [q]) := by
  induction p with
  | nil => exact .cons h .nil
  | cons h' _ ih => exact .cons h' ih
end
/-! ### rows: tuples of ints, each with its own address -/
inductive Rws (H : Hp) : List Addr → List (List Int) → Prop
  | nil : Rws H [] []
  | cons {a : Addr} {as : List Addr} {r : List Int} {rs : List (List Int)} : H a = some (.tup (r.map V.int)) → Rws H as rs → Rws H (a :: as) (r :: rs)
section
variable {H H' : Hp}
theorem Rws.same {as : List Addr} {rs : List (List Int)} (s : ∀ b o, b ∈ as → H b = some o → H' b = some o) (p : Rws H as rs) : Rws H' as rs := by
  induction p with
  | nil => exact .nil
  | cons h _ ih => exact .cons (s _ _ (List.mem_cons_self ..) h) (ih fun b o hb => s b o (List.mem_cons_of_mem _ hb))
theorem Rws.snoc {as : List Addr} {rs : List (List Int)} {a : Addr} {r : List Int} (p : Rws H as rs) (h : H a = some (.tup (r.map V.int))) : Rws H (as ++ [a]) (rs ++ [r]) := by
  induction p with
  | nil => exact .cons h .nil
  | cons h' _ ih => exact .cons h' ih
theorem Rws.length {as : List Addr} {rs : List (List Int)} (p : Rws H as rs) : as.length = rs.length := by
  induction p with
  | nil => rfl
  | cons _ _ ih => simp [ih]
theorem Rws.get {as : List Addr} {rs : List (List Int)} (p : Rws H as rs) : ∀ {i : Nat} {a : Addr}, as[i]? = some a → ∃ r, rs[i]? = some r ∧ H a = some (.tup (r.map V.int)) := by
  induction p with
  | nil => intro i a h; simp at h
  | cons h' _ ih =>
    intro i b hb
    cases i with
    | zero => simp at hb; subst hb; exact ⟨_, rfl, h'⟩
    | succ i => exact ih (by simpa using hb)
end
/-! ### all standings, by the settings -/
/-- each row with each value behind it -/
def widen (rs : List (List Int)) (n : Nat) : List (List Int) := rs.flatMap fun r => (List.range n).map fun (v : Nat) => r ++ [(v : Int)]
def grid (qs : List (Str × Int)) : List (List Int) := qs.foldl (fun rs q => widen rs (q.2 + 1).toNat) [[]]
theorem widen_len (rs : List (List Int)) (n : Nat) : (widen rs n).length = rs.length * n := by
  unfold widen
  induction rs with
  | nil => simp
  | cons r rs ih => rw [List.flatMap_cons, List.length_append, ih, List.length_map, List.length_range, List.length_cons, Nat.succ_mul, Nat.add_comm]
end Ms
namespace Ms
open PySem PySem.Spec PyProof.Rows L2
/-! ### the package's settings: is_int, is_name, is_setting, names_of, grid_of -/
structure TxtP (mg : Str → Option Value) (fI fN fS fA fG : Addr) : Prop where
  isi : mg "isinstance" = none
  int : mg "int" = none
  bool : mg "bool" = none
  str : mg "str" = none
  tuple : mg "tuple" = none
  len : mg "len" = none
  all : mg "all" = none
  range : mg "range" = none
  enumerate : mg "enumerate" = none
  mS : ∃ t, mg "MOST_SETTINGS" = some (.int 3 t)
  mV : ∃ t, mg "MOST_VALUE" = some (.int 3 t)
  mT : ∃ t, mg "MOST_STANDINGS" = some (.int 12 t)
  lN : ∃ t, mg "LONGEST_NAME" = some (.int 8 t)
  gI : mg "is_int" = some (.ref fI)
  gN : mg "is_name" = some (.ref fN)
  gS : mg "is_setting" = some (.ref fS)
  gA : mg "names_of" = some (.ref fA)
  gG : mg "grid_of" = some (.ref fG)
def isInt (d : PyData) : Bool := match d with | .int _ => true | _ => false
section
variable {P : Program} {w : World} {K : PySem.W.Frag} {mg : Str → Option Value} {base : Heap} {fI fN fS fA fG : Addr}
theorem scPi : FnScope ["thing"] ["thing"] (defScope sPInt) := ⟨rfl, rfl, rfl, by decide +kernel, rfl, by decide +kernel, by decide +kernel⟩
def spPInt (K : PySem.W.Frag) : Sp := fun vs H Q _ => ∃ (m l : Addr) (v : V) (d : PyData), vs = [v] ∧ Dq K H m l v d ∧ Q (.bl (isInt d)) H
theorem ok_pint {f : Addr} {fd : FuncData} (F : Fun K "is_int" "is_int" sPInt f fd) (T : TxtP mg fI fN fS fA fG) : FnOk P w K mg base CX0 1 f fd ["thing"] (spPInt K) := by
  refine F.ok scPi (fun vs H Q E h => ?_) (fun cdv A outer s H vs Q E hr h => ?_)
  · obtain ⟨m, l, v, d, rfl, _⟩ := h
    rfl
  · obtain ⟨m, l, v, d, rfl, hd, q⟩ := h
    refine ⟨_, pss_one (ps_ret (pe_and (pe_callB call_isi (by rfl) T.isi PyProof.Rows.boot_isinstance (pa_cons (pv 0) (pa_cons (pe_bltn (v := .ty "int") (u := .type "int") (by rfl) T.int (by decide +kernel) rfl) pa_nil)))
      (pe_one (pe_not (pe_callB call_isi (by rfl) T.isi PyProof.Rows.boot_isinstance (pa_cons (pv 0) (pa_cons (pe_bltn (v := .ty "bool") (u := .type "bool") (by rfl) T.bool (by decide +kernel) rfl) pa_nil))))))), ?_⟩
    refine ⟨_, rfl, v, .ty "int", _, _, _, rfl, .ty _, hd.ty, isi_int K d, _, rfl, ?_⟩
    cases d with
    | int j =>
      cases hd
      exact ifT rfl ⟨_, rfl, .int j, .ty "bool", _, _, _, rfl, .ty _, .base (.int j), isi_bool K (.int j), _, rfl, q⟩
    | bool j =>
      cases hd
      exact ifT rfl ⟨_, rfl, .bl j, .ty "bool", _, _, _, rfl, .ty _, .base (.bl j), isi_bool K (.bool j), _, rfl, q⟩
    | _ => exact ifF rfl q
def lowB (c : Nat) : Bool := decide (97 ≤ c) && decide (c ≤ 122)
theorem lowB_alpha (c : Nat) : decide (c ∈ alpha.cps.toList) = lowB c := by
  rw [alpha_list, Bool.eq_iff_iff]
  simp only [decide_eq_true_eq, lowB, Bool.and_eq_true, List.mem_cons, List.mem_nil_iff, or_false]
  omega
theorem low_alpha : ∀ c, c < 128 → lowB c = true → Unicode.isAlpha c = true := by decide +kernel
theorem low_lower : ∀ c, c < 128 → lowB c = true → Unicode.isLower c = true := by decide +kernel
theorem low_upper : ∀ c, c < 128 → lowB c = true → (Unicode.isUpper c || Unicode.isTitle c) = false := by decide +kernel
theorem alpha_low : ∀ c, c < 128 → Unicode.isAlpha c = true → (Unicode.isUpper c || Unicode.isTitle c) = false → lowB c = true := by decide +kernel
theorem low_all (z : Str) : (Txt.isascii z && (Txt.isalpha z && Txt.islower z)) = (decide (1 ≤ z.length) && z.cps.toList.all lowB) := by
  have e1 : Txt.isascii z = z.cps.toList.all (fun c => decide (c < 128)) := by unfold Txt.isascii; rw [← Array.all_toList]
  have e2 : Txt.isalpha z = (decide (1 ≤ z.length) && z.cps.toList.all Unicode.isAlpha) := by unfold Txt.isalpha; rw [← Array.all_toList]; rfl
  have e3 : Txt.islower z = (z.cps.toList.any Unicode.isLower && !z.cps.toList.any fun c => Unicode.isUpper c || Unicode.isTitle c) := by unfold Txt.islower; rw [← Array.any_toList, ← Array.any_toList]
  have ln : z.length = z.cps.toList.length := by rw [Array.length_toList]; rfl
  rw [e1, e2, e3, ln]
  generalize z.cps.toList = l
  rw [Bool.eq_iff_iff]
  constructor
  · intro h
    simp only [Bool.and_eq_true, List.all_eq_true, Bool.not_eq_true', decide_eq_true_eq] at h ⊢
    obtain ⟨ha, ⟨h1, hb⟩, _, hu⟩ := h
    refine ⟨h1, fun c hc => alpha_low c (ha c hc) (hb c hc) ?_⟩
    cases hx : (Unicode.isUpper c || Unicode.isTitle c) with
    | false => rfl
    | true =>
      have : (l.any fun c => Unicode.isUpper c || Unicode.isTitle c) = true := List.any_eq_true.mpr ⟨c, hc, hx⟩
      rw [this] at hu
      cases hu
  · intro h
    simp only [Bool.and_eq_true, List.all_eq_true, Bool.not_eq_true', decide_eq_true_eq] at h ⊢
    obtain ⟨h1, hl⟩ := h
    have lt : ∀ c ∈ l, c < 128 := fun c hc => by
      have := hl c hc
      simp only [lowB, Bool.and_eq_true, decide_eq_true_eq] at this
      omega
    refine ⟨lt, ⟨h1, fun c hc => low_alpha c (lt c hc) (hl c hc)⟩, ?_, ?_⟩
    · match l, h1 with
      | c :: r, _ => exact List.any_eq_true.mpr ⟨c, List.mem_cons_self, low_lower c (lt c List.mem_cons_self) (hl c List.mem_cons_self)⟩
    · rw [List.any_eq_false]
      intro c hc
      rw [low_upper c (lt c hc) (hl c hc)]
      decide
abbrev NPn : List Str := ["thing"]
theorem scPn : FnScope NPn ["thing"] (defScope sPName) := ⟨rfl, rfl, rfl, by decide +kernel, rfl, by decide +kernel, by decide +kernel⟩
theorem ok_pname {f : Addr} {fd : FuncData} (F : Fun K "is_name" "is_name" sPName f fd) (T : TxtP mg fI fN fS fA fG) : FnOk P w K mg base CX0 1 f fd ["thing"] (spName K) := by
  refine F.ok scPn (fun vs H Q E h => ?_) (fun cdv A outer s H vs Q E hr h => ?_)
  · obtain ⟨m, l, v, d, rfl, _⟩ := h
    rfl
  · obtain ⟨m, l, v, d, rfl, hd, hz, q⟩ := h
    obtain ⟨tl, gl⟩ := T.lN
    refine ⟨_, pss_cons (ps_if (PW.pt (pw_or (pt_not (pt_val (pe_callB call_isi (by rfl) T.isi PyProof.Rows.boot_isinstance (pa_cons (pv 0) (pa_cons (pe_bltn (v := .ty "str") (u := .type "str") (by rfl) T.str (by decide +kernel) rfl) pa_nil)))))
        (pw_or1 (pt_cmpR op_gt (pe_callB call_len (by rfl) T.len PySem.boot_len (pa_cons (pv 0) pa_nil)) (pe_glob (v := .int 8) rfl gl ⟨_, rfl⟩) (nomark _))))) (pss_one (ps_ret pe_bl)) pss_nil)
      (pss_one (ps_ret (pe_and (pe_m0 PySem.F.slot_str_isascii PySem.F.type_str_isascii mt_isascii (pv 0)) (pe_and (pe_m0 PySem.F.slot_str_isalpha PySem.F.type_str_isalpha mt_isalpha (pv 0)) (pe_one (pe_m0 PySem.F.slot_str_islower PySem.F.type_str_islower mt_islower (pv 0))))))), ?_⟩
    refine ⟨_, rfl, v, .ty "str", _, _, _, rfl, .ty _, hd.ty, isi_str K d, _, rfl, ?_⟩
    cases d with
    | str z =>
      cases hd
      have zk := hz z rfl
      have zs : z.length ≤ sizeLine := by rw [sizeLine_eq]; have := zk.1; omega
      have en : isName (.str z) = (decide (z.length ≤ 8) && (Txt.isascii z && (Txt.isalpha z && Txt.islower z))) := by
        rw [low_all]
        show ((decide (1 ≤ z.length) && decide (z.length ≤ 8)) && z.cps.toList.all fun c => decide (c ∈ alpha.cps.toList)) = _
        have ef : (fun c => decide (c ∈ alpha.cps.toList)) = lowB := funext lowB_alpha
        rw [ef]
        cases decide (1 ≤ z.length) <;> cases decide (z.length ≤ 8) <;> rfl
      refine ifF rfl ?_
      refine ⟨_, rfl, .str z, z.length, rfl, ⟨zs, rfl⟩, (z.length : Int), 8, rfl, rfl, _, rfl, ite_b (fun e8 => ?_) (fun e8 => ?_)⟩
      · have : decide (z.length ≤ 8) = false := by
          have := of_decide_eq_true e8
          exact decide_eq_false (by omega)
        rw [en, this] at q
        exact q H (fun _ _ e => e)
      · have : decide (z.length ≤ 8) = true := by
          have := of_decide_eq_false e8
          exact decide_eq_true (by omega)
        rw [en, this, Bool.true_and] at q
        refine ⟨_, rfl, ⟨_, rfl⟩, z, rfl, rfl, trivial, _, rfl, ite_b (fun ea => ?_) (fun ea => ?_)⟩
        · rw [ea, Bool.true_and] at q
          refine ⟨_, rfl, ⟨_, rfl⟩, z, rfl, rfl, trivial, _, rfl, ite_b (fun eb => ?_) (fun eb => ?_)⟩
          · rw [eb, Bool.true_and] at q
            exact ⟨_, rfl, ⟨_, rfl⟩, z, rfl, rfl, trivial, q H (fun _ _ e => e)⟩
          · rw [eb] at q
            exact q H (fun _ _ e => e)
        · rw [ea] at q
          exact q H (fun _ _ e => e)
    | _ => exact ifT rfl (ifT rfl (q H (fun _ _ e => e)))
/-! is_setting -/
abbrev NPs : List Str := ["thing", "name", "most"]
theorem scPs : FnScope NPs ["thing"] (defScope sPSet) := ⟨rfl, rfl, rfl, by decide +kernel, rfl, by decide +kernel, by decide +kernel⟩
theorem isWhole_int (d : PyData) (lo hi : Int) (h : isInt d = false) : isWhole d lo hi = false := by cases d <;> first | rfl | cases h
def spPSet (K : PySem.W.Frag) : Sp := fun vs H Q _ => ∃ (m l : Addr) (v : V) (d : PyData) (B b : Nat), vs = [v] ∧ Dq K H m l v d ∧ Gd B 100000 b d ∧ ∀ H', Same H H' → Q (.bl (oneD d).isSome) H'
theorem ok_pset {f : Addr} {fd fdI fdN : FuncData} (F : Fun K "is_setting" "is_setting" sPSet f fd) (T : TxtP mg fI fN fS fA fG) (FI : Fun K "is_int" "is_int" sPInt fI fdI) (bI : Binds K fdI ["thing"] [])
    (FN : Fun K "is_name" "is_name" sPName fN fdN) (bN : Binds K fdN ["thing"] []) : FnOk P w K mg base CX0 2 f fd ["thing"] (spPSet K) := by
  have GI : FnOk P w K mg base CX0 1 fI fdI ["thing"] (spPInt K) := ok_pint FI T
  have GN : FnOk P w K mg base CX0 1 fN fdN ["thing"] (spName K) := ok_pname FN T
  refine F.ok scPs (fun vs H Q E h => ?_) (fun cdv A outer s H vs Q E hr h => ?_)
  · obtain ⟨m, l, v, d, B, b, rfl, _⟩ := h
    rfl
  · obtain ⟨m, l, v, d, B, b, rfl, hd, gd, q⟩ := h
    obtain ⟨tv, gv⟩ := T.mV
    refine ⟨_, pss_cons (ps_if (PW.pt (pw_or (pt_not (pt_val (pe_callB call_isi (by rfl) T.isi PyProof.Rows.boot_isinstance (pa_cons (pv 0) (pa_cons (pe_bltn (v := .ty "tuple") (u := .type "tuple") (by rfl) T.tuple (by decide +kernel) rfl) pa_nil)))))
        (pw_or1 (pt_cmpR op_ne (pe_callB call_len (by rfl) T.len PySem.boot_len (pa_cons (pv 0) pa_nil)) pe_int (nomark _))))) (pss_one (ps_ret pe_bl)) pss_nil)
      (pss_cons (ps_asg (pv 0) (pg_tup rfl (pgs_cons (pg_name (i := 1) scPs.nd rfl (Or.inl rfl)) (pgs_cons (pg_name (i := 2) scPs.nd rfl (Or.inl rfl)) pgs_nil))))
      (pss_one (ps_ret (pe_and (pe_call GN hr rfl T.gN FN.kp bN .nil pass0 (pa_cons (pv 1) pa_nil)) (pe_and (pe_call GI hr rfl T.gI FI.kp bI .nil pass0 (pa_cons (pv 2) pa_nil)) (pe_one (pe_chain op_le op_le pe_int (pv 2) (pe_glob (v := .int 3) rfl gv ⟨_, rfl⟩)))))))), ?_⟩
    refine ⟨_, rfl, v, .ty "tuple", _, _, _, rfl, .ty _, hd.ty, isi_tup K d, _, rfl, ?_⟩
    cases d with
    | tuple es =>
      cases hd with
      | tup hq hy =>
        rename_i a ys
        have ly := hy.len
        refine ifF rfl ⟨_, rfl, .ref a, ys.length, rfl, .inr ⟨ys, hq, rfl⟩, rfl, _, rfl, ite_b (fun e => ?_) (fun e => ?_)⟩
        · have : oneD (.tuple es) = none := oneD_len (fun z => by
            rw [ly, z] at e
            exact absurd e (by decide))
          rw [this] at q
          exact q H (Same.refl H)
        have l2 : ys.length = 2 := by
          have q1 : decide (V.int ((ys.length : Nat) : Int) = V.int 2) = true := by simpa using e
          have q2 := of_decide_eq_true q1
          have q3 : ((ys.length : Nat) : Int) = 2 := by injection q2
          omega
        obtain ⟨y0, y1, rfl⟩ : ∃ y0 y1, ys = [y0, y1] := by
          match ys, l2 with
          | [y0, y1], _ => exact ⟨y0, y1, rfl⟩
        obtain ⟨d0, d1, rfl⟩ : ∃ d0 d1, es = [d0, d1] := by
          match es, ly with
          | [d0, d1], _ => exact ⟨d0, d1, rfl⟩
        obtain ⟨q0, q1⟩ : Dq K H m l y0 d0 ∧ Dq K H m l y1 d1 := by
          cases hy with
          | cons h0 h1 => cases h1 with | cons h1 _ => exact ⟨h0, h1⟩
        obtain ⟨c2, eb2, g2⟩ := Gd.untup gd
        have w0 : ∀ z, d0 = .str z → sOk 100000 z := fun z ez => by
          have gz := g2.at (i := 0) (d := d0) rfl
          rw [ez] at gz
          have ww := g2.wt
          refine gz.unstr.mono ?_
          rw [ez] at ww
          simp only [PyData.weightAll, PyData.weight] at ww ⊢
          omega
        refine ⟨_, rfl, a, _, rfl, hq, rfl, _, _, rfl, _, _, rfl, rfl, ?_⟩
        refine ⟨_, rfl, m, l, y0, d0, rfl, q0, w0, fun H3 s3 => ⟨_, rfl, ite_b (fun e => ?_) (fun e => ?_)⟩⟩
        · have hn : isName d0 = true := e
          refine ⟨_, rfl, m, l, y1, d1, rfl, Dq.same s3 d1 y1 q1, _, rfl, ite_b (fun e => ?_) (fun e => ?_)⟩
          · obtain ⟨j, rfl⟩ : ∃ j, d1 = .int j := by
              cases d1 <;> first | exact ⟨_, rfl⟩ | cases e
            cases q1
            refine ⟨_, rfl, 1, j, rfl, rfl, _, rfl, ite_b (fun e => ⟨j, 3, rfl, rfl, ?_⟩) (fun e => ?_)⟩
            · have ew : (oneD (.tuple [d0, .int j])).isSome = decide (j ≤ 3) := by
                cases hw : isWhole (.int j) 1 3 with
                | true =>
                  obtain ⟨z, c, _, ec, c1, c3, eo⟩ := oneD_ok hn hw
                  cases ec
                  rw [eo]; simp [c3]
                | false =>
                  rw [oneD_whole hw]
                  have z : (decide (1 ≤ j) && decide (j ≤ 3)) = false := hw
                  rw [e, Bool.true_and] at z
                  rw [z]; rfl
              rw [ew] at q
              exact q _ s3
            · have hw : isWhole (.int j) 1 3 = false := by show (decide (1 ≤ j) && decide (j ≤ 3)) = false; rw [e]; rfl
              rw [oneD_whole hw] at q
              exact q _ s3
          · rw [oneD_whole (isWhole_int d1 1 3 e)] at q
            exact q _ s3
        · rw [oneD_name e] at q
          exact q _ s3
    | _ => exact ifT rfl (q H (Same.refl H))
/-! names_of -/
abbrev NPa : List Str := ["settings", "name", "most"]
theorem scPa : FnScope NPa ["settings"] (defScope sPNames) := ⟨rfl, rfl, rfl, by decide +kernel, rfl, by decide +kernel, by decide +kernel⟩
def spPNames (K : PySem.W.Frag) : Sp := fun vs H Q _ => ∃ (a : Addr) (xs : List V) (qs : List (Str × Int)), vs = [.ref a] ∧ SqT K H a xs ∧ PrTs K H xs qs ∧ qs.length ≤ 900 ∧
  ∀ D, H D = none → ∀ H', Same H H' → H' D = some (.lst ((qs.map (·.1)).map V.str)) → Q (.ref D) H'
theorem ok_pnames {f : Addr} {fd : FuncData} (F : Fun K "names_of" "names_of" sPNames f fd) : FnOk P w K mg base CX0 1 f fd ["settings"] (spPNames K) := by
  refine F.ok scPa (fun vs H Q E h => ?_) (fun cdv A outer s H vs Q E hr h => ?_)
  · obtain ⟨a, xs, qs, rfl, _⟩ := h
    rfl
  · obtain ⟨a, xs, qs, rfl, hs, hp, hl, q⟩ := h
    refine ⟨_, pss_one (ps_ret (pe_lc (own := [("name", 1), ("most", 2)]) (g := gTup K 2 (gCons (gName 1) (gCons (gName 2) gNil))) (by rfl) scPa.nd (pi_tup (pv 0)) (blkOk_by (own := [("name", 1), ("most", 2)]) (N := NPa) (sc := defScope sPNames) (by decide +kernel))
        (fun _ _ _ _ _ => pg_tup rfl (pgs_cons (pg_name (i := 1) scPa.nd rfl (Or.inl rfl)) (pgs_cons (pg_name (i := 2) scPa.nd rfl (Or.inl rfl)) pgs_nil))) (fun _ _ _ _ _ => pts_nil) (fun _ _ _ _ _ => pv 1))), ?_⟩
    have ll := hp.len
    refine ⟨_, rfl, a, rfl, ⟨_, hs⟩, fun D hD => ?_⟩
    refine lc_it (walk_tup (xs := xs)) (fun i H3 => H3 = upd H D (.lst (((qs.take i).map (·.1)).map V.str))) rfl (fun i H3 _ e3 => by rw [e3]; exact Same.seqT (Same.upd hD) hs) ?_ ?_
    · rintro i x H3 H4 hi e3 ⟨rfl, hx⟩
      obtain ⟨qq, hq, b, rfl, hb⟩ := hp.get hx
      have hb3 : SqT K H4 b [.str qq.1, .int qq.2] := by rw [e3]; exact Same.seqT (Same.upd hD) hb
      have ti : qs.take (i + 1) = qs.take i ++ [qq] := by rw [List.take_succ, hq]; rfl
      refine ⟨b, _, rfl, hb3, rfl, _, _, rfl, _, _, rfl, rfl, rfl, tyes ⟨_, rfl, _, by rw [e3]; exact upd_same, small1000 (by rw [List.length_map, List.length_map, List.length_take]; omega), ?_⟩⟩
      show upd H4 D _ = _
      rw [e3, upd_upd, ti, List.map_append, List.map_append]
      rfl
    · rintro H3 e3
      rw [List.take_of_length_le (by omega)] at e3
      exact q D hD H3 (e3 ▸ Same.upd hD) (by rw [e3, upd_same])
/-! grid_of -/
abbrev NPg : List Str := ["settings", "rows", "name", "most", "row", "value"]
theorem scPg : FnScope NPg ["settings"] (defScope sPGrid) := ⟨rfl, rfl, rfl, by decide +kernel, rfl, by decide +kernel, by decide +kernel⟩
def spPGrid (K : PySem.W.Frag) : Sp := fun vs H Q _ => ∃ (a : Addr) (xs : List V) (qs : List (Str × Int)), vs = [.ref a] ∧ SqT K H a xs ∧ PrTs K H xs qs ∧ qs.length ≤ 3 ∧ (∀ q ∈ qs, 1 ≤ q.2 ∧ q.2 ≤ 3) ∧
  ∀ D as H', H D = none → Same H H' → H' D = some (.lst (as.map V.ref)) → Rws H' as (grid qs) → (∀ b ∈ as, H b = none) → Q (.ref D) H'
theorem fold_row {k : Nat} : ∀ (qs : List (Str × Int)) (rs : List (List Int)) (k : Nat), (∀ r ∈ rs, r.length = k) → ∀ r ∈ qs.foldl (fun rs q => widen rs (q.2 + 1).toNat) rs, r.length = k + qs.length
  | [], rs, k, h => fun r hr => h r hr
  | q :: qs, rs, k, h => fun r hr => by
    have z := fold_row (k := k) qs (widen rs (q.2 + 1).toNat) (k + 1) (fun r hr => by
      unfold widen at hr
      obtain ⟨y, hy, hr⟩ := List.mem_flatMap.mp hr
      obtain ⟨v, _, rfl⟩ := List.mem_map.mp hr
      rw [List.length_append, h y hy]; rfl) r hr
    rw [z, List.length_cons]; omega
theorem grid_row (qs : List (Str × Int)) : ∀ r ∈ grid qs, r.length = qs.length := fun r hr => by
  have z := fold_row (k := 0) qs [[]] 0 (fun r hr => by rw [List.mem_singleton.mp hr]; rfl) r hr
  rw [z]; omega
structure Acc (H0 H1 H : Hp) (D : Addr) (as : List Addr) (rs : List (List Int)) : Prop where
  rws : Rws H as rs
  far : ∀ b ∈ as, b ≠ D ∧ H0 b = none
  at_ : H D = some (.lst (as.map V.ref))
  same : Same H1 H
theorem Acc.more {H0 H1 H : Hp} {D p : Addr} {as : List Addr} {rs : List (List Int)} {r : List Int} (A : Acc H0 H1 H D as rs) (s : Same H0 H1) (hD : H1 D = none) (hp : H p = none) :
    Acc H0 H1 (upd (upd H p (.tup (r.map V.int))) D (.lst (as.map V.ref ++ [.ref p]))) D (as ++ [p]) (rs ++ [r]) := by
  have nD : p ≠ D := fun e => by rw [e, A.at_] at hp; cases hp
  have sp : Same H (upd H p (.tup (r.map V.int))) := Same.upd hp
  refine ⟨Rws.snoc (Rws.same (fun b o hb e => ?_) A.rws) ?_, fun b hb => ?_, ?_, fun b o e => ?_⟩
  · rw [upd_ne (A.far b hb).1]; exact sp _ _ e
  · rw [upd_ne nD, upd_same]
  · rcases List.mem_append.mp hb with hb | hb
    · exact A.far b hb
    · rw [List.mem_singleton.mp hb]
      exact ⟨nD, Same.free s (Same.free A.same hp)⟩
  · rw [upd_same, List.map_append]; rfl
  · have nb : b ≠ D := ne_of_none e hD
    rw [upd_ne nb]; exact sp _ _ (A.same _ _ e)
theorem widen_take {rs : List (List Int)} {n i : Nat} {r : List Int} (h : rs[i]? = some r) : widen (rs.take (i + 1)) n = widen (rs.take i) n ++ (List.range n).map fun (v : Nat) => r ++ [(v : Int)] := by
  unfold widen
  rw [List.take_succ, h, List.flatMap_append]
  simp
theorem range_more {n : Nat} {r : List Int} : ((List.range (n + 1)).map fun (v : Nat) => r ++ [(v : Int)]) = ((List.range n).map fun (v : Nat) => r ++ [(v : Int)]) ++ [r ++ [(n : Int)]] := by
  rw [List.range_succ, List.map_append]; rfl
theorem ok_pgrid {f : Addr} {fd : FuncData} (F : Fun K "grid_of" "grid_of" sPGrid f fd) (T : TxtP mg fI fN fS fA fG) : FnOk P w K mg base CX0 1 f fd ["settings"] (spPGrid K) := by
  refine F.ok scPg (fun vs H Q E h => ?_) (fun cdv A outer s H vs Q E hr h => ?_)
  · obtain ⟨a, xs, qs, rfl, _⟩ := h
    rfl
  · obtain ⟨a, xs, qs, rfl, hs, hp, hl, hb, q⟩ := h
    refine ⟨_, pss_cons (ps_set (i := 1) scPg.nd rfl (by first | exact Or.inl rfl | exact Or.inr rfl) (pe_lst (pa_cons (pe_tup pa_nil) pa_nil)))
      (pss_cons (ps_for PassesOwn.never rfl (pi_tup (pv 0)) (pg_tup rfl (pgs_cons (pg_name (i := 2) scPg.nd rfl (by first | exact Or.inl rfl | exact Or.inr rfl)) (pgs_cons (pg_name (i := 3) scPg.nd rfl (by first | exact Or.inl rfl | exact Or.inr rfl)) pgs_nil)))
        (pss_one (ps_setLc2 (i := 1) (own := [("row", 4), ("value", 5)]) (vs1 := [5]) (g := gName 4) (g1 := gName 5) (tt := tYes) (tt1 := tYes) (te := tTup (StX.tStar K (tVar 4) (tCons (tVar 5) tNil))) (by rfl) scPg.nd rfl rfl (sw_true rfl rfl rfl (by decide +kernel)) (pi_list (pv 1)) (blkOk_by (own := [("row", 4), ("value", 5)]) (N := NPg) (sc := defScope sPGrid) (by decide +kernel)) (by decide)
          (fun _ _ _ _ _ => pg_name (i := 4) scPg.nd rfl (by first | exact Or.inl rfl | exact Or.inr rfl)) (fun _ _ _ _ _ => pts_nil) (fun _ _ _ _ _ => pi_range1 (by rfl) T.range (pa_cons (pe_op op_add (pv 3) pe_int) pa_nil))
          (fun _ _ _ _ _ => pg_name (i := 5) scPg.nd rfl (by first | exact Or.inl rfl | exact Or.inr rfl)) (fun _ _ _ _ _ => pts_nil) (fun _ _ _ _ _ => pe_tup (StX.pa_star (pv 4) (pa_cons (pv 5) pa_nil))))))
      (pss_one (ps_ret (pv 1)))), ?_⟩
    have ll := hp.len
    refine ⟨Nat.zero_le _, fun p0 h0 => ⟨(by show 1 ≤ sizeLine; decide), fun R0 hR0 => ?_⟩⟩
    have s0 : Same H (upd H p0 (.tup [])) := Same.upd h0
    have s1 : Same H (upd (upd H p0 (.tup [])) R0 (.lst [.ref p0])) := s0.trans (Same.upd hR0)
    have nR0 : p0 ≠ R0 := fun e => by rw [← e, upd_same] at hR0; cases hR0
    refine ⟨_, rfl, a, rfl, ⟨_, Same.seqT s1 hs⟩, ?_⟩
    have tk1 : ∀ {i : Nat} {qq : Str × Int}, qs[i]? = some qq → grid (qs.take (i + 1)) = widen (grid (qs.take i)) (qq.2 + 1).toNat := fun {i qq} hq => by
      unfold grid
      rw [List.take_succ, hq, List.foldl_append]
      rfl
    refine for_it (walk_tup (xs := xs)) (fun i σ H2 => ∃ (R : Addr) (as : List Addr) (v2 v3 : Option V), σ = [some (.ref a), some (.ref R), v2, v3, none, none] ∧ Same H H2 ∧ H R = none ∧ H2 R = some (.lst (as.map V.ref)) ∧ Rws H2 as (grid (qs.take i)) ∧ (∀ b ∈ as, H b = none) ∧ as.length ≤ 4 ^ i)
      ⟨R0, [p0], none, none, rfl, s1, Same.free s0 hR0, upd_same, ?_, ?_, Nat.le_refl _⟩ (fun i σ H2 _ ⟨R, as, v2, v3, _, s2, _⟩ => Same.seqT s2 hs) ?_ ?_
    · rw [List.take_zero]
      refine .cons ?_ .nil
      rw [upd_ne nR0, upd_same]; rfl
    · intro b hb
      rw [List.mem_singleton.mp hb]; exact h0
    · rintro i x σ H2 H3 hi ⟨R, as, v2, v3, rfl, s2, hR, gR, rw2, far, al⟩ ⟨rfl, hx⟩
      obtain ⟨qq, hq, b, rfl, hb2⟩ := hp.get hx
      have hqb := hb qq (List.mem_of_getElem? hq)
      have i3 : i < 3 := by omega
      have a16 : as.length ≤ 16 := Nat.le_trans al (by
        match i, i3 with
        | 0, _ => decide
        | 1, _ => decide
        | 2, _ => decide)
      have rl := rw2.length
      obtain ⟨rs, ers⟩ : ∃ rs, rs = grid (qs.take i) := ⟨_, rfl⟩
      rw [← ers] at rw2 rl
      obtain ⟨n, en⟩ : ∃ n : Nat, n = (qq.2 + 1).toNat := ⟨_, rfl⟩
      have n4 : n ≤ 4 := by omega
      refine ⟨b, _, rfl, Same.seqT s2 hb2, rfl, _, _, rfl, _, _, rfl, rfl, ?_⟩
      refine ⟨_, rfl, R, rfl, ⟨_, SqL.of gR⟩, fun D hD => ?_⟩
      have sD : Same H3 (upd H3 D (.lst [])) := Same.upd hD
      refine lc2_it (walk_list (xs := as.map V.ref)) (fun k H4 => ∃ as', Acc H H3 H4 D as' (widen (rs.take k) n)) ⟨[], .nil, (fun b hb => nomatch hb), upd_same, sD⟩ (fun k H4 _ ⟨as', A⟩ => SqL.of (A.same _ _ gR)) ?_ ?_
      · rintro k x H4 H5 hk ⟨as', A⟩ ⟨rfl, hxk⟩
        have hk' : k < as.length := by rw [List.length_map] at hk; exact hk
        obtain ⟨bk, hbk⟩ : ∃ bk, as[k]? = some bk := ⟨_, List.getElem?_eq_getElem hk'⟩
        have ex : x = .ref bk := by
          rw [List.getElem?_map, hbk] at hxk
          exact (Option.some.inj hxk).symm
        subst ex
        obtain ⟨r, hr2, gk⟩ := rw2.get hbk
        refine ⟨rfl, tyes ⟨_, rfl, _, _, rfl, rfl, qq.2 + 1, rfl, by omega, by omega, ?_⟩⟩
        rw [← en]
        refine lc_in walk_range (fun j H6 => ∃ as2, Acc H H3 H6 D as2 (widen (rs.take k) n ++ (List.range j).map fun (v : Nat) => r ++ [(v : Int)])) ⟨as', by simpa using A⟩ (fun _ _ _ _ => True.intro) ?_ ?_
        · rintro j y H6 H7 hj ⟨as2, A2⟩ ⟨rfl, ey⟩
          have ey' : y = .int (j : Int) := ey.trans (congrArg V.int (by omega))
          subst ey'
          have rlen : r.length ≤ 900 := by
            have z := grid_row (qs.take i) r (ers ▸ List.mem_of_getElem? hr2)
            rw [z, List.length_take]; omega
          have al2 : as2.length ≤ 100 := by
            rw [A2.rws.length, List.length_append, List.length_map, List.length_range, widen_len]
            have h1 : (rs.take k).length ≤ 16 := by rw [List.length_take]; omega
            have h2 := Nat.mul_le_mul h1 n4
            omega
          refine ⟨rfl, tyes ⟨_, rfl, bk, _, rfl, .inl (.inl (.inl (A2.same _ _ gk))), _, rfl, ?_, fun p hp7 => ?_⟩⟩
          · rw [List.length_append, List.length_map, List.length_singleton]
            exact Nat.le_of_lt (small1000 (by omega))
          have nD : D ≠ p := ne_of_none A2.at_ hp7
          have er : (r.map V.int ++ [.int (j : Int)] : List V) = (r ++ [(j : Int)]).map V.int := by rw [List.map_append]; rfl
          rw [er]
          refine ⟨_, by rw [upd_ne nD]; exact A2.at_, small1000 (by rw [List.length_map]; omega), as2 ++ [p], ?_⟩
          rw [range_more, ← List.append_assoc]
          exact A2.more s2 hD hp7
        · rintro H6 ⟨as2, A2⟩
          rw [← widen_take hr2] at A2
          exact ⟨as2, A2⟩
      · rintro H4 ⟨as', A⟩
        rw [List.length_map, List.take_of_length_le (by omega)] at A
        have l1 := A.rws.length
        refine ⟨D, as', _, _, rfl, s2.trans A.same, Same.free s2 hD, A.at_, ?_, fun b hb => (A.far b hb).2, ?_⟩
        · rw [tk1 hq, ← ers, ← en]; exact A.rws
        · rw [l1, widen_len, Nat.pow_succ, ← rl]
          exact Nat.mul_le_mul al n4
    · rintro σ H2 ⟨R, as, v2, v3, rfl, s2, hR, gR, rw2, far, al⟩
      rw [List.take_of_length_le (by omega)] at rw2
      exact ⟨_, rfl, q R as H2 hR s2 gR rw2 far⟩
end
end Ms
namespace Ms
open PySem PySem.Spec PyProof.Rows L2 LamX
/-! ### a law's own def that makes lambdas: its table of code objects is told -/
section
variable {P : Program} {w : World} {K : PySem.W.Frag} {mg : Str → Option Value} {base : Heap}
/-- as run_known, and the code object is told -/
theorem run_code {x qual : Str} {st : Stmt} {f : Addr} {fd : FuncData} {N ps : List Str} {k : Nat} (F : Fun K x qual st f fd) (S : FnScope N ps (defScope st))
    {A : Around} {outer : List Env} {s : Shared} {H : Hp} {args : Args} {us : List Value} {vs : List V} {Q : VK} {E : XK}
    (gA : A.guards = some []) (rm : Room (k + 1) A) (st0 : Env0 P w K mg base A outer s H) (bd : BindsTo s fd args (ps.zip us)) (rel : Vals vs us) (ln : vs.length = ps.length)
    (walk : ∀ cdv : Value, fd.code = cdv → Room k (A.deeper (envOfC qual (defScope st) s.heap.objs.size f cdv)) →
      ∃ t, PSs (cxOf CX0 P w K mg base N qual (defScope st) f cdv A outer s H E).nox (defBody st) t ∧ t { nx := fun _ H' => Q .non H', rt := Q } (start N vs) H) :
    codeAny (model P w) A (.call (.ref f) args) (CR CX0 outer P w H s Q E) s := by
  obtain ⟨oc, od, kV, doc, pm, an, cdv0, ct, osl, efd, atK, code⟩ := F.ex
  have ec : fd.code = cdv0 := by rw [efd]
  subst efd
  have inH : K.In s.heap := st0.mod.kin.keeps fun b o q => (st0.bs b o q).1
  have noLim : s.heap.NoLimit := st0.mod.nolimit.keeps fun b o q => (st0.bs b o q).1
  have kinds : ∀ y ∈ ps.zip us, (defScope st).names.lookup y.1 = some .local ∨ ((defScope st).names.lookup y.1 = some .cell ∧ ((cellsFrom (s.heap.objs.size + 1) (defScope st).names []).lookup y.1).isSome = true) := by
    rintro ⟨n, v⟩ hy
    rcases S.par n (List.of_mem_zip hy).1 with z | z
    · exact Or.inl z
    · exact Or.inr ⟨z, PySem.W.cellsFrom_some _ _ _ (.inl z)⟩
  refine codeAny_call_function rm.depth (inH _ _ atK) rfl S.co S.gen rfl (PySem.W.codeRec_of inH code) (bd _ _ _ _ ?_)
  refine wpAny_newFunctionEnv_cells S.kind kinds fun env eq s1 inC => ?_
  subst eq
  refine And.intro (noLim.keeps inC.toInCall.keep) (codeAny_func ?_)
  obtain ⟨t, derives, reads⟩ := walk cdv0 ec (rm.deeper _)
  have I := inv_start (CX := CX0) (P := P) (mg := mg) (base := base) (E := E) S rm.hd st0 ln rel inC
  refine wpAny_mono (derives.nox.run [] s1 (start N vs) H _ I reads) (fun fl s' hs => ?_) fun e s' hs => hs
  cases fl with
  | ret u =>
    obtain ⟨v, σ', H', J, rv, q⟩ := hs
    exact ⟨v, H', J.os, J.bare, J.base, J.hok, rv, q⟩
  | next =>
    obtain ⟨σ', H', J, q⟩ := hs
    exact ⟨V.non, H', J.os, J.bare, J.base, J.hok, rfl, q⟩
  | brk => obtain ⟨_, _, _, q⟩ := hs; exact q.elim
  | cont => obtain ⟨_, _, _, q⟩ := hs; exact q.elim

/-- as LawRun; c the law's code object, T its table, empty as yet -/
def LawRunT (P : Program) (w : World) (K : PySem.W.Frag) (mg : Str → Option Value) (fa c T : Addr) : Prop :=
  ∀ (base : Heap) (H : Hp) (s : Shared) (a : Addr) (ns : List Int), K.In base → base.Ns mainGlobals mg → TabB base mg c T → H T = some (.tbl #[]) → SqL K H a (ns.map V.int) → ns.length ≤ 63 → Env0 P w K mg base callerA [] s H →
    codeAny (model P w) callerA (.call (.ref fa) ⟨[.ref a], []⟩) (CR CX0 [] P w H s (fun v _ => v = .bl true) fun _ _ _ => False) s
/-- the script and the table stand alone in the heap that is told -/
structure AloneT (H : Hp) (h : Heap) (K : PySem.W.Frag) (a T : Addr) : Prop where
  only : ∀ b, H b = none ∨ b = T ∨ ∃ ob xs, H b = some (.frz ob (.lst xs))
  here : ∀ b, H b ≠ none → b = a ∨ b = T
  off : H a ≠ none → K.lookup a = none
  offT : K.lookup T = none
  tab : h.get? T = some { cls := .none, data := .fields #[] }
  told : H T = some (.tbl #[])
section
variable {H : Hp} {h : Heap} {a c T : Addr} {vs : Array Value}
theorem AloneT.hidden (x : AloneT H h K a T) (ea : h.get? a = some { cls := .type "list", data := .seq vs }) {b : Addr} {o : Obj} (e : h.get? b = some o) (d1 : o.data ≠ .seq vs) (d2 : o.data ≠ .fields #[]) : H b = none := by
  cases q : H b with
  | none => rfl
  | some u =>
    rcases x.here b (by rw [q]; exact fun z => nomatch z) with z | z
    · subst z
      rw [ea] at e
      cases e
      exact absurd rfl d1
    · subst z
      rw [x.tab] at e
      cases e
      exact absurd rfl d2
theorem AloneT.get (x : AloneT H h K a T) (ea : h.get? a = some { cls := .type "list", data := .seq vs }) {b : Addr} {o : Obj} (e : h.get? b = some o) (d1 : o.data ≠ .seq vs) (d2 : o.data ≠ .fields #[]) : (hidT h H).get? b = some o := hidT_get e (x.hidden ea e d1 d2)
theorem AloneT.ns (x : AloneT H h K a T) (ea : h.get? a = some { cls := .type "list", data := .seq vs }) {b : Addr} {m : Str → Option Value} (n : h.Ns b m) : (hidT h H).Ns b m := by
  obtain ⟨o, es, ep, e, d, r⟩ := n
  refine ⟨o, es, ep, x.get ea e ?_ ?_, d, r⟩ <;> (rw [d]; intro z; cases z)
theorem AloneT.kin (x : AloneT H h K a T) (X : K.In h) : K.In (hidT h H) := fun b o e => by
  refine hidT_get (X b o e) ?_
  cases q : H b with
  | none => rfl
  | some u =>
    rcases x.here b (by rw [q]; exact fun z => nomatch z) with z | z
    · subst z
      rw [x.off (by rw [q]; exact fun z => nomatch z)] at e
      cases e
    · subst z
      rw [x.offT] at e
      cases e
theorem AloneT.hd (x : AloneT H h K a T) (ea : h.get? a = some { cls := .type "list", data := .seq vs }) (C : PySem.W.CodeHd h c T) : PySem.W.CodeHd (hidT h H) c T := by
  obtain ⟨o, us, f, tf, g, tg, inF, n, tt, e, r1, r2, r3, r⟩ := C
  refine ⟨o, us, f, tf, g, tg, inF, n, tt, x.get ea e ?_ ?_, r1, r2, r3, r⟩
  · rw [r2]; intro z; cases z
  · intro z
    rw [r2] at z
    cases z
    simp at r3
end
theorem law_told {fa a c T : Addr} {s : Shared} {vs : List Value} {ns : List Int} {mb : Str → Option Value} {H : Hp} (R : LawRunT P w K mg fa c T) (al : AloneT H s.heap K a T)
    (X : K.In s.heap) (g : s.heap.Ns mainGlobals mg) (b : s.heap.Ns builtinsNs mb) (bb : ∀ x : Str, x ≠ "__name__" → mb x = bootBuiltins x) (lim : s.heap.NoLimit) (gs : s.gens = #[]) (C : PySem.W.CodeHd s.heap c T)
    (bm : ∃ (bm : Addr) (ob : Obj), mg "__builtins__" = some (.ref bm) ∧ bm ≠ builtinsNs ∧ s.heap.get? bm = some ob ∧ ob.cls = .type "module" ∧ ob.dict = some builtinsNs ∧ ob.data = .plain)
    (ea : s.heap.get? a = some { cls := .type "list", data := .seq vs.toArray }) (hS : SqL K H a (ns.map V.int)) (hl : ns.length ≤ 63) (ok : HOk P w H s.heap) :
    codeAny (model P w) callerA (.call (.ref fa) ⟨[.ref a], []⟩) (fun r s' => r = .ok (.ret (.bool true)) ∧ OldK s.heap s'.heap ∧ s'.os = s.os ∧ AllBare s'.gens) s := by
  have gT : mainGlobals ≠ T := fun z => by
    obtain ⟨o, es, ep, e, d, _⟩ := g
    rw [z, al.tab] at e
    cases e
    cases d
  have M : L2.Mod K mg (hidT s.heap H) := by
    refine ⟨al.kin X, al.ns ea g, ⟨mb, al.ns ea b, bb⟩, ?_⟩
    obtain ⟨mc, l1, l2⟩ := lim
    exact ⟨mc, al.ns ea l1, l2⟩
  have TB : TabB (hidT s.heap H) mg c T := by
    refine ⟨al.hd ea C, ?_, gT⟩
    obtain ⟨q, ob, b1, b2, b3, b4, b5, b6⟩ := bm
    have nG : q ≠ mainGlobals := fun z => by
      obtain ⟨o, es, ep, e, d, _⟩ := g
      rw [z, e] at b3
      cases b3
      rw [d] at b6
      cases b6
    have nT : q ≠ T := fun z => by
      rw [z, al.tab] at b3
      cases b3
      cases b6
    refine ⟨q, ob, b1, b2, nG, nT, al.get ea b3 ?_ ?_, b4, b5, b6⟩ <;> (rw [b6]; intro z; cases z)
  have st0 : Env0 P w K mg (hidT s.heap H) callerA [] s H := by
    refine ⟨rfl, M, fun b o e => of_hidT e, Nat.le_of_eq (hidT_size _ _), trivial, fun b hb => ?_, ok, AllBare.of_eq gs⟩
    cases (show b ∈ ([] : List Addr) from hb)
  refine codeAny_mono (R _ H s a ns M.kin M.glob TB al.told hS hl st0) fun r s' q => ?_
  match r, q with
  | .error e, q => exact False.elim q
  | .ok (.next), q => exact False.elim q
  | .ok (.brk), q => exact False.elim q
  | .ok (.cont), q => exact False.elim q
  | .ok (.ret u), q =>
    obtain ⟨v, H', eos, bare, un, ok', rv, qv⟩ := q
    have qv' : v = .bl true := qv
    subst qv'
    obtain rfl : u = Value.bool true := rv
    obtain ⟨more, hm⟩ := un.tbls T #[] al.told
    have eT : s'.heap.get? T = some { cls := .none, data := .fields (#[] ++ more) } := ok' T _ hm
    have other : ∀ b o, b ≠ T → s.heap.get? b = some o → s'.heap.get? b = some o := fun b o nb e => by
      rcases al.only b with z | z | ⟨ob, xs, z⟩
      · exact un.keep b o e z (fun y => by cases (show b ∈ ([] : List Addr) from y)) (by simp)
      · exact absurd z nb
      · have h1 := (ok b _ z).1
        have h2 := (ok' b _ (un.frzs b ob _ z)).1
        rw [e] at h1
        cases h1
        exact h2
    refine And.intro rfl (And.intro ⟨fun b o e => ?_, fun b o e => ?_⟩ (And.intro eos bare))
    · by_cases hb : b = T
      · subst hb
        rw [al.tab] at e
        cases e
        exact .inr (.inl ⟨(C.tab al.tab).isCodeTable, rfl, #[], more, rfl, eT⟩)
      · exact .inl (other b o hb e)
    · by_cases hb : b = T
      · subst hb
        exact ⟨_, eT⟩
      · exact ⟨o, other b o hb e⟩
theorem law_tabled {fa a c T : Addr} {s : Shared} {vs : List Value} {ns : List Int} {mb : Str → Option Value} (R : LawRunT P w K mg fa c T)
    (X : K.In s.heap) (g : s.heap.Ns mainGlobals mg) (b : s.heap.Ns builtinsNs mb) (bb : ∀ x : Str, x ≠ "__name__" → mb x = bootBuiltins x) (lim : s.heap.NoLimit) (gs : s.gens = #[]) (C : PySem.W.CodeHd s.heap c T)
    (bm : ∃ (bm : Addr) (ob : Obj), mg "__builtins__" = some (.ref bm) ∧ bm ≠ builtinsNs ∧ s.heap.get? bm = some ob ∧ ob.cls = .type "module" ∧ ob.dict = some builtinsNs ∧ ob.data = .plain)
    (et : s.heap.get? T = some { cls := .none, data := .fields #[] }) (nt : K.lookup T = none)
    (ea : s.heap.get? a = some { cls := .type "list", data := .seq vs.toArray }) (hi : IntsAre vs ns) (hl : ns.length ≤ 63) :
    codeAny (model P w) callerA (.call (.ref fa) ⟨[.ref a], []⟩) (fun r s' => r = .ok (.ret (.bool true)) ∧ OldK s.heap s'.heap ∧ s'.os = s.os ∧ AllBare s'.gens) s := by
  have rel := vals_ints hi
  have ll := hi.length
  have hl2 : ns.length ≤ sizeLine := Nat.le_trans hl (by decide)
  have naT : a ≠ T := fun z => by
    rw [z, et] at ea
    cases ea
  cases lk : K.lookup a with
  | some o =>
    have e := X a o lk
    rw [ea] at e
    cases e
    let H0 : Hp := fun b => if b = T then some (.tbl #[]) else Option.none
    have hT : H0 T = some (.tbl #[]) := if_pos rfl
    have hN : ∀ b, b ≠ T → H0 b = none := fun b hb => if_neg hb
    refine law_told (H := H0) R ⟨fun b => ?_, fun b z => ?_, fun z => absurd (hN a naT) z, nt, et, hT⟩ X g b bb lim gs C bm ea ?_ hl (fun b u z => ?_)
    · by_cases hb : b = T
      · exact .inr (.inl hb)
      · exact .inl (hN b hb)
    · by_cases hb : b = T
      · exact .inr hb
      · exact absurd (hN b hb) z
    · refine .inr ⟨_, vs.toArray, _, lk, rfl, rfl, rfl, ?_, by simpa using rel⟩
      rw [List.size_toArray, ll]
      exact hl2
    · by_cases hb : b = T
      · subst hb
        rw [hT] at z
        cases z
        exact et
      · rw [hN b hb] at z
        cases z
  | none =>
    let o0 : HO := .frz { cls := .type "list", data := .seq vs.toArray } (.lst (ns.map V.int))
    let H0 : Hp := fun b => if b = a then some o0 else if b = T then some (.tbl #[]) else Option.none
    have hA : H0 a = some o0 := if_pos rfl
    have hT : H0 T = some (.tbl #[]) := (if_neg (Ne.symm naT)).trans (if_pos rfl)
    have hN : ∀ b, b ≠ a → b ≠ T → H0 b = none := fun b h1 h2 => (if_neg h1).trans (if_neg h2)
    refine law_told (H := H0) R ⟨fun b => ?_, fun b z => ?_, fun _ => lk, nt, et, hT⟩ X g b bb lim gs C bm ea (.inl (.inr ⟨_, hA⟩)) hl (fun b u z => ?_)
    · by_cases h1 : b = a
      · subst h1; exact .inr (.inr ⟨_, _, hA⟩)
      · by_cases hb : b = T
        · exact .inr (.inl hb)
        · exact .inl (hN b h1 hb)
    · by_cases h1 : b = a
      · exact .inl h1
      · by_cases hb : b = T
        · exact .inr hb
        · exact absurd (hN b h1 hb) z
    · by_cases h1 : b = a
      · subst h1
        rw [hA] at z
        cases z
        exact ⟨ea, by rw [List.length_map]; exact hl2, vs, _, rel, ea⟩
      · by_cases hb : b = T
        · subst hb
          rw [hT] at z
          cases z
          exact et
        · rw [hN b h1 hb] at z
          cases z
/-- the end of such a law's row -/
theorem walk_tabled {l : PySem.W.OpenLaw} {q : Program} {loose : List Str} {XP : (Str → Option Value) → Heap → Prop} {YP : World → Heap → Prop} {d : DefRec} {K : Params → PySem.W.Frag} {c T : Addr} (hn : l.most = some 63) (hdf : d.params.defaults = [])
    (hY : ∀ (w : World) (h : Heap), YP w h → (K w.params).In h) (ht : ∀ (w : World) (h : Heap), YP w h → h.get? T = some { cls := .none, data := .fields #[] }) (hc : ∀ w : World, PySem.W.codeHdIn (K w.params) c T = true) (nt : ∀ w : World, (K w.params).lookup T = none)
    (R : ∀ (w : World) (mg : Str → Option Value) (fa : Addr) (h : Heap), (K w.params).In h → h.Ns mainGlobals mg → mg d.name = some (.ref fa) → LawRunT l.prog w (K w.params) mg fa c T) :
    PySem.W.WalkO q loose XP YP l.row.toRowW d [] (fun f vs => PySem.call f vs) := by
  refine Att.attach_call hn hdf fun w s₀ s₁ mg mb fa o pm cd doc a vs ns G Y ho hd hcd hmg hobj hints hlen hg => ?_
  have KX := hY w _ Y
  exact law_tabled (R w mg fa _ KX G.T.g hmg) KX G.T.g G.T.b G.T.builtins G.T.nolimit hg (PySem.W.codeHd_of_K KX (hc w)) G.T.bmain (ht w _ Y) (nt w) hobj hints hlen
end
end Ms
namespace Ms
open PySem PySem.Spec PyProof.Rows L2
/-! ### BadSettings(e) and need_settings -/
structure ErrC (K : PySem.W.Frag) (C fE : Addr) : Prop where
  ox : OexC K C
  ini : PySem.W.findIn K (.ref C) "__init__" = some (some (.ref fE))
  ty : PySem.W.typeIn K (.ref fE) = some (.type "function")
  no : PySem.W.findIn K (.ref C) "place" = some none
def spIni (C : Addr) : Sp := fun vs H Q _ => ∃ (a : Addr) (y : V), vs = [.ref a, y] ∧ H a = some (exo a C none) ∧ ∀ dx, H dx = none → dx ≠ a → Q .non (upd (upd H dx (exd dx [("place", y)])) a (exo a C (some dx)))
def needV (d : PyData) : Option V := match d with
  | .tuple ds => if 1 ≤ ds.length ∧ ds.length ≤ 3 then (match dueGo 0 [] 1 ds with | .inl p => some (.int (p : Nat)) | .inr many => if many ≤ 12 then none else some (.str "many")) else some .non
  | _ => some .non
def spNeed (K : PySem.W.Frag) (C : Addr) : Sp := fun vs H Q E => ∃ (m l : Addr) (v : V) (d : PyData) (B b : Nat), vs = [v] ∧ Dq K H m l v d ∧ Gd B 100000 b d ∧ (needV d = none → ∀ H', Same H H' → Q v H') ∧
  ∀ u, needV d = some u → ∀ dx H', H dx = none → Same H H' → H' dx = some (.xd [("place", u)]) → E (.ref C) (some dx) H'
theorem mk_one {C : Addr} {H1 : Hp} {y : V} {Q : XK} (h : ∀ d H', H1 d = none → Same H1 H' → H' d = some (.xd [("place", y)]) → Q (.ref C) (some d) H') :
    [y].length ≤ 1000 ∧ ∀ a, H1 a = none → spIni C (.ref a :: ([y] ++ [])) (upd H1 a (exo a C none))
      (fun v H2 => v = .non ∧ ∃ (d : Addr) (fs : List (Str × V)), H2 a = some (exo a C (some d)) ∧ H2 d = some (exd d fs) ∧ H1 d = none ∧ Q (.ref C) (some d) (upd (del H2 a) d (.xd fs))) (fun _ _ _ => False) := by
  refine ⟨(by show 1 ≤ 1000; decide), fun a ha => ⟨a, y, rfl, upd_same, fun dx h1 h2 => ?_⟩⟩
  have hd : H1 dx = none := by rw [upd_ne h2] at h1; exact h1
  refine ⟨rfl, dx, [("place", y)], upd_same, by rw [upd_ne h2, upd_same], hd, h dx _ hd (fun b o e => ?_) upd_same⟩
  rw [upd_ne (ne_of_none e hd), del_ne (ne_of_none e ha), upd_ne (ne_of_none e ha), upd_ne (ne_of_none e hd), upd_ne (ne_of_none e ha)]
  exact e
section
variable {P : Program} {w : World} {K : PySem.W.Frag} {mg : Str → Option Value} {base : Heap} {fI fN fS fA fG C fE : Addr}
theorem scIn : FnScope ["self", "place"] ["self", "place"] (defScope sIni) := ⟨rfl, rfl, rfl, by decide +kernel, rfl, by decide +kernel, by decide +kernel⟩
theorem ok_ini {fd : FuncData} {qual : Str} (F : Fun K "__init__" qual sIni fE fd) (TE : ErrC K C fE) : FnOk P w K mg base CX0 1 fE fd ["self", "place"] (spIni C) := by
  refine F.ok scIn (fun vs H Q E h => ?_) (fun cdv A outer s H vs Q E hr h => ?_)
  · obtain ⟨a, y, rfl, _⟩ := h
    rfl
  · obtain ⟨a, y, rfl, e, q⟩ := h
    exact ⟨_, pss_one (ps_ost (pv 0) (pv 1)), ⟨_, rfl, _, rfl, a, C, rfl, TE.ox, TE.no, .inl ⟨e, fun dx h1 h2 => q dx h1 h2⟩⟩⟩
abbrev NPd : List Str := ["thing", "at", "setting"]
theorem scPd : FnScope NPd ["thing"] (defScope sNeed) := ⟨rfl, rfl, rfl, by decide +kernel, rfl, by decide +kernel, by decide +kernel⟩
def many (qs : List (Str × Int)) : Int := qs.foldl (fun m q => m * (q.2 + 1)) 1
theorem fold_many : ∀ (qs : List (Str × Int)) (rs : List (List Int)) (m : Int), (∀ q ∈ qs, 1 ≤ q.2 ∧ q.2 ≤ 3) → (rs.length : Int) = m → ((qs.foldl (fun rs q => widen rs (q.2 + 1).toNat) rs).length : Int) = qs.foldl (fun m q => m * (q.2 + 1)) m
  | [], rs, m, _, h => h
  | q :: qs, rs, m, hq, h => by
    refine fold_many qs (widen rs (q.2 + 1).toNat) (m * (q.2 + 1)) (fun x hx => hq x (List.mem_cons_of_mem _ hx)) ?_
    have := hq q (List.mem_cons_self ..)
    rw [widen_len, Int.natCast_mul, h]
    congr 1
    omega
theorem grid_many (qs : List (Str × Int)) (h : ∀ q ∈ qs, 1 ≤ q.2 ∧ q.2 ≤ 3) : ((grid qs).length : Int) = many qs := fold_many qs [[]] 1 h rfl
theorem ok_need {f : Addr} {fd fdI fdN fdS fdA fdG fdE : FuncData} {qual : Str} (F : Fun K "need_settings" "need_settings" sNeed f fd) (T : TxtP mg fI fN fS fA fG) (gC : mg "BadSettings" = some (.ref C)) (TE : ErrC K C fE)
    (FI : Fun K "is_int" "is_int" sPInt fI fdI) (bI : Binds K fdI ["thing"] []) (FN : Fun K "is_name" "is_name" sPName fN fdN) (bN : Binds K fdN ["thing"] []) (FS : Fun K "is_setting" "is_setting" sPSet fS fdS) (bS : Binds K fdS ["thing"] [])
    (FA : Fun K "names_of" "names_of" sPNames fA fdA) (bA : Binds K fdA ["settings"] []) (FG : Fun K "grid_of" "grid_of" sPGrid fG fdG) (bG : Binds K fdG ["settings"] []) (FE : Fun K "__init__" qual sIni fE fdE) (bE : Binds K fdE ["self", "place"] []) :
    FnOk P w K mg base (L2.CX P w) 3 f fd ["thing"] (spNeed K C) := by
  have GS : FnOk P w K mg base CX0 2 fS fdS ["thing"] (spPSet K) := ok_pset FS T FI bI FN bN
  have GA : FnOk P w K mg base CX0 1 fA fdA ["settings"] (spPNames K) := ok_pnames FA
  have GG : FnOk P w K mg base CX0 1 fG fdG ["settings"] (spPGrid K) := ok_pgrid FG T
  have GE : FnOk P w K mg base CX0 1 fE fdE ["self", "place"] (spIni C) := ok_ini FE TE
  refine F.okX scPd (fun vs H Q E h => ?_) (fun cdv A outer s H vs Q E hr h => ?_)
  · obtain ⟨m, l, v, d, B, b, rfl, _⟩ := h
    rfl
  obtain ⟨m, l, v, d, B, b, rfl, hd, gd, q, qe⟩ := h
  obtain ⟨ts, gs⟩ := T.mS
  obtain ⟨tt, gt⟩ := T.mT
  have hr1 : Room 1 _ := hr.mono (by decide)
  refine ⟨_, pss_cons (ps_if (PW.pt (pw_or (pt_not (pt_val (pe_callB call_isi (by rfl) T.isi PyProof.Rows.boot_isinstance (pa_cons (pv 0) (pa_cons (pe_bltn (v := .ty "tuple") (u := .type "tuple") (by rfl) T.tuple (by decide +kernel) rfl) pa_nil)))))
      (pw_or1 (pt_not (pt_chain op_le op_le pe_int (pe_callB call_len (by rfl) T.len PySem.boot_len (pa_cons (pv 0) pa_nil)) (pe_glob (v := .int 3) rfl gs ⟨_, rfl⟩)))))) (pss_one (ps_raise rfl (takes_of rfl rfl rfl rfl) (pmk_oex TE.ox TE.ini TE.ty GE hr bE .nil pass0 (by rfl) gC (pa_cons pe_non pa_nil)))) pss_nil)
    (pss_cons (ps_for (passes_of rfl) rfl (pi_et (by rfl) T.enumerate (pa_cons (pv 0) pa_nil)) (pg_tup rfl (pgs_cons (pg_name (i := 1) scPd.nd rfl (by first | exact Or.inl rfl | exact Or.inr rfl)) (pgs_cons (pg_name (i := 2) scPd.nd rfl (by first | exact Or.inl rfl | exact Or.inr rfl)) pgs_nil)))
      (pss_one (ps_if (PW.pt (pw_or (pt_not (pt_val (pe_call GS hr rfl T.gS FS.kp bS .nil pass0 (pa_cons (pv 2) pa_nil)))) (pw_or1 (pt_cmpR op_in_seq (pe_ix ix_tup (pv 2) pe_int (fun _ _ => rfl)) (pe_call GA hr1 rfl T.gA FA.kp bA .nil pass0 (pa_cons (pe_slice sl_tupA (pv 0) po_none (po_some (pv 1))) pa_nil)) (by rfl)))))
        (pss_one (ps_raise rfl (takes_of rfl rfl rfl rfl) (pmk_oex TE.ox TE.ini TE.ty GE hr bE .nil pass0 (by rfl) gC (pa_cons (pv 1) pa_nil)))) pss_nil)))
    (pss_cons (ps_if (pt_cmpR op_gt (pe_callB call_len_seq (by rfl) T.len PySem.boot_len (pa_cons (pe_call GG hr1 rfl T.gG FG.kp bG .nil pass0 (pa_cons (pv 0) pa_nil)) pa_nil)) (pe_glob (v := .int 12) rfl gt ⟨_, rfl⟩) (nomark _))
        (pss_one (ps_raise rfl (takes_of rfl rfl rfl rfl) (pmk_oex TE.ox TE.ini TE.ty GE hr bE .nil pass0 (by rfl) gC (pa_cons pe_str pa_nil)))) pss_nil)
    (pss_one (ps_ret (pv 0))))), ?_⟩
  refine ⟨_, rfl, v, .ty "tuple", _, _, _, rfl, .ty _, hd.ty, isi_tup K d, _, rfl, ?_⟩
  cases d with
  | tuple ds =>
    cases hd with
    | tup hp hx =>
      rename_i p xs
      refine ifF rfl ?_
      have lx := hx.len
      have none0 : ¬ (1 ≤ ds.length ∧ ds.length ≤ 3) → needV (.tuple ds) = some .non := fun h => by
        show (if 1 ≤ ds.length ∧ ds.length ≤ 3 then _ else some V.non) = some .non
        rw [if_neg h]
      refine ⟨_, rfl, .ref p, xs.length, rfl, .inr ⟨xs, hp, rfl⟩, 1, (xs.length : Int), rfl, rfl, _, rfl, ite_b (fun e1 => ⟨(xs.length : Int), 3, rfl, rfl, _, rfl, ite_b (fun e8 => mk_one (qe _ (none0 ?_))) (fun e8 => ?_)⟩) (fun e1 => ⟨_, rfl, ifT rfl (mk_one (qe _ (none0 ?_)))⟩)⟩
      · have : ¬ ((xs.length : Int) ≤ 3) := by simpa using e8
        omega
      · have l3 : (xs.length : Int) ≤ 3 := by simpa using e8
        have l1 : (1 : Int) ≤ (xs.length : Int) := of_decide_eq_true e1
        have ed : needV (.tuple ds) = (match dueGo 0 [] 1 ds with | .inl p => some (V.int (p : Nat)) | .inr many => if many ≤ 12 then none else some (.str "many")) := by
          show (if 1 ≤ ds.length ∧ ds.length ≤ 3 then _ else some V.non) = _
          rw [if_pos ⟨by omega, by omega⟩]
        refine ⟨_, rfl, p, xs, rfl, hp, ?_⟩
        refine for_it walk_et (fun i σ H1 => ∃ (qs : List (Str × Int)) (v1 v2 : Option V), σ = [some (.ref p), v1, v2] ∧ Same H H1 ∧ PrTs K H1 (xs.take i) qs ∧ (∀ q ∈ qs, 1 ≤ q.2 ∧ q.2 ≤ 3) ∧ dueGo 0 [] 1 ds = dueGo i (qs.map (·.1)) (many qs) (ds.drop i))
          ⟨[], none, none, rfl, Same.refl H, by rw [List.take_zero]; exact .nil, (fun q hq => nomatch hq), rfl⟩ (fun i σ H1 _ ⟨qs, v1, v2, _, s1, _⟩ => Same.seqT s1 hp) ?_ ?_
        · rintro i x σ H1 H2 hi ⟨qs, v1, v2, rfl, s1, pq, bq, dg⟩ ⟨TT, x1, x2, rfl, hT, rfl, e1', e2'⟩
          have ex1 : x1 = .int (i : Nat) := (Option.some.inj e1').symm
          subst ex1
          obtain ⟨e, he, dqe⟩ := hx.get e2'
          have sT : Same H1 (upd H1 TT (.tup [.int (i : Nat), x2])) := Same.upd hT
          have sA : Same H (upd H1 TT (.tup [.int (i : Nat), x2])) := s1.trans sT
          have dqA := Dq.same sA e x2 dqe
          have hid : i < ds.length := by omega
          have edr : ds.drop i = e :: ds.drop (i + 1) := by rw [List.drop_eq_getElem_cons hid]; rw [(List.getElem?_eq_some_iff.mp he).2]
          have refuse : ∀ {H3 : Hp}, Same H H3 → needV (.tuple ds) = some (.int (i : Nat)) → ∀ d H', H3 d = none → Same H3 H' → H' d = some (.xd [("place", V.int (i : Nat))]) → E (.ref C) (some d) H' := fun {H3} s3 hn d H' h1 h2 h3 =>
            qe _ hn d H' (Same.free s3 h1) (s3.trans h2) h3
          obtain ⟨cc, eb, g⟩ := Gd.untup gd
          have ge := g.at he
          have we : e.weight ≤ 100000 := by
            have := wA_at he
            have := g.wt
            omega
          refine ⟨TT, _, rfl, .inl (.inl upd_same), rfl, _, _, rfl, _, _, rfl, rfl, ?_⟩
          refine ⟨_, rfl, m, l, x2, e, _, _, rfl, dqA, ge.mono (Nat.le_refl _) we (Nat.le_refl _), fun H3 s3 => ⟨_, rfl, ?_⟩⟩
          have s03 := sA.trans s3
          cases eo : oneD e with
          | none =>
            refine ifT rfl ⟨_, rfl, mk_one (refuse s03 ?_)⟩
            rw [ed, dg, edr]
            simp only [dueGo, eo]
          | some zc =>
            obtain ⟨z, c⟩ := zc
            have le := pq.len
            obtain ⟨a, rfl, hq, cb⟩ : ∃ a, x2 = .ref a ∧ SqT K H a [.str z, .int c] ∧ 1 ≤ c ∧ c ≤ 3 := by
              have key : e = .tuple [.str z, .int c] ∧ 1 ≤ c ∧ c ≤ 3 := by
                have eo' := eo
                unfold oneD at eo'
                split at eo'
                · split at eo'
                  · rename_i hh
                    cases eo'
                    have hw := (Bool.and_eq_true _ _ ▸ hh : _ ∧ _).2
                    exact ⟨rfl, of_decide_eq_true (Bool.and_eq_true _ _ ▸ hw : _ ∧ _).1, of_decide_eq_true (Bool.and_eq_true _ _ ▸ hw : _ ∧ _).2⟩
                  · cases eo'
                · cases eo'
              obtain ⟨rfl, kb⟩ := key
              cases dqe with
              | tup h0 hy0 =>
                cases hy0 with
                | cons g0 hy1 =>
                  cases hy1 with
                  | cons g1 hy2 =>
                    cases g0
                    cases g1
                    cases hy2
                    exact ⟨_, rfl, h0, kb⟩
            refine ifF rfl ?_
            refine ⟨_, rfl, a, _, 0, .str z, rfl, rfl, Same.seqT s03 hq, rfl, ?_⟩
            refine ⟨_, rfl, _, rfl, _, rfl, slA_any (Same.seqT s03 hp) fun p4 H4 s4 c4 => ?_⟩
            rw [cut_to (by omega)] at c4
            refine ⟨p4, xs.take i, qs, rfl, c4, (pq.same (sT.trans (s3.trans s4))), (by rw [← le, List.length_take]; omega), fun D hD H5 s5 g5 => ?_⟩
            have sF := (s03.trans s4).trans s5
            refine ⟨D, _, rfl, .inl (SqL.of g5), rfl, (by simp [flatV]), _, rfl, ite_b (fun e => ⟨_, rfl, mk_one (refuse sF ?_)⟩) (fun e => ?_)⟩
            · have e' : inV (.str z) ((qs.map (·.1)).map V.str) = true := e
              rw [inV_str] at e'
              have hz := of_decide_eq_true e'
              rw [ed, dg, edr]
              simp only [dueGo, eo, if_pos hz]
            · have e' : inV (.str z) ((qs.map (·.1)).map V.str) = false := e
              rw [inV_str] at e'
              have nz := of_decide_eq_false e'
              refine ⟨qs ++ [(z, c)], _, _, rfl, sF, ?_, fun q hq' => ?_, ?_⟩
              · have e3 : xs[i]? = some (V.ref a) := e2'
                rw [List.take_succ, e3]
                exact (pq.same (sT.trans ((s3.trans s4).trans s5))).snoc ⟨a, rfl, Same.seqT sF hq⟩
              · rcases List.mem_append.mp hq' with hq' | hq'
                · exact bq q hq'
                · rw [List.mem_singleton.mp hq']; exact cb
              · rw [dg, edr]
                simp only [dueGo, eo, if_neg nz]
                unfold many
                rw [List.map_append, List.foldl_append]
                rfl
        · rintro σ H1 ⟨qs, v1, v2, rfl, s1, pq, bq, dg⟩
          rw [List.take_of_length_le (by omega)] at pq
          rw [List.drop_of_length_le (by omega)] at dg
          have le := pq.len
          have ed2 : needV (.tuple ds) = if many qs ≤ 12 then none else some (.str "many") := by
            rw [ed, dg]; rfl
          refine ⟨_, rfl, p, xs, qs, rfl, Same.seqT s1 hp, pq, by omega, bq, fun D as H2 hD s2 gD rw2 _ => ?_⟩
          have lg := rw2.length
          refine ⟨D, _, rfl, .inl (SqL.of gD), _, _, rfl, rfl, _, rfl, ite_b (fun e => mk_one fun d H' h1 h2 h3 => ?_) (fun e => ?_)⟩
          · have hm : ¬ many qs ≤ 12 := by
              have := of_decide_eq_true e
              rw [← grid_many qs bq]
              rw [List.length_map, lg] at this
              omega
            exact qe _ (by rw [ed2, if_neg hm]) d H' (Same.free (s1.trans s2) h1) ((s1.trans s2).trans h2) h3
          · have hm : many qs ≤ 12 := by
              have := of_decide_eq_false e
              rw [← grid_many qs bq]
              rw [List.length_map, lg] at this
              omega
            exact ⟨_, rfl, q (by rw [ed2, if_pos hm]) _ (s1.trans s2)⟩
      · have : ¬ ((1 : Int) ≤ (xs.length : Int)) := of_decide_eq_false e1
        omega
  | _ => exact ifT rfl (ifT rfl (mk_one (qe _ rfl)))
end
end Ms
namespace Ms
open PySem PySem.Spec PyProof.Rows L2
/-! ### try: several clauses, each with a name, one of which catches -/
abbrev Clause : Type := Value × (Addr → Value → Option Addr → TS)
/-- the ends of a suite: behind it the clause's name is gone -/
def unnamed (i : Nat) (D : Ends) : Ends := { nx := fun σ' H' => D.nx (σ'.set i none) H', rt := D.rt, bk := fun σ' H' => D.bk (σ'.set i none) H', ct := fun σ' H' => D.ct (σ'.set i none) H' }
def wishes (K : PySem.W.Frag) (i : Nat) (D : Ends) : List Clause → WX
  | [] => fun _ _ _ _ => False
  | p :: r => fun cls d σ H => ∃ hit, PySem.W.exmOne K cls p.1 = some hit ∧ (hit = true → ∀ a, H a = none → p.2 a cls d (unnamed i D) (σ.set i (some (.ref a))) H) ∧ (hit = false → wishes K i D r cls d σ H)
inductive Clauses (X : Cx) (n : Str) : List ExceptHandler → List Clause → Prop
  | last : Clauses X n [] []
  | more {x : Str} {c : Value} {ts : Addr → Value → Option Addr → TS} {st : Stmt} {rest : List Stmt} {q q' : Pos} {hds : List ExceptHandler} {l : List Clause} (hc : Names X x c)
      (suite : ∀ (a : Addr) (oe : Obj) (cls : Value) (d : Option Addr) (pn : List (Addr × Obj)), Zc cls d oe → (∃ vs, oe.data = .fields vs) → PSs (X.suite a ((a, oe) :: pn)) (st :: rest) (ts a cls d)) (r : Clauses X n hds l) :
      Clauses X n (.ExceptHandler (some (.Name x q)) (some n) (st :: rest) q' :: hds) ((c, ts) :: l)
section
variable {X : Cx} {n : Str} {i : Nat} {body : List Stmt} {h₀ : ExceptHandler} {hds : List ExceptHandler} {l : List Clause} {pos : Pos} {tb : WX → TS}
theorem ps_try_list (hs : X.stack = X.env :: X.outer) (hf : X.env.frame = some X.env.locals) (hN : X.N.Nodup) (hi : X.N[i]? = some n) (hln : X.env.kindOf n = some .local)
    (hb : ∀ (W : WX) (pn : List (Addr × Obj)) (xe : Value → Shared → Prop), Takes (X.tr pn xe) W → PassesOwn (model X.prog X.w) X.A X.env xe → PSs (X.tr pn xe) body (tb W))
    (cl : Clauses X n (h₀ :: hds) l) : PS X (.Try body (h₀ :: hds) [] [] pos) (fun D σ H => tb (wishes X.K i D l) D σ H) := by
  constructor
  intro pins s σ H D I reads
  have good := I.ok
  have frames : X.A.frames = some (X.env :: X.outer) := good.frames.trans (by rw [hs])
  have caught : Takes (X.tr (X.pn ++ pins) (fun e s₁ => wpAny (model X.prog X.w) X.A (noteFrame e X.env) (fun _ s₂ => wpAny (model X.prog X.w) X.A (setFlight e none) (fun _ s₃ =>
      wpAny (model X.prog X.w) X.A (handleBy e X.env (h₀ :: hds)) (SP X pins D) X.xe s₃) X.xe s₂) X.xe s₁)) (wishes X.K i D l) := by
    intro u s' air
    obtain ⟨a, B, sI, pins', σ', H', cls, d, rfl, It, nb, up, sky, free, os, bare, wish⟩ := air
    have I' : Inv X pins σ' H' sI := It.ofTry good
    show wpAny (model X.prog X.w) X.A (noteFrame (.ref a) X.env) _ _ _
    refine Sky.land Zc.steady frames hf (by rw [← hs]; exact sky) fun g fl upg => ?_
    have Ig : Inv X pins σ' H' { s' with heap := g } := I'.landed nb fl.1 (up.trans upg) os bare
    obtain ⟨oe, vs, at_, zc, fields⟩ := fl.there
    have apart : a ∉ frs (X.env :: X.outer) := fun hm => by
      obtain ⟨_, o', e', nd⟩ := fl.2.2.1.mem hm
      cases at_.symm.trans e'
      exact nd _ fields
    have noLocals : a ≠ X.env.locals := fun z => apart (List.mem_filterMap.mpr ⟨X.env, List.mem_cons_self, by rw [hf, z]⟩)
    have noFrame : a ∉ X.fs := fun hm => by
      obtain ⟨env, he, q⟩ := List.mem_filterMap.mp hm
      exact apart (List.mem_filterMap.mpr ⟨env, List.mem_cons_of_mem _ he, q⟩)
    have Sg := Ig.suite at_ fields free noLocals noFrame
    have looks : PySem.W.Looks (model X.prog X.w) g (typeOf (.ref a)) cls := fun A Q E t k q => wpAny_typeOf_ref (k _ _ at_) (by rw [zc.1]; exact q)
    have all : ∀ {hds' : List ExceptHandler} {l' : List Clause}, Clauses X n hds' l' → wishes X.K i D l' cls d σ' H' → wpAny (model X.prog X.w) X.A (handleBy (.ref a) X.env hds') (SP X pins D) X.xe { s' with heap := g } := by
      intro hds' l' cs
      induction cs with
      | last => exact fun w => w.elim
      | @more x c ts st rest q q' hds2 l2 hc suite r ih =>
        rintro ⟨hit, eq, yes, no⟩
        refine wpAny_handleBy_cons (codeAny_handlers_test ?_) (fun z => nomatch z)
        have isIt := PySem.W.exm_one (M := model X.prog X.w) Ig.kIn looks eq
        have named : ∀ {Q : Value → Shared → Prop} {E : Value → Shared → Prop}, Q c { s' with heap := g } → wpAny (model X.prog X.w) (X.A.mark (some (.ref a))) (eval (.Name x q) X.env) Q E { s' with heap := g } := fun {Q E} k => by
          obtain ⟨h1, h2, h3⟩ := hc
          cases h3 with
          | inl h3 => exact ld_glob (X := X.suite a ((a, oe) :: (X.pn ++ pins))) Sg h1 h3 k h2
          | inr h3 => exact ld_blt (X := X.suite a ((a, oe) :: (X.pn ++ pins))) Sg h1 h3.1 h3.2.1 k h3.2.2 h2
        refine named (isIt.here ?_)
        cases hit with
        | false =>
          show wpAny _ X.A (handleBy (.ref a) X.env hds2) _ _ _
          exact ih (no rfl)
        | true =>
          refine codeAny_handlers_suite_as (HandSPX.lands_againZ fl fun g2 fl2 up2 => ?_)
          have I2 : Inv X pins σ' H' { s' with heap := g2 } := I'.landed nb fl2.1 ((up.trans upg).trans up2) os bare
          obtain ⟨oe2, vs2, at2, zc2, fields2⟩ := fl2.there
          have S2 := I2.suite at2 fields2 free noLocals noFrame
          refine store_ok (X := X.suite a ((a, oe2) :: (X.pn ++ pins))) (v := .ref a) S2 hN hi (.inl hln) rfl (fun s5 S5 => ?_) (.inr hln)
          refine wpAny_mono ((suite a oe2 cls d (X.pn ++ pins) zc2 ⟨_, fields2⟩).run [] s5 _ H' _ S5 (yes rfl a free)) (fun f s6 hsp => ?_) (fun _ _ z => z.elim)
          match f, hsp with
          | .ret u, ⟨v, _, _, S6, rv, k⟩ => exact gone_ok (S6.unsuite good) hN hi hln fun s7 I7 => ⟨v, _, _, I7, rv, k⟩
          | .next, ⟨_, _, S6, k⟩ => exact gone_ok (S6.unsuite good) hN hi hln fun s7 I7 => ⟨_, _, I7, k⟩
          | .brk, ⟨_, _, S6, k⟩ => exact gone_ok (S6.unsuite good) hN hi hln fun s7 I7 => ⟨_, _, I7, k⟩
          | .cont, ⟨_, _, S6, k⟩ => exact gone_ok (S6.unsuite good) hN hi hln fun s7 I7 => ⟨_, _, I7, k⟩
    exact all cl wish
  refine wpAny_Try_except (wpAny_mono ((hb _ _ _ caught PassesOwn.looking).run [] s σ H D (I.toTry _) reads) (fun f s1 hsp => ?_) fun _ _ z => z)
  match f, hsp with
  | .ret u, ⟨v, _, _, J, rv, k⟩ => exact ⟨v, _, _, J.ofTry good, rv, k⟩
  | .next, ⟨_, _, J, k⟩ => exact wpAny_execs_nil ⟨_, _, J.ofTry good, k⟩
  | .brk, ⟨_, _, J, k⟩ => exact ⟨_, _, J.ofTry good, k⟩
  | .cont, ⟨_, _, J, k⟩ => exact ⟨_, _, J.ofTry good, k⟩
end
end Ms
namespace Ms
open PySem PySem.Spec PyProof.Rows
section
open Builtin Builtin.ObjectAttr
variable {prog : Program} {w : World} {A : Around} {E : Value → Shared → Prop} {R : Result → Shared → Prop} {hp : Heap} {g : Array GenState} {d : Drawn} {t : Nat} {os : OsState} {B newId initId : String} {bmB : List Value}
/-- the first field of an exception, whatever its built-in base -/
theorem exc_put {K : PySem.W.Frag} {name : Str} {tk : Tok} {v : Value} {x C : Addr} {fv : Array Value} (SF : StoreFacts B bmB "object.__setattr__" "object") (X : K.In hp)
    (hx : hp.get? x = some { cls := .ref C, data := .fields fv }) (ov : PySem.W.excOver K C bmB = true) (hd : PySem.W.hasDictIn K C = true) (ht : PySem.W.takerIn K C name = some none)
    (hq : ∀ h' tk' dx, (∀ b o, b ≠ x → hp.get? b = some o → h'.get? b = some o) → hp.objs.size ≤ dx → dx ≠ x → h'.get? x = some { cls := .ref C, dict := some dx, data := .fields fv } →
      h'.Ns1 dx (fun y => if y = name then some v else none) → R (.ok (.ret .none)) ⟨h', g, d, tk', os⟩) :
    codeAny (model prog w) A (.call (.builtin "object.__setattr__") ⟨[.ref x, .str name tk, v], []⟩) R ⟨hp, g, d, t, os⟩ := by
  have far : x ≠ hp.objs.size := Nat.ne_of_lt (Heap.lt_size hx)
  refine PySem.W.osa_openX (s := ⟨hp, g, d, t, os⟩) (ox := { cls := .ref C, data := .fields fv }) (od := none) SF X ⟨hx, rfl, rfl, trivial⟩ ov ht fun b => ?_
  show wpAny _ _ (storeInOwnDict (.ref x) (.ref C) (.str name tk) name v b) _ _ _
  obtain ⟨cd, hc, hhd⟩ := PySem.W.any_some hd
  have look : PySem.W.Looks (model prog w) hp (classData C) cd := PySem.W.looks_clsIn X hc
  obtain ⟨nm, bs, mro, ns, qn, has, sn, sb, ab, col, del⟩ := cd
  dsimp only at hhd
  subst hhd
  unfold storeInOwnDict ownDictForStores
  repeat (first | with_reducible refine PySem.HandSPX.store_in_new ?_ ?_ | with_reducible refine wpAny_loadPart_at hx ?_ | with_reducible refine look.at ?_ | wp_step)
  · exact ⟨_, #[], _, (Heap.get?_update_ne _ _ _ _ far.symm).trans (Heap.get?_push_at rfl rfl), rfl, fun e he => absurd he (by simp), fun _ => rfl⟩
  · intro h' tk' hn' hs
    have old : (hp.push { cls := .type "dict", data := .dict #[] }).get? x = some { cls := .ref C, data := .fields fv } := Heap.get?_push_of_some _ hx
    refine hq h' tk' hp.objs.size (fun b o hb ho => ?_) (Nat.le_refl _) far.symm ?_ hn'
    · rw [hs.2 b (Nat.ne_of_lt (Heap.lt_size ho)), Heap.get?_update_ne _ _ _ _ hb]
      exact Heap.get?_push_of_some _ ho
    · rw [hs.2 x far]
      exact Heap.get?_update_self _ old rfl

/-! ### C(f = u): an own exception class called by its field's name -/
section
variable {nm q : Str} {C N : Addr} {bs bm : List Value} {hdct : Bool} {sn : List Str} {sub : List Value} {ab : Bool} {col : Option Bool} {dd : Option Addr} {k0 k1 k2 k3 k5 : Option Value} {f : Str} {u : Value}
theorem kw_checked (F : ExcBaseFacts B newId initId bmB) (same : ∀ Y : String, bm.contains (.type Y) = bmB.contains (.type Y)) {Q : Unit → Shared → Prop}
    (hC : hp.get? C = some (excClassObj nm q C N bs bm hdct sn sub ab col dd k0 k1 k2 k3 k5 newId)) (hq : Q () ⟨hp, g, d, t, os⟩) : wpAny (model prog w) A (checkBuiltinCall newId ⟨[.ref C], [(f, u)]⟩) Q E ⟨hp, g, d, t, os⟩ := by
  have hasB : (Value.ref C :: bm).contains (.type B) = true := by rw [List.contains_cons, same, F.hasB, Bool.or_true]
  have star := F.noStar
  simp only [checkBuiltinCall, F.newKind, F.newSplit, F.newRow]
  repeat (first | refine wpAny_loadPart_at hC ?_ | (refine wpAny_isSubtype_exc hC ?_; rw [hasB]) | refine wpAny_staticBase_exc hC ?_ | refine wpAny_madeBy_exc hC ?_ | simp only [bne_self_eq_false, Bool.false_eq_true, if_false] | wp_step)
  exact hq
theorem kw_new (F : ExcBaseFacts B newId initId bmB) (same : ∀ Y : String, bm.contains (.type Y) = bmB.contains (.type Y))
    (hC : hp.get? C = some (excClassObj nm q C N bs bm hdct sn sub ab col dd k0 k1 k2 k3 k5 newId))
    (hq : R (.ok (.ret (.ref (hp.objs.size + 1)))) ⟨(hp.push { cls := .type "tuple", data := .seq #[] }).push { cls := .ref C, data := .fields #[.ref hp.objs.size, .none, .none, .none, .bool false, .none] }, g, d, t, os⟩) :
    codeAny (model prog w) A (.builtin newId ⟨[.ref C], [(f, u)]⟩) R ⟨hp, g, d, t, os⟩ := by
  have ends := F.ends
  have cB : (Value.ref C :: bm).contains (.type B) = true := by rw [List.contains_cons, same, F.hasB, Bool.or_true]
  have cA : (Value.ref C :: bm).contains (.type "AttributeError") = false := by rw [List.contains_cons, same, F.noAttr]; rfl
  have cN : (Value.ref C :: bm).contains (.type "NameError") = false := by rw [List.contains_cons, same, F.noName]; rfl
  refine codeAny_builtinAt F.entry ?_
  unfold Builtin.«BaseException.__new__»
  refine PySem.wpAt_bind ?_
  show PySem.wpAt _ _ _ (stack >>= _) _ _ _
  refine PySem.wpAt_bind (PySem.wpAt_stack fun p below => PySem.wpAt_of_wpAny ?_)
  wp_walk
  refine PySem.wpAt_of_wpAny ?_
  rw [F.owner]
  repeat (first | with_reducible refine wpAny_madeHere_exc F.canon hC ?_ | with_reducible refine wpAny_loadPart_at hC ?_ | (with_reducible refine wpAny_isSubtype_exc hC ?_; first | rw [cB] | rw [cA] | rw [cN]) | wp_step)
  show R _ _
  rw [Heap.size_push]
  exact hq
theorem kw_made (F : ExcBaseFacts B newId initId bmB) (same : ∀ Y : String, bm.contains (.type Y) = bmB.contains (.type Y)) {fI : Addr} {Q : Fin → Shared → Prop}
    (hC : hp.get? C = some (excClassObj nm q C N bs bm hdct sn sub ab col dd k0 k1 k2 k3 k5 newId))
    (ini : PySem.W.Looks (model prog w) hp (typeLookup (.ref C) "__init__") (some (.ref fI))) (bnd : ∀ self, PySem.W.Looks (model prog w) hp (bindSpecial (.ref fI) self) (.ref fI, [self]))
    (hq : codeAny (model prog w) A (.call (.ref fI) ⟨[.ref (hp.objs.size + 1)], [(f, u)]⟩)
      (fun r s' => match r with | .ok (.ret v) => v = .none ∧ Q (.done (.ret (.ref (hp.objs.size + 1)))) s' | .ok _ => False | .error e => E e s')
      ⟨(hp.push (PySem.W.kdv_tup [])).push (PySem.HandSPX.excO C hp.objs.size), g, d, t, os⟩) :
    wpAny (model prog w) A (Builtin.«type.__call__» ⟨[.ref C], [(f, u)]⟩) Q E ⟨hp, g, d, t, os⟩ := by
  repeat (first | with_reducible refine wpAny_loadPart_at hC ?_ | with_reducible refine wpAny_madeBy_exc hC ?_ | wp_step)
  refine codeAny_call_builtin_code (Code.quiet_builtin _ F.quiet) (kw_checked F same hC ?_)
  refine kw_new F same hC ?_
  show wpAny _ _ _ _ _ _
  have old : ∀ b o, hp.get? b = some o → ((hp.push (PySem.W.kdv_tup [])).push (PySem.HandSPX.excO C hp.objs.size)).get? b = some o := fun b o e => Heap.get?_push_of_some _ (Heap.get?_push_of_some _ e)
  have atC := old _ _ hC
  have atE : ((hp.push (PySem.W.kdv_tup [])).push (PySem.HandSPX.excO C hp.objs.size)).get? (hp.objs.size + 1) = some (PySem.HandSPX.excO C hp.objs.size) := by heap_get
  have isC : (Value.ref C :: bm).contains (.ref C) = true := by simp
  have look1 := ini.keeps old
  have look2 := (bnd (.ref (hp.objs.size + 1))).keeps old
  unfold isInstance
  repeat (first | with_reducible refine wpAny_loadPart_at atE ?_ | (with_reducible refine wpAny_isSubtype_exc atC ?_; rw [isC]) | wp_step)
  show wpAny _ _ (typeLookup (.ref C) _) _ _ _
  refine look1.at ?_
  refine wpAny_holding (wpAny_bind (look2.at (wpAny_bind (wpAny_call (codeAny_mono hq fun r s' z => ?_)))))
  rcases r with e | (v | _ | _ | _) <;> first | exact z | exact z.elim | skip
  obtain ⟨rfl, z⟩ := z
  first
    | exact wpAny_pure (wpAny_pure z)
    | (wp_walk; exact z)
theorem kw_type_checked {M : Model} {Q : Unit → Shared → Prop} (hC : hp.get? C = some (excClassObj nm q C N bs bm hdct sn sub ab col dd k0 k1 k2 k3 k5 newId)) (hq : Q () ⟨hp, g, d, t, os⟩) :
    wpAny M A (checkBuiltinCall "type.__call__" ⟨[.ref C], [(f, u)]⟩) Q E ⟨hp, g, d, t, os⟩ := by
  have below := tc_sub
  have isT : (⟨hp, g, d, t, os⟩ : Shared).TypeIs (.ref C) "type" := ⟨_, hC, rfl⟩
  simp only [checkBuiltinCall, tc_kind, tc_split]
  repeat (any_goals (first | assumption | with_reducible refine wpAny_loadPart_at hC ?_ | with_reducible refine wpAny_onRaise ?_ | with_reducible refine wpAny_map ?_ | wp_step))
theorem kw_called (F : ExcBaseFacts B newId initId bmB) (same : ∀ Y : String, bm.contains (.type Y) = bmB.contains (.type Y)) {fI : Addr}
    (hC : hp.get? C = some (excClassObj nm q C N bs bm hdct sn sub ab col dd k0 k1 k2 k3 k5 newId))
    (ini : PySem.W.Looks (model prog w) hp (typeLookup (.ref C) "__init__") (some (.ref fI))) (bnd : ∀ self, PySem.W.Looks (model prog w) hp (bindSpecial (.ref fI) self) (.ref fI, [self]))
    (hq : codeAny (model prog w) (A.under (.builtin "type.__call__" ⟨[.ref C], [(f, u)]⟩)) (.call (.ref fI) ⟨[.ref (hp.objs.size + 1)], [(f, u)]⟩) (PySem.W.InitBack (hp.objs.size + 1) R)
      ⟨(hp.push (PySem.W.kdv_tup [])).push (PySem.HandSPX.excO C hp.objs.size), g, d, t, os⟩) :
    codeAny (model prog w) A (.call (.ref C) ⟨[], [(f, u)]⟩) R ⟨hp, g, d, t, os⟩ := by
  have f1 := tc_lookup
  have f2 := tc_bind (.ref C)
  have isT : (⟨hp, g, d, t, os⟩ : Shared).TypeIs (.ref C) "type" := ⟨_, hC, rfl⟩
  refine codeAny_of_tree ?_
  show wpAny _ _ (callAny (.ref C) _) _ _ _
  repeat (any_goals (first | assumption | with_reducible refine wpAny_loadPart_at hC ?_ | wp_step))
  refine ⟨rfl, ?_⟩
  refine codeAny_call_builtin_at (Code.quiet_builtin _ (by decide +kernel)) entry_typeCall (kw_type_checked hC (kw_made F same hC ini bnd ?_))
  refine codeAny_mono hq fun r s' z => ?_
  rcases r with e | (v | _ | _ | _) <;> exact z
end
end
end Ms
namespace Ms
open PySem PySem.Spec PyProof.Rows L2
/-- what the written part says of an own exception class x, at C, that keeps one field f -/
structure XC (K : PySem.W.Frag) (C fI : Addr) (f : Str) (newId : String) (bmB : List Value) : Prop where
  ini : PySem.W.excInitIn K C bmB newId = true
  ovr : PySem.W.excOver K C bmB = true
  sa : PySem.W.findIn K (.ref C) "__setattr__" = some (some (.builtin "object.__setattr__"))
  tk : PySem.W.takerIn K C f = some none
  hd : PySem.W.hasDictIn K C = true
  iC : PySem.W.findIn K (.ref C) "__init__" = some (some (.ref fI))
  fn : PySem.W.isFn K (.ref fI) = true
  kC : PySem.W.keepIn K (.ref C) = true
/-- at a: an exception of the class at C whose field f is y -/
def XE (H : Hp) (a C : Addr) (f : Str) (y : V) : Prop := ∃ dx, H a = some (exo a C (some dx)) ∧ H dx = some (exd dx [(f, y)])
def laidX (H : Hp) (a dx C : Addr) (f : Str) (y : V) : Hp := upd (upd H dx (exd dx [(f, y)])) a (exo a C (some dx))
def spInit (C : Addr) (f : Str) : Sp := fun vs H Q _ => ∃ (a : Addr) (y : V), vs = [.ref a, y] ∧ H a = some (exo a C none) ∧ ∀ dx, H dx = none → dx ≠ a → Q .non (laidX H a dx C f y)
section
variable {X : Cx} {pins : List (Addr × Obj)} {σ : L2.St} {H : Hp} {C fI a : Addr} {f : Str} {B newId initId : String} {bmB : List Value}
theorem inv_laid {hp h' : Heap} {g : Array GenState} {d : Drawn} {t tk : Nat} {os : OsState} {dx t1 : Addr} {y : V} {u : Value} (I : Inv X pins σ H ⟨hp, g, d, t, os⟩) (e : H a = some (exo a C none))
    (k : ∀ b o, b ≠ a → hp.get? b = some o → h'.get? b = some o) (dn : hp.objs.size ≤ dx) (hx : h'.get? a = some ({ cls := .ref C, dict := some dx, data := .fields #[.ref t1, .none, .none, .none, .bool false, .none] } : Obj))
    (hn : h'.Ns1 dx (fun z => if z = f then some u else none)) (ry : RelV y u) : Inv X pins σ (laidX H a dx C f y) ⟨h', g, d, tk, os⟩ := by
  have hnd : H dx = none := I.hok.fresh dn
  have nd : ∀ {b : Addr} {o : Obj}, hp.get? b = some o → b ≠ dx := fun {b o} q => Nat.ne_of_lt (Nat.lt_of_lt_of_le (Heap.lt_size q) dn)
  have na : ∀ {b : Addr}, H b = none → b ≠ a := fun {b} n z => by rw [z, e] at n; cases n
  have un : Un X.fs [] H (laidX H a dx C f y) hp h' := by
    constructor
    · exact fun b o q n _ _ => k b o (na n) q
    · exact fun b o q n _ _ => ⟨o.slots, k b o (na n) q⟩
    · intro b o q n _
      unfold laidX
      rw [upd_ne (na n), upd_ne (nd q)]
      exact n
    · intro b o q _
      by_cases hb : b = a
      · exact ⟨_, by rw [hb]; exact hx⟩
      · exact ⟨o, k b o hb q⟩
    · intro b xs q
      unfold laidX
      rw [upd_ne (at_ne e q exo_tup), upd_ne (ne_of_none q hnd)]
      exact q
    · intro b o v q
      unfold laidX
      rw [upd_ne (at_ne e q exo_frz), upd_ne (ne_of_none q hnd)]
      exact q
    · intro b ps q
      refine ⟨#[], ?_⟩
      unfold laidX
      rw [upd_ne (at_ne e q exo_tbl), upd_ne (ne_of_none q hnd), q]
      simp
  refine I.un (t' := tk) un fun b o q => ?_
  unfold laidX at q ⊢
  by_cases hb : b = a
  · subst hb
    rw [upd_same] at q
    cases q
    exact exo_ok hx
  · rw [upd_ne hb] at q
    by_cases hd : b = dx
    · subst hd
      rw [upd_same] at q
      cases q
      exact exd_ok hn (relO_put (fs := []) ry fun g => True.intro)
    · rw [upd_ne hd] at q
      refine (I.hok b o q).stay (fun c v hc z => k c v ?_ z) (fun c hc => ?_) fun c xs hc => ?_
      · rcases hc with hc | hc
        · rw [hc]; exact hb
        · exact at_ne e hc exo_own
      · rw [upd_ne (at_ne e hc exo_own), upd_ne (ne_of_none hc hnd)]; exact hc
      · rw [upd_ne (at_ne e hc exo_tup), upd_ne (ne_of_none hc hnd)]; exact hc
/-- self.f = y -/
theorem xc_store {s : Shared} {y : V} {u : Value} {Q : Unit → Shared → Prop} {E : Value → Shared → Prop} {A : Around} (SF : StoreFacts B bmB "object.__setattr__" "object") (T : XC X.K C fI f newId bmB) (I : Inv X pins σ H s) (e : H a = some (exo a C none)) (ry : RelV y u)
    (h : ∀ dx s', H dx = none → dx ≠ a → Inv X pins σ (laidX H a dx C f y) s' → Q () s') : wpAny (model X.prog X.w) A (setAttr (.ref a) f u) Q E s := by
  obtain ⟨t1, ho⟩ := exo_at I.hok e
  obtain ⟨hp, g, d, t, os⟩ := s
  refine PySem.W.set_plain I.kIn (ox := { cls := .ref C, dict := none, data := .fields #[.ref t1, .none, .none, .none, .bool false, .none] }) (od := none) ⟨ho, rfl, rfl, trivial⟩ T.sa ?_
  refine exc_put SF I.kIn ho T.ovr T.hd T.tk fun h' tk' dx k dn dne hx hn => ?_
  exact h dx _ (I.hok.fresh dn) dne (inv_laid I e k dn hx hn ry)
def tXst (C : Addr) (f : Str) (to te : TE) : TS := fun D σ H => te σ H fun y H1 => to σ H1 fun x H2 => ∃ a : Addr, x = .ref a ∧ H2 a = some (exo a C none) ∧ ∀ dx, H2 dx = none → dx ≠ a → D.nx σ (laidX H2 a dx C f y)
theorem ps_xst {o e : Expr} {to te : TE} {p' pos : Pos} (SF : StoreFacts B bmB "object.__setattr__" "object") (T : XC X.K C fI f newId bmB) (ho : PE X o to) (he : PE X e te) (hs : swapsWith e (some (.Attribute o f p')) pos.line X.env = pure false := by rfl) :
    PS X (.Assign [.Attribute o f p'] e pos) (tXst C f to te) := by
  refine ⟨fun pins s σ H D I h => ?_⟩
  refine plainObj_wpAny_Assign_Attribute (thn (he.run pins s σ H _ I h) fun v s1 ⟨y, H1, I1, r1, q1⟩ => thn (ho.run pins s1 σ H1 _ I1 q1) fun u s2 ⟨x, H2, I2, r2, a, ex, ea, q⟩ => ?_) hs
  subst ex
  obtain rfl : u = Value.ref a := r2
  exact xc_store SF T I2 ea r1 fun dx s' n ne J => ⟨σ, _, J, q dx n ne⟩
end
section
variable {P : Program} {w : World} {K : PySem.W.Frag} {mg : Str → Option Value} {base : Heap} {C fI : Addr} {f : Str} {B newId initId : String} {bmB : List Value}
/-- __init__ of such a class -/
theorem ok_xinit {qual : Str} {st : Stmt} {fd : FuncData} {p1 p2 p3 p4 : Pos} (F : Fun K "__init__" qual st fI fd) (SF : StoreFacts B bmB "object.__setattr__" "object") (T : XC K C fI f newId bmB) (sc : FnScope ["self", f] ["self", f] (defScope st))
    (hb : defBody st = [.Assign [.Attribute (.Name "self" p1) f p2] (.Name f p3) p4]) (ls : (defScope st).names.lookup ("self" : Str) = some .local) (lf : (defScope st).names.lookup f = some .local) (gf : (f == ("__debug__" : Str)) = false) (gc : (f == ("__classdict__" : Str)) = false) : FnOk P w K mg base CX0 1 fI fd ["self", f] (spInit C f) := by
  refine F.ok sc (fun vs H Q E h => ?_) (fun cdv A outer s H vs Q E hr h => ?_)
  · obtain ⟨a, y, rfl, _⟩ := h
    rfl
  · obtain ⟨a, y, rfl, e, q⟩ := h
    rw [hb]
    refine ⟨_, pss_one (ps_xst SF T (pe_var (i := 0) rfl (.inl ls) (by decide) (by decide)) (pe_var (i := 1) rfl (.inl lf) gf gc) rfl), ?_⟩
    exact ⟨_, rfl, _, rfl, a, rfl, e, fun dx n ne => q dx n ne⟩
end

/-! ### C(e), C(f = e) -/
section
variable {X : Cx} {C fI : Addr} {f x : Str} {B newId initId : String} {bmB : List Value} {fd : FuncData} {te : TE} {e : Expr} {p pos : Pos}
def tXmk (C : Addr) (f : Str) (te : TE) : TE := fun σ H Q => te σ H fun y H1 => ∀ a dx, H1 a = none → H1 dx = none → dx ≠ a → Q (.ref a) (laidX H1 a dx C f y)
theorem laidX_over {H : Hp} {a dx C : Addr} {f : Str} {y : V} {o : HO} : laidX (upd H a o) a dx C f y = laidX H a dx C f y := by
  funext b
  unfold laidX upd
  by_cases h : b = a
  · rw [if_pos h, if_pos h]
  · rw [if_neg h, if_neg h]
    by_cases h2 : b = dx
    · simp only [if_pos h2]
      rw [if_neg h]
    · simp only [if_neg h2]
      rw [if_neg h]
/-- the making, from the call's arguments on: pos and kw are the two ways to hand the one value in -/
theorem xc_made {pins : List (Addr × Obj)} {σ : L2.St} {H1 : Hp} {hp : Heap} {g : Array GenState} {d : Drawn} {t : Nat} {os : OsState} {Q : VK} {y : V} {u : Value} {args : Args} (T : XC X.K C fI f newId bmB)
    (F1 : FnOk X.prog X.w X.K X.mg X.base CX0 1 fI fd ["self", f] (spInit C f)) (hr : Room 2 X.A) (I1 : Inv X pins σ H1 ⟨hp, g, d, t, os⟩) (ry : RelV y u) {A' : Around} (hA : Room 1 A') {tup : Obj}
    (env : ∀ s H, Env0 X.prog X.w X.K X.mg X.base X.A X.stack s H → Env0 X.prog X.w X.K X.mg X.base A' X.stack s H)
    (bd : ∀ s : Shared, X.K.In s.heap → BindsTo s fd args [("self", .ref (hp.objs.size + 1)), (f, u)])
    (q : ∀ a dx, H1 a = none → H1 dx = none → dx ≠ a → Q (.ref a) (laidX H1 a dx C f y)) :
    codeAny (model X.prog X.w) A' (.call (.ref fI) args) (PySem.W.InitBack (hp.objs.size + 1) fun r s' => match r with | .ok (.ret v) => EP X pins σ Q v s' | .ok _ => False | .error x => X.xe x s')
      ⟨(hp.push tup).push (PySem.HandSPX.excO C hp.objs.size), g, d, t, os⟩ := by
  have big : hp.objs.size ≤ hp.objs.size + 1 := Nat.le_succ _
  have new : H1 (hp.objs.size + 1) = none := I1.hok.fresh big
  have old : ∀ b o, hp.get? b = some o → ((hp.push tup).push (PySem.HandSPX.excO C hp.objs.size)).get? b = some o := fun b o z => Heap.get?_push_of_some _ (Heap.get?_push_of_some _ z)
  have atE : ((hp.push tup).push (PySem.HandSPX.excO C hp.objs.size)).get? (hp.objs.size + 1) = some (PySem.HandSPX.excO C hp.objs.size) := by
    have z := Heap.get?_push_size (h := hp.push tup) (o := PySem.HandSPX.excO C hp.objs.size) (ho := rfl)
    rw [Heap.size_push] at z
    exact z
  have I2 : Inv X pins σ (upd H1 (hp.objs.size + 1) (exo (hp.objs.size + 1) C none)) ⟨(hp.push tup).push (PySem.HandSPX.excO C hp.objs.size), g, d, t, os⟩ :=
    I1.laid (t' := t) (a := hp.objs.size + 1) (o := exo (hp.objs.size + 1) C none) old big (exo_ok atE)
  refine codeAny_mono (F1.run A' X.stack _ _ args [.ref (hp.objs.size + 1), u] [.ref (hp.objs.size + 1), y] (fun v H' => v = .non ∧ Q (.ref (hp.objs.size + 1)) H') (fun _ _ _ => False) hA (env _ _ I2.env0) (bd _ I2.kIn) (.cons rfl (.cons ry .nil)) ?_) fun r s' hq => ?_
  · refine ⟨_, y, rfl, upd_same, fun dx n ne => ⟨rfl, ?_⟩⟩
    rw [laidX_over]
    rw [upd_ne ne] at n
    exact q _ dx new n ne
  · match r, hq with
    | .error er, hq => exact False.elim hq
    | .ok (.next), hq => exact False.elim hq
    | .ok (.brk), hq => exact False.elim hq
    | .ok (.cont), hq => exact False.elim hq
    | .ok (.ret v), hq =>
      obtain ⟨z, H', J, rv, ez, qz⟩ := I2.after hq
      subst ez
      obtain rfl : v = Value.none := rv
      exact ⟨rfl, .ref (hp.objs.size + 1), H', J, rfl, qz⟩
theorem xc_looks {h : Heap} {M : Model} (T : XC X.K C fI f newId bmB) (hK : X.K.In h) : PySem.W.Looks M h (typeLookup (.ref C) "__init__") (some (.ref fI)) ∧ ∀ self, PySem.W.Looks M h (bindSpecial (.ref fI) self) (.ref fI, [self]) :=
  ⟨PySem.W.looks_findIn hK T.iC, fun self => PySem.W.bind_fn hK self (beq_iff_eq.mp T.fn)⟩
theorem pe_xc (FB : ExcBaseFacts B newId initId bmB) (T : XC X.K C fI f newId bmB) (F1 : FnOk X.prog X.w X.K X.mg X.base CX0 1 fI fd ["self", f] (spInit C f)) (hr : Room 2 X.A) (gC : X.mg x = some (.ref C)) (hg : Gl X x)
    (bd : ∀ (s : Shared) (v u : Value), BindsTo s fd ⟨[v, u], []⟩ [("self", v), (f, u)]) (he : PE X e te) (hdb : (x == ("__debug__" : Str)) = false := by decide)
    (hs : starEach [e] X.env = (false, eval e X.env) :: starEach [] X.env := by rfl) : PE X (.Call (.Name x p) [e] [] pos) (tXmk C f te) := by
  refine ⟨fun pins s σ H Q I h => ?_⟩
  refine wpAny_Call_Name_kw (ld_glob I hg gC ?_ hdb)
  refine PySem.W.callWith_K (h₀ := X.base) I.ok.mod.kin T.kC ?_ hs (by rfl)
  rw [hs]
  show wpAny _ _ (spliced ((false, eval e X.env) :: backTo pos (starEach [] X.env))) _ _ s
  refine Calls.spliced_cons (thn (he.run pins s σ H _ I h) fun u s1 ⟨y, H1, I1, r1, q1⟩ => ?_)
  refine Calls.spliced_nil ⟨I1.kIn, ?_⟩
  show wpAny _ _ (call (.ref C) [u]) _ _ _
  obtain ⟨nm, N, qn, bs, bm, hdct, sn, sub, ab, col, dd, k0, k1, k2, k3, k5, hC, same⟩ := PySem.W.excInit_of I1.kIn T.ini
  obtain ⟨hp, g, d, t, os⟩ := s1
  obtain ⟨lk, bn⟩ := xc_looks (M := model X.prog X.w) T I1.kIn
  exact wpAny_call (PySem.HandSPX.call_own FB same hC lk bn (by show 1 ≤ sizeLine; rw [sizeLine_eq]; omega) (xc_made (args := ⟨[.ref (hp.objs.size + 1), u], []⟩) T F1 hr I1 r1 (hr.make C [u] []) (fun s H z => z.make C [u] []) (fun s _ => bd s _ _) q1))
theorem pe_xcK {kws : List Keyword} {tk : TA} (FB : ExcBaseFacts B newId initId bmB) (T : XC X.K C fI f newId bmB) (F1 : FnOk X.prog X.w X.K X.mg X.base CX0 1 fI fd ["self", f] (spInit C f)) (hr : Room 2 X.A) (gC : X.mg x = some (.ref C)) (hg : Gl X x)
    (bd : ∀ (s : Shared) (v u : Value), BindsTo s fd ⟨[v], [(f, u)]⟩ [("self", v), (f, u)]) (hkw : PK X kws tk)
    (hall : (backToKw pos (keywordEach kws X.env)).all (·.1.isSome) = true := by rfl) (hks : (backToKw pos (keywordEach kws X.env)).filterMap (·.1) = [f] := by rfl) (hdb : (x == ("__debug__" : Str)) = false := by decide)
    (hpl : ((backTo pos (starEach [] X.env)).any (·.1) || (backToKw pos (keywordEach kws X.env)).any (·.1.isNone)) = false := by rfl) :
    PE X (.Call (.Name x p) [] kws pos) (fun σ H Q => tk σ H fun ys H1 => ∃ y, ys = [y] ∧ ∀ a dx, H1 a = none → H1 dx = none → dx ≠ a → Q (.ref a) (laidX H1 a dx C f y)) := by
  refine ⟨fun pins s σ H Q I h => ?_⟩
  refine wpAny_Call_Name_kw (ld_glob I hg gC ?_ hdb)
  refine PySem.W.callWith_KW0 (h₀ := X.base) I.ok.mod.kin T.kC hall ?_ hpl
  refine thn (hkw.run pos pins s σ H _ I h) fun ws s1 ⟨ys, H1, I1, rz, y, ey, q1⟩ => ⟨I1.kIn, ?_⟩
  rw [hks]
  subst ey
  cases rz with
  | @cons _ u _ _ r1 rn =>
    cases rn
    show wpAny _ _ (call (.ref C) [] [(f, u)]) _ _ _
    obtain ⟨nm, N, qn, bs, bm, hdct, sn, sub, ab, col, dd, k0, k1, k2, k3, k5, hC, same⟩ := PySem.W.excInit_of I1.kIn T.ini
    obtain ⟨hp, g, d, t, os⟩ := s1
    obtain ⟨lk, bn⟩ := xc_looks (M := model X.prog X.w) T I1.kIn
    exact wpAny_call (kw_called FB same hC lk bn (xc_made (args := ⟨[.ref (hp.objs.size + 1)], [(f, u)]⟩) T F1 hr I1 r1 (hr.make C [] [(f, u)]) (fun s H z => z.make C [] [(f, u)]) (fun s _ => bd s _ _) q1))
end

/-! ### e.f, isinstance(e, ..) of such an exception -/
structure FldC (K : PySem.W.Frag) (C : Addr) (f : Str) : Prop where
  ga : PySem.W.findIn K (.ref C) "__getattribute__" = some (some (.builtin "BaseException.__getattribute__"))
  gg : PySem.W.findIn K (.ref C) "__getattr__" = some none
  exB : PySem.W.subIn K (.ref C) (.type "BaseException") = some true
  hd : PySem.W.hasDictIn K C = true
  noF : PySem.W.findIn K (.ref C) f = some none
structure IsC (K : PySem.W.Frag) (C : Addr) : Prop where
  cl : (PySem.W.clsIn K C).isSome = true
  ga : PySem.W.findIn K (.ref C) "__getattribute__" = some (some (.builtin "BaseException.__getattribute__"))
  gg : PySem.W.findIn K (.ref C) "__getattr__" = some none
  exB : PySem.W.subIn K (.ref C) (.type "BaseException") = some true
  ha : PySem.W.findIn K (.ref C) "__class__" = some (some (.builtin "object.__class__"))
  hn : PySem.W.specialIn K (.builtin "object.__class__") "__get__" = some (some (.builtin "getset_descriptor.__get__"))
  ht : PySem.W.takesIn K (.builtin "object.__class__") = some true
  hm : PySem.W.mroIn K C (.type "object") = some true
section
variable {X : Cx} {pins : List (Addr × Obj)} {σ : L2.St} {H : Hp} {s : Shared} {C a : Addr} {f : Str} {y : V} {te : TE} {e : Expr} {pos : Pos}
theorem xe_inst (I : Inv X pins σ H s) (x : XE H a C f y) : ∃ oe od u, PySem.W.InstAt s.heap a oe C (some od) ∧ PySem.W.lookIn f od = some (some u) ∧ RelV y u := by
  obtain ⟨dx, e1, e2⟩ := x
  obtain ⟨t1, ho⟩ := exo_at I.hok e1
  obtain ⟨mA, hns, rel⟩ := exd_at I.hok e2
  obtain ⟨od, hod, hl⟩ := lookIn_ns hns
  have z : List.lookup f [(f, y)] = some y := by simp [List.lookup]
  obtain ⟨u, hu, ru⟩ := RelO.some_of (v := y) (o := mA f) (by rw [← z]; exact rel f)
  exact ⟨_, od, u, ⟨ho, rfl, rfl, hod⟩, by rw [hl, hu], ru⟩
def tXget (K : PySem.W.Frag) (f : Str) (te : TE) : TE := fun σ H Q => te σ H fun x H1 => ∃ (a C : Addr) (y : V), x = .ref a ∧ FldC K C f ∧ XE H1 a C f y ∧ Q y H1
theorem pe_xget (he : PE X e te) (hb : attributeBase e f X.env (eval e X.env) = eval e X.env := by rfl) : PE X (.Attribute e f pos) (tXget X.K f te) := by
  refine ⟨fun pins s σ H Q I h => ?_⟩
  refine attr_of hb (thn (he.run pins s σ H _ I h) fun u s1 ⟨x, H1, I1, rx, a, C, y, ex, T, xe, q⟩ => ?_)
  subst ex
  obtain rfl : u = Value.ref a := rx
  obtain ⟨oe, od, w, J, l, rw'⟩ := xe_inst I1 xe
  exact HandSPX.exc_get I1.kIn J T.ga T.gg T.exB (PySem.W.findObj_own T.hd T.noF rfl l) (handed_of rw') ⟨y, H1, I1.tok _, rw', q⟩
def rXis (K : PySem.W.Frag) : List V → Hp → VK → Prop := fun xs H Q => ∃ (a C : Addr) (f : Str) (y c : V) (u : Value) (b : Bool), xs = [.ref a, c] ∧ ClsV c u ∧ IsC K C ∧ XE H a C f y ∧ PySem.W.kitOne K (.ref C) u = some b ∧ Q (.bl b) H
def rXisT (K : PySem.W.Frag) : List V → Hp → VK → Prop := fun xs H Q => ∃ (a C tp : Addr) (f : Str) (y : V) (cs : List V) (us : List Value) (b : Bool), xs = [.ref a, .ref tp] ∧ H tp = some (.tup cs) ∧ Paired ClsV cs us ∧ IsC K C ∧ XE H a C f y ∧ PySem.W.kitAny K (.ref C) us = some b ∧ Q (.bl b) H
theorem call_xis : CallR X (.builtin "isinstance") (rXis X.K) := by
  intro pins s σ H xs us Q I r h
  obtain ⟨a, C, f, y, c, u, b, rfl, k, T, xe, e, q⟩ := h
  obtain ⟨u1, u2, rfl, r1, r2⟩ := vals2 r
  obtain rfl : u1 = Value.ref a := r1
  have e2 := k.eq r2
  subst e2
  obtain ⟨oe, od, w, J, l, rw'⟩ := xe_inst I xe
  exact PySem.W.kia_one (PySem.W.kitx_exc T.cl T.ga T.gg T.exB T.ha T.hn T.ht T.hm) I.kIn J e (fun z => nomatch z) fun tk => ⟨.bl b, H, I.tok tk, rfl, q⟩
theorem call_xisT : CallR X (.builtin "isinstance") (rXisT X.K) := by
  intro pins s σ H xs us Q I r h
  obtain ⟨a, C, tp, f, y, cs, ws, b, rfl, hT, k, T, xe, e, q⟩ := h
  obtain ⟨u1, u2, rfl, r1, r2⟩ := vals2 r
  obtain rfl : u1 = Value.ref a := r1
  cases (show u2 = Value.ref tp from r2)
  obtain ⟨oe, od, w, J, l, rw'⟩ := xe_inst I xe
  obtain ⟨_, its, rv, o, h1, h2, n, h3⟩ := (show ObjOk X.prog X.w H s.heap tp (.tup cs) from I.hok tp _ hT)
  have e3 := ClsV.all k rv
  subst e3
  obtain ⟨oc, od', dt, sl⟩ := o
  simp only at h2 h3
  subst h2 h3
  exact PySem.W.kia_tup (PySem.W.kitx_exc T.cl T.ga T.gg T.exB T.ha T.hn T.ht T.hm) I.kIn J h1 e (fun z => nomatch z) fun tk => ⟨.bl b, H, I.tok tk, rfl, q⟩
end
end Ms
namespace Ms
open PySem PySem.Spec PyProof.Rows L2
/-! ### raise C(e), C over LookupError or OverflowError, with one field -/
theorem laid_one {C : Addr} {f : Str} {H1 : Hp} {y : V} {a dx : Addr} (ha : H1 a = none) (h1 : (upd H1 a (exo a C none)) dx = none) (h2 : dx ≠ a) :
    H1 dx = none ∧ laidX (upd H1 a (exo a C none)) a dx C f y a = some (exo a C (some dx)) ∧ laidX (upd H1 a (exo a C none)) a dx C f y dx = some (exd dx [(f, y)]) ∧
    Same H1 (upd (del (laidX (upd H1 a (exo a C none)) a dx C f y) a) dx (.xd [(f, y)])) := by
  have hd : H1 dx = none := by rw [upd_ne h2] at h1; exact h1
  refine ⟨hd, upd_same, by unfold laidX; rw [upd_ne h2, upd_same], fun b o e => ?_⟩
  unfold laidX
  rw [upd_ne (ne_of_none e hd), del_ne (ne_of_none e ha), upd_ne (ne_of_none e ha), upd_ne (ne_of_none e hd), upd_ne (ne_of_none e ha)]
  exact e
section
variable {X : Cx} {C fI : Addr} {f x : Str} {B newId initId : String} {bmB : List Value} {fd : FuncData} {te : TE} {e : Expr} {p pos : Pos}
theorem pmk_xc (FB : ExcBaseFacts B newId initId bmB) (T : XC X.K C fI f newId bmB) (hex : PySem.W.subIn X.K (.ref C) (.type "BaseException") = some true) (hty : PySem.W.typeIn X.K (.ref C) = some (.type "type"))
    (F1 : FnOk X.prog X.w X.K X.mg X.base CX0 1 fI fd ["self", f] (spInit C f)) (hr : Room 2 X.A) (gC : X.mg x = some (.ref C)) (hg : Gl X x)
    (bd : ∀ (s : Shared) (v u : Value), BindsTo s fd ⟨[v, u], []⟩ [("self", v), (f, u)]) (he : PE X e te) (hdb : (x == ("__debug__" : Str)) = false := by decide)
    (hs : starEach [e] X.env = (false, eval e X.env) :: starEach [] X.env := by rfl) :
    PMk X (.Call (.Name x p) [e] [] pos) (fun σ H Q => te σ H fun y H1 => ∀ d H', H1 d = none → Same H1 H' → H' d = some (.xd [(f, y)]) → Q (.ref C) (some d) H') := by
  intro pins s σ H Q I h
  refine wpAny_Call_Name_kw (ld_glob I hg gC ?_ hdb)
  refine PySem.W.callWith_K (h₀ := X.base) I.ok.mod.kin T.kC ?_ hs (by rfl)
  rw [hs]
  show wpAny _ _ (spliced ((false, eval e X.env) :: backTo pos (starEach [] X.env))) _ _ s
  refine Calls.spliced_cons (thn (he.run pins s σ H _ I h) fun u s1 ⟨y, H1, I1, r1, q1⟩ => ?_)
  refine Calls.spliced_nil ⟨I1.kIn, ?_⟩
  show wpAny _ _ (call (.ref C) [u]) _ _ _
  obtain ⟨nm, N, qn, bs, bm, hdct, sn, sub, ab, col, dd, k0, k1, k2, k3, k5, hC, same⟩ := PySem.W.excInit_of I1.kIn T.ini
  obtain ⟨hp, g, dr, tk, os⟩ := s1
  obtain ⟨lk, bn⟩ := xc_looks (M := model X.prog X.w) T I1.kIn
  have hsz : hp.objs.size ≤ hp.objs.size + 1 := Nat.le_succ _
  have hn : H1 (hp.objs.size + 1) = none := I1.hok.fresh hsz
  have kk : ∀ b o, hp.get? b = some o → ((hp.push (PySem.W.kdv_tup [u])).push (PySem.HandSPX.excO C hp.objs.size)).get? b = some o := fun b o e => Heap.get?_push_of_some _ (Heap.get?_push_of_some _ e)
  have hget : ((hp.push (PySem.W.kdv_tup [u])).push (PySem.HandSPX.excO C hp.objs.size)).get? (hp.objs.size + 1) = some (PySem.HandSPX.excO C hp.objs.size) := by heap_get
  have I2 : Inv X pins σ (upd H1 (hp.objs.size + 1) (exo (hp.objs.size + 1) C none)) ⟨(hp.push (PySem.W.kdv_tup [u])).push (PySem.HandSPX.excO C hp.objs.size), g, dr, tk, os⟩ :=
    I1.laid (t' := tk) (a := hp.objs.size + 1) (o := exo (hp.objs.size + 1) C none) (h' := (hp.push (PySem.W.kdv_tup [u])).push (PySem.HandSPX.excO C hp.objs.size)) kk hsz (exo_ok hget)
  refine wpAny_call (PySem.HandSPX.call_own FB same hC lk bn (by show 1 ≤ sizeLine; rw [sizeLine_eq]; omega)
    (codeAny_mono (F1.run _ X.stack _ _ ⟨[.ref (hp.objs.size + 1), u], []⟩ [.ref (hp.objs.size + 1), u] [.ref (hp.objs.size + 1), y]
      (fun v H2 => v = .non ∧ ∃ dx, H1 dx = none ∧ H2 (hp.objs.size + 1) = some (exo (hp.objs.size + 1) C (some dx)) ∧ H2 dx = some (exd dx [(f, y)]) ∧ Q (.ref C) (some dx) (upd (del H2 (hp.objs.size + 1)) dx (.xd [(f, y)]))) (fun _ _ _ => False) (hr.make C [u] []) (I2.env0.make C [u] []) (bd _ _ _) (.cons rfl (.cons r1 .nil)) ?_) fun r s' hq' => ?_))
  · refine ⟨_, y, rfl, upd_same, fun dx n ne => ⟨rfl, ?_⟩⟩
    obtain ⟨h1, h2, h3, h4⟩ := laid_one (f := f) (y := y) hn n ne
    exact ⟨dx, h1, h2, h3, q1 dx _ h1 h4 upd_same⟩
  · cases r with
    | error er => exact False.elim hq'
    | ok fl =>
      cases fl with
      | ret u =>
        obtain ⟨v, H2, os2, bare2, un2, hok2, rv, ev, d, hd1, ea, ed, q2⟩ := hq'
        subst ev
        obtain ⟨h2, g2, d2, t2, os'⟩ := s'
        exact ⟨rv, mk_end (raises_own hex hty) I1 hsz kk un2 hok2 os2 bare2 ea ed hd1 q2⟩
      | next => exact False.elim hq'
      | brk => exact False.elim hq'
      | cont => exact False.elim hq'
end
end Ms
namespace Ms
open PySem PySem.Spec PyProof.Rows L2
/-! ### == of data of any kind and a text -/
section
open PySem.SeqAt AutoSeq1 MeetsSeq
theorem dict_no_str (l : Addr) (es : Array DictEntry) (ep : Nat) (dd : Option Addr) (sl : Array (Option Value)) (b : Str) (u : Tok) :
    Meets (Builtin.«dict.__eq__» ⟨[.ref l, .str b u], []⟩) (fun _ R s => s.heap.get? l = some { cls := .type "dict", dict := dd, data := .dict es ep, slots := sl } ∧ R (.ok (.ret .notImplemented)) s) :=
  .of_wp fun prog w A R s h => by obtain ⟨hp, g, d, tk, os⟩ := s; obtain ⟨hl, h⟩ := h; have f1 := F.sub_str_dict; wp_walk using wpAny_loadPart' hl; exact ⟨_, rfl, h⟩
theorem str_no_dict (b : Str) (u : Tok) (l : Addr) (c : Value) (es : Array DictEntry) (ep : Nat) (dd : Option Addr) (sl : Array (Option Value)) :
    Meets (Builtin.«str.__eq__» ⟨[.str b u, .ref l], []⟩) (fun _ R s => s.heap.get? l = some { cls := c, dict := dd, data := .dict es ep, slots := sl } ∧ R (.ok (.ret .notImplemented)) s) :=
  .of_wp fun prog w A R s h => by obtain ⟨hp, g, d, tk, os⟩ := s; obtain ⟨hl, h⟩ := h; wp_walk using wpAny_loadPart' hl, wpAny_load hl; exact ⟨_, rfl, h⟩
variable {A : Around} {s : Shared}
theorem rc_dict_str {l : Addr} {o : Obj} {es : Array DictEntry} {ep : Nat} (b : Str) (u : Tok) (ho : s.heap.get? l = some o) (hc : o.cls = .type "dict") (hd : o.data = .dict es ep) (hu : A.units < cLine) : RcAt A s (.ref l) (.str b u) false := fun prog w E Q h => by
  obtain ⟨cls, dd, data, sl⟩ := o
  simp only at hc hd
  subst hc hd
  exact rc_eq_decline_or (k := false) ⟨_, ho, rfl⟩ rfl (by decide) F.sub_str_dict F.slot_dict_eq F.slot_str_eq_refl
    (fun _ hq => call_meets F.slot_dict_eq ⟨_, ho, rfl⟩ F.entry_dict_eq (F.args_dict_eq_2 _ _) (dict_no_str l es ep dd sl b u) ⟨ho, hq⟩)
    (fun _ hq => call_meets F.slot_str_eq_refl rfl F.entry_str_eq (F.args_str_eq_2 _ _) (str_no_dict b u l _ es ep dd sl) ⟨ho, hq⟩)
    (fun _ hq => wpAny_of_eq (rfl : isSame (.ref l) (.str b u) = pure false) hq) (.inr hu) h
theorem rc_str_dict {l : Addr} {o : Obj} {es : Array DictEntry} {ep : Nat} (b : Str) (u : Tok) (ho : s.heap.get? l = some o) (hc : o.cls = .type "dict") (hd : o.data = .dict es ep) (hu : A.units < cLine) : RcAt A s (.str b u) (.ref l) false := fun prog w E Q h => by
  obtain ⟨cls, dd, data, sl⟩ := o
  simp only at hc hd
  subst hc hd
  exact rc_eq_decline_or (k := false) rfl ⟨_, ho, rfl⟩ (by decide) F.sub_dict_str F.slot_str_eq F.slot_dict_eq_refl
    (fun _ hq => call_meets F.slot_str_eq rfl F.entry_str_eq (F.args_str_eq_2 _ _) (str_no_dict b u l _ es ep dd sl) ⟨ho, hq⟩)
    (fun _ hq => call_meets F.slot_dict_eq_refl ⟨_, ho, rfl⟩ F.entry_dict_eq (F.args_dict_eq_2 _ _) (dict_no_str l es ep dd sl b u) ⟨ho, hq⟩)
    (fun _ hq => wpAny_of_eq (rfl : isSame (.str b u) (.ref l) = pure false) hq) (.inr hu) h
end
/-- whether data is this text -/
def isTxt (d : PyData) (w : Str) : Bool := match d with | .str z => z == w | _ => false
section
open PySem.SeqAt
variable {X : Cx} {pins : List (Addr × Obj)} {σ : L2.St} {H : Hp} {s : Shared} {m l : Addr}
theorem Dq.rcTxt (I : Inv X pins σ H s) {A : Around} (hu : A.units < cLine) {v : V} {d : PyData} {u : Value} (h : Dq X.K H m l v d) (r : RelV v u) (w : Str) (t : Tok) : RcAt A s u (.str w t) (isTxt d w) ∧ RcAt A s (.str w t) u (isTxt d w) := by
  cases h with
  | non => cases r; exact ⟨RcAt.none_str w t, RcAt.str_none w t⟩
  | bl b => cases r; exact ⟨RcAt.bool_str b w t, RcAt.str_bool w t b⟩
  | int i => obtain ⟨t', rfl⟩ := r; exact ⟨RcAt.int_str i t' w t, RcAt.str_int w t i t'⟩
  | str z =>
    obtain ⟨t', rfl⟩ := r
    have e : (w == z) = (z == w) := by rw [Bool.eq_iff_iff, beq_iff_eq, beq_iff_eq]; exact eq_comm
    exact ⟨RcAt.str_str z t' w t, by show RcAt A s (.str w t) (.str z t') (z == w); rw [← e]; exact RcAt.str_str w t z t'⟩
  | lst e n1 n2 g =>
    cases r
    obtain ⟨its, rv, p, _⟩ := I.list (SqL.of e)
    exact ⟨RcAt.list_str w t p.isList hu, RcAt.str_list w t p.isList hu⟩
  | tup e g =>
    cases r
    obtain ⟨its, rv, p, _⟩ := I.tuple e
    exact ⟨RcAt.tuple_str w t p hu, RcAt.str_tuple w t p hu⟩
  | dct e n1 n2 =>
    cases r
    obtain ⟨z, hd, vs, rel, dd⟩ := dk_of I.hok e
    obtain ⟨o, es, ep, ho, hc, hdat, hlay⟩ := id dd
    exact ⟨rc_dict_str w t ho hc.1 hdat hu, rc_str_dict w t ho hc.1 hdat hu⟩
theorem Dq.eqTxt (I : Inv X pins σ H s) {A : Around} (hu : A.units < cLine) {v : V} {d : PyData} {u : Value} (h : Dq X.K H m l v d) (r : RelV v u) (w : Str) (t : Tok) : EqAt A s u (.str w t) (isTxt d w) := by
  cases h with
  | non => cases r; exact EqAt.none_str w t
  | bl b => cases r; exact EqAt.bool_str b w t
  | int i => obtain ⟨t', rfl⟩ := r; exact EqAt.int_str i t' w t
  | str z => obtain ⟨t', rfl⟩ := r; exact EqAt.str_str z t' w t
  | lst e n1 n2 g =>
    cases r
    obtain ⟨its, rv, p, _⟩ := I.list (SqL.of e)
    exact EqAt.list_str w t p.isList hu
  | tup e g =>
    cases r
    obtain ⟨its, rv, p, _⟩ := I.tuple e
    exact EqAt.tuple_str w t p hu
  | dct e n1 n2 =>
    cases r
    obtain ⟨z, hd, vs, rel, dd⟩ := dk_of I.hok e
    obtain ⟨o, es, ep, ho, hc, hdat, hlay⟩ := id dd
    intro prog w' E Q' hq
    unfold eqBool
    refine wpAny_holding ?_
    refine wpAny_ite_split (fun hab => absurd (eq_of_beq hab) nofun) (fun _ => ?_)
    exact wpAny_bind (rc_dict_str w t ho hc.1 hdat hu prog w' E _ (wpAny_truthy_bool hq))
end
section
variable {X : Cx}
/-- data == a text -/
def rEqT (K : PySem.W.Frag) : R2 := fun x y H Q => ∃ d m l w, Dq K H m l x d ∧ y = .str w ∧ Q (.bl (isTxt d w)) H
/-- a text == data -/
def rTEq (K : PySem.W.Frag) : R2 := fun x y H Q => ∃ d m l w, x = .str w ∧ Dq K H m l y d ∧ Q (.bl (isTxt d w)) H
theorem op_eqT (hu : X.A.units + 64 < cLine) : OpR X (compareOp .Eq) (rEqT X.K) := by
  intro pins s σ H x y v u Q I rx ry h
  obtain ⟨d, m, l, w, hd, rfl, q⟩ := h
  obtain ⟨t, rfl⟩ := ry
  exact (hd.rcTxt I (A := X.A) (by omega) rx w t).1 X.prog X.w _ _ ⟨.bl _, H, I, rfl, q⟩
theorem op_Teq (hu : X.A.units + 64 < cLine) : OpR X (compareOp .Eq) (rTEq X.K) := by
  intro pins s σ H x y v u Q I rx ry h
  obtain ⟨d, m, l, w, rfl, hd, q⟩ := h
  obtain ⟨t, rfl⟩ := rx
  exact (hd.rcTxt I (A := X.A) (by omega) ry w t).2 X.prog X.w _ _ ⟨.bl _, H, I, rfl, q⟩
/-- a tuple of data == a tuple of one text -/
def isEnd (d : PyData) (w : Str) : Bool := match d with | .tuple [x] => isTxt x w | _ => false
def rEqE (K : PySem.W.Frag) : R2 := fun x y H Q => ∃ a b m l xs ds w, x = .ref a ∧ y = .ref b ∧ SqT K H a xs ∧ DqAll K H m l xs ds ∧ SqT K H b [.str w] ∧ Q (.bl (isEnd (.tuple ds) w)) H
theorem op_eqE (hu : X.A.units + 64 < cLine) : OpR X (compareOp .Eq) (rEqE X.K) := by
  intro pins s σ H x y v u Q I rx ry h
  obtain ⟨a, b, m, l, xs, ds, w, rfl, rfl, ha, hx, hb, q⟩ := h
  cases rx
  cases ry
  obtain ⟨its, r1, p1, _⟩ := I.tuple ha
  obtain ⟨its2, r2, p2, _⟩ := I.tuple hb
  obtain ⟨t, e2⟩ : ∃ t, its2 = [Value.str w t] := by
    cases r2 with
    | cons r r' =>
      cases r'
      obtain ⟨t, rfl⟩ := r
      exact ⟨t, rfl⟩
  subst e2
  have hl := r1.length
  have ln := hx.len
  cases xs with
  | nil =>
    cases r1
    have ed : ds = [] := by cases ds with | nil => rfl | cons _ _ => simp at ln
    subst ed
    exact PySem.SeqAt.eq_tupleAt (e := fun _ => true) p1 p2 (by omega) (fun j h1 _ => by simp at h1) ⟨.bl _, H, I, rfl, q⟩
  | cons x0 xr =>
    cases r1 with
    | @cons _ u0 _ ur ra rr =>
    cases hx with
    | @cons _ _ d0 dr g0 gr =>
    have at0 : PySem.SeqAt.EqAt X.A.in1 s u0 (.str w t) (isTxt d0 w) := g0.eqTxt I (A := X.A.in1) (by show X.A.units + 1 < cLine; omega) ra w t
    refine PySem.SeqAt.eq_tupleAt (e := fun _ => isTxt d0 w) p1 p2 (by omega) (fun j h1 h2 => ?_) ?_
    · have ej : j = 0 := by simp at h2; omega
      subst ej
      simpa using at0
    · have ev : ((List.range (min (u0 :: ur).toArray.size [Value.str w t].toArray.size)).all (fun _ => isTxt d0 w) && (u0 :: ur).toArray.size == [Value.str w t].toArray.size) = isEnd (.tuple (d0 :: dr)) w := by
        have l2 : ur.length = dr.length := by
          have := rr.length
          have := gr.len
          omega
        have e1 : (u0 :: ur).toArray.size = ur.length + 1 := by simp
        have e2 : [Value.str w t].toArray.size = 1 := by simp
        have e3 : min (ur.length + 1) 1 = 1 := by omega
        rw [e1, e2, e3, l2]
        cases dr with
        | nil => simp [isEnd, List.range, List.range.loop]
        | cons d1 d2 => simp [isEnd]
      rw [ev]
      exact ⟨.bl _, H, I, rfl, q⟩
end
end Ms
namespace Ms
open PySem PySem.Spec PyProof.Rows L2
/-! ### tuple * n, n from 1 on -/
section
open AutoSeq1 MeetsSeq
theorem tuple_mul1 (l : Addr) (items : Array Value) (n : Nat) (dd : Option Addr) (sl : Array (Option Value)) (u : Tok) :
    Meets (Builtin.«tuple.__mul__» ⟨[.ref l, .int 1 u], []⟩) (fun _ R s => s.heap.get? l = some { cls := .type "tuple", dict := dd, data := .seq items n, slots := sl } ∧ R (.ok (.ret (Value.ref l))) s) :=
  .of_wp fun prog w A R s h => by
    obtain ⟨hp, g, d, tk, os⟩ := s
    obtain ⟨hl, h⟩ := h
    have f1 := AutoSeq1.idx_int
    have c1 : (items.isEmpty || ((1 : Int) == 1)) = true := by simp
    wp_walk using wpAny_loadPart' hl
    repeat (first
      | (refine wpAny_ite_true (decide_eq_true c1) ?_; wp_walk using wpAny_loadPart' hl)
      | (refine wpAny_ite_false (by decide) ?_; wp_walk using wpAny_loadPart' hl))
    exact ⟨_, rfl, h⟩
end
def rRep1 (K : PySem.W.Frag) : R2 := fun x y H Q => ∃ l k xs, x = .ref l ∧ y = .int k ∧ SqT K H l xs ∧ xs ≠ [] ∧ 1 ≤ k ∧ k ≤ 1000 ∧ xs.length ≤ 1000 ∧ (k = 1 → Q (.ref l) H) ∧ (2 ≤ k → ∀ p, H p = none → Q (.ref p) (upd H p (.tup (List.replicate k.toNat xs).flatten)))
section
variable {X : Cx}
theorem op_rep1 : OpR X (binaryOp .Mult) (rRep1 X.K) := by
  intro pins s σ H x y v u Q I rx ry h
  obtain ⟨l, k, xs, rfl, rfl, hT, hne, h1, h2, hz, q1, q2⟩ := h
  by_cases hk : 2 ≤ k
  · exact op_repT pins s σ H _ _ v u Q I rx ry ⟨l, k, xs, rfl, rfl, hT, hne, hk, h2, hz, q2 hk⟩
  · obtain rfl : k = 1 := by omega
    cases rx
    obtain ⟨t, rfl⟩ := ry
    obtain ⟨its, r, ⟨⟨cls, dd, data, sl⟩, ho, hc, n, hd⟩, hs⟩ := I.tuple hT
    simp only at hc hd
    subst hc hd
    exact wpAny_binaryOp_repeat_ref (T := "tuple") (U := "int") (by decide) ⟨_, ho, rfl⟩ (fun s' => typeIs_int s' 1 t) noFill_tuple_mul F.fills_int_mul F.slot_int_rmul repeat_tuple F.slot_int_index.lookup
      (call_meets F.slot_int_rmul (typeIs_int s 1 t) F.entry_int_rmul (F.args_int_rmul_2 _ _) (int_rmul_tuple 1 t l its.toArray n dd sl)
        ⟨ho, rfl, ⟨_, ho, rfl⟩, call_meets F.slot_tuple_mul ⟨_, ho, rfl⟩ F.entry_tuple_mul (F.args_tuple_mul_2 _ _) (tuple_mul1 l its.toArray n dd sl t) ⟨ho, ⟨.ref l, H, I, rfl, q1 rfl⟩⟩⟩)
end
end Ms
namespace Ms
open PySem PySem.Spec PyProof.Rows L2
/-! ### the package's requests: is_number, is_ask, is_place, is_mode -/
structure TxtR (mg : Str → Option Value) (fI fN fS fA fG fNu fAs fPl fMo fNP fNM fNd aE aM : Addr) : Prop extends TxtP mg fI fN fS fA fG where
  gNu : mg "is_number" = some (.ref fNu)
  gAs : mg "is_ask" = some (.ref fAs)
  gPl : mg "is_place" = some (.ref fPl)
  gMo : mg "is_mode" = some (.ref fMo)
  gNP : mg "need_places" = some (.ref fNP)
  gNM : mg "need_modes" = some (.ref fNM)
  gNd : mg "need_settings" = some (.ref fNd)
  gE : mg "END" = some (.ref aE)
  gM : mg "MODES" = some (.ref aM)
  mP : ∃ t, mg "MOST_PLACES" = some (.int 16 t)
def nextsD (n k : Int) (d : PyData) : Bool := match d with
  | .tuple es => decide ((es.length : Int) = k + 1) && es.all fun e => isWhole e 0 (n - 1)
  | _ => false
def askD (n : Int) (d1 d2 : PyData) : List (Str × Int) → Bool
  | [] => false
  | q :: qs => if isTxt d1 q.1 = true then nextsD n q.2 d2 else askD n d1 d2 qs
def placeD (qs : List (Str × Int)) (n : Int) (d : PyData) : Bool := match d with
  | .tuple ds => if ds.length = 3 ∧ isTxt (ds.getD 0 .none) "do" = true then isName (ds.getD 1 .none) && isWhole (ds.getD 2 .none) 0 (n - 1)
      else if ds.length = 3 ∧ isTxt (ds.getD 0 .none) "ask" = true then askD n (ds.getD 1 .none) (ds.getD 2 .none) qs
      else isEnd (.tuple ds) "end"
  | _ => false
def isMode (d : PyData) : Bool := match d with | .str z => decide (z ∈ (["live", "met", "begin"] : List Str)) | _ => false
section
variable {P : Program} {w : World} {K : PySem.W.Frag} {mg : Str → Option Value} {base : Heap} {fI fN fS fA fG fNu fAs fPl fMo fNP fNM fNd aE aM : Addr}
theorem scNu : FnScope ["many", "thing"] ["many", "thing"] (defScope sPNum) := ⟨rfl, rfl, rfl, by decide +kernel, rfl, by decide +kernel, by decide +kernel⟩
def spNum (K : PySem.W.Frag) : Sp := fun vs H Q _ => ∃ (m l : Addr) (v : V) (d : PyData) (n : Int), vs = [.int n, v] ∧ Dq K H m l v d ∧ Q (.bl (isWhole d 0 (n - 1))) H
theorem ok_num {f : Addr} {fd fdI : FuncData} (F : Fun K "is_number" "is_number" sPNum f fd) (T : TxtP mg fI fN fS fA fG) (FI : Fun K "is_int" "is_int" sPInt fI fdI) (bI : Binds K fdI ["thing"] []) : FnOk P w K mg base CX0 2 f fd ["many", "thing"] (spNum K) := by
  have GI : FnOk P w K mg base CX0 1 fI fdI ["thing"] (spPInt K) := ok_pint FI T
  refine F.ok scNu (fun vs H Q E h => ?_) (fun cdv A outer s H vs Q E hr h => ?_)
  · obtain ⟨m, l, v, d, n, rfl, _⟩ := h
    rfl
  · obtain ⟨m, l, v, d, n, rfl, hd, q⟩ := h
    refine ⟨_, pss_one (ps_ret (pe_and (pe_call GI hr rfl T.gI FI.kp bI .nil pass0 (pa_cons (pv 1) pa_nil)) (pe_one (pe_chain op_le op_lt pe_int (pv 1) (pv 0))))), ?_⟩
    refine ⟨_, rfl, m, l, v, d, rfl, hd, _, rfl, ite_b (fun e => ?_) (fun e => ?_)⟩
    · obtain ⟨j, rfl⟩ : ∃ j, d = .int j := by
        cases d <;> first | exact ⟨_, rfl⟩ | cases e
      cases hd
      refine ⟨_, rfl, 0, j, rfl, rfl, _, rfl, ite_b (fun e1 => ⟨_, rfl, j, n, rfl, rfl, ?_⟩) (fun e1 => ?_)⟩
      · have z : isWhole (.int j) 0 (n - 1) = decide (j < n) := by
          show (decide (0 ≤ j) && decide (j ≤ n - 1)) = _
          rw [e1, Bool.true_and, Bool.eq_iff_iff, decide_eq_true_eq, decide_eq_true_eq]; omega
        rw [z] at q; exact q
      · have z : isWhole (.int j) 0 (n - 1) = false := by show (decide (0 ≤ j) && decide (j ≤ n - 1)) = _; rw [e1]; rfl
        rw [z] at q; exact q
    · rw [isWhole_int d 0 (n - 1) e] at q
      exact q
/-! is_ask -/
abbrev NAs : List Str := ["settings", "many", "setting", "nexts", "name", "most", "right", "number"]
theorem scAs : FnScope NAs ["settings", "many", "setting", "nexts"] (defScope sPAsk) := ⟨rfl, rfl, rfl, by decide +kernel, rfl, by decide +kernel, by decide +kernel⟩
def spAsk (K : PySem.W.Frag) : Sp := fun vs H Q _ => ∃ (m l a : Addr) (xs : List V) (qs : List (Str × Int)) (n : Int) (v1 v2 : V) (d1 d2 : PyData), vs = [.ref a, .int n, v1, v2] ∧ SqT K H a xs ∧ PrTs K H xs qs ∧ Dq K H m l v1 d1 ∧ Dq K H m l v2 d2 ∧
  (∀ es, d2 = .tuple es → es.length ≤ 100000) ∧ ∀ H', Same H H' → Q (.bl (askD n d1 d2 qs)) H'
theorem ok_ask {f : Addr} {fd fdI fdNu : FuncData} (F : Fun K "is_ask" "is_ask" sPAsk f fd) (T : TxtR mg fI fN fS fA fG fNu fAs fPl fMo fNP fNM fNd aE aM) (FI : Fun K "is_int" "is_int" sPInt fI fdI) (bI : Binds K fdI ["thing"] [])
    (FNu : Fun K "is_number" "is_number" sPNum fNu fdNu) (bNu : Binds K fdNu ["many", "thing"] []) : FnOk P w K mg base CX0 3 f fd ["settings", "many", "setting", "nexts"] (spAsk K) := by
  have GNu : FnOk P w K mg base CX0 2 fNu fdNu ["many", "thing"] (spNum K) := ok_num FNu T.toTxtP FI bI
  refine F.ok scAs (fun vs H Q E h => ?_) (fun cdv A outer s H vs Q E hr h => ?_)
  · obtain ⟨m, l, a, xs, qs, n, v1, v2, d1, d2, rfl, _⟩ := h
    rfl
  · obtain ⟨m, l, a, xs, qs, n, v1, v2, d1, d2, rfl, hs, hp, h1, h2, hz, q⟩ := h
    refine ⟨_, pss_cons (ps_for PassesOwn.never rfl (pi_tup (pv 0)) (pg_tup rfl (pgs_cons (pg_name (i := 4) scAs.nd rfl (by first | exact Or.inl rfl | exact Or.inr rfl)) (pgs_cons (pg_name (i := 5) scAs.nd rfl (by first | exact Or.inl rfl | exact Or.inr rfl)) pgs_nil)))
        (pss_one (ps_if (pt_cmpR (op_Teq hr.units) (pv 4) (pv 2) (nomark _))
          (pss_cons (ps_set (i := 6) scAs.nd rfl (by first | exact Or.inl rfl | exact Or.inr rfl) (pe_and (pe_callB call_isi (by rfl) T.isi PyProof.Rows.boot_isinstance (pa_cons (pv 3) (pa_cons (pe_bltn (v := .ty "tuple") (u := .type "tuple") (by rfl) T.tuple (by decide +kernel) rfl) pa_nil))) (pe_one (pe_cmpR op_eq (pe_callB call_len (by rfl) T.len PySem.boot_len (pa_cons (pv 3) pa_nil)) (pe_op op_add (pv 5) pe_int) (nomark _)))))
          (pss_one (ps_ret (pe_and (pv 6) (pe_one (pe_callB (cr_all rfl) (by rfl) T.all (by decide +kernel) (pa_cons (pe_lc (own := [("number", 7)]) (g := gName 7) (by rfl) scAs.nd (pi_tup (pv 3)) (blkOk_by (own := [("number", 7)]) (N := NAs) (sc := defScope sPAsk) (by decide +kernel))
            (fun _ _ _ _ _ => pg_name (i := 7) scAs.nd rfl (Or.inl rfl)) (fun _ _ _ _ _ => pts_nil) (fun _ _ _ _ _ => pe_call GNu hr (by rfl) T.gNu FNu.kp bNu .nil pass0 (pa_cons (pv 1) (pa_cons (pv 7) pa_nil)))) pa_nil)))))))
          pss_nil)))
      (pss_one (ps_ret pe_bl)), ?_⟩
    have ll := hp.len
    refine ⟨_, rfl, a, rfl, ⟨_, hs⟩, ?_⟩
    refine for_it (walk_tup (xs := xs)) (fun i σ H2 => ∃ v4 v5 : Option V, σ = [some (.ref a), some (.int n), some v1, some v2, v4, v5, none, none] ∧ Same H H2 ∧ askD n d1 d2 qs = askD n d1 d2 (qs.drop i)) ⟨none, none, rfl, Same.refl H, rfl⟩ (fun i σ H2 _ ⟨_, _, _, s2, _⟩ => Same.seqT s2 hs) ?_ ?_
    · rintro i x σ H2 H3 hi ⟨v4, v5, rfl, s2, ed⟩ ⟨rfl, hx⟩
      obtain ⟨qq, hq, b, rfl, hb⟩ := hp.get hx
      have hiq : i < qs.length := by omega
      have edr : qs.drop i = qq :: qs.drop (i + 1) := by rw [List.drop_eq_getElem_cons hiq]; rw [(List.getElem?_eq_some_iff.mp hq).2]
      have e1 := Dq.same s2 d1 v1 h1
      have e2 := Dq.same s2 d2 v2 h2
      refine ⟨b, _, rfl, Same.seqT s2 hb, rfl, _, _, rfl, _, _, rfl, rfl, ?_⟩
      refine ⟨_, rfl, _, rfl, d1, m, l, qq.1, rfl, e1, _, rfl, ite_b (fun e => ?_) (fun e => ?_)⟩
      · have ea : askD n d1 d2 qs = nextsD n qq.2 d2 := by
          rw [ed, edr]; simp only [askD, if_pos e]
        refine ⟨_, rfl, v2, .ty "tuple", _, _, _, rfl, .ty _, e2.ty, isi_tup K d2, _, rfl, ?_⟩
        cases d2 with
        | tuple es =>
          cases e2 with
          | tup g2 gx =>
            rename_i p ys
            have ly := gx.len
            have lz := hz es rfl
            refine ifT rfl ⟨_, rfl, .ref p, ys.length, rfl, .inr ⟨ys, g2, rfl⟩, _, rfl, qq.2, 1, rfl, rfl, rfl, ?_⟩
            have ek : decide (V.int ((ys.length : Nat) : Int) = V.int (qq.2 + 1)) = decide ((es.length : Int) = qq.2 + 1) := by
              rw [Bool.eq_iff_iff, decide_eq_true_eq, decide_eq_true_eq, V.int.injEq, ly]
            refine ⟨_, rfl, _, rfl, ite_b (fun ee => ?_) (fun ee => ?_)⟩
            · rw [ek] at ee
              refine ⟨_, rfl, p, rfl, ⟨_, g2⟩, fun D hD => ?_⟩
              have sD : ∀ o, Same H3 (upd H3 D o) := fun o => Same.upd hD
              refine lc_it (walk_tup (xs := ys)) (fun j H4 => H4 = upd H3 D (.lst (((es.take j).map fun e => isWhole e 0 (n - 1)).map V.bl))) rfl (fun j H4 _ e4 => by rw [e4]; exact Same.seqT (sD _) g2) ?_ ?_
              · rintro j y H4 H5 hj e4 ⟨rfl, hy⟩
                obtain ⟨e, he, dqe⟩ := gx.get hy
                have ti : es.take (j + 1) = es.take j ++ [e] := by rw [List.take_succ, he]; rfl
                refine ⟨rfl, tyes ⟨_, rfl, _, rfl, m, l, y, e, n, rfl, by rw [e4]; exact Dq.same (sD _) e y dqe, _, by rw [e4]; exact upd_same, ?_, ?_⟩⟩
                · rw [List.length_map, List.length_map, List.length_take, sizeLine_eq]; omega
                · show upd H5 D _ = _
                  rw [e4, upd_upd, ti, List.map_append, List.map_append]; rfl
              · rintro H4 e4
                rw [List.take_of_length_le (by omega)] at e4
                refine ⟨D, _, rfl, SqL.of (by rw [e4, upd_same]), ?_⟩
                have ev : askD n d1 (.tuple es) qs = (es.map fun e => isWhole e 0 (n - 1)).all id := by
                  rw [ea, List.all_map]; simp only [nextsD, ee, Bool.true_and]; rfl
                rw [ev] at q
                exact q _ (s2.trans (e4 ▸ sD _))
            · rw [ek] at ee
              have ev : askD n d1 (.tuple es) qs = false := by rw [ea]; simp only [nextsD, ee, Bool.false_and]
              rw [ev] at q
              exact q _ s2
        | _ =>
          refine ifF rfl ⟨_, rfl, _, rfl, ifF rfl ?_⟩
          rw [ea] at q
          exact q _ s2
      · refine ⟨_, _, rfl, s2, ?_⟩
        rw [ed, edr]
        have e' : isTxt d1 qq.1 = false := e
        simp only [askD, e', if_neg Bool.false_ne_true]
    · rintro σ H2 ⟨v4, v5, rfl, s2, ed⟩
      rw [List.drop_of_length_le (by omega)] at ed
      rw [ed] at q
      exact q _ s2
end
end Ms
namespace Ms
open PySem PySem.Spec PyProof.Rows L2
section
variable {P : Program} {w : World} {K : PySem.W.Frag} {mg : Str → Option Value} {base : Heap} {fI fN fS fA fG fNu fAs fPl fMo fNP fNM fNd aE aM : Addr}
/-- the written tuples END and MODES -/
structure WrT (K : PySem.W.Frag) (aE aM : Addr) : Prop where
  e : ∀ H, SqT K H aE [.str "end"]
  m : ∀ H, SqT K H aM [.str "live", .str "met", .str "begin"]
theorem len3 {n : Nat} : decide (V.int ((n : Nat) : Int) = V.int 3) = decide (n = 3) := by
  rw [Bool.eq_iff_iff, decide_eq_true_eq, decide_eq_true_eq, V.int.injEq]; omega
theorem scPl : FnScope ["settings", "many", "thing"] ["settings", "many", "thing"] (defScope sPPlace) := ⟨rfl, rfl, rfl, by decide +kernel, rfl, by decide +kernel, by decide +kernel⟩
def spPlace (K : PySem.W.Frag) : Sp := fun vs H Q _ => ∃ (m l a : Addr) (xs : List V) (qs : List (Str × Int)) (n : Int) (v : V) (d : PyData) (B b : Nat), vs = [.ref a, .int n, v] ∧ SqT K H a xs ∧ PrTs K H xs qs ∧ Dq K H m l v d ∧ Gd B 100000 b d ∧
  ∀ H', Same H H' → Q (.bl (placeD qs n d)) H'
theorem ok_place {f : Addr} {fd fdI fdN fdNu fdAs : FuncData} (F : Fun K "is_place" "is_place" sPPlace f fd) (T : TxtR mg fI fN fS fA fG fNu fAs fPl fMo fNP fNM fNd aE aM) (W : WrT K aE aM) (FI : Fun K "is_int" "is_int" sPInt fI fdI) (bI : Binds K fdI ["thing"] [])
    (FN : Fun K "is_name" "is_name" sPName fN fdN) (bN : Binds K fdN ["thing"] []) (FNu : Fun K "is_number" "is_number" sPNum fNu fdNu) (bNu : Binds K fdNu ["many", "thing"] []) (FAs : Fun K "is_ask" "is_ask" sPAsk fAs fdAs) (bAs : Binds K fdAs ["settings", "many", "setting", "nexts"] []) :
    FnOk P w K mg base CX0 4 f fd ["settings", "many", "thing"] (spPlace K) := by
  have GN : FnOk P w K mg base CX0 1 fN fdN ["thing"] (spName K) := ok_pname FN T.toTxtP
  have GNu : FnOk P w K mg base CX0 2 fNu fdNu ["many", "thing"] (spNum K) := ok_num FNu T.toTxtP FI bI
  have GAs : FnOk P w K mg base CX0 3 fAs fdAs ["settings", "many", "setting", "nexts"] (spAsk K) := ok_ask FAs T FI bI FNu bNu
  refine F.ok scPl (fun vs H Q E h => ?_) (fun cdv A outer s H vs Q E hr h => ?_)
  · obtain ⟨m, l, a, xs, qs, n, v, d, B, b, rfl, _⟩ := h
    rfl
  · obtain ⟨m, l, a, xs, qs, n, v, d, B, b, rfl, hs, hp, hd, gd, q⟩ := h
    have hr1 : Room 1 _ := hr.mono (by decide)
    have hr2 : Room 2 _ := hr.mono (by decide)
    refine ⟨_, pss_cons (ps_if (pt_not (pt_val (pe_callB call_isi (by rfl) T.isi PyProof.Rows.boot_isinstance (pa_cons (pv 2) (pa_cons (pe_bltn (v := .ty "tuple") (u := .type "tuple") (by rfl) T.tuple (by decide +kernel) rfl) pa_nil))))) (pss_one (ps_ret pe_bl)) pss_nil)
      (pss_cons (ps_if (PW.pt (pw_and (pt_cmpR op_eq (pe_callB call_len (by rfl) T.len PySem.boot_len (pa_cons (pv 2) pa_nil)) pe_int (nomark _)) (pw_and1 (pt_cmpR (op_eqT hr.units) (pe_ix ix_tup (pv 2) pe_int (fun _ _ => rfl)) pe_str (nomark _)))))
        (pss_one (ps_ret (pe_and (pe_call GN hr1 rfl T.gN FN.kp bN .nil pass0 (pa_cons (pe_ix ix_tup (pv 2) pe_int (fun _ _ => rfl)) pa_nil)) (pe_one (pe_call GNu hr2 rfl T.gNu FNu.kp bNu .nil pass0 (pa_cons (pv 1) (pa_cons (pe_ix ix_tup (pv 2) pe_int (fun _ _ => rfl)) pa_nil))))))) pss_nil)
      (pss_cons (ps_if (PW.pt (pw_and (pt_cmpR op_eq (pe_callB call_len (by rfl) T.len PySem.boot_len (pa_cons (pv 2) pa_nil)) pe_int (nomark _)) (pw_and1 (pt_cmpR (op_eqT hr.units) (pe_ix ix_tup (pv 2) pe_int (fun _ _ => rfl)) pe_str (nomark _)))))
        (pss_one (ps_ret (pe_call GAs hr rfl T.gAs FAs.kp bAs .nil pass0 (pa_cons (pv 0) (pa_cons (pv 1) (pa_cons (pe_ix ix_tup (pv 2) pe_int (fun _ _ => rfl)) (pa_cons (pe_ix ix_tup (pv 2) pe_int (fun _ _ => rfl)) pa_nil))))))) pss_nil)
      (pss_one (ps_ret (pe_cmpR (op_eqE hr.units) (pv 2) (pe_glob (v := .ref aE) rfl T.gE rfl) (nomark _)))))), ?_⟩
    refine ⟨_, rfl, v, .ty "tuple", _, _, _, rfl, .ty _, hd.ty, isi_tup K d, _, rfl, ?_⟩
    cases d with
    | tuple ds =>
      cases hd with
      | tup h0 hx =>
        rename_i p ys
        have ly := hx.len
        obtain ⟨cc, eb, g⟩ := Gd.untup gd
        refine ifF rfl ?_
        have notend : ∀ H', Same H H' → Q (.bl (isEnd (.tuple ds) "end")) H' → SqT K H' p ys ∧ DqAll K H' m l ys ds := fun H' s' _ => ⟨Same.seqT s' h0, DqAll.same s' ds ys hx⟩
        refine ⟨_, rfl, .ref p, ys.length, rfl, .inr ⟨ys, h0, rfl⟩, rfl, _, rfl, ?_⟩
        rw [len3]
        by_cases l3 : ys.length = 3
        · obtain ⟨y0, y1, y2, rfl⟩ : ∃ y0 y1 y2, ys = [y0, y1, y2] := by
            match ys, l3 with
            | [y0, y1, y2], _ => exact ⟨y0, y1, y2, rfl⟩
          obtain ⟨e0, e1, e2, rfl⟩ : ∃ e0 e1 e2, ds = [e0, e1, e2] := by
            match ds, ly with
            | [e0, e1, e2], _ => exact ⟨e0, e1, e2, rfl⟩
          have p0 : placeD qs n (.tuple [e0, e1, e2]) = if isTxt e0 "do" = true then isName e1 && isWhole e2 0 (n - 1) else if isTxt e0 "ask" = true then askD n e1 e2 qs else false := by
            simp only [placeD, isEnd, List.length_cons, List.length_nil, List.getD_cons_zero, List.getD_cons_succ, true_and]
          rw [p0] at q
          obtain ⟨d0, d1, d2⟩ : Dq K H m l y0 e0 ∧ Dq K H m l y1 e1 ∧ Dq K H m l y2 e2 := by
            cases hx with
            | cons a0 h1 => cases h1 with | cons a1 h2 => cases h2 with | cons a2 _ => exact ⟨a0, a1, a2⟩
          have w1 : ∀ z, e1 = .str z → sOk 100000 z := fun z ez => by
            have gz := g.at (i := 1) (d := e1) rfl
            rw [ez] at gz
            have ww := g.wt
            refine gz.unstr.mono ?_
            rw [ez] at ww
            simp only [PyData.weightAll, PyData.weight] at ww ⊢
            omega
          have w2 : ∀ es, e2 = .tuple es → es.length ≤ 100000 := fun es ez => by
            have ww := g.wt
            rw [ez] at ww
            simp only [PyData.weightAll, PyData.weight] at ww
            have := wA_len es
            omega
          refine ifT (by simp) ?_
          refine ⟨_, rfl, p, _, 0, y0, rfl, rfl, h0, rfl, e0, m, l, "do", d0, rfl, _, rfl, ite_b (fun e => ?_) (fun e => ?_)⟩
          · rw [if_pos e] at q
            refine ⟨_, rfl, p, _, 1, y1, rfl, rfl, h0, rfl, m, l, y1, e1, rfl, d1, w1, fun H3 s3 => ⟨_, rfl, ite_b (fun e => ?_) (fun e => ?_)⟩⟩
            · refine ⟨_, rfl, _, rfl, p, _, 2, y2, rfl, rfl, Same.seqT s3 h0, rfl, m, l, y2, e2, n, rfl, Dq.same s3 e2 y2 d2, ?_⟩
              rw [e, Bool.true_and] at q
              exact q _ s3
            · rw [e, Bool.false_and] at q
              exact q _ s3
          · rw [if_neg (by rw [e]; exact Bool.false_ne_true)] at q
            refine ⟨_, rfl, .ref p, 3, rfl, .inr ⟨_, h0, rfl⟩, rfl, _, rfl, ifT (by decide) ?_⟩
            refine ⟨_, rfl, p, _, 0, y0, rfl, rfl, h0, rfl, e0, m, l, "ask", d0, rfl, _, rfl, ite_b (fun e' => ?_) (fun e' => ?_)⟩
            · rw [if_pos e'] at q
              exact ⟨_, rfl, _, rfl, _, rfl, p, _, 1, y1, rfl, rfl, h0, rfl, _, rfl, p, _, 2, y2, rfl, rfl, h0, rfl, m, l, a, xs, qs, n, y1, y2, e1, e2, rfl, hs, hp, d1, d2, w2, q⟩
            · rw [if_neg (by rw [e']; exact Bool.false_ne_true)] at q
              exact ⟨_, rfl, p, aE, m, l, _, [e0, e1, e2], "end", rfl, rfl, h0, hx, W.e H, q H (Same.refl H)⟩
        · have l3' : ¬ ds.length = 3 := by omega
          have p0 : placeD qs n (.tuple ds) = isEnd (.tuple ds) "end" := by
            unfold placeD
            simp only [l3', false_and, if_false]
          rw [p0] at q
          have nl : decide (ys.length = 3) = false := decide_eq_false l3
          refine ifF nl ?_
          refine ifF rfl ?_
          refine ⟨_, rfl, .ref p, ys.length, rfl, .inr ⟨ys, h0, rfl⟩, rfl, _, rfl, ?_⟩
          rw [len3]
          refine ifF nl ?_
          refine ifF rfl ?_
          exact ⟨_, rfl, p, aE, m, l, ys, ds, "end", rfl, rfl, h0, hx, W.e H, q H (Same.refl H)⟩
    | _ => exact ifT rfl (q H (Same.refl H))
/-! is_mode -/
theorem scMo : FnScope ["thing"] ["thing"] (defScope sPMode) := ⟨rfl, rfl, rfl, by decide +kernel, rfl, by decide +kernel, by decide +kernel⟩
def spMode (K : PySem.W.Frag) : Sp := fun vs H Q _ => ∃ (m l : Addr) (v : V) (d : PyData), vs = [v] ∧ Dq K H m l v d ∧ Q (.bl (isMode d)) H
theorem ok_mode {f : Addr} {fd : FuncData} (F : Fun K "is_mode" "is_mode" sPMode f fd) (T : TxtR mg fI fN fS fA fG fNu fAs fPl fMo fNP fNM fNd aE aM) (W : WrT K aE aM) : FnOk P w K mg base CX0 1 f fd ["thing"] (spMode K) := by
  refine F.ok scMo (fun vs H Q E h => ?_) (fun cdv A outer s H vs Q E hr h => ?_)
  · obtain ⟨m, l, v, d, rfl, _⟩ := h
    rfl
  · obtain ⟨m, l, v, d, rfl, hd, q⟩ := h
    refine ⟨_, pss_one (ps_ret (pe_and (pe_callB call_isi (by rfl) T.isi PyProof.Rows.boot_isinstance (pa_cons (pv 0) (pa_cons (pe_bltn (v := .ty "str") (u := .type "str") (by rfl) T.str (by decide +kernel) rfl) pa_nil)))
      (pe_one (pe_cmpR op_in_seq (pv 0) (pe_glob (v := .ref aM) rfl T.gM rfl) (by rfl))))), ?_⟩
    refine ⟨_, rfl, v, .ty "str", _, _, _, rfl, .ty _, hd.ty, isi_str K d, _, rfl, ?_⟩
    cases d with
    | str z =>
      cases hd
      refine ifT rfl ⟨_, rfl, aM, _, rfl, .inr (W.m H), rfl, rfl, ?_⟩
      have e : inV (.str z) [.str "live", .str "met", .str "begin"] = isMode (.str z) := inV_str z ["live", "met", "begin"]
      rw [e]
      exact q
    | _ => exact ifF rfl q
end
end Ms
namespace Ms
open PySem PySem.Spec PyProof.Rows L2
/-! ### drawn names are names, and no two are the same -/
def lowC (c : Nat) : Prop := 97 ≤ c ∧ c ≤ 122
def Lw (a : Nat) (z : Str) : Prop := z.length ≤ a ∧ ∀ c ∈ z.cps.toList, lowC c
theorem Lw.ok {a : Nat} {z : Str} (h : Lw a z) : sOk a z := ⟨h.1, fun c hc => by have := (h.2 c hc).2; omega⟩
theorem Lw.mono {a b : Nat} {z : Str} (h : Lw a z) (k : a ≤ b) : Lw b z := ⟨Nat.le_trans h.1 k, h.2⟩
theorem app_list (z y : Str) : (z ++ y).cps.toList = z.cps.toList ++ y.cps.toList := Array.toList_append
theorem Lw.app {a b : Nat} {z y : Str} (h : Lw a z) (k : Lw b y) : Lw (a + b) (z ++ y) := by
  refine ⟨by rw [Str.length_append]; exact Nat.add_le_add h.1 k.1, fun c hc => ?_⟩
  rw [app_list] at hc
  exact (List.mem_append.mp hc).elim (h.2 c) (k.2 c)
theorem cut_list (z : Str) (lo hi : Option Int) : (cutS z lo hi).cps.toList = (z.cps.toList.drop (HT.sIx z.length 0 lo)).take (HT.sIx z.length z.length hi - HT.sIx z.length 0 lo) := by simp [cutS]
theorem len_list (z : Str) : z.cps.toList.length = z.length := Array.length_toList
theorem Lw.cut {a : Nat} {z : Str} (h : Lw a z) (lo hi : Option Int) : Lw a (cutS z lo hi) := by
  refine ⟨?_, fun c hc => h.2 c ?_⟩
  · rw [← len_list, cut_list, List.length_take, List.length_drop, len_list]
    have := h.1
    omega
  · rw [cut_list] at hc
    exact List.mem_of_mem_drop (List.mem_of_mem_take hc)
theorem Lw.sign {c : Nat} (h : lowC c) : Lw 1 ⟨#[c]⟩ := ⟨Nat.le_refl _, fun d hd => by simp at hd; rw [hd]; exact h⟩
theorem alpha_nat : ∀ j : Nat, j < 26 → alpha.cps.toList[j]? = some (97 + j) := by
  intro j h
  rw [alpha_list]
  have : ∀ j : Fin 26, ([97, 98, 99, 100, 101, 102, 103, 104, 105, 106, 107, 108, 109, 110, 111, 112, 113, 114, 115, 116, 117, 118, 119, 120, 121, 122] : List Nat)[j.1]? = some (97 + j.1) := by decide
  exact this ⟨j, h⟩
theorem alpha_at2 {i : Int} (h0 : 0 ≤ i) (h1 : i < 26) : atI alpha.cps.toList i = some (97 + i.toNat) ∧ lowC (97 + i.toNat) := by
  obtain ⟨j, rfl⟩ : ∃ j : Nat, i = (j : Int) := ⟨i.toNat, by omega⟩
  refine ⟨atI_nat (alpha_nat j (by omega)), ?_⟩
  unfold lowC
  omega
def nmOk (z : Str) : Prop := 1 ≤ z.length ∧ z.length ≤ 8 ∧ ∀ c ∈ z.cps.toList, lowC c
theorem nmOk.ok {z : Str} (h : nmOk z) : sOk 16 z := ⟨by have := h.2.1; omega, fun c hc => by have := (h.2.2 c hc).2; omega⟩
theorem map_nodup {k : Nat} {f : Nat → Str} (h : ∀ i j, i < k → j < k → f i = f j → i = j) : ((List.range k).map f).Nodup := by
  unfold List.Nodup
  rw [List.pairwise_map]
  refine List.Pairwise.imp_of_mem ?_ (List.pairwise_lt_range (n := k))
  intro i j hi hj hlt e
  have := h i j (List.mem_range.mp hi) (List.mem_range.mp hj) e
  omega
/-- beginnings or ends of one word -/
def fA (W : Str) (b : Int) (k : Nat) (i : Nat) : Str := if b > 7 then cutS W (some (0 + (i : Int))) none else cutS W none (some (0 + (i : Int) + 9 - (k : Int)))
theorem fA_len {W : Str} {b : Int} {k i : Nat} (hW : W.length = 8) (hk : k ≤ 8) (hi : i < k) : (fA W b k i).length = if b > 7 then 8 - i else i + 9 - k := by
  unfold fA
  by_cases h : b > 7
  · rw [if_pos h, if_pos h, ← len_list, cut_list, List.length_take, List.length_drop, len_list, hW]
    have e : (0 + (i : Int)) = ((i : Nat) : Int) := by omega
    rw [e, HT.sIx_nat]
    show min (8 - min i 8) (8 - min i 8) = 8 - i
    omega
  · rw [if_neg h, if_neg h, ← len_list, cut_list, List.length_take, List.length_drop, len_list, hW]
    have e : (0 + (i : Int) + 9 - (k : Int)) = ((i + 9 - k : Nat) : Int) := by omega
    rw [e, HT.sIx_nat, HT.sIx_none]
    omega
theorem fA_good {W : Str} {b : Int} {k : Nat} (hW : Lw 16 W) (h8 : W.length = 8) (hk : k ≤ 8) : ((List.range k).map (fA W b k)).Nodup ∧ ∀ y ∈ (List.range k).map (fA W b k), nmOk y := by
  refine ⟨map_nodup fun i j hi hj e => ?_, fun y hy => ?_⟩
  · have l1 := fA_len (b := b) h8 hk hi
    have l2 := fA_len (b := b) h8 hk hj
    rw [e, l2] at l1
    split at l1 <;> omega
  · obtain ⟨i, hi, rfl⟩ := List.mem_map.mp hy
    have hi' := List.mem_range.mp hi
    have l := fA_len (b := b) h8 hk hi'
    refine ⟨by rw [l]; split <;> omega, by rw [l]; split <;> omega, ?_⟩
    unfold fA
    split
    · exact (hW.cut _ _).2
    · exact (hW.cut _ _).2
/-- one letter exchanged -/
def fB (z : Str) (r5 r6 b : Int) (i : Nat) : Str := cutS z none (some r5) ++ ⟨#[97 + ((r6 + b * (0 + (i : Int))) % 26).toNat]⟩ ++ cutS z (some r5) none
theorem fB_list (z : Str) (r5 r6 b : Int) (i : Nat) : (fB z r5 r6 b i).cps.toList = (cutS z none (some r5)).cps.toList ++ [97 + ((r6 + b * (0 + (i : Int))) % 26).toNat] ++ (cutS z (some r5) none).cps.toList := by
  unfold fB
  rw [app_list, app_list]
theorem fB_good {z : Str} {r5 r6 b : Int} {k : Nat} (hz : Lw 7 z) (h0 : 0 ≤ r5) (h1 : r5 ≤ z.length) (hb : b = 1 ∨ b = 3 ∨ b = 5) (hk : k ≤ 8) : ((List.range k).map (fB z r5 r6 b)).Nodup ∧ ∀ y ∈ (List.range k).map (fB z r5 r6 b), nmOk y := by
  refine ⟨map_nodup fun i j hi hj e => ?_, fun y hy => ?_⟩
  · have e' : (fB z r5 r6 b i).cps.toList = (fB z r5 r6 b j).cps.toList := by rw [e]
    rw [fB_list, fB_list, List.append_assoc, List.append_assoc] at e'
    have e2 := List.append_cancel_left e'
    have e3 : 97 + ((r6 + b * (0 + (i : Int))) % 26).toNat = 97 + ((r6 + b * (0 + (j : Int))) % 26).toNat := by
      simp only [List.cons_append, List.nil_append, List.cons.injEq] at e2
      exact e2.1
    have p1 := Int.emod_nonneg (r6 + b * (0 + (i : Int))) (b := 26) (by decide)
    have p2 := Int.emod_nonneg (r6 + b * (0 + (j : Int))) (b := 26) (by decide)
    rcases hb with rfl | rfl | rfl <;> omega
  · obtain ⟨i, hi, rfl⟩ := List.mem_map.mp hy
    have l := hz.1
    obtain ⟨n5, rfl⟩ : ∃ n : Nat, r5 = (n : Int) := ⟨r5.toNat, by omega⟩
    have len : (fB z (n5 : Int) r6 b i).length = z.length + 1 := by
      rw [← len_list, fB_list, List.length_append, List.length_append, cut_list, cut_list, List.length_take, List.length_drop, List.length_take, List.length_drop, len_list, HT.sIx_nat, HT.sIx_none, HT.sIx_nat, HT.sIx_none]
      simp only [List.length_cons, List.length_nil]
      omega
    refine ⟨by rw [len]; omega, by rw [len]; omega, fun c hc => ?_⟩
    rw [fB_list] at hc
    have q1 := Int.emod_nonneg (r6 + b * (0 + (i : Int))) (b := 26) (by decide)
    have q2 := Int.emod_lt_of_pos (r6 + b * (0 + (i : Int))) (b := 26) (by decide)
    rcases List.mem_append.mp hc with hc | hc
    · rcases List.mem_append.mp hc with hc | hc
      · exact (hz.cut _ _).2 c hc
      · rw [List.mem_singleton.mp hc]
        unfold lowC
        omega
    · exact (hz.cut _ _).2 c hc
theorem mul8_len (z : Str) (c : Nat) : (cutS (z ++ Txt.mul ⟨#[c]⟩ 8) none (some 8)).length = 8 := by
  rw [mul8, ← len_list, cut_list, List.length_take, List.length_drop, len_list, Str.length_append, HT.sIx_none]
  have e : (8 : Int) = ((8 : Nat) : Int) := rfl
  rw [e, HT.sIx_nat]
  show min (min 8 (z.length + 8) - 0) (z.length + 8 - 0) = 8
  omega
section
variable {P : Program} {w : World} {K : PySem.W.Frag} {mg : Str → Option Value} {base : Heap} {fN : Addr}
def spNamesV : Sp := fun vs H Q _ => ∃ (m l : Addr) (n : Nat) (k : Nat), vs = [.ref m, .int (k : Int)] ∧ Mch H m l n ∧ n < 900000 ∧ 1 ≤ k ∧ k ≤ 8 ∧
  ∀ (p : Addr) (ys : List Str) (l' : Addr) (H' : Hp), H p = none → H' p = some (.lst (ys.map V.str)) → ys.length = k → ys.Nodup → (∀ y ∈ ys, nmOk y) → p ≠ m → p ≠ l' → Mch H' m l' (n + 11) → Fr m l l' H H' → Q (.ref p) H'
theorem ok_namesV {f : Addr} {fd fdN : FuncData} (F : Fun K "_law_names" "_law_names" sNames f fd) (T : TxtN mg fN) (FN : Fun K "_law_next" "_law_next" sNext fN fdN) (bN : Binds K fdN ["m", "many"] []) : FnOk P w K mg base CX0 2 f fd ["m", "many"] spNamesV := by
  have GN : FnOk P w K mg base CX0 1 fN fdN ["m", "many"] spNext := ok_next FN T.toTxt
  refine F.ok scNm (fun vs H Q E h => ?_) (fun cdv A outer s H vs Q E hr h => ?_)
  · obtain ⟨m, l, n, k, rfl, _⟩ := h
    rfl
  · obtain ⟨m, l, n, k, rfl, M, hn, hk, hk2, q⟩ := h
    refine ⟨_, pss_cons (ps_asg (pe_tup (pa_cons pe_str (pa_cons pe_str pa_nil))) (pg_tup rfl (pgs_cons (pg_name (i := 2) scNm.nd rfl (Or.inr rfl)) (pgs_cons (pg_name (i := 3) scNm.nd rfl (Or.inr rfl)) pgs_nil))))
      (pss_cons (ps_for PassesOwn.never rfl (pi_range1 (by rfl) T.range (pa_cons (pe_call GN hr rfl T.next FN.kp bN .nil pass0 (pa_cons (pv 0) (pa_cons pe_int pa_nil))) pa_nil)) (pg_name (i := 4) scNm.nd rfl (Or.inl rfl))
        (pss_one (ps_set (i := 3) scNm.nd rfl (Or.inr rfl) (pe_op op_add_str (pv 3) (pe_ix ix_str (pv 2) (pe_call GN hr rfl T.next FN.kp bN .nil pass0 (pa_cons (pv 0) (pa_cons pe_int pa_nil))) (fun _ _ => rfl))))))
      (pss_cons (ps_asg (pe_tup (pa_cons (pe_call GN hr rfl T.next FN.kp bN .nil pass0 (pa_cons (pv 0) (pa_cons (pe_op op_add (pe_callB call_len_str (by rfl) T.len PySem.boot_len (pa_cons (pv 3) pa_nil)) pe_int) pa_nil)))
          (pa_cons (pe_call GN hr rfl T.next FN.kp bN .nil pass0 (pa_cons (pv 0) (pa_cons pe_int pa_nil)))
          (pa_cons (pe_ix ix_list (pe_lst (pa_cons pe_int (pa_cons pe_int (pa_cons pe_int (pa_cons pe_int (pa_cons pe_int (pa_cons pe_int pa_nil))))))) (pe_call GN hr rfl T.next FN.kp bN .nil pass0 (pa_cons (pv 0) (pa_cons pe_int pa_nil))) (fun _ _ => rfl)) pa_nil))))
        (pg_tup rfl (pgs_cons (pg_name (i := 5) scNm.nd rfl (Or.inr rfl)) (pgs_cons (pg_name (i := 6) scNm.nd rfl (Or.inr rfl)) (pgs_cons (pg_name (i := 7) scNm.nd rfl (Or.inr rfl)) pgs_nil)))))
      (pss_cons (ps_set (i := 8) scNm.nd rfl (Or.inr rfl) (pe_slice sl_str (pe_op op_add_str (pv 3) (pe_op op_mul_si (pe_ix ix_str (pv 2) (pv 6) (fun _ _ => rfl)) pe_int)) po_none (po_some pe_int)))
      (pss_cons (ps_if (pt_cmpR op_gt (pv 7) pe_int (nomark _)) (pss_one (ps_ret (pe_lc (own := [("k", 4)]) (g := gName 4) (by rfl) scNm.nd (pi_range1 (by rfl) T.range (pa_cons (pv 1) pa_nil)) (blkOk_by (own := [("k", 4)]) (N := NN) (sc := defScope sNames) (by decide +kernel))
          (fun _ _ _ _ _ => pg_name (i := 4) scNm.nd rfl (Or.inl rfl)) (fun _ _ _ _ _ => pts_nil) (fun _ _ _ _ _ => pe_ifExp (pt_cmpR op_gt (pv 7) pe_int (nomark _)) (pe_slice sl_str (pv 8) (po_some (pv 4)) po_none) (pe_slice sl_str (pv 8) po_none (po_some (pe_op op_sub (pe_op op_add (pv 4) pe_int) (pv 1)))))))) pss_nil)
      (pss_one (ps_ret (pe_lc (own := [("k", 4)]) (g := gName 4) (by rfl) scNm.nd (pi_range1 (by rfl) T.range (pa_cons (pv 1) pa_nil)) (blkOk_by (own := [("k", 4)]) (N := NN) (sc := defScope sNames) (by decide +kernel))
          (fun _ _ _ _ _ => pg_name (i := 4) scNm.nd rfl (Or.inl rfl)) (fun _ _ _ _ _ => pts_nil) (fun _ _ _ _ _ => pe_op op_add_str (pe_op op_add_str (pe_slice sl_str (pv 3) po_none (po_some (pv 5)))
            (pe_ix ix_str (pv 2) (pe_op op_mod (pe_callTy call_int1 (by rfl) T.int (by decide +kernel) (pa_cons (pe_op op_add (pv 6) (pe_op op_mul (pv 7) (pv 4))) pa_nil)) pe_int) (fun _ _ => rfl))) (pe_slice sl_str (pv 3) (po_some (pv 5)) po_none))))))))), ?_⟩
    refine ⟨(by show 2 ≤ sizeLine; decide), fun p1 h1 => ⟨p1, _, rfl, .inl (.inl upd_same), rfl, _, _, rfl, _, _, rfl, rfl, ?_⟩⟩
    have s1 : Same H _ := Same.upd (o := .tup [.str alpha, .str ""]) h1
    refine ⟨_, rfl, m, l, n, 8, rfl, M.same s1, by omega, by decide, by decide, fun r0 l1 H1 r0p r0l M1 f1 => ?_⟩
    refine ⟨r0, rfl, by omega, by omega, ?_⟩
    refine for_range (lo := 0) (n := r0.toNat) (fun i σ H2 => ∃ (z : Str) (v4 : Option V) (l2 : Addr), σ = [some (.ref m), some (.int (k : Int)), some (.str alpha), some (.str z), v4, none, none, none, none] ∧ Lw i z ∧ Mch H2 m l2 (n + 1 + i) ∧ Fr m l l2 H H2)
      ⟨"", _, l1, rfl, ⟨Nat.le_refl _, fun c hc => by cases hc⟩, M1, Fr.lead s1 f1⟩ ?_ ?_
    · rintro i σ H2 hi ⟨z, v4, l2, rfl, hz, M2, f2⟩
      refine ⟨_, rfl, _, rfl, _, rfl, m, l2, _, 26, rfl, M2, by omega, by decide, by decide, fun r l3 H3 rp rl M3 f3 => ?_⟩
      obtain ⟨hc, hc2⟩ := alpha_at2 rp rl
      refine ⟨alpha, r, _, rfl, rfl, alpha_len, hc, z, _, rfl, rfl, ?_, ?_⟩
      · have := hz.1
        show z.length + 1 ≤ sizeLine
        exact small1000 (by omega)
      · exact ⟨_, _, l3, rfl, hz.app (Lw.sign hc2), M3, f2.trans f3⟩
    · rintro σ H2 ⟨z, v4, l2, rfl, hz, M2, f2⟩
      have z7 := hz.1
      have zs : z.length ≤ sizeLine := Nat.le_of_lt (small1000 (by omega))
      refine ⟨_, rfl, _, rfl, z, rfl, zs, _, _, rfl, rfl, m, l2, _, (z.length : Int) + 1, rfl, M2, by omega, by omega, by omega, fun r5 l3 H3 a5 b5 M3 f3 => ?_⟩
      refine ⟨_, rfl, m, l3, _, 26, rfl, M3, by omega, by decide, by decide, fun r6 l4 H4 a6 b6 M4 f4 => ?_⟩
      refine ⟨(by show 6 ≤ sizeLine; decide), fun pL hL => ?_⟩
      have sL := Same.upd (o := .lst [.int 1, .int 3, .int 5, .int 7, .int 9, .int 11]) hL
      have nL := M4.ne hL
      refine ⟨_, rfl, m, l4, _, 6, rfl, M4.same sL, by omega, by decide, by decide, fun r7 l5 H5 a7 b7 M5 f5 => ?_⟩
      obtain ⟨b, hb, bs, b11⟩ : ∃ b : Int, atI ([.int 1, .int 3, .int 5, .int 7, .int 9, .int 11] : List V) r7 = some (.int b) ∧ (b = 1 ∨ b = 3 ∨ b = 5 ∨ 5 < b) ∧ b ≤ 11 := by
        obtain ⟨j, rfl⟩ : ∃ j : Nat, r7 = (j : Int) := ⟨r7.toNat, by omega⟩
        have hj : j < 6 := by omega
        match j, hj with
        | 0, _ => exact ⟨1, rfl, by omega, by omega⟩
        | 1, _ => exact ⟨3, rfl, by omega, by omega⟩
        | 2, _ => exact ⟨5, rfl, by omega, by omega⟩
        | 3, _ => exact ⟨7, rfl, by omega, by omega⟩
        | 4, _ => exact ⟨9, rfl, by omega, by omega⟩
        | 5, _ => exact ⟨11, rfl, by omega, by omega⟩
      refine ⟨pL, _, r7, .int b, rfl, rfl, SqL.of (f5.keep pL _ upd_same nL.1 nL.2), hb, (by show 3 ≤ sizeLine; decide), fun p3 h3 => ?_⟩
      have F5 : Fr m l l5 H H5 := f2.trans (f3.trans (f4.trans (Fr.lead sL f5)))
      refine ⟨p3, _, rfl, .inl (.inl upd_same), rfl, _, _, rfl, _, _, rfl, _, _, rfl, rfl, ?_⟩
      have s3 := Same.upd (o := .tup [.int r5, .int r6, .int b]) h3
      have M6 := M5.same s3
      have F6 := F5.junk (o := .tup [.int r5, .int r6, .int b]) h3
      obtain ⟨hc6, cc6⟩ := alpha_at2 a6 b6
      obtain ⟨c6, ec6⟩ : ∃ c6, c6 = 97 + r6.toNat := ⟨_, rfl⟩
      rw [← ec6] at hc6 cc6
      refine ⟨_, rfl, _, rfl, _, rfl, alpha, r6, c6, rfl, rfl, alpha_len, hc6, _, 8, rfl, rfl, mul8_ok c6, z, _, rfl, rfl, ?_, 8, rfl, _, rfl, ?_, ?_⟩
      · rw [mul8]
        show z.length + 8 ≤ sizeLine
        exact Nat.le_of_lt (small1000 (by omega))
      · rw [mul8, Str.length_append]
        show z.length + 8 ≤ sizeLine
        exact Nat.le_of_lt (small1000 (by omega))
      obtain ⟨W, hW, eW⟩ : ∃ W, Lw 16 W ∧ W = cutS (z ++ Txt.mul { cps := #[c6] } 8) none (some 8) := ⟨_, by
        rw [mul8]
        exact (((hz.mono (show r0.toNat ≤ 7 by omega)).app (b := 8) ⟨by show 8 ≤ 8; decide, fun d hd => by simp at hd; rw [hd]; exact cc6⟩).mono (by decide)).cut _ _, rfl⟩
      rw [← eW]
      have W8 : W.length = 8 := by rw [eW]; exact mul8_len z c6
      have Wl : W.length ≤ sizeLine := Nat.le_trans hW.1 (by decide)
      have ek : ((k : Int)).toNat = k := by omega
      refine ⟨_, rfl, _, _, rfl, rfl, _, rfl, ite2 (fun hb5 => ?_) (fun hb5 => ?_)⟩
      · refine ⟨_, rfl, (k : Int), rfl, by omega, by omega, fun D hD => ?_⟩
        have nD := M6.ne hD
        refine lc_range (lo := 0) (n := ((k : Int)).toNat) (fun i H9 => H9 = upd _ D (.lst (((List.range i).map (fA W b k)).map V.str))) rfl ?_ ?_
        · rintro i H9 hi e9
          have li : ((List.range i).map (fA W b k)).length = i := by rw [List.length_map, List.length_range]
          have gr : ∀ y, y = fA W b k i → upd H9 D (.lst (((List.range i).map (fA W b k)).map V.str ++ [.str y])) = upd (upd H5 p3 (.tup [.int r5, .int r6, .int b])) D (.lst (((List.range (i + 1)).map (fA W b k)).map V.str)) := fun y ey => by
            rw [str_grow e9, ey]; simp only [List.range_succ, List.map_append]; rfl
          refine ⟨rfl, tyes ?_⟩
          refine ⟨_, rfl, _, _, rfl, rfl, _, rfl, ite2 (fun h7 => ?_) (fun h7 => ?_)⟩
          · exact ⟨_, rfl, _, rfl, _, rfl, _, rfl, Wl, _, by rw [e9]; exact upd_same, small1000 (by rw [List.length_map, li]; omega), gr _ (by unfold fA; rw [if_pos (show b > 7 from of_decide_eq_true h7)])⟩
          · exact ⟨_, rfl, _, rfl, _, _, rfl, rfl, _, rfl, _, _, rfl, rfl, _, rfl, _, rfl, Wl, _, by rw [e9]; exact upd_same, small1000 (by rw [List.length_map, li]; omega), gr _ (by unfold fA; rw [if_neg (show ¬ b > 7 from fun z => h7 (decide_eq_true z))])⟩
        · rintro H9 e9
          rw [ek] at e9
          obtain ⟨g1, g2⟩ := fA_good (b := b) hW W8 hk2
          have sD := Same.upd (o := .lst (((List.range k).map (fA W b k)).map V.str)) hD
          rw [e9]
          exact q D _ l5 _ (F6.free hD) upd_same (by rw [List.length_map, List.length_range]) g1 g2 nD.1 nD.2 ((M6.same sD).mono (by omega)) (F6.junk hD)
      · refine ⟨_, rfl, (k : Int), rfl, by omega, by omega, fun D hD => ?_⟩
        have nD := M6.ne hD
        have hz7 : Lw 7 z := hz.mono (by omega)
        have z7o := hz7.ok
        refine lc_range (lo := 0) (n := ((k : Int)).toNat) (fun i H9 => H9 = upd _ D (.lst (((List.range i).map (fB z r5 r6 b)).map V.str))) rfl ?_ ?_
        · rintro i H9 hi e9
          have li : ((List.range i).map (fB z r5 r6 b)).length = i := by rw [List.length_map, List.length_range]
          have nb5 : ¬ (5 < b) := fun z => hb5 (decide_eq_true z)
          have b15 : 1 ≤ b ∧ b ≤ 11 := by omega
          obtain ⟨hc9, cc9⟩ := alpha_at2 (i := (r6 + b * (0 + (i : Int))) % 26) (Int.emod_nonneg _ (by decide)) (Int.emod_lt_of_pos _ (by decide))
          have p1 := (hz7.cut none (some r5))
          have p2 := (p1.app (Lw.sign cc9))
          have p3' := (hz7.cut (some r5) none)
          refine ⟨rfl, tyes ?_⟩
          refine ⟨_, rfl, _, rfl, _, rfl, _, rfl, zs, _, rfl, _, rfl, _, rfl, _, rfl, _, _, rfl, rfl, .inr ⟨by omega, by omega⟩, _, _, rfl, rfl, .inl ⟨_, rfl, _, _, rfl, rfl, (by show (0 : Int) < 26; decide), ?_⟩⟩
          refine ⟨alpha, _, _, rfl, rfl, alpha_len, hc9, _, _, rfl, rfl, ?_, _, rfl, _, rfl, _, rfl, _, rfl, zs, _, _, rfl, rfl, ?_, _, by rw [e9]; exact upd_same, small1000 (by rw [List.length_map, li]; omega), ?_⟩
          · have := p1.1
            show _ + 1 ≤ sizeLine
            exact Nat.le_of_lt (small1000 (by omega))
          · have := p2.1
            have := p3'.1
            exact Nat.le_of_lt (small1000 (by omega))
          · rw [str_grow e9]; simp only [List.range_succ, List.map_append]; rfl
        · rintro H9 e9
          rw [ek] at e9
          obtain ⟨g1, g2⟩ := fB_good (r5 := r5) (r6 := r6) (b := b) hz7 a5 (by omega) (by have nb5 : ¬ (5 < b) := fun z => hb5 (decide_eq_true z); omega) hk2
          have sD := Same.upd (o := .lst (((List.range k).map (fB z r5 r6 b)).map V.str)) hD
          rw [e9]
          exact q D _ l5 _ (F6.free hD) upd_same (by rw [List.length_map, List.length_range]) g1 g2 nD.1 nD.2 ((M6.same sD).mono (by omega)) (F6.junk hD)
end
end Ms
namespace Ms
open PySem PySem.Spec PyProof.Rows L2
/-! ### drawn settings are settings -/
theorem nm_name {z : Str} (h : nmOk z) : isName (.str z) = true := by
  obtain ⟨h1, h2, h3⟩ := h
  show ((decide (1 ≤ z.length) && decide (z.length ≤ 8)) && z.cps.toList.all fun c => decide (c ∈ alpha.cps.toList)) = true
  have ef : (fun c => decide (c ∈ alpha.cps.toList)) = lowB := funext lowB_alpha
  rw [decide_eq_true h1, decide_eq_true h2, ef, Bool.and_true, Bool.true_and, List.all_eq_true]
  intro c hc
  obtain ⟨a, b⟩ := h3 c hc
  unfold lowB
  rw [decide_eq_true a, decide_eq_true b]; rfl
theorem due_all : ∀ (qs : List (Str × Int)) (p : Nat) (seen : List Str) (mn : Int), (∀ q ∈ qs, isName (.str q.1) = true ∧ 1 ≤ q.2 ∧ q.2 ≤ 3) → (∀ q ∈ qs, q.1 ∉ seen) → (qs.map (·.1)).Nodup → dueGo p seen mn (prD qs) = .inr (qs.foldl (fun m q => m * (q.2 + 1)) mn)
  | [], p, seen, mn, _, _, _ => rfl
  | q :: qs, p, seen, mn, h, hs, hn => by
    obtain ⟨h1, h2, h3⟩ := h q (List.mem_cons_self ..)
    have hw : isWhole (.int q.2) 1 3 = true := by show (decide (1 ≤ q.2) && decide (q.2 ≤ 3)) = true; rw [decide_eq_true h2, decide_eq_true h3]; rfl
    have eo : oneD (.tuple [.str q.1, .int q.2]) = some (q.1, q.2) := by simp only [oneD]; rw [h1, hw]; rfl
    have nq := hs q (List.mem_cons_self ..)
    rw [List.map_cons, List.nodup_cons] at hn
    show dueGo p seen mn (.tuple [.str q.1, .int q.2] :: prD qs) = _
    simp only [dueGo, eo, if_neg nq]
    rw [due_all qs (p + 1) (seen ++ [q.1]) (mn * (q.2 + 1)) (fun x hx => h x (List.mem_cons_of_mem _ hx)) (fun x hx z => ?_) hn.2]
    · rfl
    · rcases List.mem_append.mp z with z | z
      · exact hs x (List.mem_cons_of_mem _ hx) z
      · have e : x.1 = q.1 := List.mem_singleton.mp z
        exact hn.1 (by rw [← e]; exact List.mem_map_of_mem hx)
/-- settings, as pairs -/
structure SetOk (ys : List (Str × Int)) : Prop where
  len1 : 1 ≤ ys.length
  len3 : ys.length ≤ 3
  nm : ∀ q ∈ ys, nmOk q.1
  most : ∀ q ∈ ys, 1 ≤ q.2 ∧ q.2 ≤ 3
  nodup : (ys.map (·.1)).Nodup
  few : many ys ≤ 12
theorem prD_len (ys : List (Str × Int)) : (prD ys).length = ys.length := by unfold prD; exact List.length_map ..
theorem SetOk.need {ys : List (Str × Int)} (s : SetOk ys) : needV (.tuple (prD ys)) = none := by
  have e := due_all ys 0 [] 1 (fun q hq => ⟨nm_name (s.nm q hq), s.most q hq⟩) (fun q _ z => nomatch z) s.nodup
  unfold needV
  simp only [prD_len, if_pos (And.intro s.len1 s.len3), e]
  have f := s.few
  unfold many at f
  rw [if_pos f]
theorem SetOk.okP {ys : List (Str × Int)} (s : SetOk ys) : okP ys := fun q hq => ⟨(s.nm q hq).ok, s.most q hq⟩
theorem zip_many : ∀ (ys : List Str) (ms : List Int) (i : Int), ys.length = ms.length → (ys.zip ms).foldl (fun m q => m * (q.2 + 1)) i = ms.foldl (fun m x => m * (x + 1)) i
  | [], [], _, _ => rfl
  | y :: ys, x :: ms, i, h => zip_many ys ms (i * (x + 1)) (by simpa using h)
  | [], _ :: _, _, h => by simp at h
  | _ :: _, [], _, h => by simp at h
theorem zip_fst : ∀ (ys : List Str) (ms : List Int), ys.length = ms.length → (ys.zip ms).map (·.1) = ys
  | [], [], _ => rfl
  | y :: ys, x :: ms, h => by
    show y :: (ys.zip ms).map (·.1) = y :: ys
    rw [zip_fst ys ms (by simpa using h)]
  | [], _ :: _, h => by simp at h
  | _ :: _, [], h => by simp at h
/-- how often each may stand: one to three small ints -/
def MoV (H : Hp) (a : Addr) : Prop := ∃ ms : List Int, H a = some (.tup (ms.map V.int)) ∧ 1 ≤ ms.length ∧ ms.length ≤ 3 ∧ (∀ x ∈ ms, 1 ≤ x ∧ x ≤ 3) ∧ ms.foldl (fun m x => m * (x + 1)) 1 ≤ 12
theorem MoV.same {H H' : Hp} {a : Addr} (s : Same H H') (h : MoV H a) : MoV H' a := by
  obtain ⟨ms, e, r⟩ := h
  exact ⟨ms, s _ _ e, r⟩
section
variable {P : Program} {w : World} {K : PySem.W.Frag} {mg : Str → Option Value} {base : Heap} {fN fM : Addr}
def spSettingsV : Sp := fun vs H Q _ => ∃ (m l : Addr) (n : Nat), vs = [.ref m] ∧ Mch H m l n ∧ n < 800000 ∧
  ∀ (p : Addr) (as : List Addr) (ys : List (Str × Int)) (l' : Addr) (H' : Hp), H' p = some (.tup (as.map V.ref)) → Prs H' as ys → SetOk ys → Mch H' m l' (n + 12) → Fr m l l' H H' → Q (.ref p) H'
theorem ok_settingsV {f : Addr} {fd fdN fdM : FuncData} (F : Fun K "_law_settings" "_law_settings" sSettings f fd) (T : TxtS mg fN fM) (FN : Fun K "_law_next" "_law_next" sNext fN fdN) (bN : Binds K fdN ["m", "many"] [])
    (FM : Fun K "_law_names" "_law_names" sNames fM fdM) (bM : Binds K fdM ["m", "many"] []) : FnOk P w K mg base CX0 3 f fd ["m"] spSettingsV := by
  have GN : FnOk P w K mg base CX0 2 fN fdN ["m", "many"] spNext := (ok_next FN T.toTxt).mono (by decide)
  have GM : FnOk P w K mg base CX0 2 fM fdM ["m", "many"] spNamesV := ok_namesV FM T.toTxtN FN bN
  refine F.ok scSt (fun vs H Q E h => ?_) (fun cdv A outer s H vs Q E hr h => ?_)
  · obtain ⟨m, l, n, rfl, _⟩ := h
    rfl
  · obtain ⟨m, l, n, rfl, M, hn, q⟩ := h
    refine ⟨_, pss_cons (ps_set (i := 1) scSt.nd rfl (by first | exact Or.inl rfl | exact Or.inr rfl) (pe_lst (pa_cons (pe_tup (pa_cons pe_int pa_nil)) (pa_cons (pe_tup (pa_cons pe_int pa_nil)) (pa_cons (pe_tup (pa_cons pe_int pa_nil)) (pa_cons (pe_tup (pa_cons pe_int (pa_cons pe_int pa_nil))) (pa_cons (pe_tup (pa_cons pe_int (pa_cons pe_int pa_nil))) (pa_cons (pe_tup (pa_cons pe_int (pa_cons pe_int pa_nil))) (pa_cons (pe_tup (pa_cons pe_int (pa_cons pe_int pa_nil))) (pa_cons (pe_tup (pa_cons pe_int (pa_cons pe_int pa_nil))) (pa_cons (pe_tup (pa_cons pe_int (pa_cons pe_int pa_nil))) (pa_cons (pe_tup (pa_cons pe_int (pa_cons pe_int (pa_cons pe_int pa_nil)))) (pa_cons (pe_tup (pa_cons pe_int (pa_cons pe_int (pa_cons pe_int pa_nil)))) (pa_cons (pe_tup (pa_cons pe_int (pa_cons pe_int (pa_cons pe_int pa_nil)))) pa_nil))))))))))))))
      (pss_cons (ps_set (i := 2) scSt.nd rfl (by first | exact Or.inl rfl | exact Or.inr rfl) (pe_ix ix_list (pv 1) (pe_call GN hr rfl T.next FN.kp bN .nil pass0 (pa_cons (pv 0) (pa_cons pe_int pa_nil))) (fun _ _ => rfl)))
      (pss_one (ps_ret (pe_callTy call_tuple_of (by rfl) T.tuple (by decide +kernel) (pa_cons (pe_lc (own := [("name", 3), ("most", 4)]) (g := gTup K 2 (gCons (gName 3) (gCons (gName 4) gNil))) (by rfl) scSt.nd
        (pi_zm (by rfl) T.zip (pa_cons (pe_call GM hr rfl T.names FM.kp bM .nil pass0 (pa_cons (pv 0) (pa_cons (pe_callB call_len (by rfl) T.len PySem.boot_len (pa_cons (pv 2) pa_nil)) pa_nil))) (pa_cons (pv 2) pa_nil)))
        (blkOk_by (own := [("name", 3), ("most", 4)]) (N := NS) (sc := defScope sSettings) (by decide +kernel))
        (fun _ _ _ _ _ => pg_tup rfl (pgs_cons (pg_name (i := 3) scSt.nd rfl (Or.inl rfl)) (pgs_cons (pg_name (i := 4) scSt.nd rfl (Or.inl rfl)) pgs_nil))) (fun _ _ _ _ _ => pts_nil)
        (fun _ _ _ _ _ => pe_tup (pa_cons (pv 3) (pa_cons (pv 4) pa_nil)))) pa_nil))))), ?_⟩
    refine ⟨(by show 1 ≤ sizeLine; decide), fun p1 h1 => ?_⟩
    obtain ⟨G1, e1⟩ : ∃ G, G = upd H p1 (.tup [.int 1]) := ⟨_, rfl⟩
    rw [← e1]
    have s1 : Same H G1 := e1 ▸ Same.upd h1
    have M1 := M.same s1
    have f1 : Fr m l l H G1 := e1 ▸ (Fr.refl M).junk h1
    have a1_1 : MoV G1 p1 := ⟨[1], by rw [e1, upd_same]; rfl, by decide, by decide, by decide, by decide⟩
    refine ⟨(by show 1 ≤ sizeLine; decide), fun p2 h2 => ?_⟩
    obtain ⟨G2, e2⟩ : ∃ G, G = upd G1 p2 (.tup [.int 2]) := ⟨_, rfl⟩
    rw [← e2]
    have s2 : Same G1 G2 := e2 ▸ Same.upd h2
    have M2 := M1.same s2
    have f2 : Fr m l l H G2 := e2 ▸ f1.junk h2
    have a2_2 : MoV G2 p2 := ⟨[2], by rw [e2, upd_same]; rfl, by decide, by decide, by decide, by decide⟩
    have a1_2 := a1_1.same s2
    refine ⟨(by show 1 ≤ sizeLine; decide), fun p3 h3 => ?_⟩
    obtain ⟨G3, e3⟩ : ∃ G, G = upd G2 p3 (.tup [.int 3]) := ⟨_, rfl⟩
    rw [← e3]
    have s3 : Same G2 G3 := e3 ▸ Same.upd h3
    have M3 := M2.same s3
    have f3 : Fr m l l H G3 := e3 ▸ f2.junk h3
    have a3_3 : MoV G3 p3 := ⟨[3], by rw [e3, upd_same]; rfl, by decide, by decide, by decide, by decide⟩
    have a1_3 := a1_2.same s3
    have a2_3 := a2_2.same s3
    refine ⟨(by show 2 ≤ sizeLine; decide), fun p4 h4 => ?_⟩
    obtain ⟨G4, e4⟩ : ∃ G, G = upd G3 p4 (.tup [.int 1, .int 1]) := ⟨_, rfl⟩
    rw [← e4]
    have s4 : Same G3 G4 := e4 ▸ Same.upd h4
    have M4 := M3.same s4
    have f4 : Fr m l l H G4 := e4 ▸ f3.junk h4
    have a4_4 : MoV G4 p4 := ⟨[1, 1], by rw [e4, upd_same]; rfl, by decide, by decide, by decide, by decide⟩
    have a1_4 := a1_3.same s4
    have a2_4 := a2_3.same s4
    have a3_4 := a3_3.same s4
    refine ⟨(by show 2 ≤ sizeLine; decide), fun p5 h5 => ?_⟩
    obtain ⟨G5, e5⟩ : ∃ G, G = upd G4 p5 (.tup [.int 1, .int 2]) := ⟨_, rfl⟩
    rw [← e5]
    have s5 : Same G4 G5 := e5 ▸ Same.upd h5
    have M5 := M4.same s5
    have f5 : Fr m l l H G5 := e5 ▸ f4.junk h5
    have a5_5 : MoV G5 p5 := ⟨[1, 2], by rw [e5, upd_same]; rfl, by decide, by decide, by decide, by decide⟩
    have a1_5 := a1_4.same s5
    have a2_5 := a2_4.same s5
    have a3_5 := a3_4.same s5
    have a4_5 := a4_4.same s5
    refine ⟨(by show 2 ≤ sizeLine; decide), fun p6 h6 => ?_⟩
    obtain ⟨G6, e6⟩ : ∃ G, G = upd G5 p6 (.tup [.int 2, .int 1]) := ⟨_, rfl⟩
    rw [← e6]
    have s6 : Same G5 G6 := e6 ▸ Same.upd h6
    have M6 := M5.same s6
    have f6 : Fr m l l H G6 := e6 ▸ f5.junk h6
    have a6_6 : MoV G6 p6 := ⟨[2, 1], by rw [e6, upd_same]; rfl, by decide, by decide, by decide, by decide⟩
    have a1_6 := a1_5.same s6
    have a2_6 := a2_5.same s6
    have a3_6 := a3_5.same s6
    have a4_6 := a4_5.same s6
    have a5_6 := a5_5.same s6
    refine ⟨(by show 2 ≤ sizeLine; decide), fun p7 h7 => ?_⟩
    obtain ⟨G7, e7⟩ : ∃ G, G = upd G6 p7 (.tup [.int 2, .int 2]) := ⟨_, rfl⟩
    rw [← e7]
    have s7 : Same G6 G7 := e7 ▸ Same.upd h7
    have M7 := M6.same s7
    have f7 : Fr m l l H G7 := e7 ▸ f6.junk h7
    have a7_7 : MoV G7 p7 := ⟨[2, 2], by rw [e7, upd_same]; rfl, by decide, by decide, by decide, by decide⟩
    have a1_7 := a1_6.same s7
    have a2_7 := a2_6.same s7
    have a3_7 := a3_6.same s7
    have a4_7 := a4_6.same s7
    have a5_7 := a5_6.same s7
    have a6_7 := a6_6.same s7
    refine ⟨(by show 2 ≤ sizeLine; decide), fun p8 h8 => ?_⟩
    obtain ⟨G8, e8⟩ : ∃ G, G = upd G7 p8 (.tup [.int 1, .int 3]) := ⟨_, rfl⟩
    rw [← e8]
    have s8 : Same G7 G8 := e8 ▸ Same.upd h8
    have M8 := M7.same s8
    have f8 : Fr m l l H G8 := e8 ▸ f7.junk h8
    have a8_8 : MoV G8 p8 := ⟨[1, 3], by rw [e8, upd_same]; rfl, by decide, by decide, by decide, by decide⟩
    have a1_8 := a1_7.same s8
    have a2_8 := a2_7.same s8
    have a3_8 := a3_7.same s8
    have a4_8 := a4_7.same s8
    have a5_8 := a5_7.same s8
    have a6_8 := a6_7.same s8
    have a7_8 := a7_7.same s8
    refine ⟨(by show 2 ≤ sizeLine; decide), fun p9 h9 => ?_⟩
    obtain ⟨G9, e9⟩ : ∃ G, G = upd G8 p9 (.tup [.int 3, .int 2]) := ⟨_, rfl⟩
    rw [← e9]
    have s9 : Same G8 G9 := e9 ▸ Same.upd h9
    have M9 := M8.same s9
    have f9 : Fr m l l H G9 := e9 ▸ f8.junk h9
    have a9_9 : MoV G9 p9 := ⟨[3, 2], by rw [e9, upd_same]; rfl, by decide, by decide, by decide, by decide⟩
    have a1_9 := a1_8.same s9
    have a2_9 := a2_8.same s9
    have a3_9 := a3_8.same s9
    have a4_9 := a4_8.same s9
    have a5_9 := a5_8.same s9
    have a6_9 := a6_8.same s9
    have a7_9 := a7_8.same s9
    have a8_9 := a8_8.same s9
    refine ⟨(by show 3 ≤ sizeLine; decide), fun p10 h10 => ?_⟩
    obtain ⟨G10, e10⟩ : ∃ G, G = upd G9 p10 (.tup [.int 1, .int 1, .int 1]) := ⟨_, rfl⟩
    rw [← e10]
    have s10 : Same G9 G10 := e10 ▸ Same.upd h10
    have M10 := M9.same s10
    have f10 : Fr m l l H G10 := e10 ▸ f9.junk h10
    have a10_10 : MoV G10 p10 := ⟨[1, 1, 1], by rw [e10, upd_same]; rfl, by decide, by decide, by decide, by decide⟩
    have a1_10 := a1_9.same s10
    have a2_10 := a2_9.same s10
    have a3_10 := a3_9.same s10
    have a4_10 := a4_9.same s10
    have a5_10 := a5_9.same s10
    have a6_10 := a6_9.same s10
    have a7_10 := a7_9.same s10
    have a8_10 := a8_9.same s10
    have a9_10 := a9_9.same s10
    refine ⟨(by show 3 ≤ sizeLine; decide), fun p11 h11 => ?_⟩
    obtain ⟨G11, e11⟩ : ∃ G, G = upd G10 p11 (.tup [.int 1, .int 2, .int 1]) := ⟨_, rfl⟩
    rw [← e11]
    have s11 : Same G10 G11 := e11 ▸ Same.upd h11
    have M11 := M10.same s11
    have f11 : Fr m l l H G11 := e11 ▸ f10.junk h11
    have a11_11 : MoV G11 p11 := ⟨[1, 2, 1], by rw [e11, upd_same]; rfl, by decide, by decide, by decide, by decide⟩
    have a1_11 := a1_10.same s11
    have a2_11 := a2_10.same s11
    have a3_11 := a3_10.same s11
    have a4_11 := a4_10.same s11
    have a5_11 := a5_10.same s11
    have a6_11 := a6_10.same s11
    have a7_11 := a7_10.same s11
    have a8_11 := a8_10.same s11
    have a9_11 := a9_10.same s11
    have a10_11 := a10_10.same s11
    refine ⟨(by show 3 ≤ sizeLine; decide), fun p12 h12 => ?_⟩
    obtain ⟨G12, e12⟩ : ∃ G, G = upd G11 p12 (.tup [.int 1, .int 1, .int 2]) := ⟨_, rfl⟩
    rw [← e12]
    have s12 : Same G11 G12 := e12 ▸ Same.upd h12
    have M12 := M11.same s12
    have f12 : Fr m l l H G12 := e12 ▸ f11.junk h12
    have a12_12 : MoV G12 p12 := ⟨[1, 1, 2], by rw [e12, upd_same]; rfl, by decide, by decide, by decide, by decide⟩
    have a1_12 := a1_11.same s12
    have a2_12 := a2_11.same s12
    have a3_12 := a3_11.same s12
    have a4_12 := a4_11.same s12
    have a5_12 := a5_11.same s12
    have a6_12 := a6_11.same s12
    have a7_12 := a7_11.same s12
    have a8_12 := a8_11.same s12
    have a9_12 := a9_11.same s12
    have a10_12 := a10_11.same s12
    have a11_12 := a11_11.same s12
    refine ⟨(by show 12 ≤ sizeLine; decide), fun D hD => ?_⟩
    obtain ⟨G, eG⟩ : ∃ G, G = upd G12 D (.lst [.ref p1, .ref p2, .ref p3, .ref p4, .ref p5, .ref p6, .ref p7, .ref p8, .ref p9, .ref p10, .ref p11, .ref p12]) := ⟨_, rfl⟩
    rw [← eG]
    have sG : Same G12 G := eG ▸ Same.upd hD
    have nD := M12.ne hD
    have MG := M12.same sG
    have fG : Fr m l l H G := eG ▸ f12.junk hD
    have gD : G D = some (.lst [.ref p1, .ref p2, .ref p3, .ref p4, .ref p5, .ref p6, .ref p7, .ref p8, .ref p9, .ref p10, .ref p11, .ref p12]) := by rw [eG, upd_same]
    have pick : ∀ r : Int, 0 ≤ r → r < 12 → ∃ a, atI ([.ref p1, .ref p2, .ref p3, .ref p4, .ref p5, .ref p6, .ref p7, .ref p8, .ref p9, .ref p10, .ref p11, .ref p12] : List V) r = some (.ref a) ∧ MoV G a := by
      intro r h0 h1
      obtain ⟨j, rfl⟩ : ∃ j : Nat, r = (j : Int) := ⟨r.toNat, by omega⟩
      have hj : j < 12 := by omega
      match j, hj with
      | 0, _ => exact ⟨p1, rfl, a1_12.same sG⟩
      | 1, _ => exact ⟨p2, rfl, a2_12.same sG⟩
      | 2, _ => exact ⟨p3, rfl, a3_12.same sG⟩
      | 3, _ => exact ⟨p4, rfl, a4_12.same sG⟩
      | 4, _ => exact ⟨p5, rfl, a5_12.same sG⟩
      | 5, _ => exact ⟨p6, rfl, a6_12.same sG⟩
      | 6, _ => exact ⟨p7, rfl, a7_12.same sG⟩
      | 7, _ => exact ⟨p8, rfl, a8_12.same sG⟩
      | 8, _ => exact ⟨p9, rfl, a9_12.same sG⟩
      | 9, _ => exact ⟨p10, rfl, a10_12.same sG⟩
      | 10, _ => exact ⟨p11, rfl, a11_12.same sG⟩
      | 11, _ => exact ⟨p12, rfl, a12_12.same sG⟩
    clear e1 s1 M1 f1 e2 s2 M2 f2 e3 s3 M3 f3 e4 s4 M4 f4 e5 s5 M5 f5 e6 s6 M6 f6 e7 s7 M7 f7 e8 s8 M8 f8 e9 s9 M9 f9 e10 s10 M10 f10 e11 s11 M11 f11 a1_1 a1_2 a2_2 a1_3 a2_3 a3_3 a1_4 a2_4 a3_4 a4_4 a1_5 a2_5 a3_5 a4_5 a5_5 a1_6 a2_6 a3_6 a4_6 a5_6 a6_6 a1_7 a2_7 a3_7 a4_7 a5_7 a6_7 a7_7 a1_8 a2_8 a3_8 a4_8 a5_8 a6_8 a7_8 a8_8 a1_9 a2_9 a3_9 a4_9 a5_9 a6_9 a7_9 a8_9 a9_9 a1_10 a2_10 a3_10 a4_10 a5_10 a6_10 a7_10 a8_10 a9_10 a10_10 a1_11 a2_11 a3_11 a4_11 a5_11 a6_11 a7_11 a8_11 a9_11 a10_11 a11_11 a1_12 a2_12 a3_12 a4_12 a5_12 a6_12 a7_12 a8_12 a9_12 a10_12 a11_12 a12_12
    refine ⟨_, rfl, _, rfl, m, l, n, 12, rfl, MG, by omega, by decide, by decide, fun r l1 H1 r0 r1 M1 f1' => ?_⟩
    obtain ⟨a, ha, mo⟩ := pick r r0 r1
    refine ⟨D, _, r, .ref a, rfl, rfl, SqL.of (f1'.keep D _ gD nD.1 nD.2), ha, ?_⟩
    obtain ⟨ms, hms, ml1, ml3, msok, mfew⟩ := mo
    have am : a ≠ m ∧ a ≠ l := by
      obtain ⟨c, cs, ls, z, dm, dc, dl, _⟩ := MG.ex
      exact ⟨ne_of hms dm (by intro q; cases q), ne_of hms dl (by intro q; cases q)⟩
    have ka : H1 a = some (.tup (ms.map V.int)) := f1'.keep a _ hms am.1 am.2
    have F1 : Fr m l l1 H H1 := fG.trans f1'
    clear pick gD eG sG MG fG hD e12 s12 M12 f12 h12 h11 h10 h9 h8 h7 h6 h5 h4 h3 h2 h1 ha f1' hms
    have lenA : ((ms.map V.int).length : Nat) = ms.length := List.length_map ..
    refine ⟨_, rfl, _, rfl, _, _, rfl, .inr ⟨_, SqT.of ka, rfl⟩, ?_⟩
    refine ⟨m, l1, n + 1, (ms.map V.int).length, rfl, M1, by omega, by omega, by omega, fun N ys l2 H2 hN gN yl yn yo nm nl M2 f2 => ?_⟩
    have F2 := F1.trans f2
    have ka2 : H2 a = some (.tup (ms.map V.int)) := f2.keep a _ ka am.1 (by
      obtain ⟨c, cs, ls, z, dm, dc, dl, _⟩ := M1.ex
      exact ne_of ka dl (by intro q; cases q))
    refine ⟨_, rfl, N, a, _, _, rfl, SqL.of gN, .inl (.inl ka2), fun D2 hD2 => ?_⟩
    have yl' : ys.length = ms.length := yl.trans lenA
    refine lc_it (walk_zm (xs := ys.map V.str) (ys := ms.map V.int) (n := ms.length) (by simp [yl'])) (fun i H3 => ∃ as : List Addr, as.length = i ∧ Prs H3 as ((ys.zip ms).take i) ∧ (∀ b ∈ as, b ≠ D2) ∧ H3 D2 = some (.lst (as.map V.ref)) ∧ Same H2 H3)
      ⟨[], rfl, .nil, (fun _ hb => nomatch hb), upd_same, Same.upd hD2⟩ (fun i H3 _ ⟨as, _, _, _, _, s3⟩ => ⟨SqL.of (s3 _ _ gN), SqT.of (s3 _ _ ka2)⟩) ?_ ?_
    · rintro i x H3 H4 hi ⟨as, al, pr, nd, gd, s3⟩ ⟨T, x1, x2, rfl, hT, rfl, e1, e2⟩
      have hy : i < ys.length := by omega
      have e1' : x1 = .str ys[i] := by simp [hy] at e1; exact e1.symm
      have e2' : x2 = .int ms[i] := by simp [hi] at e2; exact e2.symm
      subst e1' e2'
      refine ⟨T, _, rfl, .inl (.inl upd_same), rfl, _, _, rfl, _, _, rfl, rfl, rfl, tyes ?_⟩
      refine ⟨_, rfl, _, rfl, (by show 2 ≤ sizeLine; decide), fun p hp => ?_⟩
      have sT : Same H3 (upd H3 T (.tup [.str ys[i], .int ms[i]])) := Same.upd hT
      have sp : Same (upd H3 T (.tup [.str ys[i], .int ms[i]])) (upd (upd H3 T (.tup [.str ys[i], .int ms[i]])) p (.tup [.str ys[i], .int ms[i]])) := Same.upd hp
      have nDp : p ≠ D2 := fun e => by rw [e, sT _ _ gd] at hp; cases hp
      refine ⟨_, sp _ _ (sT _ _ gd), small1000 (by rw [List.length_map]; omega), as ++ [p], by simp [al], ?_, ?_, ?_, ?_⟩
      · rw [List.take_succ]
        have ez : (ys.zip ms)[i]? = some (ys[i], ms[i]) := by rw [List.getElem?_zip_eq_some]; exact ⟨List.getElem?_eq_getElem hy, List.getElem?_eq_getElem hi⟩
        rw [ez]
        refine Prs.snoc (Prs.same (fun b o hb e => ?_) pr) ?_
        · rw [upd_ne (nd b hb)]; exact sp _ _ (sT _ _ e)
        · rw [upd_ne nDp, upd_same]
      · intro b hb
        rcases List.mem_append.mp hb with hb | hb
        · exact nd b hb
        · rw [List.mem_singleton.mp hb]; exact nDp
      · rw [upd_same, List.map_append]; rfl
      · intro b o e
        have nb : b ≠ D2 := ne_of_none e hD2
        rw [upd_ne nb]; exact sp _ _ (sT _ _ (s3 _ _ e))
    · rintro H3 ⟨as, al, pr, nd, gd, s3⟩
      have lz : (ys.zip ms).length = ms.length := by simp [yl']
      rw [List.take_of_length_le (by omega)] at pr
      refine ⟨D2, _, rfl, .inl ⟨SqL.of gd, fun p hp => ?_⟩⟩
      have sp : Same H3 (upd H3 p (.tup (as.map V.ref))) := Same.upd hp
      have so : SetOk (ys.zip ms) := by
        refine ⟨by omega, by omega, fun y hy => yo _ (List.of_mem_zip hy).1, fun y hy => msok _ (List.of_mem_zip hy).2, by rw [zip_fst ys ms yl']; exact yn, ?_⟩
        unfold many
        rw [zip_many ys ms 1 yl']; exact mfew
      exact q p as (ys.zip ms) l2 _ upd_same (pr.same fun b o _ e => sp b o e) so ((((M2.same s3).same sp)).mono (by omega)) ((F2.trail s3).trail sp)
end
end Ms
namespace Ms
open PySem PySem.Spec PyProof.Rows L2
/-! ### need_places, need_modes -/
def firstBad (f : PyData → Bool) : Nat → List PyData → Option Nat
  | _, [] => none
  | p, d :: ds => if f d = true then firstBad f (p + 1) ds else some p
def placesV (qs : List (Str × Int)) (d : PyData) : Option V := match d with
  | .tuple ds => if 1 ≤ ds.length ∧ ds.length ≤ 16 then (firstBad (placeD qs ds.length) 0 ds).map fun p => V.int (p : Nat) else some .non
  | _ => some .non
def modesV (k : Nat) (d : PyData) : Option V := match d with
  | .tuple ds => if ds.length = k then (firstBad isMode 0 ds).map fun p => V.int (p : Nat) else some .non
  | _ => some .non
section
variable {P : Program} {w : World} {K : PySem.W.Frag} {mg : Str → Option Value} {base : Heap} {fI fN fS fA fG fNu fAs fPl fMo fNP fNM fNd aE aM C fE : Addr}
theorem scInP : FnScope ["self", "place"] ["self", "place"] (defScope sIniP) := ⟨rfl, rfl, rfl, by decide +kernel, rfl, by decide +kernel, by decide +kernel⟩
theorem ok_iniP {fd : FuncData} {qual : Str} (F : Fun K "__init__" qual sIniP fE fd) (TE : ErrC K C fE) : FnOk P w K mg base CX0 1 fE fd ["self", "place"] (spIni C) := by
  refine F.ok scInP (fun vs H Q E h => ?_) (fun cdv A outer s H vs Q E hr h => ?_)
  · obtain ⟨a, y, rfl, _⟩ := h
    rfl
  · obtain ⟨a, y, rfl, e, q⟩ := h
    exact ⟨_, pss_one (ps_ost (pv 0) (pv 1)), ⟨_, rfl, _, rfl, a, C, rfl, TE.ox, TE.no, .inl ⟨e, fun dx h1 h2 => q dx h1 h2⟩⟩⟩
theorem scInM : FnScope ["self", "place"] ["self", "place"] (defScope sIniM) := ⟨rfl, rfl, rfl, by decide +kernel, rfl, by decide +kernel, by decide +kernel⟩
theorem ok_iniM {fd : FuncData} {qual : Str} (F : Fun K "__init__" qual sIniM fE fd) (TE : ErrC K C fE) : FnOk P w K mg base CX0 1 fE fd ["self", "place"] (spIni C) := by
  refine F.ok scInM (fun vs H Q E h => ?_) (fun cdv A outer s H vs Q E hr h => ?_)
  · obtain ⟨a, y, rfl, _⟩ := h
    rfl
  · obtain ⟨a, y, rfl, e, q⟩ := h
    exact ⟨_, pss_one (ps_ost (pv 0) (pv 1)), ⟨_, rfl, _, rfl, a, C, rfl, TE.ox, TE.no, .inl ⟨e, fun dx h1 h2 => q dx h1 h2⟩⟩⟩
def spNPl (K : PySem.W.Frag) (C : Addr) : Sp := fun vs H Q E => ∃ (m l a : Addr) (xs : List V) (qs : List (Str × Int)) (v : V) (d : PyData) (B b : Nat), vs = [.ref a, v] ∧ SqT K H a xs ∧ PrTs K H xs qs ∧ Dq K H m l v d ∧ Gd B 100000 b d ∧
  (placesV qs d = none → ∀ H', Same H H' → Q v H') ∧ ∀ u, placesV qs d = some u → ∀ dx H', H dx = none → Same H H' → H' dx = some (.xd [("place", u)]) → E (.ref C) (some dx) H'
abbrev NNp : List Str := ["settings", "places", "at", "place"]
theorem scNp : FnScope NNp ["settings", "places"] (defScope sNPlaces) := ⟨rfl, rfl, rfl, by decide +kernel, rfl, by decide +kernel, by decide +kernel⟩
theorem ok_nplaces {f : Addr} {fd fdI fdN fdNu fdAs fdPl fdE : FuncData} {qual : Str} (F : Fun K "need_places" "need_places" sNPlaces f fd) (T : TxtR mg fI fN fS fA fG fNu fAs fPl fMo fNP fNM fNd aE aM) (W : WrT K aE aM) (gC : mg "BadPlaces" = some (.ref C)) (TE : ErrC K C fE) (FI : Fun K "is_int" "is_int" sPInt fI fdI) (bI : Binds K fdI ["thing"] [])
    (FN : Fun K "is_name" "is_name" sPName fN fdN) (bN : Binds K fdN ["thing"] []) (FNu : Fun K "is_number" "is_number" sPNum fNu fdNu) (bNu : Binds K fdNu ["many", "thing"] []) (FAs : Fun K "is_ask" "is_ask" sPAsk fAs fdAs) (bAs : Binds K fdAs ["settings", "many", "setting", "nexts"] [])
    (FPl : Fun K "is_place" "is_place" sPPlace fPl fdPl) (bPl : Binds K fdPl ["settings", "many", "thing"] []) (FE : Fun K "__init__" qual sIniP fE fdE) (bE : Binds K fdE ["self", "place"] []) : FnOk P w K mg base (L2.CX P w) 5 f fd ["settings", "places"] (spNPl K C) := by
  have GPl : FnOk P w K mg base CX0 4 fPl fdPl ["settings", "many", "thing"] (spPlace K) := ok_place FPl T W FI bI FN bN FNu bNu FAs bAs
  have GE : FnOk P w K mg base CX0 1 fE fdE ["self", "place"] (spIni C) := ok_iniP FE TE
  refine F.okX scNp (fun vs H Q E h => ?_) (fun cdv A outer s H vs Q E hr h => ?_)
  · obtain ⟨m, l, a, xs, qs, v, d, B, b, rfl, _⟩ := h
    rfl
  obtain ⟨m, l, a, xs, qs, v, d, B, b, rfl, hs, hp, hd, gd, q, qe⟩ := h
  obtain ⟨tp, gp⟩ := T.mP
  have hr2 : Room 2 _ := hr.mono (by decide)
  refine ⟨_, pss_cons (ps_if (PW.pt (pw_or (pt_not (pt_val (pe_callB call_isi (by rfl) T.isi PyProof.Rows.boot_isinstance (pa_cons (pv 1) (pa_cons (pe_bltn (v := .ty "tuple") (u := .type "tuple") (by rfl) T.tuple (by decide +kernel) rfl) pa_nil)))))
      (pw_or1 (pt_not (pt_chain op_le op_le pe_int (pe_callB call_len (by rfl) T.len PySem.boot_len (pa_cons (pv 1) pa_nil)) (pe_glob (v := .int 16) rfl gp ⟨_, rfl⟩)))))) (pss_one (ps_raise rfl (takes_of rfl rfl rfl rfl) (pmk_oex TE.ox TE.ini TE.ty GE hr2 bE .nil pass0 (by rfl) gC (pa_cons pe_non pa_nil)))) pss_nil)
    (pss_cons (ps_for (passes_of rfl) rfl (pi_et (by rfl) T.enumerate (pa_cons (pv 1) pa_nil)) (pg_tup rfl (pgs_cons (pg_name (i := 2) scNp.nd rfl (by first | exact Or.inl rfl | exact Or.inr rfl)) (pgs_cons (pg_name (i := 3) scNp.nd rfl (by first | exact Or.inl rfl | exact Or.inr rfl)) pgs_nil)))
      (pss_one (ps_if (pt_not (pt_val (pe_call GPl hr rfl T.gPl FPl.kp bPl .nil pass0 (pa_cons (pv 0) (pa_cons (pe_callB call_len (by rfl) T.len PySem.boot_len (pa_cons (pv 1) pa_nil)) (pa_cons (pv 3) pa_nil))))))
        (pss_one (ps_raise rfl (takes_of rfl rfl rfl rfl) (pmk_oex TE.ox TE.ini TE.ty GE hr2 bE .nil pass0 (by rfl) gC (pa_cons (pv 2) pa_nil)))) pss_nil)))
    (pss_one (ps_ret (pv 1)))), ?_⟩
  refine ⟨_, rfl, v, .ty "tuple", _, _, _, rfl, .ty _, hd.ty, isi_tup K d, _, rfl, ?_⟩
  cases d with
  | tuple ds =>
    cases hd with
    | tup h0 hx =>
      rename_i p ys
      refine ifF rfl ?_
      have ly := hx.len
      have none0 : ¬ (1 ≤ ds.length ∧ ds.length ≤ 16) → placesV qs (.tuple ds) = some .non := fun h => if_neg h
      refine ⟨_, rfl, .ref p, ys.length, rfl, .inr ⟨ys, h0, rfl⟩, 1, (ys.length : Int), rfl, rfl, _, rfl, ite_b (fun e1 => ⟨(ys.length : Int), 16, rfl, rfl, _, rfl, ite_b (fun e8 => mk_one (qe _ (none0 ?_))) (fun e8 => ?_)⟩) (fun e1 => ⟨_, rfl, ifT rfl (mk_one (qe _ (none0 ?_)))⟩)⟩
      · have : ¬ ((ys.length : Int) ≤ 16) := by simpa using e8
        omega
      · have l3 : (ys.length : Int) ≤ 16 := by simpa using e8
        have l1 : (1 : Int) ≤ (ys.length : Int) := of_decide_eq_true e1
        have ed : placesV qs (.tuple ds) = (firstBad (placeD qs ds.length) 0 ds).map fun p => V.int (p : Nat) := if_pos ⟨by omega, by omega⟩
        rw [ed] at q qe
        refine ⟨_, rfl, p, ys, rfl, h0, ?_⟩
        refine for_it walk_et (fun i σ H1 => ∃ (v2 v3 : Option V), σ = [some (.ref a), some (.ref p), v2, v3] ∧ Same H H1 ∧ firstBad (placeD qs ds.length) 0 ds = firstBad (placeD qs ds.length) i (ds.drop i))
          ⟨none, none, rfl, Same.refl H, rfl⟩ (fun i σ H1 _ ⟨v2, v3, _, s1, _⟩ => Same.seqT s1 h0) ?_ ?_
        · rintro i x σ H1 H2 hi ⟨v2, v3, rfl, s1, dg⟩ ⟨TT, x1, x2, rfl, hT, rfl, e1', e2'⟩
          have ex1 : x1 = .int (i : Nat) := (Option.some.inj e1').symm
          subst ex1
          obtain ⟨e, he, dqe⟩ := hx.get e2'
          have sA : Same H (upd H1 TT (.tup [.int (i : Nat), x2])) := s1.trans (Same.upd hT)
          have hid : i < ds.length := by omega
          have edr : ds.drop i = e :: ds.drop (i + 1) := by rw [List.drop_eq_getElem_cons hid]; rw [(List.getElem?_eq_some_iff.mp he).2]
          obtain ⟨cc, eb, g⟩ := Gd.untup gd
          have ge := g.at he
          have we : e.weight ≤ 100000 := by
            have := wA_at he
            have := g.wt
            omega
          refine ⟨TT, _, rfl, .inl (.inl upd_same), rfl, _, _, rfl, _, _, rfl, rfl, ?_⟩
          refine ⟨_, rfl, _, rfl, .ref p, ys.length, rfl, .inr ⟨ys, Same.seqT sA h0, rfl⟩, _, rfl, m, l, a, xs, qs, (ys.length : Int), x2, e, _, _, rfl, Same.seqT sA hs, hp.same sA, Dq.same sA e x2 dqe, ge.mono (Nat.le_refl _) we (Nat.le_refl _), fun H3 s3 => ⟨_, rfl, ?_⟩⟩
          rw [ly]
          rw [edr] at dg
          simp only [firstBad] at dg
          cases hb : placeD qs ds.length e with
          | true =>
            rw [if_pos hb] at dg
            exact ifF rfl ⟨_, _, rfl, sA.trans s3, dg⟩
          | false =>
            rw [if_neg (by rw [hb]; exact Bool.false_ne_true)] at dg
            refine ifT rfl ⟨_, rfl, mk_one fun d H' h1 h2 h3 => qe (.int (i : Nat)) ?_ d H' (Same.free (sA.trans s3) h1) ((sA.trans s3).trans h2) h3⟩
            rw [dg]; rfl
        · rintro σ H1 ⟨v2, v3, rfl, s1, dg⟩
          rw [List.drop_of_length_le (by omega)] at dg
          exact ⟨_, rfl, q (by rw [dg]; rfl) _ s1⟩
      · have : ¬ ((1 : Int) ≤ (ys.length : Int)) := of_decide_eq_false e1
        omega
  | _ => exact ifT rfl (ifT rfl (mk_one (qe _ rfl)))
/-! need_modes -/
def spNMo (K : PySem.W.Frag) (C : Addr) : Sp := fun vs H Q E => ∃ (m l a : Addr) (xs : List V) (v : V) (d : PyData), vs = [.ref a, v] ∧ SqT K H a xs ∧ Dq K H m l v d ∧
  (modesV xs.length d = none → ∀ H', Same H H' → Q v H') ∧ ∀ u, modesV xs.length d = some u → ∀ dx H', H dx = none → Same H H' → H' dx = some (.xd [("place", u)]) → E (.ref C) (some dx) H'
abbrev NNm : List Str := ["settings", "modes", "at", "mode"]
theorem scNmo : FnScope NNm ["settings", "modes"] (defScope sNModes) := ⟨rfl, rfl, rfl, by decide +kernel, rfl, by decide +kernel, by decide +kernel⟩
theorem ok_nmodes {f : Addr} {fd fdMo fdE : FuncData} {qual : Str} (F : Fun K "need_modes" "need_modes" sNModes f fd) (T : TxtR mg fI fN fS fA fG fNu fAs fPl fMo fNP fNM fNd aE aM) (W : WrT K aE aM) (gC : mg "BadModes" = some (.ref C)) (TE : ErrC K C fE)
    (FMo : Fun K "is_mode" "is_mode" sPMode fMo fdMo) (bMo : Binds K fdMo ["thing"] []) (FE : Fun K "__init__" qual sIniM fE fdE) (bE : Binds K fdE ["self", "place"] []) : FnOk P w K mg base (L2.CX P w) 3 f fd ["settings", "modes"] (spNMo K C) := by
  have GMo : FnOk P w K mg base CX0 1 fMo fdMo ["thing"] (spMode K) := ok_mode FMo T W
  have GE : FnOk P w K mg base CX0 1 fE fdE ["self", "place"] (spIni C) := ok_iniM FE TE
  refine F.okX scNmo (fun vs H Q E h => ?_) (fun cdv A outer s H vs Q E hr h => ?_)
  · obtain ⟨m, l, a, xs, v, d, rfl, _⟩ := h
    rfl
  obtain ⟨m, l, a, xs, v, d, rfl, hs, hd, q, qe⟩ := h
  have hr1 : Room 1 _ := hr.mono (by decide)
  refine ⟨_, pss_cons (ps_if (PW.pt (pw_or (pt_not (pt_val (pe_callB call_isi (by rfl) T.isi PyProof.Rows.boot_isinstance (pa_cons (pv 1) (pa_cons (pe_bltn (v := .ty "tuple") (u := .type "tuple") (by rfl) T.tuple (by decide +kernel) rfl) pa_nil)))))
      (pw_or1 (pt_cmpR op_ne (pe_callB call_len (by rfl) T.len PySem.boot_len (pa_cons (pv 1) pa_nil)) (pe_callB call_len (by rfl) T.len PySem.boot_len (pa_cons (pv 0) pa_nil)) (nomark _))))) (pss_one (ps_raise rfl (takes_of rfl rfl rfl rfl) (pmk_oex TE.ox TE.ini TE.ty GE hr bE .nil pass0 (by rfl) gC (pa_cons pe_non pa_nil)))) pss_nil)
    (pss_cons (ps_for (passes_of rfl) rfl (pi_et (by rfl) T.enumerate (pa_cons (pv 1) pa_nil)) (pg_tup rfl (pgs_cons (pg_name (i := 2) scNmo.nd rfl (by first | exact Or.inl rfl | exact Or.inr rfl)) (pgs_cons (pg_name (i := 3) scNmo.nd rfl (by first | exact Or.inl rfl | exact Or.inr rfl)) pgs_nil)))
      (pss_one (ps_if (pt_not (pt_val (pe_call GMo hr1 rfl T.gMo FMo.kp bMo .nil pass0 (pa_cons (pv 3) pa_nil))))
        (pss_one (ps_raise rfl (takes_of rfl rfl rfl rfl) (pmk_oex TE.ox TE.ini TE.ty GE hr bE .nil pass0 (by rfl) gC (pa_cons (pv 2) pa_nil)))) pss_nil)))
    (pss_one (ps_ret (pv 1)))), ?_⟩
  refine ⟨_, rfl, v, .ty "tuple", _, _, _, rfl, .ty _, hd.ty, isi_tup K d, _, rfl, ?_⟩
  cases d with
  | tuple ds =>
    cases hd with
    | tup h0 hx =>
      rename_i p ys
      refine ifF rfl ?_
      have ly := hx.len
      refine ⟨_, rfl, .ref p, ys.length, rfl, .inr ⟨ys, h0, rfl⟩, _, rfl, .ref a, xs.length, rfl, .inr ⟨xs, hs, rfl⟩, rfl, _, rfl, ?_⟩
      have ee : decide (V.int ((ys.length : Nat) : Int) = V.int ((xs.length : Nat) : Int)) = decide (ys.length = xs.length) := by
        rw [Bool.eq_iff_iff, decide_eq_true_eq, decide_eq_true_eq, V.int.injEq]; omega
      rw [ee]
      by_cases hl : ys.length = xs.length
      · have ed : modesV xs.length (.tuple ds) = (firstBad isMode 0 ds).map fun p => V.int (p : Nat) := if_pos (by omega)
        rw [ed] at q qe
        refine ifF (by rw [decide_eq_true hl]; rfl) ?_
        refine ⟨_, rfl, p, ys, rfl, h0, ?_⟩
        refine for_it walk_et (fun i σ H1 => ∃ (v2 v3 : Option V), σ = [some (.ref a), some (.ref p), v2, v3] ∧ Same H H1 ∧ firstBad isMode 0 ds = firstBad isMode i (ds.drop i))
          ⟨none, none, rfl, Same.refl H, rfl⟩ (fun i σ H1 _ ⟨v2, v3, _, s1, _⟩ => Same.seqT s1 h0) ?_ ?_
        · rintro i x σ H1 H2 hi ⟨v2, v3, rfl, s1, dg⟩ ⟨TT, x1, x2, rfl, hT, rfl, e1', e2'⟩
          have ex1 : x1 = .int (i : Nat) := (Option.some.inj e1').symm
          subst ex1
          obtain ⟨e, he, dqe⟩ := hx.get e2'
          have sA : Same H (upd H1 TT (.tup [.int (i : Nat), x2])) := s1.trans (Same.upd hT)
          have hid : i < ds.length := by omega
          have edr : ds.drop i = e :: ds.drop (i + 1) := by rw [List.drop_eq_getElem_cons hid]; rw [(List.getElem?_eq_some_iff.mp he).2]
          refine ⟨TT, _, rfl, .inl (.inl upd_same), rfl, _, _, rfl, _, _, rfl, rfl, ?_⟩
          refine ⟨_, rfl, m, l, x2, e, rfl, Dq.same sA e x2 dqe, _, rfl, ?_⟩
          rw [edr] at dg
          simp only [firstBad] at dg
          cases hb : isMode e with
          | true =>
            rw [if_pos hb] at dg
            exact ifF rfl ⟨_, _, rfl, sA, dg⟩
          | false =>
            rw [if_neg (by rw [hb]; exact Bool.false_ne_true)] at dg
            refine ifT rfl ⟨_, rfl, mk_one fun d H' h1 h2 h3 => qe (.int (i : Nat)) ?_ d H' (Same.free sA h1) (sA.trans h2) h3⟩
            rw [dg]; rfl
        · rintro σ H1 ⟨v2, v3, rfl, s1, dg⟩
          rw [List.drop_of_length_le (by omega)] at dg
          exact ⟨_, rfl, q (by rw [dg]; rfl) _ s1⟩
      · have ed : modesV xs.length (.tuple ds) = some .non := if_neg (by omega)
        exact ifT (by rw [decide_eq_false hl]; rfl) (mk_one (qe _ ed))
  | _ => exact ifT rfl (ifT rfl (mk_one (qe _ rfl)))
end
end Ms
namespace Ms
open PySem PySem.Spec PyProof.Rows L2 LamX
/-! ### data, where the heap is changed elsewhere -/
mutual
theorem Dq.gen {K : PySem.W.Frag} {m l m' l' : Addr} {H H' : Hp} (k1 : ∀ a xs, H a = some (.lst xs) → a ≠ m → a ≠ l → H' a = some (.lst xs) ∧ a ≠ m' ∧ a ≠ l') (k2 : ∀ a xs, SqT K H a xs → SqT K H' a xs)
    (k3 : ∀ a, H a = some (.dK []) → a ≠ m → a ≠ l → H' a = some (.dK []) ∧ a ≠ m' ∧ a ≠ l') : ∀ (d : PyData) (v : V), Dq K H m l v d → Dq K H' m' l' v d
  | .none, _, h => by cases h; exact .non
  | .bool b, _, h => by cases h; exact .bl b
  | .int i, _, h => by cases h; exact .int i
  | .str x, _, h => by cases h; exact .str x
  | .list ds, _, h => by
    cases h with
    | lst e n1 n2 t =>
      obtain ⟨e', n1', n2'⟩ := k1 _ _ e n1 n2
      exact .lst e' n1' n2' (DqAll.gen k1 k2 k3 ds _ t)
  | .tuple ds, _, h => by
    cases h with
    | tup e t => exact .tup (k2 _ _ e) (DqAll.gen k1 k2 k3 ds _ t)
  | .dict _, _, h => by
    cases h with
    | dct e n1 n2 =>
      obtain ⟨e', n1', n2'⟩ := k3 _ e n1 n2
      exact .dct e' n1' n2'
theorem DqAll.gen {K : PySem.W.Frag} {m l m' l' : Addr} {H H' : Hp} (k1 : ∀ a xs, H a = some (.lst xs) → a ≠ m → a ≠ l → H' a = some (.lst xs) ∧ a ≠ m' ∧ a ≠ l') (k2 : ∀ a xs, SqT K H a xs → SqT K H' a xs)
    (k3 : ∀ a, H a = some (.dK []) → a ≠ m → a ≠ l → H' a = some (.dK []) ∧ a ≠ m' ∧ a ≠ l') : ∀ (ds : List PyData) (vs : List V), DqAll K H m l vs ds → DqAll K H' m' l' vs ds
  | [], _, h => by cases h; exact .nil
  | d :: ds, _, h => by
    cases h with
    | cons h1 h2 => exact .cons (Dq.gen k1 k2 k3 d _ h1) (DqAll.gen k1 k2 k3 ds _ h2)
end
section
variable {K : PySem.W.Frag} {H H' : Hp} {m l : Addr}
theorem ExtN.seqT (e : ExtN H H') {a : Addr} {xs : List V} (h : SqT K H a xs) : SqT K H' a xs := by
  rcases h with (h | ⟨o, h⟩) | h
  · exact .inl (.inl (e _ _ h fun _ z => nomatch z))
  · exact .inl (.inr ⟨o, e _ _ h fun _ z => nomatch z⟩)
  · exact .inr h
theorem Dq.ext (e : ExtN H H') {v : V} {d : PyData} (h : Dq K H m l v d) : Dq K H' m l v d :=
  Dq.gen (fun a xs q n1 n2 => ⟨e _ _ q (fun _ z => nomatch z), n1, n2⟩) (fun a xs q => ExtN.seqT e q) (fun a q n1 n2 => ⟨e _ _ q (fun _ z => nomatch z), n1, n2⟩) d v h
theorem Mch.ext {n : Nat} (s : ExtN H H') (M : Mch H m l n) : Mch H' m l n := by
  obtain ⟨c, cs, ls, z, h1, h2, h3, h⟩ := M.ex
  exact ⟨c, cs, ls, z, s _ _ h1 (fun _ z => nomatch z), s _ _ h2 (fun _ z => nomatch z), s _ _ h3 (fun _ z => nomatch z), h⟩
theorem Same.toN (s : Same H H') : ExtN H H' := ExtN.of s
theorem Tabs.same {T : List (Addr × Str)} (t : Tabs T H) (s : Same H H') : Tabs T H' := t.ext s
end
/-! ### a list that is locked while its next item is made -/
section
variable {K : PySem.W.Frag} {H H' : Hp} {m l L : Addr} {n : Nat} {od : Obj} {u o : HO}
theorem upd_frz (h : H L = some (.frz od u)) {b : Addr} {w : HO} (k : ∀ od u, w ≠ .frz od u) (e : H b = some w) : upd H L o b = some w := by
  have nb : b ≠ L := fun z => by
    rw [z, h] at e
    exact k _ _ (Option.some.inj e).symm
  rw [upd_ne nb]; exact e
theorem Mch.unlock (h : H L = some (.frz od u)) (M : Mch H m l n) : Mch (upd H L o) m l n := by
  obtain ⟨c, cs, ls, z, h1, h2, h3, r⟩ := M.ex
  exact ⟨c, cs, ls, z, upd_frz h (fun _ _ z => nomatch z) h1, upd_frz h (fun _ _ z => nomatch z) h2, upd_frz h (fun _ _ z => nomatch z) h3, r⟩
theorem Tabs.unlock {T : List (Addr × Str)} (h : H L = some (.frz od u)) (t : Tabs T H) : Tabs T (upd H L o) := fun p hp => by
  obtain ⟨ps, h1, h2, h3⟩ := t p hp
  refine ⟨ps, upd_frz h (fun _ _ z => nomatch z) h1, h2, fun pos cv hc => ?_⟩
  obtain ⟨c, e1, e2⟩ := h3 pos cv hc
  refine ⟨c, e1, upd_frz h (fun _ _ z => ?_) e2⟩
  unfold CodeO at z
  cases z
theorem Dq.unlock (h : H L = some (.frz od (.lst u'))) {v : V} {d : PyData} (hd : Dq K H m l v d) : Dq K (upd H L o) m l v d := by
  refine Dq.gen (fun a xs q n1 n2 => ⟨upd_frz h (fun _ _ z => nomatch z) q, n1, n2⟩) (fun a xs q => ?_) (fun a q n1 n2 => ⟨upd_frz h (fun _ _ z => nomatch z) q, n1, n2⟩) d v hd
  rcases q with (q | ⟨o', q⟩) | q
  · exact .inl (.inl (upd_frz h (fun _ _ z => nomatch z) q))
  · have q' : H a = some (.frz o' (.tup xs)) := q
    have nb : a ≠ L := fun z => by
      rw [z, h] at q'
      cases q'
    have q2 : upd H L o a = some (.frz o' (.tup xs)) := by rw [upd_ne nb]; exact q'
    exact .inl (.inr ⟨o', q2⟩)
  · exact .inr q
theorem Tabs.fr {T : List (Addr × Str)} {l' : Addr} (M : Mch H m l n) (f : Fr m l l' H H') (t : Tabs T H) : Tabs T H' := fun p hp => by
  obtain ⟨ps, h1, h2, h3⟩ := t p hp
  obtain ⟨c0, cs, ls, z, e1, e2, e3, _⟩ := M.ex
  refine ⟨ps, f.keep _ _ h1 (ne_of h1 e1 (by intro z; cases z)) (ne_of h1 e3 (by intro z; cases z)), h2, fun pos cv hc => ?_⟩
  obtain ⟨c, q1, q2⟩ := h3 pos cv hc
  exact ⟨c, q1, f.keep _ _ q2 (ne_of q2 e1 (by intro z; unfold CodeO at z; cases z)) (ne_of q2 e3 (by intro z; unfold CodeO at z; cases z))⟩
end
end Ms
namespace Ms
open PySem PySem.Spec PyProof.Rows L2
/-! ### Request.__init__ -/
/-- all that was there stays, but at one place -/
def SameX (x : Addr) (H H' : Hp) : Prop := ∀ b o, b ≠ x → H b = some o → H' b = some o
theorem SameX.refl (x : Addr) (H : Hp) : SameX x H H := fun _ _ _ e => e
theorem SameX.thenS {x : Addr} {H H' H'' : Hp} (k : SameX x H H') (s : Same H' H'') : SameX x H H'' := fun b o n e => s b o (k b o n e)
theorem SameX.thenU {x : Addr} {H H' : Hp} {o : HO} (k : SameX x H H') : SameX x H (upd H' x o) := fun b o n e => by rw [upd_ne n]; exact k b o n e
theorem SameX.seqT {K : PySem.W.Frag} {x C dx : Addr} {fs : List (Str × V)} {H H' : Hp} (k : SameX x H H') (hx : H x = some (.ins C dx fs)) {a : Addr} {xs : List V} (h : SqT K H a xs) : SqT K H' a xs := by
  rcases h with (h | ⟨o, h⟩) | h
  · exact .inl (.inl (k _ _ (fun e => by subst e; rw [hx] at h; cases h) h))
  · exact .inl (.inr ⟨o, k _ _ (fun e => by subst e; rw [hx] at h; cases h) h⟩)
  · exact .inr h
theorem SameX.dq {K : PySem.W.Frag} {x C dx m l : Addr} {fs : List (Str × V)} {H H' : Hp} (k : SameX x H H') (hx : H x = some (.ins C dx fs)) (d : PyData) (v : V) (h : Dq K H m l v d) : Dq K H' m l v d :=
  Dq.gen (fun a xs e n1 n2 => ⟨k _ _ (fun z => by subst z; rw [hx] at e; cases e) e, n1, n2⟩) (fun a xs e => k.seqT hx e) (fun a e n1 n2 => ⟨k _ _ (fun z => by subst z; rw [hx] at e; cases e) e, n1, n2⟩) d v h
theorem SameX.free {x : Addr} {H H' : Hp} (k : SameX x H H') {e : Addr} (hx : H' x ≠ none) (h : H' e = none) : H e = none := by
  cases hh : H e with
  | none => rfl
  | some o =>
    by_cases z : e = x
    · subst z; exact absurd h hx
    · rw [k e o z hh] at h; cases h
theorem SameX.same {x : Addr} {H H' : Hp} (k : SameX x H H') (h : H x = none) : Same H H' := fun b o e => k b o (ne_of_none e h) e
/-- settings that are let by are pairs -/
theorem dueGo_pr : ∀ (ds : List PyData) (p : Nat) (seen : List Str) (many r : Int), dueGo p seen many ds = .inr r → ∃ qs, ds = prD qs ∧ ∀ q ∈ qs, 1 ≤ q.2 ∧ q.2 ≤ 3
  | [], _, _, _, _, _ => ⟨[], rfl, fun q h => nomatch h⟩
  | d :: ds, p, seen, many, r, h => by
    simp only [dueGo] at h
    cases eo : oneD d with
    | none => rw [eo] at h; cases h
    | some zc =>
      obtain ⟨z, c⟩ := zc
      rw [eo] at h
      simp only at h
      by_cases hz : z ∈ seen
      · rw [if_pos hz] at h; cases h
      · rw [if_neg hz] at h
        obtain ⟨qs, e, bq⟩ := dueGo_pr ds _ _ _ _ h
        have key : d = .tuple [.str z, .int c] ∧ 1 ≤ c ∧ c ≤ 3 := by
          unfold oneD at eo
          split at eo
          · rename_i z' c'
            by_cases hh : (isName (.str z') && isWhole (.int c') 1 3) = true
            · rw [if_pos hh] at eo
              cases eo
              refine ⟨rfl, ?_⟩
              have h2 := (Bool.and_eq_true _ _ ▸ hh : _ ∧ _).2
              have h3 := (Bool.and_eq_true _ _ ▸ h2 : _ ∧ _)
              exact ⟨of_decide_eq_true h3.1, of_decide_eq_true h3.2⟩
            · rw [if_neg hh] at eo; cases eo
          · cases eo
        refine ⟨(z, c) :: qs, by rw [key.1, e]; rfl, fun q hq => ?_⟩
        rcases List.mem_cons.mp hq with rfl | hq
        · exact key.2
        · exact bq q hq
theorem needV_pr {d : PyData} (h : needV d = none) : ∃ qs, d = .tuple (prD qs) ∧ 1 ≤ qs.length ∧ qs.length ≤ 3 := by
  cases d with
  | tuple ds =>
    have h' : (if 1 ≤ ds.length ∧ ds.length ≤ 3 then (match dueGo 0 [] 1 ds with | .inl p => some (V.int (p : Nat)) | .inr many => if many ≤ 12 then none else some (.str "many")) else some V.non) = none := h
    by_cases hl : 1 ≤ ds.length ∧ ds.length ≤ 3
    · rw [if_pos hl] at h'
      cases eg : dueGo 0 [] 1 ds with
      | inl p => rw [eg] at h'; cases h'
      | inr many =>
        obtain ⟨qs, e, _⟩ := dueGo_pr ds _ _ _ _ eg
        have : ds.length = qs.length := by rw [e]; exact List.length_map ..
        exact ⟨qs, by rw [e], by omega, by omega⟩
    · rw [if_neg hl] at h'; cases h'
  | _ => cases h
theorem prD_trs {K : PySem.W.Frag} {H : Hp} {m l : Addr} : ∀ (qs : List (Str × Int)) (vs : List V), DqAll K H m l vs (prD qs) → PrTs K H vs qs
  | [], _, h => by cases h; exact .nil
  | q :: qs, _, h => by
    cases h with
    | cons h1 h2 =>
      refine .cons ?_ (prD_trs qs _ h2)
      cases h1 with
      | tup e t =>
        cases t with
        | cons t1 t2 =>
          cases t1
          cases t2 with
          | cons t3 t4 =>
            cases t3
            cases t4
            exact ⟨_, rfl, e⟩
/-- the words, "live" of all where none are given -/
def wordsD (k : Nat) (d : PyData) : PyData := match d with | .none => .tuple (List.replicate k (.str "live")) | d => d
theorem live_dq {K : PySem.W.Frag} {H : Hp} {m l : Addr} : ∀ (k : Nat), DqAll K H m l (List.replicate k (V.str "live")) (List.replicate k (.str "live"))
  | 0 => .nil
  | k + 1 => .cons (.str _) (live_dq k)
theorem live_flat (k : Nat) : (List.replicate k [V.str "live"]).flatten = List.replicate k (V.str "live") := by
  induction k with
  | zero => rfl
  | succ k ih => rw [List.replicate_succ, List.flatten_cons, ih]; rfl
section
variable {P : Program} {w : World} {K : PySem.W.Frag} {mg : Str → Option Value} {base : Heap} {fI fN fS fA fG fNu fAs fPl fMo fNP fNM fNd aE aM C CS CP CM fES fEP fEM : Addr}
structure ReqC (K : PySem.W.Frag) (C : Addr) : Prop where
  cl : Cls K C
  nS : NoAttr K C "settings"
  nP : NoAttr K C "places"
  nM : NoAttr K C "modes"
def reqF (v1 v2 v3 : V) : List (Str × V) := [("settings", v1), ("places", v2), ("modes", v3)]
def spReq (K : PySem.W.Frag) (C CS CP CM : Addr) : Sp := fun vs H Q E => ∃ (m l x dx : Addr) (v1 v2 v3 : V) (d1 d2 d3 : PyData) (B1 b1 B2 b2 : Nat), vs = [.ref x, v1, v2, v3] ∧ H x = some (.ins C dx []) ∧ Dq K H m l v1 d1 ∧ Gd B1 100000 b1 d1 ∧ Dq K H m l v2 d2 ∧ Gd B2 100000 b2 d2 ∧ Dq K H m l v3 d3 ∧
  (∀ u, needV d1 = some u → ∀ e H', H e = none → SameX x H H' → H' e = some (.xd [("place", u)]) → E (.ref CS) (some e) H') ∧
  (needV d1 = none → ∀ qs, d1 = .tuple (prD qs) → (∀ u, placesV qs d2 = some u → ∀ e H', H e = none → SameX x H H' → H' e = some (.xd [("place", u)]) → E (.ref CP) (some e) H') ∧
    (placesV qs d2 = none → (∀ u, modesV qs.length (wordsD qs.length d3) = some u → ∀ e H', H e = none → SameX x H H' → H' e = some (.xd [("place", u)]) → E (.ref CM) (some e) H') ∧
      (modesV qs.length (wordsD qs.length d3) = none → ∀ H' v3', SameX x H H' → H' x = some (.ins C dx (reqF v1 v2 v3')) → Dq K H' m l v3' (wordsD qs.length d3) → Q .non H')))
abbrev NNr : List Str := ["self", "settings", "places", "modes"]
theorem scRi : FnScope NNr ["self", "settings", "places", "modes"] (defScope sReqIni) := ⟨rfl, rfl, rfl, by decide +kernel, rfl, by decide +kernel, by decide +kernel⟩
theorem ok_reqini {f : Addr} {fd fdI fdN fdS fdA fdG fdNu fdAs fdPl fdMo fdNP fdNM fdNd fdES fdEP fdEM : FuncData} {q1 q2 q3 qual : Str} (F : FunD K "__init__" qual (defArgs sReqIni) (defBody sReqIni) (defScope sReqIni) [.non] [] f fd) (T : TxtR mg fI fN fS fA fG fNu fAs fPl fMo fNP fNM fNd aE aM) (W : WrT K aE aM) (RC : ReqC K C)
    (gS : mg "BadSettings" = some (.ref CS)) (TS : ErrC K CS fES) (gP : mg "BadPlaces" = some (.ref CP)) (TP : ErrC K CP fEP) (gM : mg "BadModes" = some (.ref CM)) (TM : ErrC K CM fEM)
    (FES : Fun K "__init__" q1 sIni fES fdES) (bES : Binds K fdES ["self", "place"] []) (FEP : Fun K "__init__" q2 sIniP fEP fdEP) (bEP : Binds K fdEP ["self", "place"] []) (FEM : Fun K "__init__" q3 sIniM fEM fdEM) (bEM : Binds K fdEM ["self", "place"] [])
    (FI : Fun K "is_int" "is_int" sPInt fI fdI) (bI : Binds K fdI ["thing"] []) (FN : Fun K "is_name" "is_name" sPName fN fdN) (bN : Binds K fdN ["thing"] []) (FS : Fun K "is_setting" "is_setting" sPSet fS fdS) (bS : Binds K fdS ["thing"] [])
    (FA : Fun K "names_of" "names_of" sPNames fA fdA) (bA : Binds K fdA ["settings"] []) (FG : Fun K "grid_of" "grid_of" sPGrid fG fdG) (bG : Binds K fdG ["settings"] [])
    (FNd : Fun K "need_settings" "need_settings" sNeed fNd fdNd) (bNd : Binds K fdNd ["thing"] [])
    (FNu : Fun K "is_number" "is_number" sPNum fNu fdNu) (bNu : Binds K fdNu ["many", "thing"] []) (FAs : Fun K "is_ask" "is_ask" sPAsk fAs fdAs) (bAs : Binds K fdAs ["settings", "many", "setting", "nexts"] [])
    (FPl : Fun K "is_place" "is_place" sPPlace fPl fdPl) (bPl : Binds K fdPl ["settings", "many", "thing"] []) (FMo : Fun K "is_mode" "is_mode" sPMode fMo fdMo) (bMo : Binds K fdMo ["thing"] [])
    (FNP : Fun K "need_places" "need_places" sNPlaces fNP fdNP) (bNP : Binds K fdNP ["settings", "places"] []) (FNM : Fun K "need_modes" "need_modes" sNModes fNM fdNM) (bNM : Binds K fdNM ["settings", "modes"] []) :
    FnOk P w K mg base (L2.CX P w) 6 f fd ["self", "settings", "places", "modes"] (spReq K C CS CP CM) := by
  have GNd : FnOk P w K mg base (L2.CX P w) 3 fNd fdNd ["thing"] (spNeed K CS) := ok_need FNd T.toTxtP gS TS FI bI FN bN FS bS FA bA FG bG FES bES
  have GNP : FnOk P w K mg base (L2.CX P w) 5 fNP fdNP ["settings", "places"] (spNPl K CP) := ok_nplaces FNP T W gP TP FI bI FN bN FNu bNu FAs bAs FPl bPl FEP bEP
  have GNM : FnOk P w K mg base (L2.CX P w) 3 fNM fdNM ["settings", "modes"] (spNMo K CM) := ok_nmodes FNM T W gM TM FMo bMo FEM bEM
  refine FunD.ok F scRi (fun vs H Q E h => ?_) (fun cdv A outer s H vs Q E hr h => ?_)
  · obtain ⟨m, l, x, dx, v1, v2, v3, d1, d2, d3, B1, b1, B2, b2, rfl, _⟩ := h
    rfl
  obtain ⟨m, l, x, dx, v1, v2, v3, d1, d2, d3, B1, b1, B2, b2, rfl, hx, hd1, gd1, hd2, gd2, hd3, qe, qr⟩ := h
  have hr3 : Room 3 _ := hr.mono (by decide)
  refine ⟨_, pss_cons (ps_fld (pv 0) (pe_call GNd hr3 rfl T.gNd FNd.kp bNd .nil (passes_call (takes_of rfl rfl rfl rfl) fun _ _ _ _ h => h) (pa_cons (pv 1) pa_nil)) rfl)
    (pss_cons (ps_fld (pv 0) (pe_call GNP hr rfl T.gNP FNP.kp bNP .nil (passes_call (takes_of rfl rfl rfl rfl) fun _ _ _ _ h => h) (pa_cons (pv 1) (pa_cons (pv 2) pa_nil))) rfl)
    (pss_cons (ps_if (pt_cmpR op_isN (pv 3) pe_non (nomark _)) (pss_one (ps_set (i := 3) scRi.nd rfl (by first | exact Or.inl rfl | exact Or.inr rfl) (pe_op op_rep1 (pe_tup (pa_cons pe_str pa_nil)) (pe_callB call_len (by rfl) T.len PySem.boot_len (pa_cons (pv 1) pa_nil))))) pss_nil)
    (pss_one (ps_fld (pv 0) (pe_call GNM hr3 rfl T.gNM FNM.kp bNM .nil (passes_call (takes_of rfl rfl rfl rfl) fun _ _ _ _ h => h) (pa_cons (pv 1) (pa_cons (pv 3) pa_nil))) rfl)))), ?_⟩
  refine ⟨_, rfl, m, l, v1, d1, B1, b1, rfl, hd1, gd1, fun hn H1 s1 => ?_, fun u hu e H' h1 h2 h3 => qe u hu e H' h1 (fun b o _ e => h2 b o e) h3⟩
  obtain ⟨qs, rfl, l1, l3⟩ := needV_pr hn
  obtain ⟨qp, q⟩ := qr hn qs rfl
  have x1 : H1 x = some (.ins C dx []) := s1 _ _ hx
  refine ⟨_, rfl, x, C, dx, [], rfl, x1, RC.cl, RC.nS, (by show 0 < 1000; decide), ?_⟩
  have k1 : SameX x H (upd H1 x (.ins C dx (putF "settings" v1 []))) := SameX.thenU (fun b o _ e => s1 b o e)
  obtain ⟨a, xs, rfl, hs, hxs⟩ : ∃ a xs, v1 = .ref a ∧ SqT K H a xs ∧ DqAll K H m l xs (prD qs) := by
    cases hd1 with
    | tup e t => exact ⟨_, _, rfl, e, t⟩
  have lx : xs.length = qs.length := by have := hxs.len; rw [this]; exact List.length_map ..
  generalize eH1 : upd H1 x (.ins C dx (putF "settings" (V.ref a) [])) = G1 at k1 ⊢
  have xg : G1 x = some (.ins C dx (putF "settings" (V.ref a) [])) := by rw [← eH1]; exact upd_same
  have hxs1 : DqAll K G1 m l xs (prD qs) := by
    have := k1.dq hx (.tuple (prD qs)) (.ref a) (.tup hs hxs)
    exact DqAll.gen (fun a xs e n1 n2 => ⟨k1 _ _ (fun z => by subst z; rw [hx] at e; cases e) e, n1, n2⟩) (fun a xs e => k1.seqT hx e) (fun a e n1 n2 => ⟨k1 _ _ (fun z => by subst z; rw [hx] at e; cases e) e, n1, n2⟩) _ _ hxs
  have free1 : ∀ {G : Hp}, SameX x H G → G x ≠ none → ∀ {e}, G e = none → H e = none := fun k n _ h => k.free n h
  refine ⟨_, rfl, _, rfl, m, l, a, xs, qs, v2, d2, B2, b2, rfl, k1.seqT hx hs, prD_trs qs xs hxs1, k1.dq hx d2 v2 hd2, gd2, fun hp H2 s2 => ?_, fun u hu e H' h1 h2 h3 => qp u hu e H' (free1 k1 (by rw [xg]; exact fun z => nomatch z) h1) (k1.thenS h2) h3⟩
  obtain ⟨qm, q⟩ := q hp
  have x2 : H2 x = _ := s2 _ _ xg
  refine ⟨_, rfl, x, C, dx, _, rfl, x2, RC.cl, RC.nP, (by show 1 < 1000; decide), ?_⟩
  have k2 : SameX x H (upd H2 x (.ins C dx (putF "places" v2 (putF "settings" (V.ref a) [])))) := SameX.thenU (k1.thenS s2)
  generalize eH2 : upd H2 x (.ins C dx (putF "places" v2 (putF "settings" (V.ref a) []))) = G2 at k2 ⊢
  have xg2 : G2 x = some (.ins C dx (putF "places" v2 (putF "settings" (V.ref a) []))) := by rw [← eH2]; exact upd_same
  have fin : ∀ (v3' : V) (G3 : Hp), Same G2 G3 → Dq K G3 m l v3' (wordsD qs.length d3) → ∃ (m l a' : Addr) (xs : List V) (v : V) (d : PyData), [V.ref a, v3'] = [.ref a', v] ∧ SqT K G3 a' xs ∧ Dq K G3 m l v d ∧
      (modesV xs.length d = none → ∀ H', Same G3 H' → ∃ z, [some (V.ref x), some (V.ref a), some v2, some v3'][0]? = some (some z) ∧ ∃ p C dx fs, z = V.ref p ∧ H' p = some (.ins C dx fs) ∧ Cls K C ∧ NoAttr K C "modes" ∧ fs.length < 1000 ∧ Q .non (upd H' p (.ins C dx (putF "modes" v fs)))) ∧ ∀ u, modesV xs.length d = some u → ∀ dx H', G3 dx = none → Same G3 H' → H' dx = some (.xd [("place", u)]) → E (.ref CM) (some dx) H' := by
    intro v3' G3 s3 h3
    have k3 := k2.thenS s3
    have x3 : G3 x = _ := s3 _ _ xg2
    refine ⟨m, l, a, xs, v3', wordsD qs.length d3, rfl, k3.seqT hx hs, h3, fun hm H' s' => ?_, fun u hu e H' h1 h2 h3 => ?_⟩
    · rw [lx] at hm
      have x4 := s' _ _ x3
      refine ⟨_, rfl, x, C, dx, _, rfl, x4, RC.cl, RC.nM, (by show 2 < 1000; decide), q hm _ v3' ((k3.thenS s').thenU) upd_same ?_⟩
      exact Dq.gen (fun a xs e n1 n2 => ⟨by rw [upd_ne (fun z => by subst z; rw [x4] at e; cases e)]; exact e, n1, n2⟩) (fun a xs e => SameX.seqT (fun b o n e => by rw [upd_ne n]; exact e) x4 e) (fun a e n1 n2 => ⟨by rw [upd_ne (fun z => by subst z; rw [x4] at e; cases e)]; exact e, n1, n2⟩) _ _ (Dq.same s' _ _ h3)
    · rw [lx] at hu
      exact qm u hu e H' (free1 k3 (by rw [x3]; exact fun z => nomatch z) h1) (k3.thenS h2) h3
  refine ⟨_, rfl, rfl, ?_⟩
  cases d3 with
  | none =>
    cases hd3
    refine ⟨_, rfl, ifT rfl ?_⟩
    refine ⟨(by decide), fun p hp' => ?_⟩
    refine ⟨_, rfl, .ref a, xs.length, rfl, .inr ⟨xs, SameX.seqT (SameX.thenS k2 (Same.upd hp')) hx hs, rfl⟩, p, (xs.length : Int), [V.str "live"], rfl, rfl, .inl (.inl upd_same), (fun z => nomatch z), by omega, by omega, (by show 1 ≤ 1000; decide), fun e1 => ?_, fun e2 p2 hp2 => ?_⟩
    · refine ⟨_, rfl, _, rfl, fin _ _ (Same.upd hp') ?_⟩
      have : qs.length = 1 := by omega
      simp only [wordsD, this]
      exact .tup (.inl (.inl upd_same)) (.cons (.str _) .nil)
    · refine ⟨_, rfl, _, rfl, fin _ _ ((Same.upd hp').trans (Same.upd hp2)) ?_⟩
      have e3 : (xs.length : Int).toNat = qs.length := by omega
      rw [e3, live_flat]
      exact .tup (.inl (.inl upd_same)) (live_dq _)
  | _ =>
    cases hd3 <;> refine ⟨_, rfl, ifF rfl ⟨_, rfl, _, rfl, ?_⟩⟩ <;> refine fin _ _ (Same.refl _) (k2.dq hx _ _ ?_) <;> first | exact .bl _ | exact .int _ | exact .str _ | exact .lst (by assumption) (by assumption) (by assumption) (by assumption) | exact .tup (by assumption) (by assumption) | exact .dct (by assumption) (by assumption) (by assumption)
end
end Ms
namespace Ms
open PySem PySem.Spec PyProof.Rows L2
/-- what a drawn place is -/
theorem do_good {z : Str} {r : Int} (hz : sOk 16 z) (h0 : 0 ≤ r) (h1 : r < 16) : Gd big 460 2 (.tuple [.str "do", .str z, .int r]) := by
  have g1 : Gd big 16 0 (.str "do") := Gd.str ⟨by decide, by decide⟩
  have g2 : Gd big 16 0 (.str z) := Gd.str hz
  have g3 : Gd big 104 0 (.int r) := Gd.int (by show r.natAbs ≤ 10 ^ 30; omega) (by decide)
  exact (Gd.tup ((Gl'.one g1).app ((Gl'.one g2).app (Gl'.one g3)))).mono (Nat.le_refl _) (by omega) (by omega)
theorem end_good : Gd big 460 2 (.tuple [.str "end"]) := (Gd.tup (Gl'.one (Gd.str (a := 16) ⟨by decide, by decide⟩))).mono (Nat.le_refl _) (by omega) (by omega)
theorem ints_good : ∀ ns : List Int, (∀ x ∈ ns, 0 ≤ x ∧ x < 16) → Gl' big (105 * ns.length) 0 (ns.map PyData.int)
  | [], _ => ⟨(fun d h => nomatch h), Nat.le_refl _, (fun d h => nomatch h)⟩
  | x :: ns, h => by
    obtain ⟨h0, h1⟩ := h x (List.mem_cons_self ..)
    have g := (Gl'.one (Gd.int (B := big) (i := x) (by show x.natAbs ≤ 10 ^ 30; omega) (by decide))).app (ints_good ns fun y hy => h y (List.mem_cons_of_mem _ hy))
    exact g.mono (Nat.le_refl _) (by simp only [List.length_cons]; omega) (Nat.le_refl _)
theorem ask_good {z : Str} {ns : List Int} (hz : sOk 16 z) (hn : ∀ x ∈ ns, 0 ≤ x ∧ x < 16) (hl : ns.length ≤ 4) : Gd big 460 2 (.tuple [.str "ask", .str z, .tuple (ns.map .int)]) := by
  have g1 : Gd big 16 1 (.str "ask") := (Gd.str (a := 16) ⟨by decide, by decide⟩).mono (Nat.le_refl _) (Nat.le_refl _) (by omega)
  have g2 : Gd big 16 1 (.str z) := (Gd.str hz).mono (Nat.le_refl _) (Nat.le_refl _) (by omega)
  have g3 := Gd.tup (ints_good ns hn)
  exact (Gd.tup ((Gl'.one g1).app ((Gl'.one g2).app (Gl'.one g3)))).mono (Nat.le_refl _) (by omega) (by omega)
theorem ints_dq {K : PySem.W.Frag} {H : Hp} {m l : Addr} : ∀ ns : List Int, DqAll K H m l (ns.map V.int) (ns.map PyData.int)
  | [] => .nil
  | _ :: ns => .cons (.int _) (ints_dq ns)
/-- what a drawn place is: an end, a deed, an ask -/
def plD (qs : List (Str × Int)) (many : Int) (d : PyData) : Prop := d = .tuple [.str "end"] ∨ (∃ (z : Str) (r : Int), d = .tuple [.str "do", .str z, .int r] ∧ nmOk z ∧ 0 ≤ r ∧ r < many) ∨
  ∃ q ∈ qs, ∃ ns : List Int, d = .tuple [.str "ask", .str q.1, .tuple (ns.map .int)] ∧ (ns.length : Int) = q.2 + 1 ∧ ∀ x ∈ ns, 0 ≤ x ∧ x < many
def PlG (qs : List (Str × Int)) (many : Int) (d : PyData) : Prop := Gd big 460 2 d ∧ plD qs many d
end Ms
namespace Ms
open PySem PySem.Spec PyProof.Rows L2
/-! ### a request of drawn things is made -/
theorem nextsD_ok {n k : Int} {ns : List Int} (hl : (ns.length : Int) = k + 1) (hx : ∀ x ∈ ns, 0 ≤ x ∧ x < n) : nextsD n k (.tuple (ns.map .int)) = true := by
  show (decide (((ns.map PyData.int).length : Int) = k + 1) && (ns.map PyData.int).all fun e => isWhole e 0 (n - 1)) = true
  rw [List.length_map, decide_eq_true hl, Bool.true_and, List.all_eq_true]
  intro e he
  obtain ⟨x, h, rfl⟩ := List.mem_map.mp he
  have := hx x h
  show (decide (0 ≤ x) && decide (x ≤ n - 1)) = true
  rw [decide_eq_true this.1, decide_eq_true (show x ≤ n - 1 by omega)]; rfl
theorem askD_ok {n : Int} {q : Str × Int} {d2 : PyData} : ∀ {qs : List (Str × Int)}, q ∈ qs → (qs.map (·.1)).Nodup → nextsD n q.2 d2 = true → askD n (.str q.1) d2 qs = true
  | [], h, _, _ => nomatch h
  | q' :: qs, h, hn, hx => by
    unfold askD
    by_cases e : q.1 = q'.1
    · rw [if_pos (by show (q.1 == q'.1) = true; rw [e]; exact beq_self_eq_true _)]
      rcases List.mem_cons.mp h with rfl | h
      · exact hx
      · rw [List.map_cons, List.nodup_cons] at hn
        exact absurd (by rw [← e]; exact List.mem_map_of_mem h) hn.1
    · rw [if_neg (by show ¬ (q.1 == q'.1) = true; simpa using e)]
      rcases List.mem_cons.mp h with rfl | h
      · exact absurd rfl e
      · rw [List.map_cons, List.nodup_cons] at hn
        exact askD_ok h hn.2 hx
theorem placeD_ok {qs : List (Str × Int)} {many : Int} {d : PyData} (hn : (qs.map (·.1)).Nodup) (p : plD qs many d) : placeD qs many d = true := by
  rcases p with rfl | ⟨z, r, rfl, hz, h0, h1⟩ | ⟨q, hq, ns, rfl, hl, hx⟩
  · rfl
  · have e : placeD qs many (.tuple [.str "do", .str z, .int r]) = (isName (.str z) && isWhole (.int r) 0 (many - 1)) := by
      unfold placeD
      exact if_pos ⟨rfl, (by decide : isTxt (.str "do") "do" = true)⟩
    rw [e, nm_name hz]
    show (true && (decide (0 ≤ r) && decide (r ≤ many - 1))) = true
    rw [decide_eq_true h0, decide_eq_true (show r ≤ many - 1 by omega)]; rfl
  · have e : placeD qs many (.tuple [.str "ask", .str q.1, .tuple (ns.map .int)]) = askD many (.str q.1) (.tuple (ns.map .int)) qs := by
      unfold placeD
      exact (if_neg (fun h => absurd (show isTxt (.str "ask") "do" = true from h.2) (by decide))).trans (if_pos ⟨rfl, (by decide : isTxt (.str "ask") "ask" = true)⟩)
    rw [e]
    exact askD_ok hq hn (nextsD_ok hl hx)
theorem firstBad_no {f : PyData → Bool} : ∀ (ds : List PyData) (p : Nat), (∀ d ∈ ds, f d = true) → firstBad f p ds = none
  | [], _, _ => rfl
  | d :: ds, p, h => by
    unfold firstBad
    rw [if_pos (h d (List.mem_cons_self ..))]
    exact firstBad_no ds _ fun x hx => h x (List.mem_cons_of_mem _ hx)
theorem places_no {qs : List (Str × Int)} {ds : List PyData} (hn : (qs.map (·.1)).Nodup) (h1 : 1 ≤ ds.length) (h16 : ds.length ≤ 16) (hp : ∀ d ∈ ds, plD qs (ds.length : Int) d) : placesV qs (.tuple ds) = none := by
  show (if 1 ≤ ds.length ∧ ds.length ≤ 16 then (firstBad (placeD qs ds.length) 0 ds).map fun p => V.int (p : Nat) else some .non) = none
  rw [if_pos ⟨h1, h16⟩, firstBad_no ds 0 fun d hd => placeD_ok hn (hp d hd)]; rfl
theorem modes_no {k : Nat} {zs : List Str} (hl : zs.length = k) (hz : ∀ z ∈ zs, z ∈ (["live", "met", "begin"] : List Str)) : modesV k (.tuple (zs.map .str)) = none := by
  show (if (zs.map PyData.str).length = k then (firstBad isMode 0 (zs.map PyData.str)).map fun p => V.int (p : Nat) else some .non) = none
  rw [List.length_map, if_pos hl, firstBad_no _ 0 fun d hd => ?_]
  · rfl
  · obtain ⟨z, h, rfl⟩ := List.mem_map.mp hd
    exact decide_eq_true (hz z h)
theorem prD_inj' : ∀ {qs ys : List (Str × Int)}, prD qs = prD ys → qs = ys
  | [], [], _ => rfl
  | [], _ :: _, h => by cases h
  | _ :: _, [], h => by cases h
  | (a, b) :: qs, (c, e) :: ys, h => by
    have h' : PyData.tuple [.str a, .int b] :: prD qs = .tuple [.str c, .int e] :: prD ys := h
    injection h' with h1 h2
    injection h1 with h3
    injection h3 with h4 h5
    injection h5 with h6 h7
    injection h4 with h8
    injection h6 with h9
    rw [h8, h9, prD_inj' h2]
theorem req_okQ {K : PySem.W.Frag} {C CS CP CM x dx : Addr} {H3 : Hp} {Q : VK} {E : XK} {m l : Addr} {v1 v2 v3 : V} {ys : List (Str × Int)} {d2 d3 : PyData} {B1 b1 B2 b2 : Nat} (so : SetOk ys) (h1 : Dq K H3 m l v1 (.tuple (prD ys))) (g1 : Gd B1 100000 b1 (.tuple (prD ys)))
    (h2 : Dq K H3 m l v2 d2) (g2 : Gd B2 100000 b2 d2) (h3 : Dq K H3 m l v3 d3) (hp : placesV ys d2 = none) (hm : modesV ys.length (wordsD ys.length d3) = none) (hx : H3 x = none) (hdx : H3 dx = none) (ne : dx ≠ x)
    (hQ : ∀ (v3' : V) (H' : Hp), Same H3 H' → H' x = some (.ins C dx (reqF v1 v2 v3')) → Dq K H' m l v3' (wordsD ys.length d3) → Q .non H') : spReq K C CS CP CM [.ref x, v1, v2, v3] (upd (upd H3 dx (.own x)) x (.ins C dx [])) Q E := by
  have s0 : Same H3 (upd (upd H3 dx (.own x)) x (.ins C dx [])) := (Same.upd hdx).trans (Same.upd (by rw [upd_ne ne.symm]; exact hx))
  have xs : ∀ {H'}, SameX x (upd (upd H3 dx (.own x)) x (.ins C dx [])) H' → Same H3 H' := fun k b o e => k b o (ne_of_none e hx) (s0 b o e)
  refine ⟨m, l, x, dx, v1, v2, v3, .tuple (prD ys), d2, d3, B1, b1, B2, b2, rfl, upd_same, Dq.same s0 _ _ h1, g1, Dq.same s0 _ _ h2, g2, Dq.same s0 _ _ h3, (fun u hu => by rw [so.need] at hu; cases hu), fun _ qs eq => ?_⟩
  have eq' : qs = ys := (prD_inj' (PyData.tuple.inj eq)).symm
  subst eq'
  exact ⟨fun u hu => (by rw [hp] at hu; cases hu), fun _ => ⟨fun u hu => (by rw [hm] at hu; cases hu), fun _ H' v3' k hd dq3 => hQ v3' H' (xs k) hd dq3⟩⟩
end Ms
namespace Ms
open PySem PySem.Spec PyProof.Rows L2 StX
/-! ### Request.straight -/
abbrev psS : List Str := ["self", "settings", "places", "modes"]
abbrev NStr : List Str := ["cls", "settings", "names", "at", "name", "deeds"]
theorem scStr : FnScope NStr ((["cls", "settings"] : List Str) ++ (["names"] : List Str)) (defScope sReqStr) := ⟨rfl, rfl, rfl, by decide +kernel, rfl, by decide +kernel, by decide +kernel⟩
def doD (i : Nat) (z : Str) : PyData := .tuple [.str "do", .str z, .int ((i : Int) + 1)]
def dosFrom : Nat → List Str → List PyData
  | _, [] => []
  | i, z :: zs => doD i z :: dosFrom (i + 1) zs
def strD (zs : List Str) : PyData := .tuple (dosFrom 0 zs ++ [.tuple [.str "end"]])
theorem dos_len : ∀ (i : Nat) (zs : List Str), (dosFrom i zs).length = zs.length
  | _, [] => rfl
  | i, z :: zs => by rw [dosFrom, List.length_cons, List.length_cons, dos_len (i + 1) zs]
theorem dos_mem {d : PyData} : ∀ {i : Nat} {zs : List Str}, d ∈ dosFrom i zs → ∃ j z, d = doD j z ∧ z ∈ zs ∧ j < i + zs.length
  | i, [], h => nomatch h
  | i, z :: zs, h => by
    rcases List.mem_cons.mp h with rfl | h
    · exact ⟨i, z, rfl, List.mem_cons_self .., by rw [List.length_cons]; omega⟩
    · obtain ⟨j, z', e, hz, hj⟩ := dos_mem h
      exact ⟨j, z', e, List.mem_cons_of_mem _ hz, by rw [List.length_cons]; omega⟩
theorem str_places {qs : List (Str × Int)} {zs : List Str} (hz : ∀ z ∈ zs, isName (.str z) = true) (hl : zs.length ≤ 15) : placesV qs (strD zs) = none := by
  have el : (dosFrom 0 zs ++ [PyData.tuple [.str "end"]]).length = zs.length + 1 := by rw [List.length_append, dos_len]; rfl
  show (if 1 ≤ (dosFrom 0 zs ++ [PyData.tuple [.str "end"]]).length ∧ (dosFrom 0 zs ++ [PyData.tuple [.str "end"]]).length ≤ 16 then (firstBad (placeD qs (dosFrom 0 zs ++ [PyData.tuple [.str "end"]]).length) 0 (dosFrom 0 zs ++ [PyData.tuple [.str "end"]])).map fun p => V.int (p : Nat) else some .non) = none
  rw [if_pos ⟨by omega, by omega⟩, firstBad_no _ 0 fun d hd => ?_]
  · rfl
  · rcases List.mem_append.mp hd with hd | hd
    · obtain ⟨j, z, rfl, hm, hj⟩ := dos_mem hd
      have e : ∀ many : Int, placeD qs many (doD j z) = (isName (.str z) && isWhole (.int ((j : Int) + 1)) 0 (many - 1)) := fun many => by
        unfold doD placeD
        exact if_pos ⟨rfl, (by decide : isTxt (.str "do") "do" = true)⟩
      rw [e, hz z hm, el]
      show (true && (decide (0 ≤ (j : Int) + 1) && decide ((j : Int) + 1 ≤ ((zs.length + 1 : Nat) : Int) - 1))) = true
      rw [decide_eq_true (show 0 ≤ (j : Int) + 1 by omega), decide_eq_true (show (j : Int) + 1 ≤ ((zs.length + 1 : Nat) : Int) - 1 by omega)]; rfl
    · rw [List.mem_singleton.mp hd]; rfl
inductive DosA (H : Hp) : Nat → List V → List Str → Prop
  | nil {i : Nat} : DosA H i [] []
  | cons {i : Nat} {a : Addr} {as : List V} {z : Str} {zs : List Str} : H a = some (.tup [.str "do", .str z, .int ((i : Int) + 1)]) → DosA H (i + 1) as zs → DosA H i (.ref a :: as) (z :: zs)
theorem DosA.keep {H H' : Hp} (k : ∀ b xs, H b = some (.tup xs) → H' b = some (.tup xs)) {i : Nat} {as : List V} {zs : List Str} (h : DosA H i as zs) : DosA H' i as zs := by
  induction h with
  | nil => exact .nil
  | cons e _ ih => exact .cons (k _ _ e) ih
theorem DosA.snoc {H : Hp} {i : Nat} {as : List V} {zs : List Str} {a : Addr} {z : Str} (h : DosA H i as zs) (e : H a = some (.tup [.str "do", .str z, .int (((i + zs.length : Nat) : Int) + 1)])) : DosA H i (as ++ [.ref a]) (zs ++ [z]) := by
  induction h with
  | nil => exact .cons e .nil
  | @cons i a0 as z0 zs e0 _ ih => exact .cons e0 (ih (by rw [List.length_cons] at e; rw [show i + 1 + zs.length = i + (zs.length + 1) by omega]; exact e))
theorem DosA.dq {K : PySem.W.Frag} {H : Hp} {m l : Addr} {i : Nat} {as : List V} {zs : List Str} (h : DosA H i as zs) : DqAll K H m l as (dosFrom i zs) := by
  induction h with
  | nil => exact .nil
  | cons e _ ih => exact .cons (.tup (.inl (.inl e)) (.cons (.str _) (.cons (.str _) (.cons (.int _) .nil)))) ih
theorem DosA.len {H : Hp} {i : Nat} {as : List V} {zs : List Str} (h : DosA H i as zs) : as.length = zs.length := by
  induction h with
  | nil => rfl
  | cons _ _ ih => rw [List.length_cons, List.length_cons, ih]
theorem strs_of {K : PySem.W.Frag} {H : Hp} {m l : Addr} : ∀ {zs : List Str} {xs : List V}, DqAll K H m l xs (zs.map .str) → xs = zs.map V.str
  | [], _, h => by cases h; rfl
  | z :: zs, _, h => by
    cases h with
    | cons h1 h2 => cases h1; rw [strs_of h2]; rfl
/-- a new instance of a class that a local name holds -/
def tMakeV (i : Nat) (C : Addr) (sp : Sp) (dvs : List V) (E : XK) (t : TA) : TE := fun σ H Q => σ[i]? = some (some (.ref C)) ∧ tMake C sp dvs E t σ H Q
theorem pe_makeV {X : Cx} {CX : CXT} {C f : Addr} {k i : Nat} {fd : FuncData} {ps : List Str} {sp : Sp} {ds : List Value} {dvs : List V} {E : XK} {x : Str} {e : Expr} {es : List Expr} {t : TA} {p pos : Pos} (M : Mk X.K C f) (F : FnOk X.prog X.w X.K X.mg X.base CX k f fd ps sp) (hr : Room (k + 1) X.A)
    (hN : X.N[i]? = some x) (hv : Vis X.env.scope x) (hb : Binds X.K fd ps ds) (hd : Vals dvs ds) (hx : Passes CX X E)
    (ha : PA X (e :: es) t) (hdb : (x == ("__debug__" : Str)) = false := by decide) (hcd : (x == ("__classdict__" : Str)) = false := by decide) (he : starEach (e :: es) X.env = (false, eval e X.env) :: starEach es X.env := by rfl) (hpl : (backTo pos (starEach es X.env)).any (·.1) = false := by rfl) :
    PE X (.Call (.Name x p) (e :: es) [] pos) (tMakeV i C sp dvs E t) := by
  refine ⟨fun pins s σ H Q I h => ?_⟩
  obtain ⟨hs, ht⟩ := h
  refine wpAny_Call_Name_kw (thn ((pe_var (pos := p) hN hv hdb hcd).run pins s σ H (fun v H1 => v = .ref C ∧ H1 = H) I ⟨.ref C, hs, rfl, rfl⟩) fun u s1 ⟨v, H1, I1, r1, q1⟩ => ?_)
  obtain ⟨rfl, rfl⟩ := q1
  cases r1
  refine PySem.W.callWith_K (h₀ := X.base) I.ok.mod.kin M.kp (thn (ha.run pos pins s1 σ _ _ I1 ht) fun us s2 ⟨vs, H2, I2, r, q⟩ => ⟨I2.kIn, ?_⟩) he hpl
  exact run_make M F hr hb hd hx I2 r q
def spStr (K : PySem.W.Frag) (C CS CP CT : Addr) : Sp := fun vs H Q E => ∃ (m l pN : Addr) (v1 : V) (xs : List V) (d1 : PyData) (ds : List PyData) (b1 : Nat), vs = [.ref C, v1, .ref pN] ∧ Dq K H m l v1 d1 ∧ Gd (10 ^ 31) 100000 b1 d1 ∧ SqT K H pN xs ∧ DqAll K H m l xs ds ∧
  (∀ d ∈ ds, ∀ z, d = .str z → sOk 16 z) ∧ ds.length ≤ 100 ∧
  (∀ u, needV d1 = some u → ∀ dx H', H dx = none → Same H H' → H' dx = some (.xd [("place", u)]) → E (.ref CS) (some dx) H') ∧
  (needV d1 = none → ∀ qs, d1 = .tuple (prD qs) →
    (∀ p : Nat, firstBad isName 0 ds = some p → ∀ dx H', H dx = none → Same H H' → H' dx = some (.xd [("place", .int p)]) → E (.ref CP) (some dx) H') ∧
    (firstBad isName 0 ds = none → (15 < ds.length → ∀ dx H', H dx = none → Same H H' → H' dx = some (.xd [("most", .int 16)]) → E (.ref CT) (some dx) H') ∧
      (ds.length ≤ 15 → ∀ zs : List Str, ds = zs.map .str → ∀ x dx v2 v3 H', Same H H' → H x = none → H' x = some (.ins C dx (reqF v1 v2 v3)) → Dq K H' m l v2 (strD zs) → Dq K H' m l v3 (.tuple (List.replicate qs.length (.str "live"))) → Q (.ref x) H')))
theorem names_strs : ∀ {ds : List PyData} {p : Nat}, firstBad isName p ds = none → ∃ zs : List Str, ds = zs.map .str ∧ ∀ z ∈ zs, isName (.str z) = true
  | [], _, _ => ⟨[], rfl, fun z h => nomatch h⟩
  | d :: ds, p, h => by
    unfold firstBad at h
    by_cases hb : isName d = true
    · rw [if_pos hb] at h
      obtain ⟨zs, e, hz⟩ := names_strs h
      obtain ⟨z, rfl⟩ : ∃ z, d = .str z := by
        cases d <;> first | exact ⟨_, rfl⟩ | cases hb
      exact ⟨z :: zs, by rw [e]; rfl, fun y hy => by
        rcases List.mem_cons.mp hy with rfl | hy
        · exact hb
        · exact hz y hy⟩
    · rw [if_neg hb] at h; cases h
end Ms
namespace Ms
open PySem PySem.Spec PyProof.Rows L2 StX
theorem dos_good : ∀ (i : Nat) (zs : List Str), (∀ z ∈ zs, sOk 16 z) → i + zs.length ≤ 15 → Gl' big (461 * zs.length) 2 (dosFrom i zs)
  | _, [], _, _ => ⟨(fun d h => nomatch h), Nat.le_refl _, (fun d h => nomatch h)⟩
  | i, z :: zs, h, hl => by
    rw [List.length_cons] at hl
    have g := (Gl'.one (do_good (r := (i : Int) + 1) (h z (List.mem_cons_self ..)) (by omega) (by omega))).app (dos_good (i + 1) zs (fun y hy => h y (List.mem_cons_of_mem _ hy)) (by omega))
    exact g.mono (Nat.le_refl _) (by rw [List.length_cons]; omega) (Nat.le_refl _)
theorem strD_good {zs : List Str} (h : ∀ z ∈ zs, sOk 16 z) (hl : zs.length ≤ 15) : Gd big 10000 3 (strD zs) :=
  (Gd.tup ((dos_good 0 zs h (by omega)).app (Gl'.one end_good))).mono (Nat.le_refl _) (by omega) (by omega)
section
variable {P : Program} {w : World} {K : PySem.W.Frag} {mg : Str → Option Value} {base : Heap} {fI fN fS fA fG fNu fAs fPl fMo fNP fNM fNd aE aM C CS CP CM CT fR fEP fET : Addr} {B newId initId : String} {bmB : List Value}
theorem ok_str {f : Addr} {fd fdN fdNd fdEP fdET fdR : FuncData} {dn : Value} (F : Fun K "straight" "Request.straight" sReqStr f fd) (T : TxtR mg fI fN fS fA fG fNu fAs fPl fMo fNP fNM fNd aE aM) (W : WrT K aE aM) (M : Mk K C fR)
    (GR : FnOk P w K mg base (L2.CX P w) 6 fR fdR psS (spReq K C CS CP CM)) (b3 : Binds K fdR psS [dn]) (vd : Vals [V.non] [dn])
    (GNd : FnOk P w K mg base (L2.CX P w) 3 fNd fdNd ["thing"] (spNeed K CS)) (kNd : PySem.W.keepIn K (.ref fNd) = true) (bNd : Binds K fdNd ["thing"] [])
    (GN : FnOk P w K mg base CX0 1 fN fdN ["thing"] (spName K)) (kN : PySem.W.keepIn K (.ref fN) = true) (bN : Binds K fdN ["thing"] [])
    (gP : mg "BadPlaces" = some (.ref CP)) (TP : ErrC K CP fEP) (GEP : FnOk P w K mg base CX0 1 fEP fdEP ["self", "place"] (spIni CP)) (bEP : Binds K fdEP ["self", "place"] [])
    (gT : mg "TooMany" = some (.ref CT)) (FB : ExcBaseFacts B newId initId bmB) (TX : XC K CT fET "most" newId bmB) (exT : PySem.W.subIn K (.ref CT) (.type "BaseException") = some true) (tyT : PySem.W.typeIn K (.ref CT) = some (.type "type"))
    (GX : FnOk P w K mg base CX0 1 fET fdET ["self", "most"] (spInit CT "most")) (bdT : ∀ (s : Shared) (v u : Value), BindsTo s fdET ⟨[v, u], []⟩ [("self", v), ("most", u)]) :
    FnR P w K mg base (L2.CX P w) 8 f (fun vs H Q E => ∃ ws rest, vs = ws ++ rest ∧ ws.length = (["cls", "settings"] : List Str).length ∧ rest.length ≤ sizeLine ∧ ∀ p, H p = Option.none → spStr K C CS CP CT (ws ++ [V.ref p]) (upd H p (.tup rest)) Q E) := by
  obtain ⟨oc, od, kV, doc, pm, an, cdv, ct, osl, efd, lk, hcd⟩ := F.ex
  subst efd
  refine fn_star (k := 7) lk hcd scStr cxUp (bind_star2 (p1 := "cls") (p2 := "settings") (pv := "names") (B := fun us => bindArgs (PySem.W.fnOf "straight" "Request.straight" (defArgs sReqStr) (defBody sReqStr) (defScope sReqStr) .none kV doc pm an cdv ct) ⟨us, []⟩) (fun a b => rfl) (fun a b r rs => rfl)) (fun A outer s H vs Q E hr h => ?_)
  obtain ⟨m, l, pN, v1, xs, d1, ds, b1, rfl, hd1, gd1, hs, hx, hz, hl, qe, qr⟩ := h
  obtain ⟨tp, gp⟩ := T.mP
  have hr1 : Room 1 _ := hr.mono (by decide)
  have hr2 : Room 2 _ := hr.mono (by decide)
  have hr3 : Room 3 _ := hr.mono (by decide)
  refine ⟨_, pss_cons (ps_expr (pe_call GNd hr3 rfl T.gNd kNd bNd .nil (passes_call (takes_of rfl rfl rfl rfl) fun _ _ _ _ h => h) (pa_cons (pv 1) pa_nil)))
    (pss_cons (ps_for (passes_of rfl) rfl (pi_et (by rfl) T.enumerate (pa_cons (pv 2) pa_nil)) (pg_tup rfl (pgs_cons (pg_name (i := 3) scStr.nd rfl (by first | exact Or.inl rfl | exact Or.inr rfl)) (pgs_cons (pg_name (i := 4) scStr.nd rfl (by first | exact Or.inl rfl | exact Or.inr rfl)) pgs_nil)))
      (pss_one (ps_if (pt_not (pt_val (pe_call GN hr1 rfl T.gN kN bN .nil pass0 (pa_cons (pv 4) pa_nil))))
        (pss_one (ps_raise rfl (takes_of rfl rfl rfl rfl) (pmk_oex TP.ox TP.ini TP.ty GEP hr2 bEP .nil pass0 (by rfl) gP (pa_cons (pv 3) pa_nil)))) pss_nil)))
    (pss_cons (ps_if (pt_cmpR op_gt (pe_op op_add (pe_callB call_len (by rfl) T.len PySem.boot_len (pa_cons (pv 2) pa_nil)) pe_int) (pe_glob (v := .int 16) rfl gp ⟨_, rfl⟩) (nomark _))
        (pss_one (ps_raise rfl (takes_of rfl rfl rfl rfl) (pmk_xc FB TX exT tyT GX hr2 gT (by rfl) bdT (pe_glob (v := .int 16) rfl gp ⟨_, rfl⟩)))) pss_nil)
    (pss_cons (ps_setLc (i := 5) (own := [("at", 3), ("name", 4)]) (g := gTup K 2 (gCons (gName 3) (gCons (gName 4) gNil))) (by rfl) scStr.nd rfl (by rfl) (by rfl) (pi_et (by rfl) T.enumerate (pa_cons (pv 2) pa_nil)) (blkOk_by (own := [("at", 3), ("name", 4)]) (N := NStr) (sc := defScope sReqStr) (by decide +kernel))
        (fun _ _ _ _ _ => pg_tup rfl (pgs_cons (pg_name (i := 3) scStr.nd rfl (Or.inl rfl)) (pgs_cons (pg_name (i := 4) scStr.nd rfl (Or.inl rfl)) pgs_nil))) (fun _ _ _ _ _ => pts_nil) (fun _ _ _ _ _ => pe_tup (pa_cons pe_str (pa_cons (pv 4) (pa_cons (pe_op op_add (pv 3) pe_int) pa_nil)))))
    (pss_one (ps_ret (pe_makeV (i := 0) M GR hr rfl (by first | exact Or.inl rfl | exact Or.inr rfl) b3 vd (passes_call (takes_of rfl rfl rfl rfl) fun _ _ _ _ h => h) (pa_cons (pv 1) (pa_cons (pe_tup (pa_star (pv 5) (pa_cons (pe_glob (v := .ref aE) rfl T.gE rfl) pa_nil))) pa_nil)))))))), ?_⟩
  refine ⟨_, rfl, m, l, v1, d1, _, b1, rfl, hd1, gd1, fun hn H1 s1 => ?_, fun u hu e H' h1 h2 h3 => qe u hu e H' h1 h2 h3⟩
  obtain ⟨qs, rfl, l1, l3⟩ := needV_pr hn
  obtain ⟨qp, q⟩ := qr hn qs rfl
  have lx := hx.len
  refine ⟨_, rfl, pN, xs, rfl, Same.seqT s1 hs, ?_⟩
  refine for_it walk_et (fun i σ H2 => ∃ (w3 w4 : Option V), σ = [some (.ref C), some v1, some (.ref pN), w3, w4, none] ∧ Same H H2 ∧ firstBad isName 0 ds = firstBad isName i (ds.drop i))
    ⟨none, none, rfl, s1, rfl⟩ (fun i σ H1 _ ⟨w3, w4, _, s2, _⟩ => Same.seqT s2 hs) ?_ ?_
  · rintro i x σ H2 H3 hi ⟨w3, w4, rfl, s2, dg⟩ ⟨TT, x1, x2, rfl, hT, rfl, e1', e2'⟩
    have ex1 : x1 = .int (i : Nat) := (Option.some.inj e1').symm
    subst ex1
    obtain ⟨e, he, dqe⟩ := hx.get e2'
    have sA : Same H (upd H2 TT (.tup [.int (i : Nat), x2])) := s2.trans (Same.upd hT)
    have hid : i < ds.length := by omega
    have edr : ds.drop i = e :: ds.drop (i + 1) := by rw [List.drop_eq_getElem_cons hid]; rw [(List.getElem?_eq_some_iff.mp he).2]
    refine ⟨TT, _, rfl, .inl (.inl upd_same), rfl, _, _, rfl, _, _, rfl, rfl, ?_⟩
    refine ⟨_, rfl, m, l, x2, e, rfl, Dq.same sA e x2 dqe, (fun z ez => (hz e (List.mem_of_getElem? he) z ez).mono (by decide)), fun H4 s4 => ⟨_, rfl, ?_⟩⟩
    rw [edr] at dg
    simp only [firstBad] at dg
    cases hb : isName e with
    | true =>
      rw [if_pos hb] at dg
      exact ifF rfl ⟨_, _, rfl, sA.trans s4, dg⟩
    | false =>
      rw [if_neg (by rw [hb]; exact Bool.false_ne_true)] at dg
      exact ifT rfl ⟨_, rfl, mk_one fun d H' h1 h2 h3 => qp i dg d H' (Same.free (sA.trans s4) h1) ((sA.trans s4).trans h2) h3⟩
  · rintro σ H2 ⟨w3, w4, rfl, s2, dg⟩
    rw [List.drop_of_length_le (by omega)] at dg
    have fb : firstBad isName 0 ds = none := by rw [dg]; rfl
    obtain ⟨qm, q⟩ := q fb
    refine ⟨_, rfl, .ref pN, xs.length, rfl, .inr ⟨xs, Same.seqT s2 hs, rfl⟩, _, 1, rfl, rfl, _, _, rfl, rfl, _, rfl, ite_b (fun e => ?_) (fun e => ?_)⟩
    · have hm : 15 < ds.length := by
        have := of_decide_eq_true e
        omega
      exact fun d H' h1 h2 h3 => qm hm d H' (Same.free s2 h1) (s2.trans h2) h3
    · have hm : ds.length ≤ 15 := by
        have := of_decide_eq_false e
        omega
      obtain ⟨zs, ez, hzn⟩ := names_strs fb
      have qz := q hm zs ez
      subst ez
      rw [List.length_map] at hm
      obtain rfl := strs_of hx
      have hz16 : ∀ z ∈ zs, sOk 16 z := fun z h => hz (.str z) (List.mem_map_of_mem h) z rfl
      refine ⟨_, rfl, pN, _, rfl, Same.seqT s2 hs, fun D hD => ?_⟩
      have sD : ∀ {o : HO}, Same H2 (upd H2 D o) := fun {o} => Same.upd hD
      refine lc_it walk_et (fun i H3 => ∃ as, H3 D = some (.lst as) ∧ Same H2 H3 ∧ DosA H3 0 as (zs.take i)) ⟨[], upd_same, sD, by rw [List.take_zero]; exact .nil⟩ (fun i H3 _ ⟨as, _, s3, _⟩ => Same.seqT s3 (Same.seqT s2 hs)) ?_ ?_
      · rintro i x H3 H4 hi ⟨as, gD, s3, da⟩ ⟨TT, x1, x2, rfl, hT, rfl, e1', e2'⟩
        have ex1 : x1 = .int (i : Nat) := (Option.some.inj e1').symm
        subst ex1
        obtain ⟨z, hzi, rfl⟩ : ∃ z, zs[i]? = some z ∧ x2 = .str z := by
          have e3 : (zs.map V.str)[i]? = some x2 := e2'
          rw [List.getElem?_map] at e3
          cases h : zs[i]? with
          | none => rw [h] at e3; cases e3
          | some z => rw [h] at e3; exact ⟨z, rfl, (Option.some.inj e3).symm⟩
        have hi' : i < zs.length := by rw [List.length_map] at hi; exact hi
        have ti : zs.take (i + 1) = zs.take i ++ [z] := by rw [List.take_succ, hzi]; rfl
        have nT : TT ≠ D := fun e => by subst e; rw [gD] at hT; cases hT
        refine ⟨TT, _, rfl, .inl (.inl upd_same), rfl, _, _, rfl, _, _, rfl, rfl, rfl, tyes ?_⟩
        refine ⟨_, rfl, _, rfl, _, _, rfl, rfl, (by show 3 ≤ sizeLine; decide), fun p hp => ?_⟩
        have gD4 : (upd H3 TT (.tup [.int (i : Nat), .str z])) D = some (.lst as) := by rw [upd_ne nT.symm]; exact gD
        have nP : p ≠ D := fun e => by subst e; rw [gD4] at hp; cases hp
        refine ⟨as, by rw [upd_ne nP.symm]; exact gD4, small1000 (by rw [da.len, List.length_take]; omega), ?_⟩
        have s5 : Same H3 (upd (upd H3 TT (.tup [.int (i : Nat), .str z])) p (.tup [.str "do", .str z, .int ((i : Int) + 1)])) := (Same.upd hT).trans (Same.upd hp)
        refine ⟨as ++ [.ref p], upd_same, fun b o hb => ?_, ?_⟩
        · rw [upd_ne (ne_of_none hb hD)]
          exact s5 _ _ (s3 _ _ hb)
        · rw [ti]
          refine DosA.snoc (da.keep fun b ys hb => ?_) ?_
          · rw [upd_ne (fun e => by subst e; rw [gD] at hb; cases hb)]
            exact s5 _ _ hb
          · rw [upd_ne nP, upd_same, List.length_take, Nat.min_eq_left (by omega), Nat.zero_add]
      · rintro H3 ⟨as, gD, s3, da⟩
        rw [List.take_of_length_le (by rw [List.length_map]; exact Nat.le_refl _)] at da
        have sH3 : Same H H3 := s2.trans s3
        have la := da.len
        refine ⟨rfl, _, rfl, _, rfl, D, as, rfl, .inr (SqL.of gD), ?_⟩
        refine ⟨(by show (as ++ [V.ref aE]).length ≤ sizeLine; exact Nat.le_of_lt (small1000 (by rw [List.length_append, la]; show zs.length + 1 ≤ 1000; omega))), fun p hp => ?_⟩
        clear q GR GNd GN GEP GX qr qp F lk T TX TP
        have s4 : Same H3 (upd H3 p (.tup (as ++ [V.ref aE]))) := Same.upd hp
        have sH4 := sH3.trans s4
        have d2 : Dq K (upd H3 p (.tup (as ++ [V.ref aE]))) m l (.ref p) (strD zs) := by
          refine .tup (.inl (.inl upd_same)) (DqAll.app (DqAll.same s4 _ _ da.dq) (.cons (.tup (W.e _) (.cons (.str _) .nil)) .nil))
        intro x dx hx' hdx ne
        have s0 : Same (upd H3 p (.tup (as ++ [V.ref aE]))) (upd (upd (upd H3 p (.tup (as ++ [V.ref aE]))) dx (.own x)) x (.ins C dx [])) := (Same.upd hdx).trans (Same.upd (by rw [upd_ne ne.symm]; exact hx'))
        have xs' : ∀ {H'}, SameX x (upd (upd (upd H3 p (.tup (as ++ [V.ref aE]))) dx (.own x)) x (.ins C dx [])) H' → Same (upd H3 p (.tup (as ++ [V.ref aE]))) H' := fun k b o e => k b o (ne_of_none e hx') (s0 b o e)
        refine ⟨m, l, x, dx, v1, .ref p, .non, .tuple (prD qs), strD zs, .none, _, b1, big, 3, rfl, upd_same, Dq.same (sH4.trans s0) _ _ hd1, gd1, Dq.same s0 _ _ d2, (strD_good hz16 hm).mono (Nat.le_refl _) (by decide) (Nat.le_refl _), .non, (fun u hu => by rw [hn] at hu; cases hu), fun _ qs' eq => ?_⟩
        have eq' : qs' = qs := (prD_inj' (PyData.tuple.inj eq)).symm
        subst eq'
        have em : modesV qs'.length (wordsD qs'.length .none) = none := by
          have z := modes_no (k := qs'.length) (zs := List.replicate qs'.length "live") List.length_replicate (fun z h => by rw [(List.mem_replicate.mp h).2]; decide)
          rw [List.map_replicate] at z
          exact z
        refine ⟨fun u hu => (by rw [str_places hzn hm] at hu; cases hu), fun _ => ⟨fun u hu => (by rw [em] at hu; cases hu), fun _ H' v3' k hd dq3 => ⟨rfl, ?_⟩⟩⟩
        exact qz x dx (.ref p) v3' H' (sH4.trans (xs' k)) (Same.free sH4 hx') hd (Dq.same (xs' k) _ _ d2) dq3
end
end Ms
namespace Ms
open PySem PySem.Spec PyProof.Rows L2 LamX
/-! ### _law_told(lambda: ..) of law k08 -/
/-- what the def makes of the lambda's reading: the request's fields in a list, or how it is refused -/
def TT8 (K : PySem.W.Frag) (C CS CP CM : Addr) : (XK → Hp → VK → Prop) → Hp → VK → Prop := fun tl H Q => ∀ (H0 : Hp) (Ec : XK) (Qc : VK), Same H H0 →
  (∀ (dd : Addr) (u : V) (H' : Hp), H' dd = some (.xd [("place", u)]) → (∀ p, H' p = none → Q (.ref p) (upd H' p (.tup [.str "settings", u]))) → Ec (.ref CS) (some dd) H') →
  (∀ (dd : Addr) (u : V) (H' : Hp), H' dd = some (.xd [("place", u)]) → (∀ p, H' p = none → Q (.ref p) (upd H' p (.tup [.str "places", u]))) → Ec (.ref CP) (some dd) H') →
  (∀ (dd : Addr) (u : V) (H' : Hp), H' dd = some (.xd [("most", u)]) → (∀ p, H' p = none → Q (.ref p) (upd H' p (.tup [.str "many", u]))) → Ec (.ref CM) (some dd) H') →
  (∀ (x dx : Addr) (v1 v2 v3 : V) (H1 : Hp), H1 x = some (.ins C dx (reqF v1 v2 v3)) → (∀ p, H1 p = none → Q (.ref p) (upd H1 p (.lst [v2, v3]))) → Qc (.ref x) H1) → tl Ec H0 Qc
abbrev NTo : List Str := ["call", "one", "e"]
theorem scTo : FnScope NTo ["call"] (defScope sTold) := ⟨rfl, rfl, rfl, by decide +kernel, rfl, by decide +kernel, by decide +kernel⟩
/-- one class of refusals: caught by its own clause alone -/
structure RefC (K : PySem.W.Frag) (C : Addr) : Prop where
  low : XfC K C
  no : PySem.W.findIn K (.ref C) "place" = some none
structure RefT (K : PySem.W.Frag) (C : Addr) : Prop where
  low : XfC K C
  no : PySem.W.findIn K (.ref C) "most" = some none
section
variable {X : Cx} {C CS CP CM g : Addr} {cdg : Value} {q : Str}
theorem told_str (RC : ReqC X.K C) (mS : X.mg "BadSettings" = some (.ref CS)) (mP : X.mg "BadPlaces" = some (.ref CP)) (mM : X.mg "TooMany" = some (.ref CM))
    (xSS : PySem.W.exmOne X.K (.ref CS) (.ref CS) = some true) (xPS : PySem.W.exmOne X.K (.ref CP) (.ref CS) = some false) (xPP : PySem.W.exmOne X.K (.ref CP) (.ref CP) = some true)
    (xMS : PySem.W.exmOne X.K (.ref CM) (.ref CS) = some false) (xMP : PySem.W.exmOne X.K (.ref CM) (.ref CP) = some false) (xMM : PySem.W.exmOne X.K (.ref CM) (.ref CM) = some true)
    (RS : RefC X.K CS) (RP : RefC X.K CP) (RM : RefT X.K CM) :
    GivesTo X NTo "_law_told" (defScope sTold) g cdg (defBody sTold) "call" q (TT8 X.K C CS CP CM) := by
  intro f c' s H Q tl act hc h
  refine ⟨_, pss_cons (ps_try_list (X := (cxOf C8.CX0 X.prog X.w X.K X.mg X.base NTo "_law_told" (defScope sTold) g cdg X.A X.stack s H C8.E0).nox) (i := 2) (n := "e")
      (tb := fun W D σ H1 => σ[0]? = some (some (.ref f)) ∧ H1 c' = some (CodeO c' q) ∧ tl (fun cls d H' => ∀ σ' : L2.St, σ'.length = 3 → W cls d σ' H') H1 (fun y H2 => gName 1 y σ H2 D.nx))
      rfl rfl scTo.nd rfl rfl (fun W pn xe tk _ => ?_)
      (.more (c := .ref CS) ⟨by rfl, by decide, .inl mS⟩ (fun a oe cls d pn hz hf => pss_one (ps_ret (pe_tup (pa_cons pe_str (pa_cons (pe_xf RS.low RS.no hz hf (pv 2)) pa_nil)))))
      (.more (c := .ref CP) ⟨by rfl, by decide, .inl mP⟩ (fun a oe cls d pn hz hf => pss_one (ps_ret (pe_tup (pa_cons pe_str (pa_cons (pe_xf RP.low RP.no hz hf (pv 2)) pa_nil)))))
      (.more (c := .ref CM) ⟨by rfl, by decide, .inl mM⟩ (fun a oe cls d pn hz hf => pss_one (ps_ret (pe_tup (pa_cons pe_str (pa_cons (pe_xf RM.low RM.no hz hf (pv 2)) pa_nil)))))
      .last))))
    (pss_one (ps_ret (pe_lst (pa_cons (pe_fld (pv 1) rfl) (pa_cons (pe_fld (pv 1) rfl) pa_nil))))), ?_⟩
  · refine ⟨fun pins s' σ H' D I h' => ?_⟩
    obtain ⟨h1, h2, h3⟩ := h'
    have tk' : Takes ((cxOf C8.CX0 X.prog X.w X.K X.mg X.base NTo "_law_told" (defScope sTold) g cdg X.A X.stack s H C8.E0).nox.tr pn xe) (fun cls d σ' H' => σ'.length = 3 → W cls d σ' H') := fun u s' ⟨a, B, sI, pins, σ, H, cls, d, e, I, nb, up, sky, na, os, ag, w⟩ =>
      tk u s' ⟨a, B, sI, pins, σ, H, cls, d, e, I, nb, up, sky, na, os, ag, w I.len⟩
    have hp := fun p1 p2 => act _ pn xe (fun cls d H' => ∀ σ' : L2.St, σ'.length = 3 → W cls d σ' H') p1 p2 tk' (fun cls d σ' H' e hl => e σ' hl)
    exact (pss_one (ps_set (i := 1) scTo.nd rfl (by first | exact Or.inl rfl | exact Or.inr rfl) (hp _ _))).run pins s' σ H' D I ⟨h1, h2, h3⟩
  · refine ⟨rfl, hc, h _ _ _ (Same.refl H) (fun dd u H' hdd k σ' hl => ?_) (fun dd u H' hdd k σ' hl => ?_) (fun dd u H' hdd k σ' hl => ?_) (fun x dx v1 v2 v3 H1 hx k => ?_)⟩
    · match σ', hl with
      | [x0, x1, x2], _ =>
        exact ⟨true, xSS, fun _ a na => ⟨_, rfl, rfl, rfl, dd, _, _, rfl, hdd, rfl, (by show 2 ≤ sizeLine; decide), fun p hp => k p hp⟩, fun z => nomatch z⟩
    · match σ', hl with
      | [x0, x1, x2], _ =>
        exact ⟨false, xPS, (fun z => nomatch z), fun _ => ⟨true, xPP, fun _ a na => ⟨_, rfl, rfl, rfl, dd, _, _, rfl, hdd, rfl, (by show 2 ≤ sizeLine; decide), fun p hp => k p hp⟩, fun z => nomatch z⟩⟩
    · match σ', hl with
      | [x0, x1, x2], _ =>
        exact ⟨false, xMS, (fun z => nomatch z), fun _ => ⟨false, xMP, (fun z => nomatch z), fun _ => ⟨true, xMM, fun _ a na => ⟨_, rfl, rfl, rfl, dd, _, _, rfl, hdd, rfl, (by show 2 ≤ sizeLine; decide), fun p hp => k p hp⟩, fun z => nomatch z⟩⟩⟩
    · exact ⟨_, rfl, x, C, dx, _, _, rfl, hx, RC.cl, RC.nP, rfl, _, rfl, x, C, dx, _, _, rfl, hx, RC.cl, RC.nM, rfl, (by show 2 ≤ sizeLine; decide), fun p hp => k p hp⟩
end
end Ms
namespace Ms
open PySem PySem.Spec PyProof.Rows L2 StX ClX
/-! ### _law_made(spots, q) -/
/-- Request.straight as the rest of a promise sees it -/
def spStrR (K : PySem.W.Frag) (C CS CP CT : Addr) : Sp := fun vs H Q E => ∃ ws rest, vs = ws ++ rest ∧ ws.length = (["cls", "settings"] : List Str).length ∧ rest.length ≤ sizeLine ∧ ∀ p, H p = Option.none → spStr K C CS CP CT (ws ++ [V.ref p]) (upd H p (.tup rest)) Q E
/-- what is asked of the arguments, and what comes of them -/
def StrQ (K : PySem.W.Frag) (C CS CP CT m l : Addr) (v1 : V) (d1 : PyData) (ds : List PyData) (H : Hp) (Q : VK) (E : XK) : Prop :=
  (∀ u, needV d1 = some u → ∀ dx H', H dx = none → Same H H' → H' dx = some (.xd [("place", u)]) → E (.ref CS) (some dx) H') ∧
  (needV d1 = none → ∀ qs, d1 = .tuple (prD qs) →
    (∀ p : Nat, firstBad isName 0 ds = some p → ∀ dx H', H dx = none → Same H H' → H' dx = some (.xd [("place", .int p)]) → E (.ref CP) (some dx) H') ∧
    (firstBad isName 0 ds = none → (15 < ds.length → ∀ dx H', H dx = none → Same H H' → H' dx = some (.xd [("most", .int 16)]) → E (.ref CT) (some dx) H') ∧
      (ds.length ≤ 15 → ∀ zs : List Str, ds = zs.map .str → ∀ x dx v2 v3 H', Same H H' → H x = none → H' x = some (.ins C dx (reqF v1 v2 v3)) → Dq K H' m l v2 (strD zs) → Dq K H' m l v3 (.tuple (List.replicate qs.length (.str "live"))) → Q (.ref x) H')))
theorem strR_of {K : PySem.W.Frag} {C CS CP CT m l : Addr} {v1 : V} {d1 : PyData} {xs : List V} {ds : List PyData} {b1 : Nat} {H : Hp} {Q : VK} {E : XK} (hd : Dq K H m l v1 d1) (gd : Gd (10 ^ 31) 100000 b1 d1) (hx : DqAll K H m l xs ds) (hz : ∀ d ∈ ds, ∀ z, d = .str z → sOk 16 z) (hl : ds.length ≤ 100)
    (q : StrQ K C CS CP CT m l v1 d1 ds H Q E) : spStrR K C CS CP CT (.ref C :: v1 :: xs) H Q E := by
  have lx := hx.len
  refine ⟨[.ref C, v1], xs, rfl, rfl, Nat.le_of_lt (small1000 (by omega)), fun p hp => ?_⟩
  have s := Same.upd (o := .tup xs) hp
  obtain ⟨qe, qr⟩ := q
  refine ⟨m, l, p, v1, xs, d1, ds, b1, rfl, Dq.same s _ _ hd, gd, .inl (.inl upd_same), DqAll.same s _ _ hx, hz, hl, fun u hu dx H' h1 h2 h3 => qe u hu dx H' (Same.free s h1) (s.trans h2) h3, fun hn qs e => ?_⟩
  obtain ⟨q1, q2⟩ := qr hn qs e
  refine ⟨fun p hp dx H' h1 h2 h3 => q1 p hp dx H' (Same.free s h1) (s.trans h2) h3, fun hb => ?_⟩
  obtain ⟨q3, q4⟩ := q2 hb
  exact ⟨fun h dx H' h1 h2 h3 => q3 h dx H' (Same.free s h1) (s.trans h2) h3, fun h zs e x dx v2 v3 H' h1 h2 h3 => q4 h zs e x dx v2 v3 H' (s.trans h1) (Same.free s h2) h3⟩
def spMade (K : PySem.W.Frag) (C CS CP CT : Addr) : Sp := fun vs H Q E => ∃ (m l qA : Addr) (v1 : V) (xs : List V) (d1 : PyData) (ds : List PyData) (b1 : Nat), vs = [v1, .ref qA] ∧ Dq K H m l v1 d1 ∧ Gd (10 ^ 31) 100000 b1 d1 ∧ SqL K H qA xs ∧ DqAll K H m l xs ds ∧
  (∀ d ∈ ds, ∀ z, d = .str z → sOk 16 z) ∧ (ds.length = 0 ∨ ds.length = 1 ∨ ds.length = 2 ∨ ds.length = 4 ∨ ds.length = 15 ∨ ds.length = 16) ∧ StrQ K C CS CP CT m l v1 d1 ds H Q E
theorem scMa : FnScope ["spots", "q"] ["spots", "q"] (defScope sMade) := ⟨rfl, rfl, rfl, by decide +kernel, rfl, by decide +kernel, by decide +kernel⟩
section
variable {P : Program} {w : World} {K : PySem.W.Frag} {mg : Str → Option Value} {base : Heap} {C CS CP CT p0 fS : Addr} {mc : Value}
theorem ok_made {f : Addr} {fd : FuncData} (F : Fun K "_law_made" "_law_made" sMade f fd) (hlen : mg "len" = none) (gC : mg "Request" = some (.ref C)) (cr : CRead K C mc) (cm : CMet K C mc "straight" p0 fS) (GS : FnR P w K mg base (L2.CX P w) 8 fS (spStrR K C CS CP CT)) :
    FnOk P w K mg base (L2.CX P w) 9 f fd ["spots", "q"] (spMade K C CS CP CT) := by
  refine F.okX scMa (fun vs H Q E h => ?_) (fun cdv A outer s H vs Q E hr h => ?_)
  · obtain ⟨m, l, qA, v1, xs, d1, ds, b1, rfl, _⟩ := h
    rfl
  obtain ⟨m, l, qA, v1, xs, d1, ds, b1, rfl, hd, gd, hq, hx, hz, hl, q⟩ := h
  have lx := hx.len
  have l100 : ds.length ≤ 100 := by omega
  have fin := strR_of hd gd hx hz l100 q
  refine ⟨_, (pss_cons (ps_if (pt_cmpR op_eq (pe_callB call_len_seq (by rfl) hlen PySem.boot_len (pa_cons (pv 1) pa_nil)) pe_int (nomark _)) (pss_one (ps_ret (pe_cmeth (pe_glob (v := .ref C) rfl gC rfl) cr cm GS hr (passes_call (takes_of rfl rfl rfl rfl) fun _ _ _ _ h => h) (pa_cons (pv 0) pa_nil)))) pss_nil)
    (pss_cons (ps_if (pt_cmpR op_eq (pe_callB call_len_seq (by rfl) hlen PySem.boot_len (pa_cons (pv 1) pa_nil)) pe_int (nomark _)) (pss_one (ps_ret (pe_cmeth (pe_glob (v := .ref C) rfl gC rfl) cr cm GS hr (passes_call (takes_of rfl rfl rfl rfl) fun _ _ _ _ h => h) (pa_cons (pv 0) (pa_cons (pe_ix (show IxR _ (rIxL K) from ix_list) (pv 1) pe_int (fun _ _ => rfl)) pa_nil))))) pss_nil)
    (pss_cons (ps_if (pt_cmpR op_eq (pe_callB call_len_seq (by rfl) hlen PySem.boot_len (pa_cons (pv 1) pa_nil)) pe_int (nomark _)) (pss_one (ps_ret (pe_cmeth (pe_glob (v := .ref C) rfl gC rfl) cr cm GS hr (passes_call (takes_of rfl rfl rfl rfl) fun _ _ _ _ h => h) (pa_cons (pv 0) (pa_cons (pe_ix (show IxR _ (rIxL K) from ix_list) (pv 1) pe_int (fun _ _ => rfl)) (pa_cons (pe_ix (show IxR _ (rIxL K) from ix_list) (pv 1) pe_int (fun _ _ => rfl)) pa_nil)))))) pss_nil)
    (pss_cons (ps_if (pt_cmpR op_eq (pe_callB call_len_seq (by rfl) hlen PySem.boot_len (pa_cons (pv 1) pa_nil)) pe_int (nomark _)) (pss_one (ps_ret (pe_cmeth (pe_glob (v := .ref C) rfl gC rfl) cr cm GS hr (passes_call (takes_of rfl rfl rfl rfl) fun _ _ _ _ h => h) (pa_cons (pv 0) (pa_cons (pe_ix (show IxR _ (rIxL K) from ix_list) (pv 1) pe_int (fun _ _ => rfl)) (pa_cons (pe_ix (show IxR _ (rIxL K) from ix_list) (pv 1) pe_int (fun _ _ => rfl)) (pa_cons (pe_ix (show IxR _ (rIxL K) from ix_list) (pv 1) pe_int (fun _ _ => rfl)) (pa_cons (pe_ix (show IxR _ (rIxL K) from ix_list) (pv 1) pe_int (fun _ _ => rfl)) pa_nil)))))))) pss_nil)
    (pss_cons (ps_if (pt_cmpR op_eq (pe_callB call_len_seq (by rfl) hlen PySem.boot_len (pa_cons (pv 1) pa_nil)) pe_int (nomark _)) (pss_one (ps_ret (pe_cmeth (pe_glob (v := .ref C) rfl gC rfl) cr cm GS hr (passes_call (takes_of rfl rfl rfl rfl) fun _ _ _ _ h => h) (pa_cons (pv 0) (pa_cons (pe_ix (show IxR _ (rIxL K) from ix_list) (pv 1) pe_int (fun _ _ => rfl)) (pa_cons (pe_ix (show IxR _ (rIxL K) from ix_list) (pv 1) pe_int (fun _ _ => rfl)) (pa_cons (pe_ix (show IxR _ (rIxL K) from ix_list) (pv 1) pe_int (fun _ _ => rfl)) (pa_cons (pe_ix (show IxR _ (rIxL K) from ix_list) (pv 1) pe_int (fun _ _ => rfl)) (pa_cons (pe_ix (show IxR _ (rIxL K) from ix_list) (pv 1) pe_int (fun _ _ => rfl)) (pa_cons (pe_ix (show IxR _ (rIxL K) from ix_list) (pv 1) pe_int (fun _ _ => rfl)) (pa_cons (pe_ix (show IxR _ (rIxL K) from ix_list) (pv 1) pe_int (fun _ _ => rfl)) (pa_cons (pe_ix (show IxR _ (rIxL K) from ix_list) (pv 1) pe_int (fun _ _ => rfl)) (pa_cons (pe_ix (show IxR _ (rIxL K) from ix_list) (pv 1) pe_int (fun _ _ => rfl)) (pa_cons (pe_ix (show IxR _ (rIxL K) from ix_list) (pv 1) pe_int (fun _ _ => rfl)) (pa_cons (pe_ix (show IxR _ (rIxL K) from ix_list) (pv 1) pe_int (fun _ _ => rfl)) (pa_cons (pe_ix (show IxR _ (rIxL K) from ix_list) (pv 1) pe_int (fun _ _ => rfl)) (pa_cons (pe_ix (show IxR _ (rIxL K) from ix_list) (pv 1) pe_int (fun _ _ => rfl)) (pa_cons (pe_ix (show IxR _ (rIxL K) from ix_list) (pv 1) pe_int (fun _ _ => rfl)) (pa_cons (pe_ix (show IxR _ (rIxL K) from ix_list) (pv 1) pe_int (fun _ _ => rfl)) pa_nil))))))))))))))))))) pss_nil)
    (pss_one (ps_ret (pe_cmeth (pe_glob (v := .ref C) rfl gC rfl) cr cm GS hr (passes_call (takes_of rfl rfl rfl rfl) fun _ _ _ _ h => h) (pa_cons (pv 0) (pa_cons (pe_ix (show IxR _ (rIxL K) from ix_list) (pv 1) pe_int (fun _ _ => rfl)) (pa_cons (pe_ix (show IxR _ (rIxL K) from ix_list) (pv 1) pe_int (fun _ _ => rfl)) (pa_cons (pe_ix (show IxR _ (rIxL K) from ix_list) (pv 1) pe_int (fun _ _ => rfl)) (pa_cons (pe_ix (show IxR _ (rIxL K) from ix_list) (pv 1) pe_int (fun _ _ => rfl)) (pa_cons (pe_ix (show IxR _ (rIxL K) from ix_list) (pv 1) pe_int (fun _ _ => rfl)) (pa_cons (pe_ix (show IxR _ (rIxL K) from ix_list) (pv 1) pe_int (fun _ _ => rfl)) (pa_cons (pe_ix (show IxR _ (rIxL K) from ix_list) (pv 1) pe_int (fun _ _ => rfl)) (pa_cons (pe_ix (show IxR _ (rIxL K) from ix_list) (pv 1) pe_int (fun _ _ => rfl)) (pa_cons (pe_ix (show IxR _ (rIxL K) from ix_list) (pv 1) pe_int (fun _ _ => rfl)) (pa_cons (pe_ix (show IxR _ (rIxL K) from ix_list) (pv 1) pe_int (fun _ _ => rfl)) (pa_cons (pe_ix (show IxR _ (rIxL K) from ix_list) (pv 1) pe_int (fun _ _ => rfl)) (pa_cons (pe_ix (show IxR _ (rIxL K) from ix_list) (pv 1) pe_int (fun _ _ => rfl)) (pa_cons (pe_ix (show IxR _ (rIxL K) from ix_list) (pv 1) pe_int (fun _ _ => rfl)) (pa_cons (pe_ix (show IxR _ (rIxL K) from ix_list) (pv 1) pe_int (fun _ _ => rfl)) (pa_cons (pe_ix (show IxR _ (rIxL K) from ix_list) (pv 1) pe_int (fun _ _ => rfl)) (pa_cons (pe_ix (show IxR _ (rIxL K) from ix_list) (pv 1) pe_int (fun _ _ => rfl)) pa_nil))))))))))))))))))))))))), ?_⟩
  rcases hl with hl | hl | hl | hl | hl | hl
  · match xs, (show xs.length = 0 by omega) with
    | [], _ =>
      refine ⟨_, rfl, qA, _, rfl, .inl hq, rfl, _, rfl, ifT rfl ?_⟩
      exact ⟨rfl, _, rfl, fin⟩
  · match xs, (show xs.length = 1 by omega) with
    | [y0], _ =>
      refine ⟨_, rfl, qA, _, rfl, .inl hq, rfl, _, rfl, ifF rfl ⟨_, rfl, qA, _, rfl, .inl hq, rfl, _, rfl, ifT rfl ?_⟩⟩
      exact ⟨rfl, _, rfl, _, rfl, qA, _, 0, y0, rfl, rfl, hq, rfl, fin⟩
  · match xs, (show xs.length = 2 by omega) with
    | [y0, y1], _ =>
      refine ⟨_, rfl, qA, _, rfl, .inl hq, rfl, _, rfl, ifF rfl ⟨_, rfl, qA, _, rfl, .inl hq, rfl, _, rfl, ifF rfl ⟨_, rfl, qA, _, rfl, .inl hq, rfl, _, rfl, ifT rfl ?_⟩⟩⟩
      exact ⟨rfl, _, rfl, _, rfl, qA, _, 0, y0, rfl, rfl, hq, rfl, _, rfl, qA, _, 1, y1, rfl, rfl, hq, rfl, fin⟩
  · match xs, (show xs.length = 4 by omega) with
    | [y0, y1, y2, y3], _ =>
      refine ⟨_, rfl, qA, _, rfl, .inl hq, rfl, _, rfl, ifF rfl ⟨_, rfl, qA, _, rfl, .inl hq, rfl, _, rfl, ifF rfl ⟨_, rfl, qA, _, rfl, .inl hq, rfl, _, rfl, ifF rfl ⟨_, rfl, qA, _, rfl, .inl hq, rfl, _, rfl, ifT rfl ?_⟩⟩⟩⟩
      exact ⟨rfl, _, rfl, _, rfl, qA, _, 0, y0, rfl, rfl, hq, rfl, _, rfl, qA, _, 1, y1, rfl, rfl, hq, rfl, _, rfl, qA, _, 2, y2, rfl, rfl, hq, rfl, _, rfl, qA, _, 3, y3, rfl, rfl, hq, rfl, fin⟩
  · match xs, (show xs.length = 15 by omega) with
    | [y0, y1, y2, y3, y4, y5, y6, y7, y8, y9, y10, y11, y12, y13, y14], _ =>
      refine ⟨_, rfl, qA, _, rfl, .inl hq, rfl, _, rfl, ifF rfl ⟨_, rfl, qA, _, rfl, .inl hq, rfl, _, rfl, ifF rfl ⟨_, rfl, qA, _, rfl, .inl hq, rfl, _, rfl, ifF rfl ⟨_, rfl, qA, _, rfl, .inl hq, rfl, _, rfl, ifF rfl ⟨_, rfl, qA, _, rfl, .inl hq, rfl, _, rfl, ifT rfl ?_⟩⟩⟩⟩⟩
      exact ⟨rfl, _, rfl, _, rfl, qA, _, 0, y0, rfl, rfl, hq, rfl, _, rfl, qA, _, 1, y1, rfl, rfl, hq, rfl, _, rfl, qA, _, 2, y2, rfl, rfl, hq, rfl, _, rfl, qA, _, 3, y3, rfl, rfl, hq, rfl, _, rfl, qA, _, 4, y4, rfl, rfl, hq, rfl, _, rfl, qA, _, 5, y5, rfl, rfl, hq, rfl, _, rfl, qA, _, 6, y6, rfl, rfl, hq, rfl, _, rfl, qA, _, 7, y7, rfl, rfl, hq, rfl, _, rfl, qA, _, 8, y8, rfl, rfl, hq, rfl, _, rfl, qA, _, 9, y9, rfl, rfl, hq, rfl, _, rfl, qA, _, 10, y10, rfl, rfl, hq, rfl, _, rfl, qA, _, 11, y11, rfl, rfl, hq, rfl, _, rfl, qA, _, 12, y12, rfl, rfl, hq, rfl, _, rfl, qA, _, 13, y13, rfl, rfl, hq, rfl, _, rfl, qA, _, 14, y14, rfl, rfl, hq, rfl, fin⟩
  · match xs, (show xs.length = 16 by omega) with
    | [y0, y1, y2, y3, y4, y5, y6, y7, y8, y9, y10, y11, y12, y13, y14, y15], _ =>
      refine ⟨_, rfl, qA, _, rfl, .inl hq, rfl, _, rfl, ifF rfl ⟨_, rfl, qA, _, rfl, .inl hq, rfl, _, rfl, ifF rfl ⟨_, rfl, qA, _, rfl, .inl hq, rfl, _, rfl, ifF rfl ⟨_, rfl, qA, _, rfl, .inl hq, rfl, _, rfl, ifF rfl ⟨_, rfl, qA, _, rfl, .inl hq, rfl, _, rfl, ifF rfl ?_⟩⟩⟩⟩⟩
      exact ⟨rfl, _, rfl, _, rfl, qA, _, 0, y0, rfl, rfl, hq, rfl, _, rfl, qA, _, 1, y1, rfl, rfl, hq, rfl, _, rfl, qA, _, 2, y2, rfl, rfl, hq, rfl, _, rfl, qA, _, 3, y3, rfl, rfl, hq, rfl, _, rfl, qA, _, 4, y4, rfl, rfl, hq, rfl, _, rfl, qA, _, 5, y5, rfl, rfl, hq, rfl, _, rfl, qA, _, 6, y6, rfl, rfl, hq, rfl, _, rfl, qA, _, 7, y7, rfl, rfl, hq, rfl, _, rfl, qA, _, 8, y8, rfl, rfl, hq, rfl, _, rfl, qA, _, 9, y9, rfl, rfl, hq, rfl, _, rfl, qA, _, 10, y10, rfl, rfl, hq, rfl, _, rfl, qA, _, 11, y11, rfl, rfl, hq, rfl, _, rfl, qA, _, 12, y12, rfl, rfl, hq, rfl, _, rfl, qA, _, 13, y13, rfl, rfl, hq, rfl, _, rfl, qA, _, 14, y14, rfl, rfl, hq, rfl, _, rfl, qA, _, 15, y15, rfl, rfl, hq, rfl, fin⟩
end
end Ms
namespace Ms
open PySem PySem.Spec PyProof.Rows L2
/-! ### data told apart by its repr -/
/-- the code of the first sign -/
def hd? (z : Str) : Option Nat := z.cps.toList.head?
theorem hd_app {z y : Str} {c : Nat} (h : hd? z = some c) : hd? (z ++ y) = some c := by
  unfold hd? at h ⊢
  have e : (z ++ y).cps.toList = z.cps.toList ++ y.cps.toList := Array.toList_append
  rw [e]
  cases q : z.cps.toList with
  | nil => rw [q] at h; cases h
  | cons a r => rw [q] at h; exact h
theorem app_cps (z y : Str) : (z ++ y).cps.toList = z.cps.toList ++ y.cps.toList := Array.toList_append
/-- repr of a text, as signs -/
theorem repr_list (z : Str) : (reprText z).cps.toList = reprQuote z :: (z.cps.toList.flatMap (Builtin.Str.reprChar (reprQuote z)) ++ [reprQuote z]) := by
  have key : ∀ (l : List Nat) (acc : Array Nat) (q : Nat), (l.foldl (fun out c => out ++ (Builtin.Str.reprChar q c).toArray) acc).toList = acc.toList ++ l.flatMap (Builtin.Str.reprChar q) := by
    intro l
    induction l with
    | nil => intro acc q; simp
    | cons c r ih =>
      intro acc q
      rw [List.foldl_cons, ih, List.flatMap_cons, Array.toList_append]
      simp
  unfold reprText
  show (Array.push _ _).toList = _
  rw [Array.toList_push, ← Array.foldl_toList, key]
  simp
theorem reprChar_in {q c : Nat} {d : Nat} (h : d ∈ Builtin.Str.reprChar q c) (hl : ∀ d ∈ Builtin.Str.reprChar q c, 97 ≤ d ∧ d ≤ 122) : Builtin.Str.reprChar q c = [c] := by
  unfold Builtin.Str.reprChar at hl ⊢
  repeat' split
  all_goals first
    | rfl
    | (exfalso
       rename_i h1
       have z := hl 92 (by simp [*])
       omega)
    | (exfalso
       have z := hl 92 (by simp [*])
       omega)
def plainZ (w : Str) : Prop := ∀ c ∈ w.cps.toList, 97 ≤ c ∧ c ≤ 122
theorem flat_same {q : Nat} : ∀ (l w : List Nat), l.flatMap (Builtin.Str.reprChar q) = w → (∀ d ∈ w, 97 ≤ d ∧ d ≤ 122) → l = w
  | [], w, h, _ => by simpa using h
  | c :: r, w, h, hw => by
    rw [List.flatMap_cons] at h
    have hin : ∀ d ∈ Builtin.Str.reprChar q c, 97 ≤ d ∧ d ≤ 122 := fun d hd => hw d (by rw [← h]; exact List.mem_append_left _ hd)
    have ne : ∃ d, d ∈ Builtin.Str.reprChar q c := by
      unfold Builtin.Str.reprChar
      repeat' split
      all_goals exact ⟨_, List.mem_cons_self ..⟩
    obtain ⟨d, hd⟩ := ne
    have e := reprChar_in hd hin
    rw [e] at h
    have e2 := flat_same r (r.flatMap (Builtin.Str.reprChar q)) rfl (fun d hd => hw d (by rw [← h]; exact List.mem_append_right _ hd))
    rw [← h, ← e2]; rfl
theorem quote_plain {w : Str} (h : plainZ w) : reprQuote w = 39 := by
  unfold reprQuote
  have e : w.cps.contains 39 = false := by
    rw [Bool.eq_false_iff]
    intro z
    rw [Array.contains_iff_mem] at z
    have := h 39 (Array.mem_toList_iff.mpr z)
    omega
  rw [e]; rfl
theorem letter_repr : ∀ c : Nat, 97 ≤ c → c ≤ 122 → Builtin.Str.reprChar 39 c = [c] := by
  have key : ∀ j : Fin 26, Builtin.Str.reprChar 39 (97 + j.1) = [97 + j.1] := by decide +kernel
  intro c h1 h2
  have := key ⟨c - 97, by omega⟩
  have e : 97 + (c - 97) = c := by omega
  rw [e] at this
  exact this
theorem repr_plain {w : Str} (h : plainZ w) : (reprText w).cps.toList = 39 :: (w.cps.toList ++ [39]) := by
  rw [repr_list, quote_plain h]
  congr 2
  have key : ∀ l : List Nat, (∀ d ∈ l, 97 ≤ d ∧ d ≤ 122) → l.flatMap (Builtin.Str.reprChar 39) = l := by
    intro l
    induction l with
    | nil => intro _; rfl
    | cons c r ih =>
      intro hl
      obtain ⟨a, b⟩ := hl c (List.mem_cons_self ..)
      rw [List.flatMap_cons, letter_repr c a b, ih fun d hd => hl d (List.mem_cons_of_mem _ hd)]
      rfl
  exact key _ h
theorem str_ext {z y : Str} (h : z.cps.toList = y.cps.toList) : z = y := by
  cases z with
  | mk a =>
    cases y with
    | mk b =>
      have : a = b := Array.toList_inj.mp h
      rw [this]
theorem repr_str_inj {z w : Str} (h : plainZ w) (e : reprText z = reprText w) : z = w := by
  have e1 : (reprText z).cps.toList = (reprText w).cps.toList := by rw [e]
  rw [repr_list, repr_plain h] at e1
  obtain ⟨hq, e2⟩ := List.cons.inj e1
  rw [hq] at e2
  have e3 := List.append_cancel_right e2
  exact str_ext (flat_same _ _ e3 h)
/-- how the repr of data begins -/
theorem digit_lo : ∀ d : Nat, d < 10 → 48 ≤ (Nat.digitChar d).toNat ∧ (Nat.digitChar d).toNat ≤ 57 := by decide
theorem digits_lo (m : Nat) : ∀ c ∈ (Nat.toDigits 10 m).map Char.toNat, 48 ≤ c ∧ c ≤ 57 := by
  induction m using Nat.strongRecOn with
  | _ m ih =>
    by_cases h : m < 10
    · rw [Nat.toDigits_of_lt_base h]
      intro c hc
      rw [List.mem_singleton.mp hc]
      exact digit_lo m h
    · have hm : m % 10 < 10 := Nat.mod_lt m (by decide)
      have t : Nat.toDigits 10 (m / 10) ++ Nat.toDigits 10 (m % 10) = Nat.toDigits 10 (10 * (m / 10) + m % 10) := Nat.toDigits_append_toDigits (by decide) (by omega) hm
      rw [Nat.div_add_mod] at t
      rw [← t, List.map_append, Nat.toDigits_of_lt_base hm]
      intro c hc
      rcases List.mem_append.mp hc with hc | hc
      · exact ih (m / 10) (by omega) c hc
      · rw [List.mem_singleton.mp hc]
        exact digit_lo _ hm
theorem int_signs (i : Int) : ∀ c ∈ (Str.ofString (toString i)).cps.toList, c = 45 ∨ (48 ≤ c ∧ c ≤ 57) := by
  cases i with
  | ofNat n =>
    intro c hc
    have e := PySem.W.KIN.signs_num n
    rw [show (Int.ofNat n) = ((n : Nat) : Int) from rfl, e] at hc
    exact .inr (digits_lo n c hc)
  | negSucc n =>
    intro c hc
    have e : (Str.ofString (toString (Int.negSucc n))).cps.toList = 45 :: (Nat.toDigits 10 (n + 1)).map Char.toNat := by
      rw [signs_ofString]
      show ("-" ++ Nat.repr (n + 1)).toList.map Char.toNat = _
      rw [String.toList_append, List.map_append, Nat.toList_repr]
      rfl
    rw [e] at hc
    rcases List.mem_cons.mp hc with rfl | hc
    · exact .inl rfl
    · exact .inr (digits_lo _ c hc)
theorem shown_str {d : PyData} {w : Str} (hs : d.shown = reprText w) (h : plainZ w) : d = .str w := by
  have hl : d.shown.cps.toList = 39 :: (w.cps.toList ++ [39]) := by rw [hs, repr_plain h]
  have first : d.shown.cps.toList.head? = some 39 := by rw [hl]; rfl
  cases d with
  | str z =>
    simp only [PyData.shown] at hs
    rw [repr_str_inj h hs]
  | none => exact absurd first (by decide +kernel)
  | bool b => cases b <;> exact absurd first (by decide +kernel)
  | int i =>
    have e : (Str.ofString (toString i)).cps.toList = 39 :: (w.cps.toList ++ [39]) := hl
    have := int_signs i 39 (by rw [e]; exact List.mem_cons_self ..)
    omega
  | list xs =>
    exfalso
    simp only [PyData.shown] at first
    unfold listText at first
    have key : ∀ (ts : List Str) (k : Nat) (acc : Str), hd? acc = some 91 → hd? (textFrom k acc ts) = some 91 := by
      intro ts
      induction ts with
      | nil => intro k acc h; exact h
      | cons t r ih => intro k acc h; exact ih _ _ (hd_app (hd_app h))
    have z := hd_app (y := "]") (key (PyData.shownAll xs) 0 "[" (by decide +kernel))
    unfold hd? at z
    rw [z] at first
    cases first
  | tuple xs =>
    exfalso
    simp only [PyData.shown] at first
    unfold tupleText at first
    have z : hd? (("(" : Str) ++ Str.join ", " (PyData.shownAll xs) ++ (if (PyData.shownAll xs).length == 1 then ",)" else ")" : String)) = some 40 := hd_app (hd_app (by decide +kernel))
    unfold hd? at z
    rw [z] at first
    cases first
  | dict kvs =>
    exfalso
    simp only [PyData.shown] at first
    unfold dictText at first
    have z : hd? (("{" : Str) ++ Str.join ", " (PyData.shownKv kvs) ++ ("}" : String)) = some 123 := hd_app (hd_app (by decide +kernel))
    unfold hd? at z
    rw [z] at first
    cases first
theorem shown_eq {d : PyData} {w : Str} (h : plainZ w) : (d.shown = reprText w) ↔ d = .str w := ⟨fun e => shown_str e h, fun e => by rw [e]; simp only [PyData.shown]⟩
abbrev endT : Str := "('end',)"
theorem plain_end : plainZ "end" := by
  have e : ("end" : Str).cps.toList = [101, 110, 100] := by decide +kernel
  unfold plainZ
  rw [e]; decide
theorem shown_end {d : PyData} (hs : d.shown = endT) : d = .tuple [.str "end"] := by
  have hl : d.shown.cps.toList = [40, 39, 101, 110, 100, 39, 44, 41] := by rw [hs]; decide +kernel
  have first : d.shown.cps.toList.head? = some 40 := by rw [hl]; rfl
  cases d with
  | none => exact absurd first (by decide +kernel)
  | bool b => cases b <;> exact absurd first (by decide +kernel)
  | int i =>
    have e : (Str.ofString (toString i)).cps.toList = [40, 39, 101, 110, 100, 39, 44, 41] := hl
    have := int_signs i 40 (by rw [e]; exact List.mem_cons_self ..)
    omega
  | str z =>
    exfalso
    have e : (reprText z).cps.toList = [40, 39, 101, 110, 100, 39, 44, 41] := hl
    rw [repr_list] at e
    have q := (List.cons.inj e).1
    unfold reprQuote at q
    split at q <;> omega
  | list xs =>
    exfalso
    simp only [PyData.shown] at first
    unfold listText at first
    have key : ∀ (ts : List Str) (k : Nat) (acc : Str), hd? acc = some 91 → hd? (textFrom k acc ts) = some 91 := by
      intro ts
      induction ts with
      | nil => intro k acc h; exact h
      | cons t r ih => intro k acc h; exact ih _ _ (hd_app (hd_app h))
    have z := hd_app (y := "]") (key (PyData.shownAll xs) 0 "[" (by decide +kernel))
    unfold hd? at z
    rw [z] at first
    cases first
  | dict kvs =>
    exfalso
    simp only [PyData.shown] at first
    unfold dictText at first
    have z : hd? (("{" : Str) ++ Str.join ", " (PyData.shownKv kvs) ++ ("}" : String)) = some 123 := hd_app (hd_app (by decide +kernel))
    unfold hd? at z
    rw [z] at first
    cases first
  | tuple ds =>
    match ds with
    | [] =>
      have e : (PyData.tuple []).shown.cps.toList = [40, 41] := by decide +kernel
      rw [e] at hl
      cases hl
    | [x] =>
      have e : (PyData.tuple [x]).shown = ("(" : Str) ++ x.shown ++ (",)" : String) := rfl
      rw [e, app_cps, app_cps] at hl
      have e1 : ("(" : Str).cps.toList = [40] := by decide +kernel
      have e2 : ((",)" : String) : Str).cps.toList = [44, 41] := by decide +kernel
      have e3 : [40] ++ x.shown.cps.toList ++ [44, 41] = [40] ++ [39, 101, 110, 100, 39] ++ [44, 41] := by rw [← e1, ← e2]; rw [e1, e2]; exact (by rw [e1, e2] at hl; exact hl)
      have e4 := List.append_cancel_left (List.append_cancel_right e3)
      have e5 : x.shown = reprText "end" := str_ext (by
        rw [e4, repr_plain plain_end]
        decide +kernel)
      rw [shown_str e5 plain_end]
    | x :: y :: r =>
      exfalso
      have e : (PyData.tuple (x :: y :: r)).shown = ("(" : Str) ++ (x.shown ++ ", " ++ Str.join ", " (PyData.shownAll (y :: r))) ++ (if (PyData.shownAll (x :: y :: r)).length == 1 then ",)" else ")" : String) := rfl
      have hm : 32 ∈ (PyData.tuple (x :: y :: r)).shown.cps.toList := by
        rw [e, app_cps, app_cps, app_cps, app_cps]
        have e2 : ((", " : String) : Str).cps.toList = [44, 32] := by decide +kernel
        rw [e2]
        simp
      rw [hl] at hm
      exact absurd hm (by decide)
theorem end_shown : (PyData.tuple [.str "end"]).shown = endT := by decide +kernel
theorem nm_plain {z : Str} (h : ∀ c ∈ z.cps.toList, 97 ≤ c ∧ c ≤ 122) : plainZ z := h
end Ms
namespace Ms
open PySem PySem.Spec PyProof.Rows L2
/-! ### tuples of small ints told apart by their repr -/
theorem digits_two {n : Nat} (h : ¬ n < 10) : ∃ a b r, (Nat.toDigits 10 n).map Char.toNat = a :: b :: r := by
  have hm : n % 10 < 10 := Nat.mod_lt n (by decide)
  have t : Nat.toDigits 10 (n / 10) ++ Nat.toDigits 10 (n % 10) = Nat.toDigits 10 (10 * (n / 10) + n % 10) := Nat.toDigits_append_toDigits (by decide) (by omega) hm
  rw [Nat.div_add_mod] at t
  rw [← t, Nat.toDigits_of_lt_base hm, List.map_append]
  have ne : Nat.toDigits 10 (n / 10) ≠ [] := Nat.toDigits_ne_nil
  cases e : Nat.toDigits 10 (n / 10) with
  | nil => exact absurd e ne
  | cons a r =>
    cases r with
    | nil => exact ⟨_, _, _, rfl⟩
    | cons b r => exact ⟨_, _, _, rfl⟩
theorem digit_at : ∀ d : Nat, d < 10 → (Nat.digitChar d).toNat = 48 + d := by decide
theorem int_digit {k : Int} (h0 : 0 ≤ k) (h9 : k ≤ 9) : (Str.ofString (toString k)).cps.toList = [48 + k.toNat] := by
  obtain ⟨n, rfl⟩ : ∃ n : Nat, k = (n : Int) := ⟨k.toNat, by omega⟩
  rw [PySem.W.KIN.signs_num n, Nat.toDigits_of_lt_base (by omega)]
  show [(Nat.digitChar n).toNat] = _
  rw [digit_at n (by omega)]
  rfl
/-- an item that begins like a digit with a comma or the end behind it is that digit -/
theorem item_of {d : PyData} {k : Int} {rest rest' : List Nat} (h0 : 0 ≤ k) (h9 : k ≤ 9) (e : d.shown.cps.toList ++ rest = (48 + k.toNat) :: rest') (hr : rest'.head? = some 44 ∨ rest'.head? = some 41) : d = .int k ∧ rest = rest' := by
  have kb : 48 ≤ 48 + k.toNat ∧ 48 + k.toNat ≤ 57 := by omega
  have hd : ∀ {c : Nat}, d.shown.cps.toList.head? = some c → c = 48 + k.toNat := fun {c} h => by
    cases q : d.shown.cps.toList with
    | nil => rw [q] at h; cases h
    | cons a r =>
      rw [q] at h e
      have e1 := (List.cons.inj e).1
      have e2 := Option.some.inj h
      omega
  cases d with
  | none =>
    exfalso
    have := hd (c := 78) (by decide +kernel)
    omega
  | bool b =>
    exfalso
    cases b with
    | false =>
      have := hd (c := 70) (by decide +kernel)
      omega
    | true =>
      have := hd (c := 84) (by decide +kernel)
      omega
  | str z =>
    have e0 : (PyData.str z).shown = reprText z := by simp only [PyData.shown]
    have q : reprQuote z = 39 ∨ reprQuote z = 34 := by
      unfold reprQuote
      split
      · exact .inr rfl
      · exact .inl rfl
    have := hd (c := reprQuote z) (by rw [e0, repr_list]; rfl)
    omega
  | list xs =>
    exfalso
    have key : ∀ (ts : List Str) (k : Nat) (acc : Str), hd? acc = some 91 → hd? (textFrom k acc ts) = some 91 := by
      intro ts
      induction ts with
      | nil => intro k acc h; exact h
      | cons t r ih => intro k acc h; exact ih _ _ (hd_app (hd_app h))
    have z := hd_app (y := "]") (key (PyData.shownAll xs) 0 "[" (by decide +kernel))
    have := hd (c := 91) (by simp only [PyData.shown]; unfold listText; exact z)
    omega
  | tuple xs =>
    exfalso
    have z : hd? (("(" : Str) ++ Str.join ", " (PyData.shownAll xs) ++ (if (PyData.shownAll xs).length == 1 then ",)" else ")" : String)) = some 40 := hd_app (hd_app (by decide +kernel))
    have := hd (c := 40) (by simp only [PyData.shown]; unfold tupleText; exact z)
    omega
  | dict kvs =>
    exfalso
    have z : hd? (("{" : Str) ++ Str.join ", " (PyData.shownKv kvs) ++ ("}" : String)) = some 123 := hd_app (hd_app (by decide +kernel))
    have := hd (c := 123) (by simp only [PyData.shown]; unfold dictText; exact z)
    omega
  | int i =>
    have es : (PyData.int i).shown.cps.toList = (Str.ofString (toString i)).cps.toList := rfl
    rw [es] at e
    have one : (Str.ofString (toString i)).cps.toList = [48 + k.toNat] → PyData.int i = .int k ∧ rest = rest' := fun h => by
      rw [h] at e
      refine ⟨?_, (List.cons.inj e).2⟩
      cases i with
      | ofNat n =>
        rw [show (Int.ofNat n) = ((n : Nat) : Int) from rfl, PySem.W.KIN.signs_num n] at h
        by_cases hn : n < 10
        · rw [Nat.toDigits_of_lt_base hn] at h
          have h2 : [(Nat.digitChar n).toNat] = [48 + k.toNat] := h
          rw [digit_at n hn] at h2
          have h3 := (List.cons.inj h2).1
          show PyData.int ((n : Nat) : Int) = .int k
          congr 1
          omega
        · obtain ⟨a, b, r, h2⟩ := digits_two hn
          rw [h2] at h
          cases h
      | negSucc n =>
        have e : (Str.ofString (toString (Int.negSucc n))).cps.toList = 45 :: (Nat.toDigits 10 (n + 1)).map Char.toNat := by
          rw [signs_ofString]
          show ("-" ++ Nat.repr (n + 1)).toList.map Char.toNat = _
          rw [String.toList_append, List.map_append, Nat.toList_repr]
          rfl
        rw [e] at h
        have := (List.cons.inj h).1
        omega
    cases q : (Str.ofString (toString i)).cps.toList with
    | nil =>
      exfalso
      cases i with
      | ofNat n =>
        rw [show (Int.ofNat n) = ((n : Nat) : Int) from rfl, PySem.W.KIN.signs_num n] at q
        exact Nat.toDigits_ne_nil (List.map_eq_nil_iff.mp q)
      | negSucc n =>
        have e : (Str.ofString (toString (Int.negSucc n))).cps.toList = 45 :: (Nat.toDigits 10 (n + 1)).map Char.toNat := by
          rw [signs_ofString]
          show ("-" ++ Nat.repr (n + 1)).toList.map Char.toNat = _
          rw [String.toList_append, List.map_append, Nat.toList_repr]
          rfl
        rw [e] at q
        cases q
    | cons a r =>
      rw [q] at e
      cases r with
      | nil =>
        have ea := (List.cons.inj e).1
        exact one (by rw [q, ea])
      | cons b r =>
        exfalso
        have e2 := (List.cons.inj e).2
        have hb := int_signs i b (by rw [q]; simp)
        have hr2 : rest'.head? = some b := by rw [← e2]; rfl
        rcases hr with hr | hr <;> (rw [hr2] at hr; have := Option.some.inj hr; omega)
/-- the items' texts, joined -/
def joinS (ds : List PyData) : List Nat := (Str.join ", " (PyData.shownAll ds)).cps.toList
theorem join_one (x : PyData) : joinS [x] = x.shown.cps.toList := rfl
theorem join_more (x y : PyData) (r : List PyData) : joinS (x :: y :: r) = x.shown.cps.toList ++ (44 :: 32 :: joinS (y :: r)) := by
  have e : Str.join ", " (PyData.shownAll (x :: y :: r)) = x.shown ++ ", " ++ Str.join ", " (PyData.shownAll (y :: r)) := rfl
  unfold joinS
  rw [e, app_cps, app_cps]
  have e2 : ((", " : String) : Str).cps.toList = [44, 32] := by decide +kernel
  rw [e2, List.append_assoc]
  rfl
theorem tup_one (x : PyData) : (PyData.tuple [x]).shown.cps.toList = 40 :: (x.shown.cps.toList ++ [44, 41]) := by
  have e : (PyData.tuple [x]).shown = ("(" : Str) ++ x.shown ++ (",)" : String) := rfl
  rw [e, app_cps, app_cps]
  have e1 : ("(" : Str).cps.toList = [40] := by decide +kernel
  have e2 : ((",)" : String) : Str).cps.toList = [44, 41] := by decide +kernel
  rw [e1, e2]
  rfl
theorem tup_more (x y : PyData) (r : List PyData) : (PyData.tuple (x :: y :: r)).shown.cps.toList = 40 :: (joinS (x :: y :: r) ++ [41]) := by
  have e : (PyData.tuple (x :: y :: r)).shown = ("(" : Str) ++ Str.join ", " (PyData.shownAll (x :: y :: r)) ++ (if (PyData.shownAll (x :: y :: r)).length == 1 then ",)" else ")" : String) := rfl
  have e0 : (if (PyData.shownAll (x :: y :: r)).length == 1 then ",)" else ")" : String) = ")" := by
    show (if ((PyData.shownAll r).length + 1 + 1 == 1) = true then ",)" else ")" : String) = ")"
    rw [if_neg (by simp)]
  rw [e, e0, app_cps, app_cps]
  have e1 : ("(" : Str).cps.toList = [40] := by decide +kernel
  have e2 : ((")" : String) : Str).cps.toList = [41] := by decide +kernel
  rw [e1, e2]
  rfl
theorem shown_int {k : Int} (h0 : 0 ≤ k) (h9 : k ≤ 9) : (PyData.int k).shown.cps.toList = [48 + k.toNat] := int_digit h0 h9
theorem join_inj : ∀ (is : List Int) (ds : List PyData), is ≠ [] → ds ≠ [] → (∀ i ∈ is, 0 ≤ i ∧ i ≤ 9) → joinS ds ++ [41] = joinS (is.map .int) ++ [41] → ds = is.map .int
  | [], _, h, _, _, _ => absurd rfl h
  | _, [], _, h, _, _ => absurd rfl h
  | i :: is, d :: ds, _, _, hi, e => by
    obtain ⟨h0, h9⟩ := hi i (List.mem_cons_self ..)
    cases is with
    | nil =>
      rw [show List.map PyData.int [i] = [.int i] from rfl, join_one (.int i), shown_int h0 h9] at e
      cases ds with
      | nil =>
        rw [join_one] at e
        rw [(item_of h0 h9 e (.inr rfl)).1]
        rfl
      | cons d2 ds =>
        rw [join_more, List.append_assoc] at e
        have := (item_of h0 h9 e (.inr rfl)).2
        cases this
    | cons i2 is =>
      rw [show List.map PyData.int (i :: i2 :: is) = .int i :: .int i2 :: is.map .int from rfl, join_more, shown_int h0 h9] at e
      cases ds with
      | nil =>
        rw [join_one] at e
        have := (item_of h0 h9 e (.inl rfl)).2
        cases this
      | cons d2 ds =>
        rw [join_more, List.append_assoc] at e
        obtain ⟨e1, e2⟩ := item_of h0 h9 e (.inl rfl)
        have e3 : joinS (d2 :: ds) ++ [41] = joinS ((i2 :: is).map .int) ++ [41] := (List.cons.inj (List.cons.inj e2).2).2
        rw [e1, join_inj (i2 :: is) (d2 :: ds) nofun nofun (fun x hx => hi x (List.mem_cons_of_mem _ hx)) e3]
        rfl
theorem shown_ints {d : PyData} {is : List Int} (hi : ∀ i ∈ is, 0 ≤ i ∧ i ≤ 9) (hl : is ≠ []) (hs : d.shown = (PyData.tuple (is.map .int)).shown) : d = .tuple (is.map .int) := by
  have e : d.shown.cps.toList = (PyData.tuple (is.map .int)).shown.cps.toList := by rw [hs]
  obtain ⟨i, r, rfl⟩ : ∃ i r, is = i :: r := by
    cases is with
    | nil => exact absurd rfl hl
    | cons i r => exact ⟨i, r, rfl⟩
  obtain ⟨h0, h9⟩ := hi i (List.mem_cons_self ..)
  obtain ⟨tl, ht⟩ : ∃ tl, (PyData.tuple ((i :: r).map .int)).shown.cps.toList = 40 :: tl := by
    cases r with
    | nil => exact ⟨_, tup_one (.int i)⟩
    | cons j r => exact ⟨_, tup_more (.int i) (.int j) (r.map .int)⟩
  have first : d.shown.cps.toList.head? = some 40 := by rw [e, ht]; rfl
  cases d with
  | none => exact absurd first (by decide +kernel)
  | bool b => cases b <;> exact absurd first (by decide +kernel)
  | int j =>
    exfalso
    have es : (PyData.int j).shown.cps.toList = (Str.ofString (toString j)).cps.toList := rfl
    have := int_signs j 40 (by
      rw [← es]
      cases q : (PyData.int j).shown.cps.toList with
      | nil => rw [q] at first; cases first
      | cons a t => rw [q] at first; rw [Option.some.inj first]; exact List.mem_cons_self ..)
    omega
  | str z =>
    exfalso
    have e0 : (PyData.str z).shown = reprText z := by simp only [PyData.shown]
    rw [e0, repr_list] at first
    have q := Option.some.inj first
    unfold reprQuote at q
    split at q <;> omega
  | list xs =>
    exfalso
    simp only [PyData.shown] at first
    unfold listText at first
    have key : ∀ (ts : List Str) (k : Nat) (acc : Str), hd? acc = some 91 → hd? (textFrom k acc ts) = some 91 := by
      intro ts
      induction ts with
      | nil => intro k acc h; exact h
      | cons t r ih => intro k acc h; exact ih _ _ (hd_app (hd_app h))
    have z := hd_app (y := "]") (key (PyData.shownAll xs) 0 "[" (by decide +kernel))
    unfold hd? at z
    rw [z] at first
    cases first
  | dict kvs =>
    exfalso
    simp only [PyData.shown] at first
    unfold dictText at first
    have z : hd? (("{" : Str) ++ Str.join ", " (PyData.shownKv kvs) ++ ("}" : String)) = some 123 := hd_app (hd_app (by decide +kernel))
    unfold hd? at z
    rw [z] at first
    cases first
  | tuple ds =>
    cases r with
    | nil =>
      rw [show List.map PyData.int [i] = [.int i] from rfl, tup_one, shown_int h0 h9] at e
      match ds with
      | [] =>
        have e1 : (PyData.tuple []).shown.cps.toList = [40, 41] := by decide +kernel
        rw [e1] at e
        exact absurd (congrArg List.length e) (by simp)
      | [x] =>
        rw [tup_one] at e
        rw [(item_of h0 h9 (List.cons.inj e).2 (.inl rfl)).1]
        rfl
      | x :: y :: q =>
        rw [tup_more, join_more, List.append_assoc] at e
        have := (item_of h0 h9 (List.cons.inj e).2 (.inl rfl)).2
        cases this
    | cons j r =>
      rw [show List.map PyData.int (i :: j :: r) = .int i :: .int j :: r.map .int from rfl, tup_more] at e
      match ds with
      | [] =>
        have e1 : (PyData.tuple []).shown.cps.toList = [40, 41] := by decide +kernel
        rw [e1, join_more, shown_int h0 h9] at e
        have e3 := (List.cons.inj (List.cons.inj e).2).1
        exact absurd e3 (by omega)
      | [x] =>
        rw [tup_one, join_more, shown_int h0 h9] at e
        have := (item_of h0 h9 (List.cons.inj e).2 (.inl rfl)).2
        cases this
      | x :: y :: q =>
        rw [tup_more] at e
        rw [join_inj (i :: j :: r) (x :: y :: q) nofun nofun hi (List.cons.inj e).2]
end Ms
namespace Ms
open PySem PySem.Spec PyProof.Rows L2 RZ
/-! ### is_standing, need_standing of the package -/
theorem walk_zt {K : PySem.W.Frag} {a b : Addr} {xs ys : List V} {n : Nat} (hn : n = min xs.length ys.length) : Walk (ItzT K a b) n (fun H => SqT K H a xs ∧ SqT K H b ys) (YPair (fun i => xs[i]?) (fun i => ys[i]?)) := by
  subst hn
  refine ⟨fun i H hi q => ?_, fun H q => ?_, fun i H x H' hi q y => ?_⟩
  · have h1 : i < xs.length := by omega
    have h2 : i < ys.length := by omega
    exact ⟨xs, ys, _, _, q.1, q.2, List.getElem?_eq_getElem h1, List.getElem?_eq_getElem h2⟩
  · exact ⟨xs, ys, q.1, q.2, by omega⟩
  · obtain ⟨T, x', z, h1, h2, h3, h4, h5⟩ := y
    exact ⟨T, x', z, h1, h2, h3, h4 xs q.1, h5 ys q.2⟩
/-- a standing of the settings, told of any data -/
def standD (qs : List (Str × Int)) (d : PyData) : Bool := match d with
  | .tuple ds => decide (ds.length = qs.length) && (ds.zip qs).all fun p => isWhole p.1 0 p.2.2
  | _ => false
section
variable {P : Program} {w : World} {K : PySem.W.Frag} {mg : Str → Option Value} {base : Heap} {fI fN fS fA fG fSt fNs C fE : Addr}
abbrev NSt : List Str := ["settings", "thing", "value", "name", "most"]
theorem scSd : FnScope NSt ["settings", "thing"] (defScope sPStand) := ⟨rfl, rfl, rfl, by decide +kernel, rfl, by decide +kernel, by decide +kernel⟩
def spPStand (K : PySem.W.Frag) : Sp := fun vs H Q _ => ∃ (m l a : Addr) (xs : List V) (qs : List (Str × Int)) (v : V) (d : PyData), vs = [.ref a, v] ∧ SqT K H a xs ∧ PrTs K H xs qs ∧ qs.length ≤ 900 ∧ Dq K H m l v d ∧ ∀ H', Same H H' → Q (.bl (standD qs d)) H'
theorem ok_pstand {f : Addr} {fd fdI : FuncData} (F : Fun K "is_standing" "is_standing" sPStand f fd) (T : TxtP mg fI fN fS fA fG) (hz : mg "zip" = none) (FI : Fun K "is_int" "is_int" sPInt fI fdI) (bI : Binds K fdI ["thing"] []) : FnOk P w K mg base CX0 2 f fd ["settings", "thing"] (spPStand K) := by
  have GI : FnOk P w K mg base CX0 1 fI fdI ["thing"] (spPInt K) := ok_pint FI T
  refine F.ok scSd (fun vs H Q E h => ?_) (fun cdv A outer s H vs Q E hr h => ?_)
  · obtain ⟨m, l, a, xs, qs, v, d, rfl, _⟩ := h
    rfl
  obtain ⟨m, l, a, xs, qs, v, d, rfl, hs, hp, hl, hd, q⟩ := h
  have lx := hp.len
  refine ⟨_, pss_cons (ps_if (PW.pt (pw_or (pt_not (pt_val (pe_callB call_isi (by rfl) T.isi PyProof.Rows.boot_isinstance (pa_cons (pv 1) (pa_cons (pe_bltn (v := .ty "tuple") (u := .type "tuple") (by rfl) T.tuple (by decide +kernel) rfl) pa_nil)))))
      (pw_or1 (pt_cmpR op_ne (pe_callB call_len (by rfl) T.len PySem.boot_len (pa_cons (pv 1) pa_nil)) (pe_callB call_len (by rfl) T.len PySem.boot_len (pa_cons (pv 0) pa_nil)) (nomark _))))) (pss_one (ps_ret pe_bl)) pss_nil)
    (pss_cons (ps_for PassesOwn.never rfl (pi_zipA (by rfl) hz (pa_cons (pv 1) (pa_cons (pv 0) pa_nil)))
        (pg_tup rfl (pgs_cons (pg_name (i := 2) scSd.nd rfl (Or.inl rfl)) (pgs_cons (pg_tup rfl (pgs_cons (pg_name (i := 3) scSd.nd rfl (Or.inl rfl)) (pgs_cons (pg_name (i := 4) scSd.nd rfl (Or.inl rfl)) pgs_nil))) pgs_nil)))
        (pss_one (ps_if (PW.pt (pw_or (pt_not (pt_val (pe_call GI hr (by rfl) T.gI FI.kp bI .nil pass0 (pa_cons (pv 2) pa_nil)))) (pw_or1 (pt_not (pt_chain op_le op_le pe_int (pv 2) (pv 4)))))) (pss_one (ps_ret pe_bl)) pss_nil)))
      (pss_one (ps_ret pe_bl))), ?_⟩
  refine ⟨_, rfl, v, .ty "tuple", _, _, _, rfl, .ty _, hd.ty, isi_tup K d, _, rfl, ?_⟩
  cases d with
  | tuple es =>
    cases hd with
    | tup hq hy =>
      rename_i p ys
      have ly := hy.len
      refine ifF rfl ⟨_, rfl, .ref p, ys.length, rfl, .inr ⟨ys, hq, rfl⟩, _, rfl, .ref a, xs.length, rfl, .inr ⟨xs, hs, rfl⟩, rfl, _, rfl, ?_⟩
      have ee : decide (V.int ((ys.length : Nat) : Int) = V.int ((xs.length : Nat) : Int)) = decide (ys.length = xs.length) := by
        rw [Bool.eq_iff_iff, decide_eq_true_eq, decide_eq_true_eq, V.int.injEq]; omega
      rw [ee]
      by_cases hlen : ys.length = xs.length
      · refine ifF (by rw [decide_eq_true hlen]; rfl) ?_
        have es' : standD qs (.tuple es) = (es.zip qs).all fun p => isWhole p.1 0 p.2.2 := by
          show (decide (es.length = qs.length) && _) = _
          rw [decide_eq_true (by omega)]; rfl
        have lz : (es.zip qs).length = ys.length := by rw [List.length_zip]; omega
        refine ⟨_, rfl, _, rfl, p, a, ys, xs, rfl, .inr ⟨hq, hs, ?_⟩⟩
        refine for_zipT hlen (fun i σ H3 => ∃ v2 v3 v4 : Option V, σ = [some (.ref a), some (.ref p), v2, v3, v4] ∧ Same H H3 ∧ ((es.zip qs).all fun p => isWhole p.1 0 p.2.2) = (((es.zip qs).drop i).all fun p => isWhole p.1 0 p.2.2))
          ⟨none, none, none, rfl, Same.refl H, rfl⟩ (fun i σ H3 ⟨_, _, _, _, s3, _⟩ => ⟨Same.seqT s3 hq, Same.seqT s3 hs⟩) ?_ ?_
        · rintro i x1 y1 TT σ H3 e1 e2 ⟨v2, v3, v4, rfl, s3, g3⟩ hT
          obtain ⟨e, he, dqe⟩ := hy.get e1
          obtain ⟨qq, hqq, b, rfl, hb⟩ := hp.get e2
          have sT : Same H3 (upd H3 TT (.tup [x1, .ref b])) := Same.upd hT
          have s4 := s3.trans sT
          have ez : (es.zip qs)[i]? = some (e, qq) := by
            rw [List.getElem?_zip_eq_some]; exact ⟨he, hqq⟩
          have dr : (es.zip qs).drop i = (e, qq) :: (es.zip qs).drop (i + 1) := by
            obtain ⟨hi, hj⟩ := List.getElem?_eq_some_iff.mp ez
            rw [List.drop_eq_getElem_cons hi, hj]
          rw [dr, List.all_cons] at g3
          have bad : isWhole e 0 qq.2 = false → Q (.bl false) (upd H3 TT (.tup [x1, .ref b])) := fun h => by
            have : standD qs (.tuple es) = false := by rw [es', g3]; show (isWhole e 0 qq.2 && _) = false; rw [h]; rfl
            rw [← this]
            exact q _ s4
          have good : isWhole e 0 qq.2 = true → ((es.zip qs).all fun p => isWhole p.1 0 p.2.2) = (((es.zip qs).drop (i + 1)).all fun p => isWhole p.1 0 p.2.2) := fun h => by
            rw [g3]; show (isWhole e 0 qq.2 && _) = _; rw [h]; rfl
          refine ⟨TT, _, rfl, .inl (.inl upd_same), rfl, _, _, rfl, _, _, rfl, b, _, rfl, Same.seqT s4 hb, rfl, _, _, rfl, _, _, rfl, rfl, rfl, ?_⟩
          refine ⟨_, rfl, m, l, x1, e, rfl, Dq.same s4 e x1 dqe, _, rfl, ?_⟩
          cases e with
          | int j =>
            cases dqe
            refine ifF rfl ⟨_, rfl, 0, j, rfl, rfl, _, rfl, ite_b (fun h2 => ⟨_, rfl, j, qq.2, rfl, rfl, _, rfl, ite_b (fun h3 => bad ?_) (fun h3 => ⟨_, _, _, rfl, s4, good ?_⟩)⟩) (fun h2 => ⟨_, rfl, ifT rfl (bad ?_)⟩)⟩
            · show (decide (0 ≤ j) && decide (j ≤ qq.2)) = false
              have : decide (j ≤ qq.2) = false := by simpa using h3
              rw [this, Bool.and_false]
            · show (decide (0 ≤ j) && decide (j ≤ qq.2)) = true
              have : decide (j ≤ qq.2) = true := by simpa using h3
              rw [h2, this]; rfl
            · show (decide (0 ≤ j) && decide (j ≤ qq.2)) = false
              rw [h2]; rfl
          | _ => exact ifT rfl (bad rfl)
        · rintro σ H3 ⟨v2, v3, v4, rfl, s3, g3⟩
          rw [List.drop_of_length_le (by omega)] at g3
          have : standD qs (.tuple es) = true := by rw [es', g3]; rfl
          rw [← this]
          exact q _ s3
      · have es' : standD qs (.tuple es) = false := by
          show (decide (es.length = qs.length) && _) = false
          rw [decide_eq_false (by omega)]; rfl
        rw [es'] at q
        exact ifT (by rw [decide_eq_false hlen]; rfl) (q H (Same.refl H))
  | _ => exact ifT rfl (ifT rfl (q H (Same.refl H)))
end
end Ms
namespace Ms
open PySem PySem.Spec PyProof.Rows L2 RZ
/-! ### errors with one field of another name; need_standing -/
structure ErrF (K : PySem.W.Frag) (C fE : Addr) (n : Str) : Prop where
  ox : OexC K C
  ini : PySem.W.findIn K (.ref C) "__init__" = some (some (.ref fE))
  ty : PySem.W.typeIn K (.ref fE) = some (.type "function")
  no : PySem.W.findIn K (.ref C) n = some none
def spIniF (C : Addr) (n : Str) : Sp := fun vs H Q _ => ∃ (a : Addr) (y : V), vs = [.ref a, y] ∧ H a = some (exo a C none) ∧ ∀ dx, H dx = none → dx ≠ a → Q .non (upd (upd H dx (exd dx [(n, y)])) a (exo a C (some dx)))
theorem mk_oneF {C : Addr} {n : Str} {H1 : Hp} {y : V} {Q : XK} (h : ∀ d H', H1 d = none → Same H1 H' → H' d = some (.xd [(n, y)]) → Q (.ref C) (some d) H') :
    [y].length ≤ 1000 ∧ ∀ a, H1 a = none → spIniF C n (.ref a :: ([y] ++ [])) (upd H1 a (exo a C none))
      (fun v H2 => v = .non ∧ ∃ (d : Addr) (fs : List (Str × V)), H2 a = some (exo a C (some d)) ∧ H2 d = some (exd d fs) ∧ H1 d = none ∧ Q (.ref C) (some d) (upd (del H2 a) d (.xd fs))) (fun _ _ _ => False) := by
  refine ⟨(by show 1 ≤ 1000; decide), fun a ha => ⟨a, y, rfl, upd_same, fun dx h1 h2 => ?_⟩⟩
  have hd : H1 dx = none := by rw [upd_ne h2] at h1; exact h1
  refine ⟨rfl, dx, [(n, y)], upd_same, by rw [upd_ne h2, upd_same], hd, h dx _ hd (fun b o e => ?_) upd_same⟩
  rw [upd_ne (ne_of_none e hd), del_ne (ne_of_none e ha), upd_ne (ne_of_none e ha), upd_ne (ne_of_none e hd), upd_ne (ne_of_none e ha)]
  exact e
section
variable {P : Program} {w : World} {K : PySem.W.Frag} {mg : Str → Option Value} {base : Heap} {fI fN fS fA fG fSt fNs C fE : Addr}
theorem scIv : FnScope ["self", "value"] ["self", "value"] (defScope sIniS) := ⟨rfl, rfl, rfl, by decide +kernel, rfl, by decide +kernel, by decide +kernel⟩
theorem ok_iniV {fd : FuncData} {qual : Str} (F : Fun K "__init__" qual sIniS fE fd) (TE : ErrF K C fE "value") : FnOk P w K mg base CX0 1 fE fd ["self", "value"] (spIniF C "value") := by
  refine F.ok scIv (fun vs H Q E h => ?_) (fun cdv A outer s H vs Q E hr h => ?_)
  · obtain ⟨a, y, rfl, _⟩ := h
    rfl
  · obtain ⟨a, y, rfl, e, q⟩ := h
    exact ⟨_, pss_one (ps_ost (pv 0) (pv 1)), ⟨_, rfl, _, rfl, a, C, rfl, TE.ox, TE.no, .inl ⟨e, fun dx h1 h2 => q dx h1 h2⟩⟩⟩
abbrev NNs : List Str := ["settings", "thing"]
theorem scNs : FnScope NNs ["settings", "thing"] (defScope sNStand) := ⟨rfl, rfl, rfl, by decide +kernel, rfl, by decide +kernel, by decide +kernel⟩
def spNStand (K : PySem.W.Frag) (C : Addr) : Sp := fun vs H Q E => ∃ (m l a : Addr) (xs : List V) (qs : List (Str × Int)) (v : V) (d : PyData), vs = [.ref a, v] ∧ SqT K H a xs ∧ PrTs K H xs qs ∧ qs.length ≤ 900 ∧ Dq K H m l v d ∧
  (standD qs d = true → ∀ H', Same H H' → Q .non H') ∧ (standD qs d = false → ∀ dx H', H dx = none → Same H H' → H' dx = some (.xd [("value", v)]) → E (.ref C) (some dx) H')
theorem ok_nstand {f : Addr} {fd fdI fdSt fdE : FuncData} {qual : Str} (F : Fun K "need_standing" "need_standing" sNStand f fd) (T : TxtP mg fI fN fS fA fG) (hz : mg "zip" = none) (hst : mg "is_standing" = some (.ref fSt)) (gC : mg "BadStanding" = some (.ref C)) (TE : ErrF K C fE "value")
    (FI : Fun K "is_int" "is_int" sPInt fI fdI) (bI : Binds K fdI ["thing"] []) (FSt : Fun K "is_standing" "is_standing" sPStand fSt fdSt) (bSt : Binds K fdSt ["settings", "thing"] []) (FE : Fun K "__init__" qual sIniS fE fdE) (bE : Binds K fdE ["self", "value"] []) :
    FnOk P w K mg base (L2.CX P w) 3 f fd ["settings", "thing"] (spNStand K C) := by
  have GSt : FnOk P w K mg base CX0 2 fSt fdSt ["settings", "thing"] (spPStand K) := ok_pstand FSt T hz FI bI
  have GE : FnOk P w K mg base CX0 1 fE fdE ["self", "value"] (spIniF C "value") := ok_iniV FE TE
  refine F.okX scNs (fun vs H Q E h => ?_) (fun cdv A outer s H vs Q E hr h => ?_)
  · obtain ⟨m, l, a, xs, qs, v, d, rfl, _⟩ := h
    rfl
  obtain ⟨m, l, a, xs, qs, v, d, rfl, hs, hp, hl, hd, q, qe⟩ := h
  refine ⟨_, pss_one (ps_if (pt_not (pt_val (pe_call GSt hr (by rfl) hst FSt.kp bSt .nil pass0 (pa_cons (pv 0) (pa_cons (pv 1) pa_nil)))))
      (pss_one (ps_raise rfl (takes_of rfl rfl rfl rfl) (pmk_oex TE.ox TE.ini TE.ty GE hr bE .nil pass0 (by rfl) gC (pa_cons (pv 1) pa_nil)))) pss_nil), ?_⟩
  refine ⟨_, rfl, _, rfl, m, l, a, xs, qs, v, d, rfl, hs, hp, hl, hd, fun H' s' => ⟨_, rfl, ?_⟩⟩
  cases e : standD qs d with
  | true => exact ifF rfl (q e H' s')
  | false => exact ifT rfl ⟨_, rfl, mk_oneF fun dx H2 h1 h2 h3 => qe e dx H2 (Same.free s' h1) (s'.trans h2) h3⟩
end
end Ms
namespace Ms
open PySem PySem.Spec PyProof.Rows L2
/-! ### plain rows -/
theorem eqV_str {a b : Str} : eqV (.str a) (.str b) = decide (a = b) := by
  first | rfl | (show (a == b) = decide (a = b); exact Bool.eq_iff_iff.mpr (by simp))
/-- where the name stands -/
def idxN (z : Str) : List (Str × Int) → Nat
  | [] => 0
  | q :: qs => if q.1 = z then 0 else idxN z qs + 1
theorem idxN_at {z : Str} : ∀ {qs : List (Str × Int)}, z ∈ qs.map (·.1) → ∃ q, qs[idxN z qs]? = some q ∧ q.1 = z ∧ ∀ (j : Nat) (q' : Str × Int), j < idxN z qs → qs[j]? = some q' → q'.1 ≠ z
  | [], h => nomatch h
  | q :: qs, h => by
    unfold idxN
    by_cases e : q.1 = z
    · rw [if_pos e]
      exact ⟨q, rfl, e, fun j q' hj _ => absurd hj (Nat.not_lt_zero _)⟩
    · rw [if_neg e]
      have h' : z ∈ qs.map (·.1) := by
        rcases List.mem_cons.mp h with h | h
        · exact absurd h.symm e
        · exact h
      obtain ⟨q2, h1, h2, h3⟩ := idxN_at h'
      refine ⟨q2, h1, h2, fun j q' hj hq => ?_⟩
      cases j with
      | zero =>
        have : q' = q := (Option.some.inj hq).symm
        rw [this]; exact e
      | succ j => exact h3 j q' (by omega) hq
/-- a go: the deed's name, and the number of the next place; none at an end -/
def goD (qs : List (Str × Int)) (st : List Int) (d : PyData) : Option (Option Str × Int) := match d with
  | .tuple [.str _, .str z, .int r] => some (some z, r)
  | .tuple [.str _, .str z, .tuple ns] => some (none, match ns.getD (st.getD (idxN z qs) 0).toNat .none with | .int r => r | _ => 0)
  | _ => none
def stOk (qs : List (Str × Int)) (st : List Int) : Prop := st.length = qs.length ∧ ∀ (i : Nat) (q : Str × Int) (v : Int), qs[i]? = some q → st[i]? = some v → 0 ≤ v ∧ v ≤ q.2
theorem go_end {qs : List (Str × Int)} {st : List Int} : goD qs st (.tuple [.str "end"]) = none := rfl
theorem go_do {qs : List (Str × Int)} {st : List Int} {w z : Str} {r : Int} : goD qs st (.tuple [.str w, .str z, .int r]) = some (some z, r) := rfl
theorem go_ask {qs : List (Str × Int)} {st : List Int} {w : Str} {q : Str × Int} {ns : List Int} (hst : stOk qs st) (hn : (qs.map (·.1)).Nodup) (hq : q ∈ qs) (hl : (ns.length : Int) = q.2 + 1) :
    ∃ (i : Nat) (v r : Int), qs[i]? = some q ∧ idxN q.1 qs = i ∧ st[i]? = some v ∧ 0 ≤ v ∧ v ≤ q.2 ∧ ns[v.toNat]? = some r ∧ r ∈ ns ∧ goD qs st (.tuple [.str w, .str q.1, .tuple (ns.map .int)]) = some (none, r) := by
  obtain ⟨q2, h1, h2, h3⟩ := idxN_at (z := q.1) (qs := qs) (List.mem_map_of_mem hq)
  have e : q2 = q := by
    obtain ⟨j, hj⟩ := List.mem_iff_getElem?.mp hq
    have a1 : (qs.map (·.1))[idxN q.1 qs]? = some q.1 := by rw [List.getElem?_map, h1]; exact congrArg some h2
    have a2 : (qs.map (·.1))[j]? = some q.1 := by rw [List.getElem?_map, hj]; rfl
    obtain ⟨b1, c1⟩ := List.getElem?_eq_some_iff.mp a1
    obtain ⟨b2, c2⟩ := List.getElem?_eq_some_iff.mp a2
    have : idxN q.1 qs = j := (List.getElem_inj hn).mp (c1.trans c2.symm)
    rw [this, hj] at h1
    exact (Option.some.inj h1).symm
  subst e
  obtain ⟨b1, _⟩ := List.getElem?_eq_some_iff.mp h1
  have hs : idxN q2.1 qs < st.length := by rw [hst.1]; exact b1
  have es : st[idxN q2.1 qs]? = some st[idxN q2.1 qs] := List.getElem?_eq_getElem hs
  obtain ⟨v0, v1⟩ := hst.2 _ _ _ h1 es
  have hv : (st[idxN q2.1 qs]).toNat < ns.length := by omega
  have en : ns[(st[idxN q2.1 qs]).toNat]? = some ns[(st[idxN q2.1 qs]).toNat] := List.getElem?_eq_getElem hv
  refine ⟨_, _, _, h1, rfl, es, v0, v1, en, List.getElem_mem hv, ?_⟩
  show some (none, _) = _
  have e1 : st.getD (idxN q2.1 qs) 0 = st[idxN q2.1 qs] := by rw [List.getD_eq_getElem?_getD, es]; rfl
  rw [e1]
  have e2 : (ns.map PyData.int).getD (st[idxN q2.1 qs]).toNat .none = .int ns[(st[idxN q2.1 qs]).toNat] := by
    rw [List.getD_eq_getElem?_getD, List.getElem?_map, en]; rfl
  rw [e2]
def walkD (qs : List (Str × Int)) (st : List Int) (ds : List PyData) : Nat → Nat → List Str → Option (List Str)
  | 0, _, _ => none
  | k + 1, h, row => match goD qs st (ds.getD h .none) with
    | none => some row
    | some (z, r) => walkD qs st ds k r.toNat (row ++ z.toList)
def plainR (qs : List (Str × Int)) (ds : List PyData) (st : List Int) : Option (List Str) := walkD qs st ds ds.length 0 []
section
variable {qs : List (Str × Int)} {st : List Int} {ds : List PyData}
theorem walk_end {k h : Nat} {row : List Str} (e : goD qs st (ds.getD h .none) = none) : walkD qs st ds (k + 1) h row = some row := by unfold walkD; rw [e]
theorem walk_go {k h : Nat} {row : List Str} {z : Option Str} {r : Int} (e : goD qs st (ds.getD h .none) = some (z, r)) : walkD qs st ds (k + 1) h row = walkD qs st ds k r.toNat (row ++ z.toList) := by
  conv => lhs; unfold walkD
  rw [e]
/-- the end is reached by t gos -/
inductive Rch (qs : List (Str × Int)) (st : List Int) (ds : List PyData) : Nat → Nat → Prop
  | fin {h : Nat} : goD qs st (ds.getD h .none) = none → Rch qs st ds 0 h
  | go {t h : Nat} {z : Option Str} {r : Int} : goD qs st (ds.getD h .none) = some (z, r) → Rch qs st ds t r.toNat → Rch qs st ds (t + 1) h
theorem Rch.same {t : Nat} : ∀ {u h : Nat}, Rch qs st ds t h → Rch qs st ds u h → t = u := by
  induction t with
  | zero =>
    intro u h a b
    cases a with
    | fin e =>
      cases b with
      | fin _ => rfl
      | go e' _ => rw [e] at e'; cases e'
  | succ t ih =>
    intro u h a b
    cases a with
    | go e a' =>
      cases b with
      | fin e' => rw [e] at e'; cases e'
      | go e' b' =>
        rw [e] at e'
        cases e'
        rw [ih a' b']
theorem walk_reach : ∀ (k h : Nat) (row w : List Str), walkD qs st ds k h row = some w → ∃ t, t < k ∧ Rch qs st ds t h
  | 0, _, _, _, e => by cases e
  | k + 1, h, row, w, e => by
    cases g : goD qs st (ds.getD h .none) with
    | none => exact ⟨0, by omega, .fin g⟩
    | some zr =>
      obtain ⟨z, r⟩ := zr
      rw [walk_go g] at e
      obtain ⟨t, h1, h2⟩ := walk_reach k _ _ _ e
      exact ⟨t + 1, by omega, .go g h2⟩
theorem reach_walk : ∀ (t k1 k2 h : Nat) (row : List Str), Rch qs st ds t h → t < k1 → t < k2 → walkD qs st ds k1 h row = walkD qs st ds k2 h row
  | 0, k1, k2, h, row, a, h1, h2 => by
    cases a with
    | fin g =>
      obtain ⟨k1, rfl⟩ : ∃ k, k1 = k + 1 := ⟨k1 - 1, by omega⟩
      obtain ⟨k2, rfl⟩ : ∃ k, k2 = k + 1 := ⟨k2 - 1, by omega⟩
      rw [walk_end g, walk_end g]
  | t + 1, k1, k2, h, row, a, h1, h2 => by
    cases a with
    | go g a' =>
      obtain ⟨k1, rfl⟩ : ∃ k, k1 = k + 1 := ⟨k1 - 1, by omega⟩
      obtain ⟨k2, rfl⟩ : ∃ k, k2 = k + 1 := ⟨k2 - 1, by omega⟩
      rw [walk_go g, walk_go g]
      exact reach_walk t k1 k2 _ _ a' (by omega) (by omega)
theorem nodup_bound : ∀ (n : Nat) (l : List Nat), l.Nodup → (∀ x ∈ l, x < n) → l.length ≤ n
  | 0, l, _, h => by
    cases l with
    | nil => exact Nat.le_refl _
    | cons x _ => exact absurd (h x (List.mem_cons_self ..)) (Nat.not_lt_zero _)
  | n + 1, l, d, h => by
    by_cases m : n ∈ l
    · have d' := d.erase n
      have := nodup_bound n (l.erase n) d' fun x hx => by
        have h1 := (List.Nodup.mem_erase_iff d).mp hx
        have := h x h1.2
        have := h1.1
        omega
      rw [List.length_erase_of_mem m] at this
      omega
    · have := nodup_bound n l d fun x hx => by
        have h1 := h x hx
        have : x ≠ n := fun e => m (e ▸ hx)
        omega
      omega
/-- the places of the way, each with its own number of gos that are left -/
theorem reach_way {n : Nat} (cl : ∀ h z r, h < n → goD qs st (ds.getD h .none) = some (z, r) → r.toNat < n) : ∀ (t h : Nat), h < n → Rch qs st ds t h → ∃ l : List Nat, l.length = t + 1 ∧ (∀ x ∈ l, x < n ∧ ∃ u, u ≤ t ∧ Rch qs st ds u x) ∧ l.Nodup
  | 0, h, hn, a => ⟨[h], rfl, fun x hx => by rw [List.mem_singleton.mp hx]; exact ⟨hn, 0, Nat.le_refl _, a⟩, by simp⟩
  | t + 1, h, hn, a => by
    cases a with
    | go g a' =>
      obtain ⟨l, h1, h2, h3⟩ := reach_way cl t _ (cl h _ _ hn g) a'
      refine ⟨h :: l, by simp [h1], fun x hx => ?_, List.nodup_cons.mpr ⟨fun hx => ?_, h3⟩⟩
      · rcases List.mem_cons.mp hx with rfl | hx
        · exact ⟨hn, t + 1, Nat.le_refl _, .go g a'⟩
        · obtain ⟨b1, u, b2, b3⟩ := h2 x hx
          exact ⟨b1, u, by omega, b3⟩
      · obtain ⟨_, u, b2, b3⟩ := h2 h hx
        have := Rch.same (Rch.go g a') b3
        omega
theorem reach_few {n t h : Nat} (cl : ∀ h z r, h < n → goD qs st (ds.getD h .none) = some (z, r) → r.toNat < n) (hn : h < n) (a : Rch qs st ds t h) : t < n := by
  obtain ⟨l, h1, h2, h3⟩ := reach_way cl t h hn a
  have := nodup_bound n l h3 fun x hx => (h2 x hx).1
  omega
/-- one turn more tells no more -/
theorem walk_more {n : Nat} (cl : ∀ h z r, h < n → goD qs st (ds.getD h .none) = some (z, r) → r.toNat < n) {h : Nat} (hn : h < n) (row : List Str) : walkD qs st ds (n + 1) h row = walkD qs st ds n h row := by
  cases e : walkD qs st ds (n + 1) h row with
  | some w =>
    obtain ⟨t, h1, h2⟩ := walk_reach _ _ _ _ e
    have := reach_few cl hn h2
    rw [← e]
    exact reach_walk t _ _ _ _ h2 h1 this
  | none =>
    cases e2 : walkD qs st ds n h row with
    | none => rfl
    | some w =>
      obtain ⟨t, h1, h2⟩ := walk_reach _ _ _ _ e2
      rw [reach_walk t (n + 1) n _ _ h2 (by omega) h1, e2] at e
      cases e
end
/-! ### a place where it stands -/
theorem ints_of {K : PySem.W.Frag} {H : Hp} {m l : Addr} : ∀ {ns : List Int} {xs : List V}, DqAll K H m l xs (ns.map PyData.int) → xs = ns.map V.int
  | [], _, h => by cases h; rfl
  | n :: ns, _, h => by
    cases h with
    | cons h1 h2 => cases h1; rw [ints_of h2]; rfl
/-- a place in the heap -/
inductive PlA (K : PySem.W.Frag) (H : Hp) (qs : List (Str × Int)) (many : Int) : V → PyData → Prop
  | fin {a : Addr} : SqT K H a [.str "end"] → PlA K H qs many (.ref a) (.tuple [.str "end"])
  | deed {a : Addr} {z : Str} {r : Int} : SqT K H a [.str "do", .str z, .int r] → nmOk z → 0 ≤ r → r < many → PlA K H qs many (.ref a) (.tuple [.str "do", .str z, .int r])
  | ask {a b : Addr} {q : Str × Int} {ns : List Int} : q ∈ qs → SqT K H a [.str "ask", .str q.1, .ref b] → SqT K H b (ns.map V.int) → (ns.length : Int) = q.2 + 1 → (∀ x ∈ ns, 0 ≤ x ∧ x < many) → PlA K H qs many (.ref a) (.tuple [.str "ask", .str q.1, .tuple (ns.map .int)])
theorem pl_at {K : PySem.W.Frag} {H : Hp} {m l : Addr} {qs : List (Str × Int)} {many : Int} {v : V} {d : PyData} (h : Dq K H m l v d) (p : plD qs many d) : PlA K H qs many v d := by
  rcases p with rfl | ⟨z, r, rfl, hz, h0, h1⟩ | ⟨q, hq, ns, rfl, hl, hn⟩
  · cases h with
    | tup e t =>
      cases t with
      | cons t1 t2 => cases t1; cases t2; exact .fin e
  · cases h with
    | tup e t =>
      cases t with
      | cons t1 t2 =>
        cases t1
        cases t2 with
        | cons t1 t2 =>
          cases t1
          cases t2 with
          | cons t1 t2 => cases t1; cases t2; exact .deed e hz h0 h1
  · cases h with
    | tup e t =>
      cases t with
      | cons t1 t2 =>
        cases t1
        cases t2 with
        | cons t1 t2 =>
          cases t1
          cases t2 with
          | cons t1 t2 =>
            cases t2
            cases t1 with
            | tup e2 t3 =>
              rw [ints_of t3] at e2
              exact .ask hq e e2 hl hn
theorem PlA.same {K : PySem.W.Frag} {H H' : Hp} {qs : List (Str × Int)} {many : Int} {v : V} {d : PyData} (s : Same H H') (p : PlA K H qs many v d) : PlA K H' qs many v d := by
  cases p with
  | fin h => exact .fin (Same.seqT s h)
  | deed h a b c => exact .deed (Same.seqT s h) a b c
  | ask hq h h2 a b => exact .ask hq (Same.seqT s h) (Same.seqT s h2) a b
theorem pl_next {qs : List (Str × Int)} {st : List Int} {ds : List PyData} (hst : stOk qs st) (hn : (qs.map (·.1)).Nodup) (hp : ∀ d ∈ ds, plD qs (ds.length : Int) d) : ∀ h z r, h < ds.length → goD qs st (ds.getD h .none) = some (z, r) → r.toNat < ds.length := by
  intro h z r hh g
  have eg : ds.getD h .none = ds[h] := by rw [List.getD_eq_getElem?_getD, List.getElem?_eq_getElem hh]; rfl
  rw [eg] at g
  rcases hp _ (List.getElem_mem hh) with e | ⟨z', r', e, _, h0, h1⟩ | ⟨q, hq, ns, e, hl, hx⟩
  · rw [e] at g; cases g
  · rw [e, go_do] at g
    cases g
    omega
  · obtain ⟨i, v, r2, _, _, _, _, _, _, hr, e2⟩ := go_ask (w := "ask") hst hn hq hl
    rw [e, e2] at g
    cases g
    have := hx _ hr
    omega
end Ms
namespace Ms
open PySem PySem.Spec PyProof.Rows L2 RZ
/-! ### a dict comprehension over any walk -/
theorem dc_it {J : It} {n : Nat} {G : Hp → Prop} {Y : Nat → Hp → V → Hp → Prop} (w : Walk J n G Y) {g : TG} {tt : TT} {tk tv : TE} {vs : List Nat} {σ : L2.St} {H1 : Hp} {D : Addr} {Qd : Hp → Prop} (Pv : Nat → Hp → Prop) (h0 : Pv 0 (upd H1 D (.dK []))) (hG : ∀ i H, i ≤ n → Pv i H → G H)
    (hs : ∀ i x H H', i < n → Pv i H → Y i H x H' → g x (wipe σ vs) H' fun σ2 H2 => wipe σ2 vs = wipe σ vs ∧ tt σ2 H2 fun b H3 =>
      if b = true then tk σ2 H3 fun y H4 => tv σ2 H4 fun z H5 => ∃ kvs k, y = kV k ∧ H5 D = some (.dK kvs) ∧ kvs.length < sizeLine ∧ Pv (i + 1) (upd H5 D (.dK (putK kvs k z))) else Pv (i + 1) H3) (hd : ∀ H, Pv n H → Qd H) :
    ∃ W : Nat → Nat → Hp → Prop, (∃ m, W 0 m (upd H1 D (.dK []))) ∧ ∀ i m H, W i m H →
      (J.stop i H ∧ Qd H) ∨ (J.go i H ∧ ∃ Nx : Hp → Prop, (∀ H', Nx H' → ∃ m', m' < m ∧ W (i + 1) m' H') ∧ ∀ x H', J.yld i H x H' → g x (wipe σ vs) H' fun σ2 H2 => wipe σ2 vs = wipe σ vs ∧ tt σ2 H2 fun b H3 =>
        if b = true then tk σ2 H3 fun y H4 => tv σ2 H4 fun z H5 => ∃ kvs k, y = kV k ∧ H5 D = some (.dK kvs) ∧ kvs.length < sizeLine ∧ Nx (upd H5 D (.dK (putK kvs k z))) else Nx H3) := by
  refine ⟨fun i m H => m = n - i ∧ i ≤ n ∧ Pv i H, ⟨n, by simp, Nat.zero_le _, h0⟩, ?_⟩
  rintro i m H ⟨rfl, hi, p⟩
  have q := hG i H hi p
  by_cases hlt : i < n
  · refine .inr ⟨w.goes i H hlt q, Pv (i + 1), fun H' p' => ⟨n - (i + 1), by omega, rfl, hlt, p'⟩, fun x H' y => hs i x H H' hlt p (w.yields i H x H' hlt q y)⟩
  · have e : i = n := by omega
    subst e
    exact .inl ⟨w.stops H q, hd H p⟩
/-! ### the order of the names -/
def ordF : Nat → List (Str × Int) → List (Key × V)
  | _, [] => []
  | n, q :: qs => (.inr q.1, .int (n : Nat)) :: ordF (n + 1) qs
def ordK (qs : List (Str × Int)) : List (Key × V) := ordF 0 qs
theorem ordF_len : ∀ (n : Nat) (qs : List (Str × Int)), (ordF n qs).length = qs.length
  | _, [] => rfl
  | n, q :: qs => by show (ordF (n + 1) qs).length + 1 = _; rw [ordF_len]; rfl
theorem ordF_snoc : ∀ (n : Nat) (qs : List (Str × Int)) (q : Str × Int), ordF n (qs ++ [q]) = ordF n qs ++ [(.inr q.1, .int ((n + qs.length : Nat) : Int))]
  | n, [], q => rfl
  | n, p :: qs, q => by
    show (_ :: ordF (n + 1) (qs ++ [q])) = _ :: (ordF (n + 1) qs ++ _)
    rw [ordF_snoc (n + 1) qs q]
    have : n + 1 + qs.length = n + (p :: qs).length := by simp; omega
    rw [this]
theorem ordF_none {z : Str} : ∀ (n : Nat) (qs : List (Str × Int)), z ∉ qs.map (·.1) → valV (ordF n qs) (.inr z) = none
  | _, [], _ => rfl
  | n, q :: qs, h => by
    have h' : ¬ z = q.1 ∧ z ∉ qs.map (·.1) := by simpa using h
    show valV (((.inr q.1 : Key), V.int (n : Nat)) :: ordF (n + 1) qs) (.inr z) = none
    rw [valV_neg (fun e => h'.1 (by have e' : (Sum.inr q.1 : Key) = Sum.inr z := e; injection e' with e'; exact e'.symm))]
    exact ordF_none (n + 1) qs h'.2
theorem ordF_at {z : Str} : ∀ (n : Nat) (qs : List (Str × Int)), z ∈ qs.map (·.1) → valV (ordF n qs) (.inr z) = some (.int ((n + idxN z qs : Nat) : Int))
  | _, [], h => nomatch h
  | n, q :: qs, h => by
    show valV (((.inr q.1 : Key), V.int (n : Nat)) :: ordF (n + 1) qs) (.inr z) = _
    by_cases e : q.1 = z
    · rw [valV_pos (show (Sum.inr q.1 : Key) = Sum.inr z by rw [e])]
      unfold idxN
      rw [if_pos e]; rfl
    · rw [valV_neg (fun e' => e (by have e2 : (Sum.inr q.1 : Key) = Sum.inr z := e'; injection e2))]
      have h' : z ∈ qs.map (·.1) := by
        rcases List.mem_cons.mp h with h | h
        · exact absurd h.symm e
        · exact h
      rw [ordF_at (n + 1) qs h']
      conv => rhs; unfold idxN
      rw [if_neg e]
      have : n + 1 + idxN z qs = n + (idxN z qs + 1) := by omega
      rw [this]
section
variable {P : Program} {w : World} {K : PySem.W.Frag} {mg : Str → Option Value} {base : Heap} {fI fN fS fA fG aE : Addr}
abbrev NOr : List Str := ["settings", "at", "name", "most"]
theorem scOr : FnScope NOr ["settings"] (defScope sPOrder) := ⟨rfl, rfl, rfl, by decide +kernel, rfl, by decide +kernel, by decide +kernel⟩
def spPOrder (K : PySem.W.Frag) : Sp := fun vs H Q _ => ∃ (a : Addr) (xs : List V) (qs : List (Str × Int)), vs = [.ref a] ∧ SqT K H a xs ∧ PrTs K H xs qs ∧ qs.length ≤ 900 ∧ (qs.map (·.1)).Nodup ∧
  ∀ D, H D = none → ∀ H', Same H H' → H' D = some (.dK (ordK qs)) → Q (.ref D) H'
theorem ok_porder {f : Addr} {fd : FuncData} (F : Fun K "order_of" "order_of" sPOrder f fd) (T : TxtP mg fI fN fS fA fG) : FnOk P w K mg base CX0 1 f fd ["settings"] (spPOrder K) := by
  refine F.ok scOr (fun vs H Q E h => ?_) (fun cdv A outer s H vs Q E hr h => ?_)
  · obtain ⟨a, xs, qs, rfl, _⟩ := h
    rfl
  obtain ⟨a, xs, qs, rfl, hs, hp, hl, hn, q⟩ := h
  have lx := hp.len
  refine ⟨_, pss_one (ps_ret (pe_dc (own := [("at", 1), ("name", 2), ("most", 3)]) (g := gTup K 2 (gCons (gName 1) (gCons (gTup K 2 (gCons (gName 2) (gCons (gName 3) gNil))) gNil))) (by rfl) scOr.nd (pi_et (by rfl) T.enumerate (pa_cons (pv 0) pa_nil)) (blkOk_by (own := [("at", 1), ("name", 2), ("most", 3)]) (N := NOr) (sc := defScope sPOrder) (by decide +kernel))
      (fun _ _ _ _ _ => pg_tup rfl (pgs_cons (pg_name (i := 1) scOr.nd rfl (Or.inl rfl)) (pgs_cons (pg_tup rfl (pgs_cons (pg_name (i := 2) scOr.nd rfl (Or.inl rfl)) (pgs_cons (pg_name (i := 3) scOr.nd rfl (Or.inl rfl)) pgs_nil))) pgs_nil))) (fun _ _ _ _ _ => pts_nil)
      (fun _ _ _ _ _ => pv 2) (fun _ _ _ _ _ => pv 1))), ?_⟩
  refine ⟨_, rfl, a, xs, rfl, hs, fun D hD => ?_⟩
  refine dc_it (walk_et (xs := xs)) (fun i H3 => Same H H3 ∧ H3 D = some (.dK (ordK (qs.take i)))) ⟨Same.upd hD, by rw [upd_same]; rfl⟩ (fun i H3 _ ⟨s3, _⟩ => Same.seqT s3 hs) ?_ ?_
  · rintro i x H3 H4 hi ⟨s3, g3⟩ ⟨TT, x1, x2, rfl, hT, rfl, e1, e2⟩
    have ex1 : x1 = .int (i : Nat) := (Option.some.inj e1).symm
    subst ex1
    obtain ⟨qq, hqq, b, rfl, hb⟩ := hp.get e2
    have sT : Same H3 (upd H3 TT (.tup [.int (i : Nat), .ref b])) := Same.upd hT
    have s4 := s3.trans sT
    have gD := sT _ _ g3
    have ti : qs.take (i + 1) = qs.take i ++ [qq] := by rw [List.take_succ, hqq]; rfl
    have li : (qs.take i).length = i := by rw [List.length_take]; omega
    refine ⟨TT, _, rfl, .inl (.inl upd_same), rfl, _, _, rfl, _, _, rfl, b, _, rfl, Same.seqT s4 hb, rfl, _, _, rfl, _, _, rfl, rfl, rfl, rfl, tyes ?_⟩
    refine ⟨_, rfl, _, rfl, _, .inr qq.1, rfl, gD, ?_, ?_, ?_⟩
    · show (ordF 0 (qs.take i)).length < sizeLine
      rw [ordF_len]
      exact small1000 (by omega)
    · intro c o hc
      rw [upd_ne (ne_of_none hc hD)]; exact s4 c o hc
    · rw [upd_same, ti]
      have hno : qq.1 ∉ (qs.take i).map (·.1) := by
        intro hm
        have e3 : (qs.map (·.1)).take i = (qs.take i).map (·.1) := (List.map_take ..).symm
        rw [← e3] at hm
        obtain ⟨j, hj⟩ := List.mem_iff_getElem?.mp hm
        rw [List.getElem?_take] at hj
        split at hj
        · rename_i hji
          obtain ⟨b1, c1⟩ := List.getElem?_eq_some_iff.mp hj
          have a2 : (qs.map (·.1))[i]? = some qq.1 := by rw [List.getElem?_map, hqq]; rfl
          obtain ⟨b2, c2⟩ := List.getElem?_eq_some_iff.mp a2
          have : j = i := (List.getElem_inj hn).mp (c1.trans c2.symm)
          omega
        · cases hj
      show some (HO.dK (putK (ordF 0 (qs.take i)) (.inr qq.1) (.int (i : Nat)))) = some (HO.dK (ordF 0 (qs.take i ++ [qq])))
      rw [putK_new _ (ordF_none 0 _ hno), ordF_snoc, Nat.zero_add, li]
  · rintro H3 ⟨s3, g3⟩
    rw [List.take_of_length_le (by omega)] at g3
    exact q D hD _ s3 g3
/-! ### plain_row -/
abbrev NPr : List Str := ["places", "order", "standing", "row", "number", "step", "place"]
theorem scPr : FnScope NPr ["places", "order", "standing"] (defScope sPPRow) := ⟨rfl, rfl, rfl, by decide +kernel, rfl, by decide +kernel, by decide +kernel⟩
def spPPRow (K : PySem.W.Frag) : Sp := fun vs H Q _ => ∃ (m l D pP pT : Addr) (ps : List V) (qs : List (Str × Int)) (ds : List PyData) (st : List Int), vs = [.ref pP, .ref D, .ref pT] ∧ (qs.map (·.1)).Nodup ∧
  SqT K H pP ps ∧ DqAll K H m l ps ds ∧ (∀ d ∈ ds, plD qs (ds.length : Int) d) ∧ 1 ≤ ds.length ∧ ds.length ≤ 16 ∧ H D = some (.dK (ordK qs)) ∧ SqT K H pT (st.map V.int) ∧ stOk qs st ∧
  (plainR qs ds st = none → ∀ H', Same H H' → Q .non H') ∧ (∀ row, plainR qs ds st = some row → ∀ p H', Same H H' → H' p = some (.tup (row.map V.str)) → Q (.ref p) H')
theorem ok_prow {f : Addr} {fd : FuncData} (F : Fun K "plain_row" "plain_row" sPPRow f fd) (T : TxtP mg fI fN fS fA fG) (hE : mg "END" = some (.ref aE)) (WE : ∀ H, SqT K H aE [.str "end"]) : FnOk P w K mg base CX0 1 f fd ["places", "order", "standing"] (spPPRow K) := by
  refine F.ok scPr (fun vs H Q E h => ?_) (fun cdv A outer s H vs Q E hr h => ?_)
  · obtain ⟨m, l, D, pP, pT, ps, qs, ds, st, rfl, _⟩ := h
    rfl
  obtain ⟨m, l, D, pP, pT, ps, qs, ds, st, rfl, hn, hP, hps, hpl, d1, d16, hD, hT, so, qn, qr⟩ := h
  have lps := hps.len
  refine ⟨_, pss_cons (ps_set (i := 3) scPr.nd rfl (Or.inl rfl) (pe_lst pa_nil))
    (pss_cons (ps_set (i := 4) scPr.nd rfl (Or.inl rfl) pe_int)
    (pss_cons (ps_for PassesOwn.never rfl (pi_range1 (by rfl) T.range (pa_cons (pe_callB call_len (by rfl) T.len PySem.boot_len (pa_cons (pv 0) pa_nil)) pa_nil)) (pg_name (i := 5) scPr.nd rfl (Or.inl rfl))
      (pss_cons (ps_set (i := 6) scPr.nd rfl (Or.inl rfl) (pe_ix (show IxR _ (rIxT K) from ix_tup) (pv 0) (pv 4) (fun _ _ => rfl)))
      (pss_cons (ps_if (pt_cmpR (op_eqE hr.units) (pv 6) (pe_glob (v := .ref aE) rfl hE rfl) (nomark _)) (pss_one (ps_ret (pe_callTy call_tuple_of (by rfl) T.tuple (by decide +kernel) (pa_cons (pv 3) pa_nil)))) pss_nil)
      (pss_one (ps_if (pt_cmpR op_eq (pe_ix (show IxR _ (rIxT K) from ix_tup) (pv 6) pe_int (fun _ _ => rfl)) pe_str (nomark _))
        (pss_cons (ps_expr (pe_bm PySem.F.plainAttrs_list PySem.F.slot_list_append PySem.F.type_list_append mt_append (pv 3) (pa_cons (pe_ix (show IxR _ (rIxT K) from ix_tup) (pv 6) pe_int (fun _ _ => rfl)) pa_nil)))
          (pss_one (ps_set (i := 4) scPr.nd rfl (Or.inl rfl) (pe_ix (show IxR _ (rIxT K) from ix_tup) (pv 6) pe_int (fun _ _ => rfl)))))
        (pss_one (ps_set (i := 4) scPr.nd rfl (Or.inl rfl) (pe_ix (show IxR _ (rIxT K) from ix_tup) (pe_ix (show IxR _ (rIxT K) from ix_tup) (pv 6) pe_int (fun _ _ => rfl))
          (pe_ix (show IxR _ (rIxT K) from ix_tup) (pv 2) (pe_dget (Nat.lt_of_le_of_lt (Nat.add_le_add_left (by decide : 1 ≤ 64) _) hr.units) (pv 1) (pe_ix (show IxR _ (rIxT K) from ix_tup) (pv 6) pe_int (fun _ _ => rfl)) (fun _ _ => rfl)) (fun _ _ => rfl)) (fun _ _ => rfl)))))))))
    (pss_one (ps_ret pe_non)))), ?_⟩
  refine ⟨(by show 0 ≤ sizeLine; decide), fun R hR => ?_⟩
  have hRH : H R = none := hR
  have s2 : Same H (upd H R (.lst [])) := Same.upd hR
  refine ⟨_, rfl, .ref pP, ps.length, rfl, .inr ⟨ps, Same.seqT s2 hP, rfl⟩, _, rfl, by omega, by omega, ?_⟩
  have cl := pl_next so hn hpl
  refine for_range (lo := 0) (n := ((ps.length : Nat) : Int).toNat) (fun i σ H7 => ∃ (v4 v5 : Option V) (acc : List Str) (h : Nat), σ = [some (.ref pP), some (.ref D), some (.ref pT), some (.ref R), some (.int (h : Int)), v4, v5] ∧ Same H H7 ∧ H7 R = some (.lst (acc.map V.str)) ∧ acc.length ≤ i ∧ h < ds.length ∧ plainR qs ds st = walkD qs st ds (ds.length - i) h acc)
    ⟨none, none, [], 0, rfl, s2, upd_same, Nat.le_refl _, by omega, rfl⟩ ?_ ?_
  · rintro i σ H7 hi ⟨v4, v5, acc, h, rfl, s7, g7, al, hh, ew⟩
    have hi' : i < ds.length := by omega
    have hps7 : DqAll K H7 m l ps ds := DqAll.same s7 _ _ hps
    obtain ⟨y, hy⟩ : ∃ y, ps[h]? = some y := ⟨_, List.getElem?_eq_getElem (by omega)⟩
    obtain ⟨e, he, dqe⟩ := hps7.get hy
    have hpe := hpl e (List.mem_of_getElem? he)
    have eg : ds.getD h .none = e := by rw [List.getD_eq_getElem?_getD, he]; rfl
    have pa := pl_at dqe hpe
    obtain ⟨k, ek⟩ : ∃ k, ds.length - i = k + 1 := ⟨ds.length - i - 1, by omega⟩
    have ek1 : ds.length - (i + 1) = k := by omega
    rw [ek] at ew
    refine ⟨_, rfl, _, rfl, pP, ps, (h : Int), y, rfl, rfl, Same.seqT s7 hP, atI_nat hy, ?_⟩
    cases pa with
    | @fin b hb =>
      refine ⟨_, rfl, b, aE, m, l, _, [.str "end"], "end", rfl, rfl, hb, .cons (.str _) .nil, WE _, _, rfl, ifT rfl ?_⟩
      refine ⟨_, rfl, R, _, rfl, .inl ⟨SqL.of g7, fun p hp => ?_⟩⟩
      rw [walk_end (by rw [eg]; rfl)] at ew
      exact qr acc ew p _ (s7.trans (Same.upd hp)) upd_same
    | @deed b z r hb hz r0 r1 =>
      obtain ⟨r', rfl⟩ : ∃ r' : Nat, r = (r' : Int) := ⟨r.toNat, by omega⟩
      have g : goD qs st (ds.getD h .none) = some (some z, (r' : Int)) := by rw [eg]; rfl
      rw [walk_go g] at ew
      have rn := cl h _ _ hh g
      refine ⟨_, rfl, b, aE, m, l, _, [.str "do", .str z, .int (r' : Int)], "end", rfl, rfl, hb, .cons (.str _) (.cons (.str _) (.cons (.int _) .nil)), WE _, _, rfl, ifF rfl ?_⟩
      refine ⟨_, rfl, b, _, 0, .str "do", rfl, rfl, hb, rfl, rfl, _, rfl, ifT (by decide) ?_⟩
      refine ⟨_, rfl, .inl ⟨rfl, _, SqL.of g7⟩, _, rfl, b, _, 1, .str z, rfl, rfl, hb, rfl, R, _, _, rfl, rfl, g7, small1000 (by rw [List.length_map]; omega), ?_⟩
      have s8 : Same H (upd H7 R (.lst (acc.map V.str ++ [.str z]))) := fun c o hc => by rw [upd_ne (ne_of_none hc hRH)]; exact s7 c o hc
      have hb8 : SqT K (upd H7 R (.lst (acc.map V.str ++ [.str z]))) b [.str "do", .str z, .int (r' : Int)] := by
        rcases hb with (hb | ⟨o', hb⟩) | hb
        · exact .inl (.inl (by rw [upd_ne (ne_of hb g7 (by intro z; cases z))]; exact hb))
        · exact .inl (.inr ⟨o', by rw [upd_ne (ne_of hb g7 (by intro z; cases z))]; exact hb⟩)
        · exact .inr hb
      refine ⟨_, rfl, b, _, 2, .int (r' : Int), rfl, rfl, hb8, rfl, _, _, acc ++ [z], r', rfl, s8, ?_, by simp; omega, rn, ?_⟩
      · rw [List.map_append]; exact upd_same
      · rw [ek1]; exact ew
    | @ask b c qq ns hq hb hc hl2 hx2 =>
      obtain ⟨i2, v2, r, h3, h4, h5, w0, w1, h6, h7, h8⟩ := go_ask (w := "ask") so hn hq hl2
      have g : goD qs st (ds.getD h .none) = some (none, r) := by rw [eg]; exact h8
      rw [walk_go g] at ew
      have rn := cl h _ _ hh g
      have r0 := (hx2 r h7).1
      obtain ⟨r', rfl⟩ : ∃ r' : Nat, r = (r' : Int) := ⟨r.toNat, by omega⟩
      have ev : v2 = ((v2.toNat : Nat) : Int) := by omega
      refine ⟨_, rfl, b, aE, m, l, _, [.str "ask", .str qq.1, .tuple (ns.map .int)], "end", rfl, rfl, hb, .cons (.str _) (.cons (.str _) (.cons (.tup hc (ints_dq ns)) .nil)), WE _, _, rfl, ifF rfl ?_⟩
      refine ⟨_, rfl, b, _, 0, .str "ask", rfl, rfl, hb, rfl, rfl, _, rfl, ifF (by decide) ?_⟩
      have gd : DGet H7 D (.str qq.1) (some (.int (i2 : Nat))) := by
        have e1 := ordF_at (z := qq.1) 0 qs (List.mem_map_of_mem hq)
        rw [Nat.zero_add, h4] at e1
        rw [← e1]
        exact DGet.k (k := .inr qq.1) (s7 _ _ hD)
      refine ⟨_, rfl, b, _, 2, .ref c, rfl, rfl, hb, rfl, _, rfl, _, rfl, _, rfl, b, _, 1, .str qq.1, rfl, rfl, hb, rfl, D, .int (i2 : Nat), rfl, gd, ?_⟩
      refine ⟨pT, _, (i2 : Int), .int v2, rfl, rfl, Same.seqT s7 hT, atI_nat (by rw [List.getElem?_map, h5]; rfl), ?_⟩
      refine ⟨c, _, v2, .int (r' : Int), rfl, rfl, hc, ?_, ?_⟩
      · rw [ev]
        exact atI_nat (by rw [List.getElem?_map, h6]; rfl)
      refine ⟨_, _, acc, r', rfl, s7, g7, by omega, rn, ?_⟩
      rw [ek1, ew]
      simp
  · rintro σ H7 ⟨v4, v5, acc, h, rfl, s7, g7, al, hh, ew⟩
    have ez : ds.length - ((ps.length : Nat) : Int).toNat = 0 := by omega
    rw [ez] at ew
    exact qn ew H7 s7
end
end Ms
namespace Ms
open PySem PySem.Spec PyProof.Rows L2 RZ
/-! ### Request.plain -/
theorem stand_st {qs : List (Str × Int)} {d : PyData} (h : standD qs d = true) : ∃ st : List Int, d = .tuple (st.map .int) ∧ stOk qs st := by
  cases d with
  | tuple ds =>
    have h' : (decide (ds.length = qs.length) && (ds.zip qs).all fun p => isWhole p.1 0 p.2.2) = true := h
    rw [Bool.and_eq_true] at h'
    obtain ⟨h1, h2⟩ := h'
    have h1 := of_decide_eq_true h1
    rw [List.all_eq_true] at h2
    have key : ∀ (ds : List PyData) (qs : List (Str × Int)), ds.length = qs.length → (∀ p ∈ ds.zip qs, isWhole p.1 0 p.2.2 = true) → ∃ st : List Int, ds = st.map .int ∧ stOk qs st := by
      intro ds
      induction ds with
      | nil =>
        intro qs hl _
        refine ⟨[], rfl, by simpa using hl, fun i q v h1 h2 => by simp at h2⟩
      | cons d ds ih =>
        intro qs hl hp
        cases qs with
        | nil => simp at hl
        | cons q qs =>
          have hd : isWhole d 0 q.2 = true := hp (d, q) (by simp)
          obtain ⟨st, e, so⟩ := ih qs (by simpa using hl) fun p hp' => hp p (by rw [List.zip_cons_cons]; exact List.mem_cons_of_mem _ hp')
          cases d with
          | int j =>
            have hj : (decide (0 ≤ j) && decide (j ≤ q.2)) = true := hd
            rw [Bool.and_eq_true, decide_eq_true_eq, decide_eq_true_eq] at hj
            refine ⟨j :: st, by rw [e]; rfl, by simp [so.1], fun i q' v h1 h2 => ?_⟩
            cases i with
            | zero =>
              cases h1
              cases h2
              exact hj
            | succ i => exact so.2 i q' v (by simpa using h1) (by simpa using h2)
          | _ => cases hd
    obtain ⟨st, e, so⟩ := key ds qs h1 h2
    exact ⟨st, by rw [e], so⟩
  | _ => cases h
theorem st_stand {qs : List (Str × Int)} {st : List Int} (h : stOk qs st) : standD qs (.tuple (st.map .int)) = true := by
  show (decide ((st.map PyData.int).length = qs.length) && ((st.map PyData.int).zip qs).all fun p => isWhole p.1 0 p.2.2) = true
  rw [List.length_map, decide_eq_true h.1, Bool.true_and, List.all_eq_true]
  intro p hp
  obtain ⟨i, hi⟩ := List.mem_iff_getElem?.mp hp
  rw [List.getElem?_zip_eq_some, List.getElem?_map] at hi
  obtain ⟨h1, h2⟩ := hi
  cases e : st[i]? with
  | none => rw [e] at h1; cases h1
  | some v =>
    rw [e] at h1
    have e1 : p.1 = .int v := (Option.some.inj h1).symm
    obtain ⟨a, b⟩ := h.2 i p.2 v h2 e
    rw [e1]
    show (decide (0 ≤ v) && decide (v ≤ p.2.2)) = true
    rw [decide_eq_true a, decide_eq_true b]; rfl
section
variable {P : Program} {w : World} {K : PySem.W.Frag} {mg : Str → Option Value} {base : Heap} {fI fN fS fA fG fSt fNs fPr fOr C CS fE aE : Addr}
abbrev NPp : List Str := ["self", "standing"]
theorem scPp : FnScope NPp ["self", "standing"] (defScope sReqPlain) := ⟨rfl, rfl, rfl, by decide +kernel, rfl, by decide +kernel, by decide +kernel⟩
def spPPlain (K : PySem.W.Frag) (C CS : Addr) : Sp := fun vs H Q E => ∃ (m l x dx pS pP : Addr) (xs ps : List V) (qs : List (Str × Int)) (ds : List PyData) (vM v : V) (d : PyData), vs = [.ref x, v] ∧ H x = some (.ins C dx (reqF (.ref pS) (.ref pP) vM)) ∧ SqT K H pS xs ∧ PrTs K H xs qs ∧ qs.length ≤ 900 ∧ (qs.map (·.1)).Nodup ∧
  SqT K H pP ps ∧ DqAll K H m l ps ds ∧ (∀ d ∈ ds, plD qs (ds.length : Int) d) ∧ 1 ≤ ds.length ∧ ds.length ≤ 16 ∧ Dq K H m l v d ∧
  (∀ st : List Int, d = .tuple (st.map .int) → stOk qs st → (plainR qs ds st = none → ∀ H', Same H H' → Q .non H') ∧ ∀ row, plainR qs ds st = some row → ∀ p H', Same H H' → H' p = some (.tup (row.map V.str)) → Q (.ref p) H') ∧
  (standD qs d = false → ∀ e H', H e = none → Same H H' → H' e = some (.xd [("value", v)]) → E (.ref CS) (some e) H')
theorem ok_plain {f : Addr} {fd fdI fdSt fdNs fdPr fdOr fdE : FuncData} {qual q2 : Str} (F : Fun K "plain" qual sReqPlain f fd) (T : TxtP mg fI fN fS fA fG) (hz : mg "zip" = none) (hst : mg "is_standing" = some (.ref fSt)) (hns : mg "need_standing" = some (.ref fNs)) (hpr : mg "plain_row" = some (.ref fPr)) (hor : mg "order_of" = some (.ref fOr)) (hE : mg "END" = some (.ref aE)) (WE : ∀ H, SqT K H aE [.str "end"])
    (gC : mg "BadStanding" = some (.ref CS)) (TE : ErrF K CS fE "value") (RC : ReqC K C)
    (FI : Fun K "is_int" "is_int" sPInt fI fdI) (bI : Binds K fdI ["thing"] []) (FSt : Fun K "is_standing" "is_standing" sPStand fSt fdSt) (bSt : Binds K fdSt ["settings", "thing"] []) (FE : Fun K "__init__" q2 sIniS fE fdE) (bE : Binds K fdE ["self", "value"] [])
    (FNs : Fun K "need_standing" "need_standing" sNStand fNs fdNs) (bNs : Binds K fdNs ["settings", "thing"] []) (FPr : Fun K "plain_row" "plain_row" sPPRow fPr fdPr) (bPr : Binds K fdPr ["places", "order", "standing"] []) (FOr : Fun K "order_of" "order_of" sPOrder fOr fdOr) (bOr : Binds K fdOr ["settings"] []) :
    FnOk P w K mg base (L2.CX P w) 4 f fd ["self", "standing"] (spPPlain K C CS) := by
  have GNs : FnOk P w K mg base (L2.CX P w) 3 fNs fdNs ["settings", "thing"] (spNStand K CS) := ok_nstand FNs T hz hst gC TE FI bI FSt bSt FE bE
  have GPr : FnOk P w K mg base CX0 1 fPr fdPr ["places", "order", "standing"] (spPPRow K) := ok_prow FPr T hE WE
  have GOr : FnOk P w K mg base CX0 1 fOr fdOr ["settings"] (spPOrder K) := ok_porder FOr T
  refine F.okX scPp (fun vs H Q E h => ?_) (fun cdv A outer s H vs Q E hr h => ?_)
  · obtain ⟨m, l, x, dx, pS, pP, xs, ps, qs, ds, vM, v, d, rfl, _⟩ := h
    rfl
  obtain ⟨m, l, x, dx, pS, pP, xs, ps, qs, ds, vM, v, d, rfl, hx, hs, hp, hl, hn, hP, hps, hpl, d1, d16, hd, q, qe⟩ := h
  have hr1 : Room 1 _ := hr.mono (by decide)
  refine ⟨_, pss_cons (ps_expr (pe_call GNs hr (by rfl) hns FNs.kp bNs .nil (passes_call (takes_of rfl rfl rfl rfl) fun _ _ _ _ h => h) (pa_cons (pe_fld (pv 0) rfl) (pa_cons (pv 1) pa_nil))))
    (pss_one (ps_ret (pe_call GPr hr1 (by rfl) hpr FPr.kp bPr .nil pass0 (pa_cons (pe_fld (pv 0) rfl) (pa_cons (pe_call GOr hr1 (by rfl) hor FOr.kp bOr .nil pass0 (pa_cons (pe_fld (pv 0) rfl) pa_nil)) (pa_cons (pv 1) pa_nil)))))), ?_⟩
  refine ⟨_, rfl, x, C, dx, _, _, rfl, hx, RC.cl, RC.nS, rfl, _, rfl, m, l, pS, xs, qs, v, d, rfl, hs, hp, hl, hd, fun hsd H1 s1 => ?_, fun hsd => qe hsd⟩
  obtain ⟨st, ed, so⟩ := stand_st hsd
  obtain ⟨qn, qr⟩ := q st ed so
  subst ed
  obtain ⟨pT, hv, hT⟩ : ∃ pT, v = .ref pT ∧ SqT K H pT (st.map V.int) := by
    cases hd with
    | tup e t => rw [ints_of t] at e; exact ⟨_, rfl, e⟩
  subst hv
  refine ⟨_, rfl, x, C, dx, _, _, rfl, s1 _ _ hx, RC.cl, RC.nP, rfl, _, rfl, x, C, dx, _, _, rfl, s1 _ _ hx, RC.cl, RC.nS, rfl, pS, xs, qs, rfl, Same.seqT s1 hs, hp.same s1, hl, hn, fun D hD H2 s2 gD => ?_⟩
  have s3 := s1.trans s2
  exact ⟨_, rfl, m, l, D, pP, pT, ps, qs, ds, st, rfl, hn, Same.seqT s3 hP, DqAll.same s3 _ _ hps, hpl, d1, d16, gD, Same.seqT s3 hT, so, fun h H4 s4 => qn h H4 (s3.trans s4), fun row h p H4 s4 g4 => qr row h p H4 (s3.trans s4) g4⟩
end
end Ms
namespace Ms
open PySem PySem.Spec PyProof.Rows L2
/-! ### the repr of data, as a text that is shown itself -/
def cpsOk (z : Str) : Prop := ∀ c ∈ z.cps.toList, c < 0x110000
theorem cpsOk.app {z y : Str} (h : cpsOk z) (h2 : cpsOk y) : cpsOk (z ++ y) := fun c hc => by
  rw [app_cps] at hc
  rcases List.mem_append.mp hc with hc | hc
  · exact h c hc
  · exact h2 c hc
theorem char_lt (c : Char) : c.toNat < 0x110000 := by
  rcases c.valid with h | ⟨_, h⟩
  · have : c.toNat < 0xd800 := h
    omega
  · exact h
theorem reprChar_ok {q c : Nat} (hq : q < 0x110000) (hc : c < 0x110000) : ∀ x ∈ Builtin.Str.reprChar q c, x < 0x110000 := by
  have hex : ∀ w : Nat, ∀ x ∈ List.replicate (w - ((Nat.toDigits 16 c).map Char.toNat).length) 48 ++ (Nat.toDigits 16 c).map Char.toNat, x < 0x110000 := fun w x hx => by
    rcases List.mem_append.mp hx with hx | hx
    · rw [(List.mem_replicate.mp hx).2]; decide
    · obtain ⟨d, _, rfl⟩ := List.mem_map.mp hx
      exact char_lt d
  intro x hx
  unfold Builtin.Str.reprChar at hx
  dsimp only at hx
  repeat' split at hx
  all_goals first
    | (simp only [List.mem_cons, List.mem_nil_iff, or_false] at hx
       rcases hx with rfl | rfl <;> first | assumption | decide)
    | (simp only [List.mem_cons, List.mem_nil_iff, or_false] at hx
       rw [hx]; assumption)
    | (rcases List.mem_append.mp hx with hx | hx
       · simp only [List.mem_cons, List.mem_nil_iff, or_false] at hx
         rcases hx with rfl | rfl <;> decide
       · exact hex _ x hx)
theorem repr_ok {z : Str} (h : cpsOk z) : cpsOk (reprText z) := fun c hc => by
  have hq : reprQuote z < 0x110000 := by unfold reprQuote; split <;> decide
  rw [repr_list] at hc
  rcases List.mem_cons.mp hc with rfl | hc
  · exact hq
  · rcases List.mem_append.mp hc with hc | hc
    · obtain ⟨y, hy, hc⟩ := List.mem_flatMap.mp hc
      exact reprChar_ok hq (h y hy) c hc
    · rw [List.mem_singleton.mp hc]; exact hq
theorem cps_lit {z : Str} (h : (z.cps.toList.all fun c => decide (c < 0x110000)) = true) : cpsOk z := fun c hc => by
  rw [List.all_eq_true] at h
  exact of_decide_eq_true (h c hc)
theorem text_ok : ∀ (ts : List Str) (k : Nat) (acc : Str), cpsOk acc → (∀ t ∈ ts, cpsOk t) → cpsOk (textFrom k acc ts)
  | [], _, _, h, _ => h
  | t :: r, k, acc, h, ht => by
    refine text_ok r _ _ (cpsOk.app (cpsOk.app h ?_) (ht t (List.mem_cons_self ..))) fun x hx => ht x (List.mem_cons_of_mem _ hx)
    split
    · exact cps_lit (by decide +kernel)
    · exact cps_lit (by decide +kernel)
theorem join_ok : ∀ (ts : List Str), (∀ t ∈ ts, cpsOk t) → cpsOk (Str.join ", " ts)
  | [], _ => cps_lit (by decide +kernel)
  | [t], h => h t (List.mem_cons_self ..)
  | t :: y :: r, h => by
    have e : Str.join ", " (t :: y :: r) = t ++ ", " ++ Str.join ", " (y :: r) := rfl
    rw [e]
    exact cpsOk.app (cpsOk.app (h t (List.mem_cons_self ..)) (cps_lit (by decide +kernel))) (join_ok (y :: r) fun x hx => h x (List.mem_cons_of_mem _ hx))
mutual
theorem shown_cps {B : Nat} : ∀ d : PyData, okD B d = true → cpsOk d.shown
  | .none, _ => cps_lit (by decide +kernel)
  | .bool true, _ => cps_lit (by decide +kernel)
  | .bool false, _ => cps_lit (by decide +kernel)
  | .int i, _ => fun c hc => by
    rcases int_signs i c hc with h | h <;> omega
  | .str z, e => by
    simp only [okD, List.all_eq_true, decide_eq_true_eq] at e
    exact repr_ok e
  | .list xs, e => by
    simp only [okD] at e
    simp only [PyData.shown]
    unfold listText
    exact cpsOk.app (text_ok _ _ _ (cps_lit (by decide +kernel)) (shownAll_cps xs e)) (cps_lit (by decide +kernel))
  | .tuple xs, e => by
    simp only [okD] at e
    simp only [PyData.shown]
    unfold tupleText
    refine cpsOk.app (cpsOk.app (cps_lit (by decide +kernel)) (join_ok _ (shownAll_cps xs e))) ?_
    split <;> exact cps_lit (by decide +kernel)
  | .dict [], _ => cps_lit (by decide +kernel)
  | .dict (a :: b), e => by simp [okD] at e
theorem shownAll_cps {B : Nat} : ∀ xs : List PyData, okAll B xs = true → ∀ t ∈ PyData.shownAll xs, cpsOk t
  | [], _ => fun t h => nomatch h
  | x :: xs, e => fun t h => by
    simp only [okAll, Bool.and_eq_true] at e
    rcases List.mem_cons.mp (show t ∈ x.shown :: PyData.shownAll xs from h) with rfl | h
    · exact shown_cps x e.1
    · exact shownAll_cps xs e.2 t h
end
theorem shown_sOk {a b : Nat} {d : PyData} (g : Gd (10 ^ 31) a b d) : sOk (66 * a + 64) d.shown := by
  obtain ⟨h1, h2⟩ := ok_shows d g.ok
  have h := PyData.shown_le 64 (by decide) d h2
  have w := g.wt
  refine ⟨by omega, fun c hc => shown_cps d g.ok c hc⟩
end Ms
namespace Ms
open PySem PySem.Spec PyProof.Rows L2
/-! ### the standings are those rows -/
theorem mem_fold : ∀ (qs : List (Str × Int)) (rs : List (List Int)) (r : List Int), (∀ q ∈ qs, 0 ≤ q.2) → (r ∈ qs.foldl (fun rs q => widen rs (q.2 + 1).toNat) rs ↔ ∃ r0 ∈ rs, ∃ t, r = r0 ++ t ∧ stOk qs t)
  | [], rs, r, _ => by
    constructor
    · intro h
      exact ⟨r, h, [], by simp, rfl, fun i q v h1 _ => by simp at h1⟩
    · rintro ⟨r0, h, t, e, h1, _⟩
      have : t = [] := List.eq_nil_of_length_eq_zero h1
      rw [e, this, List.append_nil]; exact h
  | q :: qs, rs, r, h => by
    have hq := h q (List.mem_cons_self ..)
    rw [List.foldl_cons, mem_fold qs _ r fun x hx => h x (List.mem_cons_of_mem _ hx)]
    constructor
    · rintro ⟨r1, h1, t, e, so⟩
      unfold widen at h1
      obtain ⟨r0, h0, h1⟩ := List.mem_flatMap.mp h1
      obtain ⟨v, hv, rfl⟩ := List.mem_map.mp h1
      rw [List.mem_range] at hv
      refine ⟨r0, h0, (v : Int) :: t, by rw [e, List.append_assoc]; rfl, by simp [so.1], fun i q' v' h1 h2 => ?_⟩
      cases i with
      | zero =>
        cases h1
        cases h2
        omega
      | succ i => exact so.2 i q' v' (by simpa using h1) (by simpa using h2)
    · rintro ⟨r0, h0, t, e, so⟩
      cases t with
      | nil => exact absurd so.1 (by simp)
      | cons v t =>
        have b := so.2 0 q v rfl rfl
        refine ⟨r0 ++ [v], ?_, t, by rw [e, List.append_assoc]; rfl, by simpa using so.1, fun i q' v' h1 h2 => so.2 (i + 1) q' v' (by simpa using h1) (by simpa using h2)⟩
        unfold widen
        refine List.mem_flatMap.mpr ⟨r0, h0, List.mem_map.mpr ⟨v.toNat, List.mem_range.mpr (by omega), ?_⟩⟩
        have : ((v.toNat : Nat) : Int) = v := by omega
        rw [this]
theorem mem_grid {qs : List (Str × Int)} {r : List Int} (h : ∀ q ∈ qs, 0 ≤ q.2) : r ∈ grid qs ↔ stOk qs r := by
  unfold grid
  rw [mem_fold qs _ r h]
  constructor
  · rintro ⟨r0, h0, t, e, so⟩
    rw [List.mem_singleton] at h0
    rw [e, h0, List.nil_append]; exact so
  · intro so
    exact ⟨[], List.mem_singleton.mpr rfl, r, by simp, so⟩
def rowS (r : List Int) : Str := (PyData.tuple (r.map .int)).shown
theorem in_rows {qs : List (Str × Int)} {d : PyData} (h : ∀ q ∈ qs, 0 ≤ q.2 ∧ q.2 ≤ 9) (l : 1 ≤ qs.length) : decide (d.shown ∈ (grid qs).map rowS) = standD qs d := by
  rw [Bool.eq_iff_iff, decide_eq_true_eq]
  have h0 : ∀ q ∈ qs, 0 ≤ q.2 := fun q hq => (h q hq).1
  constructor
  · intro hm
    obtain ⟨r, hr, e⟩ := List.mem_map.mp hm
    have so := (mem_grid h0).mp hr
    have := shown_ints (d := d) (is := r) (fun i hi => ?_) (fun z => ?_) e.symm
    · rw [this]; exact st_stand so
    · obtain ⟨j, hj⟩ := List.mem_iff_getElem?.mp hi
      obtain ⟨b, _⟩ := List.getElem?_eq_some_iff.mp hj
      have hq : qs[j]? = some (qs[j]'(by rw [← so.1]; exact b)) := List.getElem?_eq_getElem _
      have := so.2 j _ i hq hj
      have := h _ (List.mem_of_getElem? hq)
      omega
    · have := so.1
      rw [z] at this
      simp at this
      omega
  · intro hs
    obtain ⟨st, e, so⟩ := stand_st hs
    exact List.mem_map.mpr ⟨st, (mem_grid h0).mpr so, by rw [e]; rfl⟩
end Ms
namespace Ms
open PySem PySem.Spec PyProof.Rows L2
/-! ### _law_standings -/
/-- rows: tuples of ints, wherever they stand -/
inductive Rwq (K : PySem.W.Frag) (H : Hp) : List V → List (List Int) → Prop
  | nil : Rwq K H [] []
  | cons {a : Addr} {vs : List V} {r : List Int} {rs : List (List Int)} : SqT K H a (r.map V.int) → Rwq K H vs rs → Rwq K H (.ref a :: vs) (r :: rs)
section
variable {K : PySem.W.Frag} {H H' : Hp}
theorem Rwq.gen (k : ∀ a xs, SqT K H a xs → SqT K H' a xs) {vs : List V} {rs : List (List Int)} (p : Rwq K H vs rs) : Rwq K H' vs rs := by
  induction p with
  | nil => exact .nil
  | cons h _ ih => exact .cons (k _ _ h) ih
theorem Rwq.same (s : Same H H') {vs : List V} {rs : List (List Int)} (p : Rwq K H vs rs) : Rwq K H' vs rs := p.gen fun _ _ h => Same.seqT s h
theorem Rwq.snoc {vs : List V} {rs : List (List Int)} {a : Addr} {r : List Int} (p : Rwq K H vs rs) (h : SqT K H a (r.map V.int)) : Rwq K H (vs ++ [.ref a]) (rs ++ [r]) := by
  induction p with
  | nil => exact .cons h .nil
  | cons h' _ ih => exact .cons h' ih
theorem Rwq.len {vs : List V} {rs : List (List Int)} (p : Rwq K H vs rs) : vs.length = rs.length := by
  induction p with
  | nil => rfl
  | cons _ _ ih => simp [ih]
theorem Rwq.get {vs : List V} {rs : List (List Int)} (p : Rwq K H vs rs) : ∀ {i : Nat} {v : V}, vs[i]? = some v → ∃ a r, v = .ref a ∧ rs[i]? = some r ∧ SqT K H a (r.map V.int) := by
  induction p with
  | nil => intro i a h; simp at h
  | cons h' _ ih =>
    intro i b hb
    cases i with
    | zero => simp at hb; subst hb; exact ⟨_, _, rfl, rfl, h'⟩
    | succ i => exact ih (by simpa using hb)
/-- a list is written, the tuples stay -/
theorem SqT.lst {F : Addr} {u : List V} {o : HO} (h : H F = some (.lst u)) {a : Addr} {xs : List V} (q : SqT K H a xs) : SqT K (upd H F o) a xs := by
  rcases q with (q | ⟨o', q⟩) | q
  · exact .inl (.inl (by rw [upd_ne (ne_of q h (by intro z; cases z))]; exact q))
  · exact .inl (.inr ⟨o', by rw [upd_ne (ne_of q h (by intro z; cases z))]; exact q⟩)
  · exact .inr q
end
section
variable {P : Program} {w : World} {K : PySem.W.Frag} {mg : Str → Option Value} {base : Heap} {fN fM : Addr}
abbrev NLs : List Str := ["spots", "rows", "name", "most", "further", "row", "value"]
theorem scLs : FnScope NLs ["spots"] (defScope sStandings) := ⟨rfl, rfl, rfl, by decide +kernel, rfl, by decide +kernel, by decide +kernel⟩
def spLStand (K : PySem.W.Frag) : Sp := fun vs H Q _ => ∃ (a : Addr) (xs : List V) (qs : List (Str × Int)), vs = [.ref a] ∧ SqT K H a xs ∧ PrTs K H xs qs ∧ qs.length ≤ 3 ∧ (∀ q ∈ qs, 1 ≤ q.2 ∧ q.2 ≤ 3) ∧
  ∀ R vs' H', H R = none → Same H H' → H' R = some (.lst vs') → Rwq K H' vs' (grid qs) → Q (.ref R) H'
theorem grid_small : ∀ (qs : List (Str × Int)), qs.length ≤ 3 → (∀ q ∈ qs, 1 ≤ q.2 ∧ q.2 ≤ 3) → (grid qs).length ≤ 64 := by
  have key : ∀ (qs : List (Str × Int)) (rs : List (List Int)), (∀ q ∈ qs, 1 ≤ q.2 ∧ q.2 ≤ 3) → (qs.foldl (fun rs q => widen rs (q.2 + 1).toNat) rs).length ≤ rs.length * 4 ^ qs.length := by
    intro qs
    induction qs with
    | nil => intro rs _; simp
    | cons q qs ih =>
      intro rs h
      have hq := h q (List.mem_cons_self ..)
      have h1 := ih (widen rs (q.2 + 1).toNat) fun x hx => h x (List.mem_cons_of_mem _ hx)
      rw [widen_len] at h1
      have h4 : (q.2 + 1).toNat ≤ 4 := by omega
      refine Nat.le_trans h1 ?_
      rw [List.length_cons, Nat.pow_succ, Nat.mul_comm (4 ^ qs.length) 4, ← Nat.mul_assoc]
      exact Nat.mul_le_mul_right _ (Nat.mul_le_mul_left _ h4)
  intro qs hl h
  have h1 := key qs [[]] h
  have h2 : 4 ^ qs.length ≤ 4 ^ 3 := Nat.pow_le_pow_right (by decide) hl
  have : (grid qs).length ≤ ([[]] : List (List Int)).length * 4 ^ qs.length := h1
  simp at this
  omega
theorem ok_lstand {f : Addr} {fd : FuncData} (F : Fun K "_law_standings" "_law_standings" sStandings f fd) (T : TxtN mg fN) : FnOk P w K mg base CX0 1 f fd ["spots"] (spLStand K) := by
  refine F.ok scLs (fun vs H Q E h => ?_) (fun cdv A outer s H vs Q E hr h => ?_)
  · obtain ⟨a, xs, qs, rfl, _⟩ := h
    rfl
  obtain ⟨a, xs, qs, rfl, hs, hp, hl, hb, q⟩ := h
  have ll := hp.len
  refine ⟨_, pss_cons (ps_set (i := 1) scLs.nd rfl (Or.inl rfl) (pe_lst (pa_cons (pe_tup pa_nil) pa_nil)))
    (pss_cons (ps_for PassesOwn.never rfl (pi_tup (pv 0)) (pg_tup rfl (pgs_cons (pg_name (i := 2) scLs.nd rfl (Or.inl rfl)) (pgs_cons (pg_name (i := 3) scLs.nd rfl (Or.inl rfl)) pgs_nil)))
      (pss_cons (ps_set (i := 4) scLs.nd rfl (Or.inl rfl) (pe_lst pa_nil))
      (pss_cons (ps_for PassesOwn.never rfl (pi_list (pe_callTy call_list_of (by rfl) T.list (by decide +kernel) (pa_cons (pv 1) pa_nil))) (pg_name (i := 5) scLs.nd rfl (Or.inl rfl))
        (pss_one (ps_for PassesOwn.never rfl (pi_range1 (by rfl) T.range (pa_cons (pe_op op_add (pv 3) pe_int) pa_nil)) (pg_name (i := 6) scLs.nd rfl (Or.inl rfl))
          (pss_one (ps_expr (pe_bm PySem.F.plainAttrs_list PySem.F.slot_list_append PySem.F.type_list_append mt_append (pv 4) (pa_cons (pe_op op_catA (pv 5) (pe_tup (pa_cons (pv 6) pa_nil))) pa_nil)))))))
      (pss_one (ps_set (i := 1) scLs.nd rfl (Or.inl rfl) (pv 4))))))
    (pss_one (ps_ret (pv 1)))), ?_⟩
  refine ⟨Nat.zero_le _, fun p0 h0 => ⟨(by show 1 ≤ sizeLine; decide), fun R0 hR0 => ?_⟩⟩
  have s0 : Same H (upd H p0 (.tup [])) := Same.upd h0
  have s1 : Same H (upd (upd H p0 (.tup [])) R0 (.lst [.ref p0])) := s0.trans (Same.upd hR0)
  have nR0 : p0 ≠ R0 := fun e => by rw [← e, upd_same] at hR0; cases hR0
  refine ⟨_, rfl, a, rfl, ⟨_, Same.seqT s1 hs⟩, ?_⟩
  have tk1 : ∀ {i : Nat} {qq : Str × Int}, qs[i]? = some qq → grid (qs.take (i + 1)) = widen (grid (qs.take i)) (qq.2 + 1).toNat := fun {i qq} hq => by
    unfold grid
    rw [List.take_succ, hq, List.foldl_append]
    rfl
  have g64 : ∀ i, (grid (qs.take i)).length ≤ 64 := fun i => grid_small _ (by rw [List.length_take]; omega) fun q hq => hb q (List.mem_of_mem_take hq)
  refine for_it (walk_tup (xs := xs)) (fun i σ H2 => ∃ (R : Addr) (us : List V) (v2 v3 v4 v5 v6 : Option V), σ = [some (.ref a), some (.ref R), v2, v3, v4, v5, v6] ∧ Same H H2 ∧ H R = none ∧ H2 R = some (.lst us) ∧ Rwq K H2 us (grid (qs.take i)))
    ⟨R0, [.ref p0], none, none, none, none, none, rfl, s1, Same.free s0 hR0, upd_same, ?_⟩ (fun i σ H2 _ ⟨R, us, v2, v3, v4, v5, v6, _, s2, _⟩ => Same.seqT s2 hs) ?_ ?_
  · rw [List.take_zero]
    refine .cons (r := []) (.inl (.inl ?_)) .nil
    rw [upd_ne nR0, upd_same]; rfl
  · rintro i x σ H2 H3 hi ⟨R, us, v2, v3, v4, v5, v6, rfl, s2, hR, gR, rw2⟩ ⟨rfl, hx⟩
    obtain ⟨qq, hq, b, rfl, hb2⟩ := hp.get hx
    have hqb := hb qq (List.mem_of_getElem? hq)
    obtain ⟨rs, ers⟩ : ∃ rs, rs = grid (qs.take i) := ⟨_, rfl⟩
    have e1 := tk1 hq
    have g1 := g64 (i + 1)
    have g0 := g64 i
    rw [← ers] at rw2 e1 g0
    rw [e1] at g1
    obtain ⟨n, en⟩ : ∃ n : Nat, n = (qq.2 + 1).toNat := ⟨_, rfl⟩
    rw [← en] at e1 g1
    have n4 : n ≤ 4 := by omega
    have lu := rw2.len
    refine ⟨b, _, rfl, Same.seqT s2 hb2, rfl, _, _, rfl, _, _, rfl, rfl, ?_⟩
    refine ⟨(by show 0 ≤ sizeLine; decide), fun F hF => ?_⟩
    have hFH : H F = none := Same.free s2 hF
    have sF : Same H3 (upd H3 F (.lst [])) := Same.upd hF
    have nRF : R ≠ F := ne_of_none gR hF
    refine ⟨_, rfl, R, us, rfl, .inl (SqL.of (sF _ _ gR)), fun L hL => ?_⟩
    have hL3 : H3 L = none := Same.free sF hL
    have nFL : F ≠ L := fun e => by rw [← e, upd_same] at hL; cases hL
    have sL : Same (upd H3 F (.lst [])) (upd (upd H3 F (.lst [])) L (.lst us)) := Same.upd hL
    refine ⟨L, rfl, ⟨_, SqL.of upd_same⟩, for_list (K := K) (a := L) (xs := us) (fun j σ H4 => ∃ (ws : List V) (v5 v6 : Option V), σ = [some (.ref a), some (.ref R), some (.str qq.1), some (.int qq.2), some (.ref F), v5, v6] ∧ (∀ c o, H3 c = some o → H4 c = some o) ∧ H4 L = some (.lst us) ∧ H4 F = some (.lst ws) ∧ Rwq K H4 ws (widen (rs.take j) n))
      ⟨[], v5, v6, rfl, sF.trans sL, upd_same, sL _ _ upd_same, by rw [List.take_zero]; exact .nil⟩ (fun j σ H4 _ ⟨ws, v5, v6, _, _, gL, _⟩ => SqL.of gL) ?_ ?_⟩
    · rintro j y σ H4 hj ⟨ws, v5, v6, rfl, s4, gL, gF, rw4⟩
      obtain ⟨pr, r, rfl, hr, hpr⟩ := rw2.get hj
      have lw := rw4.len
      have ew := widen_take (n := n) hr
      have lw2 : (widen (rs.take (j + 1)) n).length ≤ 64 := by
        rw [widen_len, List.length_take]
        rw [widen_len] at g1
        refine Nat.le_trans (Nat.mul_le_mul_right _ (Nat.min_le_right _ _)) g1
      have lw1 : (widen (rs.take j) n).length ≤ 64 := by rw [ew, List.length_append] at lw2; omega
      have lr : r.length ≤ 3 := by
        have := grid_row (qs.take i) r (by rw [← ers]; exact List.mem_of_getElem? hr)
        rw [this, List.length_take]; omega
      refine ⟨_, rfl, _, _, rfl, rfl, qq.2 + 1, rfl, by omega, by omega, ?_⟩
      rw [← en]
      refine for_range (lo := 0) (n := n) (fun k σ H5 => ∃ (ws' : List V) (v6 : Option V), σ = [some (.ref a), some (.ref R), some (.str qq.1), some (.int qq.2), some (.ref F), some (.ref pr), v6] ∧ (∀ c o, H3 c = some o → H5 c = some o) ∧ H5 L = some (.lst us) ∧ H5 F = some (.lst ws') ∧ Rwq K H5 ws' (widen (rs.take j) n ++ (List.range k).map fun (v : Nat) => r ++ [(v : Int)]))
        ⟨ws, v6, rfl, s4, gL, gF, by simpa using rw4⟩ ?_ ?_
      · rintro k σ H5 hk ⟨ws', v6, rfl, s5, gL5, gF5, rw5⟩
        have lw5 := rw5.len
        rw [List.length_append, List.length_map, List.length_range] at lw5
        refine ⟨_, rfl, .inl ⟨rfl, _, SqL.of gF5⟩, _, rfl, _, rfl, (by show 1 ≤ sizeLine; decide), fun p6 h6 => ?_⟩
        have s6 : Same H5 (upd H5 p6 (.tup [.int (0 + (k : Int))])) := Same.upd h6
        refine catA_any (Same.seqT s6 (Same.seqT (fun c o hc => s5 c o hc) hpr)) (.inl (.inl upd_same)) (Nat.le_of_lt (small1000 (by simp; omega))) fun p7 H7 s7 c7 => ?_
        have s57 := s6.trans s7
        have gF7 : H7 F = some (.lst ws') := s57 _ _ gF5
        refine ⟨F, ws', _, rfl, rfl, gF7, small1000 (by omega), ws' ++ [.ref p7], _, rfl, fun c o hc => ?_, ?_, upd_same, ?_⟩
        · rw [upd_ne (ne_of_none hc hF)]; exact s57 _ _ (s5 c o hc)
        · rw [upd_ne nFL.symm]; exact s57 _ _ gL5
        · rw [range_more, ← List.append_assoc]
          refine Rwq.snoc ((rw5.same s57).gen fun c ys hc => SqT.lst gF7 hc) (SqT.lst gF7 ?_)
          have e : (r ++ [(k : Int)]).map V.int = r.map V.int ++ [.int (0 + (k : Int))] := by
            rw [List.map_append, Int.zero_add]; rfl
          rw [e]
          exact c7
      · rintro σ H5 ⟨ws', v6, rfl, s5, gL5, gF5, rw5⟩
        rw [← ew] at rw5
        exact ⟨ws', _, v6, rfl, s5, gL5, gF5, rw5⟩
    · rintro σ H4 ⟨ws, v5, v6, rfl, s4, gL, gF, rw4⟩
      rw [List.take_of_length_le (by omega), ← e1] at rw4
      exact ⟨_, rfl, F, ws, _, _, _, v5, v6, rfl, fun c o hc => s4 c o (s2 c o hc), hFH, gF, rw4⟩
  · rintro σ H2 ⟨R, us, v2, v3, v4, v5, v6, rfl, s2, hR, gR, rw2⟩
    rw [List.take_of_length_le (by omega)] at rw2
    exact ⟨_, rfl, q R us H2 hR s2 gR rw2⟩
end
end Ms
namespace Ms
open PySem PySem.Spec PyProof.Rows L2
/-! ### data without dicts, compared with itself -/
mutual
def noDi : PyData → Bool
  | .dict _ => false
  | .list xs | .tuple xs => noDiAll xs
  | _ => true
def noDiAll : List PyData → Bool
  | [] => true
  | x :: xs => noDi x && noDiAll xs
end
theorem noDi_all {xs : List PyData} (h : ∀ x ∈ xs, noDi x = true) : noDiAll xs = true := by
  induction xs with
  | nil => rfl
  | cons x xs ih => simp only [noDiAll, h x (List.mem_cons_self ..), ih fun y hy => h y (List.mem_cons_of_mem _ hy), Bool.and_self]
mutual
theorem lay_of {B : Nat} : ∀ d : PyData, okD B d = true → noDi d = true → d.canLay0 = true
  | .none, _, _ => rfl
  | .bool _, _, _ => rfl
  | .int _, _, _ => rfl
  | .str x, e, _ => by
    simp only [okD, List.all_eq_true, decide_eq_true_eq] at e
    show x.cps.all (· < 0x110000) = true
    rw [← Array.all_toList, List.all_eq_true]
    exact fun c hc => decide_eq_true (e c hc)
  | .list xs, e, n => by
    simp only [okD] at e
    simp only [noDi] at n
    exact layAll_of xs e n
  | .tuple xs, e, n => by
    simp only [okD] at e
    simp only [noDi] at n
    exact layAll_of xs e n
  | .dict _, _, n => by simp [noDi] at n
theorem layAll_of {B : Nat} : ∀ xs : List PyData, okAll B xs = true → noDiAll xs = true → PyData.canLayAll0 xs = true
  | [], _, _ => rfl
  | x :: xs, e, n => by
    simp only [okAll, Bool.and_eq_true] at e
    simp only [noDiAll, Bool.and_eq_true] at n
    show (x.canLay0 && PyData.canLayAll0 xs) = true
    rw [lay_of x e.1 n.1, layAll_of xs e.2 n.2]; rfl
end
theorem shaped_of {B a b : Nat} {d : PyData} (g : Gd B a b d) (n : noDi d = true) (hb : b ≤ 60) : SeqAt.shaped d = true := by
  unfold SeqAt.shaped
  rw [lay_of d g.ok n, decide_eq_true (by have := g.dp; omega)]; rfl
mutual
theorem Dq.dp {K : PySem.W.Frag} {H : Hp} {m l : Addr} : ∀ (d : PyData) (v : V), Dq K H m l v d → noDi d = true → Dp K H v d
  | .none, _, h, _ => by cases h; exact .non
  | .bool b, _, h, _ => by cases h; exact .bl b
  | .int i, _, h, _ => by cases h; exact .int i
  | .str x, _, h, _ => by cases h; exact .str x
  | .list ds, _, h, n => by
    simp only [noDi] at n
    cases h with
    | lst e _ _ t => exact .lst (SqL.of e) (DqAll.dp ds _ t n)
  | .tuple ds, _, h, n => by
    simp only [noDi] at n
    cases h with
    | tup e t => exact .tup e (DqAll.dp ds _ t n)
  | .dict _, _, h, n => by simp [noDi] at n
theorem DqAll.dp {K : PySem.W.Frag} {H : Hp} {m l : Addr} : ∀ (ds : List PyData) (vs : List V), DqAll K H m l vs ds → noDiAll ds = true → DpAll K H vs ds
  | [], _, h, _ => by cases h; exact .nil
  | d :: ds, _, h, n => by
    simp only [noDiAll, Bool.and_eq_true] at n
    cases h with
    | cons h1 h2 => exact .cons (Dq.dp d _ h1 n.1) (DqAll.dp ds _ h2 n.2)
end
theorem ne_self {K : PySem.W.Frag} {H : Hp} {m l : Addr} {v u : V} {d : PyData} {B a b : Nat} {Q : VK} (h1 : Dq K H m l v d) (h2 : Dq K H m l u d) (g : Gd B a b d) (n : noDi d = true) (hb : b ≤ 60) (q : Q (.bl false) H) : rNeD K v u H Q :=
  ⟨d, d, h1.dp d v n, h2.dp d u n, shaped_of g n hb, shaped_of g n hb, by rw [SeqAt.eqv_refl d (lay_of d g.ok n)]; exact q⟩
end Ms
namespace Ms
open PySem PySem.Spec PyProof.Rows L2 LamX
/-! ### law k08: what is due -/
/-- the odd things in the place of a name -/
def odds : List PyData := [.none, .int 5, .str "", .str "A", .tuple [.str "a"], .str "abcdefghi", .list []]
def Itm (d : PyData) : Prop := (∃ z, d = .str z ∧ nmOk z) ∨ d ∈ odds
theorem Itm.sok {d : PyData} (h : Itm d) : ∀ z, d = .str z → sOk 16 z := fun z e => by
  rcases h with ⟨y, e2, hy⟩ | h
  · rw [e] at e2; cases e2; exact hy.ok
  · rw [e] at h
    have h' : PyData.str z = .none ∨ PyData.str z = .int 5 ∨ PyData.str z = .str "" ∨ PyData.str z = .str "A" ∨ PyData.str z = .tuple [.str "a"] ∨ PyData.str z = .str "abcdefghi" ∨ PyData.str z = .list [] := by simpa [odds] using h
    rcases h' with h | h | h | h | h | h | h <;> first | (cases h; refine ⟨by decide +kernel, by decide +kernel⟩) | cases h
theorem Itm.good {d : PyData} (h : Itm d) : Gd big 100 1 d := by
  rcases h with ⟨y, e, hy⟩ | h
  · rw [e]; exact (Gd.str hy.ok).mono (Nat.le_refl _) (by decide) (by decide)
  · have h' : d = .none ∨ d = .int 5 ∨ d = .str "" ∨ d = .str "A" ∨ d = .tuple [.str "a"] ∨ d = .str "abcdefghi" ∨ d = .list [] := by simpa [odds] using h
    rcases h' with h | h | h | h | h | h | h <;> (subst h; exact gd_of (by decide +kernel))
def doX (i : Nat) (d : PyData) : PyData := .tuple [.str "do", d, .int ((i : Int) + 1)]
def dosX : Nat → List PyData → List PyData
  | _, [] => []
  | i, d :: ds => doX i d :: dosX (i + 1) ds
theorem dosX_str : ∀ (i : Nat) (zs : List Str), dosX i (zs.map .str) = dosFrom i zs
  | _, [] => rfl
  | i, z :: zs => by
    show doX i (.str z) :: dosX (i + 1) (zs.map .str) = doD i z :: dosFrom (i + 1) zs
    rw [dosX_str (i + 1) zs]; rfl
theorem dosX_snoc : ∀ (i : Nat) (ds : List PyData) (d : PyData), dosX i (ds ++ [d]) = dosX i ds ++ [doX (i + ds.length) d]
  | _, [], _ => rfl
  | i, e :: ds, d => by
    show doX i e :: dosX (i + 1) (ds ++ [d]) = doX i e :: (dosX (i + 1) ds ++ _)
    rw [dosX_snoc (i + 1) ds d]
    have : i + 1 + ds.length = i + (e :: ds).length := by simp; omega
    rw [this]
theorem dosX_len : ∀ (i : Nat) (ds : List PyData), (dosX i ds).length = ds.length
  | _, [] => rfl
  | i, d :: ds => by show (dosX (i + 1) ds).length + 1 = _; rw [dosX_len]; rfl
/-- the places that are no names -/
def badF : Nat → List PyData → List Int
  | _, [] => []
  | i, d :: ds => if isName d = true then badF (i + 1) ds else (i : Int) :: badF (i + 1) ds
theorem badF_snoc : ∀ (i : Nat) (ds : List PyData) (d : PyData), badF i (ds ++ [d]) = badF i ds ++ (if isName d = true then [] else [((i + ds.length : Nat) : Int)])
  | i, [], d => by
    show (if isName d = true then badF (i + 1) [] else (i : Int) :: badF (i + 1) []) = _
    rfl
  | i, e :: ds, d => by
    have : i + 1 + ds.length = i + (e :: ds).length := by simp; omega
    show (if isName e = true then badF (i + 1) (ds ++ [d]) else (i : Int) :: badF (i + 1) (ds ++ [d])) = (if isName e = true then badF (i + 1) ds else (i : Int) :: badF (i + 1) ds) ++ _
    rw [badF_snoc (i + 1) ds d, this]
    by_cases h : isName e = true
    · rw [if_pos h, if_pos h]
    · rw [if_neg h, if_neg h]; rfl
theorem badF_len : ∀ (i : Nat) (ds : List PyData), (badF i ds).length ≤ ds.length
  | _, [] => Nat.le_refl _
  | i, d :: ds => by
    have := badF_len (i + 1) ds
    unfold badF
    by_cases h : isName d = true
    · rw [if_pos h]; simp; omega
    · rw [if_neg h]; simp; omega
theorem badF_nil : ∀ (i : Nat) (ds : List PyData), badF i ds = [] → firstBad isName i ds = none
  | _, [], _ => rfl
  | i, d :: ds, h => by
    unfold badF at h
    unfold firstBad
    by_cases e : isName d = true
    · rw [if_pos e] at h ⊢; exact badF_nil (i + 1) ds h
    · rw [if_neg e] at h; cases h
theorem badF_cons : ∀ (i : Nat) (ds : List PyData) (p : Int) (r : List Int), badF i ds = p :: r → ∃ k : Nat, p = (k : Int) ∧ firstBad isName i ds = some k ∧ k < i + ds.length
  | _, [], _, _, h => by cases h
  | i, d :: ds, p, r, h => by
    unfold badF at h
    unfold firstBad
    by_cases e : isName d = true
    · rw [if_pos e] at h ⊢
      obtain ⟨k, h1, h2, h3⟩ := badF_cons (i + 1) ds p r h
      exact ⟨k, h1, h2, by simp; omega⟩
    · rw [if_neg e] at h ⊢
      cases h
      exact ⟨i, rfl, rfl, by simp⟩
/-- the list that is due where all are names -/
def listX (k : Nat) (ds : List PyData) : PyData := .list [.tuple (dosX 0 ds ++ [.tuple [.str "end"]]), .tuple (List.replicate k (.str "live"))]
def dueX (k : Nat) (ds : List PyData) : PyData := match firstBad isName 0 ds with
  | some p => .tuple [.str "places", .int (p : Int)]
  | none => if 15 < ds.length then .tuple [.str "many", .int 16] else listX k ds
theorem dueX_bad {k p : Nat} {ds : List PyData} (h : firstBad isName 0 ds = some p) : dueX k ds = .tuple [.str "places", .int (p : Int)] := by unfold dueX; rw [h]
theorem dueX_many {k : Nat} {ds : List PyData} (h : firstBad isName 0 ds = none) (hl : 15 < ds.length) : dueX k ds = .tuple [.str "many", .int 16] := by
  unfold dueX; rw [h]; exact if_pos hl
theorem dueX_list {k : Nat} {ds : List PyData} (h : firstBad isName 0 ds = none) (hl : ¬ 15 < ds.length) : dueX k ds = listX k ds := by
  unfold dueX; rw [h]; exact if_neg hl
theorem listX_str {k : Nat} {zs : List Str} : listX k (zs.map .str) = .list [strD zs, .tuple (List.replicate k (.str "live"))] := by
  unfold listX strD; rw [dosX_str]
theorem lives_good (k : Nat) (h : k ≤ 3) : Gd big 1000 1 (.tuple (List.replicate k (.str "live"))) := by
  match k, h with
  | 0, _ => exact gd_of (by decide +kernel)
  | 1, _ => exact gd_of (by decide +kernel)
  | 2, _ => exact gd_of (by decide +kernel)
  | 3, _ => exact gd_of (by decide +kernel)
theorem firstBad_lt {f : PyData → Bool} : ∀ (ds : List PyData) (i p : Nat), firstBad f i ds = some p → p < i + ds.length
  | [], _, _, h => by cases h
  | d :: ds, i, p, h => by
    unfold firstBad at h
    by_cases e : f d = true
    · rw [if_pos e] at h
      have := firstBad_lt ds _ _ h
      simp; omega
    · rw [if_neg e] at h; cases h; simp
theorem dueX_good {k : Nat} {ds : List PyData} (hk : k ≤ 3) (hi : ∀ d ∈ ds, Itm d) (hl : ds.length ≤ 16) : Gd (10 ^ 31) 20000 5 (dueX k ds) := by
  cases h : firstBad isName 0 ds with
  | some p =>
    rw [dueX_bad h]
    have := firstBad_lt ds 0 p h
    have g1 : Gd (10 ^ 31) 8 0 (.str "places") := Gd.str ⟨by decide +kernel, by decide +kernel⟩
    have g2 : Gd (10 ^ 31) 104 0 (.int (p : Int)) := Gd.int (by omega) (Nat.le_refl _)
    exact (Gd.tup ((Gl'.one g1).app (Gl'.one g2))).mono (Nat.le_refl _) (by decide) (by decide)
  | none =>
    by_cases e : 15 < ds.length
    · rw [dueX_many h e]
      exact (gd_of (B := big) (a := 1000) (b := 5) (by decide +kernel)).mono (by decide) (by decide) (by decide)
    · rw [dueX_list h e]
      obtain ⟨zs, ez, hz⟩ := names_strs h
      have hz16 : ∀ z ∈ zs, sOk 16 z := fun z hz => (hi (.str z) (by rw [ez]; exact List.mem_map_of_mem hz)).sok z rfl
      have lz : zs.length ≤ 15 := by rw [ez, List.length_map] at e; omega
      rw [ez, listX_str]
      exact (Gd.lst ((Gl'.one ((strD_good hz16 lz).mono (Nat.le_refl _) (Nat.le_refl _) (Nat.le_refl 3))).app (Gl'.one ((lives_good k hk).mono (Nat.le_refl _) (Nat.le_refl _) (by decide))))).mono (by decide) (by decide) (by decide)
theorem dueGo_nodup : ∀ (qs : List (Str × Int)) (p : Nat) (seen : List Str) (many mm : Int), dueGo p seen many (prD qs) = .inr mm → (qs.map (·.1)).Nodup ∧ ∀ z ∈ seen, z ∉ qs.map (·.1)
  | [], _, _, _, _, _ => ⟨List.nodup_nil, fun _ _ h => nomatch h⟩
  | (z, c) :: qs, p, seen, many, mm, h => by
    have h' : dueGo p seen many (.tuple [.str z, .int c] :: prD qs) = .inr mm := h
    simp only [dueGo] at h'
    cases e : oneD (.tuple [.str z, .int c]) with
    | none => rw [e] at h'; cases h'
    | some zc =>
      have ez : zc.1 = z := by
        simp only [oneD] at e
        split at e
        · cases e; rfl
        · cases e
      obtain ⟨z', c'⟩ := zc
      have ez : z' = z := ez
      subst ez
      rw [e] at h'
      simp only at h'
      by_cases hs : z' ∈ seen
      · rw [if_pos hs] at h'; cases h'
      · rw [if_neg hs] at h'
        obtain ⟨h1, h2⟩ := dueGo_nodup qs _ _ _ _ h'
        refine ⟨?_, fun y hy hm => ?_⟩
        · rw [List.map_cons, List.nodup_cons]
          exact ⟨h2 z' (List.mem_append_right _ (List.mem_singleton.mpr rfl)), h1⟩
        · rcases List.mem_cons.mp hm with hm | hm
          · exact hs (by have hm' : y = z' := hm; rw [← hm']; exact hy)
          · exact h2 y (List.mem_append_left _ hy) hm
theorem needV_nodup {qs : List (Str × Int)} (h : needV (.tuple (prD qs)) = none) : (qs.map (·.1)).Nodup := by
  unfold needV at h
  by_cases hl : 1 ≤ (prD qs).length ∧ (prD qs).length ≤ 3
  · simp only [if_pos hl] at h
    cases e : dueGo 0 [] 1 (prD qs) with
    | inl p => rw [e] at h; cases h
    | inr mm => exact (dueGo_nodup qs _ _ _ _ e).1
  · simp only [if_neg hl] at h; cases h
theorem spots_good9 {ys : List (Str × Int)} (so : SetOk ys) : Gd (10 ^ 31) 600 2 (.tuple (prD ys)) := by
  have key : ∀ ys : List (Str × Int), okP ys → Gl' big (123 * ys.length) 1 (prD ys) := by
    intro ys
    induction ys with
    | nil => exact fun _ => ⟨(fun d h => nomatch h), Nat.le_refl _, (fun d h => nomatch h)⟩
    | cons q ys ih =>
      intro h
      obtain ⟨h1, h2, h3⟩ := h q (List.mem_cons_self ..)
      have g1 : Gd big 16 0 (.str q.1) := Gd.str h1
      have g2 : Gd big 104 0 (.int q.2) := Gd.int (by show q.2.natAbs ≤ 10 ^ 30; omega) (by decide)
      have g := Gd.tup ((Gl'.one g1).app (Gl'.one g2))
      have r := (Gl'.one g).app (ih fun x hx => h x (List.mem_cons_of_mem _ hx))
      exact r.mono (Nat.le_refl _) (by simp only [List.length_cons]; omega) (Nat.le_refl _)
  have := so.len3
  exact (Gd.tup (key ys so.okP)).mono (by decide) (by omega) (Nat.le_refl _)
/-- settings put twice are none -/
theorem twice_bad {ys : List (Str × Int)} (so : SetOk ys) : ∃ u, needV (.tuple (prD ys ++ prD ys)) = some u := by
  cases h : needV (.tuple (prD ys ++ prD ys)) with
  | some u => exact ⟨u, rfl⟩
  | none =>
    exfalso
    have e : prD ys ++ prD ys = prD (ys ++ ys) := by unfold prD; rw [List.map_append]
    rw [e] at h
    have nd := needV_nodup h
    obtain ⟨q, hq⟩ : ∃ q, q ∈ ys := by
      cases ys with
      | nil => exact absurd so.len1 (by decide)
      | cons q ys => exact ⟨q, List.mem_cons_self ..⟩
    rw [List.map_append] at nd
    exact (List.nodup_append.mp nd).2.2 q.1 (List.mem_map_of_mem hq) q.1 (List.mem_map_of_mem hq) rfl
/-! the plain row of straight deeds -/
theorem str_at {zs : List Str} {h : Nat} : (dosFrom 0 zs ++ [PyData.tuple [.str "end"]]).getD h .none = (if h < zs.length then doD h (zs.getD h "") else if h = zs.length then .tuple [.str "end"] else .none) := by
  have key : ∀ (i : Nat) (zs : List Str) (j : Nat), (dosFrom i zs)[j]? = (zs[j]?).map fun z => doD (i + j) z := by
    intro i zs
    induction zs generalizing i with
    | nil => intro j; simp [dosFrom]
    | cons z zs ih =>
      intro j
      cases j with
      | zero => rfl
      | succ j =>
        show (dosFrom (i + 1) zs)[j]? = _
        rw [ih (i + 1) j]
        have : i + 1 + j = i + (j + 1) := by omega
        rw [this]; rfl
  rw [List.getD_eq_getElem?_getD]
  by_cases h1 : h < zs.length
  · rw [if_pos h1, List.getElem?_append_left (by rw [dos_len]; exact h1), key 0 zs h, Nat.zero_add]
    rw [List.getD_eq_getElem?_getD, List.getElem?_eq_getElem h1]; rfl
  · rw [if_neg h1, List.getElem?_append_right (by rw [dos_len]; omega), dos_len]
    by_cases h2 : h = zs.length
    · rw [if_pos h2, h2, Nat.sub_self]; rfl
    · rw [if_neg h2]
      have : ∃ k, h - zs.length = k + 1 := ⟨h - zs.length - 1, by omega⟩
      obtain ⟨k, e⟩ := this
      rw [e]; rfl
theorem str_walk {qs : List (Str × Int)} {st : List Int} {zs : List Str} : ∀ (k h : Nat), h + k = zs.length → walkD qs st (dosFrom 0 zs ++ [.tuple [.str "end"]]) (k + 1) h (zs.take h) = some zs
  | 0, h, e => by
    have e1 : h = zs.length := by omega
    rw [walk_end (by rw [str_at, if_neg (by omega), if_pos e1]; rfl), e1, List.take_length]
  | k + 1, h, e => by
    have hl : h < zs.length := by omega
    have g : goD qs st ((dosFrom 0 zs ++ [PyData.tuple [.str "end"]]).getD h .none) = some (some (zs.getD h ""), ((h : Int) + 1)) := by
      rw [str_at, if_pos hl]; rfl
    rw [walk_go g]
    have e2 : ((h : Int) + 1).toNat = h + 1 := by omega
    have e3 : zs.take h ++ (some (zs.getD h "")).toList = zs.take (h + 1) := by
      rw [List.take_succ, List.getD_eq_getElem?_getD, List.getElem?_eq_getElem hl]; rfl
    rw [e2, e3]
    exact str_walk k (h + 1) (by omega)
theorem str_plain {qs : List (Str × Int)} {st : List Int} {zs : List Str} : plainR qs (dosFrom 0 zs ++ [.tuple [.str "end"]]) st = some zs := by
  unfold plainR
  have : (dosFrom 0 zs ++ [PyData.tuple [.str "end"]]).length = zs.length + 1 := by rw [List.length_append, dos_len]; rfl
  rw [this]
  exact str_walk zs.length 0 (by omega)
theorem str_pl {qs : List (Str × Int)} {zs : List Str} (hz : ∀ z ∈ zs, nmOk z) : ∀ d ∈ (dosFrom 0 zs ++ [PyData.tuple [.str "end"]]), plD qs ((dosFrom 0 zs ++ [PyData.tuple [.str "end"]]).length : Int) d := fun d hd => by
  have el : (dosFrom 0 zs ++ [PyData.tuple [.str "end"]]).length = zs.length + 1 := by rw [List.length_append, dos_len]; rfl
  rcases List.mem_append.mp hd with hd | hd
  · obtain ⟨j, z, rfl, hm, hj⟩ := dos_mem hd
    exact .inr (.inl ⟨z, _, rfl, hz z hm, by omega, by rw [el]; omega⟩)
  · rw [List.mem_singleton.mp hd]; exact .inl rfl
end Ms
namespace Ms
open PySem PySem.Spec PyProof.Rows L2 LamX StX ClX
/-! ### law k08: a turn, from its last statement on -/
abbrev forBody (s : Stmt) : List Stmt := match s with
  | .For _ _ b _ _ => b
  | _ => []
abbrev bTurn : List Stmt := forBody ((defBody sLaw).getD 1 (.Pass ⟨0, 0, 0, 0⟩))
abbrev NL : List Str := ["script", "m", "turn", "spots", "words", "q", "k", "bad", "at", "one", "due", "row"]
theorem scL : FnScope NL ["script"] (defScope sLaw) := ⟨rfl, rfl, rfl, by decide +kernel, rfl, by decide +kernel, by decide +kernel⟩
abbrev lamQ : Str := "law.<locals>.<lambda>"
/-- what was drawn at the turn's beginning -/
structure T8 (K : PySem.W.Frag) (H : Hp) (m l : Addr) (n : Nat) (pS : Addr) (xs : List V) (ys : List (Str × Int)) (pQ : Addr) (qs : List V) (ds : List PyData) : Prop where
  M : Mch H m l n
  so : SetOk ys
  s : SqT K H pS xs
  sd : DqAll K H m l xs (prD ys)
  q : H pQ = some (.lst qs)
  qd : DqAll K H m l qs ds
  it : ∀ d ∈ ds, Itm d
  ql : ds.length = 0 ∨ ds.length = 1 ∨ ds.length = 2 ∨ ds.length = 4 ∨ ds.length = 15 ∨ ds.length = 16
theorem DqAll.ext {K : PySem.W.Frag} {H H' : Hp} {m l : Addr} (e : ExtN H H') {vs : List V} {ds : List PyData} (h : DqAll K H m l vs ds) : DqAll K H' m l vs ds :=
  DqAll.gen (fun a xs q n1 n2 => ⟨e _ _ q (fun _ z => nomatch z), n1, n2⟩) (fun a xs q => ExtN.seqT e q) (fun a q n1 n2 => ⟨e _ _ q (fun _ z => nomatch z), n1, n2⟩) ds vs h
theorem T8.ext {K : PySem.W.Frag} {H H' : Hp} {m l : Addr} {n : Nat} {pS : Addr} {xs : List V} {ys : List (Str × Int)} {pQ : Addr} {qs : List V} {ds : List PyData} (e : ExtN H H') (T : T8 K H m l n pS xs ys pQ qs ds) : T8 K H' m l n pS xs ys pQ qs ds :=
  ⟨Mch.ext e T.M, T.so, ExtN.seqT e T.s, DqAll.ext e T.sd, e _ _ T.q (fun _ z => nomatch z), DqAll.ext e T.qd, T.it, T.ql⟩
theorem T8.l16 {K : PySem.W.Frag} {H : Hp} {m l : Addr} {n : Nat} {pS : Addr} {xs : List V} {ys : List (Str × Int)} {pQ : Addr} {qs : List V} {ds : List PyData} (T : T8 K H m l n pS xs ys pQ qs ds) : ds.length ≤ 16 := by
  have := T.ql; omega
structure C8 (K : PySem.W.Frag) (C CS CP CT : Addr) : Prop where
  RC : ReqC K C
  SS : PySem.W.exmOne K (.ref CS) (.ref CS) = some true
  PS : PySem.W.exmOne K (.ref CP) (.ref CS) = some false
  PP : PySem.W.exmOne K (.ref CP) (.ref CP) = some true
  MS : PySem.W.exmOne K (.ref CT) (.ref CS) = some false
  MP : PySem.W.exmOne K (.ref CT) (.ref CP) = some false
  MM : PySem.W.exmOne K (.ref CT) (.ref CT) = some true
  RS : RefC K CS
  RP : RefC K CP
  RM : RefT K CT
structure G8 (mg : Str → Option Value) (fTo fMa C CS CP CT : Addr) : Prop where
  told : mg "_law_told" = some (.ref fTo)
  made : mg "_law_made" = some (.ref fMa)
  req : mg "Request" = some (.ref C)
  bs : mg "BadSettings" = some (.ref CS)
  bp : mg "BadPlaces" = some (.ref CP)
  tm : mg "TooMany" = some (.ref CT)
section
variable {P : Program} {w : World} {K : PySem.W.Frag} {mg : Str → Option Value} {base : Heap} {C CS CP CT fTo fMa fS p0 f c Pt : Addr} {mc : Value} {fdTo : FuncData} {s : Shared} {H0 : Hp} {Eb : XK}
theorem law_last (G : G8 mg fTo fMa C CS CP CT) (X8 : C8 K C CS CP CT) (cr : CRead K C mc) (cm : CMet K C mc "straight" p0 fS) (GS : FnR P w K mg base (L2.CX P w) 8 fS (spStrR K C CS CP CT))
    (FT : Fun K "_law_told" "_law_told" sTold fTo fdTo) (bT : Binds K fdTo ["call"] []) (TB : TabB base mg c Pt) (hr : Room 11 (callerA.deeper (envOfC "law" (defScope sLaw) s.heap.objs.size f (.ref c)))) :
    ∃ t, PSs (cxOf CX0 P w K mg base NL "law" (defScope sLaw) f (.ref c) callerA [] s H0 Eb).nox (bTurn.drop 9) t ∧ ∀ (D : Ends) (H1 : Hp) (a m l : Addr) (n : Nat) (pS : Addr) (xs : List V) (ys : List (Str × Int)) (v2 v4 v5 v6 v7 v8 v9 v10 v11 : Option V),
      Mch H1 m l n → Tabs [(Pt, lamQ)] H1 → SetOk ys → SqT K H1 pS xs → DqAll K H1 m l xs (prD ys) →
      (∀ (H2 : Hp), ExtN H1 H2 → Tabs [(Pt, lamQ)] H2 → D.nx [some (.ref a), some (.ref m), v2, some (.ref pS), v4, v5, v6, v7, v8, v9, v10, v11] H2) →
      t D [some (.ref a), some (.ref m), v2, some (.ref pS), v4, v5, v6, v7, v8, v9, v10, v11] H1 := by
  obtain ⟨oc, od, kV, doc, pm, an, cdv, ct, osl, efd, lk, hcd⟩ := FT.ex
  subst efd
  have hr10 : Room 10 (callerA.deeper (envOfC "law" (defScope sLaw) s.heap.objs.size f (.ref c))) := hr.mono (by decide)
  refine ⟨_, pss_one (ps_if (pt_cmpR op_ne (pe_ix (show IxR _ (rIxT K) from ix_tup)
      (pe_lamcall (T := [(Pt, lamQ)]) (TT := TT8 K C CS CP CT) (c := c) (P := Pt) (k := 8) (t := fun E => tCMeth C (spStrR K C CS CP CT) E (tC (.ref C)) (tCons (tOp (rCatA K) (tVar 3) (tVar 3)) (tCons (tC (.int 5)) tNil))) (by rfl) G.told FT.kp lk hcd bT scTo rfl (Or.inl rfl)
        (told_str X8.RC G.bs G.bp G.tm X8.SS X8.PS X8.PP X8.MS X8.MP X8.MM X8.RS X8.RP X8.RM) TB rfl (List.mem_singleton.mpr rfl) (fun p hp _ => by rw [List.mem_singleton.mp hp]; rfl) hr10 (lamS_by (sc := defScope sLaw) (by decide +kernel)) rfl (fun _ _ _ _ _ => rfl)
        (fun A outer s H E f c' hr3 => pe_cmeth (pe_glob (v := .ref C) rfl G.req rfl) cr cm GS hr3 (passes_call (takes_of rfl rfl rfl rfl) fun _ _ _ _ h => h) (pa_cons (pe_op op_catA (pv 3) (pv 3)) (pa_cons pe_int pa_nil))))
      pe_int (fun _ _ => rfl)) pe_str (nomark _)) (pss_one (ps_ret pe_bl)) pss_nil), ?_⟩
  intro D H1 a m l n pS xs ys v2 v4 v5 v6 v7 v8 v9 v10 v11 M tb so hs hd nx
  have lx := hd.len
  have lp : (prD ys).length = ys.length := prD_len ys
  have l3 := so.len3
  refine ⟨tb, fun H2 e2 t2 H3 Ec Qc s3 hS hP hM hQ => ?_⟩
  have e13 : ExtN H1 H3 := e2.trans (Same.toN s3)
  have t3 : Tabs [(Pt, lamQ)] H3 := Tabs.same t2 s3
  have hs3 := ExtN.seqT e13 hs
  obtain ⟨u, hu⟩ := twice_bad so
  refine ⟨rfl, _, rfl, _, rfl, catA_any hs3 hs3 (Nat.le_of_lt (small1000 (by omega))) fun p H4 s4 c4 => ?_⟩
  have dq := DqAll.same s4 _ _ (DqAll.ext e13 hd)
  have gp : Gl' (10 ^ 31) 2000 1 (prD ys ++ prD ys) := by
    obtain ⟨c1, e1, g1⟩ := Gd.untup (spots_good9 so)
    have e1' : c1 = 1 := by omega
    subst e1'
    exact (g1.app g1).mono (Nat.le_refl _) (by decide) (Nat.le_refl _)
  refine strR_of (m := m) (l := l) (b1 := 2) (d1 := .tuple (prD ys ++ prD ys)) (ds := [.int 5]) (.tup c4 (DqAll.app dq dq)) ((Gd.tup gp).mono (Nat.le_refl _) (by decide) (Nat.le_refl _)) (.cons (.int 5) .nil) (fun d hd z e => by rw [List.mem_singleton.mp hd] at e; cases e) (by decide) ⟨fun u' hu' dx H' h1 h2 h3 => hS dx u' H' h3 fun p1 hp1 => ?_, fun hn => by rw [hu] at hn; cases hn⟩
  have s5 : Same H' (upd H' p1 (.tup [.str "settings", u'])) := Same.upd hp1
  refine ⟨p1, _, 0, .str "settings", rfl, rfl, .inl (.inl upd_same), rfl, rfl, _, rfl, iteNS rfl ?_⟩
  exact nx _ (e13.trans (Same.toN ((s4.trans h2).trans s5))) (Tabs.same t3 ((s4.trans h2).trans s5))
end
end Ms
namespace Ms
open PySem PySem.Spec PyProof.Rows L2 LamX StX ClX
theorem isi_lst (K : PySem.W.Frag) (d : PyData) : PySem.W.kitOne K (.type (tyD d)) (.type "list") = some (match d with | .list _ => true | _ => false) := by cases d <;> rfl
theorem noTk {X : Cx} : Takes X (fun _ _ _ _ => False) := fun _ _ ⟨_, _, _, _, _, _, _, _, _, _, _, _, _, _, _, _, w⟩ => w.elim
theorem flat_rep {α : Type} (x : α) : ∀ n : Nat, (List.replicate n [x]).flatten = List.replicate n x
  | 0 => rfl
  | n + 1 => by rw [List.replicate_succ, List.flatten_cons, flat_rep x n, List.replicate_succ]; rfl
theorem strs_good8 : ∀ w : List Str, (∀ z ∈ w, sOk 16 z) → Gl' big (17 * w.length) 0 (w.map PyData.str)
  | [], _ => ⟨(fun d h => nomatch h), Nat.le_refl _, (fun d h => nomatch h)⟩
  | z :: w, h => by
    have g1 : Gd big 16 0 (.str z) := Gd.str (h z (List.mem_cons_self ..))
    exact ((Gl'.one g1).app (strs_good8 w fun x hx => h x (List.mem_cons_of_mem _ hx))).mono (Nat.le_refl _) (by simp only [List.length_cons]; omega) (Nat.le_refl _)
theorem rep_good {B a b : Nat} {d : PyData} (g : Gd B a b d) : ∀ n : Nat, Gl' B ((a + 1) * n) b (List.replicate n d)
  | 0 => ⟨(fun d h => nomatch h), Nat.le_refl _, (fun d h => nomatch h)⟩
  | n + 1 => by
    rw [List.replicate_succ]
    exact ((Gl'.one g).app (rep_good g n)).mono (Nat.le_refl _) (by rw [Nat.mul_succ]; omega) (Nat.le_refl _)
theorem rep_dq {K : PySem.W.Frag} {H : Hp} {m l : Addr} {v : V} {d : PyData} (h : Dq K H m l v d) : ∀ n : Nat, DqAll K H m l (List.replicate n v) (List.replicate n d)
  | 0 => .nil
  | n + 1 => .cons h (rep_dq h n)
theorem all_rep {K : PySem.W.Frag} {H : Hp} {m l : Addr} {d : PyData} : ∀ {vs : List V}, (∀ v ∈ vs, Dq K H m l v d) → DqAll K H m l vs (List.replicate vs.length d)
  | [], _ => .nil
  | v :: vs, h => .cons (h v (List.mem_cons_self ..)) (all_rep fun x hx => h x (List.mem_cons_of_mem _ hx))
theorem strs_dq {K : PySem.W.Frag} {H : Hp} {m l : Addr} : ∀ zs : List Str, DqAll K H m l (zs.map V.str) (zs.map PyData.str)
  | [] => .nil
  | z :: zs => .cons (.str z) (strs_dq zs)
section
variable {P : Program} {w : World} {K : PySem.W.Frag} {mg : Str → Option Value} {base : Heap} {C CS CP CT CB fTo fMa fS p0 f c Pt fLs fPp : Addr} {mc : Value} {fdMa fdLs fdPp : FuncData} {s : Shared} {H0 : Hp} {Eb : XK}
theorem law_rows {tT : TS} (G : G8 mg fTo fMa C CS CP CT) (X8 : C8 K C CS CP CT) (hlist : mg "list" = none) (hlen : mg "len" = none) (htup : mg "tuple" = none) (hisi : mg "isinstance" = none) (gLs : mg "_law_standings" = some (.ref fLs))
    (FMa : Fun K "_law_made" "_law_made" sMade fMa fdMa) (bMa : Binds K fdMa ["spots", "q"] []) (GMa : FnOk P w K mg base (L2.CX P w) 9 fMa fdMa ["spots", "q"] (spMade K C CS CP CT))
    (FLs : Fun K "_law_standings" "_law_standings" sStandings fLs fdLs) (bLs : Binds K fdLs ["spots"] []) (GLs : FnOk P w K mg base CX0 1 fLs fdLs ["spots"] (spLStand K))
    (mt : Meth K C "plain" fPp) (bPp : Binds K fdPp ["self", "standing"] []) (GPp : FnOk P w K mg base (L2.CX P w) 4 fPp fdPp ["self", "standing"] (spPPlain K C CB))
    (hr : Room 11 (callerA.deeper (envOfC "law" (defScope sLaw) s.heap.objs.size f (.ref c))))
    (dT : PSs (cxOf CX0 P w K mg base NL "law" (defScope sLaw) f (.ref c) callerA [] s H0 Eb).nox (bTurn.drop 9) tT)
    (zT : ∀ (D : Ends) (H1 : Hp) (a m l : Addr) (n : Nat) (pS : Addr) (xs : List V) (ys : List (Str × Int)) (v2 v4 v5 v6 v7 v8 v9 v10 v11 : Option V),
      Mch H1 m l n → Tabs [(Pt, lamQ)] H1 → SetOk ys → SqT K H1 pS xs → DqAll K H1 m l xs (prD ys) →
      (∀ (H2 : Hp), ExtN H1 H2 → Tabs [(Pt, lamQ)] H2 → D.nx [some (.ref a), some (.ref m), v2, some (.ref pS), v4, v5, v6, v7, v8, v9, v10, v11] H2) →
      tT D [some (.ref a), some (.ref m), v2, some (.ref pS), v4, v5, v6, v7, v8, v9, v10, v11] H1) :
    ∃ t, PSs (cxOf CX0 P w K mg base NL "law" (defScope sLaw) f (.ref c) callerA [] s H0 Eb).nox (bTurn.drop 8) t ∧ ∀ (D : Ends) (H1 : Hp) (a m l : Addr) (n : Nat) (pS : Addr) (xs : List V) (ys : List (Str × Int)) (pQ : Addr) (qs : List V) (ds : List PyData) (v10 : V) (v2 v4 v6 v7 v8 v9 v11 : Option V),
      T8 K H1 m l n pS xs ys pQ qs ds → Tabs [(Pt, lamQ)] H1 → Dq K H1 m l v10 (dueX ys.length ds) →
      (∀ (v9 v11 : Option V) (H2 : Hp), ExtN H1 H2 → Tabs [(Pt, lamQ)] H2 → D.nx [some (.ref a), some (.ref m), v2, some (.ref pS), v4, some (.ref pQ), v6, v7, v8, v9, some v10, v11] H2) →
      t D [some (.ref a), some (.ref m), v2, some (.ref pS), v4, some (.ref pQ), v6, v7, v8, v9, some v10, v11] H1 := by
  have hr9 : Room 9 (callerA.deeper (envOfC "law" (defScope sLaw) s.heap.objs.size f (.ref c))) := hr.mono (by decide)
  have hr4 : Room 4 (callerA.deeper (envOfC "law" (defScope sLaw) s.heap.objs.size f (.ref c))) := hr.mono (by decide)
  have hr1 : Room 1 (callerA.deeper (envOfC "law" (defScope sLaw) s.heap.objs.size f (.ref c))) := hr.mono (by decide)
  refine ⟨_, pss_cons (ps_if (pt_val (pe_callB call_isi (by rfl) hisi PyProof.Rows.boot_isinstance (pa_cons (pv 10) (pa_cons (pe_bltn (v := .ty "list") (u := .type "list") (by rfl) hlist (by decide +kernel) rfl) pa_nil))))
      (pss_cons (ps_set (i := 9) scL.nd rfl (by first | exact Or.inl rfl | exact Or.inr rfl) (pe_call (E := fun _ _ _ => False) GMa hr9 (by rfl) G.made FMa.kp bMa .nil (passes_call noTk fun _ _ _ _ h => h) (pa_cons (pv 3) (pa_cons (pv 5) pa_nil))))
      (pss_one (ps_if (pt_cmpR (op_neD hr.units) (pe_lc (own := [("row", 11)]) (g := gName 11) (by rfl) scL.nd (pi_list (pe_call GLs hr1 (by rfl) gLs FLs.kp bLs .nil pass0 (pa_cons (pv 3) pa_nil))) (blkOk_by (own := [("row", 11)]) (N := NL) (sc := defScope sLaw) (by decide +kernel))
          (fun _ _ _ _ _ => pg_name (i := 11) scL.nd rfl (Or.inl rfl)) (fun _ _ _ _ _ => pts_nil) (fun _ _ _ _ _ => pe_meth (E := fun _ _ _ => False) (pv 9) X8.RC.cl mt GPp hr4 bPp .nil (passes_call noTk fun _ _ _ _ h => h) (pa_cons (pv 11) pa_nil)))
          (pe_op op_rep (pe_lst (pa_cons (pe_callTy call_tuple_of (by rfl) htup (by decide +kernel) (pa_cons (pv 5) pa_nil)) pa_nil)) (pe_callB call_len_seq (by rfl) hlen PySem.boot_len (pa_cons (pe_call GLs hr1 (by rfl) gLs FLs.kp bLs .nil pass0 (pa_cons (pv 3) pa_nil)) pa_nil))) (nomark _)) (pss_one (ps_ret pe_bl)) pss_nil))) pss_nil) dT, ?_⟩
  intro D H1 a m l n pS xs ys pQ qs ds v10 v2 v4 v6 v7 v8 v9 v11 T tb hdue nx
  have l3 := T.so.len3
  have l1 := T.so.len1
  have fin : ∀ (v9 v11 : Option V) (H2 : Hp), Same H1 H2 → tT D [some (.ref a), some (.ref m), v2, some (.ref pS), v4, some (.ref pQ), v6, v7, v8, v9, some v10, v11] H2 := fun v9 v11 H2 s2 =>
    let T2 := T.ext (Same.toN s2)
    zT D H2 a m l n pS xs ys v2 v4 _ v6 v7 v8 v9 _ v11 T2.M (Tabs.same tb s2) T2.so T2.s T2.sd fun H3 e3 t3 => nx v9 v11 H3 ((Same.toN s2).trans e3) t3
  refine ⟨_, rfl, v10, .ty "list", _, _, _, rfl, .ty _, hdue.ty, isi_lst K _, _, rfl, ?_⟩
  cases h : firstBad isName 0 ds with
  | some p => rw [dueX_bad h]; exact ifF rfl (fin v9 v11 H1 (Same.refl H1))
  | none =>
    by_cases e : 15 < ds.length
    · rw [dueX_many h e]; exact ifF rfl (fin v9 v11 H1 (Same.refl H1))
    rw [dueX_list h e]
    obtain ⟨zs, ez, hzn⟩ := names_strs h
    have hz16 : ∀ z ∈ zs, sOk 16 z := fun z hz => (T.it (.str z) (by rw [ez]; exact List.mem_map_of_mem hz)).sok z rfl
    have hznm : ∀ z ∈ zs, nmOk z := fun z hz => by
      rcases T.it (.str z) (by rw [ez]; exact List.mem_map_of_mem hz) with ⟨y, e1, hy⟩ | ho
      · cases e1; exact hy
      · exfalso
        have hn := hzn z hz
        have h' : PyData.str z = .none ∨ PyData.str z = .int 5 ∨ PyData.str z = .str "" ∨ PyData.str z = .str "A" ∨ PyData.str z = .tuple [.str "a"] ∨ PyData.str z = .str "abcdefghi" ∨ PyData.str z = .list [] := by simpa [odds] using ho
        rcases h' with h | h | h | h | h | h | h <;> first | (rw [h] at hn; exact absurd hn (by decide +kernel)) | cases h
    have lz : zs.length ≤ 15 := by rw [ez, List.length_map] at e; omega
    refine ifT rfl ?_
    refine ⟨_, rfl, _, rfl, m, l, pQ, .ref pS, qs, .tuple (prD ys), ds, 2, rfl, .tup T.s T.sd, (spots_good9 T.so).mono (Nat.le_refl _) (by decide) (Nat.le_refl _), SqL.of T.q, T.qd, fun d hd => (T.it d hd).sok, T.ql, ?_⟩
    refine ⟨fun u hu => (by rw [T.so.need] at hu; cases hu), fun _ qs' eq => ⟨fun p hp => (by rw [h] at hp; cases hp), fun _ => ⟨fun h15 => absurd h15 e, fun _ zs' ez' x dx v2' v3' H2 s2 hx gx d2 d3 => ?_⟩⟩⟩
    have eq' : qs' = ys := (prD_inj' (PyData.tuple.inj eq)).symm
    subst eq'
    have ezz : zs' = zs := by
      have : zs'.map PyData.str = zs.map PyData.str := ez'.symm.trans ez
      exact (List.map_inj_right fun x y e => by injection e).mp this
    subst ezz
    obtain ⟨pP, ps, rfl, hP, hps⟩ : ∃ pP ps, v2' = .ref pP ∧ SqT K H2 pP ps ∧ DqAll K H2 m l ps (dosFrom 0 zs' ++ [.tuple [.str "end"]]) := by
      cases d2 with
      | tup e t => exact ⟨_, _, rfl, e, t⟩
    have T2 := T.ext (Same.toN s2)
    have pl := str_pl (qs := qs') hznm
    have ldo : (dosFrom 0 zs' ++ [PyData.tuple [.str "end"]]).length = zs'.length + 1 := by rw [List.length_append, dos_len]; rfl
    have g64 := grid_small qs' l3 T.so.most
    have xq : qs = zs'.map V.str := by
      have := T2.qd
      rw [ez] at this
      exact strs_of this
    refine ⟨_, rfl, pS, xs, qs', rfl, T2.s, prD_trs (m := m) (l := l) qs' _ T2.sd, l3, T.so.most, fun pR rv H3 hR s3 gR rw3 => ?_⟩
    have lr := rw3.len
    refine ⟨pR, rfl, ⟨_, SqL.of gR⟩, fun Dl hDl => ?_⟩
    have s23 := s2.trans s3
    have nDm := (Mch.same s3 T2.M).ne hDl
    refine lc_it (walk_list (xs := rv)) (fun i H4 => ∃ as : List V, H4 Dl = some (.lst as) ∧ Same H3 H4 ∧ as.length = i ∧ ∀ v ∈ as, Dq K H4 m l v (.tuple (zs'.map .str))) ⟨[], upd_same, Same.upd hDl, rfl, fun v hv => nomatch hv⟩ (fun i H4 _ ⟨as, _, s4, _⟩ => s4.seq (SqL.of gR)) ?_ ?_
    · rintro i y H4 H5 hi ⟨as, gD, s4, la, da⟩ ⟨rfl, hy⟩
      obtain ⟨ar, r, rfl, hrr, hpr⟩ := rw3.get hy
      have so' : stOk qs' r := (mem_grid fun q hq => by have := T.so.most q hq; omega).mp (List.mem_of_getElem? hrr)
      have s34 := s3.trans s4
      refine ⟨rfl, tyes ⟨_, rfl, x, dx, _, rfl, s34 _ _ gx, rfl, _, rfl, m, l, x, dx, pS, pP, xs, ps, qs', dosFrom 0 zs' ++ [.tuple [.str "end"]], v3', .ref ar, .tuple (r.map .int), rfl, s34 _ _ gx, Same.seqT s34 T2.s, (prD_trs (m := m) (l := l) qs' _ T2.sd).same s34, by omega, T.so.nodup, Same.seqT s34 hP, DqAll.same s34 _ _ hps, pl, by omega, by omega, .tup (Same.seqT s4 hpr) (ints_dq r), fun st ed so2 => ⟨fun hn => (by rw [str_plain] at hn; cases hn), fun row hrow p H6 s6 g6 => ?_⟩, fun hf => (by rw [st_stand so'] at hf; cases hf)⟩⟩
      rw [str_plain] at hrow
      cases hrow
      have gD6 := s6 _ _ gD
      refine ⟨as, gD6, small1000 (by omega), as ++ [.ref p], upd_same, ?_, by simp [la], fun v hv => ?_⟩
      · intro b o hb
        rw [upd_ne (ne_of_none hb hDl)]
        exact s6 _ _ (s4 _ _ hb)
      have up : ∀ {v : V}, Dq K H6 m l v (.tuple (zs'.map .str)) → Dq K (upd H6 Dl (.lst (as ++ [.ref p]))) m l v (.tuple (zs'.map .str)) := fun {v} h => by
        cases h with
        | tup e t =>
          have t' : DqAll K (upd H6 Dl (.lst (as ++ [.ref p]))) m l (zs'.map V.str) (zs'.map PyData.str) := strs_dq zs'
          rw [strs_of t] at e
          refine .tup ?_ t'
          rcases e with (e | ⟨o', e⟩) | e
          · exact .inl (.inl (by rw [upd_ne (ne_of e gD6 (by intro z; cases z))]; exact e))
          · exact .inl (.inr ⟨o', by rw [upd_ne (ne_of e gD6 (by intro z; cases z))]; exact e⟩)
          · exact .inr e
      rcases List.mem_append.mp hv with hv | hv
      · exact up (Dq.same s6 _ _ (da v hv))
      · rw [List.mem_singleton.mp hv]
        exact up (.tup (.inl (.inl g6)) (strs_dq zs'))
    · rintro H4 ⟨as, gD, s4, la, da⟩
      have s24 := s23.trans s4
      have T4 := T.ext (Same.toN s24)
      refine ⟨_, rfl, pQ, qs, rfl, .inl ⟨SqL.of T4.q, fun p1 hp1 => ?_⟩⟩
      have s5 : Same H4 (upd H4 p1 (.tup qs)) := Same.upd hp1
      refine ⟨(by show 1 ≤ sizeLine; decide), fun p2 hp2 => ?_⟩
      have s6 : Same (upd H4 p1 (.tup qs)) (upd (upd H4 p1 (.tup qs)) p2 (.lst [.ref p1])) := Same.upd hp2
      have g1 : (upd (upd H4 p1 (.tup qs)) p2 (.lst [.ref p1])) p1 = some (.tup qs) := s6 _ _ upd_same
      have g2 : (upd (upd H4 p1 (.tup qs)) p2 (.lst [.ref p1])) p2 = some (.lst [.ref p1]) := upd_same
      have s46 := s5.trans s6
      generalize upd (upd H4 p1 (.tup qs)) p2 (.lst [.ref p1]) = H6 at s46 g1 g2 ⊢
      have T6 := T4.ext (Same.toN s46)
      refine ⟨_, rfl, pS, xs, qs', rfl, T6.s, prD_trs (m := m) (l := l) qs' _ T6.sd, l3, T.so.most, fun pR2 rv2 H7 hR2 s7 gR2 rw7 => ?_⟩
      have lr2 := rw7.len
      refine ⟨pR2, _, rfl, .inl (SqL.of gR2), p2, _, [.ref p1], rfl, rfl, s7 _ _ g2, by omega, by omega, (by rw [Int.toNat_natCast]; exact Nat.le_of_lt (small1000 (by show 1 * rv2.length ≤ 1000; omega))), fun p3 hp3 => ?_⟩
      rw [Int.toNat_natCast, flat_rep]
      have s8 : Same H7 (upd H7 p3 (.lst (List.replicate rv2.length (.ref p1)))) := Same.upd hp3
      have s48 := (s46.trans s7).trans s8
      have n3 := (Mch.same s7 T6.M).ne hp3
      have gt : Gd big 300 1 (.tuple (zs'.map .str)) := (Gd.tup (strs_good8 zs' hz16)).mono (Nat.le_refl _) (by omega) (Nat.le_refl _)
      have gl : Gd big 30000 2 (.list (List.replicate rv.length (.tuple (zs'.map .str)))) := (Gd.lst (rep_good gt rv.length)).mono (Nat.le_refl _) (by omega) (Nat.le_refl _)
      have hrv : rv2.length = rv.length := by omega
      refine ne_self (m := m) (l := l) (d := .list (List.replicate rv.length (.tuple (zs'.map .str)))) (.lst (s48 _ _ gD) nDm.1 nDm.2 ?_) (.lst upd_same n3.1 n3.2 ?_) gl ?_ (by decide) ⟨_, rfl, ifF rfl (fin _ _ _ (s24.trans s48))⟩
      · have := all_rep (K := K) (H := H4) (m := m) (l := l) da
        rw [la] at this
        exact DqAll.same s48 _ _ this
      · have z := rep_dq (K := K) (H := upd H7 p3 (.lst (List.replicate rv2.length (.ref p1)))) (m := m) (l := l) (v := .ref p1) (d := .tuple (zs'.map .str)) (.tup (.inl (.inl ((s7.trans s8) _ _ g1))) (by rw [xq]; exact strs_dq zs')) rv2.length
        have e : List.replicate rv2.length (PyData.tuple (zs'.map .str)) = List.replicate rv.length (PyData.tuple (zs'.map .str)) := by rw [hrv]
        rw [e] at z
        exact z
      · show noDiAll (List.replicate rv.length (.tuple (zs'.map .str))) = true
        refine noDi_all fun x hx => ?_
        rw [(List.mem_replicate.mp hx).2]
        show noDiAll (zs'.map .str) = true
        exact noDi_all fun y hy => by obtain ⟨z, _, rfl⟩ := List.mem_map.mp hy; rfl
end
end Ms
namespace Ms
open PySem PySem.Spec PyProof.Rows L2 LamX StX ClX
section
variable {P : Program} {w : World} {K : PySem.W.Frag} {mg : Str → Option Value} {base : Heap} {C CS CP CT CB fTo fMa fS p0 f c Pt fLs fPp : Addr} {mc : Value} {fdMa fdTo : FuncData} {s : Shared} {H0 : Hp} {Eb : XK}
theorem law_tell {tT : TS} (G : G8 mg fTo fMa C CS CP CT) (X8 : C8 K C CS CP CT) (hrep : mg "repr" = none)
    (FMa : Fun K "_law_made" "_law_made" sMade fMa fdMa) (bMa : Binds K fdMa ["spots", "q"] []) (GMa : FnOk P w K mg base (L2.CX P w) 9 fMa fdMa ["spots", "q"] (spMade K C CS CP CT))
    (FT : Fun K "_law_told" "_law_told" sTold fTo fdTo) (bT : Binds K fdTo ["call"] []) (TB : TabB base mg c Pt)
    (hr : Room 11 (callerA.deeper (envOfC "law" (defScope sLaw) s.heap.objs.size f (.ref c))))
    (dT : PSs (cxOf CX0 P w K mg base NL "law" (defScope sLaw) f (.ref c) callerA [] s H0 Eb).nox (bTurn.drop 8) tT)
    (zT : ∀ (D : Ends) (H1 : Hp) (a m l : Addr) (n : Nat) (pS : Addr) (xs : List V) (ys : List (Str × Int)) (pQ : Addr) (qs : List V) (ds : List PyData) (v10 : V) (v2 v4 v6 v7 v8 v9 v11 : Option V),
      T8 K H1 m l n pS xs ys pQ qs ds → Tabs [(Pt, lamQ)] H1 → Dq K H1 m l v10 (dueX ys.length ds) →
      (∀ (v9 v11 : Option V) (H2 : Hp), ExtN H1 H2 → Tabs [(Pt, lamQ)] H2 → D.nx [some (.ref a), some (.ref m), v2, some (.ref pS), v4, some (.ref pQ), v6, v7, v8, v9, some v10, v11] H2) →
      tT D [some (.ref a), some (.ref m), v2, some (.ref pS), v4, some (.ref pQ), v6, v7, v8, v9, some v10, v11] H1) :
    ∃ t, PSs (cxOf CX0 P w K mg base NL "law" (defScope sLaw) f (.ref c) callerA [] s H0 Eb).nox (bTurn.drop 7) t ∧ ∀ (D : Ends) (H1 : Hp) (a m l : Addr) (n : Nat) (pS : Addr) (xs : List V) (ys : List (Str × Int)) (pQ : Addr) (qs : List V) (ds : List PyData) (v10 : V) (v2 v4 v6 v7 v8 v9 v11 : Option V),
      T8 K H1 m l n pS xs ys pQ qs ds → Tabs [(Pt, lamQ)] H1 → Dq K H1 m l v10 (dueX ys.length ds) →
      (∀ (v9 v11 : Option V) (H2 : Hp), ExtN H1 H2 → Tabs [(Pt, lamQ)] H2 → D.nx [some (.ref a), some (.ref m), v2, some (.ref pS), v4, some (.ref pQ), v6, v7, v8, v9, some v10, v11] H2) →
      t D [some (.ref a), some (.ref m), v2, some (.ref pS), v4, some (.ref pQ), v6, v7, v8, v9, some v10, v11] H1 := by
  have gA : (callerA.deeper (envOfC "law" (defScope sLaw) s.heap.objs.size f (.ref c))).guards = some [] := rfl
  obtain ⟨oc, od, kV, doc, pm, an, cdv, ct, osl, efd, lk, hcd⟩ := FT.ex
  subst efd
  refine ⟨_, pss_cons (ps_if (pt_cmpR op_ne
      (pe_callB (call_reprD gA hr.units) (by rfl) hrep (by decide +kernel) (pa_cons (pe_lamcall (T := [(Pt, lamQ)]) (TT := TT8 K C CS CP CT) (c := c) (P := Pt) (k := 9) (t := fun E => tCall (spMade K C CS CP CT) [] E (tCons (tVar 3) (tCons (tVar 5) tNil))) (by rfl) G.told FT.kp lk hcd bT scTo rfl (Or.inl rfl)
        (told_str X8.RC G.bs G.bp G.tm X8.SS X8.PS X8.PP X8.MS X8.MP X8.MM X8.RS X8.RP X8.RM) TB rfl (List.mem_singleton.mpr rfl) (fun p hp _ => by rw [List.mem_singleton.mp hp]; rfl) hr (lamS_by (sc := defScope sLaw) (by decide +kernel)) rfl (fun _ _ _ _ _ => rfl)
        (fun A outer s H E f c' hr3 => pe_call GMa hr3 (by rfl) G.made FMa.kp bMa .nil (passes_call (takes_of rfl rfl rfl rfl) fun _ _ _ _ h => h) (pa_cons (pv 3) (pa_cons (pv 5) pa_nil)))) pa_nil))
      (pe_callB (call_reprD gA hr.units) (by rfl) hrep (by decide +kernel) (pa_cons (pv 10) pa_nil)) (nomark _)) (pss_one (ps_ret pe_bl)) pss_nil) dT, ?_⟩
  intro D H1 a m l n pS xs ys pQ qs ds v10 v2 v4 v6 v7 v8 v9 v11 T tb hdue nx
  have l3 := T.so.len3
  have gD := dueX_good l3 T.it T.l16
  have shD := gD.shown (by decide)
  have dpD : (dueX ys.length ds).depth ≤ 60 := Nat.le_trans gD.dp (by decide)
  refine ⟨tb, fun H2 e2 t2 H3 Ec Qc s3 hS hP hM hQ => ?_⟩
  have e13 : ExtN H1 H3 := e2.trans (Same.toN s3)
  have t3 : Tabs [(Pt, lamQ)] H3 := Tabs.same t2 s3
  have T3 := T.ext e13
  have fin2 : ∀ (H5 : Hp), Same H3 H5 → tT D [some (.ref a), some (.ref m), v2, some (.ref pS), v4, some (.ref pQ), v6, v7, v8, v9, some v10, v11] H5 := fun H5 s5 =>
    zT D H5 a m l n pS xs ys pQ qs ds v10 v2 v4 v6 v7 v8 v9 v11 (T3.ext (Same.toN s5)) (Tabs.same t3 s5) (Dq.ext (e13.trans (Same.toN s5)) hdue) fun v9 v11 H6 e6 t6 => nx v9 v11 H6 ((e13.trans (Same.toN s5)).trans e6) t6
  refine ⟨_, rfl, _, rfl, m, l, pQ, .ref pS, qs, .tuple (prD ys), ds, 2, rfl, .tup T3.s T3.sd, (spots_good9 T.so).mono (Nat.le_refl _) (by decide) (Nat.le_refl _), SqL.of T3.q, T3.qd, fun d hd => (T.it d hd).sok, T.ql, ?_⟩
  refine ⟨fun u hu => (by rw [T.so.need] at hu; cases hu), fun _ qs' eq => ?_⟩
  have eq' : qs' = ys := (prD_inj' (PyData.tuple.inj eq)).symm
  subst eq'
  refine ⟨fun p hp dx H4 h1 s4 h3 => hP dx _ H4 h3 fun p1 hp1 => ?_, fun hb => ⟨fun h15 dx H4 h1 s4 h3 => hM dx _ H4 h3 fun p1 hp1 => ?_, fun h15 zs ez x dx v2' v3' H4 s4 hx gx d2 d3 => hQ x dx (.ref pS) v2' v3' H4 gx fun p1 hp1 => ?_⟩⟩
  · have s5 := s4.trans (Same.upd (o := .tup [.str "places", .int (p : Int)]) hp1)
    have h5 : Dq K (upd H4 p1 (.tup [.str "places", .int (p : Int)])) m l (.ref p1) (dueX qs'.length ds) := by
      rw [dueX_bad hp]; exact .tup (.inl (.inl upd_same)) (.cons (.str _) (.cons (.int _) .nil))
    exact ⟨.ref p1, _, m, l, rfl, h5, shD.1, dpD, shD.2, _, rfl, v10, _, m, l, rfl, Dq.ext (e13.trans (Same.toN s5)) hdue, shD.1, dpD, shD.2, rfl, _, rfl, iteNS rfl (fin2 _ s5)⟩
  · have s5 := s4.trans (Same.upd (o := .tup [.str "many", .int 16]) hp1)
    have h5 : Dq K (upd H4 p1 (.tup [.str "many", .int 16])) m l (.ref p1) (dueX qs'.length ds) := by
      rw [dueX_many hb h15]; exact .tup (.inl (.inl upd_same)) (.cons (.str _) (.cons (.int _) .nil))
    exact ⟨.ref p1, _, m, l, rfl, h5, shD.1, dpD, shD.2, _, rfl, v10, _, m, l, rfl, Dq.ext (e13.trans (Same.toN s5)) hdue, shD.1, dpD, shD.2, rfl, _, rfl, iteNS rfl (fin2 _ s5)⟩
  · have su : Same H4 (upd H4 p1 (.lst [v2', v3'])) := Same.upd hp1
    have s5 := s4.trans su
    have n1 := (Mch.same s4 T3.M).ne hp1
    have h5 : Dq K (upd H4 p1 (.lst [v2', v3'])) m l (.ref p1) (dueX qs'.length ds) := by
      rw [dueX_list hb (by omega), ez, listX_str]; exact .lst upd_same n1.1 n1.2 (.cons (Dq.same su _ _ d2) (.cons (Dq.same su _ _ d3) .nil))
    exact ⟨.ref p1, _, m, l, rfl, h5, shD.1, dpD, shD.2, _, rfl, v10, _, m, l, rfl, Dq.ext (e13.trans (Same.toN s5)) hdue, shD.1, dpD, shD.2, rfl, _, rfl, iteNS rfl (fin2 _ s5)⟩
end
end Ms
namespace Ms
open PySem PySem.Spec PyProof.Rows L2 LamX StX ClX
/-- what is due where all are names -/
def dueM (k : Nat) (ds : List PyData) : PyData := if 15 < ds.length then .tuple [.str "many", .int 16] else listX k ds
section
variable {P : Program} {w : World} {K : PySem.W.Frag} {mg : Str → Option Value} {base : Heap} {f c Pt : Addr} {s : Shared} {H0 : Hp} {Eb : XK}
theorem law_bad {tT : TS} (hr : Room 11 (callerA.deeper (envOfC "law" (defScope sLaw) s.heap.objs.size f (.ref c))))
    (dT : PSs (cxOf CX0 P w K mg base NL "law" (defScope sLaw) f (.ref c) callerA [] s H0 Eb).nox (bTurn.drop 7) tT)
    (zT : ∀ (D : Ends) (H1 : Hp) (a m l : Addr) (n : Nat) (pS : Addr) (xs : List V) (ys : List (Str × Int)) (pQ : Addr) (qs : List V) (ds : List PyData) (v10 : V) (v2 v4 v6 v7 v8 v9 v11 : Option V),
      T8 K H1 m l n pS xs ys pQ qs ds → Tabs [(Pt, lamQ)] H1 → Dq K H1 m l v10 (dueX ys.length ds) →
      (∀ (v9 v11 : Option V) (H2 : Hp), ExtN H1 H2 → Tabs [(Pt, lamQ)] H2 → D.nx [some (.ref a), some (.ref m), v2, some (.ref pS), v4, some (.ref pQ), v6, v7, v8, v9, some v10, v11] H2) →
      tT D [some (.ref a), some (.ref m), v2, some (.ref pS), v4, some (.ref pQ), v6, v7, v8, v9, some v10, v11] H1) :
    ∃ t, PSs (cxOf CX0 P w K mg base NL "law" (defScope sLaw) f (.ref c) callerA [] s H0 Eb).nox (bTurn.drop 6) t ∧ ∀ (D : Ends) (H1 : Hp) (a m l : Addr) (n : Nat) (pS : Addr) (xs : List V) (ys : List (Str × Int)) (pQ pB : Addr) (qs : List V) (ds : List PyData) (v10 : V) (v2 v4 v6 v8 v9 v11 : Option V),
      T8 K H1 m l n pS xs ys pQ qs ds → Tabs [(Pt, lamQ)] H1 → H1 pB = some (.lst ((badF 0 ds).map V.int)) → Dq K H1 m l v10 (dueM ys.length ds) →
      (∀ (v9 v10 v11 : Option V) (H2 : Hp), ExtN H1 H2 → Tabs [(Pt, lamQ)] H2 → D.nx [some (.ref a), some (.ref m), v2, some (.ref pS), v4, some (.ref pQ), v6, some (.ref pB), v8, v9, v10, v11] H2) →
      t D [some (.ref a), some (.ref m), v2, some (.ref pS), v4, some (.ref pQ), v6, some (.ref pB), v8, v9, some v10, v11] H1 := by
  refine ⟨_, pss_cons (ps_if (pt_cmpR (op_neD hr.units) (pv 7) (pe_lst pa_nil) (nomark _)) (pss_one (ps_set (i := 10) scL.nd rfl (by first | exact Or.inl rfl | exact Or.inr rfl) (pe_tup (pa_cons pe_str (pa_cons (pe_ix (show IxR _ (rIxL K) from ix_list) (pv 7) pe_int (fun _ _ => rfl)) pa_nil))))) pss_nil) dT, ?_⟩
  intro D H1 a m l n pS xs ys pQ pB qs ds v10 v2 v4 v6 v8 v9 v11 T tb gB hd nx
  have fin : ∀ (v10 : V) (H2 : Hp), Same H1 H2 → Dq K H2 m l v10 (dueX ys.length ds) → tT D [some (.ref a), some (.ref m), v2, some (.ref pS), v4, some (.ref pQ), v6, some (.ref pB), v8, v9, some v10, v11] H2 := fun v10 H2 s2 h2 =>
    zT D H2 a m l n pS xs ys pQ qs ds v10 v2 v4 v6 _ v8 v9 v11 (T.ext (Same.toN s2)) (Tabs.same tb s2) h2 fun v9 v11 H3 e3 t3 => nx v9 _ v11 H3 ((Same.toN s2).trans e3) t3
  refine ⟨_, rfl, (by show 0 ≤ sizeLine; decide), fun p hp => ?_⟩
  have s2 : Same H1 (upd H1 p (.lst [])) := Same.upd hp
  refine ⟨.list ((badF 0 ds).map .int), .list [], .lst (SqL.of (s2 _ _ gB)) (dpAll_ints _), .lst (SqL.of upd_same) .nil, shaped_ints _, (by rfl), _, rfl, ?_⟩
  cases e : badF 0 ds with
  | nil =>
    have hb := badF_nil 0 ds e
    refine ifF (by rfl) (fin v10 _ s2 ?_)
    have : dueX ys.length ds = dueM ys.length ds := by unfold dueX; rw [hb]; rfl
    rw [this]
    exact Dq.same s2 _ _ hd
  | cons p0 r =>
    obtain ⟨k, ek, hk, _⟩ := badF_cons 0 ds p0 r e
    refine ifT (by rfl) ?_
    have gB2 := s2 _ _ gB
    rw [e] at gB2
    refine ⟨_, rfl, pB, _, 0, .int p0, rfl, rfl, SqL.of gB2, atI_nat (j := 0) rfl, (by show 2 ≤ sizeLine; decide), fun p2 hp2 => ?_⟩
    refine fin _ _ (s2.trans (Same.upd hp2)) ?_
    rw [dueX_bad hk, ← ek]
    exact .tup (.inl (.inl upd_same)) (.cons (.str _) (.cons (.int _) .nil))
theorem law_many {tT : TS} (hlen : mg "len" = none) (hr : Room 11 (callerA.deeper (envOfC "law" (defScope sLaw) s.heap.objs.size f (.ref c))))
    (dT : PSs (cxOf CX0 P w K mg base NL "law" (defScope sLaw) f (.ref c) callerA [] s H0 Eb).nox (bTurn.drop 6) tT)
    (zT : ∀ (D : Ends) (H1 : Hp) (a m l : Addr) (n : Nat) (pS : Addr) (xs : List V) (ys : List (Str × Int)) (pQ pB : Addr) (qs : List V) (ds : List PyData) (v10 : V) (v2 v4 v6 v8 v9 v11 : Option V),
      T8 K H1 m l n pS xs ys pQ qs ds → Tabs [(Pt, lamQ)] H1 → H1 pB = some (.lst ((badF 0 ds).map V.int)) → Dq K H1 m l v10 (dueM ys.length ds) →
      (∀ (v9 v10 v11 : Option V) (H2 : Hp), ExtN H1 H2 → Tabs [(Pt, lamQ)] H2 → D.nx [some (.ref a), some (.ref m), v2, some (.ref pS), v4, some (.ref pQ), v6, some (.ref pB), v8, v9, v10, v11] H2) →
      tT D [some (.ref a), some (.ref m), v2, some (.ref pS), v4, some (.ref pQ), v6, some (.ref pB), v8, v9, some v10, v11] H1) :
    ∃ t, PSs (cxOf CX0 P w K mg base NL "law" (defScope sLaw) f (.ref c) callerA [] s H0 Eb).nox (bTurn.drop 5) t ∧ ∀ (D : Ends) (H1 : Hp) (a m l : Addr) (n : Nat) (pS : Addr) (xs : List V) (ys : List (Str × Int)) (pQ pB : Addr) (qs : List V) (ds : List PyData) (v10 : V) (v2 v4 v6 v8 v9 v11 : Option V),
      T8 K H1 m l n pS xs ys pQ qs ds → Tabs [(Pt, lamQ)] H1 → H1 pB = some (.lst ((badF 0 ds).map V.int)) → Dq K H1 m l v10 (listX ys.length ds) →
      (∀ (v9 v10 v11 : Option V) (H2 : Hp), ExtN H1 H2 → Tabs [(Pt, lamQ)] H2 → D.nx [some (.ref a), some (.ref m), v2, some (.ref pS), v4, some (.ref pQ), v6, some (.ref pB), v8, v9, v10, v11] H2) →
      t D [some (.ref a), some (.ref m), v2, some (.ref pS), v4, some (.ref pQ), v6, some (.ref pB), v8, v9, some v10, v11] H1 := by
  refine ⟨_, pss_cons (ps_if (pt_cmpR op_gt (pe_callB call_len_seq (by rfl) hlen PySem.boot_len (pa_cons (pv 5) pa_nil)) pe_int (nomark _)) (pss_one (ps_set (i := 10) scL.nd rfl (by first | exact Or.inl rfl | exact Or.inr rfl) (pe_tup (pa_cons pe_str (pa_cons pe_int pa_nil))))) pss_nil) dT, ?_⟩
  intro D H1 a m l n pS xs ys pQ pB qs ds v10 v2 v4 v6 v8 v9 v11 T tb gB hd nx
  have lq := T.qd.len
  refine ⟨_, rfl, pQ, _, rfl, .inl (SqL.of T.q), _, _, rfl, rfl, _, rfl, ite_b (fun e => ?_) (fun e => ?_)⟩
  · have hm : 15 < ds.length := by
      have := of_decide_eq_true e
      omega
    refine ⟨(by show 2 ≤ sizeLine; decide), fun p2 hp2 => ?_⟩
    have s2 : Same H1 (upd H1 p2 (.tup [.str "many", .int 16])) := Same.upd hp2
    refine zT D _ a m l n pS xs ys pQ pB qs ds _ v2 v4 v6 v8 v9 v11 (T.ext (Same.toN s2)) (Tabs.same tb s2) (s2 _ _ gB) ?_ fun v9 v10 v11 H3 e3 t3 => nx v9 v10 v11 H3 ((Same.toN s2).trans e3) t3
    unfold dueM
    rw [if_pos hm]
    exact .tup (.inl (.inl upd_same)) (.cons (.str _) (.cons (.int _) .nil))
  · have hm : ¬ 15 < ds.length := by
      have := of_decide_eq_false e
      omega
    refine zT D _ a m l n pS xs ys pQ pB qs ds _ v2 v4 v6 v8 v9 v11 T tb gB ?_ nx
    unfold dueM
    rw [if_neg hm]
    exact hd
end
end Ms
namespace Ms
open PySem PySem.Spec PyProof.Rows L2 LamX StX ClX
inductive DosQ (H : Hp) : Nat → List V → List V → Prop
  | nil {i : Nat} : DosQ H i [] []
  | cons {i : Nat} {a : Addr} {as : List V} {x : V} {xs : List V} : H a = some (.tup [.str "do", x, .int ((i : Int) + 1)]) → DosQ H (i + 1) as xs → DosQ H i (.ref a :: as) (x :: xs)
theorem DosQ.keep {H H' : Hp} (k : ∀ b xs, H b = some (.tup xs) → H' b = some (.tup xs)) {i : Nat} {as xs : List V} (h : DosQ H i as xs) : DosQ H' i as xs := by
  induction h with
  | nil => exact .nil
  | cons e _ ih => exact .cons (k _ _ e) ih
theorem DosQ.snoc {H : Hp} {i : Nat} {as xs : List V} {a : Addr} {x : V} (h : DosQ H i as xs) (e : H a = some (.tup [.str "do", x, .int (((i + xs.length : Nat) : Int) + 1)])) : DosQ H i (as ++ [.ref a]) (xs ++ [x]) := by
  induction h with
  | nil => exact .cons e .nil
  | @cons i a0 as x0 xs e0 _ ih => exact .cons e0 (ih (by rw [List.length_cons] at e; rw [show i + 1 + xs.length = i + (xs.length + 1) by omega]; exact e))
theorem DosQ.len {H : Hp} {i : Nat} {as xs : List V} (h : DosQ H i as xs) : as.length = xs.length := by
  induction h with
  | nil => rfl
  | cons _ _ ih => rw [List.length_cons, List.length_cons, ih]
theorem DosQ.dq {K : PySem.W.Frag} {H : Hp} {m l : Addr} {i : Nat} {as xs : List V} (h : DosQ H i as xs) : ∀ {ds : List PyData}, DqAll K H m l xs ds → DqAll K H m l as (dosX i ds) := by
  induction h with
  | nil => intro ds t; cases t; exact .nil
  | cons e _ ih =>
    intro ds t
    cases t with
    | cons t1 t2 => exact .cons (.tup (.inl (.inl e)) (.cons (.str _) (.cons t1 (.cons (.int _) .nil)))) (ih t2)
section
variable {P : Program} {w : World} {K : PySem.W.Frag} {mg : Str → Option Value} {base : Heap} {f c Pt fA : Addr} {fdA : FuncData} {s : Shared} {H0 : Hp} {Eb : XK}
theorem law_list {tT : TS} (hlen : mg "len" = none) (htup : mg "tuple" = none) (hen : mg "enumerate" = none) (hr : Room 11 (callerA.deeper (envOfC "law" (defScope sLaw) s.heap.objs.size f (.ref c))))
    (dT : PSs (cxOf CX0 P w K mg base NL "law" (defScope sLaw) f (.ref c) callerA [] s H0 Eb).nox (bTurn.drop 5) tT)
    (zT : ∀ (D : Ends) (H1 : Hp) (a m l : Addr) (n : Nat) (pS : Addr) (xs : List V) (ys : List (Str × Int)) (pQ pB : Addr) (qs : List V) (ds : List PyData) (v10 : V) (v2 v4 v6 v8 v9 v11 : Option V),
      T8 K H1 m l n pS xs ys pQ qs ds → Tabs [(Pt, lamQ)] H1 → H1 pB = some (.lst ((badF 0 ds).map V.int)) → Dq K H1 m l v10 (listX ys.length ds) →
      (∀ (v9 v10 v11 : Option V) (H2 : Hp), ExtN H1 H2 → Tabs [(Pt, lamQ)] H2 → D.nx [some (.ref a), some (.ref m), v2, some (.ref pS), v4, some (.ref pQ), v6, some (.ref pB), v8, v9, v10, v11] H2) →
      tT D [some (.ref a), some (.ref m), v2, some (.ref pS), v4, some (.ref pQ), v6, some (.ref pB), v8, v9, some v10, v11] H1) :
    ∃ t, PSs (cxOf CX0 P w K mg base NL "law" (defScope sLaw) f (.ref c) callerA [] s H0 Eb).nox (bTurn.drop 4) t ∧ ∀ (D : Ends) (H1 : Hp) (a m l : Addr) (n : Nat) (pS : Addr) (xs : List V) (ys : List (Str × Int)) (pQ pB : Addr) (qs : List V) (ds : List PyData) (v2 v4 v6 v8 v9 v10 v11 : Option V),
      T8 K H1 m l n pS xs ys pQ qs ds → Tabs [(Pt, lamQ)] H1 → H1 pB = some (.lst ((badF 0 ds).map V.int)) →
      (∀ (v9 v10 v11 : Option V) (H2 : Hp), ExtN H1 H2 → Tabs [(Pt, lamQ)] H2 → D.nx [some (.ref a), some (.ref m), v2, some (.ref pS), v4, some (.ref pQ), v6, some (.ref pB), v8, v9, v10, v11] H2) →
      t D [some (.ref a), some (.ref m), v2, some (.ref pS), v4, some (.ref pQ), v6, some (.ref pB), v8, v9, v10, v11] H1 := by
  refine ⟨_, pss_cons (ps_set (i := 10) scL.nd rfl (by first | exact Or.inl rfl | exact Or.inr rfl) (pe_lst (pa_cons
      (pe_op op_catA (pe_callTy call_tuple_of (by rfl) htup (by decide +kernel) (pa_cons (pe_lc (own := [("at", 8), ("one", 9)]) (g := gTup K 2 (gCons (gName 8) (gCons (gName 9) gNil))) (by rfl) scL.nd (pi_enum (by rfl) hen (pa_cons (pv 5) pa_nil)) (blkOk_by (own := [("at", 8), ("one", 9)]) (N := NL) (sc := defScope sLaw) (by decide +kernel))
          (fun _ _ _ _ _ => pg_tup rfl (pgs_cons (pg_name (i := 8) scL.nd rfl (Or.inl rfl)) (pgs_cons (pg_name (i := 9) scL.nd rfl (Or.inl rfl)) pgs_nil))) (fun _ _ _ _ _ => pts_nil) (fun _ _ _ _ _ => pe_tup (pa_cons pe_str (pa_cons (pv 9) (pa_cons (pe_op op_add (pv 8) pe_int) pa_nil))))) pa_nil))
        (pe_tup (pa_cons (pe_tup (pa_cons pe_str pa_nil)) pa_nil)))
      (pa_cons (pe_op op_rep1 (pe_tup (pa_cons pe_str pa_nil)) (pe_callB call_len (by rfl) hlen PySem.boot_len (pa_cons (pv 3) pa_nil))) pa_nil)))) dT, ?_⟩
  intro D H1 a m l n pS xs ys pQ pB qs ds v2 v4 v6 v8 v9 v10 v11 T tb gB nx
  have lq := T.qd.len
  have l16 := T.l16
  have lx : xs.length = ys.length := by have := T.sd.len; rw [this]; exact prD_len ys
  have l3 := T.so.len3
  have l1 := T.so.len1
  refine ⟨_, rfl, pQ, qs, rfl, SqL.of T.q, fun Dl hDl => ?_⟩
  have sD : ∀ {o : HO}, Same H1 (upd H1 Dl o) := fun {o} => Same.upd hDl
  refine lc_it (walk_enum (xs := qs)) (fun i H3 => ∃ as, H3 Dl = some (.lst as) ∧ Same H1 H3 ∧ DosQ H3 0 as (qs.take i)) ⟨[], upd_same, sD, by rw [List.take_zero]; exact .nil⟩ (fun i H3 _ ⟨as, _, s3, _⟩ => SqL.of (s3 _ _ T.q)) ?_ ?_
  · rintro i x H3 H4 hi ⟨as, gD, s3, da⟩ ⟨TT, x1, x2, rfl, hT, rfl, e1', e2'⟩
    have ex1 : x1 = .int (i : Nat) := (Option.some.inj e1').symm
    subst ex1
    have e3 : qs[i]? = some x2 := e2'
    have ti : qs.take (i + 1) = qs.take i ++ [x2] := by rw [List.take_succ, e3]; rfl
    have nT : TT ≠ Dl := fun e => by subst e; rw [gD] at hT; cases hT
    refine ⟨TT, _, rfl, .inl (.inl upd_same), rfl, _, _, rfl, _, _, rfl, rfl, rfl, tyes ?_⟩
    refine ⟨_, rfl, _, rfl, _, _, rfl, rfl, (by show 3 ≤ sizeLine; decide), fun p hp => ?_⟩
    have gD4 : (upd H3 TT (.tup [.int (i : Nat), x2])) Dl = some (.lst as) := by rw [upd_ne nT.symm]; exact gD
    have nP : p ≠ Dl := fun e => by subst e; rw [gD4] at hp; cases hp
    refine ⟨as, by rw [upd_ne nP.symm]; exact gD4, small1000 (by rw [da.len, List.length_take]; omega), ?_⟩
    have s5 : Same H3 (upd (upd H3 TT (.tup [.int (i : Nat), x2])) p (.tup [.str "do", x2, .int ((i : Int) + 1)])) := (Same.upd hT).trans (Same.upd hp)
    refine ⟨as ++ [.ref p], upd_same, fun b o hb => ?_, ?_⟩
    · rw [upd_ne (ne_of_none hb hDl)]
      exact s5 _ _ (s3 _ _ hb)
    · rw [ti]
      refine DosQ.snoc (da.keep fun b ys hb => ?_) ?_
      · rw [upd_ne (fun e => by subst e; rw [gD] at hb; cases hb)]
        exact s5 _ _ hb
      · rw [upd_ne nP, upd_same, List.length_take, Nat.min_eq_left (by omega), Nat.zero_add]
  · rintro H3 ⟨as, gD, s3, da⟩
    rw [List.take_of_length_le (Nat.le_refl _)] at da
    have la := da.len
    refine ⟨Dl, as, rfl, .inl ⟨SqL.of gD, fun pT hpT => ?_⟩⟩
    have s4 : Same H3 (upd H3 pT (.tup as)) := Same.upd hpT
    refine ⟨(by show 1 ≤ sizeLine; decide), fun pe hpe => ⟨(by show 1 ≤ sizeLine; decide), fun pe2 hpe2 => ?_⟩⟩
    have s5 : Same (upd H3 pT (.tup as)) (upd (upd H3 pT (.tup as)) pe (.tup [.str "end"])) := Same.upd hpe
    have s6 : Same (upd (upd H3 pT (.tup as)) pe (.tup [.str "end"])) (upd (upd (upd H3 pT (.tup as)) pe (.tup [.str "end"])) pe2 (.tup [.ref pe])) := Same.upd hpe2
    have gT := (s5.trans s6) _ _ (upd_same (H := H3) (a := pT) (o := .tup as))
    have ge := s6 _ _ (upd_same (H := upd H3 pT (.tup as)) (a := pe) (o := .tup [.str "end"]))
    have ge2 := (upd_same (H := upd (upd H3 pT (.tup as)) pe (.tup [.str "end"])) (a := pe2) (o := .tup [.ref pe]))
    have s36 := (s4.trans s5).trans s6
    generalize upd (upd (upd H3 pT (.tup as)) pe (.tup [.str "end"])) pe2 (.tup [.ref pe]) = H6 at s36 gT ge ge2 ⊢
    refine catA_any (.inl (.inl gT)) (.inl (.inl ge2)) (Nat.le_of_lt (small1000 (by rw [la]; show qs.length + 1 ≤ 1000; omega))) fun pC H7 s7 c7 => ?_
    refine ⟨(by show 1 ≤ sizeLine; decide), fun pL hpL => ?_⟩
    have s8 : Same H7 (upd H7 pL (.tup [.str "live"])) := Same.upd hpL
    have s37 := s36.trans s7
    have fin : ∀ (pM : Addr) (H9 : Hp), Same H7 H9 → SqT K H9 pM (List.replicate ys.length (V.str "live")) → 2 ≤ sizeLine ∧ ∀ p, H9 p = none → tT D [some (.ref a), some (.ref m), v2, some (.ref pS), v4, some (.ref pQ), v6, some (.ref pB), v8, v9, some (.ref p), v11] (upd H9 p (.lst [.ref pC, .ref pM])) := fun pM H9 s9 gM => by
      refine ⟨(by decide), fun p hp => ?_⟩
      have sp : Same H9 (upd H9 p (.lst [.ref pC, .ref pM])) := Same.upd hp
      have s19 := ((s3.trans s37).trans s9).trans sp
      have T9 := T.ext (Same.toN s19)
      have np := (Mch.same ((s3.trans s37).trans s9) T.M).ne hp
      refine zT D _ a m l n pS xs ys pQ pB qs ds _ v2 v4 v6 v8 v9 v11 T9 (Tabs.same tb s19) (s19 _ _ gB) ?_ fun v9 v10 v11 H3 e3 t3 => nx v9 v10 v11 H3 ((Same.toN s19).trans e3) t3
      refine .lst upd_same np.1 np.2 (.cons ?_ (.cons (.tup (Same.seqT sp gM) (live_dq _)) .nil))
      have sH := (s7.trans s9).trans sp
      refine .tup (Same.seqT (s9.trans sp) c7) (DqAll.app ?_ (.cons (.tup (.inl (.inl (sH _ _ ge))) (.cons (.str _) .nil)) .nil))
      exact (da.keep fun b xs e => (s37.trans (s9.trans sp)) _ _ e).dq T9.qd
    refine ⟨_, rfl, .ref pS, xs.length, rfl, .inr ⟨xs, Same.seqT ((s3.trans s37).trans s8) T.s, rfl⟩, pL, (xs.length : Int), [V.str "live"], rfl, rfl, .inl (.inl upd_same), (fun z => nomatch z), by omega, by omega, (by show 1 ≤ 1000; decide), fun e1 => ?_, fun e2 p2 hp2 => ?_⟩
    · have : ys.length = 1 := by omega
      exact fin pL _ s8 (by rw [this]; exact .inl (.inl upd_same))
    · have e3 : (xs.length : Int).toNat = ys.length := by omega
      rw [e3, flat_rep]
      exact fin p2 _ (s8.trans (Same.upd hp2)) (.inl (.inl upd_same))
theorem law_bads {tT : TS} (hen : mg "enumerate" = none) (gA : mg "_law_is_name" = some (.ref fA)) (FA : Fun K "_law_is_name" "_law_is_name" sIsName fA fdA) (bA : Binds K fdA ["thing"] []) (GA : FnOk P w K mg base CX0 1 fA fdA ["thing"] (spName K))
    (hr : Room 11 (callerA.deeper (envOfC "law" (defScope sLaw) s.heap.objs.size f (.ref c))))
    (dT : PSs (cxOf CX0 P w K mg base NL "law" (defScope sLaw) f (.ref c) callerA [] s H0 Eb).nox (bTurn.drop 4) tT)
    (zT : ∀ (D : Ends) (H1 : Hp) (a m l : Addr) (n : Nat) (pS : Addr) (xs : List V) (ys : List (Str × Int)) (pQ pB : Addr) (qs : List V) (ds : List PyData) (v2 v4 v6 v8 v9 v10 v11 : Option V),
      T8 K H1 m l n pS xs ys pQ qs ds → Tabs [(Pt, lamQ)] H1 → H1 pB = some (.lst ((badF 0 ds).map V.int)) →
      (∀ (v9 v10 v11 : Option V) (H2 : Hp), ExtN H1 H2 → Tabs [(Pt, lamQ)] H2 → D.nx [some (.ref a), some (.ref m), v2, some (.ref pS), v4, some (.ref pQ), v6, some (.ref pB), v8, v9, v10, v11] H2) →
      tT D [some (.ref a), some (.ref m), v2, some (.ref pS), v4, some (.ref pQ), v6, some (.ref pB), v8, v9, v10, v11] H1) :
    ∃ t, PSs (cxOf CX0 P w K mg base NL "law" (defScope sLaw) f (.ref c) callerA [] s H0 Eb).nox (bTurn.drop 3) t ∧ ∀ (D : Ends) (H1 : Hp) (a m l : Addr) (n : Nat) (pS : Addr) (xs : List V) (ys : List (Str × Int)) (pQ : Addr) (qs : List V) (ds : List PyData) (v2 v4 v6 v7 v8 v9 v10 v11 : Option V),
      T8 K H1 m l n pS xs ys pQ qs ds → Tabs [(Pt, lamQ)] H1 →
      (∀ (v7 v9 v10 v11 : Option V) (H2 : Hp), ExtN H1 H2 → Tabs [(Pt, lamQ)] H2 → D.nx [some (.ref a), some (.ref m), v2, some (.ref pS), v4, some (.ref pQ), v6, v7, v8, v9, v10, v11] H2) →
      t D [some (.ref a), some (.ref m), v2, some (.ref pS), v4, some (.ref pQ), v6, v7, v8, v9, v10, v11] H1 := by
  have hr1 : Room 1 (callerA.deeper (envOfC "law" (defScope sLaw) s.heap.objs.size f (.ref c))) := hr.mono (by decide)
  refine ⟨_, pss_cons (ps_setLc (i := 7) (own := [("at", 8), ("one", 9)]) (g := gTup K 2 (gCons (gName 8) (gCons (gName 9) gNil))) (by rfl) scL.nd rfl (by rfl) (by rfl) (pi_enum (by rfl) hen (pa_cons (pv 5) pa_nil)) (blkOk_by (own := [("at", 8), ("one", 9)]) (N := NL) (sc := defScope sLaw) (by decide +kernel))
      (fun _ _ _ _ _ => pg_tup rfl (pgs_cons (pg_name (i := 8) scL.nd rfl (Or.inl rfl)) (pgs_cons (pg_name (i := 9) scL.nd rfl (Or.inl rfl)) pgs_nil))) (fun _ _ _ _ _ => pts_one (pt_not (pt_val (pe_call GA hr1 (by rfl) gA FA.kp bA .nil pass0 (pa_cons (pv 9) pa_nil))))) (fun _ _ _ _ _ => pv 8)) dT, ?_⟩
  intro D H1 a m l n pS xs ys pQ qs ds v2 v4 v6 v7 v8 v9 v10 v11 T tb nx
  have lq := T.qd.len
  have l16 := T.l16
  refine ⟨_, rfl, pQ, qs, rfl, SqL.of T.q, fun Dl hDl => ?_⟩
  refine lc_it (walk_enum (xs := qs)) (fun i H3 => Same H1 H3 ∧ H3 Dl = some (.lst ((badF 0 (ds.take i)).map V.int))) ⟨Same.upd hDl, by rw [upd_same]; rfl⟩ (fun i H3 _ ⟨s3, _⟩ => SqL.of (s3 _ _ T.q)) ?_ ?_
  · rintro i x H3 H4 hi ⟨s3, gD⟩ ⟨TT, x1, x2, rfl, hT, rfl, e1', e2'⟩
    have ex1 : x1 = .int (i : Nat) := (Option.some.inj e1').symm
    subst ex1
    obtain ⟨e, he, dqe⟩ := T.qd.get e2'
    have hid : i < ds.length := by omega
    have ti : ds.take (i + 1) = ds.take i ++ [e] := by rw [List.take_succ, he]; rfl
    have lt : (ds.take i).length = i := by rw [List.length_take]; omega
    have sT : Same H3 (upd H3 TT (.tup [.int (i : Nat), x2])) := Same.upd hT
    have s4 := s3.trans sT
    refine ⟨TT, _, rfl, .inl (.inl upd_same), rfl, _, _, rfl, _, _, rfl, rfl, rfl, ?_⟩
    refine ⟨_, rfl, m, l, x2, e, rfl, Dq.same s4 e x2 dqe, fun z ez => ((T.it e (List.mem_of_getElem? he)).sok z ez).mono (by decide), fun H5 s5 => ⟨_, rfl, ?_⟩⟩
    have gD5 := s5 _ _ (sT _ _ gD)
    have bs := badF_snoc 0 (ds.take i) e
    rw [lt, Nat.zero_add] at bs
    cases hb : isName e with
    | true =>
      rw [hb, if_pos rfl, List.append_nil] at bs
      refine ifF rfl ⟨s4.trans s5, ?_⟩
      rw [ti, bs]; exact gD5
    | false =>
      rw [hb, if_neg Bool.false_ne_true] at bs
      refine ifT rfl ⟨_, rfl, _, gD5, small1000 (by rw [List.length_map]; have := badF_len 0 (ds.take i); omega), fun b o hc => ?_, ?_⟩
      · rw [upd_ne (ne_of_none hc hDl)]
        exact s5 _ _ (s4 _ _ hc)
      · rw [upd_same, ti, bs, List.map_append]; rfl
  · rintro H3 ⟨s3, gD⟩
    rw [List.take_of_length_le (by omega)] at gD
    exact zT D H3 a m l n pS xs ys pQ Dl qs ds v2 v4 v6 v8 v9 v10 v11 (T.ext (Same.toN s3)) (Tabs.same tb s3) gD fun v9 v10 v11 H4 e4 t4 => nx _ v9 v10 v11 H4 ((Same.toN s3).trans e4) t4
end
end Ms
namespace Ms
open PySem PySem.Spec PyProof.Rows L2 LamX StX ClX
section
variable {K : PySem.W.Frag} {H : Hp} {m l pQ : Addr} {n : Nat} {u : List V} {o : List V}
theorem seqT_upd (h : H pQ = some (.lst u)) {a : Addr} {xs : List V} (e : SqT K H a xs) : SqT K (upd H pQ (.lst o)) a xs := by
  rcases e with (e | ⟨o', e⟩) | e
  · exact .inl (.inl (by rw [upd_ne (ne_of e h (by intro z; cases z))]; exact e))
  · exact .inl (.inr ⟨o', by rw [upd_ne (ne_of e h (by intro z; cases z))]; exact e⟩)
  · exact .inr e
theorem prs_upd (h : H pQ = some (.lst u)) {xs : List V} {ys : List (Str × Int)} (p : PrTs K H xs ys) : PrTs K (upd H pQ (.lst o)) xs ys := by
  induction p with
  | nil => exact .nil
  | cons h1 _ ih =>
    obtain ⟨a, e, ha⟩ := h1
    exact .cons ⟨a, e, seqT_upd h ha⟩ ih
theorem prs_dq {xs : List V} {ys : List (Str × Int)} (p : PrTs K H xs ys) : DqAll K H m l xs (prD ys) := by
  induction p with
  | nil => exact .nil
  | cons h1 _ ih =>
    obtain ⟨a, rfl, ha⟩ := h1
    exact .cons (.tup ha (.cons (.str _) (.cons (.int _) .nil))) ih
theorem mch_upd {w : Str} {r : List V} (h : H pQ = some (.lst (.str w :: r))) (M : Mch H m l n) : Mch (upd H pQ (.lst o)) m l n := by
  obtain ⟨c, cs, ls, z, h1, h2, h3, h4⟩ := M.ex
  have nos : ∀ {b : Addr} {is : List Int}, H b = some (.lst (is.map V.int)) → b ≠ pQ := fun {b is} e eq => by
    rw [eq, h] at e
    cases is with
    | nil => cases e
    | cons i is => cases e
  exact ⟨c, cs, ls, z, by rw [upd_ne (ne_of h1 h (by intro z; cases z))]; exact h1, by rw [upd_ne (nos h2)]; exact h2, by rw [upd_ne (nos h3)]; exact h3, h4⟩
theorem tabs_upd {T : List (Addr × Str)} (h : H pQ = some (.lst u)) (t : Tabs T H) : Tabs T (upd H pQ (.lst o)) := fun p hp => by
  obtain ⟨ps, h1, h2, h3⟩ := t p hp
  refine ⟨ps, by rw [upd_ne (ne_of h1 h (by intro z; cases z))]; exact h1, h2, fun pos cv hc => ?_⟩
  obtain ⟨c, e1, e2⟩ := h3 pos cv hc
  exact ⟨c, e1, by rw [upd_ne (ne_of e2 h (by intro z; unfold CodeO at z; cases z))]; exact e2⟩
theorem dq_set : ∀ {vs : List V} {ds : List PyData} {v : V} {d : PyData} (j : Nat), DqAll K H m l vs ds → Dq K H m l v d → DqAll K H m l (vs.set j v) (ds.set j d)
  | [], _, _, _, _, h, _ => by cases h; exact .nil
  | _ :: _, _, _, _, 0, h, k => by cases h with | cons h1 h2 => exact .cons k h2
  | _ :: _, _, _, _, j + 1, h, k => by cases h with | cons h1 h2 => exact .cons h1 (dq_set j h2 k)
end
section
variable {P : Program} {w : World} {K : PySem.W.Frag} {mg : Str → Option Value} {base : Heap} {f c Pt fN : Addr} {fdN : FuncData} {s : Shared} {H0 : Hp} {Eb : XK}
theorem law_odd8 {tT : TS} (T0 : TxtN mg fN) (FN : Fun K "_law_next" "_law_next" sNext fN fdN) (bN : Binds K fdN ["m", "many"] []) (GN : FnOk P w K mg base CX0 1 fN fdN ["m", "many"] spNext)
    (hr : Room 11 (callerA.deeper (envOfC "law" (defScope sLaw) s.heap.objs.size f (.ref c))))
    (dT : PSs (cxOf CX0 P w K mg base NL "law" (defScope sLaw) f (.ref c) callerA [] s H0 Eb).nox (bTurn.drop 3) tT)
    (zT : ∀ (D : Ends) (H1 : Hp) (a m l : Addr) (n : Nat) (pS : Addr) (xs : List V) (ys : List (Str × Int)) (pQ : Addr) (qs : List V) (ds : List PyData) (v2 v4 v6 v7 v8 v9 v10 v11 : Option V),
      T8 K H1 m l n pS xs ys pQ qs ds → Tabs [(Pt, lamQ)] H1 →
      (∀ (v7 v9 v10 v11 : Option V) (H2 : Hp), ExtN H1 H2 → Tabs [(Pt, lamQ)] H2 → D.nx [some (.ref a), some (.ref m), v2, some (.ref pS), v4, some (.ref pQ), v6, v7, v8, v9, v10, v11] H2) →
      tT D [some (.ref a), some (.ref m), v2, some (.ref pS), v4, some (.ref pQ), v6, v7, v8, v9, v10, v11] H1) :
    ∃ t, PSs (cxOf CX0 P w K mg base NL "law" (defScope sLaw) f (.ref c) callerA [] s H0 Eb).nox (bTurn.drop 2) t ∧ ∀ (D : Ends) (H1 : Hp) (a m l : Addr) (n : Nat) (pS : Addr) (xs : List V) (ys : List (Str × Int)) (pQ : Addr) (ws : List Str) (v2 v4 v6 v7 v8 v9 v10 v11 : Option V),
      T8 K H1 m l n pS xs ys pQ (ws.map V.str) (ws.map .str) → (∀ z ∈ ws, nmOk z) → n < 300000 → Tabs [(Pt, lamQ)] H1 →
      (∀ (v7 v9 v10 v11 : Option V) (l' : Addr) (H2 : Hp), Mch H2 m l' (n + 3) → Tabs [(Pt, lamQ)] H2 → D.nx [some (.ref a), some (.ref m), v2, some (.ref pS), v4, some (.ref pQ), v6, v7, v8, v9, v10, v11] H2) →
      t D [some (.ref a), some (.ref m), v2, some (.ref pS), v4, some (.ref pQ), v6, v7, v8, v9, v10, v11] H1 := by
  have hr1 : Room 1 (callerA.deeper (envOfC "law" (defScope sLaw) s.heap.objs.size f (.ref c))) := hr.mono (by decide)
  refine ⟨_, pss_cons (ps_if (PW.pt (pw_and (pt_cmpR (op_neD hr.units) (pv 5) (pe_lst pa_nil) (nomark _)) (pw_and1 (pt_cmpR op_eq (pe_call GN hr1 (by rfl) T0.next FN.kp bN .nil pass0 (pa_cons (pv 1) (pa_cons pe_int pa_nil))) pe_int (nomark _)))))
      (pss_one (ps_asg (pe_ix (show IxR _ (rIxL K) from ix_list) (pe_lst (pa_cons pe_non (pa_cons pe_int (pa_cons pe_str (pa_cons pe_str (pa_cons (pe_tup (pa_cons pe_str pa_nil)) (pa_cons pe_str (pa_cons (pe_lst pa_nil) pa_nil)))))))) (pe_call GN hr1 (by rfl) T0.next FN.kp bN .nil pass0 (pa_cons (pv 1) (pa_cons pe_int pa_nil))) (fun _ _ => rfl))
        (pg_sub (pv 5) (pe_call GN hr1 (by rfl) T0.next FN.kp bN .nil pass0 (pa_cons (pv 1) (pa_cons (pe_callB call_len_seq (by rfl) T0.len PySem.boot_len (pa_cons (pv 5) pa_nil)) pa_nil))) set_list))) pss_nil) dT, ?_⟩
  intro D H1 a m l n pS xs ys pQ ws v2 v4 v6 v7 v8 v9 v10 v11 T hw hn tb nx
  have l16 := T.l16
  rw [List.length_map] at l16
  -- where nothing is stored
  have stay : ∀ (H2 : Hp) (l' : Addr) (n' : Nat), T8 K H2 m l' n' pS xs ys pQ (ws.map V.str) (ws.map .str) → n' ≤ n + 3 → Tabs [(Pt, lamQ)] H2 → tT D [some (.ref a), some (.ref m), v2, some (.ref pS), v4, some (.ref pQ), v6, v7, v8, v9, v10, v11] H2 := fun H2 l' n' T2 hn' t2 =>
    zT D H2 a m l' n' pS xs ys pQ _ _ v2 v4 v6 v7 v8 v9 v10 v11 T2 t2 fun v7 v9 v10 v11 H3 e3 t3 => nx v7 v9 v10 v11 l' H3 ((Mch.ext e3 T2.M).mono hn') t3
  refine ⟨_, rfl, (by show 0 ≤ sizeLine; decide), fun p hp => ?_⟩
  have s2 : Same H1 (upd H1 p (.lst [])) := Same.upd hp
  have gsh : SeqAt.shaped (.list (ws.map .str)) = true := shaped_of (Gd.lst (strs_good8 ws fun z hz => (hw z hz).ok)) (by show noDiAll (ws.map .str) = true; exact noDi_all fun y hy => by obtain ⟨z, _, rfl⟩ := List.mem_map.mp hy; rfl) (by decide)
  refine ⟨.list (ws.map .str), .list [], .lst (SqL.of (s2 _ _ T.q)) (dpAll_strs _), .lst (SqL.of upd_same) .nil, gsh, (by rfl), _, rfl, ?_⟩
  have T2 := T.ext (Same.toN s2)
  have t2 := Tabs.same tb s2
  generalize upd H1 p (.lst []) = H2 at s2 T2 t2 ⊢
  cases ws with
  | nil => exact ifF rfl (ifF rfl (stay H2 l n T2 (by omega) t2))
  | cons w0 wr =>
    refine ifT rfl ?_
    refine ⟨_, rfl, m, l, n, 3, rfl, T2.M, by omega, by decide, by decide, fun r l3 H3 r0 r3 M3 f3 => ?_⟩
    have k3 := T2.M.step f3
    have qne : ∀ {H : Hp} {l : Addr} {n : Nat}, Mch H m l n → H pQ = some (.lst ((w0 :: wr).map V.str)) → pQ ≠ m ∧ pQ ≠ l := fun {H l n} M q => by
      obtain ⟨c0, cs, ls, z, e1, _, e3, _⟩ := M.ex
      refine ⟨fun e => ?_, fun e => ?_⟩
      · rw [e, e1] at q; cases q
      · rw [e, e3] at q
        cases ls with
        | nil => cases q
        | cons i ls => cases q
    have q2 := qne T2.M T2.q
    have gQ3 : H3 pQ = some (.lst ((w0 :: wr).map V.str)) := f3.keep pQ _ T2.q q2.1 q2.2
    have T3 : T8 K H3 m l3 (n + 1) pS xs ys pQ ((w0 :: wr).map V.str) ((w0 :: wr).map .str) :=
      ⟨M3, T2.so, k3.tup T2.s, DqAll.step k3 _ _ T2.sd, gQ3, strs_dq _, T2.it, T2.ql⟩
    have t3 := Tabs.fr T2.M f3 t2
    refine ⟨rfl, _, rfl, ite_b (fun e => ?_) (fun e => stay H3 l3 (n + 1) T3 (by omega) t3)⟩
    -- the value
    refine ⟨(by show 1 ≤ sizeLine; decide), fun pt hpt => ⟨(by show 0 ≤ sizeLine; decide), fun pl hpl => ⟨(by show 7 ≤ sizeLine; decide), fun p7 hp7 => ?_⟩⟩⟩
    have sa : Same H3 (upd H3 pt (.tup [.str "a"])) := Same.upd hpt
    have sb : Same (upd H3 pt (.tup [.str "a"])) (upd (upd H3 pt (.tup [.str "a"])) pl (.lst [])) := Same.upd hpl
    have sc : Same (upd (upd H3 pt (.tup [.str "a"])) pl (.lst [])) (upd (upd (upd H3 pt (.tup [.str "a"])) pl (.lst [])) p7 (.lst [.non, .int 5, .str "", .str "A", .ref pt, .str "abcdefghi", .ref pl])) := Same.upd hp7
    have gt := (sb.trans sc) _ _ (upd_same (H := H3) (a := pt) (o := .tup [.str "a"]))
    have gl := sc _ _ (upd_same (H := upd H3 pt (.tup [.str "a"])) (a := pl) (o := .lst []))
    have g7 := (upd_same (H := upd (upd H3 pt (.tup [.str "a"])) pl (.lst [])) (a := p7) (o := .lst [.non, .int 5, .str "", .str "A", .ref pt, .str "abcdefghi", .ref pl]))
    have s34 := (sa.trans sb).trans sc
    have nl3 := (Mch.same sa M3).ne hpl
    have n7 := (Mch.same (sa.trans sb) M3).ne hp7
    have nlQ : pl ≠ pQ := fun e => by rw [e, sa _ _ gQ3] at hpl; cases hpl
    generalize upd (upd (upd H3 pt (.tup [.str "a"])) pl (.lst [])) p7 (.lst [.non, .int 5, .str "", .str "A", .ref pt, .str "abcdefghi", .ref pl]) = H4 at s34 gt gl g7 ⊢
    have M4 := Mch.same s34 M3
    refine ⟨_, rfl, m, l3, n + 1, 7, rfl, M4, by omega, by decide, by decide, fun r l5 H5 r0 r7 M5 f5 => ?_⟩
    have k5 := M4.step f5
    have gt5 : SqT K H5 pt [.str "a"] := k5.tup (.inl (.inl gt))
    have gl5 : H5 pl = some (.lst []) := f5.keep pl _ gl nl3.1 nl3.2
    have nl5 := k5.ne pl _ gl nl3.2
    have g75 : H5 p7 = some (.lst [.non, .int 5, .str "", .str "A", .ref pt, .str "abcdefghi", .ref pl]) := f5.keep p7 _ g7 n7.1 n7.2
    have T4 := T3.ext (Same.toN s34)
    have q4 := qne M4 T4.q
    have gQ5 : H5 pQ = some (.lst ((w0 :: wr).map V.str)) := f5.keep pQ _ T4.q q4.1 q4.2
    obtain ⟨v, d, hv, hod, hdv⟩ : ∃ v d, atI ([.non, .int 5, .str "", .str "A", .ref pt, .str "abcdefghi", .ref pl] : List V) r = some v ∧ d ∈ odds ∧ ∀ (H' : Hp) (l' : Addr), SqT K H' pt [.str "a"] → H' pl = some (.lst []) → pl ≠ l' → Dq K H' m l' v d := by
      obtain ⟨j, rfl⟩ : ∃ j : Nat, r = (j : Int) := ⟨r.toNat, by omega⟩
      have hj : j < 7 := by omega
      match j, hj with
      | 0, _ => exact ⟨_, .none, rfl, by simp [odds], fun _ _ _ _ _ => .non⟩
      | 1, _ => exact ⟨_, .int 5, rfl, by simp [odds], fun _ _ _ _ _ => .int _⟩
      | 2, _ => exact ⟨_, .str "", rfl, by simp [odds], fun _ _ _ _ _ => .str _⟩
      | 3, _ => exact ⟨_, .str "A", rfl, by simp [odds], fun _ _ _ _ _ => .str _⟩
      | 4, _ => exact ⟨_, .tuple [.str "a"], rfl, by simp [odds], fun _ _ h _ _ => .tup h (.cons (.str _) .nil)⟩
      | 5, _ => exact ⟨_, .str "abcdefghi", rfl, by simp [odds], fun _ _ _ _ _ => .str _⟩
      | 6, _ => exact ⟨_, .list [], rfl, by simp [odds], fun _ _ _ h k => .lst h nl3.1 k .nil⟩
    refine ⟨p7, _, r, v, rfl, rfl, SqL.of g75, hv, ?_⟩
    -- where it is stored
    have lw : (w0 :: wr).length ≤ 16 := l16
    refine ⟨_, rfl, _, rfl, _, rfl, pQ, _, rfl, .inl (SqL.of gQ5), m, l5, n + 1 + 1, (((w0 :: wr).map V.str).length : Int), rfl, M5, by omega, (by rw [List.length_map]; simp), (by rw [List.length_map]; omega), fun r2 l6 H6 r0' r7' M6 f6 => ?_⟩
    have k6 := M5.step f6
    have q5 := qne M5 gQ5
    have gQ6 : H6 pQ = some (.lst ((w0 :: wr).map V.str)) := f6.keep pQ _ gQ5 q5.1 q5.2
    have gl6 : H6 pl = some (.lst []) := f6.keep pl _ gl5 nl3.1 nl5
    have nl6 := k6.ne pl _ gl5 nl5
    obtain ⟨j, rfl⟩ : ∃ j : Nat, r2 = (j : Int) := ⟨r2.toNat, by omega⟩
    have hj : j < ((w0 :: wr).map V.str).length := by omega
    refine ⟨pQ, _, (j : Int), j, rfl, rfl, gQ6, (by unfold ixN; rw [if_pos (by omega), if_pos (by omega)]; rfl), ?_⟩
    have pr6 : PrTs K H6 xs ys := prD_trs (m := m) (l := l6) ys _ (DqAll.step k6 _ _ (DqAll.step k5 _ _ T4.sd))
    have ss6 : SqT K H6 pS xs := k6.tup (k5.tup T4.s)
    have gQ6' : H6 pQ = some (.lst (V.str w0 :: wr.map V.str)) := gQ6
    have M7 : Mch (upd H6 pQ (.lst (((w0 :: wr).map V.str).set j v))) m l6 (n + 3) := mch_upd gQ6' M6
    have T7 : T8 K (upd H6 pQ (.lst (((w0 :: wr).map V.str).set j v))) m l6 (n + 3) pS xs ys pQ (((w0 :: wr).map V.str).set j v) (((w0 :: wr).map PyData.str).set j d) := by
      refine ⟨M7, T2.so, seqT_upd gQ6 ss6, prs_dq (prs_upd gQ6 pr6), upd_same, dq_set j (strs_dq _) (hdv _ l6 (seqT_upd gQ6 (k6.tup gt5)) (by rw [upd_ne nlQ]; exact gl6) nl6), fun e he => ?_, by rw [List.length_set]; exact T2.ql⟩
      rcases List.mem_or_eq_of_mem_set he with he | he
      · exact T2.it e he
      · rw [he]; exact .inr hod
    have t7 : Tabs [(Pt, lamQ)] (upd H6 pQ (.lst (((w0 :: wr).map V.str).set j v))) := tabs_upd gQ6 (Tabs.fr M5 f6 (Tabs.fr M4 f5 (Tabs.same t3 s34)))
    exact zT D _ a m l6 (n + 3) pS xs ys pQ _ _ v2 v4 v6 v7 v8 v9 v10 v11 T7 t7 fun v7 v9 v10 v11 H8 e8 t8 => nx v7 v9 v10 v11 l6 H8 (Mch.ext e8 M7) t8
end
end Ms
namespace Ms
open PySem PySem.Spec PyProof.Rows L2 LamX StX ClX
section
variable {P : Program} {w : World} {K : PySem.W.Frag} {mg : Str → Option Value} {base : Heap} {f c Pt fN fM fSe : Addr} {fdN fdM fdS : FuncData} {s : Shared} {H0 : Hp} {Eb : XK}
theorem law_draw8 {tT : TS} (T0 : TxtN mg fN) (gSe : mg "_law_settings" = some (.ref fSe)) (gM : mg "_law_names" = some (.ref fM)) (FN : Fun K "_law_next" "_law_next" sNext fN fdN) (bN : Binds K fdN ["m", "many"] []) (GN : FnOk P w K mg base CX0 1 fN fdN ["m", "many"] spNext)
    (FM : Fun K "_law_names" "_law_names" sNames fM fdM) (bM : Binds K fdM ["m", "many"] []) (GM : FnOk P w K mg base CX0 2 fM fdM ["m", "many"] spNamesV)
    (FS : Fun K "_law_settings" "_law_settings" sSettings fSe fdS) (bS : Binds K fdS ["m"] []) (GS : FnOk P w K mg base CX0 3 fSe fdS ["m"] spSettingsV)
    (hr : Room 11 (callerA.deeper (envOfC "law" (defScope sLaw) s.heap.objs.size f (.ref c))))
    (dT : PSs (cxOf CX0 P w K mg base NL "law" (defScope sLaw) f (.ref c) callerA [] s H0 Eb).nox (bTurn.drop 2) tT)
    (zT : ∀ (D : Ends) (H1 : Hp) (a m l : Addr) (n : Nat) (pS : Addr) (xs : List V) (ys : List (Str × Int)) (pQ : Addr) (ws : List Str) (v2 v4 v6 v7 v8 v9 v10 v11 : Option V),
      T8 K H1 m l n pS xs ys pQ (ws.map V.str) (ws.map .str) → (∀ z ∈ ws, nmOk z) → n < 300000 → Tabs [(Pt, lamQ)] H1 →
      (∀ (v7 v9 v10 v11 : Option V) (l' : Addr) (H2 : Hp), Mch H2 m l' (n + 3) → Tabs [(Pt, lamQ)] H2 → D.nx [some (.ref a), some (.ref m), v2, some (.ref pS), v4, some (.ref pQ), v6, v7, v8, v9, v10, v11] H2) →
      tT D [some (.ref a), some (.ref m), v2, some (.ref pS), v4, some (.ref pQ), v6, v7, v8, v9, v10, v11] H1) :
    ∃ t, PSs (cxOf CX0 P w K mg base NL "law" (defScope sLaw) f (.ref c) callerA [] s H0 Eb).nox bTurn t ∧ ∀ (D : Ends) (H1 : Hp) (a m l : Addr) (n : Nat) (v2 v3 v4 v5 v6 v7 v8 v9 v10 v11 : Option V),
      Mch H1 m l n → n < 200000 → Tabs [(Pt, lamQ)] H1 →
      (∀ (v3 v4 v5 v6 v7 v8 v9 v10 v11 : Option V) (l' : Addr) (H2 : Hp), Mch H2 m l' (n + 100) → Tabs [(Pt, lamQ)] H2 → D.nx [some (.ref a), some (.ref m), v2, v3, v4, v5, v6, v7, v8, v9, v10, v11] H2) →
      t D [some (.ref a), some (.ref m), v2, v3, v4, v5, v6, v7, v8, v9, v10, v11] H1 := by
  have hr1 : Room 1 (callerA.deeper (envOfC "law" (defScope sLaw) s.heap.objs.size f (.ref c))) := hr.mono (by decide)
  have hr2 : Room 2 (callerA.deeper (envOfC "law" (defScope sLaw) s.heap.objs.size f (.ref c))) := hr.mono (by decide)
  have hr3 : Room 3 (callerA.deeper (envOfC "law" (defScope sLaw) s.heap.objs.size f (.ref c))) := hr.mono (by decide)
  refine ⟨_, pss_cons (ps_asg (pe_tup (pa_cons (pe_call GS hr3 (by rfl) gSe FS.kp bS .nil pass0 (pa_cons (pv 1) pa_nil)) (pa_cons (pe_call GM hr2 (by rfl) gM FM.kp bM .nil pass0 (pa_cons (pv 1) (pa_cons pe_int pa_nil))) pa_nil)))
      (pg_tup rfl (pgs_cons (pg_name (i := 3) scL.nd rfl (by first | exact Or.inl rfl | exact Or.inr rfl)) (pgs_cons (pg_name (i := 4) scL.nd rfl (by first | exact Or.inl rfl | exact Or.inr rfl)) pgs_nil))))
    (pss_cons (ps_set (i := 5) scL.nd rfl (by first | exact Or.inl rfl | exact Or.inr rfl) (pe_lc (own := [("k", 6)]) (g := gName 6) (by rfl) scL.nd (pi_range1 (by rfl) T0.range (pa_cons (pe_ix (show IxR _ (rIxL K) from ix_list) (pe_lst (pa_cons pe_int (pa_cons pe_int (pa_cons pe_int (pa_cons pe_int (pa_cons pe_int (pa_cons pe_int pa_nil))))))) (pe_call GN hr1 (by rfl) T0.next FN.kp bN .nil pass0 (pa_cons (pv 1) (pa_cons pe_int pa_nil))) (fun _ _ => rfl)) pa_nil)) (blkOk_by (own := [("k", 6)]) (N := NL) (sc := defScope sLaw) (by decide +kernel))
        (fun _ _ _ _ _ => pg_name (i := 6) scL.nd rfl (Or.inl rfl)) (fun _ _ _ _ _ => pts_nil) (fun _ _ _ _ _ => pe_ix (show IxR _ (rIxL K) from ix_list) (pv 4) (pe_lock (pe_call GN hr1 (by rfl) T0.next FN.kp bN .nil pass0 (pa_cons (pv 1) (pa_cons pe_int pa_nil)))) (fun _ _ => rfl)))) dT), ?_⟩
  intro D H1 a m l n v2 v3 v4 v5 v6 v7 v8 v9 v10 v11 M hn tb nx
  refine ⟨_, rfl, m, l, n, rfl, M, by omega, fun pS as ys l1 H2 gp pr so M1 f1 => ?_⟩
  have t2 := Tabs.fr M f1 tb
  refine ⟨_, rfl, m, l1, n + 12, 3, rfl, M1, by omega, by decide, by decide, fun pW ws l2 H3 hpW gW lw wd wok nWm nWl M2 f2 => ?_⟩
  have k2 := M1.step f2
  have t3 := Tabs.fr M1 f2 t2
  have dS : Dq K H3 m l2 (.ref pS) (.tuple (prD ys)) := Dq.step k2 _ _ (.tup (.inl (.inl gp)) pr.dq)
  refine ⟨(by show 2 ≤ sizeLine; decide), fun pP hpP => ⟨pP, _, rfl, .inl (.inl upd_same), rfl, _, _, rfl, _, _, rfl, rfl, ?_⟩⟩
  have s3 : Same H3 (upd H3 pP (.tup [.ref pS, .ref pW])) := Same.upd hpP
  refine ⟨(by show 6 ≤ sizeLine; decide), fun p6 hp6 => ?_⟩
  have s4 : Same (upd H3 pP (.tup [.ref pS, .ref pW])) (upd (upd H3 pP (.tup [.ref pS, .ref pW])) p6 (.lst [.int 0, .int 1, .int 2, .int 4, .int 15, .int 16])) := Same.upd hp6
  have g6 := (upd_same (H := upd H3 pP (.tup [.ref pS, .ref pW])) (a := p6) (o := .lst [.int 0, .int 1, .int 2, .int 4, .int 15, .int 16]))
  have s34 := s3.trans s4
  have n6 := (Mch.same s3 M2).ne hp6
  generalize upd (upd H3 pP (.tup [.ref pS, .ref pW])) p6 (.lst [.int 0, .int 1, .int 2, .int 4, .int 15, .int 16]) = H4 at s34 g6 ⊢
  have M4 := Mch.same s34 M2
  refine ⟨_, rfl, m, l2, n + 12 + 11, 6, rfl, M4, by omega, by decide, by decide, fun r l5 H5 r0 r6 M5 f5 => ?_⟩
  have k5 := M4.step f5
  have t5 := Tabs.fr M4 f5 (Tabs.same t3 s34)
  have dS5 := Dq.step k5 _ _ (Dq.same s34 _ _ dS)
  have gW5 : H5 pW = some (.lst (ws.map V.str)) := f5.keep pW _ (s34 _ _ gW) nWm nWl
  have nW5 : pW ≠ l5 := k5.ne pW _ (s34 _ _ gW) nWl
  obtain ⟨k, hk, kk⟩ : ∃ k : Nat, atI ([.int 0, .int 1, .int 2, .int 4, .int 15, .int 16] : List V) r = some (.int (k : Int)) ∧ (k = 0 ∨ k = 1 ∨ k = 2 ∨ k = 4 ∨ k = 15 ∨ k = 16) := by
    obtain ⟨j, rfl⟩ : ∃ j : Nat, r = (j : Int) := ⟨r.toNat, by omega⟩
    have hj : j < 6 := by omega
    match j, hj with
    | 0, _ => exact ⟨0, rfl, by decide⟩
    | 1, _ => exact ⟨1, rfl, by decide⟩
    | 2, _ => exact ⟨2, rfl, by decide⟩
    | 3, _ => exact ⟨4, rfl, by decide⟩
    | 4, _ => exact ⟨15, rfl, by decide⟩
    | 5, _ => exact ⟨16, rfl, by decide⟩
  refine ⟨p6, _, r, _, rfl, rfl, SqL.of (f5.keep p6 _ g6 n6.1 n6.2), hk, _, rfl, by omega, by omega, fun Dl hDl => ?_⟩
  have nD := M5.ne hDl
  have sD : ∀ {o : HO}, Same H5 (upd H5 Dl o) := fun {o} => Same.upd hDl
  refine lc_it (walk_range (lo := 0) (n := ((k : Nat) : Int).toNat)) (fun i H6 => ∃ (Hb : Hp) (od : Obj) (u : List V) (zs : List Str) (l6 : Addr), Hb Dl = some (.frz od (.lst u)) ∧ H6 = upd Hb Dl (.lst (zs.map V.str)) ∧ zs.length = i ∧ (∀ z ∈ zs, nmOk z) ∧ Mch Hb m l6 (n + 24 + i) ∧ Dl ≠ l6 ∧ Hb pW = some (.lst (ws.map V.str)) ∧ pW ≠ l6 ∧ pW ≠ Dl ∧ Tabs [(Pt, lamQ)] Hb ∧ Dq K Hb m l6 (.ref pS) (.tuple (prD ys)))
    ⟨upd H5 Dl (.frz { cls := .none, data := .plain } (.lst [])), _, [], [], l5, upd_same, by rw [upd_upd]; rfl, rfl, (fun z hz => nomatch hz), (Mch.same sD M5).mono (by omega), nD.2, sD _ _ gW5, nW5, ne_of_none gW5 hDl, Tabs.same t5 sD, Dq.same sD _ _ dS5⟩ (fun _ _ _ _ => trivial) ?_ ?_
  · rintro i x H6 H7 hi ⟨Hb, od, u, zs, l6, gD, e6, lz, zo, M6, nDl, gW6, nWl6, nWD, t6, d6⟩ ⟨rfl, ex⟩
    have gDl : H7 Dl = some (.lst (zs.map V.str)) := by rw [e6, upd_same]
    refine ⟨rfl, tyes ⟨_, rfl, Dl, .lst (zs.map V.str), gDl, trivial, fun od2 => ?_⟩⟩
    have el : upd H7 Dl (.frz od2 (.lst (zs.map V.str))) = upd Hb Dl (.frz od2 (.lst (zs.map V.str))) := by rw [e6, upd_upd]
    rw [el]
    have Mu : Mch (upd Hb Dl (.frz od2 (.lst (zs.map V.str)))) m l6 (n + 24 + i) := Mch.unlock gD M6
    have gWu : (upd Hb Dl (.frz od2 (.lst (zs.map V.str)))) pW = some (.lst (ws.map V.str)) := by rw [upd_ne nWD]; exact gW6
    have gDu : (upd Hb Dl (.frz od2 (.lst (zs.map V.str)))) Dl = some (.frz od2 (.lst (zs.map V.str))) := upd_same
    have tu := Tabs.unlock (o := .frz od2 (.lst (zs.map V.str))) gD t6
    have du := Dq.unlock (o := .frz od2 (.lst (zs.map V.str))) gD d6
    generalize upd Hb Dl (.frz od2 (.lst (zs.map V.str))) = Hu at Mu gWu gDu tu du ⊢
    refine ⟨_, rfl, m, l6, n + 24 + i, 3, rfl, Mu, by omega, by decide, by decide, fun r2 l7 H8 r20 r23 M7 f7 => ?_⟩
    have k7 := Mu.step f7
    have gD8 : H8 Dl = some (.frz od2 (.lst (zs.map V.str))) := k7.keep _ _ gDu nD.1 nDl
    have gW8 : H8 pW = some (.lst (ws.map V.str)) := k7.keep _ _ gWu nWm nWl6
    obtain ⟨j, rfl⟩ : ∃ j : Nat, r2 = (j : Int) := ⟨r2.toNat, by omega⟩
    obtain ⟨y, hy⟩ : ∃ y, ws[j]? = some y := ⟨_, List.getElem?_eq_getElem (by omega)⟩
    refine ⟨gD8, pW, _, (j : Int), .str y, rfl, rfl, SqL.of (by rw [upd_ne nWD]; exact gW8), atI_nat (by rw [List.getElem?_map, hy]; rfl), _, upd_same, small1000 (by rw [List.length_map]; omega), ?_⟩
    refine ⟨H8, od2, _, zs ++ [y], l7, gD8, by rw [upd_upd, List.map_append]; rfl, by rw [List.length_append, lz]; rfl, fun z hz => ?_, M7.mono (by omega), k7.ne _ _ gDu nDl, gW8, k7.ne _ _ gWu nWl6, nWD, Tabs.fr Mu f7 tu, Dq.step k7 _ _ du⟩
    rcases List.mem_append.mp hz with hz | hz
    · exact zo z hz
    · rw [List.mem_singleton.mp hz]; exact wok y (List.mem_of_getElem? hy)
  · rintro H6 ⟨Hb, od, u, zs, l6, gD, e6, lz, zo, M6, nDl, gW6, nWl6, nWD, t6, d6⟩
    have lzk : zs.length = k := by rw [lz]; omega
    have M9 : Mch H6 m l6 (n + 24 + 16) := e6 ▸ (Mch.unlock gD M6).mono (by omega)
    have t9 : Tabs [(Pt, lamQ)] H6 := e6 ▸ Tabs.unlock gD t6
    have d9 : Dq K H6 m l6 (.ref pS) (.tuple (prD ys)) := e6 ▸ Dq.unlock gD d6
    have gQ : H6 Dl = some (.lst (zs.map V.str)) := by rw [e6, upd_same]
    obtain ⟨xs, hs9, hd9⟩ : ∃ xs, SqT K H6 pS xs ∧ DqAll K H6 m l6 xs (prD ys) := by
      cases d9 with
      | tup e t => exact ⟨_, e, t⟩
    have T9 : T8 K H6 m l6 (n + 24 + 16) pS xs ys Dl (zs.map V.str) (zs.map .str) :=
      ⟨M9, so, hs9, hd9, gQ, strs_dq _, fun d hd => by obtain ⟨z, hz, rfl⟩ := List.mem_map.mp hd; exact .inl ⟨z, rfl, zo z hz⟩, by rw [List.length_map, lzk]; exact kk⟩
    exact zT D H6 a m l6 _ pS xs ys Dl zs v2 _ v6 v7 v8 v9 v10 v11 T9 zo (by omega) t9 fun v7 v9 v10 v11 l' H2' M' t' => nx _ _ _ v6 v7 v8 v9 v10 v11 l' H2' (M'.mono (by omega)) t'
end
end Ms
namespace Ms
open PySem PySem.Spec PyProof.Rows L2
/-! ### _law_is_whole, _law_is_name -/
section
variable {P : Program} {w : World} {K : PySem.W.Frag} {mg : Str → Option Value} {base : Heap} {fN fM fO fB : Addr}
theorem scWh : FnScope ["thing", "least", "most"] ["thing", "least", "most"] (defScope sIsWhole) := ⟨rfl, rfl, rfl, by decide +kernel, rfl, by decide +kernel, by decide +kernel⟩
theorem ok_wholeQ {f : Addr} {fd : FuncData} (F : Fun K "_law_is_whole" "_law_is_whole" sIsWhole f fd) (T : TxtQ mg) : FnOk P w K mg base CX0 1 f fd ["thing", "least", "most"] (spWhole K) := by
  refine F.ok scWh (fun vs H Q E h => ?_) (fun cdv A outer s H vs Q E hr h => ?_)
  · obtain ⟨m, l, v, d, lo, hi, rfl, _⟩ := h
    rfl
  · obtain ⟨m, l, v, d, lo, hi, rfl, hd, q⟩ := h
    refine ⟨_, pss_one (ps_ret (pe_and (pe_callB call_isi (by rfl) T.isi PyProof.Rows.boot_isinstance (pa_cons (pv 0) (pa_cons (pe_bltn (v := .ty "int") (u := .type "int") (by rfl) T.int (by decide +kernel) rfl) pa_nil)))
      (pe_and (pe_not (pe_callB call_isi (by rfl) T.isi PyProof.Rows.boot_isinstance (pa_cons (pv 0) (pa_cons (pe_bltn (v := .ty "bool") (u := .type "bool") (by rfl) T.bool (by decide +kernel) rfl) pa_nil))))
        (pe_one (pe_chain op_le op_le (pv 1) (pv 0) (pv 2)))))), ?_⟩
    refine ⟨_, rfl, v, .ty "int", _, _, _, rfl, .ty _, hd.ty, isi_int K d, _, rfl, ?_⟩
    cases d with
    | int j =>
      cases hd
      refine ifT rfl ⟨_, rfl, .int j, .ty "bool", _, _, _, rfl, .ty _, .base (.int j), isi_bool K (.int j), _, rfl, _, rfl, ifT rfl ?_⟩
      refine ⟨_, rfl, _, rfl, lo, j, rfl, rfl, _, rfl, ite_b (fun e => ⟨_, rfl, j, hi, rfl, rfl, ?_⟩) (fun e => ?_)⟩
      · have z : isWhole (.int j) lo hi = decide (j ≤ hi) := by show (decide (lo ≤ j) && decide (j ≤ hi)) = _; rw [e]; rfl
        rw [z] at q; exact q
      · have z : isWhole (.int j) lo hi = false := by show (decide (lo ≤ j) && decide (j ≤ hi)) = _; rw [e]; rfl
        rw [z] at q; exact q
    | bool j =>
      cases hd
      exact ifT rfl ⟨_, rfl, .bl j, .ty "bool", _, _, _, rfl, .ty _, .base (.bl j), isi_bool K (.bool j), _, rfl, _, rfl, ifF rfl q⟩
    | _ => exact ifF rfl q
abbrev NNa : List Str := ["thing", "sign"]
theorem scNa : FnScope NNa ["thing"] (defScope sIsName) := ⟨rfl, rfl, rfl, by decide +kernel, rfl, by decide +kernel, by decide +kernel⟩
theorem ok_nameQ {f : Addr} {fd : FuncData} (F : Fun K "_law_is_name" "_law_is_name" sIsName f fd) (T : TxtQ mg) : FnOk P w K mg base CX0 1 f fd ["thing"] (spName K) := by
  refine F.ok scNa (fun vs H Q E h => ?_) (fun cdv A outer s H vs Q E hr h => ?_)
  · obtain ⟨m, l, v, d, rfl, _⟩ := h
    rfl
  · obtain ⟨m, l, v, d, rfl, hd, hz, q⟩ := h
    refine ⟨_, pss_cons (ps_if (PW.pt (pw_or (pt_not (pt_val (pe_callB call_isi (by rfl) T.isi PyProof.Rows.boot_isinstance (pa_cons (pv 0) (pa_cons (pe_bltn (v := .ty "str") (u := .type "str") (by rfl) T.str (by decide +kernel) rfl) pa_nil)))))
        (pw_or1 (pt_not (pt_chain op_le op_le pe_int (pe_callB call_len (by rfl) T.len PySem.boot_len (pa_cons (pv 0) pa_nil)) pe_int))))) (pss_one (ps_ret pe_bl)) pss_nil)
      (pss_one (ps_ret (pe_cmpR (op_eqD hr.units) (pe_lc (own := [("sign", 1)]) (g := gName 1) (by rfl) scNa.nd (pi_str (pv 0)) (blkOk_by (own := [("sign", 1)]) (N := NNa) (sc := defScope sIsName) (by decide +kernel))
        (fun _ _ _ _ _ => pg_name (i := 1) scNa.nd rfl (Or.inl rfl)) (fun _ _ _ _ _ => pts_one (pt_cmpR op_notIn_sign (pv 1) pe_str (by rfl))) (fun _ _ _ _ _ => pv 1)) (pe_lst pa_nil) (nomark _)))), ?_⟩
    refine ⟨_, rfl, v, .ty "str", _, _, _, rfl, .ty _, hd.ty, isi_str K d, _, rfl, ?_⟩
    cases d with
    | str z =>
      cases hd
      have zk := hz z rfl
      have zs : z.length ≤ sizeLine := by rw [sizeLine_eq]; have := zk.1; omega
      refine ifF rfl ?_
      refine ⟨_, rfl, .str z, z.length, rfl, ⟨zs, rfl⟩, 1, (z.length : Int), rfl, rfl, _, rfl, ite_b (fun e1 => ⟨(z.length : Int), 8, rfl, rfl, _, rfl, ite_b (fun e8 => ?_) (fun e8 => ?_)⟩) (fun e1 => ⟨_, rfl, ifT rfl ?_⟩)⟩
      · have ef : isName (.str z) = false := by
          show ((decide (1 ≤ z.length) && decide (z.length ≤ 8)) && _) = false
          have : decide (z.length ≤ 8) = false := by
            simp only [Bool.not_eq_true', decide_eq_false_iff_not] at e8 ⊢
            omega
          rw [this]; simp
        rw [ef] at q
        exact q H (fun _ _ e => e)
      · have z1 : 1 ≤ z.length := by
          have := of_decide_eq_true e1
          omega
        have z8 : z.length ≤ 8 := by
          have e : decide ((z.length : Int) ≤ 8) = true := by simpa using e8
          have := of_decide_eq_true e
          omega
        have en : isName (.str z) = z.cps.toList.all fun c => decide (c ∈ alpha.cps.toList) := by
          show ((decide (1 ≤ z.length) && decide (z.length ≤ 8)) && _) = _
          rw [decide_eq_true z1, decide_eq_true z8]; rfl
        refine ⟨_, rfl, z, rfl, fun D hD => ?_⟩
        refine lc_it walk_str (fun i H3 => ∃ ys : List Str, ys.length ≤ i ∧ (∀ y ∈ ys, PyData.canLay0 (.str y) = true) ∧ (ys.isEmpty = (z.cps.toList.take i).all fun c => decide (c ∈ alpha.cps.toList)) ∧ H3 = upd H D (.lst (ys.map V.str))) ⟨[], Nat.le_refl _, (fun y hy => nomatch hy), rfl, rfl⟩ (fun _ _ _ _ => True.intro) ?_ ?_
        · rintro i x H3 H4 hi ⟨ys, yl, yo, ye, e3⟩ ⟨rfl, c, hc, rfl⟩
          have hc' : z.cps.toList[i]? = some c := by simpa using hc
          have ti : z.cps.toList.take (i + 1) = z.cps.toList.take i ++ [c] := by rw [List.take_succ, hc']; rfl
          refine ⟨rfl, _, rfl, c, alpha, rfl, rfl, _, rfl, ite_b (fun e => ?_) (fun e => ?_)⟩
          · refine ⟨_, rfl, _, by rw [e3]; exact upd_same, small1000 (by rw [List.length_map]; have : z.cps.size ≤ 8 := z8; omega), ys ++ [⟨#[c]⟩], by simp; omega, ?_, ?_, str_grow e3⟩
            · intro y hy
              rcases List.mem_append.mp hy with hy | hy
              · exact yo y hy
              · rw [List.mem_singleton.mp hy]
                have cc : c < 0x110000 := zk.2 c (List.mem_of_getElem? hc')
                simp [PyData.canLay0, PyData.strOk, cc]
            rw [ti, List.all_append]
            have e' : decide (c ∈ alpha.cps.toList) = false := by simpa using e
            simp only [List.all_cons, e', List.all_nil]
            simp
          · refine ⟨ys, by omega, yo, ?_, e3⟩
            have e' : decide (c ∈ alpha.cps.toList) = true := by simpa using e
            rw [ti, List.all_append, ye]
            simp only [List.all_cons, e', List.all_nil]
            simp
        · rintro H3 ⟨ys, yl, yo, ye, e3⟩
          have tz : z.cps.toList.take z.cps.size = z.cps.toList := List.take_of_length_le (by simp)
          rw [tz] at ye
          have s1 : Same H H3 := e3 ▸ Same.upd hD
          refine ⟨Nat.zero_le _, fun p0 h0 => ?_⟩
          have s2 : Same H3 (upd H3 p0 (.lst [])) := Same.upd h0
          have gD : H3 D = some (.lst (ys.map V.str)) := by rw [e3, upd_same]
          refine ⟨.list (ys.map PyData.str), .list [], .lst (SqL.of (s2 _ _ gD)) (dpAll_strs ys), .lst (SqL.of upd_same) .nil, shaped_strs ys yo, rfl, ?_⟩
          have ev : PyData.eqv (.list (ys.map PyData.str)) (.list []) = isName (.str z) := by
            rw [en, ← ye]
            cases ys <;> rfl
          rw [ev]
          exact q _ (s1.trans s2)
      · have ef : isName (.str z) = false := by
          show ((decide (1 ≤ z.length) && decide (z.length ≤ 8)) && _) = false
          have : decide (1 ≤ z.length) = false := by
            have := of_decide_eq_false e1
            exact decide_eq_false (by omega)
          rw [this]; simp
        rw [ef] at q
        exact q H (fun _ _ e => e)
    | _ => exact ifT rfl (ifT rfl (q H (fun _ _ e => e)))
end
end Ms
namespace Ms
open PySem PySem.Spec PyProof.Rows L2 LamX StX ClX
abbrev oT8 : List Value := [.type "OverflowError", .type "ArithmeticError", .type "Exception", .type "BaseException", .type "object"]
theorem scXm : FnScope ["self", "most"] ["self", "most"] (defScope sIniT) := ⟨rfl, rfl, rfl, by decide +kernel, rfl, by decide +kernel, by decide +kernel⟩
section
variable {P : Program} {w : World} {K : PySem.W.Frag} {mg : Str → Option Value} {fN fM fA fBg fSe fLs fTo fMa C CS CP CM CB CT fR fPp fS p0 f c Pt pI pN pS pA pG fNu fAs fPl fMo fNP fNM fNd fSt fNs fPr fOr aE aM fES fEP fEM fEB fET : Addr} {mc : Value}
theorem ok_law {fd fdBg fdN fdM fdS fdA fdLs fdTo fdMa fdI fdPn fdPs fdNd fdPa fdPg fdNu fdAs fdPl fdMo fdNP fdNM fdSt fdNs fdPr fdOr fdR fdPp fdStr fdES fdEP fdEM fdEB fdET : FuncData} {q1 q2 q3 q4 q5 qual qp : Str} {dn : Value}
    (T0 : TxtS mg fN fM) (TQ : TxtQ mg) (hmin : mg "min" = none) (hrep : mg "repr" = none) (hen : mg "enumerate" = none) (TR : TxtR mg pI pN pS pA pG fNu fAs fPl fMo fNP fNM fNd aE aM) (W : WrT K aE aM) (G : G8 mg fTo fMa C CS CP CT) (X8 : C8 K C CS CP CT)
    (gBg : mg "_law_begun" = some (.ref fBg)) (gSe : mg "_law_settings" = some (.ref fSe)) (gLs : mg "_law_standings" = some (.ref fLs)) (gA : mg "_law_is_name" = some (.ref fA))
    (gM : mg "BadModes" = some (.ref CM)) (gB : mg "BadStanding" = some (.ref CB)) (gSt : mg "is_standing" = some (.ref fSt)) (gNs : mg "need_standing" = some (.ref fNs)) (gPr : mg "plain_row" = some (.ref fPr)) (gOr : mg "order_of" = some (.ref fOr))
    (MkC : Mk K C fR) (mt : Meth K C "plain" fPp) (cr : CRead K C mc) (cm : CMet K C mc "straight" p0 fS) (TS : ErrC K CS fES) (TP : ErrC K CP fEP) (TM : ErrC K CM fEM) (TB : ErrF K CB fEB "value")
    (TX : XC K CT fET "most" "OverflowError.__new__" oT8) (exT : PySem.W.subIn K (.ref CT) (.type "BaseException") = some true) (tyT : PySem.W.typeIn K (.ref CT) = some (.type "type"))
    (F : Fun K "law" "law" sLaw f fd) (hc : fd.code = .ref c) (bL : ∀ (s : Shared) (u : Value), BindsTo s fd ⟨[u], []⟩ [("script", u)])
    (FBg : Fun K "_law_begun" "_law_begun" sBegun fBg fdBg) (bBg : Binds K fdBg ["script"] []) (FN : Fun K "_law_next" "_law_next" sNext fN fdN) (bN : Binds K fdN ["m", "many"] []) (FM : Fun K "_law_names" "_law_names" sNames fM fdM) (bM : Binds K fdM ["m", "many"] [])
    (FS : Fun K "_law_settings" "_law_settings" sSettings fSe fdS) (bS : Binds K fdS ["m"] []) (FA : Fun K "_law_is_name" "_law_is_name" sIsName fA fdA) (bA : Binds K fdA ["thing"] []) (FLs : Fun K "_law_standings" "_law_standings" sStandings fLs fdLs) (bLs : Binds K fdLs ["spots"] [])
    (FTo : Fun K "_law_told" "_law_told" sTold fTo fdTo) (bTo : Binds K fdTo ["call"] []) (FMa : Fun K "_law_made" "_law_made" sMade fMa fdMa) (bMa : Binds K fdMa ["spots", "q"] [])
    (FR : FunD K "__init__" qual (defArgs sReqIni) (defBody sReqIni) (defScope sReqIni) [.non] [] fR fdR) (b3 : Binds K fdR psS [dn]) (vd : Vals [V.non] [dn]) (FPp : Fun K "plain" qp sReqPlain fPp fdPp) (bPp : Binds K fdPp ["self", "standing"] []) (FStr : Fun K "straight" "Request.straight" sReqStr fS fdStr)
    (FES : Fun K "__init__" q1 sIni fES fdES) (bES : Binds K fdES ["self", "place"] []) (FEP : Fun K "__init__" q2 sIniP fEP fdEP) (bEP : Binds K fdEP ["self", "place"] []) (FEM : Fun K "__init__" q3 sIniM fEM fdEM) (bEM : Binds K fdEM ["self", "place"] []) (FEB : Fun K "__init__" q4 sIniS fEB fdEB) (bEB : Binds K fdEB ["self", "value"] [])
    (FET : Fun K "__init__" q5 sIniT fET fdET) (bdT : ∀ (s : Shared) (v u : Value), BindsTo s fdET ⟨[v, u], []⟩ [("self", v), ("most", u)])
    (FI : Fun K "is_int" "is_int" sPInt pI fdI) (bI : Binds K fdI ["thing"] []) (FPn : Fun K "is_name" "is_name" sPName pN fdPn) (bPn : Binds K fdPn ["thing"] []) (FPs : Fun K "is_setting" "is_setting" sPSet pS fdPs) (bPs : Binds K fdPs ["thing"] [])
    (FPa : Fun K "names_of" "names_of" sPNames pA fdPa) (bPa : Binds K fdPa ["settings"] []) (FPg : Fun K "grid_of" "grid_of" sPGrid pG fdPg) (bPg : Binds K fdPg ["settings"] []) (FNd : Fun K "need_settings" "need_settings" sNeed fNd fdNd) (bNd : Binds K fdNd ["thing"] [])
    (FNu : Fun K "is_number" "is_number" sPNum fNu fdNu) (bNu : Binds K fdNu ["many", "thing"] []) (FAs : Fun K "is_ask" "is_ask" sPAsk fAs fdAs) (bAs : Binds K fdAs ["settings", "many", "setting", "nexts"] [])
    (FPl : Fun K "is_place" "is_place" sPPlace fPl fdPl) (bPl : Binds K fdPl ["settings", "many", "thing"] []) (FMo : Fun K "is_mode" "is_mode" sPMode fMo fdMo) (bMo : Binds K fdMo ["thing"] [])
    (FNP : Fun K "need_places" "need_places" sNPlaces fNP fdNP) (bNP : Binds K fdNP ["settings", "places"] []) (FNM : Fun K "need_modes" "need_modes" sNModes fNM fdNM) (bNM : Binds K fdNM ["settings", "modes"] [])
    (FSt : Fun K "is_standing" "is_standing" sPStand fSt fdSt) (bSt : Binds K fdSt ["settings", "thing"] []) (FNs : Fun K "need_standing" "need_standing" sNStand fNs fdNs) (bNs : Binds K fdNs ["settings", "thing"] []) (FPr : Fun K "plain_row" "plain_row" sPPRow fPr fdPr) (bPr : Binds K fdPr ["places", "order", "standing"] []) (FOr : Fun K "order_of" "order_of" sPOrder fOr fdOr) (bOr : Binds K fdOr ["settings"] []) : LawRunT P w K mg f c Pt := by
  intro base H s a ns kin glob TBl hT hS hlen st0
  have GBg : FnOk P w K mg base CX0 1 fBg fdBg ["script"] (spBegun K) := ok_begun FBg T0.toTxt
  have GN : FnOk P w K mg base CX0 1 fN fdN ["m", "many"] spNext := ok_next FN T0.toTxt
  have GM : FnOk P w K mg base CX0 2 fM fdM ["m", "many"] spNamesV := ok_namesV FM T0.toTxtN FN bN
  have GS : FnOk P w K mg base CX0 3 fSe fdS ["m"] spSettingsV := ok_settingsV FS T0 FN bN FM bM
  have GA : FnOk P w K mg base CX0 1 fA fdA ["thing"] (spName K) := ok_nameQ FA TQ
  have GLs : FnOk P w K mg base CX0 1 fLs fdLs ["spots"] (spLStand K) := ok_lstand FLs T0.toTxtN
  have GNd : FnOk P w K mg base (L2.CX P w) 3 fNd fdNd ["thing"] (spNeed K CS) := ok_need FNd TR.toTxtP G.bs TS FI bI FPn bPn FPs bPs FPa bPa FPg bPg FES bES
  have GPn : FnOk P w K mg base CX0 1 pN fdPn ["thing"] (spName K) := ok_pname FPn TR.toTxtP
  have GEP : FnOk P w K mg base CX0 1 fEP fdEP ["self", "place"] (spIni CP) := ok_iniP FEP TP
  have GX : FnOk P w K mg base CX0 1 fET fdET ["self", "most"] (spInit CT "most") := ok_xinit FET PySem.F.store_OverflowError TX scXm rfl rfl rfl (by decide) (by decide)
  have GR : FnOk P w K mg base (L2.CX P w) 6 fR fdR ["self", "settings", "places", "modes"] (spReq K C CS CP CM) := ok_reqini FR TR W X8.RC G.bs TS G.bp TP gM TM FES bES FEP bEP FEM bEM FI bI FPn bPn FPs bPs FPa bPa FPg bPg FNd bNd FNu bNu FAs bAs FPl bPl FMo bMo FNP bNP FNM bNM
  have GPp : FnOk P w K mg base (L2.CX P w) 4 fPp fdPp ["self", "standing"] (spPPlain K C CB) := ok_plain FPp TR.toTxtP T0.zip gSt gNs gPr gOr TR.gE W.e gB TB X8.RC FI bI FSt bSt FEB bEB FNs bNs FPr bPr FOr bOr
  have GStr : FnR P w K mg base (L2.CX P w) 8 fS (spStrR K C CS CP CT) := ok_str FStr TR W MkC GR b3 vd GNd FNd.kp bNd GPn FPn.kp bPn G.bp TP GEP bEP G.tm PySem.F.excBase_OverflowError TX exT tyT GX bdT
  have GMa : FnOk P w K mg base (L2.CX P w) 9 fMa fdMa ["spots", "q"] (spMade K C CS CP CT) := ok_made FMa T0.len G.req cr cm GStr
  refine run_code (k := 11) (N := NL) (ps := ["script"]) (us := [.ref a]) (vs := [.ref a]) F scL rfl ⟨rfl, by decide, by decide⟩ st0 (bL s _) (.cons rfl .nil) rfl fun cdv ec hr => ?_
  have ecv : cdv = .ref c := ec.symm.trans hc
  subst ecv
  obtain ⟨t1, d1, z1⟩ := law_last (H0 := H) (s := s) (f := f) (c := c) (Pt := Pt) (Eb := fun _ _ _ => False) G X8 cr cm GStr FTo bTo TBl hr
  obtain ⟨t2, d2, z2⟩ := law_rows (H0 := H) (Pt := Pt) G X8 T0.list T0.len T0.tuple TQ.isi gLs FMa bMa GMa FLs bLs GLs mt bPp GPp hr d1 z1
  obtain ⟨t3, d3, z3⟩ := law_tell (H0 := H) (Pt := Pt) G X8 hrep FMa bMa GMa FTo bTo TBl hr d2 z2
  obtain ⟨t4, d4, z4⟩ := law_bad (H0 := H) (Pt := Pt) hr d3 z3
  obtain ⟨t5, d5, z5⟩ := law_many (H0 := H) (Pt := Pt) T0.len hr d4 z4
  obtain ⟨t6, d6, z6⟩ := law_list (H0 := H) (Pt := Pt) T0.len T0.tuple hen hr d5 z5
  obtain ⟨t7, d7, z7⟩ := law_bads (H0 := H) (Pt := Pt) hen gA FA bA GA hr d6 z6
  obtain ⟨t8, d8, z8⟩ := law_odd8 (H0 := H) (Pt := Pt) T0.toTxtN FN bN GN hr d7 z7
  obtain ⟨t9, d9, z9⟩ := law_draw8 (H0 := H) (Pt := Pt) T0.toTxtN gSe T0.names FN bN GN FM bM GM FS bS GS hr d8 z8
  clear z1 z2 z3 z4 z5 z6 z7 z8 d1 d2 d3 d4 d5 d6 d7 d8
  have hr1 : Room 1 (callerA.deeper (envOfC "law" (defScope sLaw) s.heap.objs.size f (.ref c))) := hr.mono (by decide)
  refine ⟨_, pss_cons (ps_set (i := 1) scL.nd rfl (by first | exact Or.inl rfl | exact Or.inr rfl) (pe_call GBg hr1 (by rfl) gBg FBg.kp bBg .nil pass0 (pa_cons (pv 0) pa_nil)))
    (pss_cons (ps_for PassesOwn.never rfl (pi_range1 (by rfl) T0.range (pa_cons (pe_op op_add pe_int (pe_callB (call_min2 rfl) (by rfl) hmin (by decide +kernel) (pa_cons (pe_callB call_len_seq (by rfl) T0.len PySem.boot_len (pa_cons (pv 0) pa_nil)) (pa_cons pe_int pa_nil)))) pa_nil)) (pg_name (i := 2) scL.nd rfl (by first | exact Or.inl rfl | exact Or.inr rfl)) d9)
    (pss_one (ps_ret pe_bl))), ?_⟩
  refine ⟨_, rfl, a, ns, rfl, hS, hlen, fun m l H1 hm hl s1 M1 => ?_⟩
  have lenM : (ns.map V.int).length = ns.length := List.length_map ..
  refine ⟨_, rfl, a, _, rfl, .inl (s1.seq hS), _, _, rfl, _, _, rfl, rfl, _, rfl, (by rw [lenM]; split <;> omega), (by rw [lenM]; split <;> omega), ?_⟩
  generalize hj : (3 + if (8 : Int) < ((ns.map V.int).length : Nat) then (8 : Int) else ((ns.map V.int).length : Nat)) = j
  have hj16 : j ≤ 12 := by rw [← hj]; split <;> omega
  have tb1 : Tabs [(Pt, lamQ)] H1 := fun p hp => by
    rw [List.mem_singleton.mp hp]
    exact TabS.nil (s1 _ _ hT)
  refine for_range (lo := 0) (n := j.toNat) (fun i σ H2 => ∃ (v2 v3 v4 v5 v6 v7 v8 v9 v10 v11 : Option V) (l n : Nat), σ = [some (.ref a), some (.ref m), v2, v3, v4, v5, v6, v7, v8, v9, v10, v11] ∧ Mch H2 m l n ∧ n ≤ 100 * i ∧ Tabs [(Pt, lamQ)] H2)
    ⟨_, _, _, _, _, _, _, _, _, _, l, 0, rfl, M1, Nat.le_refl _, tb1⟩ ?_ ?_
  · rintro i σ H2 hi ⟨v2, v3, v4, v5, v6, v7, v8, v9, v10, v11, l2, n, rfl, M2, hn, tb2⟩
    exact z9 _ H2 a m l2 n _ _ _ _ _ _ _ _ _ _ M2 (by omega) tb2 fun v3 v4 v5 v6 v7 v8 v9 v10 v11 l' H3 M3 t3 => ⟨_, v3, v4, v5, v6, v7, v8, v9, v10, v11, l', n + 100, rfl, M3, by omega, t3⟩
  · rintro σ H2 _
    rfl
end
end Ms
namespace Ms
open PySem PySem.Spec PyProof.Rows L2 LamX StX ClX
/-! ### the end: what the top has written -/
set_option maxHeartbeats 16000000 in
theorem all_mk {P : Program} {w : World} {K : PySem.W.Frag} {h : Heap} {mg : Str → Option Value} {fa CS fES CP fEP CM fEM CB fEB CT fET C fR Td aE aM fPp p0 fS pI pN pS pD pA pG fNu fAs fPl fMo fNP fNM fSt fNs fPr fOr fBg fN fM fSe fA fLs fTo fMa fL c Pt : Addr} (X : K.In h) (G : h.Ns mainGlobals mg) (hfa : mg "law" = some (.ref fa))
    {nmeS qeS : Str} {NeS : Addr} {bseS bmeS : List Value} {sneS : List Str} {subeS : List Value} {abeS : Bool} {coleS : Option Bool} {ddeS : Option Addr} {m0eS m1eS m2eS m3eS m5eS : Option Value}
    {odieS anieS : Option Addr} {slieS : Array (Option Value)} {ocieS kVieS dcieS pmieS cdieS ctieS : Value}
    {nmeP qeP : Str} {NeP : Addr} {bseP bmeP : List Value} {sneP : List Str} {subeP : List Value} {abeP : Bool} {coleP : Option Bool} {ddeP : Option Addr} {m0eP m1eP m2eP m3eP m5eP : Option Value}
    {odieP anieP : Option Addr} {slieP : Array (Option Value)} {ocieP kVieP dcieP pmieP cdieP ctieP : Value}
    {nmeM qeM : Str} {NeM : Addr} {bseM bmeM : List Value} {sneM : List Str} {subeM : List Value} {abeM : Bool} {coleM : Option Bool} {ddeM : Option Addr} {m0eM m1eM m2eM m3eM m5eM : Option Value}
    {odieM anieM : Option Addr} {slieM : Array (Option Value)} {ocieM kVieM dcieM pmieM cdieM ctieM : Value}
    {nmeB qeB : Str} {NeB : Addr} {bseB bmeB : List Value} {sneB : List Str} {subeB : List Value} {abeB : Bool} {coleB : Option Bool} {ddeB : Option Addr} {m0eB m1eB m2eB m3eB m5eB : Option Value}
    {odieB anieB : Option Addr} {slieB : Array (Option Value)} {ocieB kVieB dcieB pmieB cdieB ctieB : Value}
    {odieT anieT : Option Addr} {slieT : Array (Option Value)} {ocieT kVieT dcieT pmieT cdieT ctieT : Value}
    {odR anR : Option Addr} {slR : Array (Option Value)} {ocR kVR dcR pmR cdR ctR : Value} {ocT : Value} {odT : Option Addr} {nT : Nat} {slT : Array (Option Value)}
    {dE dM : Option Addr} {kE kM : Nat} {sE sM : Array (Option Value)} {tE tM1 tM2 tM3 : Tok}
    {odPp anPp : Option Addr} {slPp : Array (Option Value)} {ocPp kVPp dcPp pmPp cdPp ctPp : Value}
    {rest8 : List Value}
    {odStr anStr : Option Addr} {slStr : Array (Option Value)} {ocStr kVStr dcStr pmStr cdStr ctStr : Value}
    {odpI anpI : Option Addr} {slpI : Array (Option Value)} {ocpI kVpI dcpI pmpI cdpI ctpI : Value}
    {odpN anpN : Option Addr} {slpN : Array (Option Value)} {ocpN kVpN dcpN pmpN cdpN ctpN : Value}
    {odpS anpS : Option Addr} {slpS : Array (Option Value)} {ocpS kVpS dcpS pmpS cdpS ctpS : Value}
    {odpD anpD : Option Addr} {slpD : Array (Option Value)} {ocpD kVpD dcpD pmpD cdpD ctpD : Value}
    {odpA anpA : Option Addr} {slpA : Array (Option Value)} {ocpA kVpA dcpA pmpA cdpA ctpA : Value}
    {odpG anpG : Option Addr} {slpG : Array (Option Value)} {ocpG kVpG dcpG pmpG cdpG ctpG : Value}
    {odNu anNu : Option Addr} {slNu : Array (Option Value)} {ocNu kVNu dcNu pmNu cdNu ctNu : Value}
    {odAs anAs : Option Addr} {slAs : Array (Option Value)} {ocAs kVAs dcAs pmAs cdAs ctAs : Value}
    {odPl anPl : Option Addr} {slPl : Array (Option Value)} {ocPl kVPl dcPl pmPl cdPl ctPl : Value}
    {odMo anMo : Option Addr} {slMo : Array (Option Value)} {ocMo kVMo dcMo pmMo cdMo ctMo : Value}
    {odNP anNP : Option Addr} {slNP : Array (Option Value)} {ocNP kVNP dcNP pmNP cdNP ctNP : Value}
    {odNM anNM : Option Addr} {slNM : Array (Option Value)} {ocNM kVNM dcNM pmNM cdNM ctNM : Value}
    {odSt anSt : Option Addr} {slSt : Array (Option Value)} {ocSt kVSt dcSt pmSt cdSt ctSt : Value}
    {odNs anNs : Option Addr} {slNs : Array (Option Value)} {ocNs kVNs dcNs pmNs cdNs ctNs : Value}
    {odPr anPr : Option Addr} {slPr : Array (Option Value)} {ocPr kVPr dcPr pmPr cdPr ctPr : Value}
    {odOr anOr : Option Addr} {slOr : Array (Option Value)} {ocOr kVOr dcOr pmOr cdOr ctOr : Value}
    {odBg anBg : Option Addr} {slBg : Array (Option Value)} {ocBg kVBg dcBg pmBg cdBg ctBg : Value}
    {odN anN : Option Addr} {slN : Array (Option Value)} {ocN kVN dcN pmN cdN ctN : Value}
    {odNa anNa : Option Addr} {slNa : Array (Option Value)} {ocNa kVNa dcNa pmNa cdNa ctNa : Value}
    {odSe anSe : Option Addr} {slSe : Array (Option Value)} {ocSe kVSe dcSe pmSe cdSe ctSe : Value}
    {odA anA : Option Addr} {slA : Array (Option Value)} {ocA kVA dcA pmA cdA ctA : Value}
    {odLs anLs : Option Addr} {slLs : Array (Option Value)} {ocLs kVLs dcLs pmLs cdLs ctLs : Value}
    {odTo anTo : Option Addr} {slTo : Array (Option Value)} {ocTo kVTo dcTo pmTo cdTo ctTo : Value}
    {odMa anMa : Option Addr} {slMa : Array (Option Value)} {ocMa kVMa dcMa pmMa cdMa ctMa : Value}
    {odL anL : Option Addr} {slL : Array (Option Value)} {ocL kVL dcL pmL cdL ctL : Value}
    {tMOST_SETTINGS : Tok}
    {tMOST_VALUE : Tok}
    {tMOST_STANDINGS : Tok}
    {tLONGEST_NAME : Tok}
    {tMOST_PLACES : Tok}
    (AeS : PySem.W.nsIn K mainGlobals "BadSettings" = some (some (.ref CS)))
    (XeS : K.lookup CS = some (excClassObj nmeS qeS CS NeS bseS bmeS true sneS subeS abeS coleS ddeS m0eS m1eS m2eS m3eS m5eS "ValueError.__new__"))
    (ReS : PySem.HandSPX.refsVE bmeS = true)
    (SeS : PySem.W.findIn K (.ref CS) "__setattr__" = some (some (.builtin "object.__setattr__")))
    (EeS : PySem.W.subIn K (.ref CS) (.type "BaseException") = some true)
    (TeS : PySem.W.typeIn K (.ref CS) = some (.type "type"))
    (KeS : PySem.W.keepIn K (.ref CS) = true)
    (IeS : PySem.W.findIn K (.ref CS) "__init__" = some (some (.ref fES)))
    (YeS : PySem.W.typeIn K (.ref fES) = some (.type "function"))
    (NeS : PySem.W.findIn K (.ref CS) "place" = some none)
    (GeS : PySem.W.findIn K (.ref CS) "__getattribute__" = some (some (.builtin "BaseException.__getattribute__")))
    (HeS : PySem.W.findIn K (.ref CS) "__getattr__" = some none)
    (DeS : PySem.W.hasDictIn K CS = true)
    (MeS : PySem.W.exmOne K (.ref CS) (.ref CS) = some true)
    (lieS : K.lookup fES = some ⟨ocieS, odieS, .func (PySem.W.fnOf "__init__" "BadSettings.__init__" (defArgs sIni) (defBody sIni) (defScope sIni) .none kVieS dcieS pmieS anieS cdieS ctieS), slieS⟩)
    (dieS : PySem.W.codeIn K cdieS "BadSettings.__init__" = true)
    (eieS : PySem.W.keepIn K (.ref fES) = true)
    (AeP : PySem.W.nsIn K mainGlobals "BadPlaces" = some (some (.ref CP)))
    (XeP : K.lookup CP = some (excClassObj nmeP qeP CP NeP bseP bmeP true sneP subeP abeP coleP ddeP m0eP m1eP m2eP m3eP m5eP "ValueError.__new__"))
    (ReP : PySem.HandSPX.refsVE bmeP = true)
    (SeP : PySem.W.findIn K (.ref CP) "__setattr__" = some (some (.builtin "object.__setattr__")))
    (EeP : PySem.W.subIn K (.ref CP) (.type "BaseException") = some true)
    (TeP : PySem.W.typeIn K (.ref CP) = some (.type "type"))
    (KeP : PySem.W.keepIn K (.ref CP) = true)
    (IeP : PySem.W.findIn K (.ref CP) "__init__" = some (some (.ref fEP)))
    (YeP : PySem.W.typeIn K (.ref fEP) = some (.type "function"))
    (NeP : PySem.W.findIn K (.ref CP) "place" = some none)
    (GeP : PySem.W.findIn K (.ref CP) "__getattribute__" = some (some (.builtin "BaseException.__getattribute__")))
    (HeP : PySem.W.findIn K (.ref CP) "__getattr__" = some none)
    (DeP : PySem.W.hasDictIn K CP = true)
    (MeP : PySem.W.exmOne K (.ref CP) (.ref CP) = some true)
    (lieP : K.lookup fEP = some ⟨ocieP, odieP, .func (PySem.W.fnOf "__init__" "BadPlaces.__init__" (defArgs sIniP) (defBody sIniP) (defScope sIniP) .none kVieP dcieP pmieP anieP cdieP ctieP), slieP⟩)
    (dieP : PySem.W.codeIn K cdieP "BadPlaces.__init__" = true)
    (eieP : PySem.W.keepIn K (.ref fEP) = true)
    (AeM : PySem.W.nsIn K mainGlobals "BadModes" = some (some (.ref CM)))
    (XeM : K.lookup CM = some (excClassObj nmeM qeM CM NeM bseM bmeM true sneM subeM abeM coleM ddeM m0eM m1eM m2eM m3eM m5eM "ValueError.__new__"))
    (ReM : PySem.HandSPX.refsVE bmeM = true)
    (SeM : PySem.W.findIn K (.ref CM) "__setattr__" = some (some (.builtin "object.__setattr__")))
    (EeM : PySem.W.subIn K (.ref CM) (.type "BaseException") = some true)
    (TeM : PySem.W.typeIn K (.ref CM) = some (.type "type"))
    (KeM : PySem.W.keepIn K (.ref CM) = true)
    (IeM : PySem.W.findIn K (.ref CM) "__init__" = some (some (.ref fEM)))
    (YeM : PySem.W.typeIn K (.ref fEM) = some (.type "function"))
    (NeM : PySem.W.findIn K (.ref CM) "place" = some none)
    (GeM : PySem.W.findIn K (.ref CM) "__getattribute__" = some (some (.builtin "BaseException.__getattribute__")))
    (HeM : PySem.W.findIn K (.ref CM) "__getattr__" = some none)
    (DeM : PySem.W.hasDictIn K CM = true)
    (MeM : PySem.W.exmOne K (.ref CM) (.ref CM) = some true)
    (lieM : K.lookup fEM = some ⟨ocieM, odieM, .func (PySem.W.fnOf "__init__" "BadModes.__init__" (defArgs sIniM) (defBody sIniM) (defScope sIniM) .none kVieM dcieM pmieM anieM cdieM ctieM), slieM⟩)
    (dieM : PySem.W.codeIn K cdieM "BadModes.__init__" = true)
    (eieM : PySem.W.keepIn K (.ref fEM) = true)
    (AeB : PySem.W.nsIn K mainGlobals "BadStanding" = some (some (.ref CB)))
    (XeB : K.lookup CB = some (excClassObj nmeB qeB CB NeB bseB bmeB true sneB subeB abeB coleB ddeB m0eB m1eB m2eB m3eB m5eB "ValueError.__new__"))
    (ReB : PySem.HandSPX.refsVE bmeB = true)
    (SeB : PySem.W.findIn K (.ref CB) "__setattr__" = some (some (.builtin "object.__setattr__")))
    (EeB : PySem.W.subIn K (.ref CB) (.type "BaseException") = some true)
    (TeB : PySem.W.typeIn K (.ref CB) = some (.type "type"))
    (KeB : PySem.W.keepIn K (.ref CB) = true)
    (IeB : PySem.W.findIn K (.ref CB) "__init__" = some (some (.ref fEB)))
    (YeB : PySem.W.typeIn K (.ref fEB) = some (.type "function"))
    (NeB : PySem.W.findIn K (.ref CB) "value" = some none)
    (GeB : PySem.W.findIn K (.ref CB) "__getattribute__" = some (some (.builtin "BaseException.__getattribute__")))
    (HeB : PySem.W.findIn K (.ref CB) "__getattr__" = some none)
    (DeB : PySem.W.hasDictIn K CB = true)
    (MeB : PySem.W.exmOne K (.ref CB) (.ref CB) = some true)
    (lieB : K.lookup fEB = some ⟨ocieB, odieB, .func (PySem.W.fnOf "__init__" "BadStanding.__init__" (defArgs sIniS) (defBody sIniS) (defScope sIniS) .none kVieB dcieB pmieB anieB cdieB ctieB), slieB⟩)
    (dieB : PySem.W.codeIn K cdieB "BadStanding.__init__" = true)
    (eieB : PySem.W.keepIn K (.ref fEB) = true)
    (AeT : PySem.W.nsIn K mainGlobals "TooMany" = some (some (.ref CT)))
    (iT8 : PySem.W.findIn K (.ref CT) "__init__" = some (some (.ref fET)))
    (lieT : K.lookup fET = some ⟨ocieT, odieT, .func (PySem.W.fnOf "__init__" "TooMany.__init__" (defArgs sIniT) (defBody sIniT) (defScope sIniT) .none kVieT dcieT pmieT anieT cdieT ctieT), slieT⟩)
    (dieT : PySem.W.codeIn K cdieT "TooMany.__init__" = true)
    (eieT : PySem.W.keepIn K (.ref fET) = true)
    (nT8 : PySem.W.excInitIn K CT oT8 "OverflowError.__new__" = true)
    (oT8h : PySem.W.excOver K CT oT8 = true)
    (sT8 : PySem.W.findIn K (.ref CT) "__setattr__" = some (some (.builtin "object.__setattr__")))
    (tT8 : PySem.W.takerIn K CT "most" = some none)
    (hT8 : PySem.W.hasDictIn K CT = true)
    (wT8 : PySem.W.isFn K (.ref fET) = true)
    (kT8 : PySem.W.keepIn K (.ref CT) = true)
    (gaT8 : PySem.W.findIn K (.ref CT) "__getattribute__" = some (some (.builtin "BaseException.__getattribute__")))
    (ggT8 : PySem.W.findIn K (.ref CT) "__getattr__" = some none)
    (xT8 : PySem.W.subIn K (.ref CT) (.type "BaseException") = some true)
    (yT8 : PySem.W.typeIn K (.ref CT) = some (.type "type"))
    (noT8 : PySem.W.findIn K (.ref CT) "most" = some none)
    (mPS : PySem.W.exmOne K (.ref CP) (.ref CS) = some false)
    (mTS : PySem.W.exmOne K (.ref CT) (.ref CS) = some false)
    (mTP : PySem.W.exmOne K (.ref CT) (.ref CP) = some false)
    (mTT : PySem.W.exmOne K (.ref CT) (.ref CT) = some true)
    (AR : PySem.W.nsIn K mainGlobals "Request" = some (some (.ref C)))
    (IR : PySem.W.findIn K (.ref C) "__init__" = some (some (.ref fR)))
    (mkR : PySem.W.makesIn K C = true)
    (fnR : PySem.W.isFn K (.ref fR) = true)
    (kpR : PySem.W.keepIn K (.ref C) = true)
    (pgR : PySem.W.plainGet K C Str.empty = true)
    (hdR : PySem.W.hasDictIn K C = true)
    (poR : PySem.W.plainOver K C = true)
    (saR : PySem.W.findIn K (.ref C) "__setattr__" = some (some (.builtin "object.__setattr__")))
    (n0R : PySem.W.findIn K (.ref C) "settings" = some none)
    (n1R : PySem.W.findIn K (.ref C) "places" = some none)
    (n2R : PySem.W.findIn K (.ref C) "modes" = some none)
    (lR : K.lookup fR = some ⟨ocR, odR, .func (PySem.W.fnOf "__init__" "Request.__init__" (defArgs sReqIni) (defBody sReqIni) (defScope sReqIni) (.ref Td) kVR dcR pmR anR cdR ctR), slR⟩)
    (dR : PySem.W.codeIn K cdR "Request.__init__" = true)
    (eR : PySem.W.keepIn K (.ref fR) = true)
    (lT : K.lookup Td = some ⟨ocT, odT, .seq #[.none] nT, slT⟩)
    (AE : PySem.W.nsIn K mainGlobals "END" = some (some (.ref aE)))
    (AM : PySem.W.nsIn K mainGlobals "MODES" = some (some (.ref aM)))
    (lE : K.lookup aE = some ⟨.type "tuple", dE, .seq #[.str "end" tE] kE, sE⟩)
    (lM : K.lookup aM = some ⟨.type "tuple", dM, .seq #[.str "live" tM1, .str "met" tM2, .str "begin" tM3] kM, sM⟩)
    (IPp : PySem.W.findIn K (.ref C) "plain" = some (some (.ref fPp)))
    (lPp : K.lookup fPp = some ⟨ocPp, odPp, .func (PySem.W.fnOf "plain" "Request.plain" (defArgs sReqPlain) (defBody sReqPlain) (defScope sReqPlain) .none kVPp dcPp pmPp anPp cdPp ctPp), slPp⟩)
    (dPp : PySem.W.codeIn K cdPp "Request.plain" = true)
    (ePp : PySem.W.keepIn K (.ref fPp) = true)
    (isfPp : PySem.W.isFn K (.ref fPp) = true)
    (rd8 : PySem.W.readsIn K C (.type "type") = true)
    (ga8 : PySem.W.specialIn K (.ref C) "__getattribute__" = some (some (.builtin "type.__getattribute__")))
    (at8 : PySem.W.findCls K (.ref C) (.type "type") "straight" = some (.get (.builtin "classmethod.__get__") (.ref p0) .none (.ref C)))
    (rc8 : PySem.W.recIn K p0 "classmethod" = some (.ref fS :: rest8))
    (lStr : K.lookup fS = some ⟨ocStr, odStr, .func (PySem.W.fnOf "straight" "Request.straight" (defArgs sReqStr) (defBody sReqStr) (defScope sReqStr) .none kVStr dcStr pmStr anStr cdStr ctStr), slStr⟩)
    (dStr : PySem.W.codeIn K cdStr "Request.straight" = true)
    (eStr : PySem.W.keepIn K (.ref fS) = true)
    (fi8 : PySem.W.fnIn K fS = true)
    (apI : PySem.W.nsIn K mainGlobals "is_int" = some (some (.ref pI)))
    (lpI : K.lookup pI = some ⟨ocpI, odpI, .func (PySem.W.fnOf "is_int" "is_int" (defArgs sPInt) (defBody sPInt) (defScope sPInt) .none kVpI dcpI pmpI anpI cdpI ctpI), slpI⟩)
    (dpI : PySem.W.codeIn K cdpI "is_int" = true)
    (epI : PySem.W.keepIn K (.ref pI) = true)
    (apN : PySem.W.nsIn K mainGlobals "is_name" = some (some (.ref pN)))
    (lpN : K.lookup pN = some ⟨ocpN, odpN, .func (PySem.W.fnOf "is_name" "is_name" (defArgs sPName) (defBody sPName) (defScope sPName) .none kVpN dcpN pmpN anpN cdpN ctpN), slpN⟩)
    (dpN : PySem.W.codeIn K cdpN "is_name" = true)
    (epN : PySem.W.keepIn K (.ref pN) = true)
    (apS : PySem.W.nsIn K mainGlobals "is_setting" = some (some (.ref pS)))
    (lpS : K.lookup pS = some ⟨ocpS, odpS, .func (PySem.W.fnOf "is_setting" "is_setting" (defArgs sPSet) (defBody sPSet) (defScope sPSet) .none kVpS dcpS pmpS anpS cdpS ctpS), slpS⟩)
    (dpS : PySem.W.codeIn K cdpS "is_setting" = true)
    (epS : PySem.W.keepIn K (.ref pS) = true)
    (apD : PySem.W.nsIn K mainGlobals "need_settings" = some (some (.ref pD)))
    (lpD : K.lookup pD = some ⟨ocpD, odpD, .func (PySem.W.fnOf "need_settings" "need_settings" (defArgs sNeed) (defBody sNeed) (defScope sNeed) .none kVpD dcpD pmpD anpD cdpD ctpD), slpD⟩)
    (dpD : PySem.W.codeIn K cdpD "need_settings" = true)
    (epD : PySem.W.keepIn K (.ref pD) = true)
    (apA : PySem.W.nsIn K mainGlobals "names_of" = some (some (.ref pA)))
    (lpA : K.lookup pA = some ⟨ocpA, odpA, .func (PySem.W.fnOf "names_of" "names_of" (defArgs sPNames) (defBody sPNames) (defScope sPNames) .none kVpA dcpA pmpA anpA cdpA ctpA), slpA⟩)
    (dpA : PySem.W.codeIn K cdpA "names_of" = true)
    (epA : PySem.W.keepIn K (.ref pA) = true)
    (apG : PySem.W.nsIn K mainGlobals "grid_of" = some (some (.ref pG)))
    (lpG : K.lookup pG = some ⟨ocpG, odpG, .func (PySem.W.fnOf "grid_of" "grid_of" (defArgs sPGrid) (defBody sPGrid) (defScope sPGrid) .none kVpG dcpG pmpG anpG cdpG ctpG), slpG⟩)
    (dpG : PySem.W.codeIn K cdpG "grid_of" = true)
    (epG : PySem.W.keepIn K (.ref pG) = true)
    (aNu : PySem.W.nsIn K mainGlobals "is_number" = some (some (.ref fNu)))
    (lNu : K.lookup fNu = some ⟨ocNu, odNu, .func (PySem.W.fnOf "is_number" "is_number" (defArgs sPNum) (defBody sPNum) (defScope sPNum) .none kVNu dcNu pmNu anNu cdNu ctNu), slNu⟩)
    (dNu : PySem.W.codeIn K cdNu "is_number" = true)
    (eNu : PySem.W.keepIn K (.ref fNu) = true)
    (aAs : PySem.W.nsIn K mainGlobals "is_ask" = some (some (.ref fAs)))
    (lAs : K.lookup fAs = some ⟨ocAs, odAs, .func (PySem.W.fnOf "is_ask" "is_ask" (defArgs sPAsk) (defBody sPAsk) (defScope sPAsk) .none kVAs dcAs pmAs anAs cdAs ctAs), slAs⟩)
    (dAs : PySem.W.codeIn K cdAs "is_ask" = true)
    (eAs : PySem.W.keepIn K (.ref fAs) = true)
    (aPl : PySem.W.nsIn K mainGlobals "is_place" = some (some (.ref fPl)))
    (lPl : K.lookup fPl = some ⟨ocPl, odPl, .func (PySem.W.fnOf "is_place" "is_place" (defArgs sPPlace) (defBody sPPlace) (defScope sPPlace) .none kVPl dcPl pmPl anPl cdPl ctPl), slPl⟩)
    (dPl : PySem.W.codeIn K cdPl "is_place" = true)
    (ePl : PySem.W.keepIn K (.ref fPl) = true)
    (aMo : PySem.W.nsIn K mainGlobals "is_mode" = some (some (.ref fMo)))
    (lMo : K.lookup fMo = some ⟨ocMo, odMo, .func (PySem.W.fnOf "is_mode" "is_mode" (defArgs sPMode) (defBody sPMode) (defScope sPMode) .none kVMo dcMo pmMo anMo cdMo ctMo), slMo⟩)
    (dMo : PySem.W.codeIn K cdMo "is_mode" = true)
    (eMo : PySem.W.keepIn K (.ref fMo) = true)
    (aNP : PySem.W.nsIn K mainGlobals "need_places" = some (some (.ref fNP)))
    (lNP : K.lookup fNP = some ⟨ocNP, odNP, .func (PySem.W.fnOf "need_places" "need_places" (defArgs sNPlaces) (defBody sNPlaces) (defScope sNPlaces) .none kVNP dcNP pmNP anNP cdNP ctNP), slNP⟩)
    (dNP : PySem.W.codeIn K cdNP "need_places" = true)
    (eNP : PySem.W.keepIn K (.ref fNP) = true)
    (aNM : PySem.W.nsIn K mainGlobals "need_modes" = some (some (.ref fNM)))
    (lNM : K.lookup fNM = some ⟨ocNM, odNM, .func (PySem.W.fnOf "need_modes" "need_modes" (defArgs sNModes) (defBody sNModes) (defScope sNModes) .none kVNM dcNM pmNM anNM cdNM ctNM), slNM⟩)
    (dNM : PySem.W.codeIn K cdNM "need_modes" = true)
    (eNM : PySem.W.keepIn K (.ref fNM) = true)
    (aSt : PySem.W.nsIn K mainGlobals "is_standing" = some (some (.ref fSt)))
    (lSt : K.lookup fSt = some ⟨ocSt, odSt, .func (PySem.W.fnOf "is_standing" "is_standing" (defArgs sPStand) (defBody sPStand) (defScope sPStand) .none kVSt dcSt pmSt anSt cdSt ctSt), slSt⟩)
    (dSt : PySem.W.codeIn K cdSt "is_standing" = true)
    (eSt : PySem.W.keepIn K (.ref fSt) = true)
    (aNs : PySem.W.nsIn K mainGlobals "need_standing" = some (some (.ref fNs)))
    (lNs : K.lookup fNs = some ⟨ocNs, odNs, .func (PySem.W.fnOf "need_standing" "need_standing" (defArgs sNStand) (defBody sNStand) (defScope sNStand) .none kVNs dcNs pmNs anNs cdNs ctNs), slNs⟩)
    (dNs : PySem.W.codeIn K cdNs "need_standing" = true)
    (eNs : PySem.W.keepIn K (.ref fNs) = true)
    (aPr : PySem.W.nsIn K mainGlobals "plain_row" = some (some (.ref fPr)))
    (lPr : K.lookup fPr = some ⟨ocPr, odPr, .func (PySem.W.fnOf "plain_row" "plain_row" (defArgs sPPRow) (defBody sPPRow) (defScope sPPRow) .none kVPr dcPr pmPr anPr cdPr ctPr), slPr⟩)
    (dPr : PySem.W.codeIn K cdPr "plain_row" = true)
    (ePr : PySem.W.keepIn K (.ref fPr) = true)
    (aOr : PySem.W.nsIn K mainGlobals "order_of" = some (some (.ref fOr)))
    (lOr : K.lookup fOr = some ⟨ocOr, odOr, .func (PySem.W.fnOf "order_of" "order_of" (defArgs sPOrder) (defBody sPOrder) (defScope sPOrder) .none kVOr dcOr pmOr anOr cdOr ctOr), slOr⟩)
    (dOr : PySem.W.codeIn K cdOr "order_of" = true)
    (eOr : PySem.W.keepIn K (.ref fOr) = true)
    (aBg : PySem.W.nsIn K mainGlobals "_law_begun" = some (some (.ref fBg)))
    (lBg : K.lookup fBg = some ⟨ocBg, odBg, .func (PySem.W.fnOf "_law_begun" "_law_begun" (defArgs sBegun) (defBody sBegun) (defScope sBegun) .none kVBg dcBg pmBg anBg cdBg ctBg), slBg⟩)
    (dBg : PySem.W.codeIn K cdBg "_law_begun" = true)
    (eBg : PySem.W.keepIn K (.ref fBg) = true)
    (aN : PySem.W.nsIn K mainGlobals "_law_next" = some (some (.ref fN)))
    (lN : K.lookup fN = some ⟨ocN, odN, .func (PySem.W.fnOf "_law_next" "_law_next" (defArgs sNext) (defBody sNext) (defScope sNext) .none kVN dcN pmN anN cdN ctN), slN⟩)
    (dN : PySem.W.codeIn K cdN "_law_next" = true)
    (eN : PySem.W.keepIn K (.ref fN) = true)
    (aNa : PySem.W.nsIn K mainGlobals "_law_names" = some (some (.ref fM)))
    (lNa : K.lookup fM = some ⟨ocNa, odNa, .func (PySem.W.fnOf "_law_names" "_law_names" (defArgs sNames) (defBody sNames) (defScope sNames) .none kVNa dcNa pmNa anNa cdNa ctNa), slNa⟩)
    (dNa : PySem.W.codeIn K cdNa "_law_names" = true)
    (eNa : PySem.W.keepIn K (.ref fM) = true)
    (aSe : PySem.W.nsIn K mainGlobals "_law_settings" = some (some (.ref fSe)))
    (lSe : K.lookup fSe = some ⟨ocSe, odSe, .func (PySem.W.fnOf "_law_settings" "_law_settings" (defArgs sSettings) (defBody sSettings) (defScope sSettings) .none kVSe dcSe pmSe anSe cdSe ctSe), slSe⟩)
    (dSe : PySem.W.codeIn K cdSe "_law_settings" = true)
    (eSe : PySem.W.keepIn K (.ref fSe) = true)
    (aA : PySem.W.nsIn K mainGlobals "_law_is_name" = some (some (.ref fA)))
    (lA : K.lookup fA = some ⟨ocA, odA, .func (PySem.W.fnOf "_law_is_name" "_law_is_name" (defArgs sIsName) (defBody sIsName) (defScope sIsName) .none kVA dcA pmA anA cdA ctA), slA⟩)
    (dA : PySem.W.codeIn K cdA "_law_is_name" = true)
    (eA : PySem.W.keepIn K (.ref fA) = true)
    (aLs : PySem.W.nsIn K mainGlobals "_law_standings" = some (some (.ref fLs)))
    (lLs : K.lookup fLs = some ⟨ocLs, odLs, .func (PySem.W.fnOf "_law_standings" "_law_standings" (defArgs sStandings) (defBody sStandings) (defScope sStandings) .none kVLs dcLs pmLs anLs cdLs ctLs), slLs⟩)
    (dLs : PySem.W.codeIn K cdLs "_law_standings" = true)
    (eLs : PySem.W.keepIn K (.ref fLs) = true)
    (aTo : PySem.W.nsIn K mainGlobals "_law_told" = some (some (.ref fTo)))
    (lTo : K.lookup fTo = some ⟨ocTo, odTo, .func (PySem.W.fnOf "_law_told" "_law_told" (defArgs sTold) (defBody sTold) (defScope sTold) .none kVTo dcTo pmTo anTo cdTo ctTo), slTo⟩)
    (dTo : PySem.W.codeIn K cdTo "_law_told" = true)
    (eTo : PySem.W.keepIn K (.ref fTo) = true)
    (aMa : PySem.W.nsIn K mainGlobals "_law_made" = some (some (.ref fMa)))
    (lMa : K.lookup fMa = some ⟨ocMa, odMa, .func (PySem.W.fnOf "_law_made" "_law_made" (defArgs sMade) (defBody sMade) (defScope sMade) .none kVMa dcMa pmMa anMa cdMa ctMa), slMa⟩)
    (dMa : PySem.W.codeIn K cdMa "_law_made" = true)
    (eMa : PySem.W.keepIn K (.ref fMa) = true)
    (aL : PySem.W.nsIn K mainGlobals "law" = some (some (.ref fL)))
    (lL : K.lookup fL = some ⟨ocL, odL, .func (PySem.W.fnOf "law" "law" (defArgs sLaw) (defBody sLaw) (defScope sLaw) .none kVL dcL pmL anL cdL ctL), slL⟩)
    (dL : PySem.W.codeIn K cdL "law" = true)
    (eL : PySem.W.keepIn K (.ref fL) = true)
    (cMOST_SETTINGS : PySem.W.nsIn K mainGlobals "MOST_SETTINGS" = some (some (.int 3 tMOST_SETTINGS)))
    (cMOST_VALUE : PySem.W.nsIn K mainGlobals "MOST_VALUE" = some (some (.int 3 tMOST_VALUE)))
    (cMOST_STANDINGS : PySem.W.nsIn K mainGlobals "MOST_STANDINGS" = some (some (.int 12 tMOST_STANDINGS)))
    (cLONGEST_NAME : PySem.W.nsIn K mainGlobals "LONGEST_NAME" = some (some (.int 8 tLONGEST_NAME)))
    (cMOST_PLACES : PySem.W.nsIn K mainGlobals "MOST_PLACES" = some (some (.int 16 tMOST_PLACES)))
    (z_list : PySem.W.nsIn K mainGlobals "list" = some none)
    (z_len : PySem.W.nsIn K mainGlobals "len" = some none)
    (z_int : PySem.W.nsIn K mainGlobals "int" = some none)
    (z_range : PySem.W.nsIn K mainGlobals "range" = some none)
    (z_tuple : PySem.W.nsIn K mainGlobals "tuple" = some none)
    (z_zip : PySem.W.nsIn K mainGlobals "zip" = some none)
    (z_isinstance : PySem.W.nsIn K mainGlobals "isinstance" = some none)
    (z_str : PySem.W.nsIn K mainGlobals "str" = some none)
    (z_bool : PySem.W.nsIn K mainGlobals "bool" = some none)
    (z_enumerate : PySem.W.nsIn K mainGlobals "enumerate" = some none)
    (z_all : PySem.W.nsIn K mainGlobals "all" = some none)
    (z_repr : PySem.W.nsIn K mainGlobals "repr" = some none)
    (z_min : PySem.W.nsIn K mainGlobals "min" = some none)
    (hc : cdL = .ref c) : LawRunT P w K mg fa c Pt := by
  have e := hfa.symm.trans (PySem.W.mg_of X G aL)
  cases e
  have FieS := fun_mk (st := sIni) lieS dieS eieS
  have bieS := FieS.binds (ps := ["self", "place"]) fun _ _ _ _ _ _ us hl => match us, hl with | [_, _], _ => rfl
  have OXeS : OexC K CS := ⟨⟨_, _, _, _, _, _, _, _, _, _, _, _, _, _, _, XeS, ReS⟩, SeS, EeS, TeS, KeS⟩
  have ECeS : ErrC K CS fES := ⟨OXeS, IeS, YeS, NeS⟩
  have XFeS : XfC K CS := ⟨GeS, HeS, EeS, DeS⟩
  have FieP := fun_mk (st := sIniP) lieP dieP eieP
  have bieP := FieP.binds (ps := ["self", "place"]) fun _ _ _ _ _ _ us hl => match us, hl with | [_, _], _ => rfl
  have OXeP : OexC K CP := ⟨⟨_, _, _, _, _, _, _, _, _, _, _, _, _, _, _, XeP, ReP⟩, SeP, EeP, TeP, KeP⟩
  have ECeP : ErrC K CP fEP := ⟨OXeP, IeP, YeP, NeP⟩
  have XFeP : XfC K CP := ⟨GeP, HeP, EeP, DeP⟩
  have FieM := fun_mk (st := sIniM) lieM dieM eieM
  have bieM := FieM.binds (ps := ["self", "place"]) fun _ _ _ _ _ _ us hl => match us, hl with | [_, _], _ => rfl
  have OXeM : OexC K CM := ⟨⟨_, _, _, _, _, _, _, _, _, _, _, _, _, _, _, XeM, ReM⟩, SeM, EeM, TeM, KeM⟩
  have ECeM : ErrC K CM fEM := ⟨OXeM, IeM, YeM, NeM⟩
  have XFeM : XfC K CM := ⟨GeM, HeM, EeM, DeM⟩
  have FieB := fun_mk (st := sIniS) lieB dieB eieB
  have bieB := FieB.binds (ps := ["self", "value"]) fun _ _ _ _ _ _ us hl => match us, hl with | [_, _], _ => rfl
  have OXeB : OexC K CB := ⟨⟨_, _, _, _, _, _, _, _, _, _, _, _, _, _, _, XeB, ReB⟩, SeB, EeB, TeB, KeB⟩
  have ECeB : ErrF K CB fEB "value" := ⟨OXeB, IeB, YeB, NeB⟩
  have XFeB : XfC K CB := ⟨GeB, HeB, EeB, DeB⟩
  have FieT := fun_mk (st := sIniT) lieT dieT eieT
  have FR : FunD K "__init__" "Request.__init__" (defArgs sReqIni) (defBody sReqIni) (defScope sReqIni) [.non] [] fR _ := ⟨⟨ocR, odR, _, kVR, dcR, pmR, anR, cdR, ctR, slR, rfl, lR, dR, .inr ⟨nofun, Td, _, [.none], nT, rfl, lT, rfl, .cons rfl .nil⟩, .inl rfl⟩, eR⟩
  obtain ⟨ds4, vd4, b4⟩ := FR.binds1 (ps := ["self", "settings", "places", "modes"]) 4 1 nofun rfl (fun T kV doc pm an cdv ct us its h1 h2 => match us, its, h1, h2 with | [_, _, _, _], [_], _, _ => ⟨_, rfl, rfl⟩)
  cases (show Vals [] ds4 from vd4)
  obtain ⟨ds3, vd3, b3⟩ := FR.binds1 (ps := ["self", "settings", "places", "modes"]) 3 0 nofun rfl (fun T kV doc pm an cdv ct us its h1 h2 => match us, its, h1, h2 with | [_, _, _], [_], _, _ => ⟨_, rfl, rfl⟩)
  obtain ⟨dn, edn⟩ : ∃ dn, ds3 = [dn] := by
    cases (show Vals [.non] ds3 from vd3) with
    | cons _ r => cases r; exact ⟨_, rfl⟩
  subst edn
  have MkC : Mk K C fR := ⟨mkR, IR, fnR, kpR⟩
  have RC : ReqC K C := ⟨⟨pgR, hdR, poR, saR⟩, n0R, n1R, n2R⟩
  have WT : WrT K aE aM := ⟨fun H => .inr ⟨_, _, _, lE, rfl, rfl, (by show 1 ≤ sizeLine; decide), .cons ⟨_, rfl⟩ .nil⟩, fun H => .inr ⟨_, _, _, lM, rfl, rfl, (by show 3 ≤ sizeLine; decide), .cons ⟨_, rfl⟩ (.cons ⟨_, rfl⟩ (.cons ⟨_, rfl⟩ .nil))⟩⟩
  have FPp := fun_mk (st := sReqPlain) lPp dPp ePp
  have bPp := FPp.binds (ps := ["self", "standing"]) fun _ _ _ _ _ _ us hl => match us, hl with | [_, _], _ => rfl
  have MPp : Meth K C "plain" fPp := ⟨IPp, isfPp, ePp⟩
  have FStr := fun_mk (st := sReqStr) lStr dStr eStr
  have FpI := fun_mk (st := sPInt) lpI dpI epI
  have bpI := FpI.binds (ps := ["thing"]) fun _ _ _ _ _ _ us hl => match us, hl with | [_], _ => rfl
  have FpN := fun_mk (st := sPName) lpN dpN epN
  have bpN := FpN.binds (ps := ["thing"]) fun _ _ _ _ _ _ us hl => match us, hl with | [_], _ => rfl
  have FpS := fun_mk (st := sPSet) lpS dpS epS
  have bpS := FpS.binds (ps := ["thing"]) fun _ _ _ _ _ _ us hl => match us, hl with | [_], _ => rfl
  have FpD := fun_mk (st := sNeed) lpD dpD epD
  have bpD := FpD.binds (ps := ["thing"]) fun _ _ _ _ _ _ us hl => match us, hl with | [_], _ => rfl
  have FpA := fun_mk (st := sPNames) lpA dpA epA
  have bpA := FpA.binds (ps := ["settings"]) fun _ _ _ _ _ _ us hl => match us, hl with | [_], _ => rfl
  have FpG := fun_mk (st := sPGrid) lpG dpG epG
  have bpG := FpG.binds (ps := ["settings"]) fun _ _ _ _ _ _ us hl => match us, hl with | [_], _ => rfl
  have FNu := fun_mk (st := sPNum) lNu dNu eNu
  have bNu := FNu.binds (ps := ["many", "thing"]) fun _ _ _ _ _ _ us hl => match us, hl with | [_, _], _ => rfl
  have FAs := fun_mk (st := sPAsk) lAs dAs eAs
  have bAs := FAs.binds (ps := ["settings", "many", "setting", "nexts"]) fun _ _ _ _ _ _ us hl => match us, hl with | [_, _, _, _], _ => rfl
  have FPl := fun_mk (st := sPPlace) lPl dPl ePl
  have bPl := FPl.binds (ps := ["settings", "many", "thing"]) fun _ _ _ _ _ _ us hl => match us, hl with | [_, _, _], _ => rfl
  have FMo := fun_mk (st := sPMode) lMo dMo eMo
  have bMo := FMo.binds (ps := ["thing"]) fun _ _ _ _ _ _ us hl => match us, hl with | [_], _ => rfl
  have FNP := fun_mk (st := sNPlaces) lNP dNP eNP
  have bNP := FNP.binds (ps := ["settings", "places"]) fun _ _ _ _ _ _ us hl => match us, hl with | [_, _], _ => rfl
  have FNM := fun_mk (st := sNModes) lNM dNM eNM
  have bNM := FNM.binds (ps := ["settings", "modes"]) fun _ _ _ _ _ _ us hl => match us, hl with | [_, _], _ => rfl
  have FSt := fun_mk (st := sPStand) lSt dSt eSt
  have bSt := FSt.binds (ps := ["settings", "thing"]) fun _ _ _ _ _ _ us hl => match us, hl with | [_, _], _ => rfl
  have FNs := fun_mk (st := sNStand) lNs dNs eNs
  have bNs := FNs.binds (ps := ["settings", "thing"]) fun _ _ _ _ _ _ us hl => match us, hl with | [_, _], _ => rfl
  have FPr := fun_mk (st := sPPRow) lPr dPr ePr
  have bPr := FPr.binds (ps := ["places", "order", "standing"]) fun _ _ _ _ _ _ us hl => match us, hl with | [_, _, _], _ => rfl
  have FOr := fun_mk (st := sPOrder) lOr dOr eOr
  have bOr := FOr.binds (ps := ["settings"]) fun _ _ _ _ _ _ us hl => match us, hl with | [_], _ => rfl
  have FBg := fun_mk (st := sBegun) lBg dBg eBg
  have bBg := FBg.binds (ps := ["script"]) fun _ _ _ _ _ _ us hl => match us, hl with | [_], _ => rfl
  have FN := fun_mk (st := sNext) lN dN eN
  have bN := FN.binds (ps := ["m", "many"]) fun _ _ _ _ _ _ us hl => match us, hl with | [_, _], _ => rfl
  have FNa := fun_mk (st := sNames) lNa dNa eNa
  have bNa := FNa.binds (ps := ["m", "many"]) fun _ _ _ _ _ _ us hl => match us, hl with | [_, _], _ => rfl
  have FSe := fun_mk (st := sSettings) lSe dSe eSe
  have bSe := FSe.binds (ps := ["m"]) fun _ _ _ _ _ _ us hl => match us, hl with | [_], _ => rfl
  have FA := fun_mk (st := sIsName) lA dA eA
  have bA := FA.binds (ps := ["thing"]) fun _ _ _ _ _ _ us hl => match us, hl with | [_], _ => rfl
  have FLs := fun_mk (st := sStandings) lLs dLs eLs
  have bLs := FLs.binds (ps := ["spots"]) fun _ _ _ _ _ _ us hl => match us, hl with | [_], _ => rfl
  have FTo := fun_mk (st := sTold) lTo dTo eTo
  have bTo := FTo.binds (ps := ["call"]) fun _ _ _ _ _ _ us hl => match us, hl with | [_], _ => rfl
  have FMa := fun_mk (st := sMade) lMa dMa eMa
  have bMa := FMa.binds (ps := ["spots", "q"]) fun _ _ _ _ _ _ us hl => match us, hl with | [_, _], _ => rfl
  have FL := fun_mk (st := sLaw) lL dL eL
  have T0 : TxtS mg fN fM := ⟨⟨⟨PySem.W.mg_none_of X G z_list, PySem.W.mg_none_of X G z_len, PySem.W.mg_none_of X G z_int⟩, PySem.W.mg_of X G aN, PySem.W.mg_none_of X G z_range, PySem.W.mg_none_of X G z_tuple, PySem.W.mg_none_of X G z_zip⟩, PySem.W.mg_of X G aNa⟩
  have TQ : TxtQ mg := ⟨PySem.W.mg_none_of X G z_isinstance, PySem.W.mg_none_of X G z_int, PySem.W.mg_none_of X G z_bool, PySem.W.mg_none_of X G z_str, PySem.W.mg_none_of X G z_len⟩
  have TP : TxtP mg pI pN pS pA pG := ⟨PySem.W.mg_none_of X G z_isinstance, PySem.W.mg_none_of X G z_int, PySem.W.mg_none_of X G z_bool, PySem.W.mg_none_of X G z_str, PySem.W.mg_none_of X G z_tuple, PySem.W.mg_none_of X G z_len, PySem.W.mg_none_of X G z_all, PySem.W.mg_none_of X G z_range, PySem.W.mg_none_of X G z_enumerate, ⟨_, PySem.W.mg_of X G cMOST_SETTINGS⟩, ⟨_, PySem.W.mg_of X G cMOST_VALUE⟩, ⟨_, PySem.W.mg_of X G cMOST_STANDINGS⟩, ⟨_, PySem.W.mg_of X G cLONGEST_NAME⟩, PySem.W.mg_of X G apI, PySem.W.mg_of X G apN, PySem.W.mg_of X G apS, PySem.W.mg_of X G apA, PySem.W.mg_of X G apG⟩
  have TR : TxtR mg pI pN pS pA pG fNu fAs fPl fMo fNP fNM pD aE aM := ⟨TP, PySem.W.mg_of X G aNu, PySem.W.mg_of X G aAs, PySem.W.mg_of X G aPl, PySem.W.mg_of X G aMo, PySem.W.mg_of X G aNP, PySem.W.mg_of X G aNM, PySem.W.mg_of X G apD, PySem.W.mg_of X G AE, PySem.W.mg_of X G AM, ⟨_, PySem.W.mg_of X G cMOST_PLACES⟩⟩
  have TX : XC K CT fET "most" "OverflowError.__new__" oT8 := ⟨nT8, oT8h, sT8, tT8, hT8, iT8, wT8, kT8⟩
  have X8 : C8 K C CS CP CT := ⟨RC, MeS, mPS, MeP, mTS, mTP, mTT, ⟨XFeS, NeS⟩, ⟨XFeP, NeP⟩, ⟨⟨gaT8, ggT8, xT8, hT8⟩, noT8⟩⟩
  have G8h : G8 mg fTo fMa C CS CP CT := ⟨PySem.W.mg_of X G aTo, PySem.W.mg_of X G aMa, PySem.W.mg_of X G AR, PySem.W.mg_of X G AeS, PySem.W.mg_of X G AeP, PySem.W.mg_of X G AeT⟩
  have cr8 : CRead K C (.type "type") := ⟨rd8, ga8⟩
  have cm8 : CMet K C (.type "type") "straight" p0 fS := ⟨at8, ⟨_, rc8⟩, fi8⟩
  exact ok_law T0 TQ (PySem.W.mg_none_of X G z_min) (PySem.W.mg_none_of X G z_repr) (PySem.W.mg_none_of X G z_enumerate) TR WT G8h X8 (PySem.W.mg_of X G aBg) (PySem.W.mg_of X G aSe) (PySem.W.mg_of X G aLs) (PySem.W.mg_of X G aA) (PySem.W.mg_of X G AeM) (PySem.W.mg_of X G AeB) (PySem.W.mg_of X G aSt) (PySem.W.mg_of X G aNs) (PySem.W.mg_of X G aPr) (PySem.W.mg_of X G aOr) MkC MPp cr8 cm8 ECeS ECeP ECeM ECeB TX xT8 yT8 FL hc (fun s v => .of_eq rfl) FBg bBg FN bN FNa bNa FSe bSe FA bA FLs bLs FTo bTo FMa bMa FR b3 vd3 FPp bPp FStr FieS bieS FieP bieP FieM bieM FieB bieB FieT (fun s v u => .of_eq rfl) FpI bpI FpN bpN FpS bpS FpA bpA FpG bpG FpD bpD FNu bNu FAs bAs FPl bPl FMo bMo FNP bNP FNM bNM FSt bSt FNs bNs FPr bPr FOr bOr
end Ms
open PySem PySem.W PyProof.Rows
set_option maxRecDepth 100000 in
set_option maxHeartbeats 0 in
theorem PySem.Challenge.cw_midswitch_k08_straight_requests_holds : PySem.Challenge.rw_midswitch_k08_straight_requests.Holds := by
  w_on; o_law; k_head; (case hw => w_witness2)
  k_fill
  refine' Ms.walk_tabled (l := PySem.Challenge.rw_midswitch_k08_straight_requests) rfl rfl (fun w h Y => PySem.W.km_in_of Y) (fun w h Y => PySem.W.km_tabs_of Y _ (List.mem_singleton.mpr rfl)) ?tabHd ?tabNo ?R
  case R =>
    intro w mg fa h KX G hmg
    refine' Ms.all_mk KX G hmg ?AeS ?XeS ?ReS ?SeS ?EeS ?TeS ?KeS ?IeS ?YeS ?NeS ?GeS ?HeS ?DeS ?MeS ?lieS ?dieS ?eieS ?AeP ?XeP ?ReP ?SeP ?EeP ?TeP ?KeP ?IeP ?YeP ?NeP ?GeP ?HeP ?DeP ?MeP ?lieP ?dieP ?eieP ?AeM ?XeM ?ReM ?SeM ?EeM ?TeM ?KeM ?IeM ?YeM ?NeM ?GeM ?HeM ?DeM ?MeM ?lieM ?dieM ?eieM ?AeB ?XeB ?ReB ?SeB ?EeB ?TeB ?KeB ?IeB ?YeB ?NeB ?GeB ?HeB ?DeB ?MeB ?lieB ?dieB ?eieB ?AeT ?iT8 ?lieT ?dieT ?eieT ?nT8 ?oT8h ?sT8 ?tT8 ?hT8 ?wT8 ?kT8 ?gaT8 ?ggT8 ?xT8 ?yT8 ?noT8 ?mPS ?mTS ?mTP ?mTT ?AR ?IR ?mkR ?fnR ?kpR ?pgR ?hdR ?poR ?saR ?n0R ?n1R ?n2R ?lR ?dR ?eR ?lT ?AE ?AM ?lE ?lM ?IPp ?lPp ?dPp ?ePp ?isfPp ?rd8 ?ga8 ?at8 ?rc8 ?lStr ?dStr ?eStr ?fi8 ?apI ?lpI ?dpI ?epI ?apN ?lpN ?dpN ?epN ?apS ?lpS ?dpS ?epS ?apD ?lpD ?dpD ?epD ?apA ?lpA ?dpA ?epA ?apG ?lpG ?dpG ?epG ?aNu ?lNu ?dNu ?eNu ?aAs ?lAs ?dAs ?eAs ?aPl ?lPl ?dPl ?ePl ?aMo ?lMo ?dMo ?eMo ?aNP ?lNP ?dNP ?eNP ?aNM ?lNM ?dNM ?eNM ?aSt ?lSt ?dSt ?eSt ?aNs ?lNs ?dNs ?eNs ?aPr ?lPr ?dPr ?ePr ?aOr ?lOr ?dOr ?eOr ?aBg ?lBg ?dBg ?eBg ?aN ?lN ?dN ?eN ?aNa ?lNa ?dNa ?eNa ?aSe ?lSe ?dSe ?eSe ?aA ?lA ?dA ?eA ?aLs ?lLs ?dLs ?eLs ?aTo ?lTo ?dTo ?eTo ?aMa ?lMa ?dMa ?eMa ?aL ?lL ?dL ?eL ?cMOST_SETTINGS ?cMOST_VALUE ?cMOST_STANDINGS ?cLONGEST_NAME ?cMOST_PLACES ?z_list ?z_len ?z_int ?z_range ?z_tuple ?z_zip ?z_isinstance ?z_str ?z_bool ?z_enumerate ?z_all ?z_repr ?z_min ?eCode
    (case AeS => k_is)
    (case XeS => k_is)
    (case ReS => rfl)
    (case SeS => k_is)
    (case EeS => k_is)
    (case TeS => k_is)
    (case KeS => k_is)
    (case IeS => k_is)
    (case YeS => k_is)
    (case NeS => k_is)
    (case GeS => k_is)
    (case HeS => k_is)
    (case DeS => k_is)
    (case MeS => kernel_rfl)
    (case lieS => k_is)
    (case dieS => k_is)
    (case eieS => k_is)
    (case AeP => k_is)
    (case XeP => k_is)
    (case ReP => rfl)
    (case SeP => k_is)
    (case EeP => k_is)
    (case TeP => k_is)
    (case KeP => k_is)
    (case IeP => k_is)
    (case YeP => k_is)
    (case NeP => k_is)
    (case GeP => k_is)
    (case HeP => k_is)
    (case DeP => k_is)
    (case MeP => kernel_rfl)
    (case lieP => k_is)
    (case dieP => k_is)
    (case eieP => k_is)
    (case AeM => k_is)
    (case XeM => k_is)
    (case ReM => rfl)
    (case SeM => k_is)
    (case EeM => k_is)
    (case TeM => k_is)
    (case KeM => k_is)
    (case IeM => k_is)
    (case YeM => k_is)
    (case NeM => k_is)
    (case GeM => k_is)
    (case HeM => k_is)
    (case DeM => k_is)
    (case MeM => kernel_rfl)
    (case lieM => k_is)
    (case dieM => k_is)
    (case eieM => k_is)
    (case AeB => k_is)
    (case XeB => k_is)
    (case ReB => rfl)
    (case SeB => k_is)
    (case EeB => k_is)
    (case TeB => k_is)
    (case KeB => k_is)
    (case IeB => k_is)
    (case YeB => k_is)
    (case NeB => k_is)
    (case GeB => k_is)
    (case HeB => k_is)
    (case DeB => k_is)
    (case MeB => kernel_rfl)
    (case lieB => k_is)
    (case dieB => k_is)
    (case eieB => k_is)
    (case AeT => k_is)
    (case iT8 => k_is)
    (case lieT => k_is)
    (case dieT => k_is)
    (case eieT => k_is)
    (case nT8 => kx_is)
    (case oT8h => kx_is)
    (case sT8 => k_is)
    (case tT8 => k_is)
    (case hT8 => k_is)
    (case wT8 => k_is)
    (case kT8 => k_is)
    (case gaT8 => k_is)
    (case ggT8 => k_is)
    (case xT8 => k_is)
    (case yT8 => k_is)
    (case noT8 => k_is)
    (case mPS => kernel_rfl)
    (case mTS => kernel_rfl)
    (case mTP => kernel_rfl)
    (case mTT => kernel_rfl)
    (case AR => k_is)
    (case IR => k_is)
    (case mkR => k_is)
    (case fnR => k_is)
    (case kpR => k_is)
    (case pgR => k_is)
    (case hdR => k_is)
    (case poR => k_is)
    (case saR => k_is)
    (case n0R => k_is)
    (case n1R => k_is)
    (case n2R => k_is)
    (case lR => k_is)
    (case dR => k_is)
    (case eR => k_is)
    (case lT => k_is)
    (case AE => k_is)
    (case AM => k_is)
    (case lE => k_is)
    (case lM => k_is)
    (case IPp => k_is)
    (case lPp => k_is)
    (case dPp => k_is)
    (case ePp => k_is)
    (case isfPp => k_is)
    (case rd8 => k_is)
    (case ga8 => k_is)
    (case at8 => k_is)
    (case rc8 => k_is)
    (case lStr => k_is)
    (case dStr => k_is)
    (case eStr => k_is)
    (case fi8 => k_is)
    (case apI => k_is)
    (case lpI => k_is)
    (case dpI => k_is)
    (case epI => k_is)
    (case apN => k_is)
    (case lpN => k_is)
    (case dpN => k_is)
    (case epN => k_is)
    (case apS => k_is)
    (case lpS => k_is)
    (case dpS => k_is)
    (case epS => k_is)
    (case apD => k_is)
    (case lpD => k_is)
    (case dpD => k_is)
    (case epD => k_is)
    (case apA => k_is)
    (case lpA => k_is)
    (case dpA => k_is)
    (case epA => k_is)
    (case apG => k_is)
    (case lpG => k_is)
    (case dpG => k_is)
    (case epG => k_is)
    (case aNu => k_is)
    (case lNu => k_is)
    (case dNu => k_is)
    (case eNu => k_is)
    (case aAs => k_is)
    (case lAs => k_is)
    (case dAs => k_is)
    (case eAs => k_is)
    (case aPl => k_is)
    (case lPl => k_is)
    (case dPl => k_is)
    (case ePl => k_is)
    (case aMo => k_is)
    (case lMo => k_is)
    (case dMo => k_is)
    (case eMo => k_is)
    (case aNP => k_is)
    (case lNP => k_is)
    (case dNP => k_is)
    (case eNP => k_is)
    (case aNM => k_is)
    (case lNM => k_is)
    (case dNM => k_is)
    (case eNM => k_is)
    (case aSt => k_is)
    (case lSt => k_is)
    (case dSt => k_is)
    (case eSt => k_is)
    (case aNs => k_is)
    (case lNs => k_is)
    (case dNs => k_is)
    (case eNs => k_is)
    (case aPr => k_is)
    (case lPr => k_is)
    (case dPr => k_is)
    (case ePr => k_is)
    (case aOr => k_is)
    (case lOr => k_is)
    (case dOr => k_is)
    (case eOr => k_is)
    (case aBg => k_is)
    (case lBg => k_is)
    (case dBg => k_is)
    (case eBg => k_is)
    (case aN => k_is)
    (case lN => k_is)
    (case dN => k_is)
    (case eN => k_is)
    (case aNa => k_is)
    (case lNa => k_is)
    (case dNa => k_is)
    (case eNa => k_is)
    (case aSe => k_is)
    (case lSe => k_is)
    (case dSe => k_is)
    (case eSe => k_is)
    (case aA => k_is)
    (case lA => k_is)
    (case dA => k_is)
    (case eA => k_is)
    (case aLs => k_is)
    (case lLs => k_is)
    (case dLs => k_is)
    (case eLs => k_is)
    (case aTo => k_is)
    (case lTo => k_is)
    (case dTo => k_is)
    (case eTo => k_is)
    (case aMa => k_is)
    (case lMa => k_is)
    (case dMa => k_is)
    (case eMa => k_is)
    (case aL => k_is)
    (case lL => k_is)
    (case dL => k_is)
    (case eL => k_is)
    (case cMOST_SETTINGS => k_is)
    (case cMOST_VALUE => k_is)
    (case cMOST_STANDINGS => k_is)
    (case cLONGEST_NAME => k_is)
    (case cMOST_PLACES => k_is)
    (case z_list => k_is)
    (case z_len => k_is)
    (case z_int => k_is)
    (case z_range => k_is)
    (case z_tuple => k_is)
    (case z_zip => k_is)
    (case z_isinstance => k_is)
    (case z_str => k_is)
    (case z_bool => k_is)
    (case z_enumerate => k_is)
    (case z_all => k_is)
    (case z_repr => k_is)
    (case z_min => k_is)
    (case eCode => rfl)
  case tabHd => intro w; kernel_rfl
  case tabNo => intro w; kernel_rfl
