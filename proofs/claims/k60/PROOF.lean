import PyProof.Rows.All
import Wide.All
import OpenK.AllK
import Wide.FinOn
import PyProof.EqAt
import PyProof.EqKinds
import PyProof.TupleCall
import HandS.ForExc
import HandS.ForMost
import HandS.Dict
import HandS.Comp
import HandS.IsInst
import KE.KExcLine
import KE.KExcIs
import KE.RegKIsAll
import HandS.ExcInit
import HandS.MakeKwOnly
import PySem.Challenge.RW_midswitch_k60_errors
set_option Elab.async false
set_option linter.all false
set_option maxRecDepth 100000
set_option maxHeartbeats 4000000
namespace Ms
open PySem PySem.Spec PyProof.Rows L2
section
variable {P : Program} {w : World} {K : PySem.W.Frag} {mg : Str → Option Value} {base : Heap}
theorem deeper_guards {A : Around} {env : Env} (h : A.guards = some []) : (A.deeper env).guards = some [] := h
/-- a def is run where it is known that no guard stands (repr asks for that) -/
theorem run_known {x qual : Str} {st : Stmt} {f : Addr} {fd : FuncData} {N ps : List Str} {k : Nat} (F : Fun K x qual st f fd) (S : FnScope N ps (defScope st))
    {A : Around} {outer : List Env} {s : Shared} {H : Hp} {args : Args} {us : List Value} {vs : List V} {Q : VK} {E : XK}
    (gA : A.guards = some []) (rm : Room (k + 1) A) (st0 : Env0 P w K mg base A outer s H) (bd : BindsTo s fd args (ps.zip us)) (rel : Vals vs us) (ln : vs.length = ps.length)
    (walk : ∀ cdv : Value, Room k (A.deeper (envOfC qual (defScope st) s.heap.objs.size f cdv)) →
      ∃ t, PSs (cxOf CX0 P w K mg base N qual (defScope st) f cdv A outer s H E).nox (defBody st) t ∧ t { nx := fun _ H' => Q .non H', rt := Q } (start N vs) H) :
    codeAny (model P w) A (.call (.ref f) args) (CR CX0 outer P w H s Q E) s := by
  obtain ⟨oc, od, kV, doc, pm, an, cdv, ct, osl, rfl, atK, code⟩ := F.ex
  have inH : K.In s.heap := st0.mod.kin.keeps fun b o q => (st0.bs b o q).1
  have noLim : s.heap.NoLimit := st0.mod.nolimit.keeps fun b o q => (st0.bs b o q).1
  have kinds : ∀ y ∈ ps.zip us, (defScope st).names.lookup y.1 = some .local ∨ ((defScope st).names.lookup y.1 = some .cell ∧ ((cellsFrom (s.heap.objs.size + 1) (defScope st).names []).lookup y.1).isSome = true) := by
    rintro ⟨n, v⟩ hy
    rcases S.par n (List.of_mem_zip hy).1 with z | z
    · exact Or.inl z
    · exact Or.inr ⟨z, PySem.W.cellsFrom_some _ _ _ (.inl z)⟩
  refine codeAny_call_function rm.depth (inH _ _ atK) rfl S.co S.gen rfl (PySem.W.codeRec_of inH code) (bd _ _ _ _ ?_)
  refine wpAny_newFunctionEnv_cells S.kind kinds fun env eq s1 inC => ?_
  subst eq
  refine And.intro (noLim.keeps inC.toInCall.keep) (codeAny_func ?_)
  obtain ⟨t, derives, reads⟩ := walk cdv (rm.deeper _)
  have I := inv_start (CX := CX0) (P := P) (mg := mg) (base := base) (E := E) S rm.hd st0 ln rel inC
  refine wpAny_mono (derives.nox.run [] s1 (start N vs) H _ I reads) (fun fl s' hs => ?_) fun e s' hs => hs
  cases fl with
  | ret u =>
    obtain ⟨v, σ', H', J, rv, q⟩ := hs
    exact ⟨v, H', J.os, J.bare, J.base, J.hok, rv, q⟩
  | next =>
    obtain ⟨σ', H', J, q⟩ := hs
    exact ⟨V.non, H', J.os, J.bare, J.base, J.hok, rfl, q⟩
  | brk => obtain ⟨_, _, _, q⟩ := hs; exact q.elim
  | cont => obtain ⟨_, _, _, q⟩ := hs; exact q.elim

/-- what a law's own def has to show: at a list of at most 63 ints it hands back True, where no guard stands -/
def LawRun (P : Program) (w : World) (K : PySem.W.Frag) (mg : Str → Option Value) (fa : Addr) : Prop :=
  ∀ (base : Heap) (H : Hp) (s : Shared) (a : Addr) (ns : List Int), K.In base → base.Ns mainGlobals mg → SqL K H a (ns.map V.int) → ns.length ≤ 63 → Env0 P w K mg base callerA [] s H →
    codeAny (model P w) callerA (.call (.ref fa) ⟨[.ref a], []⟩) (CR CX0 [] P w H s (fun v _ => v = .bl true) fun _ _ _ => False) s
/-- the script stands alone in the heap that is told: in H only at a, if at all -/
structure Alone (H : Hp) (h : Heap) (K : PySem.W.Frag) (a : Addr) : Prop where
  only : Only H
  here : ∀ b, H b ≠ none → b = a
  off : H a ≠ none → K.lookup a = none
theorem Alone.none {H : Hp} {h : Heap} {K : PySem.W.Frag} {a b : Addr} {o p : Obj} (x : Alone H h K a) (e : h.get? b = some o) (ea : h.get? a = some p) (d : o.data ≠ p.data) : H b = none := by
  cases q : H b with
  | none => rfl
  | some u =>
    have z := x.here b (by rw [q]; exact fun z => nomatch z)
    subst z
    rw [ea] at e
    cases e
    exact absurd rfl d
theorem Alone.ns {H : Hp} {h : Heap} {K : PySem.W.Frag} {a b : Addr} {vs : Array Value} {m : Str → Option Value} (x : Alone H h K a) (ea : h.get? a = some { cls := .type "list", data := .seq vs }) (n : h.Ns b m) : (hidT h H).Ns b m := by
  obtain ⟨o, es, ep, e, d, r⟩ := n
  refine ⟨o, es, ep, hidT_get e (x.none e ea ?_), d, r⟩
  rw [d]
  intro z
  cases z
theorem Alone.kin {H : Hp} {h : Heap} {K : PySem.W.Frag} {a : Addr} (x : Alone H h K a) (X : K.In h) : K.In (hidT h H) := by
  intro b o e
  refine hidT_get (X b o e) ?_
  cases q : H b with
  | none => rfl
  | some u =>
    have z := x.here b (by rw [q]; exact fun z => nomatch z)
    subst z
    rw [x.off (by rw [q]; exact fun z => nomatch z)] at e
    cases e
theorem law_ends {fa a : Addr} {s : Shared} {vs : List Value} {ns : List Int} {mb : Str → Option Value} {H : Hp} (R : LawRun P w K mg fa) (al : Alone H s.heap K a)
    (X : K.In s.heap) (g : s.heap.Ns mainGlobals mg) (b : s.heap.Ns builtinsNs mb) (bb : ∀ x : Str, x ≠ "__name__" → mb x = bootBuiltins x) (lim : s.heap.NoLimit) (gs : s.gens = #[])
    (ea : s.heap.get? a = some { cls := .type "list", data := .seq vs.toArray }) (hS : SqL K H a (ns.map V.int)) (hl : ns.length ≤ 63) (ok : HOk P w H s.heap) :
    codeAny (model P w) callerA (.call (.ref fa) ⟨[.ref a], []⟩) (fun r s' => r = .ok (.ret (.bool true)) ∧ OldK s.heap s'.heap ∧ s'.os = s.os ∧ AllBare s'.gens) s := by
  have M : Mod K mg (hidT s.heap H) := by
    refine ⟨al.kin X, al.ns ea g, ⟨mb, al.ns ea b, bb⟩, ?_⟩
    obtain ⟨mc, l1, l2⟩ := lim
    exact ⟨mc, al.ns ea l1, l2⟩
  have st0 : Env0 P w K mg (hidT s.heap H) callerA [] s H := by
    refine ⟨rfl, M, fun b o e => of_hidT e, Nat.le_of_eq (hidT_size _ _), trivial, fun b hb => ?_, ok, AllBare.of_eq gs⟩
    cases (show b ∈ ([] : List Addr) from hb)
  refine codeAny_mono (R _ H s a ns M.kin M.glob hS hl st0) fun r s' q => ?_
  match r, q with
  | .error e, q => exact False.elim q
  | .ok (.next), q => exact False.elim q
  | .ok (.brk), q => exact False.elim q
  | .ok (.cont), q => exact False.elim q
  | .ok (.ret u), q =>
    obtain ⟨v, H', eos, bare, un, ok', rv, qv⟩ := q
    have qv' : v = .bl true := qv
    subst qv'
    obtain rfl : u = Value.bool true := rv
    refine And.intro rfl (And.intro (OldK.of_keep fun c o e => ?_) (And.intro eos bare))
    rcases al.only c with z | ⟨ob, xs, z⟩
    · exact un.keep c o e z (fun y => by cases (show c ∈ ([] : List Addr) from y)) (by simp)
    · have h1 := (ok c _ z).1
      have h2 := (ok' c _ (un.frzs c ob _ z)).1
      rw [e] at h1
      cases h1
      exact h2
theorem law_known {fa a : Addr} {s : Shared} {vs : List Value} {ns : List Int} {mb : Str → Option Value} (R : LawRun P w K mg fa)
    (X : K.In s.heap) (g : s.heap.Ns mainGlobals mg) (b : s.heap.Ns builtinsNs mb) (bb : ∀ x : Str, x ≠ "__name__" → mb x = bootBuiltins x) (lim : s.heap.NoLimit) (gs : s.gens = #[])
    (ea : s.heap.get? a = some { cls := .type "list", data := .seq vs.toArray }) (hi : IntsAre vs ns) (hl : ns.length ≤ 63) :
    codeAny (model P w) callerA (.call (.ref fa) ⟨[.ref a], []⟩) (fun r s' => r = .ok (.ret (.bool true)) ∧ OldK s.heap s'.heap ∧ s'.os = s.os ∧ AllBare s'.gens) s := by
  have rel := vals_ints hi
  have ll := hi.length
  have hl2 : ns.length ≤ sizeLine := Nat.le_trans hl (by decide)
  cases lk : K.lookup a with
  | some o =>
    have e := X a o lk
    rw [ea] at e
    cases e
    refine law_ends (H := fun _ => Option.none) R ⟨fun _ => .inl rfl, fun _ z => absurd rfl z, fun z => absurd rfl z⟩ X g b bb lim gs ea ?_ hl (fun _ _ z => by cases (show (Option.none : Option HO) = some _ from z))
    refine .inr ⟨_, vs.toArray, _, lk, rfl, rfl, rfl, ?_, by simpa using rel⟩
    rw [List.size_toArray, ll]
    exact hl2
  | none =>
    let o0 : HO := .frz { cls := .type "list", data := .seq vs.toArray } (.lst (ns.map V.int))
    have at0 : ∀ c u, (fun c => if c = a then some o0 else Option.none) c = some u → c = a ∧ u = o0 := fun c u z => by
      by_cases hc : c = a
      · have z' := (if_pos hc).symm.trans z
        exact ⟨hc, (Option.some.inj z').symm⟩
      · have z' := (if_neg hc).symm.trans z
        cases z'
    refine law_ends (H := fun c => if c = a then some o0 else Option.none) R ⟨fun c => ?_, fun c z => ?_, fun _ => lk⟩ X g b bb lim gs ea (.inl (.inr ⟨_, if_pos rfl⟩)) hl (fun c u z => ?_)
    · by_cases hc : c = a
      · exact .inr ⟨_, _, if_pos hc⟩
      · exact .inl (if_neg hc)
    · by_cases hc : c = a
      · exact hc
      · exact absurd (if_neg hc) z
    · obtain ⟨hc, hu⟩ := at0 c u z
      subst hc
      subst hu
      exact ⟨ea, by rw [List.length_map]; exact hl2, vs, _, rel, ea⟩
/-- the end of a law's row -/
theorem walk_known {l : PySem.W.OpenLaw} {q : Program} {loose : List Str} {XP : (Str → Option Value) → Heap → Prop} {YP : World → Heap → Prop} {d : DefRec} {K : Params → PySem.W.Frag} (hn : l.most = some 63) (hdf : d.params.defaults = [])
    (hY : ∀ (w : World) (h : Heap), YP w h → (K w.params).In h)
    (R : ∀ (w : World) (mg : Str → Option Value) (fa : Addr) (h : Heap), (K w.params).In h → h.Ns mainGlobals mg → mg d.name = some (.ref fa) → LawRun l.prog w (K w.params) mg fa) :
    PySem.W.WalkO q loose XP YP l.row.toRowW d [] (fun f vs => PySem.call f vs) := by
  refine Att.attach_call hn hdf fun w s₀ s₁ mg mb fa o pm cd doc a vs ns G Y ho hd hcd hmg hobj hints hlen hg => ?_
  have KX := hY w _ Y
  exact law_known (R w mg fa _ KX G.T.g hmg) KX G.T.g G.T.b G.T.builtins G.T.nolimit hg hobj hints hlen
end

/-! ### data, and its repr -/
mutual
/-- v is the data d; its lists and dicts are none of the machine's two -/
inductive Dq (K : PySem.W.Frag) (H : Hp) (m l : Addr) : V → PyData → Prop
  | non : Dq K H m l .non .none
  | bl (b : Bool) : Dq K H m l (.bl b) (.bool b)
  | int (i : Int) : Dq K H m l (.int i) (.int i)
  | str (x : Str) : Dq K H m l (.str x) (.str x)
  | lst {a : Addr} {xs : List V} {ds : List PyData} : H a = some (.lst xs) → a ≠ m → a ≠ l → DqAll K H m l xs ds → Dq K H m l (.ref a) (.list ds)
  | tup {a : Addr} {xs : List V} {ds : List PyData} : SqT K H a xs → DqAll K H m l xs ds → Dq K H m l (.ref a) (.tuple ds)
  | dct {a : Addr} : H a = some (.dK []) → a ≠ m → a ≠ l → Dq K H m l (.ref a) (.dict [])
inductive DqAll (K : PySem.W.Frag) (H : Hp) (m l : Addr) : List V → List PyData → Prop
  | nil : DqAll K H m l [] []
  | cons {v : V} {vs : List V} {d : PyData} {ds : List PyData} : Dq K H m l v d → DqAll K H m l vs ds → DqAll K H m l (v :: vs) (d :: ds)
end
/-- from one heap to another one: what is not the machine's stands, and is not the machine's then -/
structure Kept (m l l' : Addr) (H H' : Hp) : Prop where
  keep : ∀ b o, H b = some o → b ≠ m → b ≠ l → H' b = some o
  ne : ∀ b o, H b = some o → b ≠ l → b ≠ l'
  am : ∃ z, H m = some (.dK z)
  al : ∃ z, H l = some (.lst z)
theorem Kept.tup {K : PySem.W.Frag} {m l l' a : Addr} {H H' : Hp} {xs : List V} (k : Kept m l l' H H') (h : SqT K H a xs) : SqT K H' a xs := by
  obtain ⟨z1, e1⟩ := k.am
  obtain ⟨z2, e2⟩ := k.al
  rcases h with (h | ⟨o, h⟩) | h
  · exact .inl (.inl (k.keep a _ h (ne_of h e1 (by intro z; cases z)) (ne_of h e2 (by intro z; cases z))))
  · exact .inl (.inr ⟨o, k.keep a _ h (ne_of h e1 (by intro z; cases z)) (ne_of h e2 (by intro z; cases z))⟩)
  · exact .inr h
mutual
theorem Dq.step {K : PySem.W.Frag} {m l l' : Addr} {H H' : Hp} (k : Kept m l l' H H') : ∀ (d : PyData) (v : V), Dq K H m l v d → Dq K H' m l' v d
  | .none, _, h => by cases h; exact .non
  | .bool b, _, h => by cases h; exact .bl b
  | .int i, _, h => by cases h; exact .int i
  | .str x, _, h => by cases h; exact .str x
  | .list ds, _, h => by
    cases h with
    | lst e n1 n2 t => exact .lst (k.keep _ _ e n1 n2) n1 (k.ne _ _ e n2) (DqAll.step k ds _ t)
  | .tuple ds, _, h => by
    cases h with
    | tup e t => exact .tup (k.tup e) (DqAll.step k ds _ t)
  | .dict _, _, h => by
    cases h with
    | dct e n1 n2 => exact .dct (k.keep _ _ e n1 n2) n1 (k.ne _ _ e n2)
theorem DqAll.step {K : PySem.W.Frag} {m l l' : Addr} {H H' : Hp} (k : Kept m l l' H H') : ∀ (ds : List PyData) (vs : List V), DqAll K H m l vs ds → DqAll K H' m l' vs ds
  | [], _, h => by cases h; exact .nil
  | d :: ds, _, h => by
    cases h with
    | cons h1 h2 => exact .cons (Dq.step k d _ h1) (DqAll.step k ds _ h2)
end
section
variable {X : Cx} {pins : List (Addr × Obj)} {σ : L2.St} {H : Hp} {s : Shared} {m l : Addr}
mutual
theorem Dq.reads (I : Inv X pins σ H s) (hs : H sysModules = none) : ∀ (d : PyData) (v : V) (u : Value), Dq X.K H m l v d → RelV v u → ∃ as, Reads s.heap u d as ∧ sysModules ∉ as
  | .none, _, _, h, r => by cases h; cases r; exact ⟨_, .none, by simp⟩
  | .bool b, _, _, h, r => by cases h; cases r; exact ⟨_, .bool b, by simp⟩
  | .int i, _, _, h, r => by cases h; obtain ⟨t, rfl⟩ := r; exact ⟨_, .int i t, by simp⟩
  | .str x, _, _, h, r => by cases h; obtain ⟨t, rfl⟩ := r; exact ⟨_, .str x t, by simp⟩
  | .list ds, _, _, h, r => by
    cases h with
    | lst e n1 n2 t =>
      cases r
      obtain ⟨its, rv, ⟨o, n, ho, hc, _, hd⟩, _⟩ := I.list (SqL.of e)
      obtain ⟨as, q1, q2⟩ := DqAll.reads I hs ds _ its t rv
      refine ⟨_, Reads.list ho hc hd q1, fun z => ?_⟩
      rcases List.mem_cons.mp z with z | z
      · rw [← z, hs] at e; cases e
      · exact q2 z
  | .tuple ds, _, _, h, r => by
    cases h with
    | tup e t =>
      cases r
      obtain ⟨its, rv, ⟨o, ho, hc, n, hd⟩, _⟩ := I.tuple e
      obtain ⟨as, q1, q2⟩ := DqAll.reads I hs ds _ its t rv
      exact ⟨_, Reads.tuple ho hc hd q1, q2⟩
  | .dict _, _, _, h, r => by
    cases h with
    | dct e n1 n2 =>
      cases r
      obtain ⟨z, hd, vs, rel, dd⟩ := dk_of I.hok e
      cases rel
      obtain ⟨o, es, ep, ho, hc, hdat, hlay⟩ := id dd
      have e0 : es.toList = [] := by
        have p := hlay.2.1
        cases q : es.toList with
        | nil => rfl
        | cons z zs => rw [q] at p; cases p
      refine ⟨_, Reads.dict (as := []) (bs := []) ho hc.1 hdat ?_ ?_, ?_⟩
      · rw [e0]; exact .nil
      · rw [e0]; exact .nil
      · intro z
        have z2 := List.mem_singleton.mp (show sysModules ∈ [_] from z)
        rw [← z2, hs] at e
        cases e
theorem DqAll.reads (I : Inv X pins σ H s) (hs : H sysModules = none) : ∀ (ds : List PyData) (vs : List V) (us : List Value), DqAll X.K H m l vs ds → Vals vs us → ∃ as, ReadsAll s.heap us ds as ∧ sysModules ∉ as
  | [], _, _, h, r => by cases h; cases r; exact ⟨_, .nil, by simp⟩
  | d :: ds, _, _, h, r => by
    cases h with
    | cons h1 h2 =>
      cases r with
      | cons r1 r2 =>
        obtain ⟨as, q1, p1⟩ := Dq.reads I hs d _ _ h1 r1
        obtain ⟨bs, q2, p2⟩ := DqAll.reads I hs ds _ _ h2 r2
        exact ⟨_, .cons q1 q2, fun z => (List.mem_append.mp z).elim p1 p2⟩
end
theorem no_sys {o : Obj} (hk : X.K.lookup sysModules = some o) (I : Inv X pins σ H s) : H sysModules = none := (I.bs _ _ (I.ok.mod.kin _ _ hk)).2
end
/-- repr(x) -/
theorem call_repr {X : Cx} {o : Obj} (hg : X.A.guards = some []) (hu : X.A.units + 64 < cLine) (hk : X.K.lookup sysModules = some o) :
    CallR X (.builtin "repr") (fun xs H Q => ∃ x d m l, xs = [x] ∧ Dq X.K H m l x d ∧ d.showable = true ∧ d.depth ≤ 60 ∧ d.shown.length ≤ sizeLine ∧ Q (.str d.shown) H) := by
  intro pins s σ H xs us Q I r h
  obtain ⟨x, d, m, l, rfl, hd, hs, hdep, hlen, q⟩ := h
  obtain ⟨u, rfl, rx⟩ := vals1 r
  obtain ⟨as, rd, na⟩ := Dq.reads I (no_sys hk I) d x u hd rx
  cases rd with
  | none => exact PySem.P.repr_of_none ⟨V.str _, H, I.tok _, ⟨_, rfl⟩, by simpa only [PyData.shown] using q⟩
  | bool b => exact PySem.P.repr_of_bool ⟨V.str _, H, I.tok _, ⟨_, rfl⟩, by simpa only [PyData.shown] using q⟩
  | int i t => exact PySem.P.repr_of_int (by simpa [PyData.showable] using hs) ⟨V.str _, H, I.tok _, ⟨_, rfl⟩, by simpa only [PyData.shown] using q⟩
  | str y t => exact PySem.P.repr_of_str ⟨V.str _, H, I.tok _, ⟨_, rfl⟩, by simpa only [PyData.shown] using q⟩ (by simpa only [PyData.shown] using hlen)
  | list h1 h2 h3 h4 => exact repr_of_reads' (.list h1 h2 h3 h4) hs (fun _ => na) hg (by omega) (fun _ _ e => e) (fun h' u' tk k => ⟨V.str _, H, I.kept k, ⟨_, rfl⟩, q⟩) hlen
  | tuple h1 h2 h3 h4 => exact repr_of_reads' (.tuple h1 h2 h3 h4) hs (fun _ => na) hg (by omega) (fun _ _ e => e) (fun h' u' tk k => ⟨V.str _, H, I.kept k, ⟨_, rfl⟩, q⟩) hlen
  | dict h1 h2 h3 h4 h5 => exact repr_of_reads' (.dict h1 h2 h3 h4 h5) hs (fun _ => na) hg (by omega) (fun _ _ e => e) (fun h' u' tk k => ⟨V.str _, H, I.kept k, ⟨_, rfl⟩, q⟩) hlen

/-! ### the same, of data that is a dict or bears none -/
def plainD : PyData → Bool
  | .dict [] => true
  | d => !d.hasDict
section
variable {X : Cx} {pins : List (Addr × Obj)} {σ : L2.St} {H : Hp} {s : Shared} {m l : Addr}
mutual
theorem Dq.reads0 (I : Inv X pins σ H s) : ∀ (d : PyData) (v : V) (u : Value), Dq X.K H m l v d → RelV v u → ∃ as, Reads s.heap u d as ∧ (d = .dict [] → sysModules ∉ as)
  | .none, _, _, h, r => by cases h; cases r; exact ⟨_, .none, by simp⟩
  | .bool b, _, _, h, r => by cases h; cases r; exact ⟨_, .bool b, by simp⟩
  | .int i, _, _, h, r => by cases h; obtain ⟨t, rfl⟩ := r; exact ⟨_, .int i t, by simp⟩
  | .str x, _, _, h, r => by cases h; obtain ⟨t, rfl⟩ := r; exact ⟨_, .str x t, by simp⟩
  | .list ds, _, _, h, r => by
    cases h with
    | lst e n1 n2 t =>
      cases r
      obtain ⟨its, rv, ⟨o, n, ho, hc, _, hd⟩, _⟩ := I.list (SqL.of e)
      obtain ⟨as, q1⟩ := DqAll.reads0 I ds _ its t rv
      exact ⟨_, Reads.list ho hc hd q1, fun z => nomatch z⟩
  | .tuple ds, _, _, h, r => by
    cases h with
    | tup e t =>
      cases r
      obtain ⟨its, rv, ⟨o, ho, hc, n, hd⟩, _⟩ := I.tuple e
      obtain ⟨as, q1⟩ := DqAll.reads0 I ds _ its t rv
      exact ⟨_, Reads.tuple ho hc hd q1, fun z => nomatch z⟩
  | .dict _, _, _, h, r => by
    cases h with
    | dct e n1 n2 =>
      cases r
      obtain ⟨z, hd, vs, rel, dd⟩ := dk_of I.hok e
      cases rel
      obtain ⟨o, es, ep, ho, hc, hdat, hlay⟩ := id dd
      have e0 : es.toList = [] := by
        have p := hlay.2.1
        cases q : es.toList with
        | nil => rfl
        | cons z zs => rw [q] at p; cases p
      refine ⟨_, Reads.dict (as := []) (bs := []) ho hc.1 hdat ?_ ?_, fun _ z => ?_⟩
      · rw [e0]; exact .nil
      · rw [e0]; exact .nil
      · have z2 := List.mem_singleton.mp (show sysModules ∈ [_] from z)
        rw [← z2] at hd
        exact absurd hd (by decide)
theorem DqAll.reads0 (I : Inv X pins σ H s) : ∀ (ds : List PyData) (vs : List V) (us : List Value), DqAll X.K H m l vs ds → Vals vs us → ∃ as, ReadsAll s.heap us ds as
  | [], _, _, h, r => by cases h; cases r; exact ⟨_, .nil⟩
  | d :: ds, _, _, h, r => by
    cases h with
    | cons h1 h2 =>
      cases r with
      | cons r1 r2 =>
        obtain ⟨as, q1, p1⟩ := Dq.reads0 I d _ _ h1 r1
        obtain ⟨bs, q2⟩ := DqAll.reads0 I ds _ _ h2 r2
        exact ⟨_, .cons q1 q2⟩
end
end
theorem plain_off {d : PyData} {as : List Addr} (p : plainD d = true) (h : d = .dict [] → sysModules ∉ as) : d.hasDict = true → sysModules ∉ as := fun z => by
  cases d with
  | dict kvs =>
    cases kvs with
    | nil => exact h rfl
    | cons a b =>
      have p' : (!(PyData.dict (a :: b)).hasDict) = true := p
      rw [z] at p'
      cases p'
  | _ =>
    have p' := p
    simp only [plainD, Bool.not_eq_true'] at p'
    rw [z] at p'
    cases p'
theorem call_repr0 {X : Cx} (hg : X.A.guards = some []) (hu : X.A.units + 64 < cLine) :
    CallR X (.builtin "repr") (fun xs H Q => ∃ x d m l, xs = [x] ∧ Dq X.K H m l x d ∧ plainD d = true ∧ d.showable = true ∧ d.depth ≤ 60 ∧ d.shown.length ≤ sizeLine ∧ Q (.str d.shown) H) := by
  intro pins s σ H xs us Q I r h
  obtain ⟨x, d, m, l, rfl, hd, hp, hs, hdep, hlen, q⟩ := h
  obtain ⟨u, rfl, rx⟩ := vals1 r
  obtain ⟨as, rd, na0⟩ := Dq.reads0 I d x u hd rx
  have na := plain_off hp na0
  cases rd with
  | none => exact PySem.P.repr_of_none ⟨V.str _, H, I.tok _, ⟨_, rfl⟩, by simpa only [PyData.shown] using q⟩
  | bool b => exact PySem.P.repr_of_bool ⟨V.str _, H, I.tok _, ⟨_, rfl⟩, by simpa only [PyData.shown] using q⟩
  | int i t => exact PySem.P.repr_of_int (by simpa [PyData.showable] using hs) ⟨V.str _, H, I.tok _, ⟨_, rfl⟩, by simpa only [PyData.shown] using q⟩
  | str y t => exact PySem.P.repr_of_str ⟨V.str _, H, I.tok _, ⟨_, rfl⟩, by simpa only [PyData.shown] using q⟩ (by simpa only [PyData.shown] using hlen)
  | list h1 h2 h3 h4 => exact repr_of_reads' (.list h1 h2 h3 h4) hs na hg (by omega) (fun _ _ e => e) (fun h' u' tk k => ⟨V.str _, H, I.kept k, ⟨_, rfl⟩, q⟩) hlen
  | tuple h1 h2 h3 h4 => exact repr_of_reads' (.tuple h1 h2 h3 h4) hs na hg (by omega) (fun _ _ e => e) (fun h' u' tk k => ⟨V.str _, H, I.kept k, ⟨_, rfl⟩, q⟩) hlen
  | dict h1 h2 h3 h4 h5 => exact repr_of_reads' (.dict h1 h2 h3 h4 h5) hs na hg (by omega) (fun _ _ e => e) (fun h' u' tk k => ⟨V.str _, H, I.kept k, ⟨_, rfl⟩, q⟩) hlen
end Ms
namespace Ms
open PySem PySem.Spec PyProof.Rows
section
open Builtin Builtin.ObjectAttr
variable {prog : Program} {w : World} {A : Around} {E : Value → Shared → Prop} {R : Result → Shared → Prop} {hp : Heap} {g : Array GenState} {d : Drawn} {t : Nat} {os : OsState} {B newId initId : String} {bmB : List Value}
/-- the first field of an exception, whatever its built-in base -/
theorem exc_put {K : PySem.W.Frag} {name : Str} {tk : Tok} {v : Value} {x C : Addr} {fv : Array Value} (SF : StoreFacts B bmB "object.__setattr__" "object") (X : K.In hp)
    (hx : hp.get? x = some { cls := .ref C, data := .fields fv }) (ov : PySem.W.excOver K C bmB = true) (hd : PySem.W.hasDictIn K C = true) (ht : PySem.W.takerIn K C name = some none)
    (hq : ∀ h' tk' dx, (∀ b o, b ≠ x → hp.get? b = some o → h'.get? b = some o) → hp.objs.size ≤ dx → dx ≠ x → h'.get? x = some { cls := .ref C, dict := some dx, data := .fields fv } →
      h'.Ns1 dx (fun y => if y = name then some v else none) → R (.ok (.ret .none)) ⟨h', g, d, tk', os⟩) :
    codeAny (model prog w) A (.call (.builtin "object.__setattr__") ⟨[.ref x, .str name tk, v], []⟩) R ⟨hp, g, d, t, os⟩ := by
  have far : x ≠ hp.objs.size := Nat.ne_of_lt (Heap.lt_size hx)
  refine PySem.W.osa_openX (s := ⟨hp, g, d, t, os⟩) (ox := { cls := .ref C, data := .fields fv }) (od := none) SF X ⟨hx, rfl, rfl, trivial⟩ ov ht fun b => ?_
  show wpAny _ _ (storeInOwnDict (.ref x) (.ref C) (.str name tk) name v b) _ _ _
  obtain ⟨cd, hc, hhd⟩ := PySem.W.any_some hd
  have look : PySem.W.Looks (model prog w) hp (classData C) cd := PySem.W.looks_clsIn X hc
  obtain ⟨nm, bs, mro, ns, qn, has, sn, sb, ab, col, del⟩ := cd
  dsimp only at hhd
  subst hhd
  unfold storeInOwnDict ownDictForStores
  repeat (first | with_reducible refine PySem.HandSPX.store_in_new ?_ ?_ | with_reducible refine wpAny_loadPart_at hx ?_ | with_reducible refine look.at ?_ | wp_step)
  · exact ⟨_, #[], _, (Heap.get?_update_ne _ _ _ _ far.symm).trans (Heap.get?_push_at rfl rfl), rfl, fun e he => absurd he (by simp), fun _ => rfl⟩
  · intro h' tk' hn' hs
    have old : (hp.push { cls := .type "dict", data := .dict #[] }).get? x = some { cls := .ref C, data := .fields fv } := Heap.get?_push_of_some _ hx
    refine hq h' tk' hp.objs.size (fun b o hb ho => ?_) (Nat.le_refl _) far.symm ?_ hn'
    · rw [hs.2 b (Nat.ne_of_lt (Heap.lt_size ho)), Heap.get?_update_ne _ _ _ _ hb]
      exact Heap.get?_push_of_some _ ho
    · rw [hs.2 x far]
      exact Heap.get?_update_self _ old rfl

/-! ### C(f = u): an own exception class called by its field's name -/
section
variable {nm q : Str} {C N : Addr} {bs bm : List Value} {hdct : Bool} {sn : List Str} {sub : List Value} {ab : Bool} {col : Option Bool} {dd : Option Addr} {k0 k1 k2 k3 k5 : Option Value} {f : Str} {u : Value}
theorem kw_checked (F : ExcBaseFacts B newId initId bmB) (same : ∀ Y : String, bm.contains (.type Y) = bmB.contains (.type Y)) {Q : Unit → Shared → Prop}
    (hC : hp.get? C = some (excClassObj nm q C N bs bm hdct sn sub ab col dd k0 k1 k2 k3 k5 newId)) (hq : Q () ⟨hp, g, d, t, os⟩) : wpAny (model prog w) A (checkBuiltinCall newId ⟨[.ref C], [(f, u)]⟩) Q E ⟨hp, g, d, t, os⟩ := by
  have hasB : (Value.ref C :: bm).contains (.type B) = true := by rw [List.contains_cons, same, F.hasB, Bool.or_true]
  have star := F.noStar
  simp only [checkBuiltinCall, F.newKind, F.newSplit, F.newRow]
  repeat (first | refine wpAny_loadPart_at hC ?_ | (refine wpAny_isSubtype_exc hC ?_; rw [hasB]) | refine wpAny_staticBase_exc hC ?_ | refine wpAny_madeBy_exc hC ?_ | simp only [bne_self_eq_false, Bool.false_eq_true, if_false] | wp_step)
  exact hq
theorem kw_new (F : ExcBaseFacts B newId initId bmB) (same : ∀ Y : String, bm.contains (.type Y) = bmB.contains (.type Y))
    (hC : hp.get? C = some (excClassObj nm q C N bs bm hdct sn sub ab col dd k0 k1 k2 k3 k5 newId))
    (hq : R (.ok (.ret (.ref (hp.objs.size + 1)))) ⟨(hp.push { cls := .type "tuple", data := .seq #[] }).push { cls := .ref C, data := .fields #[.ref hp.objs.size, .none, .none, .none, .bool false, .none] }, g, d, t, os⟩) :
    codeAny (model prog w) A (.builtin newId ⟨[.ref C], [(f, u)]⟩) R ⟨hp, g, d, t, os⟩ := by
  have ends := F.ends
  have cB : (Value.ref C :: bm).contains (.type B) = true := by rw [List.contains_cons, same, F.hasB, Bool.or_true]
  have cA : (Value.ref C :: bm).contains (.type "AttributeError") = false := by rw [List.contains_cons, same, F.noAttr]; rfl
  have cN : (Value.ref C :: bm).contains (.type "NameError") = false := by rw [List.contains_cons, same, F.noName]; rfl
  refine codeAny_builtinAt F.entry ?_
  unfold Builtin.«BaseException.__new__»
  refine PySem.wpAt_bind ?_
  show PySem.wpAt _ _ _ (stack >>= _) _ _ _
  refine PySem.wpAt_bind (PySem.wpAt_stack fun p below => PySem.wpAt_of_wpAny ?_)
  wp_walk
  refine PySem.wpAt_of_wpAny ?_
  rw [F.owner]
  repeat (first | with_reducible refine wpAny_madeHere_exc F.canon hC ?_ | with_reducible refine wpAny_loadPart_at hC ?_ | (with_reducible refine wpAny_isSubtype_exc hC ?_; first | rw [cB] | rw [cA] | rw [cN]) | wp_step)
  show R _ _
  rw [Heap.size_push]
  exact hq
theorem kw_made (F : ExcBaseFacts B newId initId bmB) (same : ∀ Y : String, bm.contains (.type Y) = bmB.contains (.type Y)) {fI : Addr} {Q : Fin → Shared → Prop}
    (hC : hp.get? C = some (excClassObj nm q C N bs bm hdct sn sub ab col dd k0 k1 k2 k3 k5 newId))
    (ini : PySem.W.Looks (model prog w) hp (typeLookup (.ref C) "__init__") (some (.ref fI))) (bnd : ∀ self, PySem.W.Looks (model prog w) hp (bindSpecial (.ref fI) self) (.ref fI, [self]))
    (hq : codeAny (model prog w) A (.call (.ref fI) ⟨[.ref (hp.objs.size + 1)], [(f, u)]⟩)
      (fun r s' => match r with | .ok (.ret v) => v = .none ∧ Q (.done (.ret (.ref (hp.objs.size + 1)))) s' | .ok _ => False | .error e => E e s')
      ⟨(hp.push (PySem.W.kdv_tup [])).push (PySem.HandSPX.excO C hp.objs.size), g, d, t, os⟩) :
    wpAny (model prog w) A (Builtin.«type.__call__» ⟨[.ref C], [(f, u)]⟩) Q E ⟨hp, g, d, t, os⟩ := by
  repeat (first | with_reducible refine wpAny_loadPart_at hC ?_ | with_reducible refine wpAny_madeBy_exc hC ?_ | wp_step)
  refine codeAny_call_builtin_code (Code.quiet_builtin _ F.quiet) (kw_checked F same hC ?_)
  refine kw_new F same hC ?_
  show wpAny _ _ _ _ _ _
  have old : ∀ b o, hp.get? b = some o → ((hp.push (PySem.W.kdv_tup [])).push (PySem.HandSPX.excO C hp.objs.size)).get? b = some o := fun b o e => Heap.get?_push_of_some _ (Heap.get?_push_of_some _ e)
  have atC := old _ _ hC
  have atE : ((hp.push (PySem.W.kdv_tup [])).push (PySem.HandSPX.excO C hp.objs.size)).get? (hp.objs.size + 1) = some (PySem.HandSPX.excO C hp.objs.size) := by heap_get
  have isC : (Value.ref C :: bm).contains (.ref C) = true := by simp
  have look1 := ini.keeps old
  have look2 := (bnd (.ref (hp.objs.size + 1))).keeps old
  unfold isInstance
  repeat (first | with_reducible refine wpAny_loadPart_at atE ?_ | (with_reducible refine wpAny_isSubtype_exc atC ?_; rw [isC]) | wp_step)
  show wpAny _ _ (typeLookup (.ref C) _) _ _ _
  refine look1.at ?_
  refine wpAny_holding (wpAny_bind (look2.at (wpAny_bind (wpAny_call (codeAny_mono hq fun r s' z => ?_)))))
  rcases r with e | (v | _ | _ | _) <;> first | exact z | exact z.elim | skip
  obtain ⟨rfl, z⟩ := z
  first
    | exact wpAny_pure (wpAny_pure z)
    | (wp_walk; exact z)
theorem kw_type_checked {M : Model} {Q : Unit → Shared → Prop} (hC : hp.get? C = some (excClassObj nm q C N bs bm hdct sn sub ab col dd k0 k1 k2 k3 k5 newId)) (hq : Q () ⟨hp, g, d, t, os⟩) :
    wpAny M A (checkBuiltinCall "type.__call__" ⟨[.ref C], [(f, u)]⟩) Q E ⟨hp, g, d, t, os⟩ := by
  have below := tc_sub
  have isT : (⟨hp, g, d, t, os⟩ : Shared).TypeIs (.ref C) "type" := ⟨_, hC, rfl⟩
  simp only [checkBuiltinCall, tc_kind, tc_split]
  repeat (any_goals (first | assumption | with_reducible refine wpAny_loadPart_at hC ?_ | with_reducible refine wpAny_onRaise ?_ | with_reducible refine wpAny_map ?_ | wp_step))
theorem kw_called (F : ExcBaseFacts B newId initId bmB) (same : ∀ Y : String, bm.contains (.type Y) = bmB.contains (.type Y)) {fI : Addr}
    (hC : hp.get? C = some (excClassObj nm q C N bs bm hdct sn sub ab col dd k0 k1 k2 k3 k5 newId))
    (ini : PySem.W.Looks (model prog w) hp (typeLookup (.ref C) "__init__") (some (.ref fI))) (bnd : ∀ self, PySem.W.Looks (model prog w) hp (bindSpecial (.ref fI) self) (.ref fI, [self]))
    (hq : codeAny (model prog w) (A.under (.builtin "type.__call__" ⟨[.ref C], [(f, u)]⟩)) (.call (.ref fI) ⟨[.ref (hp.objs.size + 1)], [(f, u)]⟩) (PySem.W.InitBack (hp.objs.size + 1) R)
      ⟨(hp.push (PySem.W.kdv_tup [])).push (PySem.HandSPX.excO C hp.objs.size), g, d, t, os⟩) :
    codeAny (model prog w) A (.call (.ref C) ⟨[], [(f, u)]⟩) R ⟨hp, g, d, t, os⟩ := by
  have f1 := tc_lookup
  have f2 := tc_bind (.ref C)
  have isT : (⟨hp, g, d, t, os⟩ : Shared).TypeIs (.ref C) "type" := ⟨_, hC, rfl⟩
  refine codeAny_of_tree ?_
  show wpAny _ _ (callAny (.ref C) _) _ _ _
  repeat (any_goals (first | assumption | with_reducible refine wpAny_loadPart_at hC ?_ | wp_step))
  refine ⟨rfl, ?_⟩
  refine codeAny_call_builtin_at (Code.quiet_builtin _ (by decide +kernel)) entry_typeCall (kw_type_checked hC (kw_made F same hC ini bnd ?_))
  refine codeAny_mono hq fun r s' z => ?_
  rcases r with e | (v | _ | _ | _) <;> exact z
end
end
end Ms
namespace Ms
open PySem PySem.Spec PyProof.Rows L2
/-- what the written part says of an own exception class x, at C, that keeps one field f -/
structure XC (K : PySem.W.Frag) (C fI : Addr) (f : Str) (newId : String) (bmB : List Value) : Prop where
  ini : PySem.W.excInitIn K C bmB newId = true
  ovr : PySem.W.excOver K C bmB = true
  sa : PySem.W.findIn K (.ref C) "__setattr__" = some (some (.builtin "object.__setattr__"))
  tk : PySem.W.takerIn K C f = some none
  hd : PySem.W.hasDictIn K C = true
  iC : PySem.W.findIn K (.ref C) "__init__" = some (some (.ref fI))
  fn : PySem.W.isFn K (.ref fI) = true
  kC : PySem.W.keepIn K (.ref C) = true
/-- at a: an exception of the class at C whose field f is y -/
def XE (H : Hp) (a C : Addr) (f : Str) (y : V) : Prop := ∃ dx, H a = some (exo a C (some dx)) ∧ H dx = some (exd dx [(f, y)])
def laidX (H : Hp) (a dx C : Addr) (f : Str) (y : V) : Hp := upd (upd H dx (exd dx [(f, y)])) a (exo a C (some dx))
def spInit (C : Addr) (f : Str) : Sp := fun vs H Q _ => ∃ (a : Addr) (y : V), vs = [.ref a, y] ∧ H a = some (exo a C none) ∧ ∀ dx, H dx = none → dx ≠ a → Q .non (laidX H a dx C f y)
section
variable {X : Cx} {pins : List (Addr × Obj)} {σ : L2.St} {H : Hp} {C fI a : Addr} {f : Str} {B newId initId : String} {bmB : List Value}
theorem inv_laid {hp h' : Heap} {g : Array GenState} {d : Drawn} {t tk : Nat} {os : OsState} {dx t1 : Addr} {y : V} {u : Value} (I : Inv X pins σ H ⟨hp, g, d, t, os⟩) (e : H a = some (exo a C none))
    (k : ∀ b o, b ≠ a → hp.get? b = some o → h'.get? b = some o) (dn : hp.objs.size ≤ dx) (hx : h'.get? a = some ({ cls := .ref C, dict := some dx, data := .fields #[.ref t1, .none, .none, .none, .bool false, .none] } : Obj))
    (hn : h'.Ns1 dx (fun z => if z = f then some u else none)) (ry : RelV y u) : Inv X pins σ (laidX H a dx C f y) ⟨h', g, d, tk, os⟩ := by
  have hnd : H dx = none := I.hok.fresh dn
  have nd : ∀ {b : Addr} {o : Obj}, hp.get? b = some o → b ≠ dx := fun {b o} q => Nat.ne_of_lt (Nat.lt_of_lt_of_le (Heap.lt_size q) dn)
  have na : ∀ {b : Addr}, H b = none → b ≠ a := fun {b} n z => by rw [z, e] at n; cases n
  have un : Un X.fs [] H (laidX H a dx C f y) hp h' := by
    constructor
    · exact fun b o q n _ _ => k b o (na n) q
    · exact fun b o q n _ _ => ⟨o.slots, k b o (na n) q⟩
    · intro b o q n _
      unfold laidX
      rw [upd_ne (na n), upd_ne (nd q)]
      exact n
    · intro b o q _
      by_cases hb : b = a
      · exact ⟨_, by rw [hb]; exact hx⟩
      · exact ⟨o, k b o hb q⟩
    · intro b xs q
      unfold laidX
      rw [upd_ne (at_ne e q exo_tup), upd_ne (ne_of_none q hnd)]
      exact q
    · intro b o v q
      unfold laidX
      rw [upd_ne (at_ne e q exo_frz), upd_ne (ne_of_none q hnd)]
      exact q
    · intro b ps q
      refine ⟨#[], ?_⟩
      unfold laidX
      rw [upd_ne (at_ne e q exo_tbl), upd_ne (ne_of_none q hnd), q]
      simp
  refine I.un (t' := tk) un fun b o q => ?_
  unfold laidX at q ⊢
  by_cases hb : b = a
  · subst hb
    rw [upd_same] at q
    cases q
    exact exo_ok hx
  · rw [upd_ne hb] at q
    by_cases hd : b = dx
    · subst hd
      rw [upd_same] at q
      cases q
      exact exd_ok hn (relO_put (fs := []) ry fun g => True.intro)
    · rw [upd_ne hd] at q
      refine (I.hok b o q).stay (fun c v hc z => k c v ?_ z) (fun c hc => ?_) fun c xs hc => ?_
      · rcases hc with hc | hc
        · rw [hc]; exact hb
        · exact at_ne e hc exo_own
      · rw [upd_ne (at_ne e hc exo_own), upd_ne (ne_of_none hc hnd)]; exact hc
      · rw [upd_ne (at_ne e hc exo_tup), upd_ne (ne_of_none hc hnd)]; exact hc
/-- self.f = y -/
theorem xc_store {s : Shared} {y : V} {u : Value} {Q : Unit → Shared → Prop} {E : Value → Shared → Prop} {A : Around} (SF : StoreFacts B bmB "object.__setattr__" "object") (T : XC X.K C fI f newId bmB) (I : Inv X pins σ H s) (e : H a = some (exo a C none)) (ry : RelV y u)
    (h : ∀ dx s', H dx = none → dx ≠ a → Inv X pins σ (laidX H a dx C f y) s' → Q () s') : wpAny (model X.prog X.w) A (setAttr (.ref a) f u) Q E s := by
  obtain ⟨t1, ho⟩ := exo_at I.hok e
  obtain ⟨hp, g, d, t, os⟩ := s
  refine PySem.W.set_plain I.kIn (ox := { cls := .ref C, dict := none, data := .fields #[.ref t1, .none, .none, .none, .bool false, .none] }) (od := none) ⟨ho, rfl, rfl, trivial⟩ T.sa ?_
  refine exc_put SF I.kIn ho T.ovr T.hd T.tk fun h' tk' dx k dn dne hx hn => ?_
  exact h dx _ (I.hok.fresh dn) dne (inv_laid I e k dn hx hn ry)
def tXst (C : Addr) (f : Str) (to te : TE) : TS := fun D σ H => te σ H fun y H1 => to σ H1 fun x H2 => ∃ a : Addr, x = .ref a ∧ H2 a = some (exo a C none) ∧ ∀ dx, H2 dx = none → dx ≠ a → D.nx σ (laidX H2 a dx C f y)
theorem ps_xst {o e : Expr} {to te : TE} {p' pos : Pos} (SF : StoreFacts B bmB "object.__setattr__" "object") (T : XC X.K C fI f newId bmB) (ho : PE X o to) (he : PE X e te) (hs : swapsWith e (some (.Attribute o f p')) pos.line X.env = pure false := by rfl) :
    PS X (.Assign [.Attribute o f p'] e pos) (tXst C f to te) := by
  refine ⟨fun pins s σ H D I h => ?_⟩
  refine plainObj_wpAny_Assign_Attribute (thn (he.run pins s σ H _ I h) fun v s1 ⟨y, H1, I1, r1, q1⟩ => thn (ho.run pins s1 σ H1 _ I1 q1) fun u s2 ⟨x, H2, I2, r2, a, ex, ea, q⟩ => ?_) hs
  subst ex
  obtain rfl : u = Value.ref a := r2
  exact xc_store SF T I2 ea r1 fun dx s' n ne J => ⟨σ, _, J, q dx n ne⟩
end
section
variable {P : Program} {w : World} {K : PySem.W.Frag} {mg : Str → Option Value} {base : Heap} {C fI : Addr} {f : Str} {B newId initId : String} {bmB : List Value}
/-- __init__ of such a class -/
theorem ok_xinit {qual : Str} {st : Stmt} {fd : FuncData} {p1 p2 p3 p4 : Pos} (F : Fun K "__init__" qual st fI fd) (SF : StoreFacts B bmB "object.__setattr__" "object") (T : XC K C fI f newId bmB) (sc : FnScope ["self", f] ["self", f] (defScope st))
    (hb : defBody st = [.Assign [.Attribute (.Name "self" p1) f p2] (.Name f p3) p4]) (ls : (defScope st).names.lookup ("self" : Str) = some .local) (lf : (defScope st).names.lookup f = some .local) (gf : (f == ("__debug__" : Str)) = false) (gc : (f == ("__classdict__" : Str)) = false) : FnOk P w K mg base CX0 1 fI fd ["self", f] (spInit C f) := by
  refine F.ok sc (fun vs H Q E h => ?_) (fun cdv A outer s H vs Q E hr h => ?_)
  · obtain ⟨a, y, rfl, _⟩ := h
    rfl
  · obtain ⟨a, y, rfl, e, q⟩ := h
    rw [hb]
    refine ⟨_, pss_one (ps_xst SF T (pe_var (i := 0) rfl (.inl ls) (by decide) (by decide)) (pe_var (i := 1) rfl (.inl lf) gf gc) rfl), ?_⟩
    exact ⟨_, rfl, _, rfl, a, rfl, e, fun dx n ne => q dx n ne⟩
end

/-! ### C(e), C(f = e) -/
section
variable {X : Cx} {C fI : Addr} {f x : Str} {B newId initId : String} {bmB : List Value} {fd : FuncData} {te : TE} {e : Expr} {p pos : Pos}
def tXmk (C : Addr) (f : Str) (te : TE) : TE := fun σ H Q => te σ H fun y H1 => ∀ a dx, H1 a = none → H1 dx = none → dx ≠ a → Q (.ref a) (laidX H1 a dx C f y)
theorem laidX_over {H : Hp} {a dx C : Addr} {f : Str} {y : V} {o : HO} : laidX (upd H a o) a dx C f y = laidX H a dx C f y := by
  funext b
  unfold laidX upd
  by_cases h : b = a
  · rw [if_pos h, if_pos h]
  · rw [if_neg h, if_neg h]
    by_cases h2 : b = dx
    · simp only [if_pos h2]
      rw [if_neg h]
    · simp only [if_neg h2]
      rw [if_neg h]
/-- the making, from the call's arguments on: pos and kw are the two ways to hand the one value in -/
theorem xc_made {pins : List (Addr × Obj)} {σ : L2.St} {H1 : Hp} {hp : Heap} {g : Array GenState} {d : Drawn} {t : Nat} {os : OsState} {Q : VK} {y : V} {u : Value} {args : Args} (T : XC X.K C fI f newId bmB)
    (F1 : FnOk X.prog X.w X.K X.mg X.base CX0 1 fI fd ["self", f] (spInit C f)) (hr : Room 2 X.A) (I1 : Inv X pins σ H1 ⟨hp, g, d, t, os⟩) (ry : RelV y u) {A' : Around} (hA : Room 1 A') {tup : Obj}
    (env : ∀ s H, Env0 X.prog X.w X.K X.mg X.base X.A X.stack s H → Env0 X.prog X.w X.K X.mg X.base A' X.stack s H)
    (bd : ∀ s : Shared, X.K.In s.heap → BindsTo s fd args [("self", .ref (hp.objs.size + 1)), (f, u)])
    (q : ∀ a dx, H1 a = none → H1 dx = none → dx ≠ a → Q (.ref a) (laidX H1 a dx C f y)) :
    codeAny (model X.prog X.w) A' (.call (.ref fI) args) (PySem.W.InitBack (hp.objs.size + 1) fun r s' => match r with | .ok (.ret v) => EP X pins σ Q v s' | .ok _ => False | .error x => X.xe x s')
      ⟨(hp.push tup).push (PySem.HandSPX.excO C hp.objs.size), g, d, t, os⟩ := by
  have big : hp.objs.size ≤ hp.objs.size + 1 := Nat.le_succ _
  have new : H1 (hp.objs.size + 1) = none := I1.hok.fresh big
  have old : ∀ b o, hp.get? b = some o → ((hp.push tup).push (PySem.HandSPX.excO C hp.objs.size)).get? b = some o := fun b o z => Heap.get?_push_of_some _ (Heap.get?_push_of_some _ z)
  have atE : ((hp.push tup).push (PySem.HandSPX.excO C hp.objs.size)).get? (hp.objs.size + 1) = some (PySem.HandSPX.excO C hp.objs.size) := by
    have z := Heap.get?_push_size (h := hp.push tup) (o := PySem.HandSPX.excO C hp.objs.size) (ho := rfl)
    rw [Heap.size_push] at z
    exact z
  have I2 : Inv X pins σ (upd H1 (hp.objs.size + 1) (exo (hp.objs.size + 1) C none)) ⟨(hp.push tup).push (PySem.HandSPX.excO C hp.objs.size), g, d, t, os⟩ :=
    I1.laid (t' := t) (a := hp.objs.size + 1) (o := exo (hp.objs.size + 1) C none) old big (exo_ok atE)
  refine codeAny_mono (F1.run A' X.stack _ _ args [.ref (hp.objs.size + 1), u] [.ref (hp.objs.size + 1), y] (fun v H' => v = .non ∧ Q (.ref (hp.objs.size + 1)) H') (fun _ _ _ => False) hA (env _ _ I2.env0) (bd _ I2.kIn) (.cons rfl (.cons ry .nil)) ?_) fun r s' hq => ?_
  · refine ⟨_, y, rfl, upd_same, fun dx n ne => ⟨rfl, ?_⟩⟩
    rw [laidX_over]
    rw [upd_ne ne] at n
    exact q _ dx new n ne
  · match r, hq with
    | .error er, hq => exact False.elim hq
    | .ok (.next), hq => exact False.elim hq
    | .ok (.brk), hq => exact False.elim hq
    | .ok (.cont), hq => exact False.elim hq
    | .ok (.ret v), hq =>
      obtain ⟨z, H', J, rv, ez, qz⟩ := I2.after hq
      subst ez
      obtain rfl : v = Value.none := rv
      exact ⟨rfl, .ref (hp.objs.size + 1), H', J, rfl, qz⟩
theorem xc_looks {h : Heap} {M : Model} (T : XC X.K C fI f newId bmB) (hK : X.K.In h) : PySem.W.Looks M h (typeLookup (.ref C) "__init__") (some (.ref fI)) ∧ ∀ self, PySem.W.Looks M h (bindSpecial (.ref fI) self) (.ref fI, [self]) :=
  ⟨PySem.W.looks_findIn hK T.iC, fun self => PySem.W.bind_fn hK self (beq_iff_eq.mp T.fn)⟩
theorem pe_xc (FB : ExcBaseFacts B newId initId bmB) (T : XC X.K C fI f newId bmB) (F1 : FnOk X.prog X.w X.K X.mg X.base CX0 1 fI fd ["self", f] (spInit C f)) (hr : Room 2 X.A) (gC : X.mg x = some (.ref C)) (hg : Gl X x)
    (bd : ∀ (s : Shared) (v u : Value), BindsTo s fd ⟨[v, u], []⟩ [("self", v), (f, u)]) (he : PE X e te) (hdb : (x == ("__debug__" : Str)) = false := by decide)
    (hs : starEach [e] X.env = (false, eval e X.env) :: starEach [] X.env := by rfl) : PE X (.Call (.Name x p) [e] [] pos) (tXmk C f te) := by
  refine ⟨fun pins s σ H Q I h => ?_⟩
  refine wpAny_Call_Name_kw (ld_glob I hg gC ?_ hdb)
  refine PySem.W.callWith_K (h₀ := X.base) I.ok.mod.kin T.kC ?_ hs (by rfl)
  rw [hs]
  show wpAny _ _ (spliced ((false, eval e X.env) :: backTo pos (starEach [] X.env))) _ _ s
  refine Calls.spliced_cons (thn (he.run pins s σ H _ I h) fun u s1 ⟨y, H1, I1, r1, q1⟩ => ?_)
  refine Calls.spliced_nil ⟨I1.kIn, ?_⟩
  show wpAny _ _ (call (.ref C) [u]) _ _ _
  obtain ⟨nm, N, qn, bs, bm, hdct, sn, sub, ab, col, dd, k0, k1, k2, k3, k5, hC, same⟩ := PySem.W.excInit_of I1.kIn T.ini
  obtain ⟨hp, g, d, t, os⟩ := s1
  obtain ⟨lk, bn⟩ := xc_looks (M := model X.prog X.w) T I1.kIn
  exact wpAny_call (PySem.HandSPX.call_own FB same hC lk bn (by show 1 ≤ sizeLine; rw [sizeLine_eq]; omega) (xc_made (args := ⟨[.ref (hp.objs.size + 1), u], []⟩) T F1 hr I1 r1 (hr.make C [u] []) (fun s H z => z.make C [u] []) (fun s _ => bd s _ _) q1))
theorem pe_xcK {kws : List Keyword} {tk : TA} (FB : ExcBaseFacts B newId initId bmB) (T : XC X.K C fI f newId bmB) (F1 : FnOk X.prog X.w X.K X.mg X.base CX0 1 fI fd ["self", f] (spInit C f)) (hr : Room 2 X.A) (gC : X.mg x = some (.ref C)) (hg : Gl X x)
    (bd : ∀ (s : Shared) (v u : Value), BindsTo s fd ⟨[v], [(f, u)]⟩ [("self", v), (f, u)]) (hkw : PK X kws tk)
    (hall : (backToKw pos (keywordEach kws X.env)).all (·.1.isSome) = true := by rfl) (hks : (backToKw pos (keywordEach kws X.env)).filterMap (·.1) = [f] := by rfl) (hdb : (x == ("__debug__" : Str)) = false := by decide)
    (hpl : ((backTo pos (starEach [] X.env)).any (·.1) || (backToKw pos (keywordEach kws X.env)).any (·.1.isNone)) = false := by rfl) :
    PE X (.Call (.Name x p) [] kws pos) (fun σ H Q => tk σ H fun ys H1 => ∃ y, ys = [y] ∧ ∀ a dx, H1 a = none → H1 dx = none → dx ≠ a → Q (.ref a) (laidX H1 a dx C f y)) := by
  refine ⟨fun pins s σ H Q I h => ?_⟩
  refine wpAny_Call_Name_kw (ld_glob I hg gC ?_ hdb)
  refine PySem.W.callWith_KW0 (h₀ := X.base) I.ok.mod.kin T.kC hall ?_ hpl
  refine thn (hkw.run pos pins s σ H _ I h) fun ws s1 ⟨ys, H1, I1, rz, y, ey, q1⟩ => ⟨I1.kIn, ?_⟩
  rw [hks]
  subst ey
  cases rz with
  | @cons _ u _ _ r1 rn =>
    cases rn
    show wpAny _ _ (call (.ref C) [] [(f, u)]) _ _ _
    obtain ⟨nm, N, qn, bs, bm, hdct, sn, sub, ab, col, dd, k0, k1, k2, k3, k5, hC, same⟩ := PySem.W.excInit_of I1.kIn T.ini
    obtain ⟨hp, g, d, t, os⟩ := s1
    obtain ⟨lk, bn⟩ := xc_looks (M := model X.prog X.w) T I1.kIn
    exact wpAny_call (kw_called FB same hC lk bn (xc_made (args := ⟨[.ref (hp.objs.size + 1)], [(f, u)]⟩) T F1 hr I1 r1 (hr.make C [] [(f, u)]) (fun s H z => z.make C [] [(f, u)]) (fun s _ => bd s _ _) q1))
end

/-! ### e.f, isinstance(e, ..) of such an exception -/
structure FldC (K : PySem.W.Frag) (C : Addr) (f : Str) : Prop where
  ga : PySem.W.findIn K (.ref C) "__getattribute__" = some (some (.builtin "BaseException.__getattribute__"))
  gg : PySem.W.findIn K (.ref C) "__getattr__" = some none
  exB : PySem.W.subIn K (.ref C) (.type "BaseException") = some true
  hd : PySem.W.hasDictIn K C = true
  noF : PySem.W.findIn K (.ref C) f = some none
structure IsC (K : PySem.W.Frag) (C : Addr) : Prop where
  cl : (PySem.W.clsIn K C).isSome = true
  ga : PySem.W.findIn K (.ref C) "__getattribute__" = some (some (.builtin "BaseException.__getattribute__"))
  gg : PySem.W.findIn K (.ref C) "__getattr__" = some none
  exB : PySem.W.subIn K (.ref C) (.type "BaseException") = some true
  ha : PySem.W.findIn K (.ref C) "__class__" = some (some (.builtin "object.__class__"))
  hn : PySem.W.specialIn K (.builtin "object.__class__") "__get__" = some (some (.builtin "getset_descriptor.__get__"))
  ht : PySem.W.takesIn K (.builtin "object.__class__") = some true
  hm : PySem.W.mroIn K C (.type "object") = some true
section
variable {X : Cx} {pins : List (Addr × Obj)} {σ : L2.St} {H : Hp} {s : Shared} {C a : Addr} {f : Str} {y : V} {te : TE} {e : Expr} {pos : Pos}
theorem xe_inst (I : Inv X pins σ H s) (x : XE H a C f y) : ∃ oe od u, PySem.W.InstAt s.heap a oe C (some od) ∧ PySem.W.lookIn f od = some (some u) ∧ RelV y u := by
  obtain ⟨dx, e1, e2⟩ := x
  obtain ⟨t1, ho⟩ := exo_at I.hok e1
  obtain ⟨mA, hns, rel⟩ := exd_at I.hok e2
  obtain ⟨od, hod, hl⟩ := lookIn_ns hns
  have z : List.lookup f [(f, y)] = some y := by simp [List.lookup]
  obtain ⟨u, hu, ru⟩ := RelO.some_of (v := y) (o := mA f) (by rw [← z]; exact rel f)
  exact ⟨_, od, u, ⟨ho, rfl, rfl, hod⟩, by rw [hl, hu], ru⟩
def tXget (K : PySem.W.Frag) (f : Str) (te : TE) : TE := fun σ H Q => te σ H fun x H1 => ∃ (a C : Addr) (y : V), x = .ref a ∧ FldC K C f ∧ XE H1 a C f y ∧ Q y H1
theorem pe_xget (he : PE X e te) (hb : attributeBase e f X.env (eval e X.env) = eval e X.env := by rfl) : PE X (.Attribute e f pos) (tXget X.K f te) := by
  refine ⟨fun pins s σ H Q I h => ?_⟩
  refine attr_of hb (thn (he.run pins s σ H _ I h) fun u s1 ⟨x, H1, I1, rx, a, C, y, ex, T, xe, q⟩ => ?_)
  subst ex
  obtain rfl : u = Value.ref a := rx
  obtain ⟨oe, od, w, J, l, rw'⟩ := xe_inst I1 xe
  exact HandSPX.exc_get I1.kIn J T.ga T.gg T.exB (PySem.W.findObj_own T.hd T.noF rfl l) (handed_of rw') ⟨y, H1, I1.tok _, rw', q⟩
def rXis (K : PySem.W.Frag) : List V → Hp → VK → Prop := fun xs H Q => ∃ (a C : Addr) (f : Str) (y c : V) (u : Value) (b : Bool), xs = [.ref a, c] ∧ ClsV c u ∧ IsC K C ∧ XE H a C f y ∧ PySem.W.kitOne K (.ref C) u = some b ∧ Q (.bl b) H
def rXisT (K : PySem.W.Frag) : List V → Hp → VK → Prop := fun xs H Q => ∃ (a C tp : Addr) (f : Str) (y : V) (cs : List V) (us : List Value) (b : Bool), xs = [.ref a, .ref tp] ∧ H tp = some (.tup cs) ∧ Paired ClsV cs us ∧ IsC K C ∧ XE H a C f y ∧ PySem.W.kitAny K (.ref C) us = some b ∧ Q (.bl b) H
theorem call_xis : CallR X (.builtin "isinstance") (rXis X.K) := by
  intro pins s σ H xs us Q I r h
  obtain ⟨a, C, f, y, c, u, b, rfl, k, T, xe, e, q⟩ := h
  obtain ⟨u1, u2, rfl, r1, r2⟩ := vals2 r
  obtain rfl : u1 = Value.ref a := r1
  have e2 := k.eq r2
  subst e2
  obtain ⟨oe, od, w, J, l, rw'⟩ := xe_inst I xe
  exact PySem.W.kia_one (PySem.W.kitx_exc T.cl T.ga T.gg T.exB T.ha T.hn T.ht T.hm) I.kIn J e (fun z => nomatch z) fun tk => ⟨.bl b, H, I.tok tk, rfl, q⟩
theorem call_xisT : CallR X (.builtin "isinstance") (rXisT X.K) := by
  intro pins s σ H xs us Q I r h
  obtain ⟨a, C, tp, f, y, cs, ws, b, rfl, hT, k, T, xe, e, q⟩ := h
  obtain ⟨u1, u2, rfl, r1, r2⟩ := vals2 r
  obtain rfl : u1 = Value.ref a := r1
  cases (show u2 = Value.ref tp from r2)
  obtain ⟨oe, od, w, J, l, rw'⟩ := xe_inst I xe
  obtain ⟨_, its, rv, o, h1, h2, n, h3⟩ := (show ObjOk X.prog X.w H s.heap tp (.tup cs) from I.hok tp _ hT)
  have e3 := ClsV.all k rv
  subst e3
  obtain ⟨oc, od', dt, sl⟩ := o
  simp only at h2 h3
  subst h2 h3
  exact PySem.W.kia_tup (PySem.W.kitx_exc T.cl T.ga T.gg T.exB T.ha T.hn T.ht T.hm) I.kIn J h1 e (fun z => nomatch z) fun tk => ⟨.bl b, H, I.tok tk, rfl, q⟩
end
end Ms
namespace Ms
open PySem PySem.Spec PyProof.Rows L2
def top (i : Nat) : Stmt := PySem.Challenge.pw_midswitch_k60_errors.main.body.getD i (.Pass ⟨0, 0, 0, 0⟩)
abbrev sBegun : Stmt := top 18
abbrev sNext : Stmt := top 19
abbrev sValue : Stmt := top 20

/-! ### the machine of draws: a dict with the cells, what is left of the great ones, and a count -/
def kvM (c l : Addr) (n : Int) : List (Key × V) := [(.inr "cells", .ref c), (.inr "left", .ref l), (.inr "at", .int n)]
structure Mch (H : Hp) (m l : Addr) (n : Nat) : Prop where
  ex : ∃ (c : Addr) (cs ls : List Int) (z : Int), H m = some (.dK (kvM c l z)) ∧ H c = some (.lst (cs.map V.int)) ∧ H l = some (.lst (ls.map V.int)) ∧ c ≠ l ∧ 0 ≤ z ∧ z ≤ (n : Int) ∧ cs.length ≤ 63 ∧ ls.length ≤ 63
/-- behind a step: all but the machine's own dict and list stand as before -/
structure Fr (m l l' : Addr) (H H' : Hp) : Prop where
  keep : ∀ b o, H b = some o → b ≠ m → b ≠ l → H' b = some o
  new : l' = l ∨ H l' = none
  mm : H' m ≠ none
theorem Mch.mm {H : Hp} {m l : Addr} {n : Nat} (M : Mch H m l n) : H m ≠ none := by
  obtain ⟨c, cs, ls, z, h, _⟩ := M.ex
  rw [h]; exact fun z => nomatch z
theorem Fr.refl {m l : Addr} {H : Hp} {n : Nat} (M : Mch H m l n) : Fr m l l H H := ⟨fun _ _ e _ _ => e, .inl rfl, M.mm⟩
theorem Fr.trans {m l l' l'' : Addr} {H H' H'' : Hp} (f : Fr m l l' H H') (g : Fr m l' l'' H' H'') : Fr m l l'' H H'' := by
  have hl : ∀ b o, H b = some o → b ≠ m → b ≠ l → b ≠ l' := fun b o e hm hl => by
    rcases f.new with z | z
    · rw [z]; exact hl
    · exact ne_of_none e z
  refine ⟨fun b o e hm hb => g.keep b o (f.keep b o e hm hb) hm (hl b o e hm hb), ?_, g.mm⟩
  rcases g.new with z | z
  · rw [z]; exact f.new
  · by_cases e : l'' = l
    · exact .inl e
    · refine .inr ?_
      cases q : H l'' with
      | none => rfl
      | some o =>
        have hm : l'' ≠ m := fun hm => f.mm (hm ▸ z)
        rw [f.keep _ _ q hm e] at z
        cases z
theorem Mch.mono {H : Hp} {m l : Addr} {n k : Nat} (M : Mch H m l n) (h : n ≤ k) : Mch H m l k := by
  obtain ⟨c, cs, ls, z, h1, h2, h3, h4, h5, h6, h7⟩ := M.ex
  exact ⟨c, cs, ls, z, h1, h2, h3, h4, h5, by omega, h7⟩
def spBegun (K : PySem.W.Frag) : Sp := fun vs H Q _ => ∃ (a : Addr) (ns : List Int), vs = [.ref a] ∧ SqL K H a (ns.map V.int) ∧ ns.length ≤ 63 ∧
  ∀ (m l : Addr) (H' : Hp), H m = none → H l = none → Same H H' → Mch H' m l 0 → Q (.ref m) H'
structure Txt (mg : Str → Option Value) : Prop where
  list : mg "list" = none
  len : mg "len" = none
  int : mg "int" = none
section
variable {P : Program} {w : World} {K : PySem.W.Frag} {mg : Str → Option Value} {base : Heap}
theorem scB : FnScope ["script", "cell"] ["script"] (defScope sBegun) := ⟨rfl, rfl, rfl, by decide +kernel, rfl, by decide +kernel, by decide +kernel⟩
theorem ok_begun {f : Addr} {fd : FuncData} (F : Fun K "_law_begun" "_law_begun" sBegun f fd) (T : Txt mg) : FnOk P w K mg base CX0 1 f fd ["script"] (spBegun K) := by
  refine F.ok scB (fun vs H Q E h => ?_) (fun cdv A outer s H vs Q E hr h => ?_)
  · obtain ⟨a, ns, rfl, _⟩ := h
    rfl
  · obtain ⟨a, ns, rfl, hS, hlen, k⟩ := h
    have hu := hu_of hr
    refine ⟨_, pss_one (ps_ret (pe_disp (pps_cons pe_str (pe_callTy call_list_of (by rfl) T.list (by decide +kernel) (pa_cons (pv 0) pa_nil))
      (pps_cons pe_str (pe_lc (own := [("cell", 1)]) (g := gName 1) (by rfl) scB.nd (pi_list (pv 0)) (blkOk_by (own := [("cell", 1)]) (N := ["script", "cell"]) (sc := defScope sBegun) (by decide +kernel))
        (fun _ _ _ _ _ => pg_name (i := 1) scB.nd rfl (Or.inl rfl)) (fun _ _ _ _ _ => pts_one (pt_cmpR op_ge (pv 1) (pe_op op_pow pe_int pe_int) (nomark _))) (fun _ _ _ _ _ => pv 1))
      (pps_cons pe_str pe_int pps_nil))) (by rfl) (by rfl) (fun z => by cases z) (by decide))), ?_⟩
    intro m hm
    have s0 : Same H (upd H m (.dK [])) := fun b o e => by rw [upd_ne (ne_of_none e hm)]; exact e
    refine ⟨_, rfl, a, _, rfl, .inl (s0.seq hS), fun c hc => ?_⟩
    have ncm : c ≠ m := fun z => by rw [z, upd_same] at hc; cases hc
    have hc0 : H c = none := by rw [upd_ne ncm] at hc; exact hc
    have s1 : Same H (upd (upd H m (.dK [])) c (.lst (ns.map V.int))) := fun b o e => by rw [upd_ne (ne_of_none e hc0)]; exact s0 b o e
    refine ⟨_, rfl, a, rfl, ⟨_, s1.seq hS⟩, fun l hl => ?_⟩
    have nlc : l ≠ c := fun z => by rw [z, upd_same] at hl; cases hl
    have hl1 : (upd H m (.dK [])) l = none := by rw [upd_ne nlc] at hl; exact hl
    have nlm : l ≠ m := fun z => by rw [z, upd_same] at hl1; cases hl1
    have hl0 : H l = none := by rw [upd_ne nlm] at hl1; exact hl1
    refine lc_list (K := K) (a := a) (xs := ns.map V.int) (fun i H2 => ∃ ls : List Int, ls.length ≤ i ∧ H2 = upd (upd (upd H m (.dK [])) c (.lst (ns.map V.int))) l (.lst (ls.map V.int))) ⟨[], Nat.le_refl _, rfl⟩ (fun i H2 _ ⟨ls, _, e⟩ => ?_) ?_ ?_
    · have s2 : Same H H2 := fun b o q => by rw [e, upd_ne (ne_of_none q hl0)]; exact s1 b o q
      exact s2.seq hS
    · rintro i x H2 hi ⟨ls, hls, e⟩
      obtain ⟨z, rfl⟩ : ∃ z, x = V.int z := by
        rw [List.getElem?_map] at hi
        cases q : ns[i]? with
        | none => rw [q] at hi; cases hi
        | some z => rw [q] at hi; exact ⟨z, (Option.some.inj hi).symm⟩
      have hil : i < ns.length := by
        have q := (List.getElem?_eq_some_iff.mp hi).1
        rw [List.length_map] at q
        exact q
      refine ⟨rfl, _, rfl, _, _, rfl, rfl, ⟨by decide, by decide, by decide⟩, _, _, rfl, rfl, _, rfl, ?_⟩
      refine ite2 (fun _ => ?_) (fun _ => ?_)
      · refine ⟨_, rfl, ls.map V.int, by rw [e]; exact upd_same, small1000 (by rw [List.length_map]; omega), ls ++ [z], ?_, ?_⟩
        · rw [List.length_append, List.length_singleton]; omega
        · rw [e, upd_upd, List.map_append]; rfl
      · exact ⟨ls, by omega, e⟩
    · rintro H2 ⟨ls, hls, e⟩
      rw [List.length_map] at hls
      refine ⟨?_, [(.inr "cells", .ref c), (.inr "left", .ref l), (.inr "at", .int 0)], rfl, (by show 3 ≤ 15; decide), ?_⟩
      · rw [e, upd_ne nlm.symm, upd_ne ncm.symm, upd_same]
      · refine k m l _ hm hl0 (fun b o q => ?_) ⟨c, ns, ls, 0, ?_, ?_, ?_, nlc.symm, Int.le_refl _, Int.le_refl _, hlen, by omega⟩
        · rw [upd_ne (ne_of_none q hm), e, upd_ne (ne_of_none q hl0)]; exact s1 b o q
        · rw [upd_same]; rfl
        · rw [upd_ne ncm, e, upd_ne nlc.symm, upd_same]
        · rw [upd_ne nlm, e, upd_same]

/-! ### _law_next -/
structure MS (H : Hp) (m c l : Addr) (cs ls : List Int) (z : Int) : Prop where
  dm : H m = some (.dK (kvM c l z))
  dc : H c = some (.lst (cs.map V.int))
  dl : H l = some (.lst (ls.map V.int))
  ne : c ≠ l
theorem MS.junk {H : Hp} {m c l p : Addr} {cs ls : List Int} {z : Int} {o : HO} (S : MS H m c l cs ls z) (hp : H p = none) : MS (upd H p o) m c l cs ls z :=
  ⟨by rw [upd_ne (ne_of_none S.dm hp)]; exact S.dm, by rw [upd_ne (ne_of_none S.dc hp)]; exact S.dc, by rw [upd_ne (ne_of_none S.dl hp)]; exact S.dl, S.ne⟩
theorem Fr.junk {m l l' p : Addr} {H H' : Hp} {o : HO} (f : Fr m l l' H H') (hp : H' p = none) : Fr m l l' H (upd H' p o) := by
  refine ⟨fun b o e h1 h2 => ?_, f.new, ?_⟩
  · have q := f.keep b o e h1 h2
    rw [upd_ne (ne_of_none q hp)]; exact q
  · by_cases e : m = p
    · rw [e, upd_same]; exact fun z => nomatch z
    · rw [upd_ne e]; exact f.mm
theorem MS.left {H : Hp} {m c l : Addr} {cs ls : List Int} {z : Int} (S : MS H m c l cs ls z) : DGet H m (.str "left") (some (.ref l)) := by
  have e : valV (kvM c l z) (.inr "left" : Key) = some (.ref l) := by unfold valV kvM; rfl
  rw [← e]; exact DGet.k (k := Sum.inr "left") S.dm
theorem MS.cells {H : Hp} {m c l : Addr} {cs ls : List Int} {z : Int} (S : MS H m c l cs ls z) : DGet H m (.str "cells") (some (.ref c)) := by
  have e : valV (kvM c l z) (.inr "cells" : Key) = some (.ref c) := by unfold valV kvM; rfl
  rw [← e]; exact DGet.k (k := Sum.inr "cells") S.dm
theorem MS.at {H : Hp} {m c l : Addr} {cs ls : List Int} {z : Int} (S : MS H m c l cs ls z) : DGet H m (.str "at") (some (.int z)) := by
  have e : valV (kvM c l z) (.inr "at" : Key) = some (.int z) := by unfold valV kvM; rfl
  rw [← e]; exact DGet.k (k := Sum.inr "at") S.dm
theorem put_left (c l l' : Addr) (z : Int) : putK (kvM c l z) (.inr "left" : Key) (.ref l') = kvM c l' z := by unfold putK kvM; rfl
theorem put_at (c l : Addr) (z z' : Int) : putK (kvM c l z) (.inr "at" : Key) (.int z') = kvM c l z' := by unfold putK kvM; rfl
theorem dpAll_ints {K : PySem.W.Frag} {H : Hp} : ∀ ns : List Int, DpAll K H (ns.map V.int) (ns.map PyData.int)
  | [] => .nil
  | n :: ns => .cons (.int n) (dpAll_ints ns)
theorem lay_ints : ∀ ns : List Int, PyData.canLayAll0 (ns.map PyData.int) = true
  | [] => rfl
  | n :: ns => by
    show (PyData.canLay0 (.int n) && PyData.canLayAll0 (ns.map PyData.int)) = true
    rw [lay_ints ns]; rfl
theorem depth_ints : ∀ ns : List Int, PyData.depthAll (ns.map PyData.int) = 0
  | [] => rfl
  | n :: ns => by
    show max (PyData.depth (.int n)) (PyData.depthAll (ns.map PyData.int)) = 0
    rw [depth_ints ns]; rfl
theorem shaped_ints (ns : List Int) : SeqAt.shaped (.list (ns.map PyData.int)) = true := by
  show (PyData.canLayAll0 (ns.map PyData.int) && decide (PyData.depthAll (ns.map PyData.int) + 1 ≤ 64)) = true
  rw [lay_ints, depth_ints]; rfl
theorem ifF {c : Bool} {A B : Prop} (hc : c = false) (h : B) : if c = true then A else B := by rw [hc, if_neg Bool.false_ne_true]; exact h
theorem ifT {c : Bool} {A B : Prop} (hc : c = true) (h : A) : if c = true then A else B := by rw [if_pos hc]; exact h
theorem cut1 (y : Int) (ys : List Int) : cutV ((y :: ys).map V.int) (some 1) none = ys.map V.int := by
  unfold cutV
  have e1 : HT.sIx ((y :: ys).map V.int).length 0 (some (1 : Int)) = 1 := by
    show HT.sIx _ 0 (some ((1 : Nat) : Int)) = 1
    rw [HT.sIx_nat]
    simp
  have e2 : HT.sIx ((y :: ys).map V.int).length ((y :: ys).map V.int).length none = (y :: ys).length := by
    show ((y :: ys).map V.int).length = _
    rw [List.length_map]
  rw [e1, e2]
  simp only [List.map_cons, List.drop_succ_cons, List.drop_zero, List.length_cons, Nat.add_sub_cancel]
  exact List.take_of_length_le (by simp)
theorem MS.fresh {H : Hp} {m c l p : Addr} {cs ls : List Int} {z : Int} (S : MS H m c l cs ls z) (hp : H p = none) : p ≠ m ∧ p ≠ c ∧ p ≠ l :=
  ⟨(fun e => by rw [e, S.dm] at hp; cases hp), (fun e => by rw [e, S.dc] at hp; cases hp), (fun e => by rw [e, S.dl] at hp; cases hp)⟩
theorem MS.mc {H : Hp} {m c l : Addr} {cs ls : List Int} {z : Int} (S : MS H m c l cs ls z) : m ≠ c := ne_of S.dm S.dc (by intro q; cases q)
theorem MS.ml {H : Hp} {m c l : Addr} {cs ls : List Int} {z : Int} (S : MS H m c l cs ls z) : m ≠ l := ne_of S.dm S.dl (by intro q; cases q)
/-- a new list is put as what is left -/
theorem MS.putL {H : Hp} {m c l p : Addr} {cs ls ls' : List Int} {z : Int} (S : MS H m c l cs ls z) (hp : H p = none) :
    MS (upd (upd H p (.lst (ls'.map V.int))) m (.dK (putK (kvM c l z) (.inr "left" : Key) (.ref p)))) m c p cs ls' z := by
  obtain ⟨n1, n2, n3⟩ := S.fresh hp
  refine ⟨by rw [upd_same, put_left], ?_, ?_, n2.symm⟩
  · rw [upd_ne S.mc.symm, upd_ne n2.symm]; exact S.dc
  · rw [upd_ne n1, upd_same]
theorem Fr.putM {m l l' p : Addr} {H H' : Hp} {o o' : HO} (f : Fr m l l' H H') (hp : H' p = none) (h0 : H p = none) : Fr m l p H (upd (upd H' p o) m o') := by
  refine ⟨fun b o e h1 h2 => ?_, .inr h0, by rw [upd_same]; exact fun z => nomatch z⟩
  have q := f.keep b o e h1 h2
  rw [upd_ne h1, upd_ne (ne_of_none q hp)]; exact q
theorem MS.putA {H : Hp} {m c l : Addr} {cs ls : List Int} {z z' : Int} (S : MS H m c l cs ls z) :
    MS (upd H m (.dK (putK (kvM c l z) (.inr "at" : Key) (.int z')))) m c l cs ls z' :=
  ⟨by rw [upd_same, put_at], by rw [upd_ne S.mc.symm]; exact S.dc, by rw [upd_ne S.ml.symm]; exact S.dl, S.ne⟩
theorem Fr.putA {m l l' : Addr} {H H' : Hp} {o : HO} (f : Fr m l l' H H') : Fr m l l' H (upd H' m o) :=
  ⟨fun b o e h1 h2 => by rw [upd_ne h1]; exact f.keep b o e h1 h2, f.new, by rw [upd_same]; exact fun z => nomatch z⟩
theorem MS.setL {H : Hp} {m c l : Addr} {cs ls ls' : List Int} {z : Int} (S : MS H m c l cs ls z) : MS (upd H l (.lst (ls'.map V.int))) m c l cs ls' z :=
  ⟨by rw [upd_ne S.ml]; exact S.dm, by rw [upd_ne S.ne]; exact S.dc, upd_same, S.ne⟩
theorem Fr.setL {m l l' : Addr} {H H' : Hp} {o : HO} (f : Fr m l l' H H') (hm : m ≠ l') : Fr m l l' H (upd H' l' o) := by
  refine ⟨fun b o e h1 h2 => ?_, f.new, by rw [upd_ne hm]; exact f.mm⟩
  have nb : b ≠ l' := by
    rcases f.new with q | q
    · rw [q]; exact h2
    · exact ne_of_none e q
  rw [upd_ne nb]; exact f.keep b o e h1 h2
theorem MS.mch {H : Hp} {m c l : Addr} {cs ls : List Int} {z : Int} {n : Nat} (S : MS H m c l cs ls z) (h1 : 0 ≤ z) (h2 : z ≤ (n : Int)) (h3 : cs.length ≤ 63) (h4 : ls.length ≤ 63) : Mch H m l n :=
  ⟨c, cs, ls, z, S.dm, S.dc, S.dl, S.ne, h1, h2, h3, h4⟩
theorem Fr.free {m l l' p : Addr} {H H' : Hp} (f : Fr m l l' H H') (S : H l ≠ none → p ≠ l) (hp : H' p = none) : H p = none := by
  cases q : H p with
  | none => rfl
  | some o =>
    have hm : p ≠ m := fun e => f.mm (e ▸ hp)
    have hl : p ≠ l := S (fun e => by
      by_cases z : p = l
      · rw [z, e] at q; cases q
      · have := f.keep p o q hm z
        rw [hp] at this; cases this)
    rw [f.keep p o q hm hl] at hp
    cases hp
def spNext : Sp := fun vs H Q _ => ∃ (m l : Addr) (n : Nat) (k : Int), vs = [.ref m, .int k] ∧ Mch H m l n ∧ n < 1000000 ∧ 0 < k ∧ k < 1000000 ∧
  ∀ (r : Int) (l' : Addr) (H' : Hp), 0 ≤ r → r < k → Mch H' m l' (n + 1) → Fr m l l' H H' → Q (.int r) H'
theorem scN : FnScope ["m", "many", "rest", "at", "lot", "cell", "blend"] ["m", "many"] (defScope sNext) := ⟨rfl, rfl, rfl, by decide +kernel, rfl, by decide +kernel, by decide +kernel⟩
set_option maxHeartbeats 4000000 in
theorem ok_next {f : Addr} {fd : FuncData} (F : Fun K "_law_next" "_law_next" sNext f fd) (T : Txt mg) : FnOk P w K mg base CX0 1 f fd ["m", "many"] spNext := by
  refine F.ok scN (fun vs H Q E h => ?_) (fun cdv A outer s H vs Q E hr h => ?_)
  · obtain ⟨m, l, n, k, rfl, _⟩ := h
    rfl
  · obtain ⟨m, l, n, k, rfl, M, hn, hk, hk2, q⟩ := h
    have hu := hu_of hr
    refine ⟨_, pss_cons (ps_while PassesOwn.never (PW.pt (pw_and (pt_cmpR (op_neD hr.units) (pe_dget hu (pv 0) pe_str (fun _ _ => rfl)) (pe_lst pa_nil) (nomark _))
          (pw_and1 (pt_cmpR op_eq (pe_ix ix_list (pe_dget hu (pv 0) pe_str (fun _ _ => rfl)) pe_int (fun _ _ => rfl)) pe_int (nomark _)))))
        (pss_one (ps_dput hu (pv 0) pe_str (pe_slice sl_list (pe_dget hu (pv 0) pe_str (fun _ _ => rfl)) (po_some pe_int) po_none) rfl)))
      (pss_cons (ps_if (pt_cmpR (op_neD hr.units) (pe_dget hu (pv 0) pe_str (fun _ _ => rfl)) (pe_lst pa_nil) (nomark _))
        (pss_cons (ps_set (i := 2) scN.nd rfl (Or.inl rfl) (pe_ix ix_list (pe_dget hu (pv 0) pe_str (fun _ _ => rfl)) pe_int (fun _ _ => rfl)))
          (pss_cons (ps_asg (pe_op op_fdiv (pv 2) (pv 1)) (pg_sub (pe_dget hu (pv 0) pe_str (fun _ _ => rfl)) pe_int set_list))
          (pss_one (ps_ret (pe_op op_mod (pe_callTy call_int1 (by rfl) T.int (by decide +kernel) (pa_cons (pv 2) pa_nil)) (pv 1))))))
        pss_nil)
      (pss_cons (ps_par (i := 3) (j := 4) (by rfl) scN.nd rfl rfl (by decide) rfl rfl (pa_cons (pe_op op_add (pe_dget hu (pv 0) pe_str (fun _ _ => rfl)) pe_int) (pa_cons (pe_dget hu (pv 0) pe_str (fun _ _ => rfl)) pa_nil)) (by rfl))
      (pss_cons (ps_dput hu (pv 0) pe_str (pv 3) rfl)
      (pss_cons (ps_set (i := 5) scN.nd rfl (Or.inl rfl) (pe_ifExp (pt_cmpR (op_neD hr.units) (pv 4) (pe_lst pa_nil) (nomark _))
        (pe_callTy call_int1 (by rfl) T.int (by decide +kernel) (pa_cons (pe_ix ix_list (pv 4) (pe_op op_mod (pe_callTy call_int1 (by rfl) T.int (by decide +kernel) (pa_cons (pe_op op_add (pe_op op_mul (pv 3) (pv 3)) (pe_op op_fdiv (pv 3) pe_int)) pa_nil))
          (pe_callB call_len_seq (by rfl) T.len PySem.boot_len (pa_cons (pv 4) pa_nil))) (fun _ _ => rfl)) pa_nil)) pe_int))
      (pss_cons (ps_set (i := 6) scN.nd rfl (Or.inl rfl) (pe_op op_mod (pe_callTy call_int1 (by rfl) T.int (by decide +kernel) (pa_cons (pe_op op_add (pe_op op_add (pe_op op_mul (pv 5) pe_int) (pe_op op_mul (pv 3) pe_int)) (pe_op op_mul (pe_op op_mul pe_int (pv 3)) (pv 3))) pa_nil)) pe_int))
      (pss_one (ps_ret (pe_op op_mod (pe_callTy call_int1 (by rfl) T.int (by decide +kernel) (pa_cons (pe_op op_fdiv (pe_op op_mod (pe_callTy call_int1 (by rfl) T.int (by decide +kernel) (pa_cons (pe_op op_add (pe_op op_mul (pv 6) pe_int) (pe_op op_mul pe_int (pv 3))) pa_nil)) pe_int) pe_int) pa_nil)) (pv 1))))))))), ?_⟩
    obtain ⟨c, cs, ls, z, h1, h2, h3, h4, h5, h6, h7, h8⟩ := M.ex
    have fresh : ∀ {l2 : Addr} {H2 : Hp} {p : Addr}, Fr m l l2 H H2 → H2 p = none → H2 l ≠ none → H p = none := fun f hp hl => f.free (fun _ e => hl (e ▸ hp)) hp
    refine (show ∀ D : Ends, (∀ l2 ls2 H3, H3 l ≠ none → ls2.length ≤ 63 → MS H3 m c l2 cs ls2 z → Fr m l l2 H H3 → D.nx [some (.ref m), some (.int k), none, none, none, none, none] H3) → tWhile _ _ D _ _ from ?_) _ ?_
    · intro D rest
      refine ⟨fun N σ H2 => σ = [some (.ref m), some (.int k), none, none, none, none, none] ∧ ∃ l2 ls, ls.length = N ∧ ls.length ≤ 63 ∧ H2 l ≠ none ∧ MS H2 m c l2 cs ls z ∧ Fr m l l2 H H2, ⟨_, rfl, l, ls, rfl, h8, (by rw [h3]; exact fun z => nomatch z), ⟨h1, h2, h3, h4⟩, Fr.refl M⟩, ?_⟩
      rintro N σ H2 ⟨rfl, l2, ls2, rfl, hz, hl2, S, f⟩
      refine ⟨_, rfl, m, .ref l2, rfl, S.left, Nat.zero_le _, fun p hp => ?_⟩
      have S' := S.junk (o := .lst []) hp
      have f' := f.junk (o := .lst []) hp
      have nz : ∀ {H2 : Hp} {p : Addr}, H2 l ≠ none → ∀ o, (upd H2 p o) l ≠ none := fun {H2 p} hl2 o => by
        by_cases e : l = p
        · rw [e, upd_same]; exact fun z => nomatch z
        · rw [upd_ne e]; exact hl2
      refine ⟨.list (ls2.map PyData.int), .list [], .lst (SqL.of S'.dl) (dpAll_ints _), .lst (SqL.of upd_same) .nil, shaped_ints _, rfl, _, rfl, ?_⟩
      cases ls2 with
      | nil =>
        refine ifF rfl ?_
        refine ifF rfl ?_
        exact rest l2 [] _ (nz hl2 _) hz S' f'
      | cons y ys =>
        refine ifT rfl ?_
        refine ⟨_, rfl, m, .ref l2, rfl, S'.left, l2, _, 0, .int y, rfl, rfl, SqL.of S'.dl, atI_nat (j := 0) rfl, rfl, _, rfl, ?_⟩
        refine ite2 (fun _ => ?_) (fun _ => rest l2 (y :: ys) _ (nz hl2 _) hz S' f')
        refine ⟨fun σ' H' => σ' = [some (.ref m), some (.int k), none, none, none, none, none] ∧ ∃ l2, H' l ≠ none ∧ MS H' m c l2 cs ys z ∧ Fr m l l2 H H', (fun σ' H' ⟨e, l3, g1, g2, g3⟩ => ⟨ys.length, by simp, e, l3, ys, rfl, by simp at hz; omega, g1, g2, g3⟩), ?_⟩
        refine ⟨_, rfl, m, .ref l2, rfl, S'.left, ⟨1, rfl, l2, _, rfl, SqL.of S'.dl, fun p2 hp2 => ?_⟩⟩
        rw [cut1]
        refine ⟨_, rfl, m, _, rfl, DPut.k (k := Sum.inr "left") (S'.junk hp2).dm (by show 3 < sizeLine; exact small1000 (by decide)), rfl, p2, nz (nz (nz hl2 _) _) _, S'.putL hp2, f'.putM hp2 (fresh f' hp2 (nz hl2 _))⟩
    · intro l2 ls2 H3 hl3 hz S f
      refine ⟨_, rfl, m, .ref l2, rfl, S.left, Nat.zero_le _, fun p hp => ?_⟩
      have S' := S.junk (o := .lst []) hp
      have f' := f.junk (o := .lst []) hp
      refine ⟨.list (ls2.map PyData.int), .list [], .lst (SqL.of S'.dl) (dpAll_ints _), .lst (SqL.of upd_same) .nil, shaped_ints _, rfl, _, rfl, ?_⟩
      cases ls2 with
      | cons y ys =>
        refine ifT rfl ?_
        refine ⟨_, rfl, m, .ref l2, rfl, S'.left, l2, _, 0, .int y, rfl, rfl, SqL.of S'.dl, atI_nat (j := 0) rfl, ?_⟩
        refine ⟨_, rfl, _, rfl, _, _, rfl, rfl, ⟨hk, by omega⟩, _, rfl, m, .ref l2, rfl, S'.left, l2, _, 0, 0, rfl, rfl, S'.dl, (by unfold ixN; rw [if_pos (by decide), if_pos (by simp only [List.map_cons, List.length_cons]; omega)]; rfl), ?_⟩
        refine ⟨_, rfl, .inl ⟨_, rfl, _, rfl, _, _, rfl, rfl, hk, ?_⟩⟩
        have S2 := S'.setL (ls' := (y / k) :: ys)
        exact q _ l2 _ (Int.emod_nonneg _ (by omega)) (Int.emod_lt_of_pos _ hk) (S2.mch h5 (by omega) h7 (by simpa using hz)) (f'.setL S'.ml)
      | nil =>
        refine ifF rfl ?_
        refine ⟨_, rfl, m, .int z, rfl, S'.at, _, _, rfl, rfl, _, rfl, m, .ref c, rfl, S'.cells, _, _, rfl, ?_⟩
        refine ⟨_, rfl, _, rfl, m, _, rfl, DPut.k (k := Sum.inr "at") S'.dm (by show 3 < sizeLine; exact small1000 (by decide)), ?_⟩
        have S2 := S'.putA (z' := z + 1)
        have f2 := f'.putA (o := (.dK (putK (kvM c l2 z) (.inr "at" : Key) (.int (z + 1)))))
        refine ⟨_, rfl, Nat.zero_le _, fun p2 hp2 => ?_⟩
        have S3 := S2.junk (o := .lst []) hp2
        have f3 := f2.junk (o := .lst []) hp2
        refine ⟨.list (cs.map PyData.int), .list [], .lst (SqL.of S3.dc) (dpAll_ints _), .lst (SqL.of upd_same) .nil, shaped_ints _, rfl, _, rfl, ?_⟩
        cases cs with
        | nil =>
          refine ifF rfl ?_
          refine ⟨_, rfl, _, _, rfl, rfl, .inr ⟨by decide, by decide⟩, _, rfl, _, _, rfl, rfl, .inr ⟨by decide, by decide⟩, _, _, rfl, rfl, _, rfl, _, _, rfl, rfl, .inl ⟨by decide, by decide⟩, _, rfl, _, _, rfl, rfl, .inr ⟨by omega, by omega⟩, _, _, rfl, rfl, .inl ⟨_, rfl, _, _, rfl, rfl, (by show (0 : Int) < 2147483399; decide), ?_⟩⟩
          refine ⟨_, rfl, _, _, rfl, rfl, .inr ⟨by decide, by decide⟩, _, rfl, _, _, rfl, rfl, .inl ⟨by decide, by decide⟩, _, _, rfl, rfl, .inl ⟨_, rfl, _, _, rfl, rfl, (by show (0 : Int) < 2147483647; decide), _, _, rfl, rfl, ⟨by decide, by decide⟩, .inl ⟨_, rfl, _, rfl, _, _, rfl, rfl, hk, ?_⟩⟩⟩
          exact q _ l2 _ (Int.emod_nonneg _ (by omega)) (Int.emod_lt_of_pos _ hk) (S3.mch (by omega) (by omega) h7 (by simp)) f3
        | cons y ys =>
          refine ifT rfl ?_
          refine ⟨_, rfl, _, rfl, _, rfl, _, _, rfl, rfl, .inl ⟨by omega, by omega⟩, _, rfl, _, _, rfl, rfl, ⟨by decide, by decide⟩, _, _, rfl, rfl, .inl ⟨_, rfl, ?_⟩⟩
          have hlen : ((y :: ys).map V.int).length = ys.length + 1 := by rw [List.length_map, List.length_cons]
          refine ⟨_, rfl, c, _, rfl, .inl (SqL.of S3.dc), _, _, rfl, rfl, (by rw [hlen]; omega), ?_⟩
          generalize hg : ((z + 1) * (z + 1) + (z + 1) / 2) % ((((y :: ys).map V.int).length : Nat) : Int) = g
          have g0 : 0 ≤ g := by rw [← hg, hlen]; exact Int.emod_nonneg _ (by omega)
          have g1 : g < ((y :: ys).length : Nat) := by rw [← hg, hlen]; exact Int.emod_lt_of_pos _ (by omega)
          obtain ⟨gn, rfl⟩ : ∃ gn : Nat, g = (gn : Int) := ⟨g.toNat, by omega⟩
          obtain ⟨u, hu2⟩ : ∃ u, (y :: ys)[gn]? = some u := ⟨_, List.getElem?_eq_getElem (by omega)⟩
          refine ⟨c, _, (gn : Int), .int u, rfl, congrArg V.int hg, SqL.of S3.dc, atI_nat (by rw [List.getElem?_map, hu2]; rfl), .inl ⟨_, rfl, ?_⟩⟩
          refine ⟨_, rfl, _, _, rfl, rfl, .inr ⟨by decide, by decide⟩, _, rfl, _, _, rfl, rfl, .inr ⟨by decide, by decide⟩, _, _, rfl, rfl, _, rfl, _, _, rfl, rfl, .inl ⟨by decide, by decide⟩, _, rfl, _, _, rfl, rfl, .inr ⟨by omega, by omega⟩, _, _, rfl, rfl, .inl ⟨_, rfl, _, _, rfl, rfl, (by show (0 : Int) < 2147483399; decide), ?_⟩⟩
          refine ⟨_, rfl, _, _, rfl, rfl, .inr ⟨by decide, by decide⟩, _, rfl, _, _, rfl, rfl, .inl ⟨by decide, by decide⟩, _, _, rfl, rfl, .inl ⟨_, rfl, _, _, rfl, rfl, (by show (0 : Int) < 2147483647; decide), _, _, rfl, rfl, ⟨by decide, by decide⟩, .inl ⟨_, rfl, _, rfl, _, _, rfl, rfl, hk, ?_⟩⟩⟩
          exact q _ l2 _ (Int.emod_nonneg _ (by omega)) (Int.emod_lt_of_pos _ hk) (S3.mch (by omega) (by omega) h7 (by simp)) f3
end
end Ms
namespace Ms
open PySem PySem.Spec PyProof.Rows L2
abbrev sKinds : Stmt := top 21
abbrev sFields : Stmt := top 22
abbrev sLaw : Stmt := top 23
/-! ### growth of the heap -/
theorem Same.upd {H : Hp} {p : Addr} {o : HO} (h : H p = none) : Same H (upd H p o) := fun b q e => by rw [upd_ne (ne_of_none e h)]; exact e
theorem XE.same {H H' : Hp} {a C : Addr} {f : Str} {y : V} (s : Same H H') (x : XE H a C f y) : XE H' a C f y := by
  obtain ⟨dx, h1, h2⟩ := x
  exact ⟨dx, s _ _ h1, s _ _ h2⟩
theorem laidX_same {H : Hp} {a dx C : Addr} {f : Str} {y : V} (ha : H a = none) (hd : H dx = none) : Same H (laidX H a dx C f y) := fun b o e => by
  unfold laidX
  rw [upd_ne (ne_of_none e ha), upd_ne (ne_of_none e hd)]; exact e
theorem laidX_xe {H : Hp} {a dx C : Addr} {f : Str} {y : V} (n : dx ≠ a) : XE (laidX H a dx C f y) a C f y := by
  unfold laidX
  exact ⟨dx, upd_same, by rw [upd_ne n, upd_same]⟩
theorem Mch.same {H H' : Hp} {m l : Addr} {n : Nat} (s : Same H H') (M : Mch H m l n) : Mch H' m l n := by
  obtain ⟨c, cs, ls, z, h1, h2, h3, h⟩ := M.ex
  exact ⟨c, cs, ls, z, s _ _ h1, s _ _ h2, s _ _ h3, h⟩
theorem Mch.kept {H H' : Hp} {m l : Addr} {n : Nat} (M : Mch H m l n) (s : Same H H') : Kept m l l H H' := by
  obtain ⟨c, cs, ls, z, h1, h2, h3, h⟩ := M.ex
  exact ⟨fun b o e _ _ => s b o e, fun _ _ _ h => h, ⟨_, h1⟩, ⟨_, h3⟩⟩
theorem Mch.step {H H' : Hp} {m l l' : Addr} {n : Nat} (M : Mch H m l n) (f : Fr m l l' H H') : Kept m l l' H H' := by
  obtain ⟨c, cs, ls, z, h1, h2, h3, h⟩ := M.ex
  refine ⟨f.keep, fun b o e hb => ?_, ⟨_, h1⟩, ⟨_, h3⟩⟩
  rcases f.new with q | q
  · rw [q]; exact hb
  · exact ne_of_none e q
theorem Mch.ne {H : Hp} {m l p : Addr} {n : Nat} (M : Mch H m l n) (h : H p = none) : p ≠ m ∧ p ≠ l := by
  obtain ⟨c, cs, ls, z, h1, h2, h3, _⟩ := M.ex
  exact ⟨(fun e => by rw [e, h1] at h; cases h), (fun e => by rw [e, h3] at h; cases h)⟩
/-- a fresh list, and one behind it -/
theorem Fr.lead {H0 H H' : Hp} {m l l' : Addr} (s : Same H0 H) (f : Fr m l l' H H') : Fr m l l' H0 H' := by
  refine ⟨fun b o e h1 h2 => f.keep b o (s b o e) h1 h2, ?_, f.mm⟩
  rcases f.new with q | q
  · exact .inl q
  · exact .inr (Same.free s q)
/-- data that repr shows -/
structure Good (d : PyData) : Prop where
  pl : plainD d = true
  sh : d.showable = true
  dp : d.depth ≤ 60
  ln : d.shown.length ≤ sizeLine
def goodB (d : PyData) : Bool := plainD d && (d.showable && (decide (d.depth ≤ 60) && decide (d.shown.length ≤ sizeLine)))
theorem good_of {d : PyData} (h : goodB d = true) : Good d := by
  unfold goodB at h
  simp only [Bool.and_eq_true, decide_eq_true_eq] at h
  exact ⟨h.1, h.2.1, h.2.2.1, h.2.2.2⟩
theorem DqAll.get {K : PySem.W.Frag} {H : Hp} {m l : Addr} : ∀ {ds : List PyData} {vs : List V} {i : Nat} {v : V}, DqAll K H m l vs ds → vs[i]? = some v → ∃ d, ds[i]? = some d ∧ Dq K H m l v d
  | [], _, i, v, h, e => by cases h; simp at e
  | d :: ds, _, 0, v, h, e => by
    cases h with
    | cons h1 h2 => simp at e; subst e; exact ⟨d, rfl, h1⟩
  | d :: ds, _, i + 1, v, h, e => by
    cases h with
    | cons h1 h2 => exact DqAll.get (i := i) h2 (by simpa using e)
def ten : List PyData := [.none, .int 0, .int 5, .int (-1), .str "a", .str "", .tuple [], .tuple [.int 1, .int 2], .list [], .dict [], .bool true, .int (10 ^ (30 : Int).toNat)]
theorem ten_good : ten.all goodB = true := by decide +kernel
def spValue (K : PySem.W.Frag) : Sp := fun vs H Q _ => ∃ (m l : Addr) (n : Nat), vs = [.ref m] ∧ Mch H m l n ∧ n < 1000 ∧
  ∀ (q : V) (d : PyData) (l' : Addr) (H' : Hp), Dq K H' m l' q d → Good d → Mch H' m l' (n + 1) → Fr m l l' H H' → Q q H'
structure Txt60 (mg : Str → Option Value) (fN : Addr) : Prop extends Txt mg where
  next : mg "_law_next" = some (.ref fN)
section
variable {P : Program} {w : World} {K : PySem.W.Frag} {mg : Str → Option Value} {base : Heap} {fN : Addr}
theorem scV : FnScope ["m"] ["m"] (defScope sValue) := ⟨rfl, rfl, rfl, by decide +kernel, rfl, by decide +kernel, by decide +kernel⟩
theorem ok_value {f : Addr} {fd fdN : FuncData} (F : Fun K "_law_value" "_law_value" sValue f fd) (T : Txt60 mg fN) (FN : Fun K "_law_next" "_law_next" sNext fN fdN) (bN : Binds K fdN ["m", "many"] []) : FnOk P w K mg base CX0 2 f fd ["m"] (spValue K) := by
  have GN : FnOk P w K mg base CX0 1 fN fdN ["m", "many"] spNext := ok_next FN T.toTxt
  refine F.ok scV (fun vs H Q E h => ?_) (fun cdv A outer s H vs Q E hr h => ?_)
  · obtain ⟨m, l, n, rfl, _⟩ := h
    rfl
  · obtain ⟨m, l, n, rfl, M, hn, q⟩ := h
    refine ⟨_, pss_one (ps_ret (pe_ix ix_list (pe_lst (pa_cons pe_non (pa_cons pe_int (pa_cons pe_int (pa_cons (pe_un un_neg pe_int) (pa_cons pe_str (pa_cons pe_str (pa_cons (pe_tup pa_nil) (pa_cons (pe_tup (pa_cons pe_int (pa_cons pe_int pa_nil)))
      (pa_cons (pe_lst pa_nil) (pa_cons pe_dnewK (pa_cons pe_bl (pa_cons (pe_op op_pow pe_int pe_int) pa_nil)))))))))))))
      (pe_call GN hr rfl T.next FN.kp bN .nil pass0 (pa_cons (pv 0) (pa_cons pe_int pa_nil))) (fun _ _ => rfl))), ?_⟩
    refine ⟨_, rfl, Nat.zero_le _, fun p1 h1 => ⟨(by show 2 ≤ sizeLine; decide), fun p2 h2 => ⟨Nat.zero_le _, fun p3 h3 => ?_⟩⟩⟩
    intro p4 h4
    refine ⟨_, _, rfl, rfl, ⟨by decide, by decide, by decide⟩, (by show 12 ≤ sizeLine; decide), fun L hL => ?_⟩
    have s1 : Same H (upd H p1 (.tup [])) := Same.upd h1
    have s2 := s1.trans (Same.upd (o := .tup [.int 1, .int 2]) h2)
    have s3 := s2.trans (Same.upd (o := .lst []) h3)
    have s4 := s3.trans (Same.upd (o := .dK []) h4)
    have s5 := Same.upd (o := .lst [.non, .int 0, .int 5, .int (-1), .str "a", .str "", .ref p1, .ref p2, .ref p3, .ref p4, .bl true, .int (10 ^ (30 : Int).toNat)]) hL
    have M5 := M.same (s4.trans s5)
    refine ⟨_, rfl, m, l, n, 12, rfl, M5, by omega, by decide, by decide, fun r l' H' r0 r1 M' f => ?_⟩
    have a1 : SqT K (upd H p1 (.tup [])) p1 [] := .inl (.inl upd_same)
    have t1 := (Same.upd (o := .tup [.int 1, .int 2]) h2).trans ((Same.upd (o := .lst []) h3).trans ((Same.upd (o := .dK []) h4).trans s5))
    have t2 := (Same.upd (o := .lst []) h3).trans ((Same.upd (o := .dK []) h4).trans s5)
    have t3 := (Same.upd (o := .dK []) h4).trans s5
    have e1 := t1 p1 _ upd_same
    have e2 := t2 p2 _ upd_same
    have e3 := t3 p3 _ upd_same
    have e4 := s5 p4 _ upd_same
    have n3 := (M.same s2).ne h3
    have n4 := (M.same s3).ne h4
    have nL := (M.same s4).ne hL
    have D : DqAll K _ m l [.non, .int 0, .int 5, .int (-1), .str "a", .str "", .ref p1, .ref p2, .ref p3, .ref p4, .bl true, .int (10 ^ (30 : Int).toNat)] ten :=
      .cons .non (.cons (.int _) (.cons (.int _) (.cons (.int _) (.cons (.str _) (.cons (.str _) (.cons (.tup (.inl (.inl e1)) .nil) (.cons (.tup (.inl (.inl e2)) (.cons (.int _) (.cons (.int _) .nil)))
        (.cons (.lst e3 n3.1 n3.2 .nil) (.cons (.dct e4 n4.1 n4.2) (.cons (.bl _) (.cons (.int _) .nil)))))))))))
    obtain ⟨rn, rfl⟩ : ∃ rn : Nat, r = (rn : Int) := ⟨r.toNat, by omega⟩
    have hrn : rn < 12 := by omega
    obtain ⟨v, hv⟩ : ∃ v, ([.non, .int 0, .int 5, .int (-1), .str "a", .str "", .ref p1, .ref p2, .ref p3, .ref p4, .bl true, .int (10 ^ (30 : Int).toNat)] : List V)[rn]? = some v := ⟨_, List.getElem?_eq_getElem (by show rn < 12; exact hrn)⟩
    obtain ⟨d, hd, dq⟩ := D.get hv
    have gd : Good d := good_of (List.all_eq_true.mp ten_good d (List.mem_of_getElem? hd))
    refine ⟨L, _, (rn : Int), v, rfl, rfl, SqL.of (f.keep L _ upd_same nL.1 nL.2), atI_nat hv, ?_⟩
    exact q v d l' H' (Dq.step (M5.step f) d v dq) gd M' (Fr.lead (s4.trans s5) f)
end

def fld (i : Nat) : Str := if i = 1 ∨ i = 12 then "value" else if i = 11 then "line" else if i = 13 then "name" else if i = 14 then "most" else "place"
/-- the fifteen classes, and the one above -/
structure C15 (K : PySem.W.Frag) (mg : Str → Option Value) (c : Nat → Addr) (S : Addr) : Prop where
  g0 : mg "BadSettings" = some (.ref (c 0))
  g1 : mg "BadStanding" = some (.ref (c 1))
  g2 : mg "BadStarts" = some (.ref (c 2))
  g3 : mg "BadSwitches" = some (.ref (c 3))
  g4 : mg "BadPlaces" = some (.ref (c 4))
  g5 : mg "BadModes" = some (.ref (c 5))
  g6 : mg "BadRun" = some (.ref (c 6))
  g7 : mg "BadNode" = some (.ref (c 7))
  g8 : mg "BadPaper" = some (.ref (c 8))
  g9 : mg "BadWindow" = some (.ref (c 9))
  g10 : mg "BadPlan" = some (.ref (c 10))
  g11 : mg "BadText" = some (.ref (c 11))
  g12 : mg "BadNumber" = some (.ref (c 12))
  g13 : mg "Missing" = some (.ref (c 13))
  g14 : mg "TooMany" = some (.ref (c 14))
  gS : mg "SwitchError" = some (.ref S)
  isi : mg "isinstance" = none
  rep : mg "repr" = none
  ve : mg "ValueError" = none
  le : mg "LookupError" = none
  oe : mg "OverflowError" = none
  ke : mg "KeyError" = none
  ie : mg "IndexError" = none
  is : ∀ i, i < 15 → IsC K (c i)
  fl : ∀ i, i < 15 → FldC K (c i) (fld i)
  kk : ∀ i k, i < 15 → k < 15 → PySem.W.kitOne K (.ref (c i)) (.ref (c k)) = some (decide (k = i))
  kS : ∀ i, i < 15 → PySem.W.kitOne K (.ref (c i)) (.ref S) = some (decide (i < 13))
  kV : ∀ i, i < 15 → PySem.W.kitOne K (.ref (c i)) (.type "ValueError") = some (decide (i < 13))
  kL : ∀ i, i < 15 → PySem.W.kitOne K (.ref (c i)) (.type "LookupError") = some (decide (i = 13))
  kO : ∀ i, i < 15 → PySem.W.kitOne K (.ref (c i)) (.type "OverflowError") = some (decide (i = 14))
  kI : ∀ i, i < 15 → PySem.W.kitAny K (.ref (c i)) [.type "KeyError", .type "IndexError"] = some false
def kb (i : Nat) (ks : List Nat) : List V := ks.map fun k => V.bl (decide (k = i))
def spKinds (c : Nat → Addr) : Sp := fun vs H Q _ => ∃ (a i : Nat) (y : V), vs = [.ref a] ∧ i < 15 ∧ XE H a (c i) (fld i) y ∧ ∀ (p : Addr) (H' : Hp), Same H H' → H p = none → H' p = some (.lst (kb i (List.range 15))) → Q (.ref p) H'
def spFields (c : Nat → Addr) : Sp := fun vs H Q _ => ∃ (a i : Nat) (y : V), vs = [.ref a] ∧ i < 15 ∧ XE H a (c i) (fld i) y ∧ ∀ (H' : Hp), Same H H' → Q y H'
section
variable {P : Program} {w : World} {K : PySem.W.Frag} {mg : Str → Option Value} {base : Heap} {c : Nat → Addr} {S : Addr}
theorem scK : FnScope ["one", "found"] ["one"] (defScope sKinds) := ⟨rfl, rfl, rfl, by decide +kernel, rfl, by decide +kernel, by decide +kernel⟩
set_option maxHeartbeats 8000000 in
theorem ok_kinds {f : Addr} {fd : FuncData} (F : Fun K "_law_kinds" "_law_kinds" sKinds f fd) (T : C15 K mg c S) : FnOk P w K mg base CX0 1 f fd ["one"] (spKinds c) := by
  refine F.ok scK (fun vs H Q E h => ?_) (fun cdv A outer s H vs Q E hr h => ?_)
  · obtain ⟨a, i, y, rfl, _⟩ := h
    rfl
  · obtain ⟨a, i, y, rfl, hi, xe, q⟩ := h
    refine ⟨_, pss_cons (ps_set (i := 1) scK.nd rfl (Or.inl rfl) (pe_lst (pa_cons (pe_callB call_xis (by rfl) T.isi (by decide +kernel) (pa_cons (pv 0) (pa_cons (pe_glob (v := .ref (c 0)) rfl T.g0 rfl) pa_nil))) (pa_cons (pe_callB call_xis (by rfl) T.isi (by decide +kernel) (pa_cons (pv 0) (pa_cons (pe_glob (v := .ref (c 1)) rfl T.g1 rfl) pa_nil))) (pa_cons (pe_callB call_xis (by rfl) T.isi (by decide +kernel) (pa_cons (pv 0) (pa_cons (pe_glob (v := .ref (c 2)) rfl T.g2 rfl) pa_nil))) pa_nil)))))
      (pss_cons (ps_set (i := 1) scK.nd rfl (Or.inl rfl) (pe_op op_cat (pv 1) (pe_lst (pa_cons (pe_callB call_xis (by rfl) T.isi (by decide +kernel) (pa_cons (pv 0) (pa_cons (pe_glob (v := .ref (c 3)) rfl T.g3 rfl) pa_nil))) (pa_cons (pe_callB call_xis (by rfl) T.isi (by decide +kernel) (pa_cons (pv 0) (pa_cons (pe_glob (v := .ref (c 4)) rfl T.g4 rfl) pa_nil))) (pa_cons (pe_callB call_xis (by rfl) T.isi (by decide +kernel) (pa_cons (pv 0) (pa_cons (pe_glob (v := .ref (c 5)) rfl T.g5 rfl) pa_nil))) pa_nil))))))
      (pss_cons (ps_set (i := 1) scK.nd rfl (Or.inl rfl) (pe_op op_cat (pv 1) (pe_lst (pa_cons (pe_callB call_xis (by rfl) T.isi (by decide +kernel) (pa_cons (pv 0) (pa_cons (pe_glob (v := .ref (c 6)) rfl T.g6 rfl) pa_nil))) (pa_cons (pe_callB call_xis (by rfl) T.isi (by decide +kernel) (pa_cons (pv 0) (pa_cons (pe_glob (v := .ref (c 7)) rfl T.g7 rfl) pa_nil))) (pa_cons (pe_callB call_xis (by rfl) T.isi (by decide +kernel) (pa_cons (pv 0) (pa_cons (pe_glob (v := .ref (c 8)) rfl T.g8 rfl) pa_nil))) pa_nil))))))
      (pss_cons (ps_set (i := 1) scK.nd rfl (Or.inl rfl) (pe_op op_cat (pv 1) (pe_lst (pa_cons (pe_callB call_xis (by rfl) T.isi (by decide +kernel) (pa_cons (pv 0) (pa_cons (pe_glob (v := .ref (c 9)) rfl T.g9 rfl) pa_nil))) (pa_cons (pe_callB call_xis (by rfl) T.isi (by decide +kernel) (pa_cons (pv 0) (pa_cons (pe_glob (v := .ref (c 10)) rfl T.g10 rfl) pa_nil))) (pa_cons (pe_callB call_xis (by rfl) T.isi (by decide +kernel) (pa_cons (pv 0) (pa_cons (pe_glob (v := .ref (c 11)) rfl T.g11 rfl) pa_nil))) pa_nil))))))
      (pss_cons (ps_set (i := 1) scK.nd rfl (Or.inl rfl) (pe_op op_cat (pv 1) (pe_lst (pa_cons (pe_callB call_xis (by rfl) T.isi (by decide +kernel) (pa_cons (pv 0) (pa_cons (pe_glob (v := .ref (c 12)) rfl T.g12 rfl) pa_nil))) (pa_cons (pe_callB call_xis (by rfl) T.isi (by decide +kernel) (pa_cons (pv 0) (pa_cons (pe_glob (v := .ref (c 13)) rfl T.g13 rfl) pa_nil))) (pa_cons (pe_callB call_xis (by rfl) T.isi (by decide +kernel) (pa_cons (pv 0) (pa_cons (pe_glob (v := .ref (c 14)) rfl T.g14 rfl) pa_nil))) pa_nil))))))
      (pss_one (ps_ret (pv 1))))))), ?_⟩
    refine ⟨_, rfl, a, c i, fld i, y, .ref (c 0), _, _, rfl, .own _, T.is i hi, xe, T.kk i 0 hi (by decide), _, rfl, a, c i, fld i, y, .ref (c 1), _, _, rfl, .own _, T.is i hi, xe, T.kk i 1 hi (by decide), _, rfl, a, c i, fld i, y, .ref (c 2), _, _, rfl, .own _, T.is i hi, xe, T.kk i 2 hi (by decide), (by show 3 ≤ sizeLine; decide), fun p0 h0 => ?_⟩
    have s0 := Same.upd (o := .lst (kb i [0, 1, 2])) h0
    have x0 := xe.same s0
    have e0 : (upd H p0 (.lst (kb i [0, 1, 2]))) p0 = some (.lst (kb i [0, 1, 2])) := upd_same
    refine ⟨_, rfl, _, rfl, a, c i, fld i, y, .ref (c 3), _, _, rfl, .own _, T.is i hi, x0, T.kk i 3 hi (by decide), _, rfl, a, c i, fld i, y, .ref (c 4), _, _, rfl, .own _, T.is i hi, x0, T.kk i 4 hi (by decide), _, rfl, a, c i, fld i, y, .ref (c 5), _, _, rfl, .own _, T.is i hi, x0, T.kk i 5 hi (by decide), (by show 3 ≤ sizeLine; decide), fun p1 h1 => ?_⟩
    have t1 := Same.upd (o := .lst (kb i [3, 4, 5])) h1
    refine ⟨p0, p1, kb i [0, 1, 2], kb i [3, 4, 5], rfl, rfl, t1 _ _ upd_same, upd_same, (by show 3 + 3 ≤ sizeLine; decide), fun p2 h2 => ?_⟩
    have t2 := Same.upd (o := .lst (kb i [0, 1, 2] ++ kb i [3, 4, 5])) h2
    have s2 := s0.trans (t1.trans t2)
    have x2 := xe.same s2
    have n2 : H p2 = none := (s0.trans t1).free h2
    refine ⟨_, rfl, _, rfl, a, c i, fld i, y, .ref (c 6), _, _, rfl, .own _, T.is i hi, x2, T.kk i 6 hi (by decide), _, rfl, a, c i, fld i, y, .ref (c 7), _, _, rfl, .own _, T.is i hi, x2, T.kk i 7 hi (by decide), _, rfl, a, c i, fld i, y, .ref (c 8), _, _, rfl, .own _, T.is i hi, x2, T.kk i 8 hi (by decide), (by show 3 ≤ sizeLine; decide), fun p3 h3 => ?_⟩
    have t3 := Same.upd (o := .lst (kb i [6, 7, 8])) h3
    refine ⟨p2, p3, kb i [0, 1, 2, 3, 4, 5], kb i [6, 7, 8], rfl, rfl, t3 _ _ upd_same, upd_same, (by show 6 + 3 ≤ sizeLine; decide), fun p4 h4 => ?_⟩
    have t4 := Same.upd (o := .lst (kb i [0, 1, 2, 3, 4, 5] ++ kb i [6, 7, 8])) h4
    have s4 := s2.trans (t3.trans t4)
    have x4 := xe.same s4
    have n4 : H p4 = none := (s2.trans t3).free h4
    refine ⟨_, rfl, _, rfl, a, c i, fld i, y, .ref (c 9), _, _, rfl, .own _, T.is i hi, x4, T.kk i 9 hi (by decide), _, rfl, a, c i, fld i, y, .ref (c 10), _, _, rfl, .own _, T.is i hi, x4, T.kk i 10 hi (by decide), _, rfl, a, c i, fld i, y, .ref (c 11), _, _, rfl, .own _, T.is i hi, x4, T.kk i 11 hi (by decide), (by show 3 ≤ sizeLine; decide), fun p5 h5 => ?_⟩
    have t5 := Same.upd (o := .lst (kb i [9, 10, 11])) h5
    refine ⟨p4, p5, kb i [0, 1, 2, 3, 4, 5, 6, 7, 8], kb i [9, 10, 11], rfl, rfl, t5 _ _ upd_same, upd_same, (by show 9 + 3 ≤ sizeLine; decide), fun p6 h6 => ?_⟩
    have t6 := Same.upd (o := .lst (kb i [0, 1, 2, 3, 4, 5, 6, 7, 8] ++ kb i [9, 10, 11])) h6
    have s6 := s4.trans (t5.trans t6)
    have x6 := xe.same s6
    have n6 : H p6 = none := (s4.trans t5).free h6
    refine ⟨_, rfl, _, rfl, a, c i, fld i, y, .ref (c 12), _, _, rfl, .own _, T.is i hi, x6, T.kk i 12 hi (by decide), _, rfl, a, c i, fld i, y, .ref (c 13), _, _, rfl, .own _, T.is i hi, x6, T.kk i 13 hi (by decide), _, rfl, a, c i, fld i, y, .ref (c 14), _, _, rfl, .own _, T.is i hi, x6, T.kk i 14 hi (by decide), (by show 3 ≤ sizeLine; decide), fun p7 h7 => ?_⟩
    have t7 := Same.upd (o := .lst (kb i [12, 13, 14])) h7
    refine ⟨p6, p7, kb i [0, 1, 2, 3, 4, 5, 6, 7, 8, 9, 10, 11], kb i [12, 13, 14], rfl, rfl, t7 _ _ upd_same, upd_same, (by show 12 + 3 ≤ sizeLine; decide), fun p8 h8 => ?_⟩
    have t8 := Same.upd (o := .lst (kb i [0, 1, 2, 3, 4, 5, 6, 7, 8, 9, 10, 11] ++ kb i [12, 13, 14])) h8
    have s8 := s6.trans (t7.trans t8)
    have x8 := xe.same s8
    have n8 : H p8 = none := (s6.trans t7).free h8
    exact ⟨_, rfl, q p8 _ s8 n8 upd_same⟩
theorem scF : FnScope ["one"] ["one"] (defScope sFields) := ⟨rfl, rfl, rfl, by decide +kernel, rfl, by decide +kernel, by decide +kernel⟩
theorem kit2 {t a b : Value} {x y : Bool} (h1 : PySem.W.kitOne K t a = some x) (h2 : PySem.W.kitOne K t b = some y) : PySem.W.kitAny K t [a, b] = some (x || y) := by
  cases x with
  | true => exact kitAny_cons h1 (fun z => by cases z) (fun _ => rfl)
  | false =>
    refine kitAny_cons h1 (fun _ => ?_) (fun z => by cases z)
    cases y with
    | true => exact kitAny_cons h2 (fun z => by cases z) (fun _ => rfl)
    | false => exact kitAny_cons h2 (fun _ => kitAny_nil) (fun z => by cases z)
theorem ok_fields {f : Addr} {fd : FuncData} (F : Fun K "_law_fields" "_law_fields" sFields f fd) (T : C15 K mg c S) : FnOk P w K mg base CX0 1 f fd ["one"] (spFields c) := by
  refine F.ok scF (fun vs H Q E h => ?_) (fun cdv A outer s H vs Q E hr h => ?_)
  · obtain ⟨a, i, y, rfl, _⟩ := h
    rfl
  · obtain ⟨a, i, y, rfl, hi, xe, q⟩ := h
    refine ⟨_, pss_cons (ps_if (pt_val (pe_callB call_xisT (by rfl) T.isi (by decide +kernel) (pa_cons (pv 0) (pa_cons (pe_tup (pa_cons (pe_glob (v := .ref (c 1)) rfl T.g1 rfl) (pa_cons (pe_glob (v := .ref (c 12)) rfl T.g12 rfl) pa_nil))) pa_nil)))) (pss_one (ps_ret (pe_xget (f := "value") (pv 0)))) pss_nil)
      (pss_cons (ps_if (pt_val (pe_callB call_xis (by rfl) T.isi (by decide +kernel) (pa_cons (pv 0) (pa_cons (pe_glob (v := .ref (c 11)) rfl T.g11 rfl) pa_nil)))) (pss_one (ps_ret (pe_xget (f := "line") (pv 0)))) pss_nil)
      (pss_cons (ps_if (pt_val (pe_callB call_xis (by rfl) T.isi (by decide +kernel) (pa_cons (pv 0) (pa_cons (pe_glob (v := .ref (c 13)) rfl T.g13 rfl) pa_nil)))) (pss_one (ps_ret (pe_xget (f := "name") (pv 0)))) pss_nil)
      (pss_one (ps_ret (pe_ifExp (pt_val (pe_callB call_xis (by rfl) T.isi (by decide +kernel) (pa_cons (pv 0) (pa_cons (pe_glob (v := .ref (c 14)) rfl T.g14 rfl) pa_nil)))) (pe_xget (f := "most") (pv 0)) (pe_xget (f := "place") (pv 0))))))), ?_⟩
    refine ⟨_, rfl, (by show 2 ≤ sizeLine; decide), fun p0 h0 => ?_⟩
    have s0 := Same.upd (o := .tup [.ref (c 1), .ref (c 12)]) h0
    have x0 := xe.same s0
    refine ⟨a, c i, p0, fld i, y, _, _, _, rfl, upd_same, .cons (.own _) (.cons (.own _) .nil), T.is i hi, x0, kit2 (T.kk i 1 hi (by decide)) (T.kk i 12 hi (by decide)), _, rfl, ?_⟩
    have fin : ∀ g : Str, fld i = g → ∀ Q' : VK, (∀ H', Same H H' → Q' y H') → tXget K g (tVar 0) [some (.ref a)] (upd H p0 (.tup [.ref (c 1), .ref (c 12)])) Q' := by
      rintro g rfl Q' hq
      exact ⟨_, rfl, a, c i, y, rfl, T.fl i hi, x0, hq _ s0⟩
    by_cases h1 : i = 1 ∨ i = 12
    · refine ifT (by rcases h1 with rfl | rfl <;> rfl) ?_
      exact fin "value" (by unfold fld; rw [if_pos h1]) _ q
    · refine ifF (by simp only [Bool.or_eq_false_iff, decide_eq_false_iff_not]; omega) ?_
      refine ⟨_, rfl, a, c i, fld i, y, .ref (c 11), _, _, rfl, .own _, T.is i hi, x0, T.kk i 11 hi (by decide), _, rfl, ?_⟩
      by_cases h2 : i = 11
      · refine ifT (by simp only [decide_eq_true_eq]; omega) ?_
        exact fin "line" (by unfold fld; rw [if_neg h1, if_pos h2]) _ q
      · refine ifF (by simp only [decide_eq_false_iff_not]; omega) ?_
        refine ⟨_, rfl, a, c i, fld i, y, .ref (c 13), _, _, rfl, .own _, T.is i hi, x0, T.kk i 13 hi (by decide), _, rfl, ?_⟩
        by_cases h3 : i = 13
        · refine ifT (by simp only [decide_eq_true_eq]; omega) ?_
          exact fin "name" (by unfold fld; rw [if_neg h1, if_neg h2, if_pos h3]) _ q
        · refine ifF (by simp only [decide_eq_false_iff_not]; omega) ?_
          refine ⟨_, rfl, a, c i, fld i, y, .ref (c 14), _, _, rfl, .own _, T.is i hi, x0, T.kk i 14 hi (by decide), _, rfl, ?_⟩
          by_cases h4 : i = 14
          · refine ifT (by simp only [decide_eq_true_eq]; omega) ?_
            exact fin "most" (by unfold fld; rw [if_neg h1, if_neg h2, if_neg h3, if_pos h4]) _ q
          · refine ifF (by simp only [decide_eq_false_iff_not]; omega) ?_
            exact fin "place" (by unfold fld; rw [if_neg h1, if_neg h2, if_neg h3, if_neg h4]) _ q
end

/-! ### lists of made exceptions -/
def XS (c : Nat → Addr) (H : Hp) (y : V) (xs : List V) (ks : List Nat) : Prop := Paired (fun v k => ∃ a, v = .ref a ∧ XE H a (c k) (fld k) y) xs ks
theorem XS.same {c : Nat → Addr} {H H' : Hp} {y : V} (s : Same H H') {xs : List V} {ks : List Nat} (x : XS c H y xs ks) : XS c H' y xs ks :=
  Paired.mapP x fun v k ⟨a, e, q⟩ => ⟨a, e, q.same s⟩
theorem XS.over {c : Nat → Addr} {H : Hp} {y : V} {p : Addr} {zs ws : List V} (e : H p = some (.lst zs)) {xs : List V} {ks : List Nat} (x : XS c H y xs ks) : XS c (upd H p (.lst ws)) y xs ks :=
  Paired.mapP x fun v k ⟨a, e2, dx, h1, h2⟩ => ⟨a, e2, dx, by rw [upd_ne (ne_of h1 e (by intro z; cases (show HO.ext _ = HO.lst _ from z)))]; exact h1, by rw [upd_ne (ne_of h2 e (by intro z; cases (show HO.ext _ = HO.lst _ from z)))]; exact h2⟩
theorem XS.app {c : Nat → Addr} {H : Hp} {y : V} : ∀ {xs zs : List V} {ks js : List Nat}, XS c H y xs ks → XS c H y zs js → XS c H y (xs ++ zs) (ks ++ js)
  | _, _, _, _, .nil, s => s
  | _, _, _, _, .cons r t, s => .cons r (XS.app t s)
theorem XS.get {c : Nat → Addr} {H : Hp} {y : V} : ∀ {xs : List V} {ks : List Nat} {i k : Nat}, XS c H y xs ks → ks[i]? = some k → ∃ a, xs[i]? = some (.ref a) ∧ XE H a (c k) (fld k) y
  | _, _, _, _, .nil, e => by simp at e
  | _, _, 0, _, .cons r t, e => by
    simp at e; subst e
    obtain ⟨a, e1, e2⟩ := r
    exact ⟨a, by rw [e1]; rfl, e2⟩
  | _, _, i + 1, k, .cons r t, e => by
    obtain ⟨a, h1, h2⟩ := XS.get (i := i) (k := k) t (by simpa using e)
    exact ⟨a, by simpa using h1, h2⟩
theorem XS.len {c : Nat → Addr} {H : Hp} {y : V} {xs : List V} {ks : List Nat} (x : XS c H y xs ks) : xs.length = ks.length := Paired.length x
def tKw (C : Addr) (f : Str) : TE := fun σ H Q => tCons (tVar 3) tNil σ H fun ys H1 => ∃ y, ys = [y] ∧ ∀ a dx, H1 a = none → H1 dx = none → dx ≠ a → Q (.ref a) (laidX H1 a dx C f y)
def tXs (c : Nat → Addr) : List Nat → TA
  | [] => tNil
  | k :: ks => tCons (tXmk (c k) (fld k) (tVar 3)) (tXs c ks)
def tXk (c : Nat → Addr) : List Nat → TA
  | [] => tNil
  | k :: ks => tCons (tKw (c k) (fld k)) (tXk c ks)
theorem xs_read {c : Nat → Addr} {σ : L2.St} {y : V} (e : σ[3]? = some (some y)) : ∀ (ks : List Nat) (H : Hp) (Q : List V → Hp → Prop), (∀ xs H', Same H H' → XS c H' y xs ks → Q xs H') → tXs c ks σ H Q
  | [], H, Q, h => h [] H (Same.refl H) .nil
  | k :: ks, H, Q, h => ⟨y, e, fun a dx n1 n2 ne => xs_read e ks _ _ fun xs H' s x => h _ _ ((laidX_same n1 n2).trans s) (.cons ⟨a, rfl, (laidX_xe ne).same s⟩ x)⟩
theorem xk_read {c : Nat → Addr} {σ : L2.St} {y : V} (e : σ[3]? = some (some y)) : ∀ (ks : List Nat) (H : Hp) (Q : List V → Hp → Prop), (∀ xs H', Same H H' → XS c H' y xs ks → Q xs H') → tXk c ks σ H Q
  | [], H, Q, h => h [] H (Same.refl H) .nil
  | k :: ks, H, Q, h => ⟨y, e, y, rfl, fun a dx n1 n2 ne => xk_read e ks _ _ fun xs H' s x => h _ _ ((laidX_same n1 n2).trans s) (.cons ⟨a, rfl, (laidX_xe ne).same s⟩ x)⟩
theorem Same.over {H0 H : Hp} {p : Addr} {o : HO} (s : Same H0 H) (h : H0 p = none) : Same H0 (L2.upd H p o) := fun b q e => by rw [upd_ne (ne_of_none e h)]; exact s b q e
/-! ### the classes' makers -/
def vTail : List Value := [.type "ValueError", .type "Exception", .type "BaseException", .type "object"]
def lTail : List Value := [.type "LookupError", .type "Exception", .type "BaseException", .type "object"]
def oTail : List Value := [.type "OverflowError", .type "ArithmeticError", .type "Exception", .type "BaseException", .type "object"]
structure M15 (P : Program) (w : World) (K : PySem.W.Frag) (mg : Str → Option Value) (base : Heap) (c fi : Nat → Addr) (fd : Nat → FuncData) : Prop where
  v : ∀ k, k < 13 → XC K (c k) (fi k) (fld k) "ValueError.__new__" vTail
  l : XC K (c 13) (fi 13) (fld 13) "LookupError.__new__" lTail
  o : XC K (c 14) (fi 14) (fld 14) "OverflowError.__new__" oTail
  g : ∀ k, k < 15 → FnOk P w K mg base CX0 1 (fi k) (fd k) ["self", fld k] (spInit (c k) (fld k))
  b : ∀ k, k < 15 → ∀ (s : Shared) (v u : Value), BindsTo s (fd k) ⟨[v, u], []⟩ [("self", v), (fld k, u)]
  bk : ∀ k, k < 15 → ∀ (s : Shared) (v u : Value), BindsTo s (fd k) ⟨[v], [(fld k, u)]⟩ [("self", v), (fld k, u)]
/-! ### for i, x in enumerate(xs) -/
theorem for_enumL {K : PySem.W.Frag} {a : Addr} {xs : List V} {g : TG} {tb : TS} {D : Ends} {σ : L2.St} {H : Hp} (Pv : Nat → L2.St → Hp → Prop) (h0 : Pv 0 σ H) (hl : ∀ i σ H, i ≤ xs.length → Pv i σ H → SqL K H a xs)
    (hs : ∀ i x σ H T, xs[i]? = some x → Pv i σ H → H T = none → g (.ref T) σ (upd H T (.tup [.int (i : Nat), x])) fun σ2 H2 => tb { D with nx := Pv (i + 1), ct := Pv (i + 1), bk := D.nx } σ2 H2) (hd : ∀ σ H, Pv xs.length σ H → D.nx σ H) :
    ∃ W : Nat → Nat → L2.St → Hp → Prop, (∃ m, W 0 m σ H) ∧ ∀ i m σ H, W i m σ H →
      ((Ite K a).stop i H ∧ D.nx σ H) ∨ ((Ite K a).go i H ∧ ∃ N : L2.St → Hp → Prop, (∀ σ' H', N σ' H' → ∃ m', m' < m ∧ W (i + 1) m' σ' H') ∧ ∀ x H', (Ite K a).yld i H x H' → g x σ H' fun σ2 H2 => tb { D with nx := N, ct := N, bk := D.nx } σ2 H2) := by
  refine ⟨fun i m σ H => m = xs.length - i ∧ i ≤ xs.length ∧ Pv i σ H, ⟨xs.length, by simp, Nat.zero_le _, h0⟩, ?_⟩
  rintro i m σ H ⟨rfl, hi, p⟩
  have q := hl i σ H hi p
  by_cases lt : i < xs.length
  · refine .inr ⟨⟨xs, xs[i], q, by simp [lt]⟩, Pv (i + 1), fun σ' H' p' => ⟨xs.length - (i + 1), by omega, rfl, lt, p'⟩, fun x H' y => ?_⟩
    obtain ⟨T, z, ex, n, eH, y⟩ := y
    subst ex
    subst eH
    exact hs i z σ H T (y xs q) p n
  · have e : i = xs.length := by omega
    subst e
    exact .inl ⟨⟨xs, q, Nat.le_refl _⟩, hd σ H p⟩
theorem tyes {σ : L2.St} {H : Hp} {R S : Hp → Prop} (h : R H) : tYes σ H (fun b H3 => if b = true then R H3 else S H3) := by
  show if true = true then R H else S H
  rw [if_pos rfl]
  exact h
theorem kb_bools (i : Nat) (ks : List Nat) : kb i ks = (ks.map fun k => decide (k = i)).map V.bl := by unfold kb; rw [List.map_map]; rfl
theorem dpAll_bools {K : PySem.W.Frag} {H : Hp} : ∀ bs : List Bool, DpAll K H (bs.map V.bl) (bs.map PyData.bool)
  | [] => .nil
  | b :: bs => .cons (.bl b) (dpAll_bools bs)
theorem lay_bools : ∀ bs : List Bool, PyData.canLayAll0 (bs.map PyData.bool) = true
  | [] => rfl
  | b :: bs => by
    show (PyData.canLay0 (.bool b) && PyData.canLayAll0 (bs.map PyData.bool)) = true
    rw [lay_bools bs]; rfl
theorem depth_bools : ∀ bs : List Bool, PyData.depthAll (bs.map PyData.bool) = 0
  | [] => rfl
  | b :: bs => by
    show max (PyData.depth (.bool b)) (PyData.depthAll (bs.map PyData.bool)) = 0
    rw [depth_bools bs]; rfl
theorem shaped_bools (bs : List Bool) : SeqAt.shaped (.list (bs.map PyData.bool)) = true := by
  show (PyData.canLayAll0 (bs.map PyData.bool) && decide (PyData.depthAll (bs.map PyData.bool) + 1 ≤ 64)) = true
  rw [lay_bools, depth_bools]; rfl
theorem eqv_bools (bs : List Bool) : PyData.eqv (.list (bs.map PyData.bool)) (.list (bs.map PyData.bool)) = true := SeqAt.eqv_refl _ (lay_bools bs)
/-- two lists of the same bools are not unequal -/
theorem ne_bools {K : PySem.W.Frag} {H : Hp} {p r : Addr} {bs : List Bool} {Q : VK} (h1 : H p = some (.lst (bs.map V.bl))) (h2 : H r = some (.lst (bs.map V.bl))) (q : Q (.bl false) H) : rNeD K (.ref p) (.ref r) H Q :=
  ⟨_, _, .lst (SqL.of h1) (dpAll_bools bs), .lst (SqL.of h2) (dpAll_bools bs), shaped_bools bs, shaped_bools bs, by rw [eqv_bools]; exact q⟩
theorem eq_ints (k jj : Nat) : decide (V.int (0 + (k : Int)) = V.int (jj : Int)) = decide (k = jj) := by
  have e : (V.int (0 + (k : Int)) = V.int (jj : Int)) ↔ k = jj := by
    constructor
    · intro h
      have z := V.int.inj h
      omega
    · intro h
      rw [h, Int.zero_add]
  exact decide_eq_decide.mpr e
structure TL (mg : Str → Option Value) (fB fV fF fK : Addr) : Prop where
  begun : mg "_law_begun" = some (.ref fB)
  value : mg "_law_value" = some (.ref fV)
  fields : mg "_law_fields" = some (.ref fF)
  kinds : mg "_law_kinds" = some (.ref fK)
  range : mg "range" = none
  min : mg "min" = none
  len : mg "len" = none
  enum : mg "enumerate" = none

abbrev NL : List Str := ["script", "m", "turn", "q", "some", "far", "at", "one", "due", "told", "k"]
theorem scL : FnScope NL ["script"] (defScope sLaw) := ⟨rfl, rfl, rfl, by decide +kernel, rfl, by decide +kernel, by decide +kernel⟩
section
variable {P : Program} {w : World} {K : PySem.W.Frag} {mg : Str → Option Value} {c fi : Nat → Addr} {S fN fB fV fF fK : Addr} {fdi : Nat → FuncData}
set_option maxHeartbeats 16000000 in
theorem ok_law {f : Addr} {fd fdB fdN fdV fdF fdK : FuncData} (F : Fun K "law" "law" sLaw f fd) (T0 : Txt60 mg fN) (T : TL mg fB fV fF fK) (C : C15 K mg c S) (MM : ∀ base, M15 P w K mg base c fi fdi)
    (bL : ∀ (s : Shared) (u : Value), BindsTo s fd ⟨[u], []⟩ [("script", u)])
    (FB : Fun K "_law_begun" "_law_begun" sBegun fB fdB) (bB : Binds K fdB ["script"] []) (FN : Fun K "_law_next" "_law_next" sNext fN fdN) (bN : Binds K fdN ["m", "many"] [])
    (FV : Fun K "_law_value" "_law_value" sValue fV fdV) (bV : Binds K fdV ["m"] []) (FF : Fun K "_law_fields" "_law_fields" sFields fF fdF) (bF : Binds K fdF ["one"] []) (FK : Fun K "_law_kinds" "_law_kinds" sKinds fK fdK) (bK : Binds K fdK ["one"] []) : LawRun P w K mg f := by
  intro base H s a ns kin glob hS hlen st0
  have M := MM base
  have GB : FnOk P w K mg base CX0 1 fB fdB ["script"] (spBegun K) := ok_begun FB T0.toTxt
  have GV : FnOk P w K mg base CX0 2 fV fdV ["m"] (spValue K) := ok_value FV T0 FN bN
  have GF : FnOk P w K mg base CX0 1 fF fdF ["one"] (spFields c) := ok_fields FF C
  have GK : FnOk P w K mg base CX0 1 fK fdK ["one"] (spKinds c) := ok_kinds FK C
  refine run_known (k := 3) (N := NL) (ps := ["script"]) (us := [.ref a]) (vs := [.ref a]) F scL rfl ⟨rfl, by decide, by decide⟩ st0 (bL s _) (.cons rfl .nil) rfl fun cdv hr => ?_
  have hr2 : Room 2 _ := hr.mono (by decide)
  have hr1 : Room 1 _ := hr.mono (by decide)
  have gA : (callerA.deeper (envOfC "law" (defScope sLaw) s.heap.objs.size f cdv)).guards = some [] := rfl
  refine ⟨_, pss_cons (ps_set (i := 1) scL.nd rfl (Or.inl rfl) (pe_call GB hr1 rfl T.begun FB.kp bB .nil pass0 (pa_cons (pv 0) pa_nil)))
      (pss_cons (ps_for PassesOwn.never rfl (pi_range1 (by rfl) T.range (pa_cons (pe_op op_add pe_int (pe_callB (call_min2 rfl) (by rfl) T.min (by decide +kernel) (pa_cons (pe_callB call_len_seq (by rfl) T.len PySem.boot_len (pa_cons (pv 0) pa_nil)) (pa_cons pe_int pa_nil)))) pa_nil)) (pg_name (i := 2) scL.nd rfl (Or.inl rfl)) (pss_cons (ps_set (i := 3) scL.nd rfl (Or.inl rfl) (pe_call GV hr2 rfl T.value FV.kp bV .nil pass0 (pa_cons (pv 1) pa_nil)))
          (pss_cons (ps_set (i := 4) scL.nd rfl (Or.inl rfl) (pe_lst (pa_cons (pe_xc (f := fld 0) PySem.F.excBase_ValueError (M.v 0 (by decide)) (M.g 0 (by decide)) hr2 C.g0 rfl (M.b 0 (by decide)) (pv 3)) (pa_cons (pe_xc (f := fld 1) PySem.F.excBase_ValueError (M.v 1 (by decide)) (M.g 1 (by decide)) hr2 C.g1 rfl (M.b 1 (by decide)) (pv 3)) (pa_cons (pe_xc (f := fld 2) PySem.F.excBase_ValueError (M.v 2 (by decide)) (M.g 2 (by decide)) hr2 C.g2 rfl (M.b 2 (by decide)) (pv 3)) (pa_cons (pe_xc (f := fld 3) PySem.F.excBase_ValueError (M.v 3 (by decide)) (M.g 3 (by decide)) hr2 C.g3 rfl (M.b 3 (by decide)) (pv 3)) (pa_cons (pe_xc (f := fld 4) PySem.F.excBase_ValueError (M.v 4 (by decide)) (M.g 4 (by decide)) hr2 C.g4 rfl (M.b 4 (by decide)) (pv 3)) (pa_cons (pe_xc (f := fld 5) PySem.F.excBase_ValueError (M.v 5 (by decide)) (M.g 5 (by decide)) hr2 C.g5 rfl (M.b 5 (by decide)) (pv 3)) (pa_cons (pe_xc (f := fld 6) PySem.F.excBase_ValueError (M.v 6 (by decide)) (M.g 6 (by decide)) hr2 C.g6 rfl (M.b 6 (by decide)) (pv 3)) pa_nil)))))))))
          (pss_cons (ps_set (i := 4) scL.nd rfl (Or.inl rfl) (pe_op op_cat (pv 4) (pe_lst (pa_cons (pe_xc (f := fld 7) PySem.F.excBase_ValueError (M.v 7 (by decide)) (M.g 7 (by decide)) hr2 C.g7 rfl (M.b 7 (by decide)) (pv 3)) (pa_cons (pe_xc (f := fld 8) PySem.F.excBase_ValueError (M.v 8 (by decide)) (M.g 8 (by decide)) hr2 C.g8 rfl (M.b 8 (by decide)) (pv 3)) (pa_cons (pe_xc (f := fld 9) PySem.F.excBase_ValueError (M.v 9 (by decide)) (M.g 9 (by decide)) hr2 C.g9 rfl (M.b 9 (by decide)) (pv 3)) (pa_cons (pe_xc (f := fld 10) PySem.F.excBase_ValueError (M.v 10 (by decide)) (M.g 10 (by decide)) hr2 C.g10 rfl (M.b 10 (by decide)) (pv 3)) (pa_cons (pe_xc (f := fld 11) PySem.F.excBase_ValueError (M.v 11 (by decide)) (M.g 11 (by decide)) hr2 C.g11 rfl (M.b 11 (by decide)) (pv 3)) (pa_cons (pe_xc (f := fld 12) PySem.F.excBase_ValueError (M.v 12 (by decide)) (M.g 12 (by decide)) hr2 C.g12 rfl (M.b 12 (by decide)) (pv 3)) (pa_cons (pe_xc (f := fld 13) PySem.F.excBase_LookupError M.l (M.g 13 (by decide)) hr2 C.g13 rfl (M.b 13 (by decide)) (pv 3)) pa_nil))))))))))
          (pss_cons (ps_expr (pe_bm PySem.F.plainAttrs_list PySem.F.slot_list_append PySem.F.type_list_append mt_append (pv 4) (pa_cons (pe_xc (f := fld 14) PySem.F.excBase_OverflowError M.o (M.g 14 (by decide)) hr2 C.g14 rfl (M.b 14 (by decide)) (pv 3)) pa_nil)))
          (pss_cons (ps_set (i := 5) scL.nd rfl (Or.inl rfl) (pe_lst (pa_cons (pe_xcK (f := fld 0) PySem.F.excBase_ValueError (M.v 0 (by decide)) (M.g 0 (by decide)) hr2 C.g0 rfl (M.bk 0 (by decide)) (pk_cons (pv 3) pk_nil)) (pa_cons (pe_xcK (f := fld 1) PySem.F.excBase_ValueError (M.v 1 (by decide)) (M.g 1 (by decide)) hr2 C.g1 rfl (M.bk 1 (by decide)) (pk_cons (pv 3) pk_nil)) (pa_cons (pe_xcK (f := fld 2) PySem.F.excBase_ValueError (M.v 2 (by decide)) (M.g 2 (by decide)) hr2 C.g2 rfl (M.bk 2 (by decide)) (pk_cons (pv 3) pk_nil)) (pa_cons (pe_xcK (f := fld 3) PySem.F.excBase_ValueError (M.v 3 (by decide)) (M.g 3 (by decide)) hr2 C.g3 rfl (M.bk 3 (by decide)) (pk_cons (pv 3) pk_nil)) (pa_cons (pe_xcK (f := fld 4) PySem.F.excBase_ValueError (M.v 4 (by decide)) (M.g 4 (by decide)) hr2 C.g4 rfl (M.bk 4 (by decide)) (pk_cons (pv 3) pk_nil)) pa_nil)))))))
          (pss_cons (ps_set (i := 5) scL.nd rfl (Or.inl rfl) (pe_op op_cat (pv 5) (pe_lst (pa_cons (pe_xcK (f := fld 5) PySem.F.excBase_ValueError (M.v 5 (by decide)) (M.g 5 (by decide)) hr2 C.g5 rfl (M.bk 5 (by decide)) (pk_cons (pv 3) pk_nil)) (pa_cons (pe_xcK (f := fld 6) PySem.F.excBase_ValueError (M.v 6 (by decide)) (M.g 6 (by decide)) hr2 C.g6 rfl (M.bk 6 (by decide)) (pk_cons (pv 3) pk_nil)) (pa_cons (pe_xcK (f := fld 7) PySem.F.excBase_ValueError (M.v 7 (by decide)) (M.g 7 (by decide)) hr2 C.g7 rfl (M.bk 7 (by decide)) (pk_cons (pv 3) pk_nil)) (pa_cons (pe_xcK (f := fld 8) PySem.F.excBase_ValueError (M.v 8 (by decide)) (M.g 8 (by decide)) hr2 C.g8 rfl (M.bk 8 (by decide)) (pk_cons (pv 3) pk_nil)) (pa_cons (pe_xcK (f := fld 9) PySem.F.excBase_ValueError (M.v 9 (by decide)) (M.g 9 (by decide)) hr2 C.g9 rfl (M.bk 9 (by decide)) (pk_cons (pv 3) pk_nil)) pa_nil))))))))
          (pss_cons (ps_set (i := 5) scL.nd rfl (Or.inl rfl) (pe_op op_cat (pv 5) (pe_lst (pa_cons (pe_xcK (f := fld 10) PySem.F.excBase_ValueError (M.v 10 (by decide)) (M.g 10 (by decide)) hr2 C.g10 rfl (M.bk 10 (by decide)) (pk_cons (pv 3) pk_nil)) (pa_cons (pe_xcK (f := fld 11) PySem.F.excBase_ValueError (M.v 11 (by decide)) (M.g 11 (by decide)) hr2 C.g11 rfl (M.bk 11 (by decide)) (pk_cons (pv 3) pk_nil)) (pa_cons (pe_xcK (f := fld 12) PySem.F.excBase_ValueError (M.v 12 (by decide)) (M.g 12 (by decide)) hr2 C.g12 rfl (M.bk 12 (by decide)) (pk_cons (pv 3) pk_nil)) (pa_cons (pe_xcK (f := fld 13) PySem.F.excBase_LookupError M.l (M.g 13 (by decide)) hr2 C.g13 rfl (M.bk 13 (by decide)) (pk_cons (pv 3) pk_nil)) (pa_cons (pe_xcK (f := fld 14) PySem.F.excBase_OverflowError M.o (M.g 14 (by decide)) hr2 C.g14 rfl (M.bk 14 (by decide)) (pk_cons (pv 3) pk_nil)) pa_nil))))))))
          (pss_one (ps_for PassesOwn.never rfl (pi_enum (by rfl) T.enum (pa_cons (pv 4) pa_nil)) (pg_tup rfl (pgs_cons (pg_name (i := 6) scL.nd rfl (Or.inr rfl)) (pgs_cons (pg_name (i := 7) scL.nd rfl (Or.inl rfl)) pgs_nil))) (pss_cons (ps_if (PW.pt (pw_or (pt_cmpR op_ne (pe_callB (call_repr0 gA hr.units) (by rfl) C.rep (by decide +kernel) (pa_cons (pe_call GF hr1 rfl T.fields FF.kp bF .nil pass0 (pa_cons (pv 7) pa_nil)) pa_nil)) (pe_callB (call_repr0 gA hr.units) (by rfl) C.rep (by decide +kernel) (pa_cons (pv 3) pa_nil)) (nomark _)) (pw_or1 (pt_cmpR op_ne (pe_callB (call_repr0 gA hr.units) (by rfl) C.rep (by decide +kernel) (pa_cons (pe_call GF hr1 rfl T.fields FF.kp bF .nil pass0 (pa_cons (pe_ix ix_list (pv 5) (pv 6) (fun _ _ => rfl)) pa_nil)) pa_nil)) (pe_callB (call_repr0 gA hr.units) (by rfl) C.rep (by decide +kernel) (pa_cons (pv 3) pa_nil)) (nomark _))))) (pss_one (ps_ret pe_bl)) pss_nil)
          (pss_cons (ps_if (PW.pt (pw_or (pt_cmpR (op_neD hr.units) (pe_call GK hr1 rfl T.kinds FK.kp bK .nil pass0 (pa_cons (pv 7) pa_nil)) (pe_lc (own := [("k", 10)]) (g := gName 10) (by rfl) scL.nd (pi_range1 (by rfl) T.range (pa_cons pe_int pa_nil)) (blkOk_by (own := [("k", 10)]) (N := NL) (sc := defScope sLaw) (by decide +kernel)) (fun _ _ _ _ _ => pg_name (i := 10) scL.nd rfl (Or.inl rfl)) (fun _ _ _ _ _ => pts_nil) (fun _ _ _ _ _ => pe_cmpR op_eq (pv 10) (pv 6) (nomark _))) (nomark _)) (pw_or1 (pt_cmpR (op_neD hr.units) (pe_call GK hr1 rfl T.kinds FK.kp bK .nil pass0 (pa_cons (pe_ix ix_list (pv 5) (pv 6) (fun _ _ => rfl)) pa_nil)) (pe_call GK hr1 rfl T.kinds FK.kp bK .nil pass0 (pa_cons (pv 7) pa_nil)) (nomark _))))) (pss_one (ps_ret pe_bl)) pss_nil)
          (pss_cons (ps_set (i := 8) scL.nd rfl (Or.inl rfl) (pe_lst (pa_cons (pe_cmpR op_lt (pv 6) pe_int (nomark _)) (pa_cons (pe_cmpR op_lt (pv 6) pe_int (nomark _)) (pa_cons (pe_cmpR op_eq (pv 6) pe_int (nomark _)) (pa_cons (pe_cmpR op_eq (pv 6) pe_int (nomark _)) (pa_cons pe_bl pa_nil)))))))
          (pss_cons (ps_set (i := 9) scL.nd rfl (Or.inl rfl) (pe_lst (pa_cons (pe_callB call_xis (by rfl) C.isi (by decide +kernel) (pa_cons (pv 7) (pa_cons (pe_glob (v := .ref S) rfl C.gS rfl) pa_nil))) (pa_cons (pe_callB call_xis (by rfl) C.isi (by decide +kernel) (pa_cons (pv 7) (pa_cons (pe_bltn (v := .ty "ValueError") (u := .type "ValueError") (by rfl) C.ve (by decide +kernel) rfl) pa_nil))) (pa_cons (pe_callB call_xis (by rfl) C.isi (by decide +kernel) (pa_cons (pv 7) (pa_cons (pe_bltn (v := .ty "LookupError") (u := .type "LookupError") (by rfl) C.le (by decide +kernel) rfl) pa_nil))) pa_nil)))))
          (pss_one (ps_if (pt_cmpR (op_neD hr.units) (pe_op op_cat (pv 9) (pe_lst (pa_cons (pe_callB call_xis (by rfl) C.isi (by decide +kernel) (pa_cons (pv 7) (pa_cons (pe_bltn (v := .ty "OverflowError") (u := .type "OverflowError") (by rfl) C.oe (by decide +kernel) rfl) pa_nil))) (pa_cons (pe_callB call_xisT (by rfl) C.isi (by decide +kernel) (pa_cons (pv 7) (pa_cons (pe_tup (pa_cons (pe_bltn (v := .ty "KeyError") (u := .type "KeyError") (by rfl) C.ke (by decide +kernel) rfl) (pa_cons (pe_bltn (v := .ty "IndexError") (u := .type "IndexError") (by rfl) C.ie (by decide +kernel) rfl) pa_nil))) pa_nil))) pa_nil)))) (pv 8) (nomark _)) (pss_one (ps_ret pe_bl)) pss_nil))))))))))))))))
      (pss_one (ps_ret pe_bl))), ?_⟩
  refine ⟨_, rfl, a, ns, rfl, hS, hlen, fun m l H1 hm hl s1 M1 => ?_⟩
  have lenM : (ns.map V.int).length = ns.length := List.length_map ..
  refine ⟨_, rfl, a, _, rfl, .inl (s1.seq hS), _, _, rfl, _, _, rfl, rfl, _, rfl, (by rw [lenM]; split <;> omega), (by rw [lenM]; split <;> omega), ?_⟩
  generalize hj : (2 + if (6 : Int) < ((ns.map V.int).length : Nat) then (6 : Int) else ((ns.map V.int).length : Nat)) = j
  have hj8 : j ≤ 8 := by rw [← hj]; split <;> omega
  refine for_range (lo := 0) (n := j.toNat) (fun i σ H2 => ∃ (v2 v3 v4 v5 v6 v7 v8 v9 v10 : Option V) (l n : Nat), σ = [some (.ref a), some (.ref m), v2, v3, v4, v5, v6, v7, v8, v9, v10] ∧ Mch H2 m l n ∧ n ≤ i)
    ⟨_, _, _, _, _, _, _, _, _, l, 0, rfl, M1, Nat.le_refl _⟩ ?_ ?_
  · rintro i σ H2 hi ⟨v2, v3, v4, v5, v6, v7, v8, v9, v10, l2, n, rfl, M2, hn⟩
    refine ⟨_, rfl, m, l2, n, rfl, M2, by omega, fun q d l' H3 dq gd M3 f3 => ?_⟩
    have S0 : Same H3 H3 := Same.refl H3
    refine ⟨_, rfl, fun as0 ds0 xs0 ys0 zs0 => ?_⟩
    obtain ⟨Gs0, gs0⟩ : ∃ G, G = laidX H3 as0 ds0 (c 0) (fld 0) q := ⟨_, rfl⟩
    have ss0 : Same H3 Gs0 := by rw [gs0]; exact laidX_same xs0 ys0
    have es0 : XE Gs0 as0 (c 0) (fld 0) q := by rw [gs0]; exact laidX_xe zs0
    rw [← gs0]
    clear gs0 xs0 ys0 zs0
    refine ⟨_, rfl, fun as1 ds1 xs1 ys1 zs1 => ?_⟩
    obtain ⟨Gs1, gs1⟩ : ∃ G, G = laidX Gs0 as1 ds1 (c 1) (fld 1) q := ⟨_, rfl⟩
    have ss1 : Same Gs0 Gs1 := by rw [gs1]; exact laidX_same xs1 ys1
    have es1 : XE Gs1 as1 (c 1) (fld 1) q := by rw [gs1]; exact laidX_xe zs1
    rw [← gs1]
    clear gs1 xs1 ys1 zs1
    refine ⟨_, rfl, fun as2 ds2 xs2 ys2 zs2 => ?_⟩
    obtain ⟨Gs2, gs2⟩ : ∃ G, G = laidX Gs1 as2 ds2 (c 2) (fld 2) q := ⟨_, rfl⟩
    have ss2 : Same Gs1 Gs2 := by rw [gs2]; exact laidX_same xs2 ys2
    have es2 : XE Gs2 as2 (c 2) (fld 2) q := by rw [gs2]; exact laidX_xe zs2
    rw [← gs2]
    clear gs2 xs2 ys2 zs2
    refine ⟨_, rfl, fun as3 ds3 xs3 ys3 zs3 => ?_⟩
    obtain ⟨Gs3, gs3⟩ : ∃ G, G = laidX Gs2 as3 ds3 (c 3) (fld 3) q := ⟨_, rfl⟩
    have ss3 : Same Gs2 Gs3 := by rw [gs3]; exact laidX_same xs3 ys3
    have es3 : XE Gs3 as3 (c 3) (fld 3) q := by rw [gs3]; exact laidX_xe zs3
    rw [← gs3]
    clear gs3 xs3 ys3 zs3
    refine ⟨_, rfl, fun as4 ds4 xs4 ys4 zs4 => ?_⟩
    obtain ⟨Gs4, gs4⟩ : ∃ G, G = laidX Gs3 as4 ds4 (c 4) (fld 4) q := ⟨_, rfl⟩
    have ss4 : Same Gs3 Gs4 := by rw [gs4]; exact laidX_same xs4 ys4
    have es4 : XE Gs4 as4 (c 4) (fld 4) q := by rw [gs4]; exact laidX_xe zs4
    rw [← gs4]
    clear gs4 xs4 ys4 zs4
    refine ⟨_, rfl, fun as5 ds5 xs5 ys5 zs5 => ?_⟩
    obtain ⟨Gs5, gs5⟩ : ∃ G, G = laidX Gs4 as5 ds5 (c 5) (fld 5) q := ⟨_, rfl⟩
    have ss5 : Same Gs4 Gs5 := by rw [gs5]; exact laidX_same xs5 ys5
    have es5 : XE Gs5 as5 (c 5) (fld 5) q := by rw [gs5]; exact laidX_xe zs5
    rw [← gs5]
    clear gs5 xs5 ys5 zs5
    refine ⟨_, rfl, fun as6 ds6 xs6 ys6 zs6 => ?_⟩
    obtain ⟨Gs6, gs6⟩ : ∃ G, G = laidX Gs5 as6 ds6 (c 6) (fld 6) q := ⟨_, rfl⟩
    have ss6 : Same Gs5 Gs6 := by rw [gs6]; exact laidX_same xs6 ys6
    have es6 : XE Gs6 as6 (c 6) (fld 6) q := by rw [gs6]; exact laidX_xe zs6
    rw [← gs6]
    clear gs6 xs6 ys6 zs6
    have YA : XS c Gs6 q [V.ref as0, V.ref as1, V.ref as2, V.ref as3, V.ref as4, V.ref as5, V.ref as6] [0, 1, 2, 3, 4, 5, 6] := .cons ⟨as0, rfl, es0.same (ss1.trans (ss2.trans (ss3.trans (ss4.trans (ss5.trans (ss6.trans (Same.refl _)))))))⟩ (.cons ⟨as1, rfl, es1.same (ss2.trans (ss3.trans (ss4.trans (ss5.trans (ss6.trans (Same.refl _))))))⟩ (.cons ⟨as2, rfl, es2.same (ss3.trans (ss4.trans (ss5.trans (ss6.trans (Same.refl _)))))⟩ (.cons ⟨as3, rfl, es3.same (ss4.trans (ss5.trans (ss6.trans (Same.refl _))))⟩ (.cons ⟨as4, rfl, es4.same (ss5.trans (ss6.trans (Same.refl _)))⟩ (.cons ⟨as5, rfl, es5.same (ss6.trans (Same.refl _))⟩ (.cons ⟨as6, rfl, es6.same (Same.refl _)⟩ (.nil)))))))
    have sA := ss0.trans (ss1.trans (ss2.trans (ss3.trans (ss4.trans (ss5.trans (ss6.trans (Same.refl _)))))))
    refine ⟨by show 7 ≤ sizeLine; decide, fun pA hA => ?_⟩
    have uA := Same.upd (o := .lst [V.ref as0, V.ref as1, V.ref as2, V.ref as3, V.ref as4, V.ref as5, V.ref as6]) hA
    obtain ⟨HA, eA⟩ : ∃ G, G = upd Gs6 pA (.lst [V.ref as0, V.ref as1, V.ref as2, V.ref as3, V.ref as4, V.ref as5, V.ref as6]) := ⟨_, rfl⟩
    have wA : HA pA = some (.lst [V.ref as0, V.ref as1, V.ref as2, V.ref as3, V.ref as4, V.ref as5, V.ref as6]) := by rw [eA]; exact upd_same
    rw [← eA] at uA
    rw [← eA]
    clear eA hA
    refine ⟨_, rfl, ?_⟩
    refine ⟨_, rfl, fun as7 ds7 xs7 ys7 zs7 => ?_⟩
    obtain ⟨Gs7, gs7⟩ : ∃ G, G = laidX HA as7 ds7 (c 7) (fld 7) q := ⟨_, rfl⟩
    have ss7 : Same HA Gs7 := by rw [gs7]; exact laidX_same xs7 ys7
    have es7 : XE Gs7 as7 (c 7) (fld 7) q := by rw [gs7]; exact laidX_xe zs7
    rw [← gs7]
    clear gs7 xs7 ys7 zs7
    refine ⟨_, rfl, fun as8 ds8 xs8 ys8 zs8 => ?_⟩
    obtain ⟨Gs8, gs8⟩ : ∃ G, G = laidX Gs7 as8 ds8 (c 8) (fld 8) q := ⟨_, rfl⟩
    have ss8 : Same Gs7 Gs8 := by rw [gs8]; exact laidX_same xs8 ys8
    have es8 : XE Gs8 as8 (c 8) (fld 8) q := by rw [gs8]; exact laidX_xe zs8
    rw [← gs8]
    clear gs8 xs8 ys8 zs8
    refine ⟨_, rfl, fun as9 ds9 xs9 ys9 zs9 => ?_⟩
    obtain ⟨Gs9, gs9⟩ : ∃ G, G = laidX Gs8 as9 ds9 (c 9) (fld 9) q := ⟨_, rfl⟩
    have ss9 : Same Gs8 Gs9 := by rw [gs9]; exact laidX_same xs9 ys9
    have es9 : XE Gs9 as9 (c 9) (fld 9) q := by rw [gs9]; exact laidX_xe zs9
    rw [← gs9]
    clear gs9 xs9 ys9 zs9
    refine ⟨_, rfl, fun as10 ds10 xs10 ys10 zs10 => ?_⟩
    obtain ⟨Gs10, gs10⟩ : ∃ G, G = laidX Gs9 as10 ds10 (c 10) (fld 10) q := ⟨_, rfl⟩
    have ss10 : Same Gs9 Gs10 := by rw [gs10]; exact laidX_same xs10 ys10
    have es10 : XE Gs10 as10 (c 10) (fld 10) q := by rw [gs10]; exact laidX_xe zs10
    rw [← gs10]
    clear gs10 xs10 ys10 zs10
    refine ⟨_, rfl, fun as11 ds11 xs11 ys11 zs11 => ?_⟩
    obtain ⟨Gs11, gs11⟩ : ∃ G, G = laidX Gs10 as11 ds11 (c 11) (fld 11) q := ⟨_, rfl⟩
    have ss11 : Same Gs10 Gs11 := by rw [gs11]; exact laidX_same xs11 ys11
    have es11 : XE Gs11 as11 (c 11) (fld 11) q := by rw [gs11]; exact laidX_xe zs11
    rw [← gs11]
    clear gs11 xs11 ys11 zs11
    refine ⟨_, rfl, fun as12 ds12 xs12 ys12 zs12 => ?_⟩
    obtain ⟨Gs12, gs12⟩ : ∃ G, G = laidX Gs11 as12 ds12 (c 12) (fld 12) q := ⟨_, rfl⟩
    have ss12 : Same Gs11 Gs12 := by rw [gs12]; exact laidX_same xs12 ys12
    have es12 : XE Gs12 as12 (c 12) (fld 12) q := by rw [gs12]; exact laidX_xe zs12
    rw [← gs12]
    clear gs12 xs12 ys12 zs12
    refine ⟨_, rfl, fun as13 ds13 xs13 ys13 zs13 => ?_⟩
    obtain ⟨Gs13, gs13⟩ : ∃ G, G = laidX Gs12 as13 ds13 (c 13) (fld 13) q := ⟨_, rfl⟩
    have ss13 : Same Gs12 Gs13 := by rw [gs13]; exact laidX_same xs13 ys13
    have es13 : XE Gs13 as13 (c 13) (fld 13) q := by rw [gs13]; exact laidX_xe zs13
    rw [← gs13]
    clear gs13 xs13 ys13 zs13
    have YB : XS c Gs13 q [V.ref as7, V.ref as8, V.ref as9, V.ref as10, V.ref as11, V.ref as12, V.ref as13] [7, 8, 9, 10, 11, 12, 13] := .cons ⟨as7, rfl, es7.same (ss8.trans (ss9.trans (ss10.trans (ss11.trans (ss12.trans (ss13.trans (Same.refl _)))))))⟩ (.cons ⟨as8, rfl, es8.same (ss9.trans (ss10.trans (ss11.trans (ss12.trans (ss13.trans (Same.refl _))))))⟩ (.cons ⟨as9, rfl, es9.same (ss10.trans (ss11.trans (ss12.trans (ss13.trans (Same.refl _)))))⟩ (.cons ⟨as10, rfl, es10.same (ss11.trans (ss12.trans (ss13.trans (Same.refl _))))⟩ (.cons ⟨as11, rfl, es11.same (ss12.trans (ss13.trans (Same.refl _)))⟩ (.cons ⟨as12, rfl, es12.same (ss13.trans (Same.refl _))⟩ (.cons ⟨as13, rfl, es13.same (Same.refl _)⟩ (.nil)))))))
    have sB := ss7.trans (ss8.trans (ss9.trans (ss10.trans (ss11.trans (ss12.trans (ss13.trans (Same.refl _)))))))
    refine ⟨by show 7 ≤ sizeLine; decide, fun pB hB => ?_⟩
    have uB := Same.upd (o := .lst [V.ref as7, V.ref as8, V.ref as9, V.ref as10, V.ref as11, V.ref as12, V.ref as13]) hB
    obtain ⟨HB, qB⟩ : ∃ G, G = upd Gs13 pB (.lst [V.ref as7, V.ref as8, V.ref as9, V.ref as10, V.ref as11, V.ref as12, V.ref as13]) := ⟨_, rfl⟩
    have wB : HB pB = some (.lst [V.ref as7, V.ref as8, V.ref as9, V.ref as10, V.ref as11, V.ref as12, V.ref as13]) := by rw [qB]; exact upd_same
    rw [← qB] at uB
    rw [← qB]
    clear qB hB
    have TB : Same H3 HB := sA.trans (uA.trans (sB.trans uB))
    refine ⟨pA, pB, _, _, rfl, rfl, (sB.trans uB) _ _ wA, wB, (by show 14 ≤ sizeLine; decide), fun pC hC => ?_⟩
    have uC := Same.upd (o := .lst ([V.ref as0, V.ref as1, V.ref as2, V.ref as3, V.ref as4, V.ref as5, V.ref as6] ++ [V.ref as7, V.ref as8, V.ref as9, V.ref as10, V.ref as11, V.ref as12, V.ref as13])) hC
    obtain ⟨HC, qC⟩ : ∃ G, G = upd HB pC (.lst ([V.ref as0, V.ref as1, V.ref as2, V.ref as3, V.ref as4, V.ref as5, V.ref as6] ++ [V.ref as7, V.ref as8, V.ref as9, V.ref as10, V.ref as11, V.ref as12, V.ref as13])) := ⟨_, rfl⟩
    have wC : HC pC = some (.lst ([V.ref as0, V.ref as1, V.ref as2, V.ref as3, V.ref as4, V.ref as5, V.ref as6] ++ [V.ref as7, V.ref as8, V.ref as9, V.ref as10, V.ref as11, V.ref as12, V.ref as13])) := by rw [qC]; exact upd_same
    rw [← qC] at uC
    rw [← qC]
    clear qC
    have nC : H3 pC = none := TB.free hC
    clear hC
    have XC1 : XS c HC q ([V.ref as0, V.ref as1, V.ref as2, V.ref as3, V.ref as4, V.ref as5, V.ref as6] ++ [V.ref as7, V.ref as8, V.ref as9, V.ref as10, V.ref as11, V.ref as12, V.ref as13]) [0, 1, 2, 3, 4, 5, 6, 7, 8, 9, 10, 11, 12, 13] := (YA.same (uA.trans (sB.trans (uB.trans uC)))).app (YB.same (uB.trans uC))
    have TC := TB.trans uC
    refine ⟨_, rfl, .inl ⟨rfl, _, SqL.of wC⟩, ?_⟩
    refine ⟨_, rfl, fun as14 ds14 xs14 ys14 zs14 => ?_⟩
    obtain ⟨Gs14, gs14⟩ : ∃ G, G = laidX HC as14 ds14 (c 14) (fld 14) q := ⟨_, rfl⟩
    have ss14 : Same HC Gs14 := by rw [gs14]; exact laidX_same xs14 ys14
    have es14 : XE Gs14 as14 (c 14) (fld 14) q := by rw [gs14]; exact laidX_xe zs14
    rw [← gs14]
    clear gs14 xs14 ys14 zs14
    refine ⟨pC, _, _, rfl, rfl, ss14 _ _ wC, (by show 14 < sizeLine; decide), ?_⟩
    have XD : XS c (upd Gs14 pC (.lst (([V.ref as0, V.ref as1, V.ref as2, V.ref as3, V.ref as4, V.ref as5, V.ref as6] ++ [V.ref as7, V.ref as8, V.ref as9, V.ref as10, V.ref as11, V.ref as12, V.ref as13]) ++ [V.ref as14]))) q (([V.ref as0, V.ref as1, V.ref as2, V.ref as3, V.ref as4, V.ref as5, V.ref as6] ++ [V.ref as7, V.ref as8, V.ref as9, V.ref as10, V.ref as11, V.ref as12, V.ref as13]) ++ [V.ref as14]) [0, 1, 2, 3, 4, 5, 6, 7, 8, 9, 10, 11, 12, 13, 14] := XS.over (ss14 _ _ wC) ((XC1.same ss14).app (.cons ⟨as14, rfl, es14⟩ .nil))
    have TD : Same H3 (upd Gs14 pC (.lst (([V.ref as0, V.ref as1, V.ref as2, V.ref as3, V.ref as4, V.ref as5, V.ref as6] ++ [V.ref as7, V.ref as8, V.ref as9, V.ref as10, V.ref as11, V.ref as12, V.ref as13]) ++ [V.ref as14]))) := Same.over (TC.trans ss14) nC
    obtain ⟨HD, qD⟩ : ∃ G, G = upd Gs14 pC (.lst (([V.ref as0, V.ref as1, V.ref as2, V.ref as3, V.ref as4, V.ref as5, V.ref as6] ++ [V.ref as7, V.ref as8, V.ref as9, V.ref as10, V.ref as11, V.ref as12, V.ref as13]) ++ [V.ref as14])) := ⟨_, rfl⟩
    have wD : HD pC = some (.lst (([V.ref as0, V.ref as1, V.ref as2, V.ref as3, V.ref as4, V.ref as5, V.ref as6] ++ [V.ref as7, V.ref as8, V.ref as9, V.ref as10, V.ref as11, V.ref as12, V.ref as13]) ++ [V.ref as14])) := by rw [qD]; exact upd_same
    rw [← qD] at XD TD
    rw [← qD]
    clear qD
    refine ⟨_, rfl, _, rfl, fun af0 df0 xf0 yf0 zf0 => ?_⟩
    obtain ⟨Gf0, gf0⟩ : ∃ G, G = laidX HD af0 df0 (c 0) (fld 0) q := ⟨_, rfl⟩
    have sf0 : Same HD Gf0 := by rw [gf0]; exact laidX_same xf0 yf0
    have ef0 : XE Gf0 af0 (c 0) (fld 0) q := by rw [gf0]; exact laidX_xe zf0
    rw [← gf0]
    clear gf0 xf0 yf0 zf0
    refine ⟨_, rfl, _, rfl, fun af1 df1 xf1 yf1 zf1 => ?_⟩
    obtain ⟨Gf1, gf1⟩ : ∃ G, G = laidX Gf0 af1 df1 (c 1) (fld 1) q := ⟨_, rfl⟩
    have sf1 : Same Gf0 Gf1 := by rw [gf1]; exact laidX_same xf1 yf1
    have ef1 : XE Gf1 af1 (c 1) (fld 1) q := by rw [gf1]; exact laidX_xe zf1
    rw [← gf1]
    clear gf1 xf1 yf1 zf1
    refine ⟨_, rfl, _, rfl, fun af2 df2 xf2 yf2 zf2 => ?_⟩
    obtain ⟨Gf2, gf2⟩ : ∃ G, G = laidX Gf1 af2 df2 (c 2) (fld 2) q := ⟨_, rfl⟩
    have sf2 : Same Gf1 Gf2 := by rw [gf2]; exact laidX_same xf2 yf2
    have ef2 : XE Gf2 af2 (c 2) (fld 2) q := by rw [gf2]; exact laidX_xe zf2
    rw [← gf2]
    clear gf2 xf2 yf2 zf2
    refine ⟨_, rfl, _, rfl, fun af3 df3 xf3 yf3 zf3 => ?_⟩
    obtain ⟨Gf3, gf3⟩ : ∃ G, G = laidX Gf2 af3 df3 (c 3) (fld 3) q := ⟨_, rfl⟩
    have sf3 : Same Gf2 Gf3 := by rw [gf3]; exact laidX_same xf3 yf3
    have ef3 : XE Gf3 af3 (c 3) (fld 3) q := by rw [gf3]; exact laidX_xe zf3
    rw [← gf3]
    clear gf3 xf3 yf3 zf3
    refine ⟨_, rfl, _, rfl, fun af4 df4 xf4 yf4 zf4 => ?_⟩
    obtain ⟨Gf4, gf4⟩ : ∃ G, G = laidX Gf3 af4 df4 (c 4) (fld 4) q := ⟨_, rfl⟩
    have sf4 : Same Gf3 Gf4 := by rw [gf4]; exact laidX_same xf4 yf4
    have ef4 : XE Gf4 af4 (c 4) (fld 4) q := by rw [gf4]; exact laidX_xe zf4
    rw [← gf4]
    clear gf4 xf4 yf4 zf4
    have YE : XS c Gf4 q [V.ref af0, V.ref af1, V.ref af2, V.ref af3, V.ref af4] [0, 1, 2, 3, 4] := .cons ⟨af0, rfl, ef0.same (sf1.trans (sf2.trans (sf3.trans (sf4.trans (Same.refl _)))))⟩ (.cons ⟨af1, rfl, ef1.same (sf2.trans (sf3.trans (sf4.trans (Same.refl _))))⟩ (.cons ⟨af2, rfl, ef2.same (sf3.trans (sf4.trans (Same.refl _)))⟩ (.cons ⟨af3, rfl, ef3.same (sf4.trans (Same.refl _))⟩ (.cons ⟨af4, rfl, ef4.same (Same.refl _)⟩ (.nil)))))
    have sE := sf0.trans (sf1.trans (sf2.trans (sf3.trans (sf4.trans (Same.refl _)))))
    refine ⟨by show 5 ≤ sizeLine; decide, fun pE hE => ?_⟩
    have uE := Same.upd (o := .lst [V.ref af0, V.ref af1, V.ref af2, V.ref af3, V.ref af4]) hE
    obtain ⟨HE, qE⟩ : ∃ G, G = upd Gf4 pE (.lst [V.ref af0, V.ref af1, V.ref af2, V.ref af3, V.ref af4]) := ⟨_, rfl⟩
    have wE : HE pE = some (.lst [V.ref af0, V.ref af1, V.ref af2, V.ref af3, V.ref af4]) := by rw [qE]; exact upd_same
    rw [← qE] at uE
    rw [← qE]
    clear qE hE
    refine ⟨_, rfl, ?_⟩
    refine ⟨_, rfl, _, rfl, fun af5 df5 xf5 yf5 zf5 => ?_⟩
    obtain ⟨Gf5, gf5⟩ : ∃ G, G = laidX HE af5 df5 (c 5) (fld 5) q := ⟨_, rfl⟩
    have sf5 : Same HE Gf5 := by rw [gf5]; exact laidX_same xf5 yf5
    have ef5 : XE Gf5 af5 (c 5) (fld 5) q := by rw [gf5]; exact laidX_xe zf5
    rw [← gf5]
    clear gf5 xf5 yf5 zf5
    refine ⟨_, rfl, _, rfl, fun af6 df6 xf6 yf6 zf6 => ?_⟩
    obtain ⟨Gf6, gf6⟩ : ∃ G, G = laidX Gf5 af6 df6 (c 6) (fld 6) q := ⟨_, rfl⟩
    have sf6 : Same Gf5 Gf6 := by rw [gf6]; exact laidX_same xf6 yf6
    have ef6 : XE Gf6 af6 (c 6) (fld 6) q := by rw [gf6]; exact laidX_xe zf6
    rw [← gf6]
    clear gf6 xf6 yf6 zf6
    refine ⟨_, rfl, _, rfl, fun af7 df7 xf7 yf7 zf7 => ?_⟩
    obtain ⟨Gf7, gf7⟩ : ∃ G, G = laidX Gf6 af7 df7 (c 7) (fld 7) q := ⟨_, rfl⟩
    have sf7 : Same Gf6 Gf7 := by rw [gf7]; exact laidX_same xf7 yf7
    have ef7 : XE Gf7 af7 (c 7) (fld 7) q := by rw [gf7]; exact laidX_xe zf7
    rw [← gf7]
    clear gf7 xf7 yf7 zf7
    refine ⟨_, rfl, _, rfl, fun af8 df8 xf8 yf8 zf8 => ?_⟩
    obtain ⟨Gf8, gf8⟩ : ∃ G, G = laidX Gf7 af8 df8 (c 8) (fld 8) q := ⟨_, rfl⟩
    have sf8 : Same Gf7 Gf8 := by rw [gf8]; exact laidX_same xf8 yf8
    have ef8 : XE Gf8 af8 (c 8) (fld 8) q := by rw [gf8]; exact laidX_xe zf8
    rw [← gf8]
    clear gf8 xf8 yf8 zf8
    refine ⟨_, rfl, _, rfl, fun af9 df9 xf9 yf9 zf9 => ?_⟩
    obtain ⟨Gf9, gf9⟩ : ∃ G, G = laidX Gf8 af9 df9 (c 9) (fld 9) q := ⟨_, rfl⟩
    have sf9 : Same Gf8 Gf9 := by rw [gf9]; exact laidX_same xf9 yf9
    have ef9 : XE Gf9 af9 (c 9) (fld 9) q := by rw [gf9]; exact laidX_xe zf9
    rw [← gf9]
    clear gf9 xf9 yf9 zf9
    have YF : XS c Gf9 q [V.ref af5, V.ref af6, V.ref af7, V.ref af8, V.ref af9] [5, 6, 7, 8, 9] := .cons ⟨af5, rfl, ef5.same (sf6.trans (sf7.trans (sf8.trans (sf9.trans (Same.refl _)))))⟩ (.cons ⟨af6, rfl, ef6.same (sf7.trans (sf8.trans (sf9.trans (Same.refl _))))⟩ (.cons ⟨af7, rfl, ef7.same (sf8.trans (sf9.trans (Same.refl _)))⟩ (.cons ⟨af8, rfl, ef8.same (sf9.trans (Same.refl _))⟩ (.cons ⟨af9, rfl, ef9.same (Same.refl _)⟩ (.nil)))))
    have sF := sf5.trans (sf6.trans (sf7.trans (sf8.trans (sf9.trans (Same.refl _)))))
    refine ⟨by show 5 ≤ sizeLine; decide, fun pF hF => ?_⟩
    have uF := Same.upd (o := .lst [V.ref af5, V.ref af6, V.ref af7, V.ref af8, V.ref af9]) hF
    obtain ⟨HF, qF⟩ : ∃ G, G = upd Gf9 pF (.lst [V.ref af5, V.ref af6, V.ref af7, V.ref af8, V.ref af9]) := ⟨_, rfl⟩
    have wF : HF pF = some (.lst [V.ref af5, V.ref af6, V.ref af7, V.ref af8, V.ref af9]) := by rw [qF]; exact upd_same
    rw [← qF] at uF
    rw [← qF]
    clear qF hF
    refine ⟨pE, pF, _, _, rfl, rfl, (sF.trans uF) _ _ wE, wF, (by show 10 ≤ sizeLine; decide), fun pG hG => ?_⟩
    have uG := Same.upd (o := .lst ([V.ref af0, V.ref af1, V.ref af2, V.ref af3, V.ref af4] ++ [V.ref af5, V.ref af6, V.ref af7, V.ref af8, V.ref af9])) hG
    obtain ⟨HG, qG⟩ : ∃ G, G = upd HF pG (.lst ([V.ref af0, V.ref af1, V.ref af2, V.ref af3, V.ref af4] ++ [V.ref af5, V.ref af6, V.ref af7, V.ref af8, V.ref af9])) := ⟨_, rfl⟩
    have wG : HG pG = some (.lst ([V.ref af0, V.ref af1, V.ref af2, V.ref af3, V.ref af4] ++ [V.ref af5, V.ref af6, V.ref af7, V.ref af8, V.ref af9])) := by rw [qG]; exact upd_same
    rw [← qG] at uG
    rw [← qG]
    clear qG
    clear hG
    refine ⟨_, rfl, ?_⟩
    refine ⟨_, rfl, _, rfl, fun af10 df10 xf10 yf10 zf10 => ?_⟩
    obtain ⟨Gf10, gf10⟩ : ∃ G, G = laidX HG af10 df10 (c 10) (fld 10) q := ⟨_, rfl⟩
    have sf10 : Same HG Gf10 := by rw [gf10]; exact laidX_same xf10 yf10
    have ef10 : XE Gf10 af10 (c 10) (fld 10) q := by rw [gf10]; exact laidX_xe zf10
    rw [← gf10]
    clear gf10 xf10 yf10 zf10
    refine ⟨_, rfl, _, rfl, fun af11 df11 xf11 yf11 zf11 => ?_⟩
    obtain ⟨Gf11, gf11⟩ : ∃ G, G = laidX Gf10 af11 df11 (c 11) (fld 11) q := ⟨_, rfl⟩
    have sf11 : Same Gf10 Gf11 := by rw [gf11]; exact laidX_same xf11 yf11
    have ef11 : XE Gf11 af11 (c 11) (fld 11) q := by rw [gf11]; exact laidX_xe zf11
    rw [← gf11]
    clear gf11 xf11 yf11 zf11
    refine ⟨_, rfl, _, rfl, fun af12 df12 xf12 yf12 zf12 => ?_⟩
    obtain ⟨Gf12, gf12⟩ : ∃ G, G = laidX Gf11 af12 df12 (c 12) (fld 12) q := ⟨_, rfl⟩
    have sf12 : Same Gf11 Gf12 := by rw [gf12]; exact laidX_same xf12 yf12
    have ef12 : XE Gf12 af12 (c 12) (fld 12) q := by rw [gf12]; exact laidX_xe zf12
    rw [← gf12]
    clear gf12 xf12 yf12 zf12
    refine ⟨_, rfl, _, rfl, fun af13 df13 xf13 yf13 zf13 => ?_⟩
    obtain ⟨Gf13, gf13⟩ : ∃ G, G = laidX Gf12 af13 df13 (c 13) (fld 13) q := ⟨_, rfl⟩
    have sf13 : Same Gf12 Gf13 := by rw [gf13]; exact laidX_same xf13 yf13
    have ef13 : XE Gf13 af13 (c 13) (fld 13) q := by rw [gf13]; exact laidX_xe zf13
    rw [← gf13]
    clear gf13 xf13 yf13 zf13
    refine ⟨_, rfl, _, rfl, fun af14 df14 xf14 yf14 zf14 => ?_⟩
    obtain ⟨Gf14, gf14⟩ : ∃ G, G = laidX Gf13 af14 df14 (c 14) (fld 14) q := ⟨_, rfl⟩
    have sf14 : Same Gf13 Gf14 := by rw [gf14]; exact laidX_same xf14 yf14
    have ef14 : XE Gf14 af14 (c 14) (fld 14) q := by rw [gf14]; exact laidX_xe zf14
    rw [← gf14]
    clear gf14 xf14 yf14 zf14
    have YI : XS c Gf14 q [V.ref af10, V.ref af11, V.ref af12, V.ref af13, V.ref af14] [10, 11, 12, 13, 14] := .cons ⟨af10, rfl, ef10.same (sf11.trans (sf12.trans (sf13.trans (sf14.trans (Same.refl _)))))⟩ (.cons ⟨af11, rfl, ef11.same (sf12.trans (sf13.trans (sf14.trans (Same.refl _))))⟩ (.cons ⟨af12, rfl, ef12.same (sf13.trans (sf14.trans (Same.refl _)))⟩ (.cons ⟨af13, rfl, ef13.same (sf14.trans (Same.refl _))⟩ (.cons ⟨af14, rfl, ef14.same (Same.refl _)⟩ (.nil)))))
    have sI := sf10.trans (sf11.trans (sf12.trans (sf13.trans (sf14.trans (Same.refl _)))))
    refine ⟨by show 5 ≤ sizeLine; decide, fun pI hI => ?_⟩
    have uI := Same.upd (o := .lst [V.ref af10, V.ref af11, V.ref af12, V.ref af13, V.ref af14]) hI
    obtain ⟨HI, qI⟩ : ∃ G, G = upd Gf14 pI (.lst [V.ref af10, V.ref af11, V.ref af12, V.ref af13, V.ref af14]) := ⟨_, rfl⟩
    have wI : HI pI = some (.lst [V.ref af10, V.ref af11, V.ref af12, V.ref af13, V.ref af14]) := by rw [qI]; exact upd_same
    rw [← qI] at uI
    rw [← qI]
    clear qI hI
    refine ⟨pG, pI, _, _, rfl, rfl, (sI.trans uI) _ _ wG, wI, (by show 15 ≤ sizeLine; decide), fun pJ hJ => ?_⟩
    have uJ := Same.upd (o := .lst (([V.ref af0, V.ref af1, V.ref af2, V.ref af3, V.ref af4] ++ [V.ref af5, V.ref af6, V.ref af7, V.ref af8, V.ref af9]) ++ [V.ref af10, V.ref af11, V.ref af12, V.ref af13, V.ref af14])) hJ
    obtain ⟨HJ, qJ⟩ : ∃ G, G = upd HI pJ (.lst (([V.ref af0, V.ref af1, V.ref af2, V.ref af3, V.ref af4] ++ [V.ref af5, V.ref af6, V.ref af7, V.ref af8, V.ref af9]) ++ [V.ref af10, V.ref af11, V.ref af12, V.ref af13, V.ref af14])) := ⟨_, rfl⟩
    have wJ : HJ pJ = some (.lst (([V.ref af0, V.ref af1, V.ref af2, V.ref af3, V.ref af4] ++ [V.ref af5, V.ref af6, V.ref af7, V.ref af8, V.ref af9]) ++ [V.ref af10, V.ref af11, V.ref af12, V.ref af13, V.ref af14])) := by rw [qJ]; exact upd_same
    rw [← qJ] at uJ
    rw [← qJ]
    clear qJ
    clear hJ
    have DJ : Same HD HJ := sE.trans (uE.trans (sF.trans (uF.trans (uG.trans (sI.trans (uI.trans uJ))))))
    have XZ : XS c HJ q (([V.ref af0, V.ref af1, V.ref af2, V.ref af3, V.ref af4] ++ [V.ref af5, V.ref af6, V.ref af7, V.ref af8, V.ref af9]) ++ [V.ref af10, V.ref af11, V.ref af12, V.ref af13, V.ref af14]) [0, 1, 2, 3, 4, 5, 6, 7, 8, 9, 10, 11, 12, 13, 14] := ((YE.same (uE.trans (sF.trans (uF.trans (uG.trans (sI.trans (uI.trans uJ))))))).app (YF.same (uF.trans (uG.trans (sI.trans (uI.trans uJ)))))).app (YI.same (uI.trans uJ))
    have XY := XD.same DJ
    have wY := DJ _ _ wD
    have TJ := TD.trans DJ
    generalize (([V.ref as0, V.ref as1, V.ref as2, V.ref as3, V.ref as4, V.ref as5, V.ref as6] ++ [V.ref as7, V.ref as8, V.ref as9, V.ref as10, V.ref as11, V.ref as12, V.ref as13]) ++ [V.ref as14]) = xs at XY wY
    generalize (([V.ref af0, V.ref af1, V.ref af2, V.ref af3, V.ref af4] ++ [V.ref af5, V.ref af6, V.ref af7, V.ref af8, V.ref af9]) ++ [V.ref af10, V.ref af11, V.ref af12, V.ref af13, V.ref af14]) = zs at XZ wJ
    have MJ := M3.same TJ
    have dJ := Dq.step (M3.kept TJ) d q dq
    clear ss0 es0 ss1 es1 ss2 es2 ss3 es3 ss4 es4 ss5 es5 ss6 es6 ss7 es7 ss8 es8 ss9 es9 ss10 es10 ss11 es11 ss12 es12 ss13 es13 ss14 es14 sf0 ef0 sf1 ef1 sf2 ef2 sf3 ef3 sf4 ef4 sf5 ef5 sf6 ef6 sf7 ef7 sf8 ef8 sf9 ef9 sf10 ef10 sf11 ef11 sf12 ef12 sf13 ef13 sf14 ef14
    refine ⟨_, rfl, pC, xs, rfl, SqL.of wY, ?_⟩
    have r15 : ∀ jj, jj < 15 → ([0, 1, 2, 3, 4, 5, 6, 7, 8, 9, 10, 11, 12, 13, 14] : List Nat)[jj]? = some jj := by decide
    have lx := XY.len
    refine for_enumL (K := K) (a := pC) (xs := xs) (fun jj σ H4 => (∃ v6 v7 v8 v9 v10 : Option V, σ = [some (.ref a), some (.ref m), some (.int (0 + (i : Int))), some q, some (.ref pC), some (.ref pJ), v6, v7, v8, v9, v10]) ∧ Same HJ H4)
      ⟨⟨_, _, _, _, _, rfl⟩, Same.refl _⟩ (fun jj σ H4 _ h => h.2.seq (SqL.of wY)) ?_ ?_
    · rintro jj x σ H4 T hx ⟨⟨v6, v7, v8, v9, v10, rfl⟩, s4⟩ hT
      have j15 : jj < 15 := by
        have z := (List.getElem?_eq_some_iff.mp hx).1
        rw [lx] at z
        exact z
      obtain ⟨aj, ea, xe⟩ := XY.get (r15 jj j15)
      obtain ⟨bj, eb, xb⟩ := XZ.get (r15 jj j15)
      rw [ea] at hx
      cases hx
      have uT := s4.trans (Same.upd (o := .tup [.int (jj : Nat), .ref aj]) hT)
      refine ⟨T, _, rfl, .inl (.inl upd_same), rfl, _, _, rfl, _, _, rfl, rfl, ?_⟩
      refine ⟨_, rfl, aj, jj, q, rfl, j15, xe.same uT, fun H6 s6 => ?_⟩
      have u6 := uT.trans s6
      refine ⟨q, d, m, l', rfl, Dq.step (MJ.kept u6) d q dJ, gd.pl, gd.sh, gd.dp, gd.ln, _, rfl, q, d, m, l', rfl, Dq.step (MJ.kept u6) d q dJ, gd.pl, gd.sh, gd.dp, gd.ln, rfl, _, rfl, ?_⟩
      refine ifF (by simp) ?_
      refine ⟨_, rfl, _, rfl, pJ, zs, (jj : Int), .ref bj, rfl, rfl, SqL.of (u6 _ _ wJ), atI_nat eb, bj, jj, q, rfl, j15, xb.same u6, fun H7 s7 => ?_⟩
      have u7 := u6.trans s7
      refine ⟨q, d, m, l', rfl, Dq.step (MJ.kept u7) d q dJ, gd.pl, gd.sh, gd.dp, gd.ln, _, rfl, q, d, m, l', rfl, Dq.step (MJ.kept u7) d q dJ, gd.pl, gd.sh, gd.dp, gd.ln, rfl, _, rfl, ?_⟩
      refine ifF (by simp) ?_
      refine ⟨_, rfl, aj, jj, q, rfl, j15, xe.same u7, fun pK H8 s8 n8 w8 => ?_⟩
      have u8 := u7.trans s8
      refine ⟨15, rfl, by decide, by decide, fun D hD => ?_⟩
      refine lc_range (lo := 0) (n := 15) (fun i2 H9 => H9 = upd H8 D (.lst ((List.range i2).map fun (k : Nat) => V.bl (decide (V.int (0 + (k : Int)) = V.int (jj : Int)))))) rfl ?_ ?_
      · intro i2 H9 hi2 e9
        refine ⟨rfl, tyes ?_⟩
        refine ⟨_, rfl, _, rfl, rfl, _, by rw [e9]; exact upd_same, small1000 (by rw [List.length_map, List.length_range]; omega), ?_⟩
        rw [e9, upd_upd, List.range_succ, List.map_append]
        rfl
      · intro H9 e9
        have w9 : H9 D = some (.lst (((List.range 15).map fun k => decide (k = jj)).map V.bl)) := by
          rw [e9, upd_same, List.map_map]
          exact congrArg (fun l => some (HO.lst l)) (List.map_congr_left fun k _ => congrArg V.bl (eq_ints k jj))
        have u9 : Same H8 H9 := by rw [e9]; exact Same.upd hD
        have v8 := u9 _ _ w8
        rw [kb_bools] at v8
        refine ne_bools v8 w9 ?_
        refine ⟨_, rfl, ?_⟩
        refine ifF rfl ?_
        have t9 := u8.trans u9
        refine ⟨_, rfl, _, rfl, pJ, zs, (jj : Int), .ref bj, rfl, rfl, SqL.of (t9 _ _ wJ), atI_nat eb, bj, jj, q, rfl, j15, xb.same t9, fun pL HA1 sA1 nA1 wA1 => ?_⟩
        have tA1 := t9.trans sA1
        refine ⟨_, rfl, aj, jj, q, rfl, j15, xe.same tA1, fun pM HA2 sA2 nA2 wA2 => ?_⟩
        have tA2 := tA1.trans sA2
        have vA1 := sA2 _ _ wA1
        rw [kb_bools] at vA1 wA2
        refine ne_bools vA1 wA2 ?_
        refine ⟨_, rfl, ?_⟩
        refine ifF rfl ?_
        refine ⟨_, rfl, _, _, rfl, rfl, _, rfl, _, _, rfl, rfl, _, rfl, rfl, _, rfl, rfl, (by show 5 ≤ sizeLine; decide), fun pU hU => ?_⟩
        have uU := Same.upd (o := .lst [.bl (decide ((jj : Int) < 13)), .bl (decide ((jj : Int) < 13)), .bl (decide (V.int (jj : Int) = V.int 13)), .bl (decide (V.int (jj : Int) = V.int 14)), .bl false]) hU
        have eU : ([.bl (decide ((jj : Int) < 13)), .bl (decide ((jj : Int) < 13)), .bl (decide (V.int (jj : Int) = V.int 13)), .bl (decide (V.int (jj : Int) = V.int 14)), .bl false] : List V) = [decide (jj < 13), decide (jj < 13), decide (jj = 13), decide (jj = 14), false].map V.bl := by
          have e1 : decide ((jj : Int) < 13) = decide (jj < 13) := decide_eq_decide.mpr (by omega)
          have e2 : decide (V.int (jj : Int) = V.int 13) = decide (jj = 13) := decide_eq_decide.mpr ⟨fun h => by have z := V.int.inj h; omega, fun h => by rw [h]; rfl⟩
          have e3 : decide (V.int (jj : Int) = V.int 14) = decide (jj = 14) := decide_eq_decide.mpr ⟨fun h => by have z := V.int.inj h; omega, fun h => by rw [h]; rfl⟩
          rw [e1, e2, e3]
          rfl
        have tU := tA2.trans uU
        refine ⟨_, rfl, aj, c jj, fld jj, q, .ref S, _, _, rfl, .own _, C.is jj j15, xe.same tU, C.kS jj j15, _, rfl, aj, c jj, fld jj, q, .ty "ValueError", _, _, rfl, .ty _, C.is jj j15, xe.same tU, C.kV jj j15,
          _, rfl, aj, c jj, fld jj, q, .ty "LookupError", _, _, rfl, .ty _, C.is jj j15, xe.same tU, C.kL jj j15, (by show 3 ≤ sizeLine; decide), fun pW hW => ?_⟩
        have uW := Same.upd (o := .lst [.bl (decide (jj < 13)), .bl (decide (jj < 13)), .bl (decide (jj = 13))]) hW
        have tW := tU.trans uW
        refine ⟨_, rfl, _, rfl, aj, c jj, fld jj, q, .ty "OverflowError", _, _, rfl, .ty _, C.is jj j15, xe.same tW, C.kO jj j15, _, rfl, (by show 2 ≤ sizeLine; decide), fun pt ht => ?_⟩
        have ut := Same.upd (o := .tup [.ty "KeyError", .ty "IndexError"]) ht
        have tt := tW.trans ut
        refine ⟨aj, c jj, pt, fld jj, q, _, _, false, rfl, upd_same, .cons (.ty _) (.cons (.ty _) .nil), C.is jj j15, xe.same tt, C.kI jj j15, (by show 2 ≤ sizeLine; decide), fun pX hX => ?_⟩
        have uX := Same.upd (o := .lst [.bl (decide (jj = 14)), .bl false]) hX
        refine ⟨pW, pX, _, _, rfl, rfl, uX _ _ (ut _ _ upd_same), upd_same, (by show 5 ≤ sizeLine; decide), fun pY hY => ?_⟩
        have uY := Same.upd (o := .lst ([.bl (decide (jj < 13)), .bl (decide (jj < 13)), .bl (decide (jj = 13))] ++ [.bl (decide (jj = 14)), .bl false])) hY
        refine ⟨_, rfl, ?_⟩
        refine ne_bools (bs := [decide (jj < 13), decide (jj < 13), decide (jj = 13), decide (jj = 14), false]) upd_same (by rw [← eU]; exact uY _ _ (uX _ _ (ut _ _ (uW _ _ upd_same)))) ?_
        refine ⟨_, rfl, ?_⟩
        refine ifF rfl ?_
        exact ⟨⟨_, _, _, _, _, rfl⟩, tt.trans (uX.trans uY)⟩
    · rintro σ H4 ⟨⟨v6, v7, v8, v9, v10, rfl⟩, s4⟩
      exact ⟨_, _, _, _, _, _, _, _, _, l', n + 1, rfl, MJ.same s4, by omega⟩
  · rintro σ H2 ⟨v2, v3, v4, v5, v6, v7, v8, v9, v10, l2, n, rfl, M2, hn⟩
    rfl
end
end Ms
namespace Ms
open PySem PySem.Spec PyProof.Rows L2

/-! ### the end: what the top has written -/
def kkAll (K : PySem.W.Frag) (cs : List Addr) : Bool := (List.range 15).all fun i => (List.range 15).all fun k => PySem.W.kitOne K (.ref (cs.getD i 0)) (.ref (cs.getD k 0)) == some (decide (k = i))
def kcAll (K : PySem.W.Frag) (cs : List Addr) (v : Value) (p : Nat → Bool) : Bool := (List.range 15).all fun i => PySem.W.kitOne K (.ref (cs.getD i 0)) v == some (p i)
def kaAll (K : PySem.W.Frag) (cs : List Addr) (vs : List Value) : Bool := (List.range 15).all fun i => PySem.W.kitAny K (.ref (cs.getD i 0)) vs == some false
theorem kkAll_at {K : PySem.W.Frag} {cs : List Addr} (h : kkAll K cs = true) : ∀ i k, i < 15 → k < 15 → PySem.W.kitOne K (.ref (cs.getD i 0)) (.ref (cs.getD k 0)) = some (decide (k = i)) := fun i k hi hk =>
  beq_iff_eq.mp (List.all_eq_true.mp (List.all_eq_true.mp h i (List.mem_range.mpr hi)) k (List.mem_range.mpr hk))
theorem kcAll_at {K : PySem.W.Frag} {cs : List Addr} {v : Value} {p : Nat → Bool} (h : kcAll K cs v p = true) : ∀ i, i < 15 → PySem.W.kitOne K (.ref (cs.getD i 0)) v = some (p i) := fun i hi =>
  beq_iff_eq.mp (List.all_eq_true.mp h i (List.mem_range.mpr hi))
theorem kaAll_at {K : PySem.W.Frag} {cs : List Addr} {vs : List Value} (h : kaAll K cs vs = true) : ∀ i, i < 15 → PySem.W.kitAny K (.ref (cs.getD i 0)) vs = some false := fun i hi =>
  beq_iff_eq.mp (List.all_eq_true.mp h i (List.mem_range.mpr hi))
def cOf (l : List Addr) : Nat → Addr := fun i => l.getD i 0
theorem fldc {K : PySem.W.Frag} {C : Addr} {f g : Str} (e : g = f) (x : FldC K C f) : FldC K C g := e ▸ x
theorem xcc {K : PySem.W.Frag} {C fI : Addr} {f g : Str} {n : String} {b : List Value} (e : g = f) (x : XC K C fI f n b) : XC K C fI g n b := e ▸ x
theorem bdc {fd : FuncData} {f g : Str} (e : g = f) (x : ∀ (s : Shared) (v u : Value), BindsTo s fd ⟨[v, u], []⟩ [("self", v), (f, u)]) : ∀ (s : Shared) (v u : Value), BindsTo s fd ⟨[v, u], []⟩ [("self", v), (g, u)] := e ▸ x
theorem bkc {fd : FuncData} {f g : Str} (e : g = f) (x : ∀ (s : Shared) (v u : Value), BindsTo s fd ⟨[v], [(f, u)]⟩ [("self", v), (f, u)]) : ∀ (s : Shared) (v u : Value), BindsTo s fd ⟨[v], [(g, u)]⟩ [("self", v), (g, u)] := e ▸ x
theorem okc {P : Program} {w : World} {K : PySem.W.Frag} {mg : Str → Option Value} {base : Heap} {fI C : Addr} {fd : FuncData} {f g : Str} (e : g = f) (x : FnOk P w K mg base CX0 1 fI fd ["self", f] (spInit C f)) : FnOk P w K mg base CX0 1 fI fd ["self", g] (spInit C g) := e ▸ x
theorem upto15 {Z : Nat → Prop} (h : Z 0 ∧ Z 1 ∧ Z 2 ∧ Z 3 ∧ Z 4 ∧ Z 5 ∧ Z 6 ∧ Z 7 ∧ Z 8 ∧ Z 9 ∧ Z 10 ∧ Z 11 ∧ Z 12 ∧ Z 13 ∧ Z 14) : ∀ k, k < 15 → Z k := by
  obtain ⟨z0, z1, z2, z3, z4, z5, z6, z7, z8, z9, z10, z11, z12, z13, z14⟩ := h
  intro k hk
  match k, hk with
  | 0, _ => exact z0
  | 1, _ => exact z1
  | 2, _ => exact z2
  | 3, _ => exact z3
  | 4, _ => exact z4
  | 5, _ => exact z5
  | 6, _ => exact z6
  | 7, _ => exact z7
  | 8, _ => exact z8
  | 9, _ => exact z9
  | 10, _ => exact z10
  | 11, _ => exact z11
  | 12, _ => exact z12
  | 13, _ => exact z13
  | 14, _ => exact z14
  | n + 15, h => omega
theorem upto13 {Z : Nat → Prop} (h : Z 0 ∧ Z 1 ∧ Z 2 ∧ Z 3 ∧ Z 4 ∧ Z 5 ∧ Z 6 ∧ Z 7 ∧ Z 8 ∧ Z 9 ∧ Z 10 ∧ Z 11 ∧ Z 12) : ∀ k, k < 13 → Z k := by
  obtain ⟨z0, z1, z2, z3, z4, z5, z6, z7, z8, z9, z10, z11, z12⟩ := h
  intro k hk
  match k, hk with
  | 0, _ => exact z0
  | 1, _ => exact z1
  | 2, _ => exact z2
  | 3, _ => exact z3
  | 4, _ => exact z4
  | 5, _ => exact z5
  | 6, _ => exact z6
  | 7, _ => exact z7
  | 8, _ => exact z8
  | 9, _ => exact z9
  | 10, _ => exact z10
  | 11, _ => exact z11
  | 12, _ => exact z12
  | n + 13, h => omega
theorem scX {f : Str} {st : Stmt} (h1 : (defScope st).kind = .function) (h2 : (defScope st).isCoroutine = false) (h3 : (defScope st).isGenerator = false) (h4 : (["self", f] : List Str).Nodup) (h6 : ∀ x ∈ (["self", f] : List Str), (defScope st).names.lookup x = some .local ∨ (defScope st).names.lookup x = some .cell)
    (h7 : ∀ y ∈ (defScope st).names, y.2 ≠ .free) : FnScope ["self", f] ["self", f] (defScope st) := ⟨h1, h2, h3, h4, rfl, h6, h7⟩
set_option maxHeartbeats 16000000 in
theorem all_mk {P : Program} {w : World} {K : PySem.W.Frag} {h : Heap} {mg : Str → Option Value} {fa : Addr} {C0 C1 C2 C3 C4 C5 C6 C7 C8 C9 C10 C11 C12 C13 C14 S f0 f1 f2 f3 f4 f5 f6 f7 f8 f9 f10 f11 f12 f13 f14 fB fN fV fK fF fL : Addr} (X : K.In h) (G : h.Ns mainGlobals mg) (hfa : mg "law" = some (.ref fa))
    {od0 an0 : Option Addr} {sl0 : Array (Option Value)} {oc0 kV0 dc0 pm0 cd0 ct0 : Value}
    {od1 an1 : Option Addr} {sl1 : Array (Option Value)} {oc1 kV1 dc1 pm1 cd1 ct1 : Value}
    {od2 an2 : Option Addr} {sl2 : Array (Option Value)} {oc2 kV2 dc2 pm2 cd2 ct2 : Value}
    {od3 an3 : Option Addr} {sl3 : Array (Option Value)} {oc3 kV3 dc3 pm3 cd3 ct3 : Value}
    {od4 an4 : Option Addr} {sl4 : Array (Option Value)} {oc4 kV4 dc4 pm4 cd4 ct4 : Value}
    {od5 an5 : Option Addr} {sl5 : Array (Option Value)} {oc5 kV5 dc5 pm5 cd5 ct5 : Value}
    {od6 an6 : Option Addr} {sl6 : Array (Option Value)} {oc6 kV6 dc6 pm6 cd6 ct6 : Value}
    {od7 an7 : Option Addr} {sl7 : Array (Option Value)} {oc7 kV7 dc7 pm7 cd7 ct7 : Value}
    {od8 an8 : Option Addr} {sl8 : Array (Option Value)} {oc8 kV8 dc8 pm8 cd8 ct8 : Value}
    {od9 an9 : Option Addr} {sl9 : Array (Option Value)} {oc9 kV9 dc9 pm9 cd9 ct9 : Value}
    {od10 an10 : Option Addr} {sl10 : Array (Option Value)} {oc10 kV10 dc10 pm10 cd10 ct10 : Value}
    {od11 an11 : Option Addr} {sl11 : Array (Option Value)} {oc11 kV11 dc11 pm11 cd11 ct11 : Value}
    {od12 an12 : Option Addr} {sl12 : Array (Option Value)} {oc12 kV12 dc12 pm12 cd12 ct12 : Value}
    {od13 an13 : Option Addr} {sl13 : Array (Option Value)} {oc13 kV13 dc13 pm13 cd13 ct13 : Value}
    {od14 an14 : Option Addr} {sl14 : Array (Option Value)} {oc14 kV14 dc14 pm14 cd14 ct14 : Value}
    {odB anB : Option Addr} {slB : Array (Option Value)} {ocB kVB dcB pmB cdB ctB : Value}
    {odN anN : Option Addr} {slN : Array (Option Value)} {ocN kVN dcN pmN cdN ctN : Value}
    {odV anV : Option Addr} {slV : Array (Option Value)} {ocV kVV dcV pmV cdV ctV : Value}
    {odK anK : Option Addr} {slK : Array (Option Value)} {ocK kVK dcK pmK cdK ctK : Value}
    {odF anF : Option Addr} {slF : Array (Option Value)} {ocF kVF dcF pmF cdF ctF : Value}
    {odL anL : Option Addr} {slL : Array (Option Value)} {ocL kVL dcL pmL cdL ctL : Value}
    (aS : PySem.W.nsIn K mainGlobals "SwitchError" = some (some (.ref S)))
    (a0 : PySem.W.nsIn K mainGlobals "BadSettings" = some (some (.ref C0)))
    (i0 : PySem.W.findIn K (.ref C0) "__init__" = some (some (.ref f0)))
    (l0 : K.lookup f0 = some ⟨oc0, od0, .func (PySem.W.fnOf "__init__" "BadSettings.__init__" (defArgs (inClass (top 2) 0)) (defBody (inClass (top 2) 0)) (defScope (inClass (top 2) 0)) .none kV0 dc0 pm0 an0 cd0 ct0), sl0⟩)
    (d0 : PySem.W.codeIn K cd0 "BadSettings.__init__" = true)
    (e0 : PySem.W.keepIn K (.ref f0) = true)
    (n0 : PySem.W.excInitIn K C0 vTail "ValueError.__new__" = true)
    (o0 : PySem.W.excOver K C0 vTail = true)
    (s0 : PySem.W.findIn K (.ref C0) "__setattr__" = some (some (.builtin "object.__setattr__")))
    (t0 : PySem.W.takerIn K C0 "place" = some none)
    (h0 : PySem.W.hasDictIn K C0 = true)
    (w0 : PySem.W.isFn K (.ref f0) = true)
    (k0 : PySem.W.keepIn K (.ref C0) = true)
    (p0 : PySem.W.isClsIn K C0 = true)
    (ga0 : PySem.W.findIn K (.ref C0) "__getattribute__" = some (some (.builtin "BaseException.__getattribute__")))
    (gg0 : PySem.W.findIn K (.ref C0) "__getattr__" = some none)
    (x0 : PySem.W.subIn K (.ref C0) (.type "BaseException") = some true)
    (y0 : PySem.W.findIn K (.ref C0) "place" = some none)
    (u0 : PySem.W.findIn K (.ref C0) "__class__" = some (some (.builtin "object.__class__")))
    (m0 : PySem.W.mroIn K C0 (.type "object") = some true)
    (a1 : PySem.W.nsIn K mainGlobals "BadStanding" = some (some (.ref C1)))
    (i1 : PySem.W.findIn K (.ref C1) "__init__" = some (some (.ref f1)))
    (l1 : K.lookup f1 = some ⟨oc1, od1, .func (PySem.W.fnOf "__init__" "BadStanding.__init__" (defArgs (inClass (top 3) 0)) (defBody (inClass (top 3) 0)) (defScope (inClass (top 3) 0)) .none kV1 dc1 pm1 an1 cd1 ct1), sl1⟩)
    (d1 : PySem.W.codeIn K cd1 "BadStanding.__init__" = true)
    (e1 : PySem.W.keepIn K (.ref f1) = true)
    (n1 : PySem.W.excInitIn K C1 vTail "ValueError.__new__" = true)
    (o1 : PySem.W.excOver K C1 vTail = true)
    (s1 : PySem.W.findIn K (.ref C1) "__setattr__" = some (some (.builtin "object.__setattr__")))
    (t1 : PySem.W.takerIn K C1 "value" = some none)
    (h1 : PySem.W.hasDictIn K C1 = true)
    (w1 : PySem.W.isFn K (.ref f1) = true)
    (k1 : PySem.W.keepIn K (.ref C1) = true)
    (p1 : PySem.W.isClsIn K C1 = true)
    (ga1 : PySem.W.findIn K (.ref C1) "__getattribute__" = some (some (.builtin "BaseException.__getattribute__")))
    (gg1 : PySem.W.findIn K (.ref C1) "__getattr__" = some none)
    (x1 : PySem.W.subIn K (.ref C1) (.type "BaseException") = some true)
    (y1 : PySem.W.findIn K (.ref C1) "value" = some none)
    (u1 : PySem.W.findIn K (.ref C1) "__class__" = some (some (.builtin "object.__class__")))
    (m1 : PySem.W.mroIn K C1 (.type "object") = some true)
    (a2 : PySem.W.nsIn K mainGlobals "BadStarts" = some (some (.ref C2)))
    (i2 : PySem.W.findIn K (.ref C2) "__init__" = some (some (.ref f2)))
    (l2 : K.lookup f2 = some ⟨oc2, od2, .func (PySem.W.fnOf "__init__" "BadStarts.__init__" (defArgs (inClass (top 4) 0)) (defBody (inClass (top 4) 0)) (defScope (inClass (top 4) 0)) .none kV2 dc2 pm2 an2 cd2 ct2), sl2⟩)
    (d2 : PySem.W.codeIn K cd2 "BadStarts.__init__" = true)
    (e2 : PySem.W.keepIn K (.ref f2) = true)
    (n2 : PySem.W.excInitIn K C2 vTail "ValueError.__new__" = true)
    (o2 : PySem.W.excOver K C2 vTail = true)
    (s2 : PySem.W.findIn K (.ref C2) "__setattr__" = some (some (.builtin "object.__setattr__")))
    (t2 : PySem.W.takerIn K C2 "place" = some none)
    (h2 : PySem.W.hasDictIn K C2 = true)
    (w2 : PySem.W.isFn K (.ref f2) = true)
    (k2 : PySem.W.keepIn K (.ref C2) = true)
    (p2 : PySem.W.isClsIn K C2 = true)
    (ga2 : PySem.W.findIn K (.ref C2) "__getattribute__" = some (some (.builtin "BaseException.__getattribute__")))
    (gg2 : PySem.W.findIn K (.ref C2) "__getattr__" = some none)
    (x2 : PySem.W.subIn K (.ref C2) (.type "BaseException") = some true)
    (y2 : PySem.W.findIn K (.ref C2) "place" = some none)
    (u2 : PySem.W.findIn K (.ref C2) "__class__" = some (some (.builtin "object.__class__")))
    (m2 : PySem.W.mroIn K C2 (.type "object") = some true)
    (a3 : PySem.W.nsIn K mainGlobals "BadSwitches" = some (some (.ref C3)))
    (i3 : PySem.W.findIn K (.ref C3) "__init__" = some (some (.ref f3)))
    (l3 : K.lookup f3 = some ⟨oc3, od3, .func (PySem.W.fnOf "__init__" "BadSwitches.__init__" (defArgs (inClass (top 5) 0)) (defBody (inClass (top 5) 0)) (defScope (inClass (top 5) 0)) .none kV3 dc3 pm3 an3 cd3 ct3), sl3⟩)
    (d3 : PySem.W.codeIn K cd3 "BadSwitches.__init__" = true)
    (e3 : PySem.W.keepIn K (.ref f3) = true)
    (n3 : PySem.W.excInitIn K C3 vTail "ValueError.__new__" = true)
    (o3 : PySem.W.excOver K C3 vTail = true)
    (s3 : PySem.W.findIn K (.ref C3) "__setattr__" = some (some (.builtin "object.__setattr__")))
    (t3 : PySem.W.takerIn K C3 "place" = some none)
    (h3 : PySem.W.hasDictIn K C3 = true)
    (w3 : PySem.W.isFn K (.ref f3) = true)
    (k3 : PySem.W.keepIn K (.ref C3) = true)
    (p3 : PySem.W.isClsIn K C3 = true)
    (ga3 : PySem.W.findIn K (.ref C3) "__getattribute__" = some (some (.builtin "BaseException.__getattribute__")))
    (gg3 : PySem.W.findIn K (.ref C3) "__getattr__" = some none)
    (x3 : PySem.W.subIn K (.ref C3) (.type "BaseException") = some true)
    (y3 : PySem.W.findIn K (.ref C3) "place" = some none)
    (u3 : PySem.W.findIn K (.ref C3) "__class__" = some (some (.builtin "object.__class__")))
    (m3 : PySem.W.mroIn K C3 (.type "object") = some true)
    (a4 : PySem.W.nsIn K mainGlobals "BadPlaces" = some (some (.ref C4)))
    (i4 : PySem.W.findIn K (.ref C4) "__init__" = some (some (.ref f4)))
    (l4 : K.lookup f4 = some ⟨oc4, od4, .func (PySem.W.fnOf "__init__" "BadPlaces.__init__" (defArgs (inClass (top 6) 0)) (defBody (inClass (top 6) 0)) (defScope (inClass (top 6) 0)) .none kV4 dc4 pm4 an4 cd4 ct4), sl4⟩)
    (d4 : PySem.W.codeIn K cd4 "BadPlaces.__init__" = true)
    (e4 : PySem.W.keepIn K (.ref f4) = true)
    (n4 : PySem.W.excInitIn K C4 vTail "ValueError.__new__" = true)
    (o4 : PySem.W.excOver K C4 vTail = true)
    (s4 : PySem.W.findIn K (.ref C4) "__setattr__" = some (some (.builtin "object.__setattr__")))
    (t4 : PySem.W.takerIn K C4 "place" = some none)
    (h4 : PySem.W.hasDictIn K C4 = true)
    (w4 : PySem.W.isFn K (.ref f4) = true)
    (k4 : PySem.W.keepIn K (.ref C4) = true)
    (p4 : PySem.W.isClsIn K C4 = true)
    (ga4 : PySem.W.findIn K (.ref C4) "__getattribute__" = some (some (.builtin "BaseException.__getattribute__")))
    (gg4 : PySem.W.findIn K (.ref C4) "__getattr__" = some none)
    (x4 : PySem.W.subIn K (.ref C4) (.type "BaseException") = some true)
    (y4 : PySem.W.findIn K (.ref C4) "place" = some none)
    (u4 : PySem.W.findIn K (.ref C4) "__class__" = some (some (.builtin "object.__class__")))
    (m4 : PySem.W.mroIn K C4 (.type "object") = some true)
    (a5 : PySem.W.nsIn K mainGlobals "BadModes" = some (some (.ref C5)))
    (i5 : PySem.W.findIn K (.ref C5) "__init__" = some (some (.ref f5)))
    (l5 : K.lookup f5 = some ⟨oc5, od5, .func (PySem.W.fnOf "__init__" "BadModes.__init__" (defArgs (inClass (top 7) 0)) (defBody (inClass (top 7) 0)) (defScope (inClass (top 7) 0)) .none kV5 dc5 pm5 an5 cd5 ct5), sl5⟩)
    (d5 : PySem.W.codeIn K cd5 "BadModes.__init__" = true)
    (e5 : PySem.W.keepIn K (.ref f5) = true)
    (n5 : PySem.W.excInitIn K C5 vTail "ValueError.__new__" = true)
    (o5 : PySem.W.excOver K C5 vTail = true)
    (s5 : PySem.W.findIn K (.ref C5) "__setattr__" = some (some (.builtin "object.__setattr__")))
    (t5 : PySem.W.takerIn K C5 "place" = some none)
    (h5 : PySem.W.hasDictIn K C5 = true)
    (w5 : PySem.W.isFn K (.ref f5) = true)
    (k5 : PySem.W.keepIn K (.ref C5) = true)
    (p5 : PySem.W.isClsIn K C5 = true)
    (ga5 : PySem.W.findIn K (.ref C5) "__getattribute__" = some (some (.builtin "BaseException.__getattribute__")))
    (gg5 : PySem.W.findIn K (.ref C5) "__getattr__" = some none)
    (x5 : PySem.W.subIn K (.ref C5) (.type "BaseException") = some true)
    (y5 : PySem.W.findIn K (.ref C5) "place" = some none)
    (u5 : PySem.W.findIn K (.ref C5) "__class__" = some (some (.builtin "object.__class__")))
    (m5 : PySem.W.mroIn K C5 (.type "object") = some true)
    (a6 : PySem.W.nsIn K mainGlobals "BadRun" = some (some (.ref C6)))
    (i6 : PySem.W.findIn K (.ref C6) "__init__" = some (some (.ref f6)))
    (l6 : K.lookup f6 = some ⟨oc6, od6, .func (PySem.W.fnOf "__init__" "BadRun.__init__" (defArgs (inClass (top 8) 0)) (defBody (inClass (top 8) 0)) (defScope (inClass (top 8) 0)) .none kV6 dc6 pm6 an6 cd6 ct6), sl6⟩)
    (d6 : PySem.W.codeIn K cd6 "BadRun.__init__" = true)
    (e6 : PySem.W.keepIn K (.ref f6) = true)
    (n6 : PySem.W.excInitIn K C6 vTail "ValueError.__new__" = true)
    (o6 : PySem.W.excOver K C6 vTail = true)
    (s6 : PySem.W.findIn K (.ref C6) "__setattr__" = some (some (.builtin "object.__setattr__")))
    (t6 : PySem.W.takerIn K C6 "place" = some none)
    (h6 : PySem.W.hasDictIn K C6 = true)
    (w6 : PySem.W.isFn K (.ref f6) = true)
    (k6 : PySem.W.keepIn K (.ref C6) = true)
    (p6 : PySem.W.isClsIn K C6 = true)
    (ga6 : PySem.W.findIn K (.ref C6) "__getattribute__" = some (some (.builtin "BaseException.__getattribute__")))
    (gg6 : PySem.W.findIn K (.ref C6) "__getattr__" = some none)
    (x6 : PySem.W.subIn K (.ref C6) (.type "BaseException") = some true)
    (y6 : PySem.W.findIn K (.ref C6) "place" = some none)
    (u6 : PySem.W.findIn K (.ref C6) "__class__" = some (some (.builtin "object.__class__")))
    (m6 : PySem.W.mroIn K C6 (.type "object") = some true)
    (a7 : PySem.W.nsIn K mainGlobals "BadNode" = some (some (.ref C7)))
    (i7 : PySem.W.findIn K (.ref C7) "__init__" = some (some (.ref f7)))
    (l7 : K.lookup f7 = some ⟨oc7, od7, .func (PySem.W.fnOf "__init__" "BadNode.__init__" (defArgs (inClass (top 9) 0)) (defBody (inClass (top 9) 0)) (defScope (inClass (top 9) 0)) .none kV7 dc7 pm7 an7 cd7 ct7), sl7⟩)
    (d7 : PySem.W.codeIn K cd7 "BadNode.__init__" = true)
    (e7 : PySem.W.keepIn K (.ref f7) = true)
    (n7 : PySem.W.excInitIn K C7 vTail "ValueError.__new__" = true)
    (o7 : PySem.W.excOver K C7 vTail = true)
    (s7 : PySem.W.findIn K (.ref C7) "__setattr__" = some (some (.builtin "object.__setattr__")))
    (t7 : PySem.W.takerIn K C7 "place" = some none)
    (h7 : PySem.W.hasDictIn K C7 = true)
    (w7 : PySem.W.isFn K (.ref f7) = true)
    (k7 : PySem.W.keepIn K (.ref C7) = true)
    (p7 : PySem.W.isClsIn K C7 = true)
    (ga7 : PySem.W.findIn K (.ref C7) "__getattribute__" = some (some (.builtin "BaseException.__getattribute__")))
    (gg7 : PySem.W.findIn K (.ref C7) "__getattr__" = some none)
    (x7 : PySem.W.subIn K (.ref C7) (.type "BaseException") = some true)
    (y7 : PySem.W.findIn K (.ref C7) "place" = some none)
    (u7 : PySem.W.findIn K (.ref C7) "__class__" = some (some (.builtin "object.__class__")))
    (m7 : PySem.W.mroIn K C7 (.type "object") = some true)
    (a8 : PySem.W.nsIn K mainGlobals "BadPaper" = some (some (.ref C8)))
    (i8 : PySem.W.findIn K (.ref C8) "__init__" = some (some (.ref f8)))
    (l8 : K.lookup f8 = some ⟨oc8, od8, .func (PySem.W.fnOf "__init__" "BadPaper.__init__" (defArgs (inClass (top 10) 0)) (defBody (inClass (top 10) 0)) (defScope (inClass (top 10) 0)) .none kV8 dc8 pm8 an8 cd8 ct8), sl8⟩)
    (d8 : PySem.W.codeIn K cd8 "BadPaper.__init__" = true)
    (e8 : PySem.W.keepIn K (.ref f8) = true)
    (n8 : PySem.W.excInitIn K C8 vTail "ValueError.__new__" = true)
    (o8 : PySem.W.excOver K C8 vTail = true)
    (s8 : PySem.W.findIn K (.ref C8) "__setattr__" = some (some (.builtin "object.__setattr__")))
    (t8 : PySem.W.takerIn K C8 "place" = some none)
    (h8 : PySem.W.hasDictIn K C8 = true)
    (w8 : PySem.W.isFn K (.ref f8) = true)
    (k8 : PySem.W.keepIn K (.ref C8) = true)
    (p8 : PySem.W.isClsIn K C8 = true)
    (ga8 : PySem.W.findIn K (.ref C8) "__getattribute__" = some (some (.builtin "BaseException.__getattribute__")))
    (gg8 : PySem.W.findIn K (.ref C8) "__getattr__" = some none)
    (x8 : PySem.W.subIn K (.ref C8) (.type "BaseException") = some true)
    (y8 : PySem.W.findIn K (.ref C8) "place" = some none)
    (u8 : PySem.W.findIn K (.ref C8) "__class__" = some (some (.builtin "object.__class__")))
    (m8 : PySem.W.mroIn K C8 (.type "object") = some true)
    (a9 : PySem.W.nsIn K mainGlobals "BadWindow" = some (some (.ref C9)))
    (i9 : PySem.W.findIn K (.ref C9) "__init__" = some (some (.ref f9)))
    (l9 : K.lookup f9 = some ⟨oc9, od9, .func (PySem.W.fnOf "__init__" "BadWindow.__init__" (defArgs (inClass (top 11) 0)) (defBody (inClass (top 11) 0)) (defScope (inClass (top 11) 0)) .none kV9 dc9 pm9 an9 cd9 ct9), sl9⟩)
    (d9 : PySem.W.codeIn K cd9 "BadWindow.__init__" = true)
    (e9 : PySem.W.keepIn K (.ref f9) = true)
    (n9 : PySem.W.excInitIn K C9 vTail "ValueError.__new__" = true)
    (o9 : PySem.W.excOver K C9 vTail = true)
    (s9 : PySem.W.findIn K (.ref C9) "__setattr__" = some (some (.builtin "object.__setattr__")))
    (t9 : PySem.W.takerIn K C9 "place" = some none)
    (h9 : PySem.W.hasDictIn K C9 = true)
    (w9 : PySem.W.isFn K (.ref f9) = true)
    (k9 : PySem.W.keepIn K (.ref C9) = true)
    (p9 : PySem.W.isClsIn K C9 = true)
    (ga9 : PySem.W.findIn K (.ref C9) "__getattribute__" = some (some (.builtin "BaseException.__getattribute__")))
    (gg9 : PySem.W.findIn K (.ref C9) "__getattr__" = some none)
    (x9 : PySem.W.subIn K (.ref C9) (.type "BaseException") = some true)
    (y9 : PySem.W.findIn K (.ref C9) "place" = some none)
    (u9 : PySem.W.findIn K (.ref C9) "__class__" = some (some (.builtin "object.__class__")))
    (m9 : PySem.W.mroIn K C9 (.type "object") = some true)
    (a10 : PySem.W.nsIn K mainGlobals "BadPlan" = some (some (.ref C10)))
    (i10 : PySem.W.findIn K (.ref C10) "__init__" = some (some (.ref f10)))
    (l10 : K.lookup f10 = some ⟨oc10, od10, .func (PySem.W.fnOf "__init__" "BadPlan.__init__" (defArgs (inClass (top 12) 0)) (defBody (inClass (top 12) 0)) (defScope (inClass (top 12) 0)) .none kV10 dc10 pm10 an10 cd10 ct10), sl10⟩)
    (d10 : PySem.W.codeIn K cd10 "BadPlan.__init__" = true)
    (e10 : PySem.W.keepIn K (.ref f10) = true)
    (n10 : PySem.W.excInitIn K C10 vTail "ValueError.__new__" = true)
    (o10 : PySem.W.excOver K C10 vTail = true)
    (s10 : PySem.W.findIn K (.ref C10) "__setattr__" = some (some (.builtin "object.__setattr__")))
    (t10 : PySem.W.takerIn K C10 "place" = some none)
    (h10 : PySem.W.hasDictIn K C10 = true)
    (w10 : PySem.W.isFn K (.ref f10) = true)
    (k10 : PySem.W.keepIn K (.ref C10) = true)
    (p10 : PySem.W.isClsIn K C10 = true)
    (ga10 : PySem.W.findIn K (.ref C10) "__getattribute__" = some (some (.builtin "BaseException.__getattribute__")))
    (gg10 : PySem.W.findIn K (.ref C10) "__getattr__" = some none)
    (x10 : PySem.W.subIn K (.ref C10) (.type "BaseException") = some true)
    (y10 : PySem.W.findIn K (.ref C10) "place" = some none)
    (u10 : PySem.W.findIn K (.ref C10) "__class__" = some (some (.builtin "object.__class__")))
    (m10 : PySem.W.mroIn K C10 (.type "object") = some true)
    (a11 : PySem.W.nsIn K mainGlobals "BadText" = some (some (.ref C11)))
    (i11 : PySem.W.findIn K (.ref C11) "__init__" = some (some (.ref f11)))
    (l11 : K.lookup f11 = some ⟨oc11, od11, .func (PySem.W.fnOf "__init__" "BadText.__init__" (defArgs (inClass (top 13) 0)) (defBody (inClass (top 13) 0)) (defScope (inClass (top 13) 0)) .none kV11 dc11 pm11 an11 cd11 ct11), sl11⟩)
    (d11 : PySem.W.codeIn K cd11 "BadText.__init__" = true)
    (e11 : PySem.W.keepIn K (.ref f11) = true)
    (n11 : PySem.W.excInitIn K C11 vTail "ValueError.__new__" = true)
    (o11 : PySem.W.excOver K C11 vTail = true)
    (s11 : PySem.W.findIn K (.ref C11) "__setattr__" = some (some (.builtin "object.__setattr__")))
    (t11 : PySem.W.takerIn K C11 "line" = some none)
    (h11 : PySem.W.hasDictIn K C11 = true)
    (w11 : PySem.W.isFn K (.ref f11) = true)
    (k11 : PySem.W.keepIn K (.ref C11) = true)
    (p11 : PySem.W.isClsIn K C11 = true)
    (ga11 : PySem.W.findIn K (.ref C11) "__getattribute__" = some (some (.builtin "BaseException.__getattribute__")))
    (gg11 : PySem.W.findIn K (.ref C11) "__getattr__" = some none)
    (x11 : PySem.W.subIn K (.ref C11) (.type "BaseException") = some true)
    (y11 : PySem.W.findIn K (.ref C11) "line" = some none)
    (u11 : PySem.W.findIn K (.ref C11) "__class__" = some (some (.builtin "object.__class__")))
    (m11 : PySem.W.mroIn K C11 (.type "object") = some true)
    (a12 : PySem.W.nsIn K mainGlobals "BadNumber" = some (some (.ref C12)))
    (i12 : PySem.W.findIn K (.ref C12) "__init__" = some (some (.ref f12)))
    (l12 : K.lookup f12 = some ⟨oc12, od12, .func (PySem.W.fnOf "__init__" "BadNumber.__init__" (defArgs (inClass (top 14) 0)) (defBody (inClass (top 14) 0)) (defScope (inClass (top 14) 0)) .none kV12 dc12 pm12 an12 cd12 ct12), sl12⟩)
    (d12 : PySem.W.codeIn K cd12 "BadNumber.__init__" = true)
    (e12 : PySem.W.keepIn K (.ref f12) = true)
    (n12 : PySem.W.excInitIn K C12 vTail "ValueError.__new__" = true)
    (o12 : PySem.W.excOver K C12 vTail = true)
    (s12 : PySem.W.findIn K (.ref C12) "__setattr__" = some (some (.builtin "object.__setattr__")))
    (t12 : PySem.W.takerIn K C12 "value" = some none)
    (h12 : PySem.W.hasDictIn K C12 = true)
    (w12 : PySem.W.isFn K (.ref f12) = true)
    (k12 : PySem.W.keepIn K (.ref C12) = true)
    (p12 : PySem.W.isClsIn K C12 = true)
    (ga12 : PySem.W.findIn K (.ref C12) "__getattribute__" = some (some (.builtin "BaseException.__getattribute__")))
    (gg12 : PySem.W.findIn K (.ref C12) "__getattr__" = some none)
    (x12 : PySem.W.subIn K (.ref C12) (.type "BaseException") = some true)
    (y12 : PySem.W.findIn K (.ref C12) "value" = some none)
    (u12 : PySem.W.findIn K (.ref C12) "__class__" = some (some (.builtin "object.__class__")))
    (m12 : PySem.W.mroIn K C12 (.type "object") = some true)
    (a13 : PySem.W.nsIn K mainGlobals "Missing" = some (some (.ref C13)))
    (i13 : PySem.W.findIn K (.ref C13) "__init__" = some (some (.ref f13)))
    (l13 : K.lookup f13 = some ⟨oc13, od13, .func (PySem.W.fnOf "__init__" "Missing.__init__" (defArgs (inClass (top 15) 0)) (defBody (inClass (top 15) 0)) (defScope (inClass (top 15) 0)) .none kV13 dc13 pm13 an13 cd13 ct13), sl13⟩)
    (d13 : PySem.W.codeIn K cd13 "Missing.__init__" = true)
    (e13 : PySem.W.keepIn K (.ref f13) = true)
    (n13 : PySem.W.excInitIn K C13 lTail "LookupError.__new__" = true)
    (o13 : PySem.W.excOver K C13 lTail = true)
    (s13 : PySem.W.findIn K (.ref C13) "__setattr__" = some (some (.builtin "object.__setattr__")))
    (t13 : PySem.W.takerIn K C13 "name" = some none)
    (h13 : PySem.W.hasDictIn K C13 = true)
    (w13 : PySem.W.isFn K (.ref f13) = true)
    (k13 : PySem.W.keepIn K (.ref C13) = true)
    (p13 : PySem.W.isClsIn K C13 = true)
    (ga13 : PySem.W.findIn K (.ref C13) "__getattribute__" = some (some (.builtin "BaseException.__getattribute__")))
    (gg13 : PySem.W.findIn K (.ref C13) "__getattr__" = some none)
    (x13 : PySem.W.subIn K (.ref C13) (.type "BaseException") = some true)
    (y13 : PySem.W.findIn K (.ref C13) "name" = some none)
    (u13 : PySem.W.findIn K (.ref C13) "__class__" = some (some (.builtin "object.__class__")))
    (m13 : PySem.W.mroIn K C13 (.type "object") = some true)
    (a14 : PySem.W.nsIn K mainGlobals "TooMany" = some (some (.ref C14)))
    (i14 : PySem.W.findIn K (.ref C14) "__init__" = some (some (.ref f14)))
    (l14 : K.lookup f14 = some ⟨oc14, od14, .func (PySem.W.fnOf "__init__" "TooMany.__init__" (defArgs (inClass (top 16) 0)) (defBody (inClass (top 16) 0)) (defScope (inClass (top 16) 0)) .none kV14 dc14 pm14 an14 cd14 ct14), sl14⟩)
    (d14 : PySem.W.codeIn K cd14 "TooMany.__init__" = true)
    (e14 : PySem.W.keepIn K (.ref f14) = true)
    (n14 : PySem.W.excInitIn K C14 oTail "OverflowError.__new__" = true)
    (o14 : PySem.W.excOver K C14 oTail = true)
    (s14 : PySem.W.findIn K (.ref C14) "__setattr__" = some (some (.builtin "object.__setattr__")))
    (t14 : PySem.W.takerIn K C14 "most" = some none)
    (h14 : PySem.W.hasDictIn K C14 = true)
    (w14 : PySem.W.isFn K (.ref f14) = true)
    (k14 : PySem.W.keepIn K (.ref C14) = true)
    (p14 : PySem.W.isClsIn K C14 = true)
    (ga14 : PySem.W.findIn K (.ref C14) "__getattribute__" = some (some (.builtin "BaseException.__getattribute__")))
    (gg14 : PySem.W.findIn K (.ref C14) "__getattr__" = some none)
    (x14 : PySem.W.subIn K (.ref C14) (.type "BaseException") = some true)
    (y14 : PySem.W.findIn K (.ref C14) "most" = some none)
    (u14 : PySem.W.findIn K (.ref C14) "__class__" = some (some (.builtin "object.__class__")))
    (m14 : PySem.W.mroIn K C14 (.type "object") = some true)
    (q1 : PySem.W.specialIn K (.builtin "object.__class__") "__get__" = some (some (.builtin "getset_descriptor.__get__")))
    (q2 : PySem.W.takesIn K (.builtin "object.__class__") = some true)
    (aB : PySem.W.nsIn K mainGlobals "_law_begun" = some (some (.ref fB)))
    (lB : K.lookup fB = some ⟨ocB, odB, .func (PySem.W.fnOf "_law_begun" "_law_begun" (defArgs sBegun) (defBody sBegun) (defScope sBegun) .none kVB dcB pmB anB cdB ctB), slB⟩)
    (dB : PySem.W.codeIn K cdB "_law_begun" = true)
    (eB : PySem.W.keepIn K (.ref fB) = true)
    (aN : PySem.W.nsIn K mainGlobals "_law_next" = some (some (.ref fN)))
    (lN : K.lookup fN = some ⟨ocN, odN, .func (PySem.W.fnOf "_law_next" "_law_next" (defArgs sNext) (defBody sNext) (defScope sNext) .none kVN dcN pmN anN cdN ctN), slN⟩)
    (dN : PySem.W.codeIn K cdN "_law_next" = true)
    (eN : PySem.W.keepIn K (.ref fN) = true)
    (aV : PySem.W.nsIn K mainGlobals "_law_value" = some (some (.ref fV)))
    (lV : K.lookup fV = some ⟨ocV, odV, .func (PySem.W.fnOf "_law_value" "_law_value" (defArgs sValue) (defBody sValue) (defScope sValue) .none kVV dcV pmV anV cdV ctV), slV⟩)
    (dV : PySem.W.codeIn K cdV "_law_value" = true)
    (eV : PySem.W.keepIn K (.ref fV) = true)
    (aK : PySem.W.nsIn K mainGlobals "_law_kinds" = some (some (.ref fK)))
    (lK : K.lookup fK = some ⟨ocK, odK, .func (PySem.W.fnOf "_law_kinds" "_law_kinds" (defArgs sKinds) (defBody sKinds) (defScope sKinds) .none kVK dcK pmK anK cdK ctK), slK⟩)
    (dK : PySem.W.codeIn K cdK "_law_kinds" = true)
    (eK : PySem.W.keepIn K (.ref fK) = true)
    (aF : PySem.W.nsIn K mainGlobals "_law_fields" = some (some (.ref fF)))
    (lF : K.lookup fF = some ⟨ocF, odF, .func (PySem.W.fnOf "_law_fields" "_law_fields" (defArgs sFields) (defBody sFields) (defScope sFields) .none kVF dcF pmF anF cdF ctF), slF⟩)
    (dF : PySem.W.codeIn K cdF "_law_fields" = true)
    (eF : PySem.W.keepIn K (.ref fF) = true)
    (aL : PySem.W.nsIn K mainGlobals "law" = some (some (.ref fL)))
    (lL : K.lookup fL = some ⟨ocL, odL, .func (PySem.W.fnOf "law" "law" (defArgs sLaw) (defBody sLaw) (defScope sLaw) .none kVL dcL pmL anL cdL ctL), slL⟩)
    (dL : PySem.W.codeIn K cdL "law" = true)
    (eL : PySem.W.keepIn K (.ref fL) = true)
    (z_list : PySem.W.nsIn K mainGlobals "list" = some none)
    (z_len : PySem.W.nsIn K mainGlobals "len" = some none)
    (z_int : PySem.W.nsIn K mainGlobals "int" = some none)
    (z_isinstance : PySem.W.nsIn K mainGlobals "isinstance" = some none)
    (z_repr : PySem.W.nsIn K mainGlobals "repr" = some none)
    (z_ValueError : PySem.W.nsIn K mainGlobals "ValueError" = some none)
    (z_LookupError : PySem.W.nsIn K mainGlobals "LookupError" = some none)
    (z_OverflowError : PySem.W.nsIn K mainGlobals "OverflowError" = some none)
    (z_KeyError : PySem.W.nsIn K mainGlobals "KeyError" = some none)
    (z_IndexError : PySem.W.nsIn K mainGlobals "IndexError" = some none)
    (z_range : PySem.W.nsIn K mainGlobals "range" = some none)
    (z_min : PySem.W.nsIn K mainGlobals "min" = some none)
    (z_enumerate : PySem.W.nsIn K mainGlobals "enumerate" = some none)
    (kk : kkAll K [C0, C1, C2, C3, C4, C5, C6, C7, C8, C9, C10, C11, C12, C13, C14] = true)
    (kS : kcAll K [C0, C1, C2, C3, C4, C5, C6, C7, C8, C9, C10, C11, C12, C13, C14] (.ref S) (fun i => decide (i < 13)) = true)
    (kV : kcAll K [C0, C1, C2, C3, C4, C5, C6, C7, C8, C9, C10, C11, C12, C13, C14] (.type "ValueError") (fun i => decide (i < 13)) = true)
    (kL : kcAll K [C0, C1, C2, C3, C4, C5, C6, C7, C8, C9, C10, C11, C12, C13, C14] (.type "LookupError") (fun i => decide (i = 13)) = true)
    (kO : kcAll K [C0, C1, C2, C3, C4, C5, C6, C7, C8, C9, C10, C11, C12, C13, C14] (.type "OverflowError") (fun i => decide (i = 14)) = true)
    (kI : kaAll K [C0, C1, C2, C3, C4, C5, C6, C7, C8, C9, C10, C11, C12, C13, C14] [.type "KeyError", .type "IndexError"] = true) : LawRun P w K mg fa := by
  have e := hfa.symm.trans (PySem.W.mg_of X G aL)
  cases e
  have FB := fun_mk (st := sBegun) lB dB eB
  have FN := fun_mk (st := sNext) lN dN eN
  have FV := fun_mk (st := sValue) lV dV eV
  have FK := fun_mk (st := sKinds) lK dK eK
  have FF := fun_mk (st := sFields) lF dF eF
  have FL := fun_mk (st := sLaw) lL dL eL
  have bB := FB.binds (ps := ["script"]) fun _ _ _ _ _ _ us hl => match us, hl with | [_], _ => rfl
  have bN := FN.binds (ps := ["m", "many"]) fun _ _ _ _ _ _ us hl => match us, hl with | [_, _], _ => rfl
  have bV := FV.binds (ps := ["m"]) fun _ _ _ _ _ _ us hl => match us, hl with | [_], _ => rfl
  have bK := FK.binds (ps := ["one"]) fun _ _ _ _ _ _ us hl => match us, hl with | [_], _ => rfl
  have bF := FF.binds (ps := ["one"]) fun _ _ _ _ _ _ us hl => match us, hl with | [_], _ => rfl
  have F0 := fun_mk (st := inClass (top 2) 0) l0 d0 e0
  have T0 : XC K C0 f0 "place" "ValueError.__new__" vTail := ⟨n0, o0, s0, t0, h0, i0, w0, k0⟩
  have F1 := fun_mk (st := inClass (top 3) 0) l1 d1 e1
  have T1 : XC K C1 f1 "value" "ValueError.__new__" vTail := ⟨n1, o1, s1, t1, h1, i1, w1, k1⟩
  have F2 := fun_mk (st := inClass (top 4) 0) l2 d2 e2
  have T2 : XC K C2 f2 "place" "ValueError.__new__" vTail := ⟨n2, o2, s2, t2, h2, i2, w2, k2⟩
  have F3 := fun_mk (st := inClass (top 5) 0) l3 d3 e3
  have T3 : XC K C3 f3 "place" "ValueError.__new__" vTail := ⟨n3, o3, s3, t3, h3, i3, w3, k3⟩
  have F4 := fun_mk (st := inClass (top 6) 0) l4 d4 e4
  have T4 : XC K C4 f4 "place" "ValueError.__new__" vTail := ⟨n4, o4, s4, t4, h4, i4, w4, k4⟩
  have F5 := fun_mk (st := inClass (top 7) 0) l5 d5 e5
  have T5 : XC K C5 f5 "place" "ValueError.__new__" vTail := ⟨n5, o5, s5, t5, h5, i5, w5, k5⟩
  have F6 := fun_mk (st := inClass (top 8) 0) l6 d6 e6
  have T6 : XC K C6 f6 "place" "ValueError.__new__" vTail := ⟨n6, o6, s6, t6, h6, i6, w6, k6⟩
  have F7 := fun_mk (st := inClass (top 9) 0) l7 d7 e7
  have T7 : XC K C7 f7 "place" "ValueError.__new__" vTail := ⟨n7, o7, s7, t7, h7, i7, w7, k7⟩
  have F8 := fun_mk (st := inClass (top 10) 0) l8 d8 e8
  have T8 : XC K C8 f8 "place" "ValueError.__new__" vTail := ⟨n8, o8, s8, t8, h8, i8, w8, k8⟩
  have F9 := fun_mk (st := inClass (top 11) 0) l9 d9 e9
  have T9 : XC K C9 f9 "place" "ValueError.__new__" vTail := ⟨n9, o9, s9, t9, h9, i9, w9, k9⟩
  have F10 := fun_mk (st := inClass (top 12) 0) l10 d10 e10
  have T10 : XC K C10 f10 "place" "ValueError.__new__" vTail := ⟨n10, o10, s10, t10, h10, i10, w10, k10⟩
  have F11 := fun_mk (st := inClass (top 13) 0) l11 d11 e11
  have T11 : XC K C11 f11 "line" "ValueError.__new__" vTail := ⟨n11, o11, s11, t11, h11, i11, w11, k11⟩
  have F12 := fun_mk (st := inClass (top 14) 0) l12 d12 e12
  have T12 : XC K C12 f12 "value" "ValueError.__new__" vTail := ⟨n12, o12, s12, t12, h12, i12, w12, k12⟩
  have F13 := fun_mk (st := inClass (top 15) 0) l13 d13 e13
  have T13 : XC K C13 f13 "name" "LookupError.__new__" lTail := ⟨n13, o13, s13, t13, h13, i13, w13, k13⟩
  have F14 := fun_mk (st := inClass (top 16) 0) l14 d14 e14
  have T14 : XC K C14 f14 "most" "OverflowError.__new__" oTail := ⟨n14, o14, s14, t14, h14, i14, w14, k14⟩
  have TT : Txt60 mg fN := ⟨⟨PySem.W.mg_none_of X G z_list, PySem.W.mg_none_of X G z_len, PySem.W.mg_none_of X G z_int⟩, PySem.W.mg_of X G aN⟩
  have TL0 : TL mg fB fV fF fK := ⟨PySem.W.mg_of X G aB, PySem.W.mg_of X G aV, PySem.W.mg_of X G aF, PySem.W.mg_of X G aK, PySem.W.mg_none_of X G z_range, PySem.W.mg_none_of X G z_min, PySem.W.mg_none_of X G z_len, PySem.W.mg_none_of X G z_enumerate⟩
  have CC : C15 K mg (cOf [C0, C1, C2, C3, C4, C5, C6, C7, C8, C9, C10, C11, C12, C13, C14]) S := ⟨PySem.W.mg_of X G a0, PySem.W.mg_of X G a1, PySem.W.mg_of X G a2, PySem.W.mg_of X G a3, PySem.W.mg_of X G a4, PySem.W.mg_of X G a5, PySem.W.mg_of X G a6, PySem.W.mg_of X G a7, PySem.W.mg_of X G a8, PySem.W.mg_of X G a9, PySem.W.mg_of X G a10, PySem.W.mg_of X G a11, PySem.W.mg_of X G a12, PySem.W.mg_of X G a13, PySem.W.mg_of X G a14, PySem.W.mg_of X G aS, PySem.W.mg_none_of X G z_isinstance, PySem.W.mg_none_of X G z_repr, PySem.W.mg_none_of X G z_ValueError, PySem.W.mg_none_of X G z_LookupError, PySem.W.mg_none_of X G z_OverflowError, PySem.W.mg_none_of X G z_KeyError, PySem.W.mg_none_of X G z_IndexError,
    upto15 ⟨⟨p0, ga0, gg0, x0, u0, q1, q2, m0⟩, ⟨p1, ga1, gg1, x1, u1, q1, q2, m1⟩, ⟨p2, ga2, gg2, x2, u2, q1, q2, m2⟩, ⟨p3, ga3, gg3, x3, u3, q1, q2, m3⟩, ⟨p4, ga4, gg4, x4, u4, q1, q2, m4⟩, ⟨p5, ga5, gg5, x5, u5, q1, q2, m5⟩, ⟨p6, ga6, gg6, x6, u6, q1, q2, m6⟩, ⟨p7, ga7, gg7, x7, u7, q1, q2, m7⟩, ⟨p8, ga8, gg8, x8, u8, q1, q2, m8⟩, ⟨p9, ga9, gg9, x9, u9, q1, q2, m9⟩, ⟨p10, ga10, gg10, x10, u10, q1, q2, m10⟩, ⟨p11, ga11, gg11, x11, u11, q1, q2, m11⟩, ⟨p12, ga12, gg12, x12, u12, q1, q2, m12⟩, ⟨p13, ga13, gg13, x13, u13, q1, q2, m13⟩, ⟨p14, ga14, gg14, x14, u14, q1, q2, m14⟩⟩,
    upto15 ⟨fldc (by decide +kernel) ⟨ga0, gg0, x0, h0, y0⟩, fldc (by decide +kernel) ⟨ga1, gg1, x1, h1, y1⟩, fldc (by decide +kernel) ⟨ga2, gg2, x2, h2, y2⟩, fldc (by decide +kernel) ⟨ga3, gg3, x3, h3, y3⟩, fldc (by decide +kernel) ⟨ga4, gg4, x4, h4, y4⟩, fldc (by decide +kernel) ⟨ga5, gg5, x5, h5, y5⟩, fldc (by decide +kernel) ⟨ga6, gg6, x6, h6, y6⟩, fldc (by decide +kernel) ⟨ga7, gg7, x7, h7, y7⟩, fldc (by decide +kernel) ⟨ga8, gg8, x8, h8, y8⟩, fldc (by decide +kernel) ⟨ga9, gg9, x9, h9, y9⟩, fldc (by decide +kernel) ⟨ga10, gg10, x10, h10, y10⟩, fldc (by decide +kernel) ⟨ga11, gg11, x11, h11, y11⟩, fldc (by decide +kernel) ⟨ga12, gg12, x12, h12, y12⟩, fldc (by decide +kernel) ⟨ga13, gg13, x13, h13, y13⟩, fldc (by decide +kernel) ⟨ga14, gg14, x14, h14, y14⟩⟩,
    kkAll_at kk, kcAll_at kS, kcAll_at kV, kcAll_at kL, kcAll_at kO, kaAll_at kI⟩
  have X0 : XC K C0 f0 (fld 0) "ValueError.__new__" vTail := xcc (by decide +kernel) T0
  have B0 : ∀ (s : Shared) (v u : Value), BindsTo s (PySem.W.fnOf "__init__" "BadSettings.__init__" (defArgs (inClass (top 2) 0)) (defBody (inClass (top 2) 0)) (defScope (inClass (top 2) 0)) .none kV0 dc0 pm0 an0 cd0 ct0) ⟨[v, u], []⟩ [("self", v), (fld 0, u)] := bdc (f := "place") (by decide +kernel) (fun s v u => .of_eq rfl)
  have D0 : ∀ (s : Shared) (v u : Value), BindsTo s (PySem.W.fnOf "__init__" "BadSettings.__init__" (defArgs (inClass (top 2) 0)) (defBody (inClass (top 2) 0)) (defScope (inClass (top 2) 0)) .none kV0 dc0 pm0 an0 cd0 ct0) ⟨[v], [(fld 0, u)]⟩ [("self", v), (fld 0, u)] := bkc (f := "place") (by decide +kernel) (fun s v u => .of_eq rfl)
  have G0 : ∀ base : Heap, FnOk P w K mg base CX0 1 f0 (PySem.W.fnOf "__init__" "BadSettings.__init__" (defArgs (inClass (top 2) 0)) (defBody (inClass (top 2) 0)) (defScope (inClass (top 2) 0)) .none kV0 dc0 pm0 an0 cd0 ct0) ["self", fld 0] (spInit C0 (fld 0)) := fun base => okc (f := "place") (by decide +kernel) (ok_xinit F0 PySem.F.store_ValueError T0 (scX rfl rfl rfl (by decide +kernel) (by decide +kernel) (by decide +kernel)) rfl (by decide +kernel) (by decide +kernel) (by decide +kernel) (by decide +kernel))
  have X1 : XC K C1 f1 (fld 1) "ValueError.__new__" vTail := xcc (by decide +kernel) T1
  have B1 : ∀ (s : Shared) (v u : Value), BindsTo s (PySem.W.fnOf "__init__" "BadStanding.__init__" (defArgs (inClass (top 3) 0)) (defBody (inClass (top 3) 0)) (defScope (inClass (top 3) 0)) .none kV1 dc1 pm1 an1 cd1 ct1) ⟨[v, u], []⟩ [("self", v), (fld 1, u)] := bdc (f := "value") (by decide +kernel) (fun s v u => .of_eq rfl)
  have D1 : ∀ (s : Shared) (v u : Value), BindsTo s (PySem.W.fnOf "__init__" "BadStanding.__init__" (defArgs (inClass (top 3) 0)) (defBody (inClass (top 3) 0)) (defScope (inClass (top 3) 0)) .none kV1 dc1 pm1 an1 cd1 ct1) ⟨[v], [(fld 1, u)]⟩ [("self", v), (fld 1, u)] := bkc (f := "value") (by decide +kernel) (fun s v u => .of_eq rfl)
  have G1 : ∀ base : Heap, FnOk P w K mg base CX0 1 f1 (PySem.W.fnOf "__init__" "BadStanding.__init__" (defArgs (inClass (top 3) 0)) (defBody (inClass (top 3) 0)) (defScope (inClass (top 3) 0)) .none kV1 dc1 pm1 an1 cd1 ct1) ["self", fld 1] (spInit C1 (fld 1)) := fun base => okc (f := "value") (by decide +kernel) (ok_xinit F1 PySem.F.store_ValueError T1 (scX rfl rfl rfl (by decide +kernel) (by decide +kernel) (by decide +kernel)) rfl (by decide +kernel) (by decide +kernel) (by decide +kernel) (by decide +kernel))
  have X2 : XC K C2 f2 (fld 2) "ValueError.__new__" vTail := xcc (by decide +kernel) T2
  have B2 : ∀ (s : Shared) (v u : Value), BindsTo s (PySem.W.fnOf "__init__" "BadStarts.__init__" (defArgs (inClass (top 4) 0)) (defBody (inClass (top 4) 0)) (defScope (inClass (top 4) 0)) .none kV2 dc2 pm2 an2 cd2 ct2) ⟨[v, u], []⟩ [("self", v), (fld 2, u)] := bdc (f := "place") (by decide +kernel) (fun s v u => .of_eq rfl)
  have D2 : ∀ (s : Shared) (v u : Value), BindsTo s (PySem.W.fnOf "__init__" "BadStarts.__init__" (defArgs (inClass (top 4) 0)) (defBody (inClass (top 4) 0)) (defScope (inClass (top 4) 0)) .none kV2 dc2 pm2 an2 cd2 ct2) ⟨[v], [(fld 2, u)]⟩ [("self", v), (fld 2, u)] := bkc (f := "place") (by decide +kernel) (fun s v u => .of_eq rfl)
  have G2 : ∀ base : Heap, FnOk P w K mg base CX0 1 f2 (PySem.W.fnOf "__init__" "BadStarts.__init__" (defArgs (inClass (top 4) 0)) (defBody (inClass (top 4) 0)) (defScope (inClass (top 4) 0)) .none kV2 dc2 pm2 an2 cd2 ct2) ["self", fld 2] (spInit C2 (fld 2)) := fun base => okc (f := "place") (by decide +kernel) (ok_xinit F2 PySem.F.store_ValueError T2 (scX rfl rfl rfl (by decide +kernel) (by decide +kernel) (by decide +kernel)) rfl (by decide +kernel) (by decide +kernel) (by decide +kernel) (by decide +kernel))
  have X3 : XC K C3 f3 (fld 3) "ValueError.__new__" vTail := xcc (by decide +kernel) T3
  have B3 : ∀ (s : Shared) (v u : Value), BindsTo s (PySem.W.fnOf "__init__" "BadSwitches.__init__" (defArgs (inClass (top 5) 0)) (defBody (inClass (top 5) 0)) (defScope (inClass (top 5) 0)) .none kV3 dc3 pm3 an3 cd3 ct3) ⟨[v, u], []⟩ [("self", v), (fld 3, u)] := bdc (f := "place") (by decide +kernel) (fun s v u => .of_eq rfl)
  have D3 : ∀ (s : Shared) (v u : Value), BindsTo s (PySem.W.fnOf "__init__" "BadSwitches.__init__" (defArgs (inClass (top 5) 0)) (defBody (inClass (top 5) 0)) (defScope (inClass (top 5) 0)) .none kV3 dc3 pm3 an3 cd3 ct3) ⟨[v], [(fld 3, u)]⟩ [("self", v), (fld 3, u)] := bkc (f := "place") (by decide +kernel) (fun s v u => .of_eq rfl)
  have G3 : ∀ base : Heap, FnOk P w K mg base CX0 1 f3 (PySem.W.fnOf "__init__" "BadSwitches.__init__" (defArgs (inClass (top 5) 0)) (defBody (inClass (top 5) 0)) (defScope (inClass (top 5) 0)) .none kV3 dc3 pm3 an3 cd3 ct3) ["self", fld 3] (spInit C3 (fld 3)) := fun base => okc (f := "place") (by decide +kernel) (ok_xinit F3 PySem.F.store_ValueError T3 (scX rfl rfl rfl (by decide +kernel) (by decide +kernel) (by decide +kernel)) rfl (by decide +kernel) (by decide +kernel) (by decide +kernel) (by decide +kernel))
  have X4 : XC K C4 f4 (fld 4) "ValueError.__new__" vTail := xcc (by decide +kernel) T4
  have B4 : ∀ (s : Shared) (v u : Value), BindsTo s (PySem.W.fnOf "__init__" "BadPlaces.__init__" (defArgs (inClass (top 6) 0)) (defBody (inClass (top 6) 0)) (defScope (inClass (top 6) 0)) .none kV4 dc4 pm4 an4 cd4 ct4) ⟨[v, u], []⟩ [("self", v), (fld 4, u)] := bdc (f := "place") (by decide +kernel) (fun s v u => .of_eq rfl)
  have D4 : ∀ (s : Shared) (v u : Value), BindsTo s (PySem.W.fnOf "__init__" "BadPlaces.__init__" (defArgs (inClass (top 6) 0)) (defBody (inClass (top 6) 0)) (defScope (inClass (top 6) 0)) .none kV4 dc4 pm4 an4 cd4 ct4) ⟨[v], [(fld 4, u)]⟩ [("self", v), (fld 4, u)] := bkc (f := "place") (by decide +kernel) (fun s v u => .of_eq rfl)
  have G4 : ∀ base : Heap, FnOk P w K mg base CX0 1 f4 (PySem.W.fnOf "__init__" "BadPlaces.__init__" (defArgs (inClass (top 6) 0)) (defBody (inClass (top 6) 0)) (defScope (inClass (top 6) 0)) .none kV4 dc4 pm4 an4 cd4 ct4) ["self", fld 4] (spInit C4 (fld 4)) := fun base => okc (f := "place") (by decide +kernel) (ok_xinit F4 PySem.F.store_ValueError T4 (scX rfl rfl rfl (by decide +kernel) (by decide +kernel) (by decide +kernel)) rfl (by decide +kernel) (by decide +kernel) (by decide +kernel) (by decide +kernel))
  have X5 : XC K C5 f5 (fld 5) "ValueError.__new__" vTail := xcc (by decide +kernel) T5
  have B5 : ∀ (s : Shared) (v u : Value), BindsTo s (PySem.W.fnOf "__init__" "BadModes.__init__" (defArgs (inClass (top 7) 0)) (defBody (inClass (top 7) 0)) (defScope (inClass (top 7) 0)) .none kV5 dc5 pm5 an5 cd5 ct5) ⟨[v, u], []⟩ [("self", v), (fld 5, u)] := bdc (f := "place") (by decide +kernel) (fun s v u => .of_eq rfl)
  have D5 : ∀ (s : Shared) (v u : Value), BindsTo s (PySem.W.fnOf "__init__" "BadModes.__init__" (defArgs (inClass (top 7) 0)) (defBody (inClass (top 7) 0)) (defScope (inClass (top 7) 0)) .none kV5 dc5 pm5 an5 cd5 ct5) ⟨[v], [(fld 5, u)]⟩ [("self", v), (fld 5, u)] := bkc (f := "place") (by decide +kernel) (fun s v u => .of_eq rfl)
  have G5 : ∀ base : Heap, FnOk P w K mg base CX0 1 f5 (PySem.W.fnOf "__init__" "BadModes.__init__" (defArgs (inClass (top 7) 0)) (defBody (inClass (top 7) 0)) (defScope (inClass (top 7) 0)) .none kV5 dc5 pm5 an5 cd5 ct5) ["self", fld 5] (spInit C5 (fld 5)) := fun base => okc (f := "place") (by decide +kernel) (ok_xinit F5 PySem.F.store_ValueError T5 (scX rfl rfl rfl (by decide +kernel) (by decide +kernel) (by decide +kernel)) rfl (by decide +kernel) (by decide +kernel) (by decide +kernel) (by decide +kernel))
  have X6 : XC K C6 f6 (fld 6) "ValueError.__new__" vTail := xcc (by decide +kernel) T6
  have B6 : ∀ (s : Shared) (v u : Value), BindsTo s (PySem.W.fnOf "__init__" "BadRun.__init__" (defArgs (inClass (top 8) 0)) (defBody (inClass (top 8) 0)) (defScope (inClass (top 8) 0)) .none kV6 dc6 pm6 an6 cd6 ct6) ⟨[v, u], []⟩ [("self", v), (fld 6, u)] := bdc (f := "place") (by decide +kernel) (fun s v u => .of_eq rfl)
  have D6 : ∀ (s : Shared) (v u : Value), BindsTo s (PySem.W.fnOf "__init__" "BadRun.__init__" (defArgs (inClass (top 8) 0)) (defBody (inClass (top 8) 0)) (defScope (inClass (top 8) 0)) .none kV6 dc6 pm6 an6 cd6 ct6) ⟨[v], [(fld 6, u)]⟩ [("self", v), (fld 6, u)] := bkc (f := "place") (by decide +kernel) (fun s v u => .of_eq rfl)
  have G6 : ∀ base : Heap, FnOk P w K mg base CX0 1 f6 (PySem.W.fnOf "__init__" "BadRun.__init__" (defArgs (inClass (top 8) 0)) (defBody (inClass (top 8) 0)) (defScope (inClass (top 8) 0)) .none kV6 dc6 pm6 an6 cd6 ct6) ["self", fld 6] (spInit C6 (fld 6)) := fun base => okc (f := "place") (by decide +kernel) (ok_xinit F6 PySem.F.store_ValueError T6 (scX rfl rfl rfl (by decide +kernel) (by decide +kernel) (by decide +kernel)) rfl (by decide +kernel) (by decide +kernel) (by decide +kernel) (by decide +kernel))
  have X7 : XC K C7 f7 (fld 7) "ValueError.__new__" vTail := xcc (by decide +kernel) T7
  have B7 : ∀ (s : Shared) (v u : Value), BindsTo s (PySem.W.fnOf "__init__" "BadNode.__init__" (defArgs (inClass (top 9) 0)) (defBody (inClass (top 9) 0)) (defScope (inClass (top 9) 0)) .none kV7 dc7 pm7 an7 cd7 ct7) ⟨[v, u], []⟩ [("self", v), (fld 7, u)] := bdc (f := "place") (by decide +kernel) (fun s v u => .of_eq rfl)
  have D7 : ∀ (s : Shared) (v u : Value), BindsTo s (PySem.W.fnOf "__init__" "BadNode.__init__" (defArgs (inClass (top 9) 0)) (defBody (inClass (top 9) 0)) (defScope (inClass (top 9) 0)) .none kV7 dc7 pm7 an7 cd7 ct7) ⟨[v], [(fld 7, u)]⟩ [("self", v), (fld 7, u)] := bkc (f := "place") (by decide +kernel) (fun s v u => .of_eq rfl)
  have G7 : ∀ base : Heap, FnOk P w K mg base CX0 1 f7 (PySem.W.fnOf "__init__" "BadNode.__init__" (defArgs (inClass (top 9) 0)) (defBody (inClass (top 9) 0)) (defScope (inClass (top 9) 0)) .none kV7 dc7 pm7 an7 cd7 ct7) ["self", fld 7] (spInit C7 (fld 7)) := fun base => okc (f := "place") (by decide +kernel) (ok_xinit F7 PySem.F.store_ValueError T7 (scX rfl rfl rfl (by decide +kernel) (by decide +kernel) (by decide +kernel)) rfl (by decide +kernel) (by decide +kernel) (by decide +kernel) (by decide +kernel))
  have X8 : XC K C8 f8 (fld 8) "ValueError.__new__" vTail := xcc (by decide +kernel) T8
  have B8 : ∀ (s : Shared) (v u : Value), BindsTo s (PySem.W.fnOf "__init__" "BadPaper.__init__" (defArgs (inClass (top 10) 0)) (defBody (inClass (top 10) 0)) (defScope (inClass (top 10) 0)) .none kV8 dc8 pm8 an8 cd8 ct8) ⟨[v, u], []⟩ [("self", v), (fld 8, u)] := bdc (f := "place") (by decide +kernel) (fun s v u => .of_eq rfl)
  have D8 : ∀ (s : Shared) (v u : Value), BindsTo s (PySem.W.fnOf "__init__" "BadPaper.__init__" (defArgs (inClass (top 10) 0)) (defBody (inClass (top 10) 0)) (defScope (inClass (top 10) 0)) .none kV8 dc8 pm8 an8 cd8 ct8) ⟨[v], [(fld 8, u)]⟩ [("self", v), (fld 8, u)] := bkc (f := "place") (by decide +kernel) (fun s v u => .of_eq rfl)
  have G8 : ∀ base : Heap, FnOk P w K mg base CX0 1 f8 (PySem.W.fnOf "__init__" "BadPaper.__init__" (defArgs (inClass (top 10) 0)) (defBody (inClass (top 10) 0)) (defScope (inClass (top 10) 0)) .none kV8 dc8 pm8 an8 cd8 ct8) ["self", fld 8] (spInit C8 (fld 8)) := fun base => okc (f := "place") (by decide +kernel) (ok_xinit F8 PySem.F.store_ValueError T8 (scX rfl rfl rfl (by decide +kernel) (by decide +kernel) (by decide +kernel)) rfl (by decide +kernel) (by decide +kernel) (by decide +kernel) (by decide +kernel))
  have X9 : XC K C9 f9 (fld 9) "ValueError.__new__" vTail := xcc (by decide +kernel) T9
  have B9 : ∀ (s : Shared) (v u : Value), BindsTo s (PySem.W.fnOf "__init__" "BadWindow.__init__" (defArgs (inClass (top 11) 0)) (defBody (inClass (top 11) 0)) (defScope (inClass (top 11) 0)) .none kV9 dc9 pm9 an9 cd9 ct9) ⟨[v, u], []⟩ [("self", v), (fld 9, u)] := bdc (f := "place") (by decide +kernel) (fun s v u => .of_eq rfl)
  have D9 : ∀ (s : Shared) (v u : Value), BindsTo s (PySem.W.fnOf "__init__" "BadWindow.__init__" (defArgs (inClass (top 11) 0)) (defBody (inClass (top 11) 0)) (defScope (inClass (top 11) 0)) .none kV9 dc9 pm9 an9 cd9 ct9) ⟨[v], [(fld 9, u)]⟩ [("self", v), (fld 9, u)] := bkc (f := "place") (by decide +kernel) (fun s v u => .of_eq rfl)
  have G9 : ∀ base : Heap, FnOk P w K mg base CX0 1 f9 (PySem.W.fnOf "__init__" "BadWindow.__init__" (defArgs (inClass (top 11) 0)) (defBody (inClass (top 11) 0)) (defScope (inClass (top 11) 0)) .none kV9 dc9 pm9 an9 cd9 ct9) ["self", fld 9] (spInit C9 (fld 9)) := fun base => okc (f := "place") (by decide +kernel) (ok_xinit F9 PySem.F.store_ValueError T9 (scX rfl rfl rfl (by decide +kernel) (by decide +kernel) (by decide +kernel)) rfl (by decide +kernel) (by decide +kernel) (by decide +kernel) (by decide +kernel))
  have X10 : XC K C10 f10 (fld 10) "ValueError.__new__" vTail := xcc (by decide +kernel) T10
  have B10 : ∀ (s : Shared) (v u : Value), BindsTo s (PySem.W.fnOf "__init__" "BadPlan.__init__" (defArgs (inClass (top 12) 0)) (defBody (inClass (top 12) 0)) (defScope (inClass (top 12) 0)) .none kV10 dc10 pm10 an10 cd10 ct10) ⟨[v, u], []⟩ [("self", v), (fld 10, u)] := bdc (f := "place") (by decide +kernel) (fun s v u => .of_eq rfl)
  have D10 : ∀ (s : Shared) (v u : Value), BindsTo s (PySem.W.fnOf "__init__" "BadPlan.__init__" (defArgs (inClass (top 12) 0)) (defBody (inClass (top 12) 0)) (defScope (inClass (top 12) 0)) .none kV10 dc10 pm10 an10 cd10 ct10) ⟨[v], [(fld 10, u)]⟩ [("self", v), (fld 10, u)] := bkc (f := "place") (by decide +kernel) (fun s v u => .of_eq rfl)
  have G10 : ∀ base : Heap, FnOk P w K mg base CX0 1 f10 (PySem.W.fnOf "__init__" "BadPlan.__init__" (defArgs (inClass (top 12) 0)) (defBody (inClass (top 12) 0)) (defScope (inClass (top 12) 0)) .none kV10 dc10 pm10 an10 cd10 ct10) ["self", fld 10] (spInit C10 (fld 10)) := fun base => okc (f := "place") (by decide +kernel) (ok_xinit F10 PySem.F.store_ValueError T10 (scX rfl rfl rfl (by decide +kernel) (by decide +kernel) (by decide +kernel)) rfl (by decide +kernel) (by decide +kernel) (by decide +kernel) (by decide +kernel))
  have X11 : XC K C11 f11 (fld 11) "ValueError.__new__" vTail := xcc (by decide +kernel) T11
  have B11 : ∀ (s : Shared) (v u : Value), BindsTo s (PySem.W.fnOf "__init__" "BadText.__init__" (defArgs (inClass (top 13) 0)) (defBody (inClass (top 13) 0)) (defScope (inClass (top 13) 0)) .none kV11 dc11 pm11 an11 cd11 ct11) ⟨[v, u], []⟩ [("self", v), (fld 11, u)] := bdc (f := "line") (by decide +kernel) (fun s v u => .of_eq rfl)
  have D11 : ∀ (s : Shared) (v u : Value), BindsTo s (PySem.W.fnOf "__init__" "BadText.__init__" (defArgs (inClass (top 13) 0)) (defBody (inClass (top 13) 0)) (defScope (inClass (top 13) 0)) .none kV11 dc11 pm11 an11 cd11 ct11) ⟨[v], [(fld 11, u)]⟩ [("self", v), (fld 11, u)] := bkc (f := "line") (by decide +kernel) (fun s v u => .of_eq rfl)
  have G11 : ∀ base : Heap, FnOk P w K mg base CX0 1 f11 (PySem.W.fnOf "__init__" "BadText.__init__" (defArgs (inClass (top 13) 0)) (defBody (inClass (top 13) 0)) (defScope (inClass (top 13) 0)) .none kV11 dc11 pm11 an11 cd11 ct11) ["self", fld 11] (spInit C11 (fld 11)) := fun base => okc (f := "line") (by decide +kernel) (ok_xinit F11 PySem.F.store_ValueError T11 (scX rfl rfl rfl (by decide +kernel) (by decide +kernel) (by decide +kernel)) rfl (by decide +kernel) (by decide +kernel) (by decide +kernel) (by decide +kernel))
  have X12 : XC K C12 f12 (fld 12) "ValueError.__new__" vTail := xcc (by decide +kernel) T12
  have B12 : ∀ (s : Shared) (v u : Value), BindsTo s (PySem.W.fnOf "__init__" "BadNumber.__init__" (defArgs (inClass (top 14) 0)) (defBody (inClass (top 14) 0)) (defScope (inClass (top 14) 0)) .none kV12 dc12 pm12 an12 cd12 ct12) ⟨[v, u], []⟩ [("self", v), (fld 12, u)] := bdc (f := "value") (by decide +kernel) (fun s v u => .of_eq rfl)
  have D12 : ∀ (s : Shared) (v u : Value), BindsTo s (PySem.W.fnOf "__init__" "BadNumber.__init__" (defArgs (inClass (top 14) 0)) (defBody (inClass (top 14) 0)) (defScope (inClass (top 14) 0)) .none kV12 dc12 pm12 an12 cd12 ct12) ⟨[v], [(fld 12, u)]⟩ [("self", v), (fld 12, u)] := bkc (f := "value") (by decide +kernel) (fun s v u => .of_eq rfl)
  have G12 : ∀ base : Heap, FnOk P w K mg base CX0 1 f12 (PySem.W.fnOf "__init__" "BadNumber.__init__" (defArgs (inClass (top 14) 0)) (defBody (inClass (top 14) 0)) (defScope (inClass (top 14) 0)) .none kV12 dc12 pm12 an12 cd12 ct12) ["self", fld 12] (spInit C12 (fld 12)) := fun base => okc (f := "value") (by decide +kernel) (ok_xinit F12 PySem.F.store_ValueError T12 (scX rfl rfl rfl (by decide +kernel) (by decide +kernel) (by decide +kernel)) rfl (by decide +kernel) (by decide +kernel) (by decide +kernel) (by decide +kernel))
  have X13 : XC K C13 f13 (fld 13) "LookupError.__new__" lTail := xcc (by decide +kernel) T13
  have B13 : ∀ (s : Shared) (v u : Value), BindsTo s (PySem.W.fnOf "__init__" "Missing.__init__" (defArgs (inClass (top 15) 0)) (defBody (inClass (top 15) 0)) (defScope (inClass (top 15) 0)) .none kV13 dc13 pm13 an13 cd13 ct13) ⟨[v, u], []⟩ [("self", v), (fld 13, u)] := bdc (f := "name") (by decide +kernel) (fun s v u => .of_eq rfl)
  have D13 : ∀ (s : Shared) (v u : Value), BindsTo s (PySem.W.fnOf "__init__" "Missing.__init__" (defArgs (inClass (top 15) 0)) (defBody (inClass (top 15) 0)) (defScope (inClass (top 15) 0)) .none kV13 dc13 pm13 an13 cd13 ct13) ⟨[v], [(fld 13, u)]⟩ [("self", v), (fld 13, u)] := bkc (f := "name") (by decide +kernel) (fun s v u => .of_eq rfl)
  have G13 : ∀ base : Heap, FnOk P w K mg base CX0 1 f13 (PySem.W.fnOf "__init__" "Missing.__init__" (defArgs (inClass (top 15) 0)) (defBody (inClass (top 15) 0)) (defScope (inClass (top 15) 0)) .none kV13 dc13 pm13 an13 cd13 ct13) ["self", fld 13] (spInit C13 (fld 13)) := fun base => okc (f := "name") (by decide +kernel) (ok_xinit F13 PySem.F.store_LookupError T13 (scX rfl rfl rfl (by decide +kernel) (by decide +kernel) (by decide +kernel)) rfl (by decide +kernel) (by decide +kernel) (by decide +kernel) (by decide +kernel))
  have X14 : XC K C14 f14 (fld 14) "OverflowError.__new__" oTail := xcc (by decide +kernel) T14
  have B14 : ∀ (s : Shared) (v u : Value), BindsTo s (PySem.W.fnOf "__init__" "TooMany.__init__" (defArgs (inClass (top 16) 0)) (defBody (inClass (top 16) 0)) (defScope (inClass (top 16) 0)) .none kV14 dc14 pm14 an14 cd14 ct14) ⟨[v, u], []⟩ [("self", v), (fld 14, u)] := bdc (f := "most") (by decide +kernel) (fun s v u => .of_eq rfl)
  have D14 : ∀ (s : Shared) (v u : Value), BindsTo s (PySem.W.fnOf "__init__" "TooMany.__init__" (defArgs (inClass (top 16) 0)) (defBody (inClass (top 16) 0)) (defScope (inClass (top 16) 0)) .none kV14 dc14 pm14 an14 cd14 ct14) ⟨[v], [(fld 14, u)]⟩ [("self", v), (fld 14, u)] := bkc (f := "most") (by decide +kernel) (fun s v u => .of_eq rfl)
  have G14 : ∀ base : Heap, FnOk P w K mg base CX0 1 f14 (PySem.W.fnOf "__init__" "TooMany.__init__" (defArgs (inClass (top 16) 0)) (defBody (inClass (top 16) 0)) (defScope (inClass (top 16) 0)) .none kV14 dc14 pm14 an14 cd14 ct14) ["self", fld 14] (spInit C14 (fld 14)) := fun base => okc (f := "most") (by decide +kernel) (ok_xinit F14 PySem.F.store_OverflowError T14 (scX rfl rfl rfl (by decide +kernel) (by decide +kernel) (by decide +kernel)) rfl (by decide +kernel) (by decide +kernel) (by decide +kernel) (by decide +kernel))
  have MM : ∀ base, M15 P w K mg base (cOf [C0, C1, C2, C3, C4, C5, C6, C7, C8, C9, C10, C11, C12, C13, C14]) (cOf [f0, f1, f2, f3, f4, f5, f6, f7, f8, f9, f10, f11, f12, f13, f14]) (fun i => ([(PySem.W.fnOf "__init__" "BadSettings.__init__" (defArgs (inClass (top 2) 0)) (defBody (inClass (top 2) 0)) (defScope (inClass (top 2) 0)) .none kV0 dc0 pm0 an0 cd0 ct0),
    (PySem.W.fnOf "__init__" "BadStanding.__init__" (defArgs (inClass (top 3) 0)) (defBody (inClass (top 3) 0)) (defScope (inClass (top 3) 0)) .none kV1 dc1 pm1 an1 cd1 ct1),
    (PySem.W.fnOf "__init__" "BadStarts.__init__" (defArgs (inClass (top 4) 0)) (defBody (inClass (top 4) 0)) (defScope (inClass (top 4) 0)) .none kV2 dc2 pm2 an2 cd2 ct2),
    (PySem.W.fnOf "__init__" "BadSwitches.__init__" (defArgs (inClass (top 5) 0)) (defBody (inClass (top 5) 0)) (defScope (inClass (top 5) 0)) .none kV3 dc3 pm3 an3 cd3 ct3),
    (PySem.W.fnOf "__init__" "BadPlaces.__init__" (defArgs (inClass (top 6) 0)) (defBody (inClass (top 6) 0)) (defScope (inClass (top 6) 0)) .none kV4 dc4 pm4 an4 cd4 ct4),
    (PySem.W.fnOf "__init__" "BadModes.__init__" (defArgs (inClass (top 7) 0)) (defBody (inClass (top 7) 0)) (defScope (inClass (top 7) 0)) .none kV5 dc5 pm5 an5 cd5 ct5),
    (PySem.W.fnOf "__init__" "BadRun.__init__" (defArgs (inClass (top 8) 0)) (defBody (inClass (top 8) 0)) (defScope (inClass (top 8) 0)) .none kV6 dc6 pm6 an6 cd6 ct6),
    (PySem.W.fnOf "__init__" "BadNode.__init__" (defArgs (inClass (top 9) 0)) (defBody (inClass (top 9) 0)) (defScope (inClass (top 9) 0)) .none kV7 dc7 pm7 an7 cd7 ct7),
    (PySem.W.fnOf "__init__" "BadPaper.__init__" (defArgs (inClass (top 10) 0)) (defBody (inClass (top 10) 0)) (defScope (inClass (top 10) 0)) .none kV8 dc8 pm8 an8 cd8 ct8),
    (PySem.W.fnOf "__init__" "BadWindow.__init__" (defArgs (inClass (top 11) 0)) (defBody (inClass (top 11) 0)) (defScope (inClass (top 11) 0)) .none kV9 dc9 pm9 an9 cd9 ct9),
    (PySem.W.fnOf "__init__" "BadPlan.__init__" (defArgs (inClass (top 12) 0)) (defBody (inClass (top 12) 0)) (defScope (inClass (top 12) 0)) .none kV10 dc10 pm10 an10 cd10 ct10),
    (PySem.W.fnOf "__init__" "BadText.__init__" (defArgs (inClass (top 13) 0)) (defBody (inClass (top 13) 0)) (defScope (inClass (top 13) 0)) .none kV11 dc11 pm11 an11 cd11 ct11),
    (PySem.W.fnOf "__init__" "BadNumber.__init__" (defArgs (inClass (top 14) 0)) (defBody (inClass (top 14) 0)) (defScope (inClass (top 14) 0)) .none kV12 dc12 pm12 an12 cd12 ct12),
    (PySem.W.fnOf "__init__" "Missing.__init__" (defArgs (inClass (top 15) 0)) (defBody (inClass (top 15) 0)) (defScope (inClass (top 15) 0)) .none kV13 dc13 pm13 an13 cd13 ct13),
    (PySem.W.fnOf "__init__" "TooMany.__init__" (defArgs (inClass (top 16) 0)) (defBody (inClass (top 16) 0)) (defScope (inClass (top 16) 0)) .none kV14 dc14 pm14 an14 cd14 ct14)] : List FuncData).getD i (PySem.W.fnOf "__init__" "BadSettings.__init__" (defArgs (inClass (top 2) 0)) (defBody (inClass (top 2) 0)) (defScope (inClass (top 2) 0)) .none kV0 dc0 pm0 an0 cd0 ct0)) := fun base => ⟨upto13 ⟨X0, X1, X2, X3, X4, X5, X6, X7, X8, X9, X10, X11, X12⟩, X13, X14,
    upto15 ⟨G0 base, G1 base, G2 base, G3 base, G4 base, G5 base, G6 base, G7 base, G8 base, G9 base, G10 base, G11 base, G12 base, G13 base, G14 base⟩,
    upto15 ⟨B0, B1, B2, B3, B4, B5, B6, B7, B8, B9, B10, B11, B12, B13, B14⟩,
    upto15 ⟨D0, D1, D2, D3, D4, D5, D6, D7, D8, D9, D10, D11, D12, D13, D14⟩⟩
  exact ok_law FL TT TL0 CC MM (fun s v => .of_eq rfl) FB bB FN bN FV bV FF bF FK bK
end Ms
open PySem PySem.W PyProof.Rows
set_option maxRecDepth 100000 in
set_option maxHeartbeats 0 in
theorem PySem.Challenge.cw_midswitch_k60_errors_holds : PySem.Challenge.rw_midswitch_k60_errors.Holds := by
  w_on; o_law; k_head; (case hw => w_witness2)
  k_fill
  refine Ms.walk_known (l := PySem.Challenge.rw_midswitch_k60_errors) rfl rfl (fun w h Y => PySem.W.kIn_of Y) ?R
  case R =>
    intro w mg fa h KX G hmg
    refine' Ms.all_mk KX G hmg ?aS ?a0 ?i0 ?l0 ?d0 ?e0 ?n0 ?o0 ?s0 ?t0 ?h0 ?w0 ?k0 ?p0 ?ga0 ?gg0 ?x0 ?y0 ?u0 ?m0 ?a1 ?i1 ?l1 ?d1 ?e1 ?n1 ?o1 ?s1 ?t1 ?h1 ?w1 ?k1 ?p1 ?ga1 ?gg1 ?x1 ?y1 ?u1 ?m1 ?a2 ?i2 ?l2 ?d2 ?e2 ?n2 ?o2 ?s2 ?t2 ?h2 ?w2 ?k2 ?p2 ?ga2 ?gg2 ?x2 ?y2 ?u2 ?m2 ?a3 ?i3 ?l3 ?d3 ?e3 ?n3 ?o3 ?s3 ?t3 ?h3 ?w3 ?k3 ?p3 ?ga3 ?gg3 ?x3 ?y3 ?u3 ?m3 ?a4 ?i4 ?l4 ?d4 ?e4 ?n4 ?o4 ?s4 ?t4 ?h4 ?w4 ?k4 ?p4 ?ga4 ?gg4 ?x4 ?y4 ?u4 ?m4 ?a5 ?i5 ?l5 ?d5 ?e5 ?n5 ?o5 ?s5 ?t5 ?h5 ?w5 ?k5 ?p5 ?ga5 ?gg5 ?x5 ?y5 ?u5 ?m5 ?a6 ?i6 ?l6 ?d6 ?e6 ?n6 ?o6 ?s6 ?t6 ?h6 ?w6 ?k6 ?p6 ?ga6 ?gg6 ?x6 ?y6 ?u6 ?m6 ?a7 ?i7 ?l7 ?d7 ?e7 ?n7 ?o7 ?s7 ?t7 ?h7 ?w7 ?k7 ?p7 ?ga7 ?gg7 ?x7 ?y7 ?u7 ?m7 ?a8 ?i8 ?l8 ?d8 ?e8 ?n8 ?o8 ?s8 ?t8 ?h8 ?w8 ?k8 ?p8 ?ga8 ?gg8 ?x8 ?y8 ?u8 ?m8 ?a9 ?i9 ?l9 ?d9 ?e9 ?n9 ?o9 ?s9 ?t9 ?h9 ?w9 ?k9 ?p9 ?ga9 ?gg9 ?x9 ?y9 ?u9 ?m9 ?a10 ?i10 ?l10 ?d10 ?e10 ?n10 ?o10 ?s10 ?t10 ?h10 ?w10 ?k10 ?p10 ?ga10 ?gg10 ?x10 ?y10 ?u10 ?m10 ?a11 ?i11 ?l11 ?d11 ?e11 ?n11 ?o11 ?s11 ?t11 ?h11 ?w11 ?k11 ?p11 ?ga11 ?gg11 ?x11 ?y11 ?u11 ?m11 ?a12 ?i12 ?l12 ?d12 ?e12 ?n12 ?o12 ?s12 ?t12 ?h12 ?w12 ?k12 ?p12 ?ga12 ?gg12 ?x12 ?y12 ?u12 ?m12 ?a13 ?i13 ?l13 ?d13 ?e13 ?n13 ?o13 ?s13 ?t13 ?h13 ?w13 ?k13 ?p13 ?ga13 ?gg13 ?x13 ?y13 ?u13 ?m13 ?a14 ?i14 ?l14 ?d14 ?e14 ?n14 ?o14 ?s14 ?t14 ?h14 ?w14 ?k14 ?p14 ?ga14 ?gg14 ?x14 ?y14 ?u14 ?m14 ?q1 ?q2 ?aB ?lB ?dB ?eB ?aN ?lN ?dN ?eN ?aV ?lV ?dV ?eV ?aK ?lK ?dK ?eK ?aF ?lF ?dF ?eF ?aL ?lL ?dL ?eL ?z_list ?z_len ?z_int ?z_isinstance ?z_repr ?z_ValueError ?z_LookupError ?z_OverflowError ?z_KeyError ?z_IndexError ?z_range ?z_min ?z_enumerate ?kk ?kS ?kV ?kL ?kO ?kI
    (case aS => k_is)
    (case a0 => k_is)
    (case i0 => k_is)
    (case l0 => k_is)
    (case d0 => k_is)
    (case e0 => k_is)
    (case n0 => kx_is)
    (case o0 => kx_is)
    (case s0 => k_is)
    (case t0 => k_is)
    (case h0 => k_is)
    (case w0 => k_is)
    (case k0 => k_is)
    (case p0 => k_is)
    (case ga0 => k_is)
    (case gg0 => k_is)
    (case x0 => k_is)
    (case y0 => k_is)
    (case u0 => k_is)
    (case m0 => k_is)
    (case a1 => k_is)
    (case i1 => k_is)
    (case l1 => k_is)
    (case d1 => k_is)
    (case e1 => k_is)
    (case n1 => kx_is)
    (case o1 => kx_is)
    (case s1 => k_is)
    (case t1 => k_is)
    (case h1 => k_is)
    (case w1 => k_is)
    (case k1 => k_is)
    (case p1 => k_is)
    (case ga1 => k_is)
    (case gg1 => k_is)
    (case x1 => k_is)
    (case y1 => k_is)
    (case u1 => k_is)
    (case m1 => k_is)
    (case a2 => k_is)
    (case i2 => k_is)
    (case l2 => k_is)
    (case d2 => k_is)
    (case e2 => k_is)
    (case n2 => kx_is)
    (case o2 => kx_is)
    (case s2 => k_is)
    (case t2 => k_is)
    (case h2 => k_is)
    (case w2 => k_is)
    (case k2 => k_is)
    (case p2 => k_is)
    (case ga2 => k_is)
    (case gg2 => k_is)
    (case x2 => k_is)
    (case y2 => k_is)
    (case u2 => k_is)
    (case m2 => k_is)
    (case a3 => k_is)
    (case i3 => k_is)
    (case l3 => k_is)
    (case d3 => k_is)
    (case e3 => k_is)
    (case n3 => kx_is)
    (case o3 => kx_is)
    (case s3 => k_is)
    (case t3 => k_is)
    (case h3 => k_is)
    (case w3 => k_is)
    (case k3 => k_is)
    (case p3 => k_is)
    (case ga3 => k_is)
    (case gg3 => k_is)
    (case x3 => k_is)
    (case y3 => k_is)
    (case u3 => k_is)
    (case m3 => k_is)
    (case a4 => k_is)
    (case i4 => k_is)
    (case l4 => k_is)
    (case d4 => k_is)
    (case e4 => k_is)
    (case n4 => kx_is)
    (case o4 => kx_is)
    (case s4 => k_is)
    (case t4 => k_is)
    (case h4 => k_is)
    (case w4 => k_is)
    (case k4 => k_is)
    (case p4 => k_is)
    (case ga4 => k_is)
    (case gg4 => k_is)
    (case x4 => k_is)
    (case y4 => k_is)
    (case u4 => k_is)
    (case m4 => k_is)
    (case a5 => k_is)
    (case i5 => k_is)
    (case l5 => k_is)
    (case d5 => k_is)
    (case e5 => k_is)
    (case n5 => kx_is)
    (case o5 => kx_is)
    (case s5 => k_is)
    (case t5 => k_is)
    (case h5 => k_is)
    (case w5 => k_is)
    (case k5 => k_is)
    (case p5 => k_is)
    (case ga5 => k_is)
    (case gg5 => k_is)
    (case x5 => k_is)
    (case y5 => k_is)
    (case u5 => k_is)
    (case m5 => k_is)
    (case a6 => k_is)
    (case i6 => k_is)
    (case l6 => k_is)
    (case d6 => k_is)
    (case e6 => k_is)
    (case n6 => kx_is)
    (case o6 => kx_is)
    (case s6 => k_is)
    (case t6 => k_is)
    (case h6 => k_is)
    (case w6 => k_is)
    (case k6 => k_is)
    (case p6 => k_is)
    (case ga6 => k_is)
    (case gg6 => k_is)
    (case x6 => k_is)
    (case y6 => k_is)
    (case u6 => k_is)
    (case m6 => k_is)
    (case a7 => k_is)
    (case i7 => k_is)
    (case l7 => k_is)
    (case d7 => k_is)
    (case e7 => k_is)
    (case n7 => kx_is)
    (case o7 => kx_is)
    (case s7 => k_is)
    (case t7 => k_is)
    (case h7 => k_is)
    (case w7 => k_is)
    (case k7 => k_is)
    (case p7 => k_is)
    (case ga7 => k_is)
    (case gg7 => k_is)
    (case x7 => k_is)
    (case y7 => k_is)
    (case u7 => k_is)
    (case m7 => k_is)
    (case a8 => k_is)
    (case i8 => k_is)
    (case l8 => k_is)
    (case d8 => k_is)
    (case e8 => k_is)
    (case n8 => kx_is)
    (case o8 => kx_is)
    (case s8 => k_is)
    (case t8 => k_is)
    (case h8 => k_is)
    (case w8 => k_is)
    (case k8 => k_is)
    (case p8 => k_is)
    (case ga8 => k_is)
    (case gg8 => k_is)
    (case x8 => k_is)
    (case y8 => k_is)
    (case u8 => k_is)
    (case m8 => k_is)
    (case a9 => k_is)
    (case i9 => k_is)
    (case l9 => k_is)
    (case d9 => k_is)
    (case e9 => k_is)
    (case n9 => kx_is)
    (case o9 => kx_is)
    (case s9 => k_is)
    (case t9 => k_is)
    (case h9 => k_is)
    (case w9 => k_is)
    (case k9 => k_is)
    (case p9 => k_is)
    (case ga9 => k_is)
    (case gg9 => k_is)
    (case x9 => k_is)
    (case y9 => k_is)
    (case u9 => k_is)
    (case m9 => k_is)
    (case a10 => k_is)
    (case i10 => k_is)
    (case l10 => k_is)
    (case d10 => k_is)
    (case e10 => k_is)
    (case n10 => kx_is)
    (case o10 => kx_is)
    (case s10 => k_is)
    (case t10 => k_is)
    (case h10 => k_is)
    (case w10 => k_is)
    (case k10 => k_is)
    (case p10 => k_is)
    (case ga10 => k_is)
    (case gg10 => k_is)
    (case x10 => k_is)
    (case y10 => k_is)
    (case u10 => k_is)
    (case m10 => k_is)
    (case a11 => k_is)
    (case i11 => k_is)
    (case l11 => k_is)
    (case d11 => k_is)
    (case e11 => k_is)
    (case n11 => kx_is)
    (case o11 => kx_is)
    (case s11 => k_is)
    (case t11 => k_is)
    (case h11 => k_is)
    (case w11 => k_is)
    (case k11 => k_is)
    (case p11 => k_is)
    (case ga11 => k_is)
    (case gg11 => k_is)
    (case x11 => k_is)
    (case y11 => k_is)
    (case u11 => k_is)
    (case m11 => k_is)
    (case a12 => k_is)
    (case i12 => k_is)
    (case l12 => k_is)
    (case d12 => k_is)
    (case e12 => k_is)
    (case n12 => kx_is)
    (case o12 => kx_is)
    (case s12 => k_is)
    (case t12 => k_is)
    (case h12 => k_is)
    (case w12 => k_is)
    (case k12 => k_is)
    (case p12 => k_is)
    (case ga12 => k_is)
    (case gg12 => k_is)
    (case x12 => k_is)
    (case y12 => k_is)
    (case u12 => k_is)
    (case m12 => k_is)
    (case a13 => k_is)
    (case i13 => k_is)
    (case l13 => k_is)
    (case d13 => k_is)
    (case e13 => k_is)
    (case n13 => kx_is)
    (case o13 => kx_is)
    (case s13 => k_is)
    (case t13 => k_is)
    (case h13 => k_is)
    (case w13 => k_is)
    (case k13 => k_is)
    (case p13 => k_is)
    (case ga13 => k_is)
    (case gg13 => k_is)
    (case x13 => k_is)
    (case y13 => k_is)
    (case u13 => k_is)
    (case m13 => k_is)
    (case a14 => k_is)
    (case i14 => k_is)
    (case l14 => k_is)
    (case d14 => k_is)
    (case e14 => k_is)
    (case n14 => kx_is)
    (case o14 => kx_is)
    (case s14 => k_is)
    (case t14 => k_is)
    (case h14 => k_is)
    (case w14 => k_is)
    (case k14 => k_is)
    (case p14 => k_is)
    (case ga14 => k_is)
    (case gg14 => k_is)
    (case x14 => k_is)
    (case y14 => k_is)
    (case u14 => k_is)
    (case m14 => k_is)
    (case q1 => k_is)
    (case q2 => k_is)
    (case aB => k_is)
    (case lB => k_is)
    (case dB => k_is)
    (case eB => k_is)
    (case aN => k_is)
    (case lN => k_is)
    (case dN => k_is)
    (case eN => k_is)
    (case aV => k_is)
    (case lV => k_is)
    (case dV => k_is)
    (case eV => k_is)
    (case aK => k_is)
    (case lK => k_is)
    (case dK => k_is)
    (case eK => k_is)
    (case aF => k_is)
    (case lF => k_is)
    (case dF => k_is)
    (case eF => k_is)
    (case aL => k_is)
    (case lL => k_is)
    (case dL => k_is)
    (case eL => k_is)
    (case z_list => k_is)
    (case z_len => k_is)
    (case z_int => k_is)
    (case z_isinstance => k_is)
    (case z_repr => k_is)
    (case z_ValueError => k_is)
    (case z_LookupError => k_is)
    (case z_OverflowError => k_is)
    (case z_KeyError => k_is)
    (case z_IndexError => k_is)
    (case z_range => k_is)
    (case z_min => k_is)
    (case z_enumerate => k_is)
    (case kk => kernel_rfl)
    (case kS => kernel_rfl)
    (case kV => kernel_rfl)
    (case kL => kernel_rfl)
    (case kO => kernel_rfl)
    (case kI => kernel_rfl)
#print axioms PySem.Challenge.cw_midswitch_k60_errors_holds
