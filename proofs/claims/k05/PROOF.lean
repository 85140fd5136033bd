import PyProof.Rows.All
import Wide.All
import OpenK.AllK
import Wide.FinOn
import PyProof.EqAt
import PyProof.EqKinds
import PyProof.TupleCall
import HandS.ForExc
import HandS.ForMost
import HandS.Dict
import HandS.Comp
import HandS.IsInst
import HandS.StrMore
import PyProof.StrBlock2
import HandS.Zip
import HandS.Walk
import KE.GoesNew
import KE.GoesMore
import HandS.TupAny
import HandS.ExcInit
import HandS.ExcField
import HandS.Star
import HandS.Lambda
import HandS.EndTab
import KE.KNest
import KE.KNestM
import KE.KIntText
import HandS.TupMul
import HandS.MakeKw
import PySem.Challenge.RW_midswitch_k05_whole_requests_made
set_option Elab.async false
set_option linter.all false
set_option maxRecDepth 100000
set_option maxHeartbeats 4000000
namespace Ms
open PySem PySem.Spec PyProof.Rows L2
section
variable {P : Program} {w : World} {K : PySem.W.Frag} {mg : Str → Option Value} {base : Heap}
theorem deeper_guards {A : Around} {env : Env} (h : A.guards = some []) : (A.deeper env).guards = some [] := h
/-- a def is run where it is known that no guard stands (repr asks for that) -/
theorem run_known {x qual : Str} {st : Stmt} {f : Addr} {fd : FuncData} {N ps : List Str} {k : Nat} (F : Fun K x qual st f fd) (S : FnScope N ps (defScope st))
    {A : Around} {outer : List Env} {s : Shared} {H : Hp} {args : Args} {us : List Value} {vs : List V} {Q : VK} {E : XK}
    (gA : A.guards = some []) (rm : Room (k + 1) A) (st0 : Env0 P w K mg base A outer s H) (bd : BindsTo s fd args (ps.zip us)) (rel : Vals vs us) (ln : vs.length = ps.length)
    (walk : ∀ cdv : Value, Room k (A.deeper (envOfC qual (defScope st) s.heap.objs.size f cdv)) →
      ∃ t, PSs (cxOf CX0 P w K mg base N qual (defScope st) f cdv A outer s H E).nox (defBody st) t ∧ t { nx := fun _ H' => Q .non H', rt := Q } (start N vs) H) :
    codeAny (model P w) A (.call (.ref f) args) (CR CX0 outer P w H s Q E) s := by
  obtain ⟨oc, od, kV, doc, pm, an, cdv, ct, osl, rfl, atK, code⟩ := F.ex
  have inH : K.In s.heap := st0.mod.kin.keeps fun b o q => (st0.bs b o q).1
  have noLim : s.heap.NoLimit := st0.mod.nolimit.keeps fun b o q => (st0.bs b o q).1
  have kinds : ∀ y ∈ ps.zip us, (defScope st).names.lookup y.1 = some .local ∨ ((defScope st).names.lookup y.1 = some .cell ∧ ((cellsFrom (s.heap.objs.size + 1) (defScope st).names []).lookup y.1).isSome = true) := by
    rintro ⟨n, v⟩ hy
    rcases S.par n (List.of_mem_zip hy).1 with z | z
    · exact Or.inl z
    · exact Or.inr ⟨z, PySem.W.cellsFrom_some _ _ _ (.inl z)⟩
  refine codeAny_call_function rm.depth (inH _ _ atK) rfl S.co S.gen rfl (PySem.W.codeRec_of inH code) (bd _ _ _ _ ?_)
  refine wpAny_newFunctionEnv_cells S.kind kinds fun env eq s1 inC => ?_
  subst eq
  refine And.intro (noLim.keeps inC.toInCall.keep) (codeAny_func ?_)
  obtain ⟨t, derives, reads⟩ := walk cdv (rm.deeper _)
  have I := inv_start (CX := CX0) (P := P) (mg := mg) (base := base) (E := E) S rm.hd st0 ln rel inC
  refine wpAny_mono (derives.nox.run [] s1 (start N vs) H _ I reads) (fun fl s' hs => ?_) fun e s' hs => hs
  cases fl with
  | ret u =>
    obtain ⟨v, σ', H', J, rv, q⟩ := hs
    exact ⟨v, H', J.os, J.bare, J.base, J.hok, rv, q⟩
  | next =>
    obtain ⟨σ', H', J, q⟩ := hs
    exact ⟨V.non, H', J.os, J.bare, J.base, J.hok, rfl, q⟩
  | brk => obtain ⟨_, _, _, q⟩ := hs; exact q.elim
  | cont => obtain ⟨_, _, _, q⟩ := hs; exact q.elim

/-- what a law's own def has to show: at a list of at most 63 ints it hands back True, where no guard stands -/
def LawRun (P : Program) (w : World) (K : PySem.W.Frag) (mg : Str → Option Value) (fa : Addr) : Prop :=
  ∀ (base : Heap) (H : Hp) (s : Shared) (a : Addr) (ns : List Int), K.In base → base.Ns mainGlobals mg → SqL K H a (ns.map V.int) → ns.length ≤ 63 → Env0 P w K mg base callerA [] s H →
    codeAny (model P w) callerA (.call (.ref fa) ⟨[.ref a], []⟩) (CR CX0 [] P w H s (fun v _ => v = .bl true) fun _ _ _ => False) s
/-- the script stands alone in the heap that is told: in H only at a, if at all -/
structure Alone (H : Hp) (h : Heap) (K : PySem.W.Frag) (a : Addr) : Prop where
  only : Only H
  here : ∀ b, H b ≠ none → b = a
  off : H a ≠ none → K.lookup a = none
theorem Alone.none {H : Hp} {h : Heap} {K : PySem.W.Frag} {a b : Addr} {o p : Obj} (x : Alone H h K a) (e : h.get? b = some o) (ea : h.get? a = some p) (d : o.data ≠ p.data) : H b = none := by
  cases q : H b with
  | none => rfl
  | some u =>
    have z := x.here b (by rw [q]; exact fun z => nomatch z)
    subst z
    rw [ea] at e
    cases e
    exact absurd rfl d
theorem Alone.ns {H : Hp} {h : Heap} {K : PySem.W.Frag} {a b : Addr} {vs : Array Value} {m : Str → Option Value} (x : Alone H h K a) (ea : h.get? a = some { cls := .type "list", data := .seq vs }) (n : h.Ns b m) : (hidT h H).Ns b m := by
  obtain ⟨o, es, ep, e, d, r⟩ := n
  refine ⟨o, es, ep, hidT_get e (x.none e ea ?_), d, r⟩
  rw [d]
  intro z
  cases z
theorem Alone.kin {H : Hp} {h : Heap} {K : PySem.W.Frag} {a : Addr} (x : Alone H h K a) (X : K.In h) : K.In (hidT h H) := by
  intro b o e
  refine hidT_get (X b o e) ?_
  cases q : H b with
  | none => rfl
  | some u =>
    have z := x.here b (by rw [q]; exact fun z => nomatch z)
    subst z
    rw [x.off (by rw [q]; exact fun z => nomatch z)] at e
    cases e
theorem law_ends {fa a : Addr} {s : Shared} {vs : List Value} {ns : List Int} {mb : Str → Option Value} {H : Hp} (R : LawRun P w K mg fa) (al : Alone H s.heap K a)
    (X : K.In s.heap) (g : s.heap.Ns mainGlobals mg) (b : s.heap.Ns builtinsNs mb) (bb : ∀ x : Str, x ≠ "__name__" → mb x = bootBuiltins x) (lim : s.heap.NoLimit) (gs : s.gens = #[])
    (ea : s.heap.get? a = some { cls := .type "list", data := .seq vs.toArray }) (hS : SqL K H a (ns.map V.int)) (hl : ns.length ≤ 63) (ok : HOk P w H s.heap) :
    codeAny (model P w) callerA (.call (.ref fa) ⟨[.ref a], []⟩) (fun r s' => r = .ok (.ret (.bool true)) ∧ OldK s.heap s'.heap ∧ s'.os = s.os ∧ AllBare s'.gens) s := by
  have M : Mod K mg (hidT s.heap H) := by
    refine ⟨al.kin X, al.ns ea g, ⟨mb, al.ns ea b, bb⟩, ?_⟩
    obtain ⟨mc, l1, l2⟩ := lim
    exact ⟨mc, al.ns ea l1, l2⟩
  have st0 : Env0 P w K mg (hidT s.heap H) callerA [] s H := by
    refine ⟨rfl, M, fun b o e => of_hidT e, Nat.le_of_eq (hidT_size _ _), trivial, fun b hb => ?_, ok, AllBare.of_eq gs⟩
    cases (show b ∈ ([] : List Addr) from hb)
  refine codeAny_mono (R _ H s a ns M.kin M.glob hS hl st0) fun r s' q => ?_
  match r, q with
  | .error e, q => exact False.elim q
  | .ok (.next), q => exact False.elim q
  | .ok (.brk), q => exact False.elim q
  | .ok (.cont), q => exact False.elim q
  | .ok (.ret u), q =>
    obtain ⟨v, H', eos, bare, un, ok', rv, qv⟩ := q
    have qv' : v = .bl true := qv
    subst qv'
    obtain rfl : u = Value.bool true := rv
    refine And.intro rfl (And.intro (OldK.of_keep fun c o e => ?_) (And.intro eos bare))
    rcases al.only c with z | ⟨ob, xs, z⟩
    · exact un.keep c o e z (fun y => by cases (show c ∈ ([] : List Addr) from y)) (by simp)
    · have h1 := (ok c _ z).1
      have h2 := (ok' c _ (un.frzs c ob _ z)).1
      rw [e] at h1
      cases h1
      exact h2
theorem law_known {fa a : Addr} {s : Shared} {vs : List Value} {ns : List Int} {mb : Str → Option Value} (R : LawRun P w K mg fa)
    (X : K.In s.heap) (g : s.heap.Ns mainGlobals mg) (b : s.heap.Ns builtinsNs mb) (bb : ∀ x : Str, x ≠ "__name__" → mb x = bootBuiltins x) (lim : s.heap.NoLimit) (gs : s.gens = #[])
    (ea : s.heap.get? a = some { cls := .type "list", data := .seq vs.toArray }) (hi : IntsAre vs ns) (hl : ns.length ≤ 63) :
    codeAny (model P w) callerA (.call (.ref fa) ⟨[.ref a], []⟩) (fun r s' => r = .ok (.ret (.bool true)) ∧ OldK s.heap s'.heap ∧ s'.os = s.os ∧ AllBare s'.gens) s := by
  have rel := vals_ints hi
  have ll := hi.length
  have hl2 : ns.length ≤ sizeLine := Nat.le_trans hl (by decide)
  cases lk : K.lookup a with
  | some o =>
    have e := X a o lk
    rw [ea] at e
    cases e
    refine law_ends (H := fun _ => Option.none) R ⟨fun _ => .inl rfl, fun _ z => absurd rfl z, fun z => absurd rfl z⟩ X g b bb lim gs ea ?_ hl (fun _ _ z => by cases (show (Option.none : Option HO) = some _ from z))
    refine .inr ⟨_, vs.toArray, _, lk, rfl, rfl, rfl, ?_, by simpa using rel⟩
    rw [List.size_toArray, ll]
    exact hl2
  | none =>
    let o0 : HO := .frz { cls := .type "list", data := .seq vs.toArray } (.lst (ns.map V.int))
    have at0 : ∀ c u, (fun c => if c = a then some o0 else Option.none) c = some u → c = a ∧ u = o0 := fun c u z => by
      by_cases hc : c = a
      · have z' := (if_pos hc).symm.trans z
        exact ⟨hc, (Option.some.inj z').symm⟩
      · have z' := (if_neg hc).symm.trans z
        cases z'
    refine law_ends (H := fun c => if c = a then some o0 else Option.none) R ⟨fun c => ?_, fun c z => ?_, fun _ => lk⟩ X g b bb lim gs ea (.inl (.inr ⟨_, if_pos rfl⟩)) hl (fun c u z => ?_)
    · by_cases hc : c = a
      · exact .inr ⟨_, _, if_pos hc⟩
      · exact .inl (if_neg hc)
    · by_cases hc : c = a
      · exact hc
      · exact absurd (if_neg hc) z
    · obtain ⟨hc, hu⟩ := at0 c u z
      subst hc
      subst hu
      exact ⟨ea, by rw [List.length_map]; exact hl2, vs, _, rel, ea⟩
/-- the end of a law's row -/
theorem walk_known {l : PySem.W.OpenLaw} {q : Program} {loose : List Str} {XP : (Str → Option Value) → Heap → Prop} {YP : World → Heap → Prop} {d : DefRec} {K : Params → PySem.W.Frag} (hn : l.most = some 63) (hdf : d.params.defaults = [])
    (hY : ∀ (w : World) (h : Heap), YP w h → (K w.params).In h)
    (R : ∀ (w : World) (mg : Str → Option Value) (fa : Addr) (h : Heap), (K w.params).In h → h.Ns mainGlobals mg → mg d.name = some (.ref fa) → LawRun l.prog w (K w.params) mg fa) :
    PySem.W.WalkO q loose XP YP l.row.toRowW d [] (fun f vs => PySem.call f vs) := by
  refine Att.attach_call hn hdf fun w s₀ s₁ mg mb fa o pm cd doc a vs ns G Y ho hd hcd hmg hobj hints hlen hg => ?_
  have KX := hY w _ Y
  exact law_known (R w mg fa _ KX G.T.g hmg) KX G.T.g G.T.b G.T.builtins G.T.nolimit hg hobj hints hlen
end

/-! ### data, and its repr -/
mutual
/-- v is the data d; its lists and dicts are none of the machine's two -/
inductive Dq (K : PySem.W.Frag) (H : Hp) (m l : Addr) : V → PyData → Prop
  | non : Dq K H m l .non .none
  | bl (b : Bool) : Dq K H m l (.bl b) (.bool b)
  | int (i : Int) : Dq K H m l (.int i) (.int i)
  | str (x : Str) : Dq K H m l (.str x) (.str x)
  | lst {a : Addr} {xs : List V} {ds : List PyData} : H a = some (.lst xs) → a ≠ m → a ≠ l → DqAll K H m l xs ds → Dq K H m l (.ref a) (.list ds)
  | tup {a : Addr} {xs : List V} {ds : List PyData} : SqT K H a xs → DqAll K H m l xs ds → Dq K H m l (.ref a) (.tuple ds)
  | dct {a : Addr} : H a = some (.dK []) → a ≠ m → a ≠ l → Dq K H m l (.ref a) (.dict [])
inductive DqAll (K : PySem.W.Frag) (H : Hp) (m l : Addr) : List V → List PyData → Prop
  | nil : DqAll K H m l [] []
  | cons {v : V} {vs : List V} {d : PyData} {ds : List PyData} : Dq K H m l v d → DqAll K H m l vs ds → DqAll K H m l (v :: vs) (d :: ds)
end
/-- from one heap to another one: what is not the machine's stands, and is not the machine's then -/
structure Kept (m l l' : Addr) (H H' : Hp) : Prop where
  keep : ∀ b o, H b = some o → b ≠ m → b ≠ l → H' b = some o
  ne : ∀ b o, H b = some o → b ≠ l → b ≠ l'
  am : ∃ z, H m = some (.dK z)
  al : ∃ z, H l = some (.lst z)
theorem Kept.tup {K : PySem.W.Frag} {m l l' a : Addr} {H H' : Hp} {xs : List V} (k : Kept m l l' H H') (h : SqT K H a xs) : SqT K H' a xs := by
  obtain ⟨z1, e1⟩ := k.am
  obtain ⟨z2, e2⟩ := k.al
  rcases h with (h | ⟨o, h⟩) | h
  · exact .inl (.inl (k.keep a _ h (ne_of h e1 (by intro z; cases z)) (ne_of h e2 (by intro z; cases z))))
  · exact .inl (.inr ⟨o, k.keep a _ h (ne_of h e1 (by intro z; cases z)) (ne_of h e2 (by intro z; cases z))⟩)
  · exact .inr h
mutual
theorem Dq.step {K : PySem.W.Frag} {m l l' : Addr} {H H' : Hp} (k : Kept m l l' H H') : ∀ (d : PyData) (v : V), Dq K H m l v d → Dq K H' m l' v d
  | .none, _, h => by cases h; exact .non
  | .bool b, _, h => by cases h; exact .bl b
  | .int i, _, h => by cases h; exact .int i
  | .str x, _, h => by cases h; exact .str x
  | .list ds, _, h => by
    cases h with
    | lst e n1 n2 t => exact .lst (k.keep _ _ e n1 n2) n1 (k.ne _ _ e n2) (DqAll.step k ds _ t)
  | .tuple ds, _, h => by
    cases h with
    | tup e t => exact .tup (k.tup e) (DqAll.step k ds _ t)
  | .dict _, _, h => by
    cases h with
    | dct e n1 n2 => exact .dct (k.keep _ _ e n1 n2) n1 (k.ne _ _ e n2)
theorem DqAll.step {K : PySem.W.Frag} {m l l' : Addr} {H H' : Hp} (k : Kept m l l' H H') : ∀ (ds : List PyData) (vs : List V), DqAll K H m l vs ds → DqAll K H' m l' vs ds
  | [], _, h => by cases h; exact .nil
  | d :: ds, _, h => by
    cases h with
    | cons h1 h2 => exact .cons (Dq.step k d _ h1) (DqAll.step k ds _ h2)
end
section
variable {X : Cx} {pins : List (Addr × Obj)} {σ : L2.St} {H : Hp} {s : Shared} {m l : Addr}
mutual
theorem Dq.reads (I : Inv X pins σ H s) (hs : H sysModules = none) : ∀ (d : PyData) (v : V) (u : Value), Dq X.K H m l v d → RelV v u → ∃ as, Reads s.heap u d as ∧ sysModules ∉ as
  | .none, _, _, h, r => by cases h; cases r; exact ⟨_, .none, by simp⟩
  | .bool b, _, _, h, r => by cases h; cases r; exact ⟨_, .bool b, by simp⟩
  | .int i, _, _, h, r => by cases h; obtain ⟨t, rfl⟩ := r; exact ⟨_, .int i t, by simp⟩
  | .str x, _, _, h, r => by cases h; obtain ⟨t, rfl⟩ := r; exact ⟨_, .str x t, by simp⟩
  | .list ds, _, _, h, r => by
    cases h with
    | lst e n1 n2 t =>
      cases r
      obtain ⟨its, rv, ⟨o, n, ho, hc, _, hd⟩, _⟩ := I.list (SqL.of e)
      obtain ⟨as, q1, q2⟩ := DqAll.reads I hs ds _ its t rv
      refine ⟨_, Reads.list ho hc hd q1, fun z => ?_⟩
      rcases List.mem_cons.mp z with z | z
      · rw [← z, hs] at e; cases e
      · exact q2 z
  | .tuple ds, _, _, h, r => by
    cases h with
    | tup e t =>
      cases r
      obtain ⟨its, rv, ⟨o, ho, hc, n, hd⟩, _⟩ := I.tuple e
      obtain ⟨as, q1, q2⟩ := DqAll.reads I hs ds _ its t rv
      exact ⟨_, Reads.tuple ho hc hd q1, q2⟩
  | .dict _, _, _, h, r => by
    cases h with
    | dct e n1 n2 =>
      cases r
      obtain ⟨z, hd, vs, rel, dd⟩ := dk_of I.hok e
      cases rel
      obtain ⟨o, es, ep, ho, hc, hdat, hlay⟩ := id dd
      have e0 : es.toList = [] := by
        have p := hlay.2.1
        cases q : es.toList with
        | nil => rfl
        | cons z zs => rw [q] at p; cases p
      refine ⟨_, Reads.dict (as := []) (bs := []) ho hc.1 hdat ?_ ?_, ?_⟩
      · rw [e0]; exact .nil
      · rw [e0]; exact .nil
      · intro z
        have z2 := List.mem_singleton.mp (show sysModules ∈ [_] from z)
        rw [← z2, hs] at e
        cases e
theorem DqAll.reads (I : Inv X pins σ H s) (hs : H sysModules = none) : ∀ (ds : List PyData) (vs : List V) (us : List Value), DqAll X.K H m l vs ds → Vals vs us → ∃ as, ReadsAll s.heap us ds as ∧ sysModules ∉ as
  | [], _, _, h, r => by cases h; cases r; exact ⟨_, .nil, by simp⟩
  | d :: ds, _, _, h, r => by
    cases h with
    | cons h1 h2 =>
      cases r with
      | cons r1 r2 =>
        obtain ⟨as, q1, p1⟩ := Dq.reads I hs d _ _ h1 r1
        obtain ⟨bs, q2, p2⟩ := DqAll.reads I hs ds _ _ h2 r2
        exact ⟨_, .cons q1 q2, fun z => (List.mem_append.mp z).elim p1 p2⟩
end
theorem no_sys {o : Obj} (hk : X.K.lookup sysModules = some o) (I : Inv X pins σ H s) : H sysModules = none := (I.bs _ _ (I.ok.mod.kin _ _ hk)).2
end
/-- repr(x) -/
theorem call_repr {X : Cx} {o : Obj} (hg : X.A.guards = some []) (hu : X.A.units + 64 < cLine) (hk : X.K.lookup sysModules = some o) :
    CallR X (.builtin "repr") (fun xs H Q => ∃ x d m l, xs = [x] ∧ Dq X.K H m l x d ∧ d.showable = true ∧ d.depth ≤ 60 ∧ d.shown.length ≤ sizeLine ∧ Q (.str d.shown) H) := by
  intro pins s σ H xs us Q I r h
  obtain ⟨x, d, m, l, rfl, hd, hs, hdep, hlen, q⟩ := h
  obtain ⟨u, rfl, rx⟩ := vals1 r
  obtain ⟨as, rd, na⟩ := Dq.reads I (no_sys hk I) d x u hd rx
  cases rd with
  | none => exact PySem.P.repr_of_none ⟨V.str _, H, I.tok _, ⟨_, rfl⟩, by simpa only [PyData.shown] using q⟩
  | bool b => exact PySem.P.repr_of_bool ⟨V.str _, H, I.tok _, ⟨_, rfl⟩, by simpa only [PyData.shown] using q⟩
  | int i t => exact PySem.P.repr_of_int (by simpa [PyData.showable] using hs) ⟨V.str _, H, I.tok _, ⟨_, rfl⟩, by simpa only [PyData.shown] using q⟩
  | str y t => exact PySem.P.repr_of_str ⟨V.str _, H, I.tok _, ⟨_, rfl⟩, by simpa only [PyData.shown] using q⟩ (by simpa only [PyData.shown] using hlen)
  | list h1 h2 h3 h4 => exact repr_of_reads' (.list h1 h2 h3 h4) hs (fun _ => na) hg (by omega) (fun _ _ e => e) (fun h' u' tk k => ⟨V.str _, H, I.kept k, ⟨_, rfl⟩, q⟩) hlen
  | tuple h1 h2 h3 h4 => exact repr_of_reads' (.tuple h1 h2 h3 h4) hs (fun _ => na) hg (by omega) (fun _ _ e => e) (fun h' u' tk k => ⟨V.str _, H, I.kept k, ⟨_, rfl⟩, q⟩) hlen
  | dict h1 h2 h3 h4 h5 => exact repr_of_reads' (.dict h1 h2 h3 h4 h5) hs (fun _ => na) hg (by omega) (fun _ _ e => e) (fun h' u' tk k => ⟨V.str _, H, I.kept k, ⟨_, rfl⟩, q⟩) hlen

/-! ### the same, of data that is a dict or bears none -/
def plainD : PyData → Bool
  | .dict [] => true
  | d => !d.hasDict
section
variable {X : Cx} {pins : List (Addr × Obj)} {σ : L2.St} {H : Hp} {s : Shared} {m l : Addr}
mutual
theorem Dq.reads0 (I : Inv X pins σ H s) : ∀ (d : PyData) (v : V) (u : Value), Dq X.K H m l v d → RelV v u → ∃ as, Reads s.heap u d as ∧ (d = .dict [] → sysModules ∉ as)
  | .none, _, _, h, r => by cases h; cases r; exact ⟨_, .none, by simp⟩
  | .bool b, _, _, h, r => by cases h; cases r; exact ⟨_, .bool b, by simp⟩
  | .int i, _, _, h, r => by cases h; obtain ⟨t, rfl⟩ := r; exact ⟨_, .int i t, by simp⟩
  | .str x, _, _, h, r => by cases h; obtain ⟨t, rfl⟩ := r; exact ⟨_, .str x t, by simp⟩
  | .list ds, _, _, h, r => by
    cases h with
    | lst e n1 n2 t =>
      cases r
      obtain ⟨its, rv, ⟨o, n, ho, hc, _, hd⟩, _⟩ := I.list (SqL.of e)
      obtain ⟨as, q1⟩ := DqAll.reads0 I ds _ its t rv
      exact ⟨_, Reads.list ho hc hd q1, fun z => nomatch z⟩
  | .tuple ds, _, _, h, r => by
    cases h with
    | tup e t =>
      cases r
      obtain ⟨its, rv, ⟨o, ho, hc, n, hd⟩, _⟩ := I.tuple e
      obtain ⟨as, q1⟩ := DqAll.reads0 I ds _ its t rv
      exact ⟨_, Reads.tuple ho hc hd q1, fun z => nomatch z⟩
  | .dict _, _, _, h, r => by
    cases h with
    | dct e n1 n2 =>
      cases r
      obtain ⟨z, hd, vs, rel, dd⟩ := dk_of I.hok e
      cases rel
      obtain ⟨o, es, ep, ho, hc, hdat, hlay⟩ := id dd
      have e0 : es.toList = [] := by
        have p := hlay.2.1
        cases q : es.toList with
        | nil => rfl
        | cons z zs => rw [q] at p; cases p
      refine ⟨_, Reads.dict (as := []) (bs := []) ho hc.1 hdat ?_ ?_, fun _ z => ?_⟩
      · rw [e0]; exact .nil
      · rw [e0]; exact .nil
      · have z2 := List.mem_singleton.mp (show sysModules ∈ [_] from z)
        rw [← z2] at hd
        exact absurd hd (by decide)
theorem DqAll.reads0 (I : Inv X pins σ H s) : ∀ (ds : List PyData) (vs : List V) (us : List Value), DqAll X.K H m l vs ds → Vals vs us → ∃ as, ReadsAll s.heap us ds as
  | [], _, _, h, r => by cases h; cases r; exact ⟨_, .nil⟩
  | d :: ds, _, _, h, r => by
    cases h with
    | cons h1 h2 =>
      cases r with
      | cons r1 r2 =>
        obtain ⟨as, q1, p1⟩ := Dq.reads0 I d _ _ h1 r1
        obtain ⟨bs, q2⟩ := DqAll.reads0 I ds _ _ h2 r2
        exact ⟨_, .cons q1 q2⟩
end
end
theorem plain_off {d : PyData} {as : List Addr} (p : plainD d = true) (h : d = .dict [] → sysModules ∉ as) : d.hasDict = true → sysModules ∉ as := fun z => by
  cases d with
  | dict kvs =>
    cases kvs with
    | nil => exact h rfl
    | cons a b =>
      have p' : (!(PyData.dict (a :: b)).hasDict) = true := p
      rw [z] at p'
      cases p'
  | _ =>
    have p' := p
    simp only [plainD, Bool.not_eq_true'] at p'
    rw [z] at p'
    cases p'
theorem call_repr0 {X : Cx} (hg : X.A.guards = some []) (hu : X.A.units + 64 < cLine) :
    CallR X (.builtin "repr") (fun xs H Q => ∃ x d m l, xs = [x] ∧ Dq X.K H m l x d ∧ plainD d = true ∧ d.showable = true ∧ d.depth ≤ 60 ∧ d.shown.length ≤ sizeLine ∧ Q (.str d.shown) H) := by
  intro pins s σ H xs us Q I r h
  obtain ⟨x, d, m, l, rfl, hd, hp, hs, hdep, hlen, q⟩ := h
  obtain ⟨u, rfl, rx⟩ := vals1 r
  obtain ⟨as, rd, na0⟩ := Dq.reads0 I d x u hd rx
  have na := plain_off hp na0
  cases rd with
  | none => exact PySem.P.repr_of_none ⟨V.str _, H, I.tok _, ⟨_, rfl⟩, by simpa only [PyData.shown] using q⟩
  | bool b => exact PySem.P.repr_of_bool ⟨V.str _, H, I.tok _, ⟨_, rfl⟩, by simpa only [PyData.shown] using q⟩
  | int i t => exact PySem.P.repr_of_int (by simpa [PyData.showable] using hs) ⟨V.str _, H, I.tok _, ⟨_, rfl⟩, by simpa only [PyData.shown] using q⟩
  | str y t => exact PySem.P.repr_of_str ⟨V.str _, H, I.tok _, ⟨_, rfl⟩, by simpa only [PyData.shown] using q⟩ (by simpa only [PyData.shown] using hlen)
  | list h1 h2 h3 h4 => exact repr_of_reads' (.list h1 h2 h3 h4) hs na hg (by omega) (fun _ _ e => e) (fun h' u' tk k => ⟨V.str _, H, I.kept k, ⟨_, rfl⟩, q⟩) hlen
  | tuple h1 h2 h3 h4 => exact repr_of_reads' (.tuple h1 h2 h3 h4) hs na hg (by omega) (fun _ _ e => e) (fun h' u' tk k => ⟨V.str _, H, I.kept k, ⟨_, rfl⟩, q⟩) hlen
  | dict h1 h2 h3 h4 h5 => exact repr_of_reads' (.dict h1 h2 h3 h4 h5) hs na hg (by omega) (fun _ _ e => e) (fun h' u' tk k => ⟨V.str _, H, I.kept k, ⟨_, rfl⟩, q⟩) hlen
end Ms
namespace Ms
open PySem PySem.Spec PyProof.Rows L2
/-! ### repr of any such data: no dict of it is the interpreter's own, and that is all that is asked -/
section
variable {X : Cx} {pins : List (Addr × Obj)} {σ : L2.St} {H : Hp} {s : Shared} {m l : Addr}
mutual
theorem Dq.shows (I : Inv X pins σ H s) : ∀ (d : PyData) (v : V) (u : Value), Dq X.K H m l v d → RelV v u → d.showable = true → d.shown.length ≤ sizeLine →
    ∃ as bs, Reads s.heap u d as ∧ ReadAtMost s.heap d.depth bs ∧ ReprK X.prog X.w bs s.heap d.depth u d.shown
  | .none, _, _, h, r, hs, hz => by
    cases h; cases r
    obtain ⟨bs, p, q⟩ := ReprK.of_reads (prog := X.prog) (w := X.w) (h₀ := s.heap) .none hs (fun z => by simp [PyData.hasDict] at z) hz
    exact ⟨_, bs, .none, p, q⟩
  | .bool b, _, _, h, r, hs, hz => by
    cases h; cases r
    obtain ⟨bs, p, q⟩ := ReprK.of_reads (prog := X.prog) (w := X.w) (h₀ := s.heap) (.bool b) hs (fun z => by simp [PyData.hasDict] at z) hz
    exact ⟨_, bs, .bool b, p, q⟩
  | .int i, _, _, h, r, hs, hz => by
    cases h; obtain ⟨t, rfl⟩ := r
    obtain ⟨bs, p, q⟩ := ReprK.of_reads (prog := X.prog) (w := X.w) (h₀ := s.heap) (.int i t) hs (fun z => by simp [PyData.hasDict] at z) hz
    exact ⟨_, bs, .int i t, p, q⟩
  | .str x, _, _, h, r, hs, hz => by
    cases h; obtain ⟨t, rfl⟩ := r
    obtain ⟨bs, p, q⟩ := ReprK.of_reads (prog := X.prog) (w := X.w) (h₀ := s.heap) (.str x t) hs (fun z => by simp [PyData.hasDict] at z) hz
    exact ⟨_, bs, .str x t, p, q⟩
  | .list ds, _, _, h, r, hs, hz => by
    cases h with
    | lst e n1 n2 t =>
      cases r
      obtain ⟨its, rv, ⟨o, n, ho, hc, _, hd⟩, _⟩ := I.list (SqL.of e)
      have fits : (listText (PyData.shownAll ds)).length ≤ sizeLine := by simpa only [PyData.shown] using hz
      obtain ⟨as, bs, r1, p, q⟩ := DqAll.shows I ds _ its t rv (by simpa [PyData.showable] using hs) fun x hx => Nat.le_trans (listText_mem_le hx) fits
      have rd := Reads.list ho hc hd r1
      have off := not_mem_of_deeper rd (by simp only [PyData.depth]; omega) p
      refine ⟨_, _, rd, ReadAtMost.cons rd (by simp only [PyData.depth]; omega) p, ?_⟩
      simp only [PyData.depth, PyData.shown]
      cases its with
      | nil =>
        cases r1
        simp only [PyData.shownAll, listText_nil]
        exact ReprK.listEmpty ho hc hd
      | cons y ys => exact ReprK.list ho hc hd off (by simpa using q.length_eq) fun i z e => q.item i z (by simpa using e)
  | .tuple ds, _, _, h, r, hs, hz => by
    cases h with
    | tup e t =>
      cases r
      obtain ⟨its, rv, ⟨o, ho, hc, n, hd⟩, _⟩ := I.tuple e
      have fits : (tupleText (PyData.shownAll ds)).length ≤ sizeLine := by simpa only [PyData.shown] using hz
      obtain ⟨as, bs, r1, p, q⟩ := DqAll.shows I ds _ its t rv (by simpa [PyData.showable] using hs) fun x hx => Nat.le_trans (tupleText_mem_le hx) fits
      have rd := Reads.tuple ho hc hd r1
      have off := not_mem_of_deeper rd (by simp only [PyData.depth]; omega) p
      refine ⟨_, _, rd, ReadAtMost.cons rd (by simp only [PyData.depth]; omega) p, ?_⟩
      simp only [PyData.depth, PyData.shown]
      exact ReprK.tuple ho hc hd off q
  | .dict kvs, v, u, h, r, hs, hz => by
    obtain ⟨as, rd, na⟩ := Dq.reads0 I (.dict kvs) v u h r
    cases h with
    | dct e n1 n2 =>
      obtain ⟨bs, p, q⟩ := ReprK.of_reads (prog := X.prog) (w := X.w) rd hs (fun _ => na rfl) hz
      exact ⟨as, bs, rd, p, q⟩
theorem DqAll.shows (I : Inv X pins σ H s) : ∀ (ds : List PyData) (vs : List V) (us : List Value), DqAll X.K H m l vs ds → Vals vs us → PyData.showableAll ds = true → (∀ t ∈ PyData.shownAll ds, t.length ≤ sizeLine) →
    ∃ as bs, ReadsAll s.heap us ds as ∧ ReadAtMost s.heap (PyData.depthAll ds) bs ∧ ReprAllK X.prog X.w bs s.heap (PyData.depthAll ds) us (PyData.shownAll ds)
  | [], _, _, h, r, _, _ => by
    cases h; cases r
    exact ⟨_, [], .nil, (fun _ z => nomatch z), by simp only [PyData.shownAll]; exact .nil⟩
  | d :: ds, _, _, h, r, hs, hz => by
    cases h with
    | cons h1 h2 =>
      cases r with
      | cons r1 r2 =>
        have both : d.showable = true ∧ PyData.showableAll ds = true := by simpa [PyData.showableAll] using hs
        obtain ⟨as1, bs1, rd1, p1, q1⟩ := Dq.shows I d _ _ h1 r1 both.1 (hz _ (by simp only [PyData.shownAll]; exact List.mem_cons_self ..))
        obtain ⟨as2, bs2, rd2, p2, q2⟩ := DqAll.shows I ds _ _ h2 r2 both.2 (fun x hx => hz x (by simp only [PyData.shownAll]; exact List.mem_cons_of_mem _ hx))
        refine ⟨_, bs1 ++ bs2, .cons rd1 rd2, ?_, ?_⟩
        · simp only [PyData.depthAll]
          exact (p1.mono (Nat.le_max_left _ _)).append (p2.mono (Nat.le_max_right _ _))
        · simp only [PyData.depthAll, PyData.shownAll]
          exact .cons ((q1.more fun b hb => List.mem_append_left _ hb).level_le (Nat.le_max_left _ _)) (q2.more_le (fun b hb => List.mem_append_right _ hb) (Nat.le_max_right _ _))
end
end
/-- repr(x) -/
theorem call_reprD {X : Cx} (hg : X.A.guards = some []) (hu : X.A.units + 64 < cLine) :
    CallR X (.builtin "repr") (fun xs H Q => ∃ x d m l, xs = [x] ∧ Dq X.K H m l x d ∧ d.showable = true ∧ d.depth ≤ 60 ∧ d.shown.length ≤ sizeLine ∧ Q (.str d.shown) H) := by
  intro pins s σ H xs us Q I r h
  obtain ⟨x, d, m, l, rfl, hd, hs, hdep, hlen, q⟩ := h
  cases d with
  | list ds =>
    obtain ⟨u, rfl, rx⟩ := vals1 r
    cases hd with
    | lst e n1 n2 t =>
      cases rx
      obtain ⟨its, rv, ⟨o, n, ho, hc, _, hdt⟩, _⟩ := I.list (SqL.of e)
      have fits : (listText (PyData.shownAll ds)).length ≤ sizeLine := by simpa only [PyData.shown] using hlen
      obtain ⟨as, bs, r1, p, k⟩ := DqAll.shows I ds _ its t rv (by simpa [PyData.showable] using hs) fun y hy => Nat.le_trans (listText_mem_le hy) fits
      have rd := Reads.list ho hc hdt r1
      have off := not_mem_of_deeper rd (by simp only [PyData.depth]; omega) p
      simp only [PyData.depth] at hdep
      refine call_repr_slot (by omega) ⟨o, ho, hc⟩ F.slot_list_repr.toG ?_
      have fin : ∀ (h' : Heap) (u : Tok) (tk : Nat), (∀ b o, s.heap.get? b = some o → h'.get? b = some o) → ∃ x t, Value.str (PyData.list ds).shown u = Value.str x t ∧ EP X pins σ Q (Value.str (PyData.list ds).shown u) { s with heap := h', toks := tk } := fun h' u tk k => ⟨_, _, rfl, V.str _, H, I.kept k, ⟨_, rfl⟩, q⟩
      simp only [PyData.shown] at fin
      cases its with
      | nil =>
        cases r1
        simp only [PyData.shownAll, listText_nil] at fin
        exact call_list_repr_empty ⟨o, ho, hc⟩ ho hdt (fin s.heap _ _ fun _ _ e => e)
      | cons y ys =>
        exact call_list_reprK ho hc hdt off (by simpa using k.length_eq) (fun i z e => k.item i z (by simpa using e)) hg (fun b _ => Clear.nil b) (by show X.A.units + 1 + _ < cLine; omega) (fun _ _ e => e) (fun h' u tk k => fin h' u tk k) fits
  | tuple ds =>
    obtain ⟨u, rfl, rx⟩ := vals1 r
    cases hd with
    | tup e t =>
      cases rx
      obtain ⟨its, rv, ⟨o, ho, hc, n, hdt⟩, _⟩ := I.tuple e
      have fits : (tupleText (PyData.shownAll ds)).length ≤ sizeLine := by simpa only [PyData.shown] using hlen
      obtain ⟨as, bs, r1, p, k⟩ := DqAll.shows I ds _ its t rv (by simpa [PyData.showable] using hs) fun y hy => Nat.le_trans (tupleText_mem_le hy) fits
      have rd := Reads.tuple ho hc hdt r1
      have off := not_mem_of_deeper rd (by simp only [PyData.depth]; omega) p
      simp only [PyData.depth] at hdep
      refine call_repr_slot (by omega) ⟨o, ho, hc⟩ F.slot_tuple_repr ?_
      have fin : ∀ (h' : Heap) (u : Tok) (tk : Nat), (∀ b o, s.heap.get? b = some o → h'.get? b = some o) → ∃ x t, Value.str (PyData.tuple ds).shown u = Value.str x t ∧ EP X pins σ Q (Value.str (PyData.tuple ds).shown u) { s with heap := h', toks := tk } := fun h' u tk k => ⟨_, _, rfl, V.str _, H, I.kept k, ⟨_, rfl⟩, q⟩
      simp only [PyData.shown] at fin
      exact call_tuple_reprK ho hc hdt off k hg (fun b _ => Clear.nil b) (by show X.A.units + 1 + _ < cLine; omega) (fun _ _ e => e) (fun h' u tk k => fin h' u tk k) fits
  | dict kvs =>
    cases hd with
    | dct e n1 n2 => exact call_repr0 hg hu pins s σ H [.ref _] us Q I r ⟨_, _, m, l, rfl, .dct e n1 n2, rfl, hs, hdep, hlen, q⟩
  | none => exact call_repr0 hg hu pins s σ H [x] us Q I r ⟨x, _, m, l, rfl, hd, by simp [plainD, PyData.hasDict], hs, hdep, hlen, q⟩
  | bool b => exact call_repr0 hg hu pins s σ H [x] us Q I r ⟨x, _, m, l, rfl, hd, by simp [plainD, PyData.hasDict], hs, hdep, hlen, q⟩
  | int i => exact call_repr0 hg hu pins s σ H [x] us Q I r ⟨x, _, m, l, rfl, hd, by simp [plainD, PyData.hasDict], hs, hdep, hlen, q⟩
  | str y => exact call_repr0 hg hu pins s σ H [x] us Q I r ⟨x, _, m, l, rfl, hd, by simp [plainD, PyData.hasDict], hs, hdep, hlen, q⟩
end Ms
namespace Ms
open PySem PySem.Spec PyProof.Rows L2
/-! ### data of bounded size -/
mutual
/-- ints within B, signs that are code points, dicts that are empty -/
def okD (B : Nat) : PyData → Bool
  | .none | .bool _ => true
  | .int i => decide (i.natAbs ≤ B)
  | .str x => x.cps.toList.all fun c => decide (c < 0x110000)
  | .list xs | .tuple xs => okAll B xs
  | .dict kvs => kvs.isEmpty
def okAll (B : Nat) : List PyData → Bool
  | [] => true
  | x :: xs => okD B x && okAll B xs
end
theorem okAll_iff {B : Nat} : ∀ {xs : List PyData}, okAll B xs = true ↔ ∀ x ∈ xs, okD B x = true
  | [] => by simp [okAll]
  | x :: xs => by simp [okAll, okAll_iff (xs := xs)]
mutual
theorem okD_mono {B C : Nat} (h : B ≤ C) : ∀ d : PyData, okD B d = true → okD C d = true
  | .none, _ => rfl
  | .bool _, _ => rfl
  | .int i, e => by simp only [okD, decide_eq_true_eq] at e ⊢; omega
  | .str x, e => by simpa only [okD] using e
  | .list xs, e => by simp only [okD] at e ⊢; exact okAll_mono h xs e
  | .tuple xs, e => by simp only [okD] at e ⊢; exact okAll_mono h xs e
  | .dict kvs, e => by simpa only [okD] using e
theorem okAll_mono {B C : Nat} (h : B ≤ C) : ∀ xs : List PyData, okAll B xs = true → okAll C xs = true
  | [], _ => rfl
  | x :: xs, e => by
    simp only [okAll, Bool.and_eq_true] at e ⊢
    exact ⟨okD_mono h x e.1, okAll_mono h xs e.2⟩
end
theorem log_small {i : Int} (h : i.natAbs ≤ 10 ^ 31) : i.natAbs.log2 < 1920 := by
  by_cases z : i.natAbs = 0
  · rw [z]; decide
  · have h1 : i.natAbs < 2 ^ 103 := by
      have e : (10 : Nat) ^ 31 < 2 ^ 103 := by decide
      omega
    have := (Nat.log2_lt z).mpr h1
    omega
theorem int_short {i : Int} (h : i.natAbs ≤ 10 ^ 31) : (PyData.shown (.int i)).length ≤ 64 := by
  have e := int_text_length_le10 (k := 32) (by decide) (show i.natAbs < 10 ^ 32 by
    have z : (10 : Nat) ^ 31 < 10 ^ 32 := by decide
    omega)
  show (Str.ofString (toString i)).length ≤ 64
  rw [PySem.ofString_length]
  omega
mutual
theorem ok_shows : ∀ d : PyData, okD (10 ^ 31) d = true → d.showable = true ∧ d.leavesShort 64 = true
  | .none, _ => ⟨rfl, rfl⟩
  | .bool _, _ => ⟨rfl, rfl⟩
  | .int i, e => by
    simp only [okD, decide_eq_true_eq] at e
    simp only [PyData.showable, PyData.leavesShort, decide_eq_true_eq]
    exact ⟨log_small e, int_short e⟩
  | .str x, e => by
    simp only [okD, List.all_eq_true, decide_eq_true_eq] at e
    refine ⟨rfl, ?_⟩
    simp only [PyData.leavesShort, List.all_eq_true, decide_eq_true_eq]
    intro c hc
    have := e c hc
    have z : (0x110000 : Nat) < 16 ^ 8 := by decide
    omega
  | .list xs, e => by
    simp only [okD] at e
    simp only [PyData.showable, PyData.leavesShort]
    exact okAll_shows xs e
  | .tuple xs, e => by
    simp only [okD] at e
    simp only [PyData.showable, PyData.leavesShort]
    exact okAll_shows xs e
  | .dict [], _ => ⟨rfl, rfl⟩
  | .dict (a :: b), e => by simp [okD] at e
theorem okAll_shows : ∀ xs : List PyData, okAll (10 ^ 31) xs = true → PyData.showableAll xs = true ∧ PyData.leavesShortAll 64 xs = true
  | [], _ => ⟨rfl, rfl⟩
  | x :: xs, e => by
    simp only [okAll, Bool.and_eq_true] at e
    obtain ⟨h1, h2⟩ := ok_shows x e.1
    obtain ⟨h3, h4⟩ := okAll_shows xs e.2
    simp only [PyData.showableAll, PyData.leavesShortAll, h1, h2, h3, h4, Bool.and_self, and_self]
end
/-- data within B, of weight at most a, of depth at most b -/
structure Gd (B a b : Nat) (d : PyData) : Prop where
  ok : okD B d = true
  wt : d.weight ≤ a
  dp : d.depth ≤ b
theorem Gd.mono {B a b B' a' b' : Nat} {d : PyData} (g : Gd B a b d) (h1 : B ≤ B') (h2 : a ≤ a') (h3 : b ≤ b') : Gd B' a' b' d := ⟨okD_mono h1 d g.ok, Nat.le_trans g.wt h2, Nat.le_trans g.dp h3⟩
theorem Gd.shown {a b : Nat} {d : PyData} (g : Gd (10 ^ 31) a b d) (ha : a ≤ 200000) : d.showable = true ∧ d.shown.length ≤ sizeLine := by
  obtain ⟨h1, h2⟩ := ok_shows d g.ok
  refine ⟨h1, ?_⟩
  have h := PyData.shown_le 64 (by decide) d h2
  have w := g.wt
  rw [sizeLine_eq]
  omega
end Ms
namespace Ms
open PySem PySem.Spec PyProof.Rows L2
/-! ### the machine of draws: a dict with the cells, what is left of the great ones, and a count -/
def kvM (c l : Addr) (n : Int) : List (Key × V) := [(.inr "cells", .ref c), (.inr "left", .ref l), (.inr "at", .int n)]
structure Mch (H : Hp) (m l : Addr) (n : Nat) : Prop where
  ex : ∃ (c : Addr) (cs ls : List Int) (z : Int), H m = some (.dK (kvM c l z)) ∧ H c = some (.lst (cs.map V.int)) ∧ H l = some (.lst (ls.map V.int)) ∧ c ≠ l ∧ 0 ≤ z ∧ z ≤ (n : Int) ∧ cs.length ≤ 63 ∧ ls.length ≤ 63
/-- behind a step: all but the machine's own dict and list stand as before -/
structure Fr (m l l' : Addr) (H H' : Hp) : Prop where
  keep : ∀ b o, H b = some o → b ≠ m → b ≠ l → H' b = some o
  new : l' = l ∨ H l' = none
  dom : ∀ b, H b ≠ none → H' b ≠ none
theorem Mch.mm {H : Hp} {m l : Addr} {n : Nat} (M : Mch H m l n) : H m ≠ none := by
  obtain ⟨c, cs, ls, z, h, _⟩ := M.ex
  rw [h]; exact fun z => nomatch z
theorem Fr.refl {m l : Addr} {H : Hp} {n : Nat} (M : Mch H m l n) : Fr m l l H H := ⟨fun _ _ e _ _ => e, .inl rfl, fun _ h => h⟩
theorem upd_dom {H : Hp} {p b : Addr} {o : HO} (h : H b ≠ none) : (upd H p o) b ≠ none := by
  by_cases e : b = p
  · rw [e, upd_same]; exact fun z => nomatch z
  · rw [upd_ne e]; exact h
theorem Fr.free {m l l' p : Addr} {H H' : Hp} (f : Fr m l l' H H') (hp : H' p = none) : H p = none := by
  cases q : H p with
  | none => rfl
  | some o => exact absurd hp (f.dom p (by rw [q]; exact fun z => nomatch z))
theorem Fr.trans {m l l' l'' : Addr} {H H' H'' : Hp} (f : Fr m l l' H H') (g : Fr m l' l'' H' H'') : Fr m l l'' H H'' := by
  have hl : ∀ b o, H b = some o → b ≠ m → b ≠ l → b ≠ l' := fun b o e hm hl => by
    rcases f.new with z | z
    · rw [z]; exact hl
    · exact ne_of_none e z
  refine ⟨fun b o e hm hb => g.keep b o (f.keep b o e hm hb) hm (hl b o e hm hb), ?_, fun b h => g.dom b (f.dom b h)⟩
  rcases g.new with z | z
  · rw [z]; exact f.new
  · exact .inr (f.free z)
theorem Mch.mono {H : Hp} {m l : Addr} {n k : Nat} (M : Mch H m l n) (h : n ≤ k) : Mch H m l k := by
  obtain ⟨c, cs, ls, z, h1, h2, h3, h4, h5, h6, h7⟩ := M.ex
  exact ⟨c, cs, ls, z, h1, h2, h3, h4, h5, by omega, h7⟩
def spBegun (K : PySem.W.Frag) : Sp := fun vs H Q _ => ∃ (a : Addr) (ns : List Int), vs = [.ref a] ∧ SqL K H a (ns.map V.int) ∧ ns.length ≤ 63 ∧
  ∀ (m l : Addr) (H' : Hp), H m = none → H l = none → Same H H' → Mch H' m l 0 → Q (.ref m) H'
structure Txt (mg : Str → Option Value) : Prop where
  list : mg "list" = none
  len : mg "len" = none
  int : mg "int" = none
section
variable {P : Program} {w : World} {K : PySem.W.Frag} {mg : Str → Option Value} {base : Heap}
/-! ### _law_next -/
structure MS (H : Hp) (m c l : Addr) (cs ls : List Int) (z : Int) : Prop where
  dm : H m = some (.dK (kvM c l z))
  dc : H c = some (.lst (cs.map V.int))
  dl : H l = some (.lst (ls.map V.int))
  ne : c ≠ l
theorem MS.junk {H : Hp} {m c l p : Addr} {cs ls : List Int} {z : Int} {o : HO} (S : MS H m c l cs ls z) (hp : H p = none) : MS (upd H p o) m c l cs ls z :=
  ⟨by rw [upd_ne (ne_of_none S.dm hp)]; exact S.dm, by rw [upd_ne (ne_of_none S.dc hp)]; exact S.dc, by rw [upd_ne (ne_of_none S.dl hp)]; exact S.dl, S.ne⟩
theorem Fr.junk {m l l' p : Addr} {H H' : Hp} {o : HO} (f : Fr m l l' H H') (hp : H' p = none) : Fr m l l' H (upd H' p o) := by
  refine ⟨fun b o e h1 h2 => ?_, f.new, fun b h => upd_dom (f.dom b h)⟩
  have q := f.keep b o e h1 h2
  rw [upd_ne (ne_of_none q hp)]; exact q
theorem MS.left {H : Hp} {m c l : Addr} {cs ls : List Int} {z : Int} (S : MS H m c l cs ls z) : DGet H m (.str "left") (some (.ref l)) := by
  have e : valV (kvM c l z) (.inr "left" : Key) = some (.ref l) := by unfold valV kvM; rfl
  rw [← e]; exact DGet.k (k := Sum.inr "left") S.dm
theorem MS.cells {H : Hp} {m c l : Addr} {cs ls : List Int} {z : Int} (S : MS H m c l cs ls z) : DGet H m (.str "cells") (some (.ref c)) := by
  have e : valV (kvM c l z) (.inr "cells" : Key) = some (.ref c) := by unfold valV kvM; rfl
  rw [← e]; exact DGet.k (k := Sum.inr "cells") S.dm
theorem MS.at {H : Hp} {m c l : Addr} {cs ls : List Int} {z : Int} (S : MS H m c l cs ls z) : DGet H m (.str "at") (some (.int z)) := by
  have e : valV (kvM c l z) (.inr "at" : Key) = some (.int z) := by unfold valV kvM; rfl
  rw [← e]; exact DGet.k (k := Sum.inr "at") S.dm
theorem put_left (c l l' : Addr) (z : Int) : putK (kvM c l z) (.inr "left" : Key) (.ref l') = kvM c l' z := by unfold putK kvM; rfl
theorem put_at (c l : Addr) (z z' : Int) : putK (kvM c l z) (.inr "at" : Key) (.int z') = kvM c l z' := by unfold putK kvM; rfl
theorem dpAll_ints {K : PySem.W.Frag} {H : Hp} : ∀ ns : List Int, DpAll K H (ns.map V.int) (ns.map PyData.int)
  | [] => .nil
  | n :: ns => .cons (.int n) (dpAll_ints ns)
theorem lay_ints : ∀ ns : List Int, PyData.canLayAll0 (ns.map PyData.int) = true
  | [] => rfl
  | n :: ns => by
    show (PyData.canLay0 (.int n) && PyData.canLayAll0 (ns.map PyData.int)) = true
    rw [lay_ints ns]; rfl
theorem depth_ints : ∀ ns : List Int, PyData.depthAll (ns.map PyData.int) = 0
  | [] => rfl
  | n :: ns => by
    show max (PyData.depth (.int n)) (PyData.depthAll (ns.map PyData.int)) = 0
    rw [depth_ints ns]; rfl
theorem shaped_ints (ns : List Int) : SeqAt.shaped (.list (ns.map PyData.int)) = true := by
  show (PyData.canLayAll0 (ns.map PyData.int) && decide (PyData.depthAll (ns.map PyData.int) + 1 ≤ 64)) = true
  rw [lay_ints, depth_ints]; rfl
theorem ifF {c : Bool} {A B : Prop} (hc : c = false) (h : B) : if c = true then A else B := by rw [hc, if_neg Bool.false_ne_true]; exact h
theorem ifT {c : Bool} {A B : Prop} (hc : c = true) (h : A) : if c = true then A else B := by rw [if_pos hc]; exact h
theorem cut1 (y : Int) (ys : List Int) : cutV ((y :: ys).map V.int) (some 1) none = ys.map V.int := by
  unfold cutV
  have e1 : HT.sIx ((y :: ys).map V.int).length 0 (some (1 : Int)) = 1 := by
    show HT.sIx _ 0 (some ((1 : Nat) : Int)) = 1
    rw [HT.sIx_nat]
    simp
  have e2 : HT.sIx ((y :: ys).map V.int).length ((y :: ys).map V.int).length none = (y :: ys).length := by
    show ((y :: ys).map V.int).length = _
    rw [List.length_map]
  rw [e1, e2]
  simp only [List.map_cons, List.drop_succ_cons, List.drop_zero, List.length_cons, Nat.add_sub_cancel]
  exact List.take_of_length_le (by simp)
theorem MS.fresh {H : Hp} {m c l p : Addr} {cs ls : List Int} {z : Int} (S : MS H m c l cs ls z) (hp : H p = none) : p ≠ m ∧ p ≠ c ∧ p ≠ l :=
  ⟨(fun e => by rw [e, S.dm] at hp; cases hp), (fun e => by rw [e, S.dc] at hp; cases hp), (fun e => by rw [e, S.dl] at hp; cases hp)⟩
theorem MS.mc {H : Hp} {m c l : Addr} {cs ls : List Int} {z : Int} (S : MS H m c l cs ls z) : m ≠ c := ne_of S.dm S.dc (by intro q; cases q)
theorem MS.ml {H : Hp} {m c l : Addr} {cs ls : List Int} {z : Int} (S : MS H m c l cs ls z) : m ≠ l := ne_of S.dm S.dl (by intro q; cases q)
/-- a new list is put as what is left -/
theorem MS.putL {H : Hp} {m c l p : Addr} {cs ls ls' : List Int} {z : Int} (S : MS H m c l cs ls z) (hp : H p = none) :
    MS (upd (upd H p (.lst (ls'.map V.int))) m (.dK (putK (kvM c l z) (.inr "left" : Key) (.ref p)))) m c p cs ls' z := by
  obtain ⟨n1, n2, n3⟩ := S.fresh hp
  refine ⟨by rw [upd_same, put_left], ?_, ?_, n2.symm⟩
  · rw [upd_ne S.mc.symm, upd_ne n2.symm]; exact S.dc
  · rw [upd_ne n1, upd_same]
theorem Fr.putM {m l l' p : Addr} {H H' : Hp} {o o' : HO} (f : Fr m l l' H H') (hp : H' p = none) : Fr m l p H (upd (upd H' p o) m o') := by
  refine ⟨fun b o e h1 h2 => ?_, .inr (f.free hp), fun b h => upd_dom (upd_dom (f.dom b h))⟩
  have q := f.keep b o e h1 h2
  rw [upd_ne h1, upd_ne (ne_of_none q hp)]; exact q
theorem MS.putA {H : Hp} {m c l : Addr} {cs ls : List Int} {z z' : Int} (S : MS H m c l cs ls z) :
    MS (upd H m (.dK (putK (kvM c l z) (.inr "at" : Key) (.int z')))) m c l cs ls z' :=
  ⟨by rw [upd_same, put_at], by rw [upd_ne S.mc.symm]; exact S.dc, by rw [upd_ne S.ml.symm]; exact S.dl, S.ne⟩
theorem Fr.putA {m l l' : Addr} {H H' : Hp} {o : HO} (f : Fr m l l' H H') : Fr m l l' H (upd H' m o) :=
  ⟨fun b o e h1 h2 => by rw [upd_ne h1]; exact f.keep b o e h1 h2, f.new, fun b h => upd_dom (f.dom b h)⟩
theorem MS.setL {H : Hp} {m c l : Addr} {cs ls ls' : List Int} {z : Int} (S : MS H m c l cs ls z) : MS (upd H l (.lst (ls'.map V.int))) m c l cs ls' z :=
  ⟨by rw [upd_ne S.ml]; exact S.dm, by rw [upd_ne S.ne]; exact S.dc, upd_same, S.ne⟩
theorem Fr.setL {m l l' : Addr} {H H' : Hp} {o : HO} (f : Fr m l l' H H') : Fr m l l' H (upd H' l' o) := by
  refine ⟨fun b o e h1 h2 => ?_, f.new, fun b h => upd_dom (f.dom b h)⟩
  have nb : b ≠ l' := by
    rcases f.new with q | q
    · rw [q]; exact h2
    · exact ne_of_none e q
  rw [upd_ne nb]; exact f.keep b o e h1 h2
theorem MS.mch {H : Hp} {m c l : Addr} {cs ls : List Int} {z : Int} {n : Nat} (S : MS H m c l cs ls z) (h1 : 0 ≤ z) (h2 : z ≤ (n : Int)) (h3 : cs.length ≤ 63) (h4 : ls.length ≤ 63) : Mch H m l n :=
  ⟨c, cs, ls, z, S.dm, S.dc, S.dl, S.ne, h1, h2, h3, h4⟩
def spNext : Sp := fun vs H Q _ => ∃ (m l : Addr) (n : Nat) (k : Int), vs = [.ref m, .int k] ∧ Mch H m l n ∧ n < 1000000 ∧ 0 < k ∧ k < 1000000 ∧
  ∀ (r : Int) (l' : Addr) (H' : Hp), 0 ≤ r → r < k → Mch H' m l' (n + 1) → Fr m l l' H H' → Q (.int r) H'
end
/-! ### growth of the heap -/
theorem Same.upd {H : Hp} {p : Addr} {o : HO} (h : H p = none) : Same H (upd H p o) := fun b q e => by rw [upd_ne (ne_of_none e h)]; exact e
theorem Mch.same {H H' : Hp} {m l : Addr} {n : Nat} (s : Same H H') (M : Mch H m l n) : Mch H' m l n := by
  obtain ⟨c, cs, ls, z, h1, h2, h3, h⟩ := M.ex
  exact ⟨c, cs, ls, z, s _ _ h1, s _ _ h2, s _ _ h3, h⟩
theorem Mch.kept {H H' : Hp} {m l : Addr} {n : Nat} (M : Mch H m l n) (s : Same H H') : Kept m l l H H' := by
  obtain ⟨c, cs, ls, z, h1, h2, h3, h⟩ := M.ex
  exact ⟨fun b o e _ _ => s b o e, fun _ _ _ h => h, ⟨_, h1⟩, ⟨_, h3⟩⟩
theorem Mch.step {H H' : Hp} {m l l' : Addr} {n : Nat} (M : Mch H m l n) (f : Fr m l l' H H') : Kept m l l' H H' := by
  obtain ⟨c, cs, ls, z, h1, h2, h3, h⟩ := M.ex
  refine ⟨f.keep, fun b o e hb => ?_, ⟨_, h1⟩, ⟨_, h3⟩⟩
  rcases f.new with q | q
  · rw [q]; exact hb
  · exact ne_of_none e q
theorem Mch.ne {H : Hp} {m l p : Addr} {n : Nat} (M : Mch H m l n) (h : H p = none) : p ≠ m ∧ p ≠ l := by
  obtain ⟨c, cs, ls, z, h1, h2, h3, _⟩ := M.ex
  exact ⟨(fun e => by rw [e, h1] at h; cases h), (fun e => by rw [e, h3] at h; cases h)⟩
/-- a fresh list, and one behind it -/
theorem Fr.lead {H0 H H' : Hp} {m l l' : Addr} (s : Same H0 H) (f : Fr m l l' H H') : Fr m l l' H0 H' := by
  have d : ∀ b, H0 b ≠ none → H b ≠ none := fun b h => by
    cases q : H0 b with
    | none => exact absurd q h
    | some o => rw [s b o q]; exact fun z => nomatch z
  refine ⟨fun b o e h1 h2 => f.keep b o (s b o e) h1 h2, ?_, fun b h => f.dom b (d b h)⟩
  rcases f.new with q | q
  · exact .inl q
  · exact .inr (Same.free s q)
theorem DqAll.get {K : PySem.W.Frag} {H : Hp} {m l : Addr} : ∀ {ds : List PyData} {vs : List V} {i : Nat} {v : V}, DqAll K H m l vs ds → vs[i]? = some v → ∃ d, ds[i]? = some d ∧ Dq K H m l v d
  | [], _, i, v, h, e => by cases h; simp at e
  | d :: ds, _, 0, v, h, e => by
    cases h with
    | cons h1 h2 => simp at e; subst e; exact ⟨d, rfl, h1⟩
  | d :: ds, _, i + 1, v, h, e => by
    cases h with
    | cons h1 h2 => exact DqAll.get (i := i) h2 (by simpa using e)
end Ms
namespace Ms
open PySem PySem.Spec PyProof.Rows L2
def top (i : Nat) : Stmt := PySem.Challenge.pw_midswitch_k05_whole_requests_made.main.body.getD i (.Pass ⟨0, 0, 0, 0⟩)
abbrev sIni : Stmt := inClass (top 3) 0
abbrev sIniP : Stmt := inClass (top 4) 0
abbrev sIniM : Stmt := inClass (top 5) 0
abbrev sPInt : Stmt := top 12
abbrev sPName : Stmt := top 13
abbrev sPSet : Stmt := top 14
abbrev sNeed : Stmt := top 15
abbrev sPNames : Stmt := top 16
abbrev sPGrid : Stmt := top 17
abbrev sReqIni : Stmt := inClass (top 22) 0
abbrev sNPlaces : Stmt := top 23
abbrev sPPlace : Stmt := top 24
abbrev sPAsk : Stmt := top 25
abbrev sPNum : Stmt := top 26
abbrev sNModes : Stmt := top 27
abbrev sPMode : Stmt := top 28
abbrev sBegun : Stmt := top 33
abbrev sNext : Stmt := top 34
abbrev sNames : Stmt := top 35
abbrev sSettings : Stmt := top 36
abbrev sOdd : Stmt := top 37
abbrev sBent : Stmt := top 38
abbrev sIsWhole : Stmt := top 39
abbrev sIsName : Stmt := top 40
abbrev sPlaces : Stmt := top 41
abbrev sModes : Stmt := top 42
abbrev sIsPlace : Stmt := top 43
abbrev sDue : Stmt := top 44
abbrev sTold : Stmt := top 45
abbrev sLaw : Stmt := top 46
end Ms
namespace Ms
open PySem PySem.Spec PyProof.Rows L2
section
variable {P : Program} {w : World} {K : PySem.W.Frag} {mg : Str → Option Value} {base : Heap}
theorem scB : FnScope ["script", "cell"] ["script"] (defScope sBegun) := ⟨rfl, rfl, rfl, by decide +kernel, rfl, by decide +kernel, by decide +kernel⟩
theorem ok_begun {f : Addr} {fd : FuncData} (F : Fun K "_law_begun" "_law_begun" sBegun f fd) (T : Txt mg) : FnOk P w K mg base CX0 1 f fd ["script"] (spBegun K) := by
  refine F.ok scB (fun vs H Q E h => ?_) (fun cdv A outer s H vs Q E hr h => ?_)
  · obtain ⟨a, ns, rfl, _⟩ := h
    rfl
  · obtain ⟨a, ns, rfl, hS, hlen, k⟩ := h
    have hu := hu_of hr
    refine ⟨_, pss_one (ps_ret (pe_disp (pps_cons pe_str (pe_callTy call_list_of (by rfl) T.list (by decide +kernel) (pa_cons (pv 0) pa_nil))
      (pps_cons pe_str (pe_lc (own := [("cell", 1)]) (g := gName 1) (by rfl) scB.nd (pi_list (pv 0)) (blkOk_by (own := [("cell", 1)]) (N := ["script", "cell"]) (sc := defScope sBegun) (by decide +kernel))
        (fun _ _ _ _ _ => pg_name (i := 1) scB.nd rfl (Or.inl rfl)) (fun _ _ _ _ _ => pts_one (pt_cmpR op_ge (pv 1) (pe_op op_pow pe_int pe_int) (nomark _))) (fun _ _ _ _ _ => pv 1))
      (pps_cons pe_str pe_int pps_nil))) (by rfl) (by rfl) (fun z => by cases z) (by decide))), ?_⟩
    intro m hm
    have s0 : Same H (upd H m (.dK [])) := fun b o e => by rw [upd_ne (ne_of_none e hm)]; exact e
    refine ⟨_, rfl, a, _, rfl, .inl (s0.seq hS), fun c hc => ?_⟩
    have ncm : c ≠ m := fun z => by rw [z, upd_same] at hc; cases hc
    have hc0 : H c = none := by rw [upd_ne ncm] at hc; exact hc
    have s1 : Same H (upd (upd H m (.dK [])) c (.lst (ns.map V.int))) := fun b o e => by rw [upd_ne (ne_of_none e hc0)]; exact s0 b o e
    refine ⟨_, rfl, a, rfl, ⟨_, s1.seq hS⟩, fun l hl => ?_⟩
    have nlc : l ≠ c := fun z => by rw [z, upd_same] at hl; cases hl
    have hl1 : (upd H m (.dK [])) l = none := by rw [upd_ne nlc] at hl; exact hl
    have nlm : l ≠ m := fun z => by rw [z, upd_same] at hl1; cases hl1
    have hl0 : H l = none := by rw [upd_ne nlm] at hl1; exact hl1
    refine lc_list (K := K) (a := a) (xs := ns.map V.int) (fun i H2 => ∃ ls : List Int, ls.length ≤ i ∧ H2 = upd (upd (upd H m (.dK [])) c (.lst (ns.map V.int))) l (.lst (ls.map V.int))) ⟨[], Nat.le_refl _, rfl⟩ (fun i H2 _ ⟨ls, _, e⟩ => ?_) ?_ ?_
    · have s2 : Same H H2 := fun b o q => by rw [e, upd_ne (ne_of_none q hl0)]; exact s1 b o q
      exact s2.seq hS
    · rintro i x H2 hi ⟨ls, hls, e⟩
      obtain ⟨z, rfl⟩ : ∃ z, x = V.int z := by
        rw [List.getElem?_map] at hi
        cases q : ns[i]? with
        | none => rw [q] at hi; cases hi
        | some z => rw [q] at hi; exact ⟨z, (Option.some.inj hi).symm⟩
      have hil : i < ns.length := by
        have q := (List.getElem?_eq_some_iff.mp hi).1
        rw [List.length_map] at q
        exact q
      refine ⟨rfl, _, rfl, _, _, rfl, rfl, ⟨by decide, by decide, by decide⟩, _, _, rfl, rfl, _, rfl, ?_⟩
      refine ite2 (fun _ => ?_) (fun _ => ?_)
      · refine ⟨_, rfl, ls.map V.int, by rw [e]; exact upd_same, small1000 (by rw [List.length_map]; omega), ls ++ [z], ?_, ?_⟩
        · rw [List.length_append, List.length_singleton]; omega
        · rw [e, upd_upd, List.map_append]; rfl
      · exact ⟨ls, by omega, e⟩
    · rintro H2 ⟨ls, hls, e⟩
      rw [List.length_map] at hls
      refine ⟨?_, [(.inr "cells", .ref c), (.inr "left", .ref l), (.inr "at", .int 0)], rfl, (by show 3 ≤ 15; decide), ?_⟩
      · rw [e, upd_ne nlm.symm, upd_ne ncm.symm, upd_same]
      · refine k m l _ hm hl0 (fun b o q => ?_) ⟨c, ns, ls, 0, ?_, ?_, ?_, nlc.symm, Int.le_refl _, Int.le_refl _, hlen, by omega⟩
        · rw [upd_ne (ne_of_none q hm), e, upd_ne (ne_of_none q hl0)]; exact s1 b o q
        · rw [upd_same]; rfl
        · rw [upd_ne ncm, e, upd_ne nlc.symm, upd_same]
        · rw [upd_ne nlm, e, upd_same]

theorem scN : FnScope ["m", "many", "rest", "at", "lot", "cell", "blend"] ["m", "many"] (defScope sNext) := ⟨rfl, rfl, rfl, by decide +kernel, rfl, by decide +kernel, by decide +kernel⟩
set_option maxHeartbeats 4000000 in
theorem ok_next {f : Addr} {fd : FuncData} (F : Fun K "_law_next" "_law_next" sNext f fd) (T : Txt mg) : FnOk P w K mg base CX0 1 f fd ["m", "many"] spNext := by
  refine F.ok scN (fun vs H Q E h => ?_) (fun cdv A outer s H vs Q E hr h => ?_)
  · obtain ⟨m, l, n, k, rfl, _⟩ := h
    rfl
  · obtain ⟨m, l, n, k, rfl, M, hn, hk, hk2, q⟩ := h
    have hu := hu_of hr
    refine ⟨_, pss_cons (ps_while PassesOwn.never (PW.pt (pw_and (pt_cmpR (op_neD hr.units) (pe_dget hu (pv 0) pe_str (fun _ _ => rfl)) (pe_lst pa_nil) (nomark _))
          (pw_and1 (pt_cmpR op_eq (pe_ix ix_list (pe_dget hu (pv 0) pe_str (fun _ _ => rfl)) pe_int (fun _ _ => rfl)) pe_int (nomark _)))))
        (pss_one (ps_dput hu (pv 0) pe_str (pe_slice sl_list (pe_dget hu (pv 0) pe_str (fun _ _ => rfl)) (po_some pe_int) po_none) rfl)))
      (pss_cons (ps_if (pt_cmpR (op_neD hr.units) (pe_dget hu (pv 0) pe_str (fun _ _ => rfl)) (pe_lst pa_nil) (nomark _))
        (pss_cons (ps_set (i := 2) scN.nd rfl (Or.inl rfl) (pe_ix ix_list (pe_dget hu (pv 0) pe_str (fun _ _ => rfl)) pe_int (fun _ _ => rfl)))
          (pss_cons (ps_asg (pe_op op_fdiv (pv 2) (pv 1)) (pg_sub (pe_dget hu (pv 0) pe_str (fun _ _ => rfl)) pe_int set_list))
          (pss_one (ps_ret (pe_op op_mod (pe_callTy call_int1 (by rfl) T.int (by decide +kernel) (pa_cons (pv 2) pa_nil)) (pv 1))))))
        pss_nil)
      (pss_cons (ps_par (i := 3) (j := 4) (by rfl) scN.nd rfl rfl (by decide) rfl rfl (pa_cons (pe_op op_add (pe_dget hu (pv 0) pe_str (fun _ _ => rfl)) pe_int) (pa_cons (pe_dget hu (pv 0) pe_str (fun _ _ => rfl)) pa_nil)) (by rfl))
      (pss_cons (ps_dput hu (pv 0) pe_str (pv 3) rfl)
      (pss_cons (ps_set (i := 5) scN.nd rfl (Or.inl rfl) (pe_ifExp (pt_cmpR (op_neD hr.units) (pv 4) (pe_lst pa_nil) (nomark _))
        (pe_callTy call_int1 (by rfl) T.int (by decide +kernel) (pa_cons (pe_ix ix_list (pv 4) (pe_op op_mod (pe_callTy call_int1 (by rfl) T.int (by decide +kernel) (pa_cons (pe_op op_add (pe_op op_mul (pv 3) (pv 3)) (pe_op op_fdiv (pv 3) pe_int)) pa_nil))
          (pe_callB call_len_seq (by rfl) T.len PySem.boot_len (pa_cons (pv 4) pa_nil))) (fun _ _ => rfl)) pa_nil)) pe_int))
      (pss_cons (ps_set (i := 6) scN.nd rfl (Or.inl rfl) (pe_op op_mod (pe_callTy call_int1 (by rfl) T.int (by decide +kernel) (pa_cons (pe_op op_add (pe_op op_add (pe_op op_mul (pv 5) pe_int) (pe_op op_mul (pv 3) pe_int)) (pe_op op_mul (pe_op op_mul pe_int (pv 3)) (pv 3))) pa_nil)) pe_int))
      (pss_one (ps_ret (pe_op op_mod (pe_callTy call_int1 (by rfl) T.int (by decide +kernel) (pa_cons (pe_op op_fdiv (pe_op op_mod (pe_callTy call_int1 (by rfl) T.int (by decide +kernel) (pa_cons (pe_op op_add (pe_op op_mul (pv 6) pe_int) (pe_op op_mul pe_int (pv 3))) pa_nil)) pe_int) pe_int) pa_nil)) (pv 1))))))))), ?_⟩
    obtain ⟨c, cs, ls, z, h1, h2, h3, h4, h5, h6, h7, h8⟩ := M.ex
    refine (show ∀ D : Ends, (∀ l2 ls2 H3, H3 l ≠ none → ls2.length ≤ 63 → MS H3 m c l2 cs ls2 z → Fr m l l2 H H3 → D.nx [some (.ref m), some (.int k), none, none, none, none, none] H3) → tWhile _ _ D _ _ from ?_) _ ?_
    · intro D rest
      refine ⟨fun N σ H2 => σ = [some (.ref m), some (.int k), none, none, none, none, none] ∧ ∃ l2 ls, ls.length = N ∧ ls.length ≤ 63 ∧ H2 l ≠ none ∧ MS H2 m c l2 cs ls z ∧ Fr m l l2 H H2, ⟨_, rfl, l, ls, rfl, h8, (by rw [h3]; exact fun z => nomatch z), ⟨h1, h2, h3, h4⟩, Fr.refl M⟩, ?_⟩
      rintro N σ H2 ⟨rfl, l2, ls2, rfl, hz, hl2, S, f⟩
      refine ⟨_, rfl, m, .ref l2, rfl, S.left, Nat.zero_le _, fun p hp => ?_⟩
      have S' := S.junk (o := .lst []) hp
      have f' := f.junk (o := .lst []) hp
      have nz : ∀ {H2 : Hp} {p : Addr}, H2 l ≠ none → ∀ o, (upd H2 p o) l ≠ none := fun {H2 p} hl2 o => by
        by_cases e : l = p
        · rw [e, upd_same]; exact fun z => nomatch z
        · rw [upd_ne e]; exact hl2
      refine ⟨.list (ls2.map PyData.int), .list [], .lst (SqL.of S'.dl) (dpAll_ints _), .lst (SqL.of upd_same) .nil, shaped_ints _, rfl, _, rfl, ?_⟩
      cases ls2 with
      | nil =>
        refine ifF rfl ?_
        refine ifF rfl ?_
        exact rest l2 [] _ (nz hl2 _) hz S' f'
      | cons y ys =>
        refine ifT rfl ?_
        refine ⟨_, rfl, m, .ref l2, rfl, S'.left, l2, _, 0, .int y, rfl, rfl, SqL.of S'.dl, atI_nat (j := 0) rfl, rfl, _, rfl, ?_⟩
        refine ite2 (fun _ => ?_) (fun _ => rest l2 (y :: ys) _ (nz hl2 _) hz S' f')
        refine ⟨fun σ' H' => σ' = [some (.ref m), some (.int k), none, none, none, none, none] ∧ ∃ l2, H' l ≠ none ∧ MS H' m c l2 cs ys z ∧ Fr m l l2 H H', (fun σ' H' ⟨e, l3, g1, g2, g3⟩ => ⟨ys.length, by simp, e, l3, ys, rfl, by simp at hz; omega, g1, g2, g3⟩), ?_⟩
        refine ⟨_, rfl, m, .ref l2, rfl, S'.left, ⟨1, rfl, l2, _, rfl, SqL.of S'.dl, fun p2 hp2 => ?_⟩⟩
        rw [cut1]
        refine ⟨_, rfl, m, _, rfl, DPut.k (k := Sum.inr "left") (S'.junk hp2).dm (by show 3 < sizeLine; exact small1000 (by decide)), rfl, p2, nz (nz (nz hl2 _) _) _, S'.putL hp2, f'.putM hp2⟩
    · intro l2 ls2 H3 hl3 hz S f
      refine ⟨_, rfl, m, .ref l2, rfl, S.left, Nat.zero_le _, fun p hp => ?_⟩
      have S' := S.junk (o := .lst []) hp
      have f' := f.junk (o := .lst []) hp
      refine ⟨.list (ls2.map PyData.int), .list [], .lst (SqL.of S'.dl) (dpAll_ints _), .lst (SqL.of upd_same) .nil, shaped_ints _, rfl, _, rfl, ?_⟩
      cases ls2 with
      | cons y ys =>
        refine ifT rfl ?_
        refine ⟨_, rfl, m, .ref l2, rfl, S'.left, l2, _, 0, .int y, rfl, rfl, SqL.of S'.dl, atI_nat (j := 0) rfl, ?_⟩
        refine ⟨_, rfl, _, rfl, _, _, rfl, rfl, ⟨hk, by omega⟩, _, rfl, m, .ref l2, rfl, S'.left, l2, _, 0, 0, rfl, rfl, S'.dl, (by unfold ixN; rw [if_pos (by decide), if_pos (by simp only [List.map_cons, List.length_cons]; omega)]; rfl), ?_⟩
        refine ⟨_, rfl, .inl ⟨_, rfl, _, rfl, _, _, rfl, rfl, hk, ?_⟩⟩
        have S2 := S'.setL (ls' := (y / k) :: ys)
        exact q _ l2 _ (Int.emod_nonneg _ (by omega)) (Int.emod_lt_of_pos _ hk) (S2.mch h5 (by omega) h7 (by simpa using hz)) f'.setL
      | nil =>
        refine ifF rfl ?_
        refine ⟨_, rfl, m, .int z, rfl, S'.at, _, _, rfl, rfl, _, rfl, m, .ref c, rfl, S'.cells, _, _, rfl, ?_⟩
        refine ⟨_, rfl, _, rfl, m, _, rfl, DPut.k (k := Sum.inr "at") S'.dm (by show 3 < sizeLine; exact small1000 (by decide)), ?_⟩
        have S2 := S'.putA (z' := z + 1)
        have f2 := f'.putA (o := (.dK (putK (kvM c l2 z) (.inr "at" : Key) (.int (z + 1)))))
        refine ⟨_, rfl, Nat.zero_le _, fun p2 hp2 => ?_⟩
        have S3 := S2.junk (o := .lst []) hp2
        have f3 := f2.junk (o := .lst []) hp2
        refine ⟨.list (cs.map PyData.int), .list [], .lst (SqL.of S3.dc) (dpAll_ints _), .lst (SqL.of upd_same) .nil, shaped_ints _, rfl, _, rfl, ?_⟩
        cases cs with
        | nil =>
          refine ifF rfl ?_
          refine ⟨_, rfl, _, _, rfl, rfl, .inr ⟨by decide, by decide⟩, _, rfl, _, _, rfl, rfl, .inr ⟨by decide, by decide⟩, _, _, rfl, rfl, _, rfl, _, _, rfl, rfl, .inl ⟨by decide, by decide⟩, _, rfl, _, _, rfl, rfl, .inr ⟨by omega, by omega⟩, _, _, rfl, rfl, .inl ⟨_, rfl, _, _, rfl, rfl, (by show (0 : Int) < 2147483399; decide), ?_⟩⟩
          refine ⟨_, rfl, _, _, rfl, rfl, .inr ⟨by decide, by decide⟩, _, rfl, _, _, rfl, rfl, .inl ⟨by decide, by decide⟩, _, _, rfl, rfl, .inl ⟨_, rfl, _, _, rfl, rfl, (by show (0 : Int) < 2147483647; decide), _, _, rfl, rfl, ⟨by decide, by decide⟩, .inl ⟨_, rfl, _, rfl, _, _, rfl, rfl, hk, ?_⟩⟩⟩
          exact q _ l2 _ (Int.emod_nonneg _ (by omega)) (Int.emod_lt_of_pos _ hk) (S3.mch (by omega) (by omega) h7 (by simp)) f3
        | cons y ys =>
          refine ifT rfl ?_
          refine ⟨_, rfl, _, rfl, _, rfl, _, _, rfl, rfl, .inl ⟨by omega, by omega⟩, _, rfl, _, _, rfl, rfl, ⟨by decide, by decide⟩, _, _, rfl, rfl, .inl ⟨_, rfl, ?_⟩⟩
          have hlen : ((y :: ys).map V.int).length = ys.length + 1 := by rw [List.length_map, List.length_cons]
          refine ⟨_, rfl, c, _, rfl, .inl (SqL.of S3.dc), _, _, rfl, rfl, (by rw [hlen]; omega), ?_⟩
          generalize hg : ((z + 1) * (z + 1) + (z + 1) / 2) % ((((y :: ys).map V.int).length : Nat) : Int) = g
          have g0 : 0 ≤ g := by rw [← hg, hlen]; exact Int.emod_nonneg _ (by omega)
          have g1 : g < ((y :: ys).length : Nat) := by rw [← hg, hlen]; exact Int.emod_lt_of_pos _ (by omega)
          obtain ⟨gn, rfl⟩ : ∃ gn : Nat, g = (gn : Int) := ⟨g.toNat, by omega⟩
          obtain ⟨u, hu2⟩ : ∃ u, (y :: ys)[gn]? = some u := ⟨_, List.getElem?_eq_getElem (by omega)⟩
          refine ⟨c, _, (gn : Int), .int u, rfl, congrArg V.int hg, SqL.of S3.dc, atI_nat (by rw [List.getElem?_map, hu2]; rfl), .inl ⟨_, rfl, ?_⟩⟩
          refine ⟨_, rfl, _, _, rfl, rfl, .inr ⟨by decide, by decide⟩, _, rfl, _, _, rfl, rfl, .inr ⟨by decide, by decide⟩, _, _, rfl, rfl, _, rfl, _, _, rfl, rfl, .inl ⟨by decide, by decide⟩, _, rfl, _, _, rfl, rfl, .inr ⟨by omega, by omega⟩, _, _, rfl, rfl, .inl ⟨_, rfl, _, _, rfl, rfl, (by show (0 : Int) < 2147483399; decide), ?_⟩⟩
          refine ⟨_, rfl, _, _, rfl, rfl, .inr ⟨by decide, by decide⟩, _, rfl, _, _, rfl, rfl, .inl ⟨by decide, by decide⟩, _, _, rfl, rfl, .inl ⟨_, rfl, _, _, rfl, rfl, (by show (0 : Int) < 2147483647; decide), _, _, rfl, rfl, ⟨by decide, by decide⟩, .inl ⟨_, rfl, _, rfl, _, _, rfl, rfl, hk, ?_⟩⟩⟩
          exact q _ l2 _ (Int.emod_nonneg _ (by omega)) (Int.emod_lt_of_pos _ hk) (S3.mch (by omega) (by omega) h7 (by simp)) f3
end
end Ms
namespace Ms
open PySem PySem.Spec PyProof.Rows L2
structure TxtN (mg : Str → Option Value) (fN : Addr) : Prop extends Txt mg where
  next : mg "_law_next" = some (.ref fN)
  range : mg "range" = none
  tuple : mg "tuple" = none
  zip : mg "zip" = none
/-- s * n -/
theorem op_mul_si {X : Cx} : OpR X (binaryOp .Mult) (fun x y H Q => ∃ z i, x = .str z ∧ y = .int i ∧ PySem.MulOk z i ∧ Q (.str (Txt.mul z i)) H) := by
  intro pins s σ H x y v u Q I rx ry h
  obtain ⟨z, i, rfl, rfl, ok, q⟩ := h
  obtain ⟨t, rfl⟩ := rx
  obtain ⟨t', rfl⟩ := ry
  exact PySem.SB.mul ok fun t2 k => ⟨.str _, H, I.tok _, ⟨_, rfl⟩, q⟩
theorem tyes {σ : L2.St} {H : Hp} {R S : Hp → Prop} (h : R H) : tYes σ H (fun b H3 => if b = true then R H3 else S H3) := by
  show if true = true then R H else S H
  rw [if_pos rfl]
  exact h
/-- a list of texts grows by one -/
theorem str_grow {H8 H9 : Hp} {D : Addr} {ys : List Str} {y : Str} (e : H9 = upd H8 D (.lst (ys.map V.str))) : upd H9 D (.lst (ys.map V.str ++ [.str y])) = upd H8 D (.lst ((ys ++ [y]).map V.str)) := by
  rw [e, upd_upd, List.map_append]
  rfl
/-! ### short texts -/
def sOk (a : Nat) (z : Str) : Prop := z.length ≤ a ∧ ∀ c ∈ z.cps.toList, c < 0x110000
theorem sOk.mono {a b : Nat} {z : Str} (h : sOk a z) (k : a ≤ b) : sOk b z := ⟨Nat.le_trans h.1 k, h.2⟩
theorem sOk.app {a b : Nat} {z y : Str} (h : sOk a z) (k : sOk b y) : sOk (a + b) (z ++ y) := by
  refine ⟨by rw [Str.length_append]; exact Nat.add_le_add h.1 k.1, fun c hc => ?_⟩
  have e : (z ++ y).cps.toList = z.cps.toList ++ y.cps.toList := Array.toList_append
  rw [e] at hc
  exact (List.mem_append.mp hc).elim (h.2 c) (k.2 c)
theorem sOk.cut {a : Nat} {z : Str} (h : sOk a z) (lo hi : Option Int) : sOk a (cutS z lo hi) := by
  refine ⟨?_, fun c hc => h.2 c ?_⟩
  · show ((z.cps.toList.drop (HT.sIx z.length 0 lo)).take (HT.sIx z.length z.length hi - HT.sIx z.length 0 lo)).toArray.size ≤ a
    have e : z.cps.toList.length ≤ a := by rw [Array.length_toList]; exact h.1
    rw [List.size_toArray, List.length_take, List.length_drop]
    omega
  · have hc' : c ∈ ((z.cps.toList.drop (HT.sIx z.length 0 lo)).take (HT.sIx z.length z.length hi - HT.sIx z.length 0 lo)) := by simpa [cutS] using hc
    exact List.mem_of_mem_drop (List.mem_of_mem_take hc')
theorem sOk.sign {c : Nat} (h : c < 0x110000) : sOk 1 ⟨#[c]⟩ := ⟨Nat.le_refl _, fun d hd => by simp at hd; rw [hd]; exact h⟩
theorem sOk.okd {a B : Nat} {z : Str} (h : sOk a z) : okD B (.str z) = true := by
  simp only [okD, List.all_eq_true, decide_eq_true_eq]
  exact h.2
abbrev alpha : Str := "abcdefghijklmnopqrstuvwxyz"
theorem alpha_list : alpha.cps.toList = [97, 98, 99, 100, 101, 102, 103, 104, 105, 106, 107, 108, 109, 110, 111, 112, 113, 114, 115, 116, 117, 118, 119, 120, 121, 122] := by decide +kernel
theorem alpha_at {i : Int} (h0 : 0 ≤ i) (h1 : i < 26) : ∃ c, atI alpha.cps.toList i = some c ∧ c < 0x110000 := by
  obtain ⟨j, rfl⟩ : ∃ j : Nat, i = (j : Int) := ⟨i.toNat, by omega⟩
  have hl : alpha.cps.toList.length = 26 := by rw [alpha_list]; rfl
  obtain ⟨c, hc⟩ : ∃ c, alpha.cps.toList[j]? = some c := ⟨_, List.getElem?_eq_getElem (by rw [hl]; omega)⟩
  refine ⟨c, atI_nat hc, ?_⟩
  have z : ∀ d ∈ alpha.cps.toList, d < 0x110000 := by rw [alpha_list]; decide
  exact z c (List.mem_of_getElem? hc)
theorem alpha_len : alpha.length ≤ sizeLine := by decide +kernel
theorem mul8 (c : Nat) : Txt.mul ⟨#[c]⟩ 8 = ⟨#[c, c, c, c, c, c, c, c]⟩ := by rfl
theorem mul8_ok (c : Nat) : PySem.MulOk ⟨#[c]⟩ 8 := ⟨by decide, fun _ _ => by show ¬ ((1 : Nat) : Int) > (2 ^ 63 - 1) / 8; decide, fun _ _ => rfl⟩
section
variable {P : Program} {w : World} {K : PySem.W.Frag} {mg : Str → Option Value} {base : Heap} {fN : Addr}
abbrev NN : List Str := ["m", "many", "letters", "stem", "k", "at", "first", "by", "word"]
theorem scNm : FnScope NN ["m", "many"] (defScope sNames) := ⟨rfl, rfl, rfl, by decide +kernel, rfl, by decide +kernel, by decide +kernel⟩
def spNames : Sp := fun vs H Q _ => ∃ (m l : Addr) (n : Nat) (k : Nat), vs = [.ref m, .int (k : Int)] ∧ Mch H m l n ∧ n < 900000 ∧ 1 ≤ k ∧ k ≤ 8 ∧
  ∀ (p : Addr) (ys : List Str) (l' : Addr) (H' : Hp), H p = none → H' p = some (.lst (ys.map V.str)) → ys.length = k → (∀ y ∈ ys, sOk 16 y) → p ≠ m → p ≠ l' → Mch H' m l' (n + 11) → Fr m l l' H H' → Q (.ref p) H'
theorem ok_names {f : Addr} {fd fdN : FuncData} (F : Fun K "_law_names" "_law_names" sNames f fd) (T : TxtN mg fN) (FN : Fun K "_law_next" "_law_next" sNext fN fdN) (bN : Binds K fdN ["m", "many"] []) : FnOk P w K mg base CX0 2 f fd ["m", "many"] spNames := by
  have GN : FnOk P w K mg base CX0 1 fN fdN ["m", "many"] spNext := ok_next FN T.toTxt
  refine F.ok scNm (fun vs H Q E h => ?_) (fun cdv A outer s H vs Q E hr h => ?_)
  · obtain ⟨m, l, n, k, rfl, _⟩ := h
    rfl
  · obtain ⟨m, l, n, k, rfl, M, hn, hk, hk2, q⟩ := h
    refine ⟨_, pss_cons (ps_asg (pe_tup (pa_cons pe_str (pa_cons pe_str pa_nil))) (pg_tup rfl (pgs_cons (pg_name (i := 2) scNm.nd rfl (Or.inr rfl)) (pgs_cons (pg_name (i := 3) scNm.nd rfl (Or.inr rfl)) pgs_nil))))
      (pss_cons (ps_for PassesOwn.never rfl (pi_range1 (by rfl) T.range (pa_cons (pe_call GN hr rfl T.next FN.kp bN .nil pass0 (pa_cons (pv 0) (pa_cons pe_int pa_nil))) pa_nil)) (pg_name (i := 4) scNm.nd rfl (Or.inl rfl))
        (pss_one (ps_set (i := 3) scNm.nd rfl (Or.inr rfl) (pe_op op_add_str (pv 3) (pe_ix ix_str (pv 2) (pe_call GN hr rfl T.next FN.kp bN .nil pass0 (pa_cons (pv 0) (pa_cons pe_int pa_nil))) (fun _ _ => rfl))))))
      (pss_cons (ps_asg (pe_tup (pa_cons (pe_call GN hr rfl T.next FN.kp bN .nil pass0 (pa_cons (pv 0) (pa_cons (pe_op op_add (pe_callB call_len_str (by rfl) T.len PySem.boot_len (pa_cons (pv 3) pa_nil)) pe_int) pa_nil)))
          (pa_cons (pe_call GN hr rfl T.next FN.kp bN .nil pass0 (pa_cons (pv 0) (pa_cons pe_int pa_nil)))
          (pa_cons (pe_ix ix_list (pe_lst (pa_cons pe_int (pa_cons pe_int (pa_cons pe_int (pa_cons pe_int (pa_cons pe_int (pa_cons pe_int pa_nil))))))) (pe_call GN hr rfl T.next FN.kp bN .nil pass0 (pa_cons (pv 0) (pa_cons pe_int pa_nil))) (fun _ _ => rfl)) pa_nil))))
        (pg_tup rfl (pgs_cons (pg_name (i := 5) scNm.nd rfl (Or.inr rfl)) (pgs_cons (pg_name (i := 6) scNm.nd rfl (Or.inr rfl)) (pgs_cons (pg_name (i := 7) scNm.nd rfl (Or.inr rfl)) pgs_nil)))))
      (pss_cons (ps_set (i := 8) scNm.nd rfl (Or.inr rfl) (pe_slice sl_str (pe_op op_add_str (pv 3) (pe_op op_mul_si (pe_ix ix_str (pv 2) (pv 6) (fun _ _ => rfl)) pe_int)) po_none (po_some pe_int)))
      (pss_cons (ps_if (pt_cmpR op_gt (pv 7) pe_int (nomark _)) (pss_one (ps_ret (pe_lc (own := [("k", 4)]) (g := gName 4) (by rfl) scNm.nd (pi_range1 (by rfl) T.range (pa_cons (pv 1) pa_nil)) (blkOk_by (own := [("k", 4)]) (N := NN) (sc := defScope sNames) (by decide +kernel))
          (fun _ _ _ _ _ => pg_name (i := 4) scNm.nd rfl (Or.inl rfl)) (fun _ _ _ _ _ => pts_nil) (fun _ _ _ _ _ => pe_ifExp (pt_cmpR op_gt (pv 7) pe_int (nomark _)) (pe_slice sl_str (pv 8) (po_some (pv 4)) po_none) (pe_slice sl_str (pv 8) po_none (po_some (pe_op op_sub (pe_op op_add (pv 4) pe_int) (pv 1)))))))) pss_nil)
      (pss_one (ps_ret (pe_lc (own := [("k", 4)]) (g := gName 4) (by rfl) scNm.nd (pi_range1 (by rfl) T.range (pa_cons (pv 1) pa_nil)) (blkOk_by (own := [("k", 4)]) (N := NN) (sc := defScope sNames) (by decide +kernel))
          (fun _ _ _ _ _ => pg_name (i := 4) scNm.nd rfl (Or.inl rfl)) (fun _ _ _ _ _ => pts_nil) (fun _ _ _ _ _ => pe_op op_add_str (pe_op op_add_str (pe_slice sl_str (pv 3) po_none (po_some (pv 5)))
            (pe_ix ix_str (pv 2) (pe_op op_mod (pe_callTy call_int1 (by rfl) T.int (by decide +kernel) (pa_cons (pe_op op_add (pv 6) (pe_op op_mul (pv 7) (pv 4))) pa_nil)) pe_int) (fun _ _ => rfl))) (pe_slice sl_str (pv 3) (po_some (pv 5)) po_none))))))))), ?_⟩
    refine ⟨(by show 2 ≤ sizeLine; decide), fun p1 h1 => ⟨p1, _, rfl, .inl (.inl upd_same), rfl, _, _, rfl, _, _, rfl, rfl, ?_⟩⟩
    have s1 : Same H _ := Same.upd (o := .tup [.str alpha, .str ""]) h1
    refine ⟨_, rfl, m, l, n, 8, rfl, M.same s1, by omega, by decide, by decide, fun r0 l1 H1 r0p r0l M1 f1 => ?_⟩
    refine ⟨r0, rfl, by omega, by omega, ?_⟩
    refine for_range (lo := 0) (n := r0.toNat) (fun i σ H2 => ∃ (z : Str) (v4 : Option V) (l2 : Addr), σ = [some (.ref m), some (.int (k : Int)), some (.str alpha), some (.str z), v4, none, none, none, none] ∧ sOk i z ∧ Mch H2 m l2 (n + 1 + i) ∧ Fr m l l2 H H2)
      ⟨"", _, l1, rfl, ⟨Nat.le_refl _, fun c hc => by cases hc⟩, M1, Fr.lead s1 f1⟩ ?_ ?_
    · rintro i σ H2 hi ⟨z, v4, l2, rfl, hz, M2, f2⟩
      refine ⟨_, rfl, _, rfl, _, rfl, m, l2, _, 26, rfl, M2, by omega, by decide, by decide, fun r l3 H3 rp rl M3 f3 => ?_⟩
      obtain ⟨c, hc, hc2⟩ := alpha_at rp rl
      refine ⟨alpha, r, c, rfl, rfl, alpha_len, hc, z, _, rfl, rfl, ?_, ?_⟩
      · have := hz.1
        show z.length + 1 ≤ sizeLine
        exact small1000 (by omega)
      · exact ⟨_, _, l3, rfl, hz.app (sOk.sign hc2), M3, f2.trans f3⟩
    · rintro σ H2 ⟨z, v4, l2, rfl, hz, M2, f2⟩
      have z7 := hz.1
      have zs : z.length ≤ sizeLine := Nat.le_of_lt (small1000 (by omega))
      refine ⟨_, rfl, _, rfl, z, rfl, zs, _, _, rfl, rfl, m, l2, _, (z.length : Int) + 1, rfl, M2, by omega, by omega, by omega, fun r5 l3 H3 a5 b5 M3 f3 => ?_⟩
      refine ⟨_, rfl, m, l3, _, 26, rfl, M3, by omega, by decide, by decide, fun r6 l4 H4 a6 b6 M4 f4 => ?_⟩
      refine ⟨(by show 6 ≤ sizeLine; decide), fun pL hL => ?_⟩
      have sL := Same.upd (o := .lst [.int 1, .int 3, .int 5, .int 7, .int 9, .int 11]) hL
      have nL := M4.ne hL
      refine ⟨_, rfl, m, l4, _, 6, rfl, M4.same sL, by omega, by decide, by decide, fun r7 l5 H5 a7 b7 M5 f5 => ?_⟩
      obtain ⟨b, hb, b1, b11⟩ : ∃ b : Int, atI ([.int 1, .int 3, .int 5, .int 7, .int 9, .int 11] : List V) r7 = some (.int b) ∧ 1 ≤ b ∧ b ≤ 11 := by
        obtain ⟨j, rfl⟩ : ∃ j : Nat, r7 = (j : Int) := ⟨r7.toNat, by omega⟩
        have hj : j < 6 := by omega
        match j, hj with
        | 0, _ => exact ⟨1, rfl, by decide, by decide⟩
        | 1, _ => exact ⟨3, rfl, by decide, by decide⟩
        | 2, _ => exact ⟨5, rfl, by decide, by decide⟩
        | 3, _ => exact ⟨7, rfl, by decide, by decide⟩
        | 4, _ => exact ⟨9, rfl, by decide, by decide⟩
        | 5, _ => exact ⟨11, rfl, by decide, by decide⟩
      refine ⟨pL, _, r7, .int b, rfl, rfl, SqL.of (f5.keep pL _ upd_same nL.1 nL.2), hb, (by show 3 ≤ sizeLine; decide), fun p3 h3 => ?_⟩
      have F5 : Fr m l l5 H H5 := f2.trans (f3.trans (f4.trans (Fr.lead sL f5)))
      refine ⟨p3, _, rfl, .inl (.inl upd_same), rfl, _, _, rfl, _, _, rfl, _, _, rfl, rfl, ?_⟩
      have s3 := Same.upd (o := .tup [.int r5, .int r6, .int b]) h3
      have M6 := M5.same s3
      have F6 := F5.junk (o := .tup [.int r5, .int r6, .int b]) h3
      obtain ⟨c6, hc6, cc6⟩ := alpha_at a6 b6
      refine ⟨_, rfl, _, rfl, _, rfl, alpha, r6, c6, rfl, rfl, alpha_len, hc6, _, 8, rfl, rfl, mul8_ok c6, z, _, rfl, rfl, ?_, 8, rfl, _, rfl, ?_, ?_⟩
      · rw [mul8]
        show z.length + 8 ≤ sizeLine
        exact Nat.le_of_lt (small1000 (by omega))
      · rw [mul8, Str.length_append]
        show z.length + 8 ≤ sizeLine
        exact Nat.le_of_lt (small1000 (by omega))
      obtain ⟨W, hW, eW⟩ : ∃ W, sOk 16 W ∧ W = cutS (z ++ Txt.mul { cps := #[c6] } 8) none (some 8) := ⟨_, by
        rw [mul8]
        exact (((hz.mono (show r0.toNat ≤ 7 by omega)).app (b := 8) ⟨by show 8 ≤ 8; decide, fun d hd => by simp at hd; rw [hd]; exact cc6⟩).mono (by decide)).cut _ _, rfl⟩
      rw [← eW]
      have Wl : W.length ≤ sizeLine := Nat.le_trans hW.1 (by decide)
      have ek : ((k : Int)).toNat = k := by omega
      refine ⟨_, rfl, _, _, rfl, rfl, _, rfl, ite2 (fun _ => ?_) (fun _ => ?_)⟩
      · refine ⟨_, rfl, (k : Int), rfl, by omega, by omega, fun D hD => ?_⟩
        have nD := M6.ne hD
        refine lc_range (lo := 0) (n := ((k : Int)).toNat) (fun i H9 => ∃ ys : List Str, ys.length = i ∧ (∀ y ∈ ys, sOk 16 y) ∧ H9 = upd _ D (.lst (ys.map V.str))) ⟨[], rfl, (fun y hy => nomatch hy), rfl⟩ ?_ ?_
        · rintro i H9 hi ⟨ys, yl, yo, e9⟩
          refine ⟨rfl, tyes ?_⟩
          refine ⟨_, rfl, _, _, rfl, rfl, _, rfl, ite2 (fun _ => ?_) (fun _ => ?_)⟩
          · refine ⟨_, rfl, _, rfl, _, rfl, _, rfl, Wl, _, by rw [e9]; exact upd_same, small1000 (by rw [List.length_map]; omega), _, (by rw [List.length_append, yl]; rfl), ?_, str_grow e9⟩
            intro y hy
            rcases List.mem_append.mp hy with hy | hy
            · exact yo y hy
            · rw [List.mem_singleton.mp hy]; exact hW.cut _ _
          · refine ⟨_, rfl, _, rfl, _, _, rfl, rfl, _, rfl, _, _, rfl, rfl, _, rfl, _, rfl, Wl, _, by rw [e9]; exact upd_same, small1000 (by rw [List.length_map]; omega), _, (by rw [List.length_append, yl]; rfl), ?_, str_grow e9⟩
            intro y hy
            rcases List.mem_append.mp hy with hy | hy
            · exact yo y hy
            · rw [List.mem_singleton.mp hy]; exact hW.cut _ _
        · rintro H9 ⟨ys, yl, yo, e9⟩
          have sD := Same.upd (o := .lst (ys.map V.str)) hD
          rw [e9]
          exact q D ys l5 _ (F6.free hD) upd_same (by omega) yo nD.1 nD.2 ((M6.same sD).mono (by omega)) (F6.junk hD)
      · refine ⟨_, rfl, (k : Int), rfl, by omega, by omega, fun D hD => ?_⟩
        have nD := M6.ne hD
        refine lc_range (lo := 0) (n := ((k : Int)).toNat) (fun i H9 => ∃ ys : List Str, ys.length = i ∧ (∀ y ∈ ys, sOk 16 y) ∧ H9 = upd _ D (.lst (ys.map V.str))) ⟨[], rfl, (fun y hy => nomatch hy), rfl⟩ ?_ ?_
        · rintro i H9 hi ⟨ys, yl, yo, e9⟩
          have hz7 : sOk 7 z := hz.mono (by omega)
          obtain ⟨c9, hc9, cc9⟩ := alpha_at (i := (r6 + b * (0 + (i : Int))) % 26) (Int.emod_nonneg _ (by decide)) (Int.emod_lt_of_pos _ (by decide))
          have p1 := (hz7.cut none (some r5))
          have p2 := (p1.app (sOk.sign cc9))
          have p3' := p2.app (hz7.cut (some r5) none)
          refine ⟨rfl, tyes ?_⟩
          refine ⟨_, rfl, _, rfl, _, rfl, _, rfl, zs, _, rfl, _, rfl, _, rfl, _, rfl, _, _, rfl, rfl, .inr ⟨by omega, by omega⟩, _, _, rfl, rfl, .inl ⟨_, rfl, _, _, rfl, rfl, (by show (0 : Int) < 26; decide), ?_⟩⟩
          refine ⟨alpha, _, c9, rfl, rfl, alpha_len, hc9, _, _, rfl, rfl, ?_, _, rfl, _, rfl, _, rfl, _, rfl, zs, _, _, rfl, rfl, ?_, _, by rw [e9]; exact upd_same, small1000 (by rw [List.length_map]; omega), _, (by rw [List.length_append, yl]; rfl), ?_, str_grow e9⟩
          · have := p1.1
            show _ + 1 ≤ sizeLine
            exact Nat.le_of_lt (small1000 (by omega))
          · have := p2.1
            have := (hz7.cut (some r5) none).1
            exact Nat.le_of_lt (small1000 (by omega))
          · intro y hy
            rcases List.mem_append.mp hy with hy | hy
            · exact yo y hy
            · rw [List.mem_singleton.mp hy]; exact p3'.mono (by decide)
        · rintro H9 ⟨ys, yl, yo, e9⟩
          have sD := Same.upd (o := .lst (ys.map V.str)) hD
          rw [e9]
          exact q D ys l5 _ (F6.free hD) upd_same (by omega) yo nD.1 nD.2 ((M6.same sD).mono (by omega)) (F6.junk hD)
end
end Ms
namespace Ms
open PySem PySem.Spec PyProof.Rows L2
/-! ### zip(list, tuple) over KE's draws -/
/-- the list at a, the tuple at b, the items in new pairs -/
def ItZM (K : PySem.W.Frag) (a b : Addr) : It :=
  ⟨fun i H => ∃ (xs ys : List V), SqL K H a xs ∧ SqT K H b ys ∧ i < xs.length ∧ i < ys.length,
    fun i H v H' => ∃ T x y, v = .ref T ∧ H T = none ∧ H' = upd H T (.tup [x, y]) ∧ (∀ xs, SqL K H a xs → xs[i]? = some x) ∧ ∀ ys, SqT K H b ys → ys[i]? = some y,
    fun i H => ∃ xs ys : List V, SqL K H a xs ∧ SqT K H b ys ∧ i ≤ xs.length ∧ i ≤ ys.length ∧ (i = xs.length ∨ i = ys.length)⟩
theorem walk_zm {K : PySem.W.Frag} {a b : Addr} {xs ys : List V} {n : Nat} (hn : n = min xs.length ys.length) : Walk (ItZM K a b) n (fun H => SqL K H a xs ∧ SqT K H b ys) (YPair (fun i => xs[i]?) (fun i => ys[i]?)) := by
  subst hn
  refine ⟨fun i _ hi q => ⟨xs, ys, q.1, q.2, by omega, by omega⟩, fun _ q => ⟨xs, ys, q.1, q.2, by omega, by omega, by omega⟩, fun i H v H' _ q y => ?_⟩
  obtain ⟨T, x, z, h1, h2, h3, h4, h5⟩ := y
  exact ⟨T, x, z, h1, h2, h3, h4 xs q.1, h5 ys q.2⟩
section
variable {a b z TI TO i1 i2 : Addr}
abbrev zmCells (z TI TO i1 i2 : Addr) : List Addr := [z, TI, TO, i1, i2]
abbrev ZmSt (a b z TI TO i1 i2 : Addr) : Nat → Heap → Prop := fun i h => IsZip h z TI TO .none ∧ IsTupOf2 h TI (.ref i1) (.ref i2) ∧ (∃ x y, IsTupOf2 h TO x y) ∧ h.IsListIter i1 a i ∧ h.IsTupleIter i2 b i
theorem zm_mem {c z TI TO i1 i2 : Addr} (h : c ∈ zmCells z TI TO i1 i2) : c = z ∨ c = TI ∨ c = TO ∨ c = i1 ∨ c = i2 := by simpa using h
theorem zm_there {i : Nat} {h : Heap} (st : ZmSt a b z TI TO i1 i2 i h) : ∀ c ∈ zmCells z TI TO i1 i2, ∃ o, h.get? c = some o ∧ ∀ v, o.data ≠ .cell v := fun c hc => by
  obtain ⟨hz, hTI, ⟨x, y, hTO⟩, ⟨o1, e1, _, d1⟩, ⟨o2, e2, _, d2⟩⟩ := st
  rcases zm_mem hc with rfl | rfl | rfl | rfl | rfl
  · exact ⟨_, hz, fun v q => nomatch q⟩
  · exact ⟨_, hTI, fun v q => nomatch q⟩
  · exact ⟨_, hTO, fun v q => nomatch q⟩
  · exact ⟨o1, e1, fun v q => by rw [d1] at q; cases q⟩
  · exact ⟨o2, e2, fun v q => by rw [d2] at q; cases q⟩
theorem turn_zm {P : Program} {w : World} {K : PySem.W.Frag} {elts : List Expr} {kk : Nat} {tpos : Pos} (S : ZipSep2 z TI TO i1 i2 [i1, a] [i2, b]) (na : a ≠ i1) (nb : b ≠ i2) :
    Turn P w K (.Tuple elts kk tpos) (ItZM K a b) (zmCells z TI TO i1 i2) z (ZmSt a b z TI TO i1 i2) where
  mem := by simp
  obj := fun i h st => zm_there st
  keep := fun i h h' st k => by
    obtain ⟨hz, hTI, ⟨x, y, hTO⟩, h1, h2⟩ := st
    exact ⟨k z (by simp) _ hz, k TI (by simp) _ hTI, ⟨x, y, k TO (by simp) _ hTO⟩, h1.at fun o q => k i1 (by simp) o q, h2.at fun o q => k i2 (by simp) o q⟩
  item := by
    intro X hP hw hK hc i pins s σ H E I hf st hg
    subst hP hw hK
    have live := zm_there st
    obtain ⟨hz, hTI, ⟨x0, y0, hTO⟩, h1, h2⟩ := st
    obtain ⟨xs, ys, hqx, hqy, hi1, hi2⟩ := hg
    obtain ⟨its, rv, p, _⟩ := I.list hqx
    obtain ⟨its2, rv2, p2, _⟩ := I.tuple hqy
    have l1 := rv.length
    have l2 := rv2.length
    have hh : X.A.in1.handled = none := I.ok.hd hc
    have fresh : ∀ c ∈ zmCells z TI TO i1 i2, c ≠ s.heap.objs.size := fun c hc => by
      obtain ⟨o, e, _⟩ := live c hc
      exact Nat.ne_of_lt (Heap.lt_size e)
    refine wpAny_pyNext_zipD2_item S (Draws.list hh i1 a na its.toArray) (Draws.tuple hh i2 b nb its2.toArray) hz hTI hTO ⟨h1, p.isList⟩ ⟨h2, p2⟩ (by simp; omega) (by simp; omega) fun u u2 h' tk hu hu2 z' TO' st1' st2' hT hsz hk => ?_
    refine ⟨_, rfl, wpAny_letOwnedTupleGo_zip (s := { s with heap := h', toks := tk }) z' fun h'' z'' sb => ?_⟩
    have hx : xs[i]? = some xs[i] := List.getElem?_eq_getElem hi1
    have hy : ys[i]? = some ys[i] := List.getElem?_eq_getElem hi2
    obtain ⟨v, hv, ru⟩ := rv.get hx
    obtain ⟨v2, hv2, ru2⟩ := rv2.get hy
    have e1 : u = v := by simp [hv] at hu; exact hu.symm
    have e2 : u2 = v2 := by simp [hv2] at hu2; exact hu2.symm
    subst e1 e2
    have zN := fresh z (by simp)
    have hT2 : h''.get? s.heap.objs.size = some { cls := .type "tuple", data := .seq #[u, u2] } := (sb.2 _ zN.symm).trans hT
    have new : ObjOk X.prog X.w (upd H s.heap.objs.size (.tup [xs[i], ys[i]])) h'' s.heap.objs.size (.tup [xs[i], ys[i]]) :=
      ⟨(by show 2 ≤ sizeLine; decide), [u, u2], .cons ru (.cons ru2 .nil), ⟨_, hT2, rfl, _, rfl⟩⟩
    have I1 : L2.Inv X pins σ (upd H s.heap.objs.size (.tup [xs[i], ys[i]])) { s with heap := h'', toks := tk } :=
      I.turnedNew (t' := tk) (ch := zmCells z TI TO i1 i2) (fun c o hb q => (sb.2 c fun e => hb (by simp [e])).trans (hk c o (fun e => hb (by simp [e])) (fun e => hb (by simp [e])) (fun e => hb (by simp [e])) (fun e => hb (by simp [e])) q)) hf (Nat.le_refl _) new
    refine ⟨.ref s.heap.objs.size, _, I1, rfl, ⟨_, xs[i], ys[i], rfl, I.hok.fresh (Nat.le_refl _), rfl, fun l hl => ?_, fun l hl => ?_⟩, ⟨z'', (sb.2 _ S.TIz).trans (hk _ _ S.TIz S.TITO S.TIi1 S.TIi2 hTI), ⟨_, _, (sb.2 _ S.TOz).trans TO'⟩, st1'.1.at fun o q => (sb.2 _ S.zi1.symm).trans q, st2'.1.at fun o q => (sb.2 _ S.zi2.symm).trans q⟩, fun c hcm => ?_⟩
    · rw [I.list_inj hl hqx]; exact hx
    · rw [I.tuple_inj hl hqy]; exact hy
    · rw [upd_ne (fresh c hcm)]
      exact (hf c hcm).1
  done := by
    intro X hP hw hK hc i pins s σ H E I hf st hg
    subst hP hw hK
    obtain ⟨hz, hTI, ⟨x0, y0, hTO⟩, h1, h2⟩ := st
    obtain ⟨xs, ys, hqx, hqy, hi1, hi2, hend⟩ := hg
    obtain ⟨its, rv, p, _⟩ := I.list hqx
    obtain ⟨its2, rv2, p2, _⟩ := I.tuple hqy
    have l1 := rv.length
    have l2 := rv2.length
    have hh : X.A.in1.handled = none := I.ok.hd hc
    exact wpAny_pyNext_zipD2_end S (Draws.list hh i1 a na its.toArray) (Draws.tuple hh i2 b nb its2.toArray) hz hTI hTO ⟨h1, p.isList⟩ ⟨h2, p2⟩ (by simp; omega) (by simp; omega) (by simp; omega) fun h' tk hk =>
      ⟨rfl, I.turnedL (t' := tk) (ch := zmCells z TI TO i1 i2) (fun c o hb q => hk c o (fun e => hb (by simp [e])) (fun e => hb (by simp [e])) (fun e => hb (by simp [e])) (fun e => hb (by simp [e])) q) hf⟩
  self := fun A i s Q E st h => wpAny_pyIter_zip st.1 h
end
/-- zip(list, tuple) -/
def iZM (K : PySem.W.Frag) (ta : TA) : TI := fun σ H R => ta σ H fun vs H1 => ∃ a b xs ys, vs = [.ref a, .ref b] ∧ SqL K H1 a xs ∧ SqT K H1 b ys ∧ R (ItZM K a b) H1
theorem pi_zm {X : Cx} {e e2 : Expr} {ta : TA} {p pos tpos : Pos} {elts : List Expr} {kk : Nat} (hg : Gl X "zip") (hm : X.mg "zip" = none) (ha : PA X [e, e2] ta)
    (hs : starEach [e, e2] X.env = (false, eval e X.env) :: starEach [e2] X.env := by rfl) (hpl : (backTo pos (starEach [e2] X.env)).any (·.1) = false := by rfl) :
    PI X (.Tuple elts kk tpos) (.Call (.Name "zip" p) [e, e2] [] pos) (iZM X.K ta) := by
  refine ⟨fun pins s σ H R I h => Call_ (ld_blt I hg hm PyProof.Rows.boot_zip (PyProof.Rows.callWith_type1 (thn (ha.run pos pins s σ H _ I h) fun us s1 ⟨vs, H1, I1, r1, q1⟩ => ?_) hs hpl))⟩
  obtain ⟨a, b, xs, ys, ex, hqx, hqy, q⟩ := q1
  subst ex
  cases r1 with
  | cons r rr =>
    cases rr with
    | cons r' rr =>
      cases rr
      cases r
      cases r'
      obtain ⟨its, rv, p1, _⟩ := I1.list hqx
      obtain ⟨its2, rv2, p2, _⟩ := I1.tuple hqy
      obtain ⟨o2, ho2, _⟩ := id p2
      have la := p1.lt
      have lb : b < s1.heap.objs.size := Heap.lt_size ho2
      have fp : ∀ c ∈ zmCells (s1.heap.objs.size + 4) (s1.heap.objs.size + 2) (s1.heap.objs.size + 3) s1.heap.objs.size (s1.heap.objs.size + 1), FpOk X pins H1 c := fun c hcm => by
        have hle : s1.heap.objs.size ≤ c := by
          rcases zm_mem hcm with q | q | q | q | q
          · rw [q]; exact Nat.le_add_right _ _
          · rw [q]; exact Nat.le_add_right _ _
          · rw [q]; exact Nat.le_add_right _ _
          · rw [q]; exact Nat.le_refl _
          · rw [q]; exact Nat.le_add_right _ _
        exact I1.fpOk hle (I1.hok.fresh hle)
      have S : ZipSep2 (s1.heap.objs.size + 4) (s1.heap.objs.size + 2) (s1.heap.objs.size + 3) s1.heap.objs.size (s1.heap.objs.size + 1) [s1.heap.objs.size, a] [s1.heap.objs.size + 1, b] :=
        zip_sep2 (fun c h => by rw [List.mem_singleton.mp h]; exact la) (fun c h => by rw [List.mem_singleton.mp h]; exact lb)
      have nb : b ≠ s1.heap.objs.size + 1 := Nat.ne_of_lt (Nat.lt_succ_of_lt lb)
      have T := turn_zm (P := X.prog) (w := X.w) (K := X.K) (elts := elts) (kk := kk) (tpos := tpos) S (Nat.ne_of_lt la) nb
      refine zip_begins2 (begins_list a its.toArray) (begins_tuple b its2.toArray) p1.isList p2 fun h' hz hTI hTO h1 h2 hsz hk => wpAny_pyIter_zip hz ?_
      have I2 : L2.Inv X pins σ H1 { s1 with heap := h' } := I1.kept (t' := s1.toks) hk
      exact ⟨s1.heap.objs.size + 4, zmCells (s1.heap.objs.size + 4) (s1.heap.objs.size + 2) (s1.heap.objs.size + 3) s1.heap.objs.size (s1.heap.objs.size + 1), _, ItZM X.K a b, H1, rfl, I2, T,
        ⟨hz, hTI, ⟨_, _, hTO⟩, ⟨_, h1, rfl, rfl⟩, ⟨_, h2, rfl, rfl⟩⟩, fp, q⟩
end Ms
namespace Ms
open PySem PySem.Spec PyProof.Rows L2
/-! ### _law_settings -/
/-- pairs of a text and an int, each a tuple of its own -/
inductive Prs (H : Hp) : List Addr → List (Str × Int) → Prop
  | nil : Prs H [] []
  | cons {a : Addr} {as : List Addr} {y : Str} {k : Int} {ys : List (Str × Int)} : H a = some (.tup [.str y, .int k]) → Prs H as ys → Prs H (a :: as) ((y, k) :: ys)
theorem Prs.same {H H' : Hp} {as : List Addr} {ys : List (Str × Int)} (s : ∀ b o, b ∈ as → H b = some o → H' b = some o) (p : Prs H as ys) : Prs H' as ys := by
  induction p with
  | nil => exact .nil
  | cons h _ ih => exact .cons (s _ _ (List.mem_cons_self ..) h) (ih fun b o hb => s b o (List.mem_cons_of_mem _ hb))
theorem Prs.snoc {H : Hp} {as : List Addr} {ys : List (Str × Int)} {a : Addr} {y : Str} {k : Int} (p : Prs H as ys) (h : H a = some (.tup [.str y, .int k])) : Prs H (as ++ [a]) (ys ++ [(y, k)]) := by
  induction p with
  | nil => exact .cons h .nil
  | cons h' _ ih => exact .cons h' ih
theorem Prs.length {H : Hp} {as : List Addr} {ys : List (Str × Int)} (p : Prs H as ys) : as.length = ys.length := by
  induction p with
  | nil => rfl
  | cons _ _ ih => simp [ih]
theorem Prs.live {H : Hp} {as : List Addr} {ys : List (Str × Int)} (p : Prs H as ys) : ∀ a ∈ as, ∃ y k, H a = some (.tup [.str y, .int k]) := by
  induction p with
  | nil => intro a h; cases h
  | cons h' _ ih =>
    intro b hb
    rcases List.mem_cons.mp hb with rfl | hb
    · exact ⟨_, _, h'⟩
    · exact ih b hb
theorem Prs.get {H : Hp} {as : List Addr} {ys : List (Str × Int)} (p : Prs H as ys) : ∀ {i : Nat} {a : Addr}, as[i]? = some a → ∃ y k, ys[i]? = some (y, k) ∧ H a = some (.tup [.str y, .int k]) := by
  induction p with
  | nil => intro i a h; simp at h
  | cons h' _ ih =>
    intro i b hb
    cases i with
    | zero => simp at hb; subst hb; exact ⟨_, _, rfl, h'⟩
    | succ i => exact ih (by simpa using hb)
/-- the data of such pairs -/
def prD (ys : List (Str × Int)) : List PyData := ys.map fun q => .tuple [.str q.1, .int q.2]
theorem Prs.dq {K : PySem.W.Frag} {H : Hp} {m l : Addr} {as : List Addr} {ys : List (Str × Int)} (p : Prs H as ys) : DqAll K H m l (as.map V.ref) (prD ys) := by
  induction p with
  | nil => exact .nil
  | cons h _ ih => exact .cons (.tup (.inl (.inl h)) (.cons (.str _) (.cons (.int _) .nil))) ih
theorem Fr.trail {m l l' : Addr} {H H1 H2 : Hp} (f : Fr m l l' H H1) (s : Same H1 H2) : Fr m l l' H H2 :=
  ⟨fun b o e h1 h2 => s _ _ (f.keep b o e h1 h2), f.new, fun b h => by
    cases q : H1 b with
    | none => exact absurd q (f.dom b h)
    | some o => rw [s _ _ q]; exact fun z => nomatch z⟩
/-- how often each may stand: one to three small ints -/
def Mo (H : Hp) (a : Addr) : Prop := ∃ ms : List Int, H a = some (.tup (ms.map V.int)) ∧ 1 ≤ ms.length ∧ ms.length ≤ 3 ∧ ∀ x ∈ ms, 1 ≤ x ∧ x ≤ 3
theorem Mo.same {H H' : Hp} {a : Addr} (s : Same H H') (h : Mo H a) : Mo H' a := by
  obtain ⟨ms, e, r⟩ := h
  exact ⟨ms, s _ _ e, r⟩
section
variable {P : Program} {w : World} {K : PySem.W.Frag} {mg : Str → Option Value} {base : Heap} {fN fM : Addr}
structure TxtS (mg : Str → Option Value) (fN fM : Addr) : Prop extends TxtN mg fN where
  names : mg "_law_names" = some (.ref fM)
abbrev NS : List Str := ["m", "mosts", "some", "name", "most"]
theorem scSt : FnScope NS ["m"] (defScope sSettings) := ⟨rfl, rfl, rfl, by decide +kernel, rfl, by decide +kernel, by decide +kernel⟩
/-- good pairs: names of at most 16 signs, small numbers -/
def okP (ys : List (Str × Int)) : Prop := ∀ q ∈ ys, sOk 16 q.1 ∧ 1 ≤ q.2 ∧ q.2 ≤ 3
def spSettings : Sp := fun vs H Q _ => ∃ (m l : Addr) (n : Nat), vs = [.ref m] ∧ Mch H m l n ∧ n < 800000 ∧
  ∀ (p : Addr) (as : List Addr) (ys : List (Str × Int)) (l' : Addr) (H' : Hp), H' p = some (.tup (as.map V.ref)) → Prs H' as ys → 1 ≤ ys.length → ys.length ≤ 3 → okP ys → Mch H' m l' (n + 12) → Fr m l l' H H' → Q (.ref p) H'
theorem ok_settings {f : Addr} {fd fdN fdM : FuncData} (F : Fun K "_law_settings" "_law_settings" sSettings f fd) (T : TxtS mg fN fM) (FN : Fun K "_law_next" "_law_next" sNext fN fdN) (bN : Binds K fdN ["m", "many"] [])
    (FM : Fun K "_law_names" "_law_names" sNames fM fdM) (bM : Binds K fdM ["m", "many"] []) : FnOk P w K mg base CX0 3 f fd ["m"] spSettings := by
  have GN : FnOk P w K mg base CX0 2 fN fdN ["m", "many"] spNext := (ok_next FN T.toTxt).mono (by decide)
  have GM : FnOk P w K mg base CX0 2 fM fdM ["m", "many"] spNames := ok_names FM T.toTxtN FN bN
  refine F.ok scSt (fun vs H Q E h => ?_) (fun cdv A outer s H vs Q E hr h => ?_)
  · obtain ⟨m, l, n, rfl, _⟩ := h
    rfl
  · obtain ⟨m, l, n, rfl, M, hn, q⟩ := h
    refine ⟨_, pss_cons (ps_set (i := 1) scSt.nd rfl (by first | exact Or.inl rfl | exact Or.inr rfl) (pe_lst (pa_cons (pe_tup (pa_cons pe_int pa_nil)) (pa_cons (pe_tup (pa_cons pe_int pa_nil)) (pa_cons (pe_tup (pa_cons pe_int pa_nil)) (pa_cons (pe_tup (pa_cons pe_int (pa_cons pe_int pa_nil))) (pa_cons (pe_tup (pa_cons pe_int (pa_cons pe_int pa_nil))) (pa_cons (pe_tup (pa_cons pe_int (pa_cons pe_int pa_nil))) (pa_cons (pe_tup (pa_cons pe_int (pa_cons pe_int pa_nil))) (pa_cons (pe_tup (pa_cons pe_int (pa_cons pe_int pa_nil))) (pa_cons (pe_tup (pa_cons pe_int (pa_cons pe_int pa_nil))) (pa_cons (pe_tup (pa_cons pe_int (pa_cons pe_int (pa_cons pe_int pa_nil)))) (pa_cons (pe_tup (pa_cons pe_int (pa_cons pe_int (pa_cons pe_int pa_nil)))) (pa_cons (pe_tup (pa_cons pe_int (pa_cons pe_int (pa_cons pe_int pa_nil)))) pa_nil))))))))))))))
      (pss_cons (ps_set (i := 2) scSt.nd rfl (by first | exact Or.inl rfl | exact Or.inr rfl) (pe_ix ix_list (pv 1) (pe_call GN hr rfl T.next FN.kp bN .nil pass0 (pa_cons (pv 0) (pa_cons pe_int pa_nil))) (fun _ _ => rfl)))
      (pss_one (ps_ret (pe_callTy call_tuple_of (by rfl) T.tuple (by decide +kernel) (pa_cons (pe_lc (own := [("name", 3), ("most", 4)]) (g := gTup K 2 (gCons (gName 3) (gCons (gName 4) gNil))) (by rfl) scSt.nd
        (pi_zm (by rfl) T.zip (pa_cons (pe_call GM hr rfl T.names FM.kp bM .nil pass0 (pa_cons (pv 0) (pa_cons (pe_callB call_len (by rfl) T.len PySem.boot_len (pa_cons (pv 2) pa_nil)) pa_nil))) (pa_cons (pv 2) pa_nil)))
        (blkOk_by (own := [("name", 3), ("most", 4)]) (N := NS) (sc := defScope sSettings) (by decide +kernel))
        (fun _ _ _ _ _ => pg_tup rfl (pgs_cons (pg_name (i := 3) scSt.nd rfl (Or.inl rfl)) (pgs_cons (pg_name (i := 4) scSt.nd rfl (Or.inl rfl)) pgs_nil))) (fun _ _ _ _ _ => pts_nil)
        (fun _ _ _ _ _ => pe_tup (pa_cons (pv 3) (pa_cons (pv 4) pa_nil)))) pa_nil))))), ?_⟩
    refine ⟨(by show 1 ≤ sizeLine; decide), fun p1 h1 => ?_⟩
    obtain ⟨G1, e1⟩ : ∃ G, G = upd H p1 (.tup [.int 1]) := ⟨_, rfl⟩
    rw [← e1]
    have s1 : Same H G1 := e1 ▸ Same.upd h1
    have M1 := M.same s1
    have f1 : Fr m l l H G1 := e1 ▸ (Fr.refl M).junk h1
    have a1_1 : Mo G1 p1 := ⟨[1], by rw [e1, upd_same]; rfl, by decide, by decide, by decide⟩
    refine ⟨(by show 1 ≤ sizeLine; decide), fun p2 h2 => ?_⟩
    obtain ⟨G2, e2⟩ : ∃ G, G = upd G1 p2 (.tup [.int 2]) := ⟨_, rfl⟩
    rw [← e2]
    have s2 : Same G1 G2 := e2 ▸ Same.upd h2
    have M2 := M1.same s2
    have f2 : Fr m l l H G2 := e2 ▸ f1.junk h2
    have a2_2 : Mo G2 p2 := ⟨[2], by rw [e2, upd_same]; rfl, by decide, by decide, by decide⟩
    have a1_2 := a1_1.same s2
    refine ⟨(by show 1 ≤ sizeLine; decide), fun p3 h3 => ?_⟩
    obtain ⟨G3, e3⟩ : ∃ G, G = upd G2 p3 (.tup [.int 3]) := ⟨_, rfl⟩
    rw [← e3]
    have s3 : Same G2 G3 := e3 ▸ Same.upd h3
    have M3 := M2.same s3
    have f3 : Fr m l l H G3 := e3 ▸ f2.junk h3
    have a3_3 : Mo G3 p3 := ⟨[3], by rw [e3, upd_same]; rfl, by decide, by decide, by decide⟩
    have a1_3 := a1_2.same s3
    have a2_3 := a2_2.same s3
    refine ⟨(by show 2 ≤ sizeLine; decide), fun p4 h4 => ?_⟩
    obtain ⟨G4, e4⟩ : ∃ G, G = upd G3 p4 (.tup [.int 1, .int 1]) := ⟨_, rfl⟩
    rw [← e4]
    have s4 : Same G3 G4 := e4 ▸ Same.upd h4
    have M4 := M3.same s4
    have f4 : Fr m l l H G4 := e4 ▸ f3.junk h4
    have a4_4 : Mo G4 p4 := ⟨[1, 1], by rw [e4, upd_same]; rfl, by decide, by decide, by decide⟩
    have a1_4 := a1_3.same s4
    have a2_4 := a2_3.same s4
    have a3_4 := a3_3.same s4
    refine ⟨(by show 2 ≤ sizeLine; decide), fun p5 h5 => ?_⟩
    obtain ⟨G5, e5⟩ : ∃ G, G = upd G4 p5 (.tup [.int 1, .int 2]) := ⟨_, rfl⟩
    rw [← e5]
    have s5 : Same G4 G5 := e5 ▸ Same.upd h5
    have M5 := M4.same s5
    have f5 : Fr m l l H G5 := e5 ▸ f4.junk h5
    have a5_5 : Mo G5 p5 := ⟨[1, 2], by rw [e5, upd_same]; rfl, by decide, by decide, by decide⟩
    have a1_5 := a1_4.same s5
    have a2_5 := a2_4.same s5
    have a3_5 := a3_4.same s5
    have a4_5 := a4_4.same s5
    refine ⟨(by show 2 ≤ sizeLine; decide), fun p6 h6 => ?_⟩
    obtain ⟨G6, e6⟩ : ∃ G, G = upd G5 p6 (.tup [.int 2, .int 1]) := ⟨_, rfl⟩
    rw [← e6]
    have s6 : Same G5 G6 := e6 ▸ Same.upd h6
    have M6 := M5.same s6
    have f6 : Fr m l l H G6 := e6 ▸ f5.junk h6
    have a6_6 : Mo G6 p6 := ⟨[2, 1], by rw [e6, upd_same]; rfl, by decide, by decide, by decide⟩
    have a1_6 := a1_5.same s6
    have a2_6 := a2_5.same s6
    have a3_6 := a3_5.same s6
    have a4_6 := a4_5.same s6
    have a5_6 := a5_5.same s6
    refine ⟨(by show 2 ≤ sizeLine; decide), fun p7 h7 => ?_⟩
    obtain ⟨G7, e7⟩ : ∃ G, G = upd G6 p7 (.tup [.int 2, .int 2]) := ⟨_, rfl⟩
    rw [← e7]
    have s7 : Same G6 G7 := e7 ▸ Same.upd h7
    have M7 := M6.same s7
    have f7 : Fr m l l H G7 := e7 ▸ f6.junk h7
    have a7_7 : Mo G7 p7 := ⟨[2, 2], by rw [e7, upd_same]; rfl, by decide, by decide, by decide⟩
    have a1_7 := a1_6.same s7
    have a2_7 := a2_6.same s7
    have a3_7 := a3_6.same s7
    have a4_7 := a4_6.same s7
    have a5_7 := a5_6.same s7
    have a6_7 := a6_6.same s7
    refine ⟨(by show 2 ≤ sizeLine; decide), fun p8 h8 => ?_⟩
    obtain ⟨G8, e8⟩ : ∃ G, G = upd G7 p8 (.tup [.int 1, .int 3]) := ⟨_, rfl⟩
    rw [← e8]
    have s8 : Same G7 G8 := e8 ▸ Same.upd h8
    have M8 := M7.same s8
    have f8 : Fr m l l H G8 := e8 ▸ f7.junk h8
    have a8_8 : Mo G8 p8 := ⟨[1, 3], by rw [e8, upd_same]; rfl, by decide, by decide, by decide⟩
    have a1_8 := a1_7.same s8
    have a2_8 := a2_7.same s8
    have a3_8 := a3_7.same s8
    have a4_8 := a4_7.same s8
    have a5_8 := a5_7.same s8
    have a6_8 := a6_7.same s8
    have a7_8 := a7_7.same s8
    refine ⟨(by show 2 ≤ sizeLine; decide), fun p9 h9 => ?_⟩
    obtain ⟨G9, e9⟩ : ∃ G, G = upd G8 p9 (.tup [.int 3, .int 2]) := ⟨_, rfl⟩
    rw [← e9]
    have s9 : Same G8 G9 := e9 ▸ Same.upd h9
    have M9 := M8.same s9
    have f9 : Fr m l l H G9 := e9 ▸ f8.junk h9
    have a9_9 : Mo G9 p9 := ⟨[3, 2], by rw [e9, upd_same]; rfl, by decide, by decide, by decide⟩
    have a1_9 := a1_8.same s9
    have a2_9 := a2_8.same s9
    have a3_9 := a3_8.same s9
    have a4_9 := a4_8.same s9
    have a5_9 := a5_8.same s9
    have a6_9 := a6_8.same s9
    have a7_9 := a7_8.same s9
    have a8_9 := a8_8.same s9
    refine ⟨(by show 3 ≤ sizeLine; decide), fun p10 h10 => ?_⟩
    obtain ⟨G10, e10⟩ : ∃ G, G = upd G9 p10 (.tup [.int 1, .int 1, .int 1]) := ⟨_, rfl⟩
    rw [← e10]
    have s10 : Same G9 G10 := e10 ▸ Same.upd h10
    have M10 := M9.same s10
    have f10 : Fr m l l H G10 := e10 ▸ f9.junk h10
    have a10_10 : Mo G10 p10 := ⟨[1, 1, 1], by rw [e10, upd_same]; rfl, by decide, by decide, by decide⟩
    have a1_10 := a1_9.same s10
    have a2_10 := a2_9.same s10
    have a3_10 := a3_9.same s10
    have a4_10 := a4_9.same s10
    have a5_10 := a5_9.same s10
    have a6_10 := a6_9.same s10
    have a7_10 := a7_9.same s10
    have a8_10 := a8_9.same s10
    have a9_10 := a9_9.same s10
    refine ⟨(by show 3 ≤ sizeLine; decide), fun p11 h11 => ?_⟩
    obtain ⟨G11, e11⟩ : ∃ G, G = upd G10 p11 (.tup [.int 1, .int 2, .int 1]) := ⟨_, rfl⟩
    rw [← e11]
    have s11 : Same G10 G11 := e11 ▸ Same.upd h11
    have M11 := M10.same s11
    have f11 : Fr m l l H G11 := e11 ▸ f10.junk h11
    have a11_11 : Mo G11 p11 := ⟨[1, 2, 1], by rw [e11, upd_same]; rfl, by decide, by decide, by decide⟩
    have a1_11 := a1_10.same s11
    have a2_11 := a2_10.same s11
    have a3_11 := a3_10.same s11
    have a4_11 := a4_10.same s11
    have a5_11 := a5_10.same s11
    have a6_11 := a6_10.same s11
    have a7_11 := a7_10.same s11
    have a8_11 := a8_10.same s11
    have a9_11 := a9_10.same s11
    have a10_11 := a10_10.same s11
    refine ⟨(by show 3 ≤ sizeLine; decide), fun p12 h12 => ?_⟩
    obtain ⟨G12, e12⟩ : ∃ G, G = upd G11 p12 (.tup [.int 1, .int 1, .int 2]) := ⟨_, rfl⟩
    rw [← e12]
    have s12 : Same G11 G12 := e12 ▸ Same.upd h12
    have M12 := M11.same s12
    have f12 : Fr m l l H G12 := e12 ▸ f11.junk h12
    have a12_12 : Mo G12 p12 := ⟨[1, 1, 2], by rw [e12, upd_same]; rfl, by decide, by decide, by decide⟩
    have a1_12 := a1_11.same s12
    have a2_12 := a2_11.same s12
    have a3_12 := a3_11.same s12
    have a4_12 := a4_11.same s12
    have a5_12 := a5_11.same s12
    have a6_12 := a6_11.same s12
    have a7_12 := a7_11.same s12
    have a8_12 := a8_11.same s12
    have a9_12 := a9_11.same s12
    have a10_12 := a10_11.same s12
    have a11_12 := a11_11.same s12
    refine ⟨(by show 12 ≤ sizeLine; decide), fun D hD => ?_⟩
    obtain ⟨G, eG⟩ : ∃ G, G = upd G12 D (.lst [.ref p1, .ref p2, .ref p3, .ref p4, .ref p5, .ref p6, .ref p7, .ref p8, .ref p9, .ref p10, .ref p11, .ref p12]) := ⟨_, rfl⟩
    rw [← eG]
    have sG : Same G12 G := eG ▸ Same.upd hD
    have nD := M12.ne hD
    have MG := M12.same sG
    have fG : Fr m l l H G := eG ▸ f12.junk hD
    have gD : G D = some (.lst [.ref p1, .ref p2, .ref p3, .ref p4, .ref p5, .ref p6, .ref p7, .ref p8, .ref p9, .ref p10, .ref p11, .ref p12]) := by rw [eG, upd_same]
    have pick : ∀ r : Int, 0 ≤ r → r < 12 → ∃ a, atI ([.ref p1, .ref p2, .ref p3, .ref p4, .ref p5, .ref p6, .ref p7, .ref p8, .ref p9, .ref p10, .ref p11, .ref p12] : List V) r = some (.ref a) ∧ Mo G a := by
      intro r h0 h1
      obtain ⟨j, rfl⟩ : ∃ j : Nat, r = (j : Int) := ⟨r.toNat, by omega⟩
      have hj : j < 12 := by omega
      match j, hj with
      | 0, _ => exact ⟨p1, rfl, a1_12.same sG⟩
      | 1, _ => exact ⟨p2, rfl, a2_12.same sG⟩
      | 2, _ => exact ⟨p3, rfl, a3_12.same sG⟩
      | 3, _ => exact ⟨p4, rfl, a4_12.same sG⟩
      | 4, _ => exact ⟨p5, rfl, a5_12.same sG⟩
      | 5, _ => exact ⟨p6, rfl, a6_12.same sG⟩
      | 6, _ => exact ⟨p7, rfl, a7_12.same sG⟩
      | 7, _ => exact ⟨p8, rfl, a8_12.same sG⟩
      | 8, _ => exact ⟨p9, rfl, a9_12.same sG⟩
      | 9, _ => exact ⟨p10, rfl, a10_12.same sG⟩
      | 10, _ => exact ⟨p11, rfl, a11_12.same sG⟩
      | 11, _ => exact ⟨p12, rfl, a12_12.same sG⟩
    clear e1 s1 M1 f1 e2 s2 M2 f2 e3 s3 M3 f3 e4 s4 M4 f4 e5 s5 M5 f5 e6 s6 M6 f6 e7 s7 M7 f7 e8 s8 M8 f8 e9 s9 M9 f9 e10 s10 M10 f10 e11 s11 M11 f11 a1_1 a1_2 a2_2 a1_3 a2_3 a3_3 a1_4 a2_4 a3_4 a4_4 a1_5 a2_5 a3_5 a4_5 a5_5 a1_6 a2_6 a3_6 a4_6 a5_6 a6_6 a1_7 a2_7 a3_7 a4_7 a5_7 a6_7 a7_7 a1_8 a2_8 a3_8 a4_8 a5_8 a6_8 a7_8 a8_8 a1_9 a2_9 a3_9 a4_9 a5_9 a6_9 a7_9 a8_9 a9_9 a1_10 a2_10 a3_10 a4_10 a5_10 a6_10 a7_10 a8_10 a9_10 a10_10 a1_11 a2_11 a3_11 a4_11 a5_11 a6_11 a7_11 a8_11 a9_11 a10_11 a11_11 a1_12 a2_12 a3_12 a4_12 a5_12 a6_12 a7_12 a8_12 a9_12 a10_12 a11_12 a12_12
    refine ⟨_, rfl, _, rfl, m, l, n, 12, rfl, MG, by omega, by decide, by decide, fun r l1 H1 r0 r1 M1 f1' => ?_⟩
    obtain ⟨a, ha, mo⟩ := pick r r0 r1
    refine ⟨D, _, r, .ref a, rfl, rfl, SqL.of (f1'.keep D _ gD nD.1 nD.2), ha, ?_⟩
    obtain ⟨ms, hms, ml1, ml3, msok⟩ := mo
    have am : a ≠ m ∧ a ≠ l := by
      obtain ⟨c, cs, ls, z, dm, dc, dl, _⟩ := MG.ex
      exact ⟨ne_of hms dm (by intro q; cases q), ne_of hms dl (by intro q; cases q)⟩
    have ka : H1 a = some (.tup (ms.map V.int)) := f1'.keep a _ hms am.1 am.2
    have F1 : Fr m l l1 H H1 := fG.trans f1'
    clear pick gD eG sG MG fG hD e12 s12 M12 f12 h12 h11 h10 h9 h8 h7 h6 h5 h4 h3 h2 h1 ha f1' hms
    have lenA : ((ms.map V.int).length : Nat) = ms.length := List.length_map ..
    refine ⟨_, rfl, _, rfl, _, _, rfl, .inr ⟨_, SqT.of ka, rfl⟩, ?_⟩
    refine ⟨m, l1, n + 1, (ms.map V.int).length, rfl, M1, by omega, by omega, by omega, fun N ys l2 H2 hN gN yl yo nm nl M2 f2 => ?_⟩
    have F2 := F1.trans f2
    have ka2 : H2 a = some (.tup (ms.map V.int)) := f2.keep a _ ka am.1 (by
      obtain ⟨c, cs, ls, z, dm, dc, dl, _⟩ := M1.ex
      exact ne_of ka dl (by intro q; cases q))
    refine ⟨_, rfl, N, a, _, _, rfl, SqL.of gN, .inl (.inl ka2), fun D2 hD2 => ?_⟩
    have yl' : ys.length = ms.length := yl.trans lenA
    refine lc_it (walk_zm (xs := ys.map V.str) (ys := ms.map V.int) (n := ms.length) (by simp [yl'])) (fun i H3 => ∃ as : List Addr, as.length = i ∧ Prs H3 as ((ys.zip ms).take i) ∧ (∀ b ∈ as, b ≠ D2) ∧ H3 D2 = some (.lst (as.map V.ref)) ∧ Same H2 H3)
      ⟨[], rfl, .nil, (fun _ hb => nomatch hb), upd_same, Same.upd hD2⟩ (fun i H3 _ ⟨as, _, _, _, _, s3⟩ => ⟨SqL.of (s3 _ _ gN), SqT.of (s3 _ _ ka2)⟩) ?_ ?_
    · rintro i x H3 H4 hi ⟨as, al, pr, nd, gd, s3⟩ ⟨T, x1, x2, rfl, hT, rfl, e1, e2⟩
      have hy : i < ys.length := by omega
      have e1' : x1 = .str ys[i] := by simp [hy] at e1; exact e1.symm
      have e2' : x2 = .int ms[i] := by simp [hi] at e2; exact e2.symm
      subst e1' e2'
      refine ⟨T, _, rfl, .inl (.inl upd_same), rfl, _, _, rfl, _, _, rfl, rfl, rfl, tyes ?_⟩
      refine ⟨_, rfl, _, rfl, (by show 2 ≤ sizeLine; decide), fun p hp => ?_⟩
      have sT : Same H3 (upd H3 T (.tup [.str ys[i], .int ms[i]])) := Same.upd hT
      have sp : Same (upd H3 T (.tup [.str ys[i], .int ms[i]])) (upd (upd H3 T (.tup [.str ys[i], .int ms[i]])) p (.tup [.str ys[i], .int ms[i]])) := Same.upd hp
      have nDp : p ≠ D2 := fun e => by rw [e, sT _ _ gd] at hp; cases hp
      refine ⟨_, sp _ _ (sT _ _ gd), small1000 (by rw [List.length_map]; omega), as ++ [p], by simp [al], ?_, ?_, ?_, ?_⟩
      · rw [List.take_succ]
        have ez : (ys.zip ms)[i]? = some (ys[i], ms[i]) := by rw [List.getElem?_zip_eq_some]; exact ⟨List.getElem?_eq_getElem hy, List.getElem?_eq_getElem hi⟩
        rw [ez]
        refine Prs.snoc (Prs.same (fun b o hb e => ?_) pr) ?_
        · rw [upd_ne (nd b hb)]; exact sp _ _ (sT _ _ e)
        · rw [upd_ne nDp, upd_same]
      · intro b hb
        rcases List.mem_append.mp hb with hb | hb
        · exact nd b hb
        · rw [List.mem_singleton.mp hb]; exact nDp
      · rw [upd_same, List.map_append]; rfl
      · intro b o e
        have nb : b ≠ D2 := ne_of_none e hD2
        rw [upd_ne nb]; exact sp _ _ (sT _ _ (s3 _ _ e))
    · rintro H3 ⟨as, al, pr, nd, gd, s3⟩
      have lz : (ys.zip ms).length = ms.length := by simp [yl']
      rw [List.take_of_length_le (by omega)] at pr
      refine ⟨D2, _, rfl, .inl ⟨SqL.of gd, fun p hp => ?_⟩⟩
      have sp : Same H3 (upd H3 p (.tup (as.map V.ref))) := Same.upd hp
      refine q p as (ys.zip ms) l2 _ upd_same (pr.same fun b o _ e => sp b o e) (by omega) (by omega) (fun y hy => ?_) ((((M2.same s3).same sp)).mono (by omega)) ((F2.trail s3).trail sp)
      have := List.of_mem_zip hy
      exact ⟨yo _ this.1, msok _ this.2⟩
end
end Ms
namespace Ms
open PySem PySem.Spec PyProof.Rows L2
/-! ### _law_odd -/
def odds : List PyData := [.none, .int 0, .int 1, .int 2, .int 4, .int (-1), .int 100, .bool true, .bool false, .str "", .str "a", .str "abcdefghi", .str "A", .str "end", .str "live", .tuple [], .tuple [.tuple []], .tuple [.str "a", .int 1], .list [], .dict [], .int (10 ^ (30 : Int).toNat), .tuple [.str "end"], .tuple [.tuple [.str "end"]], .str "begin", .str "a1", .tuple [.str "do", .str "a", .int 0]]
abbrev big : Nat := 10 ^ 30
def gdB (B a b : Nat) (d : PyData) : Bool := okD B d && (decide (d.weight ≤ a) && decide (d.depth ≤ b))
theorem gd_of {B a b : Nat} {d : PyData} (h : gdB B a b d = true) : Gd B a b d := by
  unfold gdB at h
  simp only [Bool.and_eq_true, decide_eq_true_eq] at h
  exact ⟨h.1, h.2.1, h.2.2⟩
theorem odds_good : odds.all (gdB big 128 2) = true := by decide +kernel
section
variable {P : Program} {w : World} {K : PySem.W.Frag} {mg : Str → Option Value} {base : Heap} {fN fM : Addr}
theorem scOd : FnScope ["m", "some"] ["m"] (defScope sOdd) := ⟨rfl, rfl, rfl, by decide +kernel, rfl, by decide +kernel, by decide +kernel⟩
def spOdd (K : PySem.W.Frag) : Sp := fun vs H Q _ => ∃ (m l : Addr) (n : Nat), vs = [.ref m] ∧ Mch H m l n ∧ n < 900000 ∧
  ∀ (v : V) (d : PyData) (l' : Addr) (H' : Hp), Dq K H' m l' v d → Gd big 128 2 d → Mch H' m l' (n + 1) → Fr m l l' H H' → Q v H'
theorem ok_odd {f : Addr} {fd fdN : FuncData} (F : Fun K "_law_odd" "_law_odd" sOdd f fd) (T : TxtS mg fN fM) (FN : Fun K "_law_next" "_law_next" sNext fN fdN) (bN : Binds K fdN ["m", "many"] []) : FnOk P w K mg base CX0 2 f fd ["m"] (spOdd K) := by
  have GN : FnOk P w K mg base CX0 1 fN fdN ["m", "many"] spNext := ok_next FN T.toTxt
  refine F.ok scOd (fun vs H Q E h => ?_) (fun cdv A outer s H vs Q E hr h => ?_)
  · obtain ⟨m, l, n, rfl, _⟩ := h
    rfl
  · obtain ⟨m, l, n, rfl, M, hn, q⟩ := h
    refine ⟨_, pss_cons (ps_set (i := 1) scOd.nd rfl (by first | exact Or.inl rfl | exact Or.inr rfl) (pe_lst (pa_cons pe_non (pa_cons pe_int (pa_cons pe_int (pa_cons pe_int (pa_cons pe_int (pa_cons (pe_un un_neg pe_int) (pa_cons pe_int (pa_cons pe_bl (pa_cons pe_bl (pa_cons pe_str (pa_cons pe_str (pa_cons pe_str (pa_cons pe_str (pa_cons pe_str (pa_cons pe_str (pa_cons (pe_tup pa_nil) (pa_cons (pe_tup (pa_cons (pe_tup pa_nil) pa_nil)) (pa_cons (pe_tup (pa_cons pe_str (pa_cons pe_int pa_nil))) pa_nil))))))))))))))))))))
      (pss_one (ps_ret (pe_ix ix_list (pe_op op_cat (pv 1) (pe_lst (pa_cons (pe_lst pa_nil) (pa_cons pe_dnewK (pa_cons (pe_op op_pow pe_int pe_int) (pa_cons (pe_tup (pa_cons pe_str pa_nil)) (pa_cons (pe_tup (pa_cons (pe_tup (pa_cons pe_str pa_nil)) pa_nil)) (pa_cons pe_str (pa_cons pe_str (pa_cons (pe_tup (pa_cons pe_str (pa_cons pe_str (pa_cons pe_int pa_nil)))) pa_nil))))))))))
        (pe_call GN hr rfl T.next FN.kp bN .nil pass0 (pa_cons (pv 0) (pa_cons pe_int pa_nil))) (fun _ _ => rfl)))), ?_⟩
    refine ⟨_, rfl, ?_⟩
    refine ⟨Nat.zero_le _, fun p1 hp1 => ?_⟩
    obtain ⟨G1, e1⟩ : ∃ G, G = upd H p1 (.tup []) := ⟨_, rfl⟩
    rw [← e1]
    have s : Same H G1 := e1 ▸ Same.upd hp1
    have np1 := M.ne hp1
    have M1 := M.same s
    have f1 : Fr m l l H G1 := e1 ▸ (Fr.refl M).junk hp1
    have kp1 : G1 p1 = some (.tup []) := by rw [e1, upd_same]
    clear s e1
    refine ⟨Nat.zero_le _, fun p2 hp2 => ?_⟩
    obtain ⟨G2, e2⟩ : ∃ G, G = upd G1 p2 (.tup []) := ⟨_, rfl⟩
    rw [← e2]
    have s : Same G1 G2 := e2 ▸ Same.upd hp2
    have np2 := M1.ne hp2
    have M2 := M1.same s
    have f2 : Fr m l l H G2 := e2 ▸ f1.junk hp2
    replace kp1 := s _ _ kp1
    have kp2 : G2 p2 = some (.tup []) := by rw [e2, upd_same]
    clear s e2
    refine ⟨(by show 1 ≤ sizeLine; decide), fun p3 hp3 => ?_⟩
    obtain ⟨G3, e3⟩ : ∃ G, G = upd G2 p3 (.tup [.ref p2]) := ⟨_, rfl⟩
    rw [← e3]
    have s : Same G2 G3 := e3 ▸ Same.upd hp3
    have np3 := M2.ne hp3
    have M3 := M2.same s
    have f3 : Fr m l l H G3 := e3 ▸ f2.junk hp3
    replace kp1 := s _ _ kp1
    replace kp2 := s _ _ kp2
    have kp3 : G3 p3 = some (.tup [.ref p2]) := by rw [e3, upd_same]
    clear s e3
    refine ⟨(by show 2 ≤ sizeLine; decide), fun p4 hp4 => ?_⟩
    obtain ⟨G4, e4⟩ : ∃ G, G = upd G3 p4 (.tup [.str "a", .int 1]) := ⟨_, rfl⟩
    rw [← e4]
    have s : Same G3 G4 := e4 ▸ Same.upd hp4
    have np4 := M3.ne hp4
    have M4 := M3.same s
    have f4 : Fr m l l H G4 := e4 ▸ f3.junk hp4
    replace kp1 := s _ _ kp1
    replace kp2 := s _ _ kp2
    replace kp3 := s _ _ kp3
    have kp4 : G4 p4 = some (.tup [.str "a", .int 1]) := by rw [e4, upd_same]
    clear s e4
    refine ⟨(by show 18 ≤ sizeLine; decide), fun L1 hL1 => ?_⟩
    obtain ⟨G5, e5⟩ : ∃ G, G = upd G4 L1 (.lst [.non, .int 0, .int 1, .int 2, .int 4, .int (-1), .int 100, .bl true, .bl false, .str "", .str "a", .str "abcdefghi", .str "A", .str "end", .str "live", .ref p1, .ref p3, .ref p4]) := ⟨_, rfl⟩
    rw [← e5]
    have s : Same G4 G5 := e5 ▸ Same.upd hL1
    have nL1 := M4.ne hL1
    have M5 := M4.same s
    have f5 : Fr m l l H G5 := e5 ▸ f4.junk hL1
    replace kp1 := s _ _ kp1
    replace kp2 := s _ _ kp2
    replace kp3 := s _ _ kp3
    replace kp4 := s _ _ kp4
    have kL1 : G5 L1 = some (.lst [.non, .int 0, .int 1, .int 2, .int 4, .int (-1), .int 100, .bl true, .bl false, .str "", .str "a", .str "abcdefghi", .str "A", .str "end", .str "live", .ref p1, .ref p3, .ref p4]) := by rw [e5, upd_same]
    clear s e5
    refine ⟨_, rfl, ?_⟩
    refine ⟨Nat.zero_le _, fun p5 hp5 => ?_⟩
    obtain ⟨G6, e6⟩ : ∃ G, G = upd G5 p5 (.lst []) := ⟨_, rfl⟩
    rw [← e6]
    have s : Same G5 G6 := e6 ▸ Same.upd hp5
    have np5 := M5.ne hp5
    have M6 := M5.same s
    have f6 : Fr m l l H G6 := e6 ▸ f5.junk hp5
    replace kp1 := s _ _ kp1
    replace kp2 := s _ _ kp2
    replace kp3 := s _ _ kp3
    replace kp4 := s _ _ kp4
    replace kL1 := s _ _ kL1
    have kp5 : G6 p5 = some (.lst []) := by rw [e6, upd_same]
    clear s e6
    intro p6 hp6
    obtain ⟨G7, e7⟩ : ∃ G, G = upd G6 p6 (.dK []) := ⟨_, rfl⟩
    rw [← e7]
    have s : Same G6 G7 := e7 ▸ Same.upd hp6
    have np6 := M6.ne hp6
    have M7 := M6.same s
    have f7 : Fr m l l H G7 := e7 ▸ f6.junk hp6
    replace kp1 := s _ _ kp1
    replace kp2 := s _ _ kp2
    replace kp3 := s _ _ kp3
    replace kp4 := s _ _ kp4
    replace kL1 := s _ _ kL1
    replace kp5 := s _ _ kp5
    have kp6 : G7 p6 = some (.dK []) := by rw [e7, upd_same]
    clear s e7
    refine ⟨_, _, rfl, rfl, ⟨by decide, by decide, by decide⟩, ?_⟩
    refine ⟨(by show 1 ≤ sizeLine; decide), fun p7 hp7 => ?_⟩
    obtain ⟨G8, e8⟩ : ∃ G, G = upd G7 p7 (.tup [.str "end"]) := ⟨_, rfl⟩
    rw [← e8]
    have s : Same G7 G8 := e8 ▸ Same.upd hp7
    have np7 := M7.ne hp7
    have M8 := M7.same s
    have f8 : Fr m l l H G8 := e8 ▸ f7.junk hp7
    replace kp1 := s _ _ kp1
    replace kp2 := s _ _ kp2
    replace kp3 := s _ _ kp3
    replace kp4 := s _ _ kp4
    replace kL1 := s _ _ kL1
    replace kp5 := s _ _ kp5
    replace kp6 := s _ _ kp6
    have kp7 : G8 p7 = some (.tup [.str "end"]) := by rw [e8, upd_same]
    clear s e8
    refine ⟨(by show 1 ≤ sizeLine; decide), fun p8 hp8 => ?_⟩
    obtain ⟨G9, e9⟩ : ∃ G, G = upd G8 p8 (.tup [.str "end"]) := ⟨_, rfl⟩
    rw [← e9]
    have s : Same G8 G9 := e9 ▸ Same.upd hp8
    have np8 := M8.ne hp8
    have M9 := M8.same s
    have f9 : Fr m l l H G9 := e9 ▸ f8.junk hp8
    replace kp1 := s _ _ kp1
    replace kp2 := s _ _ kp2
    replace kp3 := s _ _ kp3
    replace kp4 := s _ _ kp4
    replace kL1 := s _ _ kL1
    replace kp5 := s _ _ kp5
    replace kp6 := s _ _ kp6
    replace kp7 := s _ _ kp7
    have kp8 : G9 p8 = some (.tup [.str "end"]) := by rw [e9, upd_same]
    clear s e9
    refine ⟨(by show 1 ≤ sizeLine; decide), fun p9 hp9 => ?_⟩
    obtain ⟨G10, e10⟩ : ∃ G, G = upd G9 p9 (.tup [.ref p8]) := ⟨_, rfl⟩
    rw [← e10]
    have s : Same G9 G10 := e10 ▸ Same.upd hp9
    have np9 := M9.ne hp9
    have M10 := M9.same s
    have f10 : Fr m l l H G10 := e10 ▸ f9.junk hp9
    replace kp1 := s _ _ kp1
    replace kp2 := s _ _ kp2
    replace kp3 := s _ _ kp3
    replace kp4 := s _ _ kp4
    replace kL1 := s _ _ kL1
    replace kp5 := s _ _ kp5
    replace kp6 := s _ _ kp6
    replace kp7 := s _ _ kp7
    replace kp8 := s _ _ kp8
    have kp9 : G10 p9 = some (.tup [.ref p8]) := by rw [e10, upd_same]
    clear s e10
    refine ⟨(by show 3 ≤ sizeLine; decide), fun p10 hp10 => ?_⟩
    obtain ⟨G11, e11⟩ : ∃ G, G = upd G10 p10 (.tup [.str "do", .str "a", .int 0]) := ⟨_, rfl⟩
    rw [← e11]
    have s : Same G10 G11 := e11 ▸ Same.upd hp10
    have np10 := M10.ne hp10
    have M11 := M10.same s
    have f11 : Fr m l l H G11 := e11 ▸ f10.junk hp10
    replace kp1 := s _ _ kp1
    replace kp2 := s _ _ kp2
    replace kp3 := s _ _ kp3
    replace kp4 := s _ _ kp4
    replace kL1 := s _ _ kL1
    replace kp5 := s _ _ kp5
    replace kp6 := s _ _ kp6
    replace kp7 := s _ _ kp7
    replace kp8 := s _ _ kp8
    replace kp9 := s _ _ kp9
    have kp10 : G11 p10 = some (.tup [.str "do", .str "a", .int 0]) := by rw [e11, upd_same]
    clear s e11
    refine ⟨(by show 8 ≤ sizeLine; decide), fun L2 hL2 => ?_⟩
    obtain ⟨G12, e12⟩ : ∃ G, G = upd G11 L2 (.lst [.ref p5, .ref p6, .int (10 ^ (30 : Int).toNat), .ref p7, .ref p9, .str "begin", .str "a1", .ref p10]) := ⟨_, rfl⟩
    rw [← e12]
    have s : Same G11 G12 := e12 ▸ Same.upd hL2
    have nL2 := M11.ne hL2
    have M12 := M11.same s
    have f12 : Fr m l l H G12 := e12 ▸ f11.junk hL2
    replace kp1 := s _ _ kp1
    replace kp2 := s _ _ kp2
    replace kp3 := s _ _ kp3
    replace kp4 := s _ _ kp4
    replace kL1 := s _ _ kL1
    replace kp5 := s _ _ kp5
    replace kp6 := s _ _ kp6
    replace kp7 := s _ _ kp7
    replace kp8 := s _ _ kp8
    replace kp9 := s _ _ kp9
    replace kp10 := s _ _ kp10
    have kL2 : G12 L2 = some (.lst [.ref p5, .ref p6, .int (10 ^ (30 : Int).toNat), .ref p7, .ref p9, .str "begin", .str "a1", .ref p10]) := by rw [e12, upd_same]
    clear s e12
    refine ⟨L1, L2, _, _, rfl, rfl, kL1, kL2, (by show 26 ≤ sizeLine; decide), fun L3 hL3 => ?_⟩
    obtain ⟨G13, e13⟩ : ∃ G, G = upd G12 L3 (.lst [.non, .int 0, .int 1, .int 2, .int 4, .int (-1), .int 100, .bl true, .bl false, .str "", .str "a", .str "abcdefghi", .str "A", .str "end", .str "live", .ref p1, .ref p3, .ref p4, .ref p5, .ref p6, .int (10 ^ (30 : Int).toNat), .ref p7, .ref p9, .str "begin", .str "a1", .ref p10]) := ⟨_, rfl⟩
    have e13' : upd G12 L3 (.lst (([.non, .int 0, .int 1, .int 2, .int 4, .int (-1), .int 100, .bl true, .bl false, .str "", .str "a", .str "abcdefghi", .str "A", .str "end", .str "live", .ref p1, .ref p3, .ref p4] : List V) ++ [.ref p5, .ref p6, .int (10 ^ (30 : Int).toNat), .ref p7, .ref p9, .str "begin", .str "a1", .ref p10])) = G13 := e13.symm
    rw [e13']
    have s : Same G12 G13 := e13 ▸ Same.upd hL3
    have nL3 := M12.ne hL3
    have M13 := M12.same s
    have f13 : Fr m l l H G13 := e13 ▸ f12.junk hL3
    replace kp1 := s _ _ kp1
    replace kp2 := s _ _ kp2
    replace kp3 := s _ _ kp3
    replace kp4 := s _ _ kp4
    replace kL1 := s _ _ kL1
    replace kp5 := s _ _ kp5
    replace kp6 := s _ _ kp6
    replace kp7 := s _ _ kp7
    replace kp8 := s _ _ kp8
    replace kp9 := s _ _ kp9
    replace kp10 := s _ _ kp10
    replace kL2 := s _ _ kL2
    have kL3 : G13 L3 = some (.lst [.non, .int 0, .int 1, .int 2, .int 4, .int (-1), .int 100, .bl true, .bl false, .str "", .str "a", .str "abcdefghi", .str "A", .str "end", .str "live", .ref p1, .ref p3, .ref p4, .ref p5, .ref p6, .int (10 ^ (30 : Int).toNat), .ref p7, .ref p9, .str "begin", .str "a1", .ref p10]) := by rw [e13, upd_same]
    clear s e13 e13'
    have D : DqAll K G13 m l [.non, .int 0, .int 1, .int 2, .int 4, .int (-1), .int 100, .bl true, .bl false, .str "", .str "a", .str "abcdefghi", .str "A", .str "end", .str "live", .ref p1, .ref p3, .ref p4, .ref p5, .ref p6, .int (10 ^ (30 : Int).toNat), .ref p7, .ref p9, .str "begin", .str "a1", .ref p10] odds :=
      (.cons (.non) (.cons (.int _) (.cons (.int _) (.cons (.int _) (.cons (.int _) (.cons (.int _) (.cons (.int _) (.cons (.bl _) (.cons (.bl _) (.cons (.str _) (.cons (.str _) (.cons (.str _) (.cons (.str _) (.cons (.str _) (.cons (.str _) (.cons (.tup (.inl (.inl kp1)) .nil) (.cons (.tup (.inl (.inl kp3)) (.cons (.tup (.inl (.inl kp2)) .nil) .nil)) (.cons (.tup (.inl (.inl kp4)) (.cons (.str _) (.cons (.int _) .nil))) (.cons (.lst kp5 np5.1 np5.2 .nil) (.cons (.dct kp6 np6.1 np6.2) (.cons (.int _) (.cons (.tup (.inl (.inl kp7)) (.cons (.str _) .nil)) (.cons (.tup (.inl (.inl kp9)) (.cons (.tup (.inl (.inl kp8)) (.cons (.str _) .nil)) .nil)) (.cons (.str _) (.cons (.str _) (.cons (.tup (.inl (.inl kp10)) (.cons (.str _) (.cons (.str _) (.cons (.int _) .nil)))) .nil))))))))))))))))))))))))))
    have kd := M13.step (l' := l) (Fr.refl M13)
    clear kL1 kL2 kp1 kp2 kp3 kp4 kp5 kp6 kp7 kp8 kp9 kp10
    refine ⟨_, rfl, m, l, n, 26, rfl, M13, by omega, by decide, by decide, fun r l' H' r0 r1 M' f => ?_⟩
    obtain ⟨rn, rfl⟩ : ∃ rn : Nat, r = (rn : Int) := ⟨r.toNat, by omega⟩
    obtain ⟨vs, hvs⟩ : ∃ vs : List V, vs = [.non, .int 0, .int 1, .int 2, .int 4, .int (-1), .int 100, .bl true, .bl false, .str "", .str "a", .str "abcdefghi", .str "A", .str "end", .str "live", .ref p1, .ref p3, .ref p4, .ref p5, .ref p6, .int (10 ^ (30 : Int).toNat), .ref p7, .ref p9, .str "begin", .str "a1", .ref p10] := ⟨_, rfl⟩
    rw [← hvs] at D kL3
    have lv : vs.length = 26 := by rw [hvs]; rfl
    obtain ⟨v, hv⟩ : ∃ v, vs[rn]? = some v := ⟨_, List.getElem?_eq_getElem (by rw [lv]; omega)⟩
    obtain ⟨d, hd, dq⟩ := D.get hv
    have gd : Gd big 128 2 d := gd_of (List.all_eq_true.mp odds_good d (List.mem_of_getElem? hd))
    refine ⟨L3, _, (rn : Int), v, rfl, rfl, SqL.of (f.keep L3 _ kL3 nL3.1 nL3.2), atI_nat hv, ?_⟩
    exact q v d l' H' (Dq.step (M13.step f) d v dq) gd M' (f13.trans f)
end
end Ms
namespace Ms
open PySem PySem.Spec PyProof.Rows L2
/-! ### two rules over tuples -/
/-- t == (), whatever the items are -/
theorem op_eq_nil {X : Cx} (hu : X.A.units + 64 < cLine) : OpR X (compareOp .Eq) (fun x y H Q => ∃ a b xs, x = .ref a ∧ y = .ref b ∧ SqT X.K H a xs ∧ SqT X.K H b [] ∧ Q (.bl (xs.length == 0)) H) := by
  intro pins s σ H x y v u Q I rx ry h
  obtain ⟨a, b, xs, rfl, rfl, ha, hb, q⟩ := h
  cases rx
  cases ry
  obtain ⟨its, r1, p1, _⟩ := I.tuple ha
  obtain ⟨its2, r2, p2, _⟩ := I.tuple hb
  cases r2
  have hl := r1.length
  refine SeqAt.eq_tupleAt (e := fun _ => true) p1 p2 (by omega) (fun j h1 h2 => by simp at h2) ?_
  refine ⟨.bl _, H, I, rfl, ?_⟩
  have e : ((List.range (min its.toArray.size ([] : List Value).toArray.size)).all (fun _ => true) && its.toArray.size == ([] : List Value).toArray.size) = (xs.length == 0) := by
    rw [hl]; simp
  rw [e]; exact q
section
variable {prog : Program} {w : World} {A : Around} {E : Value → Shared → Prop} {s : Shared}
theorem places_rev (n : Nat) : Builtin.Slice.slicePlaces ((n : Int) - 1) (-1) (-1) = n := by
  unfold Builtin.Slice.slicePlaces
  have h1 : ¬ ((-1 : Int) > 0) := by decide
  have h2 : (- -1 : Int) = 1 := by decide
  simp only [h1, if_false, h2, Int.ediv_one]
  split <;> omega
theorem applied_rev {sl : Addr} {vs : Value} {n : Nat} {Q : Int × Int × Nat → Shared → Prop} (hs : s.heap.IsSliceOf sl .none .none vs) (ps : IsPart vs (some (-1)))
    (h : Q ((n : Int) - 1, -1, n) s) : wpAny (model prog w) A (Builtin.Slice.sliceApplied (.ref sl) (pure (n : Int))) Q E s := by
  obtain ⟨os, hos, hcs, hds⟩ := id hs
  unfold Builtin.Slice.sliceApplied Builtin.Slice.sliceFields
  refine wpAny_bind (wpAny_bind (wpAny_field hos hds (x := .none) rfl (wpAny_bind (wpAny_field hos hds (x := .none) rfl (wpAny_bind (wpAny_field hos hds (x := vs) rfl (wpAny_pure ?_)))))))
  refine wpAny_bind (HT.slicePart_ ps ?_)
  show wpAny _ _ (if ((-1 : Int) == 0) = true then _ else _) _ _ s
  rw [if_neg (by decide)]
  refine wpAny_bind (HT.slicePart_ .none (wpAny_bind (HT.slicePart_ .none (wpAny_bind (wpAny_pure ?_)))))
  show wpAny _ _ (pure ((n : Int) - 1, (-1 : Int), Builtin.Slice.slicePlaces ((n : Int) - 1) (-1) (-1))) _ _ s
  rw [places_rev]
  exact wpAny_pure h
theorem pick_rev (xs : Array Value) : ((List.range xs.size).filterMap fun (m : Nat) => xs[((xs.size : Int) - 1 + (m : Int) * (-1)).toNat]?).toArray = xs.toList.reverse.toArray := by
  have e : (List.range xs.size).filterMap (fun (m : Nat) => xs[((xs.size : Int) - 1 + (m : Int) * (-1)).toNat]?) = ((List.range xs.size).map fun k => xs.size - 1 - k).filterMap (xs[·]?) := by
    have g : ∀ (f : Nat → Option Value), (List.range xs.size).filterMap f = ((List.range xs.size).map f).filterMap id := fun f => by rw [List.filterMap_map]; rfl
    rw [List.filterMap_map, g, g]
    refine congrArg (List.filterMap id) (List.map_congr_left fun m hm => ?_)
    have := List.mem_range.mp hm
    have q : ((xs.size : Int) - 1 + (m : Int) * (-1)).toNat = xs.size - 1 - m := by omega
    show _ = xs[xs.size - 1 - m]?
    rw [q]
  rw [e, PySem.W.krv_range, List.filterMap_reverse, PySem.W.krv_all]
theorem getItem_tuple_rev {t sl : Addr} {items : Array Value} {vs : Value} {Q : Value → Shared → Prop} (ht : IsTup s.heap t items) (hs : s.heap.IsSliceOf sl .none .none vs) (ps : IsPart vs (some (-1)))
    (h : Q (.ref s.heap.objs.size) { s with heap := s.heap.push { cls := .type "tuple", data := .seq items.toList.reverse.toArray } })
    (hsz : items.size ≤ sizeLine) : wpAny (model prog w) A (getItem (.ref t) (.ref sl)) Q E s := by
  have hrev : sizeOk (.seq items.toList.reverse.toArray) := by
    show items.toList.reverse.toArray.size ≤ sizeLine
    simpa using hsz
  obtain ⟨os, hos, hcs, hds⟩ := id hs
  have hTs : s.TypeIs (.ref sl) "slice" := ⟨os, hos, hcs⟩
  have seq : ∀ {Q : Value → Shared → Prop}, wpAny (model prog w) A.in1 (Builtin.«tuple.__getitem__» ⟨[.ref t, .ref sl], []⟩) (fun fin s' => ∃ v, fin = .done (.ret v) ∧ Q v s') E s → wpAny (model prog w) A (getItem (.ref t) (.ref sl)) Q E s := fun {Q} run => by
    unfold getItem
    first | with_reducible apply wpAny_holding | skip
    first | refine wpAny_bind (wpAny_pure (wpAny_bind (wpAny_sequenceKey ht.typeIs (by decide) ?_))) | refine wpAny_bind (wpAny_sequenceKey ht.typeIs (by decide) ?_)
    exact wpAny_bind (wpAny_callSpecial?_slot (name := Str.ofString "__getitem__") ht.typeIs PyProof.Rows.slot_tuple_getitem (wpAny_call_entry PyProof.Rows.slot_tuple_getitem ht.typeIs PyProof.Rows.entry_tuple_getitem (wpAny_mono run (fun fin s1 ⟨v, e, q⟩ => ⟨v, e, wpAny_pure q⟩) (fun _ _ x => x)) (PyProof.Rows.args_tuple_getitem _ _)))
  refine seq ?_
  show wpAny _ _ (Builtin.Tuple.tupleItemsOf (.ref t) >>= _) _ _ s
  refine wpAny_bind (PyProof.Rows.tupleItemsOf_ ht ?_)
  refine wpAny_bind (wpAny_typeOf hTs ?_)
  rw [if_pos (by decide)]
  refine wpAny_bind (applied_rev hs ps ?_)
  have hno : ¬ ((((items.size : Int) - 1) == 0 && (-1 : Int) == 1 && items.size == items.size) = true) := by simp
  show wpAny _ _ (if (((items.size : Int) - 1) == 0 && (-1 : Int) == 1 && items.size == items.size) = true then _ else _) _ _ s
  rw [if_neg hno, pick_rev]
  first
    | exact wpAny_bind (m := Builtin.Tuple.tupleExact _) (wpAny_newObj_type (wpAny_pure ⟨_, rfl, h⟩) hrev)
    | exact wpAny_bind (m := Builtin.Tuple.tupleExact _) (wpAny_newObj_type (wpAny_bind (wpAny_pure (wpAny_pure ⟨_, rfl, h⟩))) hrev)
    | exact wpAny_bind (wpAny_bind (m := Builtin.Tuple.tupleExact _) (wpAny_newObj_type (wpAny_pure (wpAny_pure ⟨_, rfl, h⟩)) hrev))
    | exact wpAny_bind (wpAny_bind (m := Builtin.Tuple.tupleExact _) (wpAny_newObj_type (wpAny_pure ⟨_, rfl, h⟩) hrev))
end
/-- t[::-1] -/
def tRevT (K : PySem.W.Frag) (te : TE) : TE := fun σ H Q => te σ H fun x H1 => ∃ a xs, x = .ref a ∧ SqT K H1 a xs ∧ ∀ p, H1 p = none → Q (.ref p) (upd H1 p (.tup xs.reverse))
theorem pe_revT {X : Cx} {e : Expr} {te : TE} {k : Nat} {p1 p2 p3 pos : Pos} (he : PE X e te) : PE X (.Subscript e (.Slice none none (some (.UnaryOp .USub (.Constant (.int 1) k p1) p2)) p3) pos) (tRevT X.K te) := by
  refine ⟨fun pins s σ H Q I h => Subscript_ (thn (he.run pins s σ H _ I h) fun v s1 ⟨x, H1, I1, r1, q1⟩ => ?_)⟩
  obtain ⟨a, xs, ex, hx, q⟩ := q1
  subst ex
  cases r1
  have hst : PO X (some (.UnaryOp .USub (.Constant (.int 1) k p1) p2)) (tPart (tUn (rU fun i => .int (-i)) (tC (.int 1)))) := po_some (pe_un un_neg pe_int)
  refine wpAny_Slice ?_
  rw [evalPart_none]
  refine wpAny_pure ?_
  refine wpAny_pure ?_
  refine thn (hst.run pins s1 σ H1 (fun o H4 => o = some (-1) ∧ H4 = H1) I1 ⟨1, rfl, -1, rfl, rfl, rfl⟩) fun vs s4 ⟨o, H4, I4, ps, eo, e4⟩ => ?_
  subst eo e4
  have I5 : L2.Inv X pins σ H4 { s4 with heap := s4.heap.push { cls := .type "slice", data := .fields #[.none, .none, vs] } } := I4.kept (t' := s4.toks) fun b ob q => Heap.get?_push_of_some _ q
  obtain ⟨its, r, ht, hz⟩ := I5.tuple hx
  have hlen := r.length
  show wpAny (model X.prog X.w) X.A (subscriptTail e (.Slice none none (some (.UnaryOp .USub (.Constant (.int 1) k p1) p2)) p3) (.ref a) (.ref s4.heap.objs.size)) (EP X pins σ Q) X.xe { s4 with heap := s4.heap.push { cls := .type "slice", data := .fields #[.none, .none, vs] } }
  refine tail_any (ops := [.ref a, .ref s4.heap.objs.size]) ht.typeIs PyProof.Rows.slot_tuple_getitem.lookup ?_ (by with_unfolding_all rfl)
  refine getItem_tuple_rev ht (Heap.IsSliceOf.new _ .none .none vs) ps ?_ (by rw [List.size_toArray]; omega)
  refine ⟨.ref _, _, I5.laid (t' := s4.toks) (o := .tup xs.reverse) (fun b ob q => Heap.get?_push_of_some _ q) (Nat.le_refl _) ?_, rfl, q _ (I5.hok.fresh (Nat.le_refl _))⟩
  exact ⟨by rw [List.length_reverse]; exact hz, _, r.reverse, ⟨_, Heap.get?_push_size _ rfl, rfl, _, rfl⟩⟩
/-! ### the kinds of data -/
def tyD : PyData → String
  | .none => "NoneType"
  | .bool _ => "bool"
  | .int _ => "int"
  | .str _ => "str"
  | .list _ => "list"
  | .tuple _ => "tuple"
  | .dict _ => "dict"
theorem Dq.ty {K : PySem.W.Frag} {H : Hp} {m l : Addr} {v : V} {d : PyData} (h : Dq K H m l v d) : TyX K H v (.type (tyD d)) := by
  cases h with
  | non => exact .base .non
  | bl b => exact .base (.bl b)
  | int i => exact .base (.int i)
  | str x => exact .base (.str x)
  | lst e _ _ _ => exact .base (.lst e)
  | dct e _ _ => exact .base (.dK e)
  | tup e _ =>
    rcases e with (e | ⟨o, e⟩) | ⟨o, its, n, e, c, _⟩
    · exact .base (.tup e)
    · exact .fTuple e
    · exact .kTuple e c
theorem isi_str (K : PySem.W.Frag) (d : PyData) : PySem.W.kitOne K (.type (tyD d)) (.type "str") = some (match d with | .str _ => true | _ => false) := by cases d <;> rfl
theorem isi_int (K : PySem.W.Frag) (d : PyData) : PySem.W.kitOne K (.type (tyD d)) (.type "int") = some (match d with | .int _ | .bool _ => true | _ => false) := by cases d <;> rfl
theorem isi_bool (K : PySem.W.Frag) (d : PyData) : PySem.W.kitOne K (.type (tyD d)) (.type "bool") = some (match d with | .bool _ => true | _ => false) := by cases d <;> rfl
theorem isi_tup (K : PySem.W.Frag) (d : PyData) : PySem.W.kitOne K (.type (tyD d)) (.type "tuple") = some (match d with | .tuple _ => true | _ => false) := by cases d <;> rfl
end Ms
namespace Ms
open PySem PySem.Spec PyProof.Rows L2
/-! ### slices and joins of tuples, whole or not -/
theorem Same.seqT {K : PySem.W.Frag} {H H' : Hp} {a : Addr} {xs : List V} (e : Same H H') (h : SqT K H a xs) : SqT K H' a xs := by
  rcases h with (h | ⟨o, h⟩) | h
  · exact .inl (.inl (e _ _ h))
  · exact .inl (.inr ⟨o, e _ _ h⟩)
  · exact .inr h
theorem cutV_whole {xs : List V} {lo hi : Option Int} (h : HT.sIx xs.length 0 lo = 0 ∧ HT.sIx xs.length xs.length hi = xs.length) : cutV xs lo hi = xs := by
  unfold cutV
  rw [h.1, h.2, List.drop_zero, Nat.sub_zero, List.take_length]
theorem slA_any {K : PySem.W.Frag} {H : Hp} {a : Addr} {xs : List V} {lo hi : Option Int} {Q : VK} (h : SqT K H a xs) (q : ∀ (p : Addr) (H' : Hp), Same H H' → SqT K H' p (cutV xs lo hi) → Q (.ref p) H') : rSlA K (.ref a) lo hi H Q :=
  ⟨a, xs, rfl, h, fun w => q a H (fun _ _ e => e) (by rw [cutV_whole w]; exact h), fun _ p hp => q p _ (Same.upd hp) (.inl (.inl upd_same))⟩
theorem catA_any {K : PySem.W.Frag} {H : Hp} {a b : Addr} {xs ys : List V} {Q : VK} (h : SqT K H a xs) (h2 : SqT K H b ys) (hl : xs.length + ys.length ≤ sizeLine) (q : ∀ (p : Addr) (H' : Hp), Same H H' → SqT K H' p (xs ++ ys) → Q (.ref p) H') : rCatA K (.ref a) (.ref b) H Q :=
  ⟨a, b, xs, ys, rfl, rfl, h, h2, hl, fun e => q b H (fun _ _ e => e) (by rw [e]; exact h2), fun _ e => q a H (fun _ _ e => e) (by rw [e, List.append_nil]; exact h), fun _ _ p hp => q p _ (Same.upd hp) (.inl (.inl upd_same))⟩
theorem cut_to {xs : List V} {i : Nat} (h : i ≤ xs.length) : cutV xs none (some (i : Int)) = xs.take i := by
  unfold cutV
  rw [HT.sIx_nat, HT.sIx_none, List.drop_zero, Nat.sub_zero, Nat.min_eq_left h]
theorem cut_from {xs : List V} {i : Nat} (h : i ≤ xs.length) : cutV xs (some (i : Int)) none = xs.drop i := by
  unfold cutV
  rw [HT.sIx_nat, HT.sIx_none, Nat.min_eq_left h]
  exact List.take_of_length_le (by simp)
theorem cut_one {xs : List V} {i : Nat} (h : i < xs.length) : cutV xs (some (i : Int)) (some ((i : Int) + 1)) = (xs.drop i).take 1 := by
  have e : ((i : Int) + 1) = ((i + 1 : Nat) : Int) := by omega
  unfold cutV
  rw [e, HT.sIx_nat, HT.sIx_nat, Nat.min_eq_left (by omega), Nat.min_eq_left (by omega)]
  have : i + 1 - i = 1 := by omega
  rw [this]
theorem cut_from1 {xs : List V} {i : Nat} (h : i < xs.length) : cutV xs (some ((i : Int) + 1)) none = xs.drop (i + 1) := by
  have e : ((i : Int) + 1) = ((i + 1 : Nat) : Int) := by omega
  rw [e]; exact cut_from h
/-! ### lists of data -/
section
variable {K : PySem.W.Frag} {H : Hp} {m l : Addr}
theorem DqAll.app {vs ws : List V} : ∀ {ds es : List PyData}, DqAll K H m l vs ds → DqAll K H m l ws es → DqAll K H m l (vs ++ ws) (ds ++ es) := by
  intro ds
  induction ds generalizing vs with
  | nil => intro es h1 h2; cases h1; exact h2
  | cons d ds ih => intro es h1 h2; cases h1 with | cons a b => exact .cons a (ih b h2)
theorem DqAll.len {vs : List V} : ∀ {ds : List PyData}, DqAll K H m l vs ds → vs.length = ds.length := by
  intro ds
  induction ds generalizing vs with
  | nil => intro h; cases h; rfl
  | cons d ds ih => intro h; cases h with | cons a b => simp [ih b]
theorem DqAll.drop {vs : List V} : ∀ {ds : List PyData} (i : Nat), DqAll K H m l vs ds → DqAll K H m l (vs.drop i) (ds.drop i) := by
  intro ds
  induction ds generalizing vs with
  | nil => intro i h; cases h; simp; exact .nil
  | cons d ds ih =>
    intro i h
    cases h with
    | cons a b =>
      cases i with
      | zero => exact .cons a b
      | succ i => simpa using ih i b
theorem DqAll.take {vs : List V} : ∀ {ds : List PyData} (i : Nat), DqAll K H m l vs ds → DqAll K H m l (vs.take i) (ds.take i) := by
  intro ds
  induction ds generalizing vs with
  | nil => intro i h; cases h; simp; exact .nil
  | cons d ds ih =>
    intro i h
    cases h with
    | cons a b =>
      cases i with
      | zero => simp; exact .nil
      | succ i => simpa using DqAll.cons a (ih i b)
theorem DqAll.rev {vs : List V} : ∀ {ds : List PyData}, DqAll K H m l vs ds → DqAll K H m l vs.reverse ds.reverse := by
  intro ds
  induction ds generalizing vs with
  | nil => intro h; cases h; exact .nil
  | cons d ds ih => intro h; cases h with | cons a b => rw [List.reverse_cons, List.reverse_cons]; exact (ih b).app (.cons a .nil)
end
theorem wA_app : ∀ (xs ys : List PyData), PyData.weightAll (xs ++ ys) = PyData.weightAll xs + PyData.weightAll ys
  | [], ys => by simp [PyData.weightAll]
  | x :: xs, ys => by simp only [List.cons_append, PyData.weightAll, wA_app xs ys]; omega
theorem wA_rev : ∀ (xs : List PyData), PyData.weightAll xs.reverse = PyData.weightAll xs
  | [] => rfl
  | x :: xs => by rw [List.reverse_cons, wA_app, wA_rev xs]; simp only [PyData.weightAll]; omega
theorem wA_split (xs : List PyData) (i : Nat) : PyData.weightAll (xs.take i) + PyData.weightAll (xs.drop i) = PyData.weightAll xs := by
  rw [← wA_app, List.take_append_drop]
theorem wA_len : ∀ (xs : List PyData), xs.length ≤ PyData.weightAll xs
  | [] => Nat.le_refl _
  | x :: xs => by simp only [List.length_cons, PyData.weightAll]; have := wA_len xs; omega
theorem dA_iff {c : Nat} : ∀ {xs : List PyData}, PyData.depthAll xs ≤ c ↔ ∀ x ∈ xs, x.depth ≤ c
  | [] => by simp [PyData.depthAll]
  | x :: xs => by simp only [PyData.depthAll, List.mem_cons, forall_eq_or_imp]; rw [Nat.max_le, dA_iff (xs := xs)]
/-- a list of good data -/
structure Gl' (B w c : Nat) (ds : List PyData) : Prop where
  ok : ∀ d ∈ ds, okD B d = true
  wt : PyData.weightAll ds ≤ w
  dp : ∀ d ∈ ds, d.depth ≤ c
theorem Gd.tup {B a b : Nat} {ds : List PyData} (g : Gl' B a b ds) : Gd B a (b + 1) (.tuple ds) :=
  ⟨by simp only [okD]; exact okAll_iff.mpr g.ok, by simp only [PyData.weight]; exact g.wt, by simp only [PyData.depth]; exact Nat.succ_le_succ (dA_iff.mpr g.dp)⟩
theorem Gd.lst {B a b : Nat} {ds : List PyData} (g : Gl' B a b ds) : Gd B a (b + 1) (.list ds) :=
  ⟨by simp only [okD]; exact okAll_iff.mpr g.ok, by simp only [PyData.weight]; exact g.wt, by simp only [PyData.depth]; exact Nat.succ_le_succ (dA_iff.mpr g.dp)⟩
theorem Gd.untup {B a b : Nat} {ds : List PyData} (g : Gd B a b (.tuple ds)) : ∃ c, b = c + 1 ∧ Gl' B a c ds := by
  obtain ⟨h1, h2, h3⟩ := g
  simp only [okD] at h1
  simp only [PyData.weight] at h2
  simp only [PyData.depth] at h3
  obtain ⟨c, rfl⟩ : ∃ c, b = c + 1 := ⟨b - 1, by omega⟩
  exact ⟨c, rfl, okAll_iff.mp h1, h2, dA_iff.mp (by omega)⟩
section
variable {B a c : Nat} {ds es : List PyData}
theorem Gl'.mono {B' a' c' : Nat} (g : Gl' B a c ds) (h1 : B ≤ B') (h2 : a ≤ a') (h3 : c ≤ c') : Gl' B' a' c' ds :=
  ⟨fun d h => okD_mono h1 d (g.ok d h), Nat.le_trans g.wt h2, fun d h => Nat.le_trans (g.dp d h) h3⟩
theorem Gl'.app {a2 : Nat} (g : Gl' B a c ds) (h : Gl' B a2 c es) : Gl' B (a + a2) c (ds ++ es) :=
  ⟨fun d q => (List.mem_append.mp q).elim (g.ok d) (h.ok d), by rw [wA_app]; have := g.wt; have := h.wt; omega, fun d q => (List.mem_append.mp q).elim (g.dp d) (h.dp d)⟩
theorem Gl'.tk (g : Gl' B a c ds) (i : Nat) : Gl' B (PyData.weightAll (ds.take i)) c (ds.take i) := ⟨fun d q => g.ok d (List.mem_of_mem_take q), Nat.le_refl _, fun d q => g.dp d (List.mem_of_mem_take q)⟩
theorem Gl'.dr (g : Gl' B a c ds) (i : Nat) : Gl' B (PyData.weightAll (ds.drop i)) c (ds.drop i) := ⟨fun d q => g.ok d (List.mem_of_mem_drop q), Nat.le_refl _, fun d q => g.dp d (List.mem_of_mem_drop q)⟩
theorem Gl'.rv (g : Gl' B a c ds) : Gl' B a c ds.reverse := ⟨fun d q => g.ok d (List.mem_reverse.mp q), by rw [wA_rev]; exact g.wt, fun d q => g.dp d (List.mem_reverse.mp q)⟩
theorem Gl'.one {d : PyData} {w : Nat} (g : Gd B w c d) : Gl' B (w + 1) c [d] :=
  ⟨fun x h => by rw [List.mem_singleton.mp h]; exact g.ok, by simp only [PyData.weightAll]; have := g.wt; omega, fun x h => by rw [List.mem_singleton.mp h]; exact g.dp⟩
theorem Gl'.at (g : Gl' B a c ds) {i : Nat} {d : PyData} (h : ds[i]? = some d) : Gd B d.weight c d := ⟨g.ok d (List.mem_of_getElem? h), Nat.le_refl _, g.dp d (List.mem_of_getElem? h)⟩
theorem wA_at {i : Nat} {d : PyData} (h : ds[i]? = some d) : PyData.weightAll (ds.take i) + (d.weight + 1) + PyData.weightAll (ds.drop (i + 1)) = PyData.weightAll ds := by
  have hi : i < ds.length := (List.getElem?_eq_some_iff.mp h).1
  have e : ds[i] = d := (List.getElem?_eq_some_iff.mp h).2
  rw [← wA_split ds i, List.drop_eq_getElem_cons hi, e]
  simp only [PyData.weightAll]
  omega
end
/-! ### texts and numbers -/
theorem Gd.str {B a : Nat} {z : Str} (h : sOk a z) : Gd B a 0 (.str z) := ⟨h.okd, by simp only [PyData.weight]; exact h.1, Nat.le_refl _⟩
theorem Gd.unstr {B a b : Nat} {z : Str} (g : Gd B a b (.str z)) : sOk a z := by
  obtain ⟨h1, h2, _⟩ := g
  simp only [okD, List.all_eq_true, decide_eq_true_eq] at h1
  simp only [PyData.weight] at h2
  exact ⟨h2, h1⟩
theorem mul2 (z : Str) : sOk (2 * z.length) (Txt.mul z 2) ∨ ¬ sOk z.length z := by
  by_cases h : sOk z.length z
  · refine .inl ?_
    unfold Txt.mul
    rw [if_neg (by decide)]
    by_cases e : ((2 : Int) == 1 || z.length == 0) = true
    · rw [if_pos e]; exact h.mono (by omega)
    · rw [if_neg e]
      have q : ((List.replicate (2 : Int).toNat z.cps).foldl (· ++ ·) #[] : Array Nat) = z.cps ++ z.cps := by
        show (#[] ++ z.cps) ++ z.cps = _
        rw [Array.empty_append]
      rw [q]
      have := h.app h
      refine this.mono (by omega)
  · exact .inr h
theorem mul2_ok {a : Nat} {z : Str} (h : sOk a z) : sOk (2 * a) (Txt.mul z 2) := by
  rcases mul2 z with q | q
  · exact q.mono (by have := h.1; omega)
  · exact absurd ⟨Nat.le_refl _, h.2⟩ q
theorem wt_int {i : Int} (h : i.natAbs ≤ 10 ^ 31) : PyData.weight (.int i) ≤ 104 := by
  simp only [PyData.weight]
  split
  · decide
  · rename_i z
    have h1 : i.natAbs < 2 ^ 103 := by
      have e : (10 : Nat) ^ 31 < 2 ^ 103 := by decide
      omega
    have nz : i.natAbs ≠ 0 := by
      intro e
      exact z (by simp; omega)
    have := (Nat.log2_lt nz).mpr h1
    omega
theorem Gd.int {B : Nat} {i : Int} (h : i.natAbs ≤ B) (hB : B ≤ 10 ^ 31) : Gd B 104 0 (.int i) :=
  ⟨by simp only [okD, decide_eq_true_eq]; exact h, wt_int (by omega), Nat.le_refl _⟩
theorem Gd.unint {B a b : Nat} {i : Int} (g : Gd B a b (.int i)) : i.natAbs ≤ B := by
  have := g.ok
  simpa only [okD, decide_eq_true_eq] using this
end Ms
namespace Ms
open PySem PySem.Spec PyProof.Rows L2
structure TxtB (mg : Str → Option Value) (fN fM fO fB : Addr) : Prop extends TxtS mg fN fM where
  odd : mg "_law_odd" = some (.ref fO)
  bent : mg "_law_bent" = some (.ref fB)
  isi : mg "isinstance" = none
  str : mg "str" = none
  bool : mg "bool" = none
def spBent (K : PySem.W.Frag) : Nat → Sp
  | 0 => fun _ _ _ _ => False
  | k + 1 => fun vs H Q _ => ∃ (m l : Addr) (n : Nat) (v : V) (d : PyData) (B a b : Nat), vs = [.ref m, v] ∧ Mch H m l n ∧ n + 8 * (k + 1) < 700000 ∧ Dq K H m l v d ∧ Gd B a b d ∧ big ≤ B ∧ B + 100 ≤ 10 ^ 31 ∧ a ≤ 50000 ∧ d.depth ≤ k ∧
    ∀ (v' : V) (d' : PyData) (l' : Addr) (H' : Hp), Dq K H' m l' v' d' → Gd (B + 100) (2 * a + 200) (b + 2) d' → Mch H' m l' (n + 8 * (k + 1)) → Fr m l l' H H' → Q v' H'
abbrev NB : List Str := ["m", "thing", "at", "way"]
theorem scBe : FnScope NB ["m", "thing"] (defScope sBent) := ⟨rfl, rfl, rfl, by decide +kernel, rfl, by decide +kernel, by decide +kernel⟩
theorem ite_b {c : Bool} {A B : Prop} (h1 : c = true → A) (h2 : c = false → B) : if c = true then A else B := by
  cases c
  · rw [if_neg Bool.false_ne_true]; exact h2 rfl
  · rw [if_pos rfl]; exact h1 rfl
section
variable {P : Program} {w : World} {K : PySem.W.Frag} {mg : Str → Option Value} {base : Heap} {fN fM fO fB : Addr}
theorem mul_small {z : Str} (h : z.length ≤ 50000) : PySem.MulOk z 2 := ⟨by decide, fun _ _ => by
    have e : ((2 : Int) ^ 63 - 1) / 2 = 4611686018427387903 := by decide
    rw [e]; omega, fun _ _ => by
    show decide (z.length * 2 > sizeLine) = false
    rw [decide_eq_false_iff_not, sizeLine_eq]
    omega⟩
theorem noPart {σ : L2.St} {H : Hp} {Q : Option Int → Hp → Prop} (h : Q none H) : tNoPart σ H Q := h
theorem bent_step {k : Nat} {fd fdN fdO : FuncData} (F : Fun K "_law_bent" "_law_bent" sBent fB fd) (bB : Binds K fd ["m", "thing"] []) (T : TxtB mg fN fM fO fB) (FN : Fun K "_law_next" "_law_next" sNext fN fdN) (bN : Binds K fdN ["m", "many"] [])
    (FO : Fun K "_law_odd" "_law_odd" sOdd fO fdO) (bO : Binds K fdO ["m"] []) (GB : FnOk P w K mg base CX0 (k + 2) fB fd ["m", "thing"] (spBent K k)) : FnOk P w K mg base CX0 (k + 3) fB fd ["m", "thing"] (spBent K (k + 1)) := by
  have GN : FnOk P w K mg base CX0 (k + 2) fN fdN ["m", "many"] spNext := (ok_next FN T.toTxt).mono (by omega)
  have GO : FnOk P w K mg base CX0 (k + 2) fO fdO ["m"] (spOdd K) := (ok_odd FO T.toTxtS FN bN).mono (by omega)
  refine F.ok scBe (fun vs H Q E h => ?_) (fun cdv A outer s H vs Q E hr h => ?_)
  · obtain ⟨m, l, n, v, d, B, a, b, rfl, _⟩ := h
    rfl
  obtain ⟨m, l, n, v, d, B, a, b, rfl, M, hn, hd, gd, hB, hB2, ha, hk, q⟩ := h
  have hu := hu_of hr
  have lenOk : ∀ c : Nat, c ≤ 100400 → c ≤ sizeLine := fun c h => by rw [sizeLine_eq]; omega
  have tupOk : ∀ (ds : List PyData), d = .tuple ds → ∃ c, b = c + 1 ∧ Gl' B a c ds ∧ PyData.weightAll ds ≤ a := fun ds e => by
    obtain ⟨c, e1, g⟩ := Gd.untup (e ▸ gd)
    exact ⟨c, e1, g, g.wt⟩
  have st5 : ∃ t, PSs (cxOf CX0 P w K mg base NB "_law_bent" (defScope sBent) fB cdv A outer s H E).nox ((defBody sBent).drop 9) t ∧ ∀ (p : Addr) (xs : List V) (ds : List PyData) (i : Nat) (way : Int) (l1 : Addr) (n1 : Nat) (H1 : Hp), d = .tuple ds → SqT K H1 p xs → DqAll K H1 m l1 xs ds → i < xs.length → Mch H1 m l1 n1 → n1 ≤ n + 5 → Fr m l l1 H H1 → t ({ nx := fun _ H' => Q .non H', rt := Q } : Ends) [some (.ref m), some (.ref p), some (.int (i : Int)), some (.int way)] H1 := by
    refine ⟨_, pss_one (ps_ret (pe_op op_catA (pe_op op_catA (pe_slice sl_tupA (pv 1) po_none (po_some (pv 2))) (pe_tup (pa_cons (pe_call GB hr rfl T.bent F.kp bB .nil pass0 (pa_cons (pv 0) (pa_cons (pe_ix ix_tup (pv 1) (pv 2) (fun _ _ => rfl)) pa_nil))) pa_nil))) (pe_slice sl_tupA (pv 1) (po_some (pe_op op_add (pv 2) pe_int)) po_none))), ?_⟩
    intro p xs ds i way l1 n1 H1 ed hp hx hi M1 h1 f1
    obtain ⟨c, eb, g, gw⟩ := tupOk ds ed
    have lx := hx.len
    have ls := wA_len ds
    cases k with
    | zero =>
      rw [ed] at hk
      simp only [PyData.depth] at hk
      omega
    | succ k' =>
    obtain ⟨e, he⟩ : ∃ e, ds[i]? = some e := ⟨_, List.getElem?_eq_getElem (by omega)⟩
    obtain ⟨u, hui⟩ : ∃ u, xs[i]? = some u := ⟨_, List.getElem?_eq_getElem hi⟩
    have ge := g.at he
    have wat := wA_at he
    have dk : e.depth ≤ k' := by
      rw [ed] at hk
      simp only [PyData.depth] at hk
      exact dA_iff.mp (by omega) e (List.mem_of_getElem? he)
    refine ⟨_, rfl, _, rfl, _, rfl, slA_any hp fun p1 H2 s2 c2 => ?_⟩
    rw [cut_to (by omega)] at c2
    have k2 := M1.kept s2
    have hx2 := DqAll.step k2 ds xs hx
    obtain ⟨e', he', dqe⟩ := hx2.get hui
    have ee : e' = e := Option.some.inj (he'.symm.trans he)
    subst ee
    refine ⟨_, rfl, _, rfl, _, rfl, p, xs, _, u, rfl, rfl, Same.seqT s2 hp, atI_nat hui, m, l1, n1, u, e', B, e'.weight, c, rfl, M1.same s2, by omega, dqe, ge, hB, hB2, by omega, dk, fun v2 d2 l2 H3 dq2 gd2 M3 f3 => ?_⟩
    refine ⟨(by show 1 ≤ sizeLine; decide), fun p3 h3 => ?_⟩
    have k3 := (M1.same s2).step f3
    have s4 : Same H3 (upd H3 p3 (.tup [v2])) := Same.upd h3
    refine catA_any (Same.seqT s4 (k3.tup c2)) (.inl (.inl upd_same)) (lenOk _ (by simp; omega)) fun p4 H5 s5 c5 => ?_
    have hp5 : SqT K H5 p xs := Same.seqT s5 (Same.seqT s4 (k3.tup (Same.seqT s2 hp)))
    refine ⟨_, rfl, _, rfl, _, _, rfl, rfl, _, rfl, ?_⟩
    refine noPart ?_
    refine slA_any hp5 fun p6 H6 s6 c6 => ?_
    rw [cut_from1 hi] at c6
    refine catA_any (Same.seqT s6 c5) c6 (lenOk _ (by simp; omega)) fun p7 H7 s7 c7 => ?_
    have s37 := ((s4.trans s5).trans s6).trans s7
    have F7 := (Fr.lead s2 f3).trail s37
    have hx7 := DqAll.step (M1.step F7) ds xs hx
    have dq7 := Dq.step (M3.kept s37) d2 v2 dq2
    refine q (.ref p7) (.tuple ((ds.take i ++ [d2]) ++ ds.drop (i + 1))) l2 H7 (.tup c7 (((hx7.take i).app (.cons dq7 .nil)).app (hx7.drop (i + 1)))) ?_ ((M3.same s37).mono (by omega)) (f1.trans F7)
    rw [eb]
    exact Gd.tup (((((g.tk i).mono (by omega) (Nat.le_refl _) (by omega)).app (Gl'.one gd2)).app ((g.dr (i + 1)).mono (by omega) (Nat.le_refl _) (by omega))).mono (Nat.le_refl _) (by omega) (Nat.le_refl _))
  have st4 : ∃ t, PSs (cxOf CX0 P w K mg base NB "_law_bent" (defScope sBent) fB cdv A outer s H E).nox ((defBody sBent).drop 8) t ∧ ∀ (p : Addr) (xs : List V) (ds : List PyData) (i : Nat) (way : Int) (l1 : Addr) (n1 : Nat) (H1 : Hp), d = .tuple ds → SqT K H1 p xs → DqAll K H1 m l1 xs ds → i < xs.length → Mch H1 m l1 n1 → n1 ≤ n + 5 → Fr m l l1 H H1 → t ({ nx := fun _ H' => Q .non H', rt := Q } : Ends) [some (.ref m), some (.ref p), some (.int (i : Int)), some (.int way)] H1 := by
    obtain ⟨t5, d5, z5⟩ := st5
    refine ⟨_, pss_cons (ps_if (pt_cmpR op_eq (pv 3) pe_int (nomark _)) (pss_one (ps_ret (pe_revT (pv 1)))) pss_nil) d5, ?_⟩
    intro p xs ds i way l1 n1 H1 ed hp hx hi M1 h1 f1
    refine ⟨_, rfl, rfl, _, rfl, ite_b (fun e => ?_) (fun _ => z5 p xs ds i way l1 n1 H1 ed hp hx hi M1 h1 f1)⟩
    obtain ⟨c, eb, g, gw⟩ := tupOk ds ed
    have lx := hx.len
    have ls := wA_len ds
    refine ⟨_, rfl, p, xs, rfl, hp, fun p7 h7 => ?_⟩
    have s17 : Same H1 (upd H1 p7 (.tup xs.reverse)) := Same.upd h7
    have hx7 := DqAll.step (M1.kept s17) ds xs hx
    refine q (.ref p7) (.tuple ds.reverse) l1 _ (.tup (.inl (.inl upd_same)) hx7.rev) ?_ ((M1.same s17).mono (by omega)) (f1.trail s17)
    rw [eb]
    exact (Gd.tup g.rv).mono (by omega) (by omega) (by omega)
  have st3 : ∃ t, PSs (cxOf CX0 P w K mg base NB "_law_bent" (defScope sBent) fB cdv A outer s H E).nox ((defBody sBent).drop 7) t ∧ ∀ (p : Addr) (xs : List V) (ds : List PyData) (i : Nat) (way : Int) (l1 : Addr) (n1 : Nat) (H1 : Hp), d = .tuple ds → SqT K H1 p xs → DqAll K H1 m l1 xs ds → i < xs.length → Mch H1 m l1 n1 → n1 ≤ n + 5 → Fr m l l1 H H1 → t ({ nx := fun _ H' => Q .non H', rt := Q } : Ends) [some (.ref m), some (.ref p), some (.int (i : Int)), some (.int way)] H1 := by
    obtain ⟨t4, d4, z4⟩ := st4
    refine ⟨_, pss_cons (ps_if (pt_cmpR op_eq (pv 3) pe_int (nomark _)) (pss_one (ps_ret (pe_op op_catA (pe_op op_catA (pe_slice sl_tupA (pv 1) po_none (po_some (pv 2))) (pe_tup (pa_cons (pe_call GO hr rfl T.odd FO.kp bO .nil pass0 (pa_cons (pv 0) pa_nil)) pa_nil))) (pe_slice sl_tupA (pv 1) (po_some (pv 2)) po_none)))) pss_nil) d4, ?_⟩
    intro p xs ds i way l1 n1 H1 ed hp hx hi M1 h1 f1
    refine ⟨_, rfl, rfl, _, rfl, ite_b (fun e => ?_) (fun _ => z4 p xs ds i way l1 n1 H1 ed hp hx hi M1 h1 f1)⟩
    obtain ⟨c, eb, g, gw⟩ := tupOk ds ed
    have lx := hx.len
    have ls := wA_len ds
    refine ⟨_, rfl, _, rfl, _, rfl, slA_any hp fun p1 H2 s2 c2 => ?_⟩
    rw [cut_to (by omega)] at c2
    have k2 := M1.kept s2
    refine ⟨_, rfl, m, l1, n1, rfl, M1.same s2, by omega, fun v2 d2 l2 H3 dq2 gd2 M3 f3 => ?_⟩
    refine ⟨(by show 1 ≤ sizeLine; decide), fun p3 h3 => ?_⟩
    have k3 := (M1.same s2).step f3
    have s4 : Same H3 (upd H3 p3 (.tup [v2])) := Same.upd h3
    refine catA_any (Same.seqT s4 (k3.tup c2)) (.inl (.inl upd_same)) (lenOk _ (by simp; omega)) fun p4 H5 s5 c5 => ?_
    have hp5 : SqT K H5 p xs := Same.seqT s5 (Same.seqT s4 (k3.tup (Same.seqT s2 hp)))
    refine ⟨_, rfl, _, rfl, _, rfl, ?_⟩
    refine noPart ?_
    refine slA_any hp5 fun p6 H6 s6 c6 => ?_
    rw [cut_from (by omega)] at c6
    refine catA_any (Same.seqT s6 c5) c6 (lenOk _ (by simp; omega)) fun p7 H7 s7 c7 => ?_
    have s37 := ((s4.trans s5).trans s6).trans s7
    have F7 := (Fr.lead s2 f3).trail s37
    have hx7 := DqAll.step (M1.step F7) ds xs hx
    have dq7 := Dq.step (M3.kept s37) d2 v2 dq2
    have wsp := wA_split ds i
    refine q (.ref p7) (.tuple ((ds.take i ++ [d2]) ++ ds.drop i)) l2 H7 (.tup c7 (((hx7.take i).app (.cons dq7 .nil)).app (hx7.drop i))) ?_ ((M3.same s37).mono (by omega)) (f1.trans F7)
    rw [eb]
    exact Gd.tup (((((g.tk i).mono (B' := B + 100) (c' := c + 2) (by omega) (Nat.le_refl _) (by omega)).app (Gl'.one (gd2.mono (by omega) (Nat.le_refl _) (by omega)))).app ((g.dr i).mono (by omega) (Nat.le_refl _) (by omega))).mono (Nat.le_refl _) (by omega) (Nat.le_refl _))
  have st2 : ∃ t, PSs (cxOf CX0 P w K mg base NB "_law_bent" (defScope sBent) fB cdv A outer s H E).nox ((defBody sBent).drop 6) t ∧ ∀ (p : Addr) (xs : List V) (ds : List PyData) (i : Nat) (way : Int) (l1 : Addr) (n1 : Nat) (H1 : Hp), d = .tuple ds → SqT K H1 p xs → DqAll K H1 m l1 xs ds → i < xs.length → Mch H1 m l1 n1 → n1 ≤ n + 5 → Fr m l l1 H H1 → t ({ nx := fun _ H' => Q .non H', rt := Q } : Ends) [some (.ref m), some (.ref p), some (.int (i : Int)), some (.int way)] H1 := by
    obtain ⟨t3, d3, z3⟩ := st3
    refine ⟨_, pss_cons (ps_if (pt_cmpR op_eq (pv 3) pe_int (nomark _)) (pss_one (ps_ret (pe_callTy call_list_of (by rfl) T.list (by decide +kernel) (pa_cons (pv 1) pa_nil)))) pss_nil) d3, ?_⟩
    intro p xs ds i way l1 n1 H1 ed hp hx hi M1 h1 f1
    refine ⟨_, rfl, rfl, _, rfl, ite_b (fun e => ?_) (fun _ => z3 p xs ds i way l1 n1 H1 ed hp hx hi M1 h1 f1)⟩
    obtain ⟨c, eb, g, gw⟩ := tupOk ds ed
    have lx := hx.len
    have ls := wA_len ds
    refine ⟨_, rfl, p, xs, rfl, .inr hp, fun p7 h7 => ?_⟩
    have s17 : Same H1 (upd H1 p7 (.lst xs)) := Same.upd h7
    have n7 := M1.ne h7
    have hx7 := DqAll.step (M1.kept s17) ds xs hx
    refine q (.ref p7) (.list ds) l1 _ (.lst upd_same n7.1 n7.2 hx7) ?_ ((M1.same s17).mono (by omega)) (f1.trail s17)
    rw [eb]
    exact (Gd.lst g).mono (by omega) (by omega) (by omega)
  have st1 : ∃ t, PSs (cxOf CX0 P w K mg base NB "_law_bent" (defScope sBent) fB cdv A outer s H E).nox ((defBody sBent).drop 5) t ∧ ∀ (p : Addr) (xs : List V) (ds : List PyData) (i : Nat) (way : Int) (l1 : Addr) (n1 : Nat) (H1 : Hp), d = .tuple ds → SqT K H1 p xs → DqAll K H1 m l1 xs ds → i < xs.length → Mch H1 m l1 n1 → n1 ≤ n + 5 → Fr m l l1 H H1 → t ({ nx := fun _ H' => Q .non H', rt := Q } : Ends) [some (.ref m), some (.ref p), some (.int (i : Int)), some (.int way)] H1 := by
    obtain ⟨t2, d2, z2⟩ := st2
    refine ⟨_, pss_cons (ps_if (pt_cmpR op_eq (pv 3) pe_int (nomark _)) (pss_one (ps_ret (pe_op op_catA (pv 1) (pe_slice sl_tupA (pv 1) (po_some (pv 2)) (po_some (pe_op op_add (pv 2) pe_int)))))) pss_nil) d2, ?_⟩
    intro p xs ds i way l1 n1 H1 ed hp hx hi M1 h1 f1
    refine ⟨_, rfl, rfl, _, rfl, ite_b (fun e => ?_) (fun _ => z2 p xs ds i way l1 n1 H1 ed hp hx hi M1 h1 f1)⟩
    obtain ⟨c, eb, g, gw⟩ := tupOk ds ed
    have lx := hx.len
    have ls := wA_len ds
    refine ⟨_, rfl, _, rfl, _, rfl, _, rfl, _, rfl, _, _, rfl, rfl, _, rfl, ?_⟩
    refine slA_any hp fun p6 H6 s6 c6 => ?_
    rw [cut_one hi] at c6
    refine catA_any (Same.seqT s6 hp) c6 (lenOk _ (by simp; omega)) fun p7 H7 s7 c7 => ?_
    have s17 := s6.trans s7
    have hx7 := DqAll.step (M1.kept s17) ds xs hx
    have w1 := wA_split ds i
    have w2 := wA_split (ds.drop i) 1
    refine q (.ref p7) (.tuple (ds ++ (ds.drop i).take 1)) l1 H7 (.tup c7 (hx7.app ((hx7.drop i).take 1))) ?_ ((M1.same s17).mono (by omega)) (f1.trail s17)
    rw [eb]
    exact (Gd.tup (g.app ((g.dr i).tk 1))).mono (by omega) (by omega) (by omega)
  have st0 : ∃ t, PSs (cxOf CX0 P w K mg base NB "_law_bent" (defScope sBent) fB cdv A outer s H E).nox ((defBody sBent).drop 4) t ∧ ∀ (p : Addr) (xs : List V) (ds : List PyData) (i : Nat) (way : Int) (l1 : Addr) (n1 : Nat) (H1 : Hp), d = .tuple ds → SqT K H1 p xs → DqAll K H1 m l1 xs ds → i < xs.length → Mch H1 m l1 n1 → n1 ≤ n + 5 → Fr m l l1 H H1 → t ({ nx := fun _ H' => Q .non H', rt := Q } : Ends) [some (.ref m), some (.ref p), some (.int (i : Int)), some (.int way)] H1 := by
    obtain ⟨t1, d1, z1⟩ := st1
    refine ⟨_, pss_cons (ps_if (pt_cmpR op_eq (pv 3) pe_int (nomark _)) (pss_one (ps_ret (pe_op op_catA (pe_slice sl_tupA (pv 1) po_none (po_some (pv 2))) (pe_slice sl_tupA (pv 1) (po_some (pe_op op_add (pv 2) pe_int)) po_none)))) pss_nil) d1, ?_⟩
    intro p xs ds i way l1 n1 H1 ed hp hx hi M1 h1 f1
    refine ⟨_, rfl, rfl, _, rfl, ite_b (fun e => ?_) (fun _ => z1 p xs ds i way l1 n1 H1 ed hp hx hi M1 h1 f1)⟩
    obtain ⟨c, eb, g, gw⟩ := tupOk ds ed
    have lx := hx.len
    have ls := wA_len ds
    refine ⟨_, rfl, _, rfl, _, rfl, slA_any hp fun p1 H2 s2 c2 => ?_⟩
    rw [cut_to (by omega)] at c2
    refine ⟨_, rfl, _, rfl, _, _, rfl, rfl, _, rfl, ?_⟩
    refine noPart ?_
    refine slA_any (Same.seqT s2 hp) fun p6 H6 s6 c6 => ?_
    rw [cut_from1 hi] at c6
    refine catA_any (Same.seqT s6 c2) c6 (lenOk _ (by simp; omega)) fun p7 H7 s7 c7 => ?_
    have s17 := (s2.trans s6).trans s7
    have hx7 := DqAll.step (M1.kept s17) ds xs hx
    have w1 := wA_split ds i
    have w2 := wA_split ds (i + 1)
    have w3 : PyData.weightAll (ds.drop (i + 1)) ≤ PyData.weightAll (ds.drop i) := by
      have := wA_split (ds.drop i) 1
      rw [List.drop_drop] at this
      omega
    refine q (.ref p7) (.tuple (ds.take i ++ ds.drop (i + 1))) l1 H7 (.tup c7 ((hx7.take i).app (hx7.drop (i + 1)))) ?_ ((M1.same s17).mono (by omega)) (f1.trail s17)
    rw [eb]
    exact (Gd.tup ((g.tk i).app (g.dr (i + 1)))).mono (by omega) (by omega) (by omega)
  obtain ⟨t0, d0, z0⟩ := st0
  have sa : ∃ t, PSs (cxOf CX0 P w K mg base NB "_law_bent" (defScope sBent) fB cdv A outer s H E).nox ((defBody sBent).drop 3) t ∧ ∀ (p : Addr) (xs : List V) (ds : List PyData) (l1 : Addr) (n1 : Nat) (H1 : Hp), d = .tuple ds → SqT K H1 p xs → DqAll K H1 m l1 xs ds → 0 < xs.length → Mch H1 m l1 n1 → n1 ≤ n + 3 → Fr m l l1 H H1 → t ({ nx := fun _ H' => Q .non H', rt := Q } : Ends) [some (.ref m), some (.ref p), none, none] H1 := by
    refine ⟨_, pss_cons (ps_par (i := 2) (j := 3) (by rfl) scBe.nd rfl rfl (by decide) rfl rfl (pa_cons (pe_call GN hr rfl T.next FN.kp bN .nil pass0 (pa_cons (pv 0) (pa_cons (pe_callB call_len (by rfl) T.len PySem.boot_len (pa_cons (pv 1) pa_nil)) pa_nil))) (pa_cons (pe_call GN hr rfl T.next FN.kp bN .nil pass0 (pa_cons (pv 0) (pa_cons pe_int pa_nil))) pa_nil)) (by rfl)) d0, ?_⟩
    intro p xs ds l1 n1 H1 ed hp hx hi M1 h1 f1
    obtain ⟨c, eb, g, gw⟩ := tupOk ds ed
    have lx := hx.len
    have ls := wA_len ds
    refine ⟨_, rfl, _, rfl, _, _, rfl, .inr ⟨_, hp, rfl⟩, m, l1, n1, (xs.length : Int), rfl, M1, by omega, by omega, by omega, fun r l2 H2 r0 r1 M2 f2 => ?_⟩
    obtain ⟨i, rfl⟩ : ∃ i : Nat, r = (i : Int) := ⟨r.toNat, by omega⟩
    refine ⟨_, rfl, m, l2, n1 + 1, 11, rfl, M2, by omega, by decide, by decide, fun way l3 H3 w0 w1 M3 f3 => ?_⟩
    have F3 := f2.trans f3
    have k4 := M1.step F3
    exact ⟨_, _, rfl, z0 p xs ds i way l3 (n1 + 2) _ ed (k4.tup hp) (DqAll.step k4 ds xs hx) (by omega) M3 (by omega) (f1.trans F3)⟩
  obtain ⟨ta, da, za⟩ := sa
  have sb : ∃ t, PSs (cxOf CX0 P w K mg base NB "_law_bent" (defScope sBent) fB cdv A outer s H E).nox ((defBody sBent).drop 2) t ∧ ∀ (l1 : Addr) (n1 : Nat) (H1 : Hp), Mch H1 m l1 n1 → n1 ≤ n + 2 → Fr m l l1 H H1 → t ({ nx := fun _ H' => Q .non H', rt := Q } : Ends) [some (.ref m), some v, none, none] H1 := by
    refine ⟨_, pss_cons (ps_if (PW.pt (pw_or (pt_not (pt_val (pe_callB call_isi (by rfl) T.isi PyProof.Rows.boot_isinstance (pa_cons (pv 1) (pa_cons (pe_bltn (v := .ty "tuple") (u := .type "tuple") (by rfl) T.tuple (by decide +kernel) rfl) pa_nil))))) (pw_or (pt_cmpR (op_eq_nil hr.units) (pv 1) (pe_tup pa_nil) (nomark _)) (pw_or1 (pt_cmpR op_eq (pe_call GN hr rfl T.next FN.kp bN .nil pass0 (pa_cons (pv 0) (pa_cons pe_int pa_nil))) pe_int (nomark _)))))) (pss_one (ps_ret (pe_call GO hr rfl T.odd FO.kp bO .nil pass0 (pa_cons (pv 0) pa_nil)))) pss_nil) da, ?_⟩
    intro l1 n1 H1 M1 h1 f1
    have hd1 := Dq.step (M.step f1) d v hd
    have retO : ∀ (l1 : Addr) (n1 : Nat) (H1 : Hp), Mch H1 m l1 n1 → n1 ≤ n + 3 → Fr m l l1 H H1 → spOdd K [.ref m] H1 Q E0 := fun l1 n1 H1 M1 h1 f1 =>
      ⟨m, l1, n1, rfl, M1, by omega, fun v2 d2 l2 H3 dq2 gd2 M3 f3 => q v2 d2 l2 H3 dq2 (gd2.mono (by omega) (by omega) (by omega)) (M3.mono (by omega)) (f1.trans f3)⟩
    refine ⟨_, rfl, v, .ty "tuple", _, _, _, rfl, .ty _, hd1.ty, isi_tup K d, _, rfl, ?_⟩
    cases d with
    | tuple ds =>
      cases hd1 with
      | tup hp hx =>
        rename_i p xs
        refine ifF rfl ⟨_, rfl, Nat.zero_le _, fun p0 h0 => ?_⟩
        have s2 : Same H1 (upd H1 p0 (.tup [])) := Same.upd h0
        have M2 := M1.same s2
        have f2 := f1.trail s2
        refine ⟨_, _, xs, rfl, rfl, Same.seqT s2 hp, .inl (.inl upd_same), _, rfl, ite_b (fun e => ifT rfl ⟨_, rfl, retO l1 n1 _ M2 (by omega) f2⟩) (fun e => ?_)⟩
        have hne : xs.length ≠ 0 := fun z => by rw [z] at e; cases e
        refine ⟨_, rfl, m, l1, n1, 6, rfl, M2, by omega, by decide, by decide, fun r l2 H3 r0 r1 M3 f3 => ⟨rfl, _, rfl, ite_b (fun _ => ⟨_, rfl, retO l2 (n1 + 1) _ M3 (by omega) (f2.trans f3)⟩) (fun _ => ?_)⟩⟩
        have k3 := M1.step (Fr.lead s2 f3)
        exact za _ xs ds l2 (n1 + 1) H3 rfl (k3.tup hp) (DqAll.step k3 ds xs hx) (by omega) M3 (by omega) (f2.trans f3)
    | _ => exact ifT rfl (ifT rfl ⟨_, rfl, retO l1 n1 _ M1 (by omega) f1⟩)
  obtain ⟨tb, db, zb⟩ := sb
  have sc : ∃ t, PSs (cxOf CX0 P w K mg base NB "_law_bent" (defScope sBent) fB cdv A outer s H E).nox ((defBody sBent).drop 1) t ∧ ∀ (l1 : Addr) (n1 : Nat) (H1 : Hp), Mch H1 m l1 n1 → n1 ≤ n + 1 → Fr m l l1 H H1 → t ({ nx := fun _ H' => Q .non H', rt := Q } : Ends) [some (.ref m), some v, none, none] H1 := by
    refine ⟨_, pss_cons (ps_if (PW.pt (pw_and (pt_val (pe_callB call_isi (by rfl) T.isi PyProof.Rows.boot_isinstance (pa_cons (pv 1) (pa_cons (pe_bltn (v := .ty "int") (u := .type "int") (by rfl) T.int (by decide +kernel) rfl) pa_nil)))) (pw_and (pt_not (pt_val (pe_callB call_isi (by rfl) T.isi PyProof.Rows.boot_isinstance (pa_cons (pv 1) (pa_cons (pe_bltn (v := .ty "bool") (u := .type "bool") (by rfl) T.bool (by decide +kernel) rfl) pa_nil))))) (pw_and1 (pt_cmpR op_eq (pe_call GN hr rfl T.next FN.kp bN .nil pass0 (pa_cons (pv 0) (pa_cons pe_int pa_nil))) pe_int (nomark _)))))) (pss_one (ps_ret (pe_op op_add (pv 1) (pe_ix ix_list (pe_lst (pa_cons pe_int (pa_cons (pe_un un_neg pe_int) (pa_cons pe_int (pa_cons (pe_un un_neg pe_int) (pa_cons pe_int (pa_cons (pe_un un_neg pe_int) pa_nil))))))) (pe_call GN hr rfl T.next FN.kp bN .nil pass0 (pa_cons (pv 0) (pa_cons pe_int pa_nil))) (fun _ _ => rfl))))) pss_nil) db, ?_⟩
    intro l1 n1 H1 M1 h1 f1
    have hd1 := Dq.step (M.step f1) d v hd
    refine ⟨_, rfl, v, .ty "int", _, _, _, rfl, .ty _, hd1.ty, isi_int K d, _, rfl, ?_⟩
    cases d with
    | int j =>
      cases hd1
      refine ifT rfl ⟨_, rfl, .int j, .ty "bool", _, _, _, rfl, .ty _, .base (.int j), isi_bool K (.int j), _, rfl, ifT rfl ?_⟩
      refine ⟨_, rfl, m, l1, n1, 2, rfl, M1, by omega, by decide, by decide, fun r l2 H2 r0 r1 M2 f2 => ⟨rfl, _, rfl, ite_b (fun _ => ?_) (fun _ => zb l2 (n1 + 1) H2 M2 (by omega) (f1.trans f2))⟩⟩
      refine ⟨_, rfl, _, rfl, _, rfl, _, rfl, (by show 6 ≤ sizeLine; decide), fun pL hL => ?_⟩
      have sL : Same H2 (upd H2 pL (.lst [.int 1, .int (-1), .int 3, .int (-3), .int 100, .int (-100)])) := Same.upd hL
      have nL := M2.ne hL
      refine ⟨_, rfl, m, l2, n1 + 1, 6, rfl, M2.same sL, by omega, by decide, by decide, fun r2 l3 H3 a3 b3 M3 f3 => ?_⟩
      obtain ⟨c, hc, c1, c2⟩ : ∃ c : Int, atI ([.int 1, .int (-1), .int 3, .int (-3), .int 100, .int (-100)] : List V) r2 = some (.int c) ∧ -100 ≤ c ∧ c ≤ 100 := by
        obtain ⟨i, rfl⟩ : ∃ i : Nat, r2 = (i : Int) := ⟨r2.toNat, by omega⟩
        have hi : i < 6 := by omega
        match i, hi with
        | 0, _ => exact ⟨1, rfl, by decide, by decide⟩
        | 1, _ => exact ⟨-1, rfl, by decide, by decide⟩
        | 2, _ => exact ⟨3, rfl, by decide, by decide⟩
        | 3, _ => exact ⟨-3, rfl, by decide, by decide⟩
        | 4, _ => exact ⟨100, rfl, by decide, by decide⟩
        | 5, _ => exact ⟨-100, rfl, by decide, by decide⟩
      refine ⟨pL, _, r2, .int c, rfl, rfl, SqL.of (f3.keep pL _ upd_same nL.1 nL.2), hc, _, _, rfl, rfl, ?_⟩
      have gj := gd.unint
      exact q _ (.int (j + c)) l3 H3 (.int _) ((Gd.int (B := B + 100) (by omega) hB2).mono (Nat.le_refl _) (by omega) (by omega)) (M3.mono (by omega)) ((f1.trans f2).trans (Fr.lead sL f3))
    | bool j =>
      cases hd1
      refine ifT rfl ⟨_, rfl, .bl j, .ty "bool", _, _, _, rfl, .ty _, .base (.bl j), isi_bool K (.bool j), _, rfl, ifF rfl (ifF rfl (zb l1 n1 H1 M1 (by omega) f1))⟩
    | _ => exact ifF rfl (ifF rfl (zb l1 n1 H1 M1 (by omega) f1))
  obtain ⟨tc, dc, zc⟩ := sc
  refine ⟨_, pss_cons (ps_if (PW.pt (pw_and (pt_val (pe_callB call_isi (by rfl) T.isi PyProof.Rows.boot_isinstance (pa_cons (pv 1) (pa_cons (pe_bltn (v := .ty "str") (u := .type "str") (by rfl) T.str (by decide +kernel) rfl) pa_nil)))) (pw_and1 (pt_cmpR op_eq (pe_call GN hr rfl T.next FN.kp bN .nil pass0 (pa_cons (pv 0) (pa_cons pe_int pa_nil))) pe_int (nomark _))))) (pss_one (ps_ret (pe_ix ix_list (pe_lst (pa_cons (pe_op op_add_str (pv 1) pe_str) (pa_cons (pe_slice sl_str (pv 1) (po_some pe_int) po_none) (pa_cons (pe_op op_add_str (pv 1) pe_str) (pa_cons (pe_op op_add_str (pv 1) pe_str) (pa_cons (pe_op op_mul_si (pv 1) pe_int) (pa_cons (pe_op op_add_str (pv 1) pe_str) pa_nil))))))) (pe_call GN hr rfl T.next FN.kp bN .nil pass0 (pa_cons (pv 0) (pa_cons pe_int pa_nil))) (fun _ _ => rfl)))) pss_nil) dc, ?_⟩
  refine ⟨_, rfl, v, .ty "str", _, _, _, rfl, .ty _, hd.ty, isi_str K d, _, rfl, ?_⟩
  cases d with
  | str z =>
    cases hd
    have gz := gd.unstr
    have zl : z.length ≤ 50000 := Nat.le_trans gz.1 ha
    have zs : z.length ≤ sizeLine := lenOk _ (by omega)
    refine ifT rfl ⟨_, rfl, m, l, n, 2, rfl, M, by omega, by decide, by decide, fun r l2 H2 r0 r1 M2 f2 => ⟨rfl, _, rfl, ite_b (fun _ => ?_) (fun _ => zc l2 (n + 1) H2 M2 (by omega) f2)⟩⟩
    refine ⟨_, rfl, z, "b", rfl, rfl, lenOk _ (show z.length + 1 ≤ _ by omega), _, rfl, _, rfl, z, rfl, zs, _, rfl, z, "A", rfl, rfl, lenOk _ (show z.length + 1 ≤ _ by omega), _, rfl, z, " ", rfl, rfl, lenOk _ (show z.length + 1 ≤ _ by omega),
      _, rfl, z, 2, rfl, rfl, mul_small zl, _, rfl, z, "1", rfl, rfl, lenOk _ (show z.length + 1 ≤ _ by omega), (by show 6 ≤ sizeLine; decide), fun pL hL => ?_⟩
    obtain ⟨ws, hws⟩ : ∃ ws : List Str, ws = [z ++ "b", cutS z (some 1) none, z ++ "A", z ++ " ", Txt.mul z 2, z ++ "1"] := ⟨_, rfl⟩
    have one : ∀ c : Nat, c < 0x110000 → sOk (2 * a + 200) (z ++ ⟨#[c]⟩) := fun c hc => (gz.app (sOk.sign hc)).mono (by omega)
    have wok : ∀ y ∈ ws, sOk (2 * a + 200) y := by
      rw [hws]
      intro y hy
      simp only [List.mem_cons, List.mem_nil_iff, or_false] at hy
      rcases hy with rfl | rfl | rfl | rfl | rfl | rfl
      · exact one 98 (by decide)
      · exact (gz.cut _ _).mono (by omega)
      · exact one 65 (by decide)
      · exact one 32 (by decide)
      · exact (mul2_ok gz).mono (by omega)
      · exact one 49 (by decide)
    have wl : ws.length = 6 := by rw [hws]; rfl
    have sL : Same H2 (upd H2 pL (.lst (ws.map V.str))) := Same.upd hL
    have nL := M2.ne hL
    have eL : upd H2 pL (.lst (ws.map V.str)) = upd H2 pL (.lst [.str (z ++ "b"), .str (cutS z (some 1) none), .str (z ++ "A"), .str (z ++ " "), .str (Txt.mul z 2), .str (z ++ "1")]) := by rw [hws]; rfl
    rw [← eL]
    refine ⟨_, rfl, m, l2, n + 1, 6, rfl, M2.same sL, by omega, by decide, by decide, fun r2 l3 H3 a3 b3 M3 f3 => ?_⟩
    obtain ⟨i, rfl⟩ : ∃ i : Nat, r2 = (i : Int) := ⟨r2.toNat, by omega⟩
    obtain ⟨y, hy⟩ : ∃ y, ws[i]? = some y := ⟨_, List.getElem?_eq_getElem (by omega)⟩
    have hv : (ws.map V.str)[i]? = some (.str y) := by rw [List.getElem?_map, hy]; rfl
    refine ⟨pL, _, (i : Int), .str y, rfl, rfl, SqL.of (f3.keep pL _ upd_same nL.1 nL.2), atI_nat hv, ?_⟩
    exact q _ (.str y) l3 H3 (.str _) ((Gd.str (wok y (List.mem_of_getElem? hy))).mono (Nat.le_refl _) (Nat.le_refl _) (by omega)) (M3.mono (by omega)) (f2.trans (Fr.lead sL f3))
  | _ => exact ifF rfl (ifF rfl (zc l n H M (by omega) (Fr.refl M)))
theorem ok_bent {fd fdN fdO : FuncData} (F : Fun K "_law_bent" "_law_bent" sBent fB fd) (bB : Binds K fd ["m", "thing"] []) (T : TxtB mg fN fM fO fB) (FN : Fun K "_law_next" "_law_next" sNext fN fdN) (bN : Binds K fdN ["m", "many"] [])
    (FO : Fun K "_law_odd" "_law_odd" sOdd fO fdO) (bO : Binds K fdO ["m"] []) (k : Nat) : FnOk P w K mg base CX0 (k + 2) fB fd ["m", "thing"] (spBent K k) := by
  induction k with
  | zero => exact ⟨fun vs H Q E h => h.elim, fun A outer s H args us vs Q E hr e bd rel h => h.elim⟩
  | succ k ih => exact bent_step F bB T FN bN FO bO ih
end
end Ms
namespace Ms
open PySem PySem.Spec PyProof.Rows L2
/-! ### _law_is_whole, _law_is_name -/
def isWhole (d : PyData) (lo hi : Int) : Bool := match d with | .int i => decide (lo ≤ i) && decide (i ≤ hi) | _ => false
def isName (d : PyData) : Bool := match d with | .str z => (decide (1 ≤ z.length) && decide (z.length ≤ 8)) && z.cps.toList.all fun c => decide (c ∈ alpha.cps.toList) | _ => false
section
variable {P : Program} {w : World} {K : PySem.W.Frag} {mg : Str → Option Value} {base : Heap} {fN fM fO fB : Addr}
theorem scWh : FnScope ["thing", "least", "most"] ["thing", "least", "most"] (defScope sIsWhole) := ⟨rfl, rfl, rfl, by decide +kernel, rfl, by decide +kernel, by decide +kernel⟩
def spWhole (K : PySem.W.Frag) : Sp := fun vs H Q _ => ∃ (m l : Addr) (v : V) (d : PyData) (lo hi : Int), vs = [v, .int lo, .int hi] ∧ Dq K H m l v d ∧ Q (.bl (isWhole d lo hi)) H
theorem ok_whole {f : Addr} {fd : FuncData} (F : Fun K "_law_is_whole" "_law_is_whole" sIsWhole f fd) (T : TxtB mg fN fM fO fB) : FnOk P w K mg base CX0 1 f fd ["thing", "least", "most"] (spWhole K) := by
  refine F.ok scWh (fun vs H Q E h => ?_) (fun cdv A outer s H vs Q E hr h => ?_)
  · obtain ⟨m, l, v, d, lo, hi, rfl, _⟩ := h
    rfl
  · obtain ⟨m, l, v, d, lo, hi, rfl, hd, q⟩ := h
    refine ⟨_, pss_one (ps_ret (pe_and (pe_callB call_isi (by rfl) T.isi PyProof.Rows.boot_isinstance (pa_cons (pv 0) (pa_cons (pe_bltn (v := .ty "int") (u := .type "int") (by rfl) T.int (by decide +kernel) rfl) pa_nil)))
      (pe_and (pe_not (pe_callB call_isi (by rfl) T.isi PyProof.Rows.boot_isinstance (pa_cons (pv 0) (pa_cons (pe_bltn (v := .ty "bool") (u := .type "bool") (by rfl) T.bool (by decide +kernel) rfl) pa_nil))))
        (pe_one (pe_chain op_le op_le (pv 1) (pv 0) (pv 2)))))), ?_⟩
    refine ⟨_, rfl, v, .ty "int", _, _, _, rfl, .ty _, hd.ty, isi_int K d, _, rfl, ?_⟩
    cases d with
    | int j =>
      cases hd
      refine ifT rfl ⟨_, rfl, .int j, .ty "bool", _, _, _, rfl, .ty _, .base (.int j), isi_bool K (.int j), _, rfl, _, rfl, ifT rfl ?_⟩
      refine ⟨_, rfl, _, rfl, lo, j, rfl, rfl, _, rfl, ite_b (fun e => ⟨_, rfl, j, hi, rfl, rfl, ?_⟩) (fun e => ?_)⟩
      · have z : isWhole (.int j) lo hi = decide (j ≤ hi) := by show (decide (lo ≤ j) && decide (j ≤ hi)) = _; rw [e]; rfl
        rw [z] at q; exact q
      · have z : isWhole (.int j) lo hi = false := by show (decide (lo ≤ j) && decide (j ≤ hi)) = _; rw [e]; rfl
        rw [z] at q; exact q
    | bool j =>
      cases hd
      exact ifT rfl ⟨_, rfl, .bl j, .ty "bool", _, _, _, rfl, .ty _, .base (.bl j), isi_bool K (.bool j), _, rfl, _, rfl, ifF rfl q⟩
    | _ => exact ifF rfl q
abbrev NNa : List Str := ["thing", "sign"]
theorem lay_strs : ∀ ys : List Str, (∀ y ∈ ys, PyData.canLay0 (.str y) = true) → PyData.canLayAll0 (ys.map PyData.str) = true
  | [], _ => rfl
  | y :: ys, h => by
    show (PyData.canLay0 (.str y) && PyData.canLayAll0 (ys.map PyData.str)) = true
    rw [lay_strs ys (fun x hx => h x (List.mem_cons_of_mem _ hx)), h y (List.mem_cons_self ..)]; rfl
theorem depth_strs : ∀ ys : List Str, PyData.depthAll (ys.map PyData.str) = 0
  | [] => rfl
  | y :: ys => by
    show max (PyData.depth (.str y)) (PyData.depthAll (ys.map PyData.str)) = 0
    rw [depth_strs ys]; rfl
theorem shaped_strs (ys : List Str) (h : ∀ y ∈ ys, PyData.canLay0 (.str y) = true) : SeqAt.shaped (.list (ys.map PyData.str)) = true := by
  show (PyData.canLayAll0 (ys.map PyData.str) && decide (PyData.depthAll (ys.map PyData.str) + 1 ≤ 64)) = true
  rw [lay_strs ys h, depth_strs]; rfl
theorem dpAll_strs {K : PySem.W.Frag} {H : Hp} : ∀ ys : List Str, DpAll K H (ys.map V.str) (ys.map PyData.str)
  | [] => .nil
  | y :: ys => .cons (.str y) (dpAll_strs ys)
theorem scNa : FnScope NNa ["thing"] (defScope sIsName) := ⟨rfl, rfl, rfl, by decide +kernel, rfl, by decide +kernel, by decide +kernel⟩
def spName (K : PySem.W.Frag) : Sp := fun vs H Q _ => ∃ (m l : Addr) (v : V) (d : PyData), vs = [v] ∧ Dq K H m l v d ∧ (∀ z, d = .str z → sOk 100000 z) ∧ ∀ H', Same H H' → Q (.bl (isName d)) H'
theorem ok_name {f : Addr} {fd : FuncData} (F : Fun K "_law_is_name" "_law_is_name" sIsName f fd) (T : TxtB mg fN fM fO fB) : FnOk P w K mg base CX0 1 f fd ["thing"] (spName K) := by
  refine F.ok scNa (fun vs H Q E h => ?_) (fun cdv A outer s H vs Q E hr h => ?_)
  · obtain ⟨m, l, v, d, rfl, _⟩ := h
    rfl
  · obtain ⟨m, l, v, d, rfl, hd, hz, q⟩ := h
    refine ⟨_, pss_cons (ps_if (PW.pt (pw_or (pt_not (pt_val (pe_callB call_isi (by rfl) T.isi PyProof.Rows.boot_isinstance (pa_cons (pv 0) (pa_cons (pe_bltn (v := .ty "str") (u := .type "str") (by rfl) T.str (by decide +kernel) rfl) pa_nil)))))
        (pw_or1 (pt_not (pt_chain op_le op_le pe_int (pe_callB call_len (by rfl) T.len PySem.boot_len (pa_cons (pv 0) pa_nil)) pe_int))))) (pss_one (ps_ret pe_bl)) pss_nil)
      (pss_one (ps_ret (pe_cmpR (op_eqD hr.units) (pe_lc (own := [("sign", 1)]) (g := gName 1) (by rfl) scNa.nd (pi_str (pv 0)) (blkOk_by (own := [("sign", 1)]) (N := NNa) (sc := defScope sIsName) (by decide +kernel))
        (fun _ _ _ _ _ => pg_name (i := 1) scNa.nd rfl (Or.inl rfl)) (fun _ _ _ _ _ => pts_one (pt_cmpR op_notIn_sign (pv 1) pe_str (by rfl))) (fun _ _ _ _ _ => pv 1)) (pe_lst pa_nil) (nomark _)))), ?_⟩
    refine ⟨_, rfl, v, .ty "str", _, _, _, rfl, .ty _, hd.ty, isi_str K d, _, rfl, ?_⟩
    cases d with
    | str z =>
      cases hd
      have zk := hz z rfl
      have zs : z.length ≤ sizeLine := by rw [sizeLine_eq]; have := zk.1; omega
      refine ifF rfl ?_
      refine ⟨_, rfl, .str z, z.length, rfl, ⟨zs, rfl⟩, 1, (z.length : Int), rfl, rfl, _, rfl, ite_b (fun e1 => ⟨(z.length : Int), 8, rfl, rfl, _, rfl, ite_b (fun e8 => ?_) (fun e8 => ?_)⟩) (fun e1 => ⟨_, rfl, ifT rfl ?_⟩)⟩
      · have ef : isName (.str z) = false := by
          show ((decide (1 ≤ z.length) && decide (z.length ≤ 8)) && _) = false
          have : decide (z.length ≤ 8) = false := by
            simp only [Bool.not_eq_true', decide_eq_false_iff_not] at e8 ⊢
            omega
          rw [this]; simp
        rw [ef] at q
        exact q H (fun _ _ e => e)
      · have z1 : 1 ≤ z.length := by
          have := of_decide_eq_true e1
          omega
        have z8 : z.length ≤ 8 := by
          have e : decide ((z.length : Int) ≤ 8) = true := by simpa using e8
          have := of_decide_eq_true e
          omega
        have en : isName (.str z) = z.cps.toList.all fun c => decide (c ∈ alpha.cps.toList) := by
          show ((decide (1 ≤ z.length) && decide (z.length ≤ 8)) && _) = _
          rw [decide_eq_true z1, decide_eq_true z8]; rfl
        refine ⟨_, rfl, z, rfl, fun D hD => ?_⟩
        refine lc_it walk_str (fun i H3 => ∃ ys : List Str, ys.length ≤ i ∧ (∀ y ∈ ys, PyData.canLay0 (.str y) = true) ∧ (ys.isEmpty = (z.cps.toList.take i).all fun c => decide (c ∈ alpha.cps.toList)) ∧ H3 = upd H D (.lst (ys.map V.str))) ⟨[], Nat.le_refl _, (fun y hy => nomatch hy), rfl, rfl⟩ (fun _ _ _ _ => True.intro) ?_ ?_
        · rintro i x H3 H4 hi ⟨ys, yl, yo, ye, e3⟩ ⟨rfl, c, hc, rfl⟩
          have hc' : z.cps.toList[i]? = some c := by simpa using hc
          have ti : z.cps.toList.take (i + 1) = z.cps.toList.take i ++ [c] := by rw [List.take_succ, hc']; rfl
          refine ⟨rfl, _, rfl, c, alpha, rfl, rfl, _, rfl, ite_b (fun e => ?_) (fun e => ?_)⟩
          · refine ⟨_, rfl, _, by rw [e3]; exact upd_same, small1000 (by rw [List.length_map]; have : z.cps.size ≤ 8 := z8; omega), ys ++ [⟨#[c]⟩], by simp; omega, ?_, ?_, str_grow e3⟩
            · intro y hy
              rcases List.mem_append.mp hy with hy | hy
              · exact yo y hy
              · rw [List.mem_singleton.mp hy]
                have cc : c < 0x110000 := zk.2 c (List.mem_of_getElem? hc')
                simp [PyData.canLay0, PyData.strOk, cc]
            rw [ti, List.all_append]
            have e' : decide (c ∈ alpha.cps.toList) = false := by simpa using e
            simp only [List.all_cons, e', List.all_nil]
            simp
          · refine ⟨ys, by omega, yo, ?_, e3⟩
            have e' : decide (c ∈ alpha.cps.toList) = true := by simpa using e
            rw [ti, List.all_append, ye]
            simp only [List.all_cons, e', List.all_nil]
            simp
        · rintro H3 ⟨ys, yl, yo, ye, e3⟩
          have tz : z.cps.toList.take z.cps.size = z.cps.toList := List.take_of_length_le (by simp)
          rw [tz] at ye
          have s1 : Same H H3 := e3 ▸ Same.upd hD
          refine ⟨Nat.zero_le _, fun p0 h0 => ?_⟩
          have s2 : Same H3 (upd H3 p0 (.lst [])) := Same.upd h0
          have gD : H3 D = some (.lst (ys.map V.str)) := by rw [e3, upd_same]
          refine ⟨.list (ys.map PyData.str), .list [], .lst (SqL.of (s2 _ _ gD)) (dpAll_strs ys), .lst (SqL.of upd_same) .nil, shaped_strs ys yo, rfl, ?_⟩
          have ev : PyData.eqv (.list (ys.map PyData.str)) (.list []) = isName (.str z) := by
            rw [en, ← ye]
            cases ys <;> rfl
          rw [ev]
          exact q _ (s1.trans s2)
      · have ef : isName (.str z) = false := by
          show ((decide (1 ≤ z.length) && decide (z.length ≤ 8)) && _) = false
          have : decide (1 ≤ z.length) = false := by
            have := of_decide_eq_false e1
            exact decide_eq_false (by omega)
          rw [this]; simp
        rw [ef] at q
        exact q H (fun _ _ e => e)
    | _ => exact ifT rfl (ifT rfl (q H (fun _ _ e => e)))
end
end Ms
namespace Ms
open PySem PySem.Spec PyProof.Rows L2
/-! ### enumerate(tuple) over KE's draws -/
def ItET (K : PySem.W.Frag) (a : Addr) : It :=
  ⟨fun i H => ∃ xs : List V, SqT K H a xs ∧ i < xs.length,
    fun i H v H' => ∃ T x, v = .ref T ∧ H T = none ∧ H' = upd H T (.tup [.int (i : Nat), x]) ∧ ∀ xs, SqT K H a xs → xs[i]? = some x,
    fun i H => ∃ xs : List V, SqT K H a xs ∧ i = xs.length⟩
theorem walk_et {K : PySem.W.Frag} {a : Addr} {xs : List V} : Walk (ItET K a) xs.length (fun H => SqT K H a xs) (YPair (fun i => some (.int (i : Nat))) (fun i => xs[i]?)) := by
  refine ⟨fun i _ hi q => ⟨xs, q, hi⟩, fun _ q => ⟨xs, q, rfl⟩, fun i H v H' _ q y => ?_⟩
  obtain ⟨T, x, h1, h2, h3, h4⟩ := y
  exact ⟨T, .int (i : Nat), x, h1, h2, h3, rfl, h4 xs q⟩
abbrev EtSt (a e it : Addr) : Nat → Heap → Prop := fun i h => (∃ old, IsEnum h e it ((0 : Int) + (i : Int)) old) ∧ h.IsTupleIter it a i
theorem turn_et {P : Program} {w : World} {K : PySem.W.Frag} {elts : List Expr} {kk : Nat} {tpos : Pos} {a e it : Addr} (na : a ≠ it) (ne : e ≠ it) (nea : e ≠ a) :
    Turn P w K (.Tuple elts kk tpos) (ItET K a) [e, it] e (EtSt a e it) where
  mem := by simp
  obj := fun i h st b hb => by
    obtain ⟨⟨old, he⟩, ⟨o, ho, hc, hd⟩⟩ := st
    have e' : b = e ∨ b = it := by simpa using hb
    rcases e' with rfl | rfl
    · exact ⟨_, he, fun v q => nomatch q⟩
    · exact ⟨o, ho, fun v q => by rw [hd] at q; cases q⟩
  keep := fun i h h' st k => by
    obtain ⟨⟨old, he⟩, hi⟩ := st
    exact ⟨⟨old, k e (by simp) _ he⟩, hi.at fun o q => k it (by simp) o q⟩
  item := by
    intro X hP hw hK hc i pins s σ H E I hf st hg
    subst hP hw hK
    obtain ⟨xs, hq, hi⟩ := hg
    obtain ⟨its, rv, p, _⟩ := I.tuple hq
    have l1 := rv.length
    have hh : X.A.in1.handled = none := I.ok.hd hc
    have W := GoesN.enumFrom (elts := elts) (x1 := kk) (pos := tpos) 0 (Draws.tuple (prog := X.prog) (w := X.w) hh it a na its.toArray) e ne (by simp [ne, nea]) (by simp)
    have lv : ∀ c ∈ [e, it], c < s.heap.objs.size := fun c hc => by
      obtain ⟨⟨old, he⟩, ⟨o, ho, _⟩⟩ := st
      have e' : c = e ∨ c = it := by simpa using hc
      rcases e' with rfl | rfl
      · exact Heap.lt_size he
      · exact Heap.lt_size ho
    refine W.goes i s (fun u s2 => ∃ x H', L2.Inv X pins σ H' s2 ∧ RelV x u ∧ (ItET X.K a).yld i H x H' ∧ EtSt a e it (i + 1) s2.heap ∧ ∀ b ∈ [e, it], H' b = none) E (by simp; omega) ⟨st.1, st.2, p⟩ fun v h' tk Y st' hk htk => ?_
    obtain ⟨T, t, x, rfl, hT, hx, hI⟩ := Y
    have hxx : xs[i]? = some xs[i] := List.getElem?_eq_getElem hi
    obtain ⟨u, hu, ru⟩ := rv.get hxx
    have ex : x = u := by simp [hu] at hx; exact hx.symm
    subst ex
    have new : ObjOk X.prog X.w (upd H T (.tup [.int (i : Nat), xs[i]])) h' T (.tup [.int (i : Nat), xs[i]]) :=
      ⟨(by show 2 ≤ sizeLine; decide), [.int (0 + (i : Int)) t, x], .cons ⟨t, by rw [Int.zero_add]⟩ (.cons ru .nil), hI⟩
    have I1 : L2.Inv X pins σ (upd H T (.tup [.int (i : Nat), xs[i]])) { s with heap := h', toks := tk } := I.turnedNew (t' := tk) (ch := [e, it]) hk hf hT new
    refine ⟨.ref T, _, I1, rfl, ⟨T, xs[i], rfl, I.hok.fresh hT, rfl, fun ys hy => by rw [I.tuple_inj hy hq]; exact hxx⟩, ⟨st'.1, st'.2.1⟩, fun b hb => ?_⟩
    rw [upd_ne (Nat.ne_of_lt (Nat.lt_of_lt_of_le (lv b hb) hT))]
    exact (hf b hb).1
  done := by
    intro X hP hw hK hc i pins s σ H E I hf st hg
    subst hP hw hK
    obtain ⟨xs, hq, hi⟩ := hg
    obtain ⟨its, rv, p, _⟩ := I.tuple hq
    have l1 := rv.length
    have hh : X.A.in1.handled = none := I.ok.hd hc
    have W := GoesN.enumFrom (elts := elts) (x1 := kk) (pos := tpos) 0 (Draws.tuple (prog := X.prog) (w := X.w) hh it a na its.toArray) e ne (by simp [ne, nea]) (by simp)
    have ei : i = its.toArray.size := by simp; omega
    rw [ei] at st
    exact W.stops s (fun s1 => L2.Inv X pins σ H s1) E ⟨st.1, st.2, p⟩ fun h' tk hk htk => I.turnedL (t' := tk) (ch := [e, it]) hk hf
  self := fun A i s Q E st h => let ⟨⟨_, he⟩, _⟩ := st; wpAny_pyIter_enum he h
def iET (K : PySem.W.Frag) (ta : TA) : TI := fun σ H R => ta σ H fun vs H1 => ∃ a xs, vs = [.ref a] ∧ SqT K H1 a xs ∧ R (ItET K a) H1
set_option maxHeartbeats 1000000 in
/-- enumerate(v), v told by how its iterator begins -/
theorem meets_en1 {v : Value} {o : Obj} {HP : Heap → Prop} (B : Begins v o HP) :
    Meets (Builtin.«enumerate.__new__» ⟨[.type "enumerate", v], []⟩) (fun _ R s => HP s.heap ∧
      R (.ok (.ret (.ref (s.heap.push o).objs.size))) { s with heap := (s.heap.push o).push { cls := .type "enumerate", data := .fields #[.none, .bool false, .ref s.heap.objs.size, rawInt 0, .none, .none] } }) :=
  .of_wp fun prog w A R s h => by
    obtain ⟨hp, g, d, tk, os⟩ := s
    obtain ⟨h1, h⟩ := h
    have hsub := sub_enumerate
    have begins : ∀ {A' : Around} {E : Value → Shared → Prop} {Q : Value → Shared → Prop}, Q (.ref hp.objs.size) ⟨hp.push o, g, d, tk, os⟩ → wpAny (model prog w) A' (pyIter v) Q E ⟨hp, g, d, tk, os⟩ :=
      fun q => B.iter prog w _ _ ⟨hp, g, d, tk, os⟩ _ h1 q
    wp_walk using begins
    refine wpAny_stack_any fun st => wpAny_pure ?_
    split
    · rename_i c _ _ _ _ _
      cases (c == Value.type "enumerate") <;> (wp_walk using begins; exact ⟨_, rfl, h⟩)
    · wp_walk using begins
      exact ⟨_, rfl, h⟩
theorem pi_et {X : Cx} {e : Expr} {ta : TA} {p pos tpos : Pos} {elts : List Expr} {kk : Nat} (hg : Gl X "enumerate") (hm : X.mg "enumerate" = none) (ha : PA X [e] ta) (hs : starEach [e] X.env = [(false, eval e X.env)] := by rfl) :
    PI X (.Tuple elts kk tpos) (.Call (.Name "enumerate" p) [e] [] pos) (iET X.K ta) := by
  refine ⟨fun pins s σ H R I h => Call_ (ld_blt I hg hm boot_enumerate (PyProof.Rows.callWith_type1 (thn (ha.run pos pins s σ H _ I h) fun us s1 ⟨vs, H1, I1, r1, q1⟩ => ?_) hs rfl))⟩
  obtain ⟨a, xs, ex, hq, q⟩ := q1
  subst ex
  obtain ⟨u, rfl, ru⟩ := vals1 r1
  cases ru
  obtain ⟨its, rv, p1, _⟩ := I1.tuple hq
  obtain ⟨oa, hoa, _⟩ := id p1
  have la : a < s1.heap.objs.size := Heap.lt_size hoa
  refine callType_new F.called_enumerate (by decide) (F.typeCall_enumerate_1 _) (F.newCall_enumerate_1 _) (fun obj => F.args_object_init_2 obj _) F.entry_enumerate_new (meets_en1 (begins_tuple a its.toArray)) ⟨p1, ?_⟩
  obtain ⟨oi, hoi⟩ : ∃ oi : Obj, oi = { cls := .type "tuple_iterator", data := .fields #[.ref a, .int 0 0] } := ⟨_, rfl⟩
  obtain ⟨oe, hoe⟩ : ∃ oe : Obj, oe = { cls := .type "enumerate", data := .fields #[.none, .bool false, .ref s1.heap.objs.size, rawInt 0, .none, .none] } := ⟨_, rfl⟩
  rw [← hoi, ← hoe]
  have hz : (s1.heap.push oi).objs.size = s1.heap.objs.size + 1 := Heap.size_push ..
  have ge : ((s1.heap.push oi).push oe).get? (s1.heap.objs.size + 1) = some oe := by
    have := Heap.get?_push_size (s1.heap.push oi) (o := oe) (by rw [hoe]; rfl)
    rw [hz] at this; exact this
  have gi : ((s1.heap.push oi).push oe).get? s1.heap.objs.size = some oi := Heap.get?_push_of_some _ (Heap.get?_push_size _ (by rw [hoi]; rfl))
  have hk : ∀ b o, s1.heap.get? b = some o → ((s1.heap.push oi).push oe).get? b = some o := fun b o x => Heap.get?_push_of_some _ (Heap.get?_push_of_some _ x)
  show _ ∧ _
  rw [hz]
  have he : IsEnum ((s1.heap.push oi).push oe) (s1.heap.objs.size + 1) s1.heap.objs.size 0 .none := ge.trans (by rw [hoe])
  refine ⟨⟨_, ge, by rw [hoe]⟩, wpAny_pyIter_enum he ?_⟩
  have I2 : L2.Inv X pins σ H1 { s1 with heap := (s1.heap.push oi).push oe } := I1.kept (t' := s1.toks) hk
  have n1 : s1.heap.objs.size + 1 ≠ s1.heap.objs.size := Nat.succ_ne_self _
  have n2 : s1.heap.objs.size + 1 ≠ a := Nat.ne_of_gt (Nat.lt_succ_of_lt la)
  refine ⟨s1.heap.objs.size + 1, [s1.heap.objs.size + 1, s1.heap.objs.size], EtSt a (s1.heap.objs.size + 1) s1.heap.objs.size, ItET X.K a, H1, rfl, I2, turn_et (Nat.ne_of_lt la) n1 n2, ⟨⟨.none, he⟩, ⟨oi, gi, by rw [hoi], by rw [hoi]; rfl⟩⟩, fun c hc => ?_, q⟩
  have e' : c = s1.heap.objs.size + 1 ∨ c = s1.heap.objs.size := by simpa using hc
  have hle : s1.heap.objs.size ≤ c := by
    rcases e' with e | e
    · rw [e]; exact Nat.le_succ _
    · rw [e]; exact Nat.le_refl _
  exact I1.fpOk hle (I1.hok.fresh hle)
end Ms
namespace Ms
open PySem PySem.Spec PyProof.Rows L2
/-! ### _law_due -/
/-- a good pair -/
def oneD : PyData → Option (Str × Int)
  | .tuple [.str z, .int c] => if (isName (.str z) && isWhole (.int c) 1 3) = true then some (z, c) else none
  | _ => none
def dueGo : Nat → List Str → Int → List PyData → Sum Nat Int
  | _, _, many, [] => .inr many
  | p, seen, many, d :: ds => match oneD d with
    | none => .inl p
    | some (z, c) => if z ∈ seen then .inl p else dueGo (p + 1) (seen ++ [z]) (many * (c + 1)) ds
def bad (d : PyData) : PyData := .tuple [.str "settings", d]
def dueD (d : PyData) : PyData := match d with
  | .tuple ds => if 1 ≤ ds.length ∧ ds.length ≤ 3 then (match dueGo 0 [] 1 ds with | .inl p => bad (.int p) | .inr many => if many ≤ 12 then .list [d] else bad (.str "many")) else bad .none
  | _ => bad .none
theorem oneD_name {d0 d1 : PyData} (h : isName d0 = false) : oneD (.tuple [d0, d1]) = none := by
  cases d0 <;> cases d1 <;> first | rfl | (simp only [oneD]; rw [h]; rfl)
theorem oneD_whole {d0 d1 : PyData} (h : isWhole d1 1 3 = false) : oneD (.tuple [d0, d1]) = none := by
  cases d0 <;> cases d1 <;> first | rfl | (simp only [oneD]; rw [h, Bool.and_false]; rfl)
theorem oneD_len {es : List PyData} (h : es.length ≠ 2) : oneD (.tuple es) = none := by
  match es, h with
  | [], _ => rfl
  | [x], _ => cases x <;> rfl
  | [_, _], h => exact absurd rfl h
  | x :: y :: z :: r, _ => cases x <;> cases y <;> rfl
theorem oneD_ok {d0 d1 : PyData} (h : isName d0 = true) (h1 : isWhole d1 1 3 = true) : ∃ z c, d0 = .str z ∧ d1 = .int c ∧ 1 ≤ c ∧ c ≤ 3 ∧ oneD (.tuple [d0, d1]) = some (z, c) := by
  cases d0 with
  | str z =>
    cases d1 with
    | int c =>
      refine ⟨z, c, rfl, rfl, ?_, ?_, by simp only [oneD]; rw [h, h1]; rfl⟩
      · have := (Bool.and_eq_true _ _ ▸ h1 : _ ∧ _).1
        exact of_decide_eq_true this
      · have := (Bool.and_eq_true _ _ ▸ h1 : _ ∧ _).2
        exact of_decide_eq_true this
    | _ => exact absurd h1 (by simp [isWhole])
  | _ => exact absurd h (by simp [isName])
theorem inV_str (z : Str) (ys : List Str) : inV (.str z) (ys.map V.str) = decide (z ∈ ys) := by
  unfold inV
  rw [List.any_map]
  rw [Bool.eq_iff_iff]
  simp only [List.any_eq_true, Function.comp, eqV, beq_iff_eq, decide_eq_true_eq]
  constructor
  · rintro ⟨y, hy, rfl⟩; exact hy
  · intro h; exact ⟨z, h, rfl⟩
end Ms
namespace Ms
open PySem PySem.Spec PyProof.Rows L2
/-! ### data keeps while the heap grows -/
mutual
theorem Dq.same {K : PySem.W.Frag} {m l : Addr} {H H' : Hp} (k : Same H H') : ∀ (d : PyData) (v : V), Dq K H m l v d → Dq K H' m l v d
  | .none, _, h => by cases h; exact .non
  | .bool b, _, h => by cases h; exact .bl b
  | .int i, _, h => by cases h; exact .int i
  | .str x, _, h => by cases h; exact .str x
  | .list ds, _, h => by
    cases h with
    | lst e n1 n2 t => exact .lst (k _ _ e) n1 n2 (DqAll.same k ds _ t)
  | .tuple ds, _, h => by
    cases h with
    | tup e t => exact .tup (Same.seqT k e) (DqAll.same k ds _ t)
  | .dict _, _, h => by
    cases h with
    | dct e n1 n2 => exact .dct (k _ _ e) n1 n2
theorem DqAll.same {K : PySem.W.Frag} {m l : Addr} {H H' : Hp} (k : Same H H') : ∀ (ds : List PyData) (vs : List V), DqAll K H m l vs ds → DqAll K H' m l vs ds
  | [], _, h => by cases h; exact .nil
  | d :: ds, _, h => by
    cases h with
    | cons h1 h2 => exact .cons (Dq.same k d _ h1) (DqAll.same k ds _ h2)
end
/-! ### comprehensions of two clauses -/
theorem lc2_it {J : It} {n : Nat} {G : Hp → Prop} {Y : Nat → Hp → V → Hp → Prop} (w : Walk J n G Y) {g : TG} {tt : TT} {wi1 : TI} {g1 : TG} {tt1 : TT} {te : TE} {vs vs1 : List Nat} {σ : L2.St} {H1 : Hp} {D : Addr} {Qd : Hp → Prop} (Pv : Nat → Hp → Prop)
    (h0 : Pv 0 (upd H1 D (.lst []))) (hG : ∀ i H, i ≤ n → Pv i H → G H)
    (hs : ∀ i x H H', i < n → Pv i H → Y i H x H' → g x (wipe σ vs) H' fun σ2 H2 => wipe σ2 vs = wipe σ vs ∧ tt σ2 H2 fun b H3 =>
      if b = true then wi1 σ2 H3 fun J1 H4 => ∃ W1 : Nat → Nat → Hp → Prop, (∃ m, W1 0 m H4) ∧ ∀ j k H, W1 j k H →
        (J1.stop j H ∧ Pv (i + 1) H) ∨ (J1.go j H ∧ ∃ Nx1 : Hp → Prop, (∀ H', Nx1 H' → ∃ k', k' < k ∧ W1 (j + 1) k' H') ∧ ∀ x H', J1.yld j H x H' → g1 x (wipe σ2 vs1) H' fun σ3 H5 => wipe σ3 vs1 = wipe σ2 vs1 ∧ tt1 σ3 H5 fun b H6 =>
          if b = true then te σ3 H6 fun y H7 => ∃ acc, H7 D = some (.lst acc) ∧ acc.length < sizeLine ∧ Nx1 (upd H7 D (.lst (acc ++ [y]))) else Nx1 H6)
      else Pv (i + 1) H3) (hd : ∀ H, Pv n H → Qd H) :
    ∃ W : Nat → Nat → Hp → Prop, (∃ m, W 0 m (upd H1 D (.lst []))) ∧ ∀ i m H, W i m H →
      (J.stop i H ∧ Qd H) ∨ (J.go i H ∧ ∃ Nx : Hp → Prop, (∀ H', Nx H' → ∃ m', m' < m ∧ W (i + 1) m' H') ∧ ∀ x H', J.yld i H x H' → g x (wipe σ vs) H' fun σ2 H2 => wipe σ2 vs = wipe σ vs ∧ tt σ2 H2 fun b H3 =>
        if b = true then wi1 σ2 H3 fun J1 H4 => ∃ W1 : Nat → Nat → Hp → Prop, (∃ m, W1 0 m H4) ∧ ∀ j k H, W1 j k H →
          (J1.stop j H ∧ Nx H) ∨ (J1.go j H ∧ ∃ Nx1 : Hp → Prop, (∀ H', Nx1 H' → ∃ k', k' < k ∧ W1 (j + 1) k' H') ∧ ∀ x H', J1.yld j H x H' → g1 x (wipe σ2 vs1) H' fun σ3 H5 => wipe σ3 vs1 = wipe σ2 vs1 ∧ tt1 σ3 H5 fun b H6 =>
            if b = true then te σ3 H6 fun y H7 => ∃ acc, H7 D = some (.lst acc) ∧ acc.length < sizeLine ∧ Nx1 (upd H7 D (.lst (acc ++ [y]))) else Nx1 H6)
        else Nx H3) := by
  refine ⟨fun i m H => i + m = n ∧ Pv i H, ⟨n, by omega, h0⟩, ?_⟩
  rintro i m H ⟨e, p⟩
  have q := hG i H (by omega) p
  by_cases hi : i < n
  · exact .inr ⟨w.goes i H hi q, Pv (i + 1), fun H' p' => ⟨n - (i + 1), by omega, by omega, p'⟩, fun x H' y => hs i x H H' hi p (w.yields i H x H' hi q y)⟩
  · have z : i = n := by omega
    subst z
    exact .inl ⟨w.stops H q, hd H p⟩
/-- the inner clause's walk -/
theorem lc_in {J : It} {n : Nat} {G : Hp → Prop} {Y : Nat → Hp → V → Hp → Prop} (w : Walk J n G Y) {g : TG} {tt : TT} {te : TE} {vs : List Nat} {σ : L2.St} {H4 : Hp} {D : Addr} {Qd : Hp → Prop} (Pv : Nat → Hp → Prop)
    (h0 : Pv 0 H4) (hG : ∀ i H, i ≤ n → Pv i H → G H)
    (hs : ∀ i x H H', i < n → Pv i H → Y i H x H' → g x (wipe σ vs) H' fun σ2 H2 => wipe σ2 vs = wipe σ vs ∧ tt σ2 H2 fun b H3 =>
      if b = true then te σ2 H3 fun y H4 => ∃ acc, H4 D = some (.lst acc) ∧ acc.length < sizeLine ∧ Pv (i + 1) (upd H4 D (.lst (acc ++ [y]))) else Pv (i + 1) H3) (hd : ∀ H, Pv n H → Qd H) :
    ∃ W : Nat → Nat → Hp → Prop, (∃ m, W 0 m H4) ∧ ∀ i m H, W i m H →
      (J.stop i H ∧ Qd H) ∨ (J.go i H ∧ ∃ Nx : Hp → Prop, (∀ H', Nx H' → ∃ m', m' < m ∧ W (i + 1) m' H') ∧ ∀ x H', J.yld i H x H' → g x (wipe σ vs) H' fun σ2 H2 => wipe σ2 vs = wipe σ vs ∧ tt σ2 H2 fun b H3 =>
        if b = true then te σ2 H3 fun y H4 => ∃ acc, H4 D = some (.lst acc) ∧ acc.length < sizeLine ∧ Nx (upd H4 D (.lst (acc ++ [y]))) else Nx H3) := by
  refine ⟨fun i m H => i + m = n ∧ Pv i H, ⟨n, by omega, h0⟩, ?_⟩
  rintro i m H ⟨e, p⟩
  have q := hG i H (by omega) p
  by_cases hi : i < n
  · exact .inr ⟨w.goes i H hi q, Pv (i + 1), fun H' p' => ⟨n - (i + 1), by omega, by omega, p'⟩, fun x H' y => hs i x H H' hi p (w.yields i H x H' hi q y)⟩
  · have z : i = n := by omega
    subst z
    exact .inl ⟨w.stops H q, hd H p⟩
/-! ### pairs of a text and an int, wherever they stand -/
def PrT (K : PySem.W.Frag) (H : Hp) (v : V) (q : Str × Int) : Prop := ∃ a, v = .ref a ∧ SqT K H a [.str q.1, .int q.2]
inductive PrTs (K : PySem.W.Frag) (H : Hp) : List V → List (Str × Int) → Prop
  | nil : PrTs K H [] []
  | cons {v : V} {vs : List V} {q : Str × Int} {qs : List (Str × Int)} : PrT K H v q → PrTs K H vs qs → PrTs K H (v :: vs) (q :: qs)
section
variable {K : PySem.W.Frag} {H H' : Hp}
theorem PrTs.same (s : Same H H') {vs : List V} {qs : List (Str × Int)} (p : PrTs K H vs qs) : PrTs K H' vs qs := by
  induction p with
  | nil => exact .nil
  | cons h _ ih =>
    obtain ⟨a, e, h⟩ := h
    exact .cons ⟨a, e, Same.seqT s h⟩ ih
theorem PrTs.len {vs : List V} {qs : List (Str × Int)} (p : PrTs K H vs qs) : vs.length = qs.length := by
  induction p with
  | nil => rfl
  | cons _ _ ih => simp [ih]
theorem PrTs.get {vs : List V} {qs : List (Str × Int)} (p : PrTs K H vs qs) : ∀ {i : Nat} {v : V}, vs[i]? = some v → ∃ q, qs[i]? = some q ∧ PrT K H v q := by
  induction p with
  | nil => intro i v h; simp at h
  | cons h' _ ih =>
    intro i b hb
    cases i with
    | zero => simp at hb; subst hb; exact ⟨_, rfl, h'⟩
    | succ i => exact ih (by simpa using hb)
theorem PrTs.snoc {vs : List V} {qs : List (Str × Int)} {v : V} {q : Str × Int} (p : PrTs K H vs qs) (h : PrT K H v q) : PrTs K H (vs ++ [v]) (qs ++ [q]) := by
  induction p with
  | nil => exact .cons h .nil
  | cons h' _ ih => exact .cons h' ih
end
/-! ### rows: tuples of ints, each with its own address -/
inductive Rws (H : Hp) : List Addr → List (List Int) → Prop
  | nil : Rws H [] []
  | cons {a : Addr} {as : List Addr} {r : List Int} {rs : List (List Int)} : H a = some (.tup (r.map V.int)) → Rws H as rs → Rws H (a :: as) (r :: rs)
section
variable {H H' : Hp}
theorem Rws.same {as : List Addr} {rs : List (List Int)} (s : ∀ b o, b ∈ as → H b = some o → H' b = some o) (p : Rws H as rs) : Rws H' as rs := by
  induction p with
  | nil => exact .nil
  | cons h _ ih => exact .cons (s _ _ (List.mem_cons_self ..) h) (ih fun b o hb => s b o (List.mem_cons_of_mem _ hb))
theorem Rws.snoc {as : List Addr} {rs : List (List Int)} {a : Addr} {r : List Int} (p : Rws H as rs) (h : H a = some (.tup (r.map V.int))) : Rws H (as ++ [a]) (rs ++ [r]) := by
  induction p with
  | nil => exact .cons h .nil
  | cons h' _ ih => exact .cons h' ih
theorem Rws.length {as : List Addr} {rs : List (List Int)} (p : Rws H as rs) : as.length = rs.length := by
  induction p with
  | nil => rfl
  | cons _ _ ih => simp [ih]
theorem Rws.get {as : List Addr} {rs : List (List Int)} (p : Rws H as rs) : ∀ {i : Nat} {a : Addr}, as[i]? = some a → ∃ r, rs[i]? = some r ∧ H a = some (.tup (r.map V.int)) := by
  induction p with
  | nil => intro i a h; simp at h
  | cons h' _ ih =>
    intro i b hb
    cases i with
    | zero => simp at hb; subst hb; exact ⟨_, rfl, h'⟩
    | succ i => exact ih (by simpa using hb)
end
/-! ### all standings, by the settings -/
/-- each row with each value behind it -/
def widen (rs : List (List Int)) (n : Nat) : List (List Int) := rs.flatMap fun r => (List.range n).map fun (v : Nat) => r ++ [(v : Int)]
def grid (qs : List (Str × Int)) : List (List Int) := qs.foldl (fun rs q => widen rs (q.2 + 1).toNat) [[]]
theorem widen_len (rs : List (List Int)) (n : Nat) : (widen rs n).length = rs.length * n := by
  unfold widen
  induction rs with
  | nil => simp
  | cons r rs ih => rw [List.flatMap_cons, List.length_append, ih, List.length_map, List.length_range, List.length_cons, Nat.succ_mul, Nat.add_comm]
end Ms
namespace Ms
open PySem PySem.Spec PyProof.Rows L2
/-! ### the package's settings: is_int, is_name, is_setting, names_of, grid_of -/
structure TxtP (mg : Str → Option Value) (fI fN fS fA fG : Addr) : Prop where
  isi : mg "isinstance" = none
  int : mg "int" = none
  bool : mg "bool" = none
  str : mg "str" = none
  tuple : mg "tuple" = none
  len : mg "len" = none
  all : mg "all" = none
  range : mg "range" = none
  enumerate : mg "enumerate" = none
  mS : ∃ t, mg "MOST_SETTINGS" = some (.int 3 t)
  mV : ∃ t, mg "MOST_VALUE" = some (.int 3 t)
  mT : ∃ t, mg "MOST_STANDINGS" = some (.int 12 t)
  lN : ∃ t, mg "LONGEST_NAME" = some (.int 8 t)
  gI : mg "is_int" = some (.ref fI)
  gN : mg "is_name" = some (.ref fN)
  gS : mg "is_setting" = some (.ref fS)
  gA : mg "names_of" = some (.ref fA)
  gG : mg "grid_of" = some (.ref fG)
def isInt (d : PyData) : Bool := match d with | .int _ => true | _ => false
section
variable {P : Program} {w : World} {K : PySem.W.Frag} {mg : Str → Option Value} {base : Heap} {fI fN fS fA fG : Addr}
theorem scPi : FnScope ["thing"] ["thing"] (defScope sPInt) := ⟨rfl, rfl, rfl, by decide +kernel, rfl, by decide +kernel, by decide +kernel⟩
def spPInt (K : PySem.W.Frag) : Sp := fun vs H Q _ => ∃ (m l : Addr) (v : V) (d : PyData), vs = [v] ∧ Dq K H m l v d ∧ Q (.bl (isInt d)) H
theorem ok_pint {f : Addr} {fd : FuncData} (F : Fun K "is_int" "is_int" sPInt f fd) (T : TxtP mg fI fN fS fA fG) : FnOk P w K mg base CX0 1 f fd ["thing"] (spPInt K) := by
  refine F.ok scPi (fun vs H Q E h => ?_) (fun cdv A outer s H vs Q E hr h => ?_)
  · obtain ⟨m, l, v, d, rfl, _⟩ := h
    rfl
  · obtain ⟨m, l, v, d, rfl, hd, q⟩ := h
    refine ⟨_, pss_one (ps_ret (pe_and (pe_callB call_isi (by rfl) T.isi PyProof.Rows.boot_isinstance (pa_cons (pv 0) (pa_cons (pe_bltn (v := .ty "int") (u := .type "int") (by rfl) T.int (by decide +kernel) rfl) pa_nil)))
      (pe_one (pe_not (pe_callB call_isi (by rfl) T.isi PyProof.Rows.boot_isinstance (pa_cons (pv 0) (pa_cons (pe_bltn (v := .ty "bool") (u := .type "bool") (by rfl) T.bool (by decide +kernel) rfl) pa_nil))))))), ?_⟩
    refine ⟨_, rfl, v, .ty "int", _, _, _, rfl, .ty _, hd.ty, isi_int K d, _, rfl, ?_⟩
    cases d with
    | int j =>
      cases hd
      exact ifT rfl ⟨_, rfl, .int j, .ty "bool", _, _, _, rfl, .ty _, .base (.int j), isi_bool K (.int j), _, rfl, q⟩
    | bool j =>
      cases hd
      exact ifT rfl ⟨_, rfl, .bl j, .ty "bool", _, _, _, rfl, .ty _, .base (.bl j), isi_bool K (.bool j), _, rfl, q⟩
    | _ => exact ifF rfl q
def lowB (c : Nat) : Bool := decide (97 ≤ c) && decide (c ≤ 122)
theorem lowB_alpha (c : Nat) : decide (c ∈ alpha.cps.toList) = lowB c := by
  rw [alpha_list, Bool.eq_iff_iff]
  simp only [decide_eq_true_eq, lowB, Bool.and_eq_true, List.mem_cons, List.mem_nil_iff, or_false]
  omega
theorem low_alpha : ∀ c, c < 128 → lowB c = true → Unicode.isAlpha c = true := by decide +kernel
theorem low_lower : ∀ c, c < 128 → lowB c = true → Unicode.isLower c = true := by decide +kernel
theorem low_upper : ∀ c, c < 128 → lowB c = true → (Unicode.isUpper c || Unicode.isTitle c) = false := by decide +kernel
theorem alpha_low : ∀ c, c < 128 → Unicode.isAlpha c = true → (Unicode.isUpper c || Unicode.isTitle c) = false → lowB c = true := by decide +kernel
theorem low_all (z : Str) : (Txt.isascii z && (Txt.isalpha z && Txt.islower z)) = (decide (1 ≤ z.length) && z.cps.toList.all lowB) := by
  have e1 : Txt.isascii z = z.cps.toList.all (fun c => decide (c < 128)) := by unfold Txt.isascii; rw [← Array.all_toList]
  have e2 : Txt.isalpha z = (decide (1 ≤ z.length) && z.cps.toList.all Unicode.isAlpha) := by unfold Txt.isalpha; rw [← Array.all_toList]; rfl
  have e3 : Txt.islower z = (z.cps.toList.any Unicode.isLower && !z.cps.toList.any fun c => Unicode.isUpper c || Unicode.isTitle c) := by unfold Txt.islower; rw [← Array.any_toList, ← Array.any_toList]
  have ln : z.length = z.cps.toList.length := by rw [Array.length_toList]; rfl
  rw [e1, e2, e3, ln]
  generalize z.cps.toList = l
  rw [Bool.eq_iff_iff]
  constructor
  · intro h
    simp only [Bool.and_eq_true, List.all_eq_true, Bool.not_eq_true', decide_eq_true_eq] at h ⊢
    obtain ⟨ha, ⟨h1, hb⟩, _, hu⟩ := h
    refine ⟨h1, fun c hc => alpha_low c (ha c hc) (hb c hc) ?_⟩
    cases hx : (Unicode.isUpper c || Unicode.isTitle c) with
    | false => rfl
    | true =>
      have : (l.any fun c => Unicode.isUpper c || Unicode.isTitle c) = true := List.any_eq_true.mpr ⟨c, hc, hx⟩
      rw [this] at hu
      cases hu
  · intro h
    simp only [Bool.and_eq_true, List.all_eq_true, Bool.not_eq_true', decide_eq_true_eq] at h ⊢
    obtain ⟨h1, hl⟩ := h
    have lt : ∀ c ∈ l, c < 128 := fun c hc => by
      have := hl c hc
      simp only [lowB, Bool.and_eq_true, decide_eq_true_eq] at this
      omega
    refine ⟨lt, ⟨h1, fun c hc => low_alpha c (lt c hc) (hl c hc)⟩, ?_, ?_⟩
    · match l, h1 with
      | c :: r, _ => exact List.any_eq_true.mpr ⟨c, List.mem_cons_self, low_lower c (lt c List.mem_cons_self) (hl c List.mem_cons_self)⟩
    · rw [List.any_eq_false]
      intro c hc
      rw [low_upper c (lt c hc) (hl c hc)]
      decide
abbrev NPn : List Str := ["thing"]
theorem scPn : FnScope NPn ["thing"] (defScope sPName) := ⟨rfl, rfl, rfl, by decide +kernel, rfl, by decide +kernel, by decide +kernel⟩
theorem ok_pname {f : Addr} {fd : FuncData} (F : Fun K "is_name" "is_name" sPName f fd) (T : TxtP mg fI fN fS fA fG) : FnOk P w K mg base CX0 1 f fd ["thing"] (spName K) := by
  refine F.ok scPn (fun vs H Q E h => ?_) (fun cdv A outer s H vs Q E hr h => ?_)
  · obtain ⟨m, l, v, d, rfl, _⟩ := h
    rfl
  · obtain ⟨m, l, v, d, rfl, hd, hz, q⟩ := h
    obtain ⟨tl, gl⟩ := T.lN
    refine ⟨_, pss_cons (ps_if (PW.pt (pw_or (pt_not (pt_val (pe_callB call_isi (by rfl) T.isi PyProof.Rows.boot_isinstance (pa_cons (pv 0) (pa_cons (pe_bltn (v := .ty "str") (u := .type "str") (by rfl) T.str (by decide +kernel) rfl) pa_nil)))))
        (pw_or1 (pt_cmpR op_gt (pe_callB call_len (by rfl) T.len PySem.boot_len (pa_cons (pv 0) pa_nil)) (pe_glob (v := .int 8) rfl gl ⟨_, rfl⟩) (nomark _))))) (pss_one (ps_ret pe_bl)) pss_nil)
      (pss_one (ps_ret (pe_and (pe_m0 PySem.F.slot_str_isascii PySem.F.type_str_isascii mt_isascii (pv 0)) (pe_and (pe_m0 PySem.F.slot_str_isalpha PySem.F.type_str_isalpha mt_isalpha (pv 0)) (pe_one (pe_m0 PySem.F.slot_str_islower PySem.F.type_str_islower mt_islower (pv 0))))))), ?_⟩
    refine ⟨_, rfl, v, .ty "str", _, _, _, rfl, .ty _, hd.ty, isi_str K d, _, rfl, ?_⟩
    cases d with
    | str z =>
      cases hd
      have zk := hz z rfl
      have zs : z.length ≤ sizeLine := by rw [sizeLine_eq]; have := zk.1; omega
      have en : isName (.str z) = (decide (z.length ≤ 8) && (Txt.isascii z && (Txt.isalpha z && Txt.islower z))) := by
        rw [low_all]
        show ((decide (1 ≤ z.length) && decide (z.length ≤ 8)) && z.cps.toList.all fun c => decide (c ∈ alpha.cps.toList)) = _
        have ef : (fun c => decide (c ∈ alpha.cps.toList)) = lowB := funext lowB_alpha
        rw [ef]
        cases decide (1 ≤ z.length) <;> cases decide (z.length ≤ 8) <;> rfl
      refine ifF rfl ?_
      refine ⟨_, rfl, .str z, z.length, rfl, ⟨zs, rfl⟩, (z.length : Int), 8, rfl, rfl, _, rfl, ite_b (fun e8 => ?_) (fun e8 => ?_)⟩
      · have : decide (z.length ≤ 8) = false := by
          have := of_decide_eq_true e8
          exact decide_eq_false (by omega)
        rw [en, this] at q
        exact q H (fun _ _ e => e)
      · have : decide (z.length ≤ 8) = true := by
          have := of_decide_eq_false e8
          exact decide_eq_true (by omega)
        rw [en, this, Bool.true_and] at q
        refine ⟨_, rfl, ⟨_, rfl⟩, z, rfl, rfl, trivial, _, rfl, ite_b (fun ea => ?_) (fun ea => ?_)⟩
        · rw [ea, Bool.true_and] at q
          refine ⟨_, rfl, ⟨_, rfl⟩, z, rfl, rfl, trivial, _, rfl, ite_b (fun eb => ?_) (fun eb => ?_)⟩
          · rw [eb, Bool.true_and] at q
            exact ⟨_, rfl, ⟨_, rfl⟩, z, rfl, rfl, trivial, q H (fun _ _ e => e)⟩
          · rw [eb] at q
            exact q H (fun _ _ e => e)
        · rw [ea] at q
          exact q H (fun _ _ e => e)
    | _ => exact ifT rfl (ifT rfl (q H (fun _ _ e => e)))
/-! is_setting -/
abbrev NPs : List Str := ["thing", "name", "most"]
theorem scPs : FnScope NPs ["thing"] (defScope sPSet) := ⟨rfl, rfl, rfl, by decide +kernel, rfl, by decide +kernel, by decide +kernel⟩
theorem isWhole_int (d : PyData) (lo hi : Int) (h : isInt d = false) : isWhole d lo hi = false := by cases d <;> first | rfl | cases h
def spPSet (K : PySem.W.Frag) : Sp := fun vs H Q _ => ∃ (m l : Addr) (v : V) (d : PyData) (B b : Nat), vs = [v] ∧ Dq K H m l v d ∧ Gd B 100000 b d ∧ ∀ H', Same H H' → Q (.bl (oneD d).isSome) H'
theorem ok_pset {f : Addr} {fd fdI fdN : FuncData} (F : Fun K "is_setting" "is_setting" sPSet f fd) (T : TxtP mg fI fN fS fA fG) (FI : Fun K "is_int" "is_int" sPInt fI fdI) (bI : Binds K fdI ["thing"] [])
    (FN : Fun K "is_name" "is_name" sPName fN fdN) (bN : Binds K fdN ["thing"] []) : FnOk P w K mg base CX0 2 f fd ["thing"] (spPSet K) := by
  have GI : FnOk P w K mg base CX0 1 fI fdI ["thing"] (spPInt K) := ok_pint FI T
  have GN : FnOk P w K mg base CX0 1 fN fdN ["thing"] (spName K) := ok_pname FN T
  refine F.ok scPs (fun vs H Q E h => ?_) (fun cdv A outer s H vs Q E hr h => ?_)
  · obtain ⟨m, l, v, d, B, b, rfl, _⟩ := h
    rfl
  · obtain ⟨m, l, v, d, B, b, rfl, hd, gd, q⟩ := h
    obtain ⟨tv, gv⟩ := T.mV
    refine ⟨_, pss_cons (ps_if (PW.pt (pw_or (pt_not (pt_val (pe_callB call_isi (by rfl) T.isi PyProof.Rows.boot_isinstance (pa_cons (pv 0) (pa_cons (pe_bltn (v := .ty "tuple") (u := .type "tuple") (by rfl) T.tuple (by decide +kernel) rfl) pa_nil)))))
        (pw_or1 (pt_cmpR op_ne (pe_callB call_len (by rfl) T.len PySem.boot_len (pa_cons (pv 0) pa_nil)) pe_int (nomark _))))) (pss_one (ps_ret pe_bl)) pss_nil)
      (pss_cons (ps_asg (pv 0) (pg_tup rfl (pgs_cons (pg_name (i := 1) scPs.nd rfl (Or.inl rfl)) (pgs_cons (pg_name (i := 2) scPs.nd rfl (Or.inl rfl)) pgs_nil))))
      (pss_one (ps_ret (pe_and (pe_call GN hr rfl T.gN FN.kp bN .nil pass0 (pa_cons (pv 1) pa_nil)) (pe_and (pe_call GI hr rfl T.gI FI.kp bI .nil pass0 (pa_cons (pv 2) pa_nil)) (pe_one (pe_chain op_le op_le pe_int (pv 2) (pe_glob (v := .int 3) rfl gv ⟨_, rfl⟩)))))))), ?_⟩
    refine ⟨_, rfl, v, .ty "tuple", _, _, _, rfl, .ty _, hd.ty, isi_tup K d, _, rfl, ?_⟩
    cases d with
    | tuple es =>
      cases hd with
      | tup hq hy =>
        rename_i a ys
        have ly := hy.len
        refine ifF rfl ⟨_, rfl, .ref a, ys.length, rfl, .inr ⟨ys, hq, rfl⟩, rfl, _, rfl, ite_b (fun e => ?_) (fun e => ?_)⟩
        · have : oneD (.tuple es) = none := oneD_len (fun z => by
            rw [ly, z] at e
            exact absurd e (by decide))
          rw [this] at q
          exact q H (Same.refl H)
        have l2 : ys.length = 2 := by
          have q1 : decide (V.int ((ys.length : Nat) : Int) = V.int 2) = true := by simpa using e
          have q2 := of_decide_eq_true q1
          have q3 : ((ys.length : Nat) : Int) = 2 := by injection q2
          omega
        obtain ⟨y0, y1, rfl⟩ : ∃ y0 y1, ys = [y0, y1] := by
          match ys, l2 with
          | [y0, y1], _ => exact ⟨y0, y1, rfl⟩
        obtain ⟨d0, d1, rfl⟩ : ∃ d0 d1, es = [d0, d1] := by
          match es, ly with
          | [d0, d1], _ => exact ⟨d0, d1, rfl⟩
        obtain ⟨q0, q1⟩ : Dq K H m l y0 d0 ∧ Dq K H m l y1 d1 := by
          cases hy with
          | cons h0 h1 => cases h1 with | cons h1 _ => exact ⟨h0, h1⟩
        obtain ⟨c2, eb2, g2⟩ := Gd.untup gd
        have w0 : ∀ z, d0 = .str z → sOk 100000 z := fun z ez => by
          have gz := g2.at (i := 0) (d := d0) rfl
          rw [ez] at gz
          have ww := g2.wt
          refine gz.unstr.mono ?_
          rw [ez] at ww
          simp only [PyData.weightAll, PyData.weight] at ww ⊢
          omega
        refine ⟨_, rfl, a, _, rfl, hq, rfl, _, _, rfl, _, _, rfl, rfl, ?_⟩
        refine ⟨_, rfl, m, l, y0, d0, rfl, q0, w0, fun H3 s3 => ⟨_, rfl, ite_b (fun e => ?_) (fun e => ?_)⟩⟩
        · have hn : isName d0 = true := e
          refine ⟨_, rfl, m, l, y1, d1, rfl, Dq.same s3 d1 y1 q1, _, rfl, ite_b (fun e => ?_) (fun e => ?_)⟩
          · obtain ⟨j, rfl⟩ : ∃ j, d1 = .int j := by
              cases d1 <;> first | exact ⟨_, rfl⟩ | cases e
            cases q1
            refine ⟨_, rfl, 1, j, rfl, rfl, _, rfl, ite_b (fun e => ⟨j, 3, rfl, rfl, ?_⟩) (fun e => ?_)⟩
            · have ew : (oneD (.tuple [d0, .int j])).isSome = decide (j ≤ 3) := by
                cases hw : isWhole (.int j) 1 3 with
                | true =>
                  obtain ⟨z, c, _, ec, c1, c3, eo⟩ := oneD_ok hn hw
                  cases ec
                  rw [eo]; simp [c3]
                | false =>
                  rw [oneD_whole hw]
                  have z : (decide (1 ≤ j) && decide (j ≤ 3)) = false := hw
                  rw [e, Bool.true_and] at z
                  rw [z]; rfl
              rw [ew] at q
              exact q _ s3
            · have hw : isWhole (.int j) 1 3 = false := by show (decide (1 ≤ j) && decide (j ≤ 3)) = false; rw [e]; rfl
              rw [oneD_whole hw] at q
              exact q _ s3
          · rw [oneD_whole (isWhole_int d1 1 3 e)] at q
            exact q _ s3
        · rw [oneD_name e] at q
          exact q _ s3
    | _ => exact ifT rfl (q H (Same.refl H))
/-! names_of -/
abbrev NPa : List Str := ["settings", "name", "most"]
theorem scPa : FnScope NPa ["settings"] (defScope sPNames) := ⟨rfl, rfl, rfl, by decide +kernel, rfl, by decide +kernel, by decide +kernel⟩
def spPNames (K : PySem.W.Frag) : Sp := fun vs H Q _ => ∃ (a : Addr) (xs : List V) (qs : List (Str × Int)), vs = [.ref a] ∧ SqT K H a xs ∧ PrTs K H xs qs ∧ qs.length ≤ 900 ∧
  ∀ D, H D = none → ∀ H', Same H H' → H' D = some (.lst ((qs.map (·.1)).map V.str)) → Q (.ref D) H'
theorem ok_pnames {f : Addr} {fd : FuncData} (F : Fun K "names_of" "names_of" sPNames f fd) : FnOk P w K mg base CX0 1 f fd ["settings"] (spPNames K) := by
  refine F.ok scPa (fun vs H Q E h => ?_) (fun cdv A outer s H vs Q E hr h => ?_)
  · obtain ⟨a, xs, qs, rfl, _⟩ := h
    rfl
  · obtain ⟨a, xs, qs, rfl, hs, hp, hl, q⟩ := h
    refine ⟨_, pss_one (ps_ret (pe_lc (own := [("name", 1), ("most", 2)]) (g := gTup K 2 (gCons (gName 1) (gCons (gName 2) gNil))) (by rfl) scPa.nd (pi_tup (pv 0)) (blkOk_by (own := [("name", 1), ("most", 2)]) (N := NPa) (sc := defScope sPNames) (by decide +kernel))
        (fun _ _ _ _ _ => pg_tup rfl (pgs_cons (pg_name (i := 1) scPa.nd rfl (Or.inl rfl)) (pgs_cons (pg_name (i := 2) scPa.nd rfl (Or.inl rfl)) pgs_nil))) (fun _ _ _ _ _ => pts_nil) (fun _ _ _ _ _ => pv 1))), ?_⟩
    have ll := hp.len
    refine ⟨_, rfl, a, rfl, ⟨_, hs⟩, fun D hD => ?_⟩
    refine lc_it (walk_tup (xs := xs)) (fun i H3 => H3 = upd H D (.lst (((qs.take i).map (·.1)).map V.str))) rfl (fun i H3 _ e3 => by rw [e3]; exact Same.seqT (Same.upd hD) hs) ?_ ?_
    · rintro i x H3 H4 hi e3 ⟨rfl, hx⟩
      obtain ⟨qq, hq, b, rfl, hb⟩ := hp.get hx
      have hb3 : SqT K H4 b [.str qq.1, .int qq.2] := by rw [e3]; exact Same.seqT (Same.upd hD) hb
      have ti : qs.take (i + 1) = qs.take i ++ [qq] := by rw [List.take_succ, hq]; rfl
      refine ⟨b, _, rfl, hb3, rfl, _, _, rfl, _, _, rfl, rfl, rfl, tyes ⟨_, rfl, _, by rw [e3]; exact upd_same, small1000 (by rw [List.length_map, List.length_map, List.length_take]; omega), ?_⟩⟩
      show upd H4 D _ = _
      rw [e3, upd_upd, ti, List.map_append, List.map_append]
      rfl
    · rintro H3 e3
      rw [List.take_of_length_le (by omega)] at e3
      exact q D hD H3 (e3 ▸ Same.upd hD) (by rw [e3, upd_same])
/-! grid_of -/
abbrev NPg : List Str := ["settings", "rows", "name", "most", "row", "value"]
theorem scPg : FnScope NPg ["settings"] (defScope sPGrid) := ⟨rfl, rfl, rfl, by decide +kernel, rfl, by decide +kernel, by decide +kernel⟩
def spPGrid (K : PySem.W.Frag) : Sp := fun vs H Q _ => ∃ (a : Addr) (xs : List V) (qs : List (Str × Int)), vs = [.ref a] ∧ SqT K H a xs ∧ PrTs K H xs qs ∧ qs.length ≤ 3 ∧ (∀ q ∈ qs, 1 ≤ q.2 ∧ q.2 ≤ 3) ∧
  ∀ D as H', H D = none → Same H H' → H' D = some (.lst (as.map V.ref)) → Rws H' as (grid qs) → (∀ b ∈ as, H b = none) → Q (.ref D) H'
theorem fold_row {k : Nat} : ∀ (qs : List (Str × Int)) (rs : List (List Int)) (k : Nat), (∀ r ∈ rs, r.length = k) → ∀ r ∈ qs.foldl (fun rs q => widen rs (q.2 + 1).toNat) rs, r.length = k + qs.length
  | [], rs, k, h => fun r hr => h r hr
  | q :: qs, rs, k, h => fun r hr => by
    have z := fold_row (k := k) qs (widen rs (q.2 + 1).toNat) (k + 1) (fun r hr => by
      unfold widen at hr
      obtain ⟨y, hy, hr⟩ := List.mem_flatMap.mp hr
      obtain ⟨v, _, rfl⟩ := List.mem_map.mp hr
      rw [List.length_append, h y hy]; rfl) r hr
    rw [z, List.length_cons]; omega
theorem grid_row (qs : List (Str × Int)) : ∀ r ∈ grid qs, r.length = qs.length := fun r hr => by
  have z := fold_row (k := 0) qs [[]] 0 (fun r hr => by rw [List.mem_singleton.mp hr]; rfl) r hr
  rw [z]; omega
structure Acc (H0 H1 H : Hp) (D : Addr) (as : List Addr) (rs : List (List Int)) : Prop where
  rws : Rws H as rs
  far : ∀ b ∈ as, b ≠ D ∧ H0 b = none
  at_ : H D = some (.lst (as.map V.ref))
  same : Same H1 H
theorem Acc.more {H0 H1 H : Hp} {D p : Addr} {as : List Addr} {rs : List (List Int)} {r : List Int} (A : Acc H0 H1 H D as rs) (s : Same H0 H1) (hD : H1 D = none) (hp : H p = none) :
    Acc H0 H1 (upd (upd H p (.tup (r.map V.int))) D (.lst (as.map V.ref ++ [.ref p]))) D (as ++ [p]) (rs ++ [r]) := by
  have nD : p ≠ D := fun e => by rw [e, A.at_] at hp; cases hp
  have sp : Same H (upd H p (.tup (r.map V.int))) := Same.upd hp
  refine ⟨Rws.snoc (Rws.same (fun b o hb e => ?_) A.rws) ?_, fun b hb => ?_, ?_, fun b o e => ?_⟩
  · rw [upd_ne (A.far b hb).1]; exact sp _ _ e
  · rw [upd_ne nD, upd_same]
  · rcases List.mem_append.mp hb with hb | hb
    · exact A.far b hb
    · rw [List.mem_singleton.mp hb]
      exact ⟨nD, Same.free s (Same.free A.same hp)⟩
  · rw [upd_same, List.map_append]; rfl
  · have nb : b ≠ D := ne_of_none e hD
    rw [upd_ne nb]; exact sp _ _ (A.same _ _ e)
theorem widen_take {rs : List (List Int)} {n i : Nat} {r : List Int} (h : rs[i]? = some r) : widen (rs.take (i + 1)) n = widen (rs.take i) n ++ (List.range n).map fun (v : Nat) => r ++ [(v : Int)] := by
  unfold widen
  rw [List.take_succ, h, List.flatMap_append]
  simp
theorem range_more {n : Nat} {r : List Int} : ((List.range (n + 1)).map fun (v : Nat) => r ++ [(v : Int)]) = ((List.range n).map fun (v : Nat) => r ++ [(v : Int)]) ++ [r ++ [(n : Int)]] := by
  rw [List.range_succ, List.map_append]; rfl
theorem ok_pgrid {f : Addr} {fd : FuncData} (F : Fun K "grid_of" "grid_of" sPGrid f fd) (T : TxtP mg fI fN fS fA fG) : FnOk P w K mg base CX0 1 f fd ["settings"] (spPGrid K) := by
  refine F.ok scPg (fun vs H Q E h => ?_) (fun cdv A outer s H vs Q E hr h => ?_)
  · obtain ⟨a, xs, qs, rfl, _⟩ := h
    rfl
  · obtain ⟨a, xs, qs, rfl, hs, hp, hl, hb, q⟩ := h
    refine ⟨_, pss_cons (ps_set (i := 1) scPg.nd rfl (by first | exact Or.inl rfl | exact Or.inr rfl) (pe_lst (pa_cons (pe_tup pa_nil) pa_nil)))
      (pss_cons (ps_for PassesOwn.never rfl (pi_tup (pv 0)) (pg_tup rfl (pgs_cons (pg_name (i := 2) scPg.nd rfl (by first | exact Or.inl rfl | exact Or.inr rfl)) (pgs_cons (pg_name (i := 3) scPg.nd rfl (by first | exact Or.inl rfl | exact Or.inr rfl)) pgs_nil)))
        (pss_one (ps_setLc2 (i := 1) (own := [("row", 4), ("value", 5)]) (vs1 := [5]) (g := gName 4) (g1 := gName 5) (tt := tYes) (tt1 := tYes) (te := tTup (StX.tStar K (tVar 4) (tCons (tVar 5) tNil))) (by rfl) scPg.nd rfl rfl (sw_true rfl rfl rfl (by decide +kernel)) (pi_list (pv 1)) (blkOk_by (own := [("row", 4), ("value", 5)]) (N := NPg) (sc := defScope sPGrid) (by decide +kernel)) (by decide)
          (fun _ _ _ _ _ => pg_name (i := 4) scPg.nd rfl (by first | exact Or.inl rfl | exact Or.inr rfl)) (fun _ _ _ _ _ => pts_nil) (fun _ _ _ _ _ => pi_range1 (by rfl) T.range (pa_cons (pe_op op_add (pv 3) pe_int) pa_nil))
          (fun _ _ _ _ _ => pg_name (i := 5) scPg.nd rfl (by first | exact Or.inl rfl | exact Or.inr rfl)) (fun _ _ _ _ _ => pts_nil) (fun _ _ _ _ _ => pe_tup (StX.pa_star (pv 4) (pa_cons (pv 5) pa_nil))))))
      (pss_one (ps_ret (pv 1)))), ?_⟩
    have ll := hp.len
    refine ⟨Nat.zero_le _, fun p0 h0 => ⟨(by show 1 ≤ sizeLine; decide), fun R0 hR0 => ?_⟩⟩
    have s0 : Same H (upd H p0 (.tup [])) := Same.upd h0
    have s1 : Same H (upd (upd H p0 (.tup [])) R0 (.lst [.ref p0])) := s0.trans (Same.upd hR0)
    have nR0 : p0 ≠ R0 := fun e => by rw [← e, upd_same] at hR0; cases hR0
    refine ⟨_, rfl, a, rfl, ⟨_, Same.seqT s1 hs⟩, ?_⟩
    have tk1 : ∀ {i : Nat} {qq : Str × Int}, qs[i]? = some qq → grid (qs.take (i + 1)) = widen (grid (qs.take i)) (qq.2 + 1).toNat := fun {i qq} hq => by
      unfold grid
      rw [List.take_succ, hq, List.foldl_append]
      rfl
    refine for_it (walk_tup (xs := xs)) (fun i σ H2 => ∃ (R : Addr) (as : List Addr) (v2 v3 : Option V), σ = [some (.ref a), some (.ref R), v2, v3, none, none] ∧ Same H H2 ∧ H R = none ∧ H2 R = some (.lst (as.map V.ref)) ∧ Rws H2 as (grid (qs.take i)) ∧ (∀ b ∈ as, H b = none) ∧ as.length ≤ 4 ^ i)
      ⟨R0, [p0], none, none, rfl, s1, Same.free s0 hR0, upd_same, ?_, ?_, Nat.le_refl _⟩ (fun i σ H2 _ ⟨R, as, v2, v3, _, s2, _⟩ => Same.seqT s2 hs) ?_ ?_
    · rw [List.take_zero]
      refine .cons ?_ .nil
      rw [upd_ne nR0, upd_same]; rfl
    · intro b hb
      rw [List.mem_singleton.mp hb]; exact h0
    · rintro i x σ H2 H3 hi ⟨R, as, v2, v3, rfl, s2, hR, gR, rw2, far, al⟩ ⟨rfl, hx⟩
      obtain ⟨qq, hq, b, rfl, hb2⟩ := hp.get hx
      have hqb := hb qq (List.mem_of_getElem? hq)
      have i3 : i < 3 := by omega
      have a16 : as.length ≤ 16 := Nat.le_trans al (by
        match i, i3 with
        | 0, _ => decide
        | 1, _ => decide
        | 2, _ => decide)
      have rl := rw2.length
      obtain ⟨rs, ers⟩ : ∃ rs, rs = grid (qs.take i) := ⟨_, rfl⟩
      rw [← ers] at rw2 rl
      obtain ⟨n, en⟩ : ∃ n : Nat, n = (qq.2 + 1).toNat := ⟨_, rfl⟩
      have n4 : n ≤ 4 := by omega
      refine ⟨b, _, rfl, Same.seqT s2 hb2, rfl, _, _, rfl, _, _, rfl, rfl, ?_⟩
      refine ⟨_, rfl, R, rfl, ⟨_, SqL.of gR⟩, fun D hD => ?_⟩
      have sD : Same H3 (upd H3 D (.lst [])) := Same.upd hD
      refine lc2_it (walk_list (xs := as.map V.ref)) (fun k H4 => ∃ as', Acc H H3 H4 D as' (widen (rs.take k) n)) ⟨[], .nil, (fun b hb => nomatch hb), upd_same, sD⟩ (fun k H4 _ ⟨as', A⟩ => SqL.of (A.same _ _ gR)) ?_ ?_
      · rintro k x H4 H5 hk ⟨as', A⟩ ⟨rfl, hxk⟩
        have hk' : k < as.length := by rw [List.length_map] at hk; exact hk
        obtain ⟨bk, hbk⟩ : ∃ bk, as[k]? = some bk := ⟨_, List.getElem?_eq_getElem hk'⟩
        have ex : x = .ref bk := by
          rw [List.getElem?_map, hbk] at hxk
          exact (Option.some.inj hxk).symm
        subst ex
        obtain ⟨r, hr2, gk⟩ := rw2.get hbk
        refine ⟨rfl, tyes ⟨_, rfl, _, _, rfl, rfl, qq.2 + 1, rfl, by omega, by omega, ?_⟩⟩
        rw [← en]
        refine lc_in walk_range (fun j H6 => ∃ as2, Acc H H3 H6 D as2 (widen (rs.take k) n ++ (List.range j).map fun (v : Nat) => r ++ [(v : Int)])) ⟨as', by simpa using A⟩ (fun _ _ _ _ => True.intro) ?_ ?_
        · rintro j y H6 H7 hj ⟨as2, A2⟩ ⟨rfl, ey⟩
          have ey' : y = .int (j : Int) := ey.trans (congrArg V.int (by omega))
          subst ey'
          have rlen : r.length ≤ 900 := by
            have z := grid_row (qs.take i) r (ers ▸ List.mem_of_getElem? hr2)
            rw [z, List.length_take]; omega
          have al2 : as2.length ≤ 100 := by
            rw [A2.rws.length, List.length_append, List.length_map, List.length_range, widen_len]
            have h1 : (rs.take k).length ≤ 16 := by rw [List.length_take]; omega
            have h2 := Nat.mul_le_mul h1 n4
            omega
          refine ⟨rfl, tyes ⟨_, rfl, bk, _, rfl, .inl (.inl (.inl (A2.same _ _ gk))), _, rfl, ?_, fun p hp7 => ?_⟩⟩
          · rw [List.length_append, List.length_map, List.length_singleton]
            exact Nat.le_of_lt (small1000 (by omega))
          have nD : D ≠ p := ne_of_none A2.at_ hp7
          have er : (r.map V.int ++ [.int (j : Int)] : List V) = (r ++ [(j : Int)]).map V.int := by rw [List.map_append]; rfl
          rw [er]
          refine ⟨_, by rw [upd_ne nD]; exact A2.at_, small1000 (by rw [List.length_map]; omega), as2 ++ [p], ?_⟩
          rw [range_more, ← List.append_assoc]
          exact A2.more s2 hD hp7
        · rintro H6 ⟨as2, A2⟩
          rw [← widen_take hr2] at A2
          exact ⟨as2, A2⟩
      · rintro H4 ⟨as', A⟩
        rw [List.length_map, List.take_of_length_le (by omega)] at A
        have l1 := A.rws.length
        refine ⟨D, as', _, _, rfl, s2.trans A.same, Same.free s2 hD, A.at_, ?_, fun b hb => (A.far b hb).2, ?_⟩
        · rw [tk1 hq, ← ers, ← en]; exact A.rws
        · rw [l1, widen_len, Nat.pow_succ, ← rl]
          exact Nat.mul_le_mul al n4
    · rintro σ H2 ⟨R, as, v2, v3, rfl, s2, hR, gR, rw2, far, al⟩
      rw [List.take_of_length_le (by omega)] at rw2
      exact ⟨_, rfl, q R as H2 hR s2 gR rw2 far⟩
end
end Ms
namespace Ms
open PySem PySem.Spec PyProof.Rows L2 LamX
/-! ### a law's own def that makes lambdas: its table of code objects is told -/
section
variable {P : Program} {w : World} {K : PySem.W.Frag} {mg : Str → Option Value} {base : Heap}
/-- as run_known, and the code object is told -/
theorem run_code {x qual : Str} {st : Stmt} {f : Addr} {fd : FuncData} {N ps : List Str} {k : Nat} (F : Fun K x qual st f fd) (S : FnScope N ps (defScope st))
    {A : Around} {outer : List Env} {s : Shared} {H : Hp} {args : Args} {us : List Value} {vs : List V} {Q : VK} {E : XK}
    (gA : A.guards = some []) (rm : Room (k + 1) A) (st0 : Env0 P w K mg base A outer s H) (bd : BindsTo s fd args (ps.zip us)) (rel : Vals vs us) (ln : vs.length = ps.length)
    (walk : ∀ cdv : Value, fd.code = cdv → Room k (A.deeper (envOfC qual (defScope st) s.heap.objs.size f cdv)) →
      ∃ t, PSs (cxOf CX0 P w K mg base N qual (defScope st) f cdv A outer s H E).nox (defBody st) t ∧ t { nx := fun _ H' => Q .non H', rt := Q } (start N vs) H) :
    codeAny (model P w) A (.call (.ref f) args) (CR CX0 outer P w H s Q E) s := by
  obtain ⟨oc, od, kV, doc, pm, an, cdv0, ct, osl, efd, atK, code⟩ := F.ex
  have ec : fd.code = cdv0 := by rw [efd]
  subst efd
  have inH : K.In s.heap := st0.mod.kin.keeps fun b o q => (st0.bs b o q).1
  have noLim : s.heap.NoLimit := st0.mod.nolimit.keeps fun b o q => (st0.bs b o q).1
  have kinds : ∀ y ∈ ps.zip us, (defScope st).names.lookup y.1 = some .local ∨ ((defScope st).names.lookup y.1 = some .cell ∧ ((cellsFrom (s.heap.objs.size + 1) (defScope st).names []).lookup y.1).isSome = true) := by
    rintro ⟨n, v⟩ hy
    rcases S.par n (List.of_mem_zip hy).1 with z | z
    · exact Or.inl z
    · exact Or.inr ⟨z, PySem.W.cellsFrom_some _ _ _ (.inl z)⟩
  refine codeAny_call_function rm.depth (inH _ _ atK) rfl S.co S.gen rfl (PySem.W.codeRec_of inH code) (bd _ _ _ _ ?_)
  refine wpAny_newFunctionEnv_cells S.kind kinds fun env eq s1 inC => ?_
  subst eq
  refine And.intro (noLim.keeps inC.toInCall.keep) (codeAny_func ?_)
  obtain ⟨t, derives, reads⟩ := walk cdv0 ec (rm.deeper _)
  have I := inv_start (CX := CX0) (P := P) (mg := mg) (base := base) (E := E) S rm.hd st0 ln rel inC
  refine wpAny_mono (derives.nox.run [] s1 (start N vs) H _ I reads) (fun fl s' hs => ?_) fun e s' hs => hs
  cases fl with
  | ret u =>
    obtain ⟨v, σ', H', J, rv, q⟩ := hs
    exact ⟨v, H', J.os, J.bare, J.base, J.hok, rv, q⟩
  | next =>
    obtain ⟨σ', H', J, q⟩ := hs
    exact ⟨V.non, H', J.os, J.bare, J.base, J.hok, rfl, q⟩
  | brk => obtain ⟨_, _, _, q⟩ := hs; exact q.elim
  | cont => obtain ⟨_, _, _, q⟩ := hs; exact q.elim

/-- as LawRun; c the law's code object, T its table, empty as yet -/
def LawRunT (P : Program) (w : World) (K : PySem.W.Frag) (mg : Str → Option Value) (fa c T : Addr) : Prop :=
  ∀ (base : Heap) (H : Hp) (s : Shared) (a : Addr) (ns : List Int), K.In base → base.Ns mainGlobals mg → TabB base mg c T → H T = some (.tbl #[]) → SqL K H a (ns.map V.int) → ns.length ≤ 63 → Env0 P w K mg base callerA [] s H →
    codeAny (model P w) callerA (.call (.ref fa) ⟨[.ref a], []⟩) (CR CX0 [] P w H s (fun v _ => v = .bl true) fun _ _ _ => False) s
/-- the script and the table stand alone in the heap that is told -/
structure AloneT (H : Hp) (h : Heap) (K : PySem.W.Frag) (a T : Addr) : Prop where
  only : ∀ b, H b = none ∨ b = T ∨ ∃ ob xs, H b = some (.frz ob (.lst xs))
  here : ∀ b, H b ≠ none → b = a ∨ b = T
  off : H a ≠ none → K.lookup a = none
  offT : K.lookup T = none
  tab : h.get? T = some { cls := .none, data := .fields #[] }
  told : H T = some (.tbl #[])
section
variable {H : Hp} {h : Heap} {a c T : Addr} {vs : Array Value}
theorem AloneT.hidden (x : AloneT H h K a T) (ea : h.get? a = some { cls := .type "list", data := .seq vs }) {b : Addr} {o : Obj} (e : h.get? b = some o) (d1 : o.data ≠ .seq vs) (d2 : o.data ≠ .fields #[]) : H b = none := by
  cases q : H b with
  | none => rfl
  | some u =>
    rcases x.here b (by rw [q]; exact fun z => nomatch z) with z | z
    · subst z
      rw [ea] at e
      cases e
      exact absurd rfl d1
    · subst z
      rw [x.tab] at e
      cases e
      exact absurd rfl d2
theorem AloneT.get (x : AloneT H h K a T) (ea : h.get? a = some { cls := .type "list", data := .seq vs }) {b : Addr} {o : Obj} (e : h.get? b = some o) (d1 : o.data ≠ .seq vs) (d2 : o.data ≠ .fields #[]) : (hidT h H).get? b = some o := hidT_get e (x.hidden ea e d1 d2)
theorem AloneT.ns (x : AloneT H h K a T) (ea : h.get? a = some { cls := .type "list", data := .seq vs }) {b : Addr} {m : Str → Option Value} (n : h.Ns b m) : (hidT h H).Ns b m := by
  obtain ⟨o, es, ep, e, d, r⟩ := n
  refine ⟨o, es, ep, x.get ea e ?_ ?_, d, r⟩ <;> (rw [d]; intro z; cases z)
theorem AloneT.kin (x : AloneT H h K a T) (X : K.In h) : K.In (hidT h H) := fun b o e => by
  refine hidT_get (X b o e) ?_
  cases q : H b with
  | none => rfl
  | some u =>
    rcases x.here b (by rw [q]; exact fun z => nomatch z) with z | z
    · subst z
      rw [x.off (by rw [q]; exact fun z => nomatch z)] at e
      cases e
    · subst z
      rw [x.offT] at e
      cases e
theorem AloneT.hd (x : AloneT H h K a T) (ea : h.get? a = some { cls := .type "list", data := .seq vs }) (C : PySem.W.CodeHd h c T) : PySem.W.CodeHd (hidT h H) c T := by
  obtain ⟨o, us, f, tf, g, tg, inF, n, tt, e, r1, r2, r3, r⟩ := C
  refine ⟨o, us, f, tf, g, tg, inF, n, tt, x.get ea e ?_ ?_, r1, r2, r3, r⟩
  · rw [r2]; intro z; cases z
  · intro z
    rw [r2] at z
    cases z
    simp at r3
end
theorem law_told {fa a c T : Addr} {s : Shared} {vs : List Value} {ns : List Int} {mb : Str → Option Value} {H : Hp} (R : LawRunT P w K mg fa c T) (al : AloneT H s.heap K a T)
    (X : K.In s.heap) (g : s.heap.Ns mainGlobals mg) (b : s.heap.Ns builtinsNs mb) (bb : ∀ x : Str, x ≠ "__name__" → mb x = bootBuiltins x) (lim : s.heap.NoLimit) (gs : s.gens = #[]) (C : PySem.W.CodeHd s.heap c T)
    (bm : ∃ (bm : Addr) (ob : Obj), mg "__builtins__" = some (.ref bm) ∧ bm ≠ builtinsNs ∧ s.heap.get? bm = some ob ∧ ob.cls = .type "module" ∧ ob.dict = some builtinsNs ∧ ob.data = .plain)
    (ea : s.heap.get? a = some { cls := .type "list", data := .seq vs.toArray }) (hS : SqL K H a (ns.map V.int)) (hl : ns.length ≤ 63) (ok : HOk P w H s.heap) :
    codeAny (model P w) callerA (.call (.ref fa) ⟨[.ref a], []⟩) (fun r s' => r = .ok (.ret (.bool true)) ∧ OldK s.heap s'.heap ∧ s'.os = s.os ∧ AllBare s'.gens) s := by
  have gT : mainGlobals ≠ T := fun z => by
    obtain ⟨o, es, ep, e, d, _⟩ := g
    rw [z, al.tab] at e
    cases e
    cases d
  have M : L2.Mod K mg (hidT s.heap H) := by
    refine ⟨al.kin X, al.ns ea g, ⟨mb, al.ns ea b, bb⟩, ?_⟩
    obtain ⟨mc, l1, l2⟩ := lim
    exact ⟨mc, al.ns ea l1, l2⟩
  have TB : TabB (hidT s.heap H) mg c T := by
    refine ⟨al.hd ea C, ?_, gT⟩
    obtain ⟨q, ob, b1, b2, b3, b4, b5, b6⟩ := bm
    have nG : q ≠ mainGlobals := fun z => by
      obtain ⟨o, es, ep, e, d, _⟩ := g
      rw [z, e] at b3
      cases b3
      rw [d] at b6
      cases b6
    have nT : q ≠ T := fun z => by
      rw [z, al.tab] at b3
      cases b3
      cases b6
    refine ⟨q, ob, b1, b2, nG, nT, al.get ea b3 ?_ ?_, b4, b5, b6⟩ <;> (rw [b6]; intro z; cases z)
  have st0 : Env0 P w K mg (hidT s.heap H) callerA [] s H := by
    refine ⟨rfl, M, fun b o e => of_hidT e, Nat.le_of_eq (hidT_size _ _), trivial, fun b hb => ?_, ok, AllBare.of_eq gs⟩
    cases (show b ∈ ([] : List Addr) from hb)
  refine codeAny_mono (R _ H s a ns M.kin M.glob TB al.told hS hl st0) fun r s' q => ?_
  match r, q with
  | .error e, q => exact False.elim q
  | .ok (.next), q => exact False.elim q
  | .ok (.brk), q => exact False.elim q
  | .ok (.cont), q => exact False.elim q
  | .ok (.ret u), q =>
    obtain ⟨v, H', eos, bare, un, ok', rv, qv⟩ := q
    have qv' : v = .bl true := qv
    subst qv'
    obtain rfl : u = Value.bool true := rv
    obtain ⟨more, hm⟩ := un.tbls T #[] al.told
    have eT : s'.heap.get? T = some { cls := .none, data := .fields (#[] ++ more) } := ok' T _ hm
    have other : ∀ b o, b ≠ T → s.heap.get? b = some o → s'.heap.get? b = some o := fun b o nb e => by
      rcases al.only b with z | z | ⟨ob, xs, z⟩
      · exact un.keep b o e z (fun y => by cases (show b ∈ ([] : List Addr) from y)) (by simp)
      · exact absurd z nb
      · have h1 := (ok b _ z).1
        have h2 := (ok' b _ (un.frzs b ob _ z)).1
        rw [e] at h1
        cases h1
        exact h2
    refine And.intro rfl (And.intro ⟨fun b o e => ?_, fun b o e => ?_⟩ (And.intro eos bare))
    · by_cases hb : b = T
      · subst hb
        rw [al.tab] at e
        cases e
        exact .inr (.inl ⟨(C.tab al.tab).isCodeTable, rfl, #[], more, rfl, eT⟩)
      · exact .inl (other b o hb e)
    · by_cases hb : b = T
      · subst hb
        exact ⟨_, eT⟩
      · exact ⟨o, other b o hb e⟩
theorem law_tabled {fa a c T : Addr} {s : Shared} {vs : List Value} {ns : List Int} {mb : Str → Option Value} (R : LawRunT P w K mg fa c T)
    (X : K.In s.heap) (g : s.heap.Ns mainGlobals mg) (b : s.heap.Ns builtinsNs mb) (bb : ∀ x : Str, x ≠ "__name__" → mb x = bootBuiltins x) (lim : s.heap.NoLimit) (gs : s.gens = #[]) (C : PySem.W.CodeHd s.heap c T)
    (bm : ∃ (bm : Addr) (ob : Obj), mg "__builtins__" = some (.ref bm) ∧ bm ≠ builtinsNs ∧ s.heap.get? bm = some ob ∧ ob.cls = .type "module" ∧ ob.dict = some builtinsNs ∧ ob.data = .plain)
    (et : s.heap.get? T = some { cls := .none, data := .fields #[] }) (nt : K.lookup T = none)
    (ea : s.heap.get? a = some { cls := .type "list", data := .seq vs.toArray }) (hi : IntsAre vs ns) (hl : ns.length ≤ 63) :
    codeAny (model P w) callerA (.call (.ref fa) ⟨[.ref a], []⟩) (fun r s' => r = .ok (.ret (.bool true)) ∧ OldK s.heap s'.heap ∧ s'.os = s.os ∧ AllBare s'.gens) s := by
  have rel := vals_ints hi
  have ll := hi.length
  have hl2 : ns.length ≤ sizeLine := Nat.le_trans hl (by decide)
  have naT : a ≠ T := fun z => by
    rw [z, et] at ea
    cases ea
  cases lk : K.lookup a with
  | some o =>
    have e := X a o lk
    rw [ea] at e
    cases e
    let H0 : Hp := fun b => if b = T then some (.tbl #[]) else Option.none
    have hT : H0 T = some (.tbl #[]) := if_pos rfl
    have hN : ∀ b, b ≠ T → H0 b = none := fun b hb => if_neg hb
    refine law_told (H := H0) R ⟨fun b => ?_, fun b z => ?_, fun z => absurd (hN a naT) z, nt, et, hT⟩ X g b bb lim gs C bm ea ?_ hl (fun b u z => ?_)
    · by_cases hb : b = T
      · exact .inr (.inl hb)
      · exact .inl (hN b hb)
    · by_cases hb : b = T
      · exact .inr hb
      · exact absurd (hN b hb) z
    · refine .inr ⟨_, vs.toArray, _, lk, rfl, rfl, rfl, ?_, by simpa using rel⟩
      rw [List.size_toArray, ll]
      exact hl2
    · by_cases hb : b = T
      · subst hb
        rw [hT] at z
        cases z
        exact et
      · rw [hN b hb] at z
        cases z
  | none =>
    let o0 : HO := .frz { cls := .type "list", data := .seq vs.toArray } (.lst (ns.map V.int))
    let H0 : Hp := fun b => if b = a then some o0 else if b = T then some (.tbl #[]) else Option.none
    have hA : H0 a = some o0 := if_pos rfl
    have hT : H0 T = some (.tbl #[]) := (if_neg (Ne.symm naT)).trans (if_pos rfl)
    have hN : ∀ b, b ≠ a → b ≠ T → H0 b = none := fun b h1 h2 => (if_neg h1).trans (if_neg h2)
    refine law_told (H := H0) R ⟨fun b => ?_, fun b z => ?_, fun _ => lk, nt, et, hT⟩ X g b bb lim gs C bm ea (.inl (.inr ⟨_, hA⟩)) hl (fun b u z => ?_)
    · by_cases h1 : b = a
      · subst h1; exact .inr (.inr ⟨_, _, hA⟩)
      · by_cases hb : b = T
        · exact .inr (.inl hb)
        · exact .inl (hN b h1 hb)
    · by_cases h1 : b = a
      · exact .inl h1
      · by_cases hb : b = T
        · exact .inr hb
        · exact absurd (hN b h1 hb) z
    · by_cases h1 : b = a
      · subst h1
        rw [hA] at z
        cases z
        exact ⟨ea, by rw [List.length_map]; exact hl2, vs, _, rel, ea⟩
      · by_cases hb : b = T
        · subst hb
          rw [hT] at z
          cases z
          exact et
        · rw [hN b h1 hb] at z
          cases z
/-- the end of such a law's row -/
theorem walk_tabled {l : PySem.W.OpenLaw} {q : Program} {loose : List Str} {XP : (Str → Option Value) → Heap → Prop} {YP : World → Heap → Prop} {d : DefRec} {K : Params → PySem.W.Frag} {c T : Addr} (hn : l.most = some 63) (hdf : d.params.defaults = [])
    (hY : ∀ (w : World) (h : Heap), YP w h → (K w.params).In h) (ht : ∀ (w : World) (h : Heap), YP w h → h.get? T = some { cls := .none, data := .fields #[] }) (hc : ∀ w : World, PySem.W.codeHdIn (K w.params) c T = true) (nt : ∀ w : World, (K w.params).lookup T = none)
    (R : ∀ (w : World) (mg : Str → Option Value) (fa : Addr) (h : Heap), (K w.params).In h → h.Ns mainGlobals mg → mg d.name = some (.ref fa) → LawRunT l.prog w (K w.params) mg fa c T) :
    PySem.W.WalkO q loose XP YP l.row.toRowW d [] (fun f vs => PySem.call f vs) := by
  refine Att.attach_call hn hdf fun w s₀ s₁ mg mb fa o pm cd doc a vs ns G Y ho hd hcd hmg hobj hints hlen hg => ?_
  have KX := hY w _ Y
  exact law_tabled (R w mg fa _ KX G.T.g hmg) KX G.T.g G.T.b G.T.builtins G.T.nolimit hg (PySem.W.codeHd_of_K KX (hc w)) G.T.bmain (ht w _ Y) (nt w) hobj hints hlen
end
end Ms
namespace Ms
open PySem PySem.Spec PyProof.Rows L2 LamX
/-! ### data, where the heap is changed elsewhere -/
mutual
theorem Dq.gen {K : PySem.W.Frag} {m l m' l' : Addr} {H H' : Hp} (k1 : ∀ a xs, H a = some (.lst xs) → a ≠ m → a ≠ l → H' a = some (.lst xs) ∧ a ≠ m' ∧ a ≠ l') (k2 : ∀ a xs, SqT K H a xs → SqT K H' a xs)
    (k3 : ∀ a, H a = some (.dK []) → a ≠ m → a ≠ l → H' a = some (.dK []) ∧ a ≠ m' ∧ a ≠ l') : ∀ (d : PyData) (v : V), Dq K H m l v d → Dq K H' m' l' v d
  | .none, _, h => by cases h; exact .non
  | .bool b, _, h => by cases h; exact .bl b
  | .int i, _, h => by cases h; exact .int i
  | .str x, _, h => by cases h; exact .str x
  | .list ds, _, h => by
    cases h with
    | lst e n1 n2 t =>
      obtain ⟨e', n1', n2'⟩ := k1 _ _ e n1 n2
      exact .lst e' n1' n2' (DqAll.gen k1 k2 k3 ds _ t)
  | .tuple ds, _, h => by
    cases h with
    | tup e t => exact .tup (k2 _ _ e) (DqAll.gen k1 k2 k3 ds _ t)
  | .dict _, _, h => by
    cases h with
    | dct e n1 n2 =>
      obtain ⟨e', n1', n2'⟩ := k3 _ e n1 n2
      exact .dct e' n1' n2'
theorem DqAll.gen {K : PySem.W.Frag} {m l m' l' : Addr} {H H' : Hp} (k1 : ∀ a xs, H a = some (.lst xs) → a ≠ m → a ≠ l → H' a = some (.lst xs) ∧ a ≠ m' ∧ a ≠ l') (k2 : ∀ a xs, SqT K H a xs → SqT K H' a xs)
    (k3 : ∀ a, H a = some (.dK []) → a ≠ m → a ≠ l → H' a = some (.dK []) ∧ a ≠ m' ∧ a ≠ l') : ∀ (ds : List PyData) (vs : List V), DqAll K H m l vs ds → DqAll K H' m' l' vs ds
  | [], _, h => by cases h; exact .nil
  | d :: ds, _, h => by
    cases h with
    | cons h1 h2 => exact .cons (Dq.gen k1 k2 k3 d _ h1) (DqAll.gen k1 k2 k3 ds _ h2)
end
section
variable {K : PySem.W.Frag} {H H' : Hp} {m l : Addr}
theorem ExtN.seqT (e : ExtN H H') {a : Addr} {xs : List V} (h : SqT K H a xs) : SqT K H' a xs := by
  rcases h with (h | ⟨o, h⟩) | h
  · exact .inl (.inl (e _ _ h fun _ z => nomatch z))
  · exact .inl (.inr ⟨o, e _ _ h fun _ z => nomatch z⟩)
  · exact .inr h
theorem Dq.ext (e : ExtN H H') {v : V} {d : PyData} (h : Dq K H m l v d) : Dq K H' m l v d :=
  Dq.gen (fun a xs q n1 n2 => ⟨e _ _ q (fun _ z => nomatch z), n1, n2⟩) (fun a xs q => ExtN.seqT e q) (fun a q n1 n2 => ⟨e _ _ q (fun _ z => nomatch z), n1, n2⟩) d v h
theorem Mch.ext {n : Nat} (s : ExtN H H') (M : Mch H m l n) : Mch H' m l n := by
  obtain ⟨c, cs, ls, z, h1, h2, h3, h⟩ := M.ex
  exact ⟨c, cs, ls, z, s _ _ h1 (fun _ z => nomatch z), s _ _ h2 (fun _ z => nomatch z), s _ _ h3 (fun _ z => nomatch z), h⟩
theorem Same.toN (s : Same H H') : ExtN H H' := ExtN.of s
theorem Tabs.same {T : List (Addr × Str)} (t : Tabs T H) (s : Same H H') : Tabs T H' := t.ext s
end
/-! ### a list that is locked while its next item is made -/
section
variable {K : PySem.W.Frag} {H H' : Hp} {m l L : Addr} {n : Nat} {od : Obj} {u o : HO}
theorem upd_frz (h : H L = some (.frz od u)) {b : Addr} {w : HO} (k : ∀ od u, w ≠ .frz od u) (e : H b = some w) : upd H L o b = some w := by
  have nb : b ≠ L := fun z => by
    rw [z, h] at e
    exact k _ _ (Option.some.inj e).symm
  rw [upd_ne nb]; exact e
theorem Mch.unlock (h : H L = some (.frz od u)) (M : Mch H m l n) : Mch (upd H L o) m l n := by
  obtain ⟨c, cs, ls, z, h1, h2, h3, r⟩ := M.ex
  exact ⟨c, cs, ls, z, upd_frz h (fun _ _ z => nomatch z) h1, upd_frz h (fun _ _ z => nomatch z) h2, upd_frz h (fun _ _ z => nomatch z) h3, r⟩
theorem Tabs.unlock {T : List (Addr × Str)} (h : H L = some (.frz od u)) (t : Tabs T H) : Tabs T (upd H L o) := fun p hp => by
  obtain ⟨ps, h1, h2, h3⟩ := t p hp
  refine ⟨ps, upd_frz h (fun _ _ z => nomatch z) h1, h2, fun pos cv hc => ?_⟩
  obtain ⟨c, e1, e2⟩ := h3 pos cv hc
  refine ⟨c, e1, upd_frz h (fun _ _ z => ?_) e2⟩
  unfold CodeO at z
  cases z
theorem Dq.unlock (h : H L = some (.frz od (.lst u'))) {v : V} {d : PyData} (hd : Dq K H m l v d) : Dq K (upd H L o) m l v d := by
  refine Dq.gen (fun a xs q n1 n2 => ⟨upd_frz h (fun _ _ z => nomatch z) q, n1, n2⟩) (fun a xs q => ?_) (fun a q n1 n2 => ⟨upd_frz h (fun _ _ z => nomatch z) q, n1, n2⟩) d v hd
  rcases q with (q | ⟨o', q⟩) | q
  · exact .inl (.inl (upd_frz h (fun _ _ z => nomatch z) q))
  · have q' : H a = some (.frz o' (.tup xs)) := q
    have nb : a ≠ L := fun z => by
      rw [z, h] at q'
      cases q'
    have q2 : upd H L o a = some (.frz o' (.tup xs)) := by rw [upd_ne nb]; exact q'
    exact .inl (.inr ⟨o', q2⟩)
  · exact .inr q
theorem Tabs.fr {T : List (Addr × Str)} {l' : Addr} (M : Mch H m l n) (f : Fr m l l' H H') (t : Tabs T H) : Tabs T H' := fun p hp => by
  obtain ⟨ps, h1, h2, h3⟩ := t p hp
  obtain ⟨c0, cs, ls, z, e1, e2, e3, _⟩ := M.ex
  refine ⟨ps, f.keep _ _ h1 (ne_of h1 e1 (by intro z; cases z)) (ne_of h1 e3 (by intro z; cases z)), h2, fun pos cv hc => ?_⟩
  obtain ⟨c, q1, q2⟩ := h3 pos cv hc
  exact ⟨c, q1, f.keep _ _ q2 (ne_of q2 e1 (by intro z; unfold CodeO at z; cases z)) (ne_of q2 e3 (by intro z; unfold CodeO at z; cases z))⟩
end
end Ms
namespace Ms
open PySem PySem.Spec PyProof.Rows L2
/-! ### BadSettings(e) and need_settings -/
structure ErrC (K : PySem.W.Frag) (C fE : Addr) : Prop where
  ox : OexC K C
  ini : PySem.W.findIn K (.ref C) "__init__" = some (some (.ref fE))
  ty : PySem.W.typeIn K (.ref fE) = some (.type "function")
  no : PySem.W.findIn K (.ref C) "place" = some none
def spIni (C : Addr) : Sp := fun vs H Q _ => ∃ (a : Addr) (y : V), vs = [.ref a, y] ∧ H a = some (exo a C none) ∧ ∀ dx, H dx = none → dx ≠ a → Q .non (upd (upd H dx (exd dx [("place", y)])) a (exo a C (some dx)))
def needV (d : PyData) : Option V := match d with
  | .tuple ds => if 1 ≤ ds.length ∧ ds.length ≤ 3 then (match dueGo 0 [] 1 ds with | .inl p => some (.int (p : Nat)) | .inr many => if many ≤ 12 then none else some (.str "many")) else some .non
  | _ => some .non
def spNeed (K : PySem.W.Frag) (C : Addr) : Sp := fun vs H Q E => ∃ (m l : Addr) (v : V) (d : PyData) (B b : Nat), vs = [v] ∧ Dq K H m l v d ∧ Gd B 100000 b d ∧ (needV d = none → ∀ H', Same H H' → Q v H') ∧
  ∀ u, needV d = some u → ∀ dx H', H dx = none → Same H H' → H' dx = some (.xd [("place", u)]) → E (.ref C) (some dx) H'
theorem mk_one {C : Addr} {H1 : Hp} {y : V} {Q : XK} (h : ∀ d H', H1 d = none → Same H1 H' → H' d = some (.xd [("place", y)]) → Q (.ref C) (some d) H') :
    [y].length ≤ 1000 ∧ ∀ a, H1 a = none → spIni C (.ref a :: ([y] ++ [])) (upd H1 a (exo a C none))
      (fun v H2 => v = .non ∧ ∃ (d : Addr) (fs : List (Str × V)), H2 a = some (exo a C (some d)) ∧ H2 d = some (exd d fs) ∧ H1 d = none ∧ Q (.ref C) (some d) (upd (del H2 a) d (.xd fs))) (fun _ _ _ => False) := by
  refine ⟨(by show 1 ≤ 1000; decide), fun a ha => ⟨a, y, rfl, upd_same, fun dx h1 h2 => ?_⟩⟩
  have hd : H1 dx = none := by rw [upd_ne h2] at h1; exact h1
  refine ⟨rfl, dx, [("place", y)], upd_same, by rw [upd_ne h2, upd_same], hd, h dx _ hd (fun b o e => ?_) upd_same⟩
  rw [upd_ne (ne_of_none e hd), del_ne (ne_of_none e ha), upd_ne (ne_of_none e ha), upd_ne (ne_of_none e hd), upd_ne (ne_of_none e ha)]
  exact e
section
variable {P : Program} {w : World} {K : PySem.W.Frag} {mg : Str → Option Value} {base : Heap} {fI fN fS fA fG C fE : Addr}
theorem scIn : FnScope ["self", "place"] ["self", "place"] (defScope sIni) := ⟨rfl, rfl, rfl, by decide +kernel, rfl, by decide +kernel, by decide +kernel⟩
theorem ok_ini {fd : FuncData} {qual : Str} (F : Fun K "__init__" qual sIni fE fd) (TE : ErrC K C fE) : FnOk P w K mg base CX0 1 fE fd ["self", "place"] (spIni C) := by
  refine F.ok scIn (fun vs H Q E h => ?_) (fun cdv A outer s H vs Q E hr h => ?_)
  · obtain ⟨a, y, rfl, _⟩ := h
    rfl
  · obtain ⟨a, y, rfl, e, q⟩ := h
    exact ⟨_, pss_one (ps_ost (pv 0) (pv 1)), ⟨_, rfl, _, rfl, a, C, rfl, TE.ox, TE.no, .inl ⟨e, fun dx h1 h2 => q dx h1 h2⟩⟩⟩
abbrev NPd : List Str := ["thing", "at", "setting"]
theorem scPd : FnScope NPd ["thing"] (defScope sNeed) := ⟨rfl, rfl, rfl, by decide +kernel, rfl, by decide +kernel, by decide +kernel⟩
def many (qs : List (Str × Int)) : Int := qs.foldl (fun m q => m * (q.2 + 1)) 1
theorem fold_many : ∀ (qs : List (Str × Int)) (rs : List (List Int)) (m : Int), (∀ q ∈ qs, 1 ≤ q.2 ∧ q.2 ≤ 3) → (rs.length : Int) = m → ((qs.foldl (fun rs q => widen rs (q.2 + 1).toNat) rs).length : Int) = qs.foldl (fun m q => m * (q.2 + 1)) m
  | [], rs, m, _, h => h
  | q :: qs, rs, m, hq, h => by
    refine fold_many qs (widen rs (q.2 + 1).toNat) (m * (q.2 + 1)) (fun x hx => hq x (List.mem_cons_of_mem _ hx)) ?_
    have := hq q (List.mem_cons_self ..)
    rw [widen_len, Int.natCast_mul, h]
    congr 1
    omega
theorem grid_many (qs : List (Str × Int)) (h : ∀ q ∈ qs, 1 ≤ q.2 ∧ q.2 ≤ 3) : ((grid qs).length : Int) = many qs := fold_many qs [[]] 1 h rfl
theorem ok_need {f : Addr} {fd fdI fdN fdS fdA fdG fdE : FuncData} {qual : Str} (F : Fun K "need_settings" "need_settings" sNeed f fd) (T : TxtP mg fI fN fS fA fG) (gC : mg "BadSettings" = some (.ref C)) (TE : ErrC K C fE)
    (FI : Fun K "is_int" "is_int" sPInt fI fdI) (bI : Binds K fdI ["thing"] []) (FN : Fun K "is_name" "is_name" sPName fN fdN) (bN : Binds K fdN ["thing"] []) (FS : Fun K "is_setting" "is_setting" sPSet fS fdS) (bS : Binds K fdS ["thing"] [])
    (FA : Fun K "names_of" "names_of" sPNames fA fdA) (bA : Binds K fdA ["settings"] []) (FG : Fun K "grid_of" "grid_of" sPGrid fG fdG) (bG : Binds K fdG ["settings"] []) (FE : Fun K "__init__" qual sIni fE fdE) (bE : Binds K fdE ["self", "place"] []) :
    FnOk P w K mg base (L2.CX P w) 3 f fd ["thing"] (spNeed K C) := by
  have GS : FnOk P w K mg base CX0 2 fS fdS ["thing"] (spPSet K) := ok_pset FS T FI bI FN bN
  have GA : FnOk P w K mg base CX0 1 fA fdA ["settings"] (spPNames K) := ok_pnames FA
  have GG : FnOk P w K mg base CX0 1 fG fdG ["settings"] (spPGrid K) := ok_pgrid FG T
  have GE : FnOk P w K mg base CX0 1 fE fdE ["self", "place"] (spIni C) := ok_ini FE TE
  refine F.okX scPd (fun vs H Q E h => ?_) (fun cdv A outer s H vs Q E hr h => ?_)
  · obtain ⟨m, l, v, d, B, b, rfl, _⟩ := h
    rfl
  obtain ⟨m, l, v, d, B, b, rfl, hd, gd, q, qe⟩ := h
  obtain ⟨ts, gs⟩ := T.mS
  obtain ⟨tt, gt⟩ := T.mT
  have hr1 : Room 1 _ := hr.mono (by decide)
  refine ⟨_, pss_cons (ps_if (PW.pt (pw_or (pt_not (pt_val (pe_callB call_isi (by rfl) T.isi PyProof.Rows.boot_isinstance (pa_cons (pv 0) (pa_cons (pe_bltn (v := .ty "tuple") (u := .type "tuple") (by rfl) T.tuple (by decide +kernel) rfl) pa_nil)))))
      (pw_or1 (pt_not (pt_chain op_le op_le pe_int (pe_callB call_len (by rfl) T.len PySem.boot_len (pa_cons (pv 0) pa_nil)) (pe_glob (v := .int 3) rfl gs ⟨_, rfl⟩)))))) (pss_one (ps_raise rfl (takes_of rfl rfl rfl rfl) (pmk_oex TE.ox TE.ini TE.ty GE hr bE .nil pass0 (by rfl) gC (pa_cons pe_non pa_nil)))) pss_nil)
    (pss_cons (ps_for (passes_of rfl) rfl (pi_et (by rfl) T.enumerate (pa_cons (pv 0) pa_nil)) (pg_tup rfl (pgs_cons (pg_name (i := 1) scPd.nd rfl (by first | exact Or.inl rfl | exact Or.inr rfl)) (pgs_cons (pg_name (i := 2) scPd.nd rfl (by first | exact Or.inl rfl | exact Or.inr rfl)) pgs_nil)))
      (pss_one (ps_if (PW.pt (pw_or (pt_not (pt_val (pe_call GS hr rfl T.gS FS.kp bS .nil pass0 (pa_cons (pv 2) pa_nil)))) (pw_or1 (pt_cmpR op_in_seq (pe_ix ix_tup (pv 2) pe_int (fun _ _ => rfl)) (pe_call GA hr1 rfl T.gA FA.kp bA .nil pass0 (pa_cons (pe_slice sl_tupA (pv 0) po_none (po_some (pv 1))) pa_nil)) (by rfl)))))
        (pss_one (ps_raise rfl (takes_of rfl rfl rfl rfl) (pmk_oex TE.ox TE.ini TE.ty GE hr bE .nil pass0 (by rfl) gC (pa_cons (pv 1) pa_nil)))) pss_nil)))
    (pss_cons (ps_if (pt_cmpR op_gt (pe_callB call_len_seq (by rfl) T.len PySem.boot_len (pa_cons (pe_call GG hr1 rfl T.gG FG.kp bG .nil pass0 (pa_cons (pv 0) pa_nil)) pa_nil)) (pe_glob (v := .int 12) rfl gt ⟨_, rfl⟩) (nomark _))
        (pss_one (ps_raise rfl (takes_of rfl rfl rfl rfl) (pmk_oex TE.ox TE.ini TE.ty GE hr bE .nil pass0 (by rfl) gC (pa_cons pe_str pa_nil)))) pss_nil)
    (pss_one (ps_ret (pv 0))))), ?_⟩
  refine ⟨_, rfl, v, .ty "tuple", _, _, _, rfl, .ty _, hd.ty, isi_tup K d, _, rfl, ?_⟩
  cases d with
  | tuple ds =>
    cases hd with
    | tup hp hx =>
      rename_i p xs
      refine ifF rfl ?_
      have lx := hx.len
      have none0 : ¬ (1 ≤ ds.length ∧ ds.length ≤ 3) → needV (.tuple ds) = some .non := fun h => by
        show (if 1 ≤ ds.length ∧ ds.length ≤ 3 then _ else some V.non) = some .non
        rw [if_neg h]
      refine ⟨_, rfl, .ref p, xs.length, rfl, .inr ⟨xs, hp, rfl⟩, 1, (xs.length : Int), rfl, rfl, _, rfl, ite_b (fun e1 => ⟨(xs.length : Int), 3, rfl, rfl, _, rfl, ite_b (fun e8 => mk_one (qe _ (none0 ?_))) (fun e8 => ?_)⟩) (fun e1 => ⟨_, rfl, ifT rfl (mk_one (qe _ (none0 ?_)))⟩)⟩
      · have : ¬ ((xs.length : Int) ≤ 3) := by simpa using e8
        omega
      · have l3 : (xs.length : Int) ≤ 3 := by simpa using e8
        have l1 : (1 : Int) ≤ (xs.length : Int) := of_decide_eq_true e1
        have ed : needV (.tuple ds) = (match dueGo 0 [] 1 ds with | .inl p => some (V.int (p : Nat)) | .inr many => if many ≤ 12 then none else some (.str "many")) := by
          show (if 1 ≤ ds.length ∧ ds.length ≤ 3 then _ else some V.non) = _
          rw [if_pos ⟨by omega, by omega⟩]
        refine ⟨_, rfl, p, xs, rfl, hp, ?_⟩
        refine for_it walk_et (fun i σ H1 => ∃ (qs : List (Str × Int)) (v1 v2 : Option V), σ = [some (.ref p), v1, v2] ∧ Same H H1 ∧ PrTs K H1 (xs.take i) qs ∧ (∀ q ∈ qs, 1 ≤ q.2 ∧ q.2 ≤ 3) ∧ dueGo 0 [] 1 ds = dueGo i (qs.map (·.1)) (many qs) (ds.drop i))
          ⟨[], none, none, rfl, Same.refl H, by rw [List.take_zero]; exact .nil, (fun q hq => nomatch hq), rfl⟩ (fun i σ H1 _ ⟨qs, v1, v2, _, s1, _⟩ => Same.seqT s1 hp) ?_ ?_
        · rintro i x σ H1 H2 hi ⟨qs, v1, v2, rfl, s1, pq, bq, dg⟩ ⟨TT, x1, x2, rfl, hT, rfl, e1', e2'⟩
          have ex1 : x1 = .int (i : Nat) := (Option.some.inj e1').symm
          subst ex1
          obtain ⟨e, he, dqe⟩ := hx.get e2'
          have sT : Same H1 (upd H1 TT (.tup [.int (i : Nat), x2])) := Same.upd hT
          have sA : Same H (upd H1 TT (.tup [.int (i : Nat), x2])) := s1.trans sT
          have dqA := Dq.same sA e x2 dqe
          have hid : i < ds.length := by omega
          have edr : ds.drop i = e :: ds.drop (i + 1) := by rw [List.drop_eq_getElem_cons hid]; rw [(List.getElem?_eq_some_iff.mp he).2]
          have refuse : ∀ {H3 : Hp}, Same H H3 → needV (.tuple ds) = some (.int (i : Nat)) → ∀ d H', H3 d = none → Same H3 H' → H' d = some (.xd [("place", V.int (i : Nat))]) → E (.ref C) (some d) H' := fun {H3} s3 hn d H' h1 h2 h3 =>
            qe _ hn d H' (Same.free s3 h1) (s3.trans h2) h3
          obtain ⟨cc, eb, g⟩ := Gd.untup gd
          have ge := g.at he
          have we : e.weight ≤ 100000 := by
            have := wA_at he
            have := g.wt
            omega
          refine ⟨TT, _, rfl, .inl (.inl upd_same), rfl, _, _, rfl, _, _, rfl, rfl, ?_⟩
          refine ⟨_, rfl, m, l, x2, e, _, _, rfl, dqA, ge.mono (Nat.le_refl _) we (Nat.le_refl _), fun H3 s3 => ⟨_, rfl, ?_⟩⟩
          have s03 := sA.trans s3
          cases eo : oneD e with
          | none =>
            refine ifT rfl ⟨_, rfl, mk_one (refuse s03 ?_)⟩
            rw [ed, dg, edr]
            simp only [dueGo, eo]
          | some zc =>
            obtain ⟨z, c⟩ := zc
            have le := pq.len
            obtain ⟨a, rfl, hq, cb⟩ : ∃ a, x2 = .ref a ∧ SqT K H a [.str z, .int c] ∧ 1 ≤ c ∧ c ≤ 3 := by
              have key : e = .tuple [.str z, .int c] ∧ 1 ≤ c ∧ c ≤ 3 := by
                have eo' := eo
                unfold oneD at eo'
                split at eo'
                · split at eo'
                  · rename_i hh
                    cases eo'
                    have hw := (Bool.and_eq_true _ _ ▸ hh : _ ∧ _).2
                    exact ⟨rfl, of_decide_eq_true (Bool.and_eq_true _ _ ▸ hw : _ ∧ _).1, of_decide_eq_true (Bool.and_eq_true _ _ ▸ hw : _ ∧ _).2⟩
                  · cases eo'
                · cases eo'
              obtain ⟨rfl, kb⟩ := key
              cases dqe with
              | tup h0 hy0 =>
                cases hy0 with
                | cons g0 hy1 =>
                  cases hy1 with
                  | cons g1 hy2 =>
                    cases g0
                    cases g1
                    cases hy2
                    exact ⟨_, rfl, h0, kb⟩
            refine ifF rfl ?_
            refine ⟨_, rfl, a, _, 0, .str z, rfl, rfl, Same.seqT s03 hq, rfl, ?_⟩
            refine ⟨_, rfl, _, rfl, _, rfl, slA_any (Same.seqT s03 hp) fun p4 H4 s4 c4 => ?_⟩
            rw [cut_to (by omega)] at c4
            refine ⟨p4, xs.take i, qs, rfl, c4, (pq.same (sT.trans (s3.trans s4))), (by rw [← le, List.length_take]; omega), fun D hD H5 s5 g5 => ?_⟩
            have sF := (s03.trans s4).trans s5
            refine ⟨D, _, rfl, .inl (SqL.of g5), rfl, (by simp [flatV]), _, rfl, ite_b (fun e => ⟨_, rfl, mk_one (refuse sF ?_)⟩) (fun e => ?_)⟩
            · have e' : inV (.str z) ((qs.map (·.1)).map V.str) = true := e
              rw [inV_str] at e'
              have hz := of_decide_eq_true e'
              rw [ed, dg, edr]
              simp only [dueGo, eo, if_pos hz]
            · have e' : inV (.str z) ((qs.map (·.1)).map V.str) = false := e
              rw [inV_str] at e'
              have nz := of_decide_eq_false e'
              refine ⟨qs ++ [(z, c)], _, _, rfl, sF, ?_, fun q hq' => ?_, ?_⟩
              · have e3 : xs[i]? = some (V.ref a) := e2'
                rw [List.take_succ, e3]
                exact (pq.same (sT.trans ((s3.trans s4).trans s5))).snoc ⟨a, rfl, Same.seqT sF hq⟩
              · rcases List.mem_append.mp hq' with hq' | hq'
                · exact bq q hq'
                · rw [List.mem_singleton.mp hq']; exact cb
              · rw [dg, edr]
                simp only [dueGo, eo, if_neg nz]
                unfold many
                rw [List.map_append, List.foldl_append]
                rfl
        · rintro σ H1 ⟨qs, v1, v2, rfl, s1, pq, bq, dg⟩
          rw [List.take_of_length_le (by omega)] at pq
          rw [List.drop_of_length_le (by omega)] at dg
          have le := pq.len
          have ed2 : needV (.tuple ds) = if many qs ≤ 12 then none else some (.str "many") := by
            rw [ed, dg]; rfl
          refine ⟨_, rfl, p, xs, qs, rfl, Same.seqT s1 hp, pq, by omega, bq, fun D as H2 hD s2 gD rw2 _ => ?_⟩
          have lg := rw2.length
          refine ⟨D, _, rfl, .inl (SqL.of gD), _, _, rfl, rfl, _, rfl, ite_b (fun e => mk_one fun d H' h1 h2 h3 => ?_) (fun e => ?_)⟩
          · have hm : ¬ many qs ≤ 12 := by
              have := of_decide_eq_true e
              rw [← grid_many qs bq]
              rw [List.length_map, lg] at this
              omega
            exact qe _ (by rw [ed2, if_neg hm]) d H' (Same.free (s1.trans s2) h1) ((s1.trans s2).trans h2) h3
          · have hm : many qs ≤ 12 := by
              have := of_decide_eq_false e
              rw [← grid_many qs bq]
              rw [List.length_map, lg] at this
              omega
            exact ⟨_, rfl, q (by rw [ed2, if_pos hm]) _ (s1.trans s2)⟩
      · have : ¬ ((1 : Int) ≤ (xs.length : Int)) := of_decide_eq_false e1
        omega
  | _ => exact ifT rfl (ifT rfl (mk_one (qe _ rfl)))
end
end Ms
namespace Ms
open PySem PySem.Spec PyProof.Rows L2
/-! ### data told apart by its repr -/
/-- the code of the first sign -/
def hd? (z : Str) : Option Nat := z.cps.toList.head?
theorem hd_app {z y : Str} {c : Nat} (h : hd? z = some c) : hd? (z ++ y) = some c := by
  unfold hd? at h ⊢
  have e : (z ++ y).cps.toList = z.cps.toList ++ y.cps.toList := Array.toList_append
  rw [e]
  cases q : z.cps.toList with
  | nil => rw [q] at h; cases h
  | cons a r => rw [q] at h; exact h
theorem app_cps (z y : Str) : (z ++ y).cps.toList = z.cps.toList ++ y.cps.toList := Array.toList_append
/-- repr of a text, as signs -/
theorem repr_list (z : Str) : (reprText z).cps.toList = reprQuote z :: (z.cps.toList.flatMap (Builtin.Str.reprChar (reprQuote z)) ++ [reprQuote z]) := by
  have key : ∀ (l : List Nat) (acc : Array Nat) (q : Nat), (l.foldl (fun out c => out ++ (Builtin.Str.reprChar q c).toArray) acc).toList = acc.toList ++ l.flatMap (Builtin.Str.reprChar q) := by
    intro l
    induction l with
    | nil => intro acc q; simp
    | cons c r ih =>
      intro acc q
      rw [List.foldl_cons, ih, List.flatMap_cons, Array.toList_append]
      simp
  unfold reprText
  show (Array.push _ _).toList = _
  rw [Array.toList_push, ← Array.foldl_toList, key]
  simp
theorem reprChar_in {q c : Nat} {d : Nat} (h : d ∈ Builtin.Str.reprChar q c) (hl : ∀ d ∈ Builtin.Str.reprChar q c, 97 ≤ d ∧ d ≤ 122) : Builtin.Str.reprChar q c = [c] := by
  unfold Builtin.Str.reprChar at hl ⊢
  repeat' split
  all_goals first
    | rfl
    | (exfalso
       rename_i h1
       have z := hl 92 (by simp [*])
       omega)
    | (exfalso
       have z := hl 92 (by simp [*])
       omega)
def plainZ (w : Str) : Prop := ∀ c ∈ w.cps.toList, 97 ≤ c ∧ c ≤ 122
theorem flat_same {q : Nat} : ∀ (l w : List Nat), l.flatMap (Builtin.Str.reprChar q) = w → (∀ d ∈ w, 97 ≤ d ∧ d ≤ 122) → l = w
  | [], w, h, _ => by simpa using h
  | c :: r, w, h, hw => by
    rw [List.flatMap_cons] at h
    have hin : ∀ d ∈ Builtin.Str.reprChar q c, 97 ≤ d ∧ d ≤ 122 := fun d hd => hw d (by rw [← h]; exact List.mem_append_left _ hd)
    have ne : ∃ d, d ∈ Builtin.Str.reprChar q c := by
      unfold Builtin.Str.reprChar
      repeat' split
      all_goals exact ⟨_, List.mem_cons_self ..⟩
    obtain ⟨d, hd⟩ := ne
    have e := reprChar_in hd hin
    rw [e] at h
    have e2 := flat_same r (r.flatMap (Builtin.Str.reprChar q)) rfl (fun d hd => hw d (by rw [← h]; exact List.mem_append_right _ hd))
    rw [← h, ← e2]; rfl
theorem quote_plain {w : Str} (h : plainZ w) : reprQuote w = 39 := by
  unfold reprQuote
  have e : w.cps.contains 39 = false := by
    rw [Bool.eq_false_iff]
    intro z
    rw [Array.contains_iff_mem] at z
    have := h 39 (Array.mem_toList_iff.mpr z)
    omega
  rw [e]; rfl
theorem letter_repr : ∀ c : Nat, 97 ≤ c → c ≤ 122 → Builtin.Str.reprChar 39 c = [c] := by
  have key : ∀ j : Fin 26, Builtin.Str.reprChar 39 (97 + j.1) = [97 + j.1] := by decide +kernel
  intro c h1 h2
  have := key ⟨c - 97, by omega⟩
  have e : 97 + (c - 97) = c := by omega
  rw [e] at this
  exact this
theorem repr_plain {w : Str} (h : plainZ w) : (reprText w).cps.toList = 39 :: (w.cps.toList ++ [39]) := by
  rw [repr_list, quote_plain h]
  congr 2
  have key : ∀ l : List Nat, (∀ d ∈ l, 97 ≤ d ∧ d ≤ 122) → l.flatMap (Builtin.Str.reprChar 39) = l := by
    intro l
    induction l with
    | nil => intro _; rfl
    | cons c r ih =>
      intro hl
      obtain ⟨a, b⟩ := hl c (List.mem_cons_self ..)
      rw [List.flatMap_cons, letter_repr c a b, ih fun d hd => hl d (List.mem_cons_of_mem _ hd)]
      rfl
  exact key _ h
theorem str_ext {z y : Str} (h : z.cps.toList = y.cps.toList) : z = y := by
  cases z with
  | mk a =>
    cases y with
    | mk b =>
      have : a = b := Array.toList_inj.mp h
      rw [this]
theorem repr_str_inj {z w : Str} (h : plainZ w) (e : reprText z = reprText w) : z = w := by
  have e1 : (reprText z).cps.toList = (reprText w).cps.toList := by rw [e]
  rw [repr_list, repr_plain h] at e1
  obtain ⟨hq, e2⟩ := List.cons.inj e1
  rw [hq] at e2
  have e3 := List.append_cancel_right e2
  exact str_ext (flat_same _ _ e3 h)
/-- how the repr of data begins -/
theorem digit_lo : ∀ d : Nat, d < 10 → 48 ≤ (Nat.digitChar d).toNat ∧ (Nat.digitChar d).toNat ≤ 57 := by decide
theorem digits_lo (m : Nat) : ∀ c ∈ (Nat.toDigits 10 m).map Char.toNat, 48 ≤ c ∧ c ≤ 57 := by
  induction m using Nat.strongRecOn with
  | _ m ih =>
    by_cases h : m < 10
    · rw [Nat.toDigits_of_lt_base h]
      intro c hc
      rw [List.mem_singleton.mp hc]
      exact digit_lo m h
    · have hm : m % 10 < 10 := Nat.mod_lt m (by decide)
      have t : Nat.toDigits 10 (m / 10) ++ Nat.toDigits 10 (m % 10) = Nat.toDigits 10 (10 * (m / 10) + m % 10) := Nat.toDigits_append_toDigits (by decide) (by omega) hm
      rw [Nat.div_add_mod] at t
      rw [← t, List.map_append, Nat.toDigits_of_lt_base hm]
      intro c hc
      rcases List.mem_append.mp hc with hc | hc
      · exact ih (m / 10) (by omega) c hc
      · rw [List.mem_singleton.mp hc]
        exact digit_lo _ hm
theorem int_signs (i : Int) : ∀ c ∈ (Str.ofString (toString i)).cps.toList, c = 45 ∨ (48 ≤ c ∧ c ≤ 57) := by
  cases i with
  | ofNat n =>
    intro c hc
    have e := PySem.W.KIN.signs_num n
    rw [show (Int.ofNat n) = ((n : Nat) : Int) from rfl, e] at hc
    exact .inr (digits_lo n c hc)
  | negSucc n =>
    intro c hc
    have e : (Str.ofString (toString (Int.negSucc n))).cps.toList = 45 :: (Nat.toDigits 10 (n + 1)).map Char.toNat := by
      rw [signs_ofString]
      show ("-" ++ Nat.repr (n + 1)).toList.map Char.toNat = _
      rw [String.toList_append, List.map_append, Nat.toList_repr]
      rfl
    rw [e] at hc
    rcases List.mem_cons.mp hc with rfl | hc
    · exact .inl rfl
    · exact .inr (digits_lo _ c hc)
theorem shown_str {d : PyData} {w : Str} (hs : d.shown = reprText w) (h : plainZ w) : d = .str w := by
  have hl : d.shown.cps.toList = 39 :: (w.cps.toList ++ [39]) := by rw [hs, repr_plain h]
  have first : d.shown.cps.toList.head? = some 39 := by rw [hl]; rfl
  cases d with
  | str z =>
    simp only [PyData.shown] at hs
    rw [repr_str_inj h hs]
  | none => exact absurd first (by decide +kernel)
  | bool b => cases b <;> exact absurd first (by decide +kernel)
  | int i =>
    have e : (Str.ofString (toString i)).cps.toList = 39 :: (w.cps.toList ++ [39]) := hl
    have := int_signs i 39 (by rw [e]; exact List.mem_cons_self ..)
    omega
  | list xs =>
    exfalso
    simp only [PyData.shown] at first
    unfold listText at first
    have key : ∀ (ts : List Str) (k : Nat) (acc : Str), hd? acc = some 91 → hd? (textFrom k acc ts) = some 91 := by
      intro ts
      induction ts with
      | nil => intro k acc h; exact h
      | cons t r ih => intro k acc h; exact ih _ _ (hd_app (hd_app h))
    have z := hd_app (y := "]") (key (PyData.shownAll xs) 0 "[" (by decide +kernel))
    unfold hd? at z
    rw [z] at first
    cases first
  | tuple xs =>
    exfalso
    simp only [PyData.shown] at first
    unfold tupleText at first
    have z : hd? (("(" : Str) ++ Str.join ", " (PyData.shownAll xs) ++ (if (PyData.shownAll xs).length == 1 then ",)" else ")" : String)) = some 40 := hd_app (hd_app (by decide +kernel))
    unfold hd? at z
    rw [z] at first
    cases first
  | dict kvs =>
    exfalso
    simp only [PyData.shown] at first
    unfold dictText at first
    have z : hd? (("{" : Str) ++ Str.join ", " (PyData.shownKv kvs) ++ ("}" : String)) = some 123 := hd_app (hd_app (by decide +kernel))
    unfold hd? at z
    rw [z] at first
    cases first
theorem shown_eq {d : PyData} {w : Str} (h : plainZ w) : (d.shown = reprText w) ↔ d = .str w := ⟨fun e => shown_str e h, fun e => by rw [e]; simp only [PyData.shown]⟩
abbrev endT : Str := "('end',)"
theorem plain_end : plainZ "end" := by
  have e : ("end" : Str).cps.toList = [101, 110, 100] := by decide +kernel
  unfold plainZ
  rw [e]; decide
theorem shown_end {d : PyData} (hs : d.shown = endT) : d = .tuple [.str "end"] := by
  have hl : d.shown.cps.toList = [40, 39, 101, 110, 100, 39, 44, 41] := by rw [hs]; decide +kernel
  have first : d.shown.cps.toList.head? = some 40 := by rw [hl]; rfl
  cases d with
  | none => exact absurd first (by decide +kernel)
  | bool b => cases b <;> exact absurd first (by decide +kernel)
  | int i =>
    have e : (Str.ofString (toString i)).cps.toList = [40, 39, 101, 110, 100, 39, 44, 41] := hl
    have := int_signs i 40 (by rw [e]; exact List.mem_cons_self ..)
    omega
  | str z =>
    exfalso
    have e : (reprText z).cps.toList = [40, 39, 101, 110, 100, 39, 44, 41] := hl
    rw [repr_list] at e
    have q := (List.cons.inj e).1
    unfold reprQuote at q
    split at q <;> omega
  | list xs =>
    exfalso
    simp only [PyData.shown] at first
    unfold listText at first
    have key : ∀ (ts : List Str) (k : Nat) (acc : Str), hd? acc = some 91 → hd? (textFrom k acc ts) = some 91 := by
      intro ts
      induction ts with
      | nil => intro k acc h; exact h
      | cons t r ih => intro k acc h; exact ih _ _ (hd_app (hd_app h))
    have z := hd_app (y := "]") (key (PyData.shownAll xs) 0 "[" (by decide +kernel))
    unfold hd? at z
    rw [z] at first
    cases first
  | dict kvs =>
    exfalso
    simp only [PyData.shown] at first
    unfold dictText at first
    have z : hd? (("{" : Str) ++ Str.join ", " (PyData.shownKv kvs) ++ ("}" : String)) = some 123 := hd_app (hd_app (by decide +kernel))
    unfold hd? at z
    rw [z] at first
    cases first
  | tuple ds =>
    match ds with
    | [] =>
      have e : (PyData.tuple []).shown.cps.toList = [40, 41] := by decide +kernel
      rw [e] at hl
      cases hl
    | [x] =>
      have e : (PyData.tuple [x]).shown = ("(" : Str) ++ x.shown ++ (",)" : String) := rfl
      rw [e, app_cps, app_cps] at hl
      have e1 : ("(" : Str).cps.toList = [40] := by decide +kernel
      have e2 : ((",)" : String) : Str).cps.toList = [44, 41] := by decide +kernel
      have e3 : [40] ++ x.shown.cps.toList ++ [44, 41] = [40] ++ [39, 101, 110, 100, 39] ++ [44, 41] := by rw [← e1, ← e2]; rw [e1, e2]; exact (by rw [e1, e2] at hl; exact hl)
      have e4 := List.append_cancel_left (List.append_cancel_right e3)
      have e5 : x.shown = reprText "end" := str_ext (by
        rw [e4, repr_plain plain_end]
        decide +kernel)
      rw [shown_str e5 plain_end]
    | x :: y :: r =>
      exfalso
      have e : (PyData.tuple (x :: y :: r)).shown = ("(" : Str) ++ (x.shown ++ ", " ++ Str.join ", " (PyData.shownAll (y :: r))) ++ (if (PyData.shownAll (x :: y :: r)).length == 1 then ",)" else ")" : String) := rfl
      have hm : 32 ∈ (PyData.tuple (x :: y :: r)).shown.cps.toList := by
        rw [e, app_cps, app_cps, app_cps, app_cps]
        have e2 : ((", " : String) : Str).cps.toList = [44, 32] := by decide +kernel
        rw [e2]
        simp
      rw [hl] at hm
      exact absurd hm (by decide)
theorem end_shown : (PyData.tuple [.str "end"]).shown = endT := by decide +kernel
theorem nm_plain {z : Str} (h : ∀ c ∈ z.cps.toList, 97 ≤ c ∧ c ≤ 122) : plainZ z := h
end Ms
namespace Ms
open PySem PySem.Spec PyProof.Rows L2
/-! ### drawn names are names, and no two are the same -/
def lowC (c : Nat) : Prop := 97 ≤ c ∧ c ≤ 122
def Lw (a : Nat) (z : Str) : Prop := z.length ≤ a ∧ ∀ c ∈ z.cps.toList, lowC c
theorem Lw.ok {a : Nat} {z : Str} (h : Lw a z) : sOk a z := ⟨h.1, fun c hc => by have := (h.2 c hc).2; omega⟩
theorem Lw.mono {a b : Nat} {z : Str} (h : Lw a z) (k : a ≤ b) : Lw b z := ⟨Nat.le_trans h.1 k, h.2⟩
theorem app_list (z y : Str) : (z ++ y).cps.toList = z.cps.toList ++ y.cps.toList := Array.toList_append
theorem Lw.app {a b : Nat} {z y : Str} (h : Lw a z) (k : Lw b y) : Lw (a + b) (z ++ y) := by
  refine ⟨by rw [Str.length_append]; exact Nat.add_le_add h.1 k.1, fun c hc => ?_⟩
  rw [app_list] at hc
  exact (List.mem_append.mp hc).elim (h.2 c) (k.2 c)
theorem cut_list (z : Str) (lo hi : Option Int) : (cutS z lo hi).cps.toList = (z.cps.toList.drop (HT.sIx z.length 0 lo)).take (HT.sIx z.length z.length hi - HT.sIx z.length 0 lo) := by simp [cutS]
theorem len_list (z : Str) : z.cps.toList.length = z.length := Array.length_toList
theorem Lw.cut {a : Nat} {z : Str} (h : Lw a z) (lo hi : Option Int) : Lw a (cutS z lo hi) := by
  refine ⟨?_, fun c hc => h.2 c ?_⟩
  · rw [← len_list, cut_list, List.length_take, List.length_drop, len_list]
    have := h.1
    omega
  · rw [cut_list] at hc
    exact List.mem_of_mem_drop (List.mem_of_mem_take hc)
theorem Lw.sign {c : Nat} (h : lowC c) : Lw 1 ⟨#[c]⟩ := ⟨Nat.le_refl _, fun d hd => by simp at hd; rw [hd]; exact h⟩
theorem alpha_nat : ∀ j : Nat, j < 26 → alpha.cps.toList[j]? = some (97 + j) := by
  intro j h
  rw [alpha_list]
  have : ∀ j : Fin 26, ([97, 98, 99, 100, 101, 102, 103, 104, 105, 106, 107, 108, 109, 110, 111, 112, 113, 114, 115, 116, 117, 118, 119, 120, 121, 122] : List Nat)[j.1]? = some (97 + j.1) := by decide
  exact this ⟨j, h⟩
theorem alpha_at2 {i : Int} (h0 : 0 ≤ i) (h1 : i < 26) : atI alpha.cps.toList i = some (97 + i.toNat) ∧ lowC (97 + i.toNat) := by
  obtain ⟨j, rfl⟩ : ∃ j : Nat, i = (j : Int) := ⟨i.toNat, by omega⟩
  refine ⟨atI_nat (alpha_nat j (by omega)), ?_⟩
  unfold lowC
  omega
def nmOk (z : Str) : Prop := 1 ≤ z.length ∧ z.length ≤ 8 ∧ ∀ c ∈ z.cps.toList, lowC c
theorem nmOk.ok {z : Str} (h : nmOk z) : sOk 16 z := ⟨by have := h.2.1; omega, fun c hc => by have := (h.2.2 c hc).2; omega⟩
theorem map_nodup {k : Nat} {f : Nat → Str} (h : ∀ i j, i < k → j < k → f i = f j → i = j) : ((List.range k).map f).Nodup := by
  unfold List.Nodup
  rw [List.pairwise_map]
  refine List.Pairwise.imp_of_mem ?_ (List.pairwise_lt_range (n := k))
  intro i j hi hj hlt e
  have := h i j (List.mem_range.mp hi) (List.mem_range.mp hj) e
  omega
/-- beginnings or ends of one word -/
def fA (W : Str) (b : Int) (k : Nat) (i : Nat) : Str := if b > 7 then cutS W (some (0 + (i : Int))) none else cutS W none (some (0 + (i : Int) + 9 - (k : Int)))
theorem fA_len {W : Str} {b : Int} {k i : Nat} (hW : W.length = 8) (hk : k ≤ 8) (hi : i < k) : (fA W b k i).length = if b > 7 then 8 - i else i + 9 - k := by
  unfold fA
  by_cases h : b > 7
  · rw [if_pos h, if_pos h, ← len_list, cut_list, List.length_take, List.length_drop, len_list, hW]
    have e : (0 + (i : Int)) = ((i : Nat) : Int) := by omega
    rw [e, HT.sIx_nat]
    show min (8 - min i 8) (8 - min i 8) = 8 - i
    omega
  · rw [if_neg h, if_neg h, ← len_list, cut_list, List.length_take, List.length_drop, len_list, hW]
    have e : (0 + (i : Int) + 9 - (k : Int)) = ((i + 9 - k : Nat) : Int) := by omega
    rw [e, HT.sIx_nat, HT.sIx_none]
    omega
theorem fA_good {W : Str} {b : Int} {k : Nat} (hW : Lw 16 W) (h8 : W.length = 8) (hk : k ≤ 8) : ((List.range k).map (fA W b k)).Nodup ∧ ∀ y ∈ (List.range k).map (fA W b k), nmOk y := by
  refine ⟨map_nodup fun i j hi hj e => ?_, fun y hy => ?_⟩
  · have l1 := fA_len (b := b) h8 hk hi
    have l2 := fA_len (b := b) h8 hk hj
    rw [e, l2] at l1
    split at l1 <;> omega
  · obtain ⟨i, hi, rfl⟩ := List.mem_map.mp hy
    have hi' := List.mem_range.mp hi
    have l := fA_len (b := b) h8 hk hi'
    refine ⟨by rw [l]; split <;> omega, by rw [l]; split <;> omega, ?_⟩
    unfold fA
    split
    · exact (hW.cut _ _).2
    · exact (hW.cut _ _).2
/-- one letter exchanged -/
def fB (z : Str) (r5 r6 b : Int) (i : Nat) : Str := cutS z none (some r5) ++ ⟨#[97 + ((r6 + b * (0 + (i : Int))) % 26).toNat]⟩ ++ cutS z (some r5) none
theorem fB_list (z : Str) (r5 r6 b : Int) (i : Nat) : (fB z r5 r6 b i).cps.toList = (cutS z none (some r5)).cps.toList ++ [97 + ((r6 + b * (0 + (i : Int))) % 26).toNat] ++ (cutS z (some r5) none).cps.toList := by
  unfold fB
  rw [app_list, app_list]
theorem fB_good {z : Str} {r5 r6 b : Int} {k : Nat} (hz : Lw 7 z) (h0 : 0 ≤ r5) (h1 : r5 ≤ z.length) (hb : b = 1 ∨ b = 3 ∨ b = 5) (hk : k ≤ 8) : ((List.range k).map (fB z r5 r6 b)).Nodup ∧ ∀ y ∈ (List.range k).map (fB z r5 r6 b), nmOk y := by
  refine ⟨map_nodup fun i j hi hj e => ?_, fun y hy => ?_⟩
  · have e' : (fB z r5 r6 b i).cps.toList = (fB z r5 r6 b j).cps.toList := by rw [e]
    rw [fB_list, fB_list, List.append_assoc, List.append_assoc] at e'
    have e2 := List.append_cancel_left e'
    have e3 : 97 + ((r6 + b * (0 + (i : Int))) % 26).toNat = 97 + ((r6 + b * (0 + (j : Int))) % 26).toNat := by
      simp only [List.cons_append, List.nil_append, List.cons.injEq] at e2
      exact e2.1
    have p1 := Int.emod_nonneg (r6 + b * (0 + (i : Int))) (b := 26) (by decide)
    have p2 := Int.emod_nonneg (r6 + b * (0 + (j : Int))) (b := 26) (by decide)
    rcases hb with rfl | rfl | rfl <;> omega
  · obtain ⟨i, hi, rfl⟩ := List.mem_map.mp hy
    have l := hz.1
    obtain ⟨n5, rfl⟩ : ∃ n : Nat, r5 = (n : Int) := ⟨r5.toNat, by omega⟩
    have len : (fB z (n5 : Int) r6 b i).length = z.length + 1 := by
      rw [← len_list, fB_list, List.length_append, List.length_append, cut_list, cut_list, List.length_take, List.length_drop, List.length_take, List.length_drop, len_list, HT.sIx_nat, HT.sIx_none, HT.sIx_nat, HT.sIx_none]
      simp only [List.length_cons, List.length_nil]
      omega
    refine ⟨by rw [len]; omega, by rw [len]; omega, fun c hc => ?_⟩
    rw [fB_list] at hc
    have q1 := Int.emod_nonneg (r6 + b * (0 + (i : Int))) (b := 26) (by decide)
    have q2 := Int.emod_lt_of_pos (r6 + b * (0 + (i : Int))) (b := 26) (by decide)
    rcases List.mem_append.mp hc with hc | hc
    · rcases List.mem_append.mp hc with hc | hc
      · exact (hz.cut _ _).2 c hc
      · rw [List.mem_singleton.mp hc]
        unfold lowC
        omega
    · exact (hz.cut _ _).2 c hc
theorem mul8_len (z : Str) (c : Nat) : (cutS (z ++ Txt.mul ⟨#[c]⟩ 8) none (some 8)).length = 8 := by
  rw [mul8, ← len_list, cut_list, List.length_take, List.length_drop, len_list, Str.length_append, HT.sIx_none]
  have e : (8 : Int) = ((8 : Nat) : Int) := rfl
  rw [e, HT.sIx_nat]
  show min (min 8 (z.length + 8) - 0) (z.length + 8 - 0) = 8
  omega
section
variable {P : Program} {w : World} {K : PySem.W.Frag} {mg : Str → Option Value} {base : Heap} {fN : Addr}
def spNamesV : Sp := fun vs H Q _ => ∃ (m l : Addr) (n : Nat) (k : Nat), vs = [.ref m, .int (k : Int)] ∧ Mch H m l n ∧ n < 900000 ∧ 1 ≤ k ∧ k ≤ 8 ∧
  ∀ (p : Addr) (ys : List Str) (l' : Addr) (H' : Hp), H p = none → H' p = some (.lst (ys.map V.str)) → ys.length = k → ys.Nodup → (∀ y ∈ ys, nmOk y) → p ≠ m → p ≠ l' → Mch H' m l' (n + 11) → Fr m l l' H H' → Q (.ref p) H'
theorem ok_namesV {f : Addr} {fd fdN : FuncData} (F : Fun K "_law_names" "_law_names" sNames f fd) (T : TxtN mg fN) (FN : Fun K "_law_next" "_law_next" sNext fN fdN) (bN : Binds K fdN ["m", "many"] []) : FnOk P w K mg base CX0 2 f fd ["m", "many"] spNamesV := by
  have GN : FnOk P w K mg base CX0 1 fN fdN ["m", "many"] spNext := ok_next FN T.toTxt
  refine F.ok scNm (fun vs H Q E h => ?_) (fun cdv A outer s H vs Q E hr h => ?_)
  · obtain ⟨m, l, n, k, rfl, _⟩ := h
    rfl
  · obtain ⟨m, l, n, k, rfl, M, hn, hk, hk2, q⟩ := h
    refine ⟨_, pss_cons (ps_asg (pe_tup (pa_cons pe_str (pa_cons pe_str pa_nil))) (pg_tup rfl (pgs_cons (pg_name (i := 2) scNm.nd rfl (Or.inr rfl)) (pgs_cons (pg_name (i := 3) scNm.nd rfl (Or.inr rfl)) pgs_nil))))
      (pss_cons (ps_for PassesOwn.never rfl (pi_range1 (by rfl) T.range (pa_cons (pe_call GN hr rfl T.next FN.kp bN .nil pass0 (pa_cons (pv 0) (pa_cons pe_int pa_nil))) pa_nil)) (pg_name (i := 4) scNm.nd rfl (Or.inl rfl))
        (pss_one (ps_set (i := 3) scNm.nd rfl (Or.inr rfl) (pe_op op_add_str (pv 3) (pe_ix ix_str (pv 2) (pe_call GN hr rfl T.next FN.kp bN .nil pass0 (pa_cons (pv 0) (pa_cons pe_int pa_nil))) (fun _ _ => rfl))))))
      (pss_cons (ps_asg (pe_tup (pa_cons (pe_call GN hr rfl T.next FN.kp bN .nil pass0 (pa_cons (pv 0) (pa_cons (pe_op op_add (pe_callB call_len_str (by rfl) T.len PySem.boot_len (pa_cons (pv 3) pa_nil)) pe_int) pa_nil)))
          (pa_cons (pe_call GN hr rfl T.next FN.kp bN .nil pass0 (pa_cons (pv 0) (pa_cons pe_int pa_nil)))
          (pa_cons (pe_ix ix_list (pe_lst (pa_cons pe_int (pa_cons pe_int (pa_cons pe_int (pa_cons pe_int (pa_cons pe_int (pa_cons pe_int pa_nil))))))) (pe_call GN hr rfl T.next FN.kp bN .nil pass0 (pa_cons (pv 0) (pa_cons pe_int pa_nil))) (fun _ _ => rfl)) pa_nil))))
        (pg_tup rfl (pgs_cons (pg_name (i := 5) scNm.nd rfl (Or.inr rfl)) (pgs_cons (pg_name (i := 6) scNm.nd rfl (Or.inr rfl)) (pgs_cons (pg_name (i := 7) scNm.nd rfl (Or.inr rfl)) pgs_nil)))))
      (pss_cons (ps_set (i := 8) scNm.nd rfl (Or.inr rfl) (pe_slice sl_str (pe_op op_add_str (pv 3) (pe_op op_mul_si (pe_ix ix_str (pv 2) (pv 6) (fun _ _ => rfl)) pe_int)) po_none (po_some pe_int)))
      (pss_cons (ps_if (pt_cmpR op_gt (pv 7) pe_int (nomark _)) (pss_one (ps_ret (pe_lc (own := [("k", 4)]) (g := gName 4) (by rfl) scNm.nd (pi_range1 (by rfl) T.range (pa_cons (pv 1) pa_nil)) (blkOk_by (own := [("k", 4)]) (N := NN) (sc := defScope sNames) (by decide +kernel))
          (fun _ _ _ _ _ => pg_name (i := 4) scNm.nd rfl (Or.inl rfl)) (fun _ _ _ _ _ => pts_nil) (fun _ _ _ _ _ => pe_ifExp (pt_cmpR op_gt (pv 7) pe_int (nomark _)) (pe_slice sl_str (pv 8) (po_some (pv 4)) po_none) (pe_slice sl_str (pv 8) po_none (po_some (pe_op op_sub (pe_op op_add (pv 4) pe_int) (pv 1)))))))) pss_nil)
      (pss_one (ps_ret (pe_lc (own := [("k", 4)]) (g := gName 4) (by rfl) scNm.nd (pi_range1 (by rfl) T.range (pa_cons (pv 1) pa_nil)) (blkOk_by (own := [("k", 4)]) (N := NN) (sc := defScope sNames) (by decide +kernel))
          (fun _ _ _ _ _ => pg_name (i := 4) scNm.nd rfl (Or.inl rfl)) (fun _ _ _ _ _ => pts_nil) (fun _ _ _ _ _ => pe_op op_add_str (pe_op op_add_str (pe_slice sl_str (pv 3) po_none (po_some (pv 5)))
            (pe_ix ix_str (pv 2) (pe_op op_mod (pe_callTy call_int1 (by rfl) T.int (by decide +kernel) (pa_cons (pe_op op_add (pv 6) (pe_op op_mul (pv 7) (pv 4))) pa_nil)) pe_int) (fun _ _ => rfl))) (pe_slice sl_str (pv 3) (po_some (pv 5)) po_none))))))))), ?_⟩
    refine ⟨(by show 2 ≤ sizeLine; decide), fun p1 h1 => ⟨p1, _, rfl, .inl (.inl upd_same), rfl, _, _, rfl, _, _, rfl, rfl, ?_⟩⟩
    have s1 : Same H _ := Same.upd (o := .tup [.str alpha, .str ""]) h1
    refine ⟨_, rfl, m, l, n, 8, rfl, M.same s1, by omega, by decide, by decide, fun r0 l1 H1 r0p r0l M1 f1 => ?_⟩
    refine ⟨r0, rfl, by omega, by omega, ?_⟩
    refine for_range (lo := 0) (n := r0.toNat) (fun i σ H2 => ∃ (z : Str) (v4 : Option V) (l2 : Addr), σ = [some (.ref m), some (.int (k : Int)), some (.str alpha), some (.str z), v4, none, none, none, none] ∧ Lw i z ∧ Mch H2 m l2 (n + 1 + i) ∧ Fr m l l2 H H2)
      ⟨"", _, l1, rfl, ⟨Nat.le_refl _, fun c hc => by cases hc⟩, M1, Fr.lead s1 f1⟩ ?_ ?_
    · rintro i σ H2 hi ⟨z, v4, l2, rfl, hz, M2, f2⟩
      refine ⟨_, rfl, _, rfl, _, rfl, m, l2, _, 26, rfl, M2, by omega, by decide, by decide, fun r l3 H3 rp rl M3 f3 => ?_⟩
      obtain ⟨hc, hc2⟩ := alpha_at2 rp rl
      refine ⟨alpha, r, _, rfl, rfl, alpha_len, hc, z, _, rfl, rfl, ?_, ?_⟩
      · have := hz.1
        show z.length + 1 ≤ sizeLine
        exact small1000 (by omega)
      · exact ⟨_, _, l3, rfl, hz.app (Lw.sign hc2), M3, f2.trans f3⟩
    · rintro σ H2 ⟨z, v4, l2, rfl, hz, M2, f2⟩
      have z7 := hz.1
      have zs : z.length ≤ sizeLine := Nat.le_of_lt (small1000 (by omega))
      refine ⟨_, rfl, _, rfl, z, rfl, zs, _, _, rfl, rfl, m, l2, _, (z.length : Int) + 1, rfl, M2, by omega, by omega, by omega, fun r5 l3 H3 a5 b5 M3 f3 => ?_⟩
      refine ⟨_, rfl, m, l3, _, 26, rfl, M3, by omega, by decide, by decide, fun r6 l4 H4 a6 b6 M4 f4 => ?_⟩
      refine ⟨(by show 6 ≤ sizeLine; decide), fun pL hL => ?_⟩
      have sL := Same.upd (o := .lst [.int 1, .int 3, .int 5, .int 7, .int 9, .int 11]) hL
      have nL := M4.ne hL
      refine ⟨_, rfl, m, l4, _, 6, rfl, M4.same sL, by omega, by decide, by decide, fun r7 l5 H5 a7 b7 M5 f5 => ?_⟩
      obtain ⟨b, hb, bs, b11⟩ : ∃ b : Int, atI ([.int 1, .int 3, .int 5, .int 7, .int 9, .int 11] : List V) r7 = some (.int b) ∧ (b = 1 ∨ b = 3 ∨ b = 5 ∨ 5 < b) ∧ b ≤ 11 := by
        obtain ⟨j, rfl⟩ : ∃ j : Nat, r7 = (j : Int) := ⟨r7.toNat, by omega⟩
        have hj : j < 6 := by omega
        match j, hj with
        | 0, _ => exact ⟨1, rfl, by omega, by omega⟩
        | 1, _ => exact ⟨3, rfl, by omega, by omega⟩
        | 2, _ => exact ⟨5, rfl, by omega, by omega⟩
        | 3, _ => exact ⟨7, rfl, by omega, by omega⟩
        | 4, _ => exact ⟨9, rfl, by omega, by omega⟩
        | 5, _ => exact ⟨11, rfl, by omega, by omega⟩
      refine ⟨pL, _, r7, .int b, rfl, rfl, SqL.of (f5.keep pL _ upd_same nL.1 nL.2), hb, (by show 3 ≤ sizeLine; decide), fun p3 h3 => ?_⟩
      have F5 : Fr m l l5 H H5 := f2.trans (f3.trans (f4.trans (Fr.lead sL f5)))
      refine ⟨p3, _, rfl, .inl (.inl upd_same), rfl, _, _, rfl, _, _, rfl, _, _, rfl, rfl, ?_⟩
      have s3 := Same.upd (o := .tup [.int r5, .int r6, .int b]) h3
      have M6 := M5.same s3
      have F6 := F5.junk (o := .tup [.int r5, .int r6, .int b]) h3
      obtain ⟨hc6, cc6⟩ := alpha_at2 a6 b6
      obtain ⟨c6, ec6⟩ : ∃ c6, c6 = 97 + r6.toNat := ⟨_, rfl⟩
      rw [← ec6] at hc6 cc6
      refine ⟨_, rfl, _, rfl, _, rfl, alpha, r6, c6, rfl, rfl, alpha_len, hc6, _, 8, rfl, rfl, mul8_ok c6, z, _, rfl, rfl, ?_, 8, rfl, _, rfl, ?_, ?_⟩
      · rw [mul8]
        show z.length + 8 ≤ sizeLine
        exact Nat.le_of_lt (small1000 (by omega))
      · rw [mul8, Str.length_append]
        show z.length + 8 ≤ sizeLine
        exact Nat.le_of_lt (small1000 (by omega))
      obtain ⟨W, hW, eW⟩ : ∃ W, Lw 16 W ∧ W = cutS (z ++ Txt.mul { cps := #[c6] } 8) none (some 8) := ⟨_, by
        rw [mul8]
        exact (((hz.mono (show r0.toNat ≤ 7 by omega)).app (b := 8) ⟨by show 8 ≤ 8; decide, fun d hd => by simp at hd; rw [hd]; exact cc6⟩).mono (by decide)).cut _ _, rfl⟩
      rw [← eW]
      have W8 : W.length = 8 := by rw [eW]; exact mul8_len z c6
      have Wl : W.length ≤ sizeLine := Nat.le_trans hW.1 (by decide)
      have ek : ((k : Int)).toNat = k := by omega
      refine ⟨_, rfl, _, _, rfl, rfl, _, rfl, ite2 (fun hb5 => ?_) (fun hb5 => ?_)⟩
      · refine ⟨_, rfl, (k : Int), rfl, by omega, by omega, fun D hD => ?_⟩
        have nD := M6.ne hD
        refine lc_range (lo := 0) (n := ((k : Int)).toNat) (fun i H9 => H9 = upd _ D (.lst (((List.range i).map (fA W b k)).map V.str))) rfl ?_ ?_
        · rintro i H9 hi e9
          have li : ((List.range i).map (fA W b k)).length = i := by rw [List.length_map, List.length_range]
          have gr : ∀ y, y = fA W b k i → upd H9 D (.lst (((List.range i).map (fA W b k)).map V.str ++ [.str y])) = upd (upd H5 p3 (.tup [.int r5, .int r6, .int b])) D (.lst (((List.range (i + 1)).map (fA W b k)).map V.str)) := fun y ey => by
            rw [str_grow e9, ey]; simp only [List.range_succ, List.map_append]; rfl
          refine ⟨rfl, tyes ?_⟩
          refine ⟨_, rfl, _, _, rfl, rfl, _, rfl, ite2 (fun h7 => ?_) (fun h7 => ?_)⟩
          · exact ⟨_, rfl, _, rfl, _, rfl, _, rfl, Wl, _, by rw [e9]; exact upd_same, small1000 (by rw [List.length_map, li]; omega), gr _ (by unfold fA; rw [if_pos (show b > 7 from of_decide_eq_true h7)])⟩
          · exact ⟨_, rfl, _, rfl, _, _, rfl, rfl, _, rfl, _, _, rfl, rfl, _, rfl, _, rfl, Wl, _, by rw [e9]; exact upd_same, small1000 (by rw [List.length_map, li]; omega), gr _ (by unfold fA; rw [if_neg (show ¬ b > 7 from fun z => h7 (decide_eq_true z))])⟩
        · rintro H9 e9
          rw [ek] at e9
          obtain ⟨g1, g2⟩ := fA_good (b := b) hW W8 hk2
          have sD := Same.upd (o := .lst (((List.range k).map (fA W b k)).map V.str)) hD
          rw [e9]
          exact q D _ l5 _ (F6.free hD) upd_same (by rw [List.length_map, List.length_range]) g1 g2 nD.1 nD.2 ((M6.same sD).mono (by omega)) (F6.junk hD)
      · refine ⟨_, rfl, (k : Int), rfl, by omega, by omega, fun D hD => ?_⟩
        have nD := M6.ne hD
        have hz7 : Lw 7 z := hz.mono (by omega)
        have z7o := hz7.ok
        refine lc_range (lo := 0) (n := ((k : Int)).toNat) (fun i H9 => H9 = upd _ D (.lst (((List.range i).map (fB z r5 r6 b)).map V.str))) rfl ?_ ?_
        · rintro i H9 hi e9
          have li : ((List.range i).map (fB z r5 r6 b)).length = i := by rw [List.length_map, List.length_range]
          have nb5 : ¬ (5 < b) := fun z => hb5 (decide_eq_true z)
          have b15 : 1 ≤ b ∧ b ≤ 11 := by omega
          obtain ⟨hc9, cc9⟩ := alpha_at2 (i := (r6 + b * (0 + (i : Int))) % 26) (Int.emod_nonneg _ (by decide)) (Int.emod_lt_of_pos _ (by decide))
          have p1 := (hz7.cut none (some r5))
          have p2 := (p1.app (Lw.sign cc9))
          have p3' := (hz7.cut (some r5) none)
          refine ⟨rfl, tyes ?_⟩
          refine ⟨_, rfl, _, rfl, _, rfl, _, rfl, zs, _, rfl, _, rfl, _, rfl, _, rfl, _, _, rfl, rfl, .inr ⟨by omega, by omega⟩, _, _, rfl, rfl, .inl ⟨_, rfl, _, _, rfl, rfl, (by show (0 : Int) < 26; decide), ?_⟩⟩
          refine ⟨alpha, _, _, rfl, rfl, alpha_len, hc9, _, _, rfl, rfl, ?_, _, rfl, _, rfl, _, rfl, _, rfl, zs, _, _, rfl, rfl, ?_, _, by rw [e9]; exact upd_same, small1000 (by rw [List.length_map, li]; omega), ?_⟩
          · have := p1.1
            show _ + 1 ≤ sizeLine
            exact Nat.le_of_lt (small1000 (by omega))
          · have := p2.1
            have := p3'.1
            exact Nat.le_of_lt (small1000 (by omega))
          · rw [str_grow e9]; simp only [List.range_succ, List.map_append]; rfl
        · rintro H9 e9
          rw [ek] at e9
          obtain ⟨g1, g2⟩ := fB_good (r5 := r5) (r6 := r6) (b := b) hz7 a5 (by omega) (by have nb5 : ¬ (5 < b) := fun z => hb5 (decide_eq_true z); omega) hk2
          have sD := Same.upd (o := .lst (((List.range k).map (fB z r5 r6 b)).map V.str)) hD
          rw [e9]
          exact q D _ l5 _ (F6.free hD) upd_same (by rw [List.length_map, List.length_range]) g1 g2 nD.1 nD.2 ((M6.same sD).mono (by omega)) (F6.junk hD)
end
end Ms
namespace Ms
open PySem PySem.Spec PyProof.Rows L2
/-! ### drawn settings are settings -/
theorem nm_name {z : Str} (h : nmOk z) : isName (.str z) = true := by
  obtain ⟨h1, h2, h3⟩ := h
  show ((decide (1 ≤ z.length) && decide (z.length ≤ 8)) && z.cps.toList.all fun c => decide (c ∈ alpha.cps.toList)) = true
  have ef : (fun c => decide (c ∈ alpha.cps.toList)) = lowB := funext lowB_alpha
  rw [decide_eq_true h1, decide_eq_true h2, ef, Bool.and_true, Bool.true_and, List.all_eq_true]
  intro c hc
  obtain ⟨a, b⟩ := h3 c hc
  unfold lowB
  rw [decide_eq_true a, decide_eq_true b]; rfl
theorem due_all : ∀ (qs : List (Str × Int)) (p : Nat) (seen : List Str) (mn : Int), (∀ q ∈ qs, isName (.str q.1) = true ∧ 1 ≤ q.2 ∧ q.2 ≤ 3) → (∀ q ∈ qs, q.1 ∉ seen) → (qs.map (·.1)).Nodup → dueGo p seen mn (prD qs) = .inr (qs.foldl (fun m q => m * (q.2 + 1)) mn)
  | [], p, seen, mn, _, _, _ => rfl
  | q :: qs, p, seen, mn, h, hs, hn => by
    obtain ⟨h1, h2, h3⟩ := h q (List.mem_cons_self ..)
    have hw : isWhole (.int q.2) 1 3 = true := by show (decide (1 ≤ q.2) && decide (q.2 ≤ 3)) = true; rw [decide_eq_true h2, decide_eq_true h3]; rfl
    have eo : oneD (.tuple [.str q.1, .int q.2]) = some (q.1, q.2) := by simp only [oneD]; rw [h1, hw]; rfl
    have nq := hs q (List.mem_cons_self ..)
    rw [List.map_cons, List.nodup_cons] at hn
    show dueGo p seen mn (.tuple [.str q.1, .int q.2] :: prD qs) = _
    simp only [dueGo, eo, if_neg nq]
    rw [due_all qs (p + 1) (seen ++ [q.1]) (mn * (q.2 + 1)) (fun x hx => h x (List.mem_cons_of_mem _ hx)) (fun x hx z => ?_) hn.2]
    · rfl
    · rcases List.mem_append.mp z with z | z
      · exact hs x (List.mem_cons_of_mem _ hx) z
      · have e : x.1 = q.1 := List.mem_singleton.mp z
        exact hn.1 (by rw [← e]; exact List.mem_map_of_mem hx)
/-- settings, as pairs -/
structure SetOk (ys : List (Str × Int)) : Prop where
  len1 : 1 ≤ ys.length
  len3 : ys.length ≤ 3
  nm : ∀ q ∈ ys, nmOk q.1
  most : ∀ q ∈ ys, 1 ≤ q.2 ∧ q.2 ≤ 3
  nodup : (ys.map (·.1)).Nodup
  few : many ys ≤ 12
theorem prD_len (ys : List (Str × Int)) : (prD ys).length = ys.length := by unfold prD; exact List.length_map ..
theorem SetOk.need {ys : List (Str × Int)} (s : SetOk ys) : needV (.tuple (prD ys)) = none := by
  have e := due_all ys 0 [] 1 (fun q hq => ⟨nm_name (s.nm q hq), s.most q hq⟩) (fun q _ z => nomatch z) s.nodup
  unfold needV
  simp only [prD_len, if_pos (And.intro s.len1 s.len3), e]
  have f := s.few
  unfold many at f
  rw [if_pos f]
theorem SetOk.okP {ys : List (Str × Int)} (s : SetOk ys) : okP ys := fun q hq => ⟨(s.nm q hq).ok, s.most q hq⟩
theorem zip_many : ∀ (ys : List Str) (ms : List Int) (i : Int), ys.length = ms.length → (ys.zip ms).foldl (fun m q => m * (q.2 + 1)) i = ms.foldl (fun m x => m * (x + 1)) i
  | [], [], _, _ => rfl
  | y :: ys, x :: ms, i, h => zip_many ys ms (i * (x + 1)) (by simpa using h)
  | [], _ :: _, _, h => by simp at h
  | _ :: _, [], _, h => by simp at h
theorem zip_fst : ∀ (ys : List Str) (ms : List Int), ys.length = ms.length → (ys.zip ms).map (·.1) = ys
  | [], [], _ => rfl
  | y :: ys, x :: ms, h => by
    show y :: (ys.zip ms).map (·.1) = y :: ys
    rw [zip_fst ys ms (by simpa using h)]
  | [], _ :: _, h => by simp at h
  | _ :: _, [], h => by simp at h
/-- how often each may stand: one to three small ints -/
def MoV (H : Hp) (a : Addr) : Prop := ∃ ms : List Int, H a = some (.tup (ms.map V.int)) ∧ 1 ≤ ms.length ∧ ms.length ≤ 3 ∧ (∀ x ∈ ms, 1 ≤ x ∧ x ≤ 3) ∧ ms.foldl (fun m x => m * (x + 1)) 1 ≤ 12
theorem MoV.same {H H' : Hp} {a : Addr} (s : Same H H') (h : MoV H a) : MoV H' a := by
  obtain ⟨ms, e, r⟩ := h
  exact ⟨ms, s _ _ e, r⟩
section
variable {P : Program} {w : World} {K : PySem.W.Frag} {mg : Str → Option Value} {base : Heap} {fN fM : Addr}
def spSettingsV : Sp := fun vs H Q _ => ∃ (m l : Addr) (n : Nat), vs = [.ref m] ∧ Mch H m l n ∧ n < 800000 ∧
  ∀ (p : Addr) (as : List Addr) (ys : List (Str × Int)) (l' : Addr) (H' : Hp), H' p = some (.tup (as.map V.ref)) → Prs H' as ys → SetOk ys → Mch H' m l' (n + 12) → Fr m l l' H H' → Q (.ref p) H'
theorem ok_settingsV {f : Addr} {fd fdN fdM : FuncData} (F : Fun K "_law_settings" "_law_settings" sSettings f fd) (T : TxtS mg fN fM) (FN : Fun K "_law_next" "_law_next" sNext fN fdN) (bN : Binds K fdN ["m", "many"] [])
    (FM : Fun K "_law_names" "_law_names" sNames fM fdM) (bM : Binds K fdM ["m", "many"] []) : FnOk P w K mg base CX0 3 f fd ["m"] spSettingsV := by
  have GN : FnOk P w K mg base CX0 2 fN fdN ["m", "many"] spNext := (ok_next FN T.toTxt).mono (by decide)
  have GM : FnOk P w K mg base CX0 2 fM fdM ["m", "many"] spNamesV := ok_namesV FM T.toTxtN FN bN
  refine F.ok scSt (fun vs H Q E h => ?_) (fun cdv A outer s H vs Q E hr h => ?_)
  · obtain ⟨m, l, n, rfl, _⟩ := h
    rfl
  · obtain ⟨m, l, n, rfl, M, hn, q⟩ := h
    refine ⟨_, pss_cons (ps_set (i := 1) scSt.nd rfl (by first | exact Or.inl rfl | exact Or.inr rfl) (pe_lst (pa_cons (pe_tup (pa_cons pe_int pa_nil)) (pa_cons (pe_tup (pa_cons pe_int pa_nil)) (pa_cons (pe_tup (pa_cons pe_int pa_nil)) (pa_cons (pe_tup (pa_cons pe_int (pa_cons pe_int pa_nil))) (pa_cons (pe_tup (pa_cons pe_int (pa_cons pe_int pa_nil))) (pa_cons (pe_tup (pa_cons pe_int (pa_cons pe_int pa_nil))) (pa_cons (pe_tup (pa_cons pe_int (pa_cons pe_int pa_nil))) (pa_cons (pe_tup (pa_cons pe_int (pa_cons pe_int pa_nil))) (pa_cons (pe_tup (pa_cons pe_int (pa_cons pe_int pa_nil))) (pa_cons (pe_tup (pa_cons pe_int (pa_cons pe_int (pa_cons pe_int pa_nil)))) (pa_cons (pe_tup (pa_cons pe_int (pa_cons pe_int (pa_cons pe_int pa_nil)))) (pa_cons (pe_tup (pa_cons pe_int (pa_cons pe_int (pa_cons pe_int pa_nil)))) pa_nil))))))))))))))
      (pss_cons (ps_set (i := 2) scSt.nd rfl (by first | exact Or.inl rfl | exact Or.inr rfl) (pe_ix ix_list (pv 1) (pe_call GN hr rfl T.next FN.kp bN .nil pass0 (pa_cons (pv 0) (pa_cons pe_int pa_nil))) (fun _ _ => rfl)))
      (pss_one (ps_ret (pe_callTy call_tuple_of (by rfl) T.tuple (by decide +kernel) (pa_cons (pe_lc (own := [("name", 3), ("most", 4)]) (g := gTup K 2 (gCons (gName 3) (gCons (gName 4) gNil))) (by rfl) scSt.nd
        (pi_zm (by rfl) T.zip (pa_cons (pe_call GM hr rfl T.names FM.kp bM .nil pass0 (pa_cons (pv 0) (pa_cons (pe_callB call_len (by rfl) T.len PySem.boot_len (pa_cons (pv 2) pa_nil)) pa_nil))) (pa_cons (pv 2) pa_nil)))
        (blkOk_by (own := [("name", 3), ("most", 4)]) (N := NS) (sc := defScope sSettings) (by decide +kernel))
        (fun _ _ _ _ _ => pg_tup rfl (pgs_cons (pg_name (i := 3) scSt.nd rfl (Or.inl rfl)) (pgs_cons (pg_name (i := 4) scSt.nd rfl (Or.inl rfl)) pgs_nil))) (fun _ _ _ _ _ => pts_nil)
        (fun _ _ _ _ _ => pe_tup (pa_cons (pv 3) (pa_cons (pv 4) pa_nil)))) pa_nil))))), ?_⟩
    refine ⟨(by show 1 ≤ sizeLine; decide), fun p1 h1 => ?_⟩
    obtain ⟨G1, e1⟩ : ∃ G, G = upd H p1 (.tup [.int 1]) := ⟨_, rfl⟩
    rw [← e1]
    have s1 : Same H G1 := e1 ▸ Same.upd h1
    have M1 := M.same s1
    have f1 : Fr m l l H G1 := e1 ▸ (Fr.refl M).junk h1
    have a1_1 : MoV G1 p1 := ⟨[1], by rw [e1, upd_same]; rfl, by decide, by decide, by decide, by decide⟩
    refine ⟨(by show 1 ≤ sizeLine; decide), fun p2 h2 => ?_⟩
    obtain ⟨G2, e2⟩ : ∃ G, G = upd G1 p2 (.tup [.int 2]) := ⟨_, rfl⟩
    rw [← e2]
    have s2 : Same G1 G2 := e2 ▸ Same.upd h2
    have M2 := M1.same s2
    have f2 : Fr m l l H G2 := e2 ▸ f1.junk h2
    have a2_2 : MoV G2 p2 := ⟨[2], by rw [e2, upd_same]; rfl, by decide, by decide, by decide, by decide⟩
    have a1_2 := a1_1.same s2
    refine ⟨(by show 1 ≤ sizeLine; decide), fun p3 h3 => ?_⟩
    obtain ⟨G3, e3⟩ : ∃ G, G = upd G2 p3 (.tup [.int 3]) := ⟨_, rfl⟩
    rw [← e3]
    have s3 : Same G2 G3 := e3 ▸ Same.upd h3
    have M3 := M2.same s3
    have f3 : Fr m l l H G3 := e3 ▸ f2.junk h3
    have a3_3 : MoV G3 p3 := ⟨[3], by rw [e3, upd_same]; rfl, by decide, by decide, by decide, by decide⟩
    have a1_3 := a1_2.same s3
    have a2_3 := a2_2.same s3
    refine ⟨(by show 2 ≤ sizeLine; decide), fun p4 h4 => ?_⟩
    obtain ⟨G4, e4⟩ : ∃ G, G = upd G3 p4 (.tup [.int 1, .int 1]) := ⟨_, rfl⟩
    rw [← e4]
    have s4 : Same G3 G4 := e4 ▸ Same.upd h4
    have M4 := M3.same s4
    have f4 : Fr m l l H G4 := e4 ▸ f3.junk h4
    have a4_4 : MoV G4 p4 := ⟨[1, 1], by rw [e4, upd_same]; rfl, by decide, by decide, by decide, by decide⟩
    have a1_4 := a1_3.same s4
    have a2_4 := a2_3.same s4
    have a3_4 := a3_3.same s4
    refine ⟨(by show 2 ≤ sizeLine; decide), fun p5 h5 => ?_⟩
    obtain ⟨G5, e5⟩ : ∃ G, G = upd G4 p5 (.tup [.int 1, .int 2]) := ⟨_, rfl⟩
    rw [← e5]
    have s5 : Same G4 G5 := e5 ▸ Same.upd h5
    have M5 := M4.same s5
    have f5 : Fr m l l H G5 := e5 ▸ f4.junk h5
    have a5_5 : MoV G5 p5 := ⟨[1, 2], by rw [e5, upd_same]; rfl, by decide, by decide, by decide, by decide⟩
    have a1_5 := a1_4.same s5
    have a2_5 := a2_4.same s5
    have a3_5 := a3_4.same s5
    have a4_5 := a4_4.same s5
    refine ⟨(by show 2 ≤ sizeLine; decide), fun p6 h6 => ?_⟩
    obtain ⟨G6, e6⟩ : ∃ G, G = upd G5 p6 (.tup [.int 2, .int 1]) := ⟨_, rfl⟩
    rw [← e6]
    have s6 : Same G5 G6 := e6 ▸ Same.upd h6
    have M6 := M5.same s6
    have f6 : Fr m l l H G6 := e6 ▸ f5.junk h6
    have a6_6 : MoV G6 p6 := ⟨[2, 1], by rw [e6, upd_same]; rfl, by decide, by decide, by decide, by decide⟩
    have a1_6 := a1_5.same s6
    have a2_6 := a2_5.same s6
    have a3_6 := a3_5.same s6
    have a4_6 := a4_5.same s6
    have a5_6 := a5_5.same s6
    refine ⟨(by show 2 ≤ sizeLine; decide), fun p7 h7 => ?_⟩
    obtain ⟨G7, e7⟩ : ∃ G, G = upd G6 p7 (.tup [.int 2, .int 2]) := ⟨_, rfl⟩
    rw [← e7]
    have s7 : Same G6 G7 := e7 ▸ Same.upd h7
    have M7 := M6.same s7
    have f7 : Fr m l l H G7 := e7 ▸ f6.junk h7
    have a7_7 : MoV G7 p7 := ⟨[2, 2], by rw [e7, upd_same]; rfl, by decide, by decide, by decide, by decide⟩
    have a1_7 := a1_6.same s7
    have a2_7 := a2_6.same s7
    have a3_7 := a3_6.same s7
    have a4_7 := a4_6.same s7
    have a5_7 := a5_6.same s7
    have a6_7 := a6_6.same s7
    refine ⟨(by show 2 ≤ sizeLine; decide), fun p8 h8 => ?_⟩
    obtain ⟨G8, e8⟩ : ∃ G, G = upd G7 p8 (.tup [.int 1, .int 3]) := ⟨_, rfl⟩
    rw [← e8]
    have s8 : Same G7 G8 := e8 ▸ Same.upd h8
    have M8 := M7.same s8
    have f8 : Fr m l l H G8 := e8 ▸ f7.junk h8
    have a8_8 : MoV G8 p8 := ⟨[1, 3], by rw [e8, upd_same]; rfl, by decide, by decide, by decide, by decide⟩
    have a1_8 := a1_7.same s8
    have a2_8 := a2_7.same s8
    have a3_8 := a3_7.same s8
    have a4_8 := a4_7.same s8
    have a5_8 := a5_7.same s8
    have a6_8 := a6_7.same s8
    have a7_8 := a7_7.same s8
    refine ⟨(by show 2 ≤ sizeLine; decide), fun p9 h9 => ?_⟩
    obtain ⟨G9, e9⟩ : ∃ G, G = upd G8 p9 (.tup [.int 3, .int 2]) := ⟨_, rfl⟩
    rw [← e9]
    have s9 : Same G8 G9 := e9 ▸ Same.upd h9
    have M9 := M8.same s9
    have f9 : Fr m l l H G9 := e9 ▸ f8.junk h9
    have a9_9 : MoV G9 p9 := ⟨[3, 2], by rw [e9, upd_same]; rfl, by decide, by decide, by decide, by decide⟩
    have a1_9 := a1_8.same s9
    have a2_9 := a2_8.same s9
    have a3_9 := a3_8.same s9
    have a4_9 := a4_8.same s9
    have a5_9 := a5_8.same s9
    have a6_9 := a6_8.same s9
    have a7_9 := a7_8.same s9
    have a8_9 := a8_8.same s9
    refine ⟨(by show 3 ≤ sizeLine; decide), fun p10 h10 => ?_⟩
    obtain ⟨G10, e10⟩ : ∃ G, G = upd G9 p10 (.tup [.int 1, .int 1, .int 1]) := ⟨_, rfl⟩
    rw [← e10]
    have s10 : Same G9 G10 := e10 ▸ Same.upd h10
    have M10 := M9.same s10
    have f10 : Fr m l l H G10 := e10 ▸ f9.junk h10
    have a10_10 : MoV G10 p10 := ⟨[1, 1, 1], by rw [e10, upd_same]; rfl, by decide, by decide, by decide, by decide⟩
    have a1_10 := a1_9.same s10
    have a2_10 := a2_9.same s10
    have a3_10 := a3_9.same s10
    have a4_10 := a4_9.same s10
    have a5_10 := a5_9.same s10
    have a6_10 := a6_9.same s10
    have a7_10 := a7_9.same s10
    have a8_10 := a8_9.same s10
    have a9_10 := a9_9.same s10
    refine ⟨(by show 3 ≤ sizeLine; decide), fun p11 h11 => ?_⟩
    obtain ⟨G11, e11⟩ : ∃ G, G = upd G10 p11 (.tup [.int 1, .int 2, .int 1]) := ⟨_, rfl⟩
    rw [← e11]
    have s11 : Same G10 G11 := e11 ▸ Same.upd h11
    have M11 := M10.same s11
    have f11 : Fr m l l H G11 := e11 ▸ f10.junk h11
    have a11_11 : MoV G11 p11 := ⟨[1, 2, 1], by rw [e11, upd_same]; rfl, by decide, by decide, by decide, by decide⟩
    have a1_11 := a1_10.same s11
    have a2_11 := a2_10.same s11
    have a3_11 := a3_10.same s11
    have a4_11 := a4_10.same s11
    have a5_11 := a5_10.same s11
    have a6_11 := a6_10.same s11
    have a7_11 := a7_10.same s11
    have a8_11 := a8_10.same s11
    have a9_11 := a9_10.same s11
    have a10_11 := a10_10.same s11
    refine ⟨(by show 3 ≤ sizeLine; decide), fun p12 h12 => ?_⟩
    obtain ⟨G12, e12⟩ : ∃ G, G = upd G11 p12 (.tup [.int 1, .int 1, .int 2]) := ⟨_, rfl⟩
    rw [← e12]
    have s12 : Same G11 G12 := e12 ▸ Same.upd h12
    have M12 := M11.same s12
    have f12 : Fr m l l H G12 := e12 ▸ f11.junk h12
    have a12_12 : MoV G12 p12 := ⟨[1, 1, 2], by rw [e12, upd_same]; rfl, by decide, by decide, by decide, by decide⟩
    have a1_12 := a1_11.same s12
    have a2_12 := a2_11.same s12
    have a3_12 := a3_11.same s12
    have a4_12 := a4_11.same s12
    have a5_12 := a5_11.same s12
    have a6_12 := a6_11.same s12
    have a7_12 := a7_11.same s12
    have a8_12 := a8_11.same s12
    have a9_12 := a9_11.same s12
    have a10_12 := a10_11.same s12
    have a11_12 := a11_11.same s12
    refine ⟨(by show 12 ≤ sizeLine; decide), fun D hD => ?_⟩
    obtain ⟨G, eG⟩ : ∃ G, G = upd G12 D (.lst [.ref p1, .ref p2, .ref p3, .ref p4, .ref p5, .ref p6, .ref p7, .ref p8, .ref p9, .ref p10, .ref p11, .ref p12]) := ⟨_, rfl⟩
    rw [← eG]
    have sG : Same G12 G := eG ▸ Same.upd hD
    have nD := M12.ne hD
    have MG := M12.same sG
    have fG : Fr m l l H G := eG ▸ f12.junk hD
    have gD : G D = some (.lst [.ref p1, .ref p2, .ref p3, .ref p4, .ref p5, .ref p6, .ref p7, .ref p8, .ref p9, .ref p10, .ref p11, .ref p12]) := by rw [eG, upd_same]
    have pick : ∀ r : Int, 0 ≤ r → r < 12 → ∃ a, atI ([.ref p1, .ref p2, .ref p3, .ref p4, .ref p5, .ref p6, .ref p7, .ref p8, .ref p9, .ref p10, .ref p11, .ref p12] : List V) r = some (.ref a) ∧ MoV G a := by
      intro r h0 h1
      obtain ⟨j, rfl⟩ : ∃ j : Nat, r = (j : Int) := ⟨r.toNat, by omega⟩
      have hj : j < 12 := by omega
      match j, hj with
      | 0, _ => exact ⟨p1, rfl, a1_12.same sG⟩
      | 1, _ => exact ⟨p2, rfl, a2_12.same sG⟩
      | 2, _ => exact ⟨p3, rfl, a3_12.same sG⟩
      | 3, _ => exact ⟨p4, rfl, a4_12.same sG⟩
      | 4, _ => exact ⟨p5, rfl, a5_12.same sG⟩
      | 5, _ => exact ⟨p6, rfl, a6_12.same sG⟩
      | 6, _ => exact ⟨p7, rfl, a7_12.same sG⟩
      | 7, _ => exact ⟨p8, rfl, a8_12.same sG⟩
      | 8, _ => exact ⟨p9, rfl, a9_12.same sG⟩
      | 9, _ => exact ⟨p10, rfl, a10_12.same sG⟩
      | 10, _ => exact ⟨p11, rfl, a11_12.same sG⟩
      | 11, _ => exact ⟨p12, rfl, a12_12.same sG⟩
    clear e1 s1 M1 f1 e2 s2 M2 f2 e3 s3 M3 f3 e4 s4 M4 f4 e5 s5 M5 f5 e6 s6 M6 f6 e7 s7 M7 f7 e8 s8 M8 f8 e9 s9 M9 f9 e10 s10 M10 f10 e11 s11 M11 f11 a1_1 a1_2 a2_2 a1_3 a2_3 a3_3 a1_4 a2_4 a3_4 a4_4 a1_5 a2_5 a3_5 a4_5 a5_5 a1_6 a2_6 a3_6 a4_6 a5_6 a6_6 a1_7 a2_7 a3_7 a4_7 a5_7 a6_7 a7_7 a1_8 a2_8 a3_8 a4_8 a5_8 a6_8 a7_8 a8_8 a1_9 a2_9 a3_9 a4_9 a5_9 a6_9 a7_9 a8_9 a9_9 a1_10 a2_10 a3_10 a4_10 a5_10 a6_10 a7_10 a8_10 a9_10 a10_10 a1_11 a2_11 a3_11 a4_11 a5_11 a6_11 a7_11 a8_11 a9_11 a10_11 a11_11 a1_12 a2_12 a3_12 a4_12 a5_12 a6_12 a7_12 a8_12 a9_12 a10_12 a11_12 a12_12
    refine ⟨_, rfl, _, rfl, m, l, n, 12, rfl, MG, by omega, by decide, by decide, fun r l1 H1 r0 r1 M1 f1' => ?_⟩
    obtain ⟨a, ha, mo⟩ := pick r r0 r1
    refine ⟨D, _, r, .ref a, rfl, rfl, SqL.of (f1'.keep D _ gD nD.1 nD.2), ha, ?_⟩
    obtain ⟨ms, hms, ml1, ml3, msok, mfew⟩ := mo
    have am : a ≠ m ∧ a ≠ l := by
      obtain ⟨c, cs, ls, z, dm, dc, dl, _⟩ := MG.ex
      exact ⟨ne_of hms dm (by intro q; cases q), ne_of hms dl (by intro q; cases q)⟩
    have ka : H1 a = some (.tup (ms.map V.int)) := f1'.keep a _ hms am.1 am.2
    have F1 : Fr m l l1 H H1 := fG.trans f1'
    clear pick gD eG sG MG fG hD e12 s12 M12 f12 h12 h11 h10 h9 h8 h7 h6 h5 h4 h3 h2 h1 ha f1' hms
    have lenA : ((ms.map V.int).length : Nat) = ms.length := List.length_map ..
    refine ⟨_, rfl, _, rfl, _, _, rfl, .inr ⟨_, SqT.of ka, rfl⟩, ?_⟩
    refine ⟨m, l1, n + 1, (ms.map V.int).length, rfl, M1, by omega, by omega, by omega, fun N ys l2 H2 hN gN yl yn yo nm nl M2 f2 => ?_⟩
    have F2 := F1.trans f2
    have ka2 : H2 a = some (.tup (ms.map V.int)) := f2.keep a _ ka am.1 (by
      obtain ⟨c, cs, ls, z, dm, dc, dl, _⟩ := M1.ex
      exact ne_of ka dl (by intro q; cases q))
    refine ⟨_, rfl, N, a, _, _, rfl, SqL.of gN, .inl (.inl ka2), fun D2 hD2 => ?_⟩
    have yl' : ys.length = ms.length := yl.trans lenA
    refine lc_it (walk_zm (xs := ys.map V.str) (ys := ms.map V.int) (n := ms.length) (by simp [yl'])) (fun i H3 => ∃ as : List Addr, as.length = i ∧ Prs H3 as ((ys.zip ms).take i) ∧ (∀ b ∈ as, b ≠ D2) ∧ H3 D2 = some (.lst (as.map V.ref)) ∧ Same H2 H3)
      ⟨[], rfl, .nil, (fun _ hb => nomatch hb), upd_same, Same.upd hD2⟩ (fun i H3 _ ⟨as, _, _, _, _, s3⟩ => ⟨SqL.of (s3 _ _ gN), SqT.of (s3 _ _ ka2)⟩) ?_ ?_
    · rintro i x H3 H4 hi ⟨as, al, pr, nd, gd, s3⟩ ⟨T, x1, x2, rfl, hT, rfl, e1, e2⟩
      have hy : i < ys.length := by omega
      have e1' : x1 = .str ys[i] := by simp [hy] at e1; exact e1.symm
      have e2' : x2 = .int ms[i] := by simp [hi] at e2; exact e2.symm
      subst e1' e2'
      refine ⟨T, _, rfl, .inl (.inl upd_same), rfl, _, _, rfl, _, _, rfl, rfl, rfl, tyes ?_⟩
      refine ⟨_, rfl, _, rfl, (by show 2 ≤ sizeLine; decide), fun p hp => ?_⟩
      have sT : Same H3 (upd H3 T (.tup [.str ys[i], .int ms[i]])) := Same.upd hT
      have sp : Same (upd H3 T (.tup [.str ys[i], .int ms[i]])) (upd (upd H3 T (.tup [.str ys[i], .int ms[i]])) p (.tup [.str ys[i], .int ms[i]])) := Same.upd hp
      have nDp : p ≠ D2 := fun e => by rw [e, sT _ _ gd] at hp; cases hp
      refine ⟨_, sp _ _ (sT _ _ gd), small1000 (by rw [List.length_map]; omega), as ++ [p], by simp [al], ?_, ?_, ?_, ?_⟩
      · rw [List.take_succ]
        have ez : (ys.zip ms)[i]? = some (ys[i], ms[i]) := by rw [List.getElem?_zip_eq_some]; exact ⟨List.getElem?_eq_getElem hy, List.getElem?_eq_getElem hi⟩
        rw [ez]
        refine Prs.snoc (Prs.same (fun b o hb e => ?_) pr) ?_
        · rw [upd_ne (nd b hb)]; exact sp _ _ (sT _ _ e)
        · rw [upd_ne nDp, upd_same]
      · intro b hb
        rcases List.mem_append.mp hb with hb | hb
        · exact nd b hb
        · rw [List.mem_singleton.mp hb]; exact nDp
      · rw [upd_same, List.map_append]; rfl
      · intro b o e
        have nb : b ≠ D2 := ne_of_none e hD2
        rw [upd_ne nb]; exact sp _ _ (sT _ _ (s3 _ _ e))
    · rintro H3 ⟨as, al, pr, nd, gd, s3⟩
      have lz : (ys.zip ms).length = ms.length := by simp [yl']
      rw [List.take_of_length_le (by omega)] at pr
      refine ⟨D2, _, rfl, .inl ⟨SqL.of gd, fun p hp => ?_⟩⟩
      have sp : Same H3 (upd H3 p (.tup (as.map V.ref))) := Same.upd hp
      have so : SetOk (ys.zip ms) := by
        refine ⟨by omega, by omega, fun y hy => yo _ (List.of_mem_zip hy).1, fun y hy => msok _ (List.of_mem_zip hy).2, by rw [zip_fst ys ms yl']; exact yn, ?_⟩
        unfold many
        rw [zip_many ys ms 1 yl']; exact mfew
      exact q p as (ys.zip ms) l2 _ upd_same (pr.same fun b o _ e => sp b o e) so ((((M2.same s3).same sp)).mono (by omega)) ((F2.trail s3).trail sp)
end
end Ms
namespace Ms
open PySem PySem.Spec PyProof.Rows L2
/-! ### == of data of any kind and a text -/
section
open PySem.SeqAt AutoSeq1 MeetsSeq
theorem dict_no_str (l : Addr) (es : Array DictEntry) (ep : Nat) (dd : Option Addr) (sl : Array (Option Value)) (b : Str) (u : Tok) :
    Meets (Builtin.«dict.__eq__» ⟨[.ref l, .str b u], []⟩) (fun _ R s => s.heap.get? l = some { cls := .type "dict", dict := dd, data := .dict es ep, slots := sl } ∧ R (.ok (.ret .notImplemented)) s) :=
  .of_wp fun prog w A R s h => by obtain ⟨hp, g, d, tk, os⟩ := s; obtain ⟨hl, h⟩ := h; have f1 := F.sub_str_dict; wp_walk using wpAny_loadPart' hl; exact ⟨_, rfl, h⟩
theorem str_no_dict (b : Str) (u : Tok) (l : Addr) (c : Value) (es : Array DictEntry) (ep : Nat) (dd : Option Addr) (sl : Array (Option Value)) :
    Meets (Builtin.«str.__eq__» ⟨[.str b u, .ref l], []⟩) (fun _ R s => s.heap.get? l = some { cls := c, dict := dd, data := .dict es ep, slots := sl } ∧ R (.ok (.ret .notImplemented)) s) :=
  .of_wp fun prog w A R s h => by obtain ⟨hp, g, d, tk, os⟩ := s; obtain ⟨hl, h⟩ := h; wp_walk using wpAny_loadPart' hl, wpAny_load hl; exact ⟨_, rfl, h⟩
variable {A : Around} {s : Shared}
theorem rc_dict_str {l : Addr} {o : Obj} {es : Array DictEntry} {ep : Nat} (b : Str) (u : Tok) (ho : s.heap.get? l = some o) (hc : o.cls = .type "dict") (hd : o.data = .dict es ep) (hu : A.units < cLine) : RcAt A s (.ref l) (.str b u) false := fun prog w E Q h => by
  obtain ⟨cls, dd, data, sl⟩ := o
  simp only at hc hd
  subst hc hd
  exact rc_eq_decline_or (k := false) ⟨_, ho, rfl⟩ rfl (by decide) F.sub_str_dict F.slot_dict_eq F.slot_str_eq_refl
    (fun _ hq => call_meets F.slot_dict_eq ⟨_, ho, rfl⟩ F.entry_dict_eq (F.args_dict_eq_2 _ _) (dict_no_str l es ep dd sl b u) ⟨ho, hq⟩)
    (fun _ hq => call_meets F.slot_str_eq_refl rfl F.entry_str_eq (F.args_str_eq_2 _ _) (str_no_dict b u l _ es ep dd sl) ⟨ho, hq⟩)
    (fun _ hq => wpAny_of_eq (rfl : isSame (.ref l) (.str b u) = pure false) hq) (.inr hu) h
theorem rc_str_dict {l : Addr} {o : Obj} {es : Array DictEntry} {ep : Nat} (b : Str) (u : Tok) (ho : s.heap.get? l = some o) (hc : o.cls = .type "dict") (hd : o.data = .dict es ep) (hu : A.units < cLine) : RcAt A s (.str b u) (.ref l) false := fun prog w E Q h => by
  obtain ⟨cls, dd, data, sl⟩ := o
  simp only at hc hd
  subst hc hd
  exact rc_eq_decline_or (k := false) rfl ⟨_, ho, rfl⟩ (by decide) F.sub_dict_str F.slot_str_eq F.slot_dict_eq_refl
    (fun _ hq => call_meets F.slot_str_eq rfl F.entry_str_eq (F.args_str_eq_2 _ _) (str_no_dict b u l _ es ep dd sl) ⟨ho, hq⟩)
    (fun _ hq => call_meets F.slot_dict_eq_refl ⟨_, ho, rfl⟩ F.entry_dict_eq (F.args_dict_eq_2 _ _) (dict_no_str l es ep dd sl b u) ⟨ho, hq⟩)
    (fun _ hq => wpAny_of_eq (rfl : isSame (.str b u) (.ref l) = pure false) hq) (.inr hu) h
end
/-- whether data is this text -/
def isTxt (d : PyData) (w : Str) : Bool := match d with | .str z => z == w | _ => false
section
open PySem.SeqAt
variable {X : Cx} {pins : List (Addr × Obj)} {σ : L2.St} {H : Hp} {s : Shared} {m l : Addr}
theorem Dq.rcTxt (I : Inv X pins σ H s) {A : Around} (hu : A.units < cLine) {v : V} {d : PyData} {u : Value} (h : Dq X.K H m l v d) (r : RelV v u) (w : Str) (t : Tok) : RcAt A s u (.str w t) (isTxt d w) ∧ RcAt A s (.str w t) u (isTxt d w) := by
  cases h with
  | non => cases r; exact ⟨RcAt.none_str w t, RcAt.str_none w t⟩
  | bl b => cases r; exact ⟨RcAt.bool_str b w t, RcAt.str_bool w t b⟩
  | int i => obtain ⟨t', rfl⟩ := r; exact ⟨RcAt.int_str i t' w t, RcAt.str_int w t i t'⟩
  | str z =>
    obtain ⟨t', rfl⟩ := r
    have e : (w == z) = (z == w) := by rw [Bool.eq_iff_iff, beq_iff_eq, beq_iff_eq]; exact eq_comm
    exact ⟨RcAt.str_str z t' w t, by show RcAt A s (.str w t) (.str z t') (z == w); rw [← e]; exact RcAt.str_str w t z t'⟩
  | lst e n1 n2 g =>
    cases r
    obtain ⟨its, rv, p, _⟩ := I.list (SqL.of e)
    exact ⟨RcAt.list_str w t p.isList hu, RcAt.str_list w t p.isList hu⟩
  | tup e g =>
    cases r
    obtain ⟨its, rv, p, _⟩ := I.tuple e
    exact ⟨RcAt.tuple_str w t p hu, RcAt.str_tuple w t p hu⟩
  | dct e n1 n2 =>
    cases r
    obtain ⟨z, hd, vs, rel, dd⟩ := dk_of I.hok e
    obtain ⟨o, es, ep, ho, hc, hdat, hlay⟩ := id dd
    exact ⟨rc_dict_str w t ho hc.1 hdat hu, rc_str_dict w t ho hc.1 hdat hu⟩
theorem Dq.eqTxt (I : Inv X pins σ H s) {A : Around} (hu : A.units < cLine) {v : V} {d : PyData} {u : Value} (h : Dq X.K H m l v d) (r : RelV v u) (w : Str) (t : Tok) : EqAt A s u (.str w t) (isTxt d w) := by
  cases h with
  | non => cases r; exact EqAt.none_str w t
  | bl b => cases r; exact EqAt.bool_str b w t
  | int i => obtain ⟨t', rfl⟩ := r; exact EqAt.int_str i t' w t
  | str z => obtain ⟨t', rfl⟩ := r; exact EqAt.str_str z t' w t
  | lst e n1 n2 g =>
    cases r
    obtain ⟨its, rv, p, _⟩ := I.list (SqL.of e)
    exact EqAt.list_str w t p.isList hu
  | tup e g =>
    cases r
    obtain ⟨its, rv, p, _⟩ := I.tuple e
    exact EqAt.tuple_str w t p hu
  | dct e n1 n2 =>
    cases r
    obtain ⟨z, hd, vs, rel, dd⟩ := dk_of I.hok e
    obtain ⟨o, es, ep, ho, hc, hdat, hlay⟩ := id dd
    intro prog w' E Q' hq
    unfold eqBool
    refine wpAny_holding ?_
    refine wpAny_ite_split (fun hab => absurd (eq_of_beq hab) nofun) (fun _ => ?_)
    exact wpAny_bind (rc_dict_str w t ho hc.1 hdat hu prog w' E _ (wpAny_truthy_bool hq))
end
section
variable {X : Cx}
/-- data == a text -/
def rEqT (K : PySem.W.Frag) : R2 := fun x y H Q => ∃ d m l w, Dq K H m l x d ∧ y = .str w ∧ Q (.bl (isTxt d w)) H
/-- a text == data -/
def rTEq (K : PySem.W.Frag) : R2 := fun x y H Q => ∃ d m l w, x = .str w ∧ Dq K H m l y d ∧ Q (.bl (isTxt d w)) H
theorem op_eqT (hu : X.A.units + 64 < cLine) : OpR X (compareOp .Eq) (rEqT X.K) := by
  intro pins s σ H x y v u Q I rx ry h
  obtain ⟨d, m, l, w, hd, rfl, q⟩ := h
  obtain ⟨t, rfl⟩ := ry
  exact (hd.rcTxt I (A := X.A) (by omega) rx w t).1 X.prog X.w _ _ ⟨.bl _, H, I, rfl, q⟩
theorem op_Teq (hu : X.A.units + 64 < cLine) : OpR X (compareOp .Eq) (rTEq X.K) := by
  intro pins s σ H x y v u Q I rx ry h
  obtain ⟨d, m, l, w, rfl, hd, q⟩ := h
  obtain ⟨t, rfl⟩ := rx
  exact (hd.rcTxt I (A := X.A) (by omega) ry w t).2 X.prog X.w _ _ ⟨.bl _, H, I, rfl, q⟩
/-- a tuple of data == a tuple of one text -/
def isEnd (d : PyData) (w : Str) : Bool := match d with | .tuple [x] => isTxt x w | _ => false
def rEqE (K : PySem.W.Frag) : R2 := fun x y H Q => ∃ a b m l xs ds w, x = .ref a ∧ y = .ref b ∧ SqT K H a xs ∧ DqAll K H m l xs ds ∧ SqT K H b [.str w] ∧ Q (.bl (isEnd (.tuple ds) w)) H
theorem op_eqE (hu : X.A.units + 64 < cLine) : OpR X (compareOp .Eq) (rEqE X.K) := by
  intro pins s σ H x y v u Q I rx ry h
  obtain ⟨a, b, m, l, xs, ds, w, rfl, rfl, ha, hx, hb, q⟩ := h
  cases rx
  cases ry
  obtain ⟨its, r1, p1, _⟩ := I.tuple ha
  obtain ⟨its2, r2, p2, _⟩ := I.tuple hb
  obtain ⟨t, e2⟩ : ∃ t, its2 = [Value.str w t] := by
    cases r2 with
    | cons r r' =>
      cases r'
      obtain ⟨t, rfl⟩ := r
      exact ⟨t, rfl⟩
  subst e2
  have hl := r1.length
  have ln := hx.len
  cases xs with
  | nil =>
    cases r1
    have ed : ds = [] := by cases ds with | nil => rfl | cons _ _ => simp at ln
    subst ed
    exact PySem.SeqAt.eq_tupleAt (e := fun _ => true) p1 p2 (by omega) (fun j h1 _ => by simp at h1) ⟨.bl _, H, I, rfl, q⟩
  | cons x0 xr =>
    cases r1 with
    | @cons _ u0 _ ur ra rr =>
    cases hx with
    | @cons _ _ d0 dr g0 gr =>
    have at0 : PySem.SeqAt.EqAt X.A.in1 s u0 (.str w t) (isTxt d0 w) := g0.eqTxt I (A := X.A.in1) (by show X.A.units + 1 < cLine; omega) ra w t
    refine PySem.SeqAt.eq_tupleAt (e := fun _ => isTxt d0 w) p1 p2 (by omega) (fun j h1 h2 => ?_) ?_
    · have ej : j = 0 := by simp at h2; omega
      subst ej
      simpa using at0
    · have ev : ((List.range (min (u0 :: ur).toArray.size [Value.str w t].toArray.size)).all (fun _ => isTxt d0 w) && (u0 :: ur).toArray.size == [Value.str w t].toArray.size) = isEnd (.tuple (d0 :: dr)) w := by
        have l2 : ur.length = dr.length := by
          have := rr.length
          have := gr.len
          omega
        have e1 : (u0 :: ur).toArray.size = ur.length + 1 := by simp
        have e2 : [Value.str w t].toArray.size = 1 := by simp
        have e3 : min (ur.length + 1) 1 = 1 := by omega
        rw [e1, e2, e3, l2]
        cases dr with
        | nil => simp [isEnd, List.range, List.range.loop]
        | cons d1 d2 => simp [isEnd]
      rw [ev]
      exact ⟨.bl _, H, I, rfl, q⟩
end
end Ms
namespace Ms
open PySem PySem.Spec PyProof.Rows L2
/-! ### tuple * n, n from 1 on -/
section
open AutoSeq1 MeetsSeq
theorem tuple_mul1 (l : Addr) (items : Array Value) (n : Nat) (dd : Option Addr) (sl : Array (Option Value)) (u : Tok) :
    Meets (Builtin.«tuple.__mul__» ⟨[.ref l, .int 1 u], []⟩) (fun _ R s => s.heap.get? l = some { cls := .type "tuple", dict := dd, data := .seq items n, slots := sl } ∧ R (.ok (.ret (Value.ref l))) s) :=
  .of_wp fun prog w A R s h => by
    obtain ⟨hp, g, d, tk, os⟩ := s
    obtain ⟨hl, h⟩ := h
    have f1 := AutoSeq1.idx_int
    have c1 : (items.isEmpty || ((1 : Int) == 1)) = true := by simp
    wp_walk using wpAny_loadPart' hl
    repeat (first
      | (refine wpAny_ite_true (decide_eq_true c1) ?_; wp_walk using wpAny_loadPart' hl)
      | (refine wpAny_ite_false (by decide) ?_; wp_walk using wpAny_loadPart' hl))
    exact ⟨_, rfl, h⟩
end
def rRep1 (K : PySem.W.Frag) : R2 := fun x y H Q => ∃ l k xs, x = .ref l ∧ y = .int k ∧ SqT K H l xs ∧ xs ≠ [] ∧ 1 ≤ k ∧ k ≤ 1000 ∧ xs.length ≤ 1000 ∧ (k = 1 → Q (.ref l) H) ∧ (2 ≤ k → ∀ p, H p = none → Q (.ref p) (upd H p (.tup (List.replicate k.toNat xs).flatten)))
section
variable {X : Cx}
theorem op_rep1 : OpR X (binaryOp .Mult) (rRep1 X.K) := by
  intro pins s σ H x y v u Q I rx ry h
  obtain ⟨l, k, xs, rfl, rfl, hT, hne, h1, h2, hz, q1, q2⟩ := h
  by_cases hk : 2 ≤ k
  · exact op_repT pins s σ H _ _ v u Q I rx ry ⟨l, k, xs, rfl, rfl, hT, hne, hk, h2, hz, q2 hk⟩
  · obtain rfl : k = 1 := by omega
    cases rx
    obtain ⟨t, rfl⟩ := ry
    obtain ⟨its, r, ⟨⟨cls, dd, data, sl⟩, ho, hc, n, hd⟩, hs⟩ := I.tuple hT
    simp only at hc hd
    subst hc hd
    exact wpAny_binaryOp_repeat_ref (T := "tuple") (U := "int") (by decide) ⟨_, ho, rfl⟩ (fun s' => typeIs_int s' 1 t) noFill_tuple_mul F.fills_int_mul F.slot_int_rmul repeat_tuple F.slot_int_index.lookup
      (call_meets F.slot_int_rmul (typeIs_int s 1 t) F.entry_int_rmul (F.args_int_rmul_2 _ _) (int_rmul_tuple 1 t l its.toArray n dd sl)
        ⟨ho, rfl, ⟨_, ho, rfl⟩, call_meets F.slot_tuple_mul ⟨_, ho, rfl⟩ F.entry_tuple_mul (F.args_tuple_mul_2 _ _) (tuple_mul1 l its.toArray n dd sl t) ⟨ho, ⟨.ref l, H, I, rfl, q1 rfl⟩⟩⟩)
end
end Ms
namespace Ms
open PySem PySem.Spec PyProof.Rows L2
/-! ### the package's requests: is_number, is_ask, is_place, is_mode -/
structure TxtR (mg : Str → Option Value) (fI fN fS fA fG fNu fAs fPl fMo fNP fNM fNd aE aM : Addr) : Prop extends TxtP mg fI fN fS fA fG where
  gNu : mg "is_number" = some (.ref fNu)
  gAs : mg "is_ask" = some (.ref fAs)
  gPl : mg "is_place" = some (.ref fPl)
  gMo : mg "is_mode" = some (.ref fMo)
  gNP : mg "need_places" = some (.ref fNP)
  gNM : mg "need_modes" = some (.ref fNM)
  gNd : mg "need_settings" = some (.ref fNd)
  gE : mg "END" = some (.ref aE)
  gM : mg "MODES" = some (.ref aM)
  mP : ∃ t, mg "MOST_PLACES" = some (.int 16 t)
def nextsD (n k : Int) (d : PyData) : Bool := match d with
  | .tuple es => decide ((es.length : Int) = k + 1) && es.all fun e => isWhole e 0 (n - 1)
  | _ => false
def askD (n : Int) (d1 d2 : PyData) : List (Str × Int) → Bool
  | [] => false
  | q :: qs => if isTxt d1 q.1 = true then nextsD n q.2 d2 else askD n d1 d2 qs
def placeD (qs : List (Str × Int)) (n : Int) (d : PyData) : Bool := match d with
  | .tuple ds => if ds.length = 3 ∧ isTxt (ds.getD 0 .none) "do" = true then isName (ds.getD 1 .none) && isWhole (ds.getD 2 .none) 0 (n - 1)
      else if ds.length = 3 ∧ isTxt (ds.getD 0 .none) "ask" = true then askD n (ds.getD 1 .none) (ds.getD 2 .none) qs
      else isEnd (.tuple ds) "end"
  | _ => false
def isMode (d : PyData) : Bool := match d with | .str z => decide (z ∈ (["live", "met", "begin"] : List Str)) | _ => false
section
variable {P : Program} {w : World} {K : PySem.W.Frag} {mg : Str → Option Value} {base : Heap} {fI fN fS fA fG fNu fAs fPl fMo fNP fNM fNd aE aM : Addr}
theorem scNu : FnScope ["many", "thing"] ["many", "thing"] (defScope sPNum) := ⟨rfl, rfl, rfl, by decide +kernel, rfl, by decide +kernel, by decide +kernel⟩
def spNum (K : PySem.W.Frag) : Sp := fun vs H Q _ => ∃ (m l : Addr) (v : V) (d : PyData) (n : Int), vs = [.int n, v] ∧ Dq K H m l v d ∧ Q (.bl (isWhole d 0 (n - 1))) H
theorem ok_num {f : Addr} {fd fdI : FuncData} (F : Fun K "is_number" "is_number" sPNum f fd) (T : TxtP mg fI fN fS fA fG) (FI : Fun K "is_int" "is_int" sPInt fI fdI) (bI : Binds K fdI ["thing"] []) : FnOk P w K mg base CX0 2 f fd ["many", "thing"] (spNum K) := by
  have GI : FnOk P w K mg base CX0 1 fI fdI ["thing"] (spPInt K) := ok_pint FI T
  refine F.ok scNu (fun vs H Q E h => ?_) (fun cdv A outer s H vs Q E hr h => ?_)
  · obtain ⟨m, l, v, d, n, rfl, _⟩ := h
    rfl
  · obtain ⟨m, l, v, d, n, rfl, hd, q⟩ := h
    refine ⟨_, pss_one (ps_ret (pe_and (pe_call GI hr rfl T.gI FI.kp bI .nil pass0 (pa_cons (pv 1) pa_nil)) (pe_one (pe_chain op_le op_lt pe_int (pv 1) (pv 0))))), ?_⟩
    refine ⟨_, rfl, m, l, v, d, rfl, hd, _, rfl, ite_b (fun e => ?_) (fun e => ?_)⟩
    · obtain ⟨j, rfl⟩ : ∃ j, d = .int j := by
        cases d <;> first | exact ⟨_, rfl⟩ | cases e
      cases hd
      refine ⟨_, rfl, 0, j, rfl, rfl, _, rfl, ite_b (fun e1 => ⟨_, rfl, j, n, rfl, rfl, ?_⟩) (fun e1 => ?_)⟩
      · have z : isWhole (.int j) 0 (n - 1) = decide (j < n) := by
          show (decide (0 ≤ j) && decide (j ≤ n - 1)) = _
          rw [e1, Bool.true_and, Bool.eq_iff_iff, decide_eq_true_eq, decide_eq_true_eq]; omega
        rw [z] at q; exact q
      · have z : isWhole (.int j) 0 (n - 1) = false := by show (decide (0 ≤ j) && decide (j ≤ n - 1)) = _; rw [e1]; rfl
        rw [z] at q; exact q
    · rw [isWhole_int d 0 (n - 1) e] at q
      exact q
/-! is_ask -/
abbrev NAs : List Str := ["settings", "many", "setting", "nexts", "name", "most", "right", "number"]
theorem scAs : FnScope NAs ["settings", "many", "setting", "nexts"] (defScope sPAsk) := ⟨rfl, rfl, rfl, by decide +kernel, rfl, by decide +kernel, by decide +kernel⟩
def spAsk (K : PySem.W.Frag) : Sp := fun vs H Q _ => ∃ (m l a : Addr) (xs : List V) (qs : List (Str × Int)) (n : Int) (v1 v2 : V) (d1 d2 : PyData), vs = [.ref a, .int n, v1, v2] ∧ SqT K H a xs ∧ PrTs K H xs qs ∧ Dq K H m l v1 d1 ∧ Dq K H m l v2 d2 ∧
  (∀ es, d2 = .tuple es → es.length ≤ 100000) ∧ ∀ H', Same H H' → Q (.bl (askD n d1 d2 qs)) H'
theorem ok_ask {f : Addr} {fd fdI fdNu : FuncData} (F : Fun K "is_ask" "is_ask" sPAsk f fd) (T : TxtR mg fI fN fS fA fG fNu fAs fPl fMo fNP fNM fNd aE aM) (FI : Fun K "is_int" "is_int" sPInt fI fdI) (bI : Binds K fdI ["thing"] [])
    (FNu : Fun K "is_number" "is_number" sPNum fNu fdNu) (bNu : Binds K fdNu ["many", "thing"] []) : FnOk P w K mg base CX0 3 f fd ["settings", "many", "setting", "nexts"] (spAsk K) := by
  have GNu : FnOk P w K mg base CX0 2 fNu fdNu ["many", "thing"] (spNum K) := ok_num FNu T.toTxtP FI bI
  refine F.ok scAs (fun vs H Q E h => ?_) (fun cdv A outer s H vs Q E hr h => ?_)
  · obtain ⟨m, l, a, xs, qs, n, v1, v2, d1, d2, rfl, _⟩ := h
    rfl
  · obtain ⟨m, l, a, xs, qs, n, v1, v2, d1, d2, rfl, hs, hp, h1, h2, hz, q⟩ := h
    refine ⟨_, pss_cons (ps_for PassesOwn.never rfl (pi_tup (pv 0)) (pg_tup rfl (pgs_cons (pg_name (i := 4) scAs.nd rfl (by first | exact Or.inl rfl | exact Or.inr rfl)) (pgs_cons (pg_name (i := 5) scAs.nd rfl (by first | exact Or.inl rfl | exact Or.inr rfl)) pgs_nil)))
        (pss_one (ps_if (pt_cmpR (op_Teq hr.units) (pv 4) (pv 2) (nomark _))
          (pss_cons (ps_set (i := 6) scAs.nd rfl (by first | exact Or.inl rfl | exact Or.inr rfl) (pe_and (pe_callB call_isi (by rfl) T.isi PyProof.Rows.boot_isinstance (pa_cons (pv 3) (pa_cons (pe_bltn (v := .ty "tuple") (u := .type "tuple") (by rfl) T.tuple (by decide +kernel) rfl) pa_nil))) (pe_one (pe_cmpR op_eq (pe_callB call_len (by rfl) T.len PySem.boot_len (pa_cons (pv 3) pa_nil)) (pe_op op_add (pv 5) pe_int) (nomark _)))))
          (pss_one (ps_ret (pe_and (pv 6) (pe_one (pe_callB (cr_all rfl) (by rfl) T.all (by decide +kernel) (pa_cons (pe_lc (own := [("number", 7)]) (g := gName 7) (by rfl) scAs.nd (pi_tup (pv 3)) (blkOk_by (own := [("number", 7)]) (N := NAs) (sc := defScope sPAsk) (by decide +kernel))
            (fun _ _ _ _ _ => pg_name (i := 7) scAs.nd rfl (Or.inl rfl)) (fun _ _ _ _ _ => pts_nil) (fun _ _ _ _ _ => pe_call GNu hr (by rfl) T.gNu FNu.kp bNu .nil pass0 (pa_cons (pv 1) (pa_cons (pv 7) pa_nil)))) pa_nil)))))))
          pss_nil)))
      (pss_one (ps_ret pe_bl)), ?_⟩
    have ll := hp.len
    refine ⟨_, rfl, a, rfl, ⟨_, hs⟩, ?_⟩
    refine for_it (walk_tup (xs := xs)) (fun i σ H2 => ∃ v4 v5 : Option V, σ = [some (.ref a), some (.int n), some v1, some v2, v4, v5, none, none] ∧ Same H H2 ∧ askD n d1 d2 qs = askD n d1 d2 (qs.drop i)) ⟨none, none, rfl, Same.refl H, rfl⟩ (fun i σ H2 _ ⟨_, _, _, s2, _⟩ => Same.seqT s2 hs) ?_ ?_
    · rintro i x σ H2 H3 hi ⟨v4, v5, rfl, s2, ed⟩ ⟨rfl, hx⟩
      obtain ⟨qq, hq, b, rfl, hb⟩ := hp.get hx
      have hiq : i < qs.length := by omega
      have edr : qs.drop i = qq :: qs.drop (i + 1) := by rw [List.drop_eq_getElem_cons hiq]; rw [(List.getElem?_eq_some_iff.mp hq).2]
      have e1 := Dq.same s2 d1 v1 h1
      have e2 := Dq.same s2 d2 v2 h2
      refine ⟨b, _, rfl, Same.seqT s2 hb, rfl, _, _, rfl, _, _, rfl, rfl, ?_⟩
      refine ⟨_, rfl, _, rfl, d1, m, l, qq.1, rfl, e1, _, rfl, ite_b (fun e => ?_) (fun e => ?_)⟩
      · have ea : askD n d1 d2 qs = nextsD n qq.2 d2 := by
          rw [ed, edr]; simp only [askD, if_pos e]
        refine ⟨_, rfl, v2, .ty "tuple", _, _, _, rfl, .ty _, e2.ty, isi_tup K d2, _, rfl, ?_⟩
        cases d2 with
        | tuple es =>
          cases e2 with
          | tup g2 gx =>
            rename_i p ys
            have ly := gx.len
            have lz := hz es rfl
            refine ifT rfl ⟨_, rfl, .ref p, ys.length, rfl, .inr ⟨ys, g2, rfl⟩, _, rfl, qq.2, 1, rfl, rfl, rfl, ?_⟩
            have ek : decide (V.int ((ys.length : Nat) : Int) = V.int (qq.2 + 1)) = decide ((es.length : Int) = qq.2 + 1) := by
              rw [Bool.eq_iff_iff, decide_eq_true_eq, decide_eq_true_eq, V.int.injEq, ly]
            refine ⟨_, rfl, _, rfl, ite_b (fun ee => ?_) (fun ee => ?_)⟩
            · rw [ek] at ee
              refine ⟨_, rfl, p, rfl, ⟨_, g2⟩, fun D hD => ?_⟩
              have sD : ∀ o, Same H3 (upd H3 D o) := fun o => Same.upd hD
              refine lc_it (walk_tup (xs := ys)) (fun j H4 => H4 = upd H3 D (.lst (((es.take j).map fun e => isWhole e 0 (n - 1)).map V.bl))) rfl (fun j H4 _ e4 => by rw [e4]; exact Same.seqT (sD _) g2) ?_ ?_
              · rintro j y H4 H5 hj e4 ⟨rfl, hy⟩
                obtain ⟨e, he, dqe⟩ := gx.get hy
                have ti : es.take (j + 1) = es.take j ++ [e] := by rw [List.take_succ, he]; rfl
                refine ⟨rfl, tyes ⟨_, rfl, _, rfl, m, l, y, e, n, rfl, by rw [e4]; exact Dq.same (sD _) e y dqe, _, by rw [e4]; exact upd_same, ?_, ?_⟩⟩
                · rw [List.length_map, List.length_map, List.length_take, sizeLine_eq]; omega
                · show upd H5 D _ = _
                  rw [e4, upd_upd, ti, List.map_append, List.map_append]; rfl
              · rintro H4 e4
                rw [List.take_of_length_le (by omega)] at e4
                refine ⟨D, _, rfl, SqL.of (by rw [e4, upd_same]), ?_⟩
                have ev : askD n d1 (.tuple es) qs = (es.map fun e => isWhole e 0 (n - 1)).all id := by
                  rw [ea, List.all_map]; simp only [nextsD, ee, Bool.true_and]; rfl
                rw [ev] at q
                exact q _ (s2.trans (e4 ▸ sD _))
            · rw [ek] at ee
              have ev : askD n d1 (.tuple es) qs = false := by rw [ea]; simp only [nextsD, ee, Bool.false_and]
              rw [ev] at q
              exact q _ s2
        | _ =>
          refine ifF rfl ⟨_, rfl, _, rfl, ifF rfl ?_⟩
          rw [ea] at q
          exact q _ s2
      · refine ⟨_, _, rfl, s2, ?_⟩
        rw [ed, edr]
        have e' : isTxt d1 qq.1 = false := e
        simp only [askD, e', if_neg Bool.false_ne_true]
    · rintro σ H2 ⟨v4, v5, rfl, s2, ed⟩
      rw [List.drop_of_length_le (by omega)] at ed
      rw [ed] at q
      exact q _ s2
end
end Ms
namespace Ms
open PySem PySem.Spec PyProof.Rows L2
section
variable {P : Program} {w : World} {K : PySem.W.Frag} {mg : Str → Option Value} {base : Heap} {fI fN fS fA fG fNu fAs fPl fMo fNP fNM fNd aE aM : Addr}
/-- the written tuples END and MODES -/
structure WrT (K : PySem.W.Frag) (aE aM : Addr) : Prop where
  e : ∀ H, SqT K H aE [.str "end"]
  m : ∀ H, SqT K H aM [.str "live", .str "met", .str "begin"]
theorem len3 {n : Nat} : decide (V.int ((n : Nat) : Int) = V.int 3) = decide (n = 3) := by
  rw [Bool.eq_iff_iff, decide_eq_true_eq, decide_eq_true_eq, V.int.injEq]; omega
theorem scPl : FnScope ["settings", "many", "thing"] ["settings", "many", "thing"] (defScope sPPlace) := ⟨rfl, rfl, rfl, by decide +kernel, rfl, by decide +kernel, by decide +kernel⟩
def spPlace (K : PySem.W.Frag) : Sp := fun vs H Q _ => ∃ (m l a : Addr) (xs : List V) (qs : List (Str × Int)) (n : Int) (v : V) (d : PyData) (B b : Nat), vs = [.ref a, .int n, v] ∧ SqT K H a xs ∧ PrTs K H xs qs ∧ Dq K H m l v d ∧ Gd B 100000 b d ∧
  ∀ H', Same H H' → Q (.bl (placeD qs n d)) H'
theorem ok_place {f : Addr} {fd fdI fdN fdNu fdAs : FuncData} (F : Fun K "is_place" "is_place" sPPlace f fd) (T : TxtR mg fI fN fS fA fG fNu fAs fPl fMo fNP fNM fNd aE aM) (W : WrT K aE aM) (FI : Fun K "is_int" "is_int" sPInt fI fdI) (bI : Binds K fdI ["thing"] [])
    (FN : Fun K "is_name" "is_name" sPName fN fdN) (bN : Binds K fdN ["thing"] []) (FNu : Fun K "is_number" "is_number" sPNum fNu fdNu) (bNu : Binds K fdNu ["many", "thing"] []) (FAs : Fun K "is_ask" "is_ask" sPAsk fAs fdAs) (bAs : Binds K fdAs ["settings", "many", "setting", "nexts"] []) :
    FnOk P w K mg base CX0 4 f fd ["settings", "many", "thing"] (spPlace K) := by
  have GN : FnOk P w K mg base CX0 1 fN fdN ["thing"] (spName K) := ok_pname FN T.toTxtP
  have GNu : FnOk P w K mg base CX0 2 fNu fdNu ["many", "thing"] (spNum K) := ok_num FNu T.toTxtP FI bI
  have GAs : FnOk P w K mg base CX0 3 fAs fdAs ["settings", "many", "setting", "nexts"] (spAsk K) := ok_ask FAs T FI bI FNu bNu
  refine F.ok scPl (fun vs H Q E h => ?_) (fun cdv A outer s H vs Q E hr h => ?_)
  · obtain ⟨m, l, a, xs, qs, n, v, d, B, b, rfl, _⟩ := h
    rfl
  · obtain ⟨m, l, a, xs, qs, n, v, d, B, b, rfl, hs, hp, hd, gd, q⟩ := h
    have hr1 : Room 1 _ := hr.mono (by decide)
    have hr2 : Room 2 _ := hr.mono (by decide)
    refine ⟨_, pss_cons (ps_if (pt_not (pt_val (pe_callB call_isi (by rfl) T.isi PyProof.Rows.boot_isinstance (pa_cons (pv 2) (pa_cons (pe_bltn (v := .ty "tuple") (u := .type "tuple") (by rfl) T.tuple (by decide +kernel) rfl) pa_nil))))) (pss_one (ps_ret pe_bl)) pss_nil)
      (pss_cons (ps_if (PW.pt (pw_and (pt_cmpR op_eq (pe_callB call_len (by rfl) T.len PySem.boot_len (pa_cons (pv 2) pa_nil)) pe_int (nomark _)) (pw_and1 (pt_cmpR (op_eqT hr.units) (pe_ix ix_tup (pv 2) pe_int (fun _ _ => rfl)) pe_str (nomark _)))))
        (pss_one (ps_ret (pe_and (pe_call GN hr1 rfl T.gN FN.kp bN .nil pass0 (pa_cons (pe_ix ix_tup (pv 2) pe_int (fun _ _ => rfl)) pa_nil)) (pe_one (pe_call GNu hr2 rfl T.gNu FNu.kp bNu .nil pass0 (pa_cons (pv 1) (pa_cons (pe_ix ix_tup (pv 2) pe_int (fun _ _ => rfl)) pa_nil))))))) pss_nil)
      (pss_cons (ps_if (PW.pt (pw_and (pt_cmpR op_eq (pe_callB call_len (by rfl) T.len PySem.boot_len (pa_cons (pv 2) pa_nil)) pe_int (nomark _)) (pw_and1 (pt_cmpR (op_eqT hr.units) (pe_ix ix_tup (pv 2) pe_int (fun _ _ => rfl)) pe_str (nomark _)))))
        (pss_one (ps_ret (pe_call GAs hr rfl T.gAs FAs.kp bAs .nil pass0 (pa_cons (pv 0) (pa_cons (pv 1) (pa_cons (pe_ix ix_tup (pv 2) pe_int (fun _ _ => rfl)) (pa_cons (pe_ix ix_tup (pv 2) pe_int (fun _ _ => rfl)) pa_nil))))))) pss_nil)
      (pss_one (ps_ret (pe_cmpR (op_eqE hr.units) (pv 2) (pe_glob (v := .ref aE) rfl T.gE rfl) (nomark _)))))), ?_⟩
    refine ⟨_, rfl, v, .ty "tuple", _, _, _, rfl, .ty _, hd.ty, isi_tup K d, _, rfl, ?_⟩
    cases d with
    | tuple ds =>
      cases hd with
      | tup h0 hx =>
        rename_i p ys
        have ly := hx.len
        obtain ⟨cc, eb, g⟩ := Gd.untup gd
        refine ifF rfl ?_
        have notend : ∀ H', Same H H' → Q (.bl (isEnd (.tuple ds) "end")) H' → SqT K H' p ys ∧ DqAll K H' m l ys ds := fun H' s' _ => ⟨Same.seqT s' h0, DqAll.same s' ds ys hx⟩
        refine ⟨_, rfl, .ref p, ys.length, rfl, .inr ⟨ys, h0, rfl⟩, rfl, _, rfl, ?_⟩
        rw [len3]
        by_cases l3 : ys.length = 3
        · obtain ⟨y0, y1, y2, rfl⟩ : ∃ y0 y1 y2, ys = [y0, y1, y2] := by
            match ys, l3 with
            | [y0, y1, y2], _ => exact ⟨y0, y1, y2, rfl⟩
          obtain ⟨e0, e1, e2, rfl⟩ : ∃ e0 e1 e2, ds = [e0, e1, e2] := by
            match ds, ly with
            | [e0, e1, e2], _ => exact ⟨e0, e1, e2, rfl⟩
          have p0 : placeD qs n (.tuple [e0, e1, e2]) = if isTxt e0 "do" = true then isName e1 && isWhole e2 0 (n - 1) else if isTxt e0 "ask" = true then askD n e1 e2 qs else false := by
            simp only [placeD, isEnd, List.length_cons, List.length_nil, List.getD_cons_zero, List.getD_cons_succ, true_and]
          rw [p0] at q
          obtain ⟨d0, d1, d2⟩ : Dq K H m l y0 e0 ∧ Dq K H m l y1 e1 ∧ Dq K H m l y2 e2 := by
            cases hx with
            | cons a0 h1 => cases h1 with | cons a1 h2 => cases h2 with | cons a2 _ => exact ⟨a0, a1, a2⟩
          have w1 : ∀ z, e1 = .str z → sOk 100000 z := fun z ez => by
            have gz := g.at (i := 1) (d := e1) rfl
            rw [ez] at gz
            have ww := g.wt
            refine gz.unstr.mono ?_
            rw [ez] at ww
            simp only [PyData.weightAll, PyData.weight] at ww ⊢
            omega
          have w2 : ∀ es, e2 = .tuple es → es.length ≤ 100000 := fun es ez => by
            have ww := g.wt
            rw [ez] at ww
            simp only [PyData.weightAll, PyData.weight] at ww
            have := wA_len es
            omega
          refine ifT (by simp) ?_
          refine ⟨_, rfl, p, _, 0, y0, rfl, rfl, h0, rfl, e0, m, l, "do", d0, rfl, _, rfl, ite_b (fun e => ?_) (fun e => ?_)⟩
          · rw [if_pos e] at q
            refine ⟨_, rfl, p, _, 1, y1, rfl, rfl, h0, rfl, m, l, y1, e1, rfl, d1, w1, fun H3 s3 => ⟨_, rfl, ite_b (fun e => ?_) (fun e => ?_)⟩⟩
            · refine ⟨_, rfl, _, rfl, p, _, 2, y2, rfl, rfl, Same.seqT s3 h0, rfl, m, l, y2, e2, n, rfl, Dq.same s3 e2 y2 d2, ?_⟩
              rw [e, Bool.true_and] at q
              exact q _ s3
            · rw [e, Bool.false_and] at q
              exact q _ s3
          · rw [if_neg (by rw [e]; exact Bool.false_ne_true)] at q
            refine ⟨_, rfl, .ref p, 3, rfl, .inr ⟨_, h0, rfl⟩, rfl, _, rfl, ifT (by decide) ?_⟩
            refine ⟨_, rfl, p, _, 0, y0, rfl, rfl, h0, rfl, e0, m, l, "ask", d0, rfl, _, rfl, ite_b (fun e' => ?_) (fun e' => ?_)⟩
            · rw [if_pos e'] at q
              exact ⟨_, rfl, _, rfl, _, rfl, p, _, 1, y1, rfl, rfl, h0, rfl, _, rfl, p, _, 2, y2, rfl, rfl, h0, rfl, m, l, a, xs, qs, n, y1, y2, e1, e2, rfl, hs, hp, d1, d2, w2, q⟩
            · rw [if_neg (by rw [e']; exact Bool.false_ne_true)] at q
              exact ⟨_, rfl, p, aE, m, l, _, [e0, e1, e2], "end", rfl, rfl, h0, hx, W.e H, q H (Same.refl H)⟩
        · have l3' : ¬ ds.length = 3 := by omega
          have p0 : placeD qs n (.tuple ds) = isEnd (.tuple ds) "end" := by
            unfold placeD
            simp only [l3', false_and, if_false]
          rw [p0] at q
          have nl : decide (ys.length = 3) = false := decide_eq_false l3
          refine ifF nl ?_
          refine ifF rfl ?_
          refine ⟨_, rfl, .ref p, ys.length, rfl, .inr ⟨ys, h0, rfl⟩, rfl, _, rfl, ?_⟩
          rw [len3]
          refine ifF nl ?_
          refine ifF rfl ?_
          exact ⟨_, rfl, p, aE, m, l, ys, ds, "end", rfl, rfl, h0, hx, W.e H, q H (Same.refl H)⟩
    | _ => exact ifT rfl (q H (Same.refl H))
/-! is_mode -/
theorem scMo : FnScope ["thing"] ["thing"] (defScope sPMode) := ⟨rfl, rfl, rfl, by decide +kernel, rfl, by decide +kernel, by decide +kernel⟩
def spMode (K : PySem.W.Frag) : Sp := fun vs H Q _ => ∃ (m l : Addr) (v : V) (d : PyData), vs = [v] ∧ Dq K H m l v d ∧ Q (.bl (isMode d)) H
theorem ok_mode {f : Addr} {fd : FuncData} (F : Fun K "is_mode" "is_mode" sPMode f fd) (T : TxtR mg fI fN fS fA fG fNu fAs fPl fMo fNP fNM fNd aE aM) (W : WrT K aE aM) : FnOk P w K mg base CX0 1 f fd ["thing"] (spMode K) := by
  refine F.ok scMo (fun vs H Q E h => ?_) (fun cdv A outer s H vs Q E hr h => ?_)
  · obtain ⟨m, l, v, d, rfl, _⟩ := h
    rfl
  · obtain ⟨m, l, v, d, rfl, hd, q⟩ := h
    refine ⟨_, pss_one (ps_ret (pe_and (pe_callB call_isi (by rfl) T.isi PyProof.Rows.boot_isinstance (pa_cons (pv 0) (pa_cons (pe_bltn (v := .ty "str") (u := .type "str") (by rfl) T.str (by decide +kernel) rfl) pa_nil)))
      (pe_one (pe_cmpR op_in_seq (pv 0) (pe_glob (v := .ref aM) rfl T.gM rfl) (by rfl))))), ?_⟩
    refine ⟨_, rfl, v, .ty "str", _, _, _, rfl, .ty _, hd.ty, isi_str K d, _, rfl, ?_⟩
    cases d with
    | str z =>
      cases hd
      refine ifT rfl ⟨_, rfl, aM, _, rfl, .inr (W.m H), rfl, rfl, ?_⟩
      have e : inV (.str z) [.str "live", .str "met", .str "begin"] = isMode (.str z) := inV_str z ["live", "met", "begin"]
      rw [e]
      exact q
    | _ => exact ifF rfl q
end
end Ms
namespace Ms
open PySem PySem.Spec PyProof.Rows L2
/-! ### need_places, need_modes -/
def firstBad (f : PyData → Bool) : Nat → List PyData → Option Nat
  | _, [] => none
  | p, d :: ds => if f d = true then firstBad f (p + 1) ds else some p
def placesV (qs : List (Str × Int)) (d : PyData) : Option V := match d with
  | .tuple ds => if 1 ≤ ds.length ∧ ds.length ≤ 16 then (firstBad (placeD qs ds.length) 0 ds).map fun p => V.int (p : Nat) else some .non
  | _ => some .non
def modesV (k : Nat) (d : PyData) : Option V := match d with
  | .tuple ds => if ds.length = k then (firstBad isMode 0 ds).map fun p => V.int (p : Nat) else some .non
  | _ => some .non
section
variable {P : Program} {w : World} {K : PySem.W.Frag} {mg : Str → Option Value} {base : Heap} {fI fN fS fA fG fNu fAs fPl fMo fNP fNM fNd aE aM C fE : Addr}
theorem scInP : FnScope ["self", "place"] ["self", "place"] (defScope sIniP) := ⟨rfl, rfl, rfl, by decide +kernel, rfl, by decide +kernel, by decide +kernel⟩
theorem ok_iniP {fd : FuncData} {qual : Str} (F : Fun K "__init__" qual sIniP fE fd) (TE : ErrC K C fE) : FnOk P w K mg base CX0 1 fE fd ["self", "place"] (spIni C) := by
  refine F.ok scInP (fun vs H Q E h => ?_) (fun cdv A outer s H vs Q E hr h => ?_)
  · obtain ⟨a, y, rfl, _⟩ := h
    rfl
  · obtain ⟨a, y, rfl, e, q⟩ := h
    exact ⟨_, pss_one (ps_ost (pv 0) (pv 1)), ⟨_, rfl, _, rfl, a, C, rfl, TE.ox, TE.no, .inl ⟨e, fun dx h1 h2 => q dx h1 h2⟩⟩⟩
theorem scInM : FnScope ["self", "place"] ["self", "place"] (defScope sIniM) := ⟨rfl, rfl, rfl, by decide +kernel, rfl, by decide +kernel, by decide +kernel⟩
theorem ok_iniM {fd : FuncData} {qual : Str} (F : Fun K "__init__" qual sIniM fE fd) (TE : ErrC K C fE) : FnOk P w K mg base CX0 1 fE fd ["self", "place"] (spIni C) := by
  refine F.ok scInM (fun vs H Q E h => ?_) (fun cdv A outer s H vs Q E hr h => ?_)
  · obtain ⟨a, y, rfl, _⟩ := h
    rfl
  · obtain ⟨a, y, rfl, e, q⟩ := h
    exact ⟨_, pss_one (ps_ost (pv 0) (pv 1)), ⟨_, rfl, _, rfl, a, C, rfl, TE.ox, TE.no, .inl ⟨e, fun dx h1 h2 => q dx h1 h2⟩⟩⟩
def spNPl (K : PySem.W.Frag) (C : Addr) : Sp := fun vs H Q E => ∃ (m l a : Addr) (xs : List V) (qs : List (Str × Int)) (v : V) (d : PyData) (B b : Nat), vs = [.ref a, v] ∧ SqT K H a xs ∧ PrTs K H xs qs ∧ Dq K H m l v d ∧ Gd B 100000 b d ∧
  (placesV qs d = none → ∀ H', Same H H' → Q v H') ∧ ∀ u, placesV qs d = some u → ∀ dx H', H dx = none → Same H H' → H' dx = some (.xd [("place", u)]) → E (.ref C) (some dx) H'
abbrev NNp : List Str := ["settings", "places", "at", "place"]
theorem scNp : FnScope NNp ["settings", "places"] (defScope sNPlaces) := ⟨rfl, rfl, rfl, by decide +kernel, rfl, by decide +kernel, by decide +kernel⟩
theorem ok_nplaces {f : Addr} {fd fdI fdN fdNu fdAs fdPl fdE : FuncData} {qual : Str} (F : Fun K "need_places" "need_places" sNPlaces f fd) (T : TxtR mg fI fN fS fA fG fNu fAs fPl fMo fNP fNM fNd aE aM) (W : WrT K aE aM) (gC : mg "BadPlaces" = some (.ref C)) (TE : ErrC K C fE) (FI : Fun K "is_int" "is_int" sPInt fI fdI) (bI : Binds K fdI ["thing"] [])
    (FN : Fun K "is_name" "is_name" sPName fN fdN) (bN : Binds K fdN ["thing"] []) (FNu : Fun K "is_number" "is_number" sPNum fNu fdNu) (bNu : Binds K fdNu ["many", "thing"] []) (FAs : Fun K "is_ask" "is_ask" sPAsk fAs fdAs) (bAs : Binds K fdAs ["settings", "many", "setting", "nexts"] [])
    (FPl : Fun K "is_place" "is_place" sPPlace fPl fdPl) (bPl : Binds K fdPl ["settings", "many", "thing"] []) (FE : Fun K "__init__" qual sIniP fE fdE) (bE : Binds K fdE ["self", "place"] []) : FnOk P w K mg base (L2.CX P w) 5 f fd ["settings", "places"] (spNPl K C) := by
  have GPl : FnOk P w K mg base CX0 4 fPl fdPl ["settings", "many", "thing"] (spPlace K) := ok_place FPl T W FI bI FN bN FNu bNu FAs bAs
  have GE : FnOk P w K mg base CX0 1 fE fdE ["self", "place"] (spIni C) := ok_iniP FE TE
  refine F.okX scNp (fun vs H Q E h => ?_) (fun cdv A outer s H vs Q E hr h => ?_)
  · obtain ⟨m, l, a, xs, qs, v, d, B, b, rfl, _⟩ := h
    rfl
  obtain ⟨m, l, a, xs, qs, v, d, B, b, rfl, hs, hp, hd, gd, q, qe⟩ := h
  obtain ⟨tp, gp⟩ := T.mP
  have hr2 : Room 2 _ := hr.mono (by decide)
  refine ⟨_, pss_cons (ps_if (PW.pt (pw_or (pt_not (pt_val (pe_callB call_isi (by rfl) T.isi PyProof.Rows.boot_isinstance (pa_cons (pv 1) (pa_cons (pe_bltn (v := .ty "tuple") (u := .type "tuple") (by rfl) T.tuple (by decide +kernel) rfl) pa_nil)))))
      (pw_or1 (pt_not (pt_chain op_le op_le pe_int (pe_callB call_len (by rfl) T.len PySem.boot_len (pa_cons (pv 1) pa_nil)) (pe_glob (v := .int 16) rfl gp ⟨_, rfl⟩)))))) (pss_one (ps_raise rfl (takes_of rfl rfl rfl rfl) (pmk_oex TE.ox TE.ini TE.ty GE hr2 bE .nil pass0 (by rfl) gC (pa_cons pe_non pa_nil)))) pss_nil)
    (pss_cons (ps_for (passes_of rfl) rfl (pi_et (by rfl) T.enumerate (pa_cons (pv 1) pa_nil)) (pg_tup rfl (pgs_cons (pg_name (i := 2) scNp.nd rfl (by first | exact Or.inl rfl | exact Or.inr rfl)) (pgs_cons (pg_name (i := 3) scNp.nd rfl (by first | exact Or.inl rfl | exact Or.inr rfl)) pgs_nil)))
      (pss_one (ps_if (pt_not (pt_val (pe_call GPl hr rfl T.gPl FPl.kp bPl .nil pass0 (pa_cons (pv 0) (pa_cons (pe_callB call_len (by rfl) T.len PySem.boot_len (pa_cons (pv 1) pa_nil)) (pa_cons (pv 3) pa_nil))))))
        (pss_one (ps_raise rfl (takes_of rfl rfl rfl rfl) (pmk_oex TE.ox TE.ini TE.ty GE hr2 bE .nil pass0 (by rfl) gC (pa_cons (pv 2) pa_nil)))) pss_nil)))
    (pss_one (ps_ret (pv 1)))), ?_⟩
  refine ⟨_, rfl, v, .ty "tuple", _, _, _, rfl, .ty _, hd.ty, isi_tup K d, _, rfl, ?_⟩
  cases d with
  | tuple ds =>
    cases hd with
    | tup h0 hx =>
      rename_i p ys
      refine ifF rfl ?_
      have ly := hx.len
      have none0 : ¬ (1 ≤ ds.length ∧ ds.length ≤ 16) → placesV qs (.tuple ds) = some .non := fun h => if_neg h
      refine ⟨_, rfl, .ref p, ys.length, rfl, .inr ⟨ys, h0, rfl⟩, 1, (ys.length : Int), rfl, rfl, _, rfl, ite_b (fun e1 => ⟨(ys.length : Int), 16, rfl, rfl, _, rfl, ite_b (fun e8 => mk_one (qe _ (none0 ?_))) (fun e8 => ?_)⟩) (fun e1 => ⟨_, rfl, ifT rfl (mk_one (qe _ (none0 ?_)))⟩)⟩
      · have : ¬ ((ys.length : Int) ≤ 16) := by simpa using e8
        omega
      · have l3 : (ys.length : Int) ≤ 16 := by simpa using e8
        have l1 : (1 : Int) ≤ (ys.length : Int) := of_decide_eq_true e1
        have ed : placesV qs (.tuple ds) = (firstBad (placeD qs ds.length) 0 ds).map fun p => V.int (p : Nat) := if_pos ⟨by omega, by omega⟩
        rw [ed] at q qe
        refine ⟨_, rfl, p, ys, rfl, h0, ?_⟩
        refine for_it walk_et (fun i σ H1 => ∃ (v2 v3 : Option V), σ = [some (.ref a), some (.ref p), v2, v3] ∧ Same H H1 ∧ firstBad (placeD qs ds.length) 0 ds = firstBad (placeD qs ds.length) i (ds.drop i))
          ⟨none, none, rfl, Same.refl H, rfl⟩ (fun i σ H1 _ ⟨v2, v3, _, s1, _⟩ => Same.seqT s1 h0) ?_ ?_
        · rintro i x σ H1 H2 hi ⟨v2, v3, rfl, s1, dg⟩ ⟨TT, x1, x2, rfl, hT, rfl, e1', e2'⟩
          have ex1 : x1 = .int (i : Nat) := (Option.some.inj e1').symm
          subst ex1
          obtain ⟨e, he, dqe⟩ := hx.get e2'
          have sA : Same H (upd H1 TT (.tup [.int (i : Nat), x2])) := s1.trans (Same.upd hT)
          have hid : i < ds.length := by omega
          have edr : ds.drop i = e :: ds.drop (i + 1) := by rw [List.drop_eq_getElem_cons hid]; rw [(List.getElem?_eq_some_iff.mp he).2]
          obtain ⟨cc, eb, g⟩ := Gd.untup gd
          have ge := g.at he
          have we : e.weight ≤ 100000 := by
            have := wA_at he
            have := g.wt
            omega
          refine ⟨TT, _, rfl, .inl (.inl upd_same), rfl, _, _, rfl, _, _, rfl, rfl, ?_⟩
          refine ⟨_, rfl, _, rfl, .ref p, ys.length, rfl, .inr ⟨ys, Same.seqT sA h0, rfl⟩, _, rfl, m, l, a, xs, qs, (ys.length : Int), x2, e, _, _, rfl, Same.seqT sA hs, hp.same sA, Dq.same sA e x2 dqe, ge.mono (Nat.le_refl _) we (Nat.le_refl _), fun H3 s3 => ⟨_, rfl, ?_⟩⟩
          rw [ly]
          rw [edr] at dg
          simp only [firstBad] at dg
          cases hb : placeD qs ds.length e with
          | true =>
            rw [if_pos hb] at dg
            exact ifF rfl ⟨_, _, rfl, sA.trans s3, dg⟩
          | false =>
            rw [if_neg (by rw [hb]; exact Bool.false_ne_true)] at dg
            refine ifT rfl ⟨_, rfl, mk_one fun d H' h1 h2 h3 => qe (.int (i : Nat)) ?_ d H' (Same.free (sA.trans s3) h1) ((sA.trans s3).trans h2) h3⟩
            rw [dg]; rfl
        · rintro σ H1 ⟨v2, v3, rfl, s1, dg⟩
          rw [List.drop_of_length_le (by omega)] at dg
          exact ⟨_, rfl, q (by rw [dg]; rfl) _ s1⟩
      · have : ¬ ((1 : Int) ≤ (ys.length : Int)) := of_decide_eq_false e1
        omega
  | _ => exact ifT rfl (ifT rfl (mk_one (qe _ rfl)))
/-! need_modes -/
def spNMo (K : PySem.W.Frag) (C : Addr) : Sp := fun vs H Q E => ∃ (m l a : Addr) (xs : List V) (v : V) (d : PyData), vs = [.ref a, v] ∧ SqT K H a xs ∧ Dq K H m l v d ∧
  (modesV xs.length d = none → ∀ H', Same H H' → Q v H') ∧ ∀ u, modesV xs.length d = some u → ∀ dx H', H dx = none → Same H H' → H' dx = some (.xd [("place", u)]) → E (.ref C) (some dx) H'
abbrev NNm : List Str := ["settings", "modes", "at", "mode"]
theorem scNmo : FnScope NNm ["settings", "modes"] (defScope sNModes) := ⟨rfl, rfl, rfl, by decide +kernel, rfl, by decide +kernel, by decide +kernel⟩
theorem ok_nmodes {f : Addr} {fd fdMo fdE : FuncData} {qual : Str} (F : Fun K "need_modes" "need_modes" sNModes f fd) (T : TxtR mg fI fN fS fA fG fNu fAs fPl fMo fNP fNM fNd aE aM) (W : WrT K aE aM) (gC : mg "BadModes" = some (.ref C)) (TE : ErrC K C fE)
    (FMo : Fun K "is_mode" "is_mode" sPMode fMo fdMo) (bMo : Binds K fdMo ["thing"] []) (FE : Fun K "__init__" qual sIniM fE fdE) (bE : Binds K fdE ["self", "place"] []) : FnOk P w K mg base (L2.CX P w) 3 f fd ["settings", "modes"] (spNMo K C) := by
  have GMo : FnOk P w K mg base CX0 1 fMo fdMo ["thing"] (spMode K) := ok_mode FMo T W
  have GE : FnOk P w K mg base CX0 1 fE fdE ["self", "place"] (spIni C) := ok_iniM FE TE
  refine F.okX scNmo (fun vs H Q E h => ?_) (fun cdv A outer s H vs Q E hr h => ?_)
  · obtain ⟨m, l, a, xs, v, d, rfl, _⟩ := h
    rfl
  obtain ⟨m, l, a, xs, v, d, rfl, hs, hd, q, qe⟩ := h
  have hr1 : Room 1 _ := hr.mono (by decide)
  refine ⟨_, pss_cons (ps_if (PW.pt (pw_or (pt_not (pt_val (pe_callB call_isi (by rfl) T.isi PyProof.Rows.boot_isinstance (pa_cons (pv 1) (pa_cons (pe_bltn (v := .ty "tuple") (u := .type "tuple") (by rfl) T.tuple (by decide +kernel) rfl) pa_nil)))))
      (pw_or1 (pt_cmpR op_ne (pe_callB call_len (by rfl) T.len PySem.boot_len (pa_cons (pv 1) pa_nil)) (pe_callB call_len (by rfl) T.len PySem.boot_len (pa_cons (pv 0) pa_nil)) (nomark _))))) (pss_one (ps_raise rfl (takes_of rfl rfl rfl rfl) (pmk_oex TE.ox TE.ini TE.ty GE hr bE .nil pass0 (by rfl) gC (pa_cons pe_non pa_nil)))) pss_nil)
    (pss_cons (ps_for (passes_of rfl) rfl (pi_et (by rfl) T.enumerate (pa_cons (pv 1) pa_nil)) (pg_tup rfl (pgs_cons (pg_name (i := 2) scNmo.nd rfl (by first | exact Or.inl rfl | exact Or.inr rfl)) (pgs_cons (pg_name (i := 3) scNmo.nd rfl (by first | exact Or.inl rfl | exact Or.inr rfl)) pgs_nil)))
      (pss_one (ps_if (pt_not (pt_val (pe_call GMo hr1 rfl T.gMo FMo.kp bMo .nil pass0 (pa_cons (pv 3) pa_nil))))
        (pss_one (ps_raise rfl (takes_of rfl rfl rfl rfl) (pmk_oex TE.ox TE.ini TE.ty GE hr bE .nil pass0 (by rfl) gC (pa_cons (pv 2) pa_nil)))) pss_nil)))
    (pss_one (ps_ret (pv 1)))), ?_⟩
  refine ⟨_, rfl, v, .ty "tuple", _, _, _, rfl, .ty _, hd.ty, isi_tup K d, _, rfl, ?_⟩
  cases d with
  | tuple ds =>
    cases hd with
    | tup h0 hx =>
      rename_i p ys
      refine ifF rfl ?_
      have ly := hx.len
      refine ⟨_, rfl, .ref p, ys.length, rfl, .inr ⟨ys, h0, rfl⟩, _, rfl, .ref a, xs.length, rfl, .inr ⟨xs, hs, rfl⟩, rfl, _, rfl, ?_⟩
      have ee : decide (V.int ((ys.length : Nat) : Int) = V.int ((xs.length : Nat) : Int)) = decide (ys.length = xs.length) := by
        rw [Bool.eq_iff_iff, decide_eq_true_eq, decide_eq_true_eq, V.int.injEq]; omega
      rw [ee]
      by_cases hl : ys.length = xs.length
      · have ed : modesV xs.length (.tuple ds) = (firstBad isMode 0 ds).map fun p => V.int (p : Nat) := if_pos (by omega)
        rw [ed] at q qe
        refine ifF (by rw [decide_eq_true hl]; rfl) ?_
        refine ⟨_, rfl, p, ys, rfl, h0, ?_⟩
        refine for_it walk_et (fun i σ H1 => ∃ (v2 v3 : Option V), σ = [some (.ref a), some (.ref p), v2, v3] ∧ Same H H1 ∧ firstBad isMode 0 ds = firstBad isMode i (ds.drop i))
          ⟨none, none, rfl, Same.refl H, rfl⟩ (fun i σ H1 _ ⟨v2, v3, _, s1, _⟩ => Same.seqT s1 h0) ?_ ?_
        · rintro i x σ H1 H2 hi ⟨v2, v3, rfl, s1, dg⟩ ⟨TT, x1, x2, rfl, hT, rfl, e1', e2'⟩
          have ex1 : x1 = .int (i : Nat) := (Option.some.inj e1').symm
          subst ex1
          obtain ⟨e, he, dqe⟩ := hx.get e2'
          have sA : Same H (upd H1 TT (.tup [.int (i : Nat), x2])) := s1.trans (Same.upd hT)
          have hid : i < ds.length := by omega
          have edr : ds.drop i = e :: ds.drop (i + 1) := by rw [List.drop_eq_getElem_cons hid]; rw [(List.getElem?_eq_some_iff.mp he).2]
          refine ⟨TT, _, rfl, .inl (.inl upd_same), rfl, _, _, rfl, _, _, rfl, rfl, ?_⟩
          refine ⟨_, rfl, m, l, x2, e, rfl, Dq.same sA e x2 dqe, _, rfl, ?_⟩
          rw [edr] at dg
          simp only [firstBad] at dg
          cases hb : isMode e with
          | true =>
            rw [if_pos hb] at dg
            exact ifF rfl ⟨_, _, rfl, sA, dg⟩
          | false =>
            rw [if_neg (by rw [hb]; exact Bool.false_ne_true)] at dg
            refine ifT rfl ⟨_, rfl, mk_one fun d H' h1 h2 h3 => qe (.int (i : Nat)) ?_ d H' (Same.free sA h1) (sA.trans h2) h3⟩
            rw [dg]; rfl
        · rintro σ H1 ⟨v2, v3, rfl, s1, dg⟩
          rw [List.drop_of_length_le (by omega)] at dg
          exact ⟨_, rfl, q (by rw [dg]; rfl) _ s1⟩
      · have ed : modesV xs.length (.tuple ds) = some .non := if_neg (by omega)
        exact ifT (by rw [decide_eq_false hl]; rfl) (mk_one (qe _ ed))
  | _ => exact ifT rfl (ifT rfl (mk_one (qe _ rfl)))
end
end Ms
namespace Ms
open PySem PySem.Spec PyProof.Rows L2
/-! ### Request.__init__ -/
/-- all that was there stays, but at one place -/
def SameX (x : Addr) (H H' : Hp) : Prop := ∀ b o, b ≠ x → H b = some o → H' b = some o
theorem SameX.refl (x : Addr) (H : Hp) : SameX x H H := fun _ _ _ e => e
theorem SameX.thenS {x : Addr} {H H' H'' : Hp} (k : SameX x H H') (s : Same H' H'') : SameX x H H'' := fun b o n e => s b o (k b o n e)
theorem SameX.thenU {x : Addr} {H H' : Hp} {o : HO} (k : SameX x H H') : SameX x H (upd H' x o) := fun b o n e => by rw [upd_ne n]; exact k b o n e
theorem SameX.seqT {K : PySem.W.Frag} {x C dx : Addr} {fs : List (Str × V)} {H H' : Hp} (k : SameX x H H') (hx : H x = some (.ins C dx fs)) {a : Addr} {xs : List V} (h : SqT K H a xs) : SqT K H' a xs := by
  rcases h with (h | ⟨o, h⟩) | h
  · exact .inl (.inl (k _ _ (fun e => by subst e; rw [hx] at h; cases h) h))
  · exact .inl (.inr ⟨o, k _ _ (fun e => by subst e; rw [hx] at h; cases h) h⟩)
  · exact .inr h
theorem SameX.dq {K : PySem.W.Frag} {x C dx m l : Addr} {fs : List (Str × V)} {H H' : Hp} (k : SameX x H H') (hx : H x = some (.ins C dx fs)) (d : PyData) (v : V) (h : Dq K H m l v d) : Dq K H' m l v d :=
  Dq.gen (fun a xs e n1 n2 => ⟨k _ _ (fun z => by subst z; rw [hx] at e; cases e) e, n1, n2⟩) (fun a xs e => k.seqT hx e) (fun a e n1 n2 => ⟨k _ _ (fun z => by subst z; rw [hx] at e; cases e) e, n1, n2⟩) d v h
theorem SameX.free {x : Addr} {H H' : Hp} (k : SameX x H H') {e : Addr} (hx : H' x ≠ none) (h : H' e = none) : H e = none := by
  cases hh : H e with
  | none => rfl
  | some o =>
    by_cases z : e = x
    · subst z; exact absurd h hx
    · rw [k e o z hh] at h; cases h
theorem SameX.same {x : Addr} {H H' : Hp} (k : SameX x H H') (h : H x = none) : Same H H' := fun b o e => k b o (ne_of_none e h) e
/-- settings that are let by are pairs -/
theorem dueGo_pr : ∀ (ds : List PyData) (p : Nat) (seen : List Str) (many r : Int), dueGo p seen many ds = .inr r → ∃ qs, ds = prD qs ∧ ∀ q ∈ qs, 1 ≤ q.2 ∧ q.2 ≤ 3
  | [], _, _, _, _, _ => ⟨[], rfl, fun q h => nomatch h⟩
  | d :: ds, p, seen, many, r, h => by
    simp only [dueGo] at h
    cases eo : oneD d with
    | none => rw [eo] at h; cases h
    | some zc =>
      obtain ⟨z, c⟩ := zc
      rw [eo] at h
      simp only at h
      by_cases hz : z ∈ seen
      · rw [if_pos hz] at h; cases h
      · rw [if_neg hz] at h
        obtain ⟨qs, e, bq⟩ := dueGo_pr ds _ _ _ _ h
        have key : d = .tuple [.str z, .int c] ∧ 1 ≤ c ∧ c ≤ 3 := by
          unfold oneD at eo
          split at eo
          · rename_i z' c'
            by_cases hh : (isName (.str z') && isWhole (.int c') 1 3) = true
            · rw [if_pos hh] at eo
              cases eo
              refine ⟨rfl, ?_⟩
              have h2 := (Bool.and_eq_true _ _ ▸ hh : _ ∧ _).2
              have h3 := (Bool.and_eq_true _ _ ▸ h2 : _ ∧ _)
              exact ⟨of_decide_eq_true h3.1, of_decide_eq_true h3.2⟩
            · rw [if_neg hh] at eo; cases eo
          · cases eo
        refine ⟨(z, c) :: qs, by rw [key.1, e]; rfl, fun q hq => ?_⟩
        rcases List.mem_cons.mp hq with rfl | hq
        · exact key.2
        · exact bq q hq
theorem needV_pr {d : PyData} (h : needV d = none) : ∃ qs, d = .tuple (prD qs) ∧ 1 ≤ qs.length ∧ qs.length ≤ 3 := by
  cases d with
  | tuple ds =>
    have h' : (if 1 ≤ ds.length ∧ ds.length ≤ 3 then (match dueGo 0 [] 1 ds with | .inl p => some (V.int (p : Nat)) | .inr many => if many ≤ 12 then none else some (.str "many")) else some V.non) = none := h
    by_cases hl : 1 ≤ ds.length ∧ ds.length ≤ 3
    · rw [if_pos hl] at h'
      cases eg : dueGo 0 [] 1 ds with
      | inl p => rw [eg] at h'; cases h'
      | inr many =>
        obtain ⟨qs, e, _⟩ := dueGo_pr ds _ _ _ _ eg
        have : ds.length = qs.length := by rw [e]; exact List.length_map ..
        exact ⟨qs, by rw [e], by omega, by omega⟩
    · rw [if_neg hl] at h'; cases h'
  | _ => cases h
theorem prD_trs {K : PySem.W.Frag} {H : Hp} {m l : Addr} : ∀ (qs : List (Str × Int)) (vs : List V), DqAll K H m l vs (prD qs) → PrTs K H vs qs
  | [], _, h => by cases h; exact .nil
  | q :: qs, _, h => by
    cases h with
    | cons h1 h2 =>
      refine .cons ?_ (prD_trs qs _ h2)
      cases h1 with
      | tup e t =>
        cases t with
        | cons t1 t2 =>
          cases t1
          cases t2 with
          | cons t3 t4 =>
            cases t3
            cases t4
            exact ⟨_, rfl, e⟩
/-- the words, "live" of all where none are given -/
def wordsD (k : Nat) (d : PyData) : PyData := match d with | .none => .tuple (List.replicate k (.str "live")) | d => d
theorem live_dq {K : PySem.W.Frag} {H : Hp} {m l : Addr} : ∀ (k : Nat), DqAll K H m l (List.replicate k (V.str "live")) (List.replicate k (.str "live"))
  | 0 => .nil
  | k + 1 => .cons (.str _) (live_dq k)
theorem live_flat (k : Nat) : (List.replicate k [V.str "live"]).flatten = List.replicate k (V.str "live") := by
  induction k with
  | zero => rfl
  | succ k ih => rw [List.replicate_succ, List.flatten_cons, ih]; rfl
section
variable {P : Program} {w : World} {K : PySem.W.Frag} {mg : Str → Option Value} {base : Heap} {fI fN fS fA fG fNu fAs fPl fMo fNP fNM fNd aE aM C CS CP CM fES fEP fEM : Addr}
structure ReqC (K : PySem.W.Frag) (C : Addr) : Prop where
  cl : Cls K C
  nS : NoAttr K C "settings"
  nP : NoAttr K C "places"
  nM : NoAttr K C "modes"
def reqF (v1 v2 v3 : V) : List (Str × V) := [("settings", v1), ("places", v2), ("modes", v3)]
def spReq (K : PySem.W.Frag) (C CS CP CM : Addr) : Sp := fun vs H Q E => ∃ (m l x dx : Addr) (v1 v2 v3 : V) (d1 d2 d3 : PyData) (B1 b1 B2 b2 : Nat), vs = [.ref x, v1, v2, v3] ∧ H x = some (.ins C dx []) ∧ Dq K H m l v1 d1 ∧ Gd B1 100000 b1 d1 ∧ Dq K H m l v2 d2 ∧ Gd B2 100000 b2 d2 ∧ Dq K H m l v3 d3 ∧
  (∀ u, needV d1 = some u → ∀ e H', H e = none → SameX x H H' → H' e = some (.xd [("place", u)]) → E (.ref CS) (some e) H') ∧
  (needV d1 = none → ∀ qs, d1 = .tuple (prD qs) → (∀ u, placesV qs d2 = some u → ∀ e H', H e = none → SameX x H H' → H' e = some (.xd [("place", u)]) → E (.ref CP) (some e) H') ∧
    (placesV qs d2 = none → (∀ u, modesV qs.length (wordsD qs.length d3) = some u → ∀ e H', H e = none → SameX x H H' → H' e = some (.xd [("place", u)]) → E (.ref CM) (some e) H') ∧
      (modesV qs.length (wordsD qs.length d3) = none → ∀ H' v3', SameX x H H' → H' x = some (.ins C dx (reqF v1 v2 v3')) → Dq K H' m l v3' (wordsD qs.length d3) → Q .non H')))
abbrev NNr : List Str := ["self", "settings", "places", "modes"]
theorem scRi : FnScope NNr ["self", "settings", "places", "modes"] (defScope sReqIni) := ⟨rfl, rfl, rfl, by decide +kernel, rfl, by decide +kernel, by decide +kernel⟩
theorem ok_reqini {f : Addr} {fd fdI fdN fdS fdA fdG fdNu fdAs fdPl fdMo fdNP fdNM fdNd fdES fdEP fdEM : FuncData} {q1 q2 q3 qual : Str} (F : FunD K "__init__" qual (defArgs sReqIni) (defBody sReqIni) (defScope sReqIni) [.non] [] f fd) (T : TxtR mg fI fN fS fA fG fNu fAs fPl fMo fNP fNM fNd aE aM) (W : WrT K aE aM) (RC : ReqC K C)
    (gS : mg "BadSettings" = some (.ref CS)) (TS : ErrC K CS fES) (gP : mg "BadPlaces" = some (.ref CP)) (TP : ErrC K CP fEP) (gM : mg "BadModes" = some (.ref CM)) (TM : ErrC K CM fEM)
    (FES : Fun K "__init__" q1 sIni fES fdES) (bES : Binds K fdES ["self", "place"] []) (FEP : Fun K "__init__" q2 sIniP fEP fdEP) (bEP : Binds K fdEP ["self", "place"] []) (FEM : Fun K "__init__" q3 sIniM fEM fdEM) (bEM : Binds K fdEM ["self", "place"] [])
    (FI : Fun K "is_int" "is_int" sPInt fI fdI) (bI : Binds K fdI ["thing"] []) (FN : Fun K "is_name" "is_name" sPName fN fdN) (bN : Binds K fdN ["thing"] []) (FS : Fun K "is_setting" "is_setting" sPSet fS fdS) (bS : Binds K fdS ["thing"] [])
    (FA : Fun K "names_of" "names_of" sPNames fA fdA) (bA : Binds K fdA ["settings"] []) (FG : Fun K "grid_of" "grid_of" sPGrid fG fdG) (bG : Binds K fdG ["settings"] [])
    (FNd : Fun K "need_settings" "need_settings" sNeed fNd fdNd) (bNd : Binds K fdNd ["thing"] [])
    (FNu : Fun K "is_number" "is_number" sPNum fNu fdNu) (bNu : Binds K fdNu ["many", "thing"] []) (FAs : Fun K "is_ask" "is_ask" sPAsk fAs fdAs) (bAs : Binds K fdAs ["settings", "many", "setting", "nexts"] [])
    (FPl : Fun K "is_place" "is_place" sPPlace fPl fdPl) (bPl : Binds K fdPl ["settings", "many", "thing"] []) (FMo : Fun K "is_mode" "is_mode" sPMode fMo fdMo) (bMo : Binds K fdMo ["thing"] [])
    (FNP : Fun K "need_places" "need_places" sNPlaces fNP fdNP) (bNP : Binds K fdNP ["settings", "places"] []) (FNM : Fun K "need_modes" "need_modes" sNModes fNM fdNM) (bNM : Binds K fdNM ["settings", "modes"] []) :
    FnOk P w K mg base (L2.CX P w) 6 f fd ["self", "settings", "places", "modes"] (spReq K C CS CP CM) := by
  have GNd : FnOk P w K mg base (L2.CX P w) 3 fNd fdNd ["thing"] (spNeed K CS) := ok_need FNd T.toTxtP gS TS FI bI FN bN FS bS FA bA FG bG FES bES
  have GNP : FnOk P w K mg base (L2.CX P w) 5 fNP fdNP ["settings", "places"] (spNPl K CP) := ok_nplaces FNP T W gP TP FI bI FN bN FNu bNu FAs bAs FPl bPl FEP bEP
  have GNM : FnOk P w K mg base (L2.CX P w) 3 fNM fdNM ["settings", "modes"] (spNMo K CM) := ok_nmodes FNM T W gM TM FMo bMo FEM bEM
  refine FunD.ok F scRi (fun vs H Q E h => ?_) (fun cdv A outer s H vs Q E hr h => ?_)
  · obtain ⟨m, l, x, dx, v1, v2, v3, d1, d2, d3, B1, b1, B2, b2, rfl, _⟩ := h
    rfl
  obtain ⟨m, l, x, dx, v1, v2, v3, d1, d2, d3, B1, b1, B2, b2, rfl, hx, hd1, gd1, hd2, gd2, hd3, qe, qr⟩ := h
  have hr3 : Room 3 _ := hr.mono (by decide)
  refine ⟨_, pss_cons (ps_fld (pv 0) (pe_call GNd hr3 rfl T.gNd FNd.kp bNd .nil (passes_call (takes_of rfl rfl rfl rfl) fun _ _ _ _ h => h) (pa_cons (pv 1) pa_nil)) rfl)
    (pss_cons (ps_fld (pv 0) (pe_call GNP hr rfl T.gNP FNP.kp bNP .nil (passes_call (takes_of rfl rfl rfl rfl) fun _ _ _ _ h => h) (pa_cons (pv 1) (pa_cons (pv 2) pa_nil))) rfl)
    (pss_cons (ps_if (pt_cmpR op_isN (pv 3) pe_non (nomark _)) (pss_one (ps_set (i := 3) scRi.nd rfl (by first | exact Or.inl rfl | exact Or.inr rfl) (pe_op op_rep1 (pe_tup (pa_cons pe_str pa_nil)) (pe_callB call_len (by rfl) T.len PySem.boot_len (pa_cons (pv 1) pa_nil))))) pss_nil)
    (pss_one (ps_fld (pv 0) (pe_call GNM hr3 rfl T.gNM FNM.kp bNM .nil (passes_call (takes_of rfl rfl rfl rfl) fun _ _ _ _ h => h) (pa_cons (pv 1) (pa_cons (pv 3) pa_nil))) rfl)))), ?_⟩
  refine ⟨_, rfl, m, l, v1, d1, B1, b1, rfl, hd1, gd1, fun hn H1 s1 => ?_, fun u hu e H' h1 h2 h3 => qe u hu e H' h1 (fun b o _ e => h2 b o e) h3⟩
  obtain ⟨qs, rfl, l1, l3⟩ := needV_pr hn
  obtain ⟨qp, q⟩ := qr hn qs rfl
  have x1 : H1 x = some (.ins C dx []) := s1 _ _ hx
  refine ⟨_, rfl, x, C, dx, [], rfl, x1, RC.cl, RC.nS, (by show 0 < 1000; decide), ?_⟩
  have k1 : SameX x H (upd H1 x (.ins C dx (putF "settings" v1 []))) := SameX.thenU (fun b o _ e => s1 b o e)
  obtain ⟨a, xs, rfl, hs, hxs⟩ : ∃ a xs, v1 = .ref a ∧ SqT K H a xs ∧ DqAll K H m l xs (prD qs) := by
    cases hd1 with
    | tup e t => exact ⟨_, _, rfl, e, t⟩
  have lx : xs.length = qs.length := by have := hxs.len; rw [this]; exact List.length_map ..
  generalize eH1 : upd H1 x (.ins C dx (putF "settings" (V.ref a) [])) = G1 at k1 ⊢
  have xg : G1 x = some (.ins C dx (putF "settings" (V.ref a) [])) := by rw [← eH1]; exact upd_same
  have hxs1 : DqAll K G1 m l xs (prD qs) := by
    have := k1.dq hx (.tuple (prD qs)) (.ref a) (.tup hs hxs)
    exact DqAll.gen (fun a xs e n1 n2 => ⟨k1 _ _ (fun z => by subst z; rw [hx] at e; cases e) e, n1, n2⟩) (fun a xs e => k1.seqT hx e) (fun a e n1 n2 => ⟨k1 _ _ (fun z => by subst z; rw [hx] at e; cases e) e, n1, n2⟩) _ _ hxs
  have free1 : ∀ {G : Hp}, SameX x H G → G x ≠ none → ∀ {e}, G e = none → H e = none := fun k n _ h => k.free n h
  refine ⟨_, rfl, _, rfl, m, l, a, xs, qs, v2, d2, B2, b2, rfl, k1.seqT hx hs, prD_trs qs xs hxs1, k1.dq hx d2 v2 hd2, gd2, fun hp H2 s2 => ?_, fun u hu e H' h1 h2 h3 => qp u hu e H' (free1 k1 (by rw [xg]; exact fun z => nomatch z) h1) (k1.thenS h2) h3⟩
  obtain ⟨qm, q⟩ := q hp
  have x2 : H2 x = _ := s2 _ _ xg
  refine ⟨_, rfl, x, C, dx, _, rfl, x2, RC.cl, RC.nP, (by show 1 < 1000; decide), ?_⟩
  have k2 : SameX x H (upd H2 x (.ins C dx (putF "places" v2 (putF "settings" (V.ref a) [])))) := SameX.thenU (k1.thenS s2)
  generalize eH2 : upd H2 x (.ins C dx (putF "places" v2 (putF "settings" (V.ref a) []))) = G2 at k2 ⊢
  have xg2 : G2 x = some (.ins C dx (putF "places" v2 (putF "settings" (V.ref a) []))) := by rw [← eH2]; exact upd_same
  have fin : ∀ (v3' : V) (G3 : Hp), Same G2 G3 → Dq K G3 m l v3' (wordsD qs.length d3) → ∃ (m l a' : Addr) (xs : List V) (v : V) (d : PyData), [V.ref a, v3'] = [.ref a', v] ∧ SqT K G3 a' xs ∧ Dq K G3 m l v d ∧
      (modesV xs.length d = none → ∀ H', Same G3 H' → ∃ z, [some (V.ref x), some (V.ref a), some v2, some v3'][0]? = some (some z) ∧ ∃ p C dx fs, z = V.ref p ∧ H' p = some (.ins C dx fs) ∧ Cls K C ∧ NoAttr K C "modes" ∧ fs.length < 1000 ∧ Q .non (upd H' p (.ins C dx (putF "modes" v fs)))) ∧ ∀ u, modesV xs.length d = some u → ∀ dx H', G3 dx = none → Same G3 H' → H' dx = some (.xd [("place", u)]) → E (.ref CM) (some dx) H' := by
    intro v3' G3 s3 h3
    have k3 := k2.thenS s3
    have x3 : G3 x = _ := s3 _ _ xg2
    refine ⟨m, l, a, xs, v3', wordsD qs.length d3, rfl, k3.seqT hx hs, h3, fun hm H' s' => ?_, fun u hu e H' h1 h2 h3 => ?_⟩
    · rw [lx] at hm
      have x4 := s' _ _ x3
      refine ⟨_, rfl, x, C, dx, _, rfl, x4, RC.cl, RC.nM, (by show 2 < 1000; decide), q hm _ v3' ((k3.thenS s').thenU) upd_same ?_⟩
      exact Dq.gen (fun a xs e n1 n2 => ⟨by rw [upd_ne (fun z => by subst z; rw [x4] at e; cases e)]; exact e, n1, n2⟩) (fun a xs e => SameX.seqT (fun b o n e => by rw [upd_ne n]; exact e) x4 e) (fun a e n1 n2 => ⟨by rw [upd_ne (fun z => by subst z; rw [x4] at e; cases e)]; exact e, n1, n2⟩) _ _ (Dq.same s' _ _ h3)
    · rw [lx] at hu
      exact qm u hu e H' (free1 k3 (by rw [x3]; exact fun z => nomatch z) h1) (k3.thenS h2) h3
  refine ⟨_, rfl, rfl, ?_⟩
  cases d3 with
  | none =>
    cases hd3
    refine ⟨_, rfl, ifT rfl ?_⟩
    refine ⟨(by decide), fun p hp' => ?_⟩
    refine ⟨_, rfl, .ref a, xs.length, rfl, .inr ⟨xs, SameX.seqT (SameX.thenS k2 (Same.upd hp')) hx hs, rfl⟩, p, (xs.length : Int), [V.str "live"], rfl, rfl, .inl (.inl upd_same), (fun z => nomatch z), by omega, by omega, (by show 1 ≤ 1000; decide), fun e1 => ?_, fun e2 p2 hp2 => ?_⟩
    · refine ⟨_, rfl, _, rfl, fin _ _ (Same.upd hp') ?_⟩
      have : qs.length = 1 := by omega
      simp only [wordsD, this]
      exact .tup (.inl (.inl upd_same)) (.cons (.str _) .nil)
    · refine ⟨_, rfl, _, rfl, fin _ _ ((Same.upd hp').trans (Same.upd hp2)) ?_⟩
      have e3 : (xs.length : Int).toNat = qs.length := by omega
      rw [e3, live_flat]
      exact .tup (.inl (.inl upd_same)) (live_dq _)
  | _ =>
    cases hd3 <;> refine ⟨_, rfl, ifF rfl ⟨_, rfl, _, rfl, ?_⟩⟩ <;> refine fin _ _ (Same.refl _) (k2.dq hx _ _ ?_) <;> first | exact .bl _ | exact .int _ | exact .str _ | exact .lst (by assumption) (by assumption) (by assumption) (by assumption) | exact .tup (by assumption) (by assumption) | exact .dct (by assumption) (by assumption) (by assumption)
end
end Ms
namespace Ms
open PySem PySem.Spec PyProof.Rows L2
/-! ### _law_places: a list that grows while numbers are drawn -/
theorem Fr.relock {m l l' D : Addr} {H H' : Hp} {o : HO} (f : Fr m l l' H H') (h : H D = none) : Fr m l l' H (upd H' D o) :=
  ⟨fun b o e h1 h2 => by rw [upd_ne (ne_of_none e h)]; exact f.keep b o e h1 h2, f.new, fun b h => upd_dom (f.dom b h)⟩
/-- the state, with the growing list locked -/
structure Stt (K : PySem.W.Frag) (H0 : Hp) (m l0 D W : Addr) (ws : List Str) (od : Obj) (u : List V) (l : Addr) (n : Nat) (acc : List V) (ds : List PyData) (Hb : Hp) : Prop where
  frz : Hb D = some (.frz od (.lst u))
  M : Mch Hb m l n
  F : Fr m l0 l H0 Hb
  w : Hb W = some (.lst (ws.map V.str))
  wl : W ≠ l
  it : DqAll K Hb m l acc ds
section
variable {K : PySem.W.Frag} {H0 Hb : Hp} {m l0 D W l : Addr} {ws : List Str} {od : Obj} {u acc : List V} {n : Nat} {ds : List PyData}
theorem Mch.nm {H : Hp} {p : Addr} {o : HO} (M : Mch H m l n) (h : H p = some o) (ho : ∀ kv, o ≠ .dK kv) : p ≠ m := by
  obtain ⟨c, cs, ls, z, h1, _⟩ := M.ex
  exact ne_of h h1 (fun e => ho _ e)
theorem Mch.nl {H : Hp} {p : Addr} {o : HO} (M : Mch H m l n) (h : H p = some o) (ho : ∀ xs, o ≠ .lst xs) : p ≠ l := by
  obtain ⟨c, cs, ls, z, _, _, h1, _⟩ := M.ex
  exact ne_of h h1 (fun e => ho _ e)
theorem Stt.relock (s : Stt K H0 m l0 D W ws od u l n acc ds Hb) (hD : H0 D = none) (od' : Obj) (u' : List V) : Stt K H0 m l0 D W ws od' u' l n acc ds (upd Hb D (.frz od' (.lst u'))) := by
  refine ⟨upd_same, Mch.unlock s.frz s.M, s.F.relock hD, upd_frz s.frz (fun _ _ z => nomatch z) s.w, s.wl, ?_⟩
  exact DqAll.gen (fun a xs q n1 n2 => ⟨upd_frz s.frz (fun _ _ z => nomatch z) q, n1, n2⟩) (fun a xs q => by
    have := Dq.unlock (K := K) (m := m) (l := l) (o := .frz od' (.lst u')) (d := .tuple []) (v := .ref a) s.frz
    rcases q with (q | ⟨o', q⟩) | q
    · exact .inl (.inl (upd_frz s.frz (fun _ _ z => nomatch z) q))
    · have q' : Hb a = some (.frz o' (.tup xs)) := q
      have nb : a ≠ D := fun z => by rw [z, s.frz] at q'; cases q'
      have q2 : upd Hb D (.frz od' (.lst u')) a = some (.frz o' (.tup xs)) := by rw [upd_ne nb]; exact q'
      exact .inl (.inr ⟨o', q2⟩)
    · exact .inr q) (fun a q n1 n2 => ⟨upd_frz s.frz (fun _ _ z => nomatch z) q, n1, n2⟩) _ _ s.it
/-- a step of the machine, the list locked -/
theorem Stt.step (s : Stt K H0 m l0 D W ws od u l n acc ds Hb) {l' : Addr} {n' : Nat} {H' : Hp} (M' : Mch H' m l' n') (f : Fr m l l' Hb H') : Stt K H0 m l0 D W ws od u l' n' acc ds H' := by
  have nD : D ≠ m ∧ D ≠ l := ⟨s.M.nm s.frz (fun _ z => nomatch z), s.M.nl s.frz (fun _ z => nomatch z)⟩
  have nW : W ≠ m := s.M.nm s.w (fun _ z => nomatch z)
  refine ⟨f.keep _ _ s.frz nD.1 nD.2, M', s.F.trans f, f.keep _ _ s.w nW s.wl, ?_, DqAll.step (s.M.step f) _ _ s.it⟩
  rcases f.new with z | z
  · rw [z]; exact s.wl
  · exact ne_of_none s.w z
theorem Stt.grow (s : Stt K H0 m l0 D W ws od u l n acc ds Hb) {H' : Hp} (k : Same Hb H') : Stt K H0 m l0 D W ws od u l n acc ds H' :=
  ⟨k _ _ s.frz, s.M.same k, ⟨fun b o e h1 h2 => k _ _ (s.F.keep b o e h1 h2), s.F.new, fun b h => by
    have h2 := s.F.dom b h
    cases q : Hb b with
    | none => exact absurd q h2
    | some o => rw [k b o q]; exact fun z => nomatch z⟩, k _ _ s.w, s.wl, DqAll.same k _ _ s.it⟩
theorem Stt.mono {n' : Nat} (s : Stt K H0 m l0 D W ws od u l n acc ds Hb) (h : n ≤ n') : Stt K H0 m l0 D W ws od u l n' acc ds Hb := ⟨s.frz, s.M.mono h, s.F, s.w, s.wl, s.it⟩
theorem Stt.more (s : Stt K H0 m l0 D W ws od u l n acc ds Hb) {v : V} {d : PyData} (h : Dq K Hb m l v d) : Stt K H0 m l0 D W ws od u l n (acc ++ [v]) (ds ++ [d]) Hb :=
  ⟨s.frz, s.M, s.F, s.w, s.wl, DqAll.app s.it (.cons h .nil)⟩
/-- a drawn number, the list locked while it is drawn -/
theorem lk_next {E : XK} {σ : L2.St} {Q : VK} {tk : TE} {k : Int} (hD : H0 D = none) (s : Stt K H0 m l0 D W ws od u l n acc ds Hb) (hn : n < 1000000) (hm : σ[0]? = some (some (.ref m))) (h0 : 0 < k) (h1 : k < 1000000)
    (ht : ∀ od' Q', Q' (.int k) (upd Hb D (.frz od' (.lst acc))) → tk σ (upd Hb D (.frz od' (.lst acc))) Q')
    (q : ∀ (r : Int) (l' : Addr) (G : Hp), 0 ≤ r → r < k → Stt K H0 m l0 D W ws od acc l' (n + 1) acc ds G → Q (.int r) (upd G D (.lst acc))) :
    tLockE (tCall spNext [] E (tCons (tVar 0) (tCons tk tNil))) σ (upd Hb D (.lst acc)) Q := by
  refine ⟨D, .lst acc, upd_same, trivial, fun od' => ?_⟩
  rw [upd_upd]
  have s' := s.relock hD od' acc
  refine ⟨_, hm, ht od' _ ⟨m, l, n, k, rfl, s'.M, hn, h0, h1, fun r l' H' r0 r1 M' f => ?_⟩⟩
  have s2 := s'.step M' f
  refine ⟨s2.frz, ?_⟩
  have s3 := s2.relock hD od acc
  have e : upd (upd H' D (.frz od (.lst acc))) D (.lst acc) = upd H' D (.lst acc) := upd_upd ..
  rw [← e]
  exact q r l' _ r0 r1 s3
theorem DqAll.unlock {H : Hp} {L : Addr} {o : HO} {u' : List V} (h : H L = some (.frz od (.lst u'))) {vs : List V} {ds : List PyData} (hd : DqAll K H m l vs ds) : DqAll K (upd H L o) m l vs ds :=
  DqAll.gen (fun a xs q n1 n2 => ⟨upd_frz h (fun _ _ z => nomatch z) q, n1, n2⟩) (fun a xs q => by
    rcases q with (q | ⟨o', q⟩) | q
    · exact .inl (.inl (upd_frz h (fun _ _ z => nomatch z) q))
    · have q' : H a = some (.frz o' (.tup xs)) := q
      have nb : a ≠ L := fun z => by rw [z, h] at q'; cases q'
      have q2 : upd H L o a = some (.frz o' (.tup xs)) := by rw [upd_ne nb]; exact q'
      exact .inl (.inr ⟨o', q2⟩)
    · exact .inr q) (fun a q n1 n2 => ⟨upd_frz h (fun _ _ z => nomatch z) q, n1, n2⟩) _ _ hd
/-- another locked list changes -/
theorem Stt.other (s : Stt K H0 m l0 D W ws od u l n acc ds Hb) {D2 : Addr} {od2 : Obj} {u2 : List V} (g : Hb D2 = some (.frz od2 (.lst u2))) (nD : D2 ≠ D) (h2 : H0 D2 = none) (o : HO) : Stt K H0 m l0 D W ws od u l n acc ds (upd Hb D2 o) :=
  ⟨by rw [upd_ne nD.symm]; exact s.frz, Mch.unlock g s.M, s.F.relock h2, upd_frz g (fun _ _ z => nomatch z) s.w, s.wl, DqAll.unlock g s.it⟩
theorem upd_two {H : Hp} {a b : Addr} {o o' : HO} (h : a ≠ b) : upd (upd H a o) b o' = upd (upd H b o') a o := by
  funext x
  by_cases e1 : x = a
  · rw [e1, upd_ne h, upd_same, upd_same]
  · by_cases e2 : x = b
    · rw [e2, upd_same, upd_ne (fun z => e1 (e2.trans z)), upd_same]
    · rw [upd_ne e2, upd_ne e1, upd_ne e1, upd_ne e2]
/-- the same with two lists that are locked -/
theorem lk2_next {E : XK} {σ : L2.St} {Q : VK} {tk : TE} {k : Int} {D2 : Addr} {od2 : Obj} {u2 ns : List V} (hD : H0 D = none) (hD2 : H0 D2 = none) (nD : D2 ≠ D) (s : Stt K H0 m l0 D W ws od u l n acc ds Hb) (g2 : Hb D2 = some (.frz od2 (.lst u2))) (hn : n < 1000000) (hm : σ[0]? = some (some (.ref m))) (h0 : 0 < k) (h1 : k < 1000000)
    (ht : ∀ G Q', Q' (.int k) G → tk σ G Q')
    (q : ∀ (r : Int) (l' : Addr) (od od2 : Obj) (G : Hp), 0 ≤ r → r < k → Stt K H0 m l0 D W ws od acc l' (n + 1) acc ds G → G D2 = some (.frz od2 (.lst ns)) → Q (.int r) (upd (upd G D2 (.lst ns)) D (.lst acc))) :
    tLockE (tLockE (tCall spNext [] E (tCons (tVar 0) (tCons tk tNil)))) σ (upd (upd Hb D2 (.lst ns)) D (.lst acc)) Q := by
  refine ⟨D, .lst acc, upd_same, trivial, fun od' => ?_⟩
  rw [upd_upd]
  refine ⟨D2, .lst ns, by rw [upd_ne nD, upd_same], trivial, fun od2' => ?_⟩
  rw [← upd_two nD, upd_upd, upd_two nD]
  have s1 := (s.relock hD od' acc).other (od2 := od2) (u2 := u2) (by rw [upd_ne nD]; exact g2) nD hD2 (.frz od2' (.lst ns))
  refine ⟨_, hm, ht _ _ ⟨m, l, n, k, rfl, s1.M, hn, h0, h1, fun r l' H' r0 r1 M' f => ?_⟩⟩
  have s2 := s1.step M' f
  have e2 : H' D2 = some (.frz od2' (.lst ns)) := f.keep _ _ upd_same (s1.M.nm upd_same (fun _ z => nomatch z)) (s1.M.nl upd_same (fun _ z => nomatch z))
  exact ⟨e2, by rw [upd_ne nD.symm]; exact s2.frz, q r l' _ _ _ r0 r1 s2 e2⟩
end
end Ms
namespace Ms
open PySem PySem.Spec PyProof.Rows L2
structure TxtL (mg : Str → Option Value) (fN fM : Addr) : Prop extends TxtS mg fN fM where
  min : mg "min" = none
/-- what a drawn place is -/
theorem do_good {z : Str} {r : Int} (hz : sOk 16 z) (h0 : 0 ≤ r) (h1 : r < 16) : Gd big 460 2 (.tuple [.str "do", .str z, .int r]) := by
  have g1 : Gd big 16 0 (.str "do") := Gd.str ⟨by decide, by decide⟩
  have g2 : Gd big 16 0 (.str z) := Gd.str hz
  have g3 : Gd big 104 0 (.int r) := Gd.int (by show r.natAbs ≤ 10 ^ 30; omega) (by decide)
  exact (Gd.tup ((Gl'.one g1).app ((Gl'.one g2).app (Gl'.one g3)))).mono (Nat.le_refl _) (by omega) (by omega)
theorem end_good : Gd big 460 2 (.tuple [.str "end"]) := (Gd.tup (Gl'.one (Gd.str (a := 16) ⟨by decide, by decide⟩))).mono (Nat.le_refl _) (by omega) (by omega)
theorem ints_good : ∀ ns : List Int, (∀ x ∈ ns, 0 ≤ x ∧ x < 16) → Gl' big (105 * ns.length) 0 (ns.map PyData.int)
  | [], _ => ⟨(fun d h => nomatch h), Nat.le_refl _, (fun d h => nomatch h)⟩
  | x :: ns, h => by
    obtain ⟨h0, h1⟩ := h x (List.mem_cons_self ..)
    have g := (Gl'.one (Gd.int (B := big) (i := x) (by show x.natAbs ≤ 10 ^ 30; omega) (by decide))).app (ints_good ns fun y hy => h y (List.mem_cons_of_mem _ hy))
    exact g.mono (Nat.le_refl _) (by simp only [List.length_cons]; omega) (Nat.le_refl _)
theorem ask_good {z : Str} {ns : List Int} (hz : sOk 16 z) (hn : ∀ x ∈ ns, 0 ≤ x ∧ x < 16) (hl : ns.length ≤ 4) : Gd big 460 2 (.tuple [.str "ask", .str z, .tuple (ns.map .int)]) := by
  have g1 : Gd big 16 1 (.str "ask") := (Gd.str (a := 16) ⟨by decide, by decide⟩).mono (Nat.le_refl _) (Nat.le_refl _) (by omega)
  have g2 : Gd big 16 1 (.str z) := (Gd.str hz).mono (Nat.le_refl _) (Nat.le_refl _) (by omega)
  have g3 := Gd.tup (ints_good ns hn)
  exact (Gd.tup ((Gl'.one g1).app ((Gl'.one g2).app (Gl'.one g3)))).mono (Nat.le_refl _) (by omega) (by omega)
theorem ints_dq {K : PySem.W.Frag} {H : Hp} {m l : Addr} : ∀ ns : List Int, DqAll K H m l (ns.map V.int) (ns.map PyData.int)
  | [] => .nil
  | _ :: ns => .cons (.int _) (ints_dq ns)
abbrev NPl : List Str := ["m", "spots", "most", "many", "words", "found", "back", "at", "way", "near", "low", "word", "name", "bound", "row", "k"]
theorem scPc : FnScope NPl ["m", "spots", "most"] (defScope sPlaces) := ⟨rfl, rfl, rfl, by decide +kernel, rfl, by decide +kernel, by decide +kernel⟩
def spPlaces (K : PySem.W.Frag) : Sp := fun vs H Q _ => ∃ (m l a : Addr) (n : Nat) (as : List Addr) (qs : List (Str × Int)) (k : Nat), vs = [.ref m, .ref a, .int (k : Int)] ∧ Mch H m l n ∧ n < 600000 ∧ H a = some (.tup (as.map V.ref)) ∧ Prs H as qs ∧ okP qs ∧ 1 ≤ qs.length ∧ qs.length ≤ 3 ∧ 1 ≤ k ∧ k ≤ 16 ∧
  ∀ (p : Addr) (xs : List V) (ds : List PyData) (l' : Addr) (H' : Hp), H' p = some (.tup xs) → DqAll K H' m l' xs ds → Gd big 7500 3 (.tuple ds) → 1 ≤ ds.length → ds.length ≤ 16 → Mch H' m l' (n + 220) → Fr m l l' H H' → Q (.ref p) H'
section
variable {P : Program} {w : World} {K : PySem.W.Frag} {mg : Str → Option Value} {base : Heap} {fN fM : Addr}
abbrev thenOf (s : Stmt) : List Stmt := match s with
  | .If _ b _ _ => b
  | _ => []
abbrev elseOf (s : Stmt) : List Stmt := match s with
  | .If _ _ b _ => b
  | _ => []
abbrev bPlaces : List Stmt := match (defBody sPlaces).getD 2 (.Pass ⟨0, 0, 0, 0⟩) with
  | .For _ _ b _ _ => b
  | _ => []
theorem Stt.wD {K : PySem.W.Frag} {H0 Hb : Hp} {m l0 D W l : Addr} {ws : List Str} {od : Obj} {u acc : List V} {n : Nat} {ds : List PyData} (s : Stt K H0 m l0 D W ws od u l n acc ds Hb) {o : HO} : (upd Hb D o) W = some (.lst (ws.map V.str)) := by
  rw [upd_ne (ne_of s.w s.frz (fun z => nomatch z))]; exact s.w
theorem ok_places {f : Addr} {fd fdN fdM : FuncData} (F : Fun K "_law_places" "_law_places" sPlaces f fd) (T : TxtL mg fN fM) (FN : Fun K "_law_next" "_law_next" sNext fN fdN) (bN : Binds K fdN ["m", "many"] [])
    (FM : Fun K "_law_names" "_law_names" sNames fM fdM) (bM : Binds K fdM ["m", "many"] []) : FnOk P w K mg base CX0 3 f fd ["m", "spots", "most"] (spPlaces K) := by
  have GN : FnOk P w K mg base CX0 2 fN fdN ["m", "many"] spNext := (ok_next FN T.toTxt).mono (by decide)
  have GM : FnOk P w K mg base CX0 2 fM fdM ["m", "many"] spNamesV := ok_namesV FM T.toTxtN FN bN
  refine F.ok scPc (fun vs H Q E h => ?_) (fun cdv A outer s H vs Q E hr h => ?_)
  · obtain ⟨m, l, a, n, as, qs, k, rfl, _⟩ := h
    rfl
  obtain ⟨m, l, a, n, as, qs, k, rfl, M, hn, ha, hp, op, q1, q3, k1, k16, q⟩ := h
  have aM := M.nm ha (fun _ z => nomatch z)
  have aL := M.nl ha (fun _ z => nomatch z)
  have lq := hp.length
  have spot : ∀ {L W : Addr} {ws : List Str} {od : Obj} {u acc : List V} {l1 : Addr} {n1 : Nat} {ds : List PyData} {G : Hp} {o : HO}, H L = none → Stt K H m l L W ws od u l1 n1 acc ds G → (upd G L o) a = some (.tup (as.map V.ref)) := fun hL s => by
    rw [upd_ne (ne_of_none ha hL)]; exact s.F.keep _ _ ha aM aL
  have stE : ∃ t, PSs (cxOf CX0 P w K mg base NPl "_law_places" (defScope sPlaces) f cdv A outer s H E).nox (thenOf (bPlaces.getD 2 (.Pass ⟨0, 0, 0, 0⟩))) t ∧ ∀ (Dn : Ends) (Hb : Hp) (L W : Addr) (ws : List Str) (od : Obj) (u acc : List V) (l1 : Addr) (n1 : Nat) (ds : List PyData) (many back ix way near low : Int) (v2 v11 v12 v13 v14 v15 : Option V),
      H L = none → Stt K H m l L W ws od u l1 n1 acc ds Hb → n1 < 900000 → ws.length = 3 → (∀ y ∈ ws, sOk 16 y) → acc.length ≤ 20 → 0 ≤ near → 0 ≤ low → low ≤ near → near < many → many ≤ 16 →
      (∀ (v11 v12 v13 v14 v15 : Option V) (od : Obj) (u : List V) (l2 : Addr) (n2 : Nat) (v : V) (d : PyData) (G : Hp), Stt K H m l L W ws od u l2 n2 (acc ++ [v]) (ds ++ [d]) G → Gd big 460 2 d → n2 ≤ n1 + 0 →
        Dn.nx [some (.ref m), some (.ref a), v2, some (.int many), some (.ref W), some (.ref L), some (.int back), some (.int ix), some (.int way), some (.int near), some (.int low), v11, v12, v13, v14, v15] (upd G L (.lst (acc ++ [v])))) →
      t Dn [some (.ref m), some (.ref a), v2, some (.int many), some (.ref W), some (.ref L), some (.int back), some (.int ix), some (.int way), some (.int near), some (.int low), v11, v12, v13, v14, v15] (upd Hb L (.lst acc)) := by
    refine ⟨_, pss_one (ps_expr (pe_bm PySem.F.plainAttrs_list PySem.F.slot_list_append PySem.F.type_list_append mt_append (pv 5) (pa_cons (pe_lock (pe_tup (pa_cons pe_str pa_nil))) pa_nil))), ?_⟩
    intro Dn Hb L W ws od u acc l1 n1 ds many back ix way near low v2 v11 v12 v13 v14 v15 hL S hn1 wl wok al n0 lo0 lon nm m16 nx
    refine ⟨_, rfl, .inl ⟨rfl, _, SqL.of upd_same⟩, L, .lst acc, upd_same, trivial, fun od' => ?_⟩
    rw [upd_upd]
    have s1 := S.relock hL od' acc
    refine ⟨(by show 1 ≤ sizeLine; decide), fun p hp => ?_⟩
    have s2 := s1.grow (Same.upd (o := .tup [.str "end"]) hp)
    refine ⟨s2.frz, L, acc, _, rfl, rfl, upd_same, small1000 (by omega), ?_⟩
    rw [upd_upd]
    exact nx _ _ _ _ _ _ _ _ _ _ _ _ (s2.more (d := .tuple [.str "end"]) (.tup (.inl (.inl upd_same)) (.cons (.str _) .nil))) end_good (Nat.le_refl _)
  have stD : ∃ t, PSs (cxOf CX0 P w K mg base NPl "_law_places" (defScope sPlaces) f cdv A outer s H E).nox (thenOf ((elseOf (bPlaces.getD 2 (.Pass ⟨0, 0, 0, 0⟩))).getD 0 (.Pass ⟨0, 0, 0, 0⟩))) t ∧ ∀ (Dn : Ends) (Hb : Hp) (L W : Addr) (ws : List Str) (od : Obj) (u acc : List V) (l1 : Addr) (n1 : Nat) (ds : List PyData) (many back ix way near low : Int) (v2 v11 v12 v13 v14 v15 : Option V),
      H L = none → Stt K H m l L W ws od u l1 n1 acc ds Hb → n1 < 900000 → ws.length = 3 → (∀ y ∈ ws, sOk 16 y) → acc.length ≤ 20 → 0 ≤ near → 0 ≤ low → low ≤ near → near < many → many ≤ 16 →
      (∀ (v11 v12 v13 v14 v15 : Option V) (od : Obj) (u : List V) (l2 : Addr) (n2 : Nat) (v : V) (d : PyData) (G : Hp), Stt K H m l L W ws od u l2 n2 (acc ++ [v]) (ds ++ [d]) G → Gd big 460 2 d → n2 ≤ n1 + 3 →
        Dn.nx [some (.ref m), some (.ref a), v2, some (.int many), some (.ref W), some (.ref L), some (.int back), some (.int ix), some (.int way), some (.int near), some (.int low), v11, v12, v13, v14, v15] (upd G L (.lst (acc ++ [v])))) →
      t Dn [some (.ref m), some (.ref a), v2, some (.int many), some (.ref W), some (.ref L), some (.int back), some (.int ix), some (.int way), some (.int near), some (.int low), v11, v12, v13, v14, v15] (upd Hb L (.lst acc)) := by
    refine ⟨_, pss_cons (ps_set (i := 11) scPc.nd rfl (by first | exact Or.inl rfl | exact Or.inr rfl) (pe_ix ix_list (pv 4) (pe_lock (pe_call GN hr (by rfl) T.next FN.kp bN .nil pass0 (pa_cons (pv 0) (pa_cons pe_int pa_nil)))) (fun _ _ => rfl)))
      (pss_one (ps_expr (pe_bm PySem.F.plainAttrs_list PySem.F.slot_list_append PySem.F.type_list_append mt_append (pv 5) (pa_cons (pe_lock (pe_tup (pa_cons pe_str (pa_cons (pv 11) (pa_cons (pe_ifExp (pt_cmpR op_gt (pe_call GN hr (by rfl) T.next FN.kp bN .nil pass0 (pa_cons (pv 0) (pa_cons pe_int pa_nil))) pe_int (nomark _)) (pv 9) (pe_op op_add (pv 10) (pe_call GN hr (by rfl) T.next FN.kp bN .nil pass0 (pa_cons (pv 0) (pa_cons (pe_op op_sub (pv 3) (pv 10)) pa_nil))))) pa_nil))))) pa_nil)))), ?_⟩
    intro Dn Hb L W ws od u acc l1 n1 ds many back ix way near low v2 v11 v12 v13 v14 v15 hL S hn1 wl wok al n0 lo0 lon nm m16 nx
    refine ⟨_, rfl, lk_next hL S (by omega) rfl (by decide) (by decide) (fun _ _ h => h) fun r l2 G r0 r3 s1 => ?_⟩
    obtain ⟨j, rfl⟩ : ∃ j : Nat, r = (j : Int) := ⟨r.toNat, by omega⟩
    obtain ⟨y, hy⟩ : ∃ y, ws[j]? = some y := ⟨_, List.getElem?_eq_getElem (by omega)⟩
    have yo := wok y (List.mem_of_getElem? hy)
    refine ⟨W, _, (j : Int), .str y, rfl, rfl, SqL.of s1.wD, atI_nat (by rw [List.getElem?_map, hy]; rfl), ?_⟩
    refine ⟨_, rfl, .inl ⟨rfl, _, SqL.of upd_same⟩, L, .lst acc, upd_same, trivial, fun od' => ?_⟩
    rw [upd_upd]
    have s2 := s1.relock hL od' acc
    have fin : ∀ (r : Int) (l3 : Addr) (n3 : Nat) (G3 : Hp), 0 ≤ r → r < 16 → n3 ≤ n1 + 3 → Stt K H m l L W ws od' acc l3 n3 acc ds G3 → ∀ p, G3 p = none → (upd G3 p (.tup [.str "do", .str y, .int r])) L = some (.frz od' (.lst acc)) ∧ ∃ (p1 : Addr) (acc' : List V) (z : V), V.ref L = .ref p1 ∧ [V.ref p] = [z] ∧ (upd (upd G3 p (.tup [.str "do", .str y, .int r])) L (.lst acc)) p1 = some (.lst acc') ∧ acc'.length < sizeLine ∧
        Dn.nx [some (.ref m), some (.ref a), v2, some (.int many), some (.ref W), some (.ref L), some (.int back), some (.int ix), some (.int way), some (.int near), some (.int low), some (.str y), v12, v13, v14, v15] (upd (upd (upd G3 p (.tup [.str "do", .str y, .int r])) L (.lst acc)) p1 (.lst (acc' ++ [z]))) := by
      intro r l3 n3 G3 q0 q1 qn s3 p hp
      have s4 := s3.grow (Same.upd (o := .tup [.str "do", .str y, .int r]) hp)
      refine ⟨s4.frz, L, acc, _, rfl, rfl, upd_same, small1000 (by omega), ?_⟩
      rw [upd_upd]
      exact nx _ _ _ _ _ _ _ _ _ _ _ _ (s4.more (d := .tuple [.str "do", .str y, .int r]) (.tup (.inl (.inl upd_same)) (.cons (.str _) (.cons (.str _) (.cons (.int _) .nil))))) (do_good yo q0 q1) qn
    refine ⟨_, rfl, _, rfl, m, l2, n1 + 1, 3, rfl, s2.M, by omega, by decide, by decide, fun r5 l3 G3 a5 b5 M3 f3 => ⟨_, _, rfl, rfl, _, rfl, ite_b (fun _ => ?_) (fun _ => ?_)⟩⟩
    · exact ⟨_, rfl, (by show 3 ≤ sizeLine; decide), fin near l3 (n1 + 1 + 1) G3 n0 (by omega) (by omega) (s2.step M3 f3)⟩
    · refine ⟨_, rfl, _, rfl, _, rfl, _, rfl, _, _, rfl, rfl, m, l3, n1 + 1 + 1, many - low, rfl, M3, by omega, by omega, by omega, fun r6 l4 G4 a6 b6 M4 f4 => ⟨low, r6, rfl, rfl, (by show 3 ≤ sizeLine; decide), ?_⟩⟩
      exact fin (low + r6) l4 (n1 + 1 + 1 + 1) G4 (by omega) (by omega) (by omega) ((s2.step M3 f3).step M4 f4)
  have stA : ∃ t, PSs (cxOf CX0 P w K mg base NPl "_law_places" (defScope sPlaces) f cdv A outer s H E).nox (elseOf ((elseOf (bPlaces.getD 2 (.Pass ⟨0, 0, 0, 0⟩))).getD 0 (.Pass ⟨0, 0, 0, 0⟩))) t ∧ ∀ (Dn : Ends) (Hb : Hp) (L W : Addr) (ws : List Str) (od : Obj) (u acc : List V) (l1 : Addr) (n1 : Nat) (ds : List PyData) (many back ix way near low : Int) (v2 v11 v12 v13 v14 v15 : Option V),
      H L = none → Stt K H m l L W ws od u l1 n1 acc ds Hb → n1 < 900000 → ws.length = 3 → (∀ y ∈ ws, sOk 16 y) → acc.length ≤ 20 → 0 ≤ near → 0 ≤ low → low ≤ near → near < many → many ≤ 16 →
      (∀ (v11 v12 v13 v14 v15 : Option V) (od : Obj) (u : List V) (l2 : Addr) (n2 : Nat) (v : V) (d : PyData) (G : Hp), Stt K H m l L W ws od u l2 n2 (acc ++ [v]) (ds ++ [d]) G → Gd big 460 2 d → n2 ≤ n1 + 9 →
        Dn.nx [some (.ref m), some (.ref a), v2, some (.int many), some (.ref W), some (.ref L), some (.int back), some (.int ix), some (.int way), some (.int near), some (.int low), v11, v12, v13, v14, v15] (upd G L (.lst (acc ++ [v])))) →
      t Dn [some (.ref m), some (.ref a), v2, some (.int many), some (.ref W), some (.ref L), some (.int back), some (.int ix), some (.int way), some (.int near), some (.int low), v11, v12, v13, v14, v15] (upd Hb L (.lst acc)) := by
    refine ⟨_, pss_cons (ps_asg (pe_ix ix_tup (pv 1) (pe_lock (pe_call GN hr (by rfl) T.next FN.kp bN .nil pass0 (pa_cons (pv 0) (pa_cons (pe_callB call_len (by rfl) T.len PySem.boot_len (pa_cons (pv 1) pa_nil)) pa_nil)))) (fun _ _ => rfl)) (pg_tup rfl (pgs_cons (pg_name (i := 12) scPc.nd rfl (by first | exact Or.inl rfl | exact Or.inr rfl)) (pgs_cons (pg_name (i := 13) scPc.nd rfl (by first | exact Or.inl rfl | exact Or.inr rfl)) pgs_nil))))
        (pss_cons (ps_setLc (i := 14) (own := [("k", 15)]) (g := gName 15) (by rfl) scPc.nd rfl (by first | exact Or.inl rfl | exact Or.inr rfl | rfl) (by rfl) (pi_range1 (by rfl) T.range (pa_cons (pe_op op_add (pv 13) pe_int) pa_nil)) (blkOk_by (own := [("k", 15)]) (N := NPl) (sc := defScope sPlaces) (by decide +kernel))
          (fun _ _ _ _ _ => pg_name (i := 15) scPc.nd rfl (by first | exact Or.inl rfl | exact Or.inr rfl)) (fun _ _ _ _ _ => pts_nil) (fun _ _ _ _ _ => pe_ifExp (pt_cmpR op_eq (pe_lock (pe_lock (pe_call GN hr (by rfl) T.next FN.kp bN .nil pass0 (pa_cons (pv 0) (pa_cons pe_int pa_nil))))) pe_int (nomark _)) (pv 9) (pe_op op_add (pv 10) (pe_lock (pe_lock (pe_call GN hr (by rfl) T.next FN.kp bN .nil pass0 (pa_cons (pv 0) (pa_cons (pe_op op_sub (pv 3) (pv 10)) pa_nil))))))))
        (pss_one (ps_expr (pe_bm PySem.F.plainAttrs_list PySem.F.slot_list_append PySem.F.type_list_append mt_append (pv 5) (pa_cons (pe_lock (pe_tup (pa_cons pe_str (pa_cons (pv 12) (pa_cons (pe_callTy call_tuple_of (by rfl) T.tuple (by decide +kernel) (pa_cons (pv 14) pa_nil)) pa_nil))))) pa_nil))))), ?_⟩
    intro Dn Hb L W ws od u acc l1 n1 ds many back ix way near low v2 v11 v12 v13 v14 v15 hL S hn1 wl wok al n0 lo0 lon nm m16 nx
    refine ⟨_, rfl, lk_next (k := as.length) hL S (by omega) rfl (by omega) (by omega) (fun od' Q' h => ⟨_, rfl, .ref a, (as.map V.ref).length, rfl, .inr ⟨_, SqT.of (spot hL S), rfl⟩, by rw [List.length_map]; exact h⟩) fun r l2 G r0 r3 s1 => ?_⟩
    obtain ⟨j, rfl⟩ : ∃ j : Nat, r = (j : Int) := ⟨r.toNat, by omega⟩
    obtain ⟨x, hx⟩ : ∃ x, as[j]? = some x := ⟨_, List.getElem?_eq_getElem (by omega)⟩
    obtain ⟨y, c, hq, hxt⟩ := hp.get hx
    obtain ⟨yo, c1, c3⟩ := op _ (List.mem_of_getElem? hq)
    have hxG : ∀ {o : HO}, (upd G L o) x = some (.tup [.str y, .int c]) := fun {o} => by
      rw [upd_ne (ne_of_none hxt hL)]; exact s1.F.keep _ _ hxt (M.nm hxt (fun _ z => nomatch z)) (M.nl hxt (fun _ z => nomatch z))
    refine ⟨a, _, (j : Int), .ref x, rfl, rfl, SqT.of (spot hL s1), atI_nat (by rw [List.getElem?_map, hx]; rfl), ?_⟩
    refine ⟨x, _, rfl, .inl (.inl hxG), rfl, _, _, rfl, _, _, rfl, rfl, ?_⟩
    refine ⟨_, rfl, _, _, rfl, rfl, c + 1, rfl, by omega, by omega, fun D2 hD2 => ?_⟩
    have nD2 : D2 ≠ L := fun e => by rw [e, upd_same] at hD2; cases hD2
    have gD2 : G D2 = none := by rw [upd_ne nD2] at hD2; exact hD2
    have hD2H : H D2 = none := s1.F.free gD2
    obtain ⟨od0, e0⟩ : ∃ od0 : Obj, od0 = { cls := .none, data := .plain } := ⟨_, rfl⟩
    have sB := s1.grow (Same.upd (o := .frz od0 (.lst [])) gD2)
    refine lc_range (lo := 0) (n := (c + 1).toNat) (fun i H9 => ∃ (G1 : Hp) (l3 : Addr) (od od2 : Obj) (u u2 : List V) (ns : List Int), H9 = upd (upd G1 D2 (.lst (ns.map V.int))) L (.lst acc) ∧ Stt K H m l L W ws od u l3 (n1 + 1 + 2 * i) acc ds G1 ∧ G1 D2 = some (.frz od2 (.lst u2)) ∧ ns.length = i ∧ ∀ x ∈ ns, 0 ≤ x ∧ x < 16)
      ⟨upd G D2 (.frz od0 (.lst [])), l2, od, od0, acc, [], [], by rw [upd_upd, upd_two nD2]; rfl, sB, upd_same, rfl, (fun x h => nomatch h)⟩ ?_ ?_
    · rintro i H9 hi ⟨G1, l3, od1, od2, u1, u2, ns, rfl, s3, g3, ln, hns⟩
      have pnt : ∀ (r : Int) (l4 : Addr) (od od2 : Obj) (G4 : Hp) (n4 : Nat), 0 ≤ r → r < 16 → n4 ≤ n1 + 1 + 2 * (i + 1) → Stt K H m l L W ws od acc l4 n4 acc ds G4 → G4 D2 = some (.frz od2 (.lst (ns.map V.int))) → ∃ acc', (upd (upd G4 D2 (.lst (ns.map V.int))) L (.lst acc)) D2 = some (.lst acc') ∧ acc'.length < sizeLine ∧
          ∃ (G1 : Hp) (l3 : Addr) (od od2 : Obj) (u u2 : List V) (ms : List Int), upd (upd (upd G4 D2 (.lst (ns.map V.int))) L (.lst acc)) D2 (.lst (acc' ++ [V.int r])) = upd (upd G1 D2 (.lst (ms.map V.int))) L (.lst acc) ∧ Stt K H m l L W ws od u l3 (n1 + 1 + 2 * (i + 1)) acc ds G1 ∧ G1 D2 = some (.frz od2 (.lst u2)) ∧ ms.length = i + 1 ∧ ∀ x ∈ ms, 0 ≤ x ∧ x < 16 := by
        intro r l4 od od2 G4 n4 q0 q1 qn s4 g4
        refine ⟨ns.map V.int, by rw [upd_ne nD2, upd_same], small1000 (by rw [List.length_map]; omega), G4, l4, od, od2, acc, _, ns ++ [r], ?_, s4.mono qn, g4, by simp [ln], fun x hx => ?_⟩
        · rw [← upd_two nD2, upd_upd, List.map_append]; rfl
        · rcases List.mem_append.mp hx with hx | hx
          · exact hns x hx
          · rw [List.mem_singleton.mp hx]; exact ⟨q0, q1⟩
      refine ⟨rfl, tyes ?_⟩
      delta tIf tTest tOp
      refine lk2_next hL hD2H nD2 s3 g3 (k := 3) (by omega) rfl (by decide) (by decide) (fun _ _ h => h) fun r l4 od4 od5 G4 a4 b4 s4 g4 => ⟨rfl, _, rfl, ite_b (fun _ => ?_) (fun _ => ?_)⟩
      · obtain ⟨acc', e1, e2, G1, l3, odx, ody, ux, uy, nsx, e3, e4, e5, e6, e7⟩ := pnt near l4 od4 od5 G4 _ n0 (by omega) (by omega) s4 g4
        exact ⟨_, rfl, acc', e1, e2, G1, l3, odx, ody, ux, uy, nsx, e3, e4, e5, e6, e7⟩
      · refine ⟨_, rfl, lk2_next hL hD2H nD2 s4 g4 (k := many - low) (by omega) rfl (by omega) (by omega) (fun _ _ h => ⟨_, rfl, _, rfl, _, _, rfl, rfl, h⟩) fun r6 l5 od6 od7 G5 a6 b6 s5 g5 => ⟨low, r6, rfl, rfl, ?_⟩⟩
        obtain ⟨acc', e1, e2, G1, l3, odx, ody, ux, uy, nsx, e3, e4, e5, e6, e7⟩ := pnt (low + r6) l5 od6 od7 G5 _ (by omega) (by omega) (by omega) s5 g5
        exact ⟨acc', e1, e2, G1, l3, odx, ody, ux, uy, nsx, e3, e4, e5, e6, e7⟩
    · rintro H9 ⟨G1, l3, od1, od2, u1, u2, ns, rfl, s3, g3, ln, hns⟩
      refine ⟨_, rfl, .inl ⟨rfl, _, SqL.of upd_same⟩, L, .lst acc, upd_same, trivial, fun od' => ?_⟩
      rw [upd_upd]
      have s4 := (s3.other g3 nD2 hD2H (.lst (ns.map V.int))).relock hL od' acc
      have gd : (upd (upd G1 D2 (.lst (ns.map V.int))) L (.frz od' (.lst acc))) D2 = some (.lst (ns.map V.int)) := by rw [upd_ne nD2, upd_same]
      refine ⟨_, rfl, _, rfl, D2, _, rfl, .inl ⟨SqL.of gd, fun p hp => ?_⟩⟩
      have s5 := s4.grow (Same.upd (o := .tup (ns.map V.int)) hp)
      refine ⟨(by show 3 ≤ sizeLine; decide), fun p2 hp2 => ?_⟩
      have s6 := s5.grow (Same.upd (o := .tup [.str "ask", .str y, .ref p]) hp2)
      have np : p ≠ p2 := fun e => by rw [← e, upd_same] at hp2; cases hp2
      refine ⟨s6.frz, L, acc, _, rfl, rfl, upd_same, small1000 (by omega), ?_⟩
      rw [upd_upd]
      refine nx _ _ _ _ _ _ _ _ _ _ _ _ (s6.more (d := .tuple [.str "ask", .str y, .tuple (ns.map .int)]) ?_) (ask_good yo hns (by omega)) (by omega)
      exact .tup (.inl (.inl upd_same)) (.cons (.str _) (.cons (.str _) (.cons (.tup (.inl (.inl (by rw [upd_ne np, upd_same]))) (ints_dq ns)) .nil)))
  have stIf : ∃ t, PSs (cxOf CX0 P w K mg base NPl "_law_places" (defScope sPlaces) f cdv A outer s H E).nox (bPlaces.drop 2) t ∧ ∀ (Dn : Ends) (Hb : Hp) (L W : Addr) (ws : List Str) (od : Obj) (u acc : List V) (l1 : Addr) (n1 : Nat) (ds : List PyData) (many back ix way near low : Int) (v2 v11 v12 v13 v14 v15 : Option V),
      H L = none → Stt K H m l L W ws od u l1 n1 acc ds Hb → n1 < 800000 → ws.length = 3 → (∀ y ∈ ws, sOk 16 y) → acc.length ≤ 20 → 0 ≤ near → 0 ≤ low → low ≤ near → near < many → many ≤ 16 →
      (∀ (v11 v12 v13 v14 v15 : Option V) (od : Obj) (u : List V) (l2 : Addr) (n2 : Nat) (v : V) (d : PyData) (G : Hp), Stt K H m l L W ws od u l2 n2 (acc ++ [v]) (ds ++ [d]) G → Gd big 460 2 d → n2 ≤ n1 + 10 →
        Dn.nx [some (.ref m), some (.ref a), v2, some (.int many), some (.ref W), some (.ref L), some (.int back), some (.int ix), some (.int way), some (.int near), some (.int low), v11, v12, v13, v14, v15] (upd G L (.lst (acc ++ [v])))) →
      t Dn [some (.ref m), some (.ref a), v2, some (.int many), some (.ref W), some (.ref L), some (.int back), some (.int ix), some (.int way), some (.int near), some (.int low), v11, v12, v13, v14, v15] (upd Hb L (.lst acc)) := by
    obtain ⟨tE, dE, zE⟩ := stE
    obtain ⟨tD, dD, zD⟩ := stD
    obtain ⟨tA, dA, zA⟩ := stA
    refine ⟨_, pss_one (ps_if (PW.pt (pw_or (pt_cmpR op_eq (pv 8) pe_int (nomark _)) (pw_or1 (PW.pt (pw_and (pt_cmpR op_eq (pv 7) (pe_op op_sub (pv 3) pe_int) (nomark _)) (pw_and1 (PW.pt (pw_or (pt_cmpR op_eq (pv 6) pe_int (nomark _)) (pw_or1 (pt_cmpR op_gt (pe_lock (pe_call GN hr (by rfl) T.next FN.kp bN .nil pass0 (pa_cons (pv 0) (pa_cons pe_int pa_nil)))) pe_int (nomark _))))))))))) dE (pss_one (ps_if (pt_cmpR op_lt (pv 8) pe_int (nomark _)) dD dA))), ?_⟩
    intro Dn Hb L W ws od u acc l1 n1 ds many back ix way near low v2 v11 v12 v13 v14 v15 hL S hn1 wl wok al n0 lo0 lon nm m16 nx
    have rest : ∀ (od : Obj) (u : List V) (l2 : Addr) (n2 : Nat) (G : Hp), Stt K H m l L W ws od u l2 n2 acc ds G → n2 ≤ n1 + 1 → tIfS (tTest (tOp (rI0 fun i j => V.bl (decide (i < j))) (tVar 8) (tC (V.int 4)))) tD tA Dn [some (.ref m), some (.ref a), v2, some (.int many), some (.ref W), some (.ref L), some (.int back), some (.int ix), some (.int way), some (.int near), some (.int low), v11, v12, v13, v14, v15] (upd G L (.lst acc)) := by
      intro od u l2 n2 G S2 h2
      refine ⟨_, rfl, _, _, rfl, rfl, _, rfl, ite_b (fun _ => ?_) (fun _ => ?_)⟩
      · exact zD Dn G L W ws od u acc l2 n2 ds many back ix way near low v2 v11 v12 v13 v14 v15 hL S2 (by omega) wl wok al n0 lo0 lon nm m16 fun v11 v12 v13 v14 v15 od u l3 n3 v d G s g h => nx v11 v12 v13 v14 v15 od u l3 n3 v d G s g (by omega)
      · exact zA Dn G L W ws od u acc l2 n2 ds many back ix way near low v2 v11 v12 v13 v14 v15 hL S2 (by omega) wl wok al n0 lo0 lon nm m16 fun v11 v12 v13 v14 v15 od u l3 n3 v d G s g h => nx v11 v12 v13 v14 v15 od u l3 n3 v d G s g (by omega)
    have endd : ∀ (od : Obj) (u : List V) (l2 : Addr) (n2 : Nat) (G : Hp), Stt K H m l L W ws od u l2 n2 acc ds G → n2 ≤ n1 + 1 → tE Dn [some (.ref m), some (.ref a), v2, some (.int many), some (.ref W), some (.ref L), some (.int back), some (.int ix), some (.int way), some (.int near), some (.int low), v11, v12, v13, v14, v15] (upd G L (.lst acc)) := fun od u l2 n2 G S2 h2 =>
      zE Dn G L W ws od u acc l2 n2 ds many back ix way near low v2 v11 v12 v13 v14 v15 hL S2 (by omega) wl wok al n0 lo0 lon nm m16 fun v11 v12 v13 v14 v15 od u l3 n3 v d G s g h => nx v11 v12 v13 v14 v15 od u l3 n3 v d G s g (by omega)
    refine ⟨_, rfl, rfl, _, rfl, ite_b (fun _ => ifT rfl (endd _ _ _ _ _ S (by omega))) (fun _ => ?_)⟩
    refine ⟨_, rfl, _, rfl, _, _, rfl, rfl, rfl, _, rfl, ite_b (fun _ => ?_) (fun _ => ifF rfl (rest _ _ _ _ _ S (by omega)))⟩
    refine ⟨_, rfl, rfl, _, rfl, ite_b (fun _ => ifT rfl (endd _ _ _ _ _ S (by omega))) (fun _ => ?_)⟩
    delta tTest tOp
    refine lk_next (k := 4) hL S (by omega) rfl (by decide) (by decide) (fun _ _ h => h) fun r l2 G r0 r3 s1 => ⟨_, _, rfl, rfl, _, rfl, ?_⟩
    by_cases e : (0 : Int) < r
    · exact ifT (decide_eq_true e) (endd _ _ _ _ _ s1 (Nat.le_refl _))
    · exact ifF (decide_eq_false e) (rest _ _ _ _ _ s1 (Nat.le_refl _))
  have stB : ∃ t, PSs (cxOf CX0 P w K mg base NPl "_law_places" (defScope sPlaces) f cdv A outer s H E).nox bPlaces t ∧ ∀ (Dn : Ends) (Hb : Hp) (L W : Addr) (ws : List Str) (od : Obj) (u acc : List V) (l1 : Addr) (n1 : Nat) (ds : List PyData) (many back ix : Int) (v2 v8 v9 v10 v11 v12 v13 v14 v15 : Option V),
      H L = none → Stt K H m l L W ws od u l1 n1 acc ds Hb → n1 < 700000 → ws.length = 3 → (∀ y ∈ ws, sOk 16 y) → acc.length ≤ 20 → 0 ≤ ix → ix < many → many ≤ 16 → (back = 0 ∨ back = 1) →
      (∀ (v8b v9b v10b v11b v12b v13b v14b v15b : Option V) (od : Obj) (u : List V) (l2 : Addr) (n2 : Nat) (v : V) (d : PyData) (G : Hp), Stt K H m l L W ws od u l2 n2 (acc ++ [v]) (ds ++ [d]) G → Gd big 460 2 d → n2 ≤ n1 + 11 →
        Dn.nx [some (.ref m), some (.ref a), v2, some (.int many), some (.ref W), some (.ref L), some (.int back), some (.int ix), v8b, v9b, v10b, v11b, v12b, v13b, v14b, v15b] (upd G L (.lst (acc ++ [v])))) →
      t Dn [some (.ref m), some (.ref a), v2, some (.int many), some (.ref W), some (.ref L), some (.int back), some (.int ix), v8, v9, v10, v11, v12, v13, v14, v15] (upd Hb L (.lst acc)) := by
    obtain ⟨tI, dI, zI⟩ := stIf
    refine ⟨_, pss_cons (ps_asg (pe_lock (pe_tup (pa_cons (pe_call GN hr (by rfl) T.next FN.kp bN .nil pass0 (pa_cons (pv 0) (pa_cons pe_int pa_nil))) (pa_cons (pe_callB (call_min2 rfl) (by rfl) T.min (by decide +kernel) (pa_cons (pe_op op_add (pv 7) pe_int) (pa_cons (pe_op op_sub (pv 3) pe_int) pa_nil))) pa_nil)))) (pg_tup rfl (pgs_cons (pg_name (i := 8) scPc.nd rfl (by first | exact Or.inl rfl | exact Or.inr rfl)) (pgs_cons (pg_name (i := 9) scPc.nd rfl (by first | exact Or.inl rfl | exact Or.inr rfl)) pgs_nil))))
      (pss_cons (ps_set (i := 10) scPc.nd rfl (by first | exact Or.inl rfl | exact Or.inr rfl) (pe_op op_mul (pv 9) (pe_op op_sub pe_int (pv 6)))) dI), ?_⟩
    intro Dn Hb L W ws od u acc l1 n1 ds many back ix v2 v8 v9 v10 v11 v12 v13 v14 v15 hL S hn1 wl wok al i0 im m16 hb nx
    refine ⟨L, .lst acc, upd_same, trivial, fun od' => ?_⟩
    rw [upd_upd]
    have s1 := S.relock hL od' acc
    refine ⟨_, rfl, m, l1, n1, 7, rfl, s1.M, by omega, by decide, by decide, fun r l2 G r0 r7 M2 f2 => ?_⟩
    have s2 := s1.step M2 f2
    refine ⟨_, rfl, _, _, rfl, rfl, _, rfl, _, _, rfl, rfl, ix + 1, many - 1, rfl, (by show 2 ≤ sizeLine; decide), fun p hp => ?_⟩
    obtain ⟨near, hne⟩ : ∃ near : Int, near = if many - 1 < ix + 1 then many - 1 else ix + 1 := ⟨_, rfl⟩
    rw [← hne]
    have nb : 0 ≤ near ∧ near < many := by rw [hne]; split <;> omega
    have s3 := s2.grow (Same.upd (o := .tup [.int r, .int near]) hp)
    have gp : (upd (upd G p (.tup [.int r, .int near])) L (.lst acc)) p = some (.tup [.int r, .int near]) := by
      rw [upd_ne (fun e => by rw [e] at hp; exact absurd (s2.frz.symm.trans hp) (fun z => nomatch z)), upd_same]
    refine ⟨s3.frz, p, _, rfl, .inl (.inl gp), rfl, _, _, rfl, _, _, rfl, rfl, ?_⟩
    refine ⟨_, rfl, _, rfl, _, _, rfl, rfl, _, _, rfl, rfl, .inl ⟨by omega, by omega⟩, ?_⟩
    have lb : 0 ≤ near * (1 - back) ∧ near * (1 - back) ≤ near := by
      rcases hb with rfl | rfl
      · rw [show near * (1 - 0) = near by omega]; omega
      · rw [show near * (1 - 1) = 0 by omega]; omega
    refine zI Dn _ L W ws od' acc acc l2 (n1 + 1) ds many back ix r near (near * (1 - back)) v2 _ _ _ _ _ hL s3 (by omega) wl wok al nb.1 lb.1 lb.2 nb.2 m16 fun _ _ _ _ _ od u l3 n3 v d G s g h => nx _ _ _ _ _ _ _ _ _ _ _ _ _ _ _ s g (by omega)
  obtain ⟨tB, dB, zB⟩ := stB
  refine ⟨_, pss_cons (ps_asg (pe_tup (pa_cons (pe_op op_add pe_int (pe_call GN hr (by rfl) T.next FN.kp bN .nil pass0 (pa_cons (pv 0) (pa_cons (pv 2) pa_nil)))) (pa_cons (pe_call GM hr (by rfl) T.names FM.kp bM .nil pass0 (pa_cons (pv 0) (pa_cons pe_int pa_nil))) pa_nil))) (pg_tup rfl (pgs_cons (pg_name (i := 3) scPc.nd rfl (by first | exact Or.inl rfl | exact Or.inr rfl)) (pgs_cons (pg_name (i := 4) scPc.nd rfl (by first | exact Or.inl rfl | exact Or.inr rfl)) pgs_nil))))
    (pss_cons (ps_par (i := 5) (j := 6) (by rfl) scPc.nd rfl rfl (by decide) rfl rfl (pa_cons (pe_lst pa_nil) (pa_cons (pe_lock (pe_call GN hr (by rfl) T.next FN.kp bN .nil pass0 (pa_cons (pv 0) (pa_cons pe_int pa_nil)))) pa_nil)) (by rfl))
    (pss_cons (ps_for PassesOwn.never rfl (pi_range1 (by rfl) T.range (pa_cons (pv 3) pa_nil)) (pg_name (i := 7) scPc.nd rfl (by first | exact Or.inl rfl | exact Or.inr rfl)) dB)
    (pss_one (ps_ret (pe_callTy call_tuple_of (by rfl) T.tuple (by decide +kernel) (pa_cons (pv 5) pa_nil)))))), ?_⟩
  refine ⟨_, rfl, _, rfl, m, l, n, (k : Int), rfl, M, by omega, by omega, by omega, fun r l1 H1 r0 r1 M1 f1 => ⟨1, r, rfl, rfl, ?_⟩⟩
  refine ⟨_, rfl, m, l1, n + 1, 3, rfl, M1, by omega, by decide, by decide, fun W ws l2 H2 hW gW wl wn wok nm nl M2 f2 => ?_⟩
  refine ⟨(by show 2 ≤ sizeLine; decide), fun p3 h3 => ⟨p3, _, rfl, .inl (.inl upd_same), rfl, _, _, rfl, _, _, rfl, rfl, ?_⟩⟩
  obtain ⟨G3, e3⟩ : ∃ G3, G3 = upd H2 p3 (.tup [.int (1 + r), .ref W]) := ⟨_, rfl⟩
  have s3 : Same H2 G3 := e3 ▸ Same.upd h3
  have F3 : Fr m l l2 H G3 := e3 ▸ (f1.trans f2).junk h3
  rw [← e3]
  refine ⟨(by show 0 ≤ sizeLine; decide), fun L hL => ?_⟩
  have hLH : H L = none := F3.free hL
  obtain ⟨od0, e0⟩ : ∃ od0 : Obj, od0 = { cls := .none, data := .plain } := ⟨_, rfl⟩
  have s0 : Stt K H m l L W ws od0 [] l2 (n + 1 + 11) [] [] (upd G3 L (.frz od0 (.lst []))) :=
    ⟨upd_same, (M2.same s3).same (Same.upd hL), F3.junk hL, (Same.upd hL) _ _ (s3 _ _ gW), nl, .nil⟩
  have e4 : upd G3 L (.lst []) = upd (upd G3 L (.frz od0 (.lst []))) L (.lst []) := (upd_upd ..).symm
  rw [e4]
  refine lk_next (k := 2) hLH s0 (by omega) rfl (by decide) (by decide) (fun _ _ h => h) fun r2 l3 G4 a2 b2 s4 => ?_
  refine ⟨_, _, rfl, ?_⟩
  refine ⟨_, rfl, _, rfl, by omega, by omega, ?_⟩
  refine for_range (lo := 0) (n := (1 + r).toNat) (fun i σ H2 => ∃ (G : Hp) (l2 : Addr) (od : Obj) (u acc : List V) (n2 : Nat) (ds : List PyData) (v7 v8 v9 v10 v11 v12 v13 v14 v15 : Option V), σ = [some (.ref m), some (.ref a), some (.int (k : Int)), some (.int (1 + r)), some (.ref W), some (.ref L), some (.int r2), v7, v8, v9, v10, v11, v12, v13, v14, v15] ∧ H2 = upd G L (.lst acc) ∧
      Stt K H m l L W ws od u l2 n2 acc ds G ∧ n2 ≤ n + 13 + 11 * i ∧ acc.length = i ∧ Gl' big (461 * i) 2 ds)
    ⟨_, l3, _, _, [], _, [], _, _, _, _, _, _, _, _, _, rfl, rfl, s4, by omega, rfl, ⟨(fun d h => nomatch h), Nat.le_refl _, (fun d h => nomatch h)⟩⟩ ?_ ?_
  · rintro i σ H2 hi ⟨G, l4, od, u, acc, n2, ds, v7, v8, v9, v10, v11, v12, v13, v14, v15, rfl, rfl, s6, h6, al, gl⟩
    refine zB _ G L W ws od u acc l4 n2 ds (1 + r) r2 (0 + (i : Int)) _ v8 v9 v10 v11 v12 v13 v14 v15 hLH s6 (by omega) wl (fun y hy => (wok y hy).ok) (by omega) (by omega) (by omega) (by omega) (by omega) ?_
    intro v8 v9 v10 v11 v12 v13 v14 v15 od u l5 n5 v d G5 s7 gd h7
    exact ⟨G5, l5, od, u, _, n5, _, _, v8, v9, v10, v11, v12, v13, v14, v15, rfl, rfl, s7, by omega, by simp [al], (gl.app (Gl'.one gd)).mono (Nat.le_refl _) (by omega) (Nat.le_refl _)⟩
  · rintro σ H2 ⟨G, l4, od, u, acc, n2, ds, v7, v8, v9, v10, v11, v12, v13, v14, v15, rfl, rfl, s6, h6, al, gl⟩
    refine ⟨_, rfl, L, acc, rfl, .inl ⟨SqL.of upd_same, fun p hp => ?_⟩⟩
    have sp : Same (upd G L (.lst acc)) (upd (upd G L (.lst acc)) p (.tup acc)) := Same.upd hp
    have ld := s6.it.len
    exact q p acc ds l4 _ upd_same (DqAll.same sp _ _ (DqAll.unlock s6.frz s6.it)) ((Gd.tup gl).mono (Nat.le_refl _) (by omega) (Nat.le_refl _)) (by omega) (by omega) (((Mch.unlock s6.frz s6.M).same sp).mono (by omega)) ((s6.F.relock hLH).junk hp)
end
end Ms
namespace Ms
open PySem PySem.Spec PyProof.Rows L2
/-! ### _law_modes -/
abbrev NMd : List Str := ["m", "spots", "spot"]
theorem scMd : FnScope NMd ["m", "spots"] (defScope sModes) := ⟨rfl, rfl, rfl, by decide +kernel, rfl, by decide +kernel, by decide +kernel⟩
def spModes (K : PySem.W.Frag) : Sp := fun vs H Q _ => ∃ (m l a : Addr) (n : Nat) (as : List Addr), vs = [.ref m, .ref a] ∧ Mch H m l n ∧ n < 600000 ∧ H a = some (.tup (as.map V.ref)) ∧ as.length ≤ 3 ∧
  ∀ (p : Addr) (zs : List Str) (l' : Addr) (H' : Hp), H' p = some (.tup (zs.map V.str)) → zs.length = as.length → (∀ z ∈ zs, z ∈ (["live", "met", "begin"] : List Str)) → Mch H' m l' (n + 3) → Fr m l l' H H' → Q (.ref p) H'
theorem md_at {r : Int} (h0 : 0 ≤ r) (h1 : r < 4) : ∃ z : Str, atI ([.str "live", .str "live", .str "met", .str "begin"] : List V) r = some (.str z) ∧ z ∈ (["live", "met", "begin"] : List Str) := by
  obtain ⟨j, rfl⟩ : ∃ j : Nat, r = (j : Int) := ⟨r.toNat, by omega⟩
  have hj : j < 4 := by omega
  match j, hj with
  | 0, _ => exact ⟨"live", rfl, by decide⟩
  | 1, _ => exact ⟨"live", rfl, by decide⟩
  | 2, _ => exact ⟨"met", rfl, by decide⟩
  | 3, _ => exact ⟨"begin", rfl, by decide⟩
section
variable {P : Program} {w : World} {K : PySem.W.Frag} {mg : Str → Option Value} {base : Heap} {fN fM : Addr}
theorem ok_modes {f : Addr} {fd fdN : FuncData} (F : Fun K "_law_modes" "_law_modes" sModes f fd) (T : TxtS mg fN fM) (FN : Fun K "_law_next" "_law_next" sNext fN fdN) (bN : Binds K fdN ["m", "many"] []) : FnOk P w K mg base CX0 2 f fd ["m", "spots"] (spModes K) := by
  have GN : FnOk P w K mg base CX0 1 fN fdN ["m", "many"] spNext := ok_next FN T.toTxt
  refine F.ok scMd (fun vs H Q E h => ?_) (fun cdv A outer s H vs Q E hr h => ?_)
  · obtain ⟨m, l, a, n, as, rfl, _⟩ := h
    rfl
  obtain ⟨m, l, a, n, as, rfl, M, hn, ha, h3, q⟩ := h
  refine ⟨_, pss_one (ps_ret (pe_callTy call_tuple_of (by rfl) T.tuple (by decide +kernel) (pa_cons (pe_lc (own := [("spot", 2)]) (g := gName 2) (by rfl) scMd.nd (pi_tup (pv 1)) (blkOk_by (own := [("spot", 2)]) (N := NMd) (sc := defScope sModes) (by decide +kernel))
    (fun _ _ _ _ _ => pg_name (i := 2) scMd.nd rfl (by first | exact Or.inl rfl | exact Or.inr rfl)) (fun _ _ _ _ _ => pts_nil) (fun _ _ _ _ _ => pe_lock (pe_ix (show IxR _ (rIxL K) from ix_list) (pe_lst (pa_cons pe_str (pa_cons pe_str (pa_cons pe_str (pa_cons pe_str pa_nil))))) (pe_call GN hr (by rfl) T.next FN.kp bN .nil pass0 (pa_cons (pv 0) (pa_cons pe_int pa_nil))) (fun _ _ => rfl)))) pa_nil))), ?_⟩
  refine ⟨_, rfl, a, rfl, ⟨_, SqT.of ha⟩, fun D hD => ?_⟩
  have aM := M.nm ha (fun _ z => nomatch z)
  have aL := M.nl ha (fun _ z => nomatch z)
  have nD := M.ne hD
  obtain ⟨od0, e0⟩ : ∃ od0 : Obj, od0 = { cls := .none, data := .plain } := ⟨_, rfl⟩
  refine lc_it (walk_tup (xs := as.map V.ref)) (fun i H3 => ∃ (Hb : Hp) (od : Obj) (u : List V) (zs : List Str) (l2 : Addr), H3 = upd Hb D (.lst (zs.map V.str)) ∧ Hb D = some (.frz od (.lst u)) ∧ Mch Hb m l2 (n + i) ∧ Fr m l l2 H Hb ∧ zs.length = i ∧ ∀ z ∈ zs, z ∈ (["live", "met", "begin"] : List Str))
    ⟨upd H D (.frz od0 (.lst [])), od0, [], [], l, by rw [upd_upd]; rfl, upd_same, M.same (Same.upd hD), (Fr.refl M).junk hD, rfl, (fun z h => nomatch h)⟩ (fun i H3 _ ⟨Hb, od, u, zs, l2, e3, g, M3, f3, _⟩ => SqT.of (by rw [e3, upd_ne (ne_of_none ha hD)]; exact f3.keep _ _ ha aM aL)) ?_ ?_
  · rintro i x H3 H4 hi ⟨Hb, od, u, zs, l2, rfl, g, M3, f3, zl, zo⟩ ⟨rfl, hx⟩
    rw [List.length_map] at hi
    refine ⟨rfl, tyes ⟨D, .lst (zs.map V.str), upd_same, trivial, fun od' => ?_⟩⟩
    rw [upd_upd]
    have M4 : Mch (upd Hb D (.frz od' (.lst (zs.map V.str)))) m l2 (n + i) := Mch.unlock g M3
    have f4 := f3.relock (o := .frz od' (.lst (zs.map V.str))) hD
    refine ⟨(by show 4 ≤ sizeLine; decide), fun p hp => ?_⟩
    have sp : Same (upd Hb D (.frz od' (.lst (zs.map V.str)))) (upd (upd Hb D (.frz od' (.lst (zs.map V.str)))) p (.lst [.str "live", .str "live", .str "met", .str "begin"])) := Same.upd hp
    have np := M4.ne hp
    refine ⟨_, rfl, m, l2, n + i, 4, rfl, M4.same sp, by omega, by decide, by decide, fun r l5 H5 r0 r4 M5 f5 => ?_⟩
    obtain ⟨z, hz, zk⟩ := md_at r0 r4
    have g5 : H5 D = some (.frz od' (.lst (zs.map V.str))) := f5.keep _ _ (sp _ _ upd_same) (M4.nm upd_same (fun _ z => nomatch z)) (M4.nl upd_same (fun _ z => nomatch z))
    refine ⟨p, _, r, .str z, rfl, rfl, SqL.of (f5.keep _ _ upd_same np.1 np.2), hz, g5, zs.map V.str, upd_same, small1000 (by rw [List.length_map]; omega), H5, od', _, zs ++ [z], l5, ?_, g5, M5, f4.trans (Fr.lead sp f5), by simp [zl], fun y hy => ?_⟩
    · rw [upd_upd, List.map_append]; rfl
    · rcases List.mem_append.mp hy with hy | hy
      · exact zo y hy
      · rw [List.mem_singleton.mp hy]; exact zk
  · rintro H3 ⟨Hb, od, u, zs, l2, rfl, g, M3, f3, zl, zo⟩
    rw [List.length_map] at zl M3
    refine ⟨D, _, rfl, .inl ⟨SqL.of upd_same, fun p hp => ?_⟩⟩
    have sp : Same (upd Hb D (.lst (zs.map V.str))) (upd (upd Hb D (.lst (zs.map V.str))) p (.tup (zs.map V.str))) := Same.upd hp
    exact q p zs l2 _ upd_same zl zo (((Mch.unlock g M3).same sp).mono (by omega)) ((f3.relock hD).junk hp)
end
end Ms
namespace Ms
open PySem PySem.Spec PyProof.Rows L2
/-! ### a def that is called where no repr is under way -/
structure FnG (P : Program) (w : World) (K : PySem.W.Frag) (mg : Str → Option Value) (base : Heap) (k : Nat) (f : Addr) (fd : FuncData) (ps : List Str) (sp : Sp) : Prop where
  len : ∀ vs H Q E, sp vs H Q E → vs.length = ps.length
  run : ∀ (A : Around) (outer : List Env) (s : Shared) (H : Hp) (args : Args) (us : List Value) (vs : List V) (Q : VK) (E : XK), A.guards = some [] → Room k A → Env0 P w K mg base A outer s H → BindsTo s fd args (ps.zip us) → Vals vs us → sp vs H Q E →
    codeAny (model P w) A (.call (.ref f) args) (CR CX0 outer P w H s Q E) s
section
variable {P : Program} {w : World} {K : PySem.W.Frag} {mg : Str → Option Value} {base : Heap}
theorem FnG.mono {j k : Nat} {f : Addr} {fd : FuncData} {ps : List Str} {sp : Sp} (F : FnG P w K mg base j f fd ps sp) (h : j ≤ k) : FnG P w K mg base k f fd ps sp :=
  ⟨F.len, fun A outer s H args us vs Q E g hr => F.run A outer s H args us vs Q E g (hr.mono h)⟩
theorem okG {x qual : Str} {st : Stmt} {f : Addr} {fd : FuncData} {N ps : List Str} {k : Nat} {sp : Sp} (F : Fun K x qual st f fd) (S : FnScope N ps (defScope st)) (len : ∀ vs H Q E, sp vs H Q E → vs.length = ps.length)
    (hbody : ∀ (cdv : Value) (A : Around) (outer : List Env) (s : Shared) (H : Hp) (vs : List V) (Q : VK) (E : XK), (A.deeper (envOfC qual (defScope st) s.heap.objs.size f cdv)).guards = some [] → Room k (A.deeper (envOfC qual (defScope st) s.heap.objs.size f cdv)) → sp vs H Q E →
      ∃ t, PSs (cxOf CX0 P w K mg base N qual (defScope st) f cdv A outer s H E).nox (defBody st) t ∧ t { nx := fun _ H' => Q .non H', rt := Q } (start N vs) H) : FnG P w K mg base (k + 1) f fd ps sp :=
  ⟨len, fun A outer s H args us vs Q E g hr e0 hb r h => run_known F S g hr e0 hb r (len _ _ _ _ h) fun cdv hr' => hbody cdv A outer s H vs Q E g hr' h⟩
end
section
variable {X : Cx} {k : Nat} {f : Addr} {fd : FuncData} {ps : List Str} {sp : Sp} {dvs : List V} {ds : List Value} {E : XK} {x : Str} {p pos : Pos} {e : Expr} {es : List Expr} {t : TA}
theorem run_g {pins : List (Addr × Obj)} {σ : L2.St} {H : Hp} {s : Shared} {Q : VK} {us : List Value} {vs : List V} (F : FnG X.prog X.w X.K X.mg X.base k f fd ps sp) (g : X.A.guards = some []) (hr : Room k X.A) (hb : Binds X.K fd ps ds) (hd : Vals dvs ds)
    (I : Inv X pins σ H s) (r : Vals vs us) (h : sp (vs ++ dvs) H Q E) : wpAny (model X.prog X.w) X.A (call (.ref f) us) (EP X pins σ Q) X.xe s := by
  have both : Vals (vs ++ dvs) (us ++ ds) := r.append hd
  have ln : (us ++ ds).length = ps.length := by rw [← both.length]; exact F.len _ _ _ _ h
  refine wpAny_call (codeAny_mono (F.run X.A X.stack s H ⟨us, []⟩ (us ++ ds) (vs ++ dvs) Q E g hr I.env0 (hb s us I.kIn ln) both h) fun res s' ok => ?_)
  match res, ok with
  | .ok (.ret u), ok => exact I.after ok
  | .error _, ok => exact ok.elim
theorem pe_callG (F : FnG X.prog X.w X.K X.mg X.base k f fd ps sp) (g : X.A.guards = some []) (hr : Room k X.A) (hg : Gl X x) (hm : X.mg x = some (.ref f)) (hk : PySem.W.keepIn X.K (.ref f) = true) (hb : Binds X.K fd ps ds) (hd : Vals dvs ds)
    (ha : PA X (e :: es) t) (hdb : (x == ("__debug__" : Str)) = false := by decide) (he : starEach (e :: es) X.env = (false, eval e X.env) :: starEach es X.env := by rfl) (hpl : (backTo pos (starEach es X.env)).any (·.1) = false := by rfl) :
    PE X (.Call (.Name x p) (e :: es) [] pos) (tCall sp dvs E0 t) := by
  constructor
  intro pins s σ H Q I reads
  refine wpAny_Call_Name_kw (ld_glob I hg hm ?_ hdb)
  refine PySem.W.callWith_K (h₀ := X.base) I.ok.mod.kin hk (thn (ha.run pos pins s σ H _ I reads) fun us s1 got => ?_) he hpl
  obtain ⟨vs, H1, I1, r, q⟩ := got
  exact ⟨I1.kIn, run_g F g hr hb hd I1 r q⟩
end
end Ms
namespace Ms
open PySem PySem.Spec PyProof.Rows L2
/-- l == [], whatever the items are -/
theorem op_eq_lnil {X : Cx} (hu : X.A.units + 64 < cLine) : OpR X (compareOp .Eq) (fun x y H Q => ∃ a b xs, x = .ref a ∧ y = .ref b ∧ SqL X.K H a xs ∧ SqL X.K H b [] ∧ Q (.bl (xs.length == 0)) H) := by
  intro pins s σ H x y v u Q I rx ry h
  obtain ⟨a, b, xs, rfl, rfl, ha, hb, q⟩ := h
  cases rx
  cases ry
  obtain ⟨its, r1, ⟨o1, n1, g1, c1, w1, d1⟩, _⟩ := I.list ha
  obtain ⟨its2, r2, ⟨o2, n2, g2, c2, w2, d2⟩, _⟩ := I.list hb
  cases r2
  have hl := r1.length
  have p1 : s.heap.IsList a its.toArray := ⟨o1, g1, c1, n1, d1⟩
  have p2 : s.heap.IsList b ([] : List Value).toArray := ⟨o2, g2, c2, n2, d2⟩
  cases xs with
  | nil =>
    have e0 : its = [] := List.eq_nil_of_length_eq_zero (by simpa using hl.symm)
    subst e0
    refine SeqAt.eq_listAt (e := fun _ => true) p1 p2 rfl (by omega) (fun j h1 h2 => by simp at h2) ?_
    exact ⟨.bl _, H, I, rfl, q⟩
  | cons x xs =>
    have ne : (its.toArray.size != ([] : List Value).toArray.size) = true := by
      cases its with
      | nil => exact absurd hl (by simp)
      | cons y ys => simp
    refine SeqAt.eq_list_lengthsAt p1 p2 ne (by omega) ?_
    exact ⟨.bl _, H, I, rfl, q⟩
def headD (n : Int) (d2 : PyData) : List (Str × Int) → Bool
  | [] => false
  | q :: _ => nextsD n q.2 d2
theorem askD_filter (n : Int) (d1 d2 : PyData) : ∀ qs : List (Str × Int), askD n d1 d2 qs = headD n d2 (qs.filter fun q => isTxt d1 q.1)
  | [] => rfl
  | q :: qs => by
    unfold askD
    by_cases h : isTxt d1 q.1 = true
    · rw [if_pos h, List.filter_cons, if_pos h]; rfl
    · rw [if_neg h, List.filter_cons, if_neg h]; exact askD_filter n d1 d2 qs
theorem txt_shown {d1 : PyData} {z : Str} (h : nmOk z) : decide (V.str (PyData.shown (.str z)) = V.str d1.shown) = isTxt d1 z := by
  have hz : (PyData.shown (.str z)) = reprText z := by simp only [PyData.shown]
  have pl : plainZ z := nm_plain h.2.2
  rw [hz]
  by_cases e : d1 = .str z
  · subst e
    rw [hz]
    simp [isTxt]
  · have ne : ¬ (V.str (reprText z) = V.str d1.shown) := fun k => e ((shown_eq pl).mp (V.str.inj k).symm)
    rw [decide_eq_false ne]
    cases d1 with
    | str y =>
      have : y ≠ z := fun k => e (by rw [k])
      simp [isTxt, this]
    | _ => rfl
theorem end_is {d : PyData} : decide (V.str d.shown = V.str endT) = isEnd d "end" := by
  by_cases e : d = .tuple [.str "end"]
  · subst e
    rw [end_shown]; rfl
  · have ne : ¬ (V.str d.shown = V.str endT) := fun k => e (shown_end (V.str.inj k))
    rw [decide_eq_false ne]
    cases hh : isEnd d "end" with
    | false => rfl
    | true =>
      exfalso
      unfold isEnd at hh
      split at hh
      · rename_i x
        unfold isTxt at hh
        split at hh
        · rename_i y
          exact e (by rw [eq_of_beq hh])
        · cases hh
      · cases hh
/-! ### _law_is_place -/
def rReprD (K : PySem.W.Frag) : List V → Hp → VK → Prop := fun xs H Q => ∃ x d m l, xs = [x] ∧ Dq K H m l x d ∧ d.showable = true ∧ d.depth ≤ 60 ∧ d.shown.length ≤ sizeLine ∧ Q (.str d.shown) H
structure TxtI (mg : Str → Option Value) (fN fM fO fB fW fA fIp : Addr) : Prop extends TxtB mg fN fM fO fB where
  enumerate : mg "enumerate" = none
  whole : mg "_law_is_whole" = some (.ref fW)
  name : mg "_law_is_name" = some (.ref fA)
  repr : mg "repr" = none
  isp : mg "_law_is_place" = some (.ref fIp)
abbrev NIp : List Str := ["spots", "thing", "many", "mosts", "name", "most", "number"]
theorem scIp : FnScope NIp ["spots", "thing", "many"] (defScope sIsPlace) := ⟨rfl, rfl, rfl, by decide +kernel, rfl, by decide +kernel, by decide +kernel⟩
def spIsPlace (K : PySem.W.Frag) : Sp := fun vs H Q _ => ∃ (m l a : Addr) (xs : List V) (qs : List (Str × Int)) (n : Int) (v : V) (d : PyData) (b : Nat), vs = [.ref a, v, .int n] ∧ SqT K H a xs ∧ PrTs K H xs qs ∧ (∀ q ∈ qs, nmOk q.1) ∧ qs.length ≤ 3 ∧ Dq K H m l v d ∧ Gd (10 ^ 31) 100000 b d ∧ b ≤ 60 ∧
  ∀ H', Same H H' → Q (.bl (placeD qs n d)) H'
section
variable {P : Program} {w : World} {K : PySem.W.Frag} {mg : Str → Option Value} {base : Heap} {fN fM fO fB fW fA fIp : Addr}
theorem isEnd_eq {d : PyData} (h : isEnd d "end" = true) : d = .tuple [.str "end"] := by
  have e := end_is (d := d)
  rw [h] at e
  exact shown_end (V.str.inj (of_decide_eq_true e))
theorem ok_isplace {f : Addr} {fd fdW fdA : FuncData} (F : Fun K "_law_is_place" "_law_is_place" sIsPlace f fd) (T : TxtI mg fN fM fO fB fW fA fIp) (FW : Fun K "_law_is_whole" "_law_is_whole" sIsWhole fW fdW) (bW : Binds K fdW ["thing", "least", "most"] [])
    (FA : Fun K "_law_is_name" "_law_is_name" sIsName fA fdA) (bA : Binds K fdA ["thing"] []) : FnG P w K mg base 2 f fd ["spots", "thing", "many"] (spIsPlace K) := by
  have GW : FnOk P w K mg base CX0 1 fW fdW ["thing", "least", "most"] (spWhole K) := ok_whole FW T.toTxtB
  have GA : FnOk P w K mg base CX0 1 fA fdA ["thing"] (spName K) := ok_name FA T.toTxtB
  refine okG F scIp (fun vs H Q E h => ?_) (fun cdv A outer s H vs Q E gA hr h => ?_)
  · obtain ⟨m, l, a, xs, qs, n, v, d, b, rfl, _⟩ := h
    rfl
  obtain ⟨m, l, a, xs, qs, n, v, d, b, rfl, hs, hp, hn, hl3, hd, gd, hb, q⟩ := h
  refine ⟨_, pss_cons (ps_if (pt_cmpR op_eq (pe_callB (call_reprD gA hr.units) (by rfl) T.repr (by decide +kernel) (pa_cons (pv 1) pa_nil)) pe_str (nomark _)) (pss_one (ps_ret pe_bl)) pss_nil)
    (pss_cons (ps_if (PW.pt (pw_or (pt_not (pt_val (pe_callB call_isi (by rfl) T.isi PyProof.Rows.boot_isinstance (pa_cons (pv 1) (pa_cons (pe_bltn (v := .ty "tuple") (u := .type "tuple") (by rfl) T.tuple (by decide +kernel) rfl) pa_nil)))))
      (pw_or (pt_cmpR op_ne (pe_callB call_len (by rfl) T.len PySem.boot_len (pa_cons (pv 1) pa_nil)) pe_int (nomark _))
      (pw_or1 (pt_not (pt_val (pe_callB call_isi (by rfl) T.isi PyProof.Rows.boot_isinstance (pa_cons (pe_ix ix_tup (pv 1) pe_int (fun _ _ => rfl)) (pa_cons (pe_bltn (v := .ty "str") (u := .type "str") (by rfl) T.str (by decide +kernel) rfl) pa_nil))))))))) (pss_one (ps_ret pe_bl)) pss_nil)
    (pss_cons (ps_if (pt_cmpR op_eq (pe_ix ix_tup (pv 1) pe_int (fun _ _ => rfl)) pe_str (nomark _))
      (pss_one (ps_ret (pe_and (pe_call GA hr rfl T.name FA.kp bA .nil pass0 (pa_cons (pe_ix ix_tup (pv 1) pe_int (fun _ _ => rfl)) pa_nil)) (pe_one (pe_call GW hr rfl T.whole FW.kp bW .nil pass0 (pa_cons (pe_ix ix_tup (pv 1) pe_int (fun _ _ => rfl)) (pa_cons pe_int (pa_cons (pe_op op_sub (pv 2) pe_int) pa_nil)))))))) pss_nil)
    (pss_cons (ps_setLc (i := 3) (own := [("name", 4), ("most", 5)]) (g := gTup K 2 (gCons (gName 4) (gCons (gName 5) gNil))) (by rfl) scIp.nd rfl (by rfl) (by rfl) (pi_tup (pv 0)) (blkOk_by (own := [("name", 4), ("most", 5)]) (N := NIp) (sc := defScope sIsPlace) (by decide +kernel))
      (fun _ _ _ _ _ => pg_tup rfl (pgs_cons (pg_name (i := 4) scIp.nd rfl (Or.inl rfl)) (pgs_cons (pg_name (i := 5) scIp.nd rfl (Or.inl rfl)) pgs_nil)))
      (fun _ _ _ _ _ => pts_one (pt_cmpR op_eq (pe_callB (show CallR _ (.builtin "repr") (rReprD K) from call_reprD (by exact gA) (by exact hr.units)) (by rfl) T.repr (id (by decide +kernel : PySem.bootBuiltins "repr" = some (Value.builtin "repr"))) (pa_cons (pv 4) pa_nil)) (pe_callB (show CallR _ (.builtin "repr") (rReprD K) from call_reprD (by exact gA) (by exact hr.units)) (by rfl) T.repr (id (by decide +kernel : PySem.bootBuiltins "repr" = some (Value.builtin "repr"))) (pa_cons (pe_ix (show IxR _ (rIxT K) from ix_tup) (pv 1) pe_int (fun _ _ => rfl)) pa_nil)) (nomark _)))
      (fun _ _ _ _ _ => pv 5))
    (pss_cons (ps_if (PW.pt (pw_or (pt_cmpR op_ne (pe_ix ix_tup (pv 1) pe_int (fun _ _ => rfl)) pe_str (nomark _)) (pw_or (pt_cmpR (op_eq_lnil hr.units) (pv 3) (pe_lst pa_nil) (nomark _))
      (pw_or (pt_not (pt_val (pe_callB call_isi (by rfl) T.isi PyProof.Rows.boot_isinstance (pa_cons (pe_ix ix_tup (pv 1) pe_int (fun _ _ => rfl)) (pa_cons (pe_bltn (v := .ty "tuple") (u := .type "tuple") (by rfl) T.tuple (by decide +kernel) rfl) pa_nil)))))
      (pw_or1 (pt_cmpR op_ne (pe_callB call_len (by rfl) T.len PySem.boot_len (pa_cons (pe_ix ix_tup (pv 1) pe_int (fun _ _ => rfl)) pa_nil)) (pe_op op_add (pe_ix ix_list (pv 3) pe_int (fun _ _ => rfl)) pe_int) (nomark _))))))) (pss_one (ps_ret pe_bl)) pss_nil)
    (pss_one (ps_ret (pe_cmpR (op_eq_lnil hr.units) (pe_lc (own := [("number", 6)]) (g := gName 6) (by rfl) scIp.nd (pi_tup (pe_ix ix_tup (pv 1) pe_int (fun _ _ => rfl))) (blkOk_by (own := [("number", 6)]) (N := NIp) (sc := defScope sIsPlace) (by decide +kernel))
      (fun _ _ _ _ _ => pg_name (i := 6) scIp.nd rfl (Or.inl rfl)) (fun _ _ _ _ _ => pts_one (pt_not (pt_val (pe_call GW hr (by rfl) T.whole FW.kp bW .nil pass0 (pa_cons (pv 6) (pa_cons pe_int (pa_cons (pe_op op_sub (pv 2) pe_int) pa_nil))))))) (fun _ _ _ _ _ => pv 6)) (pe_lst pa_nil) (nomark _)))))))), ?_⟩
  have sh := gd.shown (by decide)
  have dp := gd.dp
  refine ⟨_, rfl, v, d, m, l, rfl, hd, sh.1, by omega, sh.2, rfl, _, rfl, ?_⟩
  rw [show decide (V.str d.shown = V.str "('end',)") = isEnd d "end" from end_is]
  cases he : isEnd d "end" with
  | true =>
    have pe : placeD qs n d = true := by rw [isEnd_eq he]; rfl
    rw [pe] at q
    exact ifT rfl (q H (Same.refl H))
  | false =>
  refine ifF rfl ?_
  refine ⟨_, rfl, v, .ty "tuple", _, _, _, rfl, .ty _, hd.ty, isi_tup K d, _, rfl, ?_⟩
  cases d with
  | tuple ds =>
    cases hd with
    | tup h0 hx =>
      rename_i p ys
      have ly := hx.len
      obtain ⟨cc, eb, g⟩ := Gd.untup gd
      refine ifF rfl ?_
      refine ⟨_, rfl, .ref p, ys.length, rfl, .inr ⟨ys, h0, rfl⟩, rfl, _, rfl, ?_⟩
      rw [len3]
      by_cases l3 : ys.length = 3
      · obtain ⟨y0, y1, y2, rfl⟩ : ∃ y0 y1 y2, ys = [y0, y1, y2] := by
          match ys, l3 with
          | [y0, y1, y2], _ => exact ⟨y0, y1, y2, rfl⟩
        obtain ⟨e0, e1, e2, rfl⟩ : ∃ e0 e1 e2, ds = [e0, e1, e2] := by
          match ds, ly with
          | [e0, e1, e2], _ => exact ⟨e0, e1, e2, rfl⟩
        have p0 : placeD qs n (.tuple [e0, e1, e2]) = if isTxt e0 "do" = true then isName e1 && isWhole e2 0 (n - 1) else if isTxt e0 "ask" = true then askD n e1 e2 qs else false := by
          simp only [placeD, isEnd, List.length_cons, List.length_nil, List.getD_cons_zero, List.getD_cons_succ, true_and]
        rw [p0] at q
        obtain ⟨d0, d1, d2⟩ : Dq K H m l y0 e0 ∧ Dq K H m l y1 e1 ∧ Dq K H m l y2 e2 := by
          cases hx with
          | cons a0 h1 => cases h1 with | cons a1 h2 => cases h2 with | cons a2 _ => exact ⟨a0, a1, a2⟩
        have ge1 := g.at (i := 1) (d := e1) rfl
        have ge2 := g.at (i := 2) (d := e2) rfl
        have ww := g.wt
        have w1 : e1.weight ≤ 100000 := by simp only [PyData.weightAll] at ww; omega
        have w2 : e2.weight ≤ 100000 := by simp only [PyData.weightAll] at ww; omega
        have z1 : ∀ z, e1 = .str z → sOk 100000 z := fun z ez => by
          rw [ez] at ge1 w1
          exact ge1.unstr.mono w1
        have sh1 := (ge1.mono (Nat.le_refl _) w1 (Nat.le_refl _)).shown (by decide)
        have dp1 := ge1.dp
        refine ifF (by simp) ?_
        refine ⟨_, rfl, p, _, 0, y0, rfl, rfl, h0, rfl, y0, .ty "str", _, _, _, rfl, .ty _, d0.ty, isi_str K e0, _, rfl, ?_⟩
        cases e0 with
        | str z =>
          cases d0
          refine ifF rfl ?_
          refine ⟨_, rfl, p, _, 0, .str z, rfl, rfl, h0, rfl, rfl, _, rfl, ite_b (fun ez => ?_) (fun ez => ?_)⟩
          · have ez' : z = "do" := V.str.inj (of_decide_eq_true ez)
            rw [if_pos (by rw [ez']; rfl)] at q
            refine ⟨_, rfl, p, _, 1, y1, rfl, rfl, h0, rfl, m, l, y1, e1, rfl, d1, z1, fun H3 s3 => ⟨_, rfl, ite_b (fun e => ?_) (fun e => ?_)⟩⟩
            · refine ⟨_, rfl, p, _, 2, y2, rfl, rfl, Same.seqT s3 h0, rfl, _, rfl, n, 1, rfl, rfl, m, l, y2, e2, 0, n - 1, rfl, Dq.same s3 e2 y2 d2, ?_⟩
              rw [e, Bool.true_and] at q
              exact q _ s3
            · rw [e, Bool.false_and] at q
              exact q _ s3
          · have nz : z ≠ "do" := fun k => by rw [k] at ez; exact absurd ez (by decide)
            have nt : isTxt (.str z) "do" = false := by simp [isTxt, nz]
            rw [nt, if_neg Bool.false_ne_true, askD_filter] at q
            refine ⟨_, rfl, a, rfl, ⟨_, hs⟩, fun D hD => ?_⟩
            have sD : ∀ o, Same H (upd H D o) := fun o => Same.upd hD
            have lx := hp.len
            refine lc_it (walk_tup (xs := xs)) (fun i H3 => H3 = upd H D (.lst (((qs.take i).filter fun q => isTxt e1 q.1).map fun q => V.int q.2))) rfl (fun i H3 _ e3 => by rw [e3]; exact Same.seqT (sD _) hs) ?_ ?_
            · rintro i x H3 H4 hi e3 ⟨rfl, hx'⟩
              obtain ⟨qq, hq, c, rfl, hc⟩ := hp.get hx'
              have ti : qs.take (i + 1) = qs.take i ++ [qq] := by rw [List.take_succ, hq]; rfl
              have nk := hn _ (List.mem_of_getElem? hq)
              have gn : Gd (10 ^ 31) 16 0 (.str qq.1) := Gd.str nk.ok
              have shn := gn.shown (by decide)
              have s3 : Same H H4 := e3 ▸ sD _
              refine ⟨c, _, rfl, Same.seqT s3 hc, rfl, _, _, rfl, _, _, rfl, rfl, rfl, ?_⟩
              refine ⟨_, rfl, _, .str qq.1, m, l, rfl, .str _, shn.1, (by show 0 ≤ 60; decide), shn.2, _, rfl, p, _, 1, y1, rfl, rfl, Same.seqT s3 h0, rfl, y1, e1, m, l, rfl, Dq.same s3 e1 y1 d1, sh1.1, by omega, sh1.2, rfl, _, rfl, ?_⟩
              rw [txt_shown nk]
              have lf : ((qs.take i).filter fun q => isTxt e1 q.1).length ≤ i := Nat.le_trans (List.length_filter_le _ _) (by rw [List.length_take]; omega)
              refine ite_b (fun e => ?_) (fun e => ?_)
              · refine ⟨_, rfl, _, by rw [e3]; exact upd_same, small1000 (by rw [List.length_map]; omega), ?_⟩
                rw [e3, upd_upd, ti, List.filter_append, List.filter_cons, if_pos e, List.map_append]; rfl
              · show H4 = _
                rw [e3, ti, List.filter_append, List.filter_cons, if_neg (by rw [e]; exact Bool.false_ne_true)]; simp
            · rintro H3 e3
              rw [List.take_of_length_le (by omega)] at e3
              obtain ⟨fl, efl⟩ : ∃ fl, fl = qs.filter fun q => isTxt e1 q.1 := ⟨_, rfl⟩
              rw [← efl] at e3 q
              have s3 : Same H H3 := e3 ▸ sD _
              have gD : H3 D = some (.lst (fl.map fun q => V.int q.2)) := by rw [e3, upd_same]
              have h03 := Same.seqT s3 h0
              clear e3
              refine ⟨_, rfl, p, _, 0, .str z, rfl, rfl, h03, rfl, rfl, _, rfl, ite_b (fun ea => ?_) (fun ea => ?_)⟩
              · have nz : z ≠ "ask" := fun k => by rw [k] at ea; exact absurd ea (by decide)
                have nt : isTxt (.str z) "ask" = false := by simp [isTxt, nz]
                rw [nt, if_neg Bool.false_ne_true] at q
                exact ifT rfl (q _ s3)
              · have ez : z = "ask" := by
                  have : decide (V.str z = V.str "ask") = true := by simpa using ea
                  exact V.str.inj (of_decide_eq_true this)
                rw [if_pos (by rw [ez]; rfl)] at q
                refine ⟨_, rfl, by decide, fun p0 hp0 => ?_⟩
                have s4 : Same H (upd H3 p0 (.lst [])) := s3.trans (Same.upd hp0)
                have gD4 : (upd H3 p0 (.lst [])) D = some (.lst (fl.map fun q => V.int q.2)) := Same.upd hp0 _ _ gD
                have h04 := Same.seqT s4 h0
                refine ⟨D, p0, _, rfl, rfl, SqL.of gD4, SqL.of upd_same, _, rfl, ?_⟩
                generalize upd H3 p0 (.lst []) = G at s4 gD4 h04 ⊢
                cases fl with
                | nil => exact ifT rfl (ifT rfl (q _ s4))
                | cons qq r =>
                refine ifF rfl ?_
                refine ⟨_, rfl, p, _, 2, y2, rfl, rfl, h04, rfl, y2, .ty "tuple", _, _, _, rfl, .ty _, (Dq.same s4 e2 y2 d2).ty, isi_tup K e2, _, rfl, ?_⟩
                cases e2 with
                | tuple es =>
                  cases d2 with
                  | tup g2 gx =>
                    rename_i p2 zs
                    have lz := gx.len
                    have g24 := Same.seqT s4 g2
                    have le := wA_len es
                    have lw : es.length ≤ 100000 := by simp only [PyData.weight] at w2; omega
                    refine ifF rfl ?_
                    refine ⟨_, rfl, p, _, 2, .ref p2, rfl, rfl, h04, rfl, .ref p2, zs.length, rfl, .inr ⟨zs, g24, rfl⟩, _, rfl, D, _, 0, .int qq.2, rfl, rfl, SqL.of gD4, atI_nat (j := 0) rfl, qq.2, 1, rfl, rfl, rfl, _, rfl, ite_b (fun ee => ?_) (fun ee => ?_)⟩
                    · have en : nextsD n qq.2 (.tuple es) = false := by
                        have : decide ((es.length : Int) = qq.2 + 1) = false := by
                          rw [decide_eq_false_iff_not]
                          intro k
                          have e9 : decide (V.int ((zs.length : Nat) : Int) = V.int (qq.2 + 1)) = true := by rw [decide_eq_true_eq, V.int.injEq]; omega
                          rw [e9] at ee; cases ee
                        simp only [nextsD, this, Bool.false_and]
                      simp only [headD, en] at q
                      exact q _ s4
                    · have en : nextsD n qq.2 (.tuple es) = es.all fun e => isWhole e 0 (n - 1) := by
                        have e9 : decide (V.int ((zs.length : Nat) : Int) = V.int (qq.2 + 1)) = true := by simpa using ee
                        have e8 := V.int.inj (of_decide_eq_true e9)
                        have : decide ((es.length : Int) = qq.2 + 1) = true := by rw [decide_eq_true_eq]; omega
                        simp only [nextsD, this, Bool.true_and]
                      simp only [headD, en] at q
                      refine ⟨_, rfl, p, _, 2, .ref p2, rfl, rfl, h04, rfl, p2, rfl, ⟨_, g24⟩, fun D2 hD2 => ?_⟩
                      have sD2 : ∀ o, Same G (upd G D2 o) := fun o => Same.upd hD2
                      refine lc_it (walk_tup (xs := zs)) (fun j H4 => ∃ us : List V, us.length ≤ j ∧ (us.length == 0) = ((es.take j).all fun e => isWhole e 0 (n - 1)) ∧ H4 = upd G D2 (.lst us)) ⟨[], Nat.le_refl _, rfl, rfl⟩ (fun j H4 _ ⟨us, _, _, e4⟩ => by rw [e4]; exact Same.seqT (sD2 _) g24) ?_ ?_
                      · rintro j y H4 H5 hj ⟨us, ul, ue, e4⟩ ⟨rfl, hy⟩
                        obtain ⟨e, he', dqe⟩ := gx.get hy
                        have ti : es.take (j + 1) = es.take j ++ [e] := by rw [List.take_succ, he']; rfl
                        have s5 : Same H H5 := s4.trans (e4 ▸ sD2 _)
                        refine ⟨rfl, _, rfl, _, rfl, n, 1, rfl, rfl, m, l, y, e, 0, n - 1, rfl, Dq.same s5 e y dqe, _, rfl, ite_b (fun ew => ?_) (fun ew => ?_)⟩
                        · refine ⟨_, rfl, us, by rw [e4]; exact upd_same, by rw [sizeLine_eq]; omega, us ++ [y], by simp; omega, ?_, by rw [e4, upd_upd]⟩
                          have ew' : isWhole e 0 (n - 1) = false := by simpa using ew
                          rw [ti, List.all_append]
                          simp [ew']
                        · refine ⟨us, by omega, ?_, e4⟩
                          have ew' : isWhole e 0 (n - 1) = true := by simpa using ew
                          rw [ti, List.all_append, ue]
                          simp [ew']
                      · rintro H4 ⟨us, ul, ue, e4⟩
                        rw [List.take_of_length_le (by omega)] at ue
                        refine ⟨by decide, fun p9 hp9 => ?_⟩
                        have s6 : Same G (upd H4 p9 (.lst [])) := Same.trans (e4 ▸ sD2 _) (Same.upd hp9)
                        have g6 : (upd H4 p9 (.lst [])) D2 = some (.lst us) := Same.upd hp9 _ _ (by rw [e4, upd_same])
                        refine ⟨D2, p9, us, rfl, rfl, SqL.of g6, SqL.of upd_same, ?_⟩
                        rw [ue]
                        exact q _ (s4.trans s6)
                | _ => exact ifT rfl (ifT rfl (q _ s4))
        | _ => exact ifT rfl (q H (Same.refl H))
      · have l3' : ¬ ds.length = 3 := by omega
        have p0 : placeD qs n (.tuple ds) = isEnd (.tuple ds) "end" := by
          unfold placeD
          simp only [l3', false_and, if_false]
        rw [p0, he] at q
        refine ifT (by simp [l3]) (ifT rfl (q H (Same.refl H)))
  | _ => exact ifT rfl (ifT rfl (q H (Same.refl H)))
end
end Ms
namespace Ms
open PySem PySem.Spec PyProof.Rows L2
/-! ### _law_due -/
/-- a place in an error, as data -/
def vD : V → PyData
  | .int i => .int i
  | _ => .none
inductive PlV : V → Prop
  | non : PlV .non
  | int (p : Nat) : p ≤ 16 → PlV (.int (p : Nat))
theorem PlV.dq {K : PySem.W.Frag} {H : Hp} {m l : Addr} {u : V} (p : PlV u) : Dq K H m l u (vD u) := by
  cases p with
  | non => exact .non
  | int p => exact .int _
theorem firstBad_lt {f : PyData → Bool} : ∀ (ds : List PyData) (p r : Nat), firstBad f p ds = some r → r < p + ds.length
  | [], _, _, h => by cases h
  | d :: ds, p, r, h => by
    unfold firstBad at h
    by_cases e : f d = true
    · rw [if_pos e] at h
      have := firstBad_lt ds _ _ h
      simp only [List.length_cons]; omega
    · rw [if_neg e] at h
      cases h
      simp only [List.length_cons]; omega
theorem placesV_pl {qs : List (Str × Int)} {d : PyData} {u : V} (h : placesV qs d = some u) : PlV u := by
  cases d with
  | tuple ds =>
    have h' : (if 1 ≤ ds.length ∧ ds.length ≤ 16 then (firstBad (placeD qs ds.length) 0 ds).map fun p => V.int (p : Nat) else some V.non) = some u := h
    by_cases c : 1 ≤ ds.length ∧ ds.length ≤ 16
    · rw [if_pos c] at h'
      cases e : firstBad (placeD qs ds.length) 0 ds with
      | none => rw [e] at h'; cases h'
      | some r =>
        rw [e] at h'
        have := firstBad_lt _ _ _ e
        cases h'
        exact .int r (by omega)
    · rw [if_neg c] at h'; cases h'; exact .non
  | _ => cases h; exact .non
theorem modesV_pl {k : Nat} {d : PyData} {u : V} (hk : k ≤ 3) (h : modesV k d = some u) : PlV u := by
  cases d with
  | tuple ds =>
    have h' : (if ds.length = k then (firstBad isMode 0 ds).map fun p => V.int (p : Nat) else some V.non) = some u := h
    by_cases c : ds.length = k
    · rw [if_pos c] at h'
      cases e : firstBad isMode 0 ds with
      | none => rw [e] at h'; cases h'
      | some r =>
        rw [e] at h'
        have := firstBad_lt _ _ _ e
        cases h'
        exact .int r (by omega)
    · rw [if_neg c] at h'; cases h'; exact .non
  | _ => cases h; exact .non
def badPl (u : V) : PyData := .tuple [.str "places", vD u]
def badMo (u : V) : PyData := .tuple [.str "modes", vD u]
theorem live_good (k : Nat) (hk : k ≤ 3) : Gd (10 ^ 31) 100000 2 (wordsD k .none) := by
  match k, hk with
  | 0, _ => exact ⟨by decide, by decide, by decide⟩
  | 1, _ => exact ⟨by decide, by decide, by decide⟩
  | 2, _ => exact ⟨by decide, by decide, by decide⟩
  | 3, _ => exact ⟨by decide, by decide, by decide⟩
def dueW (qs : List (Str × Int)) (d2 dw : PyData) : PyData := match modesV qs.length dw with
  | some u => badMo u
  | none => .list [.tuple (prD qs), d2, dw]
def dueR (qs : List (Str × Int)) (d2 d3 : PyData) : PyData := match placesV qs d2 with
  | some u => badPl u
  | none => dueW qs d2 (wordsD qs.length d3)
theorem mode_in {d : PyData} : decide (d.shown ∈ (["'live'", "'met'", "'begin'"] : List Str)) = isMode d := by
  have e1 : ("'live'" : Str) = reprText "live" := by decide +kernel
  have e2 : ("'met'" : Str) = reprText "met" := by decide +kernel
  have e3 : ("'begin'" : Str) = reprText "begin" := by decide +kernel
  have p1 : plainZ "live" := by unfold plainZ; decide
  have p2 : plainZ "met" := by unfold plainZ; decide
  have p3 : plainZ "begin" := by unfold plainZ; decide
  rw [Bool.eq_iff_iff, decide_eq_true_eq]
  simp only [List.mem_cons, List.mem_nil_iff, or_false]
  rw [e1, e2, e3, shown_eq p1, shown_eq p2, shown_eq p3]
  constructor
  · rintro (rfl | rfl | rfl) <;> decide
  · intro h
    cases d with
    | str z =>
      have := of_decide_eq_true h
      simp only [List.mem_cons, List.mem_nil_iff, or_false] at this
      rcases this with rfl | rfl | rfl
      · exact .inl rfl
      · exact .inr (.inl rfl)
      · exact .inr (.inr rfl)
    | _ => cases h
structure TxtV (mg : Str → Option Value) (fN fM fO fB fW fA fIp : Addr) : Prop extends TxtI mg fN fM fO fB fW fA fIp where
  dummy : True
abbrev NDu : List Str := ["spots", "places", "words", "number", "place", "word"]
theorem scDq : FnScope NDu ["spots", "places", "words"] (defScope sDue) := ⟨rfl, rfl, rfl, by decide +kernel, rfl, by decide +kernel, by decide +kernel⟩
def spDueR (K : PySem.W.Frag) : Sp := fun vs H Q _ => ∃ (m l a : Addr) (n : Nat) (xs : List V) (qs : List (Str × Int)) (v2 v3 : V) (d2 d3 : PyData) (b2 b3 : Nat), vs = [.ref a, v2, v3] ∧ Mch H m l n ∧ SqT K H a xs ∧ DqAll K H m l xs (prD qs) ∧ (∀ q ∈ qs, nmOk q.1) ∧ 1 ≤ qs.length ∧ qs.length ≤ 3 ∧
  Dq K H m l v2 d2 ∧ Gd (10 ^ 31) 100000 b2 d2 ∧ b2 ≤ 60 ∧ Dq K H m l v3 d3 ∧ Gd (10 ^ 31) 100000 b3 d3 ∧ b3 ≤ 60 ∧ ∀ (v : V) (H' : Hp), Same H H' → Dq K H' m l v (dueR qs d2 d3) → Q v H'
section
variable {P : Program} {w : World} {K : PySem.W.Frag} {mg : Str → Option Value} {base : Heap} {fN fM fO fB fW fA fIp : Addr}
theorem ok_dueR {f : Addr} {fd fdW fdA fdIp : FuncData} (F : Fun K "_law_due" "_law_due" sDue f fd) (T : TxtI mg fN fM fO fB fW fA fIp) (FW : Fun K "_law_is_whole" "_law_is_whole" sIsWhole fW fdW) (bW : Binds K fdW ["thing", "least", "most"] [])
    (FA : Fun K "_law_is_name" "_law_is_name" sIsName fA fdA) (bA : Binds K fdA ["thing"] []) (FIp : Fun K "_law_is_place" "_law_is_place" sIsPlace fIp fdIp) (bIp : Binds K fdIp ["spots", "thing", "many"] []) : FnG P w K mg base 3 f fd ["spots", "places", "words"] (spDueR K) := by
  have GIp : FnG P w K mg base 2 fIp fdIp ["spots", "thing", "many"] (spIsPlace K) := ok_isplace FIp T FW bW FA bA
  refine okG F scDq (fun vs H Q E h => ?_) (fun cdv A outer s H vs Q E gA hr h => ?_)
  · obtain ⟨m, l, a, n, xs, qs, v2, v3, d2, d3, b2, b3, rfl, _⟩ := h
    rfl
  obtain ⟨m, l, a, n, xs, qs, v2, v3, d2, d3, b2, b3, rfl, M, hs, hx, hn, l1, l3, h2, g2, c2, h3, g3, c3, q⟩ := h
  have lx : xs.length = qs.length := by rw [hx.len]; exact prD_len qs
  have hp := prD_trs qs xs hx
  have finish : ∃ t, PSs (cxOf CX0 P w K mg base NDu "_law_due" (defScope sDue) f cdv A outer s H E).nox ((defBody sDue).drop 3) t ∧ ∀ (H1 : Hp) (vw : V) (dw : PyData) (bw : Nat) (u3 u4 u5 : Option V), Same H H1 → Dq K H1 m l vw dw → Gd (10 ^ 31) 100000 bw dw → bw ≤ 60 → (∀ (v : V) (H' : Hp), Same H H' → Dq K H' m l v (dueW qs d2 dw) → Q v H') →
      t ({ nx := fun _ H' => Q .non H', rt := Q } : Ends) [some (.ref a), some v2, some vw, u3, u4, u5] H1 := by
    refine ⟨_, pss_cons (ps_if (PW.pt (pw_or (pt_not (pt_val (pe_callB call_isi (by rfl) T.isi PyProof.Rows.boot_isinstance (pa_cons (pv 2) (pa_cons (pe_bltn (v := .ty "tuple") (u := .type "tuple") (by rfl) T.tuple (by decide +kernel) rfl) pa_nil)))))
        (pw_or1 (pt_cmpR op_ne (pe_callB call_len (by rfl) T.len PySem.boot_len (pa_cons (pv 2) pa_nil)) (pe_callB call_len (by rfl) T.len PySem.boot_len (pa_cons (pv 0) pa_nil)) (nomark _))))) (pss_one (ps_ret (pe_tup (pa_cons pe_str (pa_cons pe_non pa_nil))))) pss_nil)
      (pss_cons (ps_for PassesOwn.never rfl (pi_et (by rfl) T.enumerate (pa_cons (pv 2) pa_nil)) (pg_tup rfl (pgs_cons (pg_name (i := 4) scDq.nd rfl (by first | exact Or.inl rfl | exact Or.inr rfl)) (pgs_cons (pg_name (i := 5) scDq.nd rfl (by first | exact Or.inl rfl | exact Or.inr rfl)) pgs_nil)))
        (pss_one (ps_if (pt_cmpR op_notIn_seq (pe_callB (call_reprD gA hr.units) (by rfl) T.repr (by decide +kernel) (pa_cons (pv 5) pa_nil)) (pe_lst (pa_cons pe_str (pa_cons pe_str (pa_cons pe_str pa_nil)))) (by rfl))
          (pss_one (ps_ret (pe_tup (pa_cons pe_str (pa_cons (pv 4) pa_nil))))) pss_nil)))
      (pss_one (ps_ret (pe_lst (pa_cons (pv 0) (pa_cons (pv 1) (pa_cons (pv 2) pa_nil))))))), ?_⟩
    intro H1 vw dw bw u3 u4 u5 s1 hw gw cw qw
    have refuse : ∀ (H2 : Hp) (p : Addr) (u : V), Same H H2 → H2 p = none → modesV qs.length dw = some u → Q (.ref p) (upd H2 p (.tup [.str "modes", u])) := fun H2 p u s2 hp' eu => by
      refine qw _ _ (s2.trans (Same.upd hp')) ?_
      have e : dueW qs d2 dw = badMo u := by unfold dueW; rw [eu]
      rw [e]
      exact .tup (.inl (.inl upd_same)) (.cons (.str _) (.cons (modesV_pl l3 eu).dq .nil))
    refine ⟨_, rfl, vw, .ty "tuple", _, _, _, rfl, .ty _, hw.ty, isi_tup K dw, _, rfl, ?_⟩
    cases dw with
    | tuple ds =>
      cases hw with
      | tup h0 hy =>
        rename_i p ys
        have hw' : Dq K H1 m l (.ref p) (.tuple ds) := .tup h0 hy
        refine ifF rfl ?_
        have ly := hy.len
        refine ⟨_, rfl, .ref p, ys.length, rfl, .inr ⟨ys, h0, rfl⟩, _, rfl, .ref a, xs.length, rfl, .inr ⟨xs, Same.seqT s1 hs, rfl⟩, rfl, _, rfl, ?_⟩
        have ee : decide (V.int ((ys.length : Nat) : Int) = V.int ((xs.length : Nat) : Int)) = decide (ys.length = xs.length) := by
          rw [Bool.eq_iff_iff, decide_eq_true_eq, decide_eq_true_eq, V.int.injEq]; omega
        rw [ee]
        by_cases hl : ys.length = xs.length
        · have ed : modesV qs.length (.tuple ds) = (firstBad isMode 0 ds).map fun p => V.int (p : Nat) := if_pos (by omega)
          refine ifF (by rw [decide_eq_true hl]; rfl) ?_
          refine ⟨_, rfl, p, ys, rfl, h0, ?_⟩
          refine for_it walk_et (fun i σ H2 => ∃ (u4 u5 : Option V), σ = [some (.ref a), some v2, some (.ref p), u3, u4, u5] ∧ Same H1 H2 ∧ firstBad isMode 0 ds = firstBad isMode i (ds.drop i))
            ⟨u4, u5, rfl, Same.refl H1, rfl⟩ (fun i σ H2 _ ⟨_, _, _, s2, _⟩ => Same.seqT s2 h0) ?_ ?_
          · rintro i x σ H2 H3 hi ⟨u4, u5, rfl, s2, dg⟩ ⟨TT, x1, x2, rfl, hT, rfl, e1', e2'⟩
            have ex1 : x1 = .int (i : Nat) := (Option.some.inj e1').symm
            subst ex1
            obtain ⟨e, he, dqe⟩ := hy.get e2'
            have sA : Same H1 (upd H2 TT (.tup [.int (i : Nat), x2])) := s2.trans (Same.upd hT)
            have hid : i < ds.length := by omega
            have edr : ds.drop i = e :: ds.drop (i + 1) := by rw [List.drop_eq_getElem_cons hid]; rw [(List.getElem?_eq_some_iff.mp he).2]
            obtain ⟨cc, eb, g⟩ := Gd.untup gw
            have ge := g.at he
            have we : e.weight ≤ 100000 := by
              have := wA_at he
              have := g.wt
              omega
            have she := (ge.mono (Nat.le_refl _) we (Nat.le_refl _)).shown (by decide)
            have dpe := ge.dp
            refine ⟨TT, _, rfl, .inl (.inl upd_same), rfl, _, _, rfl, _, _, rfl, rfl, ?_⟩
            refine ⟨_, rfl, x2, e, m, l, rfl, Dq.same sA e x2 dqe, she.1, by omega, she.2, (by show 3 ≤ sizeLine; decide), fun p7 h7 => ?_⟩
            have s7 := sA.trans (Same.upd (o := .lst [.str "'live'", .str "'met'", .str "'begin'"]) h7)
            refine ⟨p7, _, rfl, .inl (SqL.of upd_same), rfl, rfl, _, rfl, ?_⟩
            have ei : inV (.str e.shown) [.str "'live'", .str "'met'", .str "'begin'"] = isMode e := by
              have := inV_str e.shown ["'live'", "'met'", "'begin'"]
              rw [← mode_in]; exact this
            rw [edr] at dg
            simp only [firstBad] at dg
            cases hb : isMode e with
            | true =>
              rw [if_pos hb] at dg
              refine ifF (by rw [ei, hb]; rfl) ⟨_, _, rfl, s7, dg⟩
            | false =>
              rw [if_neg (by rw [hb]; exact Bool.false_ne_true)] at dg
              refine ifT (by rw [ei, hb]; rfl) ⟨_, rfl, (by show 2 ≤ sizeLine; decide), fun p9 h9 => refuse _ p9 _ (s1.trans s7) h9 ?_⟩
              rw [ed, dg]; rfl
          · rintro σ H2 ⟨u4, u5, rfl, s2, dg⟩
            rw [List.drop_of_length_le (by omega)] at dg
            have en : modesV qs.length (.tuple ds) = none := by rw [ed, dg]; rfl
            refine ⟨_, rfl, _, rfl, _, rfl, (by show 3 ≤ sizeLine; decide), fun p9 h9 => ?_⟩
            have s9 := s1.trans (s2.trans (Same.upd (o := .lst [.ref a, v2, .ref p]) h9))
            have n9 := (M.same (s1.trans s2)).ne h9
            refine qw _ _ s9 ?_
            unfold dueW
            rw [en]
            exact .lst upd_same n9.1 n9.2 (.cons (Dq.same s9 _ _ (.tup hs hx)) (.cons (Dq.same s9 _ _ h2) (.cons (Dq.same (s2.trans (Same.upd h9)) _ _ hw') .nil)))
        · have ed : modesV qs.length (.tuple ds) = some .non := if_neg (by omega)
          exact ifT (by rw [decide_eq_false hl]; rfl) ⟨(by show 2 ≤ sizeLine; decide), fun p9 h9 => refuse _ p9 .non s1 h9 ed⟩
    | _ => exact ifT rfl (ifT rfl ⟨(by show 2 ≤ sizeLine; decide), fun p9 h9 => refuse _ p9 .non s1 h9 rfl⟩)
  obtain ⟨tF, dF, zF⟩ := finish
  refine ⟨_, pss_cons (ps_if (PW.pt (pw_or (pt_not (pt_val (pe_callB call_isi (by rfl) T.isi PyProof.Rows.boot_isinstance (pa_cons (pv 1) (pa_cons (pe_bltn (v := .ty "tuple") (u := .type "tuple") (by rfl) T.tuple (by decide +kernel) rfl) pa_nil)))))
      (pw_or1 (pt_not (pt_chain op_le op_le pe_int (pe_callB call_len (by rfl) T.len PySem.boot_len (pa_cons (pv 1) pa_nil)) pe_int))))) (pss_one (ps_ret (pe_tup (pa_cons pe_str (pa_cons pe_non pa_nil))))) pss_nil)
    (pss_cons (ps_for PassesOwn.never rfl (pi_et (by rfl) T.enumerate (pa_cons (pv 1) pa_nil)) (pg_tup rfl (pgs_cons (pg_name (i := 3) scDq.nd rfl (by first | exact Or.inl rfl | exact Or.inr rfl)) (pgs_cons (pg_name (i := 4) scDq.nd rfl (by first | exact Or.inl rfl | exact Or.inr rfl)) pgs_nil)))
      (pss_one (ps_if (pt_not (pt_val (pe_callG GIp gA hr (by rfl) T.isp FIp.kp bIp .nil (pa_cons (pv 0) (pa_cons (pv 4) (pa_cons (pe_callB call_len (by rfl) T.len PySem.boot_len (pa_cons (pv 1) pa_nil)) pa_nil))))))
        (pss_one (ps_ret (pe_tup (pa_cons pe_str (pa_cons (pv 3) pa_nil))))) pss_nil)))
    (pss_cons (ps_set (i := 2) scDq.nd rfl (by first | exact Or.inl rfl | exact Or.inr rfl) (pe_ifExp (pt_cmpR op_isN (pv 2) pe_non (nomark _)) (pe_op op_rep1 (pe_tup (pa_cons pe_str pa_nil)) (pe_callB call_len (by rfl) T.len PySem.boot_len (pa_cons (pv 0) pa_nil))) (pv 2))) dF)), ?_⟩
  refine ⟨_, rfl, v2, .ty "tuple", _, _, _, rfl, .ty _, h2.ty, isi_tup K d2, _, rfl, ?_⟩
  have refuse : ∀ (H1 : Hp) (p : Addr) (u : V), Same H H1 → H1 p = none → placesV qs d2 = some u → Q (.ref p) (upd H1 p (.tup [.str "places", u])) := fun H1 p u s1 hp' eu => by
    have sp : Same H (upd H1 p (.tup [.str "places", u])) := s1.trans (Same.upd hp')
    refine q _ _ sp ?_
    have e : dueR qs d2 d3 = badPl u := by unfold dueR; rw [eu]
    rw [e]
    exact .tup (.inl (.inl upd_same)) (.cons (.str _) (.cons (placesV_pl eu).dq .nil))
  cases d2 with
  | tuple ds =>
    cases h2 with
    | tup h0 hy =>
      rename_i p ys
      have h2' : Dq K H m l (.ref p) (.tuple ds) := .tup h0 hy
      refine ifF rfl ?_
      have ly := hy.len
      have none0 : ¬ (1 ≤ ds.length ∧ ds.length ≤ 16) → placesV qs (.tuple ds) = some .non := fun h => if_neg h
      refine ⟨_, rfl, .ref p, ys.length, rfl, .inr ⟨ys, h0, rfl⟩, 1, (ys.length : Int), rfl, rfl, _, rfl, ite_b (fun e1 => ⟨(ys.length : Int), 16, rfl, rfl, _, rfl, ite_b (fun e8 => ⟨(by show 2 ≤ sizeLine; decide), fun p9 h9 => refuse H p9 .non (Same.refl H) h9 (none0 ?_)⟩) (fun e8 => ?_)⟩) (fun e1 => ⟨_, rfl, ifT rfl ⟨(by show 2 ≤ sizeLine; decide), fun p9 h9 => refuse H p9 .non (Same.refl H) h9 (none0 ?_)⟩⟩)⟩
      · have : ¬ ((ys.length : Int) ≤ 16) := by simpa using e8
        omega
      · have l3' : (ys.length : Int) ≤ 16 := by simpa using e8
        have l1' : (1 : Int) ≤ (ys.length : Int) := of_decide_eq_true e1
        have ed : placesV qs (.tuple ds) = (firstBad (placeD qs ds.length) 0 ds).map fun p => V.int (p : Nat) := if_pos ⟨by omega, by omega⟩
        refine ⟨_, rfl, p, ys, rfl, h0, ?_⟩
        refine for_it walk_et (fun i σ H1 => ∃ (u3 u4 : Option V), σ = [some (.ref a), some (.ref p), some v3, u3, u4, none] ∧ Same H H1 ∧ firstBad (placeD qs ds.length) 0 ds = firstBad (placeD qs ds.length) i (ds.drop i))
          ⟨none, none, rfl, Same.refl H, rfl⟩ (fun i σ H1 _ ⟨u3, u4, _, s1, _⟩ => Same.seqT s1 h0) ?_ ?_
        · rintro i x σ H1 H2 hi ⟨u3, u4, rfl, s1, dg⟩ ⟨TT, x1, x2, rfl, hT, rfl, e1', e2'⟩
          have ex1 : x1 = .int (i : Nat) := (Option.some.inj e1').symm
          subst ex1
          obtain ⟨e, he, dqe⟩ := hy.get e2'
          have sA : Same H (upd H1 TT (.tup [.int (i : Nat), x2])) := s1.trans (Same.upd hT)
          have hid : i < ds.length := by omega
          have edr : ds.drop i = e :: ds.drop (i + 1) := by rw [List.drop_eq_getElem_cons hid]; rw [(List.getElem?_eq_some_iff.mp he).2]
          obtain ⟨cc, eb, g⟩ := Gd.untup g2
          have ge := g.at he
          have we : e.weight ≤ 100000 := by
            have := wA_at he
            have := g.wt
            omega
          refine ⟨TT, _, rfl, .inl (.inl upd_same), rfl, _, _, rfl, _, _, rfl, rfl, ?_⟩
          refine ⟨_, rfl, _, rfl, _, rfl, .ref p, ys.length, rfl, .inr ⟨ys, Same.seqT sA h0, rfl⟩, m, l, a, xs, qs, (ys.length : Int), x2, e, cc, rfl, Same.seqT sA hs, hp.same sA, hn, l3, Dq.same sA e x2 dqe, ge.mono (Nat.le_refl _) we (Nat.le_refl _), by omega, fun H3 s3 => ⟨_, rfl, ?_⟩⟩
          rw [ly]
          rw [edr] at dg
          simp only [firstBad] at dg
          cases hb : placeD qs ds.length e with
          | true =>
            rw [if_pos hb] at dg
            exact ifF rfl ⟨_, _, rfl, sA.trans s3, dg⟩
          | false =>
            rw [if_neg (by rw [hb]; exact Bool.false_ne_true)] at dg
            refine ifT rfl ⟨_, rfl, (by show 2 ≤ sizeLine; decide), fun p9 h9 => refuse H3 p9 _ (sA.trans s3) h9 ?_⟩
            rw [ed, dg]; rfl
        · rintro σ H1 ⟨u3, u4, rfl, s1, dg⟩
          rw [List.drop_of_length_le (by omega)] at dg
          have en : placesV qs (.tuple ds) = none := by rw [ed, dg]; rfl
          have q' : ∀ (v : V) (H' : Hp), Same H H' → Dq K H' m l v (dueW qs (.tuple ds) (wordsD qs.length d3)) → Q v H' := fun v H' s' h' => q v H' s' (by unfold dueR; rw [en]; exact h')
          refine ⟨_, rfl, rfl, _, rfl, ?_⟩
          cases d3 with
          | none =>
            cases h3
            refine ifT rfl ⟨(by show 1 ≤ sizeLine; decide), fun p9 h9 => ?_⟩
            have s9 : Same H1 (upd H1 p9 (.tup [.str "live"])) := Same.upd h9
            refine ⟨_, rfl, .ref a, xs.length, rfl, .inr ⟨xs, Same.seqT (s1.trans s9) hs, rfl⟩, p9, (xs.length : Int), [V.str "live"], rfl, rfl, .inl (.inl upd_same), (fun z => nomatch z), by omega, by omega, (by show 1 ≤ 1000; decide), fun e1 => ?_, fun e2 p2 hp2 => ?_⟩
            · have : qs.length = 1 := by omega
              refine zF _ _ _ 2 _ _ _ (s1.trans s9) ?_ (live_good _ l3) (by decide) q'
              simp only [wordsD, this]
              exact .tup (.inl (.inl upd_same)) (.cons (.str _) .nil)
            · have e3 : (xs.length : Int).toNat = qs.length := by omega
              rw [e3, live_flat]
              exact zF _ _ _ 2 _ _ _ ((s1.trans s9).trans (Same.upd hp2)) (.tup (.inl (.inl upd_same)) (live_dq _)) (live_good _ l3) (by decide) q'
          | _ => exact ifF (by cases h3 <;> rfl) ⟨_, rfl, zF _ _ _ b3 _ _ _ s1 (Dq.same s1 _ _ h3) g3 c3 q'⟩
      · have : ¬ ((1 : Int) ≤ (ys.length : Int)) := of_decide_eq_false e1
        omega
  | _ => exact ifT rfl (ifT rfl ⟨(by show 2 ≤ sizeLine; decide), fun p9 h9 => refuse H p9 .non (Same.refl H) h9 rfl⟩)
end
end Ms
namespace Ms
open PySem PySem.Spec PyProof.Rows L2
/-! ### try: several clauses, each with a name, one of which catches -/
abbrev Clause : Type := Value × (Addr → Value → Option Addr → TS)
/-- the ends of a suite: behind it the clause's name is gone -/
def unnamed (i : Nat) (D : Ends) : Ends := { nx := fun σ' H' => D.nx (σ'.set i none) H', rt := D.rt, bk := fun σ' H' => D.bk (σ'.set i none) H', ct := fun σ' H' => D.ct (σ'.set i none) H' }
def wishes (K : PySem.W.Frag) (i : Nat) (D : Ends) : List Clause → WX
  | [] => fun _ _ _ _ => False
  | p :: r => fun cls d σ H => ∃ hit, PySem.W.exmOne K cls p.1 = some hit ∧ (hit = true → ∀ a, H a = none → p.2 a cls d (unnamed i D) (σ.set i (some (.ref a))) H) ∧ (hit = false → wishes K i D r cls d σ H)
inductive Clauses (X : Cx) (n : Str) : List ExceptHandler → List Clause → Prop
  | last : Clauses X n [] []
  | more {x : Str} {c : Value} {ts : Addr → Value → Option Addr → TS} {st : Stmt} {rest : List Stmt} {q q' : Pos} {hds : List ExceptHandler} {l : List Clause} (hc : Names X x c)
      (suite : ∀ (a : Addr) (oe : Obj) (cls : Value) (d : Option Addr) (pn : List (Addr × Obj)), Zc cls d oe → (∃ vs, oe.data = .fields vs) → PSs (X.suite a ((a, oe) :: pn)) (st :: rest) (ts a cls d)) (r : Clauses X n hds l) :
      Clauses X n (.ExceptHandler (some (.Name x q)) (some n) (st :: rest) q' :: hds) ((c, ts) :: l)
section
variable {X : Cx} {n : Str} {i : Nat} {body : List Stmt} {h₀ : ExceptHandler} {hds : List ExceptHandler} {l : List Clause} {pos : Pos} {tb : WX → TS}
theorem ps_try_list (hs : X.stack = X.env :: X.outer) (hf : X.env.frame = some X.env.locals) (hN : X.N.Nodup) (hi : X.N[i]? = some n) (hln : X.env.kindOf n = some .local)
    (hb : ∀ (W : WX) (pn : List (Addr × Obj)) (xe : Value → Shared → Prop), Takes (X.tr pn xe) W → PassesOwn (model X.prog X.w) X.A X.env xe → PSs (X.tr pn xe) body (tb W))
    (cl : Clauses X n (h₀ :: hds) l) : PS X (.Try body (h₀ :: hds) [] [] pos) (fun D σ H => tb (wishes X.K i D l) D σ H) := by
  constructor
  intro pins s σ H D I reads
  have good := I.ok
  have frames : X.A.frames = some (X.env :: X.outer) := good.frames.trans (by rw [hs])
  have caught : Takes (X.tr (X.pn ++ pins) (fun e s₁ => wpAny (model X.prog X.w) X.A (noteFrame e X.env) (fun _ s₂ => wpAny (model X.prog X.w) X.A (setFlight e none) (fun _ s₃ =>
      wpAny (model X.prog X.w) X.A (handleBy e X.env (h₀ :: hds)) (SP X pins D) X.xe s₃) X.xe s₂) X.xe s₁)) (wishes X.K i D l) := by
    intro u s' air
    obtain ⟨a, B, sI, pins', σ', H', cls, d, rfl, It, nb, up, sky, free, os, bare, wish⟩ := air
    have I' : Inv X pins σ' H' sI := It.ofTry good
    show wpAny (model X.prog X.w) X.A (noteFrame (.ref a) X.env) _ _ _
    refine Sky.land Zc.steady frames hf (by rw [← hs]; exact sky) fun g fl upg => ?_
    have Ig : Inv X pins σ' H' { s' with heap := g } := I'.landed nb fl.1 (up.trans upg) os bare
    obtain ⟨oe, vs, at_, zc, fields⟩ := fl.there
    have apart : a ∉ frs (X.env :: X.outer) := fun hm => by
      obtain ⟨_, o', e', nd⟩ := fl.2.2.1.mem hm
      cases at_.symm.trans e'
      exact nd _ fields
    have noLocals : a ≠ X.env.locals := fun z => apart (List.mem_filterMap.mpr ⟨X.env, List.mem_cons_self, by rw [hf, z]⟩)
    have noFrame : a ∉ X.fs := fun hm => by
      obtain ⟨env, he, q⟩ := List.mem_filterMap.mp hm
      exact apart (List.mem_filterMap.mpr ⟨env, List.mem_cons_of_mem _ he, q⟩)
    have Sg := Ig.suite at_ fields free noLocals noFrame
    have looks : PySem.W.Looks (model X.prog X.w) g (typeOf (.ref a)) cls := fun A Q E t k q => wpAny_typeOf_ref (k _ _ at_) (by rw [zc.1]; exact q)
    have all : ∀ {hds' : List ExceptHandler} {l' : List Clause}, Clauses X n hds' l' → wishes X.K i D l' cls d σ' H' → wpAny (model X.prog X.w) X.A (handleBy (.ref a) X.env hds') (SP X pins D) X.xe { s' with heap := g } := by
      intro hds' l' cs
      induction cs with
      | last => exact fun w => w.elim
      | @more x c ts st rest q q' hds2 l2 hc suite r ih =>
        rintro ⟨hit, eq, yes, no⟩
        refine wpAny_handleBy_cons (codeAny_handlers_test ?_) (fun z => nomatch z)
        have isIt := PySem.W.exm_one (M := model X.prog X.w) Ig.kIn looks eq
        have named : ∀ {Q : Value → Shared → Prop} {E : Value → Shared → Prop}, Q c { s' with heap := g } → wpAny (model X.prog X.w) (X.A.mark (some (.ref a))) (eval (.Name x q) X.env) Q E { s' with heap := g } := fun {Q E} k => by
          obtain ⟨h1, h2, h3⟩ := hc
          cases h3 with
          | inl h3 => exact ld_glob (X := X.suite a ((a, oe) :: (X.pn ++ pins))) Sg h1 h3 k h2
          | inr h3 => exact ld_blt (X := X.suite a ((a, oe) :: (X.pn ++ pins))) Sg h1 h3.1 h3.2.1 k h3.2.2 h2
        refine named (isIt.here ?_)
        cases hit with
        | false =>
          show wpAny _ X.A (handleBy (.ref a) X.env hds2) _ _ _
          exact ih (no rfl)
        | true =>
          refine codeAny_handlers_suite_as (HandSPX.lands_againZ fl fun g2 fl2 up2 => ?_)
          have I2 : Inv X pins σ' H' { s' with heap := g2 } := I'.landed nb fl2.1 ((up.trans upg).trans up2) os bare
          obtain ⟨oe2, vs2, at2, zc2, fields2⟩ := fl2.there
          have S2 := I2.suite at2 fields2 free noLocals noFrame
          refine store_ok (X := X.suite a ((a, oe2) :: (X.pn ++ pins))) (v := .ref a) S2 hN hi (.inl hln) rfl (fun s5 S5 => ?_) (.inr hln)
          refine wpAny_mono ((suite a oe2 cls d (X.pn ++ pins) zc2 ⟨_, fields2⟩).run [] s5 _ H' _ S5 (yes rfl a free)) (fun f s6 hsp => ?_) (fun _ _ z => z.elim)
          match f, hsp with
          | .ret u, ⟨v, _, _, S6, rv, k⟩ => exact gone_ok (S6.unsuite good) hN hi hln fun s7 I7 => ⟨v, _, _, I7, rv, k⟩
          | .next, ⟨_, _, S6, k⟩ => exact gone_ok (S6.unsuite good) hN hi hln fun s7 I7 => ⟨_, _, I7, k⟩
          | .brk, ⟨_, _, S6, k⟩ => exact gone_ok (S6.unsuite good) hN hi hln fun s7 I7 => ⟨_, _, I7, k⟩
          | .cont, ⟨_, _, S6, k⟩ => exact gone_ok (S6.unsuite good) hN hi hln fun s7 I7 => ⟨_, _, I7, k⟩
    exact all cl wish
  refine wpAny_Try_except (wpAny_mono ((hb _ _ _ caught PassesOwn.looking).run [] s σ H D (I.toTry _) reads) (fun f s1 hsp => ?_) fun _ _ z => z)
  match f, hsp with
  | .ret u, ⟨v, _, _, J, rv, k⟩ => exact ⟨v, _, _, J.ofTry good, rv, k⟩
  | .next, ⟨_, _, J, k⟩ => exact wpAny_execs_nil ⟨_, _, J.ofTry good, k⟩
  | .brk, ⟨_, _, J, k⟩ => exact ⟨_, _, J.ofTry good, k⟩
  | .cont, ⟨_, _, J, k⟩ => exact ⟨_, _, J.ofTry good, k⟩
end
end Ms
namespace Ms
open PySem PySem.Spec PyProof.Rows L2 LamX
/-! ### _law_told(lambda: ..) of law k05 -/
/-- what the def makes of the lambda's reading: the request's fields in a list, or how it is refused -/
def TTq (K : PySem.W.Frag) (C CS CP CM : Addr) : (XK → Hp → VK → Prop) → Hp → VK → Prop := fun tl H Q => ∀ (H0 : Hp) (Ec : XK) (Qc : VK), Same H H0 →
  (∀ (dd : Addr) (u : V) (H' : Hp), H' dd = some (.xd [("place", u)]) → (∀ p, H' p = none → Q (.ref p) (upd H' p (.tup [.str "settings", u]))) → Ec (.ref CS) (some dd) H') →
  (∀ (dd : Addr) (u : V) (H' : Hp), H' dd = some (.xd [("place", u)]) → (∀ p, H' p = none → Q (.ref p) (upd H' p (.tup [.str "places", u]))) → Ec (.ref CP) (some dd) H') →
  (∀ (dd : Addr) (u : V) (H' : Hp), H' dd = some (.xd [("place", u)]) → (∀ p, H' p = none → Q (.ref p) (upd H' p (.tup [.str "modes", u]))) → Ec (.ref CM) (some dd) H') →
  (∀ (x dx : Addr) (v1 v2 v3 : V) (H1 : Hp), H1 x = some (.ins C dx (reqF v1 v2 v3)) → (∀ p, H1 p = none → Q (.ref p) (upd H1 p (.lst [v1, v2, v3]))) → Qc (.ref x) H1) → tl Ec H0 Qc
abbrev NTo : List Str := ["call", "one", "e"]
theorem scTo : FnScope NTo ["call"] (defScope sTold) := ⟨rfl, rfl, rfl, by decide +kernel, rfl, by decide +kernel, by decide +kernel⟩
/-- one class of refusals: caught by its own clause alone -/
structure RefC (K : PySem.W.Frag) (C : Addr) : Prop where
  low : XfC K C
  no : PySem.W.findIn K (.ref C) "place" = some none
section
variable {X : Cx} {C CS CP CM g : Addr} {cdg : Value} {q : Str}
theorem told_req (RC : ReqC X.K C) (mS : X.mg "BadSettings" = some (.ref CS)) (mP : X.mg "BadPlaces" = some (.ref CP)) (mM : X.mg "BadModes" = some (.ref CM))
    (xSS : PySem.W.exmOne X.K (.ref CS) (.ref CS) = some true) (xPS : PySem.W.exmOne X.K (.ref CP) (.ref CS) = some false) (xPP : PySem.W.exmOne X.K (.ref CP) (.ref CP) = some true)
    (xMS : PySem.W.exmOne X.K (.ref CM) (.ref CS) = some false) (xMP : PySem.W.exmOne X.K (.ref CM) (.ref CP) = some false) (xMM : PySem.W.exmOne X.K (.ref CM) (.ref CM) = some true)
    (RS : RefC X.K CS) (RP : RefC X.K CP) (RM : RefC X.K CM) :
    GivesTo X NTo "_law_told" (defScope sTold) g cdg (defBody sTold) "call" q (TTq X.K C CS CP CM) := by
  intro f c' s H Q tl act hc h
  refine ⟨_, pss_cons (ps_try_list (X := (cxOf C8.CX0 X.prog X.w X.K X.mg X.base NTo "_law_told" (defScope sTold) g cdg X.A X.stack s H C8.E0).nox) (i := 2) (n := "e")
      (tb := fun W D σ H1 => σ[0]? = some (some (.ref f)) ∧ H1 c' = some (CodeO c' q) ∧ tl (fun cls d H' => ∀ σ' : L2.St, σ'.length = 3 → W cls d σ' H') H1 (fun y H2 => gName 1 y σ H2 D.nx))
      rfl rfl scTo.nd rfl rfl (fun W pn xe tk _ => ?_)
      (.more (c := .ref CS) ⟨by rfl, by decide, .inl mS⟩ (fun a oe cls d pn hz hf => pss_one (ps_ret (pe_tup (pa_cons pe_str (pa_cons (pe_xf RS.low RS.no hz hf (pv 2)) pa_nil)))))
      (.more (c := .ref CP) ⟨by rfl, by decide, .inl mP⟩ (fun a oe cls d pn hz hf => pss_one (ps_ret (pe_tup (pa_cons pe_str (pa_cons (pe_xf RP.low RP.no hz hf (pv 2)) pa_nil)))))
      (.more (c := .ref CM) ⟨by rfl, by decide, .inl mM⟩ (fun a oe cls d pn hz hf => pss_one (ps_ret (pe_tup (pa_cons pe_str (pa_cons (pe_xf RM.low RM.no hz hf (pv 2)) pa_nil)))))
      .last))))
    (pss_one (ps_ret (pe_lst (pa_cons (pe_fld (pv 1) rfl) (pa_cons (pe_fld (pv 1) rfl) (pa_cons (pe_fld (pv 1) rfl) pa_nil)))))), ?_⟩
  · refine ⟨fun pins s' σ H' D I h' => ?_⟩
    obtain ⟨h1, h2, h3⟩ := h'
    have tk' : Takes ((cxOf C8.CX0 X.prog X.w X.K X.mg X.base NTo "_law_told" (defScope sTold) g cdg X.A X.stack s H C8.E0).nox.tr pn xe) (fun cls d σ' H' => σ'.length = 3 → W cls d σ' H') := fun u s' ⟨a, B, sI, pins, σ, H, cls, d, e, I, nb, up, sky, na, os, ag, w⟩ =>
      tk u s' ⟨a, B, sI, pins, σ, H, cls, d, e, I, nb, up, sky, na, os, ag, w I.len⟩
    have hp := fun p1 p2 => act _ pn xe (fun cls d H' => ∀ σ' : L2.St, σ'.length = 3 → W cls d σ' H') p1 p2 tk' (fun cls d σ' H' e hl => e σ' hl)
    exact (pss_one (ps_set (i := 1) scTo.nd rfl (by first | exact Or.inl rfl | exact Or.inr rfl) (hp _ _))).run pins s' σ H' D I ⟨h1, h2, h3⟩
  · refine ⟨rfl, hc, h _ _ _ (Same.refl H) (fun dd u H' hdd k σ' hl => ?_) (fun dd u H' hdd k σ' hl => ?_) (fun dd u H' hdd k σ' hl => ?_) (fun x dx v1 v2 v3 H1 hx k => ?_)⟩
    · match σ', hl with
      | [x0, x1, x2], _ =>
        exact ⟨true, xSS, fun _ a na => ⟨_, rfl, rfl, rfl, dd, _, _, rfl, hdd, rfl, (by show 2 ≤ sizeLine; decide), fun p hp => k p hp⟩, fun z => nomatch z⟩
    · match σ', hl with
      | [x0, x1, x2], _ =>
        exact ⟨false, xPS, (fun z => nomatch z), fun _ => ⟨true, xPP, fun _ a na => ⟨_, rfl, rfl, rfl, dd, _, _, rfl, hdd, rfl, (by show 2 ≤ sizeLine; decide), fun p hp => k p hp⟩, fun z => nomatch z⟩⟩
    · match σ', hl with
      | [x0, x1, x2], _ =>
        exact ⟨false, xMS, (fun z => nomatch z), fun _ => ⟨false, xMP, (fun z => nomatch z), fun _ => ⟨true, xMM, fun _ a na => ⟨_, rfl, rfl, rfl, dd, _, _, rfl, hdd, rfl, (by show 2 ≤ sizeLine; decide), fun p hp => k p hp⟩, fun z => nomatch z⟩⟩⟩
    · exact ⟨_, rfl, x, C, dx, _, _, rfl, hx, RC.cl, RC.nS, rfl, _, rfl, x, C, dx, _, _, rfl, hx, RC.cl, RC.nP, rfl, _, rfl, x, C, dx, _, _, rfl, hx, RC.cl, RC.nM, rfl, (by show 3 ≤ sizeLine; decide), fun p hp => k p hp⟩
end
end Ms
namespace Ms
open PySem PySem.Spec PyProof.Rows L2 LamX
/-! ### a request, made and told -/
section
variable {K : PySem.W.Frag} {C CS CP CM : Addr}
theorem need_ok {ys : List (Str × Int)} (so : SetOk ys) {u : V} (h : needV (.tuple (prD ys)) = some u) : False := by rw [so.need] at h; cases h
theorem prD_inj : ∀ {qs ys : List (Str × Int)}, prD qs = prD ys → qs = ys
  | [], [], _ => rfl
  | [], _ :: _, h => by cases h
  | _ :: _, [], h => by cases h
  | (a, b) :: qs, (c, e) :: ys, h => by
    have h' : PyData.tuple [.str a, .int b] :: prD qs = .tuple [.str c, .int e] :: prD ys := h
    injection h' with h1 h2
    injection h1 with h3
    injection h3 with h4 h5
    injection h5 with h6 h7
    injection h4 with h8
    injection h6 with h9
    rw [h8, h9, prD_inj h2]
theorem req_made {H3 : Hp} {Ec : XK} {Qc Q : VK} {m l : Addr} {v1 v2 v3 : V} {ys : List (Str × Int)} {d2 d3 : PyData} {b1 b2 n : Nat} (M : Mch H3 m l n) (so : SetOk ys) (h1 : Dq K H3 m l v1 (.tuple (prD ys))) (g1 : Gd (10 ^ 31) 100000 b1 (.tuple (prD ys)))
    (h2 : Dq K H3 m l v2 d2) (g2 : Gd (10 ^ 31) 100000 b2 d2) (h3 : Dq K H3 m l v3 d3)
    (hP : ∀ (dd : Addr) (u : V) (H' : Hp), H' dd = some (.xd [("place", u)]) → (∀ p, H' p = none → Q (.ref p) (upd H' p (.tup [.str "places", u]))) → Ec (.ref CP) (some dd) H')
    (hM : ∀ (dd : Addr) (u : V) (H' : Hp), H' dd = some (.xd [("place", u)]) → (∀ p, H' p = none → Q (.ref p) (upd H' p (.tup [.str "modes", u]))) → Ec (.ref CM) (some dd) H')
    (hQ : ∀ (x dx : Addr) (v1 v2 v3 : V) (H1 : Hp), H1 x = some (.ins C dx (reqF v1 v2 v3)) → (∀ p, H1 p = none → Q (.ref p) (upd H1 p (.lst [v1, v2, v3]))) → Qc (.ref x) H1)
    (key : ∀ (tv : V) (Hend : Hp), Same H3 Hend → Dq K Hend m l tv (dueR ys d2 d3) → Q tv Hend) :
    ∀ x dx, H3 x = none → H3 dx = none → dx ≠ x → spReq K C CS CP CM [.ref x, v1, v2, v3] (upd (upd H3 dx (.own x)) x (.ins C dx [])) (fun v H2 => v = .non ∧ Qc (.ref x) H2) Ec := by
  intro x dx hx hdx ne
  have s0 : Same H3 (upd (upd H3 dx (.own x)) x (.ins C dx [])) := (Same.upd hdx).trans (Same.upd (by rw [upd_ne ne.symm]; exact hx))
  have xs : ∀ {H'}, SameX x (upd (upd H3 dx (.own x)) x (.ins C dx [])) H' → Same H3 H' := fun k b o e => k b o (ne_of_none e hx) (s0 b o e)
  refine ⟨m, l, x, dx, v1, v2, v3, .tuple (prD ys), d2, d3, _, b1, _, b2, rfl, upd_same, Dq.same s0 _ _ h1, g1, Dq.same s0 _ _ h2, g2, Dq.same s0 _ _ h3, (fun u hu => (need_ok so hu).elim), fun _ qs eq => ?_⟩
  have eq' : qs = ys := (prD_inj (PyData.tuple.inj eq)).symm
  subst eq'
  refine ⟨fun u hu e H' _ k hd => hP e u H' hd fun p hp => ?_, fun hp0 => ⟨fun u hu e H' _ k hd => hM e u H' hd fun p hp => ?_, fun hm0 H' v3' k hd dq3 => ⟨rfl, hQ x dx v1 v2 v3' H' hd fun p hp => ?_⟩⟩⟩
  · have sp := (xs k).trans (Same.upd (o := .tup [.str "places", u]) hp)
    refine key _ _ sp ?_
    have e9 : dueR qs d2 d3 = badPl u := by unfold dueR; rw [hu]
    rw [e9]
    exact .tup (.inl (.inl upd_same)) (.cons (.str _) (.cons (placesV_pl hu).dq .nil))
  · have sp := (xs k).trans (Same.upd (o := .tup [.str "modes", u]) hp)
    refine key _ _ sp ?_
    have e9 : dueR qs d2 d3 = badMo u := by unfold dueR dueW; rw [hp0]; simp only; rw [hu]
    rw [e9]
    exact .tup (.inl (.inl upd_same)) (.cons (.str _) (.cons (modesV_pl so.len3 hu).dq .nil))
  · have sp := (xs k).trans (Same.upd (o := .lst [v1, v2, v3']) hp)
    have np := (M.same (xs k)).ne hp
    refine key _ _ sp ?_
    have e9 : dueR qs d2 d3 = .list [.tuple (prD qs), d2, wordsD qs.length d3] := by unfold dueR dueW; rw [hp0]; simp only; rw [hm0]
    rw [e9]
    exact .lst upd_same np.1 np.2 (.cons (Dq.same sp _ _ h1) (.cons (Dq.same sp _ _ h2) (.cons (Dq.same (Same.upd hp) _ _ dq3) .nil)))
/-- the answer is not too great to be shown -/
theorem vD_good {u : V} (p : PlV u) : Gd (10 ^ 31) 104 0 (vD u) := by
  cases p with
  | non => exact ⟨by decide, by decide, by decide⟩
  | int p h => exact Gd.int (by show (p : Int).natAbs ≤ 10 ^ 31; omega) (Nat.le_refl _)
theorem dueR_good {ys : List (Str × Int)} {d2 d3 : PyData} {a2 a3 b2 b3 : Nat} (so : SetOk ys) (g1 : Gd (10 ^ 31) 600 2 (.tuple (prD ys))) (g2 : Gd (10 ^ 31) a2 b2 d2) (g3 : Gd (10 ^ 31) a3 b3 d3) (ha : a2 ≤ 50000) (hb : a3 ≤ 50000) (h2 : b2 ≤ 40) (h3 : b3 ≤ 40) :
    (dueR ys d2 d3).showable = true ∧ (dueR ys d2 d3).depth ≤ 60 ∧ (dueR ys d2 d3).shown.length ≤ sizeLine := by
  have wg : Gd (10 ^ 31) 100000 40 (wordsD ys.length d3) := by
    cases d3 with
    | none => exact (live_good _ so.len3).mono (Nat.le_refl _) (Nat.le_refl _) (by decide)
    | _ => exact g3.mono (Nat.le_refl _) (by omega) h3
  have any : ∀ {d : PyData} {b : Nat}, Gd (10 ^ 31) 200000 b d → b ≤ 60 → d.showable = true ∧ d.depth ≤ 60 ∧ d.shown.length ≤ sizeLine := fun {d b} g hb => ⟨(g.shown (Nat.le_refl _)).1, Nat.le_trans g.dp hb, (g.shown (Nat.le_refl _)).2⟩
  have bad : ∀ (z : Str) (u : V), sOk 16 z → PlV u → Gd (10 ^ 31) 200000 1 (.tuple [.str z, vD u]) := fun z u hz p =>
    (Gd.tup ((Gl'.one (Gd.str hz)).app (Gl'.one (vD_good p)))).mono (Nat.le_refl _) (by omega) (Nat.le_refl _)
  unfold dueR
  cases e1 : placesV ys d2 with
  | some u => exact any (bad "places" u ⟨by decide, by decide⟩ (placesV_pl e1)) (by decide)
  | none =>
    simp only
    unfold dueW
    cases e2 : modesV ys.length (wordsD ys.length d3) with
    | some u => exact any (bad "modes" u ⟨by decide, by decide⟩ (modesV_pl so.len3 e2)) (by decide)
    | none =>
      refine any ((Gd.lst ((Gl'.one (g1.mono (Nat.le_refl _) (Nat.le_refl _) (show 2 ≤ 40 by decide))).app ((Gl'.one (g2.mono (Nat.le_refl _) ha h2)).app (Gl'.one wg)))).mono (Nat.le_refl _) (by omega) (Nat.le_refl _)) (by decide)
end
end Ms
namespace Ms
open PySem PySem.Spec PyProof.Rows L2 LamX
/-! ### law k05: what a turn holds -/
abbrev forBody (s : Stmt) : List Stmt := match s with
  | .For _ _ b _ _ => b
  | _ => []
abbrev bTurn : List Stmt := forBody ((defBody sLaw).getD 1 (.Pass ⟨0, 0, 0, 0⟩))
abbrev bFirst : List Stmt := forBody (bTurn.getD 5 (.Pass ⟨0, 0, 0, 0⟩))
abbrev bSecond : List Stmt := forBody (bTurn.getD 6 (.Pass ⟨0, 0, 0, 0⟩))
abbrev NL : List Str := ["script", "m", "turn", "spots", "places", "words", "firsts", "seconds", "first", "second", "kept", "told"]
theorem scL : FnScope NL ["script"] (defScope sLaw) := ⟨rfl, rfl, rfl, by decide +kernel, rfl, by decide +kernel, by decide +kernel⟩
abbrev lamQ : Str := "law.<locals>.<lambda>"
/-- an item of the law's lists: some data, not too great -/
def ItD (K : PySem.W.Frag) (H : Hp) (m l : Addr) (v : V) : Prop := ∃ d, Dq K H m l v d ∧ Gd (10 ^ 31) 45000 38 d
theorem Prs.kept {H H' : Hp} {m l l' : Addr} {as : List Addr} {ys : List (Str × Int)} (k : Kept m l l' H H') (p : Prs H as ys) : Prs H' as ys := by
  obtain ⟨z1, e1⟩ := k.am
  obtain ⟨z2, e2⟩ := k.al
  refine Prs.same (fun b o hb e => ?_) p
  obtain ⟨y, i, h⟩ := p.live b hb
  exact k.keep b o e (ne_of h e1 (by intro z; cases z)) (ne_of h e2 (by intro z; cases z))
theorem Dq.toIt {K : PySem.W.Frag} {H : Hp} {m l : Addr} {v : V} {d : PyData} {B a b : Nat} (h : Dq K H m l v d) (g : Gd B a b d) (hB : B ≤ 10 ^ 31) (ha : a ≤ 45000) (hb : b ≤ 38) : ItD K H m l v := ⟨d, h, g.mono hB ha hb⟩
section
variable {K : PySem.W.Frag} {H H' : Hp} {m l l' : Addr} {n n' : Nat}
theorem DqAll.ext (e : ExtN H H') {vs : List V} {ds : List PyData} (h : DqAll K H m l vs ds) : DqAll K H' m l vs ds :=
  DqAll.gen (fun a xs q n1 n2 => ⟨e _ _ q (fun _ z => nomatch z), n1, n2⟩) (fun a xs q => ExtN.seqT e q) (fun a q n1 n2 => ⟨e _ _ q (fun _ z => nomatch z), n1, n2⟩) ds vs h
theorem DqAll.same' (s : Same H H') {vs : List V} {ds : List PyData} (h : DqAll K H m l vs ds) : DqAll K H' m l vs ds := DqAll.ext (Same.toN s) h
theorem ItD.step (k : Kept m l l' H H') {v : V} (h : ItD K H m l v) : ItD K H' m l' v := by
  obtain ⟨d, h1, h2⟩ := h
  exact ⟨d, Dq.step k d v h1, h2⟩
theorem ItD.ext (e : ExtN H H') {v : V} (h : ItD K H m l v) : ItD K H' m l v := by
  obtain ⟨d, h1, h2⟩ := h
  exact ⟨d, Dq.ext e h1, h2⟩
/-- a list of such items -/
structure Ls (K : PySem.W.Frag) (H : Hp) (m l F : Addr) (fs : List V) : Prop where
  at_ : H F = some (.lst fs)
  ne : F ≠ l
  it : ∀ x ∈ fs, ItD K H m l x
theorem Ls.step {F : Addr} {fs : List V} (M : Mch H m l n) (f : Fr m l l' H H') (L : Ls K H m l F fs) : Ls K H' m l' F fs := by
  have k := M.step f
  obtain ⟨z1, e1⟩ := k.am
  exact ⟨k.keep _ _ L.at_ (ne_of L.at_ e1 (by intro z; cases z)) L.ne, k.ne _ _ L.at_ L.ne, fun x hx => (L.it x hx).step k⟩
theorem Ls.ext {F : Addr} {fs : List V} (e : ExtN H H') (L : Ls K H m l F fs) : Ls K H' m l F fs := ⟨e _ _ L.at_ (fun _ z => nomatch z), L.ne, fun x hx => (L.it x hx).ext e⟩
/-- what was drawn at the turn's beginning -/
structure Tn (K : PySem.W.Frag) (Pt : Addr) (H : Hp) (m l : Addr) (n : Nat) (pS : Addr) (xs : List V) (ys : List (Str × Int)) (pP : Addr) (dP : PyData) (pW : Addr) (dW : PyData) : Prop where
  M : Mch H m l n
  t : Tabs [(Pt, lamQ)] H
  so : SetOk ys
  s : SqT K H pS xs
  x : DqAll K H m l xs (prD ys)
  p : Dq K H m l (.ref pP) dP
  gp : Gd (10 ^ 31) 45000 38 dP
  w : Dq K H m l (.ref pW) dW
  gw : Gd (10 ^ 31) 45000 38 dW
section
variable {Pt pS pP pW : Addr} {xs : List V} {ys : List (Str × Int)} {dP dW : PyData}
theorem Tn.step (f : Fr m l l' H H') (M' : Mch H' m l' n') (T : Tn K Pt H m l n pS xs ys pP dP pW dW) : Tn K Pt H' m l' n' pS xs ys pP dP pW dW := by
  have k := T.M.step f
  exact ⟨M', Tabs.fr T.M f T.t, T.so, k.tup T.s, DqAll.step k _ _ T.x, Dq.step k _ _ T.p, T.gp, Dq.step k _ _ T.w, T.gw⟩
theorem Tn.ext (e : ExtN H H') (t : Tabs [(Pt, lamQ)] H') (T : Tn K Pt H m l n pS xs ys pP dP pW dW) : Tn K Pt H' m l n pS xs ys pP dP pW dW :=
  ⟨Mch.ext e T.M, t, T.so, ExtN.seqT e T.s, DqAll.ext e T.x, Dq.ext e T.p, T.gp, Dq.ext e T.w, T.gw⟩
theorem Tn.same (s : Same H H') (T : Tn K Pt H m l n pS xs ys pP dP pW dW) : Tn K Pt H' m l n pS xs ys pP dP pW dW := T.ext (Same.toN s) (Tabs.same T.t s)
theorem Tn.mono (T : Tn K Pt H m l n pS xs ys pP dP pW dW) (h : n ≤ n') : Tn K Pt H m l n' pS xs ys pP dP pW dW := ⟨T.M.mono h, T.t, T.so, T.s, T.x, T.p, T.gp, T.w, T.gw⟩
theorem Tn.d (T : Tn K Pt H m l n pS xs ys pP dP pW dW) : Dq K H m l (.ref pS) (.tuple (prD ys)) := .tup T.s T.x
end
end
theorem pr_good : ∀ ys : List (Str × Int), okP ys → Gl' big (123 * ys.length) 1 (prD ys)
  | [], _ => ⟨(fun d h => nomatch h), Nat.le_refl _, (fun d h => nomatch h)⟩
  | q :: ys, h => by
    obtain ⟨h1, h2, h3⟩ := h q (List.mem_cons_self ..)
    have g1 : Gd big 16 0 (.str q.1) := Gd.str h1
    have g2 : Gd big 104 0 (.int q.2) := Gd.int (by show q.2.natAbs ≤ 10 ^ 30; omega) (by decide)
    have g := Gd.tup ((Gl'.one g1).app (Gl'.one g2))
    have r := (Gl'.one g).app (pr_good ys fun x hx => h x (List.mem_cons_of_mem _ hx))
    exact r.mono (Nat.le_refl _) (by simp only [List.length_cons]; omega) (Nat.le_refl _)
theorem spots_good {ys : List (Str × Int)} (so : SetOk ys) : Gd (10 ^ 31) 600 2 (.tuple (prD ys)) := by
  have := so.len3
  exact (Gd.tup (pr_good ys so.okP)).mono (by decide) (by omega) (Nat.le_refl _)
/-- a request is made, and told -/
theorem ttq_of {K : PySem.W.Frag} {C CS CP CM m l : Addr} {n b2 : Nat} {tl : XK → Hp → VK → Prop} {H2 : Hp} {Q : VK} {v1 v2 v3 : V} {ys : List (Str × Int)} {d2 d3 : PyData} (M : Mch H2 m l n) (so : SetOk ys) (h1 : Dq K H2 m l v1 (.tuple (prD ys)))
    (h2 : Dq K H2 m l v2 d2) (g2 : Gd (10 ^ 31) 100000 b2 d2) (h3 : Dq K H2 m l v3 d3)
    (mk : ∀ (Ec : XK) (Qc : VK) (H3 : Hp), Same H2 H3 → (∀ x dx, H3 x = none → H3 dx = none → dx ≠ x → spReq K C CS CP CM [.ref x, v1, v2, v3] (upd (upd H3 dx (.own x)) x (.ins C dx [])) (fun v H2 => v = .non ∧ Qc (.ref x) H2) Ec) → tl Ec H3 Qc)
    (key : ∀ (tv : V) (Hend : Hp), Same H2 Hend → Dq K Hend m l tv (dueR ys d2 d3) → Q tv Hend) : TTq K C CS CP CM tl H2 Q := by
  intro H3 Ec Qc s3 hS hP hM hQ
  refine mk Ec Qc H3 s3 ?_
  exact req_made (Q := Q) (M.same s3) so (Dq.same s3 _ _ h1) ((spots_good so).mono (Nat.le_refl _) (by decide) (Nat.le_refl _)) (Dq.same s3 _ _ h2) g2 (Dq.same s3 _ _ h3) hP hM hQ fun tv H4 s4 dq4 => key tv H4 (s3.trans s4) dq4
/-- what the law's own def and the package are called by -/
structure TLq (mg : Str → Option Value) (fBg fSe fPc fMd fDu fTo C CS CP CM : Addr) : Prop where
  begun : mg "_law_begun" = some (.ref fBg)
  settings : mg "_law_settings" = some (.ref fSe)
  places : mg "_law_places" = some (.ref fPc)
  modes : mg "_law_modes" = some (.ref fMd)
  due : mg "_law_due" = some (.ref fDu)
  told : mg "_law_told" = some (.ref fTo)
  req : mg "Request" = some (.ref C)
  mS : mg "BadSettings" = some (.ref CS)
  mP : mg "BadPlaces" = some (.ref CP)
  mM : mg "BadModes" = some (.ref CM)
  repr : mg "repr" = none
  min : mg "min" = none
/-- the classes -/
structure Cl4 (K : PySem.W.Frag) (C CS CP CM fR : Addr) : Prop where
  mkc : Mk K C fR
  rc : ReqC K C
  xSS : PySem.W.exmOne K (.ref CS) (.ref CS) = some true
  xPS : PySem.W.exmOne K (.ref CP) (.ref CS) = some false
  xPP : PySem.W.exmOne K (.ref CP) (.ref CP) = some true
  xMS : PySem.W.exmOne K (.ref CM) (.ref CS) = some false
  xMP : PySem.W.exmOne K (.ref CM) (.ref CP) = some false
  xMM : PySem.W.exmOne K (.ref CM) (.ref CM) = some true
  rS : RefC K CS
  rP : RefC K CP
  rM : RefC K CM
abbrev psR : List Str := ["self", "settings", "places", "modes"]
/-- what a law's def knows of Request and of _law_told, _law_due -/
structure Kn (P : Program) (w : World) (K : PySem.W.Frag) (mg : Str → Option Value) (base : Heap) (fBg fSe fPc fMd fDu fTo C CS CP CM fR : Addr) (fdDu fdTo fdR : FuncData) (dn : Value) : Prop where
  TL : TLq mg fBg fSe fPc fMd fDu fTo C CS CP CM
  cl : Cl4 K C CS CP CM fR
  GR : FnOk P w K mg base (L2.CX P w) 6 fR fdR psR (spReq K C CS CP CM)
  b4 : Binds K fdR psR []
  b3 : Binds K fdR psR [dn]
  vd : Vals [V.non] [dn]
  kb : KBn K fdR psR 3 ["modes"] (fun us ws => us ++ ws) (fun vs zs => vs ++ zs)
  FDu : Fun K "_law_due" "_law_due" sDue fDu fdDu
  bDu : Binds K fdDu ["spots", "places", "words"] []
  GDu : FnG P w K mg base 3 fDu fdDu ["spots", "places", "words"] (spDueR K)
  FT : Fun K "_law_told" "_law_told" sTold fTo fdTo
  bT : Binds K fdTo ["call"] []
end Ms
namespace Ms
open PySem PySem.Spec PyProof.Rows L2 LamX
section
variable {P : Program} {w : World} {K : PySem.W.Frag} {mg : Str → Option Value} {base : Heap} {fBg fSe fPc fMd fDu fTo C CS CP CM fR f c Pt : Addr} {fdDu fdTo fdR : FuncData} {dn : Value} {s : Shared} {H0 : Hp} {Eb : XK}
/-- the answer of _law_due is what is told, and both are shown alike -/
theorem due_same {K : PySem.W.Frag} {H1 : Hp} {m l : Addr} {n : Nat} {pS : Addr} {xs : List V} {ys : List (Str × Int)} {v2 v3 : V} {d2 d3 : PyData} {Q : VK} {E : XK} (M : Mch H1 m l n) (so : SetOk ys) (hs : SqT K H1 pS xs) (hx : DqAll K H1 m l xs (prD ys))
    (h2 : Dq K H1 m l v2 d2) (g2 : Gd (10 ^ 31) 45000 38 d2) (h3 : Dq K H1 m l v3 d3) (g3 : Gd (10 ^ 31) 45000 38 d3) (q : ∀ (v : V) (H' : Hp), Same H1 H' → Dq K H' m l v (dueR ys d2 d3) → Q v H') : spDueR K [.ref pS, v2, v3] H1 Q E :=
  ⟨m, l, pS, n, xs, ys, v2, v3, d2, d3, 38, 38, rfl, M, hs, hx, so.nm, so.len1, so.len3, h2, g2.mono (Nat.le_refl _) (by decide) (Nat.le_refl _), by decide, h3, g3.mono (Nat.le_refl _) (by decide) (Nat.le_refl _), by decide, q⟩
/-! ### the second loop's turn -/
theorem law_second (Kn : Kn P w K mg base fBg fSe fPc fMd fDu fTo C CS CP CM fR fdDu fdTo fdR dn) (TB : TabB base mg c Pt) (hr : Room 9 (callerA.deeper (envOfC "law" (defScope sLaw) s.heap.objs.size f (.ref c)))) :
    ∃ t, PSs (cxOf CX0 P w K mg base NL "law" (defScope sLaw) f (.ref c) callerA [] s H0 Eb).nox bSecond t ∧ ∀ (D : Ends) (H1 : Hp) (a m l : Addr) (n : Nat) (pS : Addr) (xs : List V) (ys : List (Str × Int)) (pP : Addr) (dP : PyData) (pW : Addr) (dW : PyData) (v : V) (v2 v5 v6 v7 v8 v10 v11 : Option V),
      Tn K Pt H1 m l n pS xs ys pP dP pW dW → ItD K H1 m l v → (∀ (H2 : Hp), ExtN H1 H2 → Tabs [(Pt, lamQ)] H2 → D.nx [some (.ref a), some (.ref m), v2, some (.ref pS), some (.ref pP), v5, v6, v7, v8, some v, v10, v11] H2) →
      t D [some (.ref a), some (.ref m), v2, some (.ref pS), some (.ref pP), v5, v6, v7, v8, some v, v10, v11] H1 := by
  have gA : (callerA.deeper (envOfC "law" (defScope sLaw) s.heap.objs.size f (.ref c))).guards = some [] := rfl
  have hr3 : Room 3 (callerA.deeper (envOfC "law" (defScope sLaw) s.heap.objs.size f (.ref c))) := hr.mono (by decide)
  obtain ⟨oc, od, kV, doc, pm, an, cdv, ct, osl, efd, lk, hcd⟩ := Kn.FT.ex
  have TL := Kn.TL
  have cl := Kn.cl
  have bT := Kn.bT
  have kpT := Kn.FT.kp
  subst efd
  refine ⟨_, pss_one (ps_if (pt_cmpR op_ne
        (pe_callB (call_reprD gA hr.units) (by rfl) TL.repr (by decide +kernel) (pa_cons (pe_lamcall (T := [(Pt, lamQ)]) (TT := TTq K C CS CP CM) (c := c) (P := Pt) (k := 7) (t := fun E => tMakeN C 2 1 (spReq K C CS CP CM) (fun vs zs => vs ++ zs) E (tCons (tVar 3) (tCons (tVar 4) tNil)) (tCons (tVar 9) tNil)) (by rfl) TL.told kpT lk hcd bT scTo rfl (Or.inl rfl)
          (told_req cl.rc TL.mS TL.mP TL.mM cl.xSS cl.xPS cl.xPP cl.xMS cl.xMP cl.xMM cl.rS cl.rP cl.rM) TB rfl (List.mem_singleton.mpr rfl) (fun p hp _ => by rw [List.mem_singleton.mp hp]; rfl) hr (lamS_by (sc := defScope sLaw) (by decide +kernel)) rfl (fun _ _ _ _ _ => rfl)
          (fun A outer s H E f c' hr3 => pe_makeN (ks := ["modes"]) cl.mkc Kn.GR hr3 (by rfl) TL.req Kn.kb (passes_call (takes_of rfl rfl rfl rfl) fun _ _ _ _ h => h) (pa_cons (pv 3) (pa_cons (pv 4) pa_nil)) (pk_cons (pv 9) pk_nil))) pa_nil))
        (pe_callB (call_reprD gA hr.units) (by rfl) TL.repr (by decide +kernel) (pa_cons (pe_callG Kn.GDu gA hr3 (by rfl) TL.due Kn.FDu.kp Kn.bDu .nil (pa_cons (pv 3) (pa_cons (pv 4) (pa_cons (pv 9) pa_nil)))) pa_nil)) (nomark _)) (pss_one (ps_ret pe_bl)) pss_nil), ?_⟩
  intro D H1 a m l n pS xs ys pP dP pW dW v v2 v5 v6 v7 v8 v10 v11 T hv nx
  obtain ⟨d, dv, gv⟩ := hv
  refine ⟨T.t, fun H2 e2 t2 => ?_⟩
  have T2 := T.ext e2 t2
  refine ttq_of T2.M T2.so T2.d T2.p (T2.gp.mono (Nat.le_refl _) (by decide) (Nat.le_refl _)) (Dq.ext e2 dv) (fun Ec Qc H3 s3 z => ⟨_, rfl, _, rfl, _, rfl, rfl, rfl, z⟩) fun tv H4 s4 dq4 => ?_
  have T4 := T2.same s4
  have e14 := e2.trans (Same.toN s4)
  have sh := dueR_good T.so (spots_good T.so) T.gp gv (by decide) (by decide) (by decide) (by decide)
  refine ⟨tv, _, m, l, rfl, dq4, sh.1, sh.2.1, sh.2.2, ?_⟩
  refine ⟨_, rfl, _, rfl, _, rfl, due_same (E := fun _ _ _ => False) T4.M T4.so T4.s T4.x T4.p T4.gp (Dq.ext e14 dv) gv fun v' H5 s5 dq5 => ?_⟩
  refine ⟨v', _, m, l, rfl, dq5, sh.1, sh.2.1, sh.2.2, rfl, _, rfl, iteNS rfl ?_⟩
  exact nx H5 (e14.trans (Same.toN s5)) (T4.same s5).t
end
end Ms
namespace Ms
open PySem PySem.Spec PyProof.Rows L2 LamX
section
variable {P : Program} {w : World} {K : PySem.W.Frag} {mg : Str → Option Value} {base : Heap} {fN fM fO fB fBg fSe fPc fMd fDu fTo C CS CP CM fR f c Pt : Addr} {fdN fdDu fdTo fdR : FuncData} {dn : Value} {s : Shared} {H0 : Hp} {Eb : XK}
/-! ### the first loop's turn -/
theorem law_first (Kn : Kn P w K mg base fBg fSe fPc fMd fDu fTo C CS CP CM fR fdDu fdTo fdR dn) (T0 : TxtB mg fN fM fO fB) (FN : Fun K "_law_next" "_law_next" sNext fN fdN) (bN : Binds K fdN ["m", "many"] []) (TB : TabB base mg c Pt) (hr : Room 9 (callerA.deeper (envOfC "law" (defScope sLaw) s.heap.objs.size f (.ref c)))) :
    ∃ t, PSs (cxOf CX0 P w K mg base NL "law" (defScope sLaw) f (.ref c) callerA [] s H0 Eb).nox bFirst t ∧ ∀ (D : Ends) (H1 : Hp) (a m l : Addr) (n : Nat) (pS : Addr) (xs : List V) (ys : List (Str × Int)) (pP : Addr) (dP : PyData) (pW : Addr) (dW : PyData) (S : Addr) (ss : List V) (v : V) (v2 v6 v9 v10 v11 : Option V),
      Tn K Pt H1 m l n pS xs ys pP dP pW dW → n < 500000 → Ls K H1 m l S ss → ss.length = 6 → ItD K H1 m l v →
      (∀ (v9 v10 v11 : Option V) (l' : Addr) (H2 H3 : Hp), Fr m l l' H1 H2 → Mch H2 m l' (n + 2) → ExtN H2 H3 → Tabs [(Pt, lamQ)] H3 → D.nx [some (.ref a), some (.ref m), v2, some (.ref pS), some (.ref pP), some (.ref pW), v6, some (.ref S), some v, v9, v10, v11] H3) →
      t D [some (.ref a), some (.ref m), v2, some (.ref pS), some (.ref pP), some (.ref pW), v6, some (.ref S), some v, v9, v10, v11] H1 := by
  have gA : (callerA.deeper (envOfC "law" (defScope sLaw) s.heap.objs.size f (.ref c))).guards = some [] := rfl
  have hr3 : Room 3 (callerA.deeper (envOfC "law" (defScope sLaw) s.heap.objs.size f (.ref c))) := hr.mono (by decide)
  have hr1 : Room 1 (callerA.deeper (envOfC "law" (defScope sLaw) s.heap.objs.size f (.ref c))) := hr.mono (by decide)
  have GN : FnOk P w K mg base CX0 1 fN fdN ["m", "many"] spNext := ok_next FN T0.toTxt
  obtain ⟨oc, od, kV, doc, pm, an, cdv, ct, osl, efd, lk, hcd⟩ := Kn.FT.ex
  have TL := Kn.TL
  have cl := Kn.cl
  have bT := Kn.bT
  have kpT := Kn.FT.kp
  subst efd
  refine ⟨_, pss_cons (ps_set (i := 9) scL.nd rfl (by first | exact Or.inl rfl | exact Or.inr rfl) (pe_ix (show IxR _ (rIxL K) from ix_list) (pe_lst (pa_cons (pv 5) (pa_cons (pe_ix (show IxR _ (rIxL K) from ix_list) (pv 7) (pe_call GN hr1 (by rfl) T0.next FN.kp bN .nil pass0 (pa_cons (pv 1) (pa_cons pe_int pa_nil))) (fun _ _ => rfl)) pa_nil)))
      (pe_call GN hr1 (by rfl) T0.next FN.kp bN .nil pass0 (pa_cons (pv 1) (pa_cons pe_int pa_nil))) (fun _ _ => rfl)))
    (pss_cons (ps_set (i := 10) scL.nd rfl (by first | exact Or.inl rfl | exact Or.inr rfl) (pe_callB (call_reprD gA hr.units) (by rfl) TL.repr (by decide +kernel) (pa_cons (pe_lst (pa_cons (pv 3) (pa_cons (pv 8) (pa_cons (pv 9) pa_nil)))) pa_nil)))
    (pss_cons (ps_set (i := 11) scL.nd rfl (by first | exact Or.inl rfl | exact Or.inr rfl) (pe_lamcall (T := [(Pt, lamQ)]) (TT := TTq K C CS CP CM) (c := c) (P := Pt) (k := 7) (t := fun E => tMake C (spReq K C CS CP CM) [] E (tCons (tVar 3) (tCons (tVar 8) (tCons (tVar 9) tNil)))) (by rfl) TL.told kpT lk hcd bT scTo rfl (Or.inl rfl)
          (told_req cl.rc TL.mS TL.mP TL.mM cl.xSS cl.xPS cl.xPP cl.xMS cl.xMP cl.xMM cl.rS cl.rP cl.rM) TB rfl (List.mem_singleton.mpr rfl) (fun p hp _ => by rw [List.mem_singleton.mp hp]; rfl) hr (lamS_by (sc := defScope sLaw) (by decide +kernel)) rfl (fun _ _ _ _ _ => rfl)
          (fun A outer s H E f c' hr3 => pe_make cl.mkc Kn.GR hr3 (by rfl) TL.req Kn.b4 .nil (passes_call (takes_of rfl rfl rfl rfl) fun _ _ _ _ h => h) (pa_cons (pv 3) (pa_cons (pv 8) (pa_cons (pv 9) pa_nil))))))
    (pss_one (ps_if (PW.pt (pw_or (pt_cmpR op_ne (pe_callB (call_reprD gA hr.units) (by rfl) TL.repr (by decide +kernel) (pa_cons (pv 11) pa_nil))
        (pe_callB (call_reprD gA hr.units) (by rfl) TL.repr (by decide +kernel) (pa_cons (pe_callG Kn.GDu gA hr3 (by rfl) TL.due Kn.FDu.kp Kn.bDu .nil (pa_cons (pv 3) (pa_cons (pv 8) (pa_cons (pv 9) pa_nil)))) pa_nil)) (nomark _))
      (pw_or1 (pt_cmpR op_ne (pe_callB (call_reprD gA hr.units) (by rfl) TL.repr (by decide +kernel) (pa_cons (pe_lst (pa_cons (pv 3) (pa_cons (pv 8) (pa_cons (pv 9) pa_nil)))) pa_nil)) (pv 10) (nomark _))))) (pss_one (ps_ret pe_bl)) pss_nil)))), ?_⟩
  intro D H1 a m l n pS xs ys pP dP pW dW S ss v v2 v6 v9 v10 v11 T hn Lss hss hv nx
  -- second = ..
  refine ⟨_, rfl, _, rfl, _, rfl, m, l, n, 6, rfl, T.M, by omega, by decide, by decide, fun r l2 H2 r0 r6 M2 f2 => ?_⟩
  obtain ⟨j, rfl⟩ : ∃ j : Nat, r = (j : Int) := ⟨r.toNat, by omega⟩
  have hj : j < ss.length := by omega
  have T2 := T.step f2 M2
  have L2' := Lss.step T.M f2
  have hv2 := hv.step (T.M.step f2)
  refine ⟨S, ss, (j : Int), ss[j], rfl, rfl, SqL.of L2'.at_, atI_nat (List.getElem?_eq_getElem hj), (by show 2 ≤ sizeLine; decide), fun p hp => ?_⟩
  have sp : Same H2 (upd H2 p (.lst [.ref pW, ss[j]])) := Same.upd hp
  have np := M2.ne hp
  refine ⟨_, rfl, m, l2, n + 1, 2, rfl, M2.same sp, by omega, by decide, by decide, fun r' l3 H3 r0' r2 M3 f3 => ?_⟩
  have T3 := (T2.same sp).step f3 M3
  have hv3 := (hv2.ext (Same.toN sp)).step ((M2.same sp).step f3)
  have i2 : ItD K H3 m l3 (.ref pW) := ⟨dW, T3.w, T3.gw⟩
  have i3 : ItD K H3 m l3 ss[j] := ((L2'.it _ (List.getElem_mem hj)).ext (Same.toN sp)).step ((M2.same sp).step f3)
  have F13 := (Fr.lead sp f3)
  have F := f2.trans F13
  obtain ⟨y, hy, d2, q2, g2⟩ : ∃ y, atI ([.ref pW, ss[j]] : List V) r' = some y ∧ ItD K H3 m l3 y := by
    obtain ⟨k, rfl⟩ : ∃ k : Nat, r' = (k : Int) := ⟨r'.toNat, by omega⟩
    have hk : k < 2 := by omega
    match k, hk with
    | 0, _ => exact ⟨_, rfl, i2⟩
    | 1, _ => exact ⟨_, rfl, i3⟩
  refine ⟨p, _, r', y, rfl, rfl, SqL.of (f3.keep _ _ upd_same np.1 np.2), hy, ?_⟩
  -- kept = ..
  obtain ⟨d1, q1, g1⟩ := hv3
  have gl : Gd (10 ^ 31) 200000 60 (.list [.tuple (prD ys), d1, d2]) := (Gd.lst ((Gl'.one ((spots_good T.so).mono (Nat.le_refl _) (Nat.le_refl _) (show 2 ≤ 38 by decide))).app ((Gl'.one g1).app (Gl'.one g2)))).mono (Nat.le_refl _) (by decide) (by decide)
  have shl := gl.shown (Nat.le_refl _)
  have dpl := gl.dp
  have lst : ∀ (G : Hp) (p : Addr), Tn K Pt G m l3 (n + 1 + 1) pS xs ys pP dP pW dW → G p = none → Dq K G m l3 v d1 → Dq K G m l3 y d2 → Dq K (upd G p (.lst [.ref pS, v, y])) m l3 (.ref p) (.list [.tuple (prD ys), d1, d2]) := fun G p TG hp z1 z2 => by
    have s' : Same G (upd G p (.lst [.ref pS, v, y])) := Same.upd hp
    have n' := TG.M.ne hp
    exact .lst upd_same n'.1 n'.2 (.cons (TG.same s').d (.cons (Dq.ext (Same.toN s') z1) (.cons (Dq.ext (Same.toN s') z2) .nil)))
  refine ⟨_, rfl, _, rfl, _, rfl, (by show 3 ≤ sizeLine; decide), fun p4 h4 => ?_⟩
  refine ⟨.ref p4, _, m, l3, rfl, lst H3 p4 T3 h4 q1 q2, shl.1, dpl, shl.2, ?_⟩
  have s4 : Same H3 (upd H3 p4 (.lst [.ref pS, v, y])) := Same.upd h4
  have T4 := T3.same s4
  -- told = ..
  refine ⟨T4.t, fun H5 e5 t5 => ?_⟩
  have e35 := (Same.toN s4).trans e5
  have T5 := T4.ext e5 t5
  refine ttq_of T5.M T5.so T5.d (Dq.ext e35 q1) (g1.mono (Nat.le_refl _) (by decide) (Nat.le_refl _)) (Dq.ext e35 q2) (fun Ec Qc H6 s6 z => ⟨_, rfl, _, rfl, _, rfl, z⟩) fun tv H7 s7 dq7 => ?_
  have e37 := e35.trans (Same.toN s7)
  have T7 := T5.same s7
  have sh := dueR_good T.so (spots_good T.so) g1 g2 (by decide) (by decide) (by decide) (by decide)
  refine ⟨_, rfl, tv, _, m, l3, rfl, dq7, sh.1, sh.2.1, sh.2.2, ?_⟩
  refine ⟨_, rfl, _, rfl, _, rfl, due_same (E := fun _ _ _ => False) T7.M T7.so T7.s T7.x (Dq.ext e37 q1) g1 (Dq.ext e37 q2) g2 fun v' H8 s8 dq8 => ?_⟩
  have e38 := e37.trans (Same.toN s8)
  have T8 := T7.same s8
  refine ⟨v', _, m, l3, rfl, dq8, sh.1, sh.2.1, sh.2.2, rfl, _, rfl, iteNS rfl ?_⟩
  refine ⟨_, rfl, _, rfl, _, rfl, (by show 3 ≤ sizeLine; decide), fun p9 h9 => ?_⟩
  have s9 : Same H8 (upd H8 p9 (.lst [.ref pS, v, y])) := Same.upd h9
  refine ⟨.ref p9, _, m, l3, rfl, lst H8 p9 T8 h9 (Dq.ext e38 q1) (Dq.ext e38 q2), shl.1, dpl, shl.2, _, rfl, rfl, _, rfl, iteNS rfl ?_⟩
  exact nx _ _ _ l3 H3 _ F (M3.mono (by omega)) (e38.trans (Same.toN s9)) (T8.same s9).t
end
end Ms
namespace Ms
open PySem PySem.Spec PyProof.Rows L2 LamX
theorem prD_not_int : ∀ (ys qs : List (Str × Int)), prD ys ++ [PyData.int 5] = prD qs → False
  | [], [], h => by cases h
  | [], _ :: _, h => by cases h
  | _ :: _, [], h => by cases h
  | y :: ys, q :: qs, h => by
    have h' : PyData.tuple [.str y.1, .int y.2] :: (prD ys ++ [PyData.int 5]) = .tuple [.str q.1, .int q.2] :: prD qs := h
    exact prD_not_int ys qs (List.cons.inj h').2
theorem five_bad (ys : List (Str × Int)) : needV (.tuple (prD ys ++ [.int 5])) ≠ none := fun h => by
  obtain ⟨qs, e, _⟩ := needV_pr h
  exact prD_not_int ys qs (PyData.tuple.inj e)
/-- no request is made, and that is told -/
theorem ttq_bad {K : PySem.W.Frag} {C CS CP CM m l : Addr} {tl : XK → Hp → VK → Prop} {H2 : Hp} {Q : VK}
    (mk : ∀ (Ec : XK) (Qc : VK) (H3 : Hp), Same H2 H3 → (∀ (H4 : Hp) (v1 v2 v3 : V) (d1 d2 d3 : PyData) (B1 b1 B2 b2 : Nat), Same H3 H4 → Dq K H4 m l v1 d1 → Gd B1 100000 b1 d1 → needV d1 ≠ none → Dq K H4 m l v2 d2 → Gd B2 100000 b2 d2 → Dq K H4 m l v3 d3 →
      ∀ x dx, H4 x = none → H4 dx = none → dx ≠ x → spReq K C CS CP CM [.ref x, v1, v2, v3] (upd (upd H4 dx (.own x)) x (.ins C dx [])) (fun v H2 => v = .non ∧ Qc (.ref x) H2) Ec) → tl Ec H3 Qc)
    (key : ∀ (p : Addr) (u : V) (Hend : Hp), Hend p = some (.tup [.str "settings", u]) → Same H2 Hend → Q (.ref p) Hend) : TTq K C CS CP CM tl H2 Q := by
  intro H3 Ec Qc s3 hS hP hM hQ
  refine mk Ec Qc H3 s3 fun H4 v1 v2 v3 d1 d2 d3 B1 b1 B2 b2 s4 q1 g1 nn q2 g2 q3 x dx hx hdx ne => ?_
  have s0 : Same H4 (upd (upd H4 dx (.own x)) x (.ins C dx [])) := (Same.upd hdx).trans (Same.upd (by rw [upd_ne ne.symm]; exact hx))
  refine ⟨m, l, x, dx, v1, v2, v3, d1, d2, d3, B1, b1, B2, b2, rfl, upd_same, Dq.same s0 _ _ q1, g1, Dq.same s0 _ _ q2, g2, Dq.same s0 _ _ q3, fun u hu e H' _ k hd => hS e u H' hd fun p hp => key p u _ upd_same ?_, fun hn => absurd hn nn⟩
  have xs : Same H4 H' := fun b o e => k b o (ne_of_none e hx) (s0 b o e)
  exact (s3.trans s4).trans (xs.trans (Same.upd hp))
section
variable {P : Program} {w : World} {K : PySem.W.Frag} {mg : Str → Option Value} {base : Heap} {fN fM fO fB fBg fSe fPc fMd fDu fTo C CS CP CM fR f c Pt : Addr} {fdN fdDu fdTo fdR : FuncData} {dn : Value} {s : Shared} {H0 : Hp} {Eb : XK}
theorem law_last (Kn : Kn P w K mg base fBg fSe fPc fMd fDu fTo C CS CP CM fR fdDu fdTo fdR dn) (TB : TabB base mg c Pt) (hr : Room 9 (callerA.deeper (envOfC "law" (defScope sLaw) s.heap.objs.size f (.ref c)))) :
    ∃ t, PSs (cxOf CX0 P w K mg base NL "law" (defScope sLaw) f (.ref c) callerA [] s H0 Eb).nox (bTurn.drop 7) t ∧ ∀ (D : Ends) (H1 : Hp) (a m l : Addr) (n : Nat) (pS : Addr) (xs : List V) (ys : List (Str × Int)) (pP : Addr) (dP : PyData) (pW : Addr) (dW : PyData) (v2 v5 v6 v7 v8 v9 v10 v11 : Option V),
      Tn K Pt H1 m l n pS xs ys pP dP pW dW → (∀ (H2 : Hp), ExtN H1 H2 → Tabs [(Pt, lamQ)] H2 → D.nx [some (.ref a), some (.ref m), v2, some (.ref pS), some (.ref pP), v5, v6, v7, v8, v9, v10, v11] H2) →
      t D [some (.ref a), some (.ref m), v2, some (.ref pS), some (.ref pP), v5, v6, v7, v8, v9, v10, v11] H1 := by
  have gA : (callerA.deeper (envOfC "law" (defScope sLaw) s.heap.objs.size f (.ref c))).guards = some [] := rfl
  have hr3 : Room 3 (callerA.deeper (envOfC "law" (defScope sLaw) s.heap.objs.size f (.ref c))) := hr.mono (by decide)
  obtain ⟨oc, od, kV, doc, pm, an, cdv, ct, osl, efd, lk, hcd⟩ := Kn.FT.ex
  have TL := Kn.TL
  have cl := Kn.cl
  have bT := Kn.bT
  have kpT := Kn.FT.kp
  subst efd
  refine ⟨_, pss_cons (ps_if (pt_cmpR op_ne
        (pe_callB (call_reprD gA hr.units) (by rfl) TL.repr (by decide +kernel) (pa_cons (pe_lamcall (T := [(Pt, lamQ)]) (TT := TTq K C CS CP CM) (c := c) (P := Pt) (k := 7) (t := fun E => tMake C (spReq K C CS CP CM) [V.non] E (tCons (tVar 3) (tCons (tVar 4) tNil))) (by rfl) TL.told kpT lk hcd bT scTo rfl (Or.inl rfl)
          (told_req cl.rc TL.mS TL.mP TL.mM cl.xSS cl.xPS cl.xPP cl.xMS cl.xMP cl.xMM cl.rS cl.rP cl.rM) TB rfl (List.mem_singleton.mpr rfl) (fun p hp _ => by rw [List.mem_singleton.mp hp]; rfl) hr (lamS_by (sc := defScope sLaw) (by decide +kernel)) rfl (fun _ _ _ _ _ => rfl)
          (fun A outer s H E f c' hr3 => pe_make cl.mkc Kn.GR hr3 (by rfl) TL.req Kn.b3 Kn.vd (passes_call (takes_of rfl rfl rfl rfl) fun _ _ _ _ h => h) (pa_cons (pv 3) (pa_cons (pv 4) pa_nil)))) pa_nil))
        (pe_callB (call_reprD gA hr.units) (by rfl) TL.repr (by decide +kernel) (pa_cons (pe_callG Kn.GDu gA hr3 (by rfl) TL.due Kn.FDu.kp Kn.bDu .nil (pa_cons (pv 3) (pa_cons (pv 4) (pa_cons pe_non pa_nil)))) pa_nil)) (nomark _)) (pss_one (ps_ret pe_bl)) pss_nil)
    (pss_one (ps_if (pt_cmpR op_ne (pe_ix (show IxR _ (rIxT K) from ix_tup) (pe_lamcall (T := [(Pt, lamQ)]) (TT := TTq K C CS CP CM) (c := c) (P := Pt) (k := 7) (t := fun E => tMake C (spReq K C CS CP CM) [] E (tCons (tOp (rCatA K) (tVar 3) (tTup (tCons (tC (.int 5)) tNil))) (tCons (tC (.int 5)) (tCons (tC (.int 5)) tNil)))) (by rfl) TL.told kpT lk hcd bT scTo rfl (Or.inl rfl)
          (told_req cl.rc TL.mS TL.mP TL.mM cl.xSS cl.xPS cl.xPP cl.xMS cl.xMP cl.xMM cl.rS cl.rP cl.rM) TB rfl (List.mem_singleton.mpr rfl) (fun p hp _ => by rw [List.mem_singleton.mp hp]; rfl) hr (lamS_by (sc := defScope sLaw) (by decide +kernel)) rfl (fun _ _ _ _ _ => rfl)
          (fun A outer s H E f c' hr3 => pe_make cl.mkc Kn.GR hr3 (by rfl) TL.req Kn.b4 .nil (passes_call (takes_of rfl rfl rfl rfl) fun _ _ _ _ h => h) (pa_cons (pe_op op_catA (pv 3) (pe_tup (pa_cons pe_int pa_nil))) (pa_cons pe_int (pa_cons pe_int pa_nil))))) pe_int (fun _ _ => rfl)) pe_str (nomark _)) (pss_one (ps_ret pe_bl)) pss_nil)), ?_⟩
  intro D H1 a m l n pS xs ys pP dP pW dW v2 v5 v6 v7 v8 v9 v10 v11 T nx
  refine ⟨T.t, fun H2 e2 t2 => ?_⟩
  have T2 := T.ext e2 t2
  refine ttq_of T2.M T2.so T2.d T2.p (T2.gp.mono (Nat.le_refl _) (by decide) (Nat.le_refl _)) (d3 := .none) .non (fun Ec Qc H3 s3 z => ⟨_, rfl, _, rfl, z⟩) fun tv H4 s4 dq4 => ?_
  have T4 := T2.same s4
  have gn : Gd (10 ^ 31) 45000 38 PyData.none := ⟨by decide, by decide, by decide⟩
  have sh := dueR_good T.so (spots_good T.so) T.gp gn (by decide) (by decide) (by decide) (by decide)
  refine ⟨tv, _, m, l, rfl, dq4, sh.1, sh.2.1, sh.2.2, ?_⟩
  refine ⟨_, rfl, _, rfl, due_same (E := fun _ _ _ => False) T4.M T4.so T4.s T4.x T4.p T4.gp (d3 := .none) .non gn fun v' H5 s5 dq5 => ?_⟩
  refine ⟨v', _, m, l, rfl, dq5, sh.1, sh.2.1, sh.2.2, rfl, _, rfl, iteNS rfl ?_⟩
  have T5 := T4.same s5
  have e15 := e2.trans (Same.toN (s4.trans s5))
  refine ⟨T5.t, fun H6 e6 t6 => ?_⟩
  have T6 := T5.ext e6 t6
  have e16 := e15.trans e6
  refine ttq_bad (m := m) (l := l) (fun Ec Qc H7 s7 z => ?_) fun p u Hend hp sE => ?_
  · have T7 := T6.same s7
    have lx : xs.length ≤ 3 := by
      have h1 := T7.x.len
      have h2 := prD_len ys
      have h3 := T7.so.len3
      omega
    refine ⟨_, rfl, (by show 1 ≤ sizeLine; decide), fun p8 h8 => catA_any (Same.seqT (Same.upd h8) T7.s) (.inl (.inl upd_same)) (Nat.le_of_lt (small1000 (by simp; omega))) fun p9 H9 s9 c9 => ?_⟩
    have s79 := (Same.upd (o := .tup [.int 5]) h8).trans s9
    have T9 := T7.same s79
    have g9 : Gd (10 ^ 31) 800 2 (.tuple (prD ys ++ [.int 5])) := by
      obtain ⟨cc, ec, g⟩ := Gd.untup (spots_good T.so)
      have ec' : cc = 1 := by omega
      subst ec'
      exact (Gd.tup (g.app (Gl'.one ((Gd.int (i := 5) (B := 10 ^ 31) (by decide) (Nat.le_refl _)).mono (Nat.le_refl _) (Nat.le_refl _) (show 0 ≤ 1 by decide))))).mono (Nat.le_refl _) (by decide) (Nat.le_refl _)
    exact z H9 _ _ _ _ (.int 5) (.int 5) _ 2 (10 ^ 31) 0 s79 (.tup c9 (T9.x.app (.cons (.int 5) .nil))) (g9.mono (Nat.le_refl _) (by decide) (Nat.le_refl _)) (five_bad ys) (.int 5) ((Gd.int (i := 5) (B := 10 ^ 31) (by decide) (Nat.le_refl _)).mono (Nat.le_refl _) (by decide) (Nat.le_refl _)) (.int 5)
  · refine ⟨p, _, 0, .str "settings", rfl, rfl, .inl (.inl hp), rfl, rfl, _, rfl, iteNS rfl ?_⟩
    exact nx Hend (e16.trans (Same.toN sE)) (T6.same sE).t
end
end Ms
namespace Ms
open PySem PySem.Spec PyProof.Rows L2 LamX
section
variable {P : Program} {w : World} {K : PySem.W.Frag} {mg : Str → Option Value} {base : Heap} {fN fM fO fB fBg fSe fPc fMd fDu fTo C CS CP CM fR f c Pt : Addr} {fdN fdDu fdTo fdR : FuncData} {dn : Value} {s : Shared} {H0 : Hp} {Eb : XK}
theorem law_loops (Kn : Kn P w K mg base fBg fSe fPc fMd fDu fTo C CS CP CM fR fdDu fdTo fdR dn) (T0 : TxtB mg fN fM fO fB) (FN : Fun K "_law_next" "_law_next" sNext fN fdN) (bN : Binds K fdN ["m", "many"] []) (TB : TabB base mg c Pt) (hr : Room 9 (callerA.deeper (envOfC "law" (defScope sLaw) s.heap.objs.size f (.ref c)))) :
    ∃ t, PSs (cxOf CX0 P w K mg base NL "law" (defScope sLaw) f (.ref c) callerA [] s H0 Eb).nox (bTurn.drop 5) t ∧ ∀ (D : Ends) (H1 : Hp) (a m l : Addr) (n : Nat) (pS : Addr) (xs : List V) (ys : List (Str × Int)) (pP : Addr) (dP : PyData) (pW : Addr) (dW : PyData) (F : Addr) (fs : List V) (S : Addr) (ss : List V) (v2 v8 v9 v10 v11 : Option V),
      Tn K Pt H1 m l n pS xs ys pP dP pW dW → n < 400000 → Ls K H1 m l F fs → fs.length = 7 → Ls K H1 m l S ss → ss.length = 6 →
      (∀ (v8 v9 v10 v11 : Option V) (l' : Addr) (H2 : Hp), Mch H2 m l' (n + 14) → Tabs [(Pt, lamQ)] H2 → D.nx [some (.ref a), some (.ref m), v2, some (.ref pS), some (.ref pP), some (.ref pW), some (.ref F), some (.ref S), v8, v9, v10, v11] H2) →
      t D [some (.ref a), some (.ref m), v2, some (.ref pS), some (.ref pP), some (.ref pW), some (.ref F), some (.ref S), v8, v9, v10, v11] H1 := by
  obtain ⟨t1, d1, z1⟩ := law_first (H0 := H0) (s := s) (f := f) (c := c) (Pt := Pt) (Eb := Eb) Kn T0 FN bN TB hr
  obtain ⟨t2, d2, z2⟩ := law_second (H0 := H0) (s := s) (f := f) (c := c) (Pt := Pt) (Eb := Eb) Kn TB hr
  obtain ⟨t3, d3, z3⟩ := law_last (H0 := H0) (s := s) (f := f) (c := c) (Pt := Pt) (Eb := Eb) Kn TB hr
  refine ⟨_, pss_cons (ps_for PassesOwn.never rfl (pi_list (pv 6)) (pg_name (i := 8) scL.nd rfl (by first | exact Or.inl rfl | exact Or.inr rfl)) d1)
    (pss_cons (ps_for PassesOwn.never rfl (pi_list (pv 7)) (pg_name (i := 9) scL.nd rfl (by first | exact Or.inl rfl | exact Or.inr rfl)) d2) d3), ?_⟩
  intro D H1 a m l n pS xs ys pP dP pW dW F fs S ss v2 v8 v9 v10 v11 T hn LF hF LS hS nx
  refine ⟨_, rfl, F, rfl, ⟨_, SqL.of LF.at_⟩, for_list (K := K) (a := F) (xs := fs) (fun i σ H7 => ∃ (v8 v9 v10 v11 : Option V) (l' : Addr), σ = [some (.ref a), some (.ref m), v2, some (.ref pS), some (.ref pP), some (.ref pW), some (.ref F), some (.ref S), v8, v9, v10, v11] ∧ Tn K Pt H7 m l' (n + 2 * i) pS xs ys pP dP pW dW ∧ Ls K H7 m l' F fs ∧ Ls K H7 m l' S ss)
    ⟨_, _, _, _, l, rfl, T, LF, LS⟩ (fun i σ H7 _ ⟨_, _, _, _, _, _, _, L7, _⟩ => SqL.of L7.at_) ?_ ?_⟩
  · rintro i x σ H7 hi ⟨v8, v9, v10, v11, l7, rfl, T7, LF7, LS7⟩
    have hx := List.mem_of_getElem? hi
    have hi7 : i < fs.length := (List.getElem?_eq_some_iff.mp hi).1
    exact z1 _ H7 a m l7 (n + 2 * i) pS xs ys pP dP pW dW S ss x v2 _ _ _ _ T7 (by omega) LS7 hS (LF7.it x hx) fun v9 v10 v11 l' H2 H3 f M2 e t3 =>
      ⟨_, v9, v10, v11, l', rfl, ((T7.step f M2).ext e t3).mono (by omega), (LF7.step T7.M f).ext e, (LS7.step T7.M f).ext e⟩
  · rintro σ H7 ⟨v8, v9, v10, v11, l7, rfl, T7, LF7, LS7⟩
    refine ⟨_, rfl, S, rfl, ⟨_, SqL.of LS7.at_⟩, for_list (K := K) (a := S) (xs := ss) (fun i σ H8 => ∃ (v9 : Option V), σ = [some (.ref a), some (.ref m), v2, some (.ref pS), some (.ref pP), some (.ref pW), some (.ref F), some (.ref S), v8, v9, v10, v11] ∧ ExtN H7 H8 ∧ Tabs [(Pt, lamQ)] H8)
      ⟨_, rfl, ExtN.refl H7, T7.t⟩ (fun i σ H8 _ ⟨_, _, e8, _⟩ => SqL.of (e8 _ _ LS7.at_ fun _ z => nomatch z)) ?_ ?_⟩
    · rintro i x σ H8 hi ⟨v9, rfl, e8, t8⟩
      have hx := List.mem_of_getElem? hi
      exact z2 _ H8 a m l7 _ pS xs ys pP dP pW dW x v2 _ _ _ _ _ _ (T7.ext e8 t8) ((LS7.it x hx).ext e8) fun H9 e9 t9 => ⟨_, rfl, e8.trans e9, t9⟩
    · rintro σ H8 ⟨v9, rfl, e8, t8⟩
      exact z3 _ H8 a m l7 _ pS xs ys pP dP pW dW v2 _ _ _ _ _ _ _ (T7.ext e8 t8) fun H9 e9 t9 => nx _ _ _ _ l7 H9 ((Mch.ext (e8.trans e9) T7.M).mono (by omega)) t9
end
end Ms
namespace Ms
open PySem PySem.Spec PyProof.Rows L2 LamX
theorem bent_call {K : PySem.W.Frag} {H : Hp} {m l : Addr} {n B a b : Nat} {v : V} {d : PyData} {Q : VK} (M : Mch H m l n) (hn : n < 600000) (dq : Dq K H m l v d) (gd : Gd B a b d) (hB : big ≤ B) (hB2 : B + 100 ≤ 10 ^ 31) (ha : a ≤ 50000) (hb : b ≤ 5)
    (q : ∀ (v' : V) (d' : PyData) (l' : Addr) (H' : Hp), Dq K H' m l' v' d' → Gd (B + 100) (2 * a + 200) (b + 2) d' → Mch H' m l' (n + 48) → Fr m l l' H H' → Q v' H') : spBent K 6 [.ref m, v] H Q E0 :=
  ⟨m, l, n, v, d, B, a, b, rfl, M, (by show n + 8 * 6 < 700000; omega), dq, gd, hB, hB2, ha, Nat.le_trans gd.dp hb, q⟩
theorem Dq.untup {K : PySem.W.Frag} {H : Hp} {m l a : Addr} {ds : List PyData} (h : Dq K H m l (.ref a) (.tuple ds)) : ∃ xs, SqT K H a xs ∧ DqAll K H m l xs ds := by
  cases h with
  | tup e t => exact ⟨_, e, t⟩
theorem cut_good {K : PySem.W.Frag} {H : Hp} {m l : Addr} {xs : List V} {ds : List PyData} {B a b : Nat} (lo hi : Option Int) (h : DqAll K H m l xs ds) (g : Gd B a b (.tuple ds)) : ∃ ds', DqAll K H m l (cutV xs lo hi) ds' ∧ Gd B a b (.tuple ds') := by
  obtain ⟨c, rfl, g'⟩ := Gd.untup g
  have g := g'
  refine ⟨_, (h.drop _).take _, Gd.tup (((g'.dr _).tk _).mono (Nat.le_refl _) ?_ (Nat.le_refl _))⟩
  have h1 := wA_split ds (HT.sIx xs.length 0 lo)
  have h2 := wA_split (ds.drop (HT.sIx xs.length 0 lo)) (HT.sIx xs.length xs.length hi - HT.sIx xs.length 0 lo)
  have h3 := g'.wt
  omega
/-- drawn words -/
def wdD (zs : List Str) : PyData := .tuple (zs.map PyData.str)
theorem wd_good : ∀ zs : List Str, (∀ z ∈ zs, z ∈ (["live", "met", "begin"] : List Str)) → Gl' big (17 * zs.length) 0 (zs.map PyData.str)
  | [], _ => ⟨(fun d h => nomatch h), Nat.le_refl _, (fun d h => nomatch h)⟩
  | z :: zs, h => by
    have g1 : Gd big 16 0 (.str z) := by
      have := h z (List.mem_cons_self ..)
      simp only [List.mem_cons, List.mem_nil_iff, or_false] at this
      rcases this with rfl | rfl | rfl <;> exact Gd.str ⟨by decide, by decide⟩
    exact ((Gl'.one g1).app (wd_good zs fun x hx => h x (List.mem_cons_of_mem _ hx))).mono (Nat.le_refl _) (by simp only [List.length_cons]; omega) (Nat.le_refl _)
theorem rep_dq {K : PySem.W.Frag} {H : Hp} {m l : Addr} {v : V} {d : PyData} (h : Dq K H m l v d) : ∀ k : Nat, DqAll K H m l (List.replicate k [v]).flatten (List.replicate k d)
  | 0 => .nil
  | k + 1 => by
    rw [List.replicate_succ, List.flatten_cons, List.replicate_succ]
    exact .cons h (rep_dq h k)
theorem ends_good : Gd big 8000 3 (.tuple (List.replicate 17 (.tuple [.str "end"]))) := ⟨by decide, by decide, by decide⟩
section
variable {P : Program} {w : World} {K : PySem.W.Frag} {mg : Str → Option Value} {base : Heap} {fN fM fO fB f c Pt : Addr} {fdN fdB fdO : FuncData} {s : Shared} {H0 : Hp} {Eb : XK}
/-! ### seconds = [..], and what follows -/
theorem law_seconds {tT : TS} (T0 : TxtB mg fN fM fO fB) (FB : Fun K "_law_bent" "_law_bent" sBent fB fdB) (bB : Binds K fdB ["m", "thing"] []) (GB : FnOk P w K mg base CX0 8 fB fdB ["m", "thing"] (spBent K 6))
    (FO : Fun K "_law_odd" "_law_odd" sOdd fO fdO) (bO : Binds K fdO ["m"] []) (GO : FnOk P w K mg base CX0 2 fO fdO ["m"] (spOdd K))
    (hr : Room 9 (callerA.deeper (envOfC "law" (defScope sLaw) s.heap.objs.size f (.ref c))))
    (dT : PSs (cxOf CX0 P w K mg base NL "law" (defScope sLaw) f (.ref c) callerA [] s H0 Eb).nox (bTurn.drop 5) tT)
    (zT : ∀ (D : Ends) (H1 : Hp) (a m l : Addr) (n : Nat) (pS : Addr) (xs : List V) (ys : List (Str × Int)) (pP : Addr) (dP : PyData) (pW : Addr) (dW : PyData) (F : Addr) (fs : List V) (S : Addr) (ss : List V) (v2 v8 v9 v10 v11 : Option V),
      Tn K Pt H1 m l n pS xs ys pP dP pW dW → n < 400000 → Ls K H1 m l F fs → fs.length = 7 → Ls K H1 m l S ss → ss.length = 6 →
      (∀ (v8 v9 v10 v11 : Option V) (l' : Addr) (H2 : Hp), Mch H2 m l' (n + 14) → Tabs [(Pt, lamQ)] H2 → D.nx [some (.ref a), some (.ref m), v2, some (.ref pS), some (.ref pP), some (.ref pW), some (.ref F), some (.ref S), v8, v9, v10, v11] H2) →
      tT D [some (.ref a), some (.ref m), v2, some (.ref pS), some (.ref pP), some (.ref pW), some (.ref F), some (.ref S), v8, v9, v10, v11] H1) :
    ∃ t, PSs (cxOf CX0 P w K mg base NL "law" (defScope sLaw) f (.ref c) callerA [] s H0 Eb).nox (bTurn.drop 4) t ∧ ∀ (D : Ends) (H1 : Hp) (a m l : Addr) (n : Nat) (pS : Addr) (xs : List V) (ys : List (Str × Int)) (pP : Addr) (dP : PyData) (pW : Addr) (zs : List Str) (F : Addr) (fs : List V) (v2 v7 v8 v9 v10 v11 : Option V),
      Tn K Pt H1 m l n pS xs ys pP dP pW (wdD zs) → n < 300000 → (∀ z ∈ zs, z ∈ (["live", "met", "begin"] : List Str)) → zs.length ≤ 3 → Ls K H1 m l F fs → fs.length = 7 →
      (∀ (v7 v8 v9 v10 v11 : Option V) (l' : Addr) (H2 : Hp), Mch H2 m l' (n + 70) → Tabs [(Pt, lamQ)] H2 → D.nx [some (.ref a), some (.ref m), v2, some (.ref pS), some (.ref pP), some (.ref pW), some (.ref F), v7, v8, v9, v10, v11] H2) →
      t D [some (.ref a), some (.ref m), v2, some (.ref pS), some (.ref pP), some (.ref pW), some (.ref F), v7, v8, v9, v10, v11] H1 := by
  have hr8 : Room 8 (callerA.deeper (envOfC "law" (defScope sLaw) s.heap.objs.size f (.ref c))) := hr.mono (by decide)
  have hr2 : Room 2 (callerA.deeper (envOfC "law" (defScope sLaw) s.heap.objs.size f (.ref c))) := hr.mono (by decide)
  refine ⟨_, pss_cons (ps_set (i := 7) scL.nd rfl (by first | exact Or.inl rfl | exact Or.inr rfl) (pe_lst (pa_cons (pv 5) (pa_cons (pe_call GB hr8 (by rfl) T0.bent FB.kp bB .nil pass0 (pa_cons (pv 1) (pa_cons (pv 5) pa_nil)))
    (pa_cons (pe_op op_catA (pv 5) (pe_tup (pa_cons pe_str pa_nil))) (pa_cons (pe_slice sl_tupA (pv 5) (po_some pe_int) po_none) (pa_cons pe_non (pa_cons (pe_call GO hr2 (by rfl) T0.odd FO.kp bO .nil pass0 (pa_cons (pv 1) pa_nil)) pa_nil)))))))) dT, ?_⟩
  intro D H1 a m l n pS xs ys pP dP pW zs F fs v2 v7 v8 v9 v10 v11 T hn hz lz LF hF nx
  have gz : Gd big 60 1 (wdD zs) := (Gd.tup (wd_good zs hz)).mono (Nat.le_refl _) (by omega) (Nat.le_refl _)
  refine ⟨_, rfl, _, rfl, _, rfl, bent_call T.M (by omega) T.w gz (Nat.le_refl _) (by decide) (by decide) (by decide) fun y1 e1 l1 H2 q1 k1 M1 f1 => ?_⟩
  have T1 := T.step f1 M1
  have i1 := q1.toIt k1 (by decide) (by decide) (by decide)
  obtain ⟨ws, hw, dw⟩ := Dq.untup T1.w
  have lw : ws.length ≤ 3 := by have := dw.len; rw [List.length_map] at this; omega
  refine ⟨_, rfl, (by show 1 ≤ sizeLine; decide), fun p2 h2 => catA_any (Same.seqT (Same.upd h2) hw) (.inl (.inl upd_same)) (Nat.le_of_lt (small1000 (by simp; omega))) fun p3 H3 s3 c3 => ?_⟩
  have s13 := (Same.upd (o := .tup [.str "met"]) h2).trans s3
  have T3 := T1.same s13
  have i3 : ItD K H3 m l1 (.ref p3) := by
    have g3 : Gd big 80 1 (.tuple (zs.map PyData.str ++ [.str "met"])) := (Gd.tup ((wd_good zs hz).app (Gl'.one (Gd.str (a := 16) ⟨by decide, by decide⟩)))).mono (Nat.le_refl _) (by omega) (Nat.le_refl _)
    exact Dq.toIt (.tup c3 ((DqAll.same' s13 dw).app (.cons (.str _) .nil))) g3 (by decide) (by decide) (by decide)
  refine ⟨_, rfl, _, rfl, noPart (slA_any (Same.seqT s13 hw) fun p4 H4 s4 c4 => ?_)⟩
  have T4 := T3.same s4
  have i4 : ItD K H4 m l1 (.ref p4) := by
    obtain ⟨ds', h1, h2⟩ := cut_good (some 1) none (DqAll.same' (s13.trans s4) dw) gz
    exact Dq.toIt (.tup c4 h1) h2 (by decide) (by decide) (by decide)
  refine ⟨_, rfl, m, l1, n + 48, rfl, T4.M, by omega, fun y5 e5 l5 H5 q5 k5 M5 f5 => ?_⟩
  have k45 := T4.M.step f5
  have T5 := T4.step f5 M5
  have i5 := q5.toIt k5 (by decide) (by decide) (by decide)
  refine ⟨(by show 6 ≤ sizeLine; decide), fun S hS => ?_⟩
  have nS := M5.ne hS
  have sS : Same H5 (upd H5 S (.lst [.ref pW, y1, .ref p3, .ref p4, .non, y5])) := Same.upd hS
  have LF5 : Ls K H5 m l5 F fs := ((LF.step T.M f1).ext (Same.toN (s13.trans s4))).step T4.M f5
  have nFS : F ≠ S := ne_of_none LF5.at_ hS
  refine zT D _ a m l5 (n + 48 + 1) pS xs ys pP dP pW (wdD zs) F fs S _ v2 _ _ _ _ (T5.same sS) (by omega) (LF5.ext (Same.toN sS)) hF ⟨upd_same, nS.2, fun x hx => ?_⟩ rfl fun v8 v9 v10 v11 l' H2' M' t' => nx _ v8 v9 v10 v11 l' H2' (M'.mono (by omega)) t'
  simp only [List.mem_cons, List.mem_nil_iff, or_false] at hx
  rcases hx with rfl | rfl | rfl | rfl | rfl | rfl
  · exact (Dq.toIt T5.w gz (by decide) (by decide) (by decide)).ext (Same.toN sS)
  · exact ((i1.ext (Same.toN (s13.trans s4))).step k45).ext (Same.toN sS)
  · exact ((i3.ext (Same.toN s4)).step k45).ext (Same.toN sS)
  · exact (i4.step k45).ext (Same.toN sS)
  · exact Dq.toIt (d := .none) (B := big) (a := 10) (b := 0) .non ⟨by decide, by decide, by decide⟩ (by decide) (by decide) (by decide)
  · exact i5.ext (Same.toN sS)
end
end Ms
namespace Ms
open PySem PySem.Spec PyProof.Rows L2 LamX
section
variable {P : Program} {w : World} {K : PySem.W.Frag} {mg : Str → Option Value} {base : Heap} {fN fM fO fB f c Pt : Addr} {fdN fdB fdO : FuncData} {s : Shared} {H0 : Hp} {Eb : XK}
/-! ### firsts.append(..), and what follows -/
theorem law_app {tT : TS} (T0 : TxtB mg fN fM fO fB) (FB : Fun K "_law_bent" "_law_bent" sBent fB fdB) (bB : Binds K fdB ["m", "thing"] []) (GB : FnOk P w K mg base CX0 8 fB fdB ["m", "thing"] (spBent K 6))
    (hr : Room 9 (callerA.deeper (envOfC "law" (defScope sLaw) s.heap.objs.size f (.ref c))))
    (dT : PSs (cxOf CX0 P w K mg base NL "law" (defScope sLaw) f (.ref c) callerA [] s H0 Eb).nox (bTurn.drop 4) tT)
    (zT : ∀ (D : Ends) (H1 : Hp) (a m l : Addr) (n : Nat) (pS : Addr) (xs : List V) (ys : List (Str × Int)) (pP : Addr) (dP : PyData) (pW : Addr) (zs : List Str) (F : Addr) (fs : List V) (v2 v7 v8 v9 v10 v11 : Option V),
      Tn K Pt H1 m l n pS xs ys pP dP pW (wdD zs) → n < 300000 → (∀ z ∈ zs, z ∈ (["live", "met", "begin"] : List Str)) → zs.length ≤ 3 → Ls K H1 m l F fs → fs.length = 7 →
      (∀ (v7 v8 v9 v10 v11 : Option V) (l' : Addr) (H2 : Hp), Mch H2 m l' (n + 70) → Tabs [(Pt, lamQ)] H2 → D.nx [some (.ref a), some (.ref m), v2, some (.ref pS), some (.ref pP), some (.ref pW), some (.ref F), v7, v8, v9, v10, v11] H2) →
      tT D [some (.ref a), some (.ref m), v2, some (.ref pS), some (.ref pP), some (.ref pW), some (.ref F), v7, v8, v9, v10, v11] H1) :
    ∃ t, PSs (cxOf CX0 P w K mg base NL "law" (defScope sLaw) f (.ref c) callerA [] s H0 Eb).nox (bTurn.drop 3) t ∧ ∀ (D : Ends) (Hb : Hp) (a m l : Addr) (n : Nat) (pS : Addr) (xs : List V) (ys : List (Str × Int)) (pP : Addr) (dP : PyData) (pW : Addr) (zs : List Str) (F : Addr) (x0 x1 : V) (d1 : PyData) (fr : List V) (v2 v7 v8 v9 v10 v11 : Option V),
      Tn K Pt Hb m l n pS xs ys pP dP pW (wdD zs) → n < 200000 → (∀ z ∈ zs, z ∈ (["live", "met", "begin"] : List Str)) → zs.length ≤ 3 → Hb F = none → (∀ x ∈ (x0 :: x1 :: fr), ItD K Hb m l x) → Dq K Hb m l x1 d1 → Gd (big + 100) 15200 5 d1 → fr.length = 4 →
      (∀ (v7 v8 v9 v10 v11 : Option V) (l' : Addr) (H2 : Hp), Mch H2 m l' (n + 120) → Tabs [(Pt, lamQ)] H2 → D.nx [some (.ref a), some (.ref m), v2, some (.ref pS), some (.ref pP), some (.ref pW), some (.ref F), v7, v8, v9, v10, v11] H2) →
      t D [some (.ref a), some (.ref m), v2, some (.ref pS), some (.ref pP), some (.ref pW), some (.ref F), v7, v8, v9, v10, v11] (upd Hb F (.lst (x0 :: x1 :: fr))) := by
  have hr8 : Room 8 (callerA.deeper (envOfC "law" (defScope sLaw) s.heap.objs.size f (.ref c))) := hr.mono (by decide)
  refine ⟨_, pss_cons (ps_expr (pe_bm PySem.F.plainAttrs_list PySem.F.slot_list_append PySem.F.type_list_append mt_append (pv 6) (pa_cons (pe_lock (pe_call GB hr8 (by rfl) T0.bent FB.kp bB .nil pass0 (pa_cons (pv 1) (pa_cons (pe_ix ix_list (pv 6) pe_int (fun _ _ => rfl)) pa_nil)))) pa_nil))) dT, ?_⟩
  intro D Hb a m l n pS xs ys pP dP pW zs F x0 x1 d1 fr v2 v7 v8 v9 v10 v11 T hn hz lz hF items q1 g1 lf nx
  have nF := T.M.ne hF
  refine ⟨_, rfl, .inl ⟨rfl, _, SqL.of upd_same⟩, ?_⟩
  refine ⟨F, .lst (x0 :: x1 :: fr), upd_same, trivial, fun od => ?_⟩
  rw [upd_upd]
  have sl : Same Hb (upd Hb F (.frz od (.lst (x0 :: x1 :: fr)))) := Same.upd hF
  refine ⟨_, rfl, _, rfl, F, _, 1, x1, rfl, rfl, .inl (.inr ⟨od, upd_same⟩), atI_nat (j := 1) rfl, ?_⟩
  refine bent_call (T.M.same sl) (by omega) (Dq.same sl d1 x1 q1) g1 (by decide) (by decide) (by decide) (by decide) fun y d2 l2 H5 q2 g2 M5 f5 => ?_
  have g5 : H5 F = some (.frz od (.lst (x0 :: x1 :: fr))) := f5.keep F _ upd_same nF.1 nF.2
  refine ⟨g5, F, _, _, rfl, rfl, upd_same, ?_, ?_⟩
  · exact small1000 (by simp only [List.length_cons]; omega)
  rw [upd_upd]
  have T5 := (T.same sl).step f5 M5
  have k5 := (T.M.same sl).step f5
  have u6 : ∀ {v : V} {d : PyData}, Dq K H5 m l2 v d → Dq K (upd H5 F (.lst ((x0 :: x1 :: fr) ++ [y]))) m l2 v d := fun h => Dq.unlock g5 h
  have T6 : Tn K Pt (upd H5 F (.lst ((x0 :: x1 :: fr) ++ [y]))) m l2 (n + 48) pS xs ys pP dP pW (wdD zs) := by
    obtain ⟨xs', h1, h2⟩ := Dq.untup (u6 T5.d)
    have s6 : SqT K (upd H5 F (.lst ((x0 :: x1 :: fr) ++ [y]))) pS xs := by
      rcases T5.s with (q | ⟨o', q⟩) | q
      · exact .inl (.inl (upd_frz g5 (fun _ _ z => nomatch z) q))
      · have q' : H5 pS = some (.frz o' (.tup xs)) := q
        have nb : pS ≠ F := fun z => by
          rw [z, g5] at q'
          cases q'
        have q2 : upd H5 F (.lst ((x0 :: x1 :: fr) ++ [y])) pS = some (.frz o' (.tup xs)) := by rw [upd_ne nb]; exact q'
        exact .inl (.inr ⟨o', q2⟩)
      · exact .inr q
    have x6 : DqAll K (upd H5 F (.lst ((x0 :: x1 :: fr) ++ [y]))) m l2 xs (prD ys) := by
      refine DqAll.gen (fun a xs q n1 n2 => ⟨upd_frz g5 (fun _ _ z => nomatch z) q, n1, n2⟩) (fun a xs q => ?_) (fun a q n1 n2 => ⟨upd_frz g5 (fun _ _ z => nomatch z) q, n1, n2⟩) _ _ T5.x
      rcases q with (q | ⟨o', q⟩) | q
      · exact .inl (.inl (upd_frz g5 (fun _ _ z => nomatch z) q))
      · have q' : H5 a = some (.frz o' (.tup xs)) := q
        have nb : a ≠ F := fun z => by
          rw [z, g5] at q'
          cases q'
        have q2 : upd H5 F (.lst ((x0 :: x1 :: fr) ++ [y])) a = some (.frz o' (.tup xs)) := by rw [upd_ne nb]; exact q'
        exact .inl (.inr ⟨o', q2⟩)
      · exact .inr q
    exact ⟨Mch.unlock g5 T5.M, Tabs.unlock g5 T5.t, T5.so, s6, x6, u6 T5.p, T5.gp, u6 T5.w, T5.gw⟩
  have nF6 : F ≠ l2 := k5.ne _ _ upd_same nF.2
  refine zT D _ a m l2 (n + 48) pS xs ys pP dP pW zs F _ v2 _ _ _ _ _ T6 (by omega) hz lz ⟨upd_same, nF6, fun x hx => ?_⟩ (by simp [lf]) fun v7 v8 v9 v10 v11 l' H2' M' t' => nx v7 v8 v9 v10 v11 l' H2' (M'.mono (by omega)) t'
  rcases List.mem_append.mp hx with hx | hx
  · obtain ⟨d, h1, h2⟩ := ((items x hx).ext (Same.toN sl)).step k5
    exact ⟨d, u6 h1, h2⟩
  · rw [List.mem_singleton.mp hx]
    exact (u6 q2).toIt g2 (by decide) (by decide) (by decide)
/-! ### firsts = [..], and what follows -/
theorem law_firsts {tT : TS} (T0 : TxtB mg fN fM fO fB) (FB : Fun K "_law_bent" "_law_bent" sBent fB fdB) (bB : Binds K fdB ["m", "thing"] []) (GB : FnOk P w K mg base CX0 8 fB fdB ["m", "thing"] (spBent K 6))
    (FO : Fun K "_law_odd" "_law_odd" sOdd fO fdO) (bO : Binds K fdO ["m"] []) (GO : FnOk P w K mg base CX0 2 fO fdO ["m"] (spOdd K))
    (hr : Room 9 (callerA.deeper (envOfC "law" (defScope sLaw) s.heap.objs.size f (.ref c))))
    (dT : PSs (cxOf CX0 P w K mg base NL "law" (defScope sLaw) f (.ref c) callerA [] s H0 Eb).nox (bTurn.drop 3) tT)
    (zT : ∀ (D : Ends) (Hb : Hp) (a m l : Addr) (n : Nat) (pS : Addr) (xs : List V) (ys : List (Str × Int)) (pP : Addr) (dP : PyData) (pW : Addr) (zs : List Str) (F : Addr) (x0 x1 : V) (d1 : PyData) (fr : List V) (v2 v7 v8 v9 v10 v11 : Option V),
      Tn K Pt Hb m l n pS xs ys pP dP pW (wdD zs) → n < 200000 → (∀ z ∈ zs, z ∈ (["live", "met", "begin"] : List Str)) → zs.length ≤ 3 → Hb F = none → (∀ x ∈ (x0 :: x1 :: fr), ItD K Hb m l x) → Dq K Hb m l x1 d1 → Gd (big + 100) 15200 5 d1 → fr.length = 4 →
      (∀ (v7 v8 v9 v10 v11 : Option V) (l' : Addr) (H2 : Hp), Mch H2 m l' (n + 120) → Tabs [(Pt, lamQ)] H2 → D.nx [some (.ref a), some (.ref m), v2, some (.ref pS), some (.ref pP), some (.ref pW), some (.ref F), v7, v8, v9, v10, v11] H2) →
      tT D [some (.ref a), some (.ref m), v2, some (.ref pS), some (.ref pP), some (.ref pW), some (.ref F), v7, v8, v9, v10, v11] (upd Hb F (.lst (x0 :: x1 :: fr)))) :
    ∃ t, PSs (cxOf CX0 P w K mg base NL "law" (defScope sLaw) f (.ref c) callerA [] s H0 Eb).nox (bTurn.drop 2) t ∧ ∀ (D : Ends) (H1 : Hp) (a m l : Addr) (n : Nat) (pS : Addr) (xs : List V) (ys : List (Str × Int)) (pP : Addr) (dps : List PyData) (pW : Addr) (zs : List Str) (v2 v6 v7 v8 v9 v10 v11 : Option V),
      Tn K Pt H1 m l n pS xs ys pP (.tuple dps) pW (wdD zs) → n < 100000 → Gd big 7500 3 (.tuple dps) → dps.length ≤ 16 → (∀ z ∈ zs, z ∈ (["live", "met", "begin"] : List Str)) → zs.length ≤ 3 →
      (∀ (v6 v7 v8 v9 v10 v11 : Option V) (l' : Addr) (H2 : Hp), Mch H2 m l' (n + 220) → Tabs [(Pt, lamQ)] H2 → D.nx [some (.ref a), some (.ref m), v2, some (.ref pS), some (.ref pP), some (.ref pW), v6, v7, v8, v9, v10, v11] H2) →
      t D [some (.ref a), some (.ref m), v2, some (.ref pS), some (.ref pP), some (.ref pW), v6, v7, v8, v9, v10, v11] H1 := by
  have hr8 : Room 8 (callerA.deeper (envOfC "law" (defScope sLaw) s.heap.objs.size f (.ref c))) := hr.mono (by decide)
  have hr2 : Room 2 (callerA.deeper (envOfC "law" (defScope sLaw) s.heap.objs.size f (.ref c))) := hr.mono (by decide)
  refine ⟨_, pss_cons (ps_set (i := 6) scL.nd rfl (by first | exact Or.inl rfl | exact Or.inr rfl) (pe_lst (pa_cons (pv 4) (pa_cons (pe_call GB hr8 (by rfl) T0.bent FB.kp bB .nil pass0 (pa_cons (pv 1) (pa_cons (pv 4) pa_nil)))
    (pa_cons (pe_call GB hr8 (by rfl) T0.bent FB.kp bB .nil pass0 (pa_cons (pv 1) (pa_cons (pv 4) pa_nil))) (pa_cons (pe_slice sl_tupA (pv 4) po_none (po_some (pe_un un_neg pe_int))) (pa_cons (pe_call GO hr2 (by rfl) T0.odd FO.kp bO .nil pass0 (pa_cons (pv 1) pa_nil))
    (pa_cons (pe_op op_rep1 (pe_tup (pa_cons (pe_tup (pa_cons pe_str pa_nil)) pa_nil)) pe_int) pa_nil)))))))) dT, ?_⟩
  intro D H1 a m l n pS xs ys pP dps pW zs v2 v6 v7 v8 v9 v10 v11 T hn gP lP hz lz nx
  refine ⟨_, rfl, _, rfl, _, rfl, bent_call T.M (by omega) T.p gP (Nat.le_refl _) (by decide) (by decide) (by decide) fun y1 e1 l1 H2 q1 k1 M1 f1 => ?_⟩
  have T1 := T.step f1 M1
  refine ⟨_, rfl, _, rfl, bent_call M1 (by omega) T1.p gP (Nat.le_refl _) (by decide) (by decide) (by decide) fun y2 e2 l2 H3 q2 k2 M2 f2 => ?_⟩
  have T2 := T1.step f2 M2
  have q12 := Dq.step (M1.step f2) _ _ q1
  obtain ⟨ps, hp, dp⟩ := Dq.untup T2.p
  refine ⟨_, rfl, _, rfl, _, rfl, slA_any hp fun p4 H4 s4 c4 => ?_⟩
  have T4 := T2.same s4
  have q14 := Dq.same s4 _ _ q12
  have q24 := Dq.same s4 _ _ q2
  obtain ⟨ds', h1, h2⟩ := cut_good none (some (-1)) (DqAll.same' s4 dp) gP
  have i4 : ItD K H4 m l2 (.ref p4) := Dq.toIt (.tup c4 h1) h2 (by decide) (by decide) (by decide)
  refine ⟨_, rfl, m, l2, n + 48 + 48, rfl, T4.M, by omega, fun y5 e5 l5 H5 q5 k5 M5 f5 => ?_⟩
  have k45 := T4.M.step f5
  have T5 := T4.step f5 M5
  refine ⟨(by show 1 ≤ sizeLine; decide), fun p6 h6 => ⟨(by show 1 ≤ sizeLine; decide), fun p7 h7 => ⟨p7, 17, [.ref p6], rfl, rfl, .inl (.inl upd_same), (fun z => nomatch z), by decide, by decide, (by show 1 ≤ 1000; decide), (fun e => absurd e (by decide)), fun _ p8 h8 => ?_⟩⟩⟩
  obtain ⟨H8, e8⟩ : ∃ G, G = upd (upd (upd H5 p6 (.tup [.str "end"])) p7 (.tup [.ref p6])) p8 (.tup (List.replicate (17 : Int).toNat [V.ref p6]).flatten) := ⟨_, rfl⟩
  have s58 : Same H5 H8 := by rw [e8]; exact (Same.upd h6).trans ((Same.upd h7).trans (Same.upd h8))
  have g8 : H8 p8 = some (.tup (List.replicate 17 [V.ref p6]).flatten) := by rw [e8]; exact upd_same
  have g6 : H8 p6 = some (.tup [.str "end"]) := by
    rw [e8]
    exact ((Same.upd h7).trans (Same.upd h8)) _ _ upd_same
  rw [← e8]
  clear e8
  have T8 := T5.same s58
  refine ⟨(by show 6 ≤ sizeLine; decide), fun F hF => ?_⟩
  have st : ∀ {v : V} {d : PyData}, Dq K H4 m l2 v d → Dq K H8 m l5 v d := fun {v d} h => Dq.same s58 _ _ (Dq.step k45 d v h)
  have r1 := st q14
  have r2 := st q24
  refine zT D H8 a m l5 (n + 48 + 48 + 1) pS xs ys pP (.tuple dps) pW zs F (.ref pP) y1 e1 [y2, .ref p4, y5, .ref p8] v2 _ _ _ _ _ T8 (by omega) hz lz hF (fun x hx => ?_) r1 (k1.mono (by decide) (by decide) (by decide)) rfl fun v7 v8 v9 v10 v11 l' H2' M' t' => nx _ v7 v8 v9 v10 v11 l' H2' (M'.mono (by omega)) t'
  simp only [List.mem_cons, List.mem_nil_iff, or_false] at hx
  rcases hx with rfl | rfl | rfl | rfl | rfl | rfl
  · exact T8.p.toIt gP (by decide) (by decide) (by decide)
  · exact r1.toIt k1 (by decide) (by decide) (by decide)
  · exact r2.toIt k2 (by decide) (by decide) (by decide)
  · obtain ⟨d, h3, h4⟩ := i4
    exact ⟨d, st h3, h4⟩
  · exact (Dq.same s58 _ _ q5).toIt k5 (by decide) (by decide) (by decide)
  · exact Dq.toIt (.tup (.inl (.inl g8)) (rep_dq (.tup (.inl (.inl g6)) (.cons (.str _) .nil)) 17)) ends_good (by decide) (by decide) (by decide)
end
end Ms
namespace Ms
open PySem PySem.Spec PyProof.Rows L2 LamX
section
variable {P : Program} {w : World} {K : PySem.W.Frag} {mg : Str → Option Value} {base : Heap} {fN fM fO fB fBg fSe fPc fMd fDu fTo C CS CP CM f c Pt : Addr} {fdN fdB fdO fdS fdPc fdMd : FuncData} {s : Shared} {H0 : Hp} {Eb : XK}
theorem law_head {tT : TS} (T0 : TxtB mg fN fM fO fB) (TL : TLq mg fBg fSe fPc fMd fDu fTo C CS CP CM) (FN : Fun K "_law_next" "_law_next" sNext fN fdN) (bN : Binds K fdN ["m", "many"] [])
    (FS : Fun K "_law_settings" "_law_settings" sSettings fSe fdS) (bS : Binds K fdS ["m"] []) (GS : FnOk P w K mg base CX0 3 fSe fdS ["m"] spSettingsV)
    (FPc : Fun K "_law_places" "_law_places" sPlaces fPc fdPc) (bPc : Binds K fdPc ["m", "spots", "most"] []) (GPc : FnOk P w K mg base CX0 3 fPc fdPc ["m", "spots", "most"] (spPlaces K))
    (FMd : Fun K "_law_modes" "_law_modes" sModes fMd fdMd) (bMd : Binds K fdMd ["m", "spots"] []) (GMd : FnOk P w K mg base CX0 2 fMd fdMd ["m", "spots"] (spModes K))
    (hr : Room 9 (callerA.deeper (envOfC "law" (defScope sLaw) s.heap.objs.size f (.ref c))))
    (dT : PSs (cxOf CX0 P w K mg base NL "law" (defScope sLaw) f (.ref c) callerA [] s H0 Eb).nox (bTurn.drop 2) tT)
    (zT : ∀ (D : Ends) (H1 : Hp) (a m l : Addr) (n : Nat) (pS : Addr) (xs : List V) (ys : List (Str × Int)) (pP : Addr) (dps : List PyData) (pW : Addr) (zs : List Str) (v2 v6 v7 v8 v9 v10 v11 : Option V),
      Tn K Pt H1 m l n pS xs ys pP (.tuple dps) pW (wdD zs) → n < 100000 → Gd big 7500 3 (.tuple dps) → dps.length ≤ 16 → (∀ z ∈ zs, z ∈ (["live", "met", "begin"] : List Str)) → zs.length ≤ 3 →
      (∀ (v6 v7 v8 v9 v10 v11 : Option V) (l' : Addr) (H2 : Hp), Mch H2 m l' (n + 220) → Tabs [(Pt, lamQ)] H2 → D.nx [some (.ref a), some (.ref m), v2, some (.ref pS), some (.ref pP), some (.ref pW), v6, v7, v8, v9, v10, v11] H2) →
      tT D [some (.ref a), some (.ref m), v2, some (.ref pS), some (.ref pP), some (.ref pW), v6, v7, v8, v9, v10, v11] H1) :
    ∃ t, PSs (cxOf CX0 P w K mg base NL "law" (defScope sLaw) f (.ref c) callerA [] s H0 Eb).nox bTurn t ∧ ∀ (D : Ends) (H1 : Hp) (a m l : Addr) (n : Nat) (v2 v3 v4 v5 v6 v7 v8 v9 v10 v11 : Option V),
      Mch H1 m l n → n < 50000 → Tabs [(Pt, lamQ)] H1 →
      (∀ (v3 v4 v5 v6 v7 v8 v9 v10 v11 : Option V) (l' : Addr) (H2 : Hp), Mch H2 m l' (n + 500) → Tabs [(Pt, lamQ)] H2 → D.nx [some (.ref a), some (.ref m), v2, v3, v4, v5, v6, v7, v8, v9, v10, v11] H2) →
      t D [some (.ref a), some (.ref m), v2, v3, v4, v5, v6, v7, v8, v9, v10, v11] H1 := by
  have hr1 : Room 1 (callerA.deeper (envOfC "law" (defScope sLaw) s.heap.objs.size f (.ref c))) := hr.mono (by decide)
  have hr2 : Room 2 (callerA.deeper (envOfC "law" (defScope sLaw) s.heap.objs.size f (.ref c))) := hr.mono (by decide)
  have hr3 : Room 3 (callerA.deeper (envOfC "law" (defScope sLaw) s.heap.objs.size f (.ref c))) := hr.mono (by decide)
  have GN : FnOk P w K mg base CX0 1 fN fdN ["m", "many"] spNext := ok_next FN T0.toTxt
  refine ⟨_, pss_cons (ps_set (i := 3) scL.nd rfl (by first | exact Or.inl rfl | exact Or.inr rfl) (pe_call GS hr3 (by rfl) TL.settings FS.kp bS .nil pass0 (pa_cons (pv 1) pa_nil)))
    (pss_cons (ps_asg (pe_tup (pa_cons (pe_call GPc hr3 (by rfl) TL.places FPc.kp bPc .nil pass0 (pa_cons (pv 1) (pa_cons (pv 3) (pa_cons (pe_ix (show IxR _ (rIxL K) from ix_list) (pe_lst (pa_cons pe_int (pa_cons pe_int (pa_cons pe_int pa_nil)))) (pe_call GN hr1 (by rfl) T0.next FN.kp bN .nil pass0 (pa_cons (pv 1) (pa_cons pe_int pa_nil))) (fun _ _ => rfl)) pa_nil))))
        (pa_cons (pe_call GMd hr2 (by rfl) TL.modes FMd.kp bMd .nil pass0 (pa_cons (pv 1) (pa_cons (pv 3) pa_nil))) pa_nil)))
      (pg_tup rfl (pgs_cons (pg_name (i := 4) scL.nd rfl (by first | exact Or.inl rfl | exact Or.inr rfl)) (pgs_cons (pg_name (i := 5) scL.nd rfl (by first | exact Or.inl rfl | exact Or.inr rfl)) pgs_nil)))) dT), ?_⟩
  intro D H1 a m l n v2 v3 v4 v5 v6 v7 v8 v9 v10 v11 M hn tb nx
  refine ⟨_, rfl, m, l, n, rfl, M, by omega, fun pS as ys l1 H2 gp pr so M1 f1 => ?_⟩
  have la := pr.length
  have lm : (as.map V.ref).length = as.length := List.length_map ..
  refine ⟨_, rfl, _, rfl, (by show 3 ≤ sizeLine; decide), fun p3 h3 => ?_⟩
  have s3 : Same H2 (upd H2 p3 (.lst [.int 4, .int 10, .int 16])) := Same.upd h3
  have n3 := M1.ne h3
  refine ⟨_, rfl, m, l1, n + 12, 3, rfl, M1.same s3, by omega, by decide, by decide, fun r l4 H4 r0 r3 M4 f4 => ?_⟩
  have k4 := (M1.same s3).step f4
  obtain ⟨k, hk, k1, k16⟩ : ∃ k : Nat, atI ([.int 4, .int 10, .int 16] : List V) r = some (.int (k : Int)) ∧ 1 ≤ k ∧ k ≤ 16 := by
    obtain ⟨j, rfl⟩ : ∃ j : Nat, r = (j : Int) := ⟨r.toNat, by omega⟩
    have hj : j < 3 := by omega
    match j, hj with
    | 0, _ => exact ⟨4, rfl, by decide, by decide⟩
    | 1, _ => exact ⟨10, rfl, by decide, by decide⟩
    | 2, _ => exact ⟨16, rfl, by decide, by decide⟩
  have gp4 : H4 pS = some (.tup (as.map V.ref)) := by
    obtain ⟨z1, e1⟩ := k4.am
    obtain ⟨z2, e2⟩ := k4.al
    have gp' := s3 _ _ gp
    exact k4.keep pS _ gp' (ne_of gp' e1 (by intro z; cases z)) (ne_of gp' e2 (by intro z; cases z))
  have pr4 : Prs H4 as ys := Prs.kept k4 (Prs.same (fun b o _ e => s3 b o e) pr)
  refine ⟨p3, _, r, _, rfl, rfl, SqL.of (f4.keep _ _ upd_same n3.1 n3.2), hk, ?_⟩
  refine ⟨m, l4, pS, n + 12 + 1, as, ys, k, rfl, M4, by omega, gp4, pr4, so.okP, so.len1, so.len3, k1, k16, fun pP pxs dps l5 H5 gP dP gdP lP1 lP2 M5 f5 => ?_⟩
  have k5 := M4.step f5
  have gp5 : H5 pS = some (.tup (as.map V.ref)) := by
    obtain ⟨z1, e1⟩ := k5.am
    obtain ⟨z2, e2⟩ := k5.al
    exact k5.keep pS _ gp4 (ne_of gp4 e1 (by intro z; cases z)) (ne_of gp4 e2 (by intro z; cases z))
  have pr5 : Prs H5 as ys := Prs.kept k5 pr4
  refine ⟨_, rfl, _, rfl, m, l5, pS, n + 12 + 1 + 220, as, rfl, M5, by omega, gp5, by have := so.len3; omega, fun pW zs l6 H6 gW lz hz M6 f6 => ?_⟩
  have k6 := M5.step f6
  refine ⟨(by show 2 ≤ sizeLine; decide), fun p7 h7 => ⟨p7, _, rfl, .inl (.inl upd_same), rfl, _, _, rfl, _, _, rfl, rfl, ?_⟩⟩
  have s7 : Same H6 (upd H6 p7 (.tup [.ref pP, .ref pW])) := Same.upd h7
  have F16 := ((f1.trans (Fr.lead s3 f4)).trans f5).trans f6
  have tb6 := Tabs.fr M F16 tb
  have gp6 : SqT K H6 pS (as.map V.ref) := k6.tup (.inl (.inl gp5))
  have pr6 : Prs H6 as ys := Prs.kept k6 pr5
  have wdq : ∀ zs : List Str, DqAll K H6 m l6 (zs.map V.str) (zs.map PyData.str) := fun zs => by
    induction zs with
    | nil => exact .nil
    | cons z zs ih => exact .cons (.str z) ih
  have lz3 : zs.length ≤ 3 := by have := so.len3; omega
  have gz : Gd big 60 1 (wdD zs) := (Gd.tup (wd_good zs hz)).mono (Nat.le_refl _) (by omega) (Nat.le_refl _)
  have dP5 : Dq K H5 m l5 (.ref pP) (.tuple dps) := .tup (.inl (.inl gP)) dP
  have T6 : Tn K Pt H6 m l6 (n + 12 + 1 + 220 + 3) pS (as.map V.ref) ys pP (.tuple dps) pW (wdD zs) :=
    ⟨M6, tb6, so, gp6, pr6.dq, Dq.step k6 _ _ dP5, gdP.mono (by decide) (by decide) (by decide), .tup (.inl (.inl gW)) (wdq zs), gz.mono (by decide) (by decide) (by decide)⟩
  exact zT D _ a m l6 _ pS _ ys pP dps pW zs v2 _ _ _ _ _ _ (T6.same s7) (by omega) gdP lP2 hz lz3 fun v6 v7 v8 v9 v10 v11 l' H2' M' t' => nx _ _ _ v6 v7 v8 v9 v10 v11 l' H2' (M'.mono (by omega)) t'
end
end Ms
namespace Ms
open PySem PySem.Spec PyProof.Rows L2 LamX
section
variable {P : Program} {w : World} {K : PySem.W.Frag} {mg : Str → Option Value} {fN fM fO fB fW fA fIp fBg fSe fPc fMd fDu fTo C CS CP CM fR f c Pt pI pN pS pA pG fNu fAs fPl fMo fNP fNM fNd aE aM fES fEP fEM : Addr}
theorem ok_law {fd fdBg fdN fdM fdS fdO fdB fdW fdA fdIp fdPc fdMd fdDu fdTo fdI fdPn fdPs fdNd fdPa fdPg fdNu fdAs fdPl fdMo fdNP fdNM fdR fdES fdEP fdEM : FuncData} {q1 q2 q3 qual : Str} {dn : Value}
    (T0 : TxtI mg fN fM fO fB fW fA fIp) (hmin : mg "min" = none) (TR : TxtR mg pI pN pS pA pG fNu fAs fPl fMo fNP fNM fNd aE aM) (W : WrT K aE aM) (TL : TLq mg fBg fSe fPc fMd fDu fTo C CS CP CM) (cl : Cl4 K C CS CP CM fR)
    (F : Fun K "law" "law" sLaw f fd) (hc : fd.code = .ref c) (bL : ∀ (s : Shared) (u : Value), BindsTo s fd ⟨[u], []⟩ [("script", u)])
    (FBg : Fun K "_law_begun" "_law_begun" sBegun fBg fdBg) (bBg : Binds K fdBg ["script"] []) (FN : Fun K "_law_next" "_law_next" sNext fN fdN) (bN : Binds K fdN ["m", "many"] []) (FM : Fun K "_law_names" "_law_names" sNames fM fdM) (bM : Binds K fdM ["m", "many"] [])
    (FS : Fun K "_law_settings" "_law_settings" sSettings fSe fdS) (bS : Binds K fdS ["m"] []) (FO : Fun K "_law_odd" "_law_odd" sOdd fO fdO) (bO : Binds K fdO ["m"] []) (FB : Fun K "_law_bent" "_law_bent" sBent fB fdB) (bB : Binds K fdB ["m", "thing"] [])
    (FPc : Fun K "_law_places" "_law_places" sPlaces fPc fdPc) (bPc : Binds K fdPc ["m", "spots", "most"] []) (FMd : Fun K "_law_modes" "_law_modes" sModes fMd fdMd) (bMd : Binds K fdMd ["m", "spots"] [])
    (FW : Fun K "_law_is_whole" "_law_is_whole" sIsWhole fW fdW) (bW : Binds K fdW ["thing", "least", "most"] []) (FA : Fun K "_law_is_name" "_law_is_name" sIsName fA fdA) (bA : Binds K fdA ["thing"] []) (FIp : Fun K "_law_is_place" "_law_is_place" sIsPlace fIp fdIp) (bIp : Binds K fdIp ["spots", "thing", "many"] [])
    (FDu : Fun K "_law_due" "_law_due" sDue fDu fdDu) (bDu : Binds K fdDu ["spots", "places", "words"] []) (FT : Fun K "_law_told" "_law_told" sTold fTo fdTo) (bT : Binds K fdTo ["call"] [])
    (FR : FunD K "__init__" qual (defArgs sReqIni) (defBody sReqIni) (defScope sReqIni) [.non] [] fR fdR) (b4 : Binds K fdR psR []) (b3 : Binds K fdR psR [dn]) (vd : Vals [V.non] [dn]) (kb : KBn K fdR psR 3 ["modes"] (fun us ws => us ++ ws) (fun vs zs => vs ++ zs))
    (TS : ErrC K CS fES) (TP : ErrC K CP fEP) (TM : ErrC K CM fEM)
    (FES : Fun K "__init__" q1 sIni fES fdES) (bES : Binds K fdES ["self", "place"] []) (FEP : Fun K "__init__" q2 sIniP fEP fdEP) (bEP : Binds K fdEP ["self", "place"] []) (FEM : Fun K "__init__" q3 sIniM fEM fdEM) (bEM : Binds K fdEM ["self", "place"] [])
    (FI : Fun K "is_int" "is_int" sPInt pI fdI) (bI : Binds K fdI ["thing"] []) (FPn : Fun K "is_name" "is_name" sPName pN fdPn) (bPn : Binds K fdPn ["thing"] []) (FPs : Fun K "is_setting" "is_setting" sPSet pS fdPs) (bPs : Binds K fdPs ["thing"] [])
    (FPa : Fun K "names_of" "names_of" sPNames pA fdPa) (bPa : Binds K fdPa ["settings"] []) (FPg : Fun K "grid_of" "grid_of" sPGrid pG fdPg) (bPg : Binds K fdPg ["settings"] []) (FNd : Fun K "need_settings" "need_settings" sNeed fNd fdNd) (bNd : Binds K fdNd ["thing"] [])
    (FNu : Fun K "is_number" "is_number" sPNum fNu fdNu) (bNu : Binds K fdNu ["many", "thing"] []) (FAs : Fun K "is_ask" "is_ask" sPAsk fAs fdAs) (bAs : Binds K fdAs ["settings", "many", "setting", "nexts"] [])
    (FPl : Fun K "is_place" "is_place" sPPlace fPl fdPl) (bPl : Binds K fdPl ["settings", "many", "thing"] []) (FMo : Fun K "is_mode" "is_mode" sPMode fMo fdMo) (bMo : Binds K fdMo ["thing"] [])
    (FNP : Fun K "need_places" "need_places" sNPlaces fNP fdNP) (bNP : Binds K fdNP ["settings", "places"] []) (FNM : Fun K "need_modes" "need_modes" sNModes fNM fdNM) (bNM : Binds K fdNM ["settings", "modes"] []) : LawRunT P w K mg f c Pt := by
  intro base H s a ns kin glob TB hT hS hlen st0
  have GBg : FnOk P w K mg base CX0 1 fBg fdBg ["script"] (spBegun K) := ok_begun FBg T0.toTxt
  have GS : FnOk P w K mg base CX0 3 fSe fdS ["m"] spSettingsV := ok_settingsV FS T0.toTxtS FN bN FM bM
  have GO : FnOk P w K mg base CX0 2 fO fdO ["m"] (spOdd K) := ok_odd FO T0.toTxtS FN bN
  have GB : FnOk P w K mg base CX0 8 fB fdB ["m", "thing"] (spBent K 6) := ok_bent FB bB T0.toTxtB FN bN FO bO 6
  have GPc : FnOk P w K mg base CX0 3 fPc fdPc ["m", "spots", "most"] (spPlaces K) := ok_places FPc ⟨T0.toTxtS, hmin⟩ FN bN FM bM
  have GMd : FnOk P w K mg base CX0 2 fMd fdMd ["m", "spots"] (spModes K) := ok_modes FMd T0.toTxtS FN bN
  have GDu : FnG P w K mg base 3 fDu fdDu ["spots", "places", "words"] (spDueR K) := ok_dueR FDu T0 FW bW FA bA FIp bIp
  have GR : FnOk P w K mg base (L2.CX P w) 6 fR fdR psR (spReq K C CS CP CM) := ok_reqini FR TR W cl.rc TL.mS TS TL.mP TP TL.mM TM FES bES FEP bEP FEM bEM FI bI FPn bPn FPs bPs FPa bPa FPg bPg FNd bNd FNu bNu FAs bAs FPl bPl FMo bMo FNP bNP FNM bNM
  have Kn : Kn P w K mg base fBg fSe fPc fMd fDu fTo C CS CP CM fR fdDu fdTo fdR dn := ⟨TL, cl, GR, b4, b3, vd, kb, FDu, bDu, GDu, FT, bT⟩
  refine run_code (k := 9) (N := NL) (ps := ["script"]) (us := [.ref a]) (vs := [.ref a]) F scL rfl ⟨rfl, by decide, by decide⟩ st0 (bL s _) (.cons rfl .nil) rfl fun cdv ec hr => ?_
  have ecv : cdv = .ref c := ec.symm.trans hc
  subst ecv
  obtain ⟨t1, d1, z1⟩ := law_loops (H0 := H) (s := s) (f := f) (c := c) (Pt := Pt) (Eb := fun _ _ _ => False) Kn T0.toTxtB FN bN TB hr
  obtain ⟨t2, d2, z2⟩ := law_seconds (base := base) (H0 := H) (Pt := Pt) T0.toTxtB FB bB GB FO bO GO hr d1 z1
  obtain ⟨t3, d3, z3⟩ := law_app (H0 := H) (Pt := Pt) T0.toTxtB FB bB GB hr d2 z2
  obtain ⟨t4, d4, z4⟩ := law_firsts (H0 := H) (Pt := Pt) T0.toTxtB FB bB GB FO bO GO hr d3 z3
  obtain ⟨t6, d6, z6⟩ := law_head (H0 := H) (Pt := Pt) T0.toTxtB TL FN bN FS bS GS FPc bPc GPc FMd bMd GMd hr d4 z4
  clear z1 z2 z3 z4 d1 d2 d3 d4
  have hr1 : Room 1 (callerA.deeper (envOfC "law" (defScope sLaw) s.heap.objs.size f (.ref c))) := hr.mono (by decide)
  obtain ⟨tmp, gmp⟩ := TR.mP
  refine ⟨_, pss_cons (ps_set (i := 1) scL.nd rfl (by first | exact Or.inl rfl | exact Or.inr rfl) (pe_call GBg hr1 (by rfl) TL.begun FBg.kp bBg .nil pass0 (pa_cons (pv 0) pa_nil)))
    (pss_cons (ps_for PassesOwn.never rfl (pi_range1 (by rfl) T0.range (pa_cons (pe_op op_add pe_int (pe_callB (call_min2 rfl) (by rfl) TL.min (by decide +kernel) (pa_cons (pe_callB call_len_seq (by rfl) T0.len PySem.boot_len (pa_cons (pv 0) pa_nil)) (pa_cons pe_int pa_nil)))) pa_nil)) (pg_name (i := 2) scL.nd rfl (by first | exact Or.inl rfl | exact Or.inr rfl)) d6)
    (pss_one (ps_ret (pe_and (pe_cmpR (op_eqD hr.units) (pe_glob (v := .ref aM) rfl TR.gM rfl) (pe_tup (pa_cons pe_str (pa_cons pe_str (pa_cons pe_str pa_nil)))) (nomark _)) (pe_one (pe_cmpR op_eq (pe_glob (v := .int 16) rfl gmp ⟨_, rfl⟩) pe_int (nomark _))))))), ?_⟩
  refine ⟨_, rfl, a, ns, rfl, hS, hlen, fun m l H1 hm hl s1 M1 => ?_⟩
  have lenM : (ns.map V.int).length = ns.length := List.length_map ..
  refine ⟨_, rfl, a, _, rfl, .inl (s1.seq hS), _, _, rfl, _, _, rfl, rfl, _, rfl, (by rw [lenM]; split <;> omega), (by rw [lenM]; split <;> omega), ?_⟩
  generalize hj : (3 + if (8 : Int) < ((ns.map V.int).length : Nat) then (8 : Int) else ((ns.map V.int).length : Nat)) = j
  have hj16 : j ≤ 11 := by rw [← hj]; split <;> omega
  have tb1 : Tabs [(Pt, lamQ)] H1 := fun p hp => by
    rw [List.mem_singleton.mp hp]
    exact TabS.nil (s1 _ _ hT)
  refine for_range (lo := 0) (n := j.toNat) (fun i σ H2 => ∃ (v2 v3 v4 v5 v6 v7 v8 v9 v10 v11 : Option V) (l n : Nat), σ = [some (.ref a), some (.ref m), v2, v3, v4, v5, v6, v7, v8, v9, v10, v11] ∧ Mch H2 m l n ∧ n ≤ 500 * i ∧ Tabs [(Pt, lamQ)] H2)
    ⟨_, _, _, _, _, _, _, _, _, _, l, 0, rfl, M1, Nat.le_refl _, tb1⟩ ?_ ?_
  · rintro i σ H2 hi ⟨v2, v3, v4, v5, v6, v7, v8, v9, v10, v11, l2, n, rfl, M2, hn, tb2⟩
    exact z6 _ H2 a m l2 n _ _ _ _ _ _ _ _ _ _ M2 (by omega) tb2 fun v3 v4 v5 v6 v7 v8 v9 v10 v11 l' H3 M3 t3 => ⟨_, v3, v4, v5, v6, v7, v8, v9, v10, v11, l', n + 500, rfl, M3, by omega, t3⟩
  · rintro σ H2 _
    refine ⟨(by show 3 ≤ sizeLine; decide), fun p hp => ⟨.tuple [.str "live", .str "met", .str "begin"], .tuple [.str "live", .str "met", .str "begin"], .tup (W.m _) (.cons (.str _) (.cons (.str _) (.cons (.str _) .nil))), .tup (.inl (.inl upd_same)) (.cons (.str _) (.cons (.str _) (.cons (.str _) .nil))), by decide +kernel, by decide +kernel, _, rfl, ifT (by decide +kernel) ⟨rfl, rfl⟩⟩⟩
end
end Ms
namespace Ms
open PySem PySem.Spec PyProof.Rows L2 LamX
/-! ### the end: what the top has written -/
set_option maxHeartbeats 16000000 in
theorem all_mk {P : Program} {w : World} {K : PySem.W.Frag} {h : Heap} {mg : Str → Option Value} {fa CS fES CP fEP CM fEM C fR Td aE aM pI pN pS pD pA pG fNu fAs fPl fMo fNP fNM fBg fN fM fSe fO fB fW fA fPc fMd fIp fDu fTo fL c Pt : Addr} (X : K.In h) (G : h.Ns mainGlobals mg) (hfa : mg "law" = some (.ref fa))
    {nmeS qeS : Str} {NeS : Addr} {bseS bmeS : List Value} {sneS : List Str} {subeS : List Value} {abeS : Bool} {coleS : Option Bool} {ddeS : Option Addr} {m0eS m1eS m2eS m3eS m5eS : Option Value}
    {odieS anieS : Option Addr} {slieS : Array (Option Value)} {ocieS kVieS dcieS pmieS cdieS ctieS : Value}
    {nmeP qeP : Str} {NeP : Addr} {bseP bmeP : List Value} {sneP : List Str} {subeP : List Value} {abeP : Bool} {coleP : Option Bool} {ddeP : Option Addr} {m0eP m1eP m2eP m3eP m5eP : Option Value}
    {odieP anieP : Option Addr} {slieP : Array (Option Value)} {ocieP kVieP dcieP pmieP cdieP ctieP : Value}
    {nmeM qeM : Str} {NeM : Addr} {bseM bmeM : List Value} {sneM : List Str} {subeM : List Value} {abeM : Bool} {coleM : Option Bool} {ddeM : Option Addr} {m0eM m1eM m2eM m3eM m5eM : Option Value}
    {odieM anieM : Option Addr} {slieM : Array (Option Value)} {ocieM kVieM dcieM pmieM cdieM ctieM : Value}
    {odR anR : Option Addr} {slR : Array (Option Value)} {ocR kVR dcR pmR cdR ctR : Value} {ocT : Value} {odT : Option Addr} {nT : Nat} {slT : Array (Option Value)}
    {dE dM : Option Addr} {kE kM : Nat} {sE sM : Array (Option Value)} {tE tM1 tM2 tM3 : Tok}
    {odpI anpI : Option Addr} {slpI : Array (Option Value)} {ocpI kVpI dcpI pmpI cdpI ctpI : Value}
    {odpN anpN : Option Addr} {slpN : Array (Option Value)} {ocpN kVpN dcpN pmpN cdpN ctpN : Value}
    {odpS anpS : Option Addr} {slpS : Array (Option Value)} {ocpS kVpS dcpS pmpS cdpS ctpS : Value}
    {odpD anpD : Option Addr} {slpD : Array (Option Value)} {ocpD kVpD dcpD pmpD cdpD ctpD : Value}
    {odpA anpA : Option Addr} {slpA : Array (Option Value)} {ocpA kVpA dcpA pmpA cdpA ctpA : Value}
    {odpG anpG : Option Addr} {slpG : Array (Option Value)} {ocpG kVpG dcpG pmpG cdpG ctpG : Value}
    {odNu anNu : Option Addr} {slNu : Array (Option Value)} {ocNu kVNu dcNu pmNu cdNu ctNu : Value}
    {odAs anAs : Option Addr} {slAs : Array (Option Value)} {ocAs kVAs dcAs pmAs cdAs ctAs : Value}
    {odPl anPl : Option Addr} {slPl : Array (Option Value)} {ocPl kVPl dcPl pmPl cdPl ctPl : Value}
    {odMo anMo : Option Addr} {slMo : Array (Option Value)} {ocMo kVMo dcMo pmMo cdMo ctMo : Value}
    {odNP anNP : Option Addr} {slNP : Array (Option Value)} {ocNP kVNP dcNP pmNP cdNP ctNP : Value}
    {odNM anNM : Option Addr} {slNM : Array (Option Value)} {ocNM kVNM dcNM pmNM cdNM ctNM : Value}
    {odBg anBg : Option Addr} {slBg : Array (Option Value)} {ocBg kVBg dcBg pmBg cdBg ctBg : Value}
    {odN anN : Option Addr} {slN : Array (Option Value)} {ocN kVN dcN pmN cdN ctN : Value}
    {odNa anNa : Option Addr} {slNa : Array (Option Value)} {ocNa kVNa dcNa pmNa cdNa ctNa : Value}
    {odSe anSe : Option Addr} {slSe : Array (Option Value)} {ocSe kVSe dcSe pmSe cdSe ctSe : Value}
    {odO anO : Option Addr} {slO : Array (Option Value)} {ocO kVO dcO pmO cdO ctO : Value}
    {odB anB : Option Addr} {slB : Array (Option Value)} {ocB kVB dcB pmB cdB ctB : Value}
    {odW anW : Option Addr} {slW : Array (Option Value)} {ocW kVW dcW pmW cdW ctW : Value}
    {odA anA : Option Addr} {slA : Array (Option Value)} {ocA kVA dcA pmA cdA ctA : Value}
    {odPc anPc : Option Addr} {slPc : Array (Option Value)} {ocPc kVPc dcPc pmPc cdPc ctPc : Value}
    {odMd anMd : Option Addr} {slMd : Array (Option Value)} {ocMd kVMd dcMd pmMd cdMd ctMd : Value}
    {odIp anIp : Option Addr} {slIp : Array (Option Value)} {ocIp kVIp dcIp pmIp cdIp ctIp : Value}
    {odDu anDu : Option Addr} {slDu : Array (Option Value)} {ocDu kVDu dcDu pmDu cdDu ctDu : Value}
    {odTo anTo : Option Addr} {slTo : Array (Option Value)} {ocTo kVTo dcTo pmTo cdTo ctTo : Value}
    {odL anL : Option Addr} {slL : Array (Option Value)} {ocL kVL dcL pmL cdL ctL : Value}
    {tMOST_SETTINGS : Tok}
    {tMOST_VALUE : Tok}
    {tMOST_STANDINGS : Tok}
    {tLONGEST_NAME : Tok}
    {tMOST_PLACES : Tok}
    (AeS : PySem.W.nsIn K mainGlobals "BadSettings" = some (some (.ref CS)))
    (XeS : K.lookup CS = some (excClassObj nmeS qeS CS NeS bseS bmeS true sneS subeS abeS coleS ddeS m0eS m1eS m2eS m3eS m5eS "ValueError.__new__"))
    (ReS : PySem.HandSPX.refsVE bmeS = true)
    (SeS : PySem.W.findIn K (.ref CS) "__setattr__" = some (some (.builtin "object.__setattr__")))
    (EeS : PySem.W.subIn K (.ref CS) (.type "BaseException") = some true)
    (TeS : PySem.W.typeIn K (.ref CS) = some (.type "type"))
    (KeS : PySem.W.keepIn K (.ref CS) = true)
    (IeS : PySem.W.findIn K (.ref CS) "__init__" = some (some (.ref fES)))
    (YeS : PySem.W.typeIn K (.ref fES) = some (.type "function"))
    (NeS : PySem.W.findIn K (.ref CS) "place" = some none)
    (GeS : PySem.W.findIn K (.ref CS) "__getattribute__" = some (some (.builtin "BaseException.__getattribute__")))
    (HeS : PySem.W.findIn K (.ref CS) "__getattr__" = some none)
    (DeS : PySem.W.hasDictIn K CS = true)
    (MeS : PySem.W.exmOne K (.ref CS) (.ref CS) = some true)
    (lieS : K.lookup fES = some ⟨ocieS, odieS, .func (PySem.W.fnOf "__init__" "BadSettings.__init__" (defArgs sIni) (defBody sIni) (defScope sIni) .none kVieS dcieS pmieS anieS cdieS ctieS), slieS⟩)
    (dieS : PySem.W.codeIn K cdieS "BadSettings.__init__" = true)
    (eieS : PySem.W.keepIn K (.ref fES) = true)
    (AeP : PySem.W.nsIn K mainGlobals "BadPlaces" = some (some (.ref CP)))
    (XeP : K.lookup CP = some (excClassObj nmeP qeP CP NeP bseP bmeP true sneP subeP abeP coleP ddeP m0eP m1eP m2eP m3eP m5eP "ValueError.__new__"))
    (ReP : PySem.HandSPX.refsVE bmeP = true)
    (SeP : PySem.W.findIn K (.ref CP) "__setattr__" = some (some (.builtin "object.__setattr__")))
    (EeP : PySem.W.subIn K (.ref CP) (.type "BaseException") = some true)
    (TeP : PySem.W.typeIn K (.ref CP) = some (.type "type"))
    (KeP : PySem.W.keepIn K (.ref CP) = true)
    (IeP : PySem.W.findIn K (.ref CP) "__init__" = some (some (.ref fEP)))
    (YeP : PySem.W.typeIn K (.ref fEP) = some (.type "function"))
    (NeP : PySem.W.findIn K (.ref CP) "place" = some none)
    (GeP : PySem.W.findIn K (.ref CP) "__getattribute__" = some (some (.builtin "BaseException.__getattribute__")))
    (HeP : PySem.W.findIn K (.ref CP) "__getattr__" = some none)
    (DeP : PySem.W.hasDictIn K CP = true)
    (MeP : PySem.W.exmOne K (.ref CP) (.ref CP) = some true)
    (lieP : K.lookup fEP = some ⟨ocieP, odieP, .func (PySem.W.fnOf "__init__" "BadPlaces.__init__" (defArgs sIniP) (defBody sIniP) (defScope sIniP) .none kVieP dcieP pmieP anieP cdieP ctieP), slieP⟩)
    (dieP : PySem.W.codeIn K cdieP "BadPlaces.__init__" = true)
    (eieP : PySem.W.keepIn K (.ref fEP) = true)
    (AeM : PySem.W.nsIn K mainGlobals "BadModes" = some (some (.ref CM)))
    (XeM : K.lookup CM = some (excClassObj nmeM qeM CM NeM bseM bmeM true sneM subeM abeM coleM ddeM m0eM m1eM m2eM m3eM m5eM "ValueError.__new__"))
    (ReM : PySem.HandSPX.refsVE bmeM = true)
    (SeM : PySem.W.findIn K (.ref CM) "__setattr__" = some (some (.builtin "object.__setattr__")))
    (EeM : PySem.W.subIn K (.ref CM) (.type "BaseException") = some true)
    (TeM : PySem.W.typeIn K (.ref CM) = some (.type "type"))
    (KeM : PySem.W.keepIn K (.ref CM) = true)
    (IeM : PySem.W.findIn K (.ref CM) "__init__" = some (some (.ref fEM)))
    (YeM : PySem.W.typeIn K (.ref fEM) = some (.type "function"))
    (NeM : PySem.W.findIn K (.ref CM) "place" = some none)
    (GeM : PySem.W.findIn K (.ref CM) "__getattribute__" = some (some (.builtin "BaseException.__getattribute__")))
    (HeM : PySem.W.findIn K (.ref CM) "__getattr__" = some none)
    (DeM : PySem.W.hasDictIn K CM = true)
    (MeM : PySem.W.exmOne K (.ref CM) (.ref CM) = some true)
    (lieM : K.lookup fEM = some ⟨ocieM, odieM, .func (PySem.W.fnOf "__init__" "BadModes.__init__" (defArgs sIniM) (defBody sIniM) (defScope sIniM) .none kVieM dcieM pmieM anieM cdieM ctieM), slieM⟩)
    (dieM : PySem.W.codeIn K cdieM "BadModes.__init__" = true)
    (eieM : PySem.W.keepIn K (.ref fEM) = true)
    (XPS : PySem.W.exmOne K (.ref CP) (.ref CS) = some false)
    (XMS : PySem.W.exmOne K (.ref CM) (.ref CS) = some false)
    (XMP : PySem.W.exmOne K (.ref CM) (.ref CP) = some false)
    (AR : PySem.W.nsIn K mainGlobals "Request" = some (some (.ref C)))
    (IR : PySem.W.findIn K (.ref C) "__init__" = some (some (.ref fR)))
    (mkR : PySem.W.makesIn K C = true)
    (fnR : PySem.W.isFn K (.ref fR) = true)
    (kpR : PySem.W.keepIn K (.ref C) = true)
    (pgR : PySem.W.plainGet K C Str.empty = true)
    (hdR : PySem.W.hasDictIn K C = true)
    (poR : PySem.W.plainOver K C = true)
    (saR : PySem.W.findIn K (.ref C) "__setattr__" = some (some (.builtin "object.__setattr__")))
    (n0R : PySem.W.findIn K (.ref C) "settings" = some none)
    (n1R : PySem.W.findIn K (.ref C) "places" = some none)
    (n2R : PySem.W.findIn K (.ref C) "modes" = some none)
    (lR : K.lookup fR = some ⟨ocR, odR, .func (PySem.W.fnOf "__init__" "Request.__init__" (defArgs sReqIni) (defBody sReqIni) (defScope sReqIni) (.ref Td) kVR dcR pmR anR cdR ctR), slR⟩)
    (dR : PySem.W.codeIn K cdR "Request.__init__" = true)
    (eR : PySem.W.keepIn K (.ref fR) = true)
    (lT : K.lookup Td = some ⟨ocT, odT, .seq #[.none] nT, slT⟩)
    (AE : PySem.W.nsIn K mainGlobals "END" = some (some (.ref aE)))
    (AM : PySem.W.nsIn K mainGlobals "MODES" = some (some (.ref aM)))
    (lE : K.lookup aE = some ⟨.type "tuple", dE, .seq #[.str "end" tE] kE, sE⟩)
    (lM : K.lookup aM = some ⟨.type "tuple", dM, .seq #[.str "live" tM1, .str "met" tM2, .str "begin" tM3] kM, sM⟩)
    (apI : PySem.W.nsIn K mainGlobals "is_int" = some (some (.ref pI)))
    (lpI : K.lookup pI = some ⟨ocpI, odpI, .func (PySem.W.fnOf "is_int" "is_int" (defArgs sPInt) (defBody sPInt) (defScope sPInt) .none kVpI dcpI pmpI anpI cdpI ctpI), slpI⟩)
    (dpI : PySem.W.codeIn K cdpI "is_int" = true)
    (epI : PySem.W.keepIn K (.ref pI) = true)
    (apN : PySem.W.nsIn K mainGlobals "is_name" = some (some (.ref pN)))
    (lpN : K.lookup pN = some ⟨ocpN, odpN, .func (PySem.W.fnOf "is_name" "is_name" (defArgs sPName) (defBody sPName) (defScope sPName) .none kVpN dcpN pmpN anpN cdpN ctpN), slpN⟩)
    (dpN : PySem.W.codeIn K cdpN "is_name" = true)
    (epN : PySem.W.keepIn K (.ref pN) = true)
    (apS : PySem.W.nsIn K mainGlobals "is_setting" = some (some (.ref pS)))
    (lpS : K.lookup pS = some ⟨ocpS, odpS, .func (PySem.W.fnOf "is_setting" "is_setting" (defArgs sPSet) (defBody sPSet) (defScope sPSet) .none kVpS dcpS pmpS anpS cdpS ctpS), slpS⟩)
    (dpS : PySem.W.codeIn K cdpS "is_setting" = true)
    (epS : PySem.W.keepIn K (.ref pS) = true)
    (apD : PySem.W.nsIn K mainGlobals "need_settings" = some (some (.ref pD)))
    (lpD : K.lookup pD = some ⟨ocpD, odpD, .func (PySem.W.fnOf "need_settings" "need_settings" (defArgs sNeed) (defBody sNeed) (defScope sNeed) .none kVpD dcpD pmpD anpD cdpD ctpD), slpD⟩)
    (dpD : PySem.W.codeIn K cdpD "need_settings" = true)
    (epD : PySem.W.keepIn K (.ref pD) = true)
    (apA : PySem.W.nsIn K mainGlobals "names_of" = some (some (.ref pA)))
    (lpA : K.lookup pA = some ⟨ocpA, odpA, .func (PySem.W.fnOf "names_of" "names_of" (defArgs sPNames) (defBody sPNames) (defScope sPNames) .none kVpA dcpA pmpA anpA cdpA ctpA), slpA⟩)
    (dpA : PySem.W.codeIn K cdpA "names_of" = true)
    (epA : PySem.W.keepIn K (.ref pA) = true)
    (apG : PySem.W.nsIn K mainGlobals "grid_of" = some (some (.ref pG)))
    (lpG : K.lookup pG = some ⟨ocpG, odpG, .func (PySem.W.fnOf "grid_of" "grid_of" (defArgs sPGrid) (defBody sPGrid) (defScope sPGrid) .none kVpG dcpG pmpG anpG cdpG ctpG), slpG⟩)
    (dpG : PySem.W.codeIn K cdpG "grid_of" = true)
    (epG : PySem.W.keepIn K (.ref pG) = true)
    (aNu : PySem.W.nsIn K mainGlobals "is_number" = some (some (.ref fNu)))
    (lNu : K.lookup fNu = some ⟨ocNu, odNu, .func (PySem.W.fnOf "is_number" "is_number" (defArgs sPNum) (defBody sPNum) (defScope sPNum) .none kVNu dcNu pmNu anNu cdNu ctNu), slNu⟩)
    (dNu : PySem.W.codeIn K cdNu "is_number" = true)
    (eNu : PySem.W.keepIn K (.ref fNu) = true)
    (aAs : PySem.W.nsIn K mainGlobals "is_ask" = some (some (.ref fAs)))
    (lAs : K.lookup fAs = some ⟨ocAs, odAs, .func (PySem.W.fnOf "is_ask" "is_ask" (defArgs sPAsk) (defBody sPAsk) (defScope sPAsk) .none kVAs dcAs pmAs anAs cdAs ctAs), slAs⟩)
    (dAs : PySem.W.codeIn K cdAs "is_ask" = true)
    (eAs : PySem.W.keepIn K (.ref fAs) = true)
    (aPl : PySem.W.nsIn K mainGlobals "is_place" = some (some (.ref fPl)))
    (lPl : K.lookup fPl = some ⟨ocPl, odPl, .func (PySem.W.fnOf "is_place" "is_place" (defArgs sPPlace) (defBody sPPlace) (defScope sPPlace) .none kVPl dcPl pmPl anPl cdPl ctPl), slPl⟩)
    (dPl : PySem.W.codeIn K cdPl "is_place" = true)
    (ePl : PySem.W.keepIn K (.ref fPl) = true)
    (aMo : PySem.W.nsIn K mainGlobals "is_mode" = some (some (.ref fMo)))
    (lMo : K.lookup fMo = some ⟨ocMo, odMo, .func (PySem.W.fnOf "is_mode" "is_mode" (defArgs sPMode) (defBody sPMode) (defScope sPMode) .none kVMo dcMo pmMo anMo cdMo ctMo), slMo⟩)
    (dMo : PySem.W.codeIn K cdMo "is_mode" = true)
    (eMo : PySem.W.keepIn K (.ref fMo) = true)
    (aNP : PySem.W.nsIn K mainGlobals "need_places" = some (some (.ref fNP)))
    (lNP : K.lookup fNP = some ⟨ocNP, odNP, .func (PySem.W.fnOf "need_places" "need_places" (defArgs sNPlaces) (defBody sNPlaces) (defScope sNPlaces) .none kVNP dcNP pmNP anNP cdNP ctNP), slNP⟩)
    (dNP : PySem.W.codeIn K cdNP "need_places" = true)
    (eNP : PySem.W.keepIn K (.ref fNP) = true)
    (aNM : PySem.W.nsIn K mainGlobals "need_modes" = some (some (.ref fNM)))
    (lNM : K.lookup fNM = some ⟨ocNM, odNM, .func (PySem.W.fnOf "need_modes" "need_modes" (defArgs sNModes) (defBody sNModes) (defScope sNModes) .none kVNM dcNM pmNM anNM cdNM ctNM), slNM⟩)
    (dNM : PySem.W.codeIn K cdNM "need_modes" = true)
    (eNM : PySem.W.keepIn K (.ref fNM) = true)
    (aBg : PySem.W.nsIn K mainGlobals "_law_begun" = some (some (.ref fBg)))
    (lBg : K.lookup fBg = some ⟨ocBg, odBg, .func (PySem.W.fnOf "_law_begun" "_law_begun" (defArgs sBegun) (defBody sBegun) (defScope sBegun) .none kVBg dcBg pmBg anBg cdBg ctBg), slBg⟩)
    (dBg : PySem.W.codeIn K cdBg "_law_begun" = true)
    (eBg : PySem.W.keepIn K (.ref fBg) = true)
    (aN : PySem.W.nsIn K mainGlobals "_law_next" = some (some (.ref fN)))
    (lN : K.lookup fN = some ⟨ocN, odN, .func (PySem.W.fnOf "_law_next" "_law_next" (defArgs sNext) (defBody sNext) (defScope sNext) .none kVN dcN pmN anN cdN ctN), slN⟩)
    (dN : PySem.W.codeIn K cdN "_law_next" = true)
    (eN : PySem.W.keepIn K (.ref fN) = true)
    (aNa : PySem.W.nsIn K mainGlobals "_law_names" = some (some (.ref fM)))
    (lNa : K.lookup fM = some ⟨ocNa, odNa, .func (PySem.W.fnOf "_law_names" "_law_names" (defArgs sNames) (defBody sNames) (defScope sNames) .none kVNa dcNa pmNa anNa cdNa ctNa), slNa⟩)
    (dNa : PySem.W.codeIn K cdNa "_law_names" = true)
    (eNa : PySem.W.keepIn K (.ref fM) = true)
    (aSe : PySem.W.nsIn K mainGlobals "_law_settings" = some (some (.ref fSe)))
    (lSe : K.lookup fSe = some ⟨ocSe, odSe, .func (PySem.W.fnOf "_law_settings" "_law_settings" (defArgs sSettings) (defBody sSettings) (defScope sSettings) .none kVSe dcSe pmSe anSe cdSe ctSe), slSe⟩)
    (dSe : PySem.W.codeIn K cdSe "_law_settings" = true)
    (eSe : PySem.W.keepIn K (.ref fSe) = true)
    (aO : PySem.W.nsIn K mainGlobals "_law_odd" = some (some (.ref fO)))
    (lO : K.lookup fO = some ⟨ocO, odO, .func (PySem.W.fnOf "_law_odd" "_law_odd" (defArgs sOdd) (defBody sOdd) (defScope sOdd) .none kVO dcO pmO anO cdO ctO), slO⟩)
    (dO : PySem.W.codeIn K cdO "_law_odd" = true)
    (eO : PySem.W.keepIn K (.ref fO) = true)
    (aB : PySem.W.nsIn K mainGlobals "_law_bent" = some (some (.ref fB)))
    (lB : K.lookup fB = some ⟨ocB, odB, .func (PySem.W.fnOf "_law_bent" "_law_bent" (defArgs sBent) (defBody sBent) (defScope sBent) .none kVB dcB pmB anB cdB ctB), slB⟩)
    (dB : PySem.W.codeIn K cdB "_law_bent" = true)
    (eB : PySem.W.keepIn K (.ref fB) = true)
    (aW : PySem.W.nsIn K mainGlobals "_law_is_whole" = some (some (.ref fW)))
    (lW : K.lookup fW = some ⟨ocW, odW, .func (PySem.W.fnOf "_law_is_whole" "_law_is_whole" (defArgs sIsWhole) (defBody sIsWhole) (defScope sIsWhole) .none kVW dcW pmW anW cdW ctW), slW⟩)
    (dW : PySem.W.codeIn K cdW "_law_is_whole" = true)
    (eW : PySem.W.keepIn K (.ref fW) = true)
    (aA : PySem.W.nsIn K mainGlobals "_law_is_name" = some (some (.ref fA)))
    (lA : K.lookup fA = some ⟨ocA, odA, .func (PySem.W.fnOf "_law_is_name" "_law_is_name" (defArgs sIsName) (defBody sIsName) (defScope sIsName) .none kVA dcA pmA anA cdA ctA), slA⟩)
    (dA : PySem.W.codeIn K cdA "_law_is_name" = true)
    (eA : PySem.W.keepIn K (.ref fA) = true)
    (aPc : PySem.W.nsIn K mainGlobals "_law_places" = some (some (.ref fPc)))
    (lPc : K.lookup fPc = some ⟨ocPc, odPc, .func (PySem.W.fnOf "_law_places" "_law_places" (defArgs sPlaces) (defBody sPlaces) (defScope sPlaces) .none kVPc dcPc pmPc anPc cdPc ctPc), slPc⟩)
    (dPc : PySem.W.codeIn K cdPc "_law_places" = true)
    (ePc : PySem.W.keepIn K (.ref fPc) = true)
    (aMd : PySem.W.nsIn K mainGlobals "_law_modes" = some (some (.ref fMd)))
    (lMd : K.lookup fMd = some ⟨ocMd, odMd, .func (PySem.W.fnOf "_law_modes" "_law_modes" (defArgs sModes) (defBody sModes) (defScope sModes) .none kVMd dcMd pmMd anMd cdMd ctMd), slMd⟩)
    (dMd : PySem.W.codeIn K cdMd "_law_modes" = true)
    (eMd : PySem.W.keepIn K (.ref fMd) = true)
    (aIp : PySem.W.nsIn K mainGlobals "_law_is_place" = some (some (.ref fIp)))
    (lIp : K.lookup fIp = some ⟨ocIp, odIp, .func (PySem.W.fnOf "_law_is_place" "_law_is_place" (defArgs sIsPlace) (defBody sIsPlace) (defScope sIsPlace) .none kVIp dcIp pmIp anIp cdIp ctIp), slIp⟩)
    (dIp : PySem.W.codeIn K cdIp "_law_is_place" = true)
    (eIp : PySem.W.keepIn K (.ref fIp) = true)
    (aDu : PySem.W.nsIn K mainGlobals "_law_due" = some (some (.ref fDu)))
    (lDu : K.lookup fDu = some ⟨ocDu, odDu, .func (PySem.W.fnOf "_law_due" "_law_due" (defArgs sDue) (defBody sDue) (defScope sDue) .none kVDu dcDu pmDu anDu cdDu ctDu), slDu⟩)
    (dDu : PySem.W.codeIn K cdDu "_law_due" = true)
    (eDu : PySem.W.keepIn K (.ref fDu) = true)
    (aTo : PySem.W.nsIn K mainGlobals "_law_told" = some (some (.ref fTo)))
    (lTo : K.lookup fTo = some ⟨ocTo, odTo, .func (PySem.W.fnOf "_law_told" "_law_told" (defArgs sTold) (defBody sTold) (defScope sTold) .none kVTo dcTo pmTo anTo cdTo ctTo), slTo⟩)
    (dTo : PySem.W.codeIn K cdTo "_law_told" = true)
    (eTo : PySem.W.keepIn K (.ref fTo) = true)
    (aL : PySem.W.nsIn K mainGlobals "law" = some (some (.ref fL)))
    (lL : K.lookup fL = some ⟨ocL, odL, .func (PySem.W.fnOf "law" "law" (defArgs sLaw) (defBody sLaw) (defScope sLaw) .none kVL dcL pmL anL cdL ctL), slL⟩)
    (dL : PySem.W.codeIn K cdL "law" = true)
    (eL : PySem.W.keepIn K (.ref fL) = true)
    (cMOST_SETTINGS : PySem.W.nsIn K mainGlobals "MOST_SETTINGS" = some (some (.int 3 tMOST_SETTINGS)))
    (cMOST_VALUE : PySem.W.nsIn K mainGlobals "MOST_VALUE" = some (some (.int 3 tMOST_VALUE)))
    (cMOST_STANDINGS : PySem.W.nsIn K mainGlobals "MOST_STANDINGS" = some (some (.int 12 tMOST_STANDINGS)))
    (cLONGEST_NAME : PySem.W.nsIn K mainGlobals "LONGEST_NAME" = some (some (.int 8 tLONGEST_NAME)))
    (cMOST_PLACES : PySem.W.nsIn K mainGlobals "MOST_PLACES" = some (some (.int 16 tMOST_PLACES)))
    (z_list : PySem.W.nsIn K mainGlobals "list" = some none)
    (z_len : PySem.W.nsIn K mainGlobals "len" = some none)
    (z_int : PySem.W.nsIn K mainGlobals "int" = some none)
    (z_range : PySem.W.nsIn K mainGlobals "range" = some none)
    (z_tuple : PySem.W.nsIn K mainGlobals "tuple" = some none)
    (z_zip : PySem.W.nsIn K mainGlobals "zip" = some none)
    (z_isinstance : PySem.W.nsIn K mainGlobals "isinstance" = some none)
    (z_str : PySem.W.nsIn K mainGlobals "str" = some none)
    (z_bool : PySem.W.nsIn K mainGlobals "bool" = some none)
    (z_enumerate : PySem.W.nsIn K mainGlobals "enumerate" = some none)
    (z_all : PySem.W.nsIn K mainGlobals "all" = some none)
    (z_repr : PySem.W.nsIn K mainGlobals "repr" = some none)
    (z_min : PySem.W.nsIn K mainGlobals "min" = some none)
    (hc : cdL = .ref c) : LawRunT P w K mg fa c Pt := by
  have e := hfa.symm.trans (PySem.W.mg_of X G aL)
  cases e
  have FieS := fun_mk (st := sIni) lieS dieS eieS
  have bieS := FieS.binds (ps := ["self", "place"]) fun _ _ _ _ _ _ us hl => match us, hl with | [_, _], _ => rfl
  have OXeS : OexC K CS := ⟨⟨_, _, _, _, _, _, _, _, _, _, _, _, _, _, _, XeS, ReS⟩, SeS, EeS, TeS, KeS⟩
  have ECeS : ErrC K CS fES := ⟨OXeS, IeS, YeS, NeS⟩
  have XFeS : XfC K CS := ⟨GeS, HeS, EeS, DeS⟩
  have FieP := fun_mk (st := sIniP) lieP dieP eieP
  have bieP := FieP.binds (ps := ["self", "place"]) fun _ _ _ _ _ _ us hl => match us, hl with | [_, _], _ => rfl
  have OXeP : OexC K CP := ⟨⟨_, _, _, _, _, _, _, _, _, _, _, _, _, _, _, XeP, ReP⟩, SeP, EeP, TeP, KeP⟩
  have ECeP : ErrC K CP fEP := ⟨OXeP, IeP, YeP, NeP⟩
  have XFeP : XfC K CP := ⟨GeP, HeP, EeP, DeP⟩
  have FieM := fun_mk (st := sIniM) lieM dieM eieM
  have bieM := FieM.binds (ps := ["self", "place"]) fun _ _ _ _ _ _ us hl => match us, hl with | [_, _], _ => rfl
  have OXeM : OexC K CM := ⟨⟨_, _, _, _, _, _, _, _, _, _, _, _, _, _, _, XeM, ReM⟩, SeM, EeM, TeM, KeM⟩
  have ECeM : ErrC K CM fEM := ⟨OXeM, IeM, YeM, NeM⟩
  have XFeM : XfC K CM := ⟨GeM, HeM, EeM, DeM⟩
  have WT : WrT K aE aM := ⟨fun H => .inr ⟨_, _, _, lE, rfl, rfl, (by show 1 ≤ sizeLine; decide), .cons ⟨_, rfl⟩ .nil⟩, fun H => .inr ⟨_, _, _, lM, rfl, rfl, (by show 3 ≤ sizeLine; decide), .cons ⟨_, rfl⟩ (.cons ⟨_, rfl⟩ (.cons ⟨_, rfl⟩ .nil))⟩⟩
  have FR : FunD K "__init__" "Request.__init__" (defArgs sReqIni) (defBody sReqIni) (defScope sReqIni) [.non] [] fR _ := ⟨⟨ocR, odR, _, kVR, dcR, pmR, anR, cdR, ctR, slR, rfl, lR, dR, .inr ⟨nofun, Td, _, [.none], nT, rfl, lT, rfl, .cons rfl .nil⟩, .inl rfl⟩, eR⟩
  obtain ⟨ds4, vd4, b4⟩ := FR.binds1 (ps := psR) 4 1 nofun rfl (fun T kV doc pm an cdv ct us its h1 h2 => match us, its, h1, h2 with | [_, _, _, _], [_], _, _ => ⟨_, rfl, rfl⟩)
  cases (show Vals [] ds4 from vd4)
  obtain ⟨ds3, vd3, b3⟩ := FR.binds1 (ps := psR) 3 0 nofun rfl (fun T kV doc pm an cdv ct us its h1 h2 => match us, its, h1, h2 with | [_, _, _], [_], _, _ => ⟨_, rfl, rfl⟩)
  obtain ⟨dn, edn⟩ : ∃ dn, ds3 = [dn] := by
    cases (show Vals [.non] ds3 from vd3) with
    | cons _ r => cases r; exact ⟨_, rfl⟩
  subst edn
  obtain ⟨its, kb⟩ := FR.kbindsD (ps := psR) 3 ["modes"] (fun vs ds zs => vs ++ zs) nofun (fun r1 r2 r3 => r1.append r3) (fun T kV doc pm an cdv ct us its ws h1 h2 h3 => match us, its, ws, h1, h2, h3 with | [_, _, _], [_], [_], _, _, _ => ⟨_, rfl, rfl⟩)
  have FpI := fun_mk (st := sPInt) lpI dpI epI
  have bpI := FpI.binds (ps := ["thing"]) fun _ _ _ _ _ _ us hl => match us, hl with | [_], _ => rfl
  have FpN := fun_mk (st := sPName) lpN dpN epN
  have bpN := FpN.binds (ps := ["thing"]) fun _ _ _ _ _ _ us hl => match us, hl with | [_], _ => rfl
  have FpS := fun_mk (st := sPSet) lpS dpS epS
  have bpS := FpS.binds (ps := ["thing"]) fun _ _ _ _ _ _ us hl => match us, hl with | [_], _ => rfl
  have FpD := fun_mk (st := sNeed) lpD dpD epD
  have bpD := FpD.binds (ps := ["thing"]) fun _ _ _ _ _ _ us hl => match us, hl with | [_], _ => rfl
  have FpA := fun_mk (st := sPNames) lpA dpA epA
  have bpA := FpA.binds (ps := ["settings"]) fun _ _ _ _ _ _ us hl => match us, hl with | [_], _ => rfl
  have FpG := fun_mk (st := sPGrid) lpG dpG epG
  have bpG := FpG.binds (ps := ["settings"]) fun _ _ _ _ _ _ us hl => match us, hl with | [_], _ => rfl
  have FNu := fun_mk (st := sPNum) lNu dNu eNu
  have bNu := FNu.binds (ps := ["many", "thing"]) fun _ _ _ _ _ _ us hl => match us, hl with | [_, _], _ => rfl
  have FAs := fun_mk (st := sPAsk) lAs dAs eAs
  have bAs := FAs.binds (ps := ["settings", "many", "setting", "nexts"]) fun _ _ _ _ _ _ us hl => match us, hl with | [_, _, _, _], _ => rfl
  have FPl := fun_mk (st := sPPlace) lPl dPl ePl
  have bPl := FPl.binds (ps := ["settings", "many", "thing"]) fun _ _ _ _ _ _ us hl => match us, hl with | [_, _, _], _ => rfl
  have FMo := fun_mk (st := sPMode) lMo dMo eMo
  have bMo := FMo.binds (ps := ["thing"]) fun _ _ _ _ _ _ us hl => match us, hl with | [_], _ => rfl
  have FNP := fun_mk (st := sNPlaces) lNP dNP eNP
  have bNP := FNP.binds (ps := ["settings", "places"]) fun _ _ _ _ _ _ us hl => match us, hl with | [_, _], _ => rfl
  have FNM := fun_mk (st := sNModes) lNM dNM eNM
  have bNM := FNM.binds (ps := ["settings", "modes"]) fun _ _ _ _ _ _ us hl => match us, hl with | [_, _], _ => rfl
  have FBg := fun_mk (st := sBegun) lBg dBg eBg
  have bBg := FBg.binds (ps := ["script"]) fun _ _ _ _ _ _ us hl => match us, hl with | [_], _ => rfl
  have FN := fun_mk (st := sNext) lN dN eN
  have bN := FN.binds (ps := ["m", "many"]) fun _ _ _ _ _ _ us hl => match us, hl with | [_, _], _ => rfl
  have FNa := fun_mk (st := sNames) lNa dNa eNa
  have bNa := FNa.binds (ps := ["m", "many"]) fun _ _ _ _ _ _ us hl => match us, hl with | [_, _], _ => rfl
  have FSe := fun_mk (st := sSettings) lSe dSe eSe
  have bSe := FSe.binds (ps := ["m"]) fun _ _ _ _ _ _ us hl => match us, hl with | [_], _ => rfl
  have FO := fun_mk (st := sOdd) lO dO eO
  have bO := FO.binds (ps := ["m"]) fun _ _ _ _ _ _ us hl => match us, hl with | [_], _ => rfl
  have FB := fun_mk (st := sBent) lB dB eB
  have bB := FB.binds (ps := ["m", "thing"]) fun _ _ _ _ _ _ us hl => match us, hl with | [_, _], _ => rfl
  have FW := fun_mk (st := sIsWhole) lW dW eW
  have bW := FW.binds (ps := ["thing", "least", "most"]) fun _ _ _ _ _ _ us hl => match us, hl with | [_, _, _], _ => rfl
  have FA := fun_mk (st := sIsName) lA dA eA
  have bA := FA.binds (ps := ["thing"]) fun _ _ _ _ _ _ us hl => match us, hl with | [_], _ => rfl
  have FPc := fun_mk (st := sPlaces) lPc dPc ePc
  have bPc := FPc.binds (ps := ["m", "spots", "most"]) fun _ _ _ _ _ _ us hl => match us, hl with | [_, _, _], _ => rfl
  have FMd := fun_mk (st := sModes) lMd dMd eMd
  have bMd := FMd.binds (ps := ["m", "spots"]) fun _ _ _ _ _ _ us hl => match us, hl with | [_, _], _ => rfl
  have FIp := fun_mk (st := sIsPlace) lIp dIp eIp
  have bIp := FIp.binds (ps := ["spots", "thing", "many"]) fun _ _ _ _ _ _ us hl => match us, hl with | [_, _, _], _ => rfl
  have FDu := fun_mk (st := sDue) lDu dDu eDu
  have bDu := FDu.binds (ps := ["spots", "places", "words"]) fun _ _ _ _ _ _ us hl => match us, hl with | [_, _, _], _ => rfl
  have FTo := fun_mk (st := sTold) lTo dTo eTo
  have bTo := FTo.binds (ps := ["call"]) fun _ _ _ _ _ _ us hl => match us, hl with | [_], _ => rfl
  have FL := fun_mk (st := sLaw) lL dL eL
  have TI : TxtI mg fN fM fO fB fW fA fIp := ⟨⟨⟨⟨⟨PySem.W.mg_none_of X G z_list, PySem.W.mg_none_of X G z_len, PySem.W.mg_none_of X G z_int⟩, PySem.W.mg_of X G aN, PySem.W.mg_none_of X G z_range, PySem.W.mg_none_of X G z_tuple, PySem.W.mg_none_of X G z_zip⟩, PySem.W.mg_of X G aNa⟩, PySem.W.mg_of X G aO, PySem.W.mg_of X G aB, PySem.W.mg_none_of X G z_isinstance, PySem.W.mg_none_of X G z_str, PySem.W.mg_none_of X G z_bool⟩, PySem.W.mg_none_of X G z_enumerate, PySem.W.mg_of X G aW, PySem.W.mg_of X G aA, PySem.W.mg_none_of X G z_repr, PySem.W.mg_of X G aIp⟩
  have TP : TxtP mg pI pN pS pA pG := ⟨PySem.W.mg_none_of X G z_isinstance, PySem.W.mg_none_of X G z_int, PySem.W.mg_none_of X G z_bool, PySem.W.mg_none_of X G z_str, PySem.W.mg_none_of X G z_tuple, PySem.W.mg_none_of X G z_len, PySem.W.mg_none_of X G z_all, PySem.W.mg_none_of X G z_range, PySem.W.mg_none_of X G z_enumerate, ⟨_, PySem.W.mg_of X G cMOST_SETTINGS⟩, ⟨_, PySem.W.mg_of X G cMOST_VALUE⟩, ⟨_, PySem.W.mg_of X G cMOST_STANDINGS⟩, ⟨_, PySem.W.mg_of X G cLONGEST_NAME⟩, PySem.W.mg_of X G apI, PySem.W.mg_of X G apN, PySem.W.mg_of X G apS, PySem.W.mg_of X G apA, PySem.W.mg_of X G apG⟩
  have TR : TxtR mg pI pN pS pA pG fNu fAs fPl fMo fNP fNM pD aE aM := ⟨TP, PySem.W.mg_of X G aNu, PySem.W.mg_of X G aAs, PySem.W.mg_of X G aPl, PySem.W.mg_of X G aMo, PySem.W.mg_of X G aNP, PySem.W.mg_of X G aNM, PySem.W.mg_of X G apD, PySem.W.mg_of X G AE, PySem.W.mg_of X G AM, ⟨_, PySem.W.mg_of X G cMOST_PLACES⟩⟩
  have TL : TLq mg fBg fSe fPc fMd fDu fTo C CS CP CM := ⟨PySem.W.mg_of X G aBg, PySem.W.mg_of X G aSe, PySem.W.mg_of X G aPc, PySem.W.mg_of X G aMd, PySem.W.mg_of X G aDu, PySem.W.mg_of X G aTo, PySem.W.mg_of X G AR, PySem.W.mg_of X G AeS, PySem.W.mg_of X G AeP, PySem.W.mg_of X G AeM, PySem.W.mg_none_of X G z_repr, PySem.W.mg_none_of X G z_min⟩
  have cl : Cl4 K C CS CP CM fR := ⟨⟨mkR, IR, fnR, kpR⟩, ⟨⟨pgR, hdR, poR, saR⟩, n0R, n1R, n2R⟩, MeS, XPS, MeP, XMS, XMP, MeM, ⟨XFeS, NeS⟩, ⟨XFeP, NeP⟩, ⟨XFeM, NeM⟩⟩
  exact ok_law TI (PySem.W.mg_none_of X G z_min) TR WT TL cl FL hc (fun s v => .of_eq rfl) FBg bBg FN bN FNa bNa FSe bSe FO bO FB bB FPc bPc FMd bMd FW bW FA bA FIp bIp FDu bDu FTo bTo FR b4 b3 vd3 kb ECeS ECeP ECeM FieS bieS FieP bieP FieM bieM FpI bpI FpN bpN FpS bpS FpA bpA FpG bpG FpD bpD FNu bNu FAs bAs FPl bPl FMo bMo FNP bNP FNM bNM
end Ms
open PySem PySem.W PyProof.Rows
set_option maxRecDepth 100000 in
set_option maxHeartbeats 0 in
theorem PySem.Challenge.cw_midswitch_k05_whole_requests_made_holds : PySem.Challenge.rw_midswitch_k05_whole_requests_made.Holds := by
  w_on; o_law; k_head; (case hw => w_witness2)
  k_fill
  refine' Ms.walk_tabled (l := PySem.Challenge.rw_midswitch_k05_whole_requests_made) rfl rfl (fun w h Y => PySem.W.km_in_of Y) (fun w h Y => PySem.W.km_tabs_of Y _ (List.mem_singleton.mpr rfl)) ?tabHd ?tabNo ?R
  case R =>
    intro w mg fa h KX G hmg
    refine' Ms.all_mk KX G hmg ?AeS ?XeS ?ReS ?SeS ?EeS ?TeS ?KeS ?IeS ?YeS ?NeS ?GeS ?HeS ?DeS ?MeS ?lieS ?dieS ?eieS ?AeP ?XeP ?ReP ?SeP ?EeP ?TeP ?KeP ?IeP ?YeP ?NeP ?GeP ?HeP ?DeP ?MeP ?lieP ?dieP ?eieP ?AeM ?XeM ?ReM ?SeM ?EeM ?TeM ?KeM ?IeM ?YeM ?NeM ?GeM ?HeM ?DeM ?MeM ?lieM ?dieM ?eieM ?XPS ?XMS ?XMP ?AR ?IR ?mkR ?fnR ?kpR ?pgR ?hdR ?poR ?saR ?n0R ?n1R ?n2R ?lR ?dR ?eR ?lT ?AE ?AM ?lE ?lM ?apI ?lpI ?dpI ?epI ?apN ?lpN ?dpN ?epN ?apS ?lpS ?dpS ?epS ?apD ?lpD ?dpD ?epD ?apA ?lpA ?dpA ?epA ?apG ?lpG ?dpG ?epG ?aNu ?lNu ?dNu ?eNu ?aAs ?lAs ?dAs ?eAs ?aPl ?lPl ?dPl ?ePl ?aMo ?lMo ?dMo ?eMo ?aNP ?lNP ?dNP ?eNP ?aNM ?lNM ?dNM ?eNM ?aBg ?lBg ?dBg ?eBg ?aN ?lN ?dN ?eN ?aNa ?lNa ?dNa ?eNa ?aSe ?lSe ?dSe ?eSe ?aO ?lO ?dO ?eO ?aB ?lB ?dB ?eB ?aW ?lW ?dW ?eW ?aA ?lA ?dA ?eA ?aPc ?lPc ?dPc ?ePc ?aMd ?lMd ?dMd ?eMd ?aIp ?lIp ?dIp ?eIp ?aDu ?lDu ?dDu ?eDu ?aTo ?lTo ?dTo ?eTo ?aL ?lL ?dL ?eL ?cMOST_SETTINGS ?cMOST_VALUE ?cMOST_STANDINGS ?cLONGEST_NAME ?cMOST_PLACES ?z_list ?z_len ?z_int ?z_range ?z_tuple ?z_zip ?z_isinstance ?z_str ?z_bool ?z_enumerate ?z_all ?z_repr ?z_min ?eCode
    (case AeS => k_is)
    (case XeS => k_is)
    (case ReS => rfl)
    (case SeS => k_is)
    (case EeS => k_is)
    (case TeS => k_is)
    (case KeS => k_is)
    (case IeS => k_is)
    (case YeS => k_is)
    (case NeS => k_is)
    (case GeS => k_is)
    (case HeS => k_is)
    (case DeS => k_is)
    (case MeS => kernel_rfl)
    (case lieS => k_is)
    (case dieS => k_is)
    (case eieS => k_is)
    (case AeP => k_is)
    (case XeP => k_is)
    (case ReP => rfl)
    (case SeP => k_is)
    (case EeP => k_is)
    (case TeP => k_is)
    (case KeP => k_is)
    (case IeP => k_is)
    (case YeP => k_is)
    (case NeP => k_is)
    (case GeP => k_is)
    (case HeP => k_is)
    (case DeP => k_is)
    (case MeP => kernel_rfl)
    (case lieP => k_is)
    (case dieP => k_is)
    (case eieP => k_is)
    (case AeM => k_is)
    (case XeM => k_is)
    (case ReM => rfl)
    (case SeM => k_is)
    (case EeM => k_is)
    (case TeM => k_is)
    (case KeM => k_is)
    (case IeM => k_is)
    (case YeM => k_is)
    (case NeM => k_is)
    (case GeM => k_is)
    (case HeM => k_is)
    (case DeM => k_is)
    (case MeM => kernel_rfl)
    (case lieM => k_is)
    (case dieM => k_is)
    (case eieM => k_is)
    (case XPS => kernel_rfl)
    (case XMS => kernel_rfl)
    (case XMP => kernel_rfl)
    (case AR => k_is)
    (case IR => k_is)
    (case mkR => k_is)
    (case fnR => k_is)
    (case kpR => k_is)
    (case pgR => k_is)
    (case hdR => k_is)
    (case poR => k_is)
    (case saR => k_is)
    (case n0R => k_is)
    (case n1R => k_is)
    (case n2R => k_is)
    (case lR => k_is)
    (case dR => k_is)
    (case eR => k_is)
    (case lT => k_is)
    (case AE => k_is)
    (case AM => k_is)
    (case lE => k_is)
    (case lM => k_is)
    (case apI => k_is)
    (case lpI => k_is)
    (case dpI => k_is)
    (case epI => k_is)
    (case apN => k_is)
    (case lpN => k_is)
    (case dpN => k_is)
    (case epN => k_is)
    (case apS => k_is)
    (case lpS => k_is)
    (case dpS => k_is)
    (case epS => k_is)
    (case apD => k_is)
    (case lpD => k_is)
    (case dpD => k_is)
    (case epD => k_is)
    (case apA => k_is)
    (case lpA => k_is)
    (case dpA => k_is)
    (case epA => k_is)
    (case apG => k_is)
    (case lpG => k_is)
    (case dpG => k_is)
    (case epG => k_is)
    (case aNu => k_is)
    (case lNu => k_is)
    (case dNu => k_is)
    (case eNu => k_is)
    (case aAs => k_is)
    (case lAs => k_is)
    (case dAs => k_is)
    (case eAs => k_is)
    (case aPl => k_is)
    (case lPl => k_is)
    (case dPl => k_is)
    (case ePl => k_is)
    (case aMo => k_is)
    (case lMo => k_is)
    (case dMo => k_is)
    (case eMo => k_is)
    (case aNP => k_is)
    (case lNP => k_is)
    (case dNP => k_is)
    (case eNP => k_is)
    (case aNM => k_is)
    (case lNM => k_is)
    (case dNM => k_is)
    (case eNM => k_is)
    (case aBg => k_is)
    (case lBg => k_is)
    (case dBg => k_is)
    (case eBg => k_is)
    (case aN => k_is)
    (case lN => k_is)
    (case dN => k_is)
    (case eN => k_is)
    (case aNa => k_is)
    (case lNa => k_is)
    (case dNa => k_is)
    (case eNa => k_is)
    (case aSe => k_is)
    (case lSe => k_is)
    (case dSe => k_is)
    (case eSe => k_is)
    (case aO => k_is)
    (case lO => k_is)
    (case dO => k_is)
    (case eO => k_is)
    (case aB => k_is)
    (case lB => k_is)
    (case dB => k_is)
    (case eB => k_is)
    (case aW => k_is)
    (case lW => k_is)
    (case dW => k_is)
    (case eW => k_is)
    (case aA => k_is)
    (case lA => k_is)
    (case dA => k_is)
    (case eA => k_is)
    (case aPc => k_is)
    (case lPc => k_is)
    (case dPc => k_is)
    (case ePc => k_is)
    (case aMd => k_is)
    (case lMd => k_is)
    (case dMd => k_is)
    (case eMd => k_is)
    (case aIp => k_is)
    (case lIp => k_is)
    (case dIp => k_is)
    (case eIp => k_is)
    (case aDu => k_is)
    (case lDu => k_is)
    (case dDu => k_is)
    (case eDu => k_is)
    (case aTo => k_is)
    (case lTo => k_is)
    (case dTo => k_is)
    (case eTo => k_is)
    (case aL => k_is)
    (case lL => k_is)
    (case dL => k_is)
    (case eL => k_is)
    (case cMOST_SETTINGS => k_is)
    (case cMOST_VALUE => k_is)
    (case cMOST_STANDINGS => k_is)
    (case cLONGEST_NAME => k_is)
    (case cMOST_PLACES => k_is)
    (case z_list => k_is)
    (case z_len => k_is)
    (case z_int => k_is)
    (case z_range => k_is)
    (case z_tuple => k_is)
    (case z_zip => k_is)
    (case z_isinstance => k_is)
    (case z_str => k_is)
    (case z_bool => k_is)
    (case z_enumerate => k_is)
    (case z_all => k_is)
    (case z_repr => k_is)
    (case z_min => k_is)
    (case eCode => rfl)
  case tabHd => intro w; kernel_rfl
  case tabNo => intro w; kernel_rfl
