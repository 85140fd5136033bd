import PyProof.Rows.All
import Wide.All
import OpenK.AllK
import Wide.FinOn
import PyProof.EqAt
import PyProof.EqKinds
import PyProof.TupleCall
import HandS.ForExc
import HandS.ForMost
import HandS.Dict
import HandS.Comp
import HandS.IsInst
import HandS.StrMore
import PyProof.StrBlock2
import HandS.Zip
import HandS.Walk
import KE.GoesNew
import KE.GoesMore
import HandS.TupAny
import HandS.ExcInit
import HandS.ExcField
import HandS.Star
import HandS.Lambda
import HandS.EndTab
import KE.KNest
import KE.KNestM
import PySem.Challenge.RW_midswitch_k01_settings_checked
set_option Elab.async false
set_option linter.all false
set_option maxRecDepth 100000
set_option maxHeartbeats 4000000
namespace Ms
open PySem PySem.Spec PyProof.Rows L2
section
variable {P : Program} {w : World} {K : PySem.W.Frag} {mg : Str → Option Value} {base : Heap}
theorem deeper_guards {A : Around} {env : Env} (h : A.guards = some []) : (A.deeper env).guards = some [] := h
/-- a def is run where it is known that no guard stands (repr asks for that) -/
theorem run_known {x qual : Str} {st : Stmt} {f : Addr} {fd : FuncData} {N ps : List Str} {k : Nat} (F : Fun K x qual st f fd) (S : FnScope N ps (defScope st))
    {A : Around} {outer : List Env} {s : Shared} {H : Hp} {args : Args} {us : List Value} {vs : List V} {Q : VK} {E : XK}
    (gA : A.guards = some []) (rm : Room (k + 1) A) (st0 : Env0 P w K mg base A outer s H) (bd : BindsTo s fd args (ps.zip us)) (rel : Vals vs us) (ln : vs.length = ps.length)
    (walk : ∀ cdv : Value, Room k (A.deeper (envOfC qual (defScope st) s.heap.objs.size f cdv)) →
      ∃ t, PSs (cxOf CX0 P w K mg base N qual (defScope st) f cdv A outer s H E).nox (defBody st) t ∧ t { nx := fun _ H' => Q .non H', rt := Q } (start N vs) H) :
    codeAny (model P w) A (.call (.ref f) args) (CR CX0 outer P w H s Q E) s := by
  obtain ⟨oc, od, kV, doc, pm, an, cdv, ct, osl, rfl, atK, code⟩ := F.ex
  have inH : K.In s.heap := st0.mod.kin.keeps fun b o q => (st0.bs b o q).1
  have noLim : s.heap.NoLimit := st0.mod.nolimit.keeps fun b o q => (st0.bs b o q).1
  have kinds : ∀ y ∈ ps.zip us, (defScope st).names.lookup y.1 = some .local ∨ ((defScope st).names.lookup y.1 = some .cell ∧ ((cellsFrom (s.heap.objs.size + 1) (defScope st).names []).lookup y.1).isSome = true) := by
    rintro ⟨n, v⟩ hy
    rcases S.par n (List.of_mem_zip hy).1 with z | z
    · exact Or.inl z
    · exact Or.inr ⟨z, PySem.W.cellsFrom_some _ _ _ (.inl z)⟩
  refine codeAny_call_function rm.depth (inH _ _ atK) rfl S.co S.gen rfl (PySem.W.codeRec_of inH code) (bd _ _ _ _ ?_)
  refine wpAny_newFunctionEnv_cells S.kind kinds fun env eq s1 inC => ?_
  subst eq
  refine And.intro (noLim.keeps inC.toInCall.keep) (codeAny_func ?_)
  obtain ⟨t, derives, reads⟩ := walk cdv (rm.deeper _)
  have I := inv_start (CX := CX0) (P := P) (mg := mg) (base := base) (E := E) S rm.hd st0 ln rel inC
  refine wpAny_mono (derives.nox.run [] s1 (start N vs) H _ I reads) (fun fl s' hs => ?_) fun e s' hs => hs
  cases fl with
  | ret u =>
    obtain ⟨v, σ', H', J, rv, q⟩ := hs
    exact ⟨v, H', J.os, J.bare, J.base, J.hok, rv, q⟩
  | next =>
    obtain ⟨σ', H', J, q⟩ := hs
    exact ⟨V.non, H', J.os, J.bare, J.base, J.hok, rfl, q⟩
  | brk => obtain ⟨_, _, _, q⟩ := hs; exact q.elim
  | cont => obtain ⟨_, _, _, q⟩ := hs; exact q.elim

/-- what a law's own def has to show: at a list of at most 63 ints it hands back True, where no guard stands -/
def LawRun (P : Program) (w : World) (K : PySem.W.Frag) (mg : Str → Option Value) (fa : Addr) : Prop :=
  ∀ (base : Heap) (H : Hp) (s : Shared) (a : Addr) (ns : List Int), K.In base → base.Ns mainGlobals mg → SqL K H a (ns.map V.int) → ns.length ≤ 63 → Env0 P w K mg base callerA [] s H →
    codeAny (model P w) callerA (.call (.ref fa) ⟨[.ref a], []⟩) (CR CX0 [] P w H s (fun v _ => v = .bl true) fun _ _ _ => False) s
/-- the script stands alone in the heap that is told: in H only at a, if at all -/
structure Alone (H : Hp) (h : Heap) (K : PySem.W.Frag) (a : Addr) : Prop where
  only : Only H
  here : ∀ b, H b ≠ none → b = a
  off : H a ≠ none → K.lookup a = none
theorem Alone.none {H : Hp} {h : Heap} {K : PySem.W.Frag} {a b : Addr} {o p : Obj} (x : Alone H h K a) (e : h.get? b = some o) (ea : h.get? a = some p) (d : o.data ≠ p.data) : H b = none := by
  cases q : H b with
  | none => rfl
  | some u =>
    have z := x.here b (by rw [q]; exact fun z => nomatch z)
    subst z
    rw [ea] at e
    cases e
    exact absurd rfl d
theorem Alone.ns {H : Hp} {h : Heap} {K : PySem.W.Frag} {a b : Addr} {vs : Array Value} {m : Str → Option Value} (x : Alone H h K a) (ea : h.get? a = some { cls := .type "list", data := .seq vs }) (n : h.Ns b m) : (hidT h H).Ns b m := by
  obtain ⟨o, es, ep, e, d, r⟩ := n
  refine ⟨o, es, ep, hidT_get e (x.none e ea ?_), d, r⟩
  rw [d]
  intro z
  cases z
theorem Alone.kin {H : Hp} {h : Heap} {K : PySem.W.Frag} {a : Addr} (x : Alone H h K a) (X : K.In h) : K.In (hidT h H) := by
  intro b o e
  refine hidT_get (X b o e) ?_
  cases q : H b with
  | none => rfl
  | some u =>
    have z := x.here b (by rw [q]; exact fun z => nomatch z)
    subst z
    rw [x.off (by rw [q]; exact fun z => nomatch z)] at e
    cases e
theorem law_ends {fa a : Addr} {s : Shared} {vs : List Value} {ns : List Int} {mb : Str → Option Value} {H : Hp} (R : LawRun P w K mg fa) (al : Alone H s.heap K a)
    (X : K.In s.heap) (g : s.heap.Ns mainGlobals mg) (b : s.heap.Ns builtinsNs mb) (bb : ∀ x : Str, x ≠ "__name__" → mb x = bootBuiltins x) (lim : s.heap.NoLimit) (gs : s.gens = #[])
    (ea : s.heap.get? a = some { cls := .type "list", data := .seq vs.toArray }) (hS : SqL K H a (ns.map V.int)) (hl : ns.length ≤ 63) (ok : HOk P w H s.heap) :
    codeAny (model P w) callerA (.call (.ref fa) ⟨[.ref a], []⟩) (fun r s' => r = .ok (.ret (.bool true)) ∧ OldK s.heap s'.heap ∧ s'.os = s.os ∧ AllBare s'.gens) s := by
  have M : Mod K mg (hidT s.heap H) := by
    refine ⟨al.kin X, al.ns ea g, ⟨mb, al.ns ea b, bb⟩, ?_⟩
    obtain ⟨mc, l1, l2⟩ := lim
    exact ⟨mc, al.ns ea l1, l2⟩
  have st0 : Env0 P w K mg (hidT s.heap H) callerA [] s H := by
    refine ⟨rfl, M, fun b o e => of_hidT e, Nat.le_of_eq (hidT_size _ _), trivial, fun b hb => ?_, ok, AllBare.of_eq gs⟩
    cases (show b ∈ ([] : List Addr) from hb)
  refine codeAny_mono (R _ H s a ns M.kin M.glob hS hl st0) fun r s' q => ?_
  match r, q with
  | .error e, q => exact False.elim q
  | .ok (.next), q => exact False.elim q
  | .ok (.brk), q => exact False.elim q
  | .ok (.cont), q => exact False.elim q
  | .ok (.ret u), q =>
    obtain ⟨v, H', eos, bare, un, ok', rv, qv⟩ := q
    have qv' : v = .bl true := qv
    subst qv'
    obtain rfl : u = Value.bool true := rv
    refine And.intro rfl (And.intro (OldK.of_keep fun c o e => ?_) (And.intro eos bare))
    rcases al.only c with z | ⟨ob, xs, z⟩
    · exact un.keep c o e z (fun y => by cases (show c ∈ ([] : List Addr) from y)) (by simp)
    · have h1 := (ok c _ z).1
      have h2 := (ok' c _ (un.frzs c ob _ z)).1
      rw [e] at h1
      cases h1
      exact h2
theorem law_known {fa a : Addr} {s : Shared} {vs : List Value} {ns : List Int} {mb : Str → Option Value} (R : LawRun P w K mg fa)
    (X : K.In s.heap) (g : s.heap.Ns mainGlobals mg) (b : s.heap.Ns builtinsNs mb) (bb : ∀ x : Str, x ≠ "__name__" → mb x = bootBuiltins x) (lim : s.heap.NoLimit) (gs : s.gens = #[])
    (ea : s.heap.get? a = some { cls := .type "list", data := .seq vs.toArray }) (hi : IntsAre vs ns) (hl : ns.length ≤ 63) :
    codeAny (model P w) callerA (.call (.ref fa) ⟨[.ref a], []⟩) (fun r s' => r = .ok (.ret (.bool true)) ∧ OldK s.heap s'.heap ∧ s'.os = s.os ∧ AllBare s'.gens) s := by
  have rel := vals_ints hi
  have ll := hi.length
  have hl2 : ns.length ≤ sizeLine := Nat.le_trans hl (by decide)
  cases lk : K.lookup a with
  | some o =>
    have e := X a o lk
    rw [ea] at e
    cases e
    refine law_ends (H := fun _ => Option.none) R ⟨fun _ => .inl rfl, fun _ z => absurd rfl z, fun z => absurd rfl z⟩ X g b bb lim gs ea ?_ hl (fun _ _ z => by cases (show (Option.none : Option HO) = some _ from z))
    refine .inr ⟨_, vs.toArray, _, lk, rfl, rfl, rfl, ?_, by simpa using rel⟩
    rw [List.size_toArray, ll]
    exact hl2
  | none =>
    let o0 : HO := .frz { cls := .type "list", data := .seq vs.toArray } (.lst (ns.map V.int))
    have at0 : ∀ c u, (fun c => if c = a then some o0 else Option.none) c = some u → c = a ∧ u = o0 := fun c u z => by
      by_cases hc : c = a
      · have z' := (if_pos hc).symm.trans z
        exact ⟨hc, (Option.some.inj z').symm⟩
      · have z' := (if_neg hc).symm.trans z
        cases z'
    refine law_ends (H := fun c => if c = a then some o0 else Option.none) R ⟨fun c => ?_, fun c z => ?_, fun _ => lk⟩ X g b bb lim gs ea (.inl (.inr ⟨_, if_pos rfl⟩)) hl (fun c u z => ?_)
    · by_cases hc : c = a
      · exact .inr ⟨_, _, if_pos hc⟩
      · exact .inl (if_neg hc)
    · by_cases hc : c = a
      · exact hc
      · exact absurd (if_neg hc) z
    · obtain ⟨hc, hu⟩ := at0 c u z
      subst hc
      subst hu
      exact ⟨ea, by rw [List.length_map]; exact hl2, vs, _, rel, ea⟩
/-- the end of a law's row -/
theorem walk_known {l : PySem.W.OpenLaw} {q : Program} {loose : List Str} {XP : (Str → Option Value) → Heap → Prop} {YP : World → Heap → Prop} {d : DefRec} {K : Params → PySem.W.Frag} (hn : l.most = some 63) (hdf : d.params.defaults = [])
    (hY : ∀ (w : World) (h : Heap), YP w h → (K w.params).In h)
    (R : ∀ (w : World) (mg : Str → Option Value) (fa : Addr) (h : Heap), (K w.params).In h → h.Ns mainGlobals mg → mg d.name = some (.ref fa) → LawRun l.prog w (K w.params) mg fa) :
    PySem.W.WalkO q loose XP YP l.row.toRowW d [] (fun f vs => PySem.call f vs) := by
  refine Att.attach_call hn hdf fun w s₀ s₁ mg mb fa o pm cd doc a vs ns G Y ho hd hcd hmg hobj hints hlen hg => ?_
  have KX := hY w _ Y
  exact law_known (R w mg fa _ KX G.T.g hmg) KX G.T.g G.T.b G.T.builtins G.T.nolimit hg hobj hints hlen
end

/-! ### data, and its repr -/
mutual
/-- v is the data d; its lists and dicts are none of the machine's two -/
inductive Dq (K : PySem.W.Frag) (H : Hp) (m l : Addr) : V → PyData → Prop
  | non : Dq K H m l .non .none
  | bl (b : Bool) : Dq K H m l (.bl b) (.bool b)
  | int (i : Int) : Dq K H m l (.int i) (.int i)
  | str (x : Str) : Dq K H m l (.str x) (.str x)
  | lst {a : Addr} {xs : List V} {ds : List PyData} : H a = some (.lst xs) → a ≠ m → a ≠ l → DqAll K H m l xs ds → Dq K H m l (.ref a) (.list ds)
  | tup {a : Addr} {xs : List V} {ds : List PyData} : SqT K H a xs → DqAll K H m l xs ds → Dq K H m l (.ref a) (.tuple ds)
  | dct {a : Addr} : H a = some (.dK []) → a ≠ m → a ≠ l → Dq K H m l (.ref a) (.dict [])
inductive DqAll (K : PySem.W.Frag) (H : Hp) (m l : Addr) : List V → List PyData → Prop
  | nil : DqAll K H m l [] []
  | cons {v : V} {vs : List V} {d : PyData} {ds : List PyData} : Dq K H m l v d → DqAll K H m l vs ds → DqAll K H m l (v :: vs) (d :: ds)
end
/-- from one heap to another one: what is not the machine's stands, and is not the machine's then -/
structure Kept (m l l' : Addr) (H H' : Hp) : Prop where
  keep : ∀ b o, H b = some o → b ≠ m → b ≠ l → H' b = some o
  ne : ∀ b o, H b = some o → b ≠ l → b ≠ l'
  am : ∃ z, H m = some (.dK z)
  al : ∃ z, H l = some (.lst z)
theorem Kept.tup {K : PySem.W.Frag} {m l l' a : Addr} {H H' : Hp} {xs : List V} (k : Kept m l l' H H') (h : SqT K H a xs) : SqT K H' a xs := by
  obtain ⟨z1, e1⟩ := k.am
  obtain ⟨z2, e2⟩ := k.al
  rcases h with (h | ⟨o, h⟩) | h
  · exact .inl (.inl (k.keep a _ h (ne_of h e1 (by intro z; cases z)) (ne_of h e2 (by intro z; cases z))))
  · exact .inl (.inr ⟨o, k.keep a _ h (ne_of h e1 (by intro z; cases z)) (ne_of h e2 (by intro z; cases z))⟩)
  · exact .inr h
mutual
theorem Dq.step {K : PySem.W.Frag} {m l l' : Addr} {H H' : Hp} (k : Kept m l l' H H') : ∀ (d : PyData) (v : V), Dq K H m l v d → Dq K H' m l' v d
  | .none, _, h => by cases h; exact .non
  | .bool b, _, h => by cases h; exact .bl b
  | .int i, _, h => by cases h; exact .int i
  | .str x, _, h => by cases h; exact .str x
  | .list ds, _, h => by
    cases h with
    | lst e n1 n2 t => exact .lst (k.keep _ _ e n1 n2) n1 (k.ne _ _ e n2) (DqAll.step k ds _ t)
  | .tuple ds, _, h => by
    cases h with
    | tup e t => exact .tup (k.tup e) (DqAll.step k ds _ t)
  | .dict _, _, h => by
    cases h with
    | dct e n1 n2 => exact .dct (k.keep _ _ e n1 n2) n1 (k.ne _ _ e n2)
theorem DqAll.step {K : PySem.W.Frag} {m l l' : Addr} {H H' : Hp} (k : Kept m l l' H H') : ∀ (ds : List PyData) (vs : List V), DqAll K H m l vs ds → DqAll K H' m l' vs ds
  | [], _, h => by cases h; exact .nil
  | d :: ds, _, h => by
    cases h with
    | cons h1 h2 => exact .cons (Dq.step k d _ h1) (DqAll.step k ds _ h2)
end
section
variable {X : Cx} {pins : List (Addr × Obj)} {σ : L2.St} {H : Hp} {s : Shared} {m l : Addr}
mutual
theorem Dq.reads (I : Inv X pins σ H s) (hs : H sysModules = none) : ∀ (d : PyData) (v : V) (u : Value), Dq X.K H m l v d → RelV v u → ∃ as, Reads s.heap u d as ∧ sysModules ∉ as
  | .none, _, _, h, r => by cases h; cases r; exact ⟨_, .none, by simp⟩
  | .bool b, _, _, h, r => by cases h; cases r; exact ⟨_, .bool b, by simp⟩
  | .int i, _, _, h, r => by cases h; obtain ⟨t, rfl⟩ := r; exact ⟨_, .int i t, by simp⟩
  | .str x, _, _, h, r => by cases h; obtain ⟨t, rfl⟩ := r; exact ⟨_, .str x t, by simp⟩
  | .list ds, _, _, h, r => by
    cases h with
    | lst e n1 n2 t =>
      cases r
      obtain ⟨its, rv, ⟨o, n, ho, hc, _, hd⟩, _⟩ := I.list (SqL.of e)
      obtain ⟨as, q1, q2⟩ := DqAll.reads I hs ds _ its t rv
      refine ⟨_, Reads.list ho hc hd q1, fun z => ?_⟩
      rcases List.mem_cons.mp z with z | z
      · rw [← z, hs] at e; cases e
      · exact q2 z
  | .tuple ds, _, _, h, r => by
    cases h with
    | tup e t =>
      cases r
      obtain ⟨its, rv, ⟨o, ho, hc, n, hd⟩, _⟩ := I.tuple e
      obtain ⟨as, q1, q2⟩ := DqAll.reads I hs ds _ its t rv
      exact ⟨_, Reads.tuple ho hc hd q1, q2⟩
  | .dict _, _, _, h, r => by
    cases h with
    | dct e n1 n2 =>
      cases r
      obtain ⟨z, hd, vs, rel, dd⟩ := dk_of I.hok e
      cases rel
      obtain ⟨o, es, ep, ho, hc, hdat, hlay⟩ := id dd
      have e0 : es.toList = [] := by
        have p := hlay.2.1
        cases q : es.toList with
        | nil => rfl
        | cons z zs => rw [q] at p; cases p
      refine ⟨_, Reads.dict (as := []) (bs := []) ho hc.1 hdat ?_ ?_, ?_⟩
      · rw [e0]; exact .nil
      · rw [e0]; exact .nil
      · intro z
        have z2 := List.mem_singleton.mp (show sysModules ∈ [_] from z)
        rw [← z2, hs] at e
        cases e
theorem DqAll.reads (I : Inv X pins σ H s) (hs : H sysModules = none) : ∀ (ds : List PyData) (vs : List V) (us : List Value), DqAll X.K H m l vs ds → Vals vs us → ∃ as, ReadsAll s.heap us ds as ∧ sysModules ∉ as
  | [], _, _, h, r => by cases h; cases r; exact ⟨_, .nil, by simp⟩
  | d :: ds, _, _, h, r => by
    cases h with
    | cons h1 h2 =>
      cases r with
      | cons r1 r2 =>
        obtain ⟨as, q1, p1⟩ := Dq.reads I hs d _ _ h1 r1
        obtain ⟨bs, q2, p2⟩ := DqAll.reads I hs ds _ _ h2 r2
        exact ⟨_, .cons q1 q2, fun z => (List.mem_append.mp z).elim p1 p2⟩
end
theorem no_sys {o : Obj} (hk : X.K.lookup sysModules = some o) (I : Inv X pins σ H s) : H sysModules = none := (I.bs _ _ (I.ok.mod.kin _ _ hk)).2
end
/-- repr(x) -/
theorem call_repr {X : Cx} {o : Obj} (hg : X.A.guards = some []) (hu : X.A.units + 64 < cLine) (hk : X.K.lookup sysModules = some o) :
    CallR X (.builtin "repr") (fun xs H Q => ∃ x d m l, xs = [x] ∧ Dq X.K H m l x d ∧ d.showable = true ∧ d.depth ≤ 60 ∧ d.shown.length ≤ sizeLine ∧ Q (.str d.shown) H) := by
  intro pins s σ H xs us Q I r h
  obtain ⟨x, d, m, l, rfl, hd, hs, hdep, hlen, q⟩ := h
  obtain ⟨u, rfl, rx⟩ := vals1 r
  obtain ⟨as, rd, na⟩ := Dq.reads I (no_sys hk I) d x u hd rx
  cases rd with
  | none => exact PySem.P.repr_of_none ⟨V.str _, H, I.tok _, ⟨_, rfl⟩, by simpa only [PyData.shown] using q⟩
  | bool b => exact PySem.P.repr_of_bool ⟨V.str _, H, I.tok _, ⟨_, rfl⟩, by simpa only [PyData.shown] using q⟩
  | int i t => exact PySem.P.repr_of_int (by simpa [PyData.showable] using hs) ⟨V.str _, H, I.tok _, ⟨_, rfl⟩, by simpa only [PyData.shown] using q⟩
  | str y t => exact PySem.P.repr_of_str ⟨V.str _, H, I.tok _, ⟨_, rfl⟩, by simpa only [PyData.shown] using q⟩ (by simpa only [PyData.shown] using hlen)
  | list h1 h2 h3 h4 => exact repr_of_reads' (.list h1 h2 h3 h4) hs (fun _ => na) hg (by omega) (fun _ _ e => e) (fun h' u' tk k => ⟨V.str _, H, I.kept k, ⟨_, rfl⟩, q⟩) hlen
  | tuple h1 h2 h3 h4 => exact repr_of_reads' (.tuple h1 h2 h3 h4) hs (fun _ => na) hg (by omega) (fun _ _ e => e) (fun h' u' tk k => ⟨V.str _, H, I.kept k, ⟨_, rfl⟩, q⟩) hlen
  | dict h1 h2 h3 h4 h5 => exact repr_of_reads' (.dict h1 h2 h3 h4 h5) hs (fun _ => na) hg (by omega) (fun _ _ e => e) (fun h' u' tk k => ⟨V.str _, H, I.kept k, ⟨_, rfl⟩, q⟩) hlen

/-! ### the same, of data that is a dict or bears none -/
def plainD : PyData → Bool
  | .dict [] => true
  | d => !d.hasDict
section
variable {X : Cx} {pins : List (Addr × Obj)} {σ : L2.St} {H : Hp} {s : Shared} {m l : Addr}
mutual
theorem Dq.reads0 (I : Inv X pins σ H s) : ∀ (d : PyData) (v : V) (u : Value), Dq X.K H m l v d → RelV v u → ∃ as, Reads s.heap u d as ∧ (d = .dict [] → sysModules ∉ as)
  | .none, _, _, h, r => by cases h; cases r; exact ⟨_, .none, by simp⟩
  | .bool b, _, _, h, r => by cases h; cases r; exact ⟨_, .bool b, by simp⟩
  | .int i, _, _, h, r => by cases h; obtain ⟨t, rfl⟩ := r; exact ⟨_, .int i t, by simp⟩
  | .str x, _, _, h, r => by cases h; obtain ⟨t, rfl⟩ := r; exact ⟨_, .str x t, by simp⟩
  | .list ds, _, _, h, r => by
    cases h with
    | lst e n1 n2 t =>
      cases r
      obtain ⟨its, rv, ⟨o, n, ho, hc, _, hd⟩, _⟩ := I.list (SqL.of e)
      obtain ⟨as, q1⟩ := DqAll.reads0 I ds _ its t rv
      exact ⟨_, Reads.list ho hc hd q1, fun z => nomatch z⟩
  | .tuple ds, _, _, h, r => by
    cases h with
    | tup e t =>
      cases r
      obtain ⟨its, rv, ⟨o, ho, hc, n, hd⟩, _⟩ := I.tuple e
      obtain ⟨as, q1⟩ := DqAll.reads0 I ds _ its t rv
      exact ⟨_, Reads.tuple ho hc hd q1, fun z => nomatch z⟩
  | .dict _, _, _, h, r => by
    cases h with
    | dct e n1 n2 =>
      cases r
      obtain ⟨z, hd, vs, rel, dd⟩ := dk_of I.hok e
      cases rel
      obtain ⟨o, es, ep, ho, hc, hdat, hlay⟩ := id dd
      have e0 : es.toList = [] := by
        have p := hlay.2.1
        cases q : es.toList with
        | nil => rfl
        | cons z zs => rw [q] at p; cases p
      refine ⟨_, Reads.dict (as := []) (bs := []) ho hc.1 hdat ?_ ?_, fun _ z => ?_⟩
      · rw [e0]; exact .nil
      · rw [e0]; exact .nil
      · have z2 := List.mem_singleton.mp (show sysModules ∈ [_] from z)
        rw [← z2] at hd
        exact absurd hd (by decide)
theorem DqAll.reads0 (I : Inv X pins σ H s) : ∀ (ds : List PyData) (vs : List V) (us : List Value), DqAll X.K H m l vs ds → Vals vs us → ∃ as, ReadsAll s.heap us ds as
  | [], _, _, h, r => by cases h; cases r; exact ⟨_, .nil⟩
  | d :: ds, _, _, h, r => by
    cases h with
    | cons h1 h2 =>
      cases r with
      | cons r1 r2 =>
        obtain ⟨as, q1, p1⟩ := Dq.reads0 I d _ _ h1 r1
        obtain ⟨bs, q2⟩ := DqAll.reads0 I ds _ _ h2 r2
        exact ⟨_, .cons q1 q2⟩
end
end
theorem plain_off {d : PyData} {as : List Addr} (p : plainD d = true) (h : d = .dict [] → sysModules ∉ as) : d.hasDict = true → sysModules ∉ as := fun z => by
  cases d with
  | dict kvs =>
    cases kvs with
    | nil => exact h rfl
    | cons a b =>
      have p' : (!(PyData.dict (a :: b)).hasDict) = true := p
      rw [z] at p'
      cases p'
  | _ =>
    have p' := p
    simp only [plainD, Bool.not_eq_true'] at p'
    rw [z] at p'
    cases p'
theorem call_repr0 {X : Cx} (hg : X.A.guards = some []) (hu : X.A.units + 64 < cLine) :
    CallR X (.builtin "repr") (fun xs H Q => ∃ x d m l, xs = [x] ∧ Dq X.K H m l x d ∧ plainD d = true ∧ d.showable = true ∧ d.depth ≤ 60 ∧ d.shown.length ≤ sizeLine ∧ Q (.str d.shown) H) := by
  intro pins s σ H xs us Q I r h
  obtain ⟨x, d, m, l, rfl, hd, hp, hs, hdep, hlen, q⟩ := h
  obtain ⟨u, rfl, rx⟩ := vals1 r
  obtain ⟨as, rd, na0⟩ := Dq.reads0 I d x u hd rx
  have na := plain_off hp na0
  cases rd with
  | none => exact PySem.P.repr_of_none ⟨V.str _, H, I.tok _, ⟨_, rfl⟩, by simpa only [PyData.shown] using q⟩
  | bool b => exact PySem.P.repr_of_bool ⟨V.str _, H, I.tok _, ⟨_, rfl⟩, by simpa only [PyData.shown] using q⟩
  | int i t => exact PySem.P.repr_of_int (by simpa [PyData.showable] using hs) ⟨V.str _, H, I.tok _, ⟨_, rfl⟩, by simpa only [PyData.shown] using q⟩
  | str y t => exact PySem.P.repr_of_str ⟨V.str _, H, I.tok _, ⟨_, rfl⟩, by simpa only [PyData.shown] using q⟩ (by simpa only [PyData.shown] using hlen)
  | list h1 h2 h3 h4 => exact repr_of_reads' (.list h1 h2 h3 h4) hs na hg (by omega) (fun _ _ e => e) (fun h' u' tk k => ⟨V.str _, H, I.kept k, ⟨_, rfl⟩, q⟩) hlen
  | tuple h1 h2 h3 h4 => exact repr_of_reads' (.tuple h1 h2 h3 h4) hs na hg (by omega) (fun _ _ e => e) (fun h' u' tk k => ⟨V.str _, H, I.kept k, ⟨_, rfl⟩, q⟩) hlen
  | dict h1 h2 h3 h4 h5 => exact repr_of_reads' (.dict h1 h2 h3 h4 h5) hs na hg (by omega) (fun _ _ e => e) (fun h' u' tk k => ⟨V.str _, H, I.kept k, ⟨_, rfl⟩, q⟩) hlen
end Ms
namespace Ms
open PySem PySem.Spec PyProof.Rows L2
/-! ### repr of any such data: no dict of it is the interpreter's own, and that is all that is asked -/
section
variable {X : Cx} {pins : List (Addr × Obj)} {σ : L2.St} {H : Hp} {s : Shared} {m l : Addr}
mutual
theorem Dq.shows (I : Inv X pins σ H s) : ∀ (d : PyData) (v : V) (u : Value), Dq X.K H m l v d → RelV v u → d.showable = true → d.shown.length ≤ sizeLine →
    ∃ as bs, Reads s.heap u d as ∧ ReadAtMost s.heap d.depth bs ∧ ReprK X.prog X.w bs s.heap d.depth u d.shown
  | .none, _, _, h, r, hs, hz => by
    cases h; cases r
    obtain ⟨bs, p, q⟩ := ReprK.of_reads (prog := X.prog) (w := X.w) (h₀ := s.heap) .none hs (fun z => by simp [PyData.hasDict] at z) hz
    exact ⟨_, bs, .none, p, q⟩
  | .bool b, _, _, h, r, hs, hz => by
    cases h; cases r
    obtain ⟨bs, p, q⟩ := ReprK.of_reads (prog := X.prog) (w := X.w) (h₀ := s.heap) (.bool b) hs (fun z => by simp [PyData.hasDict] at z) hz
    exact ⟨_, bs, .bool b, p, q⟩
  | .int i, _, _, h, r, hs, hz => by
    cases h; obtain ⟨t, rfl⟩ := r
    obtain ⟨bs, p, q⟩ := ReprK.of_reads (prog := X.prog) (w := X.w) (h₀ := s.heap) (.int i t) hs (fun z => by simp [PyData.hasDict] at z) hz
    exact ⟨_, bs, .int i t, p, q⟩
  | .str x, _, _, h, r, hs, hz => by
    cases h; obtain ⟨t, rfl⟩ := r
    obtain ⟨bs, p, q⟩ := ReprK.of_reads (prog := X.prog) (w := X.w) (h₀ := s.heap) (.str x t) hs (fun z => by simp [PyData.hasDict] at z) hz
    exact ⟨_, bs, .str x t, p, q⟩
  | .list ds, _, _, h, r, hs, hz => by
    cases h with
    | lst e n1 n2 t =>
      cases r
      obtain ⟨its, rv, ⟨o, n, ho, hc, _, hd⟩, _⟩ := I.list (SqL.of e)
      have fits : (listText (PyData.shownAll ds)).length ≤ sizeLine := by simpa only [PyData.shown] using hz
      obtain ⟨as, bs, r1, p, q⟩ := DqAll.shows I ds _ its t rv (by simpa [PyData.showable] using hs) fun x hx => Nat.le_trans (listText_mem_le hx) fits
      have rd := Reads.list ho hc hd r1
      have off := not_mem_of_deeper rd (by simp only [PyData.depth]; omega) p
      refine ⟨_, _, rd, ReadAtMost.cons rd (by simp only [PyData.depth]; omega) p, ?_⟩
      simp only [PyData.depth, PyData.shown]
      cases its with
      | nil =>
        cases r1
        simp only [PyData.shownAll, listText_nil]
        exact ReprK.listEmpty ho hc hd
      | cons y ys => exact ReprK.list ho hc hd off (by simpa using q.length_eq) fun i z e => q.item i z (by simpa using e)
  | .tuple ds, _, _, h, r, hs, hz => by
    cases h with
    | tup e t =>
      cases r
      obtain ⟨its, rv, ⟨o, ho, hc, n, hd⟩, _⟩ := I.tuple e
      have fits : (tupleText (PyData.shownAll ds)).length ≤ sizeLine := by simpa only [PyData.shown] using hz
      obtain ⟨as, bs, r1, p, q⟩ := DqAll.shows I ds _ its t rv (by simpa [PyData.showable] using hs) fun x hx => Nat.le_trans (tupleText_mem_le hx) fits
      have rd := Reads.tuple ho hc hd r1
      have off := not_mem_of_deeper rd (by simp only [PyData.depth]; omega) p
      refine ⟨_, _, rd, ReadAtMost.cons rd (by simp only [PyData.depth]; omega) p, ?_⟩
      simp only [PyData.depth, PyData.shown]
      exact ReprK.tuple ho hc hd off q
  | .dict kvs, v, u, h, r, hs, hz => by
    obtain ⟨as, rd, na⟩ := Dq.reads0 I (.dict kvs) v u h r
    cases h with
    | dct e n1 n2 =>
      obtain ⟨bs, p, q⟩ := ReprK.of_reads (prog := X.prog) (w := X.w) rd hs (fun _ => na rfl) hz
      exact ⟨as, bs, rd, p, q⟩
theorem DqAll.shows (I : Inv X pins σ H s) : ∀ (ds : List PyData) (vs : List V) (us : List Value), DqAll X.K H m l vs ds → Vals vs us → PyData.showableAll ds = true → (∀ t ∈ PyData.shownAll ds, t.length ≤ sizeLine) →
    ∃ as bs, ReadsAll s.heap us ds as ∧ ReadAtMost s.heap (PyData.depthAll ds) bs ∧ ReprAllK X.prog X.w bs s.heap (PyData.depthAll ds) us (PyData.shownAll ds)
  | [], _, _, h, r, _, _ => by
    cases h; cases r
    exact ⟨_, [], .nil, (fun _ z => nomatch z), by simp only [PyData.shownAll]; exact .nil⟩
  | d :: ds, _, _, h, r, hs, hz => by
    cases h with
    | cons h1 h2 =>
      cases r with
      | cons r1 r2 =>
        have both : d.showable = true ∧ PyData.showableAll ds = true := by simpa [PyData.showableAll] using hs
        obtain ⟨as1, bs1, rd1, p1, q1⟩ := Dq.shows I d _ _ h1 r1 both.1 (hz _ (by simp only [PyData.shownAll]; exact List.mem_cons_self ..))
        obtain ⟨as2, bs2, rd2, p2, q2⟩ := DqAll.shows I ds _ _ h2 r2 both.2 (fun x hx => hz x (by simp only [PyData.shownAll]; exact List.mem_cons_of_mem _ hx))
        refine ⟨_, bs1 ++ bs2, .cons rd1 rd2, ?_, ?_⟩
        · simp only [PyData.depthAll]
          exact (p1.mono (Nat.le_max_left _ _)).append (p2.mono (Nat.le_max_right _ _))
        · simp only [PyData.depthAll, PyData.shownAll]
          exact .cons ((q1.more fun b hb => List.mem_append_left _ hb).level_le (Nat.le_max_left _ _)) (q2.more_le (fun b hb => List.mem_append_right _ hb) (Nat.le_max_right _ _))
end
end
/-- repr(x) -/
theorem call_reprD {X : Cx} (hg : X.A.guards = some []) (hu : X.A.units + 64 < cLine) :
    CallR X (.builtin "repr") (fun xs H Q => ∃ x d m l, xs = [x] ∧ Dq X.K H m l x d ∧ d.showable = true ∧ d.depth ≤ 60 ∧ d.shown.length ≤ sizeLine ∧ Q (.str d.shown) H) := by
  intro pins s σ H xs us Q I r h
  obtain ⟨x, d, m, l, rfl, hd, hs, hdep, hlen, q⟩ := h
  cases d with
  | list ds =>
    obtain ⟨u, rfl, rx⟩ := vals1 r
    cases hd with
    | lst e n1 n2 t =>
      cases rx
      obtain ⟨its, rv, ⟨o, n, ho, hc, _, hdt⟩, _⟩ := I.list (SqL.of e)
      have fits : (listText (PyData.shownAll ds)).length ≤ sizeLine := by simpa only [PyData.shown] using hlen
      obtain ⟨as, bs, r1, p, k⟩ := DqAll.shows I ds _ its t rv (by simpa [PyData.showable] using hs) fun y hy => Nat.le_trans (listText_mem_le hy) fits
      have rd := Reads.list ho hc hdt r1
      have off := not_mem_of_deeper rd (by simp only [PyData.depth]; omega) p
      simp only [PyData.depth] at hdep
      refine call_repr_slot (by omega) ⟨o, ho, hc⟩ F.slot_list_repr.toG ?_
      have fin : ∀ (h' : Heap) (u : Tok) (tk : Nat), (∀ b o, s.heap.get? b = some o → h'.get? b = some o) → ∃ x t, Value.str (PyData.list ds).shown u = Value.str x t ∧ EP X pins σ Q (Value.str (PyData.list ds).shown u) { s with heap := h', toks := tk } := fun h' u tk k => ⟨_, _, rfl, V.str _, H, I.kept k, ⟨_, rfl⟩, q⟩
      simp only [PyData.shown] at fin
      cases its with
      | nil =>
        cases r1
        simp only [PyData.shownAll, listText_nil] at fin
        exact call_list_repr_empty ⟨o, ho, hc⟩ ho hdt (fin s.heap _ _ fun _ _ e => e)
      | cons y ys =>
        exact call_list_reprK ho hc hdt off (by simpa using k.length_eq) (fun i z e => k.item i z (by simpa using e)) hg (fun b _ => Clear.nil b) (by show X.A.units + 1 + _ < cLine; omega) (fun _ _ e => e) (fun h' u tk k => fin h' u tk k) fits
  | tuple ds =>
    obtain ⟨u, rfl, rx⟩ := vals1 r
    cases hd with
    | tup e t =>
      cases rx
      obtain ⟨its, rv, ⟨o, ho, hc, n, hdt⟩, _⟩ := I.tuple e
      have fits : (tupleText (PyData.shownAll ds)).length ≤ sizeLine := by simpa only [PyData.shown] using hlen
      obtain ⟨as, bs, r1, p, k⟩ := DqAll.shows I ds _ its t rv (by simpa [PyData.showable] using hs) fun y hy => Nat.le_trans (tupleText_mem_le hy) fits
      have rd := Reads.tuple ho hc hdt r1
      have off := not_mem_of_deeper rd (by simp only [PyData.depth]; omega) p
      simp only [PyData.depth] at hdep
      refine call_repr_slot (by omega) ⟨o, ho, hc⟩ F.slot_tuple_repr ?_
      have fin : ∀ (h' : Heap) (u : Tok) (tk : Nat), (∀ b o, s.heap.get? b = some o → h'.get? b = some o) → ∃ x t, Value.str (PyData.tuple ds).shown u = Value.str x t ∧ EP X pins σ Q (Value.str (PyData.tuple ds).shown u) { s with heap := h', toks := tk } := fun h' u tk k => ⟨_, _, rfl, V.str _, H, I.kept k, ⟨_, rfl⟩, q⟩
      simp only [PyData.shown] at fin
      exact call_tuple_reprK ho hc hdt off k hg (fun b _ => Clear.nil b) (by show X.A.units + 1 + _ < cLine; omega) (fun _ _ e => e) (fun h' u tk k => fin h' u tk k) fits
  | dict kvs =>
    cases hd with
    | dct e n1 n2 => exact call_repr0 hg hu pins s σ H [.ref _] us Q I r ⟨_, _, m, l, rfl, .dct e n1 n2, rfl, hs, hdep, hlen, q⟩
  | none => exact call_repr0 hg hu pins s σ H [x] us Q I r ⟨x, _, m, l, rfl, hd, by simp [plainD, PyData.hasDict], hs, hdep, hlen, q⟩
  | bool b => exact call_repr0 hg hu pins s σ H [x] us Q I r ⟨x, _, m, l, rfl, hd, by simp [plainD, PyData.hasDict], hs, hdep, hlen, q⟩
  | int i => exact call_repr0 hg hu pins s σ H [x] us Q I r ⟨x, _, m, l, rfl, hd, by simp [plainD, PyData.hasDict], hs, hdep, hlen, q⟩
  | str y => exact call_repr0 hg hu pins s σ H [x] us Q I r ⟨x, _, m, l, rfl, hd, by simp [plainD, PyData.hasDict], hs, hdep, hlen, q⟩
end Ms
namespace Ms
open PySem PySem.Spec PyProof.Rows L2
/-! ### data of bounded size -/
mutual
/-- ints within B, signs that are code points, dicts that are empty -/
def okD (B : Nat) : PyData → Bool
  | .none | .bool _ => true
  | .int i => decide (i.natAbs ≤ B)
  | .str x => x.cps.toList.all fun c => decide (c < 0x110000)
  | .list xs | .tuple xs => okAll B xs
  | .dict kvs => kvs.isEmpty
def okAll (B : Nat) : List PyData → Bool
  | [] => true
  | x :: xs => okD B x && okAll B xs
end
theorem okAll_iff {B : Nat} : ∀ {xs : List PyData}, okAll B xs = true ↔ ∀ x ∈ xs, okD B x = true
  | [] => by simp [okAll]
  | x :: xs => by simp [okAll, okAll_iff (xs := xs)]
mutual
theorem okD_mono {B C : Nat} (h : B ≤ C) : ∀ d : PyData, okD B d = true → okD C d = true
  | .none, _ => rfl
  | .bool _, _ => rfl
  | .int i, e => by simp only [okD, decide_eq_true_eq] at e ⊢; omega
  | .str x, e => by simpa only [okD] using e
  | .list xs, e => by simp only [okD] at e ⊢; exact okAll_mono h xs e
  | .tuple xs, e => by simp only [okD] at e ⊢; exact okAll_mono h xs e
  | .dict kvs, e => by simpa only [okD] using e
theorem okAll_mono {B C : Nat} (h : B ≤ C) : ∀ xs : List PyData, okAll B xs = true → okAll C xs = true
  | [], _ => rfl
  | x :: xs, e => by
    simp only [okAll, Bool.and_eq_true] at e ⊢
    exact ⟨okD_mono h x e.1, okAll_mono h xs e.2⟩
end
theorem log_small {i : Int} (h : i.natAbs ≤ 10 ^ 31) : i.natAbs.log2 < 1920 := by
  by_cases z : i.natAbs = 0
  · rw [z]; decide
  · have h1 : i.natAbs < 2 ^ 103 := by
      have e : (10 : Nat) ^ 31 < 2 ^ 103 := by decide
      omega
    have := (Nat.log2_lt z).mpr h1
    omega
theorem int_short {i : Int} (h : i.natAbs ≤ 10 ^ 31) : (PyData.shown (.int i)).length ≤ 64 := by
  have e := int_text_length_le10 (k := 32) (by decide) (show i.natAbs < 10 ^ 32 by
    have z : (10 : Nat) ^ 31 < 10 ^ 32 := by decide
    omega)
  show (Str.ofString (toString i)).length ≤ 64
  rw [PySem.ofString_length]
  omega
mutual
theorem ok_shows : ∀ d : PyData, okD (10 ^ 31) d = true → d.showable = true ∧ d.leavesShort 64 = true
  | .none, _ => ⟨rfl, rfl⟩
  | .bool _, _ => ⟨rfl, rfl⟩
  | .int i, e => by
    simp only [okD, decide_eq_true_eq] at e
    simp only [PyData.showable, PyData.leavesShort, decide_eq_true_eq]
    exact ⟨log_small e, int_short e⟩
  | .str x, e => by
    simp only [okD, List.all_eq_true, decide_eq_true_eq] at e
    refine ⟨rfl, ?_⟩
    simp only [PyData.leavesShort, List.all_eq_true, decide_eq_true_eq]
    intro c hc
    have := e c hc
    have z : (0x110000 : Nat) < 16 ^ 8 := by decide
    omega
  | .list xs, e => by
    simp only [okD] at e
    simp only [PyData.showable, PyData.leavesShort]
    exact okAll_shows xs e
  | .tuple xs, e => by
    simp only [okD] at e
    simp only [PyData.showable, PyData.leavesShort]
    exact okAll_shows xs e
  | .dict [], _ => ⟨rfl, rfl⟩
  | .dict (a :: b), e => by simp [okD] at e
theorem okAll_shows : ∀ xs : List PyData, okAll (10 ^ 31) xs = true → PyData.showableAll xs = true ∧ PyData.leavesShortAll 64 xs = true
  | [], _ => ⟨rfl, rfl⟩
  | x :: xs, e => by
    simp only [okAll, Bool.and_eq_true] at e
    obtain ⟨h1, h2⟩ := ok_shows x e.1
    obtain ⟨h3, h4⟩ := okAll_shows xs e.2
    simp only [PyData.showableAll, PyData.leavesShortAll, h1, h2, h3, h4, Bool.and_self, and_self]
end
/-- data within B, of weight at most a, of depth at most b -/
structure Gd (B a b : Nat) (d : PyData) : Prop where
  ok : okD B d = true
  wt : d.weight ≤ a
  dp : d.depth ≤ b
theorem Gd.mono {B a b B' a' b' : Nat} {d : PyData} (g : Gd B a b d) (h1 : B ≤ B') (h2 : a ≤ a') (h3 : b ≤ b') : Gd B' a' b' d := ⟨okD_mono h1 d g.ok, Nat.le_trans g.wt h2, Nat.le_trans g.dp h3⟩
theorem Gd.shown {a b : Nat} {d : PyData} (g : Gd (10 ^ 31) a b d) (ha : a ≤ 200000) : d.showable = true ∧ d.shown.length ≤ sizeLine := by
  obtain ⟨h1, h2⟩ := ok_shows d g.ok
  refine ⟨h1, ?_⟩
  have h := PyData.shown_le 64 (by decide) d h2
  have w := g.wt
  rw [sizeLine_eq]
  omega
end Ms
namespace Ms
open PySem PySem.Spec PyProof.Rows L2
/-! ### the machine of draws: a dict with the cells, what is left of the great ones, and a count -/
def kvM (c l : Addr) (n : Int) : List (Key × V) := [(.inr "cells", .ref c), (.inr "left", .ref l), (.inr "at", .int n)]
structure Mch (H : Hp) (m l : Addr) (n : Nat) : Prop where
  ex : ∃ (c : Addr) (cs ls : List Int) (z : Int), H m = some (.dK (kvM c l z)) ∧ H c = some (.lst (cs.map V.int)) ∧ H l = some (.lst (ls.map V.int)) ∧ c ≠ l ∧ 0 ≤ z ∧ z ≤ (n : Int) ∧ cs.length ≤ 63 ∧ ls.length ≤ 63
/-- behind a step: all but the machine's own dict and list stand as before -/
structure Fr (m l l' : Addr) (H H' : Hp) : Prop where
  keep : ∀ b o, H b = some o → b ≠ m → b ≠ l → H' b = some o
  new : l' = l ∨ H l' = none
  dom : ∀ b, H b ≠ none → H' b ≠ none
theorem Mch.mm {H : Hp} {m l : Addr} {n : Nat} (M : Mch H m l n) : H m ≠ none := by
  obtain ⟨c, cs, ls, z, h, _⟩ := M.ex
  rw [h]; exact fun z => nomatch z
theorem Fr.refl {m l : Addr} {H : Hp} {n : Nat} (M : Mch H m l n) : Fr m l l H H := ⟨fun _ _ e _ _ => e, .inl rfl, fun _ h => h⟩
theorem upd_dom {H : Hp} {p b : Addr} {o : HO} (h : H b ≠ none) : (upd H p o) b ≠ none := by
  by_cases e : b = p
  · rw [e, upd_same]; exact fun z => nomatch z
  · rw [upd_ne e]; exact h
theorem Fr.free {m l l' p : Addr} {H H' : Hp} (f : Fr m l l' H H') (hp : H' p = none) : H p = none := by
  cases q : H p with
  | none => rfl
  | some o => exact absurd hp (f.dom p (by rw [q]; exact fun z => nomatch z))
theorem Fr.trans {m l l' l'' : Addr} {H H' H'' : Hp} (f : Fr m l l' H H') (g : Fr m l' l'' H' H'') : Fr m l l'' H H'' := by
  have hl : ∀ b o, H b = some o → b ≠ m → b ≠ l → b ≠ l' := fun b o e hm hl => by
    rcases f.new with z | z
    · rw [z]; exact hl
    · exact ne_of_none e z
  refine ⟨fun b o e hm hb => g.keep b o (f.keep b o e hm hb) hm (hl b o e hm hb), ?_, fun b h => g.dom b (f.dom b h)⟩
  rcases g.new with z | z
  · rw [z]; exact f.new
  · exact .inr (f.free z)
theorem Mch.mono {H : Hp} {m l : Addr} {n k : Nat} (M : Mch H m l n) (h : n ≤ k) : Mch H m l k := by
  obtain ⟨c, cs, ls, z, h1, h2, h3, h4, h5, h6, h7⟩ := M.ex
  exact ⟨c, cs, ls, z, h1, h2, h3, h4, h5, by omega, h7⟩
def spBegun (K : PySem.W.Frag) : Sp := fun vs H Q _ => ∃ (a : Addr) (ns : List Int), vs = [.ref a] ∧ SqL K H a (ns.map V.int) ∧ ns.length ≤ 63 ∧
  ∀ (m l : Addr) (H' : Hp), H m = none → H l = none → Same H H' → Mch H' m l 0 → Q (.ref m) H'
structure Txt (mg : Str → Option Value) : Prop where
  list : mg "list" = none
  len : mg "len" = none
  int : mg "int" = none
section
variable {P : Program} {w : World} {K : PySem.W.Frag} {mg : Str → Option Value} {base : Heap}
/-! ### _law_next -/
structure MS (H : Hp) (m c l : Addr) (cs ls : List Int) (z : Int) : Prop where
  dm : H m = some (.dK (kvM c l z))
  dc : H c = some (.lst (cs.map V.int))
  dl : H l = some (.lst (ls.map V.int))
  ne : c ≠ l
theorem MS.junk {H : Hp} {m c l p : Addr} {cs ls : List Int} {z : Int} {o : HO} (S : MS H m c l cs ls z) (hp : H p = none) : MS (upd H p o) m c l cs ls z :=
  ⟨by rw [upd_ne (ne_of_none S.dm hp)]; exact S.dm, by rw [upd_ne (ne_of_none S.dc hp)]; exact S.dc, by rw [upd_ne (ne_of_none S.dl hp)]; exact S.dl, S.ne⟩
theorem Fr.junk {m l l' p : Addr} {H H' : Hp} {o : HO} (f : Fr m l l' H H') (hp : H' p = none) : Fr m l l' H (upd H' p o) := by
  refine ⟨fun b o e h1 h2 => ?_, f.new, fun b h => upd_dom (f.dom b h)⟩
  have q := f.keep b o e h1 h2
  rw [upd_ne (ne_of_none q hp)]; exact q
theorem MS.left {H : Hp} {m c l : Addr} {cs ls : List Int} {z : Int} (S : MS H m c l cs ls z) : DGet H m (.str "left") (some (.ref l)) := by
  have e : valV (kvM c l z) (.inr "left" : Key) = some (.ref l) := by unfold valV kvM; rfl
  rw [← e]; exact DGet.k (k := Sum.inr "left") S.dm
theorem MS.cells {H : Hp} {m c l : Addr} {cs ls : List Int} {z : Int} (S : MS H m c l cs ls z) : DGet H m (.str "cells") (some (.ref c)) := by
  have e : valV (kvM c l z) (.inr "cells" : Key) = some (.ref c) := by unfold valV kvM; rfl
  rw [← e]; exact DGet.k (k := Sum.inr "cells") S.dm
theorem MS.at {H : Hp} {m c l : Addr} {cs ls : List Int} {z : Int} (S : MS H m c l cs ls z) : DGet H m (.str "at") (some (.int z)) := by
  have e : valV (kvM c l z) (.inr "at" : Key) = some (.int z) := by unfold valV kvM; rfl
  rw [← e]; exact DGet.k (k := Sum.inr "at") S.dm
theorem put_left (c l l' : Addr) (z : Int) : putK (kvM c l z) (.inr "left" : Key) (.ref l') = kvM c l' z := by unfold putK kvM; rfl
theorem put_at (c l : Addr) (z z' : Int) : putK (kvM c l z) (.inr "at" : Key) (.int z') = kvM c l z' := by unfold putK kvM; rfl
theorem dpAll_ints {K : PySem.W.Frag} {H : Hp} : ∀ ns : List Int, DpAll K H (ns.map V.int) (ns.map PyData.int)
  | [] => .nil
  | n :: ns => .cons (.int n) (dpAll_ints ns)
theorem lay_ints : ∀ ns : List Int, PyData.canLayAll0 (ns.map PyData.int) = true
  | [] => rfl
  | n :: ns => by
    show (PyData.canLay0 (.int n) && PyData.canLayAll0 (ns.map PyData.int)) = true
    rw [lay_ints ns]; rfl
theorem depth_ints : ∀ ns : List Int, PyData.depthAll (ns.map PyData.int) = 0
  | [] => rfl
  | n :: ns => by
    show max (PyData.depth (.int n)) (PyData.depthAll (ns.map PyData.int)) = 0
    rw [depth_ints ns]; rfl
theorem shaped_ints (ns : List Int) : SeqAt.shaped (.list (ns.map PyData.int)) = true := by
  show (PyData.canLayAll0 (ns.map PyData.int) && decide (PyData.depthAll (ns.map PyData.int) + 1 ≤ 64)) = true
  rw [lay_ints, depth_ints]; rfl
theorem ifF {c : Bool} {A B : Prop} (hc : c = false) (h : B) : if c = true then A else B := by rw [hc, if_neg Bool.false_ne_true]; exact h
theorem ifT {c : Bool} {A B : Prop} (hc : c = true) (h : A) : if c = true then A else B := by rw [if_pos hc]; exact h
theorem cut1 (y : Int) (ys : List Int) : cutV ((y :: ys).map V.int) (some 1) none = ys.map V.int := by
  unfold cutV
  have e1 : HT.sIx ((y :: ys).map V.int).length 0 (some (1 : Int)) = 1 := by
    show HT.sIx _ 0 (some ((1 : Nat) : Int)) = 1
    rw [HT.sIx_nat]
    simp
  have e2 : HT.sIx ((y :: ys).map V.int).length ((y :: ys).map V.int).length none = (y :: ys).length := by
    show ((y :: ys).map V.int).length = _
    rw [List.length_map]
  rw [e1, e2]
  simp only [List.map_cons, List.drop_succ_cons, List.drop_zero, List.length_cons, Nat.add_sub_cancel]
  exact List.take_of_length_le (by simp)
theorem MS.fresh {H : Hp} {m c l p : Addr} {cs ls : List Int} {z : Int} (S : MS H m c l cs ls z) (hp : H p = none) : p ≠ m ∧ p ≠ c ∧ p ≠ l :=
  ⟨(fun e => by rw [e, S.dm] at hp; cases hp), (fun e => by rw [e, S.dc] at hp; cases hp), (fun e => by rw [e, S.dl] at hp; cases hp)⟩
theorem MS.mc {H : Hp} {m c l : Addr} {cs ls : List Int} {z : Int} (S : MS H m c l cs ls z) : m ≠ c := ne_of S.dm S.dc (by intro q; cases q)
theorem MS.ml {H : Hp} {m c l : Addr} {cs ls : List Int} {z : Int} (S : MS H m c l cs ls z) : m ≠ l := ne_of S.dm S.dl (by intro q; cases q)
/-- a new list is put as what is left -/
theorem MS.putL {H : Hp} {m c l p : Addr} {cs ls ls' : List Int} {z : Int} (S : MS H m c l cs ls z) (hp : H p = none) :
    MS (upd (upd H p (.lst (ls'.map V.int))) m (.dK (putK (kvM c l z) (.inr "left" : Key) (.ref p)))) m c p cs ls' z := by
  obtain ⟨n1, n2, n3⟩ := S.fresh hp
  refine ⟨by rw [upd_same, put_left], ?_, ?_, n2.symm⟩
  · rw [upd_ne S.mc.symm, upd_ne n2.symm]; exact S.dc
  · rw [upd_ne n1, upd_same]
theorem Fr.putM {m l l' p : Addr} {H H' : Hp} {o o' : HO} (f : Fr m l l' H H') (hp : H' p = none) : Fr m l p H (upd (upd H' p o) m o') := by
  refine ⟨fun b o e h1 h2 => ?_, .inr (f.free hp), fun b h => upd_dom (upd_dom (f.dom b h))⟩
  have q := f.keep b o e h1 h2
  rw [upd_ne h1, upd_ne (ne_of_none q hp)]; exact q
theorem MS.putA {H : Hp} {m c l : Addr} {cs ls : List Int} {z z' : Int} (S : MS H m c l cs ls z) :
    MS (upd H m (.dK (putK (kvM c l z) (.inr "at" : Key) (.int z')))) m c l cs ls z' :=
  ⟨by rw [upd_same, put_at], by rw [upd_ne S.mc.symm]; exact S.dc, by rw [upd_ne S.ml.symm]; exact S.dl, S.ne⟩
theorem Fr.putA {m l l' : Addr} {H H' : Hp} {o : HO} (f : Fr m l l' H H') : Fr m l l' H (upd H' m o) :=
  ⟨fun b o e h1 h2 => by rw [upd_ne h1]; exact f.keep b o e h1 h2, f.new, fun b h => upd_dom (f.dom b h)⟩
theorem MS.setL {H : Hp} {m c l : Addr} {cs ls ls' : List Int} {z : Int} (S : MS H m c l cs ls z) : MS (upd H l (.lst (ls'.map V.int))) m c l cs ls' z :=
  ⟨by rw [upd_ne S.ml]; exact S.dm, by rw [upd_ne S.ne]; exact S.dc, upd_same, S.ne⟩
theorem Fr.setL {m l l' : Addr} {H H' : Hp} {o : HO} (f : Fr m l l' H H') : Fr m l l' H (upd H' l' o) := by
  refine ⟨fun b o e h1 h2 => ?_, f.new, fun b h => upd_dom (f.dom b h)⟩
  have nb : b ≠ l' := by
    rcases f.new with q | q
    · rw [q]; exact h2
    · exact ne_of_none e q
  rw [upd_ne nb]; exact f.keep b o e h1 h2
theorem MS.mch {H : Hp} {m c l : Addr} {cs ls : List Int} {z : Int} {n : Nat} (S : MS H m c l cs ls z) (h1 : 0 ≤ z) (h2 : z ≤ (n : Int)) (h3 : cs.length ≤ 63) (h4 : ls.length ≤ 63) : Mch H m l n :=
  ⟨c, cs, ls, z, S.dm, S.dc, S.dl, S.ne, h1, h2, h3, h4⟩
def spNext : Sp := fun vs H Q _ => ∃ (m l : Addr) (n : Nat) (k : Int), vs = [.ref m, .int k] ∧ Mch H m l n ∧ n < 1000000 ∧ 0 < k ∧ k < 1000000 ∧
  ∀ (r : Int) (l' : Addr) (H' : Hp), 0 ≤ r → r < k → Mch H' m l' (n + 1) → Fr m l l' H H' → Q (.int r) H'
end
/-! ### growth of the heap -/
theorem Same.upd {H : Hp} {p : Addr} {o : HO} (h : H p = none) : Same H (upd H p o) := fun b q e => by rw [upd_ne (ne_of_none e h)]; exact e
theorem Mch.same {H H' : Hp} {m l : Addr} {n : Nat} (s : Same H H') (M : Mch H m l n) : Mch H' m l n := by
  obtain ⟨c, cs, ls, z, h1, h2, h3, h⟩ := M.ex
  exact ⟨c, cs, ls, z, s _ _ h1, s _ _ h2, s _ _ h3, h⟩
theorem Mch.kept {H H' : Hp} {m l : Addr} {n : Nat} (M : Mch H m l n) (s : Same H H') : Kept m l l H H' := by
  obtain ⟨c, cs, ls, z, h1, h2, h3, h⟩ := M.ex
  exact ⟨fun b o e _ _ => s b o e, fun _ _ _ h => h, ⟨_, h1⟩, ⟨_, h3⟩⟩
theorem Mch.step {H H' : Hp} {m l l' : Addr} {n : Nat} (M : Mch H m l n) (f : Fr m l l' H H') : Kept m l l' H H' := by
  obtain ⟨c, cs, ls, z, h1, h2, h3, h⟩ := M.ex
  refine ⟨f.keep, fun b o e hb => ?_, ⟨_, h1⟩, ⟨_, h3⟩⟩
  rcases f.new with q | q
  · rw [q]; exact hb
  · exact ne_of_none e q
theorem Mch.ne {H : Hp} {m l p : Addr} {n : Nat} (M : Mch H m l n) (h : H p = none) : p ≠ m ∧ p ≠ l := by
  obtain ⟨c, cs, ls, z, h1, h2, h3, _⟩ := M.ex
  exact ⟨(fun e => by rw [e, h1] at h; cases h), (fun e => by rw [e, h3] at h; cases h)⟩
/-- a fresh list, and one behind it -/
theorem Fr.lead {H0 H H' : Hp} {m l l' : Addr} (s : Same H0 H) (f : Fr m l l' H H') : Fr m l l' H0 H' := by
  have d : ∀ b, H0 b ≠ none → H b ≠ none := fun b h => by
    cases q : H0 b with
    | none => exact absurd q h
    | some o => rw [s b o q]; exact fun z => nomatch z
  refine ⟨fun b o e h1 h2 => f.keep b o (s b o e) h1 h2, ?_, fun b h => f.dom b (d b h)⟩
  rcases f.new with q | q
  · exact .inl q
  · exact .inr (Same.free s q)
theorem DqAll.get {K : PySem.W.Frag} {H : Hp} {m l : Addr} : ∀ {ds : List PyData} {vs : List V} {i : Nat} {v : V}, DqAll K H m l vs ds → vs[i]? = some v → ∃ d, ds[i]? = some d ∧ Dq K H m l v d
  | [], _, i, v, h, e => by cases h; simp at e
  | d :: ds, _, 0, v, h, e => by
    cases h with
    | cons h1 h2 => simp at e; subst e; exact ⟨d, rfl, h1⟩
  | d :: ds, _, i + 1, v, h, e => by
    cases h with
    | cons h1 h2 => exact DqAll.get (i := i) h2 (by simpa using e)
end Ms
namespace Ms
open PySem PySem.Spec PyProof.Rows L2
def top (i : Nat) : Stmt := PySem.Challenge.pw_midswitch_k01_settings_checked.main.body.getD i (.Pass ⟨0, 0, 0, 0⟩)
abbrev sBegun : Stmt := top 15
abbrev sNext : Stmt := top 16
abbrev sNames : Stmt := top 17
abbrev sSettings : Stmt := top 18
abbrev sOdd : Stmt := top 19
abbrev sBent : Stmt := top 20
abbrev sIsWhole : Stmt := top 21
abbrev sIsName : Stmt := top 22
abbrev sDue : Stmt := top 23
abbrev sTold : Stmt := top 24
abbrev sLaw : Stmt := top 25
abbrev sPInt : Stmt := top 8
abbrev sPName : Stmt := top 9
abbrev sPSet : Stmt := top 10
abbrev sNeed : Stmt := top 11
abbrev sPNames : Stmt := top 12
abbrev sPGrid : Stmt := top 13
abbrev sIni : Stmt := inClass (top 2) 0

section
variable {P : Program} {w : World} {K : PySem.W.Frag} {mg : Str → Option Value} {base : Heap}
theorem scB : FnScope ["script", "cell"] ["script"] (defScope sBegun) := ⟨rfl, rfl, rfl, by decide +kernel, rfl, by decide +kernel, by decide +kernel⟩
theorem ok_begun {f : Addr} {fd : FuncData} (F : Fun K "_law_begun" "_law_begun" sBegun f fd) (T : Txt mg) : FnOk P w K mg base CX0 1 f fd ["script"] (spBegun K) := by
  refine F.ok scB (fun vs H Q E h => ?_) (fun cdv A outer s H vs Q E hr h => ?_)
  · obtain ⟨a, ns, rfl, _⟩ := h
    rfl
  · obtain ⟨a, ns, rfl, hS, hlen, k⟩ := h
    have hu := hu_of hr
    refine ⟨_, pss_one (ps_ret (pe_disp (pps_cons pe_str (pe_callTy call_list_of (by rfl) T.list (by decide +kernel) (pa_cons (pv 0) pa_nil))
      (pps_cons pe_str (pe_lc (own := [("cell", 1)]) (g := gName 1) (by rfl) scB.nd (pi_list (pv 0)) (blkOk_by (own := [("cell", 1)]) (N := ["script", "cell"]) (sc := defScope sBegun) (by decide +kernel))
        (fun _ _ _ _ _ => pg_name (i := 1) scB.nd rfl (Or.inl rfl)) (fun _ _ _ _ _ => pts_one (pt_cmpR op_ge (pv 1) (pe_op op_pow pe_int pe_int) (nomark _))) (fun _ _ _ _ _ => pv 1))
      (pps_cons pe_str pe_int pps_nil))) (by rfl) (by rfl) (fun z => by cases z) (by decide))), ?_⟩
    intro m hm
    have s0 : Same H (upd H m (.dK [])) := fun b o e => by rw [upd_ne (ne_of_none e hm)]; exact e
    refine ⟨_, rfl, a, _, rfl, .inl (s0.seq hS), fun c hc => ?_⟩
    have ncm : c ≠ m := fun z => by rw [z, upd_same] at hc; cases hc
    have hc0 : H c = none := by rw [upd_ne ncm] at hc; exact hc
    have s1 : Same H (upd (upd H m (.dK [])) c (.lst (ns.map V.int))) := fun b o e => by rw [upd_ne (ne_of_none e hc0)]; exact s0 b o e
    refine ⟨_, rfl, a, rfl, ⟨_, s1.seq hS⟩, fun l hl => ?_⟩
    have nlc : l ≠ c := fun z => by rw [z, upd_same] at hl; cases hl
    have hl1 : (upd H m (.dK [])) l = none := by rw [upd_ne nlc] at hl; exact hl
    have nlm : l ≠ m := fun z => by rw [z, upd_same] at hl1; cases hl1
    have hl0 : H l = none := by rw [upd_ne nlm] at hl1; exact hl1
    refine lc_list (K := K) (a := a) (xs := ns.map V.int) (fun i H2 => ∃ ls : List Int, ls.length ≤ i ∧ H2 = upd (upd (upd H m (.dK [])) c (.lst (ns.map V.int))) l (.lst (ls.map V.int))) ⟨[], Nat.le_refl _, rfl⟩ (fun i H2 _ ⟨ls, _, e⟩ => ?_) ?_ ?_
    · have s2 : Same H H2 := fun b o q => by rw [e, upd_ne (ne_of_none q hl0)]; exact s1 b o q
      exact s2.seq hS
    · rintro i x H2 hi ⟨ls, hls, e⟩
      obtain ⟨z, rfl⟩ : ∃ z, x = V.int z := by
        rw [List.getElem?_map] at hi
        cases q : ns[i]? with
        | none => rw [q] at hi; cases hi
        | some z => rw [q] at hi; exact ⟨z, (Option.some.inj hi).symm⟩
      have hil : i < ns.length := by
        have q := (List.getElem?_eq_some_iff.mp hi).1
        rw [List.length_map] at q
        exact q
      refine ⟨rfl, _, rfl, _, _, rfl, rfl, ⟨by decide, by decide, by decide⟩, _, _, rfl, rfl, _, rfl, ?_⟩
      refine ite2 (fun _ => ?_) (fun _ => ?_)
      · refine ⟨_, rfl, ls.map V.int, by rw [e]; exact upd_same, small1000 (by rw [List.length_map]; omega), ls ++ [z], ?_, ?_⟩
        · rw [List.length_append, List.length_singleton]; omega
        · rw [e, upd_upd, List.map_append]; rfl
      · exact ⟨ls, by omega, e⟩
    · rintro H2 ⟨ls, hls, e⟩
      rw [List.length_map] at hls
      refine ⟨?_, [(.inr "cells", .ref c), (.inr "left", .ref l), (.inr "at", .int 0)], rfl, (by show 3 ≤ 15; decide), ?_⟩
      · rw [e, upd_ne nlm.symm, upd_ne ncm.symm, upd_same]
      · refine k m l _ hm hl0 (fun b o q => ?_) ⟨c, ns, ls, 0, ?_, ?_, ?_, nlc.symm, Int.le_refl _, Int.le_refl _, hlen, by omega⟩
        · rw [upd_ne (ne_of_none q hm), e, upd_ne (ne_of_none q hl0)]; exact s1 b o q
        · rw [upd_same]; rfl
        · rw [upd_ne ncm, e, upd_ne nlc.symm, upd_same]
        · rw [upd_ne nlm, e, upd_same]

theorem scN : FnScope ["m", "many", "rest", "at", "lot", "cell", "blend"] ["m", "many"] (defScope sNext) := ⟨rfl, rfl, rfl, by decide +kernel, rfl, by decide +kernel, by decide +kernel⟩
set_option maxHeartbeats 4000000 in
theorem ok_next {f : Addr} {fd : FuncData} (F : Fun K "_law_next" "_law_next" sNext f fd) (T : Txt mg) : FnOk P w K mg base CX0 1 f fd ["m", "many"] spNext := by
  refine F.ok scN (fun vs H Q E h => ?_) (fun cdv A outer s H vs Q E hr h => ?_)
  · obtain ⟨m, l, n, k, rfl, _⟩ := h
    rfl
  · obtain ⟨m, l, n, k, rfl, M, hn, hk, hk2, q⟩ := h
    have hu := hu_of hr
    refine ⟨_, pss_cons (ps_while PassesOwn.never (PW.pt (pw_and (pt_cmpR (op_neD hr.units) (pe_dget hu (pv 0) pe_str (fun _ _ => rfl)) (pe_lst pa_nil) (nomark _))
          (pw_and1 (pt_cmpR op_eq (pe_ix ix_list (pe_dget hu (pv 0) pe_str (fun _ _ => rfl)) pe_int (fun _ _ => rfl)) pe_int (nomark _)))))
        (pss_one (ps_dput hu (pv 0) pe_str (pe_slice sl_list (pe_dget hu (pv 0) pe_str (fun _ _ => rfl)) (po_some pe_int) po_none) rfl)))
      (pss_cons (ps_if (pt_cmpR (op_neD hr.units) (pe_dget hu (pv 0) pe_str (fun _ _ => rfl)) (pe_lst pa_nil) (nomark _))
        (pss_cons (ps_set (i := 2) scN.nd rfl (Or.inl rfl) (pe_ix ix_list (pe_dget hu (pv 0) pe_str (fun _ _ => rfl)) pe_int (fun _ _ => rfl)))
          (pss_cons (ps_asg (pe_op op_fdiv (pv 2) (pv 1)) (pg_sub (pe_dget hu (pv 0) pe_str (fun _ _ => rfl)) pe_int set_list))
          (pss_one (ps_ret (pe_op op_mod (pe_callTy call_int1 (by rfl) T.int (by decide +kernel) (pa_cons (pv 2) pa_nil)) (pv 1))))))
        pss_nil)
      (pss_cons (ps_par (i := 3) (j := 4) (by rfl) scN.nd rfl rfl (by decide) rfl rfl (pa_cons (pe_op op_add (pe_dget hu (pv 0) pe_str (fun _ _ => rfl)) pe_int) (pa_cons (pe_dget hu (pv 0) pe_str (fun _ _ => rfl)) pa_nil)) (by rfl))
      (pss_cons (ps_dput hu (pv 0) pe_str (pv 3) rfl)
      (pss_cons (ps_set (i := 5) scN.nd rfl (Or.inl rfl) (pe_ifExp (pt_cmpR (op_neD hr.units) (pv 4) (pe_lst pa_nil) (nomark _))
        (pe_callTy call_int1 (by rfl) T.int (by decide +kernel) (pa_cons (pe_ix ix_list (pv 4) (pe_op op_mod (pe_callTy call_int1 (by rfl) T.int (by decide +kernel) (pa_cons (pe_op op_add (pe_op op_mul (pv 3) (pv 3)) (pe_op op_fdiv (pv 3) pe_int)) pa_nil))
          (pe_callB call_len_seq (by rfl) T.len PySem.boot_len (pa_cons (pv 4) pa_nil))) (fun _ _ => rfl)) pa_nil)) pe_int))
      (pss_cons (ps_set (i := 6) scN.nd rfl (Or.inl rfl) (pe_op op_mod (pe_callTy call_int1 (by rfl) T.int (by decide +kernel) (pa_cons (pe_op op_add (pe_op op_add (pe_op op_mul (pv 5) pe_int) (pe_op op_mul (pv 3) pe_int)) (pe_op op_mul (pe_op op_mul pe_int (pv 3)) (pv 3))) pa_nil)) pe_int))
      (pss_one (ps_ret (pe_op op_mod (pe_callTy call_int1 (by rfl) T.int (by decide +kernel) (pa_cons (pe_op op_fdiv (pe_op op_mod (pe_callTy call_int1 (by rfl) T.int (by decide +kernel) (pa_cons (pe_op op_add (pe_op op_mul (pv 6) pe_int) (pe_op op_mul pe_int (pv 3))) pa_nil)) pe_int) pe_int) pa_nil)) (pv 1))))))))), ?_⟩
    obtain ⟨c, cs, ls, z, h1, h2, h3, h4, h5, h6, h7, h8⟩ := M.ex
    refine (show ∀ D : Ends, (∀ l2 ls2 H3, H3 l ≠ none → ls2.length ≤ 63 → MS H3 m c l2 cs ls2 z → Fr m l l2 H H3 → D.nx [some (.ref m), some (.int k), none, none, none, none, none] H3) → tWhile _ _ D _ _ from ?_) _ ?_
    · intro D rest
      refine ⟨fun N σ H2 => σ = [some (.ref m), some (.int k), none, none, none, none, none] ∧ ∃ l2 ls, ls.length = N ∧ ls.length ≤ 63 ∧ H2 l ≠ none ∧ MS H2 m c l2 cs ls z ∧ Fr m l l2 H H2, ⟨_, rfl, l, ls, rfl, h8, (by rw [h3]; exact fun z => nomatch z), ⟨h1, h2, h3, h4⟩, Fr.refl M⟩, ?_⟩
      rintro N σ H2 ⟨rfl, l2, ls2, rfl, hz, hl2, S, f⟩
      refine ⟨_, rfl, m, .ref l2, rfl, S.left, Nat.zero_le _, fun p hp => ?_⟩
      have S' := S.junk (o := .lst []) hp
      have f' := f.junk (o := .lst []) hp
      have nz : ∀ {H2 : Hp} {p : Addr}, H2 l ≠ none → ∀ o, (upd H2 p o) l ≠ none := fun {H2 p} hl2 o => by
        by_cases e : l = p
        · rw [e, upd_same]; exact fun z => nomatch z
        · rw [upd_ne e]; exact hl2
      refine ⟨.list (ls2.map PyData.int), .list [], .lst (SqL.of S'.dl) (dpAll_ints _), .lst (SqL.of upd_same) .nil, shaped_ints _, rfl, _, rfl, ?_⟩
      cases ls2 with
      | nil =>
        refine ifF rfl ?_
        refine ifF rfl ?_
        exact rest l2 [] _ (nz hl2 _) hz S' f'
      | cons y ys =>
        refine ifT rfl ?_
        refine ⟨_, rfl, m, .ref l2, rfl, S'.left, l2, _, 0, .int y, rfl, rfl, SqL.of S'.dl, atI_nat (j := 0) rfl, rfl, _, rfl, ?_⟩
        refine ite2 (fun _ => ?_) (fun _ => rest l2 (y :: ys) _ (nz hl2 _) hz S' f')
        refine ⟨fun σ' H' => σ' = [some (.ref m), some (.int k), none, none, none, none, none] ∧ ∃ l2, H' l ≠ none ∧ MS H' m c l2 cs ys z ∧ Fr m l l2 H H', (fun σ' H' ⟨e, l3, g1, g2, g3⟩ => ⟨ys.length, by simp, e, l3, ys, rfl, by simp at hz; omega, g1, g2, g3⟩), ?_⟩
        refine ⟨_, rfl, m, .ref l2, rfl, S'.left, ⟨1, rfl, l2, _, rfl, SqL.of S'.dl, fun p2 hp2 => ?_⟩⟩
        rw [cut1]
        refine ⟨_, rfl, m, _, rfl, DPut.k (k := Sum.inr "left") (S'.junk hp2).dm (by show 3 < sizeLine; exact small1000 (by decide)), rfl, p2, nz (nz (nz hl2 _) _) _, S'.putL hp2, f'.putM hp2⟩
    · intro l2 ls2 H3 hl3 hz S f
      refine ⟨_, rfl, m, .ref l2, rfl, S.left, Nat.zero_le _, fun p hp => ?_⟩
      have S' := S.junk (o := .lst []) hp
      have f' := f.junk (o := .lst []) hp
      refine ⟨.list (ls2.map PyData.int), .list [], .lst (SqL.of S'.dl) (dpAll_ints _), .lst (SqL.of upd_same) .nil, shaped_ints _, rfl, _, rfl, ?_⟩
      cases ls2 with
      | cons y ys =>
        refine ifT rfl ?_
        refine ⟨_, rfl, m, .ref l2, rfl, S'.left, l2, _, 0, .int y, rfl, rfl, SqL.of S'.dl, atI_nat (j := 0) rfl, ?_⟩
        refine ⟨_, rfl, _, rfl, _, _, rfl, rfl, ⟨hk, by omega⟩, _, rfl, m, .ref l2, rfl, S'.left, l2, _, 0, 0, rfl, rfl, S'.dl, (by unfold ixN; rw [if_pos (by decide), if_pos (by simp only [List.map_cons, List.length_cons]; omega)]; rfl), ?_⟩
        refine ⟨_, rfl, .inl ⟨_, rfl, _, rfl, _, _, rfl, rfl, hk, ?_⟩⟩
        have S2 := S'.setL (ls' := (y / k) :: ys)
        exact q _ l2 _ (Int.emod_nonneg _ (by omega)) (Int.emod_lt_of_pos _ hk) (S2.mch h5 (by omega) h7 (by simpa using hz)) f'.setL
      | nil =>
        refine ifF rfl ?_
        refine ⟨_, rfl, m, .int z, rfl, S'.at, _, _, rfl, rfl, _, rfl, m, .ref c, rfl, S'.cells, _, _, rfl, ?_⟩
        refine ⟨_, rfl, _, rfl, m, _, rfl, DPut.k (k := Sum.inr "at") S'.dm (by show 3 < sizeLine; exact small1000 (by decide)), ?_⟩
        have S2 := S'.putA (z' := z + 1)
        have f2 := f'.putA (o := (.dK (putK (kvM c l2 z) (.inr "at" : Key) (.int (z + 1)))))
        refine ⟨_, rfl, Nat.zero_le _, fun p2 hp2 => ?_⟩
        have S3 := S2.junk (o := .lst []) hp2
        have f3 := f2.junk (o := .lst []) hp2
        refine ⟨.list (cs.map PyData.int), .list [], .lst (SqL.of S3.dc) (dpAll_ints _), .lst (SqL.of upd_same) .nil, shaped_ints _, rfl, _, rfl, ?_⟩
        cases cs with
        | nil =>
          refine ifF rfl ?_
          refine ⟨_, rfl, _, _, rfl, rfl, .inr ⟨by decide, by decide⟩, _, rfl, _, _, rfl, rfl, .inr ⟨by decide, by decide⟩, _, _, rfl, rfl, _, rfl, _, _, rfl, rfl, .inl ⟨by decide, by decide⟩, _, rfl, _, _, rfl, rfl, .inr ⟨by omega, by omega⟩, _, _, rfl, rfl, .inl ⟨_, rfl, _, _, rfl, rfl, (by show (0 : Int) < 2147483399; decide), ?_⟩⟩
          refine ⟨_, rfl, _, _, rfl, rfl, .inr ⟨by decide, by decide⟩, _, rfl, _, _, rfl, rfl, .inl ⟨by decide, by decide⟩, _, _, rfl, rfl, .inl ⟨_, rfl, _, _, rfl, rfl, (by show (0 : Int) < 2147483647; decide), _, _, rfl, rfl, ⟨by decide, by decide⟩, .inl ⟨_, rfl, _, rfl, _, _, rfl, rfl, hk, ?_⟩⟩⟩
          exact q _ l2 _ (Int.emod_nonneg _ (by omega)) (Int.emod_lt_of_pos _ hk) (S3.mch (by omega) (by omega) h7 (by simp)) f3
        | cons y ys =>
          refine ifT rfl ?_
          refine ⟨_, rfl, _, rfl, _, rfl, _, _, rfl, rfl, .inl ⟨by omega, by omega⟩, _, rfl, _, _, rfl, rfl, ⟨by decide, by decide⟩, _, _, rfl, rfl, .inl ⟨_, rfl, ?_⟩⟩
          have hlen : ((y :: ys).map V.int).length = ys.length + 1 := by rw [List.length_map, List.length_cons]
          refine ⟨_, rfl, c, _, rfl, .inl (SqL.of S3.dc), _, _, rfl, rfl, (by rw [hlen]; omega), ?_⟩
          generalize hg : ((z + 1) * (z + 1) + (z + 1) / 2) % ((((y :: ys).map V.int).length : Nat) : Int) = g
          have g0 : 0 ≤ g := by rw [← hg, hlen]; exact Int.emod_nonneg _ (by omega)
          have g1 : g < ((y :: ys).length : Nat) := by rw [← hg, hlen]; exact Int.emod_lt_of_pos _ (by omega)
          obtain ⟨gn, rfl⟩ : ∃ gn : Nat, g = (gn : Int) := ⟨g.toNat, by omega⟩
          obtain ⟨u, hu2⟩ : ∃ u, (y :: ys)[gn]? = some u := ⟨_, List.getElem?_eq_getElem (by omega)⟩
          refine ⟨c, _, (gn : Int), .int u, rfl, congrArg V.int hg, SqL.of S3.dc, atI_nat (by rw [List.getElem?_map, hu2]; rfl), .inl ⟨_, rfl, ?_⟩⟩
          refine ⟨_, rfl, _, _, rfl, rfl, .inr ⟨by decide, by decide⟩, _, rfl, _, _, rfl, rfl, .inr ⟨by decide, by decide⟩, _, _, rfl, rfl, _, rfl, _, _, rfl, rfl, .inl ⟨by decide, by decide⟩, _, rfl, _, _, rfl, rfl, .inr ⟨by omega, by omega⟩, _, _, rfl, rfl, .inl ⟨_, rfl, _, _, rfl, rfl, (by show (0 : Int) < 2147483399; decide), ?_⟩⟩
          refine ⟨_, rfl, _, _, rfl, rfl, .inr ⟨by decide, by decide⟩, _, rfl, _, _, rfl, rfl, .inl ⟨by decide, by decide⟩, _, _, rfl, rfl, .inl ⟨_, rfl, _, _, rfl, rfl, (by show (0 : Int) < 2147483647; decide), _, _, rfl, rfl, ⟨by decide, by decide⟩, .inl ⟨_, rfl, _, rfl, _, _, rfl, rfl, hk, ?_⟩⟩⟩
          exact q _ l2 _ (Int.emod_nonneg _ (by omega)) (Int.emod_lt_of_pos _ hk) (S3.mch (by omega) (by omega) h7 (by simp)) f3
end
end Ms
namespace Ms
open PySem PySem.Spec PyProof.Rows L2
structure TxtN (mg : Str → Option Value) (fN : Addr) : Prop extends Txt mg where
  next : mg "_law_next" = some (.ref fN)
  range : mg "range" = none
  tuple : mg "tuple" = none
  zip : mg "zip" = none
/-- s * n -/
theorem op_mul_si {X : Cx} : OpR X (binaryOp .Mult) (fun x y H Q => ∃ z i, x = .str z ∧ y = .int i ∧ PySem.MulOk z i ∧ Q (.str (Txt.mul z i)) H) := by
  intro pins s σ H x y v u Q I rx ry h
  obtain ⟨z, i, rfl, rfl, ok, q⟩ := h
  obtain ⟨t, rfl⟩ := rx
  obtain ⟨t', rfl⟩ := ry
  exact PySem.SB.mul ok fun t2 k => ⟨.str _, H, I.tok _, ⟨_, rfl⟩, q⟩
theorem tyes {σ : L2.St} {H : Hp} {R S : Hp → Prop} (h : R H) : tYes σ H (fun b H3 => if b = true then R H3 else S H3) := by
  show if true = true then R H else S H
  rw [if_pos rfl]
  exact h
/-- a list of texts grows by one -/
theorem str_grow {H8 H9 : Hp} {D : Addr} {ys : List Str} {y : Str} (e : H9 = upd H8 D (.lst (ys.map V.str))) : upd H9 D (.lst (ys.map V.str ++ [.str y])) = upd H8 D (.lst ((ys ++ [y]).map V.str)) := by
  rw [e, upd_upd, List.map_append]
  rfl
/-! ### short texts -/
def sOk (a : Nat) (z : Str) : Prop := z.length ≤ a ∧ ∀ c ∈ z.cps.toList, c < 0x110000
theorem sOk.mono {a b : Nat} {z : Str} (h : sOk a z) (k : a ≤ b) : sOk b z := ⟨Nat.le_trans h.1 k, h.2⟩
theorem sOk.app {a b : Nat} {z y : Str} (h : sOk a z) (k : sOk b y) : sOk (a + b) (z ++ y) := by
  refine ⟨by rw [Str.length_append]; exact Nat.add_le_add h.1 k.1, fun c hc => ?_⟩
  have e : (z ++ y).cps.toList = z.cps.toList ++ y.cps.toList := Array.toList_append
  rw [e] at hc
  exact (List.mem_append.mp hc).elim (h.2 c) (k.2 c)
theorem sOk.cut {a : Nat} {z : Str} (h : sOk a z) (lo hi : Option Int) : sOk a (cutS z lo hi) := by
  refine ⟨?_, fun c hc => h.2 c ?_⟩
  · show ((z.cps.toList.drop (HT.sIx z.length 0 lo)).take (HT.sIx z.length z.length hi - HT.sIx z.length 0 lo)).toArray.size ≤ a
    have e : z.cps.toList.length ≤ a := by rw [Array.length_toList]; exact h.1
    rw [List.size_toArray, List.length_take, List.length_drop]
    omega
  · have hc' : c ∈ ((z.cps.toList.drop (HT.sIx z.length 0 lo)).take (HT.sIx z.length z.length hi - HT.sIx z.length 0 lo)) := by simpa [cutS] using hc
    exact List.mem_of_mem_drop (List.mem_of_mem_take hc')
theorem sOk.sign {c : Nat} (h : c < 0x110000) : sOk 1 ⟨#[c]⟩ := ⟨Nat.le_refl _, fun d hd => by simp at hd; rw [hd]; exact h⟩
theorem sOk.okd {a B : Nat} {z : Str} (h : sOk a z) : okD B (.str z) = true := by
  simp only [okD, List.all_eq_true, decide_eq_true_eq]
  exact h.2
abbrev alpha : Str := "abcdefghijklmnopqrstuvwxyz"
theorem alpha_list : alpha.cps.toList = [97, 98, 99, 100, 101, 102, 103, 104, 105, 106, 107, 108, 109, 110, 111, 112, 113, 114, 115, 116, 117, 118, 119, 120, 121, 122] := by decide +kernel
theorem alpha_at {i : Int} (h0 : 0 ≤ i) (h1 : i < 26) : ∃ c, atI alpha.cps.toList i = some c ∧ c < 0x110000 := by
  obtain ⟨j, rfl⟩ : ∃ j : Nat, i = (j : Int) := ⟨i.toNat, by omega⟩
  have hl : alpha.cps.toList.length = 26 := by rw [alpha_list]; rfl
  obtain ⟨c, hc⟩ : ∃ c, alpha.cps.toList[j]? = some c := ⟨_, List.getElem?_eq_getElem (by rw [hl]; omega)⟩
  refine ⟨c, atI_nat hc, ?_⟩
  have z : ∀ d ∈ alpha.cps.toList, d < 0x110000 := by rw [alpha_list]; decide
  exact z c (List.mem_of_getElem? hc)
theorem alpha_len : alpha.length ≤ sizeLine := by decide +kernel
theorem mul8 (c : Nat) : Txt.mul ⟨#[c]⟩ 8 = ⟨#[c, c, c, c, c, c, c, c]⟩ := by rfl
theorem mul8_ok (c : Nat) : PySem.MulOk ⟨#[c]⟩ 8 := ⟨by decide, fun _ _ => by show ¬ ((1 : Nat) : Int) > (2 ^ 63 - 1) / 8; decide, fun _ _ => rfl⟩
section
variable {P : Program} {w : World} {K : PySem.W.Frag} {mg : Str → Option Value} {base : Heap} {fN : Addr}
abbrev NN : List Str := ["m", "many", "letters", "stem", "k", "at", "first", "by", "word"]
theorem scNm : FnScope NN ["m", "many"] (defScope sNames) := ⟨rfl, rfl, rfl, by decide +kernel, rfl, by decide +kernel, by decide +kernel⟩
def spNames : Sp := fun vs H Q _ => ∃ (m l : Addr) (n : Nat) (k : Nat), vs = [.ref m, .int (k : Int)] ∧ Mch H m l n ∧ n < 900000 ∧ 1 ≤ k ∧ k ≤ 8 ∧
  ∀ (p : Addr) (ys : List Str) (l' : Addr) (H' : Hp), H p = none → H' p = some (.lst (ys.map V.str)) → ys.length = k → (∀ y ∈ ys, sOk 16 y) → p ≠ m → p ≠ l' → Mch H' m l' (n + 11) → Fr m l l' H H' → Q (.ref p) H'
theorem ok_names {f : Addr} {fd fdN : FuncData} (F : Fun K "_law_names" "_law_names" sNames f fd) (T : TxtN mg fN) (FN : Fun K "_law_next" "_law_next" sNext fN fdN) (bN : Binds K fdN ["m", "many"] []) : FnOk P w K mg base CX0 2 f fd ["m", "many"] spNames := by
  have GN : FnOk P w K mg base CX0 1 fN fdN ["m", "many"] spNext := ok_next FN T.toTxt
  refine F.ok scNm (fun vs H Q E h => ?_) (fun cdv A outer s H vs Q E hr h => ?_)
  · obtain ⟨m, l, n, k, rfl, _⟩ := h
    rfl
  · obtain ⟨m, l, n, k, rfl, M, hn, hk, hk2, q⟩ := h
    refine ⟨_, pss_cons (ps_asg (pe_tup (pa_cons pe_str (pa_cons pe_str pa_nil))) (pg_tup rfl (pgs_cons (pg_name (i := 2) scNm.nd rfl (Or.inr rfl)) (pgs_cons (pg_name (i := 3) scNm.nd rfl (Or.inr rfl)) pgs_nil))))
      (pss_cons (ps_for PassesOwn.never rfl (pi_range1 (by rfl) T.range (pa_cons (pe_call GN hr rfl T.next FN.kp bN .nil pass0 (pa_cons (pv 0) (pa_cons pe_int pa_nil))) pa_nil)) (pg_name (i := 4) scNm.nd rfl (Or.inl rfl))
        (pss_one (ps_set (i := 3) scNm.nd rfl (Or.inr rfl) (pe_op op_add_str (pv 3) (pe_ix ix_str (pv 2) (pe_call GN hr rfl T.next FN.kp bN .nil pass0 (pa_cons (pv 0) (pa_cons pe_int pa_nil))) (fun _ _ => rfl))))))
      (pss_cons (ps_asg (pe_tup (pa_cons (pe_call GN hr rfl T.next FN.kp bN .nil pass0 (pa_cons (pv 0) (pa_cons (pe_op op_add (pe_callB call_len_str (by rfl) T.len PySem.boot_len (pa_cons (pv 3) pa_nil)) pe_int) pa_nil)))
          (pa_cons (pe_call GN hr rfl T.next FN.kp bN .nil pass0 (pa_cons (pv 0) (pa_cons pe_int pa_nil)))
          (pa_cons (pe_ix ix_list (pe_lst (pa_cons pe_int (pa_cons pe_int (pa_cons pe_int (pa_cons pe_int (pa_cons pe_int (pa_cons pe_int pa_nil))))))) (pe_call GN hr rfl T.next FN.kp bN .nil pass0 (pa_cons (pv 0) (pa_cons pe_int pa_nil))) (fun _ _ => rfl)) pa_nil))))
        (pg_tup rfl (pgs_cons (pg_name (i := 5) scNm.nd rfl (Or.inr rfl)) (pgs_cons (pg_name (i := 6) scNm.nd rfl (Or.inr rfl)) (pgs_cons (pg_name (i := 7) scNm.nd rfl (Or.inr rfl)) pgs_nil)))))
      (pss_cons (ps_set (i := 8) scNm.nd rfl (Or.inr rfl) (pe_slice sl_str (pe_op op_add_str (pv 3) (pe_op op_mul_si (pe_ix ix_str (pv 2) (pv 6) (fun _ _ => rfl)) pe_int)) po_none (po_some pe_int)))
      (pss_cons (ps_if (pt_cmpR op_gt (pv 7) pe_int (nomark _)) (pss_one (ps_ret (pe_lc (own := [("k", 4)]) (g := gName 4) (by rfl) scNm.nd (pi_range1 (by rfl) T.range (pa_cons (pv 1) pa_nil)) (blkOk_by (own := [("k", 4)]) (N := NN) (sc := defScope sNames) (by decide +kernel))
          (fun _ _ _ _ _ => pg_name (i := 4) scNm.nd rfl (Or.inl rfl)) (fun _ _ _ _ _ => pts_nil) (fun _ _ _ _ _ => pe_ifExp (pt_cmpR op_gt (pv 7) pe_int (nomark _)) (pe_slice sl_str (pv 8) (po_some (pv 4)) po_none) (pe_slice sl_str (pv 8) po_none (po_some (pe_op op_sub (pe_op op_add (pv 4) pe_int) (pv 1)))))))) pss_nil)
      (pss_one (ps_ret (pe_lc (own := [("k", 4)]) (g := gName 4) (by rfl) scNm.nd (pi_range1 (by rfl) T.range (pa_cons (pv 1) pa_nil)) (blkOk_by (own := [("k", 4)]) (N := NN) (sc := defScope sNames) (by decide +kernel))
          (fun _ _ _ _ _ => pg_name (i := 4) scNm.nd rfl (Or.inl rfl)) (fun _ _ _ _ _ => pts_nil) (fun _ _ _ _ _ => pe_op op_add_str (pe_op op_add_str (pe_slice sl_str (pv 3) po_none (po_some (pv 5)))
            (pe_ix ix_str (pv 2) (pe_op op_mod (pe_callTy call_int1 (by rfl) T.int (by decide +kernel) (pa_cons (pe_op op_add (pv 6) (pe_op op_mul (pv 7) (pv 4))) pa_nil)) pe_int) (fun _ _ => rfl))) (pe_slice sl_str (pv 3) (po_some (pv 5)) po_none))))))))), ?_⟩
    refine ⟨(by show 2 ≤ sizeLine; decide), fun p1 h1 => ⟨p1, _, rfl, .inl (.inl upd_same), rfl, _, _, rfl, _, _, rfl, rfl, ?_⟩⟩
    have s1 : Same H _ := Same.upd (o := .tup [.str alpha, .str ""]) h1
    refine ⟨_, rfl, m, l, n, 8, rfl, M.same s1, by omega, by decide, by decide, fun r0 l1 H1 r0p r0l M1 f1 => ?_⟩
    refine ⟨r0, rfl, by omega, by omega, ?_⟩
    refine for_range (lo := 0) (n := r0.toNat) (fun i σ H2 => ∃ (z : Str) (v4 : Option V) (l2 : Addr), σ = [some (.ref m), some (.int (k : Int)), some (.str alpha), some (.str z), v4, none, none, none, none] ∧ sOk i z ∧ Mch H2 m l2 (n + 1 + i) ∧ Fr m l l2 H H2)
      ⟨"", _, l1, rfl, ⟨Nat.le_refl _, fun c hc => by cases hc⟩, M1, Fr.lead s1 f1⟩ ?_ ?_
    · rintro i σ H2 hi ⟨z, v4, l2, rfl, hz, M2, f2⟩
      refine ⟨_, rfl, _, rfl, _, rfl, m, l2, _, 26, rfl, M2, by omega, by decide, by decide, fun r l3 H3 rp rl M3 f3 => ?_⟩
      obtain ⟨c, hc, hc2⟩ := alpha_at rp rl
      refine ⟨alpha, r, c, rfl, rfl, alpha_len, hc, z, _, rfl, rfl, ?_, ?_⟩
      · have := hz.1
        show z.length + 1 ≤ sizeLine
        exact small1000 (by omega)
      · exact ⟨_, _, l3, rfl, hz.app (sOk.sign hc2), M3, f2.trans f3⟩
    · rintro σ H2 ⟨z, v4, l2, rfl, hz, M2, f2⟩
      have z7 := hz.1
      have zs : z.length ≤ sizeLine := Nat.le_of_lt (small1000 (by omega))
      refine ⟨_, rfl, _, rfl, z, rfl, zs, _, _, rfl, rfl, m, l2, _, (z.length : Int) + 1, rfl, M2, by omega, by omega, by omega, fun r5 l3 H3 a5 b5 M3 f3 => ?_⟩
      refine ⟨_, rfl, m, l3, _, 26, rfl, M3, by omega, by decide, by decide, fun r6 l4 H4 a6 b6 M4 f4 => ?_⟩
      refine ⟨(by show 6 ≤ sizeLine; decide), fun pL hL => ?_⟩
      have sL := Same.upd (o := .lst [.int 1, .int 3, .int 5, .int 7, .int 9, .int 11]) hL
      have nL := M4.ne hL
      refine ⟨_, rfl, m, l4, _, 6, rfl, M4.same sL, by omega, by decide, by decide, fun r7 l5 H5 a7 b7 M5 f5 => ?_⟩
      obtain ⟨b, hb, b1, b11⟩ : ∃ b : Int, atI ([.int 1, .int 3, .int 5, .int 7, .int 9, .int 11] : List V) r7 = some (.int b) ∧ 1 ≤ b ∧ b ≤ 11 := by
        obtain ⟨j, rfl⟩ : ∃ j : Nat, r7 = (j : Int) := ⟨r7.toNat, by omega⟩
        have hj : j < 6 := by omega
        match j, hj with
        | 0, _ => exact ⟨1, rfl, by decide, by decide⟩
        | 1, _ => exact ⟨3, rfl, by decide, by decide⟩
        | 2, _ => exact ⟨5, rfl, by decide, by decide⟩
        | 3, _ => exact ⟨7, rfl, by decide, by decide⟩
        | 4, _ => exact ⟨9, rfl, by decide, by decide⟩
        | 5, _ => exact ⟨11, rfl, by decide, by decide⟩
      refine ⟨pL, _, r7, .int b, rfl, rfl, SqL.of (f5.keep pL _ upd_same nL.1 nL.2), hb, (by show 3 ≤ sizeLine; decide), fun p3 h3 => ?_⟩
      have F5 : Fr m l l5 H H5 := f2.trans (f3.trans (f4.trans (Fr.lead sL f5)))
      refine ⟨p3, _, rfl, .inl (.inl upd_same), rfl, _, _, rfl, _, _, rfl, _, _, rfl, rfl, ?_⟩
      have s3 := Same.upd (o := .tup [.int r5, .int r6, .int b]) h3
      have M6 := M5.same s3
      have F6 := F5.junk (o := .tup [.int r5, .int r6, .int b]) h3
      obtain ⟨c6, hc6, cc6⟩ := alpha_at a6 b6
      refine ⟨_, rfl, _, rfl, _, rfl, alpha, r6, c6, rfl, rfl, alpha_len, hc6, _, 8, rfl, rfl, mul8_ok c6, z, _, rfl, rfl, ?_, 8, rfl, _, rfl, ?_, ?_⟩
      · rw [mul8]
        show z.length + 8 ≤ sizeLine
        exact Nat.le_of_lt (small1000 (by omega))
      · rw [mul8, Str.length_append]
        show z.length + 8 ≤ sizeLine
        exact Nat.le_of_lt (small1000 (by omega))
      obtain ⟨W, hW, eW⟩ : ∃ W, sOk 16 W ∧ W = cutS (z ++ Txt.mul { cps := #[c6] } 8) none (some 8) := ⟨_, by
        rw [mul8]
        exact (((hz.mono (show r0.toNat ≤ 7 by omega)).app (b := 8) ⟨by show 8 ≤ 8; decide, fun d hd => by simp at hd; rw [hd]; exact cc6⟩).mono (by decide)).cut _ _, rfl⟩
      rw [← eW]
      have Wl : W.length ≤ sizeLine := Nat.le_trans hW.1 (by decide)
      have ek : ((k : Int)).toNat = k := by omega
      refine ⟨_, rfl, _, _, rfl, rfl, _, rfl, ite2 (fun _ => ?_) (fun _ => ?_)⟩
      · refine ⟨_, rfl, (k : Int), rfl, by omega, by omega, fun D hD => ?_⟩
        have nD := M6.ne hD
        refine lc_range (lo := 0) (n := ((k : Int)).toNat) (fun i H9 => ∃ ys : List Str, ys.length = i ∧ (∀ y ∈ ys, sOk 16 y) ∧ H9 = upd _ D (.lst (ys.map V.str))) ⟨[], rfl, (fun y hy => nomatch hy), rfl⟩ ?_ ?_
        · rintro i H9 hi ⟨ys, yl, yo, e9⟩
          refine ⟨rfl, tyes ?_⟩
          refine ⟨_, rfl, _, _, rfl, rfl, _, rfl, ite2 (fun _ => ?_) (fun _ => ?_)⟩
          · refine ⟨_, rfl, _, rfl, _, rfl, _, rfl, Wl, _, by rw [e9]; exact upd_same, small1000 (by rw [List.length_map]; omega), _, (by rw [List.length_append, yl]; rfl), ?_, str_grow e9⟩
            intro y hy
            rcases List.mem_append.mp hy with hy | hy
            · exact yo y hy
            · rw [List.mem_singleton.mp hy]; exact hW.cut _ _
          · refine ⟨_, rfl, _, rfl, _, _, rfl, rfl, _, rfl, _, _, rfl, rfl, _, rfl, _, rfl, Wl, _, by rw [e9]; exact upd_same, small1000 (by rw [List.length_map]; omega), _, (by rw [List.length_append, yl]; rfl), ?_, str_grow e9⟩
            intro y hy
            rcases List.mem_append.mp hy with hy | hy
            · exact yo y hy
            · rw [List.mem_singleton.mp hy]; exact hW.cut _ _
        · rintro H9 ⟨ys, yl, yo, e9⟩
          have sD := Same.upd (o := .lst (ys.map V.str)) hD
          rw [e9]
          exact q D ys l5 _ (F6.free hD) upd_same (by omega) yo nD.1 nD.2 ((M6.same sD).mono (by omega)) (F6.junk hD)
      · refine ⟨_, rfl, (k : Int), rfl, by omega, by omega, fun D hD => ?_⟩
        have nD := M6.ne hD
        refine lc_range (lo := 0) (n := ((k : Int)).toNat) (fun i H9 => ∃ ys : List Str, ys.length = i ∧ (∀ y ∈ ys, sOk 16 y) ∧ H9 = upd _ D (.lst (ys.map V.str))) ⟨[], rfl, (fun y hy => nomatch hy), rfl⟩ ?_ ?_
        · rintro i H9 hi ⟨ys, yl, yo, e9⟩
          have hz7 : sOk 7 z := hz.mono (by omega)
          obtain ⟨c9, hc9, cc9⟩ := alpha_at (i := (r6 + b * (0 + (i : Int))) % 26) (Int.emod_nonneg _ (by decide)) (Int.emod_lt_of_pos _ (by decide))
          have p1 := (hz7.cut none (some r5))
          have p2 := (p1.app (sOk.sign cc9))
          have p3' := p2.app (hz7.cut (some r5) none)
          refine ⟨rfl, tyes ?_⟩
          refine ⟨_, rfl, _, rfl, _, rfl, _, rfl, zs, _, rfl, _, rfl, _, rfl, _, rfl, _, _, rfl, rfl, .inr ⟨by omega, by omega⟩, _, _, rfl, rfl, .inl ⟨_, rfl, _, _, rfl, rfl, (by show (0 : Int) < 26; decide), ?_⟩⟩
          refine ⟨alpha, _, c9, rfl, rfl, alpha_len, hc9, _, _, rfl, rfl, ?_, _, rfl, _, rfl, _, rfl, _, rfl, zs, _, _, rfl, rfl, ?_, _, by rw [e9]; exact upd_same, small1000 (by rw [List.length_map]; omega), _, (by rw [List.length_append, yl]; rfl), ?_, str_grow e9⟩
          · have := p1.1
            show _ + 1 ≤ sizeLine
            exact Nat.le_of_lt (small1000 (by omega))
          · have := p2.1
            have := (hz7.cut (some r5) none).1
            exact Nat.le_of_lt (small1000 (by omega))
          · intro y hy
            rcases List.mem_append.mp hy with hy | hy
            · exact yo y hy
            · rw [List.mem_singleton.mp hy]; exact p3'.mono (by decide)
        · rintro H9 ⟨ys, yl, yo, e9⟩
          have sD := Same.upd (o := .lst (ys.map V.str)) hD
          rw [e9]
          exact q D ys l5 _ (F6.free hD) upd_same (by omega) yo nD.1 nD.2 ((M6.same sD).mono (by omega)) (F6.junk hD)
end
end Ms
namespace Ms
open PySem PySem.Spec PyProof.Rows L2
/-! ### zip(list, tuple) over KE's draws -/
/-- the list at a, the tuple at b, the items in new pairs -/
def ItZM (K : PySem.W.Frag) (a b : Addr) : It :=
  ⟨fun i H => ∃ (xs ys : List V), SqL K H a xs ∧ SqT K H b ys ∧ i < xs.length ∧ i < ys.length,
    fun i H v H' => ∃ T x y, v = .ref T ∧ H T = none ∧ H' = upd H T (.tup [x, y]) ∧ (∀ xs, SqL K H a xs → xs[i]? = some x) ∧ ∀ ys, SqT K H b ys → ys[i]? = some y,
    fun i H => ∃ xs ys : List V, SqL K H a xs ∧ SqT K H b ys ∧ i ≤ xs.length ∧ i ≤ ys.length ∧ (i = xs.length ∨ i = ys.length)⟩
theorem walk_zm {K : PySem.W.Frag} {a b : Addr} {xs ys : List V} {n : Nat} (hn : n = min xs.length ys.length) : Walk (ItZM K a b) n (fun H => SqL K H a xs ∧ SqT K H b ys) (YPair (fun i => xs[i]?) (fun i => ys[i]?)) := by
  subst hn
  refine ⟨fun i _ hi q => ⟨xs, ys, q.1, q.2, by omega, by omega⟩, fun _ q => ⟨xs, ys, q.1, q.2, by omega, by omega, by omega⟩, fun i H v H' _ q y => ?_⟩
  obtain ⟨T, x, z, h1, h2, h3, h4, h5⟩ := y
  exact ⟨T, x, z, h1, h2, h3, h4 xs q.1, h5 ys q.2⟩
section
variable {a b z TI TO i1 i2 : Addr}
abbrev zmCells (z TI TO i1 i2 : Addr) : List Addr := [z, TI, TO, i1, i2]
abbrev ZmSt (a b z TI TO i1 i2 : Addr) : Nat → Heap → Prop := fun i h => IsZip h z TI TO .none ∧ IsTupOf2 h TI (.ref i1) (.ref i2) ∧ (∃ x y, IsTupOf2 h TO x y) ∧ h.IsListIter i1 a i ∧ h.IsTupleIter i2 b i
theorem zm_mem {c z TI TO i1 i2 : Addr} (h : c ∈ zmCells z TI TO i1 i2) : c = z ∨ c = TI ∨ c = TO ∨ c = i1 ∨ c = i2 := by simpa using h
theorem zm_there {i : Nat} {h : Heap} (st : ZmSt a b z TI TO i1 i2 i h) : ∀ c ∈ zmCells z TI TO i1 i2, ∃ o, h.get? c = some o ∧ ∀ v, o.data ≠ .cell v := fun c hc => by
  obtain ⟨hz, hTI, ⟨x, y, hTO⟩, ⟨o1, e1, _, d1⟩, ⟨o2, e2, _, d2⟩⟩ := st
  rcases zm_mem hc with rfl | rfl | rfl | rfl | rfl
  · exact ⟨_, hz, fun v q => nomatch q⟩
  · exact ⟨_, hTI, fun v q => nomatch q⟩
  · exact ⟨_, hTO, fun v q => nomatch q⟩
  · exact ⟨o1, e1, fun v q => by rw [d1] at q; cases q⟩
  · exact ⟨o2, e2, fun v q => by rw [d2] at q; cases q⟩
theorem turn_zm {P : Program} {w : World} {K : PySem.W.Frag} {elts : List Expr} {kk : Nat} {tpos : Pos} (S : ZipSep2 z TI TO i1 i2 [i1, a] [i2, b]) (na : a ≠ i1) (nb : b ≠ i2) :
    Turn P w K (.Tuple elts kk tpos) (ItZM K a b) (zmCells z TI TO i1 i2) z (ZmSt a b z TI TO i1 i2) where
  mem := by simp
  obj := fun i h st => zm_there st
  keep := fun i h h' st k => by
    obtain ⟨hz, hTI, ⟨x, y, hTO⟩, h1, h2⟩ := st
    exact ⟨k z (by simp) _ hz, k TI (by simp) _ hTI, ⟨x, y, k TO (by simp) _ hTO⟩, h1.at fun o q => k i1 (by simp) o q, h2.at fun o q => k i2 (by simp) o q⟩
  item := by
    intro X hP hw hK hc i pins s σ H E I hf st hg
    subst hP hw hK
    have live := zm_there st
    obtain ⟨hz, hTI, ⟨x0, y0, hTO⟩, h1, h2⟩ := st
    obtain ⟨xs, ys, hqx, hqy, hi1, hi2⟩ := hg
    obtain ⟨its, rv, p, _⟩ := I.list hqx
    obtain ⟨its2, rv2, p2, _⟩ := I.tuple hqy
    have l1 := rv.length
    have l2 := rv2.length
    have hh : X.A.in1.handled = none := I.ok.hd hc
    have fresh : ∀ c ∈ zmCells z TI TO i1 i2, c ≠ s.heap.objs.size := fun c hc => by
      obtain ⟨o, e, _⟩ := live c hc
      exact Nat.ne_of_lt (Heap.lt_size e)
    refine wpAny_pyNext_zipD2_item S (Draws.list hh i1 a na its.toArray) (Draws.tuple hh i2 b nb its2.toArray) hz hTI hTO ⟨h1, p.isList⟩ ⟨h2, p2⟩ (by simp; omega) (by simp; omega) fun u u2 h' tk hu hu2 z' TO' st1' st2' hT hsz hk => ?_
    refine ⟨_, rfl, wpAny_letOwnedTupleGo_zip (s := { s with heap := h', toks := tk }) z' fun h'' z'' sb => ?_⟩
    have hx : xs[i]? = some xs[i] := List.getElem?_eq_getElem hi1
    have hy : ys[i]? = some ys[i] := List.getElem?_eq_getElem hi2
    obtain ⟨v, hv, ru⟩ := rv.get hx
    obtain ⟨v2, hv2, ru2⟩ := rv2.get hy
    have e1 : u = v := by simp [hv] at hu; exact hu.symm
    have e2 : u2 = v2 := by simp [hv2] at hu2; exact hu2.symm
    subst e1 e2
    have zN := fresh z (by simp)
    have hT2 : h''.get? s.heap.objs.size = some { cls := .type "tuple", data := .seq #[u, u2] } := (sb.2 _ zN.symm).trans hT
    have new : ObjOk X.prog X.w (upd H s.heap.objs.size (.tup [xs[i], ys[i]])) h'' s.heap.objs.size (.tup [xs[i], ys[i]]) :=
      ⟨(by show 2 ≤ sizeLine; decide), [u, u2], .cons ru (.cons ru2 .nil), ⟨_, hT2, rfl, _, rfl⟩⟩
    have I1 : L2.Inv X pins σ (upd H s.heap.objs.size (.tup [xs[i], ys[i]])) { s with heap := h'', toks := tk } :=
      I.turnedNew (t' := tk) (ch := zmCells z TI TO i1 i2) (fun c o hb q => (sb.2 c fun e => hb (by simp [e])).trans (hk c o (fun e => hb (by simp [e])) (fun e => hb (by simp [e])) (fun e => hb (by simp [e])) (fun e => hb (by simp [e])) q)) hf (Nat.le_refl _) new
    refine ⟨.ref s.heap.objs.size, _, I1, rfl, ⟨_, xs[i], ys[i], rfl, I.hok.fresh (Nat.le_refl _), rfl, fun l hl => ?_, fun l hl => ?_⟩, ⟨z'', (sb.2 _ S.TIz).trans (hk _ _ S.TIz S.TITO S.TIi1 S.TIi2 hTI), ⟨_, _, (sb.2 _ S.TOz).trans TO'⟩, st1'.1.at fun o q => (sb.2 _ S.zi1.symm).trans q, st2'.1.at fun o q => (sb.2 _ S.zi2.symm).trans q⟩, fun c hcm => ?_⟩
    · rw [I.list_inj hl hqx]; exact hx
    · rw [I.tuple_inj hl hqy]; exact hy
    · rw [upd_ne (fresh c hcm)]
      exact (hf c hcm).1
  done := by
    intro X hP hw hK hc i pins s σ H E I hf st hg
    subst hP hw hK
    obtain ⟨hz, hTI, ⟨x0, y0, hTO⟩, h1, h2⟩ := st
    obtain ⟨xs, ys, hqx, hqy, hi1, hi2, hend⟩ := hg
    obtain ⟨its, rv, p, _⟩ := I.list hqx
    obtain ⟨its2, rv2, p2, _⟩ := I.tuple hqy
    have l1 := rv.length
    have l2 := rv2.length
    have hh : X.A.in1.handled = none := I.ok.hd hc
    exact wpAny_pyNext_zipD2_end S (Draws.list hh i1 a na its.toArray) (Draws.tuple hh i2 b nb its2.toArray) hz hTI hTO ⟨h1, p.isList⟩ ⟨h2, p2⟩ (by simp; omega) (by simp; omega) (by simp; omega) fun h' tk hk =>
      ⟨rfl, I.turnedL (t' := tk) (ch := zmCells z TI TO i1 i2) (fun c o hb q => hk c o (fun e => hb (by simp [e])) (fun e => hb (by simp [e])) (fun e => hb (by simp [e])) (fun e => hb (by simp [e])) q) hf⟩
  self := fun A i s Q E st h => wpAny_pyIter_zip st.1 h
end
/-- zip(list, tuple) -/
def iZM (K : PySem.W.Frag) (ta : TA) : TI := fun σ H R => ta σ H fun vs H1 => ∃ a b xs ys, vs = [.ref a, .ref b] ∧ SqL K H1 a xs ∧ SqT K H1 b ys ∧ R (ItZM K a b) H1
theorem pi_zm {X : Cx} {e e2 : Expr} {ta : TA} {p pos tpos : Pos} {elts : List Expr} {kk : Nat} (hg : Gl X "zip") (hm : X.mg "zip" = none) (ha : PA X [e, e2] ta)
    (hs : starEach [e, e2] X.env = (false, eval e X.env) :: starEach [e2] X.env := by rfl) (hpl : (backTo pos (starEach [e2] X.env)).any (·.1) = false := by rfl) :
    PI X (.Tuple elts kk tpos) (.Call (.Name "zip" p) [e, e2] [] pos) (iZM X.K ta) := by
  refine ⟨fun pins s σ H R I h => Call_ (ld_blt I hg hm PyProof.Rows.boot_zip (PyProof.Rows.callWith_type1 (thn (ha.run pos pins s σ H _ I h) fun us s1 ⟨vs, H1, I1, r1, q1⟩ => ?_) hs hpl))⟩
  obtain ⟨a, b, xs, ys, ex, hqx, hqy, q⟩ := q1
  subst ex
  cases r1 with
  | cons r rr =>
    cases rr with
    | cons r' rr =>
      cases rr
      cases r
      cases r'
      obtain ⟨its, rv, p1, _⟩ := I1.list hqx
      obtain ⟨its2, rv2, p2, _⟩ := I1.tuple hqy
      obtain ⟨o2, ho2, _⟩ := id p2
      have la := p1.lt
      have lb : b < s1.heap.objs.size := Heap.lt_size ho2
      have fp : ∀ c ∈ zmCells (s1.heap.objs.size + 4) (s1.heap.objs.size + 2) (s1.heap.objs.size + 3) s1.heap.objs.size (s1.heap.objs.size + 1), FpOk X pins H1 c := fun c hcm => by
        have hle : s1.heap.objs.size ≤ c := by
          rcases zm_mem hcm with q | q | q | q | q
          · rw [q]; exact Nat.le_add_right _ _
          · rw [q]; exact Nat.le_add_right _ _
          · rw [q]; exact Nat.le_add_right _ _
          · rw [q]; exact Nat.le_refl _
          · rw [q]; exact Nat.le_add_right _ _
        exact I1.fpOk hle (I1.hok.fresh hle)
      have S : ZipSep2 (s1.heap.objs.size + 4) (s1.heap.objs.size + 2) (s1.heap.objs.size + 3) s1.heap.objs.size (s1.heap.objs.size + 1) [s1.heap.objs.size, a] [s1.heap.objs.size + 1, b] :=
        zip_sep2 (fun c h => by rw [List.mem_singleton.mp h]; exact la) (fun c h => by rw [List.mem_singleton.mp h]; exact lb)
      have nb : b ≠ s1.heap.objs.size + 1 := Nat.ne_of_lt (Nat.lt_succ_of_lt lb)
      have T := turn_zm (P := X.prog) (w := X.w) (K := X.K) (elts := elts) (kk := kk) (tpos := tpos) S (Nat.ne_of_lt la) nb
      refine zip_begins2 (begins_list a its.toArray) (begins_tuple b its2.toArray) p1.isList p2 fun h' hz hTI hTO h1 h2 hsz hk => wpAny_pyIter_zip hz ?_
      have I2 : L2.Inv X pins σ H1 { s1 with heap := h' } := I1.kept (t' := s1.toks) hk
      exact ⟨s1.heap.objs.size + 4, zmCells (s1.heap.objs.size + 4) (s1.heap.objs.size + 2) (s1.heap.objs.size + 3) s1.heap.objs.size (s1.heap.objs.size + 1), _, ItZM X.K a b, H1, rfl, I2, T,
        ⟨hz, hTI, ⟨_, _, hTO⟩, ⟨_, h1, rfl, rfl⟩, ⟨_, h2, rfl, rfl⟩⟩, fp, q⟩
end Ms
namespace Ms
open PySem PySem.Spec PyProof.Rows L2
/-! ### _law_settings -/
/-- pairs of a text and an int, each a tuple of its own -/
inductive Prs (H : Hp) : List Addr → List (Str × Int) → Prop
  | nil : Prs H [] []
  | cons {a : Addr} {as : List Addr} {y : Str} {k : Int} {ys : List (Str × Int)} : H a = some (.tup [.str y, .int k]) → Prs H as ys → Prs H (a :: as) ((y, k) :: ys)
theorem Prs.same {H H' : Hp} {as : List Addr} {ys : List (Str × Int)} (s : ∀ b o, b ∈ as → H b = some o → H' b = some o) (p : Prs H as ys) : Prs H' as ys := by
  induction p with
  | nil => exact .nil
  | cons h _ ih => exact .cons (s _ _ (List.mem_cons_self ..) h) (ih fun b o hb => s b o (List.mem_cons_of_mem _ hb))
theorem Prs.snoc {H : Hp} {as : List Addr} {ys : List (Str × Int)} {a : Addr} {y : Str} {k : Int} (p : Prs H as ys) (h : H a = some (.tup [.str y, .int k])) : Prs H (as ++ [a]) (ys ++ [(y, k)]) := by
  induction p with
  | nil => exact .cons h .nil
  | cons h' _ ih => exact .cons h' ih
theorem Prs.length {H : Hp} {as : List Addr} {ys : List (Str × Int)} (p : Prs H as ys) : as.length = ys.length := by
  induction p with
  | nil => rfl
  | cons _ _ ih => simp [ih]
theorem Prs.live {H : Hp} {as : List Addr} {ys : List (Str × Int)} (p : Prs H as ys) : ∀ a ∈ as, ∃ y k, H a = some (.tup [.str y, .int k]) := by
  induction p with
  | nil => intro a h; cases h
  | cons h' _ ih =>
    intro b hb
    rcases List.mem_cons.mp hb with rfl | hb
    · exact ⟨_, _, h'⟩
    · exact ih b hb
theorem Prs.get {H : Hp} {as : List Addr} {ys : List (Str × Int)} (p : Prs H as ys) : ∀ {i : Nat} {a : Addr}, as[i]? = some a → ∃ y k, ys[i]? = some (y, k) ∧ H a = some (.tup [.str y, .int k]) := by
  induction p with
  | nil => intro i a h; simp at h
  | cons h' _ ih =>
    intro i b hb
    cases i with
    | zero => simp at hb; subst hb; exact ⟨_, _, rfl, h'⟩
    | succ i => exact ih (by simpa using hb)
/-- the data of such pairs -/
def prD (ys : List (Str × Int)) : List PyData := ys.map fun q => .tuple [.str q.1, .int q.2]
theorem Prs.dq {K : PySem.W.Frag} {H : Hp} {m l : Addr} {as : List Addr} {ys : List (Str × Int)} (p : Prs H as ys) : DqAll K H m l (as.map V.ref) (prD ys) := by
  induction p with
  | nil => exact .nil
  | cons h _ ih => exact .cons (.tup (.inl (.inl h)) (.cons (.str _) (.cons (.int _) .nil))) ih
theorem Fr.trail {m l l' : Addr} {H H1 H2 : Hp} (f : Fr m l l' H H1) (s : Same H1 H2) : Fr m l l' H H2 :=
  ⟨fun b o e h1 h2 => s _ _ (f.keep b o e h1 h2), f.new, fun b h => by
    cases q : H1 b with
    | none => exact absurd q (f.dom b h)
    | some o => rw [s _ _ q]; exact fun z => nomatch z⟩
/-- how often each may stand: one to three small ints -/
def Mo (H : Hp) (a : Addr) : Prop := ∃ ms : List Int, H a = some (.tup (ms.map V.int)) ∧ 1 ≤ ms.length ∧ ms.length ≤ 3 ∧ ∀ x ∈ ms, 1 ≤ x ∧ x ≤ 3
theorem Mo.same {H H' : Hp} {a : Addr} (s : Same H H') (h : Mo H a) : Mo H' a := by
  obtain ⟨ms, e, r⟩ := h
  exact ⟨ms, s _ _ e, r⟩
section
variable {P : Program} {w : World} {K : PySem.W.Frag} {mg : Str → Option Value} {base : Heap} {fN fM : Addr}
structure TxtS (mg : Str → Option Value) (fN fM : Addr) : Prop extends TxtN mg fN where
  names : mg "_law_names" = some (.ref fM)
abbrev NS : List Str := ["m", "mosts", "some", "name", "most"]
theorem scSt : FnScope NS ["m"] (defScope sSettings) := ⟨rfl, rfl, rfl, by decide +kernel, rfl, by decide +kernel, by decide +kernel⟩
/-- good pairs: names of at most 16 signs, small numbers -/
def okP (ys : List (Str × Int)) : Prop := ∀ q ∈ ys, sOk 16 q.1 ∧ 1 ≤ q.2 ∧ q.2 ≤ 3
def spSettings : Sp := fun vs H Q _ => ∃ (m l : Addr) (n : Nat), vs = [.ref m] ∧ Mch H m l n ∧ n < 800000 ∧
  ∀ (p : Addr) (as : List Addr) (ys : List (Str × Int)) (l' : Addr) (H' : Hp), H' p = some (.tup (as.map V.ref)) → Prs H' as ys → 1 ≤ ys.length → ys.length ≤ 3 → okP ys → Mch H' m l' (n + 12) → Fr m l l' H H' → Q (.ref p) H'
theorem ok_settings {f : Addr} {fd fdN fdM : FuncData} (F : Fun K "_law_settings" "_law_settings" sSettings f fd) (T : TxtS mg fN fM) (FN : Fun K "_law_next" "_law_next" sNext fN fdN) (bN : Binds K fdN ["m", "many"] [])
    (FM : Fun K "_law_names" "_law_names" sNames fM fdM) (bM : Binds K fdM ["m", "many"] []) : FnOk P w K mg base CX0 3 f fd ["m"] spSettings := by
  have GN : FnOk P w K mg base CX0 2 fN fdN ["m", "many"] spNext := (ok_next FN T.toTxt).mono (by decide)
  have GM : FnOk P w K mg base CX0 2 fM fdM ["m", "many"] spNames := ok_names FM T.toTxtN FN bN
  refine F.ok scSt (fun vs H Q E h => ?_) (fun cdv A outer s H vs Q E hr h => ?_)
  · obtain ⟨m, l, n, rfl, _⟩ := h
    rfl
  · obtain ⟨m, l, n, rfl, M, hn, q⟩ := h
    refine ⟨_, pss_cons (ps_set (i := 1) scSt.nd rfl (by first | exact Or.inl rfl | exact Or.inr rfl) (pe_lst (pa_cons (pe_tup (pa_cons pe_int pa_nil)) (pa_cons (pe_tup (pa_cons pe_int pa_nil)) (pa_cons (pe_tup (pa_cons pe_int pa_nil)) (pa_cons (pe_tup (pa_cons pe_int (pa_cons pe_int pa_nil))) (pa_cons (pe_tup (pa_cons pe_int (pa_cons pe_int pa_nil))) (pa_cons (pe_tup (pa_cons pe_int (pa_cons pe_int pa_nil))) (pa_cons (pe_tup (pa_cons pe_int (pa_cons pe_int pa_nil))) (pa_cons (pe_tup (pa_cons pe_int (pa_cons pe_int pa_nil))) (pa_cons (pe_tup (pa_cons pe_int (pa_cons pe_int pa_nil))) (pa_cons (pe_tup (pa_cons pe_int (pa_cons pe_int (pa_cons pe_int pa_nil)))) (pa_cons (pe_tup (pa_cons pe_int (pa_cons pe_int (pa_cons pe_int pa_nil)))) (pa_cons (pe_tup (pa_cons pe_int (pa_cons pe_int (pa_cons pe_int pa_nil)))) pa_nil))))))))))))))
      (pss_cons (ps_set (i := 2) scSt.nd rfl (by first | exact Or.inl rfl | exact Or.inr rfl) (pe_ix ix_list (pv 1) (pe_call GN hr rfl T.next FN.kp bN .nil pass0 (pa_cons (pv 0) (pa_cons pe_int pa_nil))) (fun _ _ => rfl)))
      (pss_one (ps_ret (pe_callTy call_tuple_of (by rfl) T.tuple (by decide +kernel) (pa_cons (pe_lc (own := [("name", 3), ("most", 4)]) (g := gTup K 2 (gCons (gName 3) (gCons (gName 4) gNil))) (by rfl) scSt.nd
        (pi_zm (by rfl) T.zip (pa_cons (pe_call GM hr rfl T.names FM.kp bM .nil pass0 (pa_cons (pv 0) (pa_cons (pe_callB call_len (by rfl) T.len PySem.boot_len (pa_cons (pv 2) pa_nil)) pa_nil))) (pa_cons (pv 2) pa_nil)))
        (blkOk_by (own := [("name", 3), ("most", 4)]) (N := NS) (sc := defScope sSettings) (by decide +kernel))
        (fun _ _ _ _ _ => pg_tup rfl (pgs_cons (pg_name (i := 3) scSt.nd rfl (Or.inl rfl)) (pgs_cons (pg_name (i := 4) scSt.nd rfl (Or.inl rfl)) pgs_nil))) (fun _ _ _ _ _ => pts_nil)
        (fun _ _ _ _ _ => pe_tup (pa_cons (pv 3) (pa_cons (pv 4) pa_nil)))) pa_nil))))), ?_⟩
    refine ⟨(by show 1 ≤ sizeLine; decide), fun p1 h1 => ?_⟩
    obtain ⟨G1, e1⟩ : ∃ G, G = upd H p1 (.tup [.int 1]) := ⟨_, rfl⟩
    rw [← e1]
    have s1 : Same H G1 := e1 ▸ Same.upd h1
    have M1 := M.same s1
    have f1 : Fr m l l H G1 := e1 ▸ (Fr.refl M).junk h1
    have a1_1 : Mo G1 p1 := ⟨[1], by rw [e1, upd_same]; rfl, by decide, by decide, by decide⟩
    refine ⟨(by show 1 ≤ sizeLine; decide), fun p2 h2 => ?_⟩
    obtain ⟨G2, e2⟩ : ∃ G, G = upd G1 p2 (.tup [.int 2]) := ⟨_, rfl⟩
    rw [← e2]
    have s2 : Same G1 G2 := e2 ▸ Same.upd h2
    have M2 := M1.same s2
    have f2 : Fr m l l H G2 := e2 ▸ f1.junk h2
    have a2_2 : Mo G2 p2 := ⟨[2], by rw [e2, upd_same]; rfl, by decide, by decide, by decide⟩
    have a1_2 := a1_1.same s2
    refine ⟨(by show 1 ≤ sizeLine; decide), fun p3 h3 => ?_⟩
    obtain ⟨G3, e3⟩ : ∃ G, G = upd G2 p3 (.tup [.int 3]) := ⟨_, rfl⟩
    rw [← e3]
    have s3 : Same G2 G3 := e3 ▸ Same.upd h3
    have M3 := M2.same s3
    have f3 : Fr m l l H G3 := e3 ▸ f2.junk h3
    have a3_3 : Mo G3 p3 := ⟨[3], by rw [e3, upd_same]; rfl, by decide, by decide, by decide⟩
    have a1_3 := a1_2.same s3
    have a2_3 := a2_2.same s3
    refine ⟨(by show 2 ≤ sizeLine; decide), fun p4 h4 => ?_⟩
    obtain ⟨G4, e4⟩ : ∃ G, G = upd G3 p4 (.tup [.int 1, .int 1]) := ⟨_, rfl⟩
    rw [← e4]
    have s4 : Same G3 G4 := e4 ▸ Same.upd h4
    have M4 := M3.same s4
    have f4 : Fr m l l H G4 := e4 ▸ f3.junk h4
    have a4_4 : Mo G4 p4 := ⟨[1, 1], by rw [e4, upd_same]; rfl, by decide, by decide, by decide⟩
    have a1_4 := a1_3.same s4
    have a2_4 := a2_3.same s4
    have a3_4 := a3_3.same s4
    refine ⟨(by show 2 ≤ sizeLine; decide), fun p5 h5 => ?_⟩
    obtain ⟨G5, e5⟩ : ∃ G, G = upd G4 p5 (.tup [.int 1, .int 2]) := ⟨_, rfl⟩
    rw [← e5]
    have s5 : Same G4 G5 := e5 ▸ Same.upd h5
    have M5 := M4.same s5
    have f5 : Fr m l l H G5 := e5 ▸ f4.junk h5
    have a5_5 : Mo G5 p5 := ⟨[1, 2], by rw [e5, upd_same]; rfl, by decide, by decide, by decide⟩
    have a1_5 := a1_4.same s5
    have a2_5 := a2_4.same s5
    have a3_5 := a3_4.same s5
    have a4_5 := a4_4.same s5
    refine ⟨(by show 2 ≤ sizeLine; decide), fun p6 h6 => ?_⟩
    obtain ⟨G6, e6⟩ : ∃ G, G = upd G5 p6 (.tup [.int 2, .int 1]) := ⟨_, rfl⟩
    rw [← e6]
    have s6 : Same G5 G6 := e6 ▸ Same.upd h6
    have M6 := M5.same s6
    have f6 : Fr m l l H G6 := e6 ▸ f5.junk h6
    have a6_6 : Mo G6 p6 := ⟨[2, 1], by rw [e6, upd_same]; rfl, by decide, by decide, by decide⟩
    have a1_6 := a1_5.same s6
    have a2_6 := a2_5.same s6
    have a3_6 := a3_5.same s6
    have a4_6 := a4_5.same s6
    have a5_6 := a5_5.same s6
    refine ⟨(by show 2 ≤ sizeLine; decide), fun p7 h7 => ?_⟩
    obtain ⟨G7, e7⟩ : ∃ G, G = upd G6 p7 (.tup [.int 2, .int 2]) := ⟨_, rfl⟩
    rw [← e7]
    have s7 : Same G6 G7 := e7 ▸ Same.upd h7
    have M7 := M6.same s7
    have f7 : Fr m l l H G7 := e7 ▸ f6.junk h7
    have a7_7 : Mo G7 p7 := ⟨[2, 2], by rw [e7, upd_same]; rfl, by decide, by decide, by decide⟩
    have a1_7 := a1_6.same s7
    have a2_7 := a2_6.same s7
    have a3_7 := a3_6.same s7
    have a4_7 := a4_6.same s7
    have a5_7 := a5_6.same s7
    have a6_7 := a6_6.same s7
    refine ⟨(by show 2 ≤ sizeLine; decide), fun p8 h8 => ?_⟩
    obtain ⟨G8, e8⟩ : ∃ G, G = upd G7 p8 (.tup [.int 1, .int 3]) := ⟨_, rfl⟩
    rw [← e8]
    have s8 : Same G7 G8 := e8 ▸ Same.upd h8
    have M8 := M7.same s8
    have f8 : Fr m l l H G8 := e8 ▸ f7.junk h8
    have a8_8 : Mo G8 p8 := ⟨[1, 3], by rw [e8, upd_same]; rfl, by decide, by decide, by decide⟩
    have a1_8 := a1_7.same s8
    have a2_8 := a2_7.same s8
    have a3_8 := a3_7.same s8
    have a4_8 := a4_7.same s8
    have a5_8 := a5_7.same s8
    have a6_8 := a6_7.same s8
    have a7_8 := a7_7.same s8
    refine ⟨(by show 2 ≤ sizeLine; decide), fun p9 h9 => ?_⟩
    obtain ⟨G9, e9⟩ : ∃ G, G = upd G8 p9 (.tup [.int 3, .int 2]) := ⟨_, rfl⟩
    rw [← e9]
    have s9 : Same G8 G9 := e9 ▸ Same.upd h9
    have M9 := M8.same s9
    have f9 : Fr m l l H G9 := e9 ▸ f8.junk h9
    have a9_9 : Mo G9 p9 := ⟨[3, 2], by rw [e9, upd_same]; rfl, by decide, by decide, by decide⟩
    have a1_9 := a1_8.same s9
    have a2_9 := a2_8.same s9
    have a3_9 := a3_8.same s9
    have a4_9 := a4_8.same s9
    have a5_9 := a5_8.same s9
    have a6_9 := a6_8.same s9
    have a7_9 := a7_8.same s9
    have a8_9 := a8_8.same s9
    refine ⟨(by show 3 ≤ sizeLine; decide), fun p10 h10 => ?_⟩
    obtain ⟨G10, e10⟩ : ∃ G, G = upd G9 p10 (.tup [.int 1, .int 1, .int 1]) := ⟨_, rfl⟩
    rw [← e10]
    have s10 : Same G9 G10 := e10 ▸ Same.upd h10
    have M10 := M9.same s10
    have f10 : Fr m l l H G10 := e10 ▸ f9.junk h10
    have a10_10 : Mo G10 p10 := ⟨[1, 1, 1], by rw [e10, upd_same]; rfl, by decide, by decide, by decide⟩
    have a1_10 := a1_9.same s10
    have a2_10 := a2_9.same s10
    have a3_10 := a3_9.same s10
    have a4_10 := a4_9.same s10
    have a5_10 := a5_9.same s10
    have a6_10 := a6_9.same s10
    have a7_10 := a7_9.same s10
    have a8_10 := a8_9.same s10
    have a9_10 := a9_9.same s10
    refine ⟨(by show 3 ≤ sizeLine; decide), fun p11 h11 => ?_⟩
    obtain ⟨G11, e11⟩ : ∃ G, G = upd G10 p11 (.tup [.int 1, .int 2, .int 1]) := ⟨_, rfl⟩
    rw [← e11]
    have s11 : Same G10 G11 := e11 ▸ Same.upd h11
    have M11 := M10.same s11
    have f11 : Fr m l l H G11 := e11 ▸ f10.junk h11
    have a11_11 : Mo G11 p11 := ⟨[1, 2, 1], by rw [e11, upd_same]; rfl, by decide, by decide, by decide⟩
    have a1_11 := a1_10.same s11
    have a2_11 := a2_10.same s11
    have a3_11 := a3_10.same s11
    have a4_11 := a4_10.same s11
    have a5_11 := a5_10.same s11
    have a6_11 := a6_10.same s11
    have a7_11 := a7_10.same s11
    have a8_11 := a8_10.same s11
    have a9_11 := a9_10.same s11
    have a10_11 := a10_10.same s11
    refine ⟨(by show 3 ≤ sizeLine; decide), fun p12 h12 => ?_⟩
    obtain ⟨G12, e12⟩ : ∃ G, G = upd G11 p12 (.tup [.int 1, .int 1, .int 2]) := ⟨_, rfl⟩
    rw [← e12]
    have s12 : Same G11 G12 := e12 ▸ Same.upd h12
    have M12 := M11.same s12
    have f12 : Fr m l l H G12 := e12 ▸ f11.junk h12
    have a12_12 : Mo G12 p12 := ⟨[1, 1, 2], by rw [e12, upd_same]; rfl, by decide, by decide, by decide⟩
    have a1_12 := a1_11.same s12
    have a2_12 := a2_11.same s12
    have a3_12 := a3_11.same s12
    have a4_12 := a4_11.same s12
    have a5_12 := a5_11.same s12
    have a6_12 := a6_11.same s12
    have a7_12 := a7_11.same s12
    have a8_12 := a8_11.same s12
    have a9_12 := a9_11.same s12
    have a10_12 := a10_11.same s12
    have a11_12 := a11_11.same s12
    refine ⟨(by show 12 ≤ sizeLine; decide), fun D hD => ?_⟩
    obtain ⟨G, eG⟩ : ∃ G, G = upd G12 D (.lst [.ref p1, .ref p2, .ref p3, .ref p4, .ref p5, .ref p6, .ref p7, .ref p8, .ref p9, .ref p10, .ref p11, .ref p12]) := ⟨_, rfl⟩
    rw [← eG]
    have sG : Same G12 G := eG ▸ Same.upd hD
    have nD := M12.ne hD
    have MG := M12.same sG
    have fG : Fr m l l H G := eG ▸ f12.junk hD
    have gD : G D = some (.lst [.ref p1, .ref p2, .ref p3, .ref p4, .ref p5, .ref p6, .ref p7, .ref p8, .ref p9, .ref p10, .ref p11, .ref p12]) := by rw [eG, upd_same]
    have pick : ∀ r : Int, 0 ≤ r → r < 12 → ∃ a, atI ([.ref p1, .ref p2, .ref p3, .ref p4, .ref p5, .ref p6, .ref p7, .ref p8, .ref p9, .ref p10, .ref p11, .ref p12] : List V) r = some (.ref a) ∧ Mo G a := by
      intro r h0 h1
      obtain ⟨j, rfl⟩ : ∃ j : Nat, r = (j : Int) := ⟨r.toNat, by omega⟩
      have hj : j < 12 := by omega
      match j, hj with
      | 0, _ => exact ⟨p1, rfl, a1_12.same sG⟩
      | 1, _ => exact ⟨p2, rfl, a2_12.same sG⟩
      | 2, _ => exact ⟨p3, rfl, a3_12.same sG⟩
      | 3, _ => exact ⟨p4, rfl, a4_12.same sG⟩
      | 4, _ => exact ⟨p5, rfl, a5_12.same sG⟩
      | 5, _ => exact ⟨p6, rfl, a6_12.same sG⟩
      | 6, _ => exact ⟨p7, rfl, a7_12.same sG⟩
      | 7, _ => exact ⟨p8, rfl, a8_12.same sG⟩
      | 8, _ => exact ⟨p9, rfl, a9_12.same sG⟩
      | 9, _ => exact ⟨p10, rfl, a10_12.same sG⟩
      | 10, _ => exact ⟨p11, rfl, a11_12.same sG⟩
      | 11, _ => exact ⟨p12, rfl, a12_12.same sG⟩
    clear e1 s1 M1 f1 e2 s2 M2 f2 e3 s3 M3 f3 e4 s4 M4 f4 e5 s5 M5 f5 e6 s6 M6 f6 e7 s7 M7 f7 e8 s8 M8 f8 e9 s9 M9 f9 e10 s10 M10 f10 e11 s11 M11 f11 a1_1 a1_2 a2_2 a1_3 a2_3 a3_3 a1_4 a2_4 a3_4 a4_4 a1_5 a2_5 a3_5 a4_5 a5_5 a1_6 a2_6 a3_6 a4_6 a5_6 a6_6 a1_7 a2_7 a3_7 a4_7 a5_7 a6_7 a7_7 a1_8 a2_8 a3_8 a4_8 a5_8 a6_8 a7_8 a8_8 a1_9 a2_9 a3_9 a4_9 a5_9 a6_9 a7_9 a8_9 a9_9 a1_10 a2_10 a3_10 a4_10 a5_10 a6_10 a7_10 a8_10 a9_10 a10_10 a1_11 a2_11 a3_11 a4_11 a5_11 a6_11 a7_11 a8_11 a9_11 a10_11 a11_11 a1_12 a2_12 a3_12 a4_12 a5_12 a6_12 a7_12 a8_12 a9_12 a10_12 a11_12 a12_12
    refine ⟨_, rfl, _, rfl, m, l, n, 12, rfl, MG, by omega, by decide, by decide, fun r l1 H1 r0 r1 M1 f1' => ?_⟩
    obtain ⟨a, ha, mo⟩ := pick r r0 r1
    refine ⟨D, _, r, .ref a, rfl, rfl, SqL.of (f1'.keep D _ gD nD.1 nD.2), ha, ?_⟩
    obtain ⟨ms, hms, ml1, ml3, msok⟩ := mo
    have am : a ≠ m ∧ a ≠ l := by
      obtain ⟨c, cs, ls, z, dm, dc, dl, _⟩ := MG.ex
      exact ⟨ne_of hms dm (by intro q; cases q), ne_of hms dl (by intro q; cases q)⟩
    have ka : H1 a = some (.tup (ms.map V.int)) := f1'.keep a _ hms am.1 am.2
    have F1 : Fr m l l1 H H1 := fG.trans f1'
    clear pick gD eG sG MG fG hD e12 s12 M12 f12 h12 h11 h10 h9 h8 h7 h6 h5 h4 h3 h2 h1 ha f1' hms
    have lenA : ((ms.map V.int).length : Nat) = ms.length := List.length_map ..
    refine ⟨_, rfl, _, rfl, _, _, rfl, .inr ⟨_, SqT.of ka, rfl⟩, ?_⟩
    refine ⟨m, l1, n + 1, (ms.map V.int).length, rfl, M1, by omega, by omega, by omega, fun N ys l2 H2 hN gN yl yo nm nl M2 f2 => ?_⟩
    have F2 := F1.trans f2
    have ka2 : H2 a = some (.tup (ms.map V.int)) := f2.keep a _ ka am.1 (by
      obtain ⟨c, cs, ls, z, dm, dc, dl, _⟩ := M1.ex
      exact ne_of ka dl (by intro q; cases q))
    refine ⟨_, rfl, N, a, _, _, rfl, SqL.of gN, .inl (.inl ka2), fun D2 hD2 => ?_⟩
    have yl' : ys.length = ms.length := yl.trans lenA
    refine lc_it (walk_zm (xs := ys.map V.str) (ys := ms.map V.int) (n := ms.length) (by simp [yl'])) (fun i H3 => ∃ as : List Addr, as.length = i ∧ Prs H3 as ((ys.zip ms).take i) ∧ (∀ b ∈ as, b ≠ D2) ∧ H3 D2 = some (.lst (as.map V.ref)) ∧ Same H2 H3)
      ⟨[], rfl, .nil, (fun _ hb => nomatch hb), upd_same, Same.upd hD2⟩ (fun i H3 _ ⟨as, _, _, _, _, s3⟩ => ⟨SqL.of (s3 _ _ gN), SqT.of (s3 _ _ ka2)⟩) ?_ ?_
    · rintro i x H3 H4 hi ⟨as, al, pr, nd, gd, s3⟩ ⟨T, x1, x2, rfl, hT, rfl, e1, e2⟩
      have hy : i < ys.length := by omega
      have e1' : x1 = .str ys[i] := by simp [hy] at e1; exact e1.symm
      have e2' : x2 = .int ms[i] := by simp [hi] at e2; exact e2.symm
      subst e1' e2'
      refine ⟨T, _, rfl, .inl (.inl upd_same), rfl, _, _, rfl, _, _, rfl, rfl, rfl, tyes ?_⟩
      refine ⟨_, rfl, _, rfl, (by show 2 ≤ sizeLine; decide), fun p hp => ?_⟩
      have sT : Same H3 (upd H3 T (.tup [.str ys[i], .int ms[i]])) := Same.upd hT
      have sp : Same (upd H3 T (.tup [.str ys[i], .int ms[i]])) (upd (upd H3 T (.tup [.str ys[i], .int ms[i]])) p (.tup [.str ys[i], .int ms[i]])) := Same.upd hp
      have nDp : p ≠ D2 := fun e => by rw [e, sT _ _ gd] at hp; cases hp
      refine ⟨_, sp _ _ (sT _ _ gd), small1000 (by rw [List.length_map]; omega), as ++ [p], by simp [al], ?_, ?_, ?_, ?_⟩
      · rw [List.take_succ]
        have ez : (ys.zip ms)[i]? = some (ys[i], ms[i]) := by rw [List.getElem?_zip_eq_some]; exact ⟨List.getElem?_eq_getElem hy, List.getElem?_eq_getElem hi⟩
        rw [ez]
        refine Prs.snoc (Prs.same (fun b o hb e => ?_) pr) ?_
        · rw [upd_ne (nd b hb)]; exact sp _ _ (sT _ _ e)
        · rw [upd_ne nDp, upd_same]
      · intro b hb
        rcases List.mem_append.mp hb with hb | hb
        · exact nd b hb
        · rw [List.mem_singleton.mp hb]; exact nDp
      · rw [upd_same, List.map_append]; rfl
      · intro b o e
        have nb : b ≠ D2 := ne_of_none e hD2
        rw [upd_ne nb]; exact sp _ _ (sT _ _ (s3 _ _ e))
    · rintro H3 ⟨as, al, pr, nd, gd, s3⟩
      have lz : (ys.zip ms).length = ms.length := by simp [yl']
      rw [List.take_of_length_le (by omega)] at pr
      refine ⟨D2, _, rfl, .inl ⟨SqL.of gd, fun p hp => ?_⟩⟩
      have sp : Same H3 (upd H3 p (.tup (as.map V.ref))) := Same.upd hp
      refine q p as (ys.zip ms) l2 _ upd_same (pr.same fun b o _ e => sp b o e) (by omega) (by omega) (fun y hy => ?_) ((((M2.same s3).same sp)).mono (by omega)) ((F2.trail s3).trail sp)
      have := List.of_mem_zip hy
      exact ⟨yo _ this.1, msok _ this.2⟩
end
end Ms
namespace Ms
open PySem PySem.Spec PyProof.Rows L2
/-! ### _law_odd -/
def odds : List PyData := [.none, .int 0, .int 1, .int 2, .int 4, .int (-1), .int 100, .bool true, .bool false, .str "", .str "a", .str "abcdefghi", .str "A", .str "end", .str "live", .tuple [], .tuple [.tuple []], .tuple [.str "a", .int 1], .list [], .dict [], .int (10 ^ (30 : Int).toNat), .tuple [.str "end"], .tuple [.tuple [.str "end"]], .str "begin", .str "a1", .tuple [.str "do", .str "a", .int 0]]
abbrev big : Nat := 10 ^ 30
def gdB (B a b : Nat) (d : PyData) : Bool := okD B d && (decide (d.weight ≤ a) && decide (d.depth ≤ b))
theorem gd_of {B a b : Nat} {d : PyData} (h : gdB B a b d = true) : Gd B a b d := by
  unfold gdB at h
  simp only [Bool.and_eq_true, decide_eq_true_eq] at h
  exact ⟨h.1, h.2.1, h.2.2⟩
theorem odds_good : odds.all (gdB big 128 2) = true := by decide +kernel
section
variable {P : Program} {w : World} {K : PySem.W.Frag} {mg : Str → Option Value} {base : Heap} {fN fM : Addr}
theorem scOd : FnScope ["m", "some"] ["m"] (defScope sOdd) := ⟨rfl, rfl, rfl, by decide +kernel, rfl, by decide +kernel, by decide +kernel⟩
def spOdd (K : PySem.W.Frag) : Sp := fun vs H Q _ => ∃ (m l : Addr) (n : Nat), vs = [.ref m] ∧ Mch H m l n ∧ n < 900000 ∧
  ∀ (v : V) (d : PyData) (l' : Addr) (H' : Hp), Dq K H' m l' v d → Gd big 128 2 d → Mch H' m l' (n + 1) → Fr m l l' H H' → Q v H'
theorem ok_odd {f : Addr} {fd fdN : FuncData} (F : Fun K "_law_odd" "_law_odd" sOdd f fd) (T : TxtS mg fN fM) (FN : Fun K "_law_next" "_law_next" sNext fN fdN) (bN : Binds K fdN ["m", "many"] []) : FnOk P w K mg base CX0 2 f fd ["m"] (spOdd K) := by
  have GN : FnOk P w K mg base CX0 1 fN fdN ["m", "many"] spNext := ok_next FN T.toTxt
  refine F.ok scOd (fun vs H Q E h => ?_) (fun cdv A outer s H vs Q E hr h => ?_)
  · obtain ⟨m, l, n, rfl, _⟩ := h
    rfl
  · obtain ⟨m, l, n, rfl, M, hn, q⟩ := h
    refine ⟨_, pss_cons (ps_set (i := 1) scOd.nd rfl (by first | exact Or.inl rfl | exact Or.inr rfl) (pe_lst (pa_cons pe_non (pa_cons pe_int (pa_cons pe_int (pa_cons pe_int (pa_cons pe_int (pa_cons (pe_un un_neg pe_int) (pa_cons pe_int (pa_cons pe_bl (pa_cons pe_bl (pa_cons pe_str (pa_cons pe_str (pa_cons pe_str (pa_cons pe_str (pa_cons pe_str (pa_cons pe_str (pa_cons (pe_tup pa_nil) (pa_cons (pe_tup (pa_cons (pe_tup pa_nil) pa_nil)) (pa_cons (pe_tup (pa_cons pe_str (pa_cons pe_int pa_nil))) pa_nil))))))))))))))))))))
      (pss_one (ps_ret (pe_ix ix_list (pe_op op_cat (pv 1) (pe_lst (pa_cons (pe_lst pa_nil) (pa_cons pe_dnewK (pa_cons (pe_op op_pow pe_int pe_int) (pa_cons (pe_tup (pa_cons pe_str pa_nil)) (pa_cons (pe_tup (pa_cons (pe_tup (pa_cons pe_str pa_nil)) pa_nil)) (pa_cons pe_str (pa_cons pe_str (pa_cons (pe_tup (pa_cons pe_str (pa_cons pe_str (pa_cons pe_int pa_nil)))) pa_nil))))))))))
        (pe_call GN hr rfl T.next FN.kp bN .nil pass0 (pa_cons (pv 0) (pa_cons pe_int pa_nil))) (fun _ _ => rfl)))), ?_⟩
    refine ⟨_, rfl, ?_⟩
    refine ⟨Nat.zero_le _, fun p1 hp1 => ?_⟩
    obtain ⟨G1, e1⟩ : ∃ G, G = upd H p1 (.tup []) := ⟨_, rfl⟩
    rw [← e1]
    have s : Same H G1 := e1 ▸ Same.upd hp1
    have np1 := M.ne hp1
    have M1 := M.same s
    have f1 : Fr m l l H G1 := e1 ▸ (Fr.refl M).junk hp1
    have kp1 : G1 p1 = some (.tup []) := by rw [e1, upd_same]
    clear s e1
    refine ⟨Nat.zero_le _, fun p2 hp2 => ?_⟩
    obtain ⟨G2, e2⟩ : ∃ G, G = upd G1 p2 (.tup []) := ⟨_, rfl⟩
    rw [← e2]
    have s : Same G1 G2 := e2 ▸ Same.upd hp2
    have np2 := M1.ne hp2
    have M2 := M1.same s
    have f2 : Fr m l l H G2 := e2 ▸ f1.junk hp2
    replace kp1 := s _ _ kp1
    have kp2 : G2 p2 = some (.tup []) := by rw [e2, upd_same]
    clear s e2
    refine ⟨(by show 1 ≤ sizeLine; decide), fun p3 hp3 => ?_⟩
    obtain ⟨G3, e3⟩ : ∃ G, G = upd G2 p3 (.tup [.ref p2]) := ⟨_, rfl⟩
    rw [← e3]
    have s : Same G2 G3 := e3 ▸ Same.upd hp3
    have np3 := M2.ne hp3
    have M3 := M2.same s
    have f3 : Fr m l l H G3 := e3 ▸ f2.junk hp3
    replace kp1 := s _ _ kp1
    replace kp2 := s _ _ kp2
    have kp3 : G3 p3 = some (.tup [.ref p2]) := by rw [e3, upd_same]
    clear s e3
    refine ⟨(by show 2 ≤ sizeLine; decide), fun p4 hp4 => ?_⟩
    obtain ⟨G4, e4⟩ : ∃ G, G = upd G3 p4 (.tup [.str "a", .int 1]) := ⟨_, rfl⟩
    rw [← e4]
    have s : Same G3 G4 := e4 ▸ Same.upd hp4
    have np4 := M3.ne hp4
    have M4 := M3.same s
    have f4 : Fr m l l H G4 := e4 ▸ f3.junk hp4
    replace kp1 := s _ _ kp1
    replace kp2 := s _ _ kp2
    replace kp3 := s _ _ kp3
    have kp4 : G4 p4 = some (.tup [.str "a", .int 1]) := by rw [e4, upd_same]
    clear s e4
    refine ⟨(by show 18 ≤ sizeLine; decide), fun L1 hL1 => ?_⟩
    obtain ⟨G5, e5⟩ : ∃ G, G = upd G4 L1 (.lst [.non, .int 0, .int 1, .int 2, .int 4, .int (-1), .int 100, .bl true, .bl false, .str "", .str "a", .str "abcdefghi", .str "A", .str "end", .str "live", .ref p1, .ref p3, .ref p4]) := ⟨_, rfl⟩
    rw [← e5]
    have s : Same G4 G5 := e5 ▸ Same.upd hL1
    have nL1 := M4.ne hL1
    have M5 := M4.same s
    have f5 : Fr m l l H G5 := e5 ▸ f4.junk hL1
    replace kp1 := s _ _ kp1
    replace kp2 := s _ _ kp2
    replace kp3 := s _ _ kp3
    replace kp4 := s _ _ kp4
    have kL1 : G5 L1 = some (.lst [.non, .int 0, .int 1, .int 2, .int 4, .int (-1), .int 100, .bl true, .bl false, .str "", .str "a", .str "abcdefghi", .str "A", .str "end", .str "live", .ref p1, .ref p3, .ref p4]) := by rw [e5, upd_same]
    clear s e5
    refine ⟨_, rfl, ?_⟩
    refine ⟨Nat.zero_le _, fun p5 hp5 => ?_⟩
    obtain ⟨G6, e6⟩ : ∃ G, G = upd G5 p5 (.lst []) := ⟨_, rfl⟩
    rw [← e6]
    have s : Same G5 G6 := e6 ▸ Same.upd hp5
    have np5 := M5.ne hp5
    have M6 := M5.same s
    have f6 : Fr m l l H G6 := e6 ▸ f5.junk hp5
    replace kp1 := s _ _ kp1
    replace kp2 := s _ _ kp2
    replace kp3 := s _ _ kp3
    replace kp4 := s _ _ kp4
    replace kL1 := s _ _ kL1
    have kp5 : G6 p5 = some (.lst []) := by rw [e6, upd_same]
    clear s e6
    intro p6 hp6
    obtain ⟨G7, e7⟩ : ∃ G, G = upd G6 p6 (.dK []) := ⟨_, rfl⟩
    rw [← e7]
    have s : Same G6 G7 := e7 ▸ Same.upd hp6
    have np6 := M6.ne hp6
    have M7 := M6.same s
    have f7 : Fr m l l H G7 := e7 ▸ f6.junk hp6
    replace kp1 := s _ _ kp1
    replace kp2 := s _ _ kp2
    replace kp3 := s _ _ kp3
    replace kp4 := s _ _ kp4
    replace kL1 := s _ _ kL1
    replace kp5 := s _ _ kp5
    have kp6 : G7 p6 = some (.dK []) := by rw [e7, upd_same]
    clear s e7
    refine ⟨_, _, rfl, rfl, ⟨by decide, by decide, by decide⟩, ?_⟩
    refine ⟨(by show 1 ≤ sizeLine; decide), fun p7 hp7 => ?_⟩
    obtain ⟨G8, e8⟩ : ∃ G, G = upd G7 p7 (.tup [.str "end"]) := ⟨_, rfl⟩
    rw [← e8]
    have s : Same G7 G8 := e8 ▸ Same.upd hp7
    have np7 := M7.ne hp7
    have M8 := M7.same s
    have f8 : Fr m l l H G8 := e8 ▸ f7.junk hp7
    replace kp1 := s _ _ kp1
    replace kp2 := s _ _ kp2
    replace kp3 := s _ _ kp3
    replace kp4 := s _ _ kp4
    replace kL1 := s _ _ kL1
    replace kp5 := s _ _ kp5
    replace kp6 := s _ _ kp6
    have kp7 : G8 p7 = some (.tup [.str "end"]) := by rw [e8, upd_same]
    clear s e8
    refine ⟨(by show 1 ≤ sizeLine; decide), fun p8 hp8 => ?_⟩
    obtain ⟨G9, e9⟩ : ∃ G, G = upd G8 p8 (.tup [.str "end"]) := ⟨_, rfl⟩
    rw [← e9]
    have s : Same G8 G9 := e9 ▸ Same.upd hp8
    have np8 := M8.ne hp8
    have M9 := M8.same s
    have f9 : Fr m l l H G9 := e9 ▸ f8.junk hp8
    replace kp1 := s _ _ kp1
    replace kp2 := s _ _ kp2
    replace kp3 := s _ _ kp3
    replace kp4 := s _ _ kp4
    replace kL1 := s _ _ kL1
    replace kp5 := s _ _ kp5
    replace kp6 := s _ _ kp6
    replace kp7 := s _ _ kp7
    have kp8 : G9 p8 = some (.tup [.str "end"]) := by rw [e9, upd_same]
    clear s e9
    refine ⟨(by show 1 ≤ sizeLine; decide), fun p9 hp9 => ?_⟩
    obtain ⟨G10, e10⟩ : ∃ G, G = upd G9 p9 (.tup [.ref p8]) := ⟨_, rfl⟩
    rw [← e10]
    have s : Same G9 G10 := e10 ▸ Same.upd hp9
    have np9 := M9.ne hp9
    have M10 := M9.same s
    have f10 : Fr m l l H G10 := e10 ▸ f9.junk hp9
    replace kp1 := s _ _ kp1
    replace kp2 := s _ _ kp2
    replace kp3 := s _ _ kp3
    replace kp4 := s _ _ kp4
    replace kL1 := s _ _ kL1
    replace kp5 := s _ _ kp5
    replace kp6 := s _ _ kp6
    replace kp7 := s _ _ kp7
    replace kp8 := s _ _ kp8
    have kp9 : G10 p9 = some (.tup [.ref p8]) := by rw [e10, upd_same]
    clear s e10
    refine ⟨(by show 3 ≤ sizeLine; decide), fun p10 hp10 => ?_⟩
    obtain ⟨G11, e11⟩ : ∃ G, G = upd G10 p10 (.tup [.str "do", .str "a", .int 0]) := ⟨_, rfl⟩
    rw [← e11]
    have s : Same G10 G11 := e11 ▸ Same.upd hp10
    have np10 := M10.ne hp10
    have M11 := M10.same s
    have f11 : Fr m l l H G11 := e11 ▸ f10.junk hp10
    replace kp1 := s _ _ kp1
    replace kp2 := s _ _ kp2
    replace kp3 := s _ _ kp3
    replace kp4 := s _ _ kp4
    replace kL1 := s _ _ kL1
    replace kp5 := s _ _ kp5
    replace kp6 := s _ _ kp6
    replace kp7 := s _ _ kp7
    replace kp8 := s _ _ kp8
    replace kp9 := s _ _ kp9
    have kp10 : G11 p10 = some (.tup [.str "do", .str "a", .int 0]) := by rw [e11, upd_same]
    clear s e11
    refine ⟨(by show 8 ≤ sizeLine; decide), fun L2 hL2 => ?_⟩
    obtain ⟨G12, e12⟩ : ∃ G, G = upd G11 L2 (.lst [.ref p5, .ref p6, .int (10 ^ (30 : Int).toNat), .ref p7, .ref p9, .str "begin", .str "a1", .ref p10]) := ⟨_, rfl⟩
    rw [← e12]
    have s : Same G11 G12 := e12 ▸ Same.upd hL2
    have nL2 := M11.ne hL2
    have M12 := M11.same s
    have f12 : Fr m l l H G12 := e12 ▸ f11.junk hL2
    replace kp1 := s _ _ kp1
    replace kp2 := s _ _ kp2
    replace kp3 := s _ _ kp3
    replace kp4 := s _ _ kp4
    replace kL1 := s _ _ kL1
    replace kp5 := s _ _ kp5
    replace kp6 := s _ _ kp6
    replace kp7 := s _ _ kp7
    replace kp8 := s _ _ kp8
    replace kp9 := s _ _ kp9
    replace kp10 := s _ _ kp10
    have kL2 : G12 L2 = some (.lst [.ref p5, .ref p6, .int (10 ^ (30 : Int).toNat), .ref p7, .ref p9, .str "begin", .str "a1", .ref p10]) := by rw [e12, upd_same]
    clear s e12
    refine ⟨L1, L2, _, _, rfl, rfl, kL1, kL2, (by show 26 ≤ sizeLine; decide), fun L3 hL3 => ?_⟩
    obtain ⟨G13, e13⟩ : ∃ G, G = upd G12 L3 (.lst [.non, .int 0, .int 1, .int 2, .int 4, .int (-1), .int 100, .bl true, .bl false, .str "", .str "a", .str "abcdefghi", .str "A", .str "end", .str "live", .ref p1, .ref p3, .ref p4, .ref p5, .ref p6, .int (10 ^ (30 : Int).toNat), .ref p7, .ref p9, .str "begin", .str "a1", .ref p10]) := ⟨_, rfl⟩
    have e13' : upd G12 L3 (.lst (([.non, .int 0, .int 1, .int 2, .int 4, .int (-1), .int 100, .bl true, .bl false, .str "", .str "a", .str "abcdefghi", .str "A", .str "end", .str "live", .ref p1, .ref p3, .ref p4] : List V) ++ [.ref p5, .ref p6, .int (10 ^ (30 : Int).toNat), .ref p7, .ref p9, .str "begin", .str "a1", .ref p10])) = G13 := e13.symm
    rw [e13']
    have s : Same G12 G13 := e13 ▸ Same.upd hL3
    have nL3 := M12.ne hL3
    have M13 := M12.same s
    have f13 : Fr m l l H G13 := e13 ▸ f12.junk hL3
    replace kp1 := s _ _ kp1
    replace kp2 := s _ _ kp2
    replace kp3 := s _ _ kp3
    replace kp4 := s _ _ kp4
    replace kL1 := s _ _ kL1
    replace kp5 := s _ _ kp5
    replace kp6 := s _ _ kp6
    replace kp7 := s _ _ kp7
    replace kp8 := s _ _ kp8
    replace kp9 := s _ _ kp9
    replace kp10 := s _ _ kp10
    replace kL2 := s _ _ kL2
    have kL3 : G13 L3 = some (.lst [.non, .int 0, .int 1, .int 2, .int 4, .int (-1), .int 100, .bl true, .bl false, .str "", .str "a", .str "abcdefghi", .str "A", .str "end", .str "live", .ref p1, .ref p3, .ref p4, .ref p5, .ref p6, .int (10 ^ (30 : Int).toNat), .ref p7, .ref p9, .str "begin", .str "a1", .ref p10]) := by rw [e13, upd_same]
    clear s e13 e13'
    have D : DqAll K G13 m l [.non, .int 0, .int 1, .int 2, .int 4, .int (-1), .int 100, .bl true, .bl false, .str "", .str "a", .str "abcdefghi", .str "A", .str "end", .str "live", .ref p1, .ref p3, .ref p4, .ref p5, .ref p6, .int (10 ^ (30 : Int).toNat), .ref p7, .ref p9, .str "begin", .str "a1", .ref p10] odds :=
      (.cons (.non) (.cons (.int _) (.cons (.int _) (.cons (.int _) (.cons (.int _) (.cons (.int _) (.cons (.int _) (.cons (.bl _) (.cons (.bl _) (.cons (.str _) (.cons (.str _) (.cons (.str _) (.cons (.str _) (.cons (.str _) (.cons (.str _) (.cons (.tup (.inl (.inl kp1)) .nil) (.cons (.tup (.inl (.inl kp3)) (.cons (.tup (.inl (.inl kp2)) .nil) .nil)) (.cons (.tup (.inl (.inl kp4)) (.cons (.str _) (.cons (.int _) .nil))) (.cons (.lst kp5 np5.1 np5.2 .nil) (.cons (.dct kp6 np6.1 np6.2) (.cons (.int _) (.cons (.tup (.inl (.inl kp7)) (.cons (.str _) .nil)) (.cons (.tup (.inl (.inl kp9)) (.cons (.tup (.inl (.inl kp8)) (.cons (.str _) .nil)) .nil)) (.cons (.str _) (.cons (.str _) (.cons (.tup (.inl (.inl kp10)) (.cons (.str _) (.cons (.str _) (.cons (.int _) .nil)))) .nil))))))))))))))))))))))))))
    have kd := M13.step (l' := l) (Fr.refl M13)
    clear kL1 kL2 kp1 kp2 kp3 kp4 kp5 kp6 kp7 kp8 kp9 kp10
    refine ⟨_, rfl, m, l, n, 26, rfl, M13, by omega, by decide, by decide, fun r l' H' r0 r1 M' f => ?_⟩
    obtain ⟨rn, rfl⟩ : ∃ rn : Nat, r = (rn : Int) := ⟨r.toNat, by omega⟩
    obtain ⟨vs, hvs⟩ : ∃ vs : List V, vs = [.non, .int 0, .int 1, .int 2, .int 4, .int (-1), .int 100, .bl true, .bl false, .str "", .str "a", .str "abcdefghi", .str "A", .str "end", .str "live", .ref p1, .ref p3, .ref p4, .ref p5, .ref p6, .int (10 ^ (30 : Int).toNat), .ref p7, .ref p9, .str "begin", .str "a1", .ref p10] := ⟨_, rfl⟩
    rw [← hvs] at D kL3
    have lv : vs.length = 26 := by rw [hvs]; rfl
    obtain ⟨v, hv⟩ : ∃ v, vs[rn]? = some v := ⟨_, List.getElem?_eq_getElem (by rw [lv]; omega)⟩
    obtain ⟨d, hd, dq⟩ := D.get hv
    have gd : Gd big 128 2 d := gd_of (List.all_eq_true.mp odds_good d (List.mem_of_getElem? hd))
    refine ⟨L3, _, (rn : Int), v, rfl, rfl, SqL.of (f.keep L3 _ kL3 nL3.1 nL3.2), atI_nat hv, ?_⟩
    exact q v d l' H' (Dq.step (M13.step f) d v dq) gd M' (f13.trans f)
end
end Ms
namespace Ms
open PySem PySem.Spec PyProof.Rows L2
/-! ### two rules over tuples -/
/-- t == (), whatever the items are -/
theorem op_eq_nil {X : Cx} (hu : X.A.units + 64 < cLine) : OpR X (compareOp .Eq) (fun x y H Q => ∃ a b xs, x = .ref a ∧ y = .ref b ∧ SqT X.K H a xs ∧ SqT X.K H b [] ∧ Q (.bl (xs.length == 0)) H) := by
  intro pins s σ H x y v u Q I rx ry h
  obtain ⟨a, b, xs, rfl, rfl, ha, hb, q⟩ := h
  cases rx
  cases ry
  obtain ⟨its, r1, p1, _⟩ := I.tuple ha
  obtain ⟨its2, r2, p2, _⟩ := I.tuple hb
  cases r2
  have hl := r1.length
  refine SeqAt.eq_tupleAt (e := fun _ => true) p1 p2 (by omega) (fun j h1 h2 => by simp at h2) ?_
  refine ⟨.bl _, H, I, rfl, ?_⟩
  have e : ((List.range (min its.toArray.size ([] : List Value).toArray.size)).all (fun _ => true) && its.toArray.size == ([] : List Value).toArray.size) = (xs.length == 0) := by
    rw [hl]; simp
  rw [e]; exact q
section
variable {prog : Program} {w : World} {A : Around} {E : Value → Shared → Prop} {s : Shared}
theorem places_rev (n : Nat) : Builtin.Slice.slicePlaces ((n : Int) - 1) (-1) (-1) = n := by
  unfold Builtin.Slice.slicePlaces
  have h1 : ¬ ((-1 : Int) > 0) := by decide
  have h2 : (- -1 : Int) = 1 := by decide
  simp only [h1, if_false, h2, Int.ediv_one]
  split <;> omega
theorem applied_rev {sl : Addr} {vs : Value} {n : Nat} {Q : Int × Int × Nat → Shared → Prop} (hs : s.heap.IsSliceOf sl .none .none vs) (ps : IsPart vs (some (-1)))
    (h : Q ((n : Int) - 1, -1, n) s) : wpAny (model prog w) A (Builtin.Slice.sliceApplied (.ref sl) (pure (n : Int))) Q E s := by
  obtain ⟨os, hos, hcs, hds⟩ := id hs
  unfold Builtin.Slice.sliceApplied Builtin.Slice.sliceFields
  refine wpAny_bind (wpAny_bind (wpAny_field hos hds (x := .none) rfl (wpAny_bind (wpAny_field hos hds (x := .none) rfl (wpAny_bind (wpAny_field hos hds (x := vs) rfl (wpAny_pure ?_)))))))
  refine wpAny_bind (HT.slicePart_ ps ?_)
  show wpAny _ _ (if ((-1 : Int) == 0) = true then _ else _) _ _ s
  rw [if_neg (by decide)]
  refine wpAny_bind (HT.slicePart_ .none (wpAny_bind (HT.slicePart_ .none (wpAny_bind (wpAny_pure ?_)))))
  show wpAny _ _ (pure ((n : Int) - 1, (-1 : Int), Builtin.Slice.slicePlaces ((n : Int) - 1) (-1) (-1))) _ _ s
  rw [places_rev]
  exact wpAny_pure h
theorem pick_rev (xs : Array Value) : ((List.range xs.size).filterMap fun (m : Nat) => xs[((xs.size : Int) - 1 + (m : Int) * (-1)).toNat]?).toArray = xs.toList.reverse.toArray := by
  have e : (List.range xs.size).filterMap (fun (m : Nat) => xs[((xs.size : Int) - 1 + (m : Int) * (-1)).toNat]?) = ((List.range xs.size).map fun k => xs.size - 1 - k).filterMap (xs[·]?) := by
    have g : ∀ (f : Nat → Option Value), (List.range xs.size).filterMap f = ((List.range xs.size).map f).filterMap id := fun f => by rw [List.filterMap_map]; rfl
    rw [List.filterMap_map, g, g]
    refine congrArg (List.filterMap id) (List.map_congr_left fun m hm => ?_)
    have := List.mem_range.mp hm
    have q : ((xs.size : Int) - 1 + (m : Int) * (-1)).toNat = xs.size - 1 - m := by omega
    show _ = xs[xs.size - 1 - m]?
    rw [q]
  rw [e, PySem.W.krv_range, List.filterMap_reverse, PySem.W.krv_all]
theorem getItem_tuple_rev {t sl : Addr} {items : Array Value} {vs : Value} {Q : Value → Shared → Prop} (ht : IsTup s.heap t items) (hs : s.heap.IsSliceOf sl .none .none vs) (ps : IsPart vs (some (-1)))
    (h : Q (.ref s.heap.objs.size) { s with heap := s.heap.push { cls := .type "tuple", data := .seq items.toList.reverse.toArray } })
    (hsz : items.size ≤ sizeLine) : wpAny (model prog w) A (getItem (.ref t) (.ref sl)) Q E s := by
  have hrev : sizeOk (.seq items.toList.reverse.toArray) := by
    show items.toList.reverse.toArray.size ≤ sizeLine
    simpa using hsz
  obtain ⟨os, hos, hcs, hds⟩ := id hs
  have hTs : s.TypeIs (.ref sl) "slice" := ⟨os, hos, hcs⟩
  have seq : ∀ {Q : Value → Shared → Prop}, wpAny (model prog w) A.in1 (Builtin.«tuple.__getitem__» ⟨[.ref t, .ref sl], []⟩) (fun fin s' => ∃ v, fin = .done (.ret v) ∧ Q v s') E s → wpAny (model prog w) A (getItem (.ref t) (.ref sl)) Q E s := fun {Q} run => by
    unfold getItem
    first | with_reducible apply wpAny_holding | skip
    first | refine wpAny_bind (wpAny_pure (wpAny_bind (wpAny_sequenceKey ht.typeIs (by decide) ?_))) | refine wpAny_bind (wpAny_sequenceKey ht.typeIs (by decide) ?_)
    exact wpAny_bind (wpAny_callSpecial?_slot (name := Str.ofString "__getitem__") ht.typeIs PyProof.Rows.slot_tuple_getitem (wpAny_call_entry PyProof.Rows.slot_tuple_getitem ht.typeIs PyProof.Rows.entry_tuple_getitem (wpAny_mono run (fun fin s1 ⟨v, e, q⟩ => ⟨v, e, wpAny_pure q⟩) (fun _ _ x => x)) (PyProof.Rows.args_tuple_getitem _ _)))
  refine seq ?_
  show wpAny _ _ (Builtin.Tuple.tupleItemsOf (.ref t) >>= _) _ _ s
  refine wpAny_bind (PyProof.Rows.tupleItemsOf_ ht ?_)
  refine wpAny_bind (wpAny_typeOf hTs ?_)
  rw [if_pos (by decide)]
  refine wpAny_bind (applied_rev hs ps ?_)
  have hno : ¬ ((((items.size : Int) - 1) == 0 && (-1 : Int) == 1 && items.size == items.size) = true) := by simp
  show wpAny _ _ (if (((items.size : Int) - 1) == 0 && (-1 : Int) == 1 && items.size == items.size) = true then _ else _) _ _ s
  rw [if_neg hno, pick_rev]
  first
    | exact wpAny_bind (m := Builtin.Tuple.tupleExact _) (wpAny_newObj_type (wpAny_pure ⟨_, rfl, h⟩) hrev)
    | exact wpAny_bind (m := Builtin.Tuple.tupleExact _) (wpAny_newObj_type (wpAny_bind (wpAny_pure (wpAny_pure ⟨_, rfl, h⟩))) hrev)
    | exact wpAny_bind (wpAny_bind (m := Builtin.Tuple.tupleExact _) (wpAny_newObj_type (wpAny_pure (wpAny_pure ⟨_, rfl, h⟩)) hrev))
    | exact wpAny_bind (wpAny_bind (m := Builtin.Tuple.tupleExact _) (wpAny_newObj_type (wpAny_pure ⟨_, rfl, h⟩) hrev))
end
/-- t[::-1] -/
def tRevT (K : PySem.W.Frag) (te : TE) : TE := fun σ H Q => te σ H fun x H1 => ∃ a xs, x = .ref a ∧ SqT K H1 a xs ∧ ∀ p, H1 p = none → Q (.ref p) (upd H1 p (.tup xs.reverse))
theorem pe_revT {X : Cx} {e : Expr} {te : TE} {k : Nat} {p1 p2 p3 pos : Pos} (he : PE X e te) : PE X (.Subscript e (.Slice none none (some (.UnaryOp .USub (.Constant (.int 1) k p1) p2)) p3) pos) (tRevT X.K te) := by
  refine ⟨fun pins s σ H Q I h => Subscript_ (thn (he.run pins s σ H _ I h) fun v s1 ⟨x, H1, I1, r1, q1⟩ => ?_)⟩
  obtain ⟨a, xs, ex, hx, q⟩ := q1
  subst ex
  cases r1
  have hst : PO X (some (.UnaryOp .USub (.Constant (.int 1) k p1) p2)) (tPart (tUn (rU fun i => .int (-i)) (tC (.int 1)))) := po_some (pe_un un_neg pe_int)
  refine wpAny_Slice ?_
  rw [evalPart_none]
  refine wpAny_pure ?_
  refine wpAny_pure ?_
  refine thn (hst.run pins s1 σ H1 (fun o H4 => o = some (-1) ∧ H4 = H1) I1 ⟨1, rfl, -1, rfl, rfl, rfl⟩) fun vs s4 ⟨o, H4, I4, ps, eo, e4⟩ => ?_
  subst eo e4
  have I5 : L2.Inv X pins σ H4 { s4 with heap := s4.heap.push { cls := .type "slice", data := .fields #[.none, .none, vs] } } := I4.kept (t' := s4.toks) fun b ob q => Heap.get?_push_of_some _ q
  obtain ⟨its, r, ht, hz⟩ := I5.tuple hx
  have hlen := r.length
  show wpAny (model X.prog X.w) X.A (subscriptTail e (.Slice none none (some (.UnaryOp .USub (.Constant (.int 1) k p1) p2)) p3) (.ref a) (.ref s4.heap.objs.size)) (EP X pins σ Q) X.xe { s4 with heap := s4.heap.push { cls := .type "slice", data := .fields #[.none, .none, vs] } }
  refine tail_any (ops := [.ref a, .ref s4.heap.objs.size]) ht.typeIs PyProof.Rows.slot_tuple_getitem.lookup ?_ (by with_unfolding_all rfl)
  refine getItem_tuple_rev ht (Heap.IsSliceOf.new _ .none .none vs) ps ?_ (by rw [List.size_toArray]; omega)
  refine ⟨.ref _, _, I5.laid (t' := s4.toks) (o := .tup xs.reverse) (fun b ob q => Heap.get?_push_of_some _ q) (Nat.le_refl _) ?_, rfl, q _ (I5.hok.fresh (Nat.le_refl _))⟩
  exact ⟨by rw [List.length_reverse]; exact hz, _, r.reverse, ⟨_, Heap.get?_push_size _ rfl, rfl, _, rfl⟩⟩
/-! ### the kinds of data -/
def tyD : PyData → String
  | .none => "NoneType"
  | .bool _ => "bool"
  | .int _ => "int"
  | .str _ => "str"
  | .list _ => "list"
  | .tuple _ => "tuple"
  | .dict _ => "dict"
theorem Dq.ty {K : PySem.W.Frag} {H : Hp} {m l : Addr} {v : V} {d : PyData} (h : Dq K H m l v d) : TyX K H v (.type (tyD d)) := by
  cases h with
  | non => exact .base .non
  | bl b => exact .base (.bl b)
  | int i => exact .base (.int i)
  | str x => exact .base (.str x)
  | lst e _ _ _ => exact .base (.lst e)
  | dct e _ _ => exact .base (.dK e)
  | tup e _ =>
    rcases e with (e | ⟨o, e⟩) | ⟨o, its, n, e, c, _⟩
    · exact .base (.tup e)
    · exact .fTuple e
    · exact .kTuple e c
theorem isi_str (K : PySem.W.Frag) (d : PyData) : PySem.W.kitOne K (.type (tyD d)) (.type "str") = some (match d with | .str _ => true | _ => false) := by cases d <;> rfl
theorem isi_int (K : PySem.W.Frag) (d : PyData) : PySem.W.kitOne K (.type (tyD d)) (.type "int") = some (match d with | .int _ | .bool _ => true | _ => false) := by cases d <;> rfl
theorem isi_bool (K : PySem.W.Frag) (d : PyData) : PySem.W.kitOne K (.type (tyD d)) (.type "bool") = some (match d with | .bool _ => true | _ => false) := by cases d <;> rfl
theorem isi_tup (K : PySem.W.Frag) (d : PyData) : PySem.W.kitOne K (.type (tyD d)) (.type "tuple") = some (match d with | .tuple _ => true | _ => false) := by cases d <;> rfl
end Ms
namespace Ms
open PySem PySem.Spec PyProof.Rows L2
/-! ### slices and joins of tuples, whole or not -/
theorem Same.seqT {K : PySem.W.Frag} {H H' : Hp} {a : Addr} {xs : List V} (e : Same H H') (h : SqT K H a xs) : SqT K H' a xs := by
  rcases h with (h | ⟨o, h⟩) | h
  · exact .inl (.inl (e _ _ h))
  · exact .inl (.inr ⟨o, e _ _ h⟩)
  · exact .inr h
theorem cutV_whole {xs : List V} {lo hi : Option Int} (h : HT.sIx xs.length 0 lo = 0 ∧ HT.sIx xs.length xs.length hi = xs.length) : cutV xs lo hi = xs := by
  unfold cutV
  rw [h.1, h.2, List.drop_zero, Nat.sub_zero, List.take_length]
theorem slA_any {K : PySem.W.Frag} {H : Hp} {a : Addr} {xs : List V} {lo hi : Option Int} {Q : VK} (h : SqT K H a xs) (q : ∀ (p : Addr) (H' : Hp), Same H H' → SqT K H' p (cutV xs lo hi) → Q (.ref p) H') : rSlA K (.ref a) lo hi H Q :=
  ⟨a, xs, rfl, h, fun w => q a H (fun _ _ e => e) (by rw [cutV_whole w]; exact h), fun _ p hp => q p _ (Same.upd hp) (.inl (.inl upd_same))⟩
theorem catA_any {K : PySem.W.Frag} {H : Hp} {a b : Addr} {xs ys : List V} {Q : VK} (h : SqT K H a xs) (h2 : SqT K H b ys) (hl : xs.length + ys.length ≤ sizeLine) (q : ∀ (p : Addr) (H' : Hp), Same H H' → SqT K H' p (xs ++ ys) → Q (.ref p) H') : rCatA K (.ref a) (.ref b) H Q :=
  ⟨a, b, xs, ys, rfl, rfl, h, h2, hl, fun e => q b H (fun _ _ e => e) (by rw [e]; exact h2), fun _ e => q a H (fun _ _ e => e) (by rw [e, List.append_nil]; exact h), fun _ _ p hp => q p _ (Same.upd hp) (.inl (.inl upd_same))⟩
theorem cut_to {xs : List V} {i : Nat} (h : i ≤ xs.length) : cutV xs none (some (i : Int)) = xs.take i := by
  unfold cutV
  rw [HT.sIx_nat, HT.sIx_none, List.drop_zero, Nat.sub_zero, Nat.min_eq_left h]
theorem cut_from {xs : List V} {i : Nat} (h : i ≤ xs.length) : cutV xs (some (i : Int)) none = xs.drop i := by
  unfold cutV
  rw [HT.sIx_nat, HT.sIx_none, Nat.min_eq_left h]
  exact List.take_of_length_le (by simp)
theorem cut_one {xs : List V} {i : Nat} (h : i < xs.length) : cutV xs (some (i : Int)) (some ((i : Int) + 1)) = (xs.drop i).take 1 := by
  have e : ((i : Int) + 1) = ((i + 1 : Nat) : Int) := by omega
  unfold cutV
  rw [e, HT.sIx_nat, HT.sIx_nat, Nat.min_eq_left (by omega), Nat.min_eq_left (by omega)]
  have : i + 1 - i = 1 := by omega
  rw [this]
theorem cut_from1 {xs : List V} {i : Nat} (h : i < xs.length) : cutV xs (some ((i : Int) + 1)) none = xs.drop (i + 1) := by
  have e : ((i : Int) + 1) = ((i + 1 : Nat) : Int) := by omega
  rw [e]; exact cut_from h
/-! ### lists of data -/
section
variable {K : PySem.W.Frag} {H : Hp} {m l : Addr}
theorem DqAll.app {vs ws : List V} : ∀ {ds es : List PyData}, DqAll K H m l vs ds → DqAll K H m l ws es → DqAll K H m l (vs ++ ws) (ds ++ es) := by
  intro ds
  induction ds generalizing vs with
  | nil => intro es h1 h2; cases h1; exact h2
  | cons d ds ih => intro es h1 h2; cases h1 with | cons a b => exact .cons a (ih b h2)
theorem DqAll.len {vs : List V} : ∀ {ds : List PyData}, DqAll K H m l vs ds → vs.length = ds.length := by
  intro ds
  induction ds generalizing vs with
  | nil => intro h; cases h; rfl
  | cons d ds ih => intro h; cases h with | cons a b => simp [ih b]
theorem DqAll.drop {vs : List V} : ∀ {ds : List PyData} (i : Nat), DqAll K H m l vs ds → DqAll K H m l (vs.drop i) (ds.drop i) := by
  intro ds
  induction ds generalizing vs with
  | nil => intro i h; cases h; simp; exact .nil
  | cons d ds ih =>
    intro i h
    cases h with
    | cons a b =>
      cases i with
      | zero => exact .cons a b
      | succ i => simpa using ih i b
theorem DqAll.take {vs : List V} : ∀ {ds : List PyData} (i : Nat), DqAll K H m l vs ds → DqAll K H m l (vs.take i) (ds.take i) := by
  intro ds
  induction ds generalizing vs with
  | nil => intro i h; cases h; simp; exact .nil
  | cons d ds ih =>
    intro i h
    cases h with
    | cons a b =>
      cases i with
      | zero => simp; exact .nil
      | succ i => simpa using DqAll.cons a (ih i b)
theorem DqAll.rev {vs : List V} : ∀ {ds : List PyData}, DqAll K H m l vs ds → DqAll K H m l vs.reverse ds.reverse := by
  intro ds
  induction ds generalizing vs with
  | nil => intro h; cases h; exact .nil
  | cons d ds ih => intro h; cases h with | cons a b => rw [List.reverse_cons, List.reverse_cons]; exact (ih b).app (.cons a .nil)
end
theorem wA_app : ∀ (xs ys : List PyData), PyData.weightAll (xs ++ ys) = PyData.weightAll xs + PyData.weightAll ys
  | [], ys => by simp [PyData.weightAll]
  | x :: xs, ys => by simp only [List.cons_append, PyData.weightAll, wA_app xs ys]; omega
theorem wA_rev : ∀ (xs : List PyData), PyData.weightAll xs.reverse = PyData.weightAll xs
  | [] => rfl
  | x :: xs => by rw [List.reverse_cons, wA_app, wA_rev xs]; simp only [PyData.weightAll]; omega
theorem wA_split (xs : List PyData) (i : Nat) : PyData.weightAll (xs.take i) + PyData.weightAll (xs.drop i) = PyData.weightAll xs := by
  rw [← wA_app, List.take_append_drop]
theorem wA_len : ∀ (xs : List PyData), xs.length ≤ PyData.weightAll xs
  | [] => Nat.le_refl _
  | x :: xs => by simp only [List.length_cons, PyData.weightAll]; have := wA_len xs; omega
theorem dA_iff {c : Nat} : ∀ {xs : List PyData}, PyData.depthAll xs ≤ c ↔ ∀ x ∈ xs, x.depth ≤ c
  | [] => by simp [PyData.depthAll]
  | x :: xs => by simp only [PyData.depthAll, List.mem_cons, forall_eq_or_imp]; rw [Nat.max_le, dA_iff (xs := xs)]
/-- a list of good data -/
structure Gl' (B w c : Nat) (ds : List PyData) : Prop where
  ok : ∀ d ∈ ds, okD B d = true
  wt : PyData.weightAll ds ≤ w
  dp : ∀ d ∈ ds, d.depth ≤ c
theorem Gd.tup {B a b : Nat} {ds : List PyData} (g : Gl' B a b ds) : Gd B a (b + 1) (.tuple ds) :=
  ⟨by simp only [okD]; exact okAll_iff.mpr g.ok, by simp only [PyData.weight]; exact g.wt, by simp only [PyData.depth]; exact Nat.succ_le_succ (dA_iff.mpr g.dp)⟩
theorem Gd.lst {B a b : Nat} {ds : List PyData} (g : Gl' B a b ds) : Gd B a (b + 1) (.list ds) :=
  ⟨by simp only [okD]; exact okAll_iff.mpr g.ok, by simp only [PyData.weight]; exact g.wt, by simp only [PyData.depth]; exact Nat.succ_le_succ (dA_iff.mpr g.dp)⟩
theorem Gd.untup {B a b : Nat} {ds : List PyData} (g : Gd B a b (.tuple ds)) : ∃ c, b = c + 1 ∧ Gl' B a c ds := by
  obtain ⟨h1, h2, h3⟩ := g
  simp only [okD] at h1
  simp only [PyData.weight] at h2
  simp only [PyData.depth] at h3
  obtain ⟨c, rfl⟩ : ∃ c, b = c + 1 := ⟨b - 1, by omega⟩
  exact ⟨c, rfl, okAll_iff.mp h1, h2, dA_iff.mp (by omega)⟩
section
variable {B a c : Nat} {ds es : List PyData}
theorem Gl'.mono {B' a' c' : Nat} (g : Gl' B a c ds) (h1 : B ≤ B') (h2 : a ≤ a') (h3 : c ≤ c') : Gl' B' a' c' ds :=
  ⟨fun d h => okD_mono h1 d (g.ok d h), Nat.le_trans g.wt h2, fun d h => Nat.le_trans (g.dp d h) h3⟩
theorem Gl'.app {a2 : Nat} (g : Gl' B a c ds) (h : Gl' B a2 c es) : Gl' B (a + a2) c (ds ++ es) :=
  ⟨fun d q => (List.mem_append.mp q).elim (g.ok d) (h.ok d), by rw [wA_app]; have := g.wt; have := h.wt; omega, fun d q => (List.mem_append.mp q).elim (g.dp d) (h.dp d)⟩
theorem Gl'.tk (g : Gl' B a c ds) (i : Nat) : Gl' B (PyData.weightAll (ds.take i)) c (ds.take i) := ⟨fun d q => g.ok d (List.mem_of_mem_take q), Nat.le_refl _, fun d q => g.dp d (List.mem_of_mem_take q)⟩
theorem Gl'.dr (g : Gl' B a c ds) (i : Nat) : Gl' B (PyData.weightAll (ds.drop i)) c (ds.drop i) := ⟨fun d q => g.ok d (List.mem_of_mem_drop q), Nat.le_refl _, fun d q => g.dp d (List.mem_of_mem_drop q)⟩
theorem Gl'.rv (g : Gl' B a c ds) : Gl' B a c ds.reverse := ⟨fun d q => g.ok d (List.mem_reverse.mp q), by rw [wA_rev]; exact g.wt, fun d q => g.dp d (List.mem_reverse.mp q)⟩
theorem Gl'.one {d : PyData} {w : Nat} (g : Gd B w c d) : Gl' B (w + 1) c [d] :=
  ⟨fun x h => by rw [List.mem_singleton.mp h]; exact g.ok, by simp only [PyData.weightAll]; have := g.wt; omega, fun x h => by rw [List.mem_singleton.mp h]; exact g.dp⟩
theorem Gl'.at (g : Gl' B a c ds) {i : Nat} {d : PyData} (h : ds[i]? = some d) : Gd B d.weight c d := ⟨g.ok d (List.mem_of_getElem? h), Nat.le_refl _, g.dp d (List.mem_of_getElem? h)⟩
theorem wA_at {i : Nat} {d : PyData} (h : ds[i]? = some d) : PyData.weightAll (ds.take i) + (d.weight + 1) + PyData.weightAll (ds.drop (i + 1)) = PyData.weightAll ds := by
  have hi : i < ds.length := (List.getElem?_eq_some_iff.mp h).1
  have e : ds[i] = d := (List.getElem?_eq_some_iff.mp h).2
  rw [← wA_split ds i, List.drop_eq_getElem_cons hi, e]
  simp only [PyData.weightAll]
  omega
end
/-! ### texts and numbers -/
theorem Gd.str {B a : Nat} {z : Str} (h : sOk a z) : Gd B a 0 (.str z) := ⟨h.okd, by simp only [PyData.weight]; exact h.1, Nat.le_refl _⟩
theorem Gd.unstr {B a b : Nat} {z : Str} (g : Gd B a b (.str z)) : sOk a z := by
  obtain ⟨h1, h2, _⟩ := g
  simp only [okD, List.all_eq_true, decide_eq_true_eq] at h1
  simp only [PyData.weight] at h2
  exact ⟨h2, h1⟩
theorem mul2 (z : Str) : sOk (2 * z.length) (Txt.mul z 2) ∨ ¬ sOk z.length z := by
  by_cases h : sOk z.length z
  · refine .inl ?_
    unfold Txt.mul
    rw [if_neg (by decide)]
    by_cases e : ((2 : Int) == 1 || z.length == 0) = true
    · rw [if_pos e]; exact h.mono (by omega)
    · rw [if_neg e]
      have q : ((List.replicate (2 : Int).toNat z.cps).foldl (· ++ ·) #[] : Array Nat) = z.cps ++ z.cps := by
        show (#[] ++ z.cps) ++ z.cps = _
        rw [Array.empty_append]
      rw [q]
      have := h.app h
      refine this.mono (by omega)
  · exact .inr h
theorem mul2_ok {a : Nat} {z : Str} (h : sOk a z) : sOk (2 * a) (Txt.mul z 2) := by
  rcases mul2 z with q | q
  · exact q.mono (by have := h.1; omega)
  · exact absurd ⟨Nat.le_refl _, h.2⟩ q
theorem wt_int {i : Int} (h : i.natAbs ≤ 10 ^ 31) : PyData.weight (.int i) ≤ 104 := by
  simp only [PyData.weight]
  split
  · decide
  · rename_i z
    have h1 : i.natAbs < 2 ^ 103 := by
      have e : (10 : Nat) ^ 31 < 2 ^ 103 := by decide
      omega
    have nz : i.natAbs ≠ 0 := by
      intro e
      exact z (by simp; omega)
    have := (Nat.log2_lt nz).mpr h1
    omega
theorem Gd.int {B : Nat} {i : Int} (h : i.natAbs ≤ B) (hB : B ≤ 10 ^ 31) : Gd B 104 0 (.int i) :=
  ⟨by simp only [okD, decide_eq_true_eq]; exact h, wt_int (by omega), Nat.le_refl _⟩
theorem Gd.unint {B a b : Nat} {i : Int} (g : Gd B a b (.int i)) : i.natAbs ≤ B := by
  have := g.ok
  simpa only [okD, decide_eq_true_eq] using this
end Ms
namespace Ms
open PySem PySem.Spec PyProof.Rows L2
structure TxtB (mg : Str → Option Value) (fN fM fO fB : Addr) : Prop extends TxtS mg fN fM where
  odd : mg "_law_odd" = some (.ref fO)
  bent : mg "_law_bent" = some (.ref fB)
  isi : mg "isinstance" = none
  str : mg "str" = none
  bool : mg "bool" = none
def spBent (K : PySem.W.Frag) : Nat → Sp
  | 0 => fun _ _ _ _ => False
  | k + 1 => fun vs H Q _ => ∃ (m l : Addr) (n : Nat) (v : V) (d : PyData) (B a b : Nat), vs = [.ref m, v] ∧ Mch H m l n ∧ n + 8 * (k + 1) < 700000 ∧ Dq K H m l v d ∧ Gd B a b d ∧ big ≤ B ∧ B + 100 ≤ 10 ^ 31 ∧ a ≤ 50000 ∧ d.depth ≤ k ∧
    ∀ (v' : V) (d' : PyData) (l' : Addr) (H' : Hp), Dq K H' m l' v' d' → Gd (B + 100) (2 * a + 200) (b + 2) d' → Mch H' m l' (n + 8 * (k + 1)) → Fr m l l' H H' → Q v' H'
abbrev NB : List Str := ["m", "thing", "at", "way"]
theorem scBe : FnScope NB ["m", "thing"] (defScope sBent) := ⟨rfl, rfl, rfl, by decide +kernel, rfl, by decide +kernel, by decide +kernel⟩
theorem ite_b {c : Bool} {A B : Prop} (h1 : c = true → A) (h2 : c = false → B) : if c = true then A else B := by
  cases c
  · rw [if_neg Bool.false_ne_true]; exact h2 rfl
  · rw [if_pos rfl]; exact h1 rfl
section
variable {P : Program} {w : World} {K : PySem.W.Frag} {mg : Str → Option Value} {base : Heap} {fN fM fO fB : Addr}
theorem mul_small {z : Str} (h : z.length ≤ 50000) : PySem.MulOk z 2 := ⟨by decide, fun _ _ => by
    have e : ((2 : Int) ^ 63 - 1) / 2 = 4611686018427387903 := by decide
    rw [e]; omega, fun _ _ => by
    show decide (z.length * 2 > sizeLine) = false
    rw [decide_eq_false_iff_not, sizeLine_eq]
    omega⟩
theorem noPart {σ : L2.St} {H : Hp} {Q : Option Int → Hp → Prop} (h : Q none H) : tNoPart σ H Q := h
theorem bent_step {k : Nat} {fd fdN fdO : FuncData} (F : Fun K "_law_bent" "_law_bent" sBent fB fd) (bB : Binds K fd ["m", "thing"] []) (T : TxtB mg fN fM fO fB) (FN : Fun K "_law_next" "_law_next" sNext fN fdN) (bN : Binds K fdN ["m", "many"] [])
    (FO : Fun K "_law_odd" "_law_odd" sOdd fO fdO) (bO : Binds K fdO ["m"] []) (GB : FnOk P w K mg base CX0 (k + 2) fB fd ["m", "thing"] (spBent K k)) : FnOk P w K mg base CX0 (k + 3) fB fd ["m", "thing"] (spBent K (k + 1)) := by
  have GN : FnOk P w K mg base CX0 (k + 2) fN fdN ["m", "many"] spNext := (ok_next FN T.toTxt).mono (by omega)
  have GO : FnOk P w K mg base CX0 (k + 2) fO fdO ["m"] (spOdd K) := (ok_odd FO T.toTxtS FN bN).mono (by omega)
  refine F.ok scBe (fun vs H Q E h => ?_) (fun cdv A outer s H vs Q E hr h => ?_)
  · obtain ⟨m, l, n, v, d, B, a, b, rfl, _⟩ := h
    rfl
  obtain ⟨m, l, n, v, d, B, a, b, rfl, M, hn, hd, gd, hB, hB2, ha, hk, q⟩ := h
  have hu := hu_of hr
  have lenOk : ∀ c : Nat, c ≤ 100400 → c ≤ sizeLine := fun c h => by rw [sizeLine_eq]; omega
  have tupOk : ∀ (ds : List PyData), d = .tuple ds → ∃ c, b = c + 1 ∧ Gl' B a c ds ∧ PyData.weightAll ds ≤ a := fun ds e => by
    obtain ⟨c, e1, g⟩ := Gd.untup (e ▸ gd)
    exact ⟨c, e1, g, g.wt⟩
  have st5 : ∃ t, PSs (cxOf CX0 P w K mg base NB "_law_bent" (defScope sBent) fB cdv A outer s H E).nox ((defBody sBent).drop 9) t ∧ ∀ (p : Addr) (xs : List V) (ds : List PyData) (i : Nat) (way : Int) (l1 : Addr) (n1 : Nat) (H1 : Hp), d = .tuple ds → SqT K H1 p xs → DqAll K H1 m l1 xs ds → i < xs.length → Mch H1 m l1 n1 → n1 ≤ n + 5 → Fr m l l1 H H1 → t ({ nx := fun _ H' => Q .non H', rt := Q } : Ends) [some (.ref m), some (.ref p), some (.int (i : Int)), some (.int way)] H1 := by
    refine ⟨_, pss_one (ps_ret (pe_op op_catA (pe_op op_catA (pe_slice sl_tupA (pv 1) po_none (po_some (pv 2))) (pe_tup (pa_cons (pe_call GB hr rfl T.bent F.kp bB .nil pass0 (pa_cons (pv 0) (pa_cons (pe_ix ix_tup (pv 1) (pv 2) (fun _ _ => rfl)) pa_nil))) pa_nil))) (pe_slice sl_tupA (pv 1) (po_some (pe_op op_add (pv 2) pe_int)) po_none))), ?_⟩
    intro p xs ds i way l1 n1 H1 ed hp hx hi M1 h1 f1
    obtain ⟨c, eb, g, gw⟩ := tupOk ds ed
    have lx := hx.len
    have ls := wA_len ds
    cases k with
    | zero =>
      rw [ed] at hk
      simp only [PyData.depth] at hk
      omega
    | succ k' =>
    obtain ⟨e, he⟩ : ∃ e, ds[i]? = some e := ⟨_, List.getElem?_eq_getElem (by omega)⟩
    obtain ⟨u, hui⟩ : ∃ u, xs[i]? = some u := ⟨_, List.getElem?_eq_getElem hi⟩
    have ge := g.at he
    have wat := wA_at he
    have dk : e.depth ≤ k' := by
      rw [ed] at hk
      simp only [PyData.depth] at hk
      exact dA_iff.mp (by omega) e (List.mem_of_getElem? he)
    refine ⟨_, rfl, _, rfl, _, rfl, slA_any hp fun p1 H2 s2 c2 => ?_⟩
    rw [cut_to (by omega)] at c2
    have k2 := M1.kept s2
    have hx2 := DqAll.step k2 ds xs hx
    obtain ⟨e', he', dqe⟩ := hx2.get hui
    have ee : e' = e := Option.some.inj (he'.symm.trans he)
    subst ee
    refine ⟨_, rfl, _, rfl, _, rfl, p, xs, _, u, rfl, rfl, Same.seqT s2 hp, atI_nat hui, m, l1, n1, u, e', B, e'.weight, c, rfl, M1.same s2, by omega, dqe, ge, hB, hB2, by omega, dk, fun v2 d2 l2 H3 dq2 gd2 M3 f3 => ?_⟩
    refine ⟨(by show 1 ≤ sizeLine; decide), fun p3 h3 => ?_⟩
    have k3 := (M1.same s2).step f3
    have s4 : Same H3 (upd H3 p3 (.tup [v2])) := Same.upd h3
    refine catA_any (Same.seqT s4 (k3.tup c2)) (.inl (.inl upd_same)) (lenOk _ (by simp; omega)) fun p4 H5 s5 c5 => ?_
    have hp5 : SqT K H5 p xs := Same.seqT s5 (Same.seqT s4 (k3.tup (Same.seqT s2 hp)))
    refine ⟨_, rfl, _, rfl, _, _, rfl, rfl, _, rfl, ?_⟩
    refine noPart ?_
    refine slA_any hp5 fun p6 H6 s6 c6 => ?_
    rw [cut_from1 hi] at c6
    refine catA_any (Same.seqT s6 c5) c6 (lenOk _ (by simp; omega)) fun p7 H7 s7 c7 => ?_
    have s37 := ((s4.trans s5).trans s6).trans s7
    have F7 := (Fr.lead s2 f3).trail s37
    have hx7 := DqAll.step (M1.step F7) ds xs hx
    have dq7 := Dq.step (M3.kept s37) d2 v2 dq2
    refine q (.ref p7) (.tuple ((ds.take i ++ [d2]) ++ ds.drop (i + 1))) l2 H7 (.tup c7 (((hx7.take i).app (.cons dq7 .nil)).app (hx7.drop (i + 1)))) ?_ ((M3.same s37).mono (by omega)) (f1.trans F7)
    rw [eb]
    exact Gd.tup (((((g.tk i).mono (by omega) (Nat.le_refl _) (by omega)).app (Gl'.one gd2)).app ((g.dr (i + 1)).mono (by omega) (Nat.le_refl _) (by omega))).mono (Nat.le_refl _) (by omega) (Nat.le_refl _))
  have st4 : ∃ t, PSs (cxOf CX0 P w K mg base NB "_law_bent" (defScope sBent) fB cdv A outer s H E).nox ((defBody sBent).drop 8) t ∧ ∀ (p : Addr) (xs : List V) (ds : List PyData) (i : Nat) (way : Int) (l1 : Addr) (n1 : Nat) (H1 : Hp), d = .tuple ds → SqT K H1 p xs → DqAll K H1 m l1 xs ds → i < xs.length → Mch H1 m l1 n1 → n1 ≤ n + 5 → Fr m l l1 H H1 → t ({ nx := fun _ H' => Q .non H', rt := Q } : Ends) [some (.ref m), some (.ref p), some (.int (i : Int)), some (.int way)] H1 := by
    obtain ⟨t5, d5, z5⟩ := st5
    refine ⟨_, pss_cons (ps_if (pt_cmpR op_eq (pv 3) pe_int (nomark _)) (pss_one (ps_ret (pe_revT (pv 1)))) pss_nil) d5, ?_⟩
    intro p xs ds i way l1 n1 H1 ed hp hx hi M1 h1 f1
    refine ⟨_, rfl, rfl, _, rfl, ite_b (fun e => ?_) (fun _ => z5 p xs ds i way l1 n1 H1 ed hp hx hi M1 h1 f1)⟩
    obtain ⟨c, eb, g, gw⟩ := tupOk ds ed
    have lx := hx.len
    have ls := wA_len ds
    refine ⟨_, rfl, p, xs, rfl, hp, fun p7 h7 => ?_⟩
    have s17 : Same H1 (upd H1 p7 (.tup xs.reverse)) := Same.upd h7
    have hx7 := DqAll.step (M1.kept s17) ds xs hx
    refine q (.ref p7) (.tuple ds.reverse) l1 _ (.tup (.inl (.inl upd_same)) hx7.rev) ?_ ((M1.same s17).mono (by omega)) (f1.trail s17)
    rw [eb]
    exact (Gd.tup g.rv).mono (by omega) (by omega) (by omega)
  have st3 : ∃ t, PSs (cxOf CX0 P w K mg base NB "_law_bent" (defScope sBent) fB cdv A outer s H E).nox ((defBody sBent).drop 7) t ∧ ∀ (p : Addr) (xs : List V) (ds : List PyData) (i : Nat) (way : Int) (l1 : Addr) (n1 : Nat) (H1 : Hp), d = .tuple ds → SqT K H1 p xs → DqAll K H1 m l1 xs ds → i < xs.length → Mch H1 m l1 n1 → n1 ≤ n + 5 → Fr m l l1 H H1 → t ({ nx := fun _ H' => Q .non H', rt := Q } : Ends) [some (.ref m), some (.ref p), some (.int (i : Int)), some (.int way)] H1 := by
    obtain ⟨t4, d4, z4⟩ := st4
    refine ⟨_, pss_cons (ps_if (pt_cmpR op_eq (pv 3) pe_int (nomark _)) (pss_one (ps_ret (pe_op op_catA (pe_op op_catA (pe_slice sl_tupA (pv 1) po_none (po_some (pv 2))) (pe_tup (pa_cons (pe_call GO hr rfl T.odd FO.kp bO .nil pass0 (pa_cons (pv 0) pa_nil)) pa_nil))) (pe_slice sl_tupA (pv 1) (po_some (pv 2)) po_none)))) pss_nil) d4, ?_⟩
    intro p xs ds i way l1 n1 H1 ed hp hx hi M1 h1 f1
    refine ⟨_, rfl, rfl, _, rfl, ite_b (fun e => ?_) (fun _ => z4 p xs ds i way l1 n1 H1 ed hp hx hi M1 h1 f1)⟩
    obtain ⟨c, eb, g, gw⟩ := tupOk ds ed
    have lx := hx.len
    have ls := wA_len ds
    refine ⟨_, rfl, _, rfl, _, rfl, slA_any hp fun p1 H2 s2 c2 => ?_⟩
    rw [cut_to (by omega)] at c2
    have k2 := M1.kept s2
    refine ⟨_, rfl, m, l1, n1, rfl, M1.same s2, by omega, fun v2 d2 l2 H3 dq2 gd2 M3 f3 => ?_⟩
    refine ⟨(by show 1 ≤ sizeLine; decide), fun p3 h3 => ?_⟩
    have k3 := (M1.same s2).step f3
    have s4 : Same H3 (upd H3 p3 (.tup [v2])) := Same.upd h3
    refine catA_any (Same.seqT s4 (k3.tup c2)) (.inl (.inl upd_same)) (lenOk _ (by simp; omega)) fun p4 H5 s5 c5 => ?_
    have hp5 : SqT K H5 p xs := Same.seqT s5 (Same.seqT s4 (k3.tup (Same.seqT s2 hp)))
    refine ⟨_, rfl, _, rfl, _, rfl, ?_⟩
    refine noPart ?_
    refine slA_any hp5 fun p6 H6 s6 c6 => ?_
    rw [cut_from (by omega)] at c6
    refine catA_any (Same.seqT s6 c5) c6 (lenOk _ (by simp; omega)) fun p7 H7 s7 c7 => ?_
    have s37 := ((s4.trans s5).trans s6).trans s7
    have F7 := (Fr.lead s2 f3).trail s37
    have hx7 := DqAll.step (M1.step F7) ds xs hx
    have dq7 := Dq.step (M3.kept s37) d2 v2 dq2
    have wsp := wA_split ds i
    refine q (.ref p7) (.tuple ((ds.take i ++ [d2]) ++ ds.drop i)) l2 H7 (.tup c7 (((hx7.take i).app (.cons dq7 .nil)).app (hx7.drop i))) ?_ ((M3.same s37).mono (by omega)) (f1.trans F7)
    rw [eb]
    exact Gd.tup (((((g.tk i).mono (B' := B + 100) (c' := c + 2) (by omega) (Nat.le_refl _) (by omega)).app (Gl'.one (gd2.mono (by omega) (Nat.le_refl _) (by omega)))).app ((g.dr i).mono (by omega) (Nat.le_refl _) (by omega))).mono (Nat.le_refl _) (by omega) (Nat.le_refl _))
  have st2 : ∃ t, PSs (cxOf CX0 P w K mg base NB "_law_bent" (defScope sBent) fB cdv A outer s H E).nox ((defBody sBent).drop 6) t ∧ ∀ (p : Addr) (xs : List V) (ds : List PyData) (i : Nat) (way : Int) (l1 : Addr) (n1 : Nat) (H1 : Hp), d = .tuple ds → SqT K H1 p xs → DqAll K H1 m l1 xs ds → i < xs.length → Mch H1 m l1 n1 → n1 ≤ n + 5 → Fr m l l1 H H1 → t ({ nx := fun _ H' => Q .non H', rt := Q } : Ends) [some (.ref m), some (.ref p), some (.int (i : Int)), some (.int way)] H1 := by
    obtain ⟨t3, d3, z3⟩ := st3
    refine ⟨_, pss_cons (ps_if (pt_cmpR op_eq (pv 3) pe_int (nomark _)) (pss_one (ps_ret (pe_callTy call_list_of (by rfl) T.list (by decide +kernel) (pa_cons (pv 1) pa_nil)))) pss_nil) d3, ?_⟩
    intro p xs ds i way l1 n1 H1 ed hp hx hi M1 h1 f1
    refine ⟨_, rfl, rfl, _, rfl, ite_b (fun e => ?_) (fun _ => z3 p xs ds i way l1 n1 H1 ed hp hx hi M1 h1 f1)⟩
    obtain ⟨c, eb, g, gw⟩ := tupOk ds ed
    have lx := hx.len
    have ls := wA_len ds
    refine ⟨_, rfl, p, xs, rfl, .inr hp, fun p7 h7 => ?_⟩
    have s17 : Same H1 (upd H1 p7 (.lst xs)) := Same.upd h7
    have n7 := M1.ne h7
    have hx7 := DqAll.step (M1.kept s17) ds xs hx
    refine q (.ref p7) (.list ds) l1 _ (.lst upd_same n7.1 n7.2 hx7) ?_ ((M1.same s17).mono (by omega)) (f1.trail s17)
    rw [eb]
    exact (Gd.lst g).mono (by omega) (by omega) (by omega)
  have st1 : ∃ t, PSs (cxOf CX0 P w K mg base NB "_law_bent" (defScope sBent) fB cdv A outer s H E).nox ((defBody sBent).drop 5) t ∧ ∀ (p : Addr) (xs : List V) (ds : List PyData) (i : Nat) (way : Int) (l1 : Addr) (n1 : Nat) (H1 : Hp), d = .tuple ds → SqT K H1 p xs → DqAll K H1 m l1 xs ds → i < xs.length → Mch H1 m l1 n1 → n1 ≤ n + 5 → Fr m l l1 H H1 → t ({ nx := fun _ H' => Q .non H', rt := Q } : Ends) [some (.ref m), some (.ref p), some (.int (i : Int)), some (.int way)] H1 := by
    obtain ⟨t2, d2, z2⟩ := st2
    refine ⟨_, pss_cons (ps_if (pt_cmpR op_eq (pv 3) pe_int (nomark _)) (pss_one (ps_ret (pe_op op_catA (pv 1) (pe_slice sl_tupA (pv 1) (po_some (pv 2)) (po_some (pe_op op_add (pv 2) pe_int)))))) pss_nil) d2, ?_⟩
    intro p xs ds i way l1 n1 H1 ed hp hx hi M1 h1 f1
    refine ⟨_, rfl, rfl, _, rfl, ite_b (fun e => ?_) (fun _ => z2 p xs ds i way l1 n1 H1 ed hp hx hi M1 h1 f1)⟩
    obtain ⟨c, eb, g, gw⟩ := tupOk ds ed
    have lx := hx.len
    have ls := wA_len ds
    refine ⟨_, rfl, _, rfl, _, rfl, _, rfl, _, rfl, _, _, rfl, rfl, _, rfl, ?_⟩
    refine slA_any hp fun p6 H6 s6 c6 => ?_
    rw [cut_one hi] at c6
    refine catA_any (Same.seqT s6 hp) c6 (lenOk _ (by simp; omega)) fun p7 H7 s7 c7 => ?_
    have s17 := s6.trans s7
    have hx7 := DqAll.step (M1.kept s17) ds xs hx
    have w1 := wA_split ds i
    have w2 := wA_split (ds.drop i) 1
    refine q (.ref p7) (.tuple (ds ++ (ds.drop i).take 1)) l1 H7 (.tup c7 (hx7.app ((hx7.drop i).take 1))) ?_ ((M1.same s17).mono (by omega)) (f1.trail s17)
    rw [eb]
    exact (Gd.tup (g.app ((g.dr i).tk 1))).mono (by omega) (by omega) (by omega)
  have st0 : ∃ t, PSs (cxOf CX0 P w K mg base NB "_law_bent" (defScope sBent) fB cdv A outer s H E).nox ((defBody sBent).drop 4) t ∧ ∀ (p : Addr) (xs : List V) (ds : List PyData) (i : Nat) (way : Int) (l1 : Addr) (n1 : Nat) (H1 : Hp), d = .tuple ds → SqT K H1 p xs → DqAll K H1 m l1 xs ds → i < xs.length → Mch H1 m l1 n1 → n1 ≤ n + 5 → Fr m l l1 H H1 → t ({ nx := fun _ H' => Q .non H', rt := Q } : Ends) [some (.ref m), some (.ref p), some (.int (i : Int)), some (.int way)] H1 := by
    obtain ⟨t1, d1, z1⟩ := st1
    refine ⟨_, pss_cons (ps_if (pt_cmpR op_eq (pv 3) pe_int (nomark _)) (pss_one (ps_ret (pe_op op_catA (pe_slice sl_tupA (pv 1) po_none (po_some (pv 2))) (pe_slice sl_tupA (pv 1) (po_some (pe_op op_add (pv 2) pe_int)) po_none)))) pss_nil) d1, ?_⟩
    intro p xs ds i way l1 n1 H1 ed hp hx hi M1 h1 f1
    refine ⟨_, rfl, rfl, _, rfl, ite_b (fun e => ?_) (fun _ => z1 p xs ds i way l1 n1 H1 ed hp hx hi M1 h1 f1)⟩
    obtain ⟨c, eb, g, gw⟩ := tupOk ds ed
    have lx := hx.len
    have ls := wA_len ds
    refine ⟨_, rfl, _, rfl, _, rfl, slA_any hp fun p1 H2 s2 c2 => ?_⟩
    rw [cut_to (by omega)] at c2
    refine ⟨_, rfl, _, rfl, _, _, rfl, rfl, _, rfl, ?_⟩
    refine noPart ?_
    refine slA_any (Same.seqT s2 hp) fun p6 H6 s6 c6 => ?_
    rw [cut_from1 hi] at c6
    refine catA_any (Same.seqT s6 c2) c6 (lenOk _ (by simp; omega)) fun p7 H7 s7 c7 => ?_
    have s17 := (s2.trans s6).trans s7
    have hx7 := DqAll.step (M1.kept s17) ds xs hx
    have w1 := wA_split ds i
    have w2 := wA_split ds (i + 1)
    have w3 : PyData.weightAll (ds.drop (i + 1)) ≤ PyData.weightAll (ds.drop i) := by
      have := wA_split (ds.drop i) 1
      rw [List.drop_drop] at this
      omega
    refine q (.ref p7) (.tuple (ds.take i ++ ds.drop (i + 1))) l1 H7 (.tup c7 ((hx7.take i).app (hx7.drop (i + 1)))) ?_ ((M1.same s17).mono (by omega)) (f1.trail s17)
    rw [eb]
    exact (Gd.tup ((g.tk i).app (g.dr (i + 1)))).mono (by omega) (by omega) (by omega)
  obtain ⟨t0, d0, z0⟩ := st0
  have sa : ∃ t, PSs (cxOf CX0 P w K mg base NB "_law_bent" (defScope sBent) fB cdv A outer s H E).nox ((defBody sBent).drop 3) t ∧ ∀ (p : Addr) (xs : List V) (ds : List PyData) (l1 : Addr) (n1 : Nat) (H1 : Hp), d = .tuple ds → SqT K H1 p xs → DqAll K H1 m l1 xs ds → 0 < xs.length → Mch H1 m l1 n1 → n1 ≤ n + 3 → Fr m l l1 H H1 → t ({ nx := fun _ H' => Q .non H', rt := Q } : Ends) [some (.ref m), some (.ref p), none, none] H1 := by
    refine ⟨_, pss_cons (ps_par (i := 2) (j := 3) (by rfl) scBe.nd rfl rfl (by decide) rfl rfl (pa_cons (pe_call GN hr rfl T.next FN.kp bN .nil pass0 (pa_cons (pv 0) (pa_cons (pe_callB call_len (by rfl) T.len PySem.boot_len (pa_cons (pv 1) pa_nil)) pa_nil))) (pa_cons (pe_call GN hr rfl T.next FN.kp bN .nil pass0 (pa_cons (pv 0) (pa_cons pe_int pa_nil))) pa_nil)) (by rfl)) d0, ?_⟩
    intro p xs ds l1 n1 H1 ed hp hx hi M1 h1 f1
    obtain ⟨c, eb, g, gw⟩ := tupOk ds ed
    have lx := hx.len
    have ls := wA_len ds
    refine ⟨_, rfl, _, rfl, _, _, rfl, .inr ⟨_, hp, rfl⟩, m, l1, n1, (xs.length : Int), rfl, M1, by omega, by omega, by omega, fun r l2 H2 r0 r1 M2 f2 => ?_⟩
    obtain ⟨i, rfl⟩ : ∃ i : Nat, r = (i : Int) := ⟨r.toNat, by omega⟩
    refine ⟨_, rfl, m, l2, n1 + 1, 11, rfl, M2, by omega, by decide, by decide, fun way l3 H3 w0 w1 M3 f3 => ?_⟩
    have F3 := f2.trans f3
    have k4 := M1.step F3
    exact ⟨_, _, rfl, z0 p xs ds i way l3 (n1 + 2) _ ed (k4.tup hp) (DqAll.step k4 ds xs hx) (by omega) M3 (by omega) (f1.trans F3)⟩
  obtain ⟨ta, da, za⟩ := sa
  have sb : ∃ t, PSs (cxOf CX0 P w K mg base NB "_law_bent" (defScope sBent) fB cdv A outer s H E).nox ((defBody sBent).drop 2) t ∧ ∀ (l1 : Addr) (n1 : Nat) (H1 : Hp), Mch H1 m l1 n1 → n1 ≤ n + 2 → Fr m l l1 H H1 → t ({ nx := fun _ H' => Q .non H', rt := Q } : Ends) [some (.ref m), some v, none, none] H1 := by
    refine ⟨_, pss_cons (ps_if (PW.pt (pw_or (pt_not (pt_val (pe_callB call_isi (by rfl) T.isi PyProof.Rows.boot_isinstance (pa_cons (pv 1) (pa_cons (pe_bltn (v := .ty "tuple") (u := .type "tuple") (by rfl) T.tuple (by decide +kernel) rfl) pa_nil))))) (pw_or (pt_cmpR (op_eq_nil hr.units) (pv 1) (pe_tup pa_nil) (nomark _)) (pw_or1 (pt_cmpR op_eq (pe_call GN hr rfl T.next FN.kp bN .nil pass0 (pa_cons (pv 0) (pa_cons pe_int pa_nil))) pe_int (nomark _)))))) (pss_one (ps_ret (pe_call GO hr rfl T.odd FO.kp bO .nil pass0 (pa_cons (pv 0) pa_nil)))) pss_nil) da, ?_⟩
    intro l1 n1 H1 M1 h1 f1
    have hd1 := Dq.step (M.step f1) d v hd
    have retO : ∀ (l1 : Addr) (n1 : Nat) (H1 : Hp), Mch H1 m l1 n1 → n1 ≤ n + 3 → Fr m l l1 H H1 → spOdd K [.ref m] H1 Q E0 := fun l1 n1 H1 M1 h1 f1 =>
      ⟨m, l1, n1, rfl, M1, by omega, fun v2 d2 l2 H3 dq2 gd2 M3 f3 => q v2 d2 l2 H3 dq2 (gd2.mono (by omega) (by omega) (by omega)) (M3.mono (by omega)) (f1.trans f3)⟩
    refine ⟨_, rfl, v, .ty "tuple", _, _, _, rfl, .ty _, hd1.ty, isi_tup K d, _, rfl, ?_⟩
    cases d with
    | tuple ds =>
      cases hd1 with
      | tup hp hx =>
        rename_i p xs
        refine ifF rfl ⟨_, rfl, Nat.zero_le _, fun p0 h0 => ?_⟩
        have s2 : Same H1 (upd H1 p0 (.tup [])) := Same.upd h0
        have M2 := M1.same s2
        have f2 := f1.trail s2
        refine ⟨_, _, xs, rfl, rfl, Same.seqT s2 hp, .inl (.inl upd_same), _, rfl, ite_b (fun e => ifT rfl ⟨_, rfl, retO l1 n1 _ M2 (by omega) f2⟩) (fun e => ?_)⟩
        have hne : xs.length ≠ 0 := fun z => by rw [z] at e; cases e
        refine ⟨_, rfl, m, l1, n1, 6, rfl, M2, by omega, by decide, by decide, fun r l2 H3 r0 r1 M3 f3 => ⟨rfl, _, rfl, ite_b (fun _ => ⟨_, rfl, retO l2 (n1 + 1) _ M3 (by omega) (f2.trans f3)⟩) (fun _ => ?_)⟩⟩
        have k3 := M1.step (Fr.lead s2 f3)
        exact za _ xs ds l2 (n1 + 1) H3 rfl (k3.tup hp) (DqAll.step k3 ds xs hx) (by omega) M3 (by omega) (f2.trans f3)
    | _ => exact ifT rfl (ifT rfl ⟨_, rfl, retO l1 n1 _ M1 (by omega) f1⟩)
  obtain ⟨tb, db, zb⟩ := sb
  have sc : ∃ t, PSs (cxOf CX0 P w K mg base NB "_law_bent" (defScope sBent) fB cdv A outer s H E).nox ((defBody sBent).drop 1) t ∧ ∀ (l1 : Addr) (n1 : Nat) (H1 : Hp), Mch H1 m l1 n1 → n1 ≤ n + 1 → Fr m l l1 H H1 → t ({ nx := fun _ H' => Q .non H', rt := Q } : Ends) [some (.ref m), some v, none, none] H1 := by
    refine ⟨_, pss_cons (ps_if (PW.pt (pw_and (pt_val (pe_callB call_isi (by rfl) T.isi PyProof.Rows.boot_isinstance (pa_cons (pv 1) (pa_cons (pe_bltn (v := .ty "int") (u := .type "int") (by rfl) T.int (by decide +kernel) rfl) pa_nil)))) (pw_and (pt_not (pt_val (pe_callB call_isi (by rfl) T.isi PyProof.Rows.boot_isinstance (pa_cons (pv 1) (pa_cons (pe_bltn (v := .ty "bool") (u := .type "bool") (by rfl) T.bool (by decide +kernel) rfl) pa_nil))))) (pw_and1 (pt_cmpR op_eq (pe_call GN hr rfl T.next FN.kp bN .nil pass0 (pa_cons (pv 0) (pa_cons pe_int pa_nil))) pe_int (nomark _)))))) (pss_one (ps_ret (pe_op op_add (pv 1) (pe_ix ix_list (pe_lst (pa_cons pe_int (pa_cons (pe_un un_neg pe_int) (pa_cons pe_int (pa_cons (pe_un un_neg pe_int) (pa_cons pe_int (pa_cons (pe_un un_neg pe_int) pa_nil))))))) (pe_call GN hr rfl T.next FN.kp bN .nil pass0 (pa_cons (pv 0) (pa_cons pe_int pa_nil))) (fun _ _ => rfl))))) pss_nil) db, ?_⟩
    intro l1 n1 H1 M1 h1 f1
    have hd1 := Dq.step (M.step f1) d v hd
    refine ⟨_, rfl, v, .ty "int", _, _, _, rfl, .ty _, hd1.ty, isi_int K d, _, rfl, ?_⟩
    cases d with
    | int j =>
      cases hd1
      refine ifT rfl ⟨_, rfl, .int j, .ty "bool", _, _, _, rfl, .ty _, .base (.int j), isi_bool K (.int j), _, rfl, ifT rfl ?_⟩
      refine ⟨_, rfl, m, l1, n1, 2, rfl, M1, by omega, by decide, by decide, fun r l2 H2 r0 r1 M2 f2 => ⟨rfl, _, rfl, ite_b (fun _ => ?_) (fun _ => zb l2 (n1 + 1) H2 M2 (by omega) (f1.trans f2))⟩⟩
      refine ⟨_, rfl, _, rfl, _, rfl, _, rfl, (by show 6 ≤ sizeLine; decide), fun pL hL => ?_⟩
      have sL : Same H2 (upd H2 pL (.lst [.int 1, .int (-1), .int 3, .int (-3), .int 100, .int (-100)])) := Same.upd hL
      have nL := M2.ne hL
      refine ⟨_, rfl, m, l2, n1 + 1, 6, rfl, M2.same sL, by omega, by decide, by decide, fun r2 l3 H3 a3 b3 M3 f3 => ?_⟩
      obtain ⟨c, hc, c1, c2⟩ : ∃ c : Int, atI ([.int 1, .int (-1), .int 3, .int (-3), .int 100, .int (-100)] : List V) r2 = some (.int c) ∧ -100 ≤ c ∧ c ≤ 100 := by
        obtain ⟨i, rfl⟩ : ∃ i : Nat, r2 = (i : Int) := ⟨r2.toNat, by omega⟩
        have hi : i < 6 := by omega
        match i, hi with
        | 0, _ => exact ⟨1, rfl, by decide, by decide⟩
        | 1, _ => exact ⟨-1, rfl, by decide, by decide⟩
        | 2, _ => exact ⟨3, rfl, by decide, by decide⟩
        | 3, _ => exact ⟨-3, rfl, by decide, by decide⟩
        | 4, _ => exact ⟨100, rfl, by decide, by decide⟩
        | 5, _ => exact ⟨-100, rfl, by decide, by decide⟩
      refine ⟨pL, _, r2, .int c, rfl, rfl, SqL.of (f3.keep pL _ upd_same nL.1 nL.2), hc, _, _, rfl, rfl, ?_⟩
      have gj := gd.unint
      exact q _ (.int (j + c)) l3 H3 (.int _) ((Gd.int (B := B + 100) (by omega) hB2).mono (Nat.le_refl _) (by omega) (by omega)) (M3.mono (by omega)) ((f1.trans f2).trans (Fr.lead sL f3))
    | bool j =>
      cases hd1
      refine ifT rfl ⟨_, rfl, .bl j, .ty "bool", _, _, _, rfl, .ty _, .base (.bl j), isi_bool K (.bool j), _, rfl, ifF rfl (ifF rfl (zb l1 n1 H1 M1 (by omega) f1))⟩
    | _ => exact ifF rfl (ifF rfl (zb l1 n1 H1 M1 (by omega) f1))
  obtain ⟨tc, dc, zc⟩ := sc
  refine ⟨_, pss_cons (ps_if (PW.pt (pw_and (pt_val (pe_callB call_isi (by rfl) T.isi PyProof.Rows.boot_isinstance (pa_cons (pv 1) (pa_cons (pe_bltn (v := .ty "str") (u := .type "str") (by rfl) T.str (by decide +kernel) rfl) pa_nil)))) (pw_and1 (pt_cmpR op_eq (pe_call GN hr rfl T.next FN.kp bN .nil pass0 (pa_cons (pv 0) (pa_cons pe_int pa_nil))) pe_int (nomark _))))) (pss_one (ps_ret (pe_ix ix_list (pe_lst (pa_cons (pe_op op_add_str (pv 1) pe_str) (pa_cons (pe_slice sl_str (pv 1) (po_some pe_int) po_none) (pa_cons (pe_op op_add_str (pv 1) pe_str) (pa_cons (pe_op op_add_str (pv 1) pe_str) (pa_cons (pe_op op_mul_si (pv 1) pe_int) (pa_cons (pe_op op_add_str (pv 1) pe_str) pa_nil))))))) (pe_call GN hr rfl T.next FN.kp bN .nil pass0 (pa_cons (pv 0) (pa_cons pe_int pa_nil))) (fun _ _ => rfl)))) pss_nil) dc, ?_⟩
  refine ⟨_, rfl, v, .ty "str", _, _, _, rfl, .ty _, hd.ty, isi_str K d, _, rfl, ?_⟩
  cases d with
  | str z =>
    cases hd
    have gz := gd.unstr
    have zl : z.length ≤ 50000 := Nat.le_trans gz.1 ha
    have zs : z.length ≤ sizeLine := lenOk _ (by omega)
    refine ifT rfl ⟨_, rfl, m, l, n, 2, rfl, M, by omega, by decide, by decide, fun r l2 H2 r0 r1 M2 f2 => ⟨rfl, _, rfl, ite_b (fun _ => ?_) (fun _ => zc l2 (n + 1) H2 M2 (by omega) f2)⟩⟩
    refine ⟨_, rfl, z, "b", rfl, rfl, lenOk _ (show z.length + 1 ≤ _ by omega), _, rfl, _, rfl, z, rfl, zs, _, rfl, z, "A", rfl, rfl, lenOk _ (show z.length + 1 ≤ _ by omega), _, rfl, z, " ", rfl, rfl, lenOk _ (show z.length + 1 ≤ _ by omega),
      _, rfl, z, 2, rfl, rfl, mul_small zl, _, rfl, z, "1", rfl, rfl, lenOk _ (show z.length + 1 ≤ _ by omega), (by show 6 ≤ sizeLine; decide), fun pL hL => ?_⟩
    obtain ⟨ws, hws⟩ : ∃ ws : List Str, ws = [z ++ "b", cutS z (some 1) none, z ++ "A", z ++ " ", Txt.mul z 2, z ++ "1"] := ⟨_, rfl⟩
    have one : ∀ c : Nat, c < 0x110000 → sOk (2 * a + 200) (z ++ ⟨#[c]⟩) := fun c hc => (gz.app (sOk.sign hc)).mono (by omega)
    have wok : ∀ y ∈ ws, sOk (2 * a + 200) y := by
      rw [hws]
      intro y hy
      simp only [List.mem_cons, List.mem_nil_iff, or_false] at hy
      rcases hy with rfl | rfl | rfl | rfl | rfl | rfl
      · exact one 98 (by decide)
      · exact (gz.cut _ _).mono (by omega)
      · exact one 65 (by decide)
      · exact one 32 (by decide)
      · exact (mul2_ok gz).mono (by omega)
      · exact one 49 (by decide)
    have wl : ws.length = 6 := by rw [hws]; rfl
    have sL : Same H2 (upd H2 pL (.lst (ws.map V.str))) := Same.upd hL
    have nL := M2.ne hL
    have eL : upd H2 pL (.lst (ws.map V.str)) = upd H2 pL (.lst [.str (z ++ "b"), .str (cutS z (some 1) none), .str (z ++ "A"), .str (z ++ " "), .str (Txt.mul z 2), .str (z ++ "1")]) := by rw [hws]; rfl
    rw [← eL]
    refine ⟨_, rfl, m, l2, n + 1, 6, rfl, M2.same sL, by omega, by decide, by decide, fun r2 l3 H3 a3 b3 M3 f3 => ?_⟩
    obtain ⟨i, rfl⟩ : ∃ i : Nat, r2 = (i : Int) := ⟨r2.toNat, by omega⟩
    obtain ⟨y, hy⟩ : ∃ y, ws[i]? = some y := ⟨_, List.getElem?_eq_getElem (by omega)⟩
    have hv : (ws.map V.str)[i]? = some (.str y) := by rw [List.getElem?_map, hy]; rfl
    refine ⟨pL, _, (i : Int), .str y, rfl, rfl, SqL.of (f3.keep pL _ upd_same nL.1 nL.2), atI_nat hv, ?_⟩
    exact q _ (.str y) l3 H3 (.str _) ((Gd.str (wok y (List.mem_of_getElem? hy))).mono (Nat.le_refl _) (Nat.le_refl _) (by omega)) (M3.mono (by omega)) (f2.trans (Fr.lead sL f3))
  | _ => exact ifF rfl (ifF rfl (zc l n H M (by omega) (Fr.refl M)))
theorem ok_bent {fd fdN fdO : FuncData} (F : Fun K "_law_bent" "_law_bent" sBent fB fd) (bB : Binds K fd ["m", "thing"] []) (T : TxtB mg fN fM fO fB) (FN : Fun K "_law_next" "_law_next" sNext fN fdN) (bN : Binds K fdN ["m", "many"] [])
    (FO : Fun K "_law_odd" "_law_odd" sOdd fO fdO) (bO : Binds K fdO ["m"] []) (k : Nat) : FnOk P w K mg base CX0 (k + 2) fB fd ["m", "thing"] (spBent K k) := by
  induction k with
  | zero => exact ⟨fun vs H Q E h => h.elim, fun A outer s H args us vs Q E hr e bd rel h => h.elim⟩
  | succ k ih => exact bent_step F bB T FN bN FO bO ih
end
end Ms
namespace Ms
open PySem PySem.Spec PyProof.Rows L2
/-! ### _law_is_whole, _law_is_name -/
def isWhole (d : PyData) (lo hi : Int) : Bool := match d with | .int i => decide (lo ≤ i) && decide (i ≤ hi) | _ => false
def isName (d : PyData) : Bool := match d with | .str z => (decide (1 ≤ z.length) && decide (z.length ≤ 8)) && z.cps.toList.all fun c => decide (c ∈ alpha.cps.toList) | _ => false
section
variable {P : Program} {w : World} {K : PySem.W.Frag} {mg : Str → Option Value} {base : Heap} {fN fM fO fB : Addr}
theorem scWh : FnScope ["thing", "least", "most"] ["thing", "least", "most"] (defScope sIsWhole) := ⟨rfl, rfl, rfl, by decide +kernel, rfl, by decide +kernel, by decide +kernel⟩
def spWhole (K : PySem.W.Frag) : Sp := fun vs H Q _ => ∃ (m l : Addr) (v : V) (d : PyData) (lo hi : Int), vs = [v, .int lo, .int hi] ∧ Dq K H m l v d ∧ Q (.bl (isWhole d lo hi)) H
theorem ok_whole {f : Addr} {fd : FuncData} (F : Fun K "_law_is_whole" "_law_is_whole" sIsWhole f fd) (T : TxtB mg fN fM fO fB) : FnOk P w K mg base CX0 1 f fd ["thing", "least", "most"] (spWhole K) := by
  refine F.ok scWh (fun vs H Q E h => ?_) (fun cdv A outer s H vs Q E hr h => ?_)
  · obtain ⟨m, l, v, d, lo, hi, rfl, _⟩ := h
    rfl
  · obtain ⟨m, l, v, d, lo, hi, rfl, hd, q⟩ := h
    refine ⟨_, pss_one (ps_ret (pe_and (pe_callB call_isi (by rfl) T.isi PyProof.Rows.boot_isinstance (pa_cons (pv 0) (pa_cons (pe_bltn (v := .ty "int") (u := .type "int") (by rfl) T.int (by decide +kernel) rfl) pa_nil)))
      (pe_and (pe_not (pe_callB call_isi (by rfl) T.isi PyProof.Rows.boot_isinstance (pa_cons (pv 0) (pa_cons (pe_bltn (v := .ty "bool") (u := .type "bool") (by rfl) T.bool (by decide +kernel) rfl) pa_nil))))
        (pe_one (pe_chain op_le op_le (pv 1) (pv 0) (pv 2)))))), ?_⟩
    refine ⟨_, rfl, v, .ty "int", _, _, _, rfl, .ty _, hd.ty, isi_int K d, _, rfl, ?_⟩
    cases d with
    | int j =>
      cases hd
      refine ifT rfl ⟨_, rfl, .int j, .ty "bool", _, _, _, rfl, .ty _, .base (.int j), isi_bool K (.int j), _, rfl, _, rfl, ifT rfl ?_⟩
      refine ⟨_, rfl, _, rfl, lo, j, rfl, rfl, _, rfl, ite_b (fun e => ⟨_, rfl, j, hi, rfl, rfl, ?_⟩) (fun e => ?_)⟩
      · have z : isWhole (.int j) lo hi = decide (j ≤ hi) := by show (decide (lo ≤ j) && decide (j ≤ hi)) = _; rw [e]; rfl
        rw [z] at q; exact q
      · have z : isWhole (.int j) lo hi = false := by show (decide (lo ≤ j) && decide (j ≤ hi)) = _; rw [e]; rfl
        rw [z] at q; exact q
    | bool j =>
      cases hd
      exact ifT rfl ⟨_, rfl, .bl j, .ty "bool", _, _, _, rfl, .ty _, .base (.bl j), isi_bool K (.bool j), _, rfl, _, rfl, ifF rfl q⟩
    | _ => exact ifF rfl q
abbrev NNa : List Str := ["thing", "sign"]
theorem lay_strs : ∀ ys : List Str, (∀ y ∈ ys, PyData.canLay0 (.str y) = true) → PyData.canLayAll0 (ys.map PyData.str) = true
  | [], _ => rfl
  | y :: ys, h => by
    show (PyData.canLay0 (.str y) && PyData.canLayAll0 (ys.map PyData.str)) = true
    rw [lay_strs ys (fun x hx => h x (List.mem_cons_of_mem _ hx)), h y (List.mem_cons_self ..)]; rfl
theorem depth_strs : ∀ ys : List Str, PyData.depthAll (ys.map PyData.str) = 0
  | [] => rfl
  | y :: ys => by
    show max (PyData.depth (.str y)) (PyData.depthAll (ys.map PyData.str)) = 0
    rw [depth_strs ys]; rfl
theorem shaped_strs (ys : List Str) (h : ∀ y ∈ ys, PyData.canLay0 (.str y) = true) : SeqAt.shaped (.list (ys.map PyData.str)) = true := by
  show (PyData.canLayAll0 (ys.map PyData.str) && decide (PyData.depthAll (ys.map PyData.str) + 1 ≤ 64)) = true
  rw [lay_strs ys h, depth_strs]; rfl
theorem dpAll_strs {K : PySem.W.Frag} {H : Hp} : ∀ ys : List Str, DpAll K H (ys.map V.str) (ys.map PyData.str)
  | [] => .nil
  | y :: ys => .cons (.str y) (dpAll_strs ys)
theorem scNa : FnScope NNa ["thing"] (defScope sIsName) := ⟨rfl, rfl, rfl, by decide +kernel, rfl, by decide +kernel, by decide +kernel⟩
def spName (K : PySem.W.Frag) : Sp := fun vs H Q _ => ∃ (m l : Addr) (v : V) (d : PyData), vs = [v] ∧ Dq K H m l v d ∧ (∀ z, d = .str z → sOk 100000 z) ∧ ∀ H', Same H H' → Q (.bl (isName d)) H'
theorem ok_name {f : Addr} {fd : FuncData} (F : Fun K "_law_is_name" "_law_is_name" sIsName f fd) (T : TxtB mg fN fM fO fB) : FnOk P w K mg base CX0 1 f fd ["thing"] (spName K) := by
  refine F.ok scNa (fun vs H Q E h => ?_) (fun cdv A outer s H vs Q E hr h => ?_)
  · obtain ⟨m, l, v, d, rfl, _⟩ := h
    rfl
  · obtain ⟨m, l, v, d, rfl, hd, hz, q⟩ := h
    refine ⟨_, pss_cons (ps_if (PW.pt (pw_or (pt_not (pt_val (pe_callB call_isi (by rfl) T.isi PyProof.Rows.boot_isinstance (pa_cons (pv 0) (pa_cons (pe_bltn (v := .ty "str") (u := .type "str") (by rfl) T.str (by decide +kernel) rfl) pa_nil)))))
        (pw_or1 (pt_not (pt_chain op_le op_le pe_int (pe_callB call_len (by rfl) T.len PySem.boot_len (pa_cons (pv 0) pa_nil)) pe_int))))) (pss_one (ps_ret pe_bl)) pss_nil)
      (pss_one (ps_ret (pe_cmpR (op_eqD hr.units) (pe_lc (own := [("sign", 1)]) (g := gName 1) (by rfl) scNa.nd (pi_str (pv 0)) (blkOk_by (own := [("sign", 1)]) (N := NNa) (sc := defScope sIsName) (by decide +kernel))
        (fun _ _ _ _ _ => pg_name (i := 1) scNa.nd rfl (Or.inl rfl)) (fun _ _ _ _ _ => pts_one (pt_cmpR op_notIn_sign (pv 1) pe_str (by rfl))) (fun _ _ _ _ _ => pv 1)) (pe_lst pa_nil) (nomark _)))), ?_⟩
    refine ⟨_, rfl, v, .ty "str", _, _, _, rfl, .ty _, hd.ty, isi_str K d, _, rfl, ?_⟩
    cases d with
    | str z =>
      cases hd
      have zk := hz z rfl
      have zs : z.length ≤ sizeLine := by rw [sizeLine_eq]; have := zk.1; omega
      refine ifF rfl ?_
      refine ⟨_, rfl, .str z, z.length, rfl, ⟨zs, rfl⟩, 1, (z.length : Int), rfl, rfl, _, rfl, ite_b (fun e1 => ⟨(z.length : Int), 8, rfl, rfl, _, rfl, ite_b (fun e8 => ?_) (fun e8 => ?_)⟩) (fun e1 => ⟨_, rfl, ifT rfl ?_⟩)⟩
      · have ef : isName (.str z) = false := by
          show ((decide (1 ≤ z.length) && decide (z.length ≤ 8)) && _) = false
          have : decide (z.length ≤ 8) = false := by
            simp only [Bool.not_eq_true', decide_eq_false_iff_not] at e8 ⊢
            omega
          rw [this]; simp
        rw [ef] at q
        exact q H (fun _ _ e => e)
      · have z1 : 1 ≤ z.length := by
          have := of_decide_eq_true e1
          omega
        have z8 : z.length ≤ 8 := by
          have e : decide ((z.length : Int) ≤ 8) = true := by simpa using e8
          have := of_decide_eq_true e
          omega
        have en : isName (.str z) = z.cps.toList.all fun c => decide (c ∈ alpha.cps.toList) := by
          show ((decide (1 ≤ z.length) && decide (z.length ≤ 8)) && _) = _
          rw [decide_eq_true z1, decide_eq_true z8]; rfl
        refine ⟨_, rfl, z, rfl, fun D hD => ?_⟩
        refine lc_it walk_str (fun i H3 => ∃ ys : List Str, ys.length ≤ i ∧ (∀ y ∈ ys, PyData.canLay0 (.str y) = true) ∧ (ys.isEmpty = (z.cps.toList.take i).all fun c => decide (c ∈ alpha.cps.toList)) ∧ H3 = upd H D (.lst (ys.map V.str))) ⟨[], Nat.le_refl _, (fun y hy => nomatch hy), rfl, rfl⟩ (fun _ _ _ _ => True.intro) ?_ ?_
        · rintro i x H3 H4 hi ⟨ys, yl, yo, ye, e3⟩ ⟨rfl, c, hc, rfl⟩
          have hc' : z.cps.toList[i]? = some c := by simpa using hc
          have ti : z.cps.toList.take (i + 1) = z.cps.toList.take i ++ [c] := by rw [List.take_succ, hc']; rfl
          refine ⟨rfl, _, rfl, c, alpha, rfl, rfl, _, rfl, ite_b (fun e => ?_) (fun e => ?_)⟩
          · refine ⟨_, rfl, _, by rw [e3]; exact upd_same, small1000 (by rw [List.length_map]; have : z.cps.size ≤ 8 := z8; omega), ys ++ [⟨#[c]⟩], by simp; omega, ?_, ?_, str_grow e3⟩
            · intro y hy
              rcases List.mem_append.mp hy with hy | hy
              · exact yo y hy
              · rw [List.mem_singleton.mp hy]
                have cc : c < 0x110000 := zk.2 c (List.mem_of_getElem? hc')
                simp [PyData.canLay0, PyData.strOk, cc]
            rw [ti, List.all_append]
            have e' : decide (c ∈ alpha.cps.toList) = false := by simpa using e
            simp only [List.all_cons, e', List.all_nil]
            simp
          · refine ⟨ys, by omega, yo, ?_, e3⟩
            have e' : decide (c ∈ alpha.cps.toList) = true := by simpa using e
            rw [ti, List.all_append, ye]
            simp only [List.all_cons, e', List.all_nil]
            simp
        · rintro H3 ⟨ys, yl, yo, ye, e3⟩
          have tz : z.cps.toList.take z.cps.size = z.cps.toList := List.take_of_length_le (by simp)
          rw [tz] at ye
          have s1 : Same H H3 := e3 ▸ Same.upd hD
          refine ⟨Nat.zero_le _, fun p0 h0 => ?_⟩
          have s2 : Same H3 (upd H3 p0 (.lst [])) := Same.upd h0
          have gD : H3 D = some (.lst (ys.map V.str)) := by rw [e3, upd_same]
          refine ⟨.list (ys.map PyData.str), .list [], .lst (SqL.of (s2 _ _ gD)) (dpAll_strs ys), .lst (SqL.of upd_same) .nil, shaped_strs ys yo, rfl, ?_⟩
          have ev : PyData.eqv (.list (ys.map PyData.str)) (.list []) = isName (.str z) := by
            rw [en, ← ye]
            cases ys <;> rfl
          rw [ev]
          exact q _ (s1.trans s2)
      · have ef : isName (.str z) = false := by
          show ((decide (1 ≤ z.length) && decide (z.length ≤ 8)) && _) = false
          have : decide (1 ≤ z.length) = false := by
            have := of_decide_eq_false e1
            exact decide_eq_false (by omega)
          rw [this]; simp
        rw [ef] at q
        exact q H (fun _ _ e => e)
    | _ => exact ifT rfl (ifT rfl (q H (fun _ _ e => e)))
end
end Ms
namespace Ms
open PySem PySem.Spec PyProof.Rows L2
/-! ### enumerate(tuple) over KE's draws -/
def ItET (K : PySem.W.Frag) (a : Addr) : It :=
  ⟨fun i H => ∃ xs : List V, SqT K H a xs ∧ i < xs.length,
    fun i H v H' => ∃ T x, v = .ref T ∧ H T = none ∧ H' = upd H T (.tup [.int (i : Nat), x]) ∧ ∀ xs, SqT K H a xs → xs[i]? = some x,
    fun i H => ∃ xs : List V, SqT K H a xs ∧ i = xs.length⟩
theorem walk_et {K : PySem.W.Frag} {a : Addr} {xs : List V} : Walk (ItET K a) xs.length (fun H => SqT K H a xs) (YPair (fun i => some (.int (i : Nat))) (fun i => xs[i]?)) := by
  refine ⟨fun i _ hi q => ⟨xs, q, hi⟩, fun _ q => ⟨xs, q, rfl⟩, fun i H v H' _ q y => ?_⟩
  obtain ⟨T, x, h1, h2, h3, h4⟩ := y
  exact ⟨T, .int (i : Nat), x, h1, h2, h3, rfl, h4 xs q⟩
abbrev EtSt (a e it : Addr) : Nat → Heap → Prop := fun i h => (∃ old, IsEnum h e it ((0 : Int) + (i : Int)) old) ∧ h.IsTupleIter it a i
theorem turn_et {P : Program} {w : World} {K : PySem.W.Frag} {elts : List Expr} {kk : Nat} {tpos : Pos} {a e it : Addr} (na : a ≠ it) (ne : e ≠ it) (nea : e ≠ a) :
    Turn P w K (.Tuple elts kk tpos) (ItET K a) [e, it] e (EtSt a e it) where
  mem := by simp
  obj := fun i h st b hb => by
    obtain ⟨⟨old, he⟩, ⟨o, ho, hc, hd⟩⟩ := st
    have e' : b = e ∨ b = it := by simpa using hb
    rcases e' with rfl | rfl
    · exact ⟨_, he, fun v q => nomatch q⟩
    · exact ⟨o, ho, fun v q => by rw [hd] at q; cases q⟩
  keep := fun i h h' st k => by
    obtain ⟨⟨old, he⟩, hi⟩ := st
    exact ⟨⟨old, k e (by simp) _ he⟩, hi.at fun o q => k it (by simp) o q⟩
  item := by
    intro X hP hw hK hc i pins s σ H E I hf st hg
    subst hP hw hK
    obtain ⟨xs, hq, hi⟩ := hg
    obtain ⟨its, rv, p, _⟩ := I.tuple hq
    have l1 := rv.length
    have hh : X.A.in1.handled = none := I.ok.hd hc
    have W := GoesN.enumFrom (elts := elts) (x1 := kk) (pos := tpos) 0 (Draws.tuple (prog := X.prog) (w := X.w) hh it a na its.toArray) e ne (by simp [ne, nea]) (by simp)
    have lv : ∀ c ∈ [e, it], c < s.heap.objs.size := fun c hc => by
      obtain ⟨⟨old, he⟩, ⟨o, ho, _⟩⟩ := st
      have e' : c = e ∨ c = it := by simpa using hc
      rcases e' with rfl | rfl
      · exact Heap.lt_size he
      · exact Heap.lt_size ho
    refine W.goes i s (fun u s2 => ∃ x H', L2.Inv X pins σ H' s2 ∧ RelV x u ∧ (ItET X.K a).yld i H x H' ∧ EtSt a e it (i + 1) s2.heap ∧ ∀ b ∈ [e, it], H' b = none) E (by simp; omega) ⟨st.1, st.2, p⟩ fun v h' tk Y st' hk htk => ?_
    obtain ⟨T, t, x, rfl, hT, hx, hI⟩ := Y
    have hxx : xs[i]? = some xs[i] := List.getElem?_eq_getElem hi
    obtain ⟨u, hu, ru⟩ := rv.get hxx
    have ex : x = u := by simp [hu] at hx; exact hx.symm
    subst ex
    have new : ObjOk X.prog X.w (upd H T (.tup [.int (i : Nat), xs[i]])) h' T (.tup [.int (i : Nat), xs[i]]) :=
      ⟨(by show 2 ≤ sizeLine; decide), [.int (0 + (i : Int)) t, x], .cons ⟨t, by rw [Int.zero_add]⟩ (.cons ru .nil), hI⟩
    have I1 : L2.Inv X pins σ (upd H T (.tup [.int (i : Nat), xs[i]])) { s with heap := h', toks := tk } := I.turnedNew (t' := tk) (ch := [e, it]) hk hf hT new
    refine ⟨.ref T, _, I1, rfl, ⟨T, xs[i], rfl, I.hok.fresh hT, rfl, fun ys hy => by rw [I.tuple_inj hy hq]; exact hxx⟩, ⟨st'.1, st'.2.1⟩, fun b hb => ?_⟩
    rw [upd_ne (Nat.ne_of_lt (Nat.lt_of_lt_of_le (lv b hb) hT))]
    exact (hf b hb).1
  done := by
    intro X hP hw hK hc i pins s σ H E I hf st hg
    subst hP hw hK
    obtain ⟨xs, hq, hi⟩ := hg
    obtain ⟨its, rv, p, _⟩ := I.tuple hq
    have l1 := rv.length
    have hh : X.A.in1.handled = none := I.ok.hd hc
    have W := GoesN.enumFrom (elts := elts) (x1 := kk) (pos := tpos) 0 (Draws.tuple (prog := X.prog) (w := X.w) hh it a na its.toArray) e ne (by simp [ne, nea]) (by simp)
    have ei : i = its.toArray.size := by simp; omega
    rw [ei] at st
    exact W.stops s (fun s1 => L2.Inv X pins σ H s1) E ⟨st.1, st.2, p⟩ fun h' tk hk htk => I.turnedL (t' := tk) (ch := [e, it]) hk hf
  self := fun A i s Q E st h => let ⟨⟨_, he⟩, _⟩ := st; wpAny_pyIter_enum he h
def iET (K : PySem.W.Frag) (ta : TA) : TI := fun σ H R => ta σ H fun vs H1 => ∃ a xs, vs = [.ref a] ∧ SqT K H1 a xs ∧ R (ItET K a) H1
set_option maxHeartbeats 1000000 in
/-- enumerate(v), v told by how its iterator begins -/
theorem meets_en1 {v : Value} {o : Obj} {HP : Heap → Prop} (B : Begins v o HP) :
    Meets (Builtin.«enumerate.__new__» ⟨[.type "enumerate", v], []⟩) (fun _ R s => HP s.heap ∧
      R (.ok (.ret (.ref (s.heap.push o).objs.size))) { s with heap := (s.heap.push o).push { cls := .type "enumerate", data := .fields #[.none, .bool false, .ref s.heap.objs.size, rawInt 0, .none, .none] } }) :=
  .of_wp fun prog w A R s h => by
    obtain ⟨hp, g, d, tk, os⟩ := s
    obtain ⟨h1, h⟩ := h
    have hsub := sub_enumerate
    have begins : ∀ {A' : Around} {E : Value → Shared → Prop} {Q : Value → Shared → Prop}, Q (.ref hp.objs.size) ⟨hp.push o, g, d, tk, os⟩ → wpAny (model prog w) A' (pyIter v) Q E ⟨hp, g, d, tk, os⟩ :=
      fun q => B.iter prog w _ _ ⟨hp, g, d, tk, os⟩ _ h1 q
    wp_walk using begins
    refine wpAny_stack_any fun st => wpAny_pure ?_
    split
    · rename_i c _ _ _ _ _
      cases (c == Value.type "enumerate") <;> (wp_walk using begins; exact ⟨_, rfl, h⟩)
    · wp_walk using begins
      exact ⟨_, rfl, h⟩
theorem pi_et {X : Cx} {e : Expr} {ta : TA} {p pos tpos : Pos} {elts : List Expr} {kk : Nat} (hg : Gl X "enumerate") (hm : X.mg "enumerate" = none) (ha : PA X [e] ta) (hs : starEach [e] X.env = [(false, eval e X.env)] := by rfl) :
    PI X (.Tuple elts kk tpos) (.Call (.Name "enumerate" p) [e] [] pos) (iET X.K ta) := by
  refine ⟨fun pins s σ H R I h => Call_ (ld_blt I hg hm boot_enumerate (PyProof.Rows.callWith_type1 (thn (ha.run pos pins s σ H _ I h) fun us s1 ⟨vs, H1, I1, r1, q1⟩ => ?_) hs rfl))⟩
  obtain ⟨a, xs, ex, hq, q⟩ := q1
  subst ex
  obtain ⟨u, rfl, ru⟩ := vals1 r1
  cases ru
  obtain ⟨its, rv, p1, _⟩ := I1.tuple hq
  obtain ⟨oa, hoa, _⟩ := id p1
  have la : a < s1.heap.objs.size := Heap.lt_size hoa
  refine callType_new F.called_enumerate (by decide) (F.typeCall_enumerate_1 _) (F.newCall_enumerate_1 _) (fun obj => F.args_object_init_2 obj _) F.entry_enumerate_new (meets_en1 (begins_tuple a its.toArray)) ⟨p1, ?_⟩
  obtain ⟨oi, hoi⟩ : ∃ oi : Obj, oi = { cls := .type "tuple_iterator", data := .fields #[.ref a, .int 0 0] } := ⟨_, rfl⟩
  obtain ⟨oe, hoe⟩ : ∃ oe : Obj, oe = { cls := .type "enumerate", data := .fields #[.none, .bool false, .ref s1.heap.objs.size, rawInt 0, .none, .none] } := ⟨_, rfl⟩
  rw [← hoi, ← hoe]
  have hz : (s1.heap.push oi).objs.size = s1.heap.objs.size + 1 := Heap.size_push ..
  have ge : ((s1.heap.push oi).push oe).get? (s1.heap.objs.size + 1) = some oe := by
    have := Heap.get?_push_size (s1.heap.push oi) (o := oe) (by rw [hoe]; rfl)
    rw [hz] at this; exact this
  have gi : ((s1.heap.push oi).push oe).get? s1.heap.objs.size = some oi := Heap.get?_push_of_some _ (Heap.get?_push_size _ (by rw [hoi]; rfl))
  have hk : ∀ b o, s1.heap.get? b = some o → ((s1.heap.push oi).push oe).get? b = some o := fun b o x => Heap.get?_push_of_some _ (Heap.get?_push_of_some _ x)
  show _ ∧ _
  rw [hz]
  have he : IsEnum ((s1.heap.push oi).push oe) (s1.heap.objs.size + 1) s1.heap.objs.size 0 .none := ge.trans (by rw [hoe])
  refine ⟨⟨_, ge, by rw [hoe]⟩, wpAny_pyIter_enum he ?_⟩
  have I2 : L2.Inv X pins σ H1 { s1 with heap := (s1.heap.push oi).push oe } := I1.kept (t' := s1.toks) hk
  have n1 : s1.heap.objs.size + 1 ≠ s1.heap.objs.size := Nat.succ_ne_self _
  have n2 : s1.heap.objs.size + 1 ≠ a := Nat.ne_of_gt (Nat.lt_succ_of_lt la)
  refine ⟨s1.heap.objs.size + 1, [s1.heap.objs.size + 1, s1.heap.objs.size], EtSt a (s1.heap.objs.size + 1) s1.heap.objs.size, ItET X.K a, H1, rfl, I2, turn_et (Nat.ne_of_lt la) n1 n2, ⟨⟨.none, he⟩, ⟨oi, gi, by rw [hoi], by rw [hoi]; rfl⟩⟩, fun c hc => ?_, q⟩
  have e' : c = s1.heap.objs.size + 1 ∨ c = s1.heap.objs.size := by simpa using hc
  have hle : s1.heap.objs.size ≤ c := by
    rcases e' with e | e
    · rw [e]; exact Nat.le_succ _
    · rw [e]; exact Nat.le_refl _
  exact I1.fpOk hle (I1.hok.fresh hle)
end Ms
namespace Ms
open PySem PySem.Spec PyProof.Rows L2
/-! ### _law_due -/
/-- a good pair -/
def oneD : PyData → Option (Str × Int)
  | .tuple [.str z, .int c] => if (isName (.str z) && isWhole (.int c) 1 3) = true then some (z, c) else none
  | _ => none
def dueGo : Nat → List Str → Int → List PyData → Sum Nat Int
  | _, _, many, [] => .inr many
  | p, seen, many, d :: ds => match oneD d with
    | none => .inl p
    | some (z, c) => if z ∈ seen then .inl p else dueGo (p + 1) (seen ++ [z]) (many * (c + 1)) ds
def bad (d : PyData) : PyData := .tuple [.str "settings", d]
def dueD (d : PyData) : PyData := match d with
  | .tuple ds => if 1 ≤ ds.length ∧ ds.length ≤ 3 then (match dueGo 0 [] 1 ds with | .inl p => bad (.int p) | .inr many => if many ≤ 12 then .list [d] else bad (.str "many")) else bad .none
  | _ => bad .none
theorem oneD_name {d0 d1 : PyData} (h : isName d0 = false) : oneD (.tuple [d0, d1]) = none := by
  cases d0 <;> cases d1 <;> first | rfl | (simp only [oneD]; rw [h]; rfl)
theorem oneD_whole {d0 d1 : PyData} (h : isWhole d1 1 3 = false) : oneD (.tuple [d0, d1]) = none := by
  cases d0 <;> cases d1 <;> first | rfl | (simp only [oneD]; rw [h, Bool.and_false]; rfl)
theorem oneD_len {es : List PyData} (h : es.length ≠ 2) : oneD (.tuple es) = none := by
  match es, h with
  | [], _ => rfl
  | [x], _ => cases x <;> rfl
  | [_, _], h => exact absurd rfl h
  | x :: y :: z :: r, _ => cases x <;> cases y <;> rfl
theorem oneD_ok {d0 d1 : PyData} (h : isName d0 = true) (h1 : isWhole d1 1 3 = true) : ∃ z c, d0 = .str z ∧ d1 = .int c ∧ 1 ≤ c ∧ c ≤ 3 ∧ oneD (.tuple [d0, d1]) = some (z, c) := by
  cases d0 with
  | str z =>
    cases d1 with
    | int c =>
      refine ⟨z, c, rfl, rfl, ?_, ?_, by simp only [oneD]; rw [h, h1]; rfl⟩
      · have := (Bool.and_eq_true _ _ ▸ h1 : _ ∧ _).1
        exact of_decide_eq_true this
      · have := (Bool.and_eq_true _ _ ▸ h1 : _ ∧ _).2
        exact of_decide_eq_true this
    | _ => exact absurd h1 (by simp [isWhole])
  | _ => exact absurd h (by simp [isName])
theorem inV_str (z : Str) (ys : List Str) : inV (.str z) (ys.map V.str) = decide (z ∈ ys) := by
  unfold inV
  rw [List.any_map]
  rw [Bool.eq_iff_iff]
  simp only [List.any_eq_true, Function.comp, eqV, beq_iff_eq, decide_eq_true_eq]
  constructor
  · rintro ⟨y, hy, rfl⟩; exact hy
  · intro h; exact ⟨z, h, rfl⟩
structure TxtD (mg : Str → Option Value) (fN fM fO fB fW fA : Addr) : Prop extends TxtB mg fN fM fO fB where
  enumerate : mg "enumerate" = none
  whole : mg "_law_is_whole" = some (.ref fW)
  name : mg "_law_is_name" = some (.ref fA)
section
variable {P : Program} {w : World} {K : PySem.W.Frag} {mg : Str → Option Value} {base : Heap} {fN fM fO fB fW fA : Addr}
abbrev ND : List Str := ["thing", "many", "place", "one", "other"]
theorem scDu : FnScope ND ["thing"] (defScope sDue) := ⟨rfl, rfl, rfl, by decide +kernel, rfl, by decide +kernel, by decide +kernel⟩
def spDue (K : PySem.W.Frag) : Sp := fun vs H Q _ => ∃ (m l : Addr) (n : Nat) (v : V) (d : PyData) (B b : Nat), vs = [v] ∧ Mch H m l n ∧ Dq K H m l v d ∧ Gd B 100000 b d ∧
  ∀ (v' : V) (H' : Hp), Same H H' → Dq K H' m l v' (dueD d) → Q v' H'
theorem ok_due {f : Addr} {fd fdW fdA : FuncData} (F : Fun K "_law_due" "_law_due" sDue f fd) (T : TxtD mg fN fM fO fB fW fA) (FW : Fun K "_law_is_whole" "_law_is_whole" sIsWhole fW fdW) (bW : Binds K fdW ["thing", "least", "most"] [])
    (FA : Fun K "_law_is_name" "_law_is_name" sIsName fA fdA) (bA : Binds K fdA ["thing"] []) : FnOk P w K mg base CX0 2 f fd ["thing"] (spDue K) := by
  have GW : FnOk P w K mg base CX0 1 fW fdW ["thing", "least", "most"] (spWhole K) := ok_whole FW T.toTxtB
  have GA : FnOk P w K mg base CX0 1 fA fdA ["thing"] (spName K) := ok_name FA T.toTxtB
  refine F.ok scDu (fun vs H Q E h => ?_) (fun cdv A outer s H vs Q E hr h => ?_)
  · obtain ⟨m, l, n, v, d, B, b, rfl, _⟩ := h
    rfl
  obtain ⟨m, l, n, v, d, B, b, rfl, M, hd, gd, q⟩ := h
  have bd0 : ∀ (H1 : Hp) (p : Addr) (u : V) (e : PyData), Same H H1 → H1 p = some (.tup [.str "settings", u]) → Dq K H1 m l u e → dueD d = bad e → Q (.ref p) H1 := fun H1 p u e s1 hp hu ee =>
    q (.ref p) H1 s1 (by rw [ee]; exact .tup (.inl (.inl hp)) (.cons (.str _) (.cons hu .nil)))
  refine ⟨_, pss_cons (ps_if (PW.pt (pw_or (pt_not (pt_val (pe_callB call_isi (by rfl) T.isi PyProof.Rows.boot_isinstance (pa_cons (pv 0) (pa_cons (pe_bltn (v := .ty "tuple") (u := .type "tuple") (by rfl) T.tuple (by decide +kernel) rfl) pa_nil)))))
      (pw_or1 (pt_not (pt_chain op_le op_le pe_int (pe_callB call_len (by rfl) T.len PySem.boot_len (pa_cons (pv 0) pa_nil)) pe_int))))) (pss_one (ps_ret (pe_tup (pa_cons pe_str (pa_cons pe_non pa_nil))))) pss_nil)
    (pss_cons (ps_set (i := 1) scDu.nd rfl (by first | exact Or.inl rfl | exact Or.inr rfl) pe_int)
    (pss_cons (ps_for PassesOwn.never rfl (pi_et (by rfl) T.enumerate (pa_cons (pv 0) pa_nil)) (pg_tup rfl (pgs_cons (pg_name (i := 2) scDu.nd rfl (by first | exact Or.inl rfl | exact Or.inr rfl)) (pgs_cons (pg_name (i := 3) scDu.nd rfl (by first | exact Or.inl rfl | exact Or.inr rfl)) pgs_nil)))
      (pss_cons (ps_if (PW.pt (pw_or (pt_not (pt_val (pe_callB call_isi (by rfl) T.isi PyProof.Rows.boot_isinstance (pa_cons (pv 3) (pa_cons (pe_bltn (v := .ty "tuple") (u := .type "tuple") (by rfl) T.tuple (by decide +kernel) rfl) pa_nil)))))
          (pw_or (pt_cmpR op_ne (pe_callB call_len (by rfl) T.len PySem.boot_len (pa_cons (pv 3) pa_nil)) pe_int (nomark _)) (pw_or1 (pt_not (pt_val (pe_call GA hr rfl T.name FA.kp bA .nil pass0 (pa_cons (pe_ix ix_tup (pv 3) pe_int (fun _ _ => rfl)) pa_nil)))))))) (pss_one (ps_ret (pe_tup (pa_cons pe_str (pa_cons (pv 2) pa_nil))))) pss_nil)
      (pss_cons (ps_if (PW.pt (pw_or (pt_not (pt_val (pe_call GW hr rfl T.whole FW.kp bW .nil pass0 (pa_cons (pe_ix ix_tup (pv 3) pe_int (fun _ _ => rfl)) (pa_cons pe_int (pa_cons pe_int pa_nil))))))
          (pw_or1 (pt_cmpR op_in_seq (pe_ix ix_tup (pv 3) pe_int (fun _ _ => rfl)) (pe_lc (own := [("other", 4)]) (g := gName 4) (by rfl) scDu.nd (pi_tup (pe_slice sl_tupA (pv 0) po_none (po_some (pv 2)))) (blkOk_by (own := [("other", 4)]) (N := ND) (sc := defScope sDue) (by decide +kernel))
            (fun _ _ _ _ _ => pg_name (i := 4) scDu.nd rfl (Or.inl rfl)) (fun _ _ _ _ _ => pts_nil) (fun _ _ _ _ _ => pe_ix (r := rIxT K) ix_tup (pv 4) pe_int (fun _ _ => rfl))) (by rfl))))) (pss_one (ps_ret (pe_tup (pa_cons pe_str (pa_cons (pv 2) pa_nil))))) pss_nil)
      (pss_one (ps_set (i := 1) scDu.nd rfl (by first | exact Or.inl rfl | exact Or.inr rfl) (pe_op op_mul (pv 1) (pe_op op_add (pe_ix ix_tup (pv 3) pe_int (fun _ _ => rfl)) pe_int)))))))
    (pss_one (ps_ret (pe_ifExp (pt_cmpR op_le (pv 1) pe_int (nomark _)) (pe_lst (pa_cons (pv 0) pa_nil)) (pe_tup (pa_cons pe_str (pa_cons pe_str pa_nil)))))))), ?_⟩
  refine ⟨_, rfl, v, .ty "tuple", _, _, _, rfl, .ty _, hd.ty, isi_tup K d, _, rfl, ?_⟩
  cases d with
  | tuple ds =>
    cases hd with
    | tup hp hx =>
      rename_i p xs
      refine ifF rfl ?_
      have lx := hx.len
      have gw : PyData.weightAll ds ≤ 100000 := by have := gd.wt; simpa only [PyData.weight] using this
      have ls := wA_len ds
      have toofar : ¬ (1 ≤ ds.length ∧ ds.length ≤ 3) → dueD (.tuple ds) = bad .none := fun h => by
        show (if 1 ≤ ds.length ∧ ds.length ≤ 3 then _ else bad .none) = bad .none
        rw [if_neg h]
      have none0 : ∀ h : ¬ (1 ≤ ds.length ∧ ds.length ≤ 3), 2 ≤ sizeLine ∧ ∀ p0, H p0 = none → Q (.ref p0) (upd H p0 (.tup [.str "settings", .non])) := fun h =>
        ⟨(by show 2 ≤ sizeLine; decide), fun p0 h0 => bd0 _ p0 .non .none (Same.upd h0) upd_same .non (toofar h)⟩
      refine ⟨_, rfl, .ref p, xs.length, rfl, .inr ⟨xs, hp, rfl⟩, 1, (xs.length : Int), rfl, rfl, _, rfl, ite_b (fun e1 => ⟨(xs.length : Int), 3, rfl, rfl, _, rfl, ite_b (fun e8 => none0 ?_) (fun e8 => ?_)⟩) (fun e1 => ⟨_, rfl, ifT rfl (none0 ?_)⟩)⟩
      · have : ¬ ((xs.length : Int) ≤ 3) := by simpa using e8
        omega
      · have l3 : (xs.length : Int) ≤ 3 := by simpa using e8
        have l1 : (1 : Int) ≤ (xs.length : Int) := of_decide_eq_true e1
        have ed : dueD (.tuple ds) = (match dueGo 0 [] 1 ds with | .inl p => bad (.int p) | .inr many => if many ≤ 12 then .list [.tuple ds] else bad (.str "many")) := by
          show (if 1 ≤ ds.length ∧ ds.length ≤ 3 then _ else bad .none) = _
          rw [if_pos ⟨by omega, by omega⟩]
        refine ⟨_, rfl, p, xs, rfl, hp, ?_⟩
        refine for_it walk_et (fun i σ H1 => ∃ (seen : List Str) (many : Int) (v2 v3 : Option V), σ = [some (.ref p), some (.int many), v2, v3, none] ∧ Same H H1 ∧ seen.length = i ∧ dueGo 0 [] 1 ds = dueGo i seen many (ds.drop i) ∧ ∀ (j : Nat) (z : Str), seen[j]? = some z → ∃ (a : Addr) (c : Int), xs[j]? = some (V.ref a) ∧ SqT K H a [V.str z, V.int c])
          ⟨[], 1, none, none, rfl, Same.refl H, rfl, rfl, fun j z h => by simp at h⟩ (fun i σ H1 _ ⟨seen, many, v2, v3, _, s1, _⟩ => Same.seqT s1 hp) ?_ ?_
        · rintro i x σ H1 H2 hi ⟨seen, many, v2, v3, rfl, s1, sl, dg, sk⟩ ⟨T, x1, x2, rfl, hT, rfl, e1', e2'⟩
          have ex1 : x1 = .int (i : Nat) := (Option.some.inj e1').symm
          subst ex1
          obtain ⟨e, he, dqe⟩ := hx.get e2'
          have sA : Same H (upd H1 T (.tup [.int (i : Nat), x2])) := s1.trans (Same.upd hT)
          have dqA := Dq.step (M.kept sA) e x2 dqe
          have hid : i < ds.length := by omega
          have edr : ds.drop i = e :: ds.drop (i + 1) := by rw [List.drop_eq_getElem_cons hid]; rw [(List.getElem?_eq_some_iff.mp he).2]
          have rb : ∀ H3, Same H H3 → (oneD e = none ∨ ∃ z c, oneD e = some (z, c) ∧ z ∈ seen) → 2 ≤ sizeLine ∧ ∀ p0, H3 p0 = none → Q (.ref p0) (upd H3 p0 (.tup [.str "settings", .int (i : Nat)])) := fun H3 s3 h =>
            ⟨(by show 2 ≤ sizeLine; decide), fun p0 h0 => bd0 _ p0 _ (.int (i : Nat)) (s3.trans (Same.upd h0)) upd_same (.int _) (by
              rw [ed, dg, edr]
              rcases h with h | ⟨z, c, h, hz⟩
              · simp only [dueGo, h]
              · simp only [dueGo, h, if_pos hz])⟩
          refine ⟨T, _, rfl, .inl (.inl upd_same), rfl, _, _, rfl, _, _, rfl, rfl, ?_⟩
          refine ⟨_, rfl, x2, .ty "tuple", _, _, _, rfl, .ty _, dqA.ty, isi_tup K e, _, rfl, ?_⟩
          obtain ⟨cc, eb, g⟩ := Gd.untup gd
          have ge := g.at he
          have we : e.weight ≤ 100000 := by
            have := wA_at he
            have := g.wt
            omega
          cases e with
          | tuple es =>
            cases dqA with
            | tup hq hy =>
              rename_i a ys
              have ly := hy.len
              refine ifF rfl ⟨_, rfl, .ref a, ys.length, rfl, .inr ⟨ys, hq, rfl⟩, rfl, _, rfl, ite_b (fun e => ifT rfl ⟨_, rfl, rb _ sA (.inl (oneD_len ?_))⟩) (fun e => ?_)⟩
              · intro z
                rw [ly, z] at e
                exact absurd e (by decide)
              have l2 : ys.length = 2 := by
                have q1 : decide (V.int ((ys.length : Nat) : Int) = V.int 2) = true := by simpa using e
                have q2 := of_decide_eq_true q1
                have q3 : ((ys.length : Nat) : Int) = 2 := by injection q2
                omega
              obtain ⟨y0, y1, rfl⟩ : ∃ y0 y1, ys = [y0, y1] := by
                match ys, l2 with
                | [y0, y1], _ => exact ⟨y0, y1, rfl⟩
              obtain ⟨d0, d1, rfl⟩ : ∃ d0 d1, es = [d0, d1] := by
                match es, ly with
                | [d0, d1], _ => exact ⟨d0, d1, rfl⟩
              obtain ⟨q0, q1⟩ : Dq K (upd H1 T (.tup [.int (i : Nat), V.ref a])) m l y0 d0 ∧ Dq K (upd H1 T (.tup [.int (i : Nat), V.ref a])) m l y1 d1 := by
                cases hy with
                | cons h0 h1 => cases h1 with | cons h1 _ => exact ⟨h0, h1⟩
              obtain ⟨c2, eb2, g2⟩ := Gd.untup ge
              have w0 : ∀ z, d0 = .str z → sOk 100000 z := fun z ez => by
                have gz := g2.at (i := 0) (d := d0) rfl
                rw [ez] at gz
                have ww := g2.wt
                have := (gz.unstr)
                refine this.mono ?_
                rw [ez] at ww
                simp only [PyData.weightAll] at ww
                have we' := we
                simp only [PyData.weight, PyData.weightAll] at we' ww ⊢
                rw [ez] at we'
                simp only [PyData.weight] at we'
                omega
              refine ⟨_, rfl, a, _, 0, y0, rfl, rfl, hq, rfl, m, l, y0, d0, rfl, q0, w0, fun H3 s3 => ⟨_, rfl, ite_b (fun e => ⟨_, rfl, rb _ (sA.trans s3) (.inl (oneD_name ?_))⟩) (fun e => ?_)⟩⟩
              · simpa using e
              have hn : isName d0 = true := by simpa using e
              have hq3 := Same.seqT s3 hq
              refine ⟨_, rfl, a, _, 1, y1, rfl, rfl, hq3, rfl, m, l, y1, d1, 1, 3, rfl, Dq.step ((M.same sA).kept s3) d1 y1 q1, _, rfl, ite_b (fun e => ifT rfl ⟨_, rfl, rb _ (sA.trans s3) (.inl (oneD_whole ?_))⟩) (fun e => ?_)⟩
              · simpa using e
              have hw : isWhole d1 1 3 = true := by simpa using e
              obtain ⟨z, c, rfl, rfl, c1, c3, eo⟩ := oneD_ok hn hw
              cases q0
              cases q1
              refine ⟨_, rfl, a, _, 0, _, rfl, rfl, hq3, rfl, ?_⟩
              refine ⟨_, rfl, _, rfl, _, rfl, slA_any (Same.seqT (sA.trans s3) hp) fun p4 H4 s4 c4 => ?_⟩
              rw [cut_to (by omega)] at c4
              refine ⟨p4, rfl, ⟨_, c4⟩, fun D hD => ?_⟩
              have s04 := (sA.trans s3).trans s4
              refine lc_it (walk_tup (xs := xs.take i)) (fun j H5 => H5 = upd H4 D (.lst ((seen.take j).map V.str))) rfl (fun j H5 _ e5 => by rw [e5]; exact Same.seqT (Same.upd hD) c4) ?_ ?_
              · rintro j x H5 H6 hj e5 ⟨rfl, hxj⟩
                have hji : j < i := by rw [List.length_take] at hj; omega
                have hxj' : xs[j]? = some x := by rw [List.getElem?_take_of_lt hji] at hxj; exact hxj
                obtain ⟨zj, hzj⟩ : ∃ zj, seen[j]? = some zj := ⟨_, List.getElem?_eq_getElem (by omega)⟩
                obtain ⟨a', c', ha', hs'⟩ := sk j zj hzj
                have ex : x = V.ref a' := Option.some.inj (hxj'.symm.trans ha')
                subst ex
                have hs5 : SqT K H6 a' [V.str zj, V.int c'] := by rw [e5]; exact Same.seqT (s04.trans (Same.upd hD)) hs'
                have tj : (seen.take (j + 1)).map V.str = (seen.take j).map V.str ++ [.str zj] := by rw [List.take_succ, hzj, List.map_append]; rfl
                refine ⟨rfl, tyes ⟨_, rfl, a', _, 0, .str zj, rfl, rfl, hs5, rfl, _, by rw [e5]; exact upd_same, small1000 (by simp; omega), ?_⟩⟩
                show upd H6 D _ = upd H4 D _
                rw [e5, upd_upd, tj]
              · rintro H5 e5
                have tl : seen.take (xs.take i).length = seen := List.take_of_length_le (by rw [List.length_take]; omega)
                rw [tl] at e5
                have s5 : Same H4 H5 := e5 ▸ Same.upd hD
                have sF := s04.trans s5
                refine ⟨D, _, rfl, .inl (SqL.of (by rw [e5]; exact upd_same)), rfl, (by simp [flatV]), _, rfl, ite_b (fun e => ⟨_, rfl, rb _ sF (.inr ⟨z, c, eo, ?_⟩)⟩) (fun e => ?_)⟩
                · have e' : inV (.str z) (seen.map V.str) = true := e
                  rw [inV_str] at e'
                  exact of_decide_eq_true e'
                have nz : z ∉ seen := by
                  have e' : inV (.str z) (seen.map V.str) = false := e
                  rw [inV_str] at e'
                  exact of_decide_eq_false e'
                have hq5 := Same.seqT (s4.trans s5) hq3
                refine ⟨_, rfl, _, rfl, a, _, 1, .int c, rfl, rfl, hq5, rfl, c, 1, rfl, rfl, many, c + 1, rfl, rfl, .inr ⟨by omega, by omega⟩, ?_⟩
                refine ⟨seen ++ [z], many * (c + 1), _, _, rfl, sF, by simp [sl], ?_, ?_⟩
                · rw [dg, edr]
                  simp only [dueGo, eo, if_neg nz]
                · intro j z' hj
                  by_cases hji : j < seen.length
                  · rw [List.getElem?_append_left hji] at hj
                    exact sk j z' hj
                  · have ej : j = i := by
                      have := (List.getElem?_eq_some_iff.mp hj).1
                      rw [List.length_append, List.length_singleton] at this
                      omega
                    subst ej
                    rw [List.getElem?_append_right (by omega), sl, Nat.sub_self] at hj
                    have ez : z = z' := by simpa using hj
                    subst ez
                    cases dqe with
                    | tup hq0 hy0 =>
                      cases hy0 with
                      | cons g0 hy1 =>
                        cases hy1 with
                        | cons g1 hy2 =>
                          cases g0
                          cases g1
                          cases hy2
                          exact ⟨a, c, e2', hq0⟩
          | _ => exact ifT rfl (ifT rfl ⟨_, rfl, rb _ sA (.inl rfl)⟩)
        · rintro σ H1 ⟨seen, many, v2, v3, rfl, s1, sl, dg, sk⟩
          rw [List.drop_of_length_le (by omega)] at dg
          refine ⟨_, rfl, many, 12, rfl, rfl, _, rfl, ite_b (fun e => ⟨_, rfl, (by show 1 ≤ sizeLine; decide), fun p0 h0 => ?_⟩) (fun e => ⟨(by show 2 ≤ sizeLine; decide), fun p0 h0 => bd0 _ p0 _ (.str "many") (s1.trans (Same.upd h0)) upd_same (.str _) ?_⟩)⟩
          · have n0 := (M.same s1).ne h0
            have s2 := s1.trans (Same.upd (o := .lst [.ref p]) h0)
            have em : many ≤ 12 := of_decide_eq_true e
            refine q (.ref p0) _ s2 ?_
            rw [ed, dg]
            simp only [dueGo, if_pos em]
            exact .lst upd_same n0.1 n0.2 (.cons (.tup (Same.seqT s2 hp) (DqAll.step (M.kept s2) ds xs hx)) .nil)
          · have em : ¬ many ≤ 12 := of_decide_eq_false e
            rw [ed, dg]
            simp only [dueGo, if_neg em]
      · have : ¬ ((1 : Int) ≤ (xs.length : Int)) := of_decide_eq_false e1
        omega
  | _ => exact ifT rfl (ifT rfl ⟨(by show 2 ≤ sizeLine; decide), fun p0 h0 => bd0 _ p0 .non .none (Same.upd h0) upd_same .non rfl⟩)
end
end Ms
namespace Ms
open PySem PySem.Spec PyProof.Rows L2
/-! ### data keeps while the heap grows -/
mutual
theorem Dq.same {K : PySem.W.Frag} {m l : Addr} {H H' : Hp} (k : Same H H') : ∀ (d : PyData) (v : V), Dq K H m l v d → Dq K H' m l v d
  | .none, _, h => by cases h; exact .non
  | .bool b, _, h => by cases h; exact .bl b
  | .int i, _, h => by cases h; exact .int i
  | .str x, _, h => by cases h; exact .str x
  | .list ds, _, h => by
    cases h with
    | lst e n1 n2 t => exact .lst (k _ _ e) n1 n2 (DqAll.same k ds _ t)
  | .tuple ds, _, h => by
    cases h with
    | tup e t => exact .tup (Same.seqT k e) (DqAll.same k ds _ t)
  | .dict _, _, h => by
    cases h with
    | dct e n1 n2 => exact .dct (k _ _ e) n1 n2
theorem DqAll.same {K : PySem.W.Frag} {m l : Addr} {H H' : Hp} (k : Same H H') : ∀ (ds : List PyData) (vs : List V), DqAll K H m l vs ds → DqAll K H' m l vs ds
  | [], _, h => by cases h; exact .nil
  | d :: ds, _, h => by
    cases h with
    | cons h1 h2 => exact .cons (Dq.same k d _ h1) (DqAll.same k ds _ h2)
end
/-! ### comprehensions of two clauses -/
theorem lc2_it {J : It} {n : Nat} {G : Hp → Prop} {Y : Nat → Hp → V → Hp → Prop} (w : Walk J n G Y) {g : TG} {tt : TT} {wi1 : TI} {g1 : TG} {tt1 : TT} {te : TE} {vs vs1 : List Nat} {σ : L2.St} {H1 : Hp} {D : Addr} {Qd : Hp → Prop} (Pv : Nat → Hp → Prop)
    (h0 : Pv 0 (upd H1 D (.lst []))) (hG : ∀ i H, i ≤ n → Pv i H → G H)
    (hs : ∀ i x H H', i < n → Pv i H → Y i H x H' → g x (wipe σ vs) H' fun σ2 H2 => wipe σ2 vs = wipe σ vs ∧ tt σ2 H2 fun b H3 =>
      if b = true then wi1 σ2 H3 fun J1 H4 => ∃ W1 : Nat → Nat → Hp → Prop, (∃ m, W1 0 m H4) ∧ ∀ j k H, W1 j k H →
        (J1.stop j H ∧ Pv (i + 1) H) ∨ (J1.go j H ∧ ∃ Nx1 : Hp → Prop, (∀ H', Nx1 H' → ∃ k', k' < k ∧ W1 (j + 1) k' H') ∧ ∀ x H', J1.yld j H x H' → g1 x (wipe σ2 vs1) H' fun σ3 H5 => wipe σ3 vs1 = wipe σ2 vs1 ∧ tt1 σ3 H5 fun b H6 =>
          if b = true then te σ3 H6 fun y H7 => ∃ acc, H7 D = some (.lst acc) ∧ acc.length < sizeLine ∧ Nx1 (upd H7 D (.lst (acc ++ [y]))) else Nx1 H6)
      else Pv (i + 1) H3) (hd : ∀ H, Pv n H → Qd H) :
    ∃ W : Nat → Nat → Hp → Prop, (∃ m, W 0 m (upd H1 D (.lst []))) ∧ ∀ i m H, W i m H →
      (J.stop i H ∧ Qd H) ∨ (J.go i H ∧ ∃ Nx : Hp → Prop, (∀ H', Nx H' → ∃ m', m' < m ∧ W (i + 1) m' H') ∧ ∀ x H', J.yld i H x H' → g x (wipe σ vs) H' fun σ2 H2 => wipe σ2 vs = wipe σ vs ∧ tt σ2 H2 fun b H3 =>
        if b = true then wi1 σ2 H3 fun J1 H4 => ∃ W1 : Nat → Nat → Hp → Prop, (∃ m, W1 0 m H4) ∧ ∀ j k H, W1 j k H →
          (J1.stop j H ∧ Nx H) ∨ (J1.go j H ∧ ∃ Nx1 : Hp → Prop, (∀ H', Nx1 H' → ∃ k', k' < k ∧ W1 (j + 1) k' H') ∧ ∀ x H', J1.yld j H x H' → g1 x (wipe σ2 vs1) H' fun σ3 H5 => wipe σ3 vs1 = wipe σ2 vs1 ∧ tt1 σ3 H5 fun b H6 =>
            if b = true then te σ3 H6 fun y H7 => ∃ acc, H7 D = some (.lst acc) ∧ acc.length < sizeLine ∧ Nx1 (upd H7 D (.lst (acc ++ [y]))) else Nx1 H6)
        else Nx H3) := by
  refine ⟨fun i m H => i + m = n ∧ Pv i H, ⟨n, by omega, h0⟩, ?_⟩
  rintro i m H ⟨e, p⟩
  have q := hG i H (by omega) p
  by_cases hi : i < n
  · exact .inr ⟨w.goes i H hi q, Pv (i + 1), fun H' p' => ⟨n - (i + 1), by omega, by omega, p'⟩, fun x H' y => hs i x H H' hi p (w.yields i H x H' hi q y)⟩
  · have z : i = n := by omega
    subst z
    exact .inl ⟨w.stops H q, hd H p⟩
/-- the inner clause's walk -/
theorem lc_in {J : It} {n : Nat} {G : Hp → Prop} {Y : Nat → Hp → V → Hp → Prop} (w : Walk J n G Y) {g : TG} {tt : TT} {te : TE} {vs : List Nat} {σ : L2.St} {H4 : Hp} {D : Addr} {Qd : Hp → Prop} (Pv : Nat → Hp → Prop)
    (h0 : Pv 0 H4) (hG : ∀ i H, i ≤ n → Pv i H → G H)
    (hs : ∀ i x H H', i < n → Pv i H → Y i H x H' → g x (wipe σ vs) H' fun σ2 H2 => wipe σ2 vs = wipe σ vs ∧ tt σ2 H2 fun b H3 =>
      if b = true then te σ2 H3 fun y H4 => ∃ acc, H4 D = some (.lst acc) ∧ acc.length < sizeLine ∧ Pv (i + 1) (upd H4 D (.lst (acc ++ [y]))) else Pv (i + 1) H3) (hd : ∀ H, Pv n H → Qd H) :
    ∃ W : Nat → Nat → Hp → Prop, (∃ m, W 0 m H4) ∧ ∀ i m H, W i m H →
      (J.stop i H ∧ Qd H) ∨ (J.go i H ∧ ∃ Nx : Hp → Prop, (∀ H', Nx H' → ∃ m', m' < m ∧ W (i + 1) m' H') ∧ ∀ x H', J.yld i H x H' → g x (wipe σ vs) H' fun σ2 H2 => wipe σ2 vs = wipe σ vs ∧ tt σ2 H2 fun b H3 =>
        if b = true then te σ2 H3 fun y H4 => ∃ acc, H4 D = some (.lst acc) ∧ acc.length < sizeLine ∧ Nx (upd H4 D (.lst (acc ++ [y]))) else Nx H3) := by
  refine ⟨fun i m H => i + m = n ∧ Pv i H, ⟨n, by omega, h0⟩, ?_⟩
  rintro i m H ⟨e, p⟩
  have q := hG i H (by omega) p
  by_cases hi : i < n
  · exact .inr ⟨w.goes i H hi q, Pv (i + 1), fun H' p' => ⟨n - (i + 1), by omega, by omega, p'⟩, fun x H' y => hs i x H H' hi p (w.yields i H x H' hi q y)⟩
  · have z : i = n := by omega
    subst z
    exact .inl ⟨w.stops H q, hd H p⟩
/-! ### pairs of a text and an int, wherever they stand -/
def PrT (K : PySem.W.Frag) (H : Hp) (v : V) (q : Str × Int) : Prop := ∃ a, v = .ref a ∧ SqT K H a [.str q.1, .int q.2]
inductive PrTs (K : PySem.W.Frag) (H : Hp) : List V → List (Str × Int) → Prop
  | nil : PrTs K H [] []
  | cons {v : V} {vs : List V} {q : Str × Int} {qs : List (Str × Int)} : PrT K H v q → PrTs K H vs qs → PrTs K H (v :: vs) (q :: qs)
section
variable {K : PySem.W.Frag} {H H' : Hp}
theorem PrTs.same (s : Same H H') {vs : List V} {qs : List (Str × Int)} (p : PrTs K H vs qs) : PrTs K H' vs qs := by
  induction p with
  | nil => exact .nil
  | cons h _ ih =>
    obtain ⟨a, e, h⟩ := h
    exact .cons ⟨a, e, Same.seqT s h⟩ ih
theorem PrTs.len {vs : List V} {qs : List (Str × Int)} (p : PrTs K H vs qs) : vs.length = qs.length := by
  induction p with
  | nil => rfl
  | cons _ _ ih => simp [ih]
theorem PrTs.get {vs : List V} {qs : List (Str × Int)} (p : PrTs K H vs qs) : ∀ {i : Nat} {v : V}, vs[i]? = some v → ∃ q, qs[i]? = some q ∧ PrT K H v q := by
  induction p with
  | nil => intro i v h; simp at h
  | cons h' _ ih =>
    intro i b hb
    cases i with
    | zero => simp at hb; subst hb; exact ⟨_, rfl, h'⟩
    | succ i => exact ih (by simpa using hb)
theorem PrTs.snoc {vs : List V} {qs : List (Str × Int)} {v : V} {q : Str × Int} (p : PrTs K H vs qs) (h : PrT K H v q) : PrTs K H (vs ++ [v]) (qs ++ [q]) := by
  induction p with
  | nil => exact .cons h .nil
  | cons h' _ ih => exact .cons h' ih
end
/-! ### rows: tuples of ints, each with its own address -/
inductive Rws (H : Hp) : List Addr → List (List Int) → Prop
  | nil : Rws H [] []
  | cons {a : Addr} {as : List Addr} {r : List Int} {rs : List (List Int)} : H a = some (.tup (r.map V.int)) → Rws H as rs → Rws H (a :: as) (r :: rs)
section
variable {H H' : Hp}
theorem Rws.same {as : List Addr} {rs : List (List Int)} (s : ∀ b o, b ∈ as → H b = some o → H' b = some o) (p : Rws H as rs) : Rws H' as rs := by
  induction p with
  | nil => exact .nil
  | cons h _ ih => exact .cons (s _ _ (List.mem_cons_self ..) h) (ih fun b o hb => s b o (List.mem_cons_of_mem _ hb))
theorem Rws.snoc {as : List Addr} {rs : List (List Int)} {a : Addr} {r : List Int} (p : Rws H as rs) (h : H a = some (.tup (r.map V.int))) : Rws H (as ++ [a]) (rs ++ [r]) := by
  induction p with
  | nil => exact .cons h .nil
  | cons h' _ ih => exact .cons h' ih
theorem Rws.length {as : List Addr} {rs : List (List Int)} (p : Rws H as rs) : as.length = rs.length := by
  induction p with
  | nil => rfl
  | cons _ _ ih => simp [ih]
theorem Rws.get {as : List Addr} {rs : List (List Int)} (p : Rws H as rs) : ∀ {i : Nat} {a : Addr}, as[i]? = some a → ∃ r, rs[i]? = some r ∧ H a = some (.tup (r.map V.int)) := by
  induction p with
  | nil => intro i a h; simp at h
  | cons h' _ ih =>
    intro i b hb
    cases i with
    | zero => simp at hb; subst hb; exact ⟨_, rfl, h'⟩
    | succ i => exact ih (by simpa using hb)
end
/-! ### all standings, by the settings -/
/-- each row with each value behind it -/
def widen (rs : List (List Int)) (n : Nat) : List (List Int) := rs.flatMap fun r => (List.range n).map fun (v : Nat) => r ++ [(v : Int)]
def grid (qs : List (Str × Int)) : List (List Int) := qs.foldl (fun rs q => widen rs (q.2 + 1).toNat) [[]]
theorem widen_len (rs : List (List Int)) (n : Nat) : (widen rs n).length = rs.length * n := by
  unfold widen
  induction rs with
  | nil => simp
  | cons r rs ih => rw [List.flatMap_cons, List.length_append, ih, List.length_map, List.length_range, List.length_cons, Nat.succ_mul, Nat.add_comm]
end Ms
namespace Ms
open PySem PySem.Spec PyProof.Rows L2
/-! ### the package's settings: is_int, is_name, is_setting, names_of, grid_of -/
structure TxtP (mg : Str → Option Value) (fI fN fS fA fG : Addr) : Prop where
  isi : mg "isinstance" = none
  int : mg "int" = none
  bool : mg "bool" = none
  str : mg "str" = none
  tuple : mg "tuple" = none
  len : mg "len" = none
  all : mg "all" = none
  range : mg "range" = none
  enumerate : mg "enumerate" = none
  mS : ∃ t, mg "MOST_SETTINGS" = some (.int 3 t)
  mV : ∃ t, mg "MOST_VALUE" = some (.int 3 t)
  mT : ∃ t, mg "MOST_STANDINGS" = some (.int 12 t)
  lN : ∃ t, mg "LONGEST_NAME" = some (.int 8 t)
  gI : mg "is_int" = some (.ref fI)
  gN : mg "is_name" = some (.ref fN)
  gS : mg "is_setting" = some (.ref fS)
  gA : mg "names_of" = some (.ref fA)
  gG : mg "grid_of" = some (.ref fG)
def isInt (d : PyData) : Bool := match d with | .int _ => true | _ => false
section
variable {P : Program} {w : World} {K : PySem.W.Frag} {mg : Str → Option Value} {base : Heap} {fI fN fS fA fG : Addr}
theorem scPi : FnScope ["thing"] ["thing"] (defScope sPInt) := ⟨rfl, rfl, rfl, by decide +kernel, rfl, by decide +kernel, by decide +kernel⟩
def spPInt (K : PySem.W.Frag) : Sp := fun vs H Q _ => ∃ (m l : Addr) (v : V) (d : PyData), vs = [v] ∧ Dq K H m l v d ∧ Q (.bl (isInt d)) H
theorem ok_pint {f : Addr} {fd : FuncData} (F : Fun K "is_int" "is_int" sPInt f fd) (T : TxtP mg fI fN fS fA fG) : FnOk P w K mg base CX0 1 f fd ["thing"] (spPInt K) := by
  refine F.ok scPi (fun vs H Q E h => ?_) (fun cdv A outer s H vs Q E hr h => ?_)
  · obtain ⟨m, l, v, d, rfl, _⟩ := h
    rfl
  · obtain ⟨m, l, v, d, rfl, hd, q⟩ := h
    refine ⟨_, pss_one (ps_ret (pe_and (pe_callB call_isi (by rfl) T.isi PyProof.Rows.boot_isinstance (pa_cons (pv 0) (pa_cons (pe_bltn (v := .ty "int") (u := .type "int") (by rfl) T.int (by decide +kernel) rfl) pa_nil)))
      (pe_one (pe_not (pe_callB call_isi (by rfl) T.isi PyProof.Rows.boot_isinstance (pa_cons (pv 0) (pa_cons (pe_bltn (v := .ty "bool") (u := .type "bool") (by rfl) T.bool (by decide +kernel) rfl) pa_nil))))))), ?_⟩
    refine ⟨_, rfl, v, .ty "int", _, _, _, rfl, .ty _, hd.ty, isi_int K d, _, rfl, ?_⟩
    cases d with
    | int j =>
      cases hd
      exact ifT rfl ⟨_, rfl, .int j, .ty "bool", _, _, _, rfl, .ty _, .base (.int j), isi_bool K (.int j), _, rfl, q⟩
    | bool j =>
      cases hd
      exact ifT rfl ⟨_, rfl, .bl j, .ty "bool", _, _, _, rfl, .ty _, .base (.bl j), isi_bool K (.bool j), _, rfl, q⟩
    | _ => exact ifF rfl q
def lowB (c : Nat) : Bool := decide (97 ≤ c) && decide (c ≤ 122)
theorem lowB_alpha (c : Nat) : decide (c ∈ alpha.cps.toList) = lowB c := by
  rw [alpha_list, Bool.eq_iff_iff]
  simp only [decide_eq_true_eq, lowB, Bool.and_eq_true, List.mem_cons, List.mem_nil_iff, or_false]
  omega
theorem low_alpha : ∀ c, c < 128 → lowB c = true → Unicode.isAlpha c = true := by decide +kernel
theorem low_lower : ∀ c, c < 128 → lowB c = true → Unicode.isLower c = true := by decide +kernel
theorem low_upper : ∀ c, c < 128 → lowB c = true → (Unicode.isUpper c || Unicode.isTitle c) = false := by decide +kernel
theorem alpha_low : ∀ c, c < 128 → Unicode.isAlpha c = true → (Unicode.isUpper c || Unicode.isTitle c) = false → lowB c = true := by decide +kernel
theorem low_all (z : Str) : (Txt.isascii z && (Txt.isalpha z && Txt.islower z)) = (decide (1 ≤ z.length) && z.cps.toList.all lowB) := by
  have e1 : Txt.isascii z = z.cps.toList.all (fun c => decide (c < 128)) := by unfold Txt.isascii; rw [← Array.all_toList]
  have e2 : Txt.isalpha z = (decide (1 ≤ z.length) && z.cps.toList.all Unicode.isAlpha) := by unfold Txt.isalpha; rw [← Array.all_toList]; rfl
  have e3 : Txt.islower z = (z.cps.toList.any Unicode.isLower && !z.cps.toList.any fun c => Unicode.isUpper c || Unicode.isTitle c) := by unfold Txt.islower; rw [← Array.any_toList, ← Array.any_toList]
  have ln : z.length = z.cps.toList.length := by rw [Array.length_toList]; rfl
  rw [e1, e2, e3, ln]
  generalize z.cps.toList = l
  rw [Bool.eq_iff_iff]
  constructor
  · intro h
    simp only [Bool.and_eq_true, List.all_eq_true, Bool.not_eq_true', decide_eq_true_eq] at h ⊢
    obtain ⟨ha, ⟨h1, hb⟩, _, hu⟩ := h
    refine ⟨h1, fun c hc => alpha_low c (ha c hc) (hb c hc) ?_⟩
    cases hx : (Unicode.isUpper c || Unicode.isTitle c) with
    | false => rfl
    | true =>
      have : (l.any fun c => Unicode.isUpper c || Unicode.isTitle c) = true := List.any_eq_true.mpr ⟨c, hc, hx⟩
      rw [this] at hu
      cases hu
  · intro h
    simp only [Bool.and_eq_true, List.all_eq_true, Bool.not_eq_true', decide_eq_true_eq] at h ⊢
    obtain ⟨h1, hl⟩ := h
    have lt : ∀ c ∈ l, c < 128 := fun c hc => by
      have := hl c hc
      simp only [lowB, Bool.and_eq_true, decide_eq_true_eq] at this
      omega
    refine ⟨lt, ⟨h1, fun c hc => low_alpha c (lt c hc) (hl c hc)⟩, ?_, ?_⟩
    · match l, h1 with
      | c :: r, _ => exact List.any_eq_true.mpr ⟨c, List.mem_cons_self, low_lower c (lt c List.mem_cons_self) (hl c List.mem_cons_self)⟩
    · rw [List.any_eq_false]
      intro c hc
      rw [low_upper c (lt c hc) (hl c hc)]
      decide
abbrev NPn : List Str := ["thing"]
theorem scPn : FnScope NPn ["thing"] (defScope sPName) := ⟨rfl, rfl, rfl, by decide +kernel, rfl, by decide +kernel, by decide +kernel⟩
theorem ok_pname {f : Addr} {fd : FuncData} (F : Fun K "is_name" "is_name" sPName f fd) (T : TxtP mg fI fN fS fA fG) : FnOk P w K mg base CX0 1 f fd ["thing"] (spName K) := by
  refine F.ok scPn (fun vs H Q E h => ?_) (fun cdv A outer s H vs Q E hr h => ?_)
  · obtain ⟨m, l, v, d, rfl, _⟩ := h
    rfl
  · obtain ⟨m, l, v, d, rfl, hd, hz, q⟩ := h
    obtain ⟨tl, gl⟩ := T.lN
    refine ⟨_, pss_cons (ps_if (PW.pt (pw_or (pt_not (pt_val (pe_callB call_isi (by rfl) T.isi PyProof.Rows.boot_isinstance (pa_cons (pv 0) (pa_cons (pe_bltn (v := .ty "str") (u := .type "str") (by rfl) T.str (by decide +kernel) rfl) pa_nil)))))
        (pw_or1 (pt_cmpR op_gt (pe_callB call_len (by rfl) T.len PySem.boot_len (pa_cons (pv 0) pa_nil)) (pe_glob (v := .int 8) rfl gl ⟨_, rfl⟩) (nomark _))))) (pss_one (ps_ret pe_bl)) pss_nil)
      (pss_one (ps_ret (pe_and (pe_m0 PySem.F.slot_str_isascii PySem.F.type_str_isascii mt_isascii (pv 0)) (pe_and (pe_m0 PySem.F.slot_str_isalpha PySem.F.type_str_isalpha mt_isalpha (pv 0)) (pe_one (pe_m0 PySem.F.slot_str_islower PySem.F.type_str_islower mt_islower (pv 0))))))), ?_⟩
    refine ⟨_, rfl, v, .ty "str", _, _, _, rfl, .ty _, hd.ty, isi_str K d, _, rfl, ?_⟩
    cases d with
    | str z =>
      cases hd
      have zk := hz z rfl
      have zs : z.length ≤ sizeLine := by rw [sizeLine_eq]; have := zk.1; omega
      have en : isName (.str z) = (decide (z.length ≤ 8) && (Txt.isascii z && (Txt.isalpha z && Txt.islower z))) := by
        rw [low_all]
        show ((decide (1 ≤ z.length) && decide (z.length ≤ 8)) && z.cps.toList.all fun c => decide (c ∈ alpha.cps.toList)) = _
        have ef : (fun c => decide (c ∈ alpha.cps.toList)) = lowB := funext lowB_alpha
        rw [ef]
        cases decide (1 ≤ z.length) <;> cases decide (z.length ≤ 8) <;> rfl
      refine ifF rfl ?_
      refine ⟨_, rfl, .str z, z.length, rfl, ⟨zs, rfl⟩, (z.length : Int), 8, rfl, rfl, _, rfl, ite_b (fun e8 => ?_) (fun e8 => ?_)⟩
      · have : decide (z.length ≤ 8) = false := by
          have := of_decide_eq_true e8
          exact decide_eq_false (by omega)
        rw [en, this] at q
        exact q H (fun _ _ e => e)
      · have : decide (z.length ≤ 8) = true := by
          have := of_decide_eq_false e8
          exact decide_eq_true (by omega)
        rw [en, this, Bool.true_and] at q
        refine ⟨_, rfl, ⟨_, rfl⟩, z, rfl, rfl, trivial, _, rfl, ite_b (fun ea => ?_) (fun ea => ?_)⟩
        · rw [ea, Bool.true_and] at q
          refine ⟨_, rfl, ⟨_, rfl⟩, z, rfl, rfl, trivial, _, rfl, ite_b (fun eb => ?_) (fun eb => ?_)⟩
          · rw [eb, Bool.true_and] at q
            exact ⟨_, rfl, ⟨_, rfl⟩, z, rfl, rfl, trivial, q H (fun _ _ e => e)⟩
          · rw [eb] at q
            exact q H (fun _ _ e => e)
        · rw [ea] at q
          exact q H (fun _ _ e => e)
    | _ => exact ifT rfl (ifT rfl (q H (fun _ _ e => e)))
/-! is_setting -/
abbrev NPs : List Str := ["thing", "name", "most"]
theorem scPs : FnScope NPs ["thing"] (defScope sPSet) := ⟨rfl, rfl, rfl, by decide +kernel, rfl, by decide +kernel, by decide +kernel⟩
theorem isWhole_int (d : PyData) (lo hi : Int) (h : isInt d = false) : isWhole d lo hi = false := by cases d <;> first | rfl | cases h
def spPSet (K : PySem.W.Frag) : Sp := fun vs H Q _ => ∃ (m l : Addr) (v : V) (d : PyData) (B b : Nat), vs = [v] ∧ Dq K H m l v d ∧ Gd B 100000 b d ∧ ∀ H', Same H H' → Q (.bl (oneD d).isSome) H'
theorem ok_pset {f : Addr} {fd fdI fdN : FuncData} (F : Fun K "is_setting" "is_setting" sPSet f fd) (T : TxtP mg fI fN fS fA fG) (FI : Fun K "is_int" "is_int" sPInt fI fdI) (bI : Binds K fdI ["thing"] [])
    (FN : Fun K "is_name" "is_name" sPName fN fdN) (bN : Binds K fdN ["thing"] []) : FnOk P w K mg base CX0 2 f fd ["thing"] (spPSet K) := by
  have GI : FnOk P w K mg base CX0 1 fI fdI ["thing"] (spPInt K) := ok_pint FI T
  have GN : FnOk P w K mg base CX0 1 fN fdN ["thing"] (spName K) := ok_pname FN T
  refine F.ok scPs (fun vs H Q E h => ?_) (fun cdv A outer s H vs Q E hr h => ?_)
  · obtain ⟨m, l, v, d, B, b, rfl, _⟩ := h
    rfl
  · obtain ⟨m, l, v, d, B, b, rfl, hd, gd, q⟩ := h
    obtain ⟨tv, gv⟩ := T.mV
    refine ⟨_, pss_cons (ps_if (PW.pt (pw_or (pt_not (pt_val (pe_callB call_isi (by rfl) T.isi PyProof.Rows.boot_isinstance (pa_cons (pv 0) (pa_cons (pe_bltn (v := .ty "tuple") (u := .type "tuple") (by rfl) T.tuple (by decide +kernel) rfl) pa_nil)))))
        (pw_or1 (pt_cmpR op_ne (pe_callB call_len (by rfl) T.len PySem.boot_len (pa_cons (pv 0) pa_nil)) pe_int (nomark _))))) (pss_one (ps_ret pe_bl)) pss_nil)
      (pss_cons (ps_asg (pv 0) (pg_tup rfl (pgs_cons (pg_name (i := 1) scPs.nd rfl (Or.inl rfl)) (pgs_cons (pg_name (i := 2) scPs.nd rfl (Or.inl rfl)) pgs_nil))))
      (pss_one (ps_ret (pe_and (pe_call GN hr rfl T.gN FN.kp bN .nil pass0 (pa_cons (pv 1) pa_nil)) (pe_and (pe_call GI hr rfl T.gI FI.kp bI .nil pass0 (pa_cons (pv 2) pa_nil)) (pe_one (pe_chain op_le op_le pe_int (pv 2) (pe_glob (v := .int 3) rfl gv ⟨_, rfl⟩)))))))), ?_⟩
    refine ⟨_, rfl, v, .ty "tuple", _, _, _, rfl, .ty _, hd.ty, isi_tup K d, _, rfl, ?_⟩
    cases d with
    | tuple es =>
      cases hd with
      | tup hq hy =>
        rename_i a ys
        have ly := hy.len
        refine ifF rfl ⟨_, rfl, .ref a, ys.length, rfl, .inr ⟨ys, hq, rfl⟩, rfl, _, rfl, ite_b (fun e => ?_) (fun e => ?_)⟩
        · have : oneD (.tuple es) = none := oneD_len (fun z => by
            rw [ly, z] at e
            exact absurd e (by decide))
          rw [this] at q
          exact q H (Same.refl H)
        have l2 : ys.length = 2 := by
          have q1 : decide (V.int ((ys.length : Nat) : Int) = V.int 2) = true := by simpa using e
          have q2 := of_decide_eq_true q1
          have q3 : ((ys.length : Nat) : Int) = 2 := by injection q2
          omega
        obtain ⟨y0, y1, rfl⟩ : ∃ y0 y1, ys = [y0, y1] := by
          match ys, l2 with
          | [y0, y1], _ => exact ⟨y0, y1, rfl⟩
        obtain ⟨d0, d1, rfl⟩ : ∃ d0 d1, es = [d0, d1] := by
          match es, ly with
          | [d0, d1], _ => exact ⟨d0, d1, rfl⟩
        obtain ⟨q0, q1⟩ : Dq K H m l y0 d0 ∧ Dq K H m l y1 d1 := by
          cases hy with
          | cons h0 h1 => cases h1 with | cons h1 _ => exact ⟨h0, h1⟩
        obtain ⟨c2, eb2, g2⟩ := Gd.untup gd
        have w0 : ∀ z, d0 = .str z → sOk 100000 z := fun z ez => by
          have gz := g2.at (i := 0) (d := d0) rfl
          rw [ez] at gz
          have ww := g2.wt
          refine gz.unstr.mono ?_
          rw [ez] at ww
          simp only [PyData.weightAll, PyData.weight] at ww ⊢
          omega
        refine ⟨_, rfl, a, _, rfl, hq, rfl, _, _, rfl, _, _, rfl, rfl, ?_⟩
        refine ⟨_, rfl, m, l, y0, d0, rfl, q0, w0, fun H3 s3 => ⟨_, rfl, ite_b (fun e => ?_) (fun e => ?_)⟩⟩
        · have hn : isName d0 = true := e
          refine ⟨_, rfl, m, l, y1, d1, rfl, Dq.same s3 d1 y1 q1, _, rfl, ite_b (fun e => ?_) (fun e => ?_)⟩
          · obtain ⟨j, rfl⟩ : ∃ j, d1 = .int j := by
              cases d1 <;> first | exact ⟨_, rfl⟩ | cases e
            cases q1
            refine ⟨_, rfl, 1, j, rfl, rfl, _, rfl, ite_b (fun e => ⟨j, 3, rfl, rfl, ?_⟩) (fun e => ?_)⟩
            · have ew : (oneD (.tuple [d0, .int j])).isSome = decide (j ≤ 3) := by
                cases hw : isWhole (.int j) 1 3 with
                | true =>
                  obtain ⟨z, c, _, ec, c1, c3, eo⟩ := oneD_ok hn hw
                  cases ec
                  rw [eo]; simp [c3]
                | false =>
                  rw [oneD_whole hw]
                  have z : (decide (1 ≤ j) && decide (j ≤ 3)) = false := hw
                  rw [e, Bool.true_and] at z
                  rw [z]; rfl
              rw [ew] at q
              exact q _ s3
            · have hw : isWhole (.int j) 1 3 = false := by show (decide (1 ≤ j) && decide (j ≤ 3)) = false; rw [e]; rfl
              rw [oneD_whole hw] at q
              exact q _ s3
          · rw [oneD_whole (isWhole_int d1 1 3 e)] at q
            exact q _ s3
        · rw [oneD_name e] at q
          exact q _ s3
    | _ => exact ifT rfl (q H (Same.refl H))
/-! names_of -/
abbrev NPa : List Str := ["settings", "name", "most"]
theorem scPa : FnScope NPa ["settings"] (defScope sPNames) := ⟨rfl, rfl, rfl, by decide +kernel, rfl, by decide +kernel, by decide +kernel⟩
def spPNames (K : PySem.W.Frag) : Sp := fun vs H Q _ => ∃ (a : Addr) (xs : List V) (qs : List (Str × Int)), vs = [.ref a] ∧ SqT K H a xs ∧ PrTs K H xs qs ∧ qs.length ≤ 900 ∧
  ∀ D, H D = none → ∀ H', Same H H' → H' D = some (.lst ((qs.map (·.1)).map V.str)) → Q (.ref D) H'
theorem ok_pnames {f : Addr} {fd : FuncData} (F : Fun K "names_of" "names_of" sPNames f fd) : FnOk P w K mg base CX0 1 f fd ["settings"] (spPNames K) := by
  refine F.ok scPa (fun vs H Q E h => ?_) (fun cdv A outer s H vs Q E hr h => ?_)
  · obtain ⟨a, xs, qs, rfl, _⟩ := h
    rfl
  · obtain ⟨a, xs, qs, rfl, hs, hp, hl, q⟩ := h
    refine ⟨_, pss_one (ps_ret (pe_lc (own := [("name", 1), ("most", 2)]) (g := gTup K 2 (gCons (gName 1) (gCons (gName 2) gNil))) (by rfl) scPa.nd (pi_tup (pv 0)) (blkOk_by (own := [("name", 1), ("most", 2)]) (N := NPa) (sc := defScope sPNames) (by decide +kernel))
        (fun _ _ _ _ _ => pg_tup rfl (pgs_cons (pg_name (i := 1) scPa.nd rfl (Or.inl rfl)) (pgs_cons (pg_name (i := 2) scPa.nd rfl (Or.inl rfl)) pgs_nil))) (fun _ _ _ _ _ => pts_nil) (fun _ _ _ _ _ => pv 1))), ?_⟩
    have ll := hp.len
    refine ⟨_, rfl, a, rfl, ⟨_, hs⟩, fun D hD => ?_⟩
    refine lc_it (walk_tup (xs := xs)) (fun i H3 => H3 = upd H D (.lst (((qs.take i).map (·.1)).map V.str))) rfl (fun i H3 _ e3 => by rw [e3]; exact Same.seqT (Same.upd hD) hs) ?_ ?_
    · rintro i x H3 H4 hi e3 ⟨rfl, hx⟩
      obtain ⟨qq, hq, b, rfl, hb⟩ := hp.get hx
      have hb3 : SqT K H4 b [.str qq.1, .int qq.2] := by rw [e3]; exact Same.seqT (Same.upd hD) hb
      have ti : qs.take (i + 1) = qs.take i ++ [qq] := by rw [List.take_succ, hq]; rfl
      refine ⟨b, _, rfl, hb3, rfl, _, _, rfl, _, _, rfl, rfl, rfl, tyes ⟨_, rfl, _, by rw [e3]; exact upd_same, small1000 (by rw [List.length_map, List.length_map, List.length_take]; omega), ?_⟩⟩
      show upd H4 D _ = _
      rw [e3, upd_upd, ti, List.map_append, List.map_append]
      rfl
    · rintro H3 e3
      rw [List.take_of_length_le (by omega)] at e3
      exact q D hD H3 (e3 ▸ Same.upd hD) (by rw [e3, upd_same])
/-! grid_of -/
abbrev NPg : List Str := ["settings", "rows", "name", "most", "row", "value"]
theorem scPg : FnScope NPg ["settings"] (defScope sPGrid) := ⟨rfl, rfl, rfl, by decide +kernel, rfl, by decide +kernel, by decide +kernel⟩
def spPGrid (K : PySem.W.Frag) : Sp := fun vs H Q _ => ∃ (a : Addr) (xs : List V) (qs : List (Str × Int)), vs = [.ref a] ∧ SqT K H a xs ∧ PrTs K H xs qs ∧ qs.length ≤ 3 ∧ (∀ q ∈ qs, 1 ≤ q.2 ∧ q.2 ≤ 3) ∧
  ∀ D as H', H D = none → Same H H' → H' D = some (.lst (as.map V.ref)) → Rws H' as (grid qs) → (∀ b ∈ as, H b = none) → Q (.ref D) H'
theorem fold_row {k : Nat} : ∀ (qs : List (Str × Int)) (rs : List (List Int)) (k : Nat), (∀ r ∈ rs, r.length = k) → ∀ r ∈ qs.foldl (fun rs q => widen rs (q.2 + 1).toNat) rs, r.length = k + qs.length
  | [], rs, k, h => fun r hr => h r hr
  | q :: qs, rs, k, h => fun r hr => by
    have z := fold_row (k := k) qs (widen rs (q.2 + 1).toNat) (k + 1) (fun r hr => by
      unfold widen at hr
      obtain ⟨y, hy, hr⟩ := List.mem_flatMap.mp hr
      obtain ⟨v, _, rfl⟩ := List.mem_map.mp hr
      rw [List.length_append, h y hy]; rfl) r hr
    rw [z, List.length_cons]; omega
theorem grid_row (qs : List (Str × Int)) : ∀ r ∈ grid qs, r.length = qs.length := fun r hr => by
  have z := fold_row (k := 0) qs [[]] 0 (fun r hr => by rw [List.mem_singleton.mp hr]; rfl) r hr
  rw [z]; omega
structure Acc (H0 H1 H : Hp) (D : Addr) (as : List Addr) (rs : List (List Int)) : Prop where
  rws : Rws H as rs
  far : ∀ b ∈ as, b ≠ D ∧ H0 b = none
  at_ : H D = some (.lst (as.map V.ref))
  same : Same H1 H
theorem Acc.more {H0 H1 H : Hp} {D p : Addr} {as : List Addr} {rs : List (List Int)} {r : List Int} (A : Acc H0 H1 H D as rs) (s : Same H0 H1) (hD : H1 D = none) (hp : H p = none) :
    Acc H0 H1 (upd (upd H p (.tup (r.map V.int))) D (.lst (as.map V.ref ++ [.ref p]))) D (as ++ [p]) (rs ++ [r]) := by
  have nD : p ≠ D := fun e => by rw [e, A.at_] at hp; cases hp
  have sp : Same H (upd H p (.tup (r.map V.int))) := Same.upd hp
  refine ⟨Rws.snoc (Rws.same (fun b o hb e => ?_) A.rws) ?_, fun b hb => ?_, ?_, fun b o e => ?_⟩
  · rw [upd_ne (A.far b hb).1]; exact sp _ _ e
  · rw [upd_ne nD, upd_same]
  · rcases List.mem_append.mp hb with hb | hb
    · exact A.far b hb
    · rw [List.mem_singleton.mp hb]
      exact ⟨nD, Same.free s (Same.free A.same hp)⟩
  · rw [upd_same, List.map_append]; rfl
  · have nb : b ≠ D := ne_of_none e hD
    rw [upd_ne nb]; exact sp _ _ (A.same _ _ e)
theorem widen_take {rs : List (List Int)} {n i : Nat} {r : List Int} (h : rs[i]? = some r) : widen (rs.take (i + 1)) n = widen (rs.take i) n ++ (List.range n).map fun (v : Nat) => r ++ [(v : Int)] := by
  unfold widen
  rw [List.take_succ, h, List.flatMap_append]
  simp
theorem range_more {n : Nat} {r : List Int} : ((List.range (n + 1)).map fun (v : Nat) => r ++ [(v : Int)]) = ((List.range n).map fun (v : Nat) => r ++ [(v : Int)]) ++ [r ++ [(n : Int)]] := by
  rw [List.range_succ, List.map_append]; rfl
theorem ok_pgrid {f : Addr} {fd : FuncData} (F : Fun K "grid_of" "grid_of" sPGrid f fd) (T : TxtP mg fI fN fS fA fG) : FnOk P w K mg base CX0 1 f fd ["settings"] (spPGrid K) := by
  refine F.ok scPg (fun vs H Q E h => ?_) (fun cdv A outer s H vs Q E hr h => ?_)
  · obtain ⟨a, xs, qs, rfl, _⟩ := h
    rfl
  · obtain ⟨a, xs, qs, rfl, hs, hp, hl, hb, q⟩ := h
    refine ⟨_, pss_cons (ps_set (i := 1) scPg.nd rfl (by first | exact Or.inl rfl | exact Or.inr rfl) (pe_lst (pa_cons (pe_tup pa_nil) pa_nil)))
      (pss_cons (ps_for PassesOwn.never rfl (pi_tup (pv 0)) (pg_tup rfl (pgs_cons (pg_name (i := 2) scPg.nd rfl (by first | exact Or.inl rfl | exact Or.inr rfl)) (pgs_cons (pg_name (i := 3) scPg.nd rfl (by first | exact Or.inl rfl | exact Or.inr rfl)) pgs_nil)))
        (pss_one (ps_setLc2 (i := 1) (own := [("row", 4), ("value", 5)]) (vs1 := [5]) (g := gName 4) (g1 := gName 5) (tt := tYes) (tt1 := tYes) (te := tTup (StX.tStar K (tVar 4) (tCons (tVar 5) tNil))) (by rfl) scPg.nd rfl rfl (sw_true rfl rfl rfl (by decide +kernel)) (pi_list (pv 1)) (blkOk_by (own := [("row", 4), ("value", 5)]) (N := NPg) (sc := defScope sPGrid) (by decide +kernel)) (by decide)
          (fun _ _ _ _ _ => pg_name (i := 4) scPg.nd rfl (by first | exact Or.inl rfl | exact Or.inr rfl)) (fun _ _ _ _ _ => pts_nil) (fun _ _ _ _ _ => pi_range1 (by rfl) T.range (pa_cons (pe_op op_add (pv 3) pe_int) pa_nil))
          (fun _ _ _ _ _ => pg_name (i := 5) scPg.nd rfl (by first | exact Or.inl rfl | exact Or.inr rfl)) (fun _ _ _ _ _ => pts_nil) (fun _ _ _ _ _ => pe_tup (StX.pa_star (pv 4) (pa_cons (pv 5) pa_nil))))))
      (pss_one (ps_ret (pv 1)))), ?_⟩
    have ll := hp.len
    refine ⟨Nat.zero_le _, fun p0 h0 => ⟨(by show 1 ≤ sizeLine; decide), fun R0 hR0 => ?_⟩⟩
    have s0 : Same H (upd H p0 (.tup [])) := Same.upd h0
    have s1 : Same H (upd (upd H p0 (.tup [])) R0 (.lst [.ref p0])) := s0.trans (Same.upd hR0)
    have nR0 : p0 ≠ R0 := fun e => by rw [← e, upd_same] at hR0; cases hR0
    refine ⟨_, rfl, a, rfl, ⟨_, Same.seqT s1 hs⟩, ?_⟩
    have tk1 : ∀ {i : Nat} {qq : Str × Int}, qs[i]? = some qq → grid (qs.take (i + 1)) = widen (grid (qs.take i)) (qq.2 + 1).toNat := fun {i qq} hq => by
      unfold grid
      rw [List.take_succ, hq, List.foldl_append]
      rfl
    refine for_it (walk_tup (xs := xs)) (fun i σ H2 => ∃ (R : Addr) (as : List Addr) (v2 v3 : Option V), σ = [some (.ref a), some (.ref R), v2, v3, none, none] ∧ Same H H2 ∧ H R = none ∧ H2 R = some (.lst (as.map V.ref)) ∧ Rws H2 as (grid (qs.take i)) ∧ (∀ b ∈ as, H b = none) ∧ as.length ≤ 4 ^ i)
      ⟨R0, [p0], none, none, rfl, s1, Same.free s0 hR0, upd_same, ?_, ?_, Nat.le_refl _⟩ (fun i σ H2 _ ⟨R, as, v2, v3, _, s2, _⟩ => Same.seqT s2 hs) ?_ ?_
    · rw [List.take_zero]
      refine .cons ?_ .nil
      rw [upd_ne nR0, upd_same]; rfl
    · intro b hb
      rw [List.mem_singleton.mp hb]; exact h0
    · rintro i x σ H2 H3 hi ⟨R, as, v2, v3, rfl, s2, hR, gR, rw2, far, al⟩ ⟨rfl, hx⟩
      obtain ⟨qq, hq, b, rfl, hb2⟩ := hp.get hx
      have hqb := hb qq (List.mem_of_getElem? hq)
      have i3 : i < 3 := by omega
      have a16 : as.length ≤ 16 := Nat.le_trans al (by
        match i, i3 with
        | 0, _ => decide
        | 1, _ => decide
        | 2, _ => decide)
      have rl := rw2.length
      obtain ⟨rs, ers⟩ : ∃ rs, rs = grid (qs.take i) := ⟨_, rfl⟩
      rw [← ers] at rw2 rl
      obtain ⟨n, en⟩ : ∃ n : Nat, n = (qq.2 + 1).toNat := ⟨_, rfl⟩
      have n4 : n ≤ 4 := by omega
      refine ⟨b, _, rfl, Same.seqT s2 hb2, rfl, _, _, rfl, _, _, rfl, rfl, ?_⟩
      refine ⟨_, rfl, R, rfl, ⟨_, SqL.of gR⟩, fun D hD => ?_⟩
      have sD : Same H3 (upd H3 D (.lst [])) := Same.upd hD
      refine lc2_it (walk_list (xs := as.map V.ref)) (fun k H4 => ∃ as', Acc H H3 H4 D as' (widen (rs.take k) n)) ⟨[], .nil, (fun b hb => nomatch hb), upd_same, sD⟩ (fun k H4 _ ⟨as', A⟩ => SqL.of (A.same _ _ gR)) ?_ ?_
      · rintro k x H4 H5 hk ⟨as', A⟩ ⟨rfl, hxk⟩
        have hk' : k < as.length := by rw [List.length_map] at hk; exact hk
        obtain ⟨bk, hbk⟩ : ∃ bk, as[k]? = some bk := ⟨_, List.getElem?_eq_getElem hk'⟩
        have ex : x = .ref bk := by
          rw [List.getElem?_map, hbk] at hxk
          exact (Option.some.inj hxk).symm
        subst ex
        obtain ⟨r, hr2, gk⟩ := rw2.get hbk
        refine ⟨rfl, tyes ⟨_, rfl, _, _, rfl, rfl, qq.2 + 1, rfl, by omega, by omega, ?_⟩⟩
        rw [← en]
        refine lc_in walk_range (fun j H6 => ∃ as2, Acc H H3 H6 D as2 (widen (rs.take k) n ++ (List.range j).map fun (v : Nat) => r ++ [(v : Int)])) ⟨as', by simpa using A⟩ (fun _ _ _ _ => True.intro) ?_ ?_
        · rintro j y H6 H7 hj ⟨as2, A2⟩ ⟨rfl, ey⟩
          have ey' : y = .int (j : Int) := ey.trans (congrArg V.int (by omega))
          subst ey'
          have rlen : r.length ≤ 900 := by
            have z := grid_row (qs.take i) r (ers ▸ List.mem_of_getElem? hr2)
            rw [z, List.length_take]; omega
          have al2 : as2.length ≤ 100 := by
            rw [A2.rws.length, List.length_append, List.length_map, List.length_range, widen_len]
            have h1 : (rs.take k).length ≤ 16 := by rw [List.length_take]; omega
            have h2 := Nat.mul_le_mul h1 n4
            omega
          refine ⟨rfl, tyes ⟨_, rfl, bk, _, rfl, .inl (.inl (.inl (A2.same _ _ gk))), _, rfl, ?_, fun p hp7 => ?_⟩⟩
          · rw [List.length_append, List.length_map, List.length_singleton]
            exact Nat.le_of_lt (small1000 (by omega))
          have nD : D ≠ p := ne_of_none A2.at_ hp7
          have er : (r.map V.int ++ [.int (j : Int)] : List V) = (r ++ [(j : Int)]).map V.int := by rw [List.map_append]; rfl
          rw [er]
          refine ⟨_, by rw [upd_ne nD]; exact A2.at_, small1000 (by rw [List.length_map]; omega), as2 ++ [p], ?_⟩
          rw [range_more, ← List.append_assoc]
          exact A2.more s2 hD hp7
        · rintro H6 ⟨as2, A2⟩
          rw [← widen_take hr2] at A2
          exact ⟨as2, A2⟩
      · rintro H4 ⟨as', A⟩
        rw [List.length_map, List.take_of_length_le (by omega)] at A
        have l1 := A.rws.length
        refine ⟨D, as', _, _, rfl, s2.trans A.same, Same.free s2 hD, A.at_, ?_, fun b hb => (A.far b hb).2, ?_⟩
        · rw [tk1 hq, ← ers, ← en]; exact A.rws
        · rw [l1, widen_len, Nat.pow_succ, ← rl]
          exact Nat.mul_le_mul al n4
    · rintro σ H2 ⟨R, as, v2, v3, rfl, s2, hR, gR, rw2, far, al⟩
      rw [List.take_of_length_le (by omega)] at rw2
      exact ⟨_, rfl, q R as H2 hR s2 gR rw2 far⟩
end
end Ms
namespace Ms
open PySem PySem.Spec PyProof.Rows L2 LamX
/-! ### a law's own def that makes lambdas: its table of code objects is told -/
section
variable {P : Program} {w : World} {K : PySem.W.Frag} {mg : Str → Option Value} {base : Heap}
/-- as run_known, and the code object is told -/
theorem run_code {x qual : Str} {st : Stmt} {f : Addr} {fd : FuncData} {N ps : List Str} {k : Nat} (F : Fun K x qual st f fd) (S : FnScope N ps (defScope st))
    {A : Around} {outer : List Env} {s : Shared} {H : Hp} {args : Args} {us : List Value} {vs : List V} {Q : VK} {E : XK}
    (gA : A.guards = some []) (rm : Room (k + 1) A) (st0 : Env0 P w K mg base A outer s H) (bd : BindsTo s fd args (ps.zip us)) (rel : Vals vs us) (ln : vs.length = ps.length)
    (walk : ∀ cdv : Value, fd.code = cdv → Room k (A.deeper (envOfC qual (defScope st) s.heap.objs.size f cdv)) →
      ∃ t, PSs (cxOf CX0 P w K mg base N qual (defScope st) f cdv A outer s H E).nox (defBody st) t ∧ t { nx := fun _ H' => Q .non H', rt := Q } (start N vs) H) :
    codeAny (model P w) A (.call (.ref f) args) (CR CX0 outer P w H s Q E) s := by
  obtain ⟨oc, od, kV, doc, pm, an, cdv0, ct, osl, efd, atK, code⟩ := F.ex
  have ec : fd.code = cdv0 := by rw [efd]
  subst efd
  have inH : K.In s.heap := st0.mod.kin.keeps fun b o q => (st0.bs b o q).1
  have noLim : s.heap.NoLimit := st0.mod.nolimit.keeps fun b o q => (st0.bs b o q).1
  have kinds : ∀ y ∈ ps.zip us, (defScope st).names.lookup y.1 = some .local ∨ ((defScope st).names.lookup y.1 = some .cell ∧ ((cellsFrom (s.heap.objs.size + 1) (defScope st).names []).lookup y.1).isSome = true) := by
    rintro ⟨n, v⟩ hy
    rcases S.par n (List.of_mem_zip hy).1 with z | z
    · exact Or.inl z
    · exact Or.inr ⟨z, PySem.W.cellsFrom_some _ _ _ (.inl z)⟩
  refine codeAny_call_function rm.depth (inH _ _ atK) rfl S.co S.gen rfl (PySem.W.codeRec_of inH code) (bd _ _ _ _ ?_)
  refine wpAny_newFunctionEnv_cells S.kind kinds fun env eq s1 inC => ?_
  subst eq
  refine And.intro (noLim.keeps inC.toInCall.keep) (codeAny_func ?_)
  obtain ⟨t, derives, reads⟩ := walk cdv0 ec (rm.deeper _)
  have I := inv_start (CX := CX0) (P := P) (mg := mg) (base := base) (E := E) S rm.hd st0 ln rel inC
  refine wpAny_mono (derives.nox.run [] s1 (start N vs) H _ I reads) (fun fl s' hs => ?_) fun e s' hs => hs
  cases fl with
  | ret u =>
    obtain ⟨v, σ', H', J, rv, q⟩ := hs
    exact ⟨v, H', J.os, J.bare, J.base, J.hok, rv, q⟩
  | next =>
    obtain ⟨σ', H', J, q⟩ := hs
    exact ⟨V.non, H', J.os, J.bare, J.base, J.hok, rfl, q⟩
  | brk => obtain ⟨_, _, _, q⟩ := hs; exact q.elim
  | cont => obtain ⟨_, _, _, q⟩ := hs; exact q.elim

/-- as LawRun; c the law's code object, T its table, empty as yet -/
def LawRunT (P : Program) (w : World) (K : PySem.W.Frag) (mg : Str → Option Value) (fa c T : Addr) : Prop :=
  ∀ (base : Heap) (H : Hp) (s : Shared) (a : Addr) (ns : List Int), K.In base → base.Ns mainGlobals mg → TabB base mg c T → H T = some (.tbl #[]) → SqL K H a (ns.map V.int) → ns.length ≤ 63 → Env0 P w K mg base callerA [] s H →
    codeAny (model P w) callerA (.call (.ref fa) ⟨[.ref a], []⟩) (CR CX0 [] P w H s (fun v _ => v = .bl true) fun _ _ _ => False) s
/-- the script and the table stand alone in the heap that is told -/
structure AloneT (H : Hp) (h : Heap) (K : PySem.W.Frag) (a T : Addr) : Prop where
  only : ∀ b, H b = none ∨ b = T ∨ ∃ ob xs, H b = some (.frz ob (.lst xs))
  here : ∀ b, H b ≠ none → b = a ∨ b = T
  off : H a ≠ none → K.lookup a = none
  offT : K.lookup T = none
  tab : h.get? T = some { cls := .none, data := .fields #[] }
  told : H T = some (.tbl #[])
section
variable {H : Hp} {h : Heap} {a c T : Addr} {vs : Array Value}
theorem AloneT.hidden (x : AloneT H h K a T) (ea : h.get? a = some { cls := .type "list", data := .seq vs }) {b : Addr} {o : Obj} (e : h.get? b = some o) (d1 : o.data ≠ .seq vs) (d2 : o.data ≠ .fields #[]) : H b = none := by
  cases q : H b with
  | none => rfl
  | some u =>
    rcases x.here b (by rw [q]; exact fun z => nomatch z) with z | z
    · subst z
      rw [ea] at e
      cases e
      exact absurd rfl d1
    · subst z
      rw [x.tab] at e
      cases e
      exact absurd rfl d2
theorem AloneT.get (x : AloneT H h K a T) (ea : h.get? a = some { cls := .type "list", data := .seq vs }) {b : Addr} {o : Obj} (e : h.get? b = some o) (d1 : o.data ≠ .seq vs) (d2 : o.data ≠ .fields #[]) : (hidT h H).get? b = some o := hidT_get e (x.hidden ea e d1 d2)
theorem AloneT.ns (x : AloneT H h K a T) (ea : h.get? a = some { cls := .type "list", data := .seq vs }) {b : Addr} {m : Str → Option Value} (n : h.Ns b m) : (hidT h H).Ns b m := by
  obtain ⟨o, es, ep, e, d, r⟩ := n
  refine ⟨o, es, ep, x.get ea e ?_ ?_, d, r⟩ <;> (rw [d]; intro z; cases z)
theorem AloneT.kin (x : AloneT H h K a T) (X : K.In h) : K.In (hidT h H) := fun b o e => by
  refine hidT_get (X b o e) ?_
  cases q : H b with
  | none => rfl
  | some u =>
    rcases x.here b (by rw [q]; exact fun z => nomatch z) with z | z
    · subst z
      rw [x.off (by rw [q]; exact fun z => nomatch z)] at e
      cases e
    · subst z
      rw [x.offT] at e
      cases e
theorem AloneT.hd (x : AloneT H h K a T) (ea : h.get? a = some { cls := .type "list", data := .seq vs }) (C : PySem.W.CodeHd h c T) : PySem.W.CodeHd (hidT h H) c T := by
  obtain ⟨o, us, f, tf, g, tg, inF, n, tt, e, r1, r2, r3, r⟩ := C
  refine ⟨o, us, f, tf, g, tg, inF, n, tt, x.get ea e ?_ ?_, r1, r2, r3, r⟩
  · rw [r2]; intro z; cases z
  · intro z
    rw [r2] at z
    cases z
    simp at r3
end
theorem law_told {fa a c T : Addr} {s : Shared} {vs : List Value} {ns : List Int} {mb : Str → Option Value} {H : Hp} (R : LawRunT P w K mg fa c T) (al : AloneT H s.heap K a T)
    (X : K.In s.heap) (g : s.heap.Ns mainGlobals mg) (b : s.heap.Ns builtinsNs mb) (bb : ∀ x : Str, x ≠ "__name__" → mb x = bootBuiltins x) (lim : s.heap.NoLimit) (gs : s.gens = #[]) (C : PySem.W.CodeHd s.heap c T)
    (bm : ∃ (bm : Addr) (ob : Obj), mg "__builtins__" = some (.ref bm) ∧ bm ≠ builtinsNs ∧ s.heap.get? bm = some ob ∧ ob.cls = .type "module" ∧ ob.dict = some builtinsNs ∧ ob.data = .plain)
    (ea : s.heap.get? a = some { cls := .type "list", data := .seq vs.toArray }) (hS : SqL K H a (ns.map V.int)) (hl : ns.length ≤ 63) (ok : HOk P w H s.heap) :
    codeAny (model P w) callerA (.call (.ref fa) ⟨[.ref a], []⟩) (fun r s' => r = .ok (.ret (.bool true)) ∧ OldK s.heap s'.heap ∧ s'.os = s.os ∧ AllBare s'.gens) s := by
  have gT : mainGlobals ≠ T := fun z => by
    obtain ⟨o, es, ep, e, d, _⟩ := g
    rw [z, al.tab] at e
    cases e
    cases d
  have M : L2.Mod K mg (hidT s.heap H) := by
    refine ⟨al.kin X, al.ns ea g, ⟨mb, al.ns ea b, bb⟩, ?_⟩
    obtain ⟨mc, l1, l2⟩ := lim
    exact ⟨mc, al.ns ea l1, l2⟩
  have TB : TabB (hidT s.heap H) mg c T := by
    refine ⟨al.hd ea C, ?_, gT⟩
    obtain ⟨q, ob, b1, b2, b3, b4, b5, b6⟩ := bm
    have nG : q ≠ mainGlobals := fun z => by
      obtain ⟨o, es, ep, e, d, _⟩ := g
      rw [z, e] at b3
      cases b3
      rw [d] at b6
      cases b6
    have nT : q ≠ T := fun z => by
      rw [z, al.tab] at b3
      cases b3
      cases b6
    refine ⟨q, ob, b1, b2, nG, nT, al.get ea b3 ?_ ?_, b4, b5, b6⟩ <;> (rw [b6]; intro z; cases z)
  have st0 : Env0 P w K mg (hidT s.heap H) callerA [] s H := by
    refine ⟨rfl, M, fun b o e => of_hidT e, Nat.le_of_eq (hidT_size _ _), trivial, fun b hb => ?_, ok, AllBare.of_eq gs⟩
    cases (show b ∈ ([] : List Addr) from hb)
  refine codeAny_mono (R _ H s a ns M.kin M.glob TB al.told hS hl st0) fun r s' q => ?_
  match r, q with
  | .error e, q => exact False.elim q
  | .ok (.next), q => exact False.elim q
  | .ok (.brk), q => exact False.elim q
  | .ok (.cont), q => exact False.elim q
  | .ok (.ret u), q =>
    obtain ⟨v, H', eos, bare, un, ok', rv, qv⟩ := q
    have qv' : v = .bl true := qv
    subst qv'
    obtain rfl : u = Value.bool true := rv
    obtain ⟨more, hm⟩ := un.tbls T #[] al.told
    have eT : s'.heap.get? T = some { cls := .none, data := .fields (#[] ++ more) } := ok' T _ hm
    have other : ∀ b o, b ≠ T → s.heap.get? b = some o → s'.heap.get? b = some o := fun b o nb e => by
      rcases al.only b with z | z | ⟨ob, xs, z⟩
      · exact un.keep b o e z (fun y => by cases (show b ∈ ([] : List Addr) from y)) (by simp)
      · exact absurd z nb
      · have h1 := (ok b _ z).1
        have h2 := (ok' b _ (un.frzs b ob _ z)).1
        rw [e] at h1
        cases h1
        exact h2
    refine And.intro rfl (And.intro ⟨fun b o e => ?_, fun b o e => ?_⟩ (And.intro eos bare))
    · by_cases hb : b = T
      · subst hb
        rw [al.tab] at e
        cases e
        exact .inr (.inl ⟨(C.tab al.tab).isCodeTable, rfl, #[], more, rfl, eT⟩)
      · exact .inl (other b o hb e)
    · by_cases hb : b = T
      · subst hb
        exact ⟨_, eT⟩
      · exact ⟨o, other b o hb e⟩
theorem law_tabled {fa a c T : Addr} {s : Shared} {vs : List Value} {ns : List Int} {mb : Str → Option Value} (R : LawRunT P w K mg fa c T)
    (X : K.In s.heap) (g : s.heap.Ns mainGlobals mg) (b : s.heap.Ns builtinsNs mb) (bb : ∀ x : Str, x ≠ "__name__" → mb x = bootBuiltins x) (lim : s.heap.NoLimit) (gs : s.gens = #[]) (C : PySem.W.CodeHd s.heap c T)
    (bm : ∃ (bm : Addr) (ob : Obj), mg "__builtins__" = some (.ref bm) ∧ bm ≠ builtinsNs ∧ s.heap.get? bm = some ob ∧ ob.cls = .type "module" ∧ ob.dict = some builtinsNs ∧ ob.data = .plain)
    (et : s.heap.get? T = some { cls := .none, data := .fields #[] }) (nt : K.lookup T = none)
    (ea : s.heap.get? a = some { cls := .type "list", data := .seq vs.toArray }) (hi : IntsAre vs ns) (hl : ns.length ≤ 63) :
    codeAny (model P w) callerA (.call (.ref fa) ⟨[.ref a], []⟩) (fun r s' => r = .ok (.ret (.bool true)) ∧ OldK s.heap s'.heap ∧ s'.os = s.os ∧ AllBare s'.gens) s := by
  have rel := vals_ints hi
  have ll := hi.length
  have hl2 : ns.length ≤ sizeLine := Nat.le_trans hl (by decide)
  have naT : a ≠ T := fun z => by
    rw [z, et] at ea
    cases ea
  cases lk : K.lookup a with
  | some o =>
    have e := X a o lk
    rw [ea] at e
    cases e
    let H0 : Hp := fun b => if b = T then some (.tbl #[]) else Option.none
    have hT : H0 T = some (.tbl #[]) := if_pos rfl
    have hN : ∀ b, b ≠ T → H0 b = none := fun b hb => if_neg hb
    refine law_told (H := H0) R ⟨fun b => ?_, fun b z => ?_, fun z => absurd (hN a naT) z, nt, et, hT⟩ X g b bb lim gs C bm ea ?_ hl (fun b u z => ?_)
    · by_cases hb : b = T
      · exact .inr (.inl hb)
      · exact .inl (hN b hb)
    · by_cases hb : b = T
      · exact .inr hb
      · exact absurd (hN b hb) z
    · refine .inr ⟨_, vs.toArray, _, lk, rfl, rfl, rfl, ?_, by simpa using rel⟩
      rw [List.size_toArray, ll]
      exact hl2
    · by_cases hb : b = T
      · subst hb
        rw [hT] at z
        cases z
        exact et
      · rw [hN b hb] at z
        cases z
  | none =>
    let o0 : HO := .frz { cls := .type "list", data := .seq vs.toArray } (.lst (ns.map V.int))
    let H0 : Hp := fun b => if b = a then some o0 else if b = T then some (.tbl #[]) else Option.none
    have hA : H0 a = some o0 := if_pos rfl
    have hT : H0 T = some (.tbl #[]) := (if_neg (Ne.symm naT)).trans (if_pos rfl)
    have hN : ∀ b, b ≠ a → b ≠ T → H0 b = none := fun b h1 h2 => (if_neg h1).trans (if_neg h2)
    refine law_told (H := H0) R ⟨fun b => ?_, fun b z => ?_, fun _ => lk, nt, et, hT⟩ X g b bb lim gs C bm ea (.inl (.inr ⟨_, hA⟩)) hl (fun b u z => ?_)
    · by_cases h1 : b = a
      · subst h1; exact .inr (.inr ⟨_, _, hA⟩)
      · by_cases hb : b = T
        · exact .inr (.inl hb)
        · exact .inl (hN b h1 hb)
    · by_cases h1 : b = a
      · exact .inl h1
      · by_cases hb : b = T
        · exact .inr hb
        · exact absurd (hN b h1 hb) z
    · by_cases h1 : b = a
      · subst h1
        rw [hA] at z
        cases z
        exact ⟨ea, by rw [List.length_map]; exact hl2, vs, _, rel, ea⟩
      · by_cases hb : b = T
        · subst hb
          rw [hT] at z
          cases z
          exact et
        · rw [hN b h1 hb] at z
          cases z
/-- the end of such a law's row -/
theorem walk_tabled {l : PySem.W.OpenLaw} {q : Program} {loose : List Str} {XP : (Str → Option Value) → Heap → Prop} {YP : World → Heap → Prop} {d : DefRec} {K : Params → PySem.W.Frag} {c T : Addr} (hn : l.most = some 63) (hdf : d.params.defaults = [])
    (hY : ∀ (w : World) (h : Heap), YP w h → (K w.params).In h) (ht : ∀ (w : World) (h : Heap), YP w h → h.get? T = some { cls := .none, data := .fields #[] }) (hc : ∀ w : World, PySem.W.codeHdIn (K w.params) c T = true) (nt : ∀ w : World, (K w.params).lookup T = none)
    (R : ∀ (w : World) (mg : Str → Option Value) (fa : Addr) (h : Heap), (K w.params).In h → h.Ns mainGlobals mg → mg d.name = some (.ref fa) → LawRunT l.prog w (K w.params) mg fa c T) :
    PySem.W.WalkO q loose XP YP l.row.toRowW d [] (fun f vs => PySem.call f vs) := by
  refine Att.attach_call hn hdf fun w s₀ s₁ mg mb fa o pm cd doc a vs ns G Y ho hd hcd hmg hobj hints hlen hg => ?_
  have KX := hY w _ Y
  exact law_tabled (R w mg fa _ KX G.T.g hmg) KX G.T.g G.T.b G.T.builtins G.T.nolimit hg (PySem.W.codeHd_of_K KX (hc w)) G.T.bmain (ht w _ Y) (nt w) hobj hints hlen
end
end Ms
namespace Ms
open PySem PySem.Spec PyProof.Rows L2
/-! ### BadSettings(e) and need_settings -/
structure ErrC (K : PySem.W.Frag) (C fE : Addr) : Prop where
  ox : OexC K C
  ini : PySem.W.findIn K (.ref C) "__init__" = some (some (.ref fE))
  ty : PySem.W.typeIn K (.ref fE) = some (.type "function")
  no : PySem.W.findIn K (.ref C) "place" = some none
def spIni (C : Addr) : Sp := fun vs H Q _ => ∃ (a : Addr) (y : V), vs = [.ref a, y] ∧ H a = some (exo a C none) ∧ ∀ dx, H dx = none → dx ≠ a → Q .non (upd (upd H dx (exd dx [("place", y)])) a (exo a C (some dx)))
def needV (d : PyData) : Option V := match d with
  | .tuple ds => if 1 ≤ ds.length ∧ ds.length ≤ 3 then (match dueGo 0 [] 1 ds with | .inl p => some (.int (p : Nat)) | .inr many => if many ≤ 12 then none else some (.str "many")) else some .non
  | _ => some .non
def spNeed (K : PySem.W.Frag) (C : Addr) : Sp := fun vs H Q E => ∃ (m l : Addr) (v : V) (d : PyData) (B b : Nat), vs = [v] ∧ Dq K H m l v d ∧ Gd B 100000 b d ∧ (needV d = none → ∀ H', Same H H' → Q v H') ∧
  ∀ u, needV d = some u → ∀ dx H', H dx = none → Same H H' → H' dx = some (.xd [("place", u)]) → E (.ref C) (some dx) H'
theorem mk_one {C : Addr} {H1 : Hp} {y : V} {Q : XK} (h : ∀ d H', H1 d = none → Same H1 H' → H' d = some (.xd [("place", y)]) → Q (.ref C) (some d) H') :
    [y].length ≤ 1000 ∧ ∀ a, H1 a = none → spIni C (.ref a :: ([y] ++ [])) (upd H1 a (exo a C none))
      (fun v H2 => v = .non ∧ ∃ (d : Addr) (fs : List (Str × V)), H2 a = some (exo a C (some d)) ∧ H2 d = some (exd d fs) ∧ H1 d = none ∧ Q (.ref C) (some d) (upd (del H2 a) d (.xd fs))) (fun _ _ _ => False) := by
  refine ⟨(by show 1 ≤ 1000; decide), fun a ha => ⟨a, y, rfl, upd_same, fun dx h1 h2 => ?_⟩⟩
  have hd : H1 dx = none := by rw [upd_ne h2] at h1; exact h1
  refine ⟨rfl, dx, [("place", y)], upd_same, by rw [upd_ne h2, upd_same], hd, h dx _ hd (fun b o e => ?_) upd_same⟩
  rw [upd_ne (ne_of_none e hd), del_ne (ne_of_none e ha), upd_ne (ne_of_none e ha), upd_ne (ne_of_none e hd), upd_ne (ne_of_none e ha)]
  exact e
section
variable {P : Program} {w : World} {K : PySem.W.Frag} {mg : Str → Option Value} {base : Heap} {fI fN fS fA fG C fE : Addr}
theorem scIn : FnScope ["self", "place"] ["self", "place"] (defScope sIni) := ⟨rfl, rfl, rfl, by decide +kernel, rfl, by decide +kernel, by decide +kernel⟩
theorem ok_ini {fd : FuncData} {qual : Str} (F : Fun K "__init__" qual sIni fE fd) (TE : ErrC K C fE) : FnOk P w K mg base CX0 1 fE fd ["self", "place"] (spIni C) := by
  refine F.ok scIn (fun vs H Q E h => ?_) (fun cdv A outer s H vs Q E hr h => ?_)
  · obtain ⟨a, y, rfl, _⟩ := h
    rfl
  · obtain ⟨a, y, rfl, e, q⟩ := h
    exact ⟨_, pss_one (ps_ost (pv 0) (pv 1)), ⟨_, rfl, _, rfl, a, C, rfl, TE.ox, TE.no, .inl ⟨e, fun dx h1 h2 => q dx h1 h2⟩⟩⟩
abbrev NPd : List Str := ["thing", "at", "setting"]
theorem scPd : FnScope NPd ["thing"] (defScope sNeed) := ⟨rfl, rfl, rfl, by decide +kernel, rfl, by decide +kernel, by decide +kernel⟩
def many (qs : List (Str × Int)) : Int := qs.foldl (fun m q => m * (q.2 + 1)) 1
theorem fold_many : ∀ (qs : List (Str × Int)) (rs : List (List Int)) (m : Int), (∀ q ∈ qs, 1 ≤ q.2 ∧ q.2 ≤ 3) → (rs.length : Int) = m → ((qs.foldl (fun rs q => widen rs (q.2 + 1).toNat) rs).length : Int) = qs.foldl (fun m q => m * (q.2 + 1)) m
  | [], rs, m, _, h => h
  | q :: qs, rs, m, hq, h => by
    refine fold_many qs (widen rs (q.2 + 1).toNat) (m * (q.2 + 1)) (fun x hx => hq x (List.mem_cons_of_mem _ hx)) ?_
    have := hq q (List.mem_cons_self ..)
    rw [widen_len, Int.natCast_mul, h]
    congr 1
    omega
theorem grid_many (qs : List (Str × Int)) (h : ∀ q ∈ qs, 1 ≤ q.2 ∧ q.2 ≤ 3) : ((grid qs).length : Int) = many qs := fold_many qs [[]] 1 h rfl
theorem ok_need {f : Addr} {fd fdI fdN fdS fdA fdG fdE : FuncData} {qual : Str} (F : Fun K "need_settings" "need_settings" sNeed f fd) (T : TxtP mg fI fN fS fA fG) (gC : mg "BadSettings" = some (.ref C)) (TE : ErrC K C fE)
    (FI : Fun K "is_int" "is_int" sPInt fI fdI) (bI : Binds K fdI ["thing"] []) (FN : Fun K "is_name" "is_name" sPName fN fdN) (bN : Binds K fdN ["thing"] []) (FS : Fun K "is_setting" "is_setting" sPSet fS fdS) (bS : Binds K fdS ["thing"] [])
    (FA : Fun K "names_of" "names_of" sPNames fA fdA) (bA : Binds K fdA ["settings"] []) (FG : Fun K "grid_of" "grid_of" sPGrid fG fdG) (bG : Binds K fdG ["settings"] []) (FE : Fun K "__init__" qual sIni fE fdE) (bE : Binds K fdE ["self", "place"] []) :
    FnOk P w K mg base (L2.CX P w) 3 f fd ["thing"] (spNeed K C) := by
  have GS : FnOk P w K mg base CX0 2 fS fdS ["thing"] (spPSet K) := ok_pset FS T FI bI FN bN
  have GA : FnOk P w K mg base CX0 1 fA fdA ["settings"] (spPNames K) := ok_pnames FA
  have GG : FnOk P w K mg base CX0 1 fG fdG ["settings"] (spPGrid K) := ok_pgrid FG T
  have GE : FnOk P w K mg base CX0 1 fE fdE ["self", "place"] (spIni C) := ok_ini FE TE
  refine F.okX scPd (fun vs H Q E h => ?_) (fun cdv A outer s H vs Q E hr h => ?_)
  · obtain ⟨m, l, v, d, B, b, rfl, _⟩ := h
    rfl
  obtain ⟨m, l, v, d, B, b, rfl, hd, gd, q, qe⟩ := h
  obtain ⟨ts, gs⟩ := T.mS
  obtain ⟨tt, gt⟩ := T.mT
  have hr1 : Room 1 _ := hr.mono (by decide)
  refine ⟨_, pss_cons (ps_if (PW.pt (pw_or (pt_not (pt_val (pe_callB call_isi (by rfl) T.isi PyProof.Rows.boot_isinstance (pa_cons (pv 0) (pa_cons (pe_bltn (v := .ty "tuple") (u := .type "tuple") (by rfl) T.tuple (by decide +kernel) rfl) pa_nil)))))
      (pw_or1 (pt_not (pt_chain op_le op_le pe_int (pe_callB call_len (by rfl) T.len PySem.boot_len (pa_cons (pv 0) pa_nil)) (pe_glob (v := .int 3) rfl gs ⟨_, rfl⟩)))))) (pss_one (ps_raise rfl (takes_of rfl rfl rfl rfl) (pmk_oex TE.ox TE.ini TE.ty GE hr bE .nil pass0 (by rfl) gC (pa_cons pe_non pa_nil)))) pss_nil)
    (pss_cons (ps_for (passes_of rfl) rfl (pi_et (by rfl) T.enumerate (pa_cons (pv 0) pa_nil)) (pg_tup rfl (pgs_cons (pg_name (i := 1) scPd.nd rfl (by first | exact Or.inl rfl | exact Or.inr rfl)) (pgs_cons (pg_name (i := 2) scPd.nd rfl (by first | exact Or.inl rfl | exact Or.inr rfl)) pgs_nil)))
      (pss_one (ps_if (PW.pt (pw_or (pt_not (pt_val (pe_call GS hr rfl T.gS FS.kp bS .nil pass0 (pa_cons (pv 2) pa_nil)))) (pw_or1 (pt_cmpR op_in_seq (pe_ix ix_tup (pv 2) pe_int (fun _ _ => rfl)) (pe_call GA hr1 rfl T.gA FA.kp bA .nil pass0 (pa_cons (pe_slice sl_tupA (pv 0) po_none (po_some (pv 1))) pa_nil)) (by rfl)))))
        (pss_one (ps_raise rfl (takes_of rfl rfl rfl rfl) (pmk_oex TE.ox TE.ini TE.ty GE hr bE .nil pass0 (by rfl) gC (pa_cons (pv 1) pa_nil)))) pss_nil)))
    (pss_cons (ps_if (pt_cmpR op_gt (pe_callB call_len_seq (by rfl) T.len PySem.boot_len (pa_cons (pe_call GG hr1 rfl T.gG FG.kp bG .nil pass0 (pa_cons (pv 0) pa_nil)) pa_nil)) (pe_glob (v := .int 12) rfl gt ⟨_, rfl⟩) (nomark _))
        (pss_one (ps_raise rfl (takes_of rfl rfl rfl rfl) (pmk_oex TE.ox TE.ini TE.ty GE hr bE .nil pass0 (by rfl) gC (pa_cons pe_str pa_nil)))) pss_nil)
    (pss_one (ps_ret (pv 0))))), ?_⟩
  refine ⟨_, rfl, v, .ty "tuple", _, _, _, rfl, .ty _, hd.ty, isi_tup K d, _, rfl, ?_⟩
  cases d with
  | tuple ds =>
    cases hd with
    | tup hp hx =>
      rename_i p xs
      refine ifF rfl ?_
      have lx := hx.len
      have none0 : ¬ (1 ≤ ds.length ∧ ds.length ≤ 3) → needV (.tuple ds) = some .non := fun h => by
        show (if 1 ≤ ds.length ∧ ds.length ≤ 3 then _ else some V.non) = some .non
        rw [if_neg h]
      refine ⟨_, rfl, .ref p, xs.length, rfl, .inr ⟨xs, hp, rfl⟩, 1, (xs.length : Int), rfl, rfl, _, rfl, ite_b (fun e1 => ⟨(xs.length : Int), 3, rfl, rfl, _, rfl, ite_b (fun e8 => mk_one (qe _ (none0 ?_))) (fun e8 => ?_)⟩) (fun e1 => ⟨_, rfl, ifT rfl (mk_one (qe _ (none0 ?_)))⟩)⟩
      · have : ¬ ((xs.length : Int) ≤ 3) := by simpa using e8
        omega
      · have l3 : (xs.length : Int) ≤ 3 := by simpa using e8
        have l1 : (1 : Int) ≤ (xs.length : Int) := of_decide_eq_true e1
        have ed : needV (.tuple ds) = (match dueGo 0 [] 1 ds with | .inl p => some (V.int (p : Nat)) | .inr many => if many ≤ 12 then none else some (.str "many")) := by
          show (if 1 ≤ ds.length ∧ ds.length ≤ 3 then _ else some V.non) = _
          rw [if_pos ⟨by omega, by omega⟩]
        refine ⟨_, rfl, p, xs, rfl, hp, ?_⟩
        refine for_it walk_et (fun i σ H1 => ∃ (qs : List (Str × Int)) (v1 v2 : Option V), σ = [some (.ref p), v1, v2] ∧ Same H H1 ∧ PrTs K H1 (xs.take i) qs ∧ (∀ q ∈ qs, 1 ≤ q.2 ∧ q.2 ≤ 3) ∧ dueGo 0 [] 1 ds = dueGo i (qs.map (·.1)) (many qs) (ds.drop i))
          ⟨[], none, none, rfl, Same.refl H, by rw [List.take_zero]; exact .nil, (fun q hq => nomatch hq), rfl⟩ (fun i σ H1 _ ⟨qs, v1, v2, _, s1, _⟩ => Same.seqT s1 hp) ?_ ?_
        · rintro i x σ H1 H2 hi ⟨qs, v1, v2, rfl, s1, pq, bq, dg⟩ ⟨TT, x1, x2, rfl, hT, rfl, e1', e2'⟩
          have ex1 : x1 = .int (i : Nat) := (Option.some.inj e1').symm
          subst ex1
          obtain ⟨e, he, dqe⟩ := hx.get e2'
          have sT : Same H1 (upd H1 TT (.tup [.int (i : Nat), x2])) := Same.upd hT
          have sA : Same H (upd H1 TT (.tup [.int (i : Nat), x2])) := s1.trans sT
          have dqA := Dq.same sA e x2 dqe
          have hid : i < ds.length := by omega
          have edr : ds.drop i = e :: ds.drop (i + 1) := by rw [List.drop_eq_getElem_cons hid]; rw [(List.getElem?_eq_some_iff.mp he).2]
          have refuse : ∀ {H3 : Hp}, Same H H3 → needV (.tuple ds) = some (.int (i : Nat)) → ∀ d H', H3 d = none → Same H3 H' → H' d = some (.xd [("place", V.int (i : Nat))]) → E (.ref C) (some d) H' := fun {H3} s3 hn d H' h1 h2 h3 =>
            qe _ hn d H' (Same.free s3 h1) (s3.trans h2) h3
          obtain ⟨cc, eb, g⟩ := Gd.untup gd
          have ge := g.at he
          have we : e.weight ≤ 100000 := by
            have := wA_at he
            have := g.wt
            omega
          refine ⟨TT, _, rfl, .inl (.inl upd_same), rfl, _, _, rfl, _, _, rfl, rfl, ?_⟩
          refine ⟨_, rfl, m, l, x2, e, _, _, rfl, dqA, ge.mono (Nat.le_refl _) we (Nat.le_refl _), fun H3 s3 => ⟨_, rfl, ?_⟩⟩
          have s03 := sA.trans s3
          cases eo : oneD e with
          | none =>
            refine ifT rfl ⟨_, rfl, mk_one (refuse s03 ?_)⟩
            rw [ed, dg, edr]
            simp only [dueGo, eo]
          | some zc =>
            obtain ⟨z, c⟩ := zc
            have le := pq.len
            obtain ⟨a, rfl, hq, cb⟩ : ∃ a, x2 = .ref a ∧ SqT K H a [.str z, .int c] ∧ 1 ≤ c ∧ c ≤ 3 := by
              have key : e = .tuple [.str z, .int c] ∧ 1 ≤ c ∧ c ≤ 3 := by
                have eo' := eo
                unfold oneD at eo'
                split at eo'
                · split at eo'
                  · rename_i hh
                    cases eo'
                    have hw := (Bool.and_eq_true _ _ ▸ hh : _ ∧ _).2
                    exact ⟨rfl, of_decide_eq_true (Bool.and_eq_true _ _ ▸ hw : _ ∧ _).1, of_decide_eq_true (Bool.and_eq_true _ _ ▸ hw : _ ∧ _).2⟩
                  · cases eo'
                · cases eo'
              obtain ⟨rfl, kb⟩ := key
              cases dqe with
              | tup h0 hy0 =>
                cases hy0 with
                | cons g0 hy1 =>
                  cases hy1 with
                  | cons g1 hy2 =>
                    cases g0
                    cases g1
                    cases hy2
                    exact ⟨_, rfl, h0, kb⟩
            refine ifF rfl ?_
            refine ⟨_, rfl, a, _, 0, .str z, rfl, rfl, Same.seqT s03 hq, rfl, ?_⟩
            refine ⟨_, rfl, _, rfl, _, rfl, slA_any (Same.seqT s03 hp) fun p4 H4 s4 c4 => ?_⟩
            rw [cut_to (by omega)] at c4
            refine ⟨p4, xs.take i, qs, rfl, c4, (pq.same (sT.trans (s3.trans s4))), (by rw [← le, List.length_take]; omega), fun D hD H5 s5 g5 => ?_⟩
            have sF := (s03.trans s4).trans s5
            refine ⟨D, _, rfl, .inl (SqL.of g5), rfl, (by simp [flatV]), _, rfl, ite_b (fun e => ⟨_, rfl, mk_one (refuse sF ?_)⟩) (fun e => ?_)⟩
            · have e' : inV (.str z) ((qs.map (·.1)).map V.str) = true := e
              rw [inV_str] at e'
              have hz := of_decide_eq_true e'
              rw [ed, dg, edr]
              simp only [dueGo, eo, if_pos hz]
            · have e' : inV (.str z) ((qs.map (·.1)).map V.str) = false := e
              rw [inV_str] at e'
              have nz := of_decide_eq_false e'
              refine ⟨qs ++ [(z, c)], _, _, rfl, sF, ?_, fun q hq' => ?_, ?_⟩
              · have e3 : xs[i]? = some (V.ref a) := e2'
                rw [List.take_succ, e3]
                exact (pq.same (sT.trans ((s3.trans s4).trans s5))).snoc ⟨a, rfl, Same.seqT sF hq⟩
              · rcases List.mem_append.mp hq' with hq' | hq'
                · exact bq q hq'
                · rw [List.mem_singleton.mp hq']; exact cb
              · rw [dg, edr]
                simp only [dueGo, eo, if_neg nz]
                unfold many
                rw [List.map_append, List.foldl_append]
                rfl
        · rintro σ H1 ⟨qs, v1, v2, rfl, s1, pq, bq, dg⟩
          rw [List.take_of_length_le (by omega)] at pq
          rw [List.drop_of_length_le (by omega)] at dg
          have le := pq.len
          have ed2 : needV (.tuple ds) = if many qs ≤ 12 then none else some (.str "many") := by
            rw [ed, dg]; rfl
          refine ⟨_, rfl, p, xs, qs, rfl, Same.seqT s1 hp, pq, by omega, bq, fun D as H2 hD s2 gD rw2 _ => ?_⟩
          have lg := rw2.length
          refine ⟨D, _, rfl, .inl (SqL.of gD), _, _, rfl, rfl, _, rfl, ite_b (fun e => mk_one fun d H' h1 h2 h3 => ?_) (fun e => ?_)⟩
          · have hm : ¬ many qs ≤ 12 := by
              have := of_decide_eq_true e
              rw [← grid_many qs bq]
              rw [List.length_map, lg] at this
              omega
            exact qe _ (by rw [ed2, if_neg hm]) d H' (Same.free (s1.trans s2) h1) ((s1.trans s2).trans h2) h3
          · have hm : many qs ≤ 12 := by
              have := of_decide_eq_false e
              rw [← grid_many qs bq]
              rw [List.length_map, lg] at this
              omega
            exact ⟨_, rfl, q (by rw [ed2, if_pos hm]) _ (s1.trans s2)⟩
      · have : ¬ ((1 : Int) ≤ (xs.length : Int)) := of_decide_eq_false e1
        omega
  | _ => exact ifT rfl (ifT rfl (mk_one (qe _ rfl)))
end
end Ms
namespace Ms
open PySem PySem.Spec PyProof.Rows L2 LamX
/-! ### _law_told(lambda: ..) -/
/-- what the def makes of the lambda's reading: what it returns in a list, or how it is refused -/
def TTl (C : Addr) : (XK → Hp → VK → Prop) → Hp → VK → Prop := fun tl H Q => ∀ (H0 : Hp) (Ec : XK) (Qc : VK), Same H H0 →
  (∀ (dd : Addr) (u : V) (H' : Hp), H' dd = some (.xd [("place", u)]) → (∀ p, H' p = none → Q (.ref p) (upd H' p (.tup [.str "settings", u]))) → Ec (.ref C) (some dd) H') →
  (∀ (y : V) (H1 : Hp), (∀ p, H1 p = none → Q (.ref p) (upd H1 p (.lst [y]))) → Qc y H1) → tl Ec H0 Qc
abbrev NTo : List Str := ["call", "caught", "found", "e"]
theorem scTo : FnScope NTo ["call"] (defScope sTold) := ⟨rfl, rfl, rfl, by decide +kernel, rfl, by decide +kernel, by decide +kernel⟩
theorem noTake {X : Cx} : Takes X (fun _ _ _ _ => False) := fun _ _ ⟨_, _, _, _, _, _, _, _, _, _, _, _, _, _, _, _, w⟩ => w.elim
section
variable {X : Cx} {C g : Addr} {cdg : Value} {q : Str}
theorem told_to (hme : X.mg "BadSettings" = some (.ref C)) (hx : PySem.W.exmOne X.K (.ref C) (.ref C) = some true) (TX : XfC X.K C) (hno : PySem.W.findIn X.K (.ref C) "place" = some none) :
    GivesTo X NTo "_law_told" (defScope sTold) g cdg (defBody sTold) "call" q (TTl C) := by
  intro f c' s H Q tl act hc h
  refine ⟨_, pss_cons (ps_asg (pe_tup (pa_cons pe_non (pa_cons pe_non pa_nil))) (pg_tup rfl (pgs_cons (pg_name (i := 1) scTo.nd rfl (by first | exact Or.inl rfl | exact Or.inr rfl)) (pgs_cons (pg_name (i := 2) scTo.nd rfl (by first | exact Or.inl rfl | exact Or.inr rfl)) pgs_nil))))
    (pss_cons (ps_try_as (X := (cxOf C8.CX0 X.prog X.w X.K X.mg X.base NTo "_law_told" (defScope sTold) g cdg X.A X.stack s H C8.E0).nox) (c := .ref C) (i := 3)
      (tb := fun W D σ H1 => σ[0]? = some (some (.ref f)) ∧ H1 c' = some (CodeO c' q) ∧ tl (fun cls d H' => ∀ σ' : L2.St, σ'.length = 4 → W cls d σ' H') H1 (fun y H2 => gName 2 y σ H2 D.nx))
      (Wout := fun _ _ _ _ => False) rfl rfl scTo.nd rfl rfl ⟨by rfl, by decide, .inl hme⟩ noTake (fun W pn xe tk _ => ?_)
      (fun a oe cls d pn hz hf => pss_one (ps_set (i := 1) scTo.nd rfl (by first | exact Or.inl rfl | exact Or.inr rfl) (pe_tup (pa_cons pe_str (pa_cons (pe_xf TX hno hz hf (pv 3)) pa_nil))))))
    (pss_one (ps_ret (pe_ifExp (pt_cmpR op_isN (pv 1) pe_non (nomark _)) (pe_lst (pa_cons (pv 2) pa_nil)) (pv 1))))), ?_⟩
  · refine ⟨fun pins s' σ H' D I h' => ?_⟩
    obtain ⟨h1, h2, h3⟩ := h'
    have tk' : Takes ((cxOf C8.CX0 X.prog X.w X.K X.mg X.base NTo "_law_told" (defScope sTold) g cdg X.A X.stack s H C8.E0).nox.tr pn xe) (fun cls d σ' H' => σ'.length = 4 → W cls d σ' H') := fun u s' ⟨a, B, sI, pins, σ, H, cls, d, e, I, nb, up, sky, na, os, ag, w⟩ =>
      tk u s' ⟨a, B, sI, pins, σ, H, cls, d, e, I, nb, up, sky, na, os, ag, w I.len⟩
    have hp := fun p1 p2 => act _ pn xe (fun cls d H' => ∀ σ' : L2.St, σ'.length = 4 → W cls d σ' H') p1 p2 tk' (fun cls d σ' H' e hl => e σ' hl)
    exact (pss_one (ps_set (i := 2) scTo.nd rfl (by first | exact Or.inl rfl | exact Or.inr rfl) (hp _ _))).run pins s' σ H' D I ⟨h1, h2, h3⟩
  · refine ⟨(by show 2 ≤ sizeLine; decide), fun p1 h1 => ⟨p1, _, rfl, .inl (.inl upd_same), rfl, _, _, rfl, _, _, rfl, rfl, ?_⟩⟩
    have s1 : Same H (upd H p1 (.tup [.non, .non])) := Same.upd h1
    refine ⟨rfl, s1 _ _ hc, h _ _ _ s1 (fun dd u H' hdd k σ' hl => ?_) (fun y H1 k => ?_)⟩
    · match σ', hl with
      | [x0, x1, x2, x3], _ =>
        refine ⟨true, hx, fun _ a na => ?_, fun z => nomatch z⟩
        refine ⟨_, rfl, rfl, rfl, dd, _, _, rfl, hdd, rfl, (by show 2 ≤ sizeLine; decide), fun p hp => ?_⟩
        exact ⟨_, rfl, rfl, _, rfl, ifF rfl ⟨_, rfl, k p hp⟩⟩
    · exact ⟨_, rfl, rfl, _, rfl, ifT rfl ⟨_, rfl, (by show 1 ≤ sizeLine; decide), fun p hp => k p hp⟩⟩
end
end Ms
namespace Ms
open PySem PySem.Spec PyProof.Rows L2 LamX
/-! ### data, where the heap is changed elsewhere -/
mutual
theorem Dq.gen {K : PySem.W.Frag} {m l m' l' : Addr} {H H' : Hp} (k1 : ∀ a xs, H a = some (.lst xs) → a ≠ m → a ≠ l → H' a = some (.lst xs) ∧ a ≠ m' ∧ a ≠ l') (k2 : ∀ a xs, SqT K H a xs → SqT K H' a xs)
    (k3 : ∀ a, H a = some (.dK []) → a ≠ m → a ≠ l → H' a = some (.dK []) ∧ a ≠ m' ∧ a ≠ l') : ∀ (d : PyData) (v : V), Dq K H m l v d → Dq K H' m' l' v d
  | .none, _, h => by cases h; exact .non
  | .bool b, _, h => by cases h; exact .bl b
  | .int i, _, h => by cases h; exact .int i
  | .str x, _, h => by cases h; exact .str x
  | .list ds, _, h => by
    cases h with
    | lst e n1 n2 t =>
      obtain ⟨e', n1', n2'⟩ := k1 _ _ e n1 n2
      exact .lst e' n1' n2' (DqAll.gen k1 k2 k3 ds _ t)
  | .tuple ds, _, h => by
    cases h with
    | tup e t => exact .tup (k2 _ _ e) (DqAll.gen k1 k2 k3 ds _ t)
  | .dict _, _, h => by
    cases h with
    | dct e n1 n2 =>
      obtain ⟨e', n1', n2'⟩ := k3 _ e n1 n2
      exact .dct e' n1' n2'
theorem DqAll.gen {K : PySem.W.Frag} {m l m' l' : Addr} {H H' : Hp} (k1 : ∀ a xs, H a = some (.lst xs) → a ≠ m → a ≠ l → H' a = some (.lst xs) ∧ a ≠ m' ∧ a ≠ l') (k2 : ∀ a xs, SqT K H a xs → SqT K H' a xs)
    (k3 : ∀ a, H a = some (.dK []) → a ≠ m → a ≠ l → H' a = some (.dK []) ∧ a ≠ m' ∧ a ≠ l') : ∀ (ds : List PyData) (vs : List V), DqAll K H m l vs ds → DqAll K H' m' l' vs ds
  | [], _, h => by cases h; exact .nil
  | d :: ds, _, h => by
    cases h with
    | cons h1 h2 => exact .cons (Dq.gen k1 k2 k3 d _ h1) (DqAll.gen k1 k2 k3 ds _ h2)
end
section
variable {K : PySem.W.Frag} {H H' : Hp} {m l : Addr}
theorem ExtN.seqT (e : ExtN H H') {a : Addr} {xs : List V} (h : SqT K H a xs) : SqT K H' a xs := by
  rcases h with (h | ⟨o, h⟩) | h
  · exact .inl (.inl (e _ _ h fun _ z => nomatch z))
  · exact .inl (.inr ⟨o, e _ _ h fun _ z => nomatch z⟩)
  · exact .inr h
theorem Dq.ext (e : ExtN H H') {v : V} {d : PyData} (h : Dq K H m l v d) : Dq K H' m l v d :=
  Dq.gen (fun a xs q n1 n2 => ⟨e _ _ q (fun _ z => nomatch z), n1, n2⟩) (fun a xs q => ExtN.seqT e q) (fun a q n1 n2 => ⟨e _ _ q (fun _ z => nomatch z), n1, n2⟩) d v h
theorem Mch.ext {n : Nat} (s : ExtN H H') (M : Mch H m l n) : Mch H' m l n := by
  obtain ⟨c, cs, ls, z, h1, h2, h3, h⟩ := M.ex
  exact ⟨c, cs, ls, z, s _ _ h1 (fun _ z => nomatch z), s _ _ h2 (fun _ z => nomatch z), s _ _ h3 (fun _ z => nomatch z), h⟩
theorem Same.toN (s : Same H H') : ExtN H H' := ExtN.of s
theorem Tabs.same {T : List (Addr × Str)} (t : Tabs T H) (s : Same H H') : Tabs T H' := t.ext s
end
/-! ### what is due is what is told -/
theorem dueGo_lt : ∀ (ds : List PyData) (p : Nat) (seen : List Str) (many : Int) (r : Nat), dueGo p seen many ds = .inl r → r < p + ds.length
  | [], p, seen, many, r, h => by simp [dueGo] at h
  | d :: ds, p, seen, many, r, h => by
    simp only [dueGo] at h
    split at h
    · cases h; simp
    · split at h
      · cases h; simp
      · have := dueGo_lt ds _ _ _ _ h
        simp only [List.length_cons]; omega
theorem due_ok {d : PyData} (h : needV d = none) : dueD d = .list [d] := by
  cases d with
  | tuple ds =>
    unfold needV at h
    unfold dueD
    by_cases hl : 1 ≤ ds.length ∧ ds.length ≤ 3
    · simp only [if_pos hl] at h ⊢
      generalize dueGo 0 [] 1 ds = x at h ⊢
      cases x with
      | inl p => cases h
      | inr mm =>
        by_cases hm : mm ≤ 12
        · simp only [if_pos hm]
        · simp only [if_neg hm] at h
          cases h
    · simp only [if_neg hl] at h
      cases h
  | _ => cases h
/-- a place in the error is one in the answer -/
inductive PlD : V → PyData → Prop
  | non : PlD .non .none
  | int (i : Int) : 0 ≤ i → i ≤ 3 → PlD (.int i) (.int i)
  | many : PlD (.str "many") (.str "many")
theorem PlD.dq {K : PySem.W.Frag} {H : Hp} {m l : Addr} {u : V} {e : PyData} (p : PlD u e) : Dq K H m l u e := by
  cases p with
  | non => exact .non
  | int i => exact .int i
  | many => exact .str _
theorem due_bad {d : PyData} {u : V} (h : needV d = some u) : ∃ e, dueD d = bad e ∧ PlD u e := by
  cases d with
  | tuple ds =>
    unfold needV at h
    unfold dueD
    by_cases hl : 1 ≤ ds.length ∧ ds.length ≤ 3
    · simp only [if_pos hl] at h ⊢
      have lt : ∀ p, dueGo 0 [] 1 ds = .inl p → p < 0 + ds.length := fun p hp => dueGo_lt _ _ _ _ _ hp
      generalize dueGo 0 [] 1 ds = x at h lt ⊢
      cases x with
      | inl p =>
        have := lt p rfl
        cases h
        exact ⟨_, rfl, .int _ (by omega) (by omega)⟩
      | inr mm =>
        by_cases hm : mm ≤ 12
        · simp only [if_pos hm] at h
          cases h
        · simp only [if_neg hm] at h ⊢
          cases h
          exact ⟨_, rfl, .many⟩
    · simp only [if_neg hl] at h ⊢
      cases h
      exact ⟨_, rfl, .non⟩
  | _ => cases h; exact ⟨_, rfl, .non⟩
theorem bad_good {u : V} {e : PyData} (p : PlD u e) : Gd (10 ^ 31) 1000 3 (bad e) := by
  have g0 : Gd (10 ^ 31) 8 0 (.str "settings") := Gd.str (by refine ⟨by decide +kernel, by decide +kernel⟩)
  have g1 : Gd (10 ^ 31) 104 0 e := by
    cases p with
    | non => exact ⟨rfl, by simp [PyData.weight], by simp [PyData.depth]⟩
    | int i h1 h2 => exact Gd.int (by omega) (Nat.le_refl _)
    | many => exact (Gd.str (a := 4) (by refine ⟨by decide +kernel, by decide +kernel⟩)).mono (Nat.le_refl _) (by decide) (Nat.le_refl _)
  exact (Gd.tup ((Gl'.one g0).app (Gl'.one g1))).mono (Nat.le_refl _) (by decide) (by decide)
end Ms
namespace Ms
open PySem PySem.Spec PyProof.Rows L2 LamX
/-! ### law: the inner loop's turn -/
abbrev forBody (s : Stmt) : List Stmt := match s with
  | .For _ _ b _ _ => b
  | _ => []
abbrev bTurn : List Stmt := forBody ((defBody sLaw).getD 1 (.Pass ⟨0, 0, 0, 0⟩))
abbrev bEach : List Stmt := forBody (bTurn.getD 6 (.Pass ⟨0, 0, 0, 0⟩))
abbrev NL : List Str := ["script", "m", "turn", "spots", "at", "other", "twin", "great", "name", "some", "thing", "kept"]
theorem scL : FnScope NL ["script"] (defScope sLaw) := ⟨rfl, rfl, rfl, by decide +kernel, rfl, by decide +kernel, by decide +kernel⟩
structure TL1 (mg : Str → Option Value) (fBg fSe fDu fTo fNd C : Addr) : Prop where
  begun : mg "_law_begun" = some (.ref fBg)
  settings : mg "_law_settings" = some (.ref fSe)
  due : mg "_law_due" = some (.ref fDu)
  told : mg "_law_told" = some (.ref fTo)
  need : mg "need_settings" = some (.ref fNd)
  bad : mg "BadSettings" = some (.ref C)
  repr : mg "repr" = none
  min : mg "min" = none
abbrev lamQ : Str := "law.<locals>.<lambda>"
section
variable {P : Program} {w : World} {K : PySem.W.Frag} {mg : Str → Option Value} {base : Heap} {fBg fSe fDu fTo fNd C f c Pt : Addr} {fdDu fdTo fdNd : FuncData} {s : Shared} {H0 : Hp} {Eb : XK}
theorem law_inner (TL : TL1 mg fBg fSe fDu fTo fNd C) (FDu : Fun K "_law_due" "_law_due" sDue fDu fdDu) (bDu : Binds K fdDu ["thing"] []) (GDu : FnOk P w K mg base CX0 2 fDu fdDu ["thing"] (spDue K))
    (FNd : Fun K "need_settings" "need_settings" sNeed fNd fdNd) (bNd : Binds K fdNd ["thing"] []) (GNd : FnOk P w K mg base (L2.CX P w) 3 fNd fdNd ["thing"] (spNeed K C))
    (FT : Fun K "_law_told" "_law_told" sTold fTo fdTo) (bT : Binds K fdTo ["call"] []) (hx : PySem.W.exmOne K (.ref C) (.ref C) = some true) (TX : XfC K C) (hno : PySem.W.findIn K (.ref C) "place" = some none)
    (TB : TabB base mg c Pt) (hr : Room 8 (callerA.deeper (envOfC "law" (defScope sLaw) s.heap.objs.size f (.ref c)))) :
    ∃ t, PSs (cxOf CX0 P w K mg base NL "law" (defScope sLaw) f (.ref c) callerA [] s H0 Eb).nox bEach t ∧ ∀ (D : Ends) (H1 : Hp) (a m l : Addr) (n : Nat) (v : V) (d : PyData) (B b : Nat) (v2 v3 v4 v5 v6 v7 v8 v9 v11 : Option V),
      Mch H1 m l n → Tabs [(Pt, lamQ)] H1 → Dq K H1 m l v d → Gd B 90000 b d → B ≤ 10 ^ 31 → b ≤ 50 → (∀ (u : Option V) (H2 : Hp), ExtN H1 H2 → Tabs [(Pt, lamQ)] H2 → D.nx [some (.ref a), some (.ref m), v2, v3, v4, v5, v6, v7, v8, v9, some v, u] H2) →
      t D [some (.ref a), some (.ref m), v2, v3, v4, v5, v6, v7, v8, v9, some v, v11] H1 := by
  have gA : (callerA.deeper (envOfC "law" (defScope sLaw) s.heap.objs.size f (.ref c))).guards = some [] := rfl
  have hr2 : Room 2 (callerA.deeper (envOfC "law" (defScope sLaw) s.heap.objs.size f (.ref c))) := hr.mono (by decide)
  have hr5 : Room 5 (callerA.deeper (envOfC "law" (defScope sLaw) s.heap.objs.size f (.ref c))) := hr.mono (by decide)
  obtain ⟨oc, od, kV, doc, pm, an, cdv, ct, osl, efd, lk, hcd⟩ := FT.ex
  subst efd
  refine ⟨_, pss_cons (ps_set (i := 11) scL.nd rfl (by first | exact Or.inl rfl | exact Or.inr rfl) (pe_callB (call_reprD gA hr.units) (by rfl) TL.repr (by decide +kernel) (pa_cons (pv 10) pa_nil)))
    (pss_one (ps_if (PW.pt (pw_or (pt_cmpR op_ne
        (pe_callB (call_reprD gA hr.units) (by rfl) TL.repr (by decide +kernel) (pa_cons (pe_lamcall (T := [(Pt, lamQ)]) (TT := TTl C) (c := c) (P := Pt) (k := 3) (t := fun E => tCall (spNeed K C) [] E (tCons (tVar 10) tNil)) (by rfl) TL.told FT.kp lk hcd bT scTo rfl (Or.inl rfl)
          (told_to TL.bad hx TX hno) TB rfl (List.mem_singleton.mpr rfl) (fun p hp _ => by rw [List.mem_singleton.mp hp]; rfl) hr5 (lamS_by (sc := defScope sLaw) (by decide +kernel)) rfl (fun _ _ _ _ _ => rfl)
          (fun A outer s H E f c' hr3 => pe_call GNd hr3 (by rfl) TL.need FNd.kp bNd .nil (passes_call (takes_of rfl rfl rfl rfl) fun _ _ _ _ h => h) (pa_cons (pv 10) pa_nil))) pa_nil))
        (pe_callB (call_reprD gA hr.units) (by rfl) TL.repr (by decide +kernel) (pa_cons (pe_call GDu hr2 rfl TL.due FDu.kp bDu .nil pass0 (pa_cons (pv 10) pa_nil)) pa_nil)) (nomark _))
      (pw_or1 (pt_cmpR op_ne (pe_callB (call_reprD gA hr.units) (by rfl) TL.repr (by decide +kernel) (pa_cons (pv 10) pa_nil)) (pv 11) (nomark _))))) (pss_one (ps_ret pe_bl)) pss_nil)), ?_⟩
  intro D H1 a m l n v d B b v2 v3 v4 v5 v6 v7 v8 v9 v11 M tb hd gd hB hb nx
  have gs : Gd (10 ^ 31) 90000 b d := gd.mono hB (Nat.le_refl _) (Nat.le_refl _)
  have sh := gs.shown (by decide)
  have dp := gs.dp
  refine ⟨_, rfl, v, d, m, l, rfl, hd, sh.1, by omega, sh.2, ?_⟩
  refine ⟨tb, fun H2 e2 t2 H3 Ec Qc s3 hE hQ => ?_⟩
  have e13 : ExtN H1 H3 := e2.trans (Same.toN s3)
  have t3 : Tabs [(Pt, lamQ)] H3 := Tabs.same t2 s3
  refine ⟨_, rfl, m, l, v, d, B, b, rfl, Dq.ext e13 hd, gd.mono (Nat.le_refl _) (by decide) (Nat.le_refl _), fun en H4 s4 => hQ v H4 fun p hp => ?_, fun u eu dx H4 h1 s4 h3 => hE dx u H4 h3 fun p hp => ?_⟩
  · have s5 : Same H4 (upd H4 p (.lst [v])) := Same.upd hp
    have e15 := e13.trans (Same.toN (s4.trans s5))
    have t5 := Tabs.same t3 (s4.trans s5)
    have M5 := Mch.ext e15 M
    have n5 := (Mch.ext (e13.trans (Same.toN s4)) M).ne hp
    have eD := due_ok en
    have gD : Gd (10 ^ 31) 90001 (b + 1) (dueD d) := by rw [eD]; exact Gd.lst (Gl'.one gs)
    have shD := gD.shown (by decide)
    have dpD := gD.dp
    have dq5 : Dq K (upd H4 p (.lst [v])) m l (.ref p) (dueD d) := by rw [eD]; exact .lst upd_same n5.1 n5.2 (.cons (Dq.ext e15 hd) .nil)
    refine ⟨.ref p, dueD d, m, l, rfl, dq5, shD.1, by omega, shD.2, ?_⟩
    refine ⟨_, rfl, m, l, n, v, d, B, b, rfl, M5, Dq.ext e15 hd, gd.mono (Nat.le_refl _) (by decide) (Nat.le_refl _), fun v' H6 s6 dq6 => ⟨v', dueD d, m, l, rfl, dq6, shD.1, by omega, shD.2, rfl, _, rfl, iteNS rfl ?_⟩⟩
    have e16 := e15.trans (Same.toN s6)
    exact ⟨_, rfl, v, d, m, l, rfl, Dq.ext e16 hd, sh.1, by omega, sh.2, _, rfl, rfl, _, rfl, iteNS rfl (nx _ H6 e16 (Tabs.same t5 s6))⟩
  · have s5 : Same H4 (upd H4 p (.tup [.str "settings", u])) := Same.upd hp
    have e15 := e13.trans (Same.toN (s4.trans s5))
    have t5 := Tabs.same t3 (s4.trans s5)
    have M5 := Mch.ext e15 M
    obtain ⟨ue, eD, pl⟩ := due_bad eu
    have gD : Gd (10 ^ 31) 1000 3 (dueD d) := by rw [eD]; exact bad_good pl
    have shD := gD.shown (by decide)
    have dpD := gD.dp
    have dq5 : Dq K (upd H4 p (.tup [.str "settings", u])) m l (.ref p) (dueD d) := by rw [eD]; exact .tup (.inl (.inl upd_same)) (.cons (.str _) (.cons pl.dq .nil))
    refine ⟨.ref p, dueD d, m, l, rfl, dq5, shD.1, by omega, shD.2, ?_⟩
    refine ⟨_, rfl, m, l, n, v, d, B, b, rfl, M5, Dq.ext e15 hd, gd.mono (Nat.le_refl _) (by decide) (Nat.le_refl _), fun v' H6 s6 dq6 => ⟨v', dueD d, m, l, rfl, dq6, shD.1, by omega, shD.2, rfl, _, rfl, iteNS rfl ?_⟩⟩
    have e16 := e15.trans (Same.toN s6)
    exact ⟨_, rfl, v, d, m, l, rfl, Dq.ext e16 hd, sh.1, by omega, sh.2, _, rfl, rfl, _, rfl, iteNS rfl (nx _ H6 e16 (Tabs.same t5 s6))⟩
end
end Ms
namespace Ms
open PySem PySem.Spec PyProof.Rows L2 LamX
/-! ### a list that is locked while its next item is made -/
section
variable {K : PySem.W.Frag} {H H' : Hp} {m l L : Addr} {n : Nat} {od : Obj} {u o : HO}
theorem upd_frz (h : H L = some (.frz od u)) {b : Addr} {w : HO} (k : ∀ od u, w ≠ .frz od u) (e : H b = some w) : upd H L o b = some w := by
  have nb : b ≠ L := fun z => by
    rw [z, h] at e
    exact k _ _ (Option.some.inj e).symm
  rw [upd_ne nb]; exact e
theorem Mch.unlock (h : H L = some (.frz od u)) (M : Mch H m l n) : Mch (upd H L o) m l n := by
  obtain ⟨c, cs, ls, z, h1, h2, h3, r⟩ := M.ex
  exact ⟨c, cs, ls, z, upd_frz h (fun _ _ z => nomatch z) h1, upd_frz h (fun _ _ z => nomatch z) h2, upd_frz h (fun _ _ z => nomatch z) h3, r⟩
theorem Tabs.unlock {T : List (Addr × Str)} (h : H L = some (.frz od u)) (t : Tabs T H) : Tabs T (upd H L o) := fun p hp => by
  obtain ⟨ps, h1, h2, h3⟩ := t p hp
  refine ⟨ps, upd_frz h (fun _ _ z => nomatch z) h1, h2, fun pos cv hc => ?_⟩
  obtain ⟨c, e1, e2⟩ := h3 pos cv hc
  refine ⟨c, e1, upd_frz h (fun _ _ z => ?_) e2⟩
  unfold CodeO at z
  cases z
theorem Dq.unlock (h : H L = some (.frz od (.lst u'))) {v : V} {d : PyData} (hd : Dq K H m l v d) : Dq K (upd H L o) m l v d := by
  refine Dq.gen (fun a xs q n1 n2 => ⟨upd_frz h (fun _ _ z => nomatch z) q, n1, n2⟩) (fun a xs q => ?_) (fun a q n1 n2 => ⟨upd_frz h (fun _ _ z => nomatch z) q, n1, n2⟩) d v hd
  rcases q with (q | ⟨o', q⟩) | q
  · exact .inl (.inl (upd_frz h (fun _ _ z => nomatch z) q))
  · have q' : H a = some (.frz o' (.tup xs)) := q
    have nb : a ≠ L := fun z => by
      rw [z, h] at q'
      cases q'
    have q2 : upd H L o a = some (.frz o' (.tup xs)) := by rw [upd_ne nb]; exact q'
    exact .inl (.inr ⟨o', q2⟩)
  · exact .inr q
theorem Tabs.fr {T : List (Addr × Str)} {l' : Addr} (M : Mch H m l n) (f : Fr m l l' H H') (t : Tabs T H) : Tabs T H' := fun p hp => by
  obtain ⟨ps, h1, h2, h3⟩ := t p hp
  obtain ⟨c0, cs, ls, z, e1, e2, e3, _⟩ := M.ex
  refine ⟨ps, f.keep _ _ h1 (ne_of h1 e1 (by intro z; cases z)) (ne_of h1 e3 (by intro z; cases z)), h2, fun pos cv hc => ?_⟩
  obtain ⟨c, q1, q2⟩ := h3 pos cv hc
  exact ⟨c, q1, f.keep _ _ q2 (ne_of q2 e1 (by intro z; unfold CodeO at z; cases z)) (ne_of q2 e3 (by intro z; unfold CodeO at z; cases z))⟩
end
/-- an item of the law's list: some data, not too great -/
def ItD (K : PySem.W.Frag) (H : Hp) (m l : Addr) (v : V) : Prop := ∃ d, Dq K H m l v d ∧ Gd (10 ^ 31) 90000 50 d
section
variable {P : Program} {w : World} {K : PySem.W.Frag} {mg : Str → Option Value} {base : Heap} {fN fM fO fB fBg fSe fDu fTo fNd C f c Pt : Addr} {fdB : FuncData} {s : Shared} {H0 : Hp} {Eb : XK}
theorem law_tail {tI : TS} (T : TxtB mg fN fM fO fB) (FB : Fun K "_law_bent" "_law_bent" sBent fB fdB) (bB : Binds K fdB ["m", "thing"] []) (GB : FnOk P w K mg base CX0 7 fB fdB ["m", "thing"] (spBent K 5))
    (hr : Room 8 (callerA.deeper (envOfC "law" (defScope sLaw) s.heap.objs.size f (.ref c))))
    (dI : PSs (cxOf CX0 P w K mg base NL "law" (defScope sLaw) f (.ref c) callerA [] s H0 Eb).nox bEach tI)
    (zI : ∀ (D : Ends) (H1 : Hp) (a m l : Addr) (n : Nat) (v : V) (d : PyData) (B b : Nat) (v2 v3 v4 v5 v6 v7 v8 v9 v11 : Option V),
      Mch H1 m l n → Tabs [(Pt, lamQ)] H1 → Dq K H1 m l v d → Gd B 90000 b d → B ≤ 10 ^ 31 → b ≤ 50 → (∀ (u : Option V) (H2 : Hp), ExtN H1 H2 → Tabs [(Pt, lamQ)] H2 → D.nx [some (.ref a), some (.ref m), v2, v3, v4, v5, v6, v7, v8, v9, some v, u] H2) →
      tI D [some (.ref a), some (.ref m), v2, v3, v4, v5, v6, v7, v8, v9, some v, v11] H1) :
    ∃ t, PSs (cxOf CX0 P w K mg base NL "law" (defScope sLaw) f (.ref c) callerA [] s H0 Eb).nox (bTurn.drop 5) t ∧ ∀ (D : Ends) (Hb : Hp) (a m l L : Addr) (n : Nat) (x0 x1 : V) (xs : List V) (d1 : PyData) (v2 v3 v4 v5 v6 v7 v8 v10 v11 : Option V),
      Mch Hb m l n → n < 500000 → Tabs [(Pt, lamQ)] Hb → Hb L = none → (∀ x ∈ (x0 :: x1 :: xs), ItD K Hb m l x) → Dq K Hb m l x1 d1 → Gd (big + 100) 2000 4 d1 → xs.length ≤ 10 →
      (∀ (v10 v11 : Option V) (l' : Addr) (H2 : Hp), Mch H2 m l' (n + 40) → Tabs [(Pt, lamQ)] H2 → D.nx [some (.ref a), some (.ref m), v2, v3, v4, v5, v6, v7, v8, some (.ref L), v10, v11] H2) →
      t D [some (.ref a), some (.ref m), v2, v3, v4, v5, v6, v7, v8, some (.ref L), v10, v11] (upd Hb L (.lst (x0 :: x1 :: xs))) := by
  have hr7 : Room 7 (callerA.deeper (envOfC "law" (defScope sLaw) s.heap.objs.size f (.ref c))) := hr.mono (by decide)
  refine ⟨_, pss_cons (ps_expr (pe_bm PySem.F.plainAttrs_list PySem.F.slot_list_append PySem.F.type_list_append mt_append (pv 9) (pa_cons (pe_lock (pe_call GB hr7 rfl T.bent FB.kp bB .nil pass0 (pa_cons (pv 1) (pa_cons (pe_ix ix_list (pv 9) pe_int (fun _ _ => rfl)) pa_nil)))) pa_nil)))
    (pss_one (ps_for PassesOwn.never rfl (pi_list (pv 9)) (pg_name (i := 10) scL.nd rfl (by first | exact Or.inl rfl | exact Or.inr rfl)) dI)), ?_⟩
  intro D Hb a m l L n x0 x1 xs d1 v2 v3 v4 v5 v6 v7 v8 v10 v11 M hn tb hL items dq1 gd1 hxs nx
  have nL := M.ne hL
  refine ⟨_, rfl, .inl ⟨rfl, _, SqL.of upd_same⟩, ?_⟩
  refine ⟨L, .lst (x0 :: x1 :: xs), upd_same, trivial, fun od => ?_⟩
  rw [upd_upd]
  have sl : Same Hb (upd Hb L (.frz od (.lst (x0 :: x1 :: xs)))) := Same.upd hL
  refine ⟨_, rfl, _, rfl, L, _, 1, x1, rfl, rfl, .inl (.inr ⟨od, upd_same⟩), atI_nat (j := 1) rfl, ?_⟩
  refine ⟨m, l, n, x1, d1, big + 100, 2000, 4, rfl, Mch.same sl M, (by show n + 8 * 5 < 700000; omega), Dq.same sl d1 x1 dq1, gd1, by decide, by decide, by decide, gd1.dp, fun y d2 l2 H5 dq2 gd2 M5 f5 => ?_⟩
  have g5 : H5 L = some (.frz od (.lst (x0 :: x1 :: xs))) := f5.keep L _ upd_same nL.1 nL.2
  refine ⟨g5, L, _, _, rfl, rfl, upd_same, ?_, ?_⟩
  · exact small1000 (by simp only [List.length_cons]; omega)
  rw [upd_upd]
  obtain ⟨H6, e6⟩ : ∃ G, G = upd H5 L (.lst ((x0 :: x1 :: xs) ++ [y])) := ⟨_, rfl⟩
  rw [← e6]
  have M6 : Mch H6 m l2 (n + 40) := e6 ▸ Mch.unlock g5 M5
  have t5 : Tabs [(Pt, lamQ)] H5 := Tabs.fr (Mch.same sl M) f5 (Tabs.same tb sl)
  have t6 : Tabs [(Pt, lamQ)] H6 := e6 ▸ Tabs.unlock g5 t5
  have k6 : Kept m l l2 Hb H6 := by
    obtain ⟨c0, cs, ls, z, e1, e2, e3, _⟩ := M.ex
    refine ⟨fun b o e h1 h2 => ?_, fun b o e hb => ?_, ⟨_, e1⟩, ⟨_, e3⟩⟩
    · rw [e6, upd_ne (ne_of_none e hL)]
      exact f5.keep b o (sl _ _ e) h1 h2
    · rcases f5.new with z | z
      · rw [z]; exact hb
      · exact ne_of_none (sl _ _ e) z
  have g6 : H6 L = some (.lst ((x0 :: x1 :: xs) ++ [y])) := by rw [e6, upd_same]
  have it6 : ∀ x ∈ ((x0 :: x1 :: xs) ++ [y]), ItD K H6 m l2 x := fun x hx => by
    rcases List.mem_append.mp hx with hx | hx
    · obtain ⟨d, h1, h2⟩ := items x hx
      exact ⟨d, Dq.step k6 d x h1, h2⟩
    · rw [List.mem_singleton.mp hx]
      exact ⟨d2, e6 ▸ Dq.unlock g5 dq2, gd2.mono (by decide) (by decide) (by decide)⟩
  clear e6 k6 t5 M5 f5 g5 sl
  refine ⟨_, rfl, L, rfl, ⟨_, SqL.of g6⟩, for_list (K := K) (a := L) (xs := (x0 :: x1 :: xs) ++ [y]) (fun i σ H7 => ∃ v10 v11 : Option V, σ = [some (.ref a), some (.ref m), v2, v3, v4, v5, v6, v7, v8, some (.ref L), v10, v11] ∧ ExtN H6 H7 ∧ Tabs [(Pt, lamQ)] H7)
    ⟨_, _, rfl, ExtN.refl H6, t6⟩ (fun i σ H7 _ ⟨_, _, _, e7, _⟩ => SqL.of (e7 _ _ g6 fun _ z => nomatch z)) ?_ ?_⟩
  · rintro i x σ H7 hi ⟨v10, v11, rfl, e7, t7⟩
    obtain ⟨d, h1, h2⟩ := it6 x (List.mem_of_getElem? hi)
    exact zI _ H7 a m l2 (n + 40) x d _ _ _ _ _ _ _ _ _ _ _ (Mch.ext e7 M6) t7 (Dq.ext e7 h1) h2 (Nat.le_refl _) (Nat.le_refl _) fun u H8 e8 t8 => ⟨_, _, rfl, e7.trans e8, t8⟩
  · rintro σ H7 ⟨v10, v11, rfl, e7, t7⟩
    exact nx v10 v11 l2 H7 (Mch.ext e7 M6) t7
end
end Ms
namespace Ms
open PySem PySem.Spec PyProof.Rows L2 LamX
/-! ### law: a turn -/
theorem pr_good : ∀ ys : List (Str × Int), okP ys → Gl' big (123 * ys.length) 1 (prD ys)
  | [], _ => ⟨(fun d h => nomatch h), Nat.le_refl _, (fun d h => nomatch h)⟩
  | q :: ys, h => by
    obtain ⟨h1, h2, h3⟩ := h q (List.mem_cons_self ..)
    have g1 : Gd big 16 0 (.str q.1) := Gd.str h1
    have g2 : Gd big 104 0 (.int q.2) := Gd.int (by show q.2.natAbs ≤ 10 ^ 30; omega) (by decide)
    have g := Gd.tup ((Gl'.one g1).app (Gl'.one g2))
    have r := (Gl'.one g).app (pr_good ys fun x hx => h x (List.mem_cons_of_mem _ hx))
    exact r.mono (Nat.le_refl _) (by simp only [List.length_cons]; omega) (Nat.le_refl _)
theorem spots_good {ys : List (Str × Int)} (h : okP ys) (l : ys.length ≤ 4) : Gd big 600 2 (.tuple (prD ys)) := (Gd.tup (pr_good ys h)).mono (Nat.le_refl _) (by omega) (Nat.le_refl _)
theorem Prs.kept {H H' : Hp} {m l l' : Addr} {as : List Addr} {ys : List (Str × Int)} (k : Kept m l l' H H') (p : Prs H as ys) : Prs H' as ys := by
  obtain ⟨z1, e1⟩ := k.am
  obtain ⟨z2, e2⟩ := k.al
  refine Prs.same (fun b o hb e => ?_) p
  obtain ⟨y, i, h⟩ := p.live b hb
  exact k.keep b o e (ne_of h e1 (by intro z; cases z)) (ne_of h e2 (by intro z; cases z))
theorem Dq.toIt {K : PySem.W.Frag} {H : Hp} {m l : Addr} {v : V} {d : PyData} {B a b : Nat} (h : Dq K H m l v d) (g : Gd B a b d) (hB : B ≤ 10 ^ 31) (ha : a ≤ 90000) (hb : b ≤ 50) : ItD K H m l v := ⟨d, h, g.mono hB ha hb⟩
section
variable {P : Program} {w : World} {K : PySem.W.Frag} {mg : Str → Option Value} {base : Heap} {fN fM fO fB fBg fSe fDu fTo fNd C f c Pt : Addr} {fdB fdN fdM fdO fdS : FuncData} {s : Shared} {H0 : Hp} {Eb : XK}
/-- some = [..] and what follows -/
theorem law_some {tT : TS} (T : TxtB mg fN fM fO fB) (FB : Fun K "_law_bent" "_law_bent" sBent fB fdB) (bB : Binds K fdB ["m", "thing"] []) (GB : FnOk P w K mg base CX0 7 fB fdB ["m", "thing"] (spBent K 5))
    (FO : Fun K "_law_odd" "_law_odd" sOdd fO fdO) (bO : Binds K fdO ["m"] []) (GO : FnOk P w K mg base CX0 2 fO fdO ["m"] (spOdd K))
    (hr : Room 8 (callerA.deeper (envOfC "law" (defScope sLaw) s.heap.objs.size f (.ref c))))
    (dT : PSs (cxOf CX0 P w K mg base NL "law" (defScope sLaw) f (.ref c) callerA [] s H0 Eb).nox (bTurn.drop 5) tT)
    (zT : ∀ (D : Ends) (Hb : Hp) (a m l L : Addr) (n : Nat) (x0 x1 : V) (xs : List V) (d1 : PyData) (v2 v3 v4 v5 v6 v7 v8 v10 v11 : Option V),
      Mch Hb m l n → n < 500000 → Tabs [(Pt, lamQ)] Hb → Hb L = none → (∀ x ∈ (x0 :: x1 :: xs), ItD K Hb m l x) → Dq K Hb m l x1 d1 → Gd (big + 100) 2000 4 d1 → xs.length ≤ 10 →
      (∀ (v10 v11 : Option V) (l' : Addr) (H2 : Hp), Mch H2 m l' (n + 40) → Tabs [(Pt, lamQ)] H2 → D.nx [some (.ref a), some (.ref m), v2, v3, v4, v5, v6, v7, v8, some (.ref L), v10, v11] H2) →
      tT D [some (.ref a), some (.ref m), v2, v3, v4, v5, v6, v7, v8, some (.ref L), v10, v11] (upd Hb L (.lst (x0 :: x1 :: xs)))) :
    ∃ t, PSs (cxOf CX0 P w K mg base NL "law" (defScope sLaw) f (.ref c) callerA [] s H0 Eb).nox (bTurn.drop 4) t ∧ ∀ (D : Ends) (H1 : Hp) (a m l : Addr) (n : Nat) (x0 x3 x4 : V) (d0 d3 d4 : PyData) (v2 v4 v5 v8 v9 v10 v11 : Option V),
      Mch H1 m l n → n < 400000 → Tabs [(Pt, lamQ)] H1 → Dq K H1 m l x0 d0 → Gd big 600 2 d0 → Dq K H1 m l x3 d3 → Gd big 600 2 d3 → Dq K H1 m l x4 d4 → Gd big 600 2 d4 →
      (∀ (v9 v10 v11 : Option V) (l' : Addr) (H2 : Hp), Mch H2 m l' (n + 200) → Tabs [(Pt, lamQ)] H2 → D.nx [some (.ref a), some (.ref m), v2, some x0, v4, v5, some x3, some x4, v8, v9, v10, v11] H2) →
      t D [some (.ref a), some (.ref m), v2, some x0, v4, v5, some x3, some x4, v8, v9, v10, v11] H1 := by
  have hr7 : Room 7 (callerA.deeper (envOfC "law" (defScope sLaw) s.heap.objs.size f (.ref c))) := hr.mono (by decide)
  have hr2 : Room 2 (callerA.deeper (envOfC "law" (defScope sLaw) s.heap.objs.size f (.ref c))) := hr.mono (by decide)
  refine ⟨_, pss_cons (ps_set (i := 9) scL.nd rfl (by first | exact Or.inl rfl | exact Or.inr rfl) (pe_lst (pa_cons (pv 3) (pa_cons (pe_call GB hr7 rfl T.bent FB.kp bB .nil pass0 (pa_cons (pv 1) (pa_cons (pv 3) pa_nil)))
    (pa_cons (pe_call GB hr7 rfl T.bent FB.kp bB .nil pass0 (pa_cons (pv 1) (pa_cons (pv 3) pa_nil))) (pa_cons (pv 6) (pa_cons (pv 7) (pa_cons (pe_call GO hr2 rfl T.odd FO.kp bO .nil pass0 (pa_cons (pv 1) pa_nil)) pa_nil)))))))) dT, ?_⟩
  intro D H1 a m l n x0 x3 x4 d0 d3 d4 v2 v4 v5 v8 v9 v10 v11 M hn tb q0 g0 q3 g3 q4 g4 nx
  refine ⟨_, rfl, _, rfl, _, rfl, m, l, n, x0, d0, big, 600, 2, rfl, M, (by show n + 8 * 5 < 700000; omega), q0, g0, Nat.le_refl _, by decide, by decide, Nat.le_trans g0.dp (by decide), fun y1 e1 l1 H2 p1 k1 M1 f1 => ?_⟩
  have s1 := M.step f1
  have q02 := Dq.step s1 d0 x0 q0
  refine ⟨_, rfl, _, rfl, m, l1, n + 40, x0, d0, big, 600, 2, rfl, M1, (by show n + 40 + 8 * 5 < 700000; omega), q02, g0, Nat.le_refl _, by decide, by decide, Nat.le_trans g0.dp (by decide), fun y2 e2 l2 H3 p2 k2 M2 f2 => ?_⟩
  have s2 := M1.step f2
  refine ⟨_, rfl, _, rfl, _, rfl, m, l2, n + 80, rfl, M2, by omega, fun y5 e5 l3 H4 p5 k5 M3 f3 => ?_⟩
  have s3 := M2.step f3
  have step3 : ∀ {v : V} {d : PyData}, Dq K H1 m l v d → Dq K H4 m l3 v d := fun {v d} h => Dq.step s3 d v (Dq.step s2 d v (Dq.step s1 d v h))
  have tb4 : Tabs [(Pt, lamQ)] H4 := Tabs.fr M2 f3 (Tabs.fr M1 f2 (Tabs.fr M f1 tb))
  have r1 : Dq K H4 m l3 y1 e1 := Dq.step s3 e1 y1 (Dq.step s2 e1 y1 p1)
  have r2 : Dq K H4 m l3 y2 e2 := Dq.step s3 e2 y2 p2
  refine ⟨(by show 6 ≤ sizeLine; decide), fun L hL => ?_⟩
  refine zT D H4 a m l3 L (n + 81) x0 y1 [y2, x3, x4, y5] e1 _ _ _ _ _ _ _ _ _ M3 (by omega) tb4 hL (fun x hx => ?_) r1 (k1.mono (by decide) (by decide) (by decide)) (by show 4 ≤ 10; decide) fun v10 v11 l' H2' M' t' => nx _ v10 v11 l' H2' (M'.mono (by omega)) t'
  simp only [List.mem_cons, List.mem_nil_iff, or_false] at hx
  rcases hx with rfl | rfl | rfl | rfl | rfl | rfl
  · exact (step3 q0).toIt g0 (by decide) (by decide) (by decide)
  · exact r1.toIt k1 (by decide) (by decide) (by decide)
  · exact r2.toIt k2 (by decide) (by decide) (by decide)
  · exact (step3 q3).toIt g3 (by decide) (by decide) (by decide)
  · exact (step3 q4).toIt g4 (by decide) (by decide) (by decide)
  · exact p5.toIt k5 (by decide) (by decide) (by decide)
/-- great = .. and what follows -/
theorem law_great {tT : TS} (T : TxtB mg fN fM fO fB) (FN : Fun K "_law_next" "_law_next" sNext fN fdN) (bN : Binds K fdN ["m", "many"] []) (GN : FnOk P w K mg base CX0 1 fN fdN ["m", "many"] spNext)
    (FM : Fun K "_law_names" "_law_names" sNames fM fdM) (bM : Binds K fdM ["m", "many"] []) (GM : FnOk P w K mg base CX0 2 fM fdM ["m", "many"] spNames)
    (hr : Room 8 (callerA.deeper (envOfC "law" (defScope sLaw) s.heap.objs.size f (.ref c))))
    (dT : PSs (cxOf CX0 P w K mg base NL "law" (defScope sLaw) f (.ref c) callerA [] s H0 Eb).nox (bTurn.drop 4) tT)
    (zT : ∀ (D : Ends) (H1 : Hp) (a m l : Addr) (n : Nat) (x0 x3 x4 : V) (d0 d3 d4 : PyData) (v2 v4 v5 v8 v9 v10 v11 : Option V),
      Mch H1 m l n → n < 400000 → Tabs [(Pt, lamQ)] H1 → Dq K H1 m l x0 d0 → Gd big 600 2 d0 → Dq K H1 m l x3 d3 → Gd big 600 2 d3 → Dq K H1 m l x4 d4 → Gd big 600 2 d4 →
      (∀ (v9 v10 v11 : Option V) (l' : Addr) (H2 : Hp), Mch H2 m l' (n + 200) → Tabs [(Pt, lamQ)] H2 → D.nx [some (.ref a), some (.ref m), v2, some x0, v4, v5, some x3, some x4, v8, v9, v10, v11] H2) →
      tT D [some (.ref a), some (.ref m), v2, some x0, v4, v5, some x3, some x4, v8, v9, v10, v11] H1) :
    ∃ t, PSs (cxOf CX0 P w K mg base NL "law" (defScope sLaw) f (.ref c) callerA [] s H0 Eb).nox (bTurn.drop 3) t ∧ ∀ (D : Ends) (H1 : Hp) (a m l : Addr) (n : Nat) (x0 x3 : V) (d0 d3 : PyData) (v2 v4 v5 v7 v8 v9 v10 v11 : Option V),
      Mch H1 m l n → n < 300000 → Tabs [(Pt, lamQ)] H1 → Dq K H1 m l x0 d0 → Gd big 600 2 d0 → Dq K H1 m l x3 d3 → Gd big 600 2 d3 →
      (∀ (x4 v9 v10 v11 : Option V) (l' : Addr) (H2 : Hp), Mch H2 m l' (n + 300) → Tabs [(Pt, lamQ)] H2 → D.nx [some (.ref a), some (.ref m), v2, some x0, v4, v5, some x3, x4, v8, v9, v10, v11] H2) →
      t D [some (.ref a), some (.ref m), v2, some x0, v4, v5, some x3, v7, v8, v9, v10, v11] H1 := by
  have hr2 : Room 2 (callerA.deeper (envOfC "law" (defScope sLaw) s.heap.objs.size f (.ref c))) := hr.mono (by decide)
  have hr1 : Room 1 (callerA.deeper (envOfC "law" (defScope sLaw) s.heap.objs.size f (.ref c))) := hr.mono (by decide)
  refine ⟨_, pss_cons (ps_set (i := 7) scL.nd rfl (by first | exact Or.inl rfl | exact Or.inr rfl) (pe_callTy call_tuple_of (by rfl) T.tuple (by decide +kernel) (pa_cons (pe_lc (own := [("name", 8)]) (g := gName 8) (by rfl) scL.nd
      (pi_list (pe_call GM hr2 rfl T.names FM.kp bM .nil pass0 (pa_cons (pv 1) (pa_cons (pe_op op_add pe_int (pe_call GN hr1 rfl T.next FN.kp bN .nil pass0 (pa_cons (pv 1) (pa_cons pe_int pa_nil)))) pa_nil))))
      (blkOk_by (own := [("name", 8)]) (N := NL) (sc := defScope sLaw) (by decide +kernel)) (fun _ _ _ _ _ => pg_name (i := 8) scL.nd rfl (by first | exact Or.inl rfl | exact Or.inr rfl)) (fun _ _ _ _ _ => pts_nil)
      (fun _ _ _ _ _ => pe_tup (pa_cons (pv 8) (pa_cons (pe_op op_add pe_int (pe_lock (pe_call GN hr1 rfl T.next FN.kp bN .nil pass0 (pa_cons (pv 1) (pa_cons pe_int pa_nil))))) pa_nil)))) pa_nil))) dT, ?_⟩
  intro D H1 a m l n x0 x3 d0 d3 v2 v4 v5 v7 v8 v9 v10 v11 M hn tb q0 g0 q3 g3 nx
  refine ⟨_, rfl, _, rfl, m, l, n, 3, rfl, M, by omega, by decide, by decide, fun r l1 H2 r0 r3 M1 f1 => ?_⟩
  obtain ⟨k, rfl⟩ : ∃ k : Nat, r = (k : Int) := ⟨r.toNat, by omega⟩
  refine ⟨_, _, rfl, rfl, m, l1, n + 1, 2 + k, ?_, M1, by omega, by omega, by omega, fun N ys l2 H3 hN gN yl yo nm nl M2 f2 => ?_⟩
  · show [V.ref m, V.int (2 + (k : Int))] = [V.ref m, V.int ((2 + k : Nat) : Int)]
    rw [Int.natCast_add]; rfl
  have s12 := M.step (f1.trans f2)
  have t2 : Tabs [(Pt, lamQ)] H3 := Tabs.fr M (f1.trans f2) tb
  have q02 := Dq.step s12 d0 x0 q0
  have q32 := Dq.step s12 d3 x3 q3
  refine ⟨N, rfl, ⟨_, SqL.of gN⟩, fun D2 hD2 => ?_⟩
  have nD := M2.ne hD2
  have od0 : Obj := { cls := .none, data := .plain }
  have sB : Same H3 (upd H3 D2 (.frz od0 (.lst []))) := Same.upd hD2
  refine lc_it (walk_list (xs := ys.map V.str)) (fun i H4 => ∃ (Hb : Hp) (od : Obj) (u : List V) (as : List Addr) (ms : List Int) (l3 : Addr), Hb D2 = some (.frz od (.lst u)) ∧ H4 = upd Hb D2 (.lst (as.map V.ref)) ∧ ms.length = i ∧ (∀ x ∈ ms, 1 ≤ x ∧ x ≤ 3) ∧ Prs Hb as ((ys.take i).zip ms) ∧ Mch Hb m l3 (n + 12 + i) ∧
      D2 ≠ l3 ∧ Hb N = some (.lst (ys.map V.str)) ∧ N ≠ l3 ∧ N ≠ D2 ∧ Tabs [(Pt, lamQ)] Hb ∧ Dq K Hb m l3 x0 d0 ∧ Dq K Hb m l3 x3 d3)
    ⟨_, od0, [], [], [], l2, upd_same, by rw [upd_upd]; rfl, rfl, (fun x hx => nomatch hx), by rw [List.take_zero]; exact .nil, Mch.same sB M2, nD.2, sB _ _ gN, nl, ne_of_none gN hD2, Tabs.same t2 sB, Dq.same sB d0 x0 q02, Dq.same sB d3 x3 q32⟩ (fun i H4 _ ⟨Hb, od, u, as, ms, l3, gD, e4, ml, mo, pr, M4, nDl, gN4, nNl, nND, _⟩ => SqL.of (by rw [e4, upd_ne nND]; exact gN4)) ?_ ?_
  · rintro i x H4 H5 hi ⟨Hb, od, u, as, ms, l3, gD, e4, ml, mo, pr, M4, nDl, gN4, nNl, nND, t4, q04, q34⟩ ⟨rfl, hx⟩
    have hi' : i < ys.length := by rw [List.length_map] at hi; exact hi
    have ex : x = .str ys[i] := by
      rw [List.getElem?_map, List.getElem?_eq_getElem hi'] at hx
      exact (Option.some.inj hx).symm
    subst ex
    have g4 : H5 D2 = some (.lst (as.map V.ref)) := by rw [e4, upd_same]
    refine ⟨rfl, tyes ⟨_, rfl, D2, .lst (as.map V.ref), g4, trivial, fun od2 => ?_⟩⟩
    have el : upd H5 D2 (.frz od2 (.lst (as.map V.ref))) = upd Hb D2 (.frz od2 (.lst (as.map V.ref))) := by rw [e4, upd_upd]
    rw [el]
    refine ⟨_, rfl, m, l3, n + 12 + i, 3, rfl, Mch.unlock gD M4, by omega, by decide, by decide, fun r l4 H6 r0 r3 M5 f5 => ?_⟩
    have k5 := (Mch.unlock (o := .frz od2 (.lst (as.map V.ref))) gD M4).step f5
    have gD6 : H6 D2 = some (.frz od2 (.lst (as.map V.ref))) := k5.keep _ _ upd_same nD.1 nDl
    refine ⟨gD6, _, _, rfl, rfl, (by show 2 ≤ sizeLine; decide), fun p hp => ?_⟩
    have nDp : p ≠ D2 := fun e => by rw [e, upd_same] at hp; cases hp
    have hp6 : H6 p = none := by rw [upd_ne nDp] at hp; exact hp
    have sp : Same H6 (upd H6 p (.tup [.str ys[i], .int (1 + r)])) := Same.upd hp6
    have up : ∀ {b : Addr} {o : HO}, Hb b = some o → b ≠ D2 → b ≠ m → b ≠ l3 → H6 b = some o := fun {b o} e n1 n2 n3 => k5.keep b o (by rw [upd_ne n1]; exact e) n2 n3
    have nN : N ≠ m := by
      obtain ⟨c0, cs, ls, z, e1, _⟩ := M4.ex
      exact ne_of gN4 e1 (by intro z; cases z)
    have pr6 : Prs H6 as ((ys.take i).zip ms) := Prs.kept k5 (Prs.same (fun b o hb e => by
      obtain ⟨y, j, h⟩ := pr.live b hb
      have nb : b ≠ D2 := ne_of h gD (by intro z; cases z)
      rw [upd_ne nb]; exact e) pr)
    have al : as.length ≤ 10 := by
      have := pr.length
      rw [this, List.length_zip]; omega
    have comm : upd (upd (upd H6 D2 (.lst (as.map V.ref))) p (.tup [.str ys[i], .int (1 + r)])) D2 (.lst (as.map V.ref ++ [.ref p])) = upd (upd H6 p (.tup [.str ys[i], .int (1 + r)])) D2 (.lst ((as ++ [p]).map V.ref)) := by
      funext b
      by_cases h1 : b = D2
      · subst h1; rw [upd_same, upd_same, List.map_append]; rfl
      · rw [upd_ne h1, upd_ne h1]
        by_cases h2 : b = p
        · subst h2; rw [upd_same, upd_same]
        · rw [upd_ne h2, upd_ne h2, upd_ne h1]
    refine ⟨_, by rw [upd_ne nDp.symm]; exact upd_same, small1000 (by rw [List.length_map]; omega), upd H6 p (.tup [.str ys[i], .int (1 + r)]), od2, _, as ++ [p], ms ++ [1 + r], l4, sp _ _ gD6, comm, by rw [List.length_append, ml]; rfl, ?_, ?_, (Mch.same sp M5).mono (by omega), k5.ne _ _ upd_same nDl, sp _ _ (up gN4 nND nN nNl), k5.ne _ _ (by rw [upd_ne nND]; exact gN4) nNl, nND,
      Tabs.same (Tabs.fr (Mch.unlock gD M4) f5 (Tabs.unlock gD t4)) sp, Dq.same sp d0 x0 (Dq.step k5 d0 x0 (Dq.unlock gD q04)), Dq.same sp d3 x3 (Dq.step k5 d3 x3 (Dq.unlock gD q34))⟩
    · intro x hx
      rcases List.mem_append.mp hx with hx | hx
      · exact mo x hx
      · rw [List.mem_singleton.mp hx]; omega
    · have ti : ys.take (i + 1) = ys.take i ++ [ys[i]] := by rw [List.take_succ, List.getElem?_eq_getElem hi']; rfl
      have lt : (ys.take i).length = ms.length := by rw [List.length_take]; omega
      rw [ti, List.zip_append lt]
      exact (Prs.same (fun b o _ e => sp b o e) pr6).snoc upd_same
  · rintro H4 ⟨Hb, od, u, as, ms, l3, gD, e4, ml, mo, pr, M4, nDl, gN4, nNl, nND, t4, q04, q34⟩
    rw [List.length_map] at ml M4 pr
    rw [List.take_length] at pr
    refine ⟨D2, _, rfl, .inl ⟨SqL.of (by rw [e4, upd_same]), fun p hp => ?_⟩⟩
    have nDp : p ≠ D2 := fun e => by rw [e, e4, upd_same] at hp; cases hp
    have hpb : Hb p = none := by rw [e4, upd_ne nDp] at hp; exact hp
    have sp : Same Hb (upd Hb p (.tup (as.map V.ref))) := Same.upd hpb
    have comm : upd H4 p (.tup (as.map V.ref)) = upd (upd Hb p (.tup (as.map V.ref))) D2 (.lst (as.map V.ref)) := by
      rw [e4]
      funext b
      by_cases h2 : b = p
      · subst h2; rw [upd_same, upd_ne nDp, upd_same]
      · rw [upd_ne h2]
        by_cases h1 : b = D2
        · subst h1; rw [upd_same, upd_same]
        · rw [upd_ne h1, upd_ne h1, upd_ne h2]
    rw [comm]
    have gD2 : (upd Hb p (.tup (as.map V.ref))) D2 = some (.frz od (.lst u)) := sp _ _ gD
    have okz : okP (ys.zip ms) := fun q hq => by
      have := List.of_mem_zip hq
      exact ⟨yo _ this.1, mo _ this.2⟩
    have d4 : Dq K (upd Hb p (.tup (as.map V.ref))) m l3 (.ref p) (.tuple (prD (ys.zip ms))) := .tup (.inl (.inl upd_same)) (Prs.same (fun b o _ e => sp b o e) pr).dq
    have g4 : Gd big 600 2 (.tuple (prD (ys.zip ms))) := spots_good okz (by rw [List.length_zip]; omega)
    refine zT D _ a m l3 (n + 12 + ys.length) x0 x3 (.ref p) d0 d3 _ _ _ _ _ _ _ _ (Mch.unlock gD2 (Mch.same sp M4)) (by omega) (Tabs.unlock gD2 (Tabs.same t4 sp)) (Dq.unlock gD2 (Dq.same sp d0 x0 q04)) g0 (Dq.unlock gD2 (Dq.same sp d3 x3 q34)) g3 (Dq.unlock gD2 d4) g4 fun v9 v10 v11 l' H2' M' t' => nx _ v9 v10 v11 l' H2' (M'.mono (by omega)) t'
end
end Ms
namespace Ms
open PySem PySem.Spec PyProof.Rows L2 LamX
/-! ### law: a turn from its beginning, and the law -/
section
variable {P : Program} {w : World} {K : PySem.W.Frag} {mg : Str → Option Value} {base : Heap} {fN fM fO fB fBg fSe fDu fTo fNd C f c Pt : Addr} {fdB fdN fdM fdO fdS : FuncData} {s : Shared} {H0 : Hp} {Eb : XK}
theorem okP_mid {ys : List (Str × Int)} {q : Str × Int} {i : Nat} (h : okP ys) (hq : sOk 16 q.1 ∧ 1 ≤ q.2 ∧ q.2 ≤ 3) : okP ((ys.take i ++ [q]) ++ ys.drop (i + 1)) := fun x hx => by
  rcases List.mem_append.mp hx with hx | hx
  · rcases List.mem_append.mp hx with hx | hx
    · exact h x (List.mem_of_mem_take hx)
    · rw [List.mem_singleton.mp hx]; exact hq
  · exact h x (List.mem_of_mem_drop hx)
theorem prD_mid {ys : List (Str × Int)} {q : Str × Int} {i : Nat} : prD ((ys.take i ++ [q]) ++ ys.drop (i + 1)) = ((prD ys).take i ++ [.tuple [.str q.1, .int q.2]]) ++ (prD ys).drop (i + 1) := by
  unfold prD
  rw [List.map_append, List.map_append, List.map_take, List.map_drop]
  rfl
theorem law_twin {tT : TS} (T : TxtB mg fN fM fO fB) (FN : Fun K "_law_next" "_law_next" sNext fN fdN) (bN : Binds K fdN ["m", "many"] []) (GN : FnOk P w K mg base CX0 1 fN fdN ["m", "many"] spNext)
    (hr : Room 8 (callerA.deeper (envOfC "law" (defScope sLaw) s.heap.objs.size f (.ref c))))
    (dT : PSs (cxOf CX0 P w K mg base NL "law" (defScope sLaw) f (.ref c) callerA [] s H0 Eb).nox (bTurn.drop 3) tT)
    (zT : ∀ (D : Ends) (H1 : Hp) (a m l : Addr) (n : Nat) (x0 x3 : V) (d0 d3 : PyData) (v2 v4 v5 v7 v8 v9 v10 v11 : Option V),
      Mch H1 m l n → n < 300000 → Tabs [(Pt, lamQ)] H1 → Dq K H1 m l x0 d0 → Gd big 600 2 d0 → Dq K H1 m l x3 d3 → Gd big 600 2 d3 →
      (∀ (x4 v9 v10 v11 : Option V) (l' : Addr) (H2 : Hp), Mch H2 m l' (n + 300) → Tabs [(Pt, lamQ)] H2 → D.nx [some (.ref a), some (.ref m), v2, some x0, v4, v5, some x3, x4, v8, v9, v10, v11] H2) →
      tT D [some (.ref a), some (.ref m), v2, some x0, v4, v5, some x3, v7, v8, v9, v10, v11] H1) :
    ∃ t, PSs (cxOf CX0 P w K mg base NL "law" (defScope sLaw) f (.ref c) callerA [] s H0 Eb).nox (bTurn.drop 2) t ∧ ∀ (D : Ends) (H1 : Hp) (a m l p : Addr) (n i j : Nat) (as : List Addr) (ys : List (Str × Int)) (v2 v6 v7 v8 v9 v10 v11 : Option V),
      Mch H1 m l n → n < 200000 → Tabs [(Pt, lamQ)] H1 → H1 p = some (.tup (as.map V.ref)) → Prs H1 as ys → okP ys → ys.length ≤ 3 → i < ys.length → j < ys.length →
      (∀ (v6 v7 v8 v9 v10 v11 : Option V) (l' : Addr) (H2 : Hp), Mch H2 m l' (n + 400) → Tabs [(Pt, lamQ)] H2 → D.nx [some (.ref a), some (.ref m), v2, some (.ref p), some (.int i), some (.int j), v6, v7, v8, v9, v10, v11] H2) →
      t D [some (.ref a), some (.ref m), v2, some (.ref p), some (.int i), some (.int j), v6, v7, v8, v9, v10, v11] H1 := by
  have hr1 : Room 1 (callerA.deeper (envOfC "law" (defScope sLaw) s.heap.objs.size f (.ref c))) := hr.mono (by decide)
  refine ⟨_, pss_cons (ps_set (i := 6) scL.nd rfl (by first | exact Or.inl rfl | exact Or.inr rfl) (pe_op op_catA (pe_op op_catA (pe_slice sl_tupA (pv 3) po_none (po_some (pv 4)))
      (pe_tup (pa_cons (pe_tup (pa_cons (pe_ix ix_tup (pe_ix ix_tup (pv 3) (pv 5) (fun _ _ => rfl)) pe_int (fun _ _ => rfl)) (pa_cons (pe_op op_add pe_int (pe_call GN hr1 rfl T.next FN.kp bN .nil pass0 (pa_cons (pv 1) (pa_cons pe_int pa_nil)))) pa_nil))) pa_nil)))
      (pe_slice sl_tupA (pv 3) (po_some (pe_op op_add (pv 4) pe_int)) po_none))) dT, ?_⟩
  intro D H1 a m l p n i j as ys v2 v6 v7 v8 v9 v10 v11 M hn tb gp pr ok ly hi hj nx
  have la := pr.length
  have hp : SqT K H1 p (as.map V.ref) := .inl (.inl gp)
  obtain ⟨b, hb⟩ : ∃ b, as[j]? = some b := ⟨_, List.getElem?_eq_getElem (by omega)⟩
  obtain ⟨z, kz, hq, gb⟩ := pr.get hb
  have okq := ok _ (List.mem_of_getElem? hq)
  have lm : (as.map V.ref).length = as.length := List.length_map ..
  refine ⟨_, rfl, _, rfl, _, rfl, slA_any hp fun p1 H2 s2 c2 => ?_⟩
  rw [cut_to (by omega)] at c2
  have hv : (as.map V.ref)[j]? = some (.ref b) := by rw [List.getElem?_map, hb]; rfl
  refine ⟨_, rfl, _, rfl, p, _, (j : Int), .ref b, rfl, rfl, Same.seqT s2 hp, atI_nat hv, b, _, 0, .str z, rfl, rfl, .inl (.inl (s2 _ _ gb)), rfl, ?_⟩
  refine ⟨_, rfl, m, l, n, 3, rfl, Mch.same s2 M, by omega, by decide, by decide, fun r l2 H3 r0 r3 M3 f3 => ?_⟩
  have k3 := (Mch.same s2 M).step f3
  refine ⟨_, _, rfl, rfl, (by show 2 ≤ sizeLine; decide), fun p2 h2 => ?_⟩
  have s4 : Same H3 (upd H3 p2 (.tup [.str z, .int (1 + r)])) := Same.upd h2
  refine ⟨(by show 1 ≤ sizeLine; decide), fun p3 h3 => ?_⟩
  obtain ⟨H5, e5⟩ : ∃ G, G = upd (upd H3 p2 (.tup [.str z, .int (1 + r)])) p3 (.tup [.ref p2]) := ⟨_, rfl⟩
  have s5 : Same (upd H3 p2 (.tup [.str z, .int (1 + r)])) H5 := e5 ▸ Same.upd h3
  have g3 : H5 p3 = some (.tup [.ref p2]) := by rw [e5, upd_same]
  have g2 : H5 p2 = some (.tup [.str z, .int (1 + r)]) := s5 _ _ upd_same
  rw [← e5]
  clear e5
  have s35 := s4.trans s5
  refine catA_any (Same.seqT s35 (k3.tup c2)) (.inl (.inl g3)) (Nat.le_of_lt (small1000 (by simp; omega))) fun p4 H6 s6 c6 => ?_
  have hp6 : SqT K H6 p (as.map V.ref) := Same.seqT s6 (Same.seqT s35 (k3.tup (Same.seqT s2 hp)))
  refine ⟨_, rfl, _, rfl, _, _, rfl, rfl, _, rfl, ?_⟩
  refine noPart ?_
  refine slA_any hp6 fun p7 H7 s7 c7 => ?_
  rw [cut_from1 (by omega)] at c7
  refine catA_any (Same.seqT s7 c6) c7 (Nat.le_of_lt (small1000 (by simp; omega))) fun p8 H8 s8 c8 => ?_
  have sF := ((s35.trans s6).trans s7).trans s8
  have F8 := (Fr.lead s2 f3).trail sF
  have k8 := M.step F8
  have pr8 := Prs.kept k8 pr
  have M8 := Mch.same sF M3
  have d0 : Dq K H8 m l2 (.ref p) (.tuple (prD ys)) := .tup (k8.tup hp) pr8.dq
  have dq8 : DqAll K H8 m l2 (as.map V.ref) (prD ys) := pr8.dq
  have g8 := (((s6.trans s7).trans s8) _ _ g2)
  have d3 : Dq K H8 m l2 (.ref p8) (.tuple (prD ((ys.take i ++ [(z, 1 + r)]) ++ ys.drop (i + 1)))) := by
    rw [prD_mid]
    exact .tup c8 (((dq8.take i).app (.cons (.tup (.inl (.inl g8)) (.cons (.str _) (.cons (.int _) .nil))) .nil)).app (dq8.drop (i + 1)))
  exact zT D H8 a m l2 (n + 1) (.ref p) (.ref p8) _ _ _ _ _ _ _ _ _ _ M8 (by omega) (Tabs.fr M F8 tb) d0 (spots_good ok (by omega)) d3 (spots_good (okP_mid ok ⟨okq.1, by show 1 ≤ 1 + r; omega, by show 1 + r ≤ 3; omega⟩) (by simp; omega)) fun x4 v9 v10 v11 l' H2' M' t' => nx _ x4 _ v9 v10 v11 l' H2' (M'.mono (by omega)) t'
theorem law_turn {tT : TS} (T : TxtB mg fN fM fO fB) (TL : TL1 mg fBg fSe fDu fTo fNd C) (FN : Fun K "_law_next" "_law_next" sNext fN fdN) (bN : Binds K fdN ["m", "many"] []) (GN : FnOk P w K mg base CX0 1 fN fdN ["m", "many"] spNext)
    (FS : Fun K "_law_settings" "_law_settings" sSettings fSe fdS) (bS : Binds K fdS ["m"] []) (GS : FnOk P w K mg base CX0 3 fSe fdS ["m"] spSettings)
    (hr : Room 8 (callerA.deeper (envOfC "law" (defScope sLaw) s.heap.objs.size f (.ref c))))
    (dT : PSs (cxOf CX0 P w K mg base NL "law" (defScope sLaw) f (.ref c) callerA [] s H0 Eb).nox (bTurn.drop 2) tT)
    (zT : ∀ (D : Ends) (H1 : Hp) (a m l p : Addr) (n i j : Nat) (as : List Addr) (ys : List (Str × Int)) (v2 v6 v7 v8 v9 v10 v11 : Option V),
      Mch H1 m l n → n < 200000 → Tabs [(Pt, lamQ)] H1 → H1 p = some (.tup (as.map V.ref)) → Prs H1 as ys → okP ys → ys.length ≤ 3 → i < ys.length → j < ys.length →
      (∀ (v6 v7 v8 v9 v10 v11 : Option V) (l' : Addr) (H2 : Hp), Mch H2 m l' (n + 400) → Tabs [(Pt, lamQ)] H2 → D.nx [some (.ref a), some (.ref m), v2, some (.ref p), some (.int i), some (.int j), v6, v7, v8, v9, v10, v11] H2) →
      tT D [some (.ref a), some (.ref m), v2, some (.ref p), some (.int i), some (.int j), v6, v7, v8, v9, v10, v11] H1) :
    ∃ t, PSs (cxOf CX0 P w K mg base NL "law" (defScope sLaw) f (.ref c) callerA [] s H0 Eb).nox bTurn t ∧ ∀ (D : Ends) (H1 : Hp) (a m l : Addr) (n : Nat) (v2 v3 v4 v5 v6 v7 v8 v9 v10 v11 : Option V),
      Mch H1 m l n → n < 100000 → Tabs [(Pt, lamQ)] H1 →
      (∀ (v3 v4 v5 v6 v7 v8 v9 v10 v11 : Option V) (l' : Addr) (H2 : Hp), Mch H2 m l' (n + 500) → Tabs [(Pt, lamQ)] H2 → D.nx [some (.ref a), some (.ref m), v2, v3, v4, v5, v6, v7, v8, v9, v10, v11] H2) →
      t D [some (.ref a), some (.ref m), v2, v3, v4, v5, v6, v7, v8, v9, v10, v11] H1 := by
  have hr1 : Room 1 (callerA.deeper (envOfC "law" (defScope sLaw) s.heap.objs.size f (.ref c))) := hr.mono (by decide)
  have hr3 : Room 3 (callerA.deeper (envOfC "law" (defScope sLaw) s.heap.objs.size f (.ref c))) := hr.mono (by decide)
  refine ⟨_, pss_cons (ps_set (i := 3) scL.nd rfl (by first | exact Or.inl rfl | exact Or.inr rfl) (pe_call GS hr3 rfl TL.settings FS.kp bS .nil pass0 (pa_cons (pv 1) pa_nil)))
    (pss_cons (ps_par (i := 4) (j := 5) (by rfl) scL.nd rfl rfl (by decide) rfl rfl (pa_cons (pe_call GN hr1 rfl T.next FN.kp bN .nil pass0 (pa_cons (pv 1) (pa_cons (pe_callB call_len (by rfl) T.len PySem.boot_len (pa_cons (pv 3) pa_nil)) pa_nil))) (pa_cons (pe_call GN hr1 rfl T.next FN.kp bN .nil pass0 (pa_cons (pv 1) (pa_cons (pe_callB call_len (by rfl) T.len PySem.boot_len (pa_cons (pv 3) pa_nil)) pa_nil))) pa_nil)) (by rfl)) dT), ?_⟩
  intro D H1 a m l n v2 v3 v4 v5 v6 v7 v8 v9 v10 v11 M hn tb nx
  refine ⟨_, rfl, m, l, n, rfl, M, by omega, fun p as ys l1 H2 gp pr y1 y3 ok M1 f1 => ?_⟩
  have la := pr.length
  have lm : (as.map V.ref).length = as.length := List.length_map ..
  refine ⟨_, rfl, _, rfl, _, _, rfl, .inr ⟨_, .inl (.inl gp), rfl⟩, m, l1, n + 12, ((as.map V.ref).length : Int), rfl, M1, by omega, by omega, by omega, fun r l2 H3 r0 r1 M2 f2 => ?_⟩
  obtain ⟨i, rfl⟩ : ∃ i : Nat, r = (i : Int) := ⟨r.toNat, by omega⟩
  have k2 := M1.step f2
  have gp3 : H3 p = some (.tup (as.map V.ref)) := by
    obtain ⟨z1, e1⟩ := k2.am
    obtain ⟨z2, e2⟩ := k2.al
    exact k2.keep p _ gp (ne_of gp e1 (by intro z; cases z)) (ne_of gp e2 (by intro z; cases z))
  refine ⟨_, rfl, _, rfl, _, _, rfl, .inr ⟨_, .inl (.inl gp3), rfl⟩, m, l2, n + 12 + 1, ((as.map V.ref).length : Int), rfl, M2, by omega, by omega, by omega, fun r l3 H4 r0' r1' M3 f3 => ?_⟩
  obtain ⟨j, rfl⟩ : ∃ j : Nat, r = (j : Int) := ⟨r.toNat, by omega⟩
  have k3 := M2.step f3
  have gp4 : H4 p = some (.tup (as.map V.ref)) := by
    obtain ⟨z1, e1⟩ := k3.am
    obtain ⟨z2, e2⟩ := k3.al
    exact k3.keep p _ gp3 (ne_of gp3 e1 (by intro z; cases z)) (ne_of gp3 e2 (by intro z; cases z))
  refine ⟨_, _, rfl, ?_⟩
  exact zT D H4 a m l3 p (n + 14) i j as ys _ _ _ _ _ _ _ M3 (by omega) (Tabs.fr M2 f3 (Tabs.fr M1 f2 (Tabs.fr M f1 tb))) gp4 (Prs.kept k3 (Prs.kept k2 pr)) ok y3 (by omega) (by omega) fun v6 v7 v8 v9 v10 v11 l' H2' M' t' => nx _ _ _ v6 v7 v8 v9 v10 v11 l' H2' (M'.mono (by omega)) t'
end
end Ms
namespace Ms
open PySem PySem.Spec PyProof.Rows L2 LamX
section
variable {P : Program} {w : World} {K : PySem.W.Frag} {mg : Str → Option Value} {fN fM fO fB fW fA fBg fSe fDu fTo fNd C fE f c Pt pI pN pS pA pG : Addr}
theorem ok_law {fd fdBg fdN fdM fdS fdO fdB fdW fdA fdDu fdTo fdI fdPn fdPs fdNd fdPa fdPg fdE : FuncData} {qual : Str} (T : TxtD mg fN fM fO fB fW fA) (TP : TxtP mg pI pN pS pA pG) (TL : TL1 mg fBg fSe fDu fTo fNd C) (F : Fun K "law" "law" sLaw f fd) (hc : fd.code = .ref c)
    (bL : ∀ (s : Shared) (u : Value), BindsTo s fd ⟨[u], []⟩ [("script", u)])
    (FBg : Fun K "_law_begun" "_law_begun" sBegun fBg fdBg) (bBg : Binds K fdBg ["script"] []) (FN : Fun K "_law_next" "_law_next" sNext fN fdN) (bN : Binds K fdN ["m", "many"] []) (FM : Fun K "_law_names" "_law_names" sNames fM fdM) (bM : Binds K fdM ["m", "many"] [])
    (FS : Fun K "_law_settings" "_law_settings" sSettings fSe fdS) (bS : Binds K fdS ["m"] []) (FO : Fun K "_law_odd" "_law_odd" sOdd fO fdO) (bO : Binds K fdO ["m"] []) (FB : Fun K "_law_bent" "_law_bent" sBent fB fdB) (bB : Binds K fdB ["m", "thing"] [])
    (FW : Fun K "_law_is_whole" "_law_is_whole" sIsWhole fW fdW) (bW : Binds K fdW ["thing", "least", "most"] []) (FA : Fun K "_law_is_name" "_law_is_name" sIsName fA fdA) (bA : Binds K fdA ["thing"] []) (FDu : Fun K "_law_due" "_law_due" sDue fDu fdDu) (bDu : Binds K fdDu ["thing"] [])
    (FT : Fun K "_law_told" "_law_told" sTold fTo fdTo) (bT : Binds K fdTo ["call"] []) (FI : Fun K "is_int" "is_int" sPInt pI fdI) (bI : Binds K fdI ["thing"] []) (FPn : Fun K "is_name" "is_name" sPName pN fdPn) (bPn : Binds K fdPn ["thing"] []) (FPs : Fun K "is_setting" "is_setting" sPSet pS fdPs) (bPs : Binds K fdPs ["thing"] [])
    (FNd : Fun K "need_settings" "need_settings" sNeed fNd fdNd) (bNd : Binds K fdNd ["thing"] []) (FPa : Fun K "names_of" "names_of" sPNames pA fdPa) (bPa : Binds K fdPa ["settings"] []) (FPg : Fun K "grid_of" "grid_of" sPGrid pG fdPg) (bPg : Binds K fdPg ["settings"] [])
    (FE : Fun K "__init__" qual sIni fE fdE) (bE : Binds K fdE ["self", "place"] []) (gC : mg "BadSettings" = some (.ref C)) (TE : ErrC K C fE) (hx : PySem.W.exmOne K (.ref C) (.ref C) = some true) (TX : XfC K C) (hno : PySem.W.findIn K (.ref C) "place" = some none) : LawRunT P w K mg f c Pt := by
  intro base H s a ns kin glob TB hT hS hlen st0
  have GBg : FnOk P w K mg base CX0 1 fBg fdBg ["script"] (spBegun K) := ok_begun FBg T.toTxt
  have GN : FnOk P w K mg base CX0 1 fN fdN ["m", "many"] spNext := ok_next FN T.toTxt
  have GM : FnOk P w K mg base CX0 2 fM fdM ["m", "many"] spNames := ok_names FM T.toTxtN FN bN
  have GS : FnOk P w K mg base CX0 3 fSe fdS ["m"] spSettings := ok_settings FS T.toTxtS FN bN FM bM
  have GO : FnOk P w K mg base CX0 2 fO fdO ["m"] (spOdd K) := ok_odd FO T.toTxtS FN bN
  have GB : FnOk P w K mg base CX0 7 fB fdB ["m", "thing"] (spBent K 5) := ok_bent FB bB T.toTxtB FN bN FO bO 5
  have GDu : FnOk P w K mg base CX0 2 fDu fdDu ["thing"] (spDue K) := ok_due FDu T FW bW FA bA
  have GNd : FnOk P w K mg base (L2.CX P w) 3 fNd fdNd ["thing"] (spNeed K C) := ok_need FNd TP gC TE FI bI FPn bPn FPs bPs FPa bPa FPg bPg FE bE
  refine run_code (k := 8) (N := NL) (ps := ["script"]) (us := [.ref a]) (vs := [.ref a]) F scL rfl ⟨rfl, by decide, by decide⟩ st0 (bL s _) (.cons rfl .nil) rfl fun cdv ec hr => ?_
  have ecv : cdv = .ref c := ec.symm.trans hc
  subst ecv
  obtain ⟨t1, d1, z1⟩ := law_inner (H0 := H) (s := s) (f := f) (c := c) (Pt := Pt) (Eb := fun _ _ _ => False) TL FDu bDu GDu FNd bNd GNd FT bT hx TX hno TB hr
  obtain ⟨t2, d2, z2⟩ := law_tail (H0 := H) (Pt := Pt) T.toTxtB FB bB GB hr d1 z1
  obtain ⟨t3, d3, z3⟩ := law_some (H0 := H) (Pt := Pt) T.toTxtB FB bB GB FO bO GO hr d2 z2
  obtain ⟨t4, d4, z4⟩ := law_great (H0 := H) (Pt := Pt) T.toTxtB FN bN GN FM bM GM hr d3 z3
  obtain ⟨t5, d5, z5⟩ := law_twin (H0 := H) (Pt := Pt) T.toTxtB FN bN GN hr d4 z4
  obtain ⟨t6, d6, z6⟩ := law_turn (H0 := H) (Pt := Pt) T.toTxtB TL FN bN GN FS bS GS hr d5 z5
  clear z1 z2 z3 z4 z5 d1 d2 d3 d4 d5
  have hr1 : Room 1 (callerA.deeper (envOfC "law" (defScope sLaw) s.heap.objs.size f (.ref c))) := hr.mono (by decide)
  refine ⟨_, pss_cons (ps_set (i := 1) scL.nd rfl (by first | exact Or.inl rfl | exact Or.inr rfl) (pe_call GBg hr1 rfl TL.begun FBg.kp bBg .nil pass0 (pa_cons (pv 0) pa_nil)))
    (pss_cons (ps_for PassesOwn.never rfl (pi_range1 (by rfl) T.range (pa_cons (pe_op op_add pe_int (pe_callB (call_min2 rfl) (by rfl) TL.min (by decide +kernel) (pa_cons (pe_callB call_len_seq (by rfl) T.len PySem.boot_len (pa_cons (pv 0) pa_nil)) (pa_cons pe_int pa_nil)))) pa_nil)) (pg_name (i := 2) scL.nd rfl (by first | exact Or.inl rfl | exact Or.inr rfl)) d6)
    (pss_one (ps_ret pe_bl))), ?_⟩
  refine ⟨_, rfl, a, ns, rfl, hS, hlen, fun m l H1 hm hl s1 M1 => ?_⟩
  have lenM : (ns.map V.int).length = ns.length := List.length_map ..
  refine ⟨_, rfl, a, _, rfl, .inl (s1.seq hS), _, _, rfl, _, _, rfl, rfl, _, rfl, (by rw [lenM]; split <;> omega), (by rw [lenM]; split <;> omega), ?_⟩
  generalize hj : (4 + if (12 : Int) < ((ns.map V.int).length : Nat) then (12 : Int) else ((ns.map V.int).length : Nat)) = j
  have hj16 : j ≤ 16 := by rw [← hj]; split <;> omega
  have tb1 : Tabs [(Pt, lamQ)] H1 := fun p hp => by
    rw [List.mem_singleton.mp hp]
    exact TabS.nil (s1 _ _ hT)
  refine for_range (lo := 0) (n := j.toNat) (fun i σ H2 => ∃ (v2 v3 v4 v5 v6 v7 v8 v9 v10 v11 : Option V) (l n : Nat), σ = [some (.ref a), some (.ref m), v2, v3, v4, v5, v6, v7, v8, v9, v10, v11] ∧ Mch H2 m l n ∧ n ≤ 500 * i ∧ Tabs [(Pt, lamQ)] H2)
    ⟨_, _, _, _, _, _, _, _, _, _, l, 0, rfl, M1, Nat.le_refl _, tb1⟩ ?_ ?_
  · rintro i σ H2 hi ⟨v2, v3, v4, v5, v6, v7, v8, v9, v10, v11, l2, n, rfl, M2, hn, tb2⟩
    exact z6 _ H2 a m l2 n _ _ _ _ _ _ _ _ _ _ M2 (by omega) tb2 fun v3 v4 v5 v6 v7 v8 v9 v10 v11 l' H3 M3 t3 => ⟨_, v3, v4, v5, v6, v7, v8, v9, v10, v11, l', n + 500, rfl, M3, by omega, t3⟩
  · rintro σ H2 _
    rfl
end

/-! ### the end: what the top has written -/
set_option maxHeartbeats 16000000 in
theorem all_mk {P : Program} {w : World} {K : PySem.W.Frag} {h : Heap} {mg : Str → Option Value} {fa C fE pI pN pS pD pA pG fBg fN fM fSe fO fB fW fA fDu fTo fL c Pt : Addr} (X : K.In h) (G : h.Ns mainGlobals mg) (hfa : mg "law" = some (.ref fa))
    {nmC qC : Str} {NC : Addr} {bsC bmC : List Value} {snC : List Str} {subC : List Value} {abC : Bool} {colC : Option Bool} {ddC : Option Addr} {m0C m1C m2C m3C m5C : Option Value}
    {odiC aniC : Option Addr} {sliC : Array (Option Value)} {ociC kViC dciC pmiC cdiC ctiC : Value}
    {odpI anpI : Option Addr} {slpI : Array (Option Value)} {ocpI kVpI dcpI pmpI cdpI ctpI : Value}
    {odpN anpN : Option Addr} {slpN : Array (Option Value)} {ocpN kVpN dcpN pmpN cdpN ctpN : Value}
    {odpS anpS : Option Addr} {slpS : Array (Option Value)} {ocpS kVpS dcpS pmpS cdpS ctpS : Value}
    {odpD anpD : Option Addr} {slpD : Array (Option Value)} {ocpD kVpD dcpD pmpD cdpD ctpD : Value}
    {odpA anpA : Option Addr} {slpA : Array (Option Value)} {ocpA kVpA dcpA pmpA cdpA ctpA : Value}
    {odpG anpG : Option Addr} {slpG : Array (Option Value)} {ocpG kVpG dcpG pmpG cdpG ctpG : Value}
    {odBg anBg : Option Addr} {slBg : Array (Option Value)} {ocBg kVBg dcBg pmBg cdBg ctBg : Value}
    {odN anN : Option Addr} {slN : Array (Option Value)} {ocN kVN dcN pmN cdN ctN : Value}
    {odM anM : Option Addr} {slM : Array (Option Value)} {ocM kVM dcM pmM cdM ctM : Value}
    {odSe anSe : Option Addr} {slSe : Array (Option Value)} {ocSe kVSe dcSe pmSe cdSe ctSe : Value}
    {odO anO : Option Addr} {slO : Array (Option Value)} {ocO kVO dcO pmO cdO ctO : Value}
    {odB anB : Option Addr} {slB : Array (Option Value)} {ocB kVB dcB pmB cdB ctB : Value}
    {odW anW : Option Addr} {slW : Array (Option Value)} {ocW kVW dcW pmW cdW ctW : Value}
    {odA anA : Option Addr} {slA : Array (Option Value)} {ocA kVA dcA pmA cdA ctA : Value}
    {odDu anDu : Option Addr} {slDu : Array (Option Value)} {ocDu kVDu dcDu pmDu cdDu ctDu : Value}
    {odTo anTo : Option Addr} {slTo : Array (Option Value)} {ocTo kVTo dcTo pmTo cdTo ctTo : Value}
    {odL anL : Option Addr} {slL : Array (Option Value)} {ocL kVL dcL pmL cdL ctL : Value}
    {tMOST_SETTINGS : Tok}
    {tMOST_VALUE : Tok}
    {tMOST_STANDINGS : Tok}
    {tLONGEST_NAME : Tok}
    (AC : PySem.W.nsIn K mainGlobals "BadSettings" = some (some (.ref C)))
    (XC : K.lookup C = some (excClassObj nmC qC C NC bsC bmC true snC subC abC colC ddC m0C m1C m2C m3C m5C "ValueError.__new__"))
    (RC : PySem.HandSPX.refsVE bmC = true)
    (SC : PySem.W.findIn K (.ref C) "__setattr__" = some (some (.builtin "object.__setattr__")))
    (EC : PySem.W.subIn K (.ref C) (.type "BaseException") = some true)
    (TC : PySem.W.typeIn K (.ref C) = some (.type "type"))
    (KC : PySem.W.keepIn K (.ref C) = true)
    (IC : PySem.W.findIn K (.ref C) "__init__" = some (some (.ref fE)))
    (YC : PySem.W.typeIn K (.ref fE) = some (.type "function"))
    (NC : PySem.W.findIn K (.ref C) "place" = some none)
    (GC : PySem.W.findIn K (.ref C) "__getattribute__" = some (some (.builtin "BaseException.__getattribute__")))
    (HC : PySem.W.findIn K (.ref C) "__getattr__" = some none)
    (DC : PySem.W.hasDictIn K C = true)
    (MC : PySem.W.exmOne K (.ref C) (.ref C) = some true)
    (liC : K.lookup fE = some ⟨ociC, odiC, .func (PySem.W.fnOf "__init__" "BadSettings.__init__" (defArgs sIni) (defBody sIni) (defScope sIni) .none kViC dciC pmiC aniC cdiC ctiC), sliC⟩)
    (diC : PySem.W.codeIn K cdiC "BadSettings.__init__" = true)
    (eiC : PySem.W.keepIn K (.ref fE) = true)
    (apI : PySem.W.nsIn K mainGlobals "is_int" = some (some (.ref pI)))
    (lpI : K.lookup pI = some ⟨ocpI, odpI, .func (PySem.W.fnOf "is_int" "is_int" (defArgs sPInt) (defBody sPInt) (defScope sPInt) .none kVpI dcpI pmpI anpI cdpI ctpI), slpI⟩)
    (dpI : PySem.W.codeIn K cdpI "is_int" = true)
    (epI : PySem.W.keepIn K (.ref pI) = true)
    (apN : PySem.W.nsIn K mainGlobals "is_name" = some (some (.ref pN)))
    (lpN : K.lookup pN = some ⟨ocpN, odpN, .func (PySem.W.fnOf "is_name" "is_name" (defArgs sPName) (defBody sPName) (defScope sPName) .none kVpN dcpN pmpN anpN cdpN ctpN), slpN⟩)
    (dpN : PySem.W.codeIn K cdpN "is_name" = true)
    (epN : PySem.W.keepIn K (.ref pN) = true)
    (apS : PySem.W.nsIn K mainGlobals "is_setting" = some (some (.ref pS)))
    (lpS : K.lookup pS = some ⟨ocpS, odpS, .func (PySem.W.fnOf "is_setting" "is_setting" (defArgs sPSet) (defBody sPSet) (defScope sPSet) .none kVpS dcpS pmpS anpS cdpS ctpS), slpS⟩)
    (dpS : PySem.W.codeIn K cdpS "is_setting" = true)
    (epS : PySem.W.keepIn K (.ref pS) = true)
    (apD : PySem.W.nsIn K mainGlobals "need_settings" = some (some (.ref pD)))
    (lpD : K.lookup pD = some ⟨ocpD, odpD, .func (PySem.W.fnOf "need_settings" "need_settings" (defArgs sNeed) (defBody sNeed) (defScope sNeed) .none kVpD dcpD pmpD anpD cdpD ctpD), slpD⟩)
    (dpD : PySem.W.codeIn K cdpD "need_settings" = true)
    (epD : PySem.W.keepIn K (.ref pD) = true)
    (apA : PySem.W.nsIn K mainGlobals "names_of" = some (some (.ref pA)))
    (lpA : K.lookup pA = some ⟨ocpA, odpA, .func (PySem.W.fnOf "names_of" "names_of" (defArgs sPNames) (defBody sPNames) (defScope sPNames) .none kVpA dcpA pmpA anpA cdpA ctpA), slpA⟩)
    (dpA : PySem.W.codeIn K cdpA "names_of" = true)
    (epA : PySem.W.keepIn K (.ref pA) = true)
    (apG : PySem.W.nsIn K mainGlobals "grid_of" = some (some (.ref pG)))
    (lpG : K.lookup pG = some ⟨ocpG, odpG, .func (PySem.W.fnOf "grid_of" "grid_of" (defArgs sPGrid) (defBody sPGrid) (defScope sPGrid) .none kVpG dcpG pmpG anpG cdpG ctpG), slpG⟩)
    (dpG : PySem.W.codeIn K cdpG "grid_of" = true)
    (epG : PySem.W.keepIn K (.ref pG) = true)
    (aBg : PySem.W.nsIn K mainGlobals "_law_begun" = some (some (.ref fBg)))
    (lBg : K.lookup fBg = some ⟨ocBg, odBg, .func (PySem.W.fnOf "_law_begun" "_law_begun" (defArgs sBegun) (defBody sBegun) (defScope sBegun) .none kVBg dcBg pmBg anBg cdBg ctBg), slBg⟩)
    (dBg : PySem.W.codeIn K cdBg "_law_begun" = true)
    (eBg : PySem.W.keepIn K (.ref fBg) = true)
    (aN : PySem.W.nsIn K mainGlobals "_law_next" = some (some (.ref fN)))
    (lN : K.lookup fN = some ⟨ocN, odN, .func (PySem.W.fnOf "_law_next" "_law_next" (defArgs sNext) (defBody sNext) (defScope sNext) .none kVN dcN pmN anN cdN ctN), slN⟩)
    (dN : PySem.W.codeIn K cdN "_law_next" = true)
    (eN : PySem.W.keepIn K (.ref fN) = true)
    (aM : PySem.W.nsIn K mainGlobals "_law_names" = some (some (.ref fM)))
    (lM : K.lookup fM = some ⟨ocM, odM, .func (PySem.W.fnOf "_law_names" "_law_names" (defArgs sNames) (defBody sNames) (defScope sNames) .none kVM dcM pmM anM cdM ctM), slM⟩)
    (dM : PySem.W.codeIn K cdM "_law_names" = true)
    (eM : PySem.W.keepIn K (.ref fM) = true)
    (aSe : PySem.W.nsIn K mainGlobals "_law_settings" = some (some (.ref fSe)))
    (lSe : K.lookup fSe = some ⟨ocSe, odSe, .func (PySem.W.fnOf "_law_settings" "_law_settings" (defArgs sSettings) (defBody sSettings) (defScope sSettings) .none kVSe dcSe pmSe anSe cdSe ctSe), slSe⟩)
    (dSe : PySem.W.codeIn K cdSe "_law_settings" = true)
    (eSe : PySem.W.keepIn K (.ref fSe) = true)
    (aO : PySem.W.nsIn K mainGlobals "_law_odd" = some (some (.ref fO)))
    (lO : K.lookup fO = some ⟨ocO, odO, .func (PySem.W.fnOf "_law_odd" "_law_odd" (defArgs sOdd) (defBody sOdd) (defScope sOdd) .none kVO dcO pmO anO cdO ctO), slO⟩)
    (dO : PySem.W.codeIn K cdO "_law_odd" = true)
    (eO : PySem.W.keepIn K (.ref fO) = true)
    (aB : PySem.W.nsIn K mainGlobals "_law_bent" = some (some (.ref fB)))
    (lB : K.lookup fB = some ⟨ocB, odB, .func (PySem.W.fnOf "_law_bent" "_law_bent" (defArgs sBent) (defBody sBent) (defScope sBent) .none kVB dcB pmB anB cdB ctB), slB⟩)
    (dB : PySem.W.codeIn K cdB "_law_bent" = true)
    (eB : PySem.W.keepIn K (.ref fB) = true)
    (aW : PySem.W.nsIn K mainGlobals "_law_is_whole" = some (some (.ref fW)))
    (lW : K.lookup fW = some ⟨ocW, odW, .func (PySem.W.fnOf "_law_is_whole" "_law_is_whole" (defArgs sIsWhole) (defBody sIsWhole) (defScope sIsWhole) .none kVW dcW pmW anW cdW ctW), slW⟩)
    (dW : PySem.W.codeIn K cdW "_law_is_whole" = true)
    (eW : PySem.W.keepIn K (.ref fW) = true)
    (aA : PySem.W.nsIn K mainGlobals "_law_is_name" = some (some (.ref fA)))
    (lA : K.lookup fA = some ⟨ocA, odA, .func (PySem.W.fnOf "_law_is_name" "_law_is_name" (defArgs sIsName) (defBody sIsName) (defScope sIsName) .none kVA dcA pmA anA cdA ctA), slA⟩)
    (dA : PySem.W.codeIn K cdA "_law_is_name" = true)
    (eA : PySem.W.keepIn K (.ref fA) = true)
    (aDu : PySem.W.nsIn K mainGlobals "_law_due" = some (some (.ref fDu)))
    (lDu : K.lookup fDu = some ⟨ocDu, odDu, .func (PySem.W.fnOf "_law_due" "_law_due" (defArgs sDue) (defBody sDue) (defScope sDue) .none kVDu dcDu pmDu anDu cdDu ctDu), slDu⟩)
    (dDu : PySem.W.codeIn K cdDu "_law_due" = true)
    (eDu : PySem.W.keepIn K (.ref fDu) = true)
    (aTo : PySem.W.nsIn K mainGlobals "_law_told" = some (some (.ref fTo)))
    (lTo : K.lookup fTo = some ⟨ocTo, odTo, .func (PySem.W.fnOf "_law_told" "_law_told" (defArgs sTold) (defBody sTold) (defScope sTold) .none kVTo dcTo pmTo anTo cdTo ctTo), slTo⟩)
    (dTo : PySem.W.codeIn K cdTo "_law_told" = true)
    (eTo : PySem.W.keepIn K (.ref fTo) = true)
    (aL : PySem.W.nsIn K mainGlobals "law" = some (some (.ref fL)))
    (lL : K.lookup fL = some ⟨ocL, odL, .func (PySem.W.fnOf "law" "law" (defArgs sLaw) (defBody sLaw) (defScope sLaw) .none kVL dcL pmL anL cdL ctL), slL⟩)
    (dL : PySem.W.codeIn K cdL "law" = true)
    (eL : PySem.W.keepIn K (.ref fL) = true)
    (cMOST_SETTINGS : PySem.W.nsIn K mainGlobals "MOST_SETTINGS" = some (some (.int 3 tMOST_SETTINGS)))
    (cMOST_VALUE : PySem.W.nsIn K mainGlobals "MOST_VALUE" = some (some (.int 3 tMOST_VALUE)))
    (cMOST_STANDINGS : PySem.W.nsIn K mainGlobals "MOST_STANDINGS" = some (some (.int 12 tMOST_STANDINGS)))
    (cLONGEST_NAME : PySem.W.nsIn K mainGlobals "LONGEST_NAME" = some (some (.int 8 tLONGEST_NAME)))
    (z_list : PySem.W.nsIn K mainGlobals "list" = some none)
    (z_len : PySem.W.nsIn K mainGlobals "len" = some none)
    (z_int : PySem.W.nsIn K mainGlobals "int" = some none)
    (z_range : PySem.W.nsIn K mainGlobals "range" = some none)
    (z_tuple : PySem.W.nsIn K mainGlobals "tuple" = some none)
    (z_zip : PySem.W.nsIn K mainGlobals "zip" = some none)
    (z_isinstance : PySem.W.nsIn K mainGlobals "isinstance" = some none)
    (z_str : PySem.W.nsIn K mainGlobals "str" = some none)
    (z_bool : PySem.W.nsIn K mainGlobals "bool" = some none)
    (z_enumerate : PySem.W.nsIn K mainGlobals "enumerate" = some none)
    (z_all : PySem.W.nsIn K mainGlobals "all" = some none)
    (z_repr : PySem.W.nsIn K mainGlobals "repr" = some none)
    (z_min : PySem.W.nsIn K mainGlobals "min" = some none)
    (hc : cdL = .ref c) : LawRunT P w K mg fa c Pt := by
  have e := hfa.symm.trans (PySem.W.mg_of X G aL)
  cases e
  have FiC := fun_mk (st := sIni) liC diC eiC
  have biC := FiC.binds (ps := ["self", "place"]) fun _ _ _ _ _ _ us hl => match us, hl with | [_, _], _ => rfl
  have OXC : OexC K C := ⟨⟨_, _, _, _, _, _, _, _, _, _, _, _, _, _, _, XC, RC⟩, SC, EC, TC, KC⟩
  have ECC : ErrC K C fE := ⟨OXC, IC, YC, NC⟩
  have XFC : XfC K C := ⟨GC, HC, EC, DC⟩
  have FpI := fun_mk (st := sPInt) lpI dpI epI
  have bpI := FpI.binds (ps := ["thing"]) fun _ _ _ _ _ _ us hl => match us, hl with | [_], _ => rfl
  have FpN := fun_mk (st := sPName) lpN dpN epN
  have bpN := FpN.binds (ps := ["thing"]) fun _ _ _ _ _ _ us hl => match us, hl with | [_], _ => rfl
  have FpS := fun_mk (st := sPSet) lpS dpS epS
  have bpS := FpS.binds (ps := ["thing"]) fun _ _ _ _ _ _ us hl => match us, hl with | [_], _ => rfl
  have FpD := fun_mk (st := sNeed) lpD dpD epD
  have bpD := FpD.binds (ps := ["thing"]) fun _ _ _ _ _ _ us hl => match us, hl with | [_], _ => rfl
  have FpA := fun_mk (st := sPNames) lpA dpA epA
  have bpA := FpA.binds (ps := ["settings"]) fun _ _ _ _ _ _ us hl => match us, hl with | [_], _ => rfl
  have FpG := fun_mk (st := sPGrid) lpG dpG epG
  have bpG := FpG.binds (ps := ["settings"]) fun _ _ _ _ _ _ us hl => match us, hl with | [_], _ => rfl
  have FBg := fun_mk (st := sBegun) lBg dBg eBg
  have bBg := FBg.binds (ps := ["script"]) fun _ _ _ _ _ _ us hl => match us, hl with | [_], _ => rfl
  have FN := fun_mk (st := sNext) lN dN eN
  have bN := FN.binds (ps := ["m", "many"]) fun _ _ _ _ _ _ us hl => match us, hl with | [_, _], _ => rfl
  have FM := fun_mk (st := sNames) lM dM eM
  have bM := FM.binds (ps := ["m", "many"]) fun _ _ _ _ _ _ us hl => match us, hl with | [_, _], _ => rfl
  have FSe := fun_mk (st := sSettings) lSe dSe eSe
  have bSe := FSe.binds (ps := ["m"]) fun _ _ _ _ _ _ us hl => match us, hl with | [_], _ => rfl
  have FO := fun_mk (st := sOdd) lO dO eO
  have bO := FO.binds (ps := ["m"]) fun _ _ _ _ _ _ us hl => match us, hl with | [_], _ => rfl
  have FB := fun_mk (st := sBent) lB dB eB
  have bB := FB.binds (ps := ["m", "thing"]) fun _ _ _ _ _ _ us hl => match us, hl with | [_, _], _ => rfl
  have FW := fun_mk (st := sIsWhole) lW dW eW
  have bW := FW.binds (ps := ["thing", "least", "most"]) fun _ _ _ _ _ _ us hl => match us, hl with | [_, _, _], _ => rfl
  have FA := fun_mk (st := sIsName) lA dA eA
  have bA := FA.binds (ps := ["thing"]) fun _ _ _ _ _ _ us hl => match us, hl with | [_], _ => rfl
  have FDu := fun_mk (st := sDue) lDu dDu eDu
  have bDu := FDu.binds (ps := ["thing"]) fun _ _ _ _ _ _ us hl => match us, hl with | [_], _ => rfl
  have FTo := fun_mk (st := sTold) lTo dTo eTo
  have bTo := FTo.binds (ps := ["call"]) fun _ _ _ _ _ _ us hl => match us, hl with | [_], _ => rfl
  have FL := fun_mk (st := sLaw) lL dL eL
  have TD : TxtD mg fN fM fO fB fW fA := ⟨⟨⟨⟨⟨PySem.W.mg_none_of X G z_list, PySem.W.mg_none_of X G z_len, PySem.W.mg_none_of X G z_int⟩, PySem.W.mg_of X G aN, PySem.W.mg_none_of X G z_range, PySem.W.mg_none_of X G z_tuple, PySem.W.mg_none_of X G z_zip⟩, PySem.W.mg_of X G aM⟩, PySem.W.mg_of X G aO, PySem.W.mg_of X G aB, PySem.W.mg_none_of X G z_isinstance, PySem.W.mg_none_of X G z_str, PySem.W.mg_none_of X G z_bool⟩, PySem.W.mg_none_of X G z_enumerate, PySem.W.mg_of X G aW, PySem.W.mg_of X G aA⟩
  have TP : TxtP mg pI pN pS pA pG := ⟨PySem.W.mg_none_of X G z_isinstance, PySem.W.mg_none_of X G z_int, PySem.W.mg_none_of X G z_bool, PySem.W.mg_none_of X G z_str, PySem.W.mg_none_of X G z_tuple, PySem.W.mg_none_of X G z_len, PySem.W.mg_none_of X G z_all, PySem.W.mg_none_of X G z_range, PySem.W.mg_none_of X G z_enumerate, ⟨_, PySem.W.mg_of X G cMOST_SETTINGS⟩, ⟨_, PySem.W.mg_of X G cMOST_VALUE⟩, ⟨_, PySem.W.mg_of X G cMOST_STANDINGS⟩, ⟨_, PySem.W.mg_of X G cLONGEST_NAME⟩, PySem.W.mg_of X G apI, PySem.W.mg_of X G apN, PySem.W.mg_of X G apS, PySem.W.mg_of X G apA, PySem.W.mg_of X G apG⟩
  have TL : TL1 mg fBg fSe fDu fTo pD C := ⟨PySem.W.mg_of X G aBg, PySem.W.mg_of X G aSe, PySem.W.mg_of X G aDu, PySem.W.mg_of X G aTo, PySem.W.mg_of X G apD, PySem.W.mg_of X G AC, PySem.W.mg_none_of X G z_repr, PySem.W.mg_none_of X G z_min⟩
  exact ok_law TD TP TL FL hc (fun s v => .of_eq rfl) FBg bBg FN bN FM bM FSe bSe FO bO FB bB FW bW FA bA FDu bDu FTo bTo FpI bpI FpN bpN FpS bpS FpD bpD FpA bpA FpG bpG FiC biC (PySem.W.mg_of X G AC) ECC MC XFC NC
end Ms
open PySem PySem.W PyProof.Rows
set_option maxRecDepth 100000 in
set_option maxHeartbeats 0 in
theorem PySem.Challenge.cw_midswitch_k01_settings_checked_holds : PySem.Challenge.rw_midswitch_k01_settings_checked.Holds := by
  w_on; o_law; k_head; (case hw => w_witness2)
  k_fill
  refine' Ms.walk_tabled (l := PySem.Challenge.rw_midswitch_k01_settings_checked) rfl rfl (fun w h Y => PySem.W.km_in_of Y) (fun w h Y => PySem.W.km_tabs_of Y _ (List.mem_singleton.mpr rfl)) ?tabHd ?tabNo ?R
  case R =>
    intro w mg fa h KX G hmg
    refine' Ms.all_mk KX G hmg ?AC ?XC ?RC ?SC ?EC ?TC ?KC ?IC ?YC ?NC ?GC ?HC ?DC ?MC ?liC ?diC ?eiC ?apI ?lpI ?dpI ?epI ?apN ?lpN ?dpN ?epN ?apS ?lpS ?dpS ?epS ?apD ?lpD ?dpD ?epD ?apA ?lpA ?dpA ?epA ?apG ?lpG ?dpG ?epG ?aBg ?lBg ?dBg ?eBg ?aN ?lN ?dN ?eN ?aM ?lM ?dM ?eM ?aSe ?lSe ?dSe ?eSe ?aO ?lO ?dO ?eO ?aB ?lB ?dB ?eB ?aW ?lW ?dW ?eW ?aA ?lA ?dA ?eA ?aDu ?lDu ?dDu ?eDu ?aTo ?lTo ?dTo ?eTo ?aL ?lL ?dL ?eL ?cMOST_SETTINGS ?cMOST_VALUE ?cMOST_STANDINGS ?cLONGEST_NAME ?z_list ?z_len ?z_int ?z_range ?z_tuple ?z_zip ?z_isinstance ?z_str ?z_bool ?z_enumerate ?z_all ?z_repr ?z_min ?eCode
    (case AC => k_is)
    (case XC => k_is)
    (case RC => rfl)
    (case SC => k_is)
    (case EC => k_is)
    (case TC => k_is)
    (case KC => k_is)
    (case IC => k_is)
    (case YC => k_is)
    (case NC => k_is)
    (case GC => k_is)
    (case HC => k_is)
    (case DC => k_is)
    (case MC => kernel_rfl)
    (case liC => k_is)
    (case diC => k_is)
    (case eiC => k_is)
    (case apI => k_is)
    (case lpI => k_is)
    (case dpI => k_is)
    (case epI => k_is)
    (case apN => k_is)
    (case lpN => k_is)
    (case dpN => k_is)
    (case epN => k_is)
    (case apS => k_is)
    (case lpS => k_is)
    (case dpS => k_is)
    (case epS => k_is)
    (case apD => k_is)
    (case lpD => k_is)
    (case dpD => k_is)
    (case epD => k_is)
    (case apA => k_is)
    (case lpA => k_is)
    (case dpA => k_is)
    (case epA => k_is)
    (case apG => k_is)
    (case lpG => k_is)
    (case dpG => k_is)
    (case epG => k_is)
    (case aBg => k_is)
    (case lBg => k_is)
    (case dBg => k_is)
    (case eBg => k_is)
    (case aN => k_is)
    (case lN => k_is)
    (case dN => k_is)
    (case eN => k_is)
    (case aM => k_is)
    (case lM => k_is)
    (case dM => k_is)
    (case eM => k_is)
    (case aSe => k_is)
    (case lSe => k_is)
    (case dSe => k_is)
    (case eSe => k_is)
    (case aO => k_is)
    (case lO => k_is)
    (case dO => k_is)
    (case eO => k_is)
    (case aB => k_is)
    (case lB => k_is)
    (case dB => k_is)
    (case eB => k_is)
    (case aW => k_is)
    (case lW => k_is)
    (case dW => k_is)
    (case eW => k_is)
    (case aA => k_is)
    (case lA => k_is)
    (case dA => k_is)
    (case eA => k_is)
    (case aDu => k_is)
    (case lDu => k_is)
    (case dDu => k_is)
    (case eDu => k_is)
    (case aTo => k_is)
    (case lTo => k_is)
    (case dTo => k_is)
    (case eTo => k_is)
    (case aL => k_is)
    (case lL => k_is)
    (case dL => k_is)
    (case eL => k_is)
    (case cMOST_SETTINGS => k_is)
    (case cMOST_VALUE => k_is)
    (case cMOST_STANDINGS => k_is)
    (case cLONGEST_NAME => k_is)
    (case z_list => k_is)
    (case z_len => k_is)
    (case z_int => k_is)
    (case z_range => k_is)
    (case z_tuple => k_is)
    (case z_zip => k_is)
    (case z_isinstance => k_is)
    (case z_str => k_is)
    (case z_bool => k_is)
    (case z_enumerate => k_is)
    (case z_all => k_is)
    (case z_repr => k_is)
    (case z_min => k_is)
    (case eCode => rfl)
  case tabHd => intro w; kernel_rfl
  case tabNo => intro w; kernel_rfl
